/- Numbers as tokens: the mathematics. -/
import Derived.Test.YtedbcmagjbgbjaaGreatDoorTkL
import Derived.Test.YtedbcmagjbgbjaaGreatDoorDecBack
namespace Go.Proofs.YtedbcmagjbgbjaaGreatDoor.tk
open Go.ChangeShapes Go.WideShapes Go.ChangeAt Go.RowKit Go.Maps
open Go.Proofs.YtedbcmagjbgbjaaGreatDoor.kp Go.Proofs.YtedbcmagjbgbjaaGreatDoor.num Go.Proofs.YtedbcmagjbgbjaaGreatDoor.dec
set_option linter.unusedVariables false
theorem dig_b : ∀ n : Fin 256, isD (UInt8.ofNat n.val) = true → fresh (UInt8.ofNat n.val) = true ∧ wd (UInt8.ofNat n.val) = true ∧ sm (UInt8.ofNat n.val) = false ∧ gr (UInt8.ofNat n.val) = false ∧ UInt8.ofNat n.val ≠ 95 ∧ dg (UInt8.ofNat n.val) = true ∧ sg (UInt8.ofNat n.val) = false ∧ UInt8.ofNat n.val ≠ 99 := by decide +kernel
theorem dig (c : UInt8) (h : isD c = true) : fresh c = true ∧ wd c = true ∧ sm c = false ∧ gr c = false ∧ c ≠ 95 ∧ dg c = true ∧ sg c = false ∧ c ≠ 99 :=
  byte_all (P := fun c => isD c = true → fresh c = true ∧ wd c = true ∧ sm c = false ∧ gr c = false ∧ c ≠ 95 ∧ dg c = true ∧ sg c = false ∧ c ≠ 99) dig_b c h
theorem hex_b : ∀ n : Fin 256, isH (UInt8.ofNat n.val) = true → wd (UInt8.ofNat n.val) = true := by decide +kernel
theorem hex_wd (c : UInt8) (h : isH c = true) : wd c = true := byte_all (P := fun c => isH c = true → wd c = true) hex_b c h
/-- a word that begins with a digit -/
theorem lex_dig {N f : Nat} {la : Int × List UInt8} {c : UInt8} {r : List UInt8} (hc : isD c = true) (hr : r.all wd = true) {k : Int} {t : List UInt8} {n : Int} {re im : Nat} (hn : nmb la (c :: r) [] = .ok k t n re im []) :
    lex N (f + 1) la (c :: r) = cons1 ⟨k, t, n, re, im, N - (c :: r).length⟩ (lex N f (k, t) []) := by
  obtain ⟨h1, h2, h3, h4, h5, h6, h7, -⟩ := dig c hc
  refine lex_one (sk_fresh _ _ h1) ?_
  rw [if_pos rfl]
  unfold tok
  have e := take_all (a := r) (r := []) hr (by intro c hc; cases hc)
  rw [List.append_nil] at e
  rw [if_neg (by rw [h3]; decide), if_neg (by rw [h4]; exact fun h => h.elim (by decide) h5), if_pos h6, e.1, e.2]
  exact hn
theorem dd_len (u : Nat) (h : u ≤ 9223372036854775808) : (Lib.decDigits u).length ≤ 20 := by
  by_cases h0 : u = 0
  · subst h0; rw [dd_small 0 (by decide)]; decide
  · have h2 := itoa_len (-(u : Int)) (by omega)
    unfold Lib.itoa at h2
    rw [if_pos (by omega)] at h2
    simp only [List.length_cons, Int.natAbs_neg, Int.natAbs_natCast] at h2
    omega
theorem dd_dve (u : Nat) : dve (Lib.decDigits u) ≠ 0 := by
  have h := dd_all u
  unfold dve
  rw [if_neg]
  · decide
  · intro hc
    unfold isC at hc
    simp only [Bool.and_eq_true, decide_eq_true_eq] at hc
    cases hl : Lib.decDigits u with
    | nil => rw [hl] at hc; exact absurd hc.2 (by simp)
    | cons x r =>
      cases r with
      | nil => rw [hl] at hc; exact absurd hc.2 (by simp)
      | cons y r =>
        rw [hl] at hc h
        simp only [List.all_cons, Bool.and_eq_true] at h
        have := (dig y h.2.1).2.2.2.2.2.2.2
        simp at hc
        exact this hc.2.2
theorem least_val : val 0 leastL = 9223372036854775808 := by decide +kernel
theorem least_dd : Lib.decDigits 9223372036854775808 = leastL := by
  have h : ∀ k, k ≤ 0 → True := fun _ _ => trivial
  rw [dd_big _ (by decide), dd_big _ (by decide), dd_big _ (by decide), dd_big _ (by decide), dd_big _ (by decide), dd_big _ (by decide), dd_big _ (by decide), dd_big _ (by decide), dd_big _ (by decide), dd_big _ (by decide), dd_big _ (by decide), dd_big _ (by decide), dd_big _ (by decide), dd_big _ (by decide), dd_big _ (by decide), dd_big _ (by decide), dd_big _ (by decide), dd_big _ (by decide), dd_small _ (by decide)]
  decide
theorem dd_pv (u : Nat) (h : u ≤ 9223372036854775807) : pv (Lib.decDigits u) = (u : Int) ∧ pe (Lib.decDigits u) = 0 := by
  obtain ⟨h1, h2⟩ := dec.ok_back (u : Int)
  have e : Lib.itoa (u : Int) = Lib.decDigits u := by unfold Lib.itoa; rw [if_neg (by omega)]; simp
  rw [e] at h1 h2
  have hf : Fits (u : Int) := by unfold Fits; omega
  unfold pv pe; rw [if_pos h1, if_pos h1, h2]; exact ⟨rv_in hf, re_in hf⟩
/-- below 0: what stands behind the sign -/
theorem nmb_neg (u : Nat) (h : u ≤ 9223372036854775808) : ∃ x : Int, nmb (1, [45]) (Lib.decDigits u) [] = .ok 4 [] x 0 0 [] ∧ x = wrap64 (u : Int) := by
  by_cases hu : u = 9223372036854775808
  · subst hu
    refine ⟨-9223372036854775808, ?_, by unfold wrap64; omega⟩
    unfold nmb
    rw [if_neg (dd_dve _), least_dd, if_pos ⟨rfl, rfl, rfl⟩]
  · obtain ⟨h1, h2⟩ := dd_pv u (by omega)
    refine ⟨u, ?_, by unfold wrap64; omega⟩
    unfold nmb
    rw [if_neg (dd_dve _), if_neg, if_pos h2, h1]
    rintro ⟨he, -⟩
    have := dd_val u
    rw [he, least_val] at this
    omega
theorem nmb_pos (u : Nat) (h : u ≤ 9223372036854775807) : nmb (0, []) (Lib.decDigits u) [] = .ok 4 [] (u : Int) 0 0 [] := by
  obtain ⟨h1, h2⟩ := dd_pv u h
  unfold nmb
  rw [if_neg (dd_dve _), if_neg (by rintro ⟨-, h, -⟩; exact absurd h (by decide)), if_pos h2, h1]
theorem dd_cons (u : Nat) : ∃ c r, Lib.decDigits u = c :: r ∧ isD c = true ∧ r.all wd = true := by
  obtain ⟨c, r, hr, -⟩ := dd_head u
  have h := dd_all u
  rw [hr] at h
  simp only [List.all_cons, Bool.and_eq_true] at h
  refine ⟨c, r, hr, h.1, ?_⟩
  rw [List.all_eq_true] at *
  intro x hx
  exact (dig x (h.2 x hx)).2.1
theorem num_pos (n : Int) (h0 : 0 ≤ n) (h : n ≤ 9223372036854775807) : allT (Lib.itoa n) = ([⟨4, [], n, 0, 0, 0⟩], 0, 0) := by
  have e : Lib.itoa n = Lib.decDigits n.toNat := by unfold Lib.itoa; rw [if_neg (by omega)]
  have hl := dd_len n.toNat (by omega)
  have hn := nmb_pos n.toNat (by omega)
  obtain ⟨c, r, hr, hc, hw⟩ := dd_cons n.toNat
  rw [e]
  unfold allT
  rw [if_pos (by omega), hr]
  rw [hr] at hn
  rw [lex_dig hc hw hn, List.length_cons, lex_nil0, cons1_ok]
  simp; omega
theorem num_neg (n : Int) (h0 : n < 0) (h : -9223372036854775808 ≤ n) : ∃ q, allT (Lib.itoa n) = ([⟨1, [45], 0, 0, 0, 0⟩, ⟨4, [], wrap64 (-n), 0, 0, q⟩], 0, 0) := by
  have e : Lib.itoa n = 45 :: Lib.decDigits n.natAbs := by unfold Lib.itoa; rw [if_pos h0]
  have hl := dd_len n.natAbs (by omega)
  obtain ⟨x, hn, hx⟩ := nmb_neg n.natAbs (by omega)
  obtain ⟨c, r, hr, hc, hw⟩ := dd_cons n.natAbs
  have hx2 : x = wrap64 (-n) := by rw [hx]; congr 1; omega
  subst hx2
  rw [e]
  unfold allT
  rw [if_pos (by simp; omega), hr]
  rw [hr] at hn
  have h45 : tok (if (45 :: c :: r).length = (45 :: c :: r).length then ((0, []) : Int × List UInt8) else (0, [])) 45 (c :: r) = .ok 1 [45] 0 0 0 (c :: r) := by
    rw [if_pos rfl]; unfold tok
    have e := take_all (p := sg) (a := []) (r := c :: r) rfl (by intro y hy; simp at hy; subst hy; exact (dig _ hc).2.2.2.2.2.2.1)
    rw [List.nil_append] at e
    rw [if_neg (by decide), if_neg (by decide), if_neg (by decide), if_pos (by decide), e.1, e.2, if_neg (by intro h; exact absurd h.1 (by decide))]
    rfl
  rw [lex_one (sk_fresh (c :: r) _ (by decide)) h45]
  rw [show (45 :: c :: r).length = (r.length + 1) + 1 by simp, lex_dig hc hw hn, lex_nil0, cons1_ok, cons1_ok]
  refine ⟨1, ?_⟩
  have e1 : r.length + 1 + 1 - (r.length + 1 + 1) = 0 := by omega
  have e2 : r.length + 1 + 1 - (c :: r).length = 1 := by simp
  have e3 : (45 :: c :: r).length = r.length + 1 + 1 := by simp
  simp only [e1, e2]
theorem cpx_all (p q : Nat) (hp : p < 18446744073709551616) (hq : q < 18446744073709551616) : allT (cpx p q) = ([⟨5, [], 0, p, q, 0⟩], 0, 0) := by
  have hl : (cpx p q).length = 34 := by simp [cpx, hex16_length]
  obtain ⟨h1, h2, h3⟩ := back_cpx p q hp hq
  have hc : cpx p q = 48 :: (99 :: (hex16 p ++ hex16 q)) := by simp [cpx]
  have hw : (99 :: (hex16 p ++ hex16 q)).all wd = true := by
    rw [List.all_cons, List.all_append]
    have a := allH_hex16 p
    have b := allH_hex16 q
    have e : ∀ l : List UInt8, l.all isH = true → l.all wd = true := fun l h => by
      rw [List.all_eq_true] at *
      exact fun x hx => hex_wd x (h x hx)
    rw [e _ a, e _ b]; decide
  have hn : nmb (0, []) (48 :: (99 :: (hex16 p ++ hex16 q))) [] = .ok 5 [] 0 p q [] := by
    rw [← hc]; unfold nmb; rw [if_pos h3, h1, h2]
  unfold allT
  rw [if_pos (by omega), hl, hc, lex_dig (by decide) hw hn, ← hc, hl, lex_nil0, cons1_ok]
end Go.Proofs.YtedbcmagjbgbjaaGreatDoor.tk
