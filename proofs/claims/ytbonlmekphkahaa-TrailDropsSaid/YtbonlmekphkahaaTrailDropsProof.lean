/- The law TrailDrops holds: for every input its Go function returns true and leaves its arguments as they were. No condition beyond the row's own. -/
import Derived.Test.YtbonlmekphkahaaRows
import Derived.WalkKit
import Derived.ProofKit
import Derived.OpenShut
import Derived.SizedLaws
import Derived.Test.YtbonlmekphkahaaT6
import Derived.Test.YtbonlmekphkahaaRow
import Derived.Test.YtbonlmekphkahaaCls
import Derived.LoopTactic
import Derived.Deep.DeepCutAuto
import Derived.Deep.CutBlock
import Derived.Deep.LoopGhost
namespace Go.Proofs.Ytbonlmekphkahaa.trailDrops
open Go.ChangeShapes Go.WideShapes Go.ChangeAt Go.RowKit
open Go.ChangeMaps (open_string)
open Go.Proofs.Ytbonlmekphkahaa.hp Go.Proofs.Ytbonlmekphkahaa.cel Go.Proofs.Ytbonlmekphkahaa.kp Go.Proofs.Ytbonlmekphkahaa.ob Go.Proofs.Ytbonlmekphkahaa.arg
set_option linter.unusedVariables false
theorem own : ownKnob Try.prog.godebug = none := by kernel_rfl
theorem laidOut : laidOutB Try.prog = true := by kernel_rfl
/-! ### what the closure makes -/
def step (s : List Int × List Wr) (x : Cl) : List Int × List Wr := (sx s.1 x.2.1 x.2.2, tx s.1 s.2 x.2.1)
def sets (s : List Int × List Wr) (a : List Cl) : List Int × List Wr := a.foldl step s
theorem sets_next {s : List Int × List Wr} {a : List Cl} {k : Nat} (hk : k < a.length) : sets s (a.take (k + 1)) = step (sets s (a.take k)) (a.getD k cl0) := by
  unfold sets
  rw [List.take_succ_eq_append_getElem hk, List.foldl_append]
  simp [List.getD, hk]
theorem tx_len (l : List Int) (L : List Wr) (n : Int) : (tx l L n).length ≤ L.length + 1 := by unfold tx; split <;> simp
theorem sets_len (s : List Int × List Wr) (a : List Cl) : (sets s a).2.length ≤ s.2.length + a.length := by
  induction a generalizing s with
  | nil => exact Nat.le_refl _
  | cons x a ih =>
    have := ih (step s x)
    have h2 := tx_len s.1 s.2 x.2.1
    show (sets (step s x) a).2.length ≤ _
    simp only [List.length_cons]
    have h3 : (step s x).2 = tx s.1 s.2 x.2.1 := rfl
    rw [h3] at this; omega
theorem sets_more (s : List Int × List Wr) (a : List Cl) : ∃ M, (sets s a).2 = s.2 ++ M := by
  induction a generalizing s with
  | nil => exact ⟨[], by simp [sets]⟩
  | cons x a ih =>
    obtain ⟨M, h⟩ := ih (step s x)
    have h2 : ∃ M, tx s.1 s.2 x.2.1 = s.2 ++ M := by unfold tx; split; exact ⟨_, rfl⟩; exact ⟨[], by simp⟩
    obtain ⟨M2, h2⟩ := h2
    refine ⟨M2 ++ M, ?_⟩
    show (sets (step s x) a).2 = _
    rw [h]
    have h3 : (step s x).2 = tx s.1 s.2 x.2.1 := rfl
    rw [h3, h2, List.append_assoc]
theorem sets_cells (s : List Int × List Wr) (a : List Cl) : (sets s a).1.length = s.1.length := by
  induction a generalizing s with
  | nil => rfl
  | cons x a ih => show (sets (step s x) a).1.length = _; rw [ih]; exact sx_len _ _ _
/-- is i one of the places -/
def inn (a : List Cl) (i : Nat) : Bool := a.any fun x => decide (x.2.1 = (i : Int))
theorem sx_at (l : List Int) (n c : Int) (i : Nat) (hi : i < l.length) : (sx l n c).getD i 0 = if n = (i : Int) then c else l.getD i 0 := by
  unfold sx
  split
  · rename_i h
    obtain ⟨k, rfl⟩ := Int.eq_ofNat_of_zero_le h.1
    simp only [Int.toNat_natCast, List.getD_eq_getElem?_getD, List.getElem?_set]
    by_cases e : k = i
    · subst e; simp [hi]
    · have h2 : ¬ ((k : Int) = (i : Int)) := by omega
      rw [if_neg h2, if_neg e]
  · rename_i h
    have : ¬ n = (i : Int) := by omega
    simp [this]
theorem ub_snoc (l : List Int) (L : List Wr) (x : Wr) : ub l (L ++ [x]) = ub (sx l x.1 x.2) L := by unfold ub; rw [List.foldr_append]; rfl
/-- what is left where the writes of a are undone on other cells: a's places are as at first, others as they are -/
theorem undone (l0 : List Int) (a : List Cl) : (∀ i, i < l0.length → inn a i = false → (sets (l0, []) a).1.getD i 0 = l0.getD i 0) ∧
    ∀ l2 : List Int, l2.length = l0.length → ∀ i, i < l0.length → (ub l2 (sets (l0, []) a).2).getD i 0 = if inn a i = true then l0.getD i 0 else l2.getD i 0 := by
  obtain ⟨n, hn⟩ : ∃ n, n = a.length := ⟨_, rfl⟩
  induction n generalizing a with
  | zero =>
    obtain rfl : a = [] := List.length_eq_zero_iff.1 hn.symm
    exact ⟨fun i _ _ => rfl, fun l2 _ i _ => by simp [sets, inn, ub]⟩
  | succ n ih =>
    have hne : a ≠ [] := by rintro rfl; simp at hn
    obtain ⟨b, x, rfl⟩ : ∃ b x, a = b ++ [x] := ⟨a.dropLast, a.getLast hne, (List.dropLast_concat_getLast hne).symm⟩
    obtain ⟨h1, h2⟩ := ih b (by simpa using hn)
    have hs : sets (l0, []) (b ++ [x]) = step (sets (l0, []) b) x := by unfold sets; rw [List.foldl_append]; rfl
    have hl := sets_cells (l0, []) b
    generalize sets (l0, []) b = s at *
    have hin : ∀ i, inn (b ++ [x]) i = (inn b i || decide (x.2.1 = (i : Int))) := fun i => by simp [inn]
    rw [hs]
    refine ⟨fun i hi hf => ?_, fun l2 hl2 i hi => ?_⟩
    · rw [hin] at hf
      simp only [Bool.or_eq_false_iff, decide_eq_false_iff_not] at hf
      show (sx s.1 x.2.1 x.2.2).getD i 0 = _
      rw [sx_at _ _ _ _ (by rw [hl]; exact hi), if_neg hf.2, h1 i hi hf.1]
    · show (ub l2 (tx s.1 s.2 x.2.1)).getD i 0 = _
      rw [hin]
      unfold tx
      split
      · rename_i hg
        rw [ub_snoc, h2 _ (by rw [sx_len]; exact hl2) i hi]
        by_cases hb : inn b i = true
        · simp [hb]
        · rw [if_neg hb, sx_at _ _ _ _ (by rw [hl2]; exact hi)]
          simp only [Bool.not_eq_true] at hb
          by_cases e : x.2.1 = (i : Int)
          · have := h1 i hi hb
            rw [if_pos e, e]
            have hgv : gv s.1 (i : Int) = s.1.getD i 0 := by unfold gv; rw [if_pos ⟨by omega, by rw [hl]; simp; omega⟩]; simp
            rw [hgv, this]; simp
          · simp [e, hb]
      · rename_i hg
        rw [h2 l2 hl2 i hi]
        by_cases hb : inn b i = true
        · simp [hb]
        · have e : ¬ x.2.1 = (i : Int) := fun e => hg (by rw [e]; exact decide_eq_true ⟨by omega, by rw [hl]; simp; omega⟩)
          simp [e]
/-! ### in memory: heap and trail (each behind a variable that the closure captures), the other heap -/
abbrev BH (p : Nat) : Obj := .cells #[.pointer (some ⟨p, 0, none⟩)] 23 (0, 0)
abbrev BT (q : Nat) : Obj := .cells #[.pointer (some ⟨q, 0, none⟩)] 25 (0, 0)
abbrev BX (x : Cl) : Obj := .cells #[.int .i64 x.1, .int .i64 x.2.1, .int .u64 x.2.2] 36 (0, 0)
def DO (p q p2 bh bt : Nat) (l : List Int) (L : List Wr) (lk : List Int) : Ob := Tim (Tim (Tim (SO TH TP p q l 60 L) (HO TH p2 lk 60)) (Blk bh (BH p))) (Blk bt (BT q))
section
variable {W wr w2 : World} {p q p2 bh bt b n c : Nat} {a : Option Addr} {t : List Cl} {x : Cl} {l lk : List Int} {L : List Wr} {N : Nat → Prop} {C : Ob}
theorem frD : Fr (DO p q p2 bh bt l L lk) := (((frS frmP).tim frH).tim (Fr.blk _ _)).tim (Fr.blk _ _)
theorem DO.cells (h : DO p q p2 bh bt l L lk wr N) : wr.cell? ⟨bh, 0, none⟩ = some (.pointer (some ⟨p, 0, none⟩)) ∧ wr.cell? ⟨bt, 0, none⟩ = some (.pointer (some ⟨q, 0, none⟩)) := by
  obtain ⟨_, _, ⟨_, _, _, b1, _⟩, b2, _⟩ := h
  exact ⟨(Blk.cell b1 rfl).1, (Blk.cell b2 rfl).1⟩
theorem DO.sys (h : DO p q p2 bh bt l L lk wr N) : ∃ K, hp.Sys TH TP wr p q K l 60 L ∧ ∀ l' L' w', SN TH TP wr p q K l' 60 L' w' → Nx (DO p q p2 bh bt l' L' lk) wr N w' := by
  obtain ⟨K1, a1, u1⟩ := Tim.at1 (Fr.blk _ _) h
  obtain ⟨K2, a2, u2⟩ := Tim.at1 (Fr.blk _ _) a1
  obtain ⟨K3, a3, u3⟩ := Tim.at1 frH a2
  exact ⟨K3, a3, fun l' L' w' n => u1 _ _ (u2 _ _ (u3 (SO TH TP p q l' 60 L') _ n))⟩
theorem DO.two (h : DO p q p2 bh bt l L lk wr N) : ∃ K, Hp TH wr p2 K lk 60 ∧ ∀ lk' w', hp.Next TH wr p2 K lk' 60 w' → Nx (DO p q p2 bh bt l L lk') wr N w' := by
  obtain ⟨K1, a1, u1⟩ := Tim.at1 (Fr.blk _ _) h
  obtain ⟨K2, a2, u2⟩ := Tim.at1 (Fr.blk _ _) a1
  obtain ⟨K3, a3, u3⟩ := Tim.at2 (frS frmP) a2
  exact ⟨K3, a3, fun lk' w' n => u1 _ _ (u2 _ _ (u3 (HO TH p2 lk' 60) _ n))⟩
theorem DO.start (h : Mine W (Tim (Tim (Tim (Tim (HO TH p [] 60) (HO TH p2 [] 60)) (Blk bh (BH p))) (TO TP q [])) (Blk bt (BT q))) wr) : Mine W (DO p q p2 bh bt [] [] []) wr := by
  refine h.imp fun N t => t.map1 fun N t => ?_
  exact (t.rot.map1 fun N t => t.rot).map1 fun N t => t.map1 fun N t => Sys.of_tim Gd.nil t
theorem DO.len (h : Mine W (DO p q p2 bh bt l L lk) wr) : (l.length : Int) ≤ 60 := by
  obtain ⟨N, a, _⟩ := Mine.at_ h
  obtain ⟨K, ⟨⟨F, G, a1, _⟩, _⟩, _⟩ := a.sys
  exact a1.fits
/-- .. and the call's block -/
theorem DX.of (h : Mine W (DO p q p2 bh bt l L lk) wr) : Mine W (Tim (DO p q p2 bh bt l L lk) (Blk wr.heap.size (BX x))) (wr.alloc (BX x)) := Mine.blk frD h _
theorem DX.cells (h : Mine W (Tim (DO p q p2 bh bt l L lk) (Blk b (BX x))) wr) : wr.cell? ⟨b, 0, none⟩ = some (.int .i64 x.1) ∧ wr.cell? ⟨b, 1, none⟩ = some (.int .i64 x.2.1) ∧ wr.cell? ⟨b, 2, none⟩ = some (.int .u64 x.2.2) ∧ wr.cell? ⟨bh, 0, none⟩ = some (.pointer (some ⟨p, 0, none⟩)) ∧ wr.cell? ⟨bt, 0, none⟩ = some (.pointer (some ⟨q, 0, none⟩)) := by
  obtain ⟨N, ⟨K, M, d, c, _⟩, _⟩ := Mine.at_ h
  exact ⟨(Blk.cell c rfl).1, (Blk.cell c rfl).1, (Blk.cell c rfl).1, DO.cells d⟩
theorem DX.set (n u : Int) (hu : W64 u) (hL : L.length < 1099511627776) (h : Mine W (Tim (DO p q p2 bh bt l L lk) (Blk b (BX x))) wr) : Calls Try.prog 11 #[.pointer (some ⟨q, 0, none⟩), .pointer (some ⟨p, 0, none⟩), .int .i64 n, .int .u64 u] wr fun e w' => e = .returned (.bool (gb l n)) ∧ Mine W (Tim (DO p q p2 bh bt (sx l n u) (tx l L n) lk) (Blk b (BX x))) w' := by
  obtain ⟨N, a, _, up⟩ := Mine.at_ h
  obtain ⟨K1, a1, u1⟩ := Tim.at1 (Fr.blk _ _) a
  obtain ⟨K, s, u2⟩ := DO.sys a1
  exact (tset_any s hL n u hu).mono fun e w' ⟨he, nx⟩ => ⟨he, up _ _ (u1 _ _ (u2 _ _ _ nx))⟩
def RC (W : World) (p q p2 bh bt : Nat) (s : List Int × List Wr) (lk : List Int) (t : List Cl) (n : Nat) (gk : Nat) (i : Value) (wr : World) : Prop := ∃ k : Nat, k ≤ n ∧ gk = n - k ∧ i = .int .i64 k ∧ Mine W (DO p q p2 bh bt (sets s (t.take (min k 20))).1 (sets s (t.take (min k 20))).2 lk) wr
set_option maxHeartbeats 4000000 in
theorem closure_any (X : CRow W a n t) (hL : L.length ≤ 1000) (h : Mine W (DO p q p2 bh bt l L lk) wr) : Calls Try.prog 27 #[.slice a n c, .pointer (some ⟨bt, 0, none⟩), .pointer (some ⟨bh, 0, none⟩)] wr fun e w' => e = .returned (.tuple #[]) ∧ Mine W (DO p q p2 bh bt (sets (l, L) (t.take 20)).1 (sets (l, L) (t.take 20)).2 lk) w' := by
  have H := Lib.hid h
  have hn : n ≤ 8796093022208 := by have := X.reach; omega
  have HX := Lib.hid X
  have htl := Lib.hid X.len
  clear h X
  go_enter Try.func27, Try.ntmps27
  go_wp2_with fail
  go_loopg [8] n (RC W p q p2 bh bt (l, L) lk t n)
  case atStart => exact ⟨0, by omega, by omega, rfl, H.out⟩
  case round =>
    obtain ⟨k, hk, rfl, rfl, one⟩ := hrel
    by_cases hlt : k < n
    · obtain ⟨gx, o, hg, c0, c1, c2, hix⟩ := HX.out.look (k := k) hlt
      have TW := Lib.hid one
      have hB := Mine.bel one
      have c0' := (hB.cell (p := ⟨gx, o, none⟩) hg).trans c0
      have c1' := (hB.cell (p := ⟨gx, o + 1, none⟩) hg).trans c1
      have c2' := (hB.cell (p := ⟨gx, o + 2, none⟩) hg).trans c2
      have hwf := HX.out.wf k
      have hnx := fun h20 : k < 20 => Lib.hid (show sets (l, L) (t.take (min (k + 1) 20)) = step (sets (l, L) (t.take (min k 20))) (t.getD k cl0) by
        rw [Nat.min_eq_left (by omega), Nat.min_eq_left (by omega)]; exact sets_next (by rw [htl.out]; exact hlt))
      have hln : (sets (l, L) (t.take (min k 20))).2.length ≤ 2000 := by
        have := sets_len (l, L) (t.take (min k 20))
        simp only [List.length_take] at this
        omega
      generalize hs : sets (l, L) (t.take (min k 20)) = s at *
      generalize t.getD k cl0 = xx at *
      obtain ⟨d, at_, cc⟩ := xx
      have HW := Lib.hid (show W64 cc from hwf.2.2)
      clear c0 c1 c2 hB hwf one
      go_upto_region 3 with fail
      obtain ⟨bx, hbx⟩ : ∃ bx, bx = wr.heap.size := ⟨_, rfl⟩
      obtain ⟨wa, hwa⟩ : ∃ wa, wa = wr.alloc (BX (d, at_, cc)) := ⟨_, rfl⟩
      have TA : Hid (Mine W (Tim (DO p q p2 bh bt s.1 s.2 lk) (Blk bx (BX (d, at_, cc)))) wa) := by rw [hwa, hbx]; exact Lib.hid (DX.of TW.out)
      change Code.wp _ _ _ _ (wr.alloc (BX (d, at_, cc)))
      rw [← hwa, ← hbx]
      clear hwa hbx c0' c1' c2' hix TW
      by_cases h20 : k < 20
      · as_aux_lemma =>
        obtain ⟨x0, x1, x2, x3, x4⟩ := DX.cells TA.out
        dsimp only at x0 x1 x2
        have e := hnx h20
        go_wp2_with fail
        refine (DX.set at_ cc HW.out (by omega) TA.out).mono ?_; rintro e w5 ⟨rfl, t5⟩
        have T5 := Lib.hid t5
        clear t5 TA x0 x1 x2 x3 x4 hnx
        go_wp2_with fail
        go_roundg (n - (k + 1))
        case measure => omega
        case rel => exact ⟨k + 1, by omega, rfl, by go_num, by rw [e.out]; exact T5.out.fst⟩
      · as_aux_lemma =>
        have e := Lib.hid (show sets (l, L) (t.take (min (k + 1) 20)) = s by rw [← hs, Nat.min_eq_right (by omega), Nat.min_eq_right (by omega)])
        clear hnx
        go_wp2_with fail
        go_roundg (n - (k + 1))
        case measure => omega
        case rel => exact ⟨k + 1, by omega, rfl, by go_num, by rw [e.out]; exact TA.out.fst⟩
    · obtain rfl : k = n := by omega
      have e : t.take (min k 20) = t.take 20 := by
        rcases Nat.le_total k 20 with h | h
        · rw [Nat.min_eq_left h, List.take_of_length_le (by rw [htl.out]; exact Nat.le_refl _), List.take_of_length_le (by rw [htl.out]; exact h)]
        · rw [Nat.min_eq_right h]
      rw [e] at one
      have O := Lib.hid one
      clear one e hlt
      go_wp2_with fail
      go_end0
      exact ⟨rfl, O.out⟩
/-! ### calls of the law itself, whatever else is there -/
theorem EX.cells (h : Mine W (Tim (DO p q p2 bh bt l L lk) C) wr) : wr.cell? ⟨bh, 0, none⟩ = some (.pointer (some ⟨p, 0, none⟩)) ∧ wr.cell? ⟨bt, 0, none⟩ = some (.pointer (some ⟨q, 0, none⟩)) := by
  obtain ⟨N, ⟨K, M, d, _⟩, _⟩ := Mine.at_ h
  exact DO.cells d
theorem EX.get (n : Int) (h : Mine W (Tim (DO p q p2 bh bt l L lk) C) wr) : Calls Try.prog 25 #[.pointer (some ⟨p, 0, none⟩), .int .i64 n] wr fun e w' => e = .returned (.tuple #[.int .u64 (gv l n), .bool (gb l n)]) ∧ wr = w' := by
  obtain ⟨N, ⟨K, M, d, _⟩, _⟩ := Mine.at_ h
  obtain ⟨K, ⟨⟨F, G, a1, _⟩, _⟩, _⟩ := d.sys
  exact get_any a1 n
theorem EX.get2 (n : Int) (h : Mine W (Tim (DO p q p2 bh bt l L lk) C) wr) : Calls Try.prog 25 #[.pointer (some ⟨p2, 0, none⟩), .int .i64 n] wr fun e w' => e = .returned (.tuple #[.int .u64 (gv lk n), .bool (gb lk n)]) ∧ wr = w' := by
  obtain ⟨N, ⟨K, M, d, _⟩, _⟩ := Mine.at_ h
  obtain ⟨K, a1, _⟩ := d.two
  exact get_any a1 n
theorem EX.hlen (h : Mine W (Tim (DO p q p2 bh bt l L lk) C) wr) : Calls Try.prog 24 #[.pointer (some ⟨p, 0, none⟩)] wr fun e w' => e = .returned (.int .i64 l.length) ∧ wr = w' := by
  obtain ⟨N, ⟨K, M, d, _⟩, _⟩ := Mine.at_ h
  obtain ⟨K, ⟨⟨F, G, a1, _⟩, _⟩, _⟩ := d.sys
  exact len_any a1
theorem EX.tlen (h : Mine W (Tim (DO p q p2 bh bt l L lk) C) wr) : Calls Try.prog 19 #[.pointer (some ⟨q, 0, none⟩)] wr fun e w' => e = .returned (.int .i64 L.length) ∧ wr = w' := by
  obtain ⟨N, ⟨K, M, d, _⟩, _⟩ := Mine.at_ h
  obtain ⟨K, ⟨⟨F, G, a1, b1, _⟩, _⟩, _⟩ := d.sys
  have := tlen_any b1; rwa [pl_len] at this
theorem EX.mark (h : Mine W (Tim (DO p q p2 bh bt l L lk) C) wr) : Calls Try.prog 20 #[.pointer (some ⟨q, 0, none⟩)] wr fun e w' => e = .returned (.int .i64 L.length) ∧ wr = w' := by
  obtain ⟨N, ⟨K, M, d, _⟩, _⟩ := Mine.at_ h
  obtain ⟨K, ⟨⟨F, G, a1, b1, _⟩, _⟩, _⟩ := d.sys
  have := tmark_any b1; rwa [pl_len] at this
theorem EX.push (fC : Fr C) (u : Int) (hu : W64 u) (h : Mine W (Tim (DO p q p2 bh bt l L lk) C) wr) : Calls Try.prog 16 #[.pointer (some ⟨p, 0, none⟩), .int .u64 u] wr fun e w' => e = .returned (.tuple #[.int .i64 (pv l 60), .int .i64 (pe l 60)]) ∧ Mine W (Tim (DO p q p2 bh bt (px l 60 u) L lk) C) w' := by
  obtain ⟨N, a, _, up⟩ := Mine.at_ h
  obtain ⟨K1, a1, u1⟩ := Tim.at1 fC a
  obtain ⟨K, ⟨⟨F, G, a1, b1, c, d⟩, g⟩, u2⟩ := DO.sys a1
  exact (push_any a1 u hu).mono fun e w' ⟨he, nx⟩ => ⟨he, up _ _ (u1 _ _ (u2 _ _ _ (SN.heap frmP a1 b1 c d g nx)))⟩
theorem EX.push2 (fC : Fr C) (u : Int) (hu : W64 u) (h : Mine W (Tim (DO p q p2 bh bt l L lk) C) wr) : Calls Try.prog 16 #[.pointer (some ⟨p2, 0, none⟩), .int .u64 u] wr fun e w' => e = .returned (.tuple #[.int .i64 (pv lk 60), .int .i64 (pe lk 60)]) ∧ Mine W (Tim (DO p q p2 bh bt l L (px lk 60 u)) C) w' := by
  obtain ⟨N, a, _, up⟩ := Mine.at_ h
  obtain ⟨K1, a1, u1⟩ := Tim.at1 fC a
  obtain ⟨K, a1, u2⟩ := DO.two a1
  exact (push_any a1 u hu).mono fun e w' ⟨he, nx⟩ => ⟨he, up _ _ (u1 _ _ (u2 _ _ nx))⟩
theorem gd_kx {L : List Wr} (g : Gd L) (n : Int) : Gd (kx L n) := by unfold kx; split; exact g.take _; exact g
theorem EX.drop (fC : Fr C) (n : Int) (hL : L.length ≤ 1099511627776) (h : Mine W (Tim (DO p q p2 bh bt l L lk) C) wr) : Calls Try.prog 15 #[.pointer (some ⟨q, 0, none⟩), .int .i64 n] wr fun e w' => e = .returned (.int .i64 (nb L n)) ∧ Mine W (Tim (DO p q p2 bh bt l (kx L n) lk) C) w' := by
  obtain ⟨N, a, _, up⟩ := Mine.at_ h
  obtain ⟨K1, a1, u1⟩ := Tim.at1 fC a
  obtain ⟨K, ⟨⟨F, G, a1, b1, c, d⟩, g⟩, u2⟩ := DO.sys a1
  exact (tdrop_any b1 hL n).mono fun e w' ⟨he, G', b', k, s⟩ => ⟨he, up _ _ (u1 _ _ (u2 _ _ _ (SN.trail a1 c d (gd_kx g n) b' k s)))⟩
theorem EX.undo (fC : Fr C) (n : Int) (hL : L.length ≤ 1099511627776) (h : Mine W (Tim (DO p q p2 bh bt l L lk) C) wr) : Calls Try.prog 13 #[.pointer (some ⟨q, 0, none⟩), .pointer (some ⟨p, 0, none⟩), .int .i64 n] wr fun e w' => e = .returned (.int .i64 (nb L n)) ∧ Mine W (Tim (DO p q p2 bh bt (ux l L n) (kx L n) lk) C) w' := by
  obtain ⟨N, a, _, up⟩ := Mine.at_ h
  obtain ⟨K1, a1, u1⟩ := Tim.at1 fC a
  obtain ⟨K, s, u2⟩ := DO.sys a1
  exact (tundo_any s hL n).mono fun e w' ⟨he, nx⟩ => ⟨he, up _ _ (u1 _ _ (u2 _ _ _ nx))⟩
end
def R1 (W : World) (p q p2 bh bt N : Nat) (gk : Nat) (i : Value) (wr : World) : Prop := ∃ (k : Nat) (l : List Int), k ≤ N ∧ gk = N - k ∧ i = .int .i64 k ∧ Mine W (DO p q p2 bh bt l [] l) wr
/-- the cells that were: as many as looked at -/
abbrev RW (v : Value) (k : Nat) (l : List Int) : Ob := Row 34 1 v k ((l.take k).map (Value.int .u64))
theorem take_next {l : List Int} {k : Nat} (h : k < l.length) : (l.take (k + 1)).map (Value.int .u64) = (l.take k).map (Value.int .u64) ++ [.int .u64 (l.getD k 0)] := by
  have e : l.getD k 0 = l[k] := by simp [List.getD, h]
  rw [List.take_succ_eq_append_getElem h, List.map_append, e]; rfl
theorem gv_at {l : List Int} {k : Nat} (h : k < l.length) : gv l (k : Int) = l.getD k 0 := by unfold gv; rw [if_pos ⟨by omega, by omega⟩]; simp
theorem Row.cell {W wr : World} {A : Ob} {l : List Int} {a : Option Addr} {n c : Nat} (h : Mine W (Tim A (Row 34 1 (.slice a n c) n (l.map (Value.int .u64)))) wr) {k : Nat} (hk : k < n) : ∃ g, a = some ⟨g, 0, none⟩ ∧ n ≤ c ∧ wr.cell? ⟨g, k, none⟩ = some (.int .u64 (l.getD k 0)) := by
  obtain ⟨N, ⟨K, M, _, r, _⟩, _⟩ := Mine.at_ h
  have hl := Row.len r
  obtain ⟨g, x, e, _, hc, hx, hcell⟩ := Row.look r hk
  refine ⟨g, e, hc, hcell.trans ?_⟩
  rw [← hx, List.getElem?_map]
  have : k < l.length := by rw [List.length_map] at hl; omega
  simp [List.getD, this]
theorem inn_next {a : List Cl} {k : Nat} (hk : k < a.length) (i : Nat) : inn (a.take (k + 1)) i = (inn (a.take k) i || decide ((a.getD k cl0).2.1 = (i : Int))) := by
  unfold inn
  rw [List.take_succ_eq_append_getElem hk, List.any_append]
  simp [List.getD, hk]
def R2 (W : World) (p q p2 bh bt : Nat) (l : List Int) (L : List Wr) (lk : List Int) (gk : Nat) (v i : Value) (wr : World) : Prop := ∃ k : Nat, k ≤ l.length ∧ gk = l.length - k ∧ i = .int .i64 k ∧ Mine W (Tim (DO p q p2 bh bt l L lk) (RW v k l)) wr
abbrev EO (p q p2 bh bt : Nat) (l3 l l2 : List Int) (sa : Option Addr) (sc : Nat) : Ob := Tim (DO p q p2 bh bt l3 [] l) (Row 34 1 (.slice sa l2.length sc) l2.length (l2.map (Value.int .u64)))
theorem frE {p q p2 bh bt : Nat} {l3 l l2 : List Int} {sa : Option Addr} {sc : Nat} : Fr (EO p q p2 bh bt l3 l l2 sa sc) := frD.tim Fr.row
def R4 (W : World) (p q p2 bh bt : Nat) (l3 l l2 : List Int) (sa : Option Addr) (sc : Nat) (gk : Nat) (i : Value) (wr : World) : Prop := ∃ k : Nat, k ≤ l2.length ∧ gk = l2.length - k ∧ i = .int .i64 k ∧ Mine W (EO p q p2 bh bt l3 l l2 sa sc) wr
def R5 (W : World) (p q p2 bh bt : Nat) (l3 l l2 : List Int) (sa : Option Addr) (sc : Nat) (t : List Cl) (n k : Nat) (gk : Nat) (s i : Value) (wr : World) : Prop := ∃ j : Nat, j ≤ n ∧ gk = n - j ∧ s = .bool (inn (t.take (min j 20)) k) ∧ i = .int .i64 j ∧ Mine W (EO p q p2 bh bt l3 l l2 sa sc) wr
set_option maxHeartbeats 16000000 in
set_option maxRecDepth 100000 in
theorem walk (w : World) (a0 : Option Addr) (n0 c0 : Nat) (t0 : List Int) (x0 : Ints w a0 n0 t0) (a1 : Option Addr) (n1 c1 : Nat) (t1 : List Cl) (x1 : CRow w a1 n1 t1) (a2 : Option Addr) (n2 c2 : Nat) (t2 : List Cl) (x2 : CRow w a2 n2 t2) :
    Calls Try.prog 6 #[.slice a0 n0 c0, .slice a1 n1 c1, .slice a2 n2 c2] w fun e w' => e = .returned (.bool true) ∧ Below w.heap.size w w' := by
  have hn0 : n0 ≤ 17592186044416 := by have := x0.reach; omega
  have hn1 : n1 ≤ 8796093022208 := by have := x1.reach; omega
  have X := Lib.hid x0
  have Y := Lib.hid x1
  have Z := Lib.hid x2
  have hmf : ∀ (fn : Fn) (first cap : Array Value) (w : World), (Instr.makeFunc fn first cap).run Try.prog w = .ok (.func fn first cap) w := fun _ _ _ _ => rfl
  clear x0 x1 x2
  go_enter Try.func6, Try.ntmps6
  go_wp2_with fail
  refine (new_any 60 w).mono ?_; rintro e w1 ⟨rfl, h1⟩
  rw [show max 0 (min 60 1048576) = (60 : Int) by decide] at h1
  have H1 := Lib.hid (Mine.heap1 h1)
  clear h1
  generalize hp : w.heap.size = p at *
  go_wp2_with fail
  refine (new_any 60 w1).mono ?_; rintro e w2 ⟨rfl, h1⟩
  rw [show max 0 (min 60 1048576) = (60 : Int) by decide] at h1
  have H2 := Lib.hid (Mine.heap frH H1.out h1)
  clear h1 H1
  generalize w1.heap.size = p2 at *
  go_upto_region 2 with fail
  have H3 := Lib.hid (Mine.blk (frH.tim frH) H2.out (BH p))
  clear H2
  change Code.wp _ _ _ _ (w2.alloc (BH p))
  generalize w2.alloc (BH p) = w3 at *
  generalize w2.heap.size = bh at *
  go_wp2_with fail
  refine (tnew_any w3).mono ?_; rintro e w4 ⟨rfl, hw2⟩
  have H4 : Mine w _ w4 := (hw2 ▸ (Mine.trail ((frH.tim frH).tim (Fr.blk _ _)) H3.out))
  clear hw2 H3
  generalize w3.heap.size = q at *
  have H4 := Lib.hid H4
  go_upto_region 3 with fail
  have H5 := Lib.hid (DO.start (Mine.blk (((frH.tim frH).tim (Fr.blk _ _)).tim (frT frmP)) H4.out (BT q)))
  clear H4
  change Code.wp _ _ _ _ (w4.alloc (BT q))
  generalize w4.alloc (BT q) = w5 at *
  generalize w4.heap.size = bt at *
  go_wp2_with fail
  go_loopg [36] n0 (R1 w p q p2 bh bt n0)
  case atStart => exact ⟨0, [], by omega, by omega, rfl, H5.out⟩
  case round =>
    obtain ⟨k, l, hk, rfl, rfl, one⟩ := hrel
    by_cases hlt : k < n0
    · obtain ⟨A, hA, hc, hix⟩ := X.out.look hlt
      have hc' := ((Mine.bel one).cell hA).trans hc
      have hcw := Lib.hid (X.out.at_wf k)
      have TW := Lib.hid one.nob
      generalize t0.getD k 0 = c at *
      clear hc one
      by_cases h30 : k < 30
      · as_aux_lemma =>
        obtain ⟨y0, y1⟩ := EX.cells TW.out
        go_wp2_with fail
        refine (EX.push Fr.nob c hcw.out TW.out).mono ?_; rintro e w6 ⟨rfl, t5⟩
        have T5 := Lib.hid t5
        clear t5 TW hc' y0 y1
        go_wp2_with fail
        refine (EX.push2 Fr.nob c hcw.out T5.out).mono ?_; rintro e w7 ⟨rfl, t6⟩
        have T6 := Lib.hid t6
        clear t6 T5
        go_wp2_with fail
        go_roundg (n0 - (k + 1))
        case measure => omega
        case rel => exact ⟨k + 1, px l 60 c, by omega, rfl, by go_num, T6.out.fst⟩
      · as_aux_lemma =>
        go_wp2_with fail
        go_roundg (n0 - (k + 1))
        case measure => omega
        case rel => exact ⟨k + 1, l, by omega, rfl, by go_num, TW.out.fst⟩
    · obtain rfl : k = n0 := by omega
      have S6 := Lib.hid one
      clear one H5 X hlt hk
      go_wp2_with fail
      refine (closure_any Y.out (by simp) S6.out).mono ?_; rintro e w6 ⟨rfl, t6⟩
      have U := Lib.hid (undone l (t1.take 20))
      have hL1 : (sets (l, []) (t1.take 20)).2.length ≤ 20 := by
        have := sets_len (l, []) (t1.take 20)
        simp only [List.length_take, List.length_nil] at this
        omega
      have hl1 := Lib.hid (sets_cells (l, []) (t1.take 20))
      obtain ⟨⟨l1, L1⟩, hs1⟩ : ∃ s, s = sets (l, []) (t1.take 20) := ⟨_, rfl⟩
      rw [← hs1] at t6 hL1 hl1 U
      dsimp only at t6 hL1 hl1 U
      have S7 := Lib.hid t6.nob
      clear t6 S6 hs1
      obtain ⟨y0, y1⟩ := EX.cells S7.out
      go_wp2_with fail
      refine (EX.mark S7.out).mono ?_; rintro e w' ⟨rfl, rfl⟩
      clear y0 y1
      go_wp2_with fail
      refine (closure_any Z.out (by omega) S7.out.fst).mono ?_; rintro e w7 ⟨rfl, t7⟩
      have hL2 : (sets (l1, L1) (t2.take 20)).2.length ≤ 40 := by
        have := sets_len (l1, L1) (t2.take 20)
        simp only [List.length_take] at this
        omega
      have hl2 := Lib.hid (sets_cells (l1, L1) (t2.take 20))
      obtain ⟨M, hM⟩ := sets_more (l1, L1) (t2.take 20)
      obtain ⟨⟨l2, L2⟩, hs2⟩ : ∃ s, s = sets (l1, L1) (t2.take 20) := ⟨_, rfl⟩
      rw [← hs2] at t7 hL2 hl2 hM
      dsimp only at t7 hL2 hl2 hM
      have HM := Lib.hid hM
      have S8 := Lib.hid t7.nob
      have h60 := Lib.hid (DO.len t7)
      clear t7 S7 Z hs2 hM
      obtain ⟨y0, y1⟩ := EX.cells S8.out
      go_wp2_with fail
      refine (EX.hlen S8.out).mono ?_; rintro e w' ⟨rfl, rfl⟩
      clear y0 y1
      have hl60 : l2.length ≤ 60 := by have := h60.out; omega
      obtain ⟨j0, hj, hy0, hy1, hy2⟩ := info_parts infoC
      have HJ := Lib.hid (And.intro hj (And.intro hy0 (And.intro hy1 hy2)))
      clear hj hy0 hy1 hy2
      go_wp2_with fail
      go_loopg [14, 61] l2.length (R2 w p q p2 bh bt l2 L2 l)
      case atStart =>
        refine ⟨0, by omega, by omega, rfl, ?_⟩
        obtain ⟨N, a, b, f⟩ := S8.out.fst
        exact ⟨N, ⟨N, fun _ => False, a, (Row.nil w7 : Row 34 1 (.slice none 0 0) 0 ((l2.take 0).map (Value.int .u64)) w7 _), fun _ _ => id, fun k => by simp⟩, b, f⟩
      case round =>
        obtain ⟨k, hk, rfl, rfl, one⟩ := hrel
        by_cases hlt : k < l2.length
        · obtain ⟨N, a, b, up⟩ := Mine.at_ one
          obtain ⟨M1, row, u1⟩ := Tim.at2 frD a
          obtain ⟨sa, sc, rfl⟩ := row.shape
          have TW := Lib.hid one
          obtain ⟨y0, y1⟩ := EX.cells one
          have hg := EX.get (k : Int) one
          rw [show gv l2 k = l2.getD k 0 by unfold gv; rw [if_pos ⟨by omega, by omega⟩]; simp] at hg
          have hki : (k : Int) < (l2.length : Int) := by omega
          have HO := Lib.hid row.1
          have FIN := fun v' w2 (hr : w2.ownsRow 0 34 1 v' (k + 1) ((l2.take k).map (Value.int .u64) ++ [.int .u64 (l2.getD k 0)])) (g2 : (wr.alloc (.cells #[.int .u64 (l2.getD k 0)] 34)).grownBy w2 (Value.slice sa k sc).ownBlock) (hat : v'.ownBlock = (Value.slice sa k sc).ownBlock ∨ v'.ownBlock = some (wr.alloc (.cells #[.int .u64 (l2.getD k 0)] 34)).heap.size) => Lib.hid (up _ _ (u1 (RW v' (k + 1) l2) w2 (by
            have h2 := Row.push row (kp.ba wr _) hr g2 hat
            unfold RW; rw [take_next hlt]; exact h2)))
          generalize l2.getD k 0 = c at *
          generalize gb l2 k = z at *
          clear row u1 a b up one
          go_wp2_with fail
          refine hg.mono ?_; rintro e w' ⟨rfl, rfl⟩
          clear y0 y1 hg
          go_wp2_with (at_builtin; refine wpList_append_own_at _ rfl (.tmp 70) (.tmp 72) 45 rfl 0 34 j0 (.int .u64 0) 1 8 Try.underlying45 HJ.out.1 HJ.out.2.1 HJ.out.2.2.1 HJ.out.2.2.2 rfl (by decide) _ _ _ rfl (HO.out.alloc _) ⟨wr.heap.size, 0, none⟩ 1 1 [.int .u64 c] rfl rfl (cell_one_new _ _ _) ?c2 ?b1 ?b2 ?b3 ?_)
          case c2 => intro z hz; simp at hz; subst hz; rfl
          case b1 => unfold maxLen; omega
          case b2 => omega
          case b3 => simp
          intro v' w2 hr2 g2 _ hat
          have F9 := FIN v' w2 (by simpa using hr2) g2 (by simpa using hat)
          clear FIN hr2 g2 hat HO TW
          go_wp2_with fail
          go_roundg (l2.length - (k + 1))
          case measure => omega
          case rel => exact ⟨k + 1, by omega, rfl, by go_num, F9.out⟩
        · obtain rfl : k = l2.length := by omega
          obtain ⟨N, ⟨_, _, _, row, _⟩, _⟩ := Mine.at_ one
          obtain ⟨sa, sc, rfl⟩ := row.shape
          unfold RW at one
          rw [List.take_length] at one
          have S9 := Lib.hid one
          clear one row S8 hlt hk
          obtain ⟨y0, y1⟩ := EX.cells S9.out
          have en := Lib.hid (show nb L2 (L1.length : Int) = (L2.length : Int) - L1.length by unfold nb; rw [if_pos ⟨by omega, by rw [HM.out, List.length_append]; omega⟩])
          have ek := Lib.hid (show kx L2 (L1.length : Int) = L1 by unfold kx; rw [if_pos ⟨by omega, by rw [HM.out, List.length_append]; omega⟩, HM.out, Int.toNat_natCast, List.take_left])
          have hwr : wrap64 ((L2.length : Int) - (L1.length : Int)) = (L2.length : Int) - L1.length := by unfold wrap64; omega
          have frR : Fr (Row 34 1 (.slice sa l2.length sc) l2.length (l2.map (Value.int .u64))) := Fr.row
          go_wp2_with fail
          refine (EX.tlen S9.out).mono ?_; rintro e w' ⟨rfl, rfl⟩
          have hd := EX.drop frR (L1.length : Int) (by omega) S9.out
          rw [en.out, ek.out] at hd
          go_wp2_with fail
          refine hd.mono ?_; rintro e w8 ⟨rfl, t8⟩
          have S10 := Lib.hid t8
          clear t8 hd S9 y0 y1 hwr en ek
          obtain ⟨y0, y1⟩ := EX.cells S10.out
          go_wp2_with fail
          refine (EX.tlen S10.out).mono ?_; rintro e w' ⟨rfl, rfl⟩
          go_wp2_with fail
          go_loopg [92] l2.length (fun gk i wx => ∃ k : Nat, k ≤ l2.length ∧ gk = l2.length - k ∧ i = .int .i64 k ∧ wx = w8)
          case atStart => exact ⟨0, by omega, by omega, rfl, rfl⟩
          case round =>
            obtain ⟨k, hk, rfl, rfl, rfl⟩ := hrel
            by_cases hlt : k < l2.length
            · as_aux_lemma =>
              obtain ⟨g, rfl, hc, hcell⟩ := Row.cell S10.out hlt
              have hg := EX.get (k : Int) S10.out
              rw [gv_at hlt] at hg
              have hki : (k : Int) < (l2.length : Int) := by omega
              generalize l2.getD k 0 = v at *
              generalize gb l2 k = z at *
              go_wp2_with fail
              refine hg.mono ?_; rintro e w' ⟨rfl, rfl⟩
              clear hg
              go_wp2_with fail
              go_roundg (l2.length - (k + 1))
              case measure => omega
              case rel => exact ⟨k + 1, by omega, rfl, by go_num, rfl⟩
            · obtain rfl : k = l2.length := by omega
              have hu := EX.undo frR 0 (by omega) S10.out
              rw [show ux l2 L1 0 = ub l2 L1 by unfold ux; rw [if_pos ⟨by omega, by omega⟩]; rfl, show kx L1 0 = [] by unfold kx; rw [if_pos ⟨by omega, by omega⟩]; rfl] at hu
              clear hlt hk S10
              go_wp2_with fail
              refine hu.mono ?_; rintro e w9 ⟨rfl, t9⟩
              have V := Lib.hid (fun i hi => U.out.2 l2 (hl2.out.trans hl1.out) i hi)
              have hl3 := Lib.hid (ub_len l2 L1)
              generalize ub l2 L1 = l3 at *
              have S11 := Lib.hid t9
              clear t9 hu y0 y1
              go_wp2_with fail
              go_loopg [112] l2.length (R4 w p q p2 bh bt l3 l l2 sa sc)
              case atStart => exact ⟨0, by omega, by omega, rfl, S11.out⟩
              case round =>
                obtain ⟨k, hk, rfl, rfl, one⟩ := hrel
                by_cases hlt : k < l2.length
                · obtain ⟨y0, y1⟩ := EX.cells one
                  have hg := EX.get (k : Int) one
                  have hg2 := EX.get2 (k : Int) one
                  rw [gv_at (by rw [hl3.out]; exact hlt), V.out k (by rw [← hl1.out, ← hl2.out]; exact hlt)] at hg
                  rw [gv_at (by rw [← hl1.out, ← hl2.out]; exact hlt)] at hg2
                  have TW := Lib.hid one
                  have hki : decide ((k : Int) < (l2.length : Int)) = true := by simpa using hlt
                  obtain ⟨wo, hwo⟩ : ∃ wo, wo = wr := ⟨_, rfl⟩
                  subst hwo
                  have htl := Lib.hid Y.out.len
                  obtain ⟨z, hz⟩ : ∃ z, z = inn (t1.take 20) k := ⟨_, rfl⟩
                  rw [← hz] at hg
                  have HZ := Lib.hid hz
                  clear one S11 hz
                  generalize gb l3 k = z1 at *
                  generalize gb l k = z2 at *
                  generalize hv1 : l.getD k 0 = v1 at *
                  obtain ⟨v2, hv2⟩ : ∃ v2, v2 = l2.getD k 0 := ⟨_, rfl⟩
                  rw [← hv2] at hg
                  obtain ⟨x, hx⟩ : ∃ x, x = (if z = true then v1 else v2) := ⟨_, rfl⟩
                  rw [← hx] at hg
                  have HX := Lib.hid hx
                  have HV2 := Lib.hid hv2
                  clear hv1 hv2 hx
                  go_wp2_with fail
                  refine hg.mono ?_; rintro e w' ⟨rfl, rfl⟩
                  go_wp2_with fail
                  refine hg2.mono ?_; rintro e w' ⟨rfl, rfl⟩
                  clear hg hg2 y0 y1
                  go_wp2_with fail
                  go_loopg [28, 129] n1 (R5 w p q p2 bh bt l3 l l2 sa sc t1 n1 k)
                  case atStart => exact ⟨0, by omega, by omega, by simp [inn], rfl, TW.out⟩
                  case round =>
                    obtain ⟨j, hj, rfl, rfl, rfl, one⟩ := hrel
                    by_cases hjn : j < n1
                    · obtain ⟨gx, o, hg, c0', c1', c2', hix⟩ := Y.out.look (k := j) hjn
                      have TV := Lib.hid one
                      have hB := Mine.bel one
                      have d0 := (hB.cell (p := ⟨gx, o, none⟩) hg).trans c0'
                      have d1 := (hB.cell (p := ⟨gx, o + 1, none⟩) hg).trans c1'
                      have d2 := (hB.cell (p := ⟨gx, o + 2, none⟩) hg).trans c2'
                      have hnx := fun h20 : j < 20 => Lib.hid (show inn (t1.take (min (j + 1) 20)) k = (inn (t1.take (min j 20)) k || decide ((t1.getD j cl0).2.1 = (k : Int))) by
                        rw [Nat.min_eq_left (by omega), Nat.min_eq_left (by omega)]; exact inn_next (by rw [htl.out]; exact hjn) k)
                      generalize hs : inn (t1.take (min j 20)) k = s at *
                      have HS := Lib.hid hs
                      generalize t1.getD j cl0 = xx at *
                      obtain ⟨d, at_, cc⟩ := xx
                      clear c0' c1' c2' hB one hs
                      go_upto_region 41 with fail
                      obtain ⟨bx, hbx⟩ : ∃ bx, bx = wr.heap.size := ⟨_, rfl⟩
                      obtain ⟨wa, hwa⟩ : ∃ wa, wa = wr.alloc (BX (d, at_, cc)) := ⟨_, rfl⟩
                      have TA : Hid (Mine w (EO p q p2 bh bt l3 l l2 sa sc) wa) := by rw [hwa]; exact Lib.hid (Mine.below frE TV.out (kp.ba wr _))
                      have hcx : wa.cell? ⟨bx, 1, none⟩ = some (.int .i64 at_) := by rw [hwa, hbx]; exact kp.alloc_cell wr _ _ _ _ 1 rfl rfl
                      change Code.wp _ _ _ _ (wr.alloc (BX (d, at_, cc)))
                      rw [← hwa, ← hbx]
                      clear hwa hbx d0 d1 d2 hix TV
                      by_cases h20 : j < 20
                      · have e := hnx h20
                        have h20' : (j : Int) < 20 := by omega
                        cases s with
                        | true =>
                          as_aux_lemma =>
                          clear hnx
                          go_wp2_with fail
                          go_roundg (n1 - (j + 1))
                          case measure => omega
                          case rel => exact ⟨j + 1, by omega, rfl, by rw [e.out]; rfl, by go_num, TA.out⟩
                        | false =>
                          by_cases ea : at_ = (k : Int)
                          · as_aux_lemma =>
                            have eb : (at_ == (k : Int)) = true := by simpa using ea
                            have e2 := Lib.hid (show inn (t1.take (min (j + 1) 20)) k = true by rw [e.out]; simp [ea])
                            clear hnx e ea
                            go_wp2_with fail
                            go_roundg (n1 - (j + 1))
                            case measure => omega
                            case rel => exact ⟨j + 1, by omega, rfl, by rw [e2.out], by go_num, TA.out⟩
                          · as_aux_lemma =>
                            have eb : (at_ == (k : Int)) = false := by simpa using ea
                            have e2 := Lib.hid (show inn (t1.take (min (j + 1) 20)) k = false by rw [e.out]; simp [ea])
                            clear hnx e ea
                            go_wp2_with fail
                            go_roundg (n1 - (j + 1))
                            case measure => omega
                            case rel => exact ⟨j + 1, by omega, rfl, by rw [e2.out], by go_num, TA.out⟩
                      · have e2 := Lib.hid (show inn (t1.take (min (j + 1) 20)) k = s by rw [← HS.out, Nat.min_eq_right (by omega), Nat.min_eq_right (by omega)])
                        have h20' : ¬ (j : Int) < 20 := by omega
                        cases s with
                        | true =>
                          as_aux_lemma =>
                          clear hnx
                          go_wp2_with fail
                          go_roundg (n1 - (j + 1))
                          case measure => omega
                          case rel => exact ⟨j + 1, by omega, rfl, by rw [e2.out], by go_num, TA.out⟩
                        | false =>
                          as_aux_lemma =>
                          clear hnx
                          go_wp2_with fail
                          go_roundg (n1 - (j + 1))
                          case measure => omega
                          case rel => exact ⟨j + 1, by omega, rfl, by rw [e2.out], by go_num, TA.out⟩
                    · obtain rfl : j = n1 := by omega
                      have ez : inn (t1.take (min j 20)) k = z := by
                        rw [HZ.out]
                        rcases Nat.le_total j 20 with h | h
                        · rw [Nat.min_eq_left h, List.take_of_length_le (by rw [htl.out]; exact Nat.le_refl _), List.take_of_length_le (by rw [htl.out]; exact h)]
                        · rw [Nat.min_eq_right h]
                      rw [ez]
                      have TZ := Lib.hid one
                      obtain ⟨g, ea, hc, hcell⟩ := Row.cell one hlt
                      subst ea
                      rw [← HV2.out] at hcell
                      have hki2 : (k : Int) < (l2.length : Int) := by omega
                      clear ez one hjn
                      cases z with
                      | true =>
                        as_aux_lemma =>
                        have hx := HX.out
                        simp only [if_true] at hx
                        subst hx
                        go_wp2_with fail
                        go_roundg (l2.length - (k + 1))
                        case measure => omega
                        case rel => exact ⟨k + 1, by omega, rfl, by go_num, TZ.out⟩
                      | false =>
                        as_aux_lemma =>
                        have hx : x = v2 := by have := HX.out; simpa using this
                        subst hx
                        go_wp2_with fail
                        go_roundg (l2.length - (k + 1))
                        case measure => omega
                        case rel => exact ⟨k + 1, by omega, rfl, by go_num, TZ.out⟩
                · have S12 := Lib.hid one
                  obtain rfl : k = l2.length := by omega
                  obtain ⟨y0, y1⟩ := EX.cells one
                  clear one S11
                  as_aux_lemma =>
                  go_wp2_with fail
                  refine (EX.tlen S12.out).mono ?_; rintro e w' ⟨rfl, rfl⟩
                  have HB := Lib.hid S12.out.bel
                  go_wp2_with fail
                  refine (awake_any _).mono ?_; rintro e w10 ⟨rfl, b9⟩
                  go_wp2_with fail
                  go_ret
                  exact ⟨rfl, HB.out.trans (b9.mono HB.out.size)⟩
set_option maxRecDepth 100000 in
theorem lifted (os : Os) (started : os.Started) (H : Type) (enc : TypeId × Value → H) :
    ReturnsInHanded {} Try.checked os 6 .any (Rows.trailDropsSpec.pre6 enc Try.prog Try.f6 Rows.trailDropsRow.domain false) (Rows.trailDropsSpec.post enc Try.prog Try.f6 false true false false) := by
  refine returnsInHanded_of_change_sized (C := Try.checked) own started (by kernel_rfl) Try.func6
    (ChangeSpec.witness6 (enc := enc) (C := Try.checked) false ⟨#[], #[.slice none 0 0, .slice none 0 0, .slice none 0 0], []⟩ 8 (by kernel_rfl) (by kernel_rfl) (by kernel_rfl) (by kernel_rfl)) ?_
  intro W base args ds gs before hval0 hW _ hsz0 _
  have hsz : (DataW.weightsEach Try.prog (Try.f6.params.toList ++ Rows.trailDropsSpec.plain.varTypes Try.prog) (ds ++ gs)).all (· ≤ reachBytes) = true := hsz0
  clear hsz0
  have hval : ∀ (j : Nat) t v, Try.f6.params[j]? = some t → args[j]? = some v → Value.okWide Try.prog W .any base t v := hval0
  have hW' := hW
  obtain ⟨p, q, hA0, hV, rfl, hfz, hnd⟩ := hW
  have hA : DataW.TrodAll enc Try.prog W 0 (fun _ => true) true Try.f6.params.toList args.toList ds p := hA0
  rw [Try.params6] at hA hval hsz
  obtain ⟨v0, vs0, d0, ds0, p0, q0, hargs, rfl, rfl, h0, r0⟩ := trodAll_cons hA
  obtain ⟨v1, vs1, d1, ds1, p1, q1, rfl, rfl, rfl, h1, r1⟩ := trodAll_cons r0
  obtain ⟨v2, vs2, d2, ds2, p2, q2, rfl, rfl, rfl, h2, r2⟩ := trodAll_cons r1
  obtain ⟨rfl, rfl, rfl⟩ := trodAll_nil r2
  obtain rfl : args = #[v0, v1, v2] := by cases args; simp_all
  obtain ⟨rfl, rfl⟩ := trodVars_none hV
  simp only [List.append_nil] at hW'
  have lt0 : ∀ x ∈ p0, x.block < W.heap.size := fun x hx => by
    have := hW'.lt x (by simp [hx])
    simpa using this
  have k0 := h0
  have lt1 : ∀ x ∈ p1, x.block < W.heap.size := fun x hx => by
    have := hW'.lt x (by simp [hx])
    simpa using this
  have k1 := h1
  have lt2 : ∀ x ∈ p2, x.block < W.heap.size := fun x hx => by
    have := hW'.lt x (by simp [hx])
    simpa using this
  have k2 := h2
  obtain ⟨a0, n0, c0, rfl⟩ := okWide_slice Try.underlying45 (hval 0 45 v0 rfl rfl)
  obtain ⟨t0, x0⟩ := h0.elim fun fuel hf => ints_open hf (lt0) (fun x y e => sized_slice hsz (j := 0) (t := 45) (e := 34) rfl (by rw [← e]; rfl) Try.underlying45)
  obtain ⟨a1, n1, c1, rfl⟩ := okWide_slice Try.underlying22 (hval 1 22 v1 rfl rfl)
  obtain ⟨t1, x1⟩ := h1.elim fun fuel hf => calls_open hf (lt1) (fun x y e => sized_slice hsz (j := 1) (t := 22) (e := 36) rfl (by rw [← e]; rfl) Try.underlying22)
  obtain ⟨a2, n2, c2, rfl⟩ := okWide_slice Try.underlying22 (hval 2 22 v2 rfl rfl)
  obtain ⟨t2, x2⟩ := h2.elim fun fuel hf => calls_open hf (lt2) (fun x y e => sized_slice hsz (j := 2) (t := 22) (e := 36) rfl (by rw [← e]; rfl) Try.underlying22)
  clear hA0 hval0
  refine (walk W a0 n0 c0 t0 x0 a1 n1 c1 t1 x1 a2 n2 c2 t2 x2).mono fun e W' ⟨he, hg⟩ => ?_
  subst he
  have ha := (trodAll_cons_mk (Below.trod laidOut (by kernel_rfl) (of_decide_eq_true (by kernel_rfl)) k0 hg lt0) (trodAll_cons_mk (Below.trod laidOut (by kernel_rfl) (of_decide_eq_true (by kernel_rfl)) k1 hg lt1) (trodAll_cons_mk (Below.trod laidOut (by kernel_rfl) (of_decide_eq_true (by kernel_rfl)) k2 hg lt2) trodAll_mk0)))
  refine ⟨_, rfl, _, _, _, [], _, [], hW', ?_, ha, rfl, hg.frame _, fun h => by cases h⟩
  exact (trodAll_cons_mk (shut_bool Try.underlying4 _) trodAll_mk0)
/-- THE STATEMENT. -/
theorem proved : Rows.TrailDropsSaid :=
  OpenClaim.holds_of_wide 6 Try.f6 rfl rfl rfl rfl rfl rfl rfl ⟨rfl, rfl, rfl, rfl, rfl⟩ rfl rfl rfl rfl rfl (by kernel_rfl) Try.func6 (by kernel_rfl)
    (of_decide_eq_true (by kernel_rfl)) (by unfold Func.isWrapper; first | (rw [if_pos (by decide +kernel)]; kernel_rfl) | (rw [if_neg (by decide +kernel)]; exact ⟨rfl, rfl⟩))
    (fun os started H enc _ => lifted os started H enc)
#print axioms proved
end Go.Proofs.Ytbonlmekphkahaa.trailDrops
