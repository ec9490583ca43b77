/- Package unify: Occurs, Unify: what is answered, and left; what is not made one is undone. -/
import Derived.Test.YthableojkjhicaaUnG
namespace Go.Proofs.Ythableojkjhicaa.un
open Go.ChangeShapes Go.WideShapes Go.ChangeAt Go.RowKit Go.Maps
open Go.Proofs.Ythableojkjhicaa.kp Go.Proofs.Ythableojkjhicaa.cel Go.Proofs.Ythableojkjhicaa.hp Go.Proofs.Ythableojkjhicaa.ob
set_option linter.unusedVariables false
/-- undone behind L0, the cells are l0 -/
def Back (l0 : List Int) (L0 : List Wr) (l : List Int) (L : List Wr) : Prop := ∃ M, L = L0 ++ M ∧ ub l M = l0
theorem Back.refl (l : List Int) (L : List Wr) : Back l L l L := ⟨[], by simp, rfl⟩
theorem sx_back {l : List Int} {n u : Int} (h : gb l n = true) : sx (sx l n u) n (gv l n) = l := by
  have h := of_decide_eq_true h
  have e1 : sx l n u = l.set n.toNat u := by unfold sx; rw [if_pos h]
  have e2 : gv l n = l.getD n.toNat 0 := by unfold gv; rw [if_pos h]
  rw [e1, e2]
  unfold sx
  rw [if_pos (by rw [List.length_set]; exact h), List.set_set]
  apply List.ext_getElem
  · simp
  · intro i h1 h2
    rw [List.getElem_set]
    split
    · rename_i e; subst e; simp [List.getD, h2]
    · rfl
theorem Back.write {l0 l : List Int} {L0 L : List Wr} (h : Back l0 L0 l L) (n u : Int) (hg : gb l n = true) : Back l0 L0 (sx l n u) (tx l L n) := by
  obtain ⟨M, rfl, hM⟩ := h
  refine ⟨M ++ [(n, gv l n)], ?_, ?_⟩
  · unfold tx; rw [if_pos hg, List.append_assoc]
  · unfold ub at hM ⊢
    rw [List.foldr_append]
    simp only [List.foldr_cons, List.foldr_nil]
    rw [sx_back hg]; exact hM
theorem Back.bind {l0 l : List Int} {L0 L : List Wr} (h : Back l0 L0 l L) (a b : Int) : Back l0 L0 (bl l a b) (bL l L a b) := by
  unfold bl bL bw
  by_cases ha : isV l a = true
  · rw [if_pos ha]
    by_cases e : a = b
    · rw [if_pos e]; exact h
    · rw [if_neg e]
      by_cases hb : isV l b = true ∧ a / 8 < b / 8
      · rw [if_pos hb]; exact h.write _ _ (isV_gb hb.1).2.1
      · rw [if_neg hb]; exact h.write _ _ (isV_gb ha).2.1
  · rw [if_neg ha]; exact h
theorem Back.bdY {l0 l : List Int} {L0 L : List Wr} (h : Back l0 L0 l L) (k : Nat) (a b : Int) : Back l0 L0 (bdY l L k a b).l (bdY l L k a b).L := by
  unfold un.bdY
  split
  · exact h.bind a b
  split
  · exact h
  · exact h.bind a b
theorem Back.bdW {l0 l : List Int} {L0 L : List Wr} (h : Back l0 L0 l L) (k : Nat) (a b : Int) : Back l0 L0 (bdW l L k a b).l (bdW l L k a b).L := by
  unfold un.bdW
  split
  · exact h.bdY k a b
  · exact h.bdY k b a
theorem Back.step {l0 l : List Int} {L0 L : List Wr} (h : Back l0 L0 l L) (k : Nat) (x y : Int) (td : List (Int × Int)) :
    match stepU k l L x y td with | .fin r => Back l0 L0 r.l r.L | .go _ l' L' _ => Back l0 L0 l' L' := by
  unfold stepU
  by_cases h1 : (nd l x).ok = false ∨ (nd l y).ok = false
  · rw [if_pos h1]; exact h
  rw [if_neg h1]
  by_cases h2 : (nd l x).k = 1 ∨ (nd l y).k = 1
  · rw [if_pos h2]
    by_cases h3 : (un.bdW l L k x y).is = true
    · rw [if_pos h3]; exact h.bdW k x y
    · rw [if_neg h3]; exact h
  rw [if_neg h2]
  split
  · rename_i r he
    split at he
    · injection he with he; subst he; exact h
    · cases he
  · rename_i he
    split at he
    · cases he
    · injection he with _ he1 he2; subst he1 he2; exact h
theorem Back.uni {l0 : List Int} {L0 : List Wr} : ∀ (f k : Nat) (l : List Int) (L : List Wr) (a b : Int) (td : List (Int × Int)), Back l0 L0 l L → Back l0 L0 (uniW f k l L a b td).l (uniW f k l L a b td).L := by
  intro f
  induction f with
  | zero => intro k l L a b td h; rw [uniW]; exact h
  | succ f ih =>
    intro k l L a b td h
    cases k with
    | zero => rw [uniW]; exact h
    | succ k =>
      rw [uni_step]
      have hs := h.step k (dr l l.length a) (dr l l.length b) td
      revert hs
      cases stepU k l L (dr l l.length a) (dr l l.length b) td with
      | fin r => exact id
      | go k' l' L' td' =>
        intro hs
        cases td' with
        | nil => exact hs
        | cons x r => exact ih _ _ _ _ _ _ hs
theorem Back.undo {l0 l : List Int} {L0 L : List Wr} (h : Back l0 L0 l L) : ux l L L0.length = l0 ∧ kx L L0.length = L0 := by
  obtain ⟨M, rfl, hM⟩ := h
  unfold ux kx
  have hc : 0 ≤ (L0.length : Int) ∧ (L0.length : Int) ≤ (L0 ++ M).length := by rw [List.length_append]; omega
  rw [if_pos hc, if_pos hc]
  refine ⟨?_, ?_⟩
  · rw [show ((L0.length : Int)).toNat = L0.length by omega, List.drop_left]; exact hM
  · rw [show ((L0.length : Int)).toNat = L0.length by omega, List.take_left]
theorem uni_len (f k : Nat) : ∀ (l : List Int) (L : List Wr) (a b : Int) (td : List (Int × Int)), (uniW f k l L a b td).L.length ≤ L.length + k := by
  induction f generalizing k with
  | zero => intro l L a b td; rw [uniW]; exact Nat.le_add_right _ _
  | succ f ih =>
    intro l L a b td
    cases k with
    | zero => rw [uniW]; exact Nat.le_add_right _ _
    | succ k =>
      rw [uni_step]
      unfold stepU
      generalize dr l l.length a = x
      generalize dr l l.length b = y
      by_cases h1 : (nd l x).ok = false ∨ (nd l y).ok = false
      · rw [if_pos h1]; exact Nat.le_add_right _ _
      rw [if_neg h1]
      by_cases h2 : (nd l x).k = 1 ∨ (nd l y).k = 1
      · rw [if_pos h2]
        have hf := bdW_facts l L k x y
        by_cases h3 : (un.bdW l L k x y).is = true
        · rw [if_pos h3]
          cases td with
          | nil => have := hf.2.1; show (un.bdW l L k x y).L.length ≤ _; omega
          | cons z r =>
            have := ih (un.bdW l L k x y).k (un.bdW l L k x y).l (un.bdW l L k x y).L (gv (un.bdW l L k x y).l z.1) (gv (un.bdW l L k x y).l z.2) r
            have h4 := hf.2.1; have h5 := hf.2.2
            show (uniW f (un.bdW l L k x y).k (un.bdW l L k x y).l (un.bdW l L k x y).L (gv (un.bdW l L k x y).l z.1) (gv (un.bdW l L k x y).l z.2) r).L.length ≤ _
            omega
        · rw [if_neg h3]; exact Nat.le_add_right _ _
      rw [if_neg h2]
      split
      · rename_i r he
        split at he
        · injection he with he; subst he; exact Nat.le_add_right _ _
        · cases he
      · rename_i k' l' L' td' he
        split at he
        · cases he
        · injection he with h0 he1 he2 he3
          subst h0 he1 he2
          cases td' with
          | nil => exact Nat.le_add_right _ _
          | cons z r =>
            have := ih k l L (gv l z.1) (gv l z.2) r
            show (uniW f k l L (gv l z.1) (gv l z.2) r).L.length ≤ _
            omega
def uniT (l : List Int) (L : List Wr) (a b : Int) : UR := uniW 100001 100000 l L a b []
def uL (R : UR) (l : List Int) : List Int := if R.is = true then R.l else l
def uT (R : UR) (L : List Wr) : List Wr := if R.is = true then R.L else L
def occT (l : List Int) (v c : Int) : Bool × Int := if isV l (dr l l.length v) = true then ((occW l (dr l l.length v) 100000 c []).1, (occW l (dr l l.length v) 100000 c []).2.1) else (false, 0)
section
variable {w w' : World} {p q b k : Nat} {K N F : Nat → Prop} {l : List Int} {m : Int} {L : List Wr}
theorem uOcc_nil (a c : Int) (w : World) : Calls Try.prog 44 #[.pointer none, .int .u64 a, .int .u64 c] w fun e w' => e = .returned (.tuple #[.bool false, .int .i64 1]) ∧ w = w' := by
  go_enter Try.func44, Try.ntmps44; go_wp2_with fail
  go_ret2
  exact ⟨rfl, rfl⟩
theorem uUni_nil1 (v : Value) (a c : Int) (w : World) (hv : ∃ q, v = .pointer q) : Calls Try.prog 23 #[.pointer none, v, .int .u64 a, .int .u64 c] w fun e w' => e = .returned (.tuple #[.bool false, .int .i64 1]) ∧ w = w' := by
  obtain ⟨q, rfl⟩ := hv
  go_enter Try.func23, Try.ntmps23; go_wp2_with fail
  go_ret2
  exact ⟨rfl, rfl⟩
theorem uUni_nil2 (p : Addr) (a c : Int) (w : World) : Calls Try.prog 23 #[.pointer (some p), .pointer none, .int .u64 a, .int .u64 c] w fun e w' => e = .returned (.tuple #[.bool false, .int .i64 1]) ∧ w = w' := by
  go_enter Try.func23, Try.ntmps23; go_wp2_with fail
  go_ret2
  exact ⟨rfl, rfl⟩
theorem uOcc_any (h : Hp TH w p F l m) (v c : Int) (hv : W64 v) (hc : W64 c) : Calls Try.prog 44 #[.pointer (some ⟨p, 0, none⟩), .int .u64 v, .int .u64 c] w fun e w' => e = .returned (.tuple #[.bool (occT l v c).1, .int .i64 (occT l v c).2]) ∧ Below w.heap.size w w' := by
  have hdv := deref_any h v hv
  have hwv := dr_w h.wf l.length v hv
  have hvr := uvar_any h _ hwv
  by_cases hi : isV l (dr l l.length v) = true
  · have HO := Lib.hid (show occT l v c = ((occW l (dr l l.length v) 100000 c []).1, (occW l (dr l l.length v) 100000 c []).2.1) by unfold occT; rw [if_pos hi])
    rw [hi] at hvr
    generalize occT l v c = O at *
    generalize dr l l.length v = d at *
    have B1 : Below w.heap.size w (w.alloc (UW p 100000)) := ba w _
    have hoc := uocc_any (h.below B1) (fun hf => by have := h.lt _ hf; omega) (alloc_at w (UW p 100000)) (Nat.le_refl 100000) d c hwv hc _ rfl
    have HH := Lib.hid B1
    obtain ⟨pb, hpb⟩ : ∃ pb, pb = w.heap.size := ⟨_, rfl⟩
    obtain ⟨w1, hw1⟩ : ∃ w1, w1 = w.alloc (UW p 100000) := ⟨_, rfl⟩
    rw [← hpb, ← hw1] at hoc
    have HW := Lib.hid (And.intro hpb hw1)
    have HB := Lib.hid (fun w2 (k1 : Keep (fun i => i = pb) w1 w2) => show Below w.heap.size w w2 from made_below hw1 (by rw [← hpb]; exact k1))
    clear h hv hc hwv hi B1 hpb hw1
    go_enter Try.func44, Try.ntmps44; go_wp2_with fail
    refine hdv.mono ?_; rintro e w' ⟨rfl, rfl⟩
    go_wp2_with fail
    refine hvr.mono ?_; rintro e w' ⟨rfl, rfl⟩
    go_upto_region 7 with fail
    change Code.wp _ _ _ _ (w.alloc (UW p 100000))
    rw [← HW.out.1, ← HW.out.2]
    go_wp2_with fail
    refine hoc.mono ?_; rintro e w2 ⟨rfl, hb2, k2⟩
    have BB := Lib.hid (HB.out w2 k2)
    clear hb2 k2
    go_wp2_with fail
    go_ret2
    rw [HO.out]
    exact ⟨rfl, BB.out⟩
  · have HO := Lib.hid (show occT l v c = (false, 0) by unfold occT; rw [if_neg hi])
    simp only [Bool.not_eq_true] at hi
    rw [hi] at hvr
    generalize occT l v c = O at *
    generalize dr l l.length v = d at *
    clear h hv hc hwv hi
    go_enter Try.func44, Try.ntmps44; go_wp2_with fail
    refine hdv.mono ?_; rintro e w' ⟨rfl, rfl⟩
    go_wp2_with fail
    refine hvr.mono ?_; rintro e w' ⟨rfl, rfl⟩
    go_wp2_with fail
    go_ret2
    rw [HO.out]
    exact ⟨rfl, Below.refl _ _⟩
set_option maxHeartbeats 1000000 in
theorem uUni_any (h : hp.Sys TH TP w p q K l m L) (hL : L.length < 1000000000000) (a c : Int) (ha : W64 a) (hc : W64 c) :
    Calls Try.prog 23 #[.pointer (some ⟨p, 0, none⟩), .pointer (some ⟨q, 0, none⟩), .int .u64 a, .int .u64 c] w fun e w' => e = .returned (.tuple #[.bool (uniT l L a c).is, .int .i64 (uniT l L a c).e]) ∧ SN TH TP w p q K (uL (uniT l L a c) l) m (uT (uniT l L a c) L) w' := by
  obtain ⟨⟨F, G, hpp, ht, hd, hK⟩, hg⟩ := id h
  have hmk := tmark_any ht
  rw [pl_len] at hmk
  have B1 : Below w.heap.size w (w.alloc (UW p (100000 : Nat))) := ba w _
  have hs1 := Sys.below frmP h B1
  have hKb : ∀ i, K i → i < w.heap.size := Sys.lt frmP h
  have hwk : HW p q w.heap.size l m L 100000 (w.alloc (UW p (100000 : Nat))) (fun i => K i ∨ i = w.heap.size) :=
    ⟨K, fun i => i = w.heap.size, hs1, ⟨alloc_at w _, fun _ => Iff.rfl⟩, fun i h1 h2 => by have := hKb i h1; omega, fun _ => Iff.rfl⟩
  have hun := uuni_any hwk (Nat.le_refl _) (by omega) a c ha hc 100001 (by omega) _ rfl
  have hback := Back.uni 100001 100000 l L a c [] (Back.refl l L)
  have hlen := uni_len 100001 100000 l L a c []
  obtain ⟨R, hR⟩ : ∃ R, R = uniT l L a c := ⟨_, rfl⟩
  rw [show uniW 100001 100000 l L a c [] = R from hR.symm] at hun hback hlen
  rw [← hR]
  obtain ⟨pb, hpb⟩ : ∃ pb, pb = w.heap.size := ⟨_, rfl⟩
  obtain ⟨w1, hw1⟩ : ∃ w1, w1 = w.alloc (UW p (100000 : Nat)) := ⟨_, rfl⟩
  rw [← hpb, ← hw1] at hun
  have HWW := Lib.hid (And.intro hpb hw1)
  have HF := Lib.hid (fun w2 (nx : Nx (HW p q pb R.l m R.L R.k) w1 (fun i => K i ∨ i = pb) w2) => show SN TH TP w p q K R.l m R.L w2 from by
    obtain ⟨K2, ⟨K3, M3, hs3, ⟨_, hM3⟩, hd3, he3⟩, k2, s2⟩ := nx
    have sz : w1.heap.size = w.heap.size + 1 := by rw [hw1, alloc_size]
    have kb : Keep K w w1 := Keep.of_below (by rw [hw1]; exact B1)
    refine ⟨K3, hs3, kb.trans k2 (fun i hi => hi.imp id (fun h => by omega)), fun i hi => ?_⟩
    rcases s2 i ((he3 i).2 (Or.inl hi)) with h | h
    · rcases h with h | h
      · exact Or.inl h
      · exact Or.inr (by omega)
    · exact Or.inr (by omega))
  have HU := Lib.hid hback
  have hlenR : R.L.length ≤ 1099511627776 := by omega
  have HL := Lib.hid hlenR
  clear h hpp ht hd hK hg B1 hs1 hKb hwk hback hlen hR ha hc hL hpb hw1 hlenR
  go_enter Try.func23, Try.ntmps23; go_wp2_with fail
  refine hmk.mono ?_; rintro e w' ⟨rfl, rfl⟩
  go_upto_region 5 with fail
  change Code.wp _ _ _ _ (w.alloc (UW p (100000 : Nat)))
  rw [← HWW.out.1, ← HWW.out.2]
  go_wp2_with fail
  refine hun.mono ?_; rintro e w2 ⟨rfl, nx⟩
  have sn := Lib.hid (HF.out w2 nx)
  clear nx hun HF
  obtain ⟨ri, re, rl, rL, rk⟩ := R
  dsimp only at *
  cases ri with
  | true =>
    go_wp2_with fail
    go_ret2
    exact ⟨rfl, sn.out⟩
  | false =>
    obtain ⟨K2, hs2, k2, s2⟩ := sn.out
    have hu := tundo_any hs2 HL.out L.length
    obtain ⟨e1, e2⟩ := HU.out.undo
    rw [e1, e2] at hu
    have HK := Lib.hid (And.intro k2 s2)
    clear hs2 k2 s2 e1 e2 sn
    generalize nb rL (L.length : Int) = nn at *
    go_wp2_with fail
    refine hu.mono ?_; rintro e w3 ⟨rfl, sn3⟩
    have X := Lib.hid (SN.trans HK.out.1 HK.out.2 sn3)
    clear sn3
    go_wp2_with fail
    go_ret2
    exact ⟨rfl, X.out⟩
end
end Go.Proofs.Ythableojkjhicaa.un
