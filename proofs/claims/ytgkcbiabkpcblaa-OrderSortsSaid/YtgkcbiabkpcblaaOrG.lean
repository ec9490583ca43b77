/- Package order: sortParts. -/
import Derived.Test.YtgkcbiabkpcblaaOrF
namespace Go.Proofs.Ytgkcbiabkpcblaa.odg
open Go.ChangeShapes Go.WideShapes Go.ChangeAt Go.RowKit
set_option linter.unusedVariables false
open Go.Proofs.Ytgkcbiabkpcblaa.tm Go.Proofs.Ytgkcbiabkpcblaa.lie Go.Proofs.Ytgkcbiabkpcblaa.kp Go.Proofs.Ytgkcbiabkpcblaa.cur Go.Proofs.Ytgkcbiabkpcblaa.rws Go.Proofs.Ytgkcbiabkpcblaa.pla Go.Proofs.Ytgkcbiabkpcblaa.lev Go.Proofs.Ytgkcbiabkpcblaa.odm Go.Proofs.Ytgkcbiabkpcblaa.odb Go.Proofs.Ytgkcbiabkpcblaa.odc Go.Proofs.Ytgkcbiabkpcblaa.ods Go.Proofs.Ytgkcbiabkpcblaa.ode Go.Proofs.Ytgkcbiabkpcblaa.odf
/-! ### sortParts -/
theorem upE (l : List E) (h : l.length < 2) : Up (l.map E.t) := by
  match l, h with
  | [], _ => simp [Up]
  | [x], _ => simp [Up]
/-- a window's row -/
def win (A : List E) (o n : Nat) : List E := (A.drop o).take n
theorem win_len {A : List E} {o n : Nat} (h : o + n ≤ A.length) : (win A o n).length = n := by unfold win; rw [List.length_take, List.length_drop]; omega
theorem win_eq {A : List E} {o n : Nat} (h : o + n ≤ A.length) : A = A.take o ++ (win A o n ++ A.drop (o + n)) := by
  unfold win
  rw [← List.drop_drop, List.take_append_drop, List.take_append_drop]
theorem win_split {A : List E} {o n k : Nat} (hk : k ≤ n) : win A o n = win A o k ++ win A (o + k) (n - k) := by
  unfold win
  rw [← List.drop_drop]
  have : n = k + (n - k) := by omega
  conv => lhs; rw [this]
  rw [List.take_add]
theorem win_mid {A M : List E} {o n : Nat} (hM : M.length = n) (h : o ≤ A.length) : win (A.take o ++ (M ++ A.drop (o + n))) o n = M := by
  unfold win
  have hl : (A.take o).length = o := by rw [List.length_take]; omega
  rw [List.drop_append_of_le_length (by omega), List.drop_of_length_le (by omega), List.nil_append, List.take_append_of_le_length (by omega), List.take_of_length_le (by omega)]
theorem win_out {A M : List E} {o n o' n' : Nat} (hM : M.length = n) (h : o + n ≤ A.length) (hd : o' + n' ≤ o ∨ o + n ≤ o') : win (A.take o ++ (M ++ A.drop (o + n))) o' n' = win A o' n' := by
  apply List.ext_getElem?
  intro j
  unfold win
  rw [List.getElem?_take, List.getElem?_take]
  split
  · rename_i hj
    rw [List.getElem?_drop, List.getElem?_drop]
    have hl : (A.take o).length = o := by rw [List.length_take]; omega
    rcases hd with hd | hd
    · rw [List.getElem?_append_left (by omega), List.getElem?_take, if_pos (by omega)]
    · rw [List.getElem?_append_right (by omega), List.getElem?_append_right (by omega), hl, hM, List.getElem?_drop]
      congr 1; omega
  · rfl
theorem mid_len {A M : List E} {o n : Nat} (hM : M.length = n) (h : o + n ≤ A.length) : (A.take o ++ (M ++ A.drop (o + n))).length = A.length := by
  simp only [List.length_append, List.length_take, List.length_drop]; omega
theorem win_win {A : List E} {o n j m : Nat} (h : j + m ≤ n) : win (win A o n) j m = win A (o + j) m := by
  apply List.ext_getElem?
  intro i
  unfold win
  simp only [List.getElem?_take, List.getElem?_drop]
  by_cases hi : i < m
  · rw [if_pos hi, if_pos hi, if_pos (by omega), Nat.add_assoc]
  · rw [if_neg hi, if_neg hi]
/-- A' is A but for the window, which holds the same terms, rising -/
structure Srt (A A' : List E) (o n : Nat) : Prop where
  len : A'.length = A.length
  pm : (win A' o n).Perm (win A o n)
  up : Up ((win A' o n).map E.t)
  out : ∀ o' n', o' + n' ≤ o ∨ o + n ≤ o' → win A' o' n' = win A o' n'
/-- B' is B but within the window -/
structure Oth (B B' : List E) (o n : Nat) : Prop where
  len : B'.length = B.length
  out : ∀ o' n', o' + n' ≤ o ∨ o + n ≤ o' → win B' o' n' = win B o' n'
set_option maxRecDepth 100000 in
set_option maxHeartbeats 4000000 in
theorem sortParts_any : ∀ (m : Nat) (W w : World) (P Q o o2 n c c2 : Nat) (a a2 : Option Addr) (A B : List E) (sp sq : List Value), n ≤ m → SO W P Q A B sp sq w → Win P o a n c → Win Q o2 a2 n c2 → o + n ≤ A.length → o2 + n ≤ B.length → (∀ x ∈ win A o n, sound x.t = true) → n ≤ 1000000000 →
    Calls Try.prog 51 #[.slice a n c, .slice a2 n c2] w fun e w' => e = .returned (.tuple #[]) ∧ ∃ A' B' : List E, Srt A A' o n ∧ Oth B B' o2 n ∧ SO W P Q A' B' sp sq w' := by
  intro m
  induction m with
  | zero =>
    intro W w P Q o o2 n c c2 a a2 A B sp sq hm h h1 h2 hA hB hs hbig
    have hn : n = 0 := by omega
    subst hn
    have HH := Lib.hid (And.intro h (And.intro hA hB))
    clear h h1 h2 hA hB hs
    go_enter Try.func51, Try.ntmps51
    go_wp2_with fail
    refine bodyPost_ret (results_none rfl _ _ _) rfl ?_
    exact ⟨rfl, A, B, ⟨rfl, .refl _, upE _ (by unfold win; simp), fun _ _ _ => rfl⟩, ⟨rfl, fun _ _ _ => rfl⟩, HH.out.1⟩
  | succ m ih =>
    intro W w P Q o o2 n c c2 a a2 A B sp sq hm h h1 h2 hA hB hs hbig
    by_cases h2' : n < 2
    · have HH := Lib.hid (And.intro h (And.intro hA hB))
      clear h h1 h2 hA hB hs
      go_enter Try.func51, Try.ntmps51
      go_wp2_with fail
      refine bodyPost_ret (results_none rfl _ _ _) rfl ?_
      exact ⟨rfl, A, B, ⟨rfl, .refl _, upE _ (by have := HH.out.2.1; rw [win_len this]; omega), fun _ _ _ => rfl⟩, ⟨rfl, fun _ _ _ => rfl⟩, HH.out.1⟩
    · have IH := Lib.hid ih
      obtain ⟨k, hk⟩ : ∃ k, k = n / 2 := ⟨_, rfl⟩
      have hk1 : k ≤ n := by omega
      have hq : ((n : Int).tdiv 2) = (k : Int) := by rw [hk]; rfl
      have hw : wrap64 (k : Int) = k := by unfold wrap64; omega
      obtain ⟨wa, ra, _⟩ := h1.hi hk1
      obtain ⟨wb, rb, _⟩ := h2.hi hk1
      obtain ⟨a', wc, rc, _⟩ := h1.lo hk1
      obtain ⟨a2', wd, rd, _⟩ := h2.lo hk1
      have HW := Lib.hid (And.intro h1 (And.intro h2 (And.intro wa (And.intro wb (And.intro wc wd)))))
      have HH := Lib.hid (And.intro h (And.intro hA (And.intro hB (And.intro hs (And.intro hk (And.intro hm hk1))))))
      have HB := Lib.hid (show 1 ≤ k ∧ k < n by omega)
      clear h h1 h2 hA hB hs wa wb wc wd hk hm hk1
      go_enter Try.func51, Try.ntmps51
      go_wp2_with fail
      go_still_tail 6, (by kernel_rfl)
      change wpList _ _ _ _ _ w.drew
      have hd := HH.out.1.below (bdr w)
      obtain ⟨wd, hwd⟩ : ∃ wd, wd = w.drew := ⟨_, rfl⟩
      rw [← hwd] at hd ⊢
      have HD := Lib.hid hd
      clear hwd hd
      go_wp2_with fail
      refine (IH.out W wd P Q o o2 k c c2 a a2 A B sp sq (by have := HH.out; have := HB.out; omega) HD.out HW.out.2.2.1 HW.out.2.2.2.1 (by have := HH.out; omega) (by have := HH.out; omega) (fun x hx => HH.out.2.2.2.1 x (by rw [win_split (k := k) HH.out.2.2.2.2.2.2]; exact List.mem_append.2 (Or.inl hx))) (by have := HH.out; omega)).mono ?_
      rintro e w2 ⟨rfl, A1, B1, s1, q1, h1⟩
      have hA1 : o + n ≤ A1.length := by have := s1.len; have := HH.out; omega
      have hB1 : o2 + n ≤ B1.length := by have := q1.len; have := HH.out; omega
      have H1 := Lib.hid (And.intro s1 (And.intro q1 (And.intro h1 (And.intro hA1 hB1))))
      clear s1 q1 h1 hA1 hB1
      go_wp2_with fail
      go_still_tail 6, (by kernel_rfl)
      change wpList _ _ _ _ _ w2.drew
      have hd := H1.out.2.2.1.below (bdr w2)
      obtain ⟨wd2, hwd⟩ : ∃ wd, wd = w2.drew := ⟨_, rfl⟩
      rw [← hwd] at hd ⊢
      have HD2 := Lib.hid hd
      clear hwd hd
      go_wp2_with fail
      have ew : win A1 (o + k) (n - k) = win A (o + k) (n - k) := H1.out.1.out _ _ (Or.inr (Nat.le_refl _))
      refine (IH.out W wd2 P Q (o + k) (o2 + k) (n - k) (c - k) (c2 - k) a' a2' A1 B1 sp sq (by have := HH.out; have := HB.out; omega) HD2.out HW.out.2.2.2.2.1 HW.out.2.2.2.2.2 (by have := H1.out; have := HH.out; omega) (by have := H1.out; have := HH.out; omega) (fun x hx => HH.out.2.2.2.1 x (by rw [ew] at hx; rw [win_split (k := k) HH.out.2.2.2.2.2.2]; exact List.mem_append.2 (Or.inr hx))) (by have := HH.out; omega)).mono ?_
      rintro e w3 ⟨rfl, A2, B2, s2, q2, h2⟩
      have hA2 : o + n ≤ A2.length := by have := s2.len; have := H1.out; omega
      have hB2 : o2 + n ≤ B2.length := by have := q2.len; have := H1.out; omega
      obtain ⟨w4, hcp, h4⟩ := so_copy h2 HW.out.1 HW.out.2.1 hA2 hB2 (by have := HB.out; omega)
      obtain ⟨B3, hB3⟩ : ∃ B3, B3 = B2.take o2 ++ (win A2 o n ++ B2.drop (o2 + n)) := ⟨_, rfl⟩
      have h4' : SO W P Q A2 B3 sp sq w4 := by rw [hB3]; exact h4
      have e1 : win A2 o k = win A1 o k := s2.out _ _ (Or.inl (Nat.le_refl _))
      have hkn := HH.out.2.2.2.2.2.2
      have eM : win B3 o2 n = win A2 o n := by rw [hB3]; exact win_mid (win_len hA2) (by omega)
      have eF : win A2 o k = win B3 o2 k := by
        have a1 := win_win (A := A2) (o := o) (n := n) (j := 0) (m := k) (by omega)
        have a2 := win_win (A := B3) (o := o2) (n := n) (j := 0) (m := k) (by omega)
        rw [Nat.add_zero] at a1 a2
        rw [← a1, ← a2, eM]
      have eS : win A2 (o + k) (n - k) = win B3 (o2 + k) (n - k) := by
        have a1 := win_win (A := A2) (o := o) (n := n) (j := k) (m := n - k) (by omega)
        have a2 := win_win (A := B3) (o := o2) (n := n) (j := k) (m := n - k) (by omega)
        rw [← a1, ← a2, eM]
      have lF : (win A2 o k).length = k := win_len (by omega)
      have lS : (win A2 (o + k) (n - k)).length = n - k := win_len (by omega)
      have hB3l : B3.length = B2.length := by rw [hB3]; exact mid_len (win_len hA2) hB2
      have sF : ∀ x ∈ win A2 o k, sound x.t = true := fun x hx => by
        rw [e1] at hx
        exact HH.out.2.2.2.1 x (by rw [win_split (k := k) hkn]; exact List.mem_append.2 (Or.inl (H1.out.1.pm.mem_iff.1 hx)))
      have sS : ∀ x ∈ win A2 (o + k) (n - k), sound x.t = true := fun x hx => by
        have := s2.pm.mem_iff.1 hx
        rw [ew] at this
        exact HH.out.2.2.2.1 x (by rw [win_split (k := k) hkn]; exact List.mem_append.2 (Or.inr this))
      have uF : Up ((win A2 o k).map E.t) := by rw [e1]; exact H1.out.1.up
      have hmg := fun w' hw' => merge_any (W := W) (w := w') (P := P) (Q := Q) (o := o) (o1 := o2) (o2 := o2 + k) (n := n) (c := c) (c1 := c2) (c2 := c2 - k) (a := a) (a1 := a2) (a2 := a2') (A := A2) (B := B3) (F := win A2 o k) (S := win A2 (o + k) (n - k)) (sp := sp) (sq := sq) hw'
        (by rw [lF, lS]; omega) HW.out.1 (by rw [lF]; exact HW.out.2.2.2.1) (by rw [lS]; exact HW.out.2.2.2.2.2) hA2 (by rw [lF]; exact eF) (by rw [lS]; exact eS) sF sS uF s2.up (by rw [lF]; omega) (by rw [lS]; omega) hbig
      have HM := Lib.hid hmg
      rw [lF, lS] at HM
      have H2 := Lib.hid (And.intro s2 (And.intro q2 (And.intro h4' (And.intro hA2 (And.intro hB2 (And.intro hB3 (And.intro e1 ew)))))))
      clear s2 q2 h2 h4 h4' hA2 hB2 hB3 e1 ew hkn eM eF eS lF lS hB3l sF sS uF hmg
      go_wp2_with fail
      go_still_tail 7, (by kernel_rfl)
      change wpList _ _ _ _ _ w4.drew
      have hd := H2.out.2.2.1.below (bdr w4)
      obtain ⟨wd4, hwd⟩ : ∃ wd, wd = w4.drew := ⟨_, rfl⟩
      rw [← hwd] at hd ⊢
      have HD4 := Lib.hid hd
      clear hwd hd hcp
      go_wp2_with fail
      refine (HM.out wd4 HD4.out).mono ?_
      rintro e w5 ⟨rfl, M, hpm, hup, h5⟩
      have H5 := Lib.hid (And.intro hpm (And.intro hup h5))
      clear hpm hup h5
      go_wp2_with fail
      go_end0
      obtain ⟨s2, q2, _, hA2, hB2, hB3, e1, ew⟩ := H2.out
      obtain ⟨hpm, hup, h5⟩ := H5.out
      obtain ⟨s1, q1, _, hA1, hB1⟩ := H1.out
      have hkn := HH.out.2.2.2.2.2.2
      have hMl : M.length = n := by rw [hpm.length_eq, List.length_append, win_len (by omega), win_len (by omega)]; omega
      refine ⟨rfl, _, B3, ⟨?_, ?_, ?_, ?_⟩, ⟨?_, ?_⟩, h5⟩
      · rw [mid_len hMl hA2, s2.len, s1.len]
      · rw [win_mid hMl (by omega), win_split (A := A) (k := k) hkn]
        exact hpm.trans ((e1 ▸ s1.pm).append (ew ▸ s2.pm))
      · rw [win_mid hMl (by omega)]; exact hup
      · intro o' n' hd
        rw [win_out hMl hA2 hd, s2.out _ _ (by omega), s1.out _ _ (by omega)]
      · rw [hB3, mid_len (win_len hA2) hB2, q2.len, q1.len]
      · intro o' n' hd
        rw [hB3, win_out (win_len hA2) hB2 hd, q2.out _ _ (by omega), q1.out _ _ (by omega)]
end Go.Proofs.Ytgkcbiabkpcblaa.odg
