/- The reference's operators: front, before. -/
import Derived.Test.YtnpdipmkikakcaaOpB2
import Derived.Test.YtnpdipmkikakcaaOpR
namespace Go.Proofs.Ytnpdipmkikakcaa.ops_
open Go.ChangeShapes Go.WideShapes Go.ChangeAt Go.RowKit
open Go.Proofs.Ytnpdipmkikakcaa.kp Go.Proofs.Ytnpdipmkikakcaa.opa Go.Proofs.Ytnpdipmkikakcaa.opb Go.Proofs.Ytnpdipmkikakcaa.opb2 Go.Proofs.Ytnpdipmkikakcaa.opc Go.Proofs.Ytnpdipmkikakcaa.opd Go.Proofs.Ytnpdipmkikakcaa.ope Go.Proofs.Ytnpdipmkikakcaa.opf Go.Proofs.Ytnpdipmkikakcaa.opg Go.Proofs.Ytnpdipmkikakcaa.oph Go.Proofs.Ytnpdipmkikakcaa.opq Go.Proofs.Ytnpdipmkikakcaa.opr
set_option linter.unusedVariables false
set_option linter.unusedSimpArgs false
theorem rfront_any (x : D) (w : World) : Calls Try.prog 31 #[x.v] w fun e w' => e = .returned (.bool (fr x.k)) ∧ Below w.heap.size w w' := by
  have HB := Lib.hid (ba w (.cells x.cs.toArray 32))
  obtain ⟨n, k, p⟩ := x
  simp only [D.v]
  by_cases h4 : k = 4
  · subst h4
    go_enter Try.func31, Try.ntmps31; go_wp2; go_ret; exact ⟨rb (by decide), HB.out⟩
  · have e4 : (k == 4) = false := by rw [beq_eq_false_iff_ne]; exact h4
    by_cases h5 : k = 5
    · subst h5
      go_enter Try.func31, Try.ntmps31; go_wp2; go_ret; exact ⟨rb (by decide), HB.out⟩
    · have e5 : (k == 5) = false := by rw [beq_eq_false_iff_ne]; exact h5
      have e : Hid (fr k = false) := Lib.hid (by simp [fr, h4, h5])
      clear h4 h5
      go_enter Try.func31, Try.ntmps31; go_wp2; go_ret; exact ⟨rb e.out.symm, HB.out⟩
set_option maxRecDepth 100000 in
set_option maxHeartbeats 4000000 in
theorem rbefore_any (x y : D) (w : World) : Calls Try.prog 34 #[x.v, y.v] w fun e w' => e = .returned (.bool (decide (cd x y < 0))) ∧ Below w.heap.size w w' := by
  have hS0 := T2.mk' w x y
  have HS := Lib.hid hS0
  have HV : Hid (decide (cd x y < 0) = (decide (cb x.n y.n < 0) || (decide (x.n = y.n) && (fr x.k && !fr y.k)))) := Lib.hid (by
    have hz := cb_zero x.n y.n
    have e3 : cb y.n y.n = 0 := (cb_zero _ _).2 rfl
    unfold cd
    by_cases e : cb x.n y.n = 0
    · have e2 := hz.1 e
      rw [if_pos e]
      have hw := cw_neg' (pl x.k) (pl y.k)
      unfold pl at hw ⊢
      cases h1 : fr x.k <;> cases h2 : fr y.k <;> simp [e2, e3, h1, h2, cw]
    · rw [if_neg e]
      have : ¬ x.n = y.n := fun q => e (hz.2 q)
      simp [this])
  obtain ⟨n, k, p⟩ := x
  obtain ⟨n', k', p'⟩ := y
  obtain ⟨e0, e1, e2, e3⟩ := hS0.cells
  have hlt := (Array.getElem?_eq_some_iff.1 hS0.a).1
  simp only [D.cs, D.v] at hS0 e0 e1 e2 e3 hlt ⊢
  have hbl := cb_less n n'
  clear hS0
  by_cases h1 : cb n n' < 0
  · rw [decide_eq_true h1] at hbl
    have HV2 : Hid (decide (cd (⟨n, k, p⟩ : D) ⟨n', k', p'⟩ < 0) = true) := Lib.hid (by rw [HV.out]; simp [h1])
    clear h1 HV
    go_enter Try.func34, Try.ntmps34
    go_wp2_with fail
    go_ret
    exact ⟨rb HV2.out.symm, HS.out.bel⟩
  · rw [decide_eq_false h1] at hbl
    by_cases h2 : n = n'
    · subst h2
      have HV2 : Hid (decide (cd (⟨n, k, p⟩ : D) ⟨n, k', p'⟩ < 0) = (fr k && !fr k')) := Lib.hid (by rw [HV.out]; simp [h1])
      clear h1 HV
      go_enter Try.func34, Try.ntmps34
      go_wp2_with fail
      refine (rfront_any ⟨n, k, p⟩ _).mono ?_
      rintro e w5 ⟨rfl, hb5⟩
      have HS5 := Lib.hid (HS.out.below hb5)
      obtain ⟨f0, f1, f2, f3⟩ := HS5.out.cells
      obtain ⟨y0, y1, y2, _⟩ := box_cells HS5.out.b
      clear hb5 e0 e1 e2 e3 hlt
      cases hk : fr k
      · rw [hk] at HV2
        clear hk
        go_wp2_with fail
        go_ret
        exact ⟨rb HV2.out.symm, HS5.out.bel⟩
      · rw [hk] at HV2
        clear hk
        go_wp2_with fail
        refine (rfront_any ⟨n, k', p'⟩ _).mono ?_
        rintro e w6 ⟨rfl, hb6⟩
        have HS6 := Lib.hid (HS5.out.below hb6)
        clear hb6 f0 f1 f2 f3 y0 y1 y2
        cases hk' : fr k'
        · rw [hk'] at HV2
          clear hk'
          go_wp2_with fail
          go_ret
          exact ⟨rb HV2.out.symm, HS6.out.bel⟩
        · rw [hk'] at HV2
          clear hk'
          go_wp2_with fail
          go_ret
          exact ⟨rb HV2.out.symm, HS6.out.bel⟩
    · have hne : (n == n') = false := by rw [beq_eq_false_iff_ne]; exact h2
      have HV2 : Hid (decide (cd (⟨n, k, p⟩ : D) ⟨n', k', p'⟩ < 0) = false) := Lib.hid (by rw [HV.out]; simp [h1, h2])
      clear h1 HV h2
      go_enter Try.func34, Try.ntmps34
      go_wp2_with fail
      go_ret
      exact ⟨rb HV2.out.symm, HS.out.bel⟩
end Go.Proofs.Ytnpdipmkikakcaa.ops_
