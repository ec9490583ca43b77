/- The law NumberRange holds: for every input its Go function returns true and leaves its arguments as they were. No condition beyond the row's own. -/
import Derived.Test.YtljefgjbneefkaaRows
import Derived.WalkKit
import Derived.ProofKit
import Derived.OpenShut
import Derived.Test.YtljefgjbneefkaaNum
import Derived.Test.YtljefgjbneefkaaMul
import Derived.Lib.Hide
namespace Go.Proofs.Ytljefgjbneefkaa.numberRange
open Go.ChangeShapes Go.WideShapes Go.ChangeAt Go.RowKit
set_option linter.unusedVariables false      -- a walk need not use every 'w<i>' (that an integer argument fits its kind)

theorem own : ownKnob Try.prog.godebug = none := by kernel_rfl

/-! ### STEP 1: THE WALK: the Go text returns true. 'Grown w w'': the world has at most new blocks (Derived/RowKit3.lean). Part the cases AHEAD of 'go_enter' where a test parts the walk; take each callee by a contract of your own. -/
open Go.Proofs.Ytljefgjbneefkaa.num
theorem walk (a0 : Int) (a1 : Int) (w0 : (Lit.int .i64 a0).wf = true) (w1 : (Lit.int .i64 a1).wf = true) (w : World) :
    Calls Try.prog 5 #[.int .i64 a0, .int .i64 a1] w fun e w' => e = .returned (.bool true) ∧ Grown w w' := by
  have fa := fits_wf w0
  have fb := fits_wf w1
  have hx : Hid (rv (a0 * 1) = a0 ∧ re (a0 * 1) = 0) := Lib.hid (by rw [Int.mul_one]; exact ⟨rv_in fa, re_in fa⟩)
  have hy : Hid (rv (a0 * 0) = 0 ∧ re (a0 * 0) = 0) := Lib.hid (by rw [Int.mul_zero]; exact ⟨rfl, rfl⟩)
  have hc : Hid (a1 + a0 = a0 + a1) := Lib.hid (Int.add_comm _ _)
  have hm : Hid (a1 * a0 = a0 * a1) := Lib.hid (Int.mul_comm _ _)
  clear w0 w1
  by_cases h : Fits (a0 + a1)
  · have e1 : Hid (rv (a0 + a1) = a0 + a1) := Lib.hid (rv_in h)
    have e2 : Hid (re (a0 + a1) = 0) := Lib.hid (re_in h)
    have e3 : Hid (rv (a0 + a1 - a1) = a0 ∧ re (a0 + a1 - a1) = 0) := Lib.hid (by rw [Int.add_sub_cancel]; exact ⟨rv_in fa, re_in fa⟩)
    go_enter Try.func5, Try.ntmps5
    go_wp2_with fail
    refine (add_any a0 a1 _ fa fb).mono ?_; rintro e w' ⟨rfl, rfl⟩; rw [e1.out, e2.out]
    go_wp2_with fail
    refine (sub_any (a0 + a1) a1 _ h fb).mono ?_; rintro e w' ⟨rfl, rfl⟩; rw [e3.out.1, e3.out.2]
    go_wp2_with fail
    refine (add_any a1 a0 _ fb fa).mono ?_; rintro e w' ⟨rfl, rfl⟩; rw [hc.out, e1.out, e2.out]
    go_wp2_with fail
    refine (mul_any a0 1 _ fa (by decide)).mono ?_; rintro e w' ⟨rfl, rfl⟩; rw [hx.out.1, hx.out.2]
    go_wp2_with fail
    refine (mul_any a0 0 _ fa (by decide)).mono ?_; rintro e w' ⟨rfl, rfl⟩; rw [hy.out.1, hy.out.2]
    go_wp2_with fail
    refine (mul_any a1 a0 _ fb fa).mono ?_; rintro e w' ⟨rfl, rfl⟩; rw [hm.out]
    go_wp2_with fail
    refine (mul_any a0 a1 _ fa fb).mono ?_; rintro e w' ⟨rfl, rfl⟩
    go_wp2_with fail
    refine (awake_any _).mono ?_; rintro e w' ⟨rfl, rfl⟩
    go_wp2_with fail
    go_ret
    exact ⟨rfl, by repeat (first | exact Grown.refl _ | apply Grown.drew | apply Grown.alloc)⟩
  · have e1 : Hid (rv (a0 + a1) = 0) := Lib.hid (rv_out h)
    have e2 : Hid (re (a0 + a1) = 6) := Lib.hid (re_out h)
    go_enter Try.func5, Try.ntmps5
    go_wp2_with fail
    refine (add_any a0 a1 _ fa fb).mono ?_; rintro e w' ⟨rfl, rfl⟩; rw [e1.out, e2.out]
    go_wp2_with fail
    refine (add_any a1 a0 _ fb fa).mono ?_; rintro e w' ⟨rfl, rfl⟩; rw [hc.out, e1.out, e2.out]
    go_wp2_with fail
    refine (mul_any a0 1 _ fa (by decide)).mono ?_; rintro e w' ⟨rfl, rfl⟩; rw [hx.out.1, hx.out.2]
    go_wp2_with fail
    refine (mul_any a0 0 _ fa (by decide)).mono ?_; rintro e w' ⟨rfl, rfl⟩; rw [hy.out.1, hy.out.2]
    go_wp2_with fail
    refine (mul_any a1 a0 _ fb fa).mono ?_; rintro e w' ⟨rfl, rfl⟩; rw [hm.out]
    go_wp2_with fail
    refine (mul_any a0 a1 _ fa fb).mono ?_; rintro e w' ⟨rfl, rfl⟩
    go_wp2_with fail
    refine (awake_any _).mono ?_; rintro e w' ⟨rfl, rfl⟩
    go_wp2_with fail
    go_ret
    exact ⟨rfl, by repeat (first | exact Grown.refl _ | apply Grown.drew | apply Grown.alloc)⟩

/-! ### THE ROW's STEP: WRITTEN OUT: LEAVE IT -/
set_option maxRecDepth 100000 in
theorem lifted (os : Os) (started : os.Started) (H : Type) (enc : TypeId × Value → H) :
    ReturnsInHanded {} Try.checked os 5 .any (Rows.numberRangeSpec.pre6 enc Try.prog Try.f5 Rows.numberRangeRow.domain false) (Rows.numberRangeSpec.post enc Try.prog Try.f5 false true false false) := by
  refine returnsInHanded_of_change (C := Try.checked) own started (by kernel_rfl) Try.func5
    (ChangeSpec.witness6 (enc := enc) (C := Try.checked) false ⟨#[], #[.int .i64 0, .int .i64 0], []⟩ 8 (by kernel_rfl) (by kernel_rfl) (by kernel_rfl) (by kernel_rfl)) ?_
  intro W base args ds gs before hval0 hW hcnd _
  have hval : ∀ (j : Nat) t v, Try.f5.params[j]? = some t → args[j]? = some v → Value.okWide Try.prog W .any base t v := hval0
  have hW' := hW
  obtain ⟨p, q, hA0, hV, rfl, hfz, hnd⟩ := hW
  have hA : DataW.TrodAll enc Try.prog W 0 (fun _ => true) true Try.f5.params.toList args.toList ds p := hA0
  rw [Try.params5] at hA hval
  obtain ⟨v0, vs0, d0, ds0, p0, q0, hargs, rfl, rfl, h0, r0⟩ := trodAll_cons hA
  obtain ⟨v1, vs1, d1, ds1, p1, q1, rfl, rfl, rfl, h1, r1⟩ := trodAll_cons r0
  obtain ⟨rfl, rfl, rfl⟩ := trodAll_nil r1
  obtain rfl : args = #[v0, v1] := by cases args; simp_all
  obtain ⟨rfl, rfl⟩ := trodVars_none hV
  obtain ⟨a0, rfl, rfl, rfl, w0⟩ := open_int Try.underlying2 (hval 0 2 v0 rfl rfl) h0
  obtain ⟨a1, rfl, rfl, rfl, w1⟩ := open_int Try.underlying2 (hval 1 2 v1 rfl rfl) h1
  clear hA0 hval0
  simp only [List.append_nil] at hW'
  refine (walk a0 a1 w0 w1 W).mono fun e W' ⟨he, hg⟩ => ?_
  subst he
  exact ⟨_, rfl, post_of_same (pa := []) (pv := []) hW' (fun _ _ _ => (trodAll_cons_mk (shut_bool Try.underlying4 _) trodAll_mk0)) (fun sp _ => (trodAll_cons_mk (shut_int Try.underlying2 w0) (trodAll_cons_mk (shut_int Try.underlying2 w1) trodAll_mk0))) (fun _ _ => rfl) rfl
    (hg.frame _) hg.2.1 (ok_one (by kernel_rfl) rfl (okWide_bool_mk Try.underlying4 _))⟩

theorem over : Rows.numberRangeRow.holds Try.pinned (OpenSpec.ofChange Rows.numberRangeSpec) :=
  OpenClaim.holds_of_wide 5 Try.f5 rfl rfl rfl rfl rfl rfl rfl ⟨rfl, rfl, rfl, rfl, rfl⟩ rfl rfl rfl rfl rfl (by kernel_rfl) Try.func5 (by kernel_rfl)
    (of_decide_eq_true (by kernel_rfl)) (by unfold Func.isWrapper; first | (rw [if_pos (by decide +kernel)]; kernel_rfl) | (rw [if_neg (by decide +kernel)]; exact ⟨rfl, rfl⟩))
    (fun os started H enc _ => lifted os started H enc)

/-- ████ THE STATEMENT ████ -/
theorem proved : Rows.NumberRangeSaid :=
  over
#print axioms proved
end Go.Proofs.Ytljefgjbneefkaa.numberRange
