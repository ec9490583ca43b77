/- The law NumberReckons holds: for every input its Go function returns true and leaves its arguments as they were. No condition beyond the row's own. -/
import Derived.Test.YtljefgjbneefkaaRows
import Derived.WalkKit
import Derived.ProofKit
import Derived.OpenShut
import Derived.Test.YtljefgjbneefkaaNum
import Derived.Test.YtljefgjbneefkaaMul
import Derived.Lib.Hide
import Derived.Outline
import Derived.LoopTactic
import Derived.Laws.EntriesVeiled
import Derived.WalkLawsBesides
import Derived.WalkSpells
namespace Go.Proofs.Ytljefgjbneefkaa.numberReckons
open Go.ChangeShapes Go.WideShapes Go.ChangeAt Go.RowKit
set_option linter.unusedVariables false      -- a walk need not use every 'w<i>' (that an integer argument fits its kind)

theorem own : ownKnob Try.prog.godebug = none := by kernel_rfl

/-! ### STEP 1: THE WALK: the Go text returns true. 'Grown w w'': the world has at most new blocks (Derived/RowKit3.lean). Part the cases AHEAD of 'go_enter' where a test parts the walk; take each callee by a contract of your own. -/
open Go.Proofs.Ytljefgjbneefkaa.num
/-- the table of calls -/
abbrev tab : Value := .agg #[.func (.func 9) #[] #[], .func (.func 10) #[] #[], .func (.func 11) #[] #[], .func (.func 12) #[] #[], .func (.func 13) #[] #[], .func (.func 14) #[] #[], .func (.func 15) #[] #[], .func (.func 16) #[] #[], .func (.func 17) #[] #[], .func (.func 18) #[] #[], .func (.func 19) #[] #[], .func (.func 20) #[] #[]]
theorem ix0 (w : World) : (Instr.index 25 tab (.int .i64 0)).run Try.prog w = .ok (.agg #[.func (.func 9) #[] #[], .func (.func 10) #[] #[]]) w := by kernel_rfl
theorem ix1 (w : World) : (Instr.index 25 tab (.int .i64 1)).run Try.prog w = .ok (.agg #[.func (.func 11) #[] #[], .func (.func 12) #[] #[]]) w := by kernel_rfl
theorem ix2 (w : World) : (Instr.index 25 tab (.int .i64 2)).run Try.prog w = .ok (.agg #[.func (.func 13) #[] #[], .func (.func 14) #[] #[]]) w := by kernel_rfl
theorem ix3 (w : World) : (Instr.index 25 tab (.int .i64 3)).run Try.prog w = .ok (.agg #[.func (.func 15) #[] #[], .func (.func 16) #[] #[]]) w := by kernel_rfl
theorem ix4 (w : World) : (Instr.index 25 tab (.int .i64 4)).run Try.prog w = .ok (.agg #[.func (.func 17) #[] #[], .func (.func 18) #[] #[]]) w := by kernel_rfl
theorem ix5 (w : World) : (Instr.index 25 tab (.int .i64 5)).run Try.prog w = .ok (.agg #[.func (.func 19) #[] #[], .func (.func 20) #[] #[]]) w := by kernel_rfl
set_option maxHeartbeats 4000000 in
theorem walk (a0 : Int) (a1 : Int) (w0 : (Lit.int .i64 a0).wf = true) (w1 : (Lit.int .i64 a1).wf = true) (w : World) :
    Calls Try.prog 3 #[.int .i64 a0, .int .i64 a1] w fun e w' => e = .returned (.bool true) ∧ Grown w w' := by
  have fa := fits_wf w0
  have fb := fits_wf w1
  clear w0 w1
  go_enter Try.func3, Try.ntmps3
  go_wp2_with fail
  go_loopw [18] (fun i wr => ∃ k : Nat, k ≤ 6 ∧ i = .int .i64 k ∧ Grown w wr) (fun i _ => 6 - (intOf i).toNat)
  case atStart => exact ⟨0, by omega, rfl, Grown.refl _⟩
  case round =>
    obtain ⟨k, hk, rfl, hg⟩ := hrel
    by_cases hlt : k < 6
    · match k, hlt with
      | 0, _ =>
        have ik := ix0
        go_wp2_with fail
        refine (add_any a0 a1 _ fa fb).mono ?_; rintro e w' ⟨rfl, rfl⟩
        go_wp2_with fail
        refine (radd_any a0 a1 _ fa fb).mono ?_; rintro e w' ⟨rfl, rfl⟩
        go_wp2_with fail
        go_roundw
        case rel => exact ⟨0 + 1, by omega, by go_num, by repeat (first | exact hg | apply Grown.drew | apply Grown.alloc)⟩
        case measure => simp [intOf]
      | 1, _ =>
        have ik := ix1
        go_wp2_with fail
        refine (sub_any a0 a1 _ fa fb).mono ?_; rintro e w' ⟨rfl, rfl⟩
        go_wp2_with fail
        refine (rsub_any a0 a1 _ fa fb).mono ?_; rintro e w' ⟨rfl, rfl⟩
        go_wp2_with fail
        go_roundw
        case rel => exact ⟨1 + 1, by omega, by go_num, by repeat (first | exact hg | apply Grown.drew | apply Grown.alloc)⟩
        case measure => simp [intOf]
      | 2, _ =>
        have ik := ix2
        go_wp2_with fail
        refine (mul_any a0 a1 _ fa fb).mono ?_; rintro e w' ⟨rfl, rfl⟩
        go_wp2_with fail
        refine (rmul_any a0 a1 _ fa fb).mono ?_; rintro e w' ⟨rfl, rfl⟩
        go_wp2_with fail
        go_roundw
        case rel => exact ⟨2 + 1, by omega, by go_num, by repeat (first | exact hg | apply Grown.drew | apply Grown.alloc)⟩
        case measure => simp [intOf]
      | 3, _ =>
        have ik := ix3
        go_wp2_with fail
        refine (div_any a0 a1 _ fa fb).mono ?_; rintro e w' ⟨rfl, rfl⟩
        go_wp2_with fail
        refine (rdiv_any a0 a1 _ fa fb).mono ?_; rintro e w' ⟨rfl, rfl⟩
        go_wp2_with fail
        go_roundw
        case rel => exact ⟨3 + 1, by omega, by go_num, by repeat (first | exact hg | apply Grown.drew | apply Grown.alloc)⟩
        case measure => simp [intOf]
      | 4, _ =>
        have ik := ix4
        go_wp2_with fail
        refine (mod_any a0 a1 _ fa fb).mono ?_; rintro e w' ⟨rfl, rfl⟩
        go_wp2_with fail
        refine (rmod_any a0 a1 _ fa fb).mono ?_; rintro e w' ⟨rfl, rfl⟩
        go_wp2_with fail
        go_roundw
        case rel => exact ⟨4 + 1, by omega, by go_num, by repeat (first | exact hg | apply Grown.drew | apply Grown.alloc)⟩
        case measure => simp [intOf]
      | 5, _ =>
        have ik := ix5
        go_wp2_with fail
        refine (rem_any a0 a1 _ fa fb).mono ?_; rintro e w' ⟨rfl, rfl⟩
        go_wp2_with fail
        refine (rrem_any a0 a1 _ fa fb).mono ?_; rintro e w' ⟨rfl, rfl⟩
        go_wp2_with fail
        go_roundw
        case rel => exact ⟨5 + 1, by omega, by go_num, by repeat (first | exact hg | apply Grown.drew | apply Grown.alloc)⟩
        case measure => simp [intOf]
    · go_wp2_with fail
      refine (awake_any _).mono ?_; rintro e w' ⟨rfl, rfl⟩
      go_wp2_with fail
      go_ret
      exact ⟨rfl, hg⟩

/-! ### THE ROW's STEP: WRITTEN OUT: LEAVE IT -/
set_option maxRecDepth 100000 in
theorem lifted (os : Os) (started : os.Started) (H : Type) (enc : TypeId × Value → H) :
    ReturnsInHanded {} Try.checked os 3 .any (Rows.numberReckonsSpec.pre6 enc Try.prog Try.f3 Rows.numberReckonsRow.domain false) (Rows.numberReckonsSpec.post enc Try.prog Try.f3 false true false false) := by
  refine returnsInHanded_of_change (C := Try.checked) own started (by kernel_rfl) Try.func3
    (ChangeSpec.witness6 (enc := enc) (C := Try.checked) false ⟨#[], #[.int .i64 0, .int .i64 0], []⟩ 8 (by kernel_rfl) (by kernel_rfl) (by kernel_rfl) (by kernel_rfl)) ?_
  intro W base args ds gs before hval0 hW hcnd _
  have hval : ∀ (j : Nat) t v, Try.f3.params[j]? = some t → args[j]? = some v → Value.okWide Try.prog W .any base t v := hval0
  have hW' := hW
  obtain ⟨p, q, hA0, hV, rfl, hfz, hnd⟩ := hW
  have hA : DataW.TrodAll enc Try.prog W 0 (fun _ => true) true Try.f3.params.toList args.toList ds p := hA0
  rw [Try.params3] at hA hval
  obtain ⟨v0, vs0, d0, ds0, p0, q0, hargs, rfl, rfl, h0, r0⟩ := trodAll_cons hA
  obtain ⟨v1, vs1, d1, ds1, p1, q1, rfl, rfl, rfl, h1, r1⟩ := trodAll_cons r0
  obtain ⟨rfl, rfl, rfl⟩ := trodAll_nil r1
  obtain rfl : args = #[v0, v1] := by cases args; simp_all
  obtain ⟨rfl, rfl⟩ := trodVars_none hV
  obtain ⟨a0, rfl, rfl, rfl, w0⟩ := open_int Try.underlying2 (hval 0 2 v0 rfl rfl) h0
  obtain ⟨a1, rfl, rfl, rfl, w1⟩ := open_int Try.underlying2 (hval 1 2 v1 rfl rfl) h1
  clear hA0 hval0
  simp only [List.append_nil] at hW'
  refine (walk a0 a1 w0 w1 W).mono fun e W' ⟨he, hg⟩ => ?_
  subst he
  exact ⟨_, rfl, post_of_same (pa := []) (pv := []) hW' (fun _ _ _ => (trodAll_cons_mk (shut_bool Try.underlying4 _) trodAll_mk0)) (fun sp _ => (trodAll_cons_mk (shut_int Try.underlying2 w0) (trodAll_cons_mk (shut_int Try.underlying2 w1) trodAll_mk0))) (fun _ _ => rfl) rfl
    (hg.frame _) hg.2.1 (ok_one (by kernel_rfl) rfl (okWide_bool_mk Try.underlying4 _))⟩

theorem over : Rows.numberReckonsRow.holds Try.pinned (OpenSpec.ofChange Rows.numberReckonsSpec) :=
  OpenClaim.holds_of_wide 3 Try.f3 rfl rfl rfl rfl rfl rfl rfl ⟨rfl, rfl, rfl, rfl, rfl⟩ rfl rfl rfl rfl rfl (by kernel_rfl) Try.func3 (by kernel_rfl)
    (of_decide_eq_true (by kernel_rfl)) (by unfold Func.isWrapper; first | (rw [if_pos (by decide +kernel)]; kernel_rfl) | (rw [if_neg (by decide +kernel)]; exact ⟨rfl, rfl⟩))
    (fun os started H enc _ => lifted os started H enc)

/-- ████ THE STATEMENT ████ -/
theorem proved : Rows.NumberReckonsSaid :=
  over
#print axioms proved
end Go.Proofs.Ytljefgjbneefkaa.numberReckons
