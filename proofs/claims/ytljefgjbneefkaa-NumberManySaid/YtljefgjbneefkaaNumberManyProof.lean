/- The law NumberMany holds: for every input its Go function returns true and leaves its arguments as they were. No condition beyond the row's own. -/
import Derived.Test.YtljefgjbneefkaaRows
import Derived.WalkKit
import Derived.ProofKit
import Derived.OpenShut
import Derived.Test.YtljefgjbneefkaaNum
import Derived.Lib.Hide
import Derived.Outline
import Derived.LoopTactic
namespace Go.Proofs.Ytljefgjbneefkaa.numberMany
open Go.ChangeShapes Go.WideShapes Go.ChangeAt Go.RowKit
set_option linter.unusedVariables false      -- a walk need not use every 'w<i>' (that an integer argument fits its kind)

theorem own : ownKnob Try.prog.godebug = none := by kernel_rfl

/-! ### STEP 1: THE WALK: the Go text returns true. 'Grown w w'': the world has at most new blocks (Derived/RowKit3.lean). Part the cases AHEAD of 'go_enter' where a test parts the walk; take each callee by a contract of your own. -/
open Go.Proofs.Ytljefgjbneefkaa.num
theorem mod_mil (a : Int) : -999999 ≤ a.tmod 1000000 ∧ a.tmod 1000000 ≤ 999999 := by
  have h := Int.natAbs_tmod a 1000000
  have h2 := Nat.mod_lt a.natAbs (y := (1000000 : Int).natAbs) (by decide)
  omega
theorem mul_mil (a b : Int) (ha : -999999 ≤ a ∧ a ≤ 999999) (hb : -1999998 ≤ b ∧ b ≤ 1999998) : -2000000000000 ≤ a * b ∧ a * b ≤ 2000000000000 := by
  obtain ⟨ha1, ha2⟩ := ha; obtain ⟨hb1, hb2⟩ := hb
  have h1 : 0 ≤ (999999 - a) * (1999998 - b) := Int.mul_nonneg (by omega) (by omega)
  have h2 : 0 ≤ (999999 + a) * (1999998 - b) := Int.mul_nonneg (by omega) (by omega)
  have h3 : 0 ≤ (999999 - a) * (1999998 + b) := Int.mul_nonneg (by omega) (by omega)
  have h4 : 0 ≤ (999999 + a) * (1999998 + b) := Int.mul_nonneg (by omega) (by omega)
  simp only [Int.sub_mul, Int.mul_sub, Int.add_mul, Int.mul_add] at h1 h2 h3 h4
  omega
theorem ix (k : Nat) (h : k < 7) : ∀ w, (Instr.index 39 (.agg #[.int .i64 0, .int .i64 0, .int .i64 0, .int .i64 0, .int .i64 0, .int .i64 0, .int .i64 0]) (.int .i64 (k : Int))).run Try.prog w = .ok (.int .i64 0) w := by
  match k, h with
  | 0, _ => exact fun _ => by kernel_rfl
  | 1, _ => exact fun _ => by kernel_rfl
  | 2, _ => exact fun _ => by kernel_rfl
  | 3, _ => exact fun _ => by kernel_rfl
  | 4, _ => exact fun _ => by kernel_rfl
  | 5, _ => exact fun _ => by kernel_rfl
  | 6, _ => exact fun _ => by kernel_rfl
theorem walk (a0 : Int) (a1 : Int) (a2 : Int) (w0 : (Lit.int .i64 a0).wf = true) (w1 : (Lit.int .i64 a1).wf = true) (w2 : (Lit.int .i64 a2).wf = true) (w : World) :
    Calls Try.prog 7 #[.int .i64 a0, .int .i64 a1, .int .i64 a2] w fun e w' => e = .returned (.bool true) ∧ Grown w w' := by
  have m0 := mod_mil a0; have m1 := mod_mil a1; have m2 := mod_mil a2
  go_enter Try.func7, Try.ntmps7
  go_wp2_with fail
  generalize a0.tmod 1000000 = a at *
  generalize a1.tmod 1000000 = b at *
  generalize a2.tmod 1000000 = c at *
  clear w0 w1 w2
  have p1 := mul_mil a (b + c) m0 (by omega); have p2 := mul_mil a b m0 (by omega); have p3 := mul_mil a c m0 (by omega)
  have fa : Fits a := ⟨by omega, by omega⟩
  have fb : Fits b := ⟨by omega, by omega⟩
  have fc : Fits c := ⟨by omega, by omega⟩
  have fs : Fits (b + c) := ⟨by omega, by omega⟩
  have f1 : Fits (a * (b + c)) := ⟨by omega, by omega⟩
  have f2 : Fits (a * b) := ⟨by omega, by omega⟩
  have f3 : Fits (a * c) := ⟨by omega, by omega⟩
  have hd : Hid (a * (b + c) = a * b + a * c) := Lib.hid (Int.mul_add _ _ _)
  have fn : Fits (0 - a) := ⟨by omega, by omega⟩
  have hz : Hid (0 - (0 - a) = a) := Lib.hid (by omega)
  have f0 : Fits 0 := by decide
  refine (add_any b c _ fb fc).mono ?_; rintro e w' ⟨rfl, rfl⟩; rw [rv_in fs, re_in fs]
  go_wp2_with fail
  refine (mul_any a (b + c) _ fa fs).mono ?_; rintro e w' ⟨rfl, rfl⟩; rw [rv_in f1, re_in f1, hd.out]
  go_wp2_with fail
  refine (mul_any a b _ fa fb).mono ?_; rintro e w' ⟨rfl, rfl⟩; rw [rv_in f2, re_in f2]
  go_wp2_with fail
  refine (mul_any a c _ fa fc).mono ?_; rintro e w' ⟨rfl, rfl⟩; rw [rv_in f3, re_in f3]
  go_wp2_with fail
  refine (add_any (a * b) (a * c) _ f2 f3).mono ?_; rintro e w' ⟨rfl, rfl⟩; rw [← hd.out, rv_in f1, re_in f1, hd.out]
  go_wp2_with fail
  refine (sub_any 0 a _ f0 fa).mono ?_; rintro e w' ⟨rfl, rfl⟩; rw [rv_in fn, re_in fn, Int.zero_sub]
  go_wp2_with fail
  rw [← Int.zero_sub]
  refine (sub_any 0 (0 - a) _ f0 fn).mono ?_; rintro e w' ⟨rfl, rfl⟩; rw [hz.out, rv_in fa, re_in fa]
  go_wp2_with fail
  go_loop [77] (fun i => ∃ k : Nat, k ≤ 7 ∧ i = .int .i64 k) (fun i => 7 - (intOf i).toNat)
  case atStart => exact ⟨0, by omega, rfl⟩
  case round =>
    obtain ⟨k, hk, rfl⟩ := hrel
    by_cases hlt : k < 7
    · have ik := ix k hlt
      go_wp2_with fail
      go_round
      case rel => exact ⟨k + 1, by omega, by go_num⟩
      case measure => simp [intOf]; omega
    · go_wp2_with fail
      refine (awake_any _).mono ?_; rintro e w' ⟨rfl, rfl⟩
      go_wp2_with fail
      go_ret
      exact ⟨rfl, by repeat (first | exact Grown.refl _ | apply Grown.drew | apply Grown.alloc)⟩

/-! ### THE ROW's STEP: WRITTEN OUT: LEAVE IT -/
set_option maxRecDepth 100000 in
theorem lifted (os : Os) (started : os.Started) (H : Type) (enc : TypeId × Value → H) :
    ReturnsInHanded {} Try.checked os 7 .any (Rows.numberManySpec.pre6 enc Try.prog Try.f7 Rows.numberManyRow.domain false) (Rows.numberManySpec.post enc Try.prog Try.f7 false true false false) := by
  refine returnsInHanded_of_change (C := Try.checked) own started (by kernel_rfl) Try.func7
    (ChangeSpec.witness6 (enc := enc) (C := Try.checked) false ⟨#[], #[.int .i64 0, .int .i64 0, .int .i64 0], []⟩ 8 (by kernel_rfl) (by kernel_rfl) (by kernel_rfl) (by kernel_rfl)) ?_
  intro W base args ds gs before hval0 hW hcnd _
  have hval : ∀ (j : Nat) t v, Try.f7.params[j]? = some t → args[j]? = some v → Value.okWide Try.prog W .any base t v := hval0
  have hW' := hW
  obtain ⟨p, q, hA0, hV, rfl, hfz, hnd⟩ := hW
  have hA : DataW.TrodAll enc Try.prog W 0 (fun _ => true) true Try.f7.params.toList args.toList ds p := hA0
  rw [Try.params7] at hA hval
  obtain ⟨v0, vs0, d0, ds0, p0, q0, hargs, rfl, rfl, h0, r0⟩ := trodAll_cons hA
  obtain ⟨v1, vs1, d1, ds1, p1, q1, rfl, rfl, rfl, h1, r1⟩ := trodAll_cons r0
  obtain ⟨v2, vs2, d2, ds2, p2, q2, rfl, rfl, rfl, h2, r2⟩ := trodAll_cons r1
  obtain ⟨rfl, rfl, rfl⟩ := trodAll_nil r2
  obtain rfl : args = #[v0, v1, v2] := by cases args; simp_all
  obtain ⟨rfl, rfl⟩ := trodVars_none hV
  obtain ⟨a0, rfl, rfl, rfl, w0⟩ := open_int Try.underlying2 (hval 0 2 v0 rfl rfl) h0
  obtain ⟨a1, rfl, rfl, rfl, w1⟩ := open_int Try.underlying2 (hval 1 2 v1 rfl rfl) h1
  obtain ⟨a2, rfl, rfl, rfl, w2⟩ := open_int Try.underlying2 (hval 2 2 v2 rfl rfl) h2
  clear hA0 hval0
  simp only [List.append_nil] at hW'
  refine (walk a0 a1 a2 w0 w1 w2 W).mono fun e W' ⟨he, hg⟩ => ?_
  subst he
  exact ⟨_, rfl, post_of_same (pa := []) (pv := []) hW' (fun _ _ _ => (trodAll_cons_mk (shut_bool Try.underlying4 _) trodAll_mk0)) (fun sp _ => (trodAll_cons_mk (shut_int Try.underlying2 w0) (trodAll_cons_mk (shut_int Try.underlying2 w1) (trodAll_cons_mk (shut_int Try.underlying2 w2) trodAll_mk0)))) (fun _ _ => rfl) rfl
    (hg.frame _) hg.2.1 (ok_one (by kernel_rfl) rfl (okWide_bool_mk Try.underlying4 _))⟩

theorem over : Rows.numberManyRow.holds Try.pinned (OpenSpec.ofChange Rows.numberManySpec) :=
  OpenClaim.holds_of_wide 7 Try.f7 rfl rfl rfl rfl rfl rfl rfl ⟨rfl, rfl, rfl, rfl, rfl⟩ rfl rfl rfl rfl rfl (by kernel_rfl) Try.func7 (by kernel_rfl)
    (of_decide_eq_true (by kernel_rfl)) (by unfold Func.isWrapper; first | (rw [if_pos (by decide +kernel)]; kernel_rfl) | (rw [if_neg (by decide +kernel)]; exact ⟨rfl, rfl⟩))
    (fun os started H enc _ => lifted os started H enc)

/-- ████ THE STATEMENT ████ -/
theorem proved : Rows.NumberManySaid :=
  over
#print axioms proved
end Go.Proofs.Ytljefgjbneefkaa.numberMany
