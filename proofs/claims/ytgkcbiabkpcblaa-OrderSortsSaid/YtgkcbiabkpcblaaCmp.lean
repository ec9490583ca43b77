/- The contract of CompareC: the words' order. -/
import Derived.Test.YtgkcbiabkpcblaaKit
import Derived.WalkKit
import Derived.ProofKit
import Derived.OpenShut
import Derived.Lib.Hide
namespace Go.Proofs.Ytgkcbiabkpcblaa.num
open Go.ChangeShapes Go.WideShapes Go.ChangeAt Go.RowKit
set_option linter.unusedVariables false
/-- the order of two words -/
def cw (a b : Int) : Int := if a < b then -1 else if b < a then 1 else 0
/-- the order of two pairs of words -/
def cc (a b c d : Int) : Int := if a = c then cw b d else cw a c
theorem ret_i64 {x y : Int} (h : x = y) : Ending.returned (.int .i64 x) = .returned (.int .i64 y) := by rw [h]
theorem cw_any (a b : Int) (w : World) : Calls Try.prog 56 #[.int .u64 a, .int .u64 b] w fun e w' => e = .returned (.int .i64 (cw a b)) ∧ w = w' := by
  by_cases h : a < b
  · go_enter Try.func56, Try.ntmps56; go_wp2; go_ret; exact ⟨ret_i64 (by simp [cw, h]), rfl⟩
  · by_cases g : b < a
    · go_enter Try.func56, Try.ntmps56; go_wp2; go_ret; exact ⟨ret_i64 (by simp [cw, g]; omega), rfl⟩
    · go_enter Try.func56, Try.ntmps56; go_wp2; go_ret; exact ⟨ret_i64 (by unfold cw; rw [if_neg (by omega), if_neg (by omega)]), rfl⟩
theorem cc_any (a b c d : Int) (w : World) : Calls Try.prog 42 #[.int .u64 a, .int .u64 b, .int .u64 c, .int .u64 d] w fun e w' => e = .returned (.int .i64 (cc a b c d)) ∧ w = w' := by
  by_cases h : a = c
  · have e0 : Hid (cc a b c d = cw b d) := Lib.hid (by simp [cc, h])
    have e1 : (a != c) = false := by simp [h]
    clear h
    go_enter Try.func42, Try.ntmps42; go_wp2_with fail; refine (cw_any b d _).mono ?_; rintro e w' ⟨rfl, rfl⟩; go_wp2_with fail; go_ret; exact ⟨ret_i64 e0.out.symm, rfl⟩
  · have e0 : Hid (cc a b c d = cw a c) := Lib.hid (by simp [cc, h])
    have e1 : (a != c) = true := by simp [h]
    clear h
    go_enter Try.func42, Try.ntmps42; go_wp2_with fail; refine (cw_any a c _).mono ?_; rintro e w' ⟨rfl, rfl⟩; go_wp2_with fail; go_ret; exact ⟨ret_i64 e0.out.symm, rfl⟩
theorem cw_bd (a b : Int) : -1 ≤ cw a b ∧ cw a b ≤ 1 := by unfold cw; split <;> (try split) <;> omega
theorem cc_bd (a b c d : Int) : -1 ≤ cc a b c d ∧ cc a b c d ≤ 1 := by unfold cc; split <;> exact cw_bd _ _
theorem cw_neg (a b : Int) : cw b a = -cw a b := by unfold cw; (repeat' split) <;> omega
theorem cc_neg (a b c d : Int) : cc c d a b = -cc a b c d := by
  unfold cc
  by_cases h : a = c
  · rw [if_pos h.symm, if_pos h]; exact cw_neg b d
  · rw [if_neg (fun e => h e.symm), if_neg h]; exact cw_neg a c
theorem cw_zero (a b : Int) : cw a b = 0 ↔ a = b := by unfold cw; (repeat' split) <;> omega
theorem cc_zero (a b c d : Int) : cc a b c d = 0 ↔ a = c ∧ b = d := by
  unfold cc; split
  · rw [cw_zero]; omega
  · rw [cw_zero]; omega
theorem cc_trans (a b c d e f : Int) (h : cc a b c d ≤ 0) (g : cc c d e f ≤ 0) : cc a b e f ≤ 0 := by
  simp only [cc, cw] at *
  (repeat' split) <;> (repeat' split at h) <;> (repeat' split at g) <;> omega
end Go.Proofs.Ytgkcbiabkpcblaa.num
