/- The contract of CompareC: the words' order. -/
import Derived.Test.YtfobladliokfoaaDoorKit
import Derived.WalkKit
import Derived.ProofKit
import Derived.OpenShut
import Derived.Lib.Hide
namespace Go.Proofs.YtfobladliokfoaaDoor.num
open Go.ChangeShapes Go.WideShapes Go.ChangeAt Go.RowKit
set_option linter.unusedVariables false
/-- the order of two words -/
def cw (a b : Int) : Int := if a < b then -1 else if b < a then 1 else 0
/-- the order of two pairs of words -/
def cc (a b c d : Int) : Int := if a = c then cw b d else cw a c
theorem ret_i64 {x y : Int} (h : x = y) : Ending.returned (.int .i64 x) = .returned (.int .i64 y) := by rw [h]
theorem cw_bd (a b : Int) : -1 ≤ cw a b ∧ cw a b ≤ 1 := by unfold cw; split <;> (try split) <;> omega
theorem cc_bd (a b c d : Int) : -1 ≤ cc a b c d ∧ cc a b c d ≤ 1 := by unfold cc; split <;> exact cw_bd _ _
theorem cw_neg (a b : Int) : cw b a = -cw a b := by unfold cw; (repeat' split) <;> omega
theorem cc_neg (a b c d : Int) : cc c d a b = -cc a b c d := by
  unfold cc
  by_cases h : a = c
  · rw [if_pos h.symm, if_pos h]; exact cw_neg b d
  · rw [if_neg (fun e => h e.symm), if_neg h]; exact cw_neg a c
theorem cw_zero (a b : Int) : cw a b = 0 ↔ a = b := by unfold cw; (repeat' split) <;> omega
theorem cc_zero (a b c d : Int) : cc a b c d = 0 ↔ a = c ∧ b = d := by
  unfold cc; split
  · rw [cw_zero]; omega
  · rw [cw_zero]; omega
theorem cc_trans (a b c d e f : Int) (h : cc a b c d ≤ 0) (g : cc c d e f ≤ 0) : cc a b e f ≤ 0 := by
  simp only [cc, cw] at *
  (repeat' split) <;> (repeat' split at h) <;> (repeat' split at g) <;> omega
end Go.Proofs.YtfobladliokfoaaDoor.num
