/- Contracts of package number's calls on whole numbers: each returns what the document asks. -/
import Derived.Test.YtedbcmagjbgbjaaGreatDoorKit
import Derived.WalkKit
import Derived.ProofKit
import Derived.OpenShut
import Derived.Lib.Hide
namespace Go.Proofs.YtedbcmagjbgbjaaGreatDoor.num
open Go.ChangeShapes Go.WideShapes Go.ChangeAt Go.RowKit
set_option linter.unusedVariables false

/-- the number fits 64 bits -/
def Fits (a : Int) : Prop := -9223372036854775808 ≤ a ∧ a ≤ 9223372036854775807
instance (a : Int) : Decidable (Fits a) := by unfold Fits; exact inferInstance
/-- a number that is told, or 0 if it is out of range -/
def rv (n : Int) : Int := if Fits n then n else 0
/-- whether it is out of range: 6, or 0 -/
def re (n : Int) : Int := if Fits n then 0 else 6
theorem rv_in {n : Int} (h : Fits n) : rv n = n := if_pos h
theorem re_in {n : Int} (h : Fits n) : re n = 0 := if_pos h
theorem rv_out {n : Int} (h : ¬ Fits n) : rv n = 0 := if_neg h
theorem re_out {n : Int} (h : ¬ Fits n) : re n = 6 := if_neg h
theorem fits_wf {k : Int} (h : (Lit.int .i64 k).wf = true) : Fits k := by
  have e1 : IntKind.i64.min = -9223372036854775808 := by decide
  have e2 : IntKind.i64.max = 9223372036854775807 := by decide
  simp only [Lit.wf, e1, e2, Bool.and_eq_true, decide_eq_true_eq] at h
  exact h

theorem pair {x y x' y' : Int} (h1 : x = x') (h2 : y = y') : Ending.returned (.tuple #[.int .i64 x, .int .i64 y]) = .returned (.tuple #[.int .i64 x', .int .i64 y']) := by rw [h1, h2]

theorem over_pp (a b : Int) (ha : 0 < a) (hb : 0 < b) : 9223372036854775807 / b < a ↔ 9223372036854775807 < a * b :=
  Int.ediv_lt_iff_lt_mul hb
theorem over_pn (a b : Int) (ha : 0 < a) (hb : b < 0) : b < -Int.tdiv 9223372036854775808 a ↔ a * b < -9223372036854775808 := by
  have h := Int.ediv_lt_iff_lt_mul (a := 9223372036854775808) (b := -b) ha
  rw [Int.tdiv_eq_ediv_of_nonneg (by omega)]
  have e : -b * a = -(a * b) := by rw [Int.neg_mul, Int.mul_comm]
  rw [e] at h
  omega
theorem over_nn (a b : Int) (ha : a < 0) (hb : b < 0) : b < Int.tdiv 9223372036854775807 a ↔ 9223372036854775807 < a * b := by
  have h := Int.ediv_lt_iff_lt_mul (a := 9223372036854775807) (b := -b) (c := -a) (by omega)
  have e : Int.tdiv 9223372036854775807 a = -(9223372036854775807 / -a) := by
    rw [← Int.tdiv_eq_ediv_of_nonneg (by omega), Int.tdiv_neg]; omega
  rw [e]
  have e2 : -b * -a = a * b := by rw [Int.neg_mul_neg, Int.mul_comm]
  rw [e2] at h
  omega
theorem mul_np (a b : Int) (ha : 0 < a) (hb : b < 0) : a * b < 0 := Int.mul_neg_of_pos_of_neg ha hb

theorem tdiv_max (a : Int) (h : a ≠ 0) : -9223372036854775807 ≤ Int.tdiv 9223372036854775807 a ∧ Int.tdiv 9223372036854775807 a ≤ 9223372036854775807 := by
  have h1 := Int.natAbs_tdiv_le_natAbs 9223372036854775807 a
  omega
theorem tdiv_min (a : Int) : -9223372036854775808 ≤ -Int.tdiv 9223372036854775808 a ∧ -Int.tdiv 9223372036854775808 a ≤ 9223372036854775808 := by
  have h1 := Int.natAbs_tdiv_le_natAbs 9223372036854775808 a
  omega
theorem tdiv_min_pos (a : Int) (h : 0 < a) : 0 ≤ Int.tdiv 9223372036854775808 a := Int.tdiv_nonneg (by omega) (by omega)
theorem ret_bool {x y : Bool} (h : x = y) : Ending.returned (.bool x) = .returned (.bool y) := by rw [h]
theorem ne_b {a b : Int} (h : a ≠ b) : (a == b) = false := by simpa using h

/-- what Div tells -/
def dv (a b : Int) : Int := if b = 0 then 0 else rv (a.tdiv b)
def de (a b : Int) : Int := if b = 0 then 1 else re (a.tdiv b)
/-- what Rem tells -/
def qv (a b : Int) : Int := if b = 0 then 0 else a.tmod b
def qe (b : Int) : Int := if b = 0 then 1 else 0
/-- what Mod tells -/
def mv (a b : Int) : Int := if b = 0 then 0 else if a.tmod b = 0 then 0 else if a.tmod b < 0 then (if b < 0 then a.tmod b else a.tmod b + b) else (if b < 0 then a.tmod b + b else a.tmod b)
theorem tmod_fits (a b : Int) (ha : Fits a) : Fits (a.tmod b) := by
  have h1 := Int.natAbs_tmod a b
  have h2 := Nat.mod_le a.natAbs b.natAbs
  by_cases h : 0 ≤ a
  · have h3 := Int.tmod_nonneg b h
    unfold Fits at *; omega
  · have h3 := Int.tmod_nonneg b (a := -a) (by omega)
    rw [Int.neg_tmod] at h3
    unfold Fits at *; omega
theorem tdiv_fits (a b : Int) (ha : Fits a) (h : a ≠ -9223372036854775808) : Fits (a.tdiv b) := by
  have h1 := Int.natAbs_tdiv_le_natAbs a b
  unfold Fits at *; omega
theorem tdiv_fits_min (b : Int) (h : b ≠ -1) : Fits (-Int.tdiv 9223372036854775808 b) := by
  by_cases h0 : 0 ≤ b
  · have h1 := Int.natAbs_tdiv_le_natAbs 9223372036854775808 b
    have h2 : 0 ≤ Int.tdiv 9223372036854775808 b := Int.tdiv_nonneg (by omega) (by omega)
    unfold Fits; omega
  · have h1 : 9223372036854775808 / -b < 9223372036854775808 := Int.ediv_lt_of_lt_mul (by omega) (by omega)
    have h2 : 0 ≤ 9223372036854775808 / -b := Int.ediv_nonneg (by omega) (by omega)
    have h3 : Int.tdiv 9223372036854775808 b = -(9223372036854775808 / -b) := by
      rw [← Int.tdiv_eq_ediv_of_nonneg (by omega), Int.tdiv_neg]; omega
    rw [h3]; unfold Fits; omega

/-! ### the page's own answers -/
end Go.Proofs.YtedbcmagjbgbjaaGreatDoor.num
