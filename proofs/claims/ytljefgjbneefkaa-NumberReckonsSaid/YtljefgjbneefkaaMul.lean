/- Contracts of the page's own product, out of the shelf's contract of bits.Mul64. -/
import Derived.Test.YtljefgjbneefkaaNum
import Derived.Test.YtljefgjbneefkaaShelf
import Derived.Outline
namespace Go.Proofs.Ytljefgjbneefkaa.num
open Go.ChangeShapes Go.WideShapes Go.ChangeAt Go.RowKit
set_option linter.unusedVariables false
theorem ret_u64 {x y : Int} (h : x = y) : Ending.returned (.int .u64 x) = .returned (.int .u64 y) := by rw [h]
theorem abs_mul (a b : Int) : ((a.natAbs * b.natAbs : Nat) : Int) = if (a < 0) = (b < 0) then a * b else -(a * b) := by
  have h := Int.natAbs_mul a b
  rcases Int.lt_trichotomy a 0 with x | x | x <;> rcases Int.lt_trichotomy b 0 with y | y | y
  · have := Int.mul_pos_of_neg_of_neg x y; simp [x, y]; omega
  · subst y; simp
  · have := Int.mul_neg_of_neg_of_pos x y; have z : ¬ b < 0 := by omega
    simp [x, z]; omega
  · subst x; simp
  · subst x; simp
  · subst x; simp
  · have := Int.mul_neg_of_pos_of_neg x y; have z : ¬ a < 0 := by omega
    simp [y, z]; omega
  · subst y; simp
  · have := Int.mul_pos x y; have z : ¬ a < 0 := by omega
    have z' : ¬ b < 0 := by omega
    simp [z, z']; omega
theorem rabs_any (a : Int) (w : World) (ha : Fits a) :
    Calls Try.prog 31 #[.int .i64 a] w fun e w' => e = .returned (.int .u64 (a.natAbs : Nat)) ∧ w = w' := by
  obtain ⟨ha, ha'⟩ := ha
  by_cases h : a < 0
  · go_enter Try.func31, Try.ntmps31; go_wp2; go_ret; exact ⟨ret_u64 (by simp [IntKind.wrap, IntKind.signed, IntKind.bits]; omega), rfl⟩
  · go_enter Try.func31, Try.ntmps31; go_wp2; go_ret; exact ⟨ret_u64 (by omega), rfl⟩
theorem rmul_any (a b : Int) (w : World) (ha : Fits a) (hb : Fits b) :
    Calls Try.prog 14 #[.int .i64 a, .int .i64 b] w fun e w' => e = .returned (.tuple #[.int .i64 (rv (a * b)), .int .i64 (re (a * b))]) ∧ w = w' := by
  have hA := ha; have hB := hb
  obtain ⟨a1, a2⟩ := ha; obtain ⟨b1, b2⟩ := hb
  have na : a.natAbs ≤ 9223372036854775808 := by omega
  have nb : b.natAbs ≤ 9223372036854775808 := by omega
  go_enter Try.func14, Try.ntmps14; go_wp2_with fail
  refine (rabs_any a _ hA).mono ?_; rintro e w' ⟨rfl, rfl⟩
  go_wp2_with fail
  refine (rabs_any b _ hB).mono ?_; rintro e w' ⟨rfl, rfl⟩
  go_wp2_with fail
  refine (Try.bits_Mul64 a.natAbs b.natAbs (by omega) (by omega) _).mono ?_; rintro e w' ⟨rfl, hw⟩; subst hw
  have hm := abs_mul a b
  generalize hn : a.natAbs * b.natAbs = n at *
  have h1 : n / 18446744073709551616 * 18446744073709551616 + n % 18446744073709551616 = n := Nat.div_add_mod' _ _
  generalize n / 18446744073709551616 = hi at *
  have h2 : n % 18446744073709551616 < 18446744073709551616 := Nat.mod_lt _ (by omega)
  generalize n % 18446744073709551616 = lo at *
  have H1 := Lib.hid h1; have Hn := Lib.hid hn; have HM := Lib.hid hm
  clear h1 hn hm
  have out : ∀ {n : Int}, ¬ Fits n → Hid (rv n = 0 ∧ re n = 6) := fun h => Lib.hid ⟨rv_out h, re_out h⟩
  have inn : ∀ {n : Int}, Fits n → Hid (rv n = n ∧ re n = 0) := fun h => Lib.hid ⟨rv_in h, re_in h⟩
  by_cases g1 : a < 0
  · by_cases g2 : b < 0
    · have HQ : (n : Int) = a * b := by rw [HM.out]; simp [g1, g2]
      have H1' := H1.out
      by_cases k1 : 0 < hi
      · have R := out (n := a * b) (by unfold Fits; omega)
        clear out inn H1' HQ
        go_wp2; go_ret2; exact ⟨pair R.out.1.symm R.out.2.symm, rfl⟩
      obtain rfl : hi = 0 := by omega
      by_cases k2 : (9223372036854775807 : Int) < lo
      · have R := out (n := a * b) (by unfold Fits; omega)
        clear out inn H1' HQ
        go_wp2; go_ret2; exact ⟨pair R.out.1.symm R.out.2.symm, rfl⟩
      · have R := inn (n := a * b) (by unfold Fits; omega)
        have HL : Hid (a * b = lo) := Lib.hid (by omega)
        clear out inn H1' HQ
        go_wp2; go_ret2; exact ⟨pair (by rw [R.out.1, HL.out]) R.out.2.symm, rfl⟩
    · have HQ : (n : Int) = -(a * b) := by rw [HM.out]; simp [g1, g2]
      have H1' := H1.out
      by_cases k1 : 0 < hi
      · have R := out (n := a * b) (by unfold Fits; omega)
        clear out inn H1' HQ
        go_wp2; go_ret2; exact ⟨pair R.out.1.symm R.out.2.symm, rfl⟩
      obtain rfl : hi = 0 := by omega
      by_cases k2 : (9223372036854775808 : Int) < lo
      · have R := out (n := a * b) (by unfold Fits; omega)
        clear out inn H1' HQ
        go_wp2; go_ret2; exact ⟨pair R.out.1.symm R.out.2.symm, rfl⟩
      · have R := inn (n := a * b) (by unfold Fits; omega)
        have HL : Hid (a * b = -lo) := Lib.hid (by omega)
        clear out inn H1' HQ
        go_wp2; go_ret2; exact ⟨pair (by rw [R.out.1, HL.out]; simp [wrap64, IntKind.wrap, IntKind.signed, IntKind.bits]; omega) R.out.2.symm, rfl⟩
  · by_cases g2 : b < 0
    · have HQ : (n : Int) = -(a * b) := by rw [HM.out]; simp [g1, g2]
      have H1' := H1.out
      by_cases k1 : 0 < hi
      · have R := out (n := a * b) (by unfold Fits; omega)
        clear out inn H1' HQ
        go_wp2; go_ret2; exact ⟨pair R.out.1.symm R.out.2.symm, rfl⟩
      obtain rfl : hi = 0 := by omega
      by_cases k2 : (9223372036854775808 : Int) < lo
      · have R := out (n := a * b) (by unfold Fits; omega)
        clear out inn H1' HQ
        go_wp2; go_ret2; exact ⟨pair R.out.1.symm R.out.2.symm, rfl⟩
      · have R := inn (n := a * b) (by unfold Fits; omega)
        have HL : Hid (a * b = -lo) := Lib.hid (by omega)
        clear out inn H1' HQ
        go_wp2; go_ret2; exact ⟨pair (by rw [R.out.1, HL.out]; simp [wrap64, IntKind.wrap, IntKind.signed, IntKind.bits]; omega) R.out.2.symm, rfl⟩
    · have HQ : (n : Int) = a * b := by rw [HM.out]; simp [g1, g2]
      have H1' := H1.out
      by_cases k1 : 0 < hi
      · have R := out (n := a * b) (by unfold Fits; omega)
        clear out inn H1' HQ
        go_wp2; go_ret2; exact ⟨pair R.out.1.symm R.out.2.symm, rfl⟩
      obtain rfl : hi = 0 := by omega
      by_cases k2 : (9223372036854775807 : Int) < lo
      · have R := out (n := a * b) (by unfold Fits; omega)
        clear out inn H1' HQ
        go_wp2; go_ret2; exact ⟨pair R.out.1.symm R.out.2.symm, rfl⟩
      · have R := inn (n := a * b) (by unfold Fits; omega)
        have HL : Hid (a * b = lo) := Lib.hid (by omega)
        clear out inn H1' HQ
        go_wp2; go_ret2; exact ⟨pair (by rw [R.out.1, HL.out]) R.out.2.symm, rfl⟩
end Go.Proofs.Ytljefgjbneefkaa.num
