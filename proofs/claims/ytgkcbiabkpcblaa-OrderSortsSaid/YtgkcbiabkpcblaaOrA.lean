/- The small calls of package order and of the reference's order: kinds, numbers, texts, complex numbers. -/
import Derived.Test.YtgkcbiabkpcblaaOr
import Derived.Laws.Cover1
namespace Go.Proofs.Ytgkcbiabkpcblaa.oda
open Go.ChangeShapes Go.WideShapes Go.ChangeAt Go.RowKit
set_option linter.unusedVariables false
open Go.Proofs.Ytgkcbiabkpcblaa.num Go.Proofs.Ytgkcbiabkpcblaa.odm Go.Proofs.Ytgkcbiabkpcblaa.tm
theorem rI {x y : Int} (h : x = y) : Ending.returned (.int .i64 x) = .returned (.int .i64 y) := by rw [h]
theorem nan_int (x : Int) (w : World) : Calls Try.prog 55 #[.int .i64 x] w fun e w' => e = .returned (.bool false) ∧ w = w' := by
  have e1 : (x != x) = false := by simp
  go_enter Try.func55, Try.ntmps55; go_wp2; go_ret; exact ⟨rb (by simp), rfl⟩
theorem nan_int64 (x : Int) (w : World) : Calls Try.prog 59 #[.int .i64 x] w fun e w' => e = .returned (.bool false) ∧ w = w' := by
  have e1 : (x != x) = false := by simp
  go_enter Try.func59, Try.ntmps59; go_wp2; go_ret; exact ⟨rb (by simp), rfl⟩
theorem nan_str (x : ByteArray) (w : World) : Calls Try.prog 57 #[.string x] w fun e w' => e = .returned (.bool false) ∧ w = w' := by
  have e1 : (x.toList == x.toList) = true := by simp
  go_enter Try.func57, Try.ntmps57; go_wp2; go_ret; exact ⟨rb (by simp), rfl⟩
theorem cw_lt {a b : Int} (h : a < b) : cw a b = -1 := by unfold cw; rw [if_pos h]
theorem cw_gt {a b : Int} (h : b < a) : cw a b = 1 := by unfold cw; rw [if_neg (by omega), if_pos h]
theorem cw_eq {a b : Int} (h : b ≤ a) (g : a ≤ b) : cw a b = 0 := by unfold cw; rw [if_neg (by omega), if_neg (by omega)]
theorem cmp_int (a b : Int) (w : World) : Calls Try.prog 40 #[.int .i64 a, .int .i64 b] w fun e w' => e = .returned (.int .i64 (cw a b)) ∧ w = w' := by
  go_enter Try.func40, Try.ntmps40
  go_wp2_with fail
  refine (nan_int _ _).mono ?_; rintro e w' ⟨rfl, rfl⟩
  go_wp2_with fail
  refine (nan_int _ _).mono ?_; rintro e w' ⟨rfl, rfl⟩
  by_cases h : a < b
  · go_wp2_with fail; go_ret; exact ⟨rI (cw_lt h).symm, rfl⟩
  · by_cases g : b < a
    · go_wp2_with fail; go_ret; exact ⟨rI (cw_gt g).symm, rfl⟩
    · go_wp2_with fail; go_ret; exact ⟨rI (cw_eq h g).symm, rfl⟩
theorem cmp_int64 (a b : Int) (w : World) : Calls Try.prog 45 #[.int .i64 a, .int .i64 b] w fun e w' => e = .returned (.int .i64 (cw a b)) ∧ w = w' := by
  go_enter Try.func45, Try.ntmps45
  go_wp2_with fail
  refine (nan_int64 _ _).mono ?_; rintro e w' ⟨rfl, rfl⟩
  go_wp2_with fail
  refine (nan_int64 _ _).mono ?_; rintro e w' ⟨rfl, rfl⟩
  by_cases h : a < b
  · go_wp2_with fail; go_ret; exact ⟨rI (cw_lt h).symm, rfl⟩
  · by_cases g : b < a
    · go_wp2_with fail; go_ret; exact ⟨rI (cw_gt g).symm, rfl⟩
    · go_wp2_with fail; go_ret; exact ⟨rI (cw_eq h g).symm, rfl⟩
theorem sc_lt {a b : ByteArray} (h : Op.bytesLess a.toList b.toList = true) : sc a b = -1 := by unfold sc; rw [if_pos h]
theorem sc_eq {a b : ByteArray} (h : Op.bytesLess a.toList b.toList = false) (g : (a.toList == b.toList) = true) : sc a b = 0 := (sc_zero a b).2 (tl_inj (by simpa using g))
theorem sc_gt {a b : ByteArray} (h : Op.bytesLess a.toList b.toList = false) (g : (a.toList == b.toList) = false) : sc a b = 1 := by
  have h1 : sc a b ≠ 0 := fun q => by rw [sc_zero] at q; subst q; simp at g
  have h2 := sc_bd a b
  have h3 : sc a b ≠ -1 := fun q => by unfold sc at q; rw [h] at q; simp at q; split at q <;> cases q
  omega
theorem cmp_str (a b : ByteArray) (w : World) : Calls Try.prog 43 #[.string a, .string b] w fun e w' => e = .returned (.int .i64 (sc a b)) ∧ w = w' := by
  go_enter Try.func43, Try.ntmps43
  go_wp2_with fail
  refine (nan_str _ _).mono ?_; rintro e w' ⟨rfl, rfl⟩
  go_wp2_with fail
  refine (nan_str _ _).mono ?_; rintro e w' ⟨rfl, rfl⟩
  cases h : Op.bytesLess a.toList b.toList
  · cases g : a.toList == b.toList
    · go_wp2_with fail; go_ret; exact ⟨rI (sc_gt h g).symm, rfl⟩
    · go_wp2_with fail; go_ret; exact ⟨rI (sc_eq h g).symm, rfl⟩
  · go_wp2_with fail; go_ret; exact ⟨rI (sc_lt h).symm, rfl⟩
theorem rank_any (k : Int) (w : World) : Calls Try.prog 41 #[.int .i64 k] w fun e w' => e = .returned (.int .i64 (rk k)) ∧ w = w' := by
  by_cases h1 : k = 1
  · subst h1; go_enter Try.func41, Try.ntmps41; go_wp2; go_ret; exact ⟨rI (by simp [rk]), rfl⟩
  by_cases h2 : k = 4
  · subst h2; go_enter Try.func41, Try.ntmps41; go_wp2; go_ret; exact ⟨rI (by simp [rk]), rfl⟩
  by_cases h3 : k = 3
  · subst h3; go_enter Try.func41, Try.ntmps41; go_wp2; go_ret; exact ⟨rI (by simp [rk]), rfl⟩
  by_cases h4 : k = 2
  · subst h4; go_enter Try.func41, Try.ntmps41; go_wp2; go_ret; exact ⟨rI (by simp [rk]), rfl⟩
  have e1 : (k == 1) = false := by rw [beq_eq_false_iff_ne]; exact h1
  have e2 : (k == 4) = false := by rw [beq_eq_false_iff_ne]; exact h2
  have e3 : (k == 3) = false := by rw [beq_eq_false_iff_ne]; exact h3
  have e4 : (k == 2) = false := by rw [beq_eq_false_iff_ne]; exact h4
  go_enter Try.func41, Try.ntmps41; go_wp2; go_ret; exact ⟨rI (by simp [rk, h1, h2, h3, h4]), rfl⟩
theorem rcmp_any (a b : Int) (w : World) : Calls Try.prog 46 #[.int .i64 a, .int .i64 b] w fun e w' => e = .returned (.int .i64 (cw a b)) ∧ w = w' := by
  by_cases h : a < b
  · go_enter Try.func46, Try.ntmps46; go_wp2; go_ret; exact ⟨rI (cw_lt h).symm, rfl⟩
  · by_cases g : b < a
    · go_enter Try.func46, Try.ntmps46; go_wp2; go_ret; exact ⟨rI (cw_gt g).symm, rfl⟩
    · go_enter Try.func46, Try.ntmps46; go_wp2; go_ret; exact ⟨rI (cw_eq h g).symm, rfl⟩
theorem rtext_any (a b : ByteArray) (w : World) : Calls Try.prog 49 #[.string a, .string b] w fun e w' => e = .returned (.int .i64 (sc a b)) ∧ w = w' := by
  cases h : Op.bytesLess a.toList b.toList
  · cases g : a.toList == b.toList
    · go_enter Try.func49, Try.ntmps49; go_wp2; go_ret; exact ⟨rI (sc_gt h g).symm, rfl⟩
    · go_enter Try.func49, Try.ntmps49; go_wp2; go_ret; exact ⟨rI (sc_eq h g).symm, rfl⟩
  · go_enter Try.func49, Try.ntmps49; go_wp2; go_ret; exact ⟨rI (sc_lt h).symm, rfl⟩
theorem rless_any (a b : Int) (w : World) : Calls Try.prog 60 #[.int .u64 a, .int .u64 b] w fun e w' => e = .returned (.int .i64 (cw a b)) ∧ w = w' := by
  by_cases h : a < b
  · go_enter Try.func60, Try.ntmps60; go_wp2; go_ret; exact ⟨rI (cw_lt h).symm, rfl⟩
  · by_cases g : b < a
    · go_enter Try.func60, Try.ntmps60; go_wp2; go_ret; exact ⟨rI (cw_gt g).symm, rfl⟩
    · go_enter Try.func60, Try.ntmps60; go_wp2; go_ret; exact ⟨rI (cw_eq h g).symm, rfl⟩
theorem rcc_any (a b c d : Int) (w : World) : Calls Try.prog 48 #[.int .u64 a, .int .u64 b, .int .u64 c, .int .u64 d] w fun e w' => e = .returned (.int .i64 (cc a b c d)) ∧ w = w' := by
  by_cases h : a = c
  · have e0 : Hid (cc a b c d = cw b d) := Lib.hid (by simp [cc, h])
    have e1 : (cw a c != 0) = false := by rw [bne_eq_false_iff_eq, cw_zero]; exact h
    clear h
    go_enter Try.func48, Try.ntmps48; go_wp2_with fail; refine (rless_any _ _ _).mono ?_; rintro e w' ⟨rfl, rfl⟩; go_wp2_with fail; refine (rless_any _ _ _).mono ?_; rintro e w' ⟨rfl, rfl⟩; go_wp2_with fail; go_ret; exact ⟨rI e0.out.symm, rfl⟩
  · have e0 : Hid (cc a b c d = cw a c) := Lib.hid (by simp [cc, h])
    have e1 : (cw a c != 0) = true := by rw [bne_iff_ne, Ne, cw_zero]; exact h
    clear h
    go_enter Try.func48, Try.ntmps48; go_wp2_with fail; refine (rless_any _ _ _).mono ?_; rintro e w' ⟨rfl, rfl⟩; go_wp2_with fail; go_ret; exact ⟨rI e0.out.symm, rfl⟩
end Go.Proofs.Ytgkcbiabkpcblaa.oda
