/- Compare on both sides; order.equal. -/
import Derived.Test.YtgkcbiabkpcblaaOrC
namespace Go.Proofs.Ytgkcbiabkpcblaa.odd
open Go.ChangeShapes Go.WideShapes Go.ChangeAt Go.RowKit
set_option linter.unusedVariables false
open Go.Proofs.Ytgkcbiabkpcblaa.tm Go.Proofs.Ytgkcbiabkpcblaa.lie Go.Proofs.Ytgkcbiabkpcblaa.kp Go.Proofs.Ytgkcbiabkpcblaa.cur Go.Proofs.Ytgkcbiabkpcblaa.rws Go.Proofs.Ytgkcbiabkpcblaa.sme Go.Proofs.Ytgkcbiabkpcblaa.odm Go.Proofs.Ytgkcbiabkpcblaa.oda Go.Proofs.Ytgkcbiabkpcblaa.odb Go.Proofs.Ytgkcbiabkpcblaa.odc Go.Proofs.Ytgkcbiabkpcblaa.pla Go.Proofs.Ytgkcbiabkpcblaa.wlk Go.Proofs.Ytgkcbiabkpcblaa.rmy Go.Proofs.Ytgkcbiabkpcblaa.rsm Go.Proofs.Ytgkcbiabkpcblaa.vrs Go.Proofs.Ytgkcbiabkpcblaa.mes
/-- what Compare tells of any two terms -/
def ordR (a b : Tm) : Int := if good a = true then (if good b = true then ord a b else 0) else 0
set_option maxHeartbeats 1000000 in
theorem order_any (a b : Tm) (va vb : Value) (w : World) (ha : Lies No w a va) (hb : Lies No w b vb) : Calls Try.prog 11 #[va, vb] w fun e w' => e = .returned (.int .i64 (ordR a b)) ∧ Below w.heap.size w w' := by
  obtain ⟨A, hA⟩ : ∃ A, A = a := ⟨_, rfl⟩
  obtain ⟨B, hB⟩ : ∃ B, B = b := ⟨_, rfl⟩
  obtain ⟨k, n, i, re, im, l⟩ := a
  obtain ⟨k', n', i', re', im', l'⟩ := b
  rw [← hA, ← hB]
  have HA := Lib.hid (show Lies No w A va from hA ▸ ha)
  have HB := Lib.hid (show Lies No w B vb from hB ▸ hb)
  rw [Lies] at ha hb
  obtain ⟨a, c, rfl, hf, hr⟩ := ha
  obtain ⟨a', c', rfl, hf', hr'⟩ := hb
  clear hf hr hf' hr' hA hB
  have HT := Lib.hid (TB.mk w #[.int .i64 k, .string n, .int .i64 i, .int .u64 re, .int .u64 im, .slice a l.length c] #[.int .i64 k', .string n', .int .i64 i', .int .u64 re', .int .u64 im', .slice a' l'.length c'])
  cases hga : good A
  · have HS : Hid (ordR A B = 0) := Lib.hid (by simp [ordR, hga])
    have hne : (may A != 0) = true := by rw [bne_iff_ne]; have := may_nogood hga; omega
    rw [HS.out]
    clear hga
    go_enter Try.func11, Try.ntmps11
    go_wp2_with fail
    refine (may_any _ _ _ (HA.out.below HT.out.2.2)).mono ?_
    rintro e w1 ⟨rfl, hb⟩
    have HK := Lib.hid (HT.out.below hb)
    clear hb
    go_wp2_with fail
    go_ret
    exact ⟨rfl, HK.out.2.2⟩
  have e1 : (may A != 0) = false := by rw [bne_eq_false_iff_eq]; exact may_good hga
  cases hgb : good B
  · have HS : Hid (ordR A B = 0) := Lib.hid (by simp [ordR, hgb])
    have hne : (may B != 0) = true := by rw [bne_iff_ne]; have := may_nogood hgb; omega
    rw [HS.out]
    clear hga hgb
    go_enter Try.func11, Try.ntmps11
    go_wp2_with fail
    refine (may_any _ _ _ (HA.out.below HT.out.2.2)).mono ?_
    rintro e w1 ⟨rfl, hb⟩
    have HK := Lib.hid (HT.out.below hb)
    obtain ⟨e0, e1, e2, e3, e4, e5, f0, f1, f2, f3, f4, f5⟩ := HK.out.cells
    clear hb
    go_wp2_with fail
    refine (may_any _ _ _ (HB.out.below HK.out.2.2)).mono ?_
    rintro e w2 ⟨rfl, hb⟩
    have HK2 := Lib.hid (HK.out.below hb)
    clear hb e0 e1 e2 e3 e4 e5 f0 f1 f2 f3 f4 f5
    go_wp2_with fail
    go_ret
    exact ⟨rfl, HK2.out.2.2⟩
  have HG := Lib.hid (And.intro hga hgb)
  have HS : Hid (ordR A B = ord A B) := Lib.hid (by simp [ordR, hga, hgb])
  have e2 : (may B != 0) = false := by rw [bne_eq_false_iff_eq]; exact may_good hgb
  rw [HS.out]
  clear hga hgb
  go_enter Try.func11, Try.ntmps11
  go_wp2_with fail
  refine (may_any _ _ _ (HA.out.below HT.out.2.2)).mono ?_
  rintro e w1 ⟨rfl, hb⟩
  have HK := Lib.hid (HT.out.below hb)
  obtain ⟨e0, e1, e2, e3, e4, e5, f0, f1, f2, f3, f4, f5⟩ := HK.out.cells
  clear hb
  go_wp2_with fail
  refine (may_any _ _ _ (HB.out.below HK.out.2.2)).mono ?_
  rintro e w2 ⟨rfl, hb⟩
  have HK2 := Lib.hid (HK.out.below hb)
  clear hb e0 e1 e2 e3 e4 e5 f0 f1 f2 f3 f4 f5
  obtain ⟨e0, e1, e2, e3, e4, e5, f0, f1, f2, f3, f4, f5⟩ := HK2.out.cells
  go_wp2_with fail
  refine (compare_any _ _ _ _ _ (HA.out.below HK2.out.2.2) (HB.out.below HK2.out.2.2) (good_sound HG.out.1) (good_sound HG.out.2)).mono ?_
  rintro e w3 ⟨rfl, hb⟩
  have HK3 := Lib.hid (HK2.out.below hb)
  clear hb e0 e1 e2 e3 e4 e5 f0 f1 f2 f3 f4 f5
  go_wp2_with fail
  go_ret
  exact ⟨rfl, HK3.out.2.2⟩
set_option maxHeartbeats 1000000 in
theorem rcompare_any (a b : Tm) (va vb : Value) (w : World) (ha : Lies No w a va) (hb : Lies No w b vb) : Calls Try.prog 12 #[va, vb] w fun e w' => e = .returned (.int .i64 (ordR a b)) ∧ Below w.heap.size w w' := by
  obtain ⟨A, hA⟩ : ∃ A, A = a := ⟨_, rfl⟩
  obtain ⟨B, hB⟩ : ∃ B, B = b := ⟨_, rfl⟩
  obtain ⟨k, n, i, re, im, l⟩ := a
  obtain ⟨k', n', i', re', im', l'⟩ := b
  rw [← hA, ← hB]
  have HA := Lib.hid (show Lies No w A va from hA ▸ ha)
  have HB := Lib.hid (show Lies No w B vb from hB ▸ hb)
  rw [Lies] at ha hb
  obtain ⟨a, c, rfl, hf, hr⟩ := ha
  obtain ⟨a', c', rfl, hf', hr'⟩ := hb
  clear hf hr hf' hr' hA hB
  have HT := Lib.hid (TB.mk w #[.int .i64 k, .string n, .int .i64 i, .int .u64 re, .int .u64 im, .slice a l.length c] #[.int .i64 k', .string n', .int .i64 i', .int .u64 re', .int .u64 im', .slice a' l'.length c'])
  cases hga : good A
  · have HS : Hid (ordR A B = 0) := Lib.hid (by simp [ordR, hga])
    have hne : (may A != 0) = true := by rw [bne_iff_ne]; have := may_nogood hga; omega
    rw [HS.out]
    clear hga
    go_enter Try.func12, Try.ntmps12
    go_wp2_with fail
    refine (rMay_any _ _ _ (HA.out.below HT.out.2.2)).mono ?_
    rintro e w1 ⟨rfl, hb⟩
    have HK := Lib.hid (HT.out.below hb)
    clear hb
    go_wp2_with fail
    go_ret
    exact ⟨rfl, HK.out.2.2⟩
  have e1 : (may A != 0) = false := by rw [bne_eq_false_iff_eq]; exact may_good hga
  cases hgb : good B
  · have HS : Hid (ordR A B = 0) := Lib.hid (by simp [ordR, hgb])
    have hne : (may B != 0) = true := by rw [bne_iff_ne]; have := may_nogood hgb; omega
    rw [HS.out]
    clear hga hgb
    go_enter Try.func12, Try.ntmps12
    go_wp2_with fail
    refine (rMay_any _ _ _ (HA.out.below HT.out.2.2)).mono ?_
    rintro e w1 ⟨rfl, hb⟩
    have HK := Lib.hid (HT.out.below hb)
    obtain ⟨e0, e1, e2, e3, e4, e5, f0, f1, f2, f3, f4, f5⟩ := HK.out.cells
    clear hb
    go_wp2_with fail
    refine (rMay_any _ _ _ (HB.out.below HK.out.2.2)).mono ?_
    rintro e w2 ⟨rfl, hb⟩
    have HK2 := Lib.hid (HK.out.below hb)
    clear hb e0 e1 e2 e3 e4 e5 f0 f1 f2 f3 f4 f5
    go_wp2_with fail
    go_ret
    exact ⟨rfl, HK2.out.2.2⟩
  have HG := Lib.hid (And.intro hga hgb)
  have HS : Hid (ordR A B = ord A B) := Lib.hid (by simp [ordR, hga, hgb])
  have e2 : (may B != 0) = false := by rw [bne_eq_false_iff_eq]; exact may_good hgb
  rw [HS.out]
  clear hga hgb
  go_enter Try.func12, Try.ntmps12
  go_wp2_with fail
  refine (rMay_any _ _ _ (HA.out.below HT.out.2.2)).mono ?_
  rintro e w1 ⟨rfl, hb⟩
  have HK := Lib.hid (HT.out.below hb)
  obtain ⟨e0, e1, e2, e3, e4, e5, f0, f1, f2, f3, f4, f5⟩ := HK.out.cells
  clear hb
  go_wp2_with fail
  refine (rMay_any _ _ _ (HB.out.below HK.out.2.2)).mono ?_
  rintro e w2 ⟨rfl, hb⟩
  have HK2 := Lib.hid (HK.out.below hb)
  clear hb e0 e1 e2 e3 e4 e5 f0 f1 f2 f3 f4 f5
  obtain ⟨e0, e1, e2, e3, e4, e5, f0, f1, f2, f3, f4, f5⟩ := HK2.out.cells
  go_wp2_with fail
  refine (rorder_any _ _ _ _ _ (HA.out.below HK2.out.2.2) (HB.out.below HK2.out.2.2) (good_sound HG.out.1) (good_sound HG.out.2)).mono ?_
  rintro e w3 ⟨rfl, hb⟩
  have HK3 := Lib.hid (HK2.out.below hb)
  clear hb e0 e1 e2 e3 e4 e5 f0 f1 f2 f3 f4 f5
  go_wp2_with fail
  go_ret
  exact ⟨rfl, HK3.out.2.2⟩
theorem equal_any (a b : Tm) (va vb : Value) (w : World) (ha : Lies No w a va) (hb : Lies No w b vb) (hsa : sound a = true) (hsb : sound b = true) : Calls Try.prog 35 #[va, vb] w fun e w' => e = .returned (.bool (ord a b == 0)) ∧ Below w.heap.size w w' := by
  obtain ⟨A, hA⟩ : ∃ A, A = a := ⟨_, rfl⟩
  obtain ⟨B, hB⟩ : ∃ B, B = b := ⟨_, rfl⟩
  obtain ⟨k, n, i, re, im, l⟩ := a
  obtain ⟨k', n', i', re', im', l'⟩ := b
  rw [← hA] at hsa ⊢
  rw [← hB] at hsb ⊢
  have HA := Lib.hid (show Lies No w A va from hA ▸ ha)
  have HB := Lib.hid (show Lies No w B vb from hB ▸ hb)
  have HG := Lib.hid (And.intro hsa hsb)
  rw [Lies] at ha hb
  obtain ⟨a, c, rfl, hf, hr⟩ := ha
  obtain ⟨a', c', rfl, hf', hr'⟩ := hb
  clear hf hr hf' hr' hA hB hsa hsb
  have HT := Lib.hid (TB.mk w #[.int .i64 k, .string n, .int .i64 i, .int .u64 re, .int .u64 im, .slice a l.length c] #[.int .i64 k', .string n', .int .i64 i', .int .u64 re', .int .u64 im', .slice a' l'.length c'])
  go_enter Try.func35, Try.ntmps35
  go_wp2_with fail
  refine (compare_any _ _ _ _ _ (HA.out.below HT.out.2.2) (HB.out.below HT.out.2.2) HG.out.1 HG.out.2).mono ?_
  rintro e w1 ⟨rfl, hb⟩
  have HK := Lib.hid (HT.out.below hb)
  clear hb
  go_wp2_with fail
  go_ret
  exact ⟨rfl, HK.out.2.2⟩
end Go.Proofs.Ytgkcbiabkpcblaa.odd
