/- TermVariants' two functions: what they tell. -/
import Derived.Test.YtmcfapefbakceaaMp1
import Derived.Test.YtmcfapefbakceaaMp2
import Derived.Test.YtmcfapefbakceaaVm
import Derived.Laws.BitsAllLaws
namespace Go.Proofs.Ytmcfapefbakceaa.clo
set_option linter.unusedVariables false
open Go.ChangeShapes Go.WideShapes Go.ChangeAt Go.RowKit
open Go.Proofs.Ytmcfapefbakceaa.tm Go.Proofs.Ytmcfapefbakceaa.lie Go.Proofs.Ytmcfapefbakceaa.kp Go.Proofs.Ytmcfapefbakceaa.cur Go.Proofs.Ytmcfapefbakceaa.wlk Go.Proofs.Ytmcfapefbakceaa.pln Go.Proofs.Ytmcfapefbakceaa.pla Go.Proofs.Ytmcfapefbakceaa.awk
def fx (b n : Int) : Int := bits .and .i64 (bits .xor .i64 n b) 4611686018427387903
theorem w64s (n : Nat) (h : n < 9223372036854775808) : IntKind.i64.wrap (n : Int) = n := by
  rw [IntKind.wrap_i64]; omega
theorem and62 (x : Int) : bits .and .i64 x 4611686018427387903 = (((BitVec.ofInt 64 x).toNat % 4611686018427387904 : Nat) : Int) := by
  have h2 : (BitVec.ofInt 64 (4611686018427387903 : Int)).toNat = 2 ^ 62 - 1 := by decide
  show IntKind.i64.wrap ((BitVec.ofInt 64 x &&& BitVec.ofInt 64 4611686018427387903).toNat : Int) = _
  rw [BitVec.toNat_and, h2, Nat.and_two_pow_sub_one_eq_mod]
  exact w64s _ (by omega)
theorem xor63 (n b : Nat) (hn : n < 9223372036854775808) (hb : b < 9223372036854775808) : bits .xor .i64 (n : Int) (b : Int) = ((n ^^^ b : Nat) : Int) := by
  have e : ∀ m : Nat, m < 9223372036854775808 → (BitVec.ofInt 64 (m : Int)).toNat = m := fun m h => by
    rw [BitVec.ofInt_natCast, BitVec.toNat_ofNat]; exact Nat.mod_eq_of_lt (by omega)
  show IntKind.i64.wrap ((BitVec.ofInt 64 (n : Int) ^^^ BitVec.ofInt 64 (b : Int)).toNat : Int) = _
  rw [BitVec.toNat_xor, e n hn, e b hb]
  exact w64s _ (Nat.xor_lt_two_pow (n := 63) hn hb)
theorem fx_range (b n : Int) : 0 ≤ fx b n ∧ fx b n < 4611686018427387904 := by
  unfold fx; rw [and62]; omega
theorem fx_eq {b n : Nat} (hb : b < 1048576) (hn : n < 4611686018427387904) : fx b n = ((n ^^^ b : Nat) : Int) := by
  have hx : n ^^^ b < 2 ^ 62 := Nat.xor_lt_two_pow hn (by omega)
  unfold fx
  rw [xor63 n b (by omega) (by omega), and62, BitVec.ofInt_natCast, BitVec.toNat_ofNat]
  congr 1
  omega
theorem fx_inj {b x y : Int} (hb : 0 ≤ b ∧ b < 1048576) (hx : 0 ≤ x ∧ x < 4611686018427387904) (hy : 0 ≤ y ∧ y < 4611686018427387904) (h : fx b x = fx b y) : x = y := by
  obtain ⟨b, rfl⟩ := Int.eq_ofNat_of_zero_le hb.1
  obtain ⟨x, rfl⟩ := Int.eq_ofNat_of_zero_le hx.1
  obtain ⟨y, rfl⟩ := Int.eq_ofNat_of_zero_le hy.1
  rw [fx_eq (by omega) (by omega), fx_eq (by omega) (by omega)] at h
  have h' : x ^^^ b = y ^^^ b := by omega
  have h2 := congrArg (· ^^^ b) h'
  simp only [Nat.xor_assoc, Nat.xor_self, Nat.xor_zero] at h2
  rw [h2]
theorem at1 (w0 : World) (ca : Nat) (b : Int) (hc : w0.cell? ⟨ca, 0, none⟩ = some (.int .i64 b)) : mp1.At w0 (fx b) ⟨ca, 0, none⟩ := by
  intro n w hb h0 h1
  have hcl := cell_lt hc
  have hc1 := (hb.cell (p := ⟨ca, 0, none⟩) hcl).trans hc
  have hcl1 : ca < w.heap.size := cell_lt hc1
  have hc2 := ((ba w ZT).cell (p := ⟨ca, 0, none⟩) hcl1).trans hc1
  have HF : Hid (bits .and .i64 (bits .xor .i64 n b) 4611686018427387903 = fx b n) := Lib.hid rfl
  refine ⟨?_, by have := fx_range b n; omega, by have := fx_range b n; omega⟩
  clear hb hc hc1 hcl hcl1 h0 h1
  go_enter Try.func45, Try.ntmps45
  go_wp2_with fail
  rw [HF.out]
  refine (rVar_any _ _).mono ?_
  rintro e w1 ⟨rfl, hb⟩
  have hz : w1.heap[w.heap.size]? = some ZT := (hb.block _ (by rw [alloc_size]; omega)).trans (alloc_at w ZT)
  obtain ⟨⟨z0, z1, z2, z3, z4, z5⟩, y0, y1, y2, y3, y4, y5⟩ := blk_facts hz
  have HB := Lib.hid (And.intro hb hz)
  clear hb hz hc2
  go_wp2_with fail
  obtain ⟨W, hW, e0, e1, e2, e3, e4, e5, k6⟩ := res_fin HB.out.2 (.int .i64 1) (.string ⟨#[]⟩) (.int .i64 (fx b n)) (.int .u64 0) (.int .u64 0) (.slice none 0 0)
  rw [hW]
  exact bodyPost_ret (v := .agg #[.int .i64 1, .string ⟨#[]⟩, .int .i64 (fx b n), .int .u64 0, .int .u64 0, .slice none 0 0]) (by simp [results, Try.results45, go_sem, e0, e1, e2, e3, e4, e5]) rfl ⟨rfl, (bt (ba w _) HB.out.1).trans (k6.to_below (fun i h => by subst h; omega) (by have := HB.out.1.size; rw [alloc_size] at this; omega))⟩
theorem at2 (w0 : World) (cp cq : Nat) (p q : Int) (hc : w0.cell? ⟨cp, 0, none⟩ = some (.int .i64 p)) (hd : w0.cell? ⟨cq, 0, none⟩ = some (.int .i64 q)) (hq : -9223372036854775808 ≤ q ∧ q ≤ 9223372036854775807) : mp2.At w0 (mg p q) ⟨cp, 0, none⟩ ⟨cq, 0, none⟩ := by
  intro n w hb h0 h1
  have hc1 := (hb.cell (p := ⟨cp, 0, none⟩) (cell_lt hc)).trans hc
  have hd1 := (hb.cell (p := ⟨cq, 0, none⟩) (cell_lt hd)).trans hd
  have hc2 := ((ba w ZT).cell (p := ⟨cp, 0, none⟩) (cell_lt hc1)).trans hc1
  have hd2 := ((ba w ZT).cell (p := ⟨cq, 0, none⟩) (cell_lt hd1)).trans hd1
  have hr : -9223372036854775808 ≤ mg p q n ∧ mg p q n ≤ 9223372036854775807 := by unfold mg; split; exact hq; exact ⟨h0, h1⟩
  refine ⟨?_, hr.1, hr.2⟩
  clear hb hc hc1 hd hd1 h0 h1 hr hq
  by_cases e : n = p
  · have HF : Hid (mg p q n = q) := Lib.hid (by simp [mg, e])
    rw [HF.out]
    subst e
    go_enter Try.func52, Try.ntmps52
    go_wp2_with fail
    refine (rVar_any _ _).mono ?_
    rintro e w1 ⟨rfl, hb⟩
    have hz : w1.heap[w.heap.size]? = some ZT := (hb.block _ (by rw [alloc_size]; omega)).trans (alloc_at w ZT)
    obtain ⟨⟨z0, z1, z2, z3, z4, z5⟩, y0, y1, y2, y3, y4, y5⟩ := blk_facts hz
    have HB := Lib.hid (And.intro hb hz)
    clear hb hz hc2 hd2
    go_wp2_with fail
    obtain ⟨W, hW, e0, e1, e2, e3, e4, e5, k6⟩ := res_fin HB.out.2 (.int .i64 1) (.string ⟨#[]⟩) (.int .i64 q) (.int .u64 0) (.int .u64 0) (.slice none 0 0)
    rw [hW]
    exact bodyPost_ret (v := .agg #[.int .i64 1, .string ⟨#[]⟩, .int .i64 q, .int .u64 0, .int .u64 0, .slice none 0 0]) (by simp [results, Try.results52, go_sem, e0, e1, e2, e3, e4, e5]) rfl ⟨rfl, (bt (ba w _) HB.out.1).trans (k6.to_below (fun i h => by subst h; omega) (by have := HB.out.1.size; rw [alloc_size] at this; omega))⟩
  · have HF : Hid (mg p q n = n) := Lib.hid (by simp [mg, e])
    rw [HF.out]
    have he : (n == p) = false := by rw [beq_eq_false_iff_ne]; exact e
    clear e
    go_enter Try.func52, Try.ntmps52
    go_wp2_with fail
    refine (rVar_any _ _).mono ?_
    rintro e w1 ⟨rfl, hb⟩
    have hz : w1.heap[w.heap.size]? = some ZT := (hb.block _ (by rw [alloc_size]; omega)).trans (alloc_at w ZT)
    obtain ⟨⟨z0, z1, z2, z3, z4, z5⟩, y0, y1, y2, y3, y4, y5⟩ := blk_facts hz
    have HB := Lib.hid (And.intro hb hz)
    clear hb hz hc2 hd2
    go_wp2_with fail
    obtain ⟨W, hW, e0, e1, e2, e3, e4, e5, k6⟩ := res_fin HB.out.2 (.int .i64 1) (.string ⟨#[]⟩) (.int .i64 n) (.int .u64 0) (.int .u64 0) (.slice none 0 0)
    rw [hW]
    exact bodyPost_ret (v := .agg #[.int .i64 1, .string ⟨#[]⟩, .int .i64 n, .int .u64 0, .int .u64 0, .slice none 0 0]) (by simp [results, Try.results52, go_sem, e0, e1, e2, e3, e4, e5]) rfl ⟨rfl, (bt (ba w _) HB.out.1).trans (k6.to_below (fun i h => by subst h; omega) (by have := HB.out.1.size; rw [alloc_size] at this; omega))⟩
end Go.Proofs.Ytmcfapefbakceaa.clo
