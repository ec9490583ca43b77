/- Contracts of package cell's calls and of the reference's on cells: each in arithmetic (a cell is its value times 8 and its tag). -/
import Derived.Test.YthableojkjhicaaKit
import Derived.WalkKit
import Derived.ProofKit
import Derived.OpenShut
import Derived.Lib.Hide
import Derived.Laws.BitsLemmas
import Derived.Laws.BitsAllLaws
namespace Go.Proofs.Ythableojkjhicaa.cel
open Go.ChangeShapes Go.WideShapes Go.ChangeAt Go.RowKit
set_option linter.unusedVariables false

/-- a word of 64 bits -/
def W64 (c : Int) : Prop := 0 ≤ c ∧ c < 18446744073709551616
def I64 (c : Int) : Prop := -9223372036854775808 ≤ c ∧ c ≤ 9223372036854775807
theorem w64_wf {k : Int} (h : (Lit.int .u64 k).wf = true) : W64 k := by
  have e1 : IntKind.u64.min = 0 := by decide
  have e2 : IntKind.u64.max = 18446744073709551615 := by decide
  simp only [Lit.wf, e1, e2, Bool.and_eq_true, decide_eq_true_eq] at h
  exact ⟨h.1, by omega⟩
theorem i64_wf {k : Int} (h : (Lit.int .i64 k).wf = true) : I64 k := by
  have e1 : IntKind.i64.min = -9223372036854775808 := by decide
  have e2 : IntKind.i64.max = 9223372036854775807 := by decide
  simp only [Lit.wf, e1, e2, Bool.and_eq_true, decide_eq_true_eq] at h
  exact h
theorem wraps_u64 (n : Int) (h0 : 0 ≤ n) (h1 : n < 2 ^ 64) : IntKind.u64.wrap n = n := by
  rw [IntKind.wrap_u64]; omega
theorem and_mask (i : Nat) (hi : i ≤ 64) (x : Int) (h : W64 x) : bits .and .u64 x (2 ^ i - 1) = x % 2 ^ i :=
  bits_mask .u64 64 (by decide) wraps_u64 i hi x h.1 (by have := h.2; omega)
theorem and7 (x : Int) (h : W64 x) : bits .and .u64 x 7 = x % 8 := and_mask 3 (by decide) x h
theorem and255 (x : Int) (h : W64 x) : bits .and .u64 x 255 = x % 256 := and_mask 8 (by decide) x h
theorem and61 (x : Int) (h : W64 x) : bits .and .u64 x 2305843009213693951 = x % 2305843009213693952 := and_mask 61 (by decide) x h
theorem or8 (x y : Int) (hx : W64 x) (hm : x % 8 = 0) (h0 : 0 ≤ y) (h1 : y < 8) : bits .or .u64 x y = x + y :=
  bits_join .u64 64 (by decide) wraps_u64 3 x y hx.1 hm (by have := hx.2; omega) h0 (by omega) (by omega)
theorem or256 (x y : Int) (hx : W64 x) (hm : x % 256 = 0) (h0 : 0 ≤ y) (h1 : y < 256) : bits .or .u64 x y = x + y :=
  bits_join .u64 64 (by decide) wraps_u64 8 x y hx.1 hm (by have := hx.2; omega) h0 (by omega) (by omega)

/-- what a word tells as a number with a sign -/
def sg (c : Int) : Int := wrap64 c / 8
/-- a cell joined of a value (its lowest 61 bits) and a tag -/
def jn (t n : Int) : Int := n % 2305843009213693952 * 8 + t
/-- may there be a cell of this tag and value, and which -/
def mo (t n : Int) : Bool := decide (0 ≤ t ∧ t ≤ 6 ∧ n < 2305843009213693952)
def mv (t n : Int) : Int := if 0 ≤ t ∧ t ≤ 6 ∧ n < 2305843009213693952 then jn t n else 0
def so (n : Int) : Bool := decide (-1152921504606846976 ≤ n ∧ n < 1152921504606846976)
def sv (n : Int) : Int := if -1152921504606846976 ≤ n ∧ n < 1152921504606846976 then jn 3 n else 0
def fo (a k : Int) : Bool := decide (0 ≤ a ∧ a < 4096 ∧ 1 ≤ k ∧ k ≤ 20)
def fv (a k : Int) : Int := if 0 ≤ a ∧ a < 4096 ∧ 1 ≤ k ∧ k ≤ 20 then jn 6 (a * 256 + k) else 0
def pa (c : Int) : Int := if c % 8 = 6 then c / 8 / 256 else 0
def pk (c : Int) : Int := if c % 8 = 6 then c / 8 % 256 else 0

theorem jn_w {t : Int} (n : Int) (h0 : 0 ≤ t) (h1 : t < 8) : W64 (jn t n) := by unfold jn W64; omega

theorem w64_i (n : Int) (h : I64 n) : wrap64 n = n := by
  obtain ⟨h0, h1⟩ := h; unfold wrap64; omega
theorem join_l {t n : Int} (h : W64 n) (h0 : 0 ≤ t) (h1 : t < 8) : bits .or .u64 (IntKind.u64.wrap (n * 8)) t = jn t n := by
  obtain ⟨h2, h3⟩ := h
  have e : IntKind.u64.wrap (n * 8) = n % 2305843009213693952 * 8 := by rw [IntKind.wrap_u64]; omega
  rw [e]; exact or8 _ _ ⟨by omega, by omega⟩ (by omega) h0 h1
theorem fun_l {a k : Int} (h0 : 0 ≤ a) (h1 : a < 4096) (h2 : 0 ≤ k) (h3 : k < 256) : bits .or .u64 (a * 256) k = a * 256 + k :=
  or256 _ _ ⟨by omega, by omega⟩ (by omega) h2 h3
theorem ri {k : IntKind} {a b : Int} (h : a = b) : Ending.returned (.int k a) = .returned (.int k b) := by rw [h]
theorem pr {x y : Int} {b d : Bool} (h1 : x = y) (h2 : b = d) : Ending.returned (.tuple #[.int .u64 x, .bool b]) = .returned (.tuple #[.int .u64 y, .bool d]) := by rw [h1, h2]
theorem pi2 {x y x' y' : Int} (h1 : x = x') (h2 : y = y') : Ending.returned (.tuple #[.int .i64 x, .int .i64 y]) = .returned (.tuple #[.int .i64 x', .int .i64 y']) := by rw [h1, h2]

theorem tag_any (c : Int) (w : World) (h : W64 c) :
    Calls Try.prog 91 #[.int .u64 c] w fun e w' => e = .returned (.int .i64 (c % 8)) ∧ w = w' := by
  have H := Lib.hid (and7 c h); obtain ⟨h0, h1⟩ := h
  go_enter Try.func91, Try.ntmps91; go_wp2_with fail; go_ret
  exact ⟨ri (by rw [H.out]; exact w64_i _ ⟨by omega, by omega⟩), rfl⟩
theorem value_any (c : Int) (w : World) (h : W64 c) :
    Calls Try.prog 92 #[.int .u64 c] w fun e w' => e = .returned (.int .u64 (c / 8)) ∧ w = w' := by
  obtain ⟨h0, h1⟩ := h
  go_enter Try.func92, Try.ntmps92; go_wp2_with fail; go_ret
  exact ⟨rfl, rfl⟩
theorem int_any (c : Int) (w : World) (h : W64 c) :
    Calls Try.prog 120 #[.int .u64 c] w fun e w' => e = .returned (.int .i64 (sg c)) ∧ w = w' := by
  obtain ⟨h0, h1⟩ := h
  go_enter Try.func120, Try.ntmps120; go_wp2_with fail; go_ret
  exact ⟨rfl, rfl⟩
theorem join_any (t n : Int) (w : World) (h : W64 n) (h0 : 0 ≤ t) (h1 : t < 8) :
    Calls Try.prog 106 #[.int .i64 t, .int .u64 n] w fun e w' => e = .returned (.int .u64 (jn t n)) ∧ w = w' := by
  have H := Lib.hid (join_l h h0 h1)
  obtain ⟨h2, h3⟩ := h
  go_enter Try.func106, Try.ntmps106; go_wp2_with fail; go_ret
  exact ⟨ri H.out, rfl⟩
theorem make_any (t n : Int) (w : World) (ht : I64 t) (h : W64 n) :
    Calls Try.prog 78 #[.int .i64 t, .int .u64 n] w fun e w' => e = .returned (.tuple #[.int .u64 (mv t n), .bool (mo t n)]) ∧ w = w' := by
  have HH := Lib.hid h
  by_cases hh : 0 ≤ t ∧ t ≤ 6 ∧ n < 2305843009213693952
  · have H1 := Lib.hid (show mv t n = jn t n from if_pos hh)
    have H2 := Lib.hid (show mo t n = true from decide_eq_true hh)
    obtain ⟨ha, hb, hc⟩ := hh
    obtain ⟨h2, h3⟩ := h; obtain ⟨h4, h5⟩ := ht
    have hq : n / 2305843009213693952 = 0 := by omega
    go_enter Try.func78, Try.ntmps78; go_wp2_with fail
    refine (join_any t n _ HH.out ha (by omega)).mono ?_; rintro e w' ⟨rfl, rfl⟩
    go_wp2_with fail
    go_ret2
    exact ⟨pr H1.out.symm H2.out.symm, rfl⟩
  · have H1 := Lib.hid (show mv t n = 0 from if_neg hh)
    have H2 := Lib.hid (show mo t n = false from decide_eq_false hh)
    obtain ⟨h2, h3⟩ := h; obtain ⟨h4, h5⟩ := ht
    by_cases ha : t < 0
    · clear hh
      go_enter Try.func78, Try.ntmps78; go_wp2_with fail; go_ret2
      exact ⟨pr H1.out.symm H2.out.symm, rfl⟩
    · by_cases hb : 6 < t
      · clear hh
        go_enter Try.func78, Try.ntmps78; go_wp2_with fail; go_ret2
        exact ⟨pr H1.out.symm H2.out.symm, rfl⟩
      · have hq : n / 2305843009213693952 ≠ 0 := by omega
        clear hh
        go_enter Try.func78, Try.ntmps78; go_wp2_with fail; go_ret2
        exact ⟨pr H1.out.symm H2.out.symm, rfl⟩
theorem small_sg {n : Int} (h : I64 n) : sg (jn 3 (IntKind.u64.wrap n)) = (n + 1152921504606846976) % 2305843009213693952 - 1152921504606846976 := by
  obtain ⟨h0, h1⟩ := h
  unfold sg jn wrap64; rw [IntKind.wrap_u64]; omega
theorem jn_wrap (t n : Int) : jn t (IntKind.u64.wrap n) = jn t n := by unfold jn; rw [IntKind.wrap_u64]; omega
theorem small_any (n : Int) (w : World) (h : I64 n) :
    Calls Try.prog 114 #[.int .i64 n] w fun e w' => e = .returned (.tuple #[.int .u64 (sv n), .bool (so n)]) ∧ w = w' := by
  have hw : W64 (IntKind.u64.wrap n) := by rw [IntKind.wrap_u64]; exact ⟨by omega, by omega⟩
  have HW := Lib.hid hw
  have HJ := Lib.hid (jn_w (t := 3) (IntKind.u64.wrap n) (by decide) (by decide))
  by_cases hh : -1152921504606846976 ≤ n ∧ n < 1152921504606846976
  · have H1 := Lib.hid (show sv n = jn 3 n from if_pos hh)
    have H2 := Lib.hid (show so n = true from decide_eq_true hh)
    have H3 := Lib.hid (show sg (jn 3 (IntKind.u64.wrap n)) = n by rw [small_sg h]; omega)
    clear h hw hh
    go_enter Try.func114, Try.ntmps114; go_wp2_with fail
    refine (join_any 3 _ _ HW.out (by decide) (by decide)).mono ?_; rintro e w' ⟨rfl, rfl⟩
    go_wp2_with fail
    refine (int_any _ _ HJ.out).mono ?_; rintro e w' ⟨rfl, rfl⟩
    rw [H3.out]
    go_wp2_with fail
    go_ret2
    exact ⟨pr (by rw [H1.out, jn_wrap]) H2.out.symm, rfl⟩
  · have H1 := Lib.hid (show sv n = 0 from if_neg hh)
    have H2 := Lib.hid (show so n = false from decide_eq_false hh)
    have h3 : (sg (jn 3 (IntKind.u64.wrap n)) != n) = true := by rw [bne_iff_ne, small_sg h]; omega
    clear h hw hh
    go_enter Try.func114, Try.ntmps114; go_wp2_with fail
    refine (join_any 3 _ _ HW.out (by decide) (by decide)).mono ?_; rintro e w' ⟨rfl, rfl⟩
    go_wp2_with fail
    refine (int_any _ _ HJ.out).mono ?_; rintro e w' ⟨rfl, rfl⟩
    go_wp2_with fail
    go_ret2
    exact ⟨pr H1.out.symm H2.out.symm, rfl⟩
theorem functor_any (a k : Int) (w : World) (ha : I64 a) (hk : I64 k) :
    Calls Try.prog 131 #[.int .i64 a, .int .i64 k] w fun e w' => e = .returned (.tuple #[.int .u64 (fv a k), .bool (fo a k)]) ∧ w = w' := by
  obtain ⟨a0, a1⟩ := ha; obtain ⟨k0, k1⟩ := hk
  by_cases hh : 0 ≤ a ∧ a < 4096 ∧ 1 ≤ k ∧ k ≤ 20
  · have H1 := Lib.hid (show fv a k = jn 6 (a * 256 + k) from if_pos hh)
    have H2 := Lib.hid (show fo a k = true from decide_eq_true hh)
    obtain ⟨h1, h2, h3, h4⟩ := hh
    have H3 := Lib.hid (fun_l h1 h2 (by omega : 0 ≤ k) (by omega))
    have H4 := Lib.hid (show W64 (a * 256 + k) from ⟨by omega, by omega⟩)
    go_enter Try.func131, Try.ntmps131; go_wp2_with fail
    rw [H3.out]
    refine (join_any 6 _ _ H4.out (by decide) (by decide)).mono ?_; rintro e w' ⟨rfl, rfl⟩
    go_wp2_with fail
    go_ret2
    exact ⟨pr H1.out.symm H2.out.symm, rfl⟩
  · have H1 := Lib.hid (show fv a k = 0 from if_neg hh)
    have H2 := Lib.hid (show fo a k = false from decide_eq_false hh)
    by_cases h1 : a < 0
    · clear hh
      go_enter Try.func131, Try.ntmps131; go_wp2_with fail; go_ret2
      exact ⟨pr H1.out.symm H2.out.symm, rfl⟩
    by_cases h2 : 4096 ≤ a
    · clear hh
      go_enter Try.func131, Try.ntmps131; go_wp2_with fail; go_ret2
      exact ⟨pr H1.out.symm H2.out.symm, rfl⟩
    by_cases h3 : k < 1
    · clear hh
      go_enter Try.func131, Try.ntmps131; go_wp2_with fail; go_ret2
      exact ⟨pr H1.out.symm H2.out.symm, rfl⟩
    have h4 : 20 < k := by omega
    clear hh
    go_enter Try.func131, Try.ntmps131; go_wp2_with fail; go_ret2
    exact ⟨pr H1.out.symm H2.out.symm, rfl⟩
theorem parts_any (c : Int) (w : World) (h : W64 c) :
    Calls Try.prog 130 #[.int .u64 c] w fun e w' => e = .returned (.tuple #[.int .i64 (pa c), .int .i64 (pk c)]) ∧ w = w' := by
  have HH := Lib.hid h
  by_cases hh : c % 8 = 6
  · have H1 := Lib.hid (show pa c = c / 8 / 256 from if_pos hh)
    have H2 := Lib.hid (show pk c = c / 8 % 256 from if_pos hh)
    obtain ⟨h0, h1⟩ := h
    have H3 := Lib.hid (and255 (c / 8) ⟨by omega, by omega⟩)
    have HE := Lib.hid hh
    clear hh
    go_enter Try.func130, Try.ntmps130; go_wp2_with fail
    refine (tag_any c _ HH.out).mono ?_; rintro e w' ⟨rfl, rfl⟩
    rw [HE.out]
    go_wp2_with fail
    refine (value_any c _ HH.out).mono ?_; rintro e w' ⟨rfl, rfl⟩
    go_wp2_with fail
    go_ret2
    refine ⟨pi2 ?_ ?_, rfl⟩
    · rw [H1.out]
    · rw [H3.out, H2.out]; exact w64_i _ ⟨by omega, by omega⟩
  · have H1 := Lib.hid (show pa c = 0 from if_neg hh)
    have H2 := Lib.hid (show pk c = 0 from if_neg hh)
    have h3 : (c % 8 != 6) = true := by rw [bne_iff_ne]; exact hh
    clear hh h
    go_enter Try.func130, Try.ntmps130; go_wp2_with fail
    refine (tag_any c _ HH.out).mono ?_; rintro e w' ⟨rfl, rfl⟩
    go_wp2_with fail
    go_ret2
    exact ⟨pi2 H1.out.symm H2.out.symm, rfl⟩
end Go.Proofs.Ythableojkjhicaa.cel
