/- Contracts of package cell's calls and of the reference's on cells: each in arithmetic (a cell is its value times 8 and its tag). -/
import Derived.Test.YtbonlmekphkahaaKit
import Derived.WalkKit
import Derived.ProofKit
import Derived.OpenShut
import Derived.Lib.Hide
import Derived.Laws.BitsLemmas
import Derived.Laws.BitsAllLaws
namespace Go.Proofs.Ytbonlmekphkahaa.cel
open Go.ChangeShapes Go.WideShapes Go.ChangeAt Go.RowKit
set_option linter.unusedVariables false

/-- a word of 64 bits -/
def W64 (c : Int) : Prop := 0 ≤ c ∧ c < 18446744073709551616
def I64 (c : Int) : Prop := -9223372036854775808 ≤ c ∧ c ≤ 9223372036854775807
theorem w64_wf {k : Int} (h : (Lit.int .u64 k).wf = true) : W64 k := by
  have e1 : IntKind.u64.min = 0 := by decide
  have e2 : IntKind.u64.max = 18446744073709551615 := by decide
  simp only [Lit.wf, e1, e2, Bool.and_eq_true, decide_eq_true_eq] at h
  exact ⟨h.1, by omega⟩
theorem i64_wf {k : Int} (h : (Lit.int .i64 k).wf = true) : I64 k := by
  have e1 : IntKind.i64.min = -9223372036854775808 := by decide
  have e2 : IntKind.i64.max = 9223372036854775807 := by decide
  simp only [Lit.wf, e1, e2, Bool.and_eq_true, decide_eq_true_eq] at h
  exact h
theorem wraps_u64 (n : Int) (h0 : 0 ≤ n) (h1 : n < 2 ^ 64) : IntKind.u64.wrap n = n := by
  rw [IntKind.wrap_u64]; omega
theorem and_mask (i : Nat) (hi : i ≤ 64) (x : Int) (h : W64 x) : bits .and .u64 x (2 ^ i - 1) = x % 2 ^ i :=
  bits_mask .u64 64 (by decide) wraps_u64 i hi x h.1 (by have := h.2; omega)
theorem and7 (x : Int) (h : W64 x) : bits .and .u64 x 7 = x % 8 := and_mask 3 (by decide) x h
theorem and255 (x : Int) (h : W64 x) : bits .and .u64 x 255 = x % 256 := and_mask 8 (by decide) x h
theorem and61 (x : Int) (h : W64 x) : bits .and .u64 x 2305843009213693951 = x % 2305843009213693952 := and_mask 61 (by decide) x h
theorem or8 (x y : Int) (hx : W64 x) (hm : x % 8 = 0) (h0 : 0 ≤ y) (h1 : y < 8) : bits .or .u64 x y = x + y :=
  bits_join .u64 64 (by decide) wraps_u64 3 x y hx.1 hm (by have := hx.2; omega) h0 (by omega) (by omega)
theorem or256 (x y : Int) (hx : W64 x) (hm : x % 256 = 0) (h0 : 0 ≤ y) (h1 : y < 256) : bits .or .u64 x y = x + y :=
  bits_join .u64 64 (by decide) wraps_u64 8 x y hx.1 hm (by have := hx.2; omega) h0 (by omega) (by omega)

/-- what a word tells as a number with a sign -/
def sg (c : Int) : Int := wrap64 c / 8
/-- a cell joined of a value (its lowest 61 bits) and a tag -/
def jn (t n : Int) : Int := n % 2305843009213693952 * 8 + t
/-- may there be a cell of this tag and value, and which -/
def mo (t n : Int) : Bool := decide (0 ≤ t ∧ t ≤ 6 ∧ n < 2305843009213693952)
def mv (t n : Int) : Int := if 0 ≤ t ∧ t ≤ 6 ∧ n < 2305843009213693952 then jn t n else 0
def so (n : Int) : Bool := decide (-1152921504606846976 ≤ n ∧ n < 1152921504606846976)
def sv (n : Int) : Int := if -1152921504606846976 ≤ n ∧ n < 1152921504606846976 then jn 3 n else 0
def fo (a k : Int) : Bool := decide (0 ≤ a ∧ a < 4096 ∧ 1 ≤ k ∧ k ≤ 20)
def fv (a k : Int) : Int := if 0 ≤ a ∧ a < 4096 ∧ 1 ≤ k ∧ k ≤ 20 then jn 6 (a * 256 + k) else 0
def pa (c : Int) : Int := if c % 8 = 6 then c / 8 / 256 else 0
def pk (c : Int) : Int := if c % 8 = 6 then c / 8 % 256 else 0

theorem jn_w {t : Int} (n : Int) (h0 : 0 ≤ t) (h1 : t < 8) : W64 (jn t n) := by unfold jn W64; omega

theorem w64_i (n : Int) (h : I64 n) : wrap64 n = n := by
  obtain ⟨h0, h1⟩ := h; unfold wrap64; omega
theorem join_l {t n : Int} (h : W64 n) (h0 : 0 ≤ t) (h1 : t < 8) : bits .or .u64 (IntKind.u64.wrap (n * 8)) t = jn t n := by
  obtain ⟨h2, h3⟩ := h
  have e : IntKind.u64.wrap (n * 8) = n % 2305843009213693952 * 8 := by rw [IntKind.wrap_u64]; omega
  rw [e]; exact or8 _ _ ⟨by omega, by omega⟩ (by omega) h0 h1
theorem fun_l {a k : Int} (h0 : 0 ≤ a) (h1 : a < 4096) (h2 : 0 ≤ k) (h3 : k < 256) : bits .or .u64 (a * 256) k = a * 256 + k :=
  or256 _ _ ⟨by omega, by omega⟩ (by omega) h2 h3
theorem ri {k : IntKind} {a b : Int} (h : a = b) : Ending.returned (.int k a) = .returned (.int k b) := by rw [h]
theorem pr {x y : Int} {b d : Bool} (h1 : x = y) (h2 : b = d) : Ending.returned (.tuple #[.int .u64 x, .bool b]) = .returned (.tuple #[.int .u64 y, .bool d]) := by rw [h1, h2]
theorem pi2 {x y x' y' : Int} (h1 : x = x') (h2 : y = y') : Ending.returned (.tuple #[.int .i64 x, .int .i64 y]) = .returned (.tuple #[.int .i64 x', .int .i64 y']) := by rw [h1, h2]

end Go.Proofs.Ytbonlmekphkahaa.cel
