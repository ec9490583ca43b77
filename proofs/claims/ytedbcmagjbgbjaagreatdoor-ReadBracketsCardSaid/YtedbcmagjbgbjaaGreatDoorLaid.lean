/- What the listed package-level variables give a walk: the table of tens, and the library's error of range. -/
import Derived.Test.YtedbcmagjbgbjaaGreatDoorKit
import Derived.Stop.LaidErr
import Derived.Lib.LaidTab
import Derived.Lib.ItoaNum
import Derived.MakeChecks
import Derived.Lib.SmallJoins
namespace Go.Proofs.YtedbcmagjbgbjaaGreatDoor.num
open Go.ChangeShapes Go.WideShapes Go.ChangeAt Go.RowKit
theorem tab_of {r : List (String × DataW Unit)} {W : World} (h : laidMet Tryz.prog (("internal/strconv.uint64pow10", Rows.laid_internal_strconv_uint64pow10) :: r) W) : Lib.TabIs Tryz.prog W "internal/strconv.uint64pow10" .u64 Lib.pow10Tab := by
  have e : (Rows.laid_internal_strconv_uint64pow10 : DataW Unit) = Lib.tabData .u64 Lib.pow10Tab := by rfl
  rw [e] at h
  exact Lib.tabIs_of_head (g := 1) (t := 216) (e := 22) (n := 20) (by kernel_rfl) (by kernel_rfl) Tryz.underlying216 Tryz.underlying22 (by kernel_rfl) (by kernel_rfl) h
theorem tab_on {w w' : World} (h : Lib.TabIs Tryz.prog w "internal/strconv.uint64pow10" .u64 Lib.pow10Tab) (hb : Below w.heap.size w w') : Lib.TabIs Tryz.prog w' "internal/strconv.uint64pow10" .u64 Lib.pow10Tab := by
  exact Joins.tab_stays (g := 1) (by kernel_rfl) h hb (Nat.le_refl _)
theorem var_on {w w' : World} {x : Array Value} (h : w.var? Tryz.prog "strconv.ErrRange" = some x) (hb : Below w.heap.size w w') : w'.var? Tryz.prog "strconv.ErrRange" = some x :=
  Joins.var_stays (g := 3) (by kernel_rfl) h hb (Nat.le_refl _)
theorem star_name : "*" ++ "errors.errorString" = "*errors.errorString" := by decide
theorem row_err (u : TypeId) (h : (Tryz.prog).typeName? 3 u = some "*errors.errorString") : u = 243 :=
  typeName_ptr_named (nm := "errors.errorString") (by rw [star_name]; kernel_rfl) (by kernel_rfl) (by decide) u (by rw [star_name]; exact h)
theorem range_of {r : List (String × DataW Unit)} {W : World} (h : laidMet Tryz.prog (("strconv.ErrRange", Rows.laid_strconv_ErrRange) :: r) W) : ∃ p, W.var? Tryz.prog "strconv.ErrRange" = some #[.iface 243 p] := by
  obtain ⟨a, s, hv, -, -, -⟩ := laid_sentinel (g := 3) h (by kernel_rfl) (by kernel_rfl) Tryz.underlying184 row_err Tryz.underlying243 Tryz.underlying245 rfl rfl Tryz.underlying9 (by kernel_rfl) (by kernel_rfl)
  exact ⟨_, hv⟩
end Go.Proofs.YtedbcmagjbgbjaaGreatDoor.num
