/- The project's Get of no heap, no names; Sound of these. -/
import Derived.Test.YtibepkljcofpdaaPl
import Derived.Test.YtibepkljcofpdaaAwk
import Derived.Test.YtibepkljcofpdaaRPutC
namespace Go.Proofs.Ytibepkljcofpdaa.pgt
set_option linter.unusedVariables false
open Go.ChangeShapes Go.WideShapes Go.ChangeAt Go.RowKit Go.Maps
open Go.Proofs.Ytibepkljcofpdaa.kp Go.Proofs.Ytibepkljcofpdaa.tm Go.Proofs.Ytibepkljcofpdaa.lie Go.Proofs.Ytibepkljcofpdaa.cur Go.Proofs.Ytibepkljcofpdaa.pla Go.Proofs.Ytibepkljcofpdaa.pln Go.Proofs.Ytibepkljcofpdaa.wlk
abbrev zv : Value := .agg #[.int .i64 0, .string ⟨#[]⟩, .int .i64 0, .int .u64 0, .int .u64 0, .slice none 0 0]
set_option maxRecDepth 100000 in
theorem pGet_nil1 (q : Option Addr) (c : Int) (v3 : Value) (w : World) : Calls Try.prog 24 #[.pointer none, .pointer q, .int .u64 c, v3] w fun e w' => e = .returned (.tuple #[zv, .int .i64 1]) ∧ Below w.heap.size w w' := by
  have hb1 := ba w ZT
  have hz := alloc_at w ZT
  obtain ⟨⟨z0, z1, z2, z3, z4, z5⟩, y0, y1, y2, y3, y4, y5⟩ := blk_facts hz
  go_enter Try.func24, Try.ntmps24
  go_wp2_with fail
  exact bodyPost_ret (v := .tuple #[zv, .int .i64 1]) (by simp [results, Try.results24, go_sem, z0, z1, z2, z3, z4, z5]) rfl ⟨rfl, hb1⟩
set_option maxRecDepth 100000 in
theorem pGet_nil2 (p : Addr) (c : Int) (v3 : Value) (w : World) : Calls Try.prog 24 #[.pointer (some p), .pointer none, .int .u64 c, v3] w fun e w' => e = .returned (.tuple #[zv, .int .i64 1]) ∧ Below w.heap.size w w' := by
  have hb1 := ba w ZT
  have hz := alloc_at w ZT
  obtain ⟨⟨z0, z1, z2, z3, z4, z5⟩, y0, y1, y2, y3, y4, y5⟩ := blk_facts hz
  go_enter Try.func24, Try.ntmps24
  go_wp2_with fail
  exact bodyPost_ret (v := .tuple #[zv, .int .i64 1]) (by simp [results, Try.results24, go_sem, z0, z1, z2, z3, z4, z5]) rfl ⟨rfl, hb1⟩
theorem pSound_nil (q : Option Addr) (c : Int) (w : World) : Calls Try.prog 27 #[.pointer none, .pointer q, .int .u64 c] w fun e w' => e = .returned (.int .i64 1) ∧ Below w.heap.size w w' := by
  have hg := pGet_nil1 q c (.map none) w
  go_enter Try.func27, Try.ntmps27
  go_wp2_with fail
  refine hg.mono ?_; rintro e w2 ⟨rfl, hb⟩
  have HB := Lib.hid hb
  clear hg hb
  go_wp2_with fail
  go_ret
  exact ⟨rfl, HB.out.trans ((ba w2 _).mono HB.out.size)⟩
end Go.Proofs.Ytibepkljcofpdaa.pgt
