/- Package term: Plain; what a function that tells a term gives. -/
import Derived.Test.YtibepkljcofpdaaRbV
import Derived.Test.YtibepkljcofpdaaVars
namespace Go.Proofs.Ytibepkljcofpdaa.pla
set_option linter.unusedVariables false
open Go.ChangeShapes Go.WideShapes Go.ChangeAt Go.RowKit
open Go.Proofs.Ytibepkljcofpdaa.tm Go.Proofs.Ytibepkljcofpdaa.lie Go.Proofs.Ytibepkljcofpdaa.kp Go.Proofs.Ytibepkljcofpdaa.wlk Go.Proofs.Ytibepkljcofpdaa.cur Go.Proofs.Ytibepkljcofpdaa.rws Go.Proofs.Ytibepkljcofpdaa.pln Go.Proofs.Ytibepkljcofpdaa.mes Go.Proofs.Ytibepkljcofpdaa.vrs
/-- the answer is this term; it lies off Z -/
def Gives (Z : Nat → Prop) (q : Tm) (w : World) (e : Ending) (w' : World) : Prop := ∃ k nn i re im a len c, e = .returned (.agg #[.int .i64 k, .string nn, .int .i64 i, .int .u64 re, .int .u64 im, .slice a len c]) ∧ Below w.heap.size w w' ∧
  Lies Z w' q (.agg #[.int .i64 k, .string nn, .int .i64 i, .int .u64 re, .int .u64 im, .slice a len c])
/-- all that is old -/
abbrev Old (w : World) : Nat → Prop := fun k => k < w.heap.size
theorem res_fin {w : World} {rv : Nat} (hz : w.heap[rv]? = some ZT) (v0 v1 v2 v3 v4 v5 : Value) : ∃ W,
    ((((((w.setCell ⟨rv, 0, none⟩ v0).setCell ⟨rv, 1, none⟩ v1).setCell ⟨rv, 2, none⟩ v2).setCell ⟨rv, 3, none⟩ v3).setCell ⟨rv, 4, none⟩ v4).setCell ⟨rv, 5, none⟩ v5) = W ∧
    W.cell? ⟨rv, 0, none⟩ = some v0 ∧ W.cell? ⟨rv, 1, none⟩ = some v1 ∧ W.cell? ⟨rv, 2, none⟩ = some v2 ∧ W.cell? ⟨rv, 3, none⟩ = some v3 ∧ W.cell? ⟨rv, 4, none⟩ = some v4 ∧ W.cell? ⟨rv, 5, none⟩ = some v5 ∧ Keep (fun k => k = rv) w W := by
  obtain ⟨e0, e1, e2, e3, e4, e5⟩ := six_set (v0 := v0) (v1 := v1) (v2 := v2) (v3 := v3) (v4 := v4) (v5 := v5) hz
  exact ⟨_, rfl, e0, e1, e2, e3, e4, e5, keep_set6 w rv v0 v1 v2 v3 v4 v5⟩
/-- two blocks have been made: the box of an argument, the answer's place -/
theorem two_at {w w1 : World} {o : Obj} (h : Below ((w.alloc o).alloc ZT).heap.size ((w.alloc o).alloc ZT) w1) : w1.heap[w.heap.size]? = some o ∧ w1.heap[w.heap.size + 1]? = some ZT ∧ w.heap.size + 1 < w1.heap.size ∧ Below w.heap.size w w1 := by
  have hs := h.size
  simp only [alloc_size] at hs
  have h2 := alloc_at (w.alloc o) ZT
  rw [alloc_size] at h2
  refine ⟨(h.block _ (by simp only [alloc_size]; omega)).trans (((ba (w.alloc o) ZT).block _ (by rw [alloc_size]; omega)).trans (alloc_at w o)), (h.block _ (by simp only [alloc_size]; omega)).trans h2, by omega, bt (bt (ba w o) (ba _ ZT)) h⟩
theorem occ_bound {X : Nat → Prop} {w : World} : ∀ (t : Tm) (v : Value), Lies X w t v → ∀ n ∈ occ t, -9223372036854775808 ≤ n ∧ n ≤ 9223372036854775807 := by
  intro t
  induction t using Tm.ind with
  | h k n i re im l ih =>
    intro v h m hm
    rw [Lies] at h
    obtain ⟨a, c, _, hf, hr⟩ := h
    simp only [occ] at hm
    by_cases h1 : k = 1
    · rw [if_pos h1, List.mem_singleton] at hm
      subst hm
      exact ⟨hf.i0, hf.i1⟩
    · rw [if_neg h1] at hm
      by_cases h5 : k = 5
      · rw [if_pos h5, occL_flat, List.mem_flatMap] at hm
        obtain ⟨x, hx, hm⟩ := hm
        obtain ⟨j, hj, rfl⟩ := List.getElem_of_mem hx
        obtain ⟨b, o, v0, v1, v2, v3, v4, v5, _, _, _, hl⟩ := hr.at j hj
        exact ih _ hx _ hl m hm
      · rw [if_neg h5] at hm; simp at hm
theorem var_lies (X : Nat → Prop) (n : Int) (w : World) (h0 : -9223372036854775808 ≤ n) (h1 : n ≤ 9223372036854775807) : Lies X w (var n) (.agg #[.int .i64 1, .string ⟨#[]⟩, .int .i64 n, .int .u64 0, .int .u64 0, .slice none 0 0]) := by
  rw [var, Lies]
  exact ⟨none, 0, rfl, ⟨by omega, by omega, show (0 : Nat) ≤ 9223372036854775807 by omega, h0, h1, by omega, by omega, by omega, by omega, by simp, by simp⟩, by rw [TRow]; trivial⟩
theorem zero_lies (X : Nat → Prop) (w : World) : Lies X w zero ZV := by
  rw [zero, Lies]
  exact ⟨none, 0, rfl, ⟨by omega, by omega, show (0 : Nat) ≤ 9223372036854775807 by omega, by omega, by omega, by omega, by omega, by omega, by omega, by simp, by simp⟩, by rw [TRow]; trivial⟩
/-- Plain's answer -/
def plainR (t : Tm) : Tm := if good t = true then plain t else zero
end Go.Proofs.Ytibepkljcofpdaa.pla
