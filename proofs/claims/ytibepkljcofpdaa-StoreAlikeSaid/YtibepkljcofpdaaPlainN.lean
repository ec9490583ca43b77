/- Package term: one node without what has no meaning (plainNode, variable). -/
import Derived.Test.YtibepkljcofpdaaMeas
import Derived.RegionTactic
namespace Go.Proofs.Ytibepkljcofpdaa.pln
set_option linter.unusedVariables false
open Go.ChangeShapes Go.WideShapes Go.ChangeAt Go.RowKit
open Go.Proofs.Ytibepkljcofpdaa.tm Go.Proofs.Ytibepkljcofpdaa.lie Go.Proofs.Ytibepkljcofpdaa.kp Go.Proofs.Ytibepkljcofpdaa.wlk Go.Proofs.Ytibepkljcofpdaa.cur Go.Proofs.Ytibepkljcofpdaa.may
abbrev ZV : Value := .agg #[.int .i64 0, .string ⟨#[]⟩, .int .i64 0, .int .u64 0, .int .u64 0, .slice none 0 0]
/-- the cells of n zero terms -/
def MC (n : Nat) : Array Value := madeCells ZV.cells (n * 6)
theorem MC_size (n : Nat) : (MC n).size = n * 6 := by unfold MC; simp [madeCells]
theorem infoT : (Try.prog.info? 36).map (fun i => (i.zero, i.size, i.bytes)) = some (some ZV, 6, 72) := by kernel_rfl
theorem make_run (n : Nat) (h : n ≤ 1000000) (w : World) :
    (Instr.makeSlice 22 (.int .i64 (n : Int)) (.int .i64 (n : Int))).run Try.prog w = .ok (.slice (some ⟨w.heap.size, 0, none⟩) n n) (w.alloc (.cells (MC n) 36)) := by
  obtain ⟨i, hi, hz, hs, hb⟩ := info_parts infoT
  have hr := run_make (P := Try.prog) w 22 36 i ZV Try.underlying22 hi hz .i64 .i64 n n (by omega) (Int.le_refl _) (by rw [hb]; omega) (by omega)
  simp only [Int.toNat_natCast, hs] at hr
  exact hr
/-- a compound: its arguments' places are new -/
def Laid5 (n : ByteArray) (len : Nat) (w : World) (e : Ending) (w' : World) : Prop :=
  ∃ q cur, e = .returned (.agg #[.int .i64 5, .string n, .int .i64 0, .int .u64 0, .int .u64 0, .slice (some ⟨q, 0, none⟩) len len]) ∧ Below w.heap.size w w' ∧ w.heap.size ≤ q ∧ w'.heap[q]? = some (.cells cur 36 (0, 0)) ∧ cur.size = len * 6
theorem lies_2 (X : Nat → Prop) (s : Int → Tm) (n : ByteArray) (i re im : Int) (l : List Tm) (c : Nat) (w : World) (f : Fit 2 n i re im l.length c) : Lies X w (sub s (.mk 2 n i re im l)) (.agg #[.int .i64 2, .string n, .int .i64 0, .int .u64 0, .int .u64 0, .slice none 0 0]) := by
  obtain ⟨k0, k1, n1, i0, i1, r0, r1, m0, m1, l1, c1⟩ := f
  simp only [sub]
  simp only [show ¬ (2 : Int) = 1 by decide, if_false, if_true]
  rw [Lies]
  exact ⟨none, 0, rfl, ⟨by omega, by omega, n1, by omega, by omega, by omega, by omega, by omega, by omega, by simp, by simp⟩, by rw [TRow]; trivial⟩
theorem lies_3 (X : Nat → Prop) (s : Int → Tm) (n : ByteArray) (i re im : Int) (l : List Tm) (c : Nat) (w : World) (f : Fit 3 n i re im l.length c) : Lies X w (sub s (.mk 3 n i re im l)) (.agg #[.int .i64 3, .string ⟨#[]⟩, .int .i64 i, .int .u64 0, .int .u64 0, .slice none 0 0]) := by
  obtain ⟨k0, k1, n1, i0, i1, r0, r1, m0, m1, l1, c1⟩ := f
  simp only [sub]
  simp only [show ¬ (3 : Int) = 1 by decide, if_false, if_true, show ¬ (3 : Int) = 2 by decide]
  rw [Lies]
  exact ⟨none, 0, rfl, ⟨by omega, by omega, show (0 : Nat) ≤ 9223372036854775807 by omega, by omega, by omega, by omega, by omega, by omega, by omega, by simp, by simp⟩, by rw [TRow]; trivial⟩
theorem lies_4 (X : Nat → Prop) (s : Int → Tm) (n : ByteArray) (i re im : Int) (l : List Tm) (c : Nat) (w : World) (f : Fit 4 n i re im l.length c) : Lies X w (sub s (.mk 4 n i re im l)) (.agg #[.int .i64 4, .string ⟨#[]⟩, .int .i64 0, .int .u64 re, .int .u64 im, .slice none 0 0]) := by
  obtain ⟨k0, k1, n1, i0, i1, r0, r1, m0, m1, l1, c1⟩ := f
  simp only [sub]
  simp only [show ¬ (4 : Int) = 1 by decide, if_false, if_true, show ¬ (4 : Int) = 2 by decide, show ¬ (4 : Int) = 3 by decide]
  rw [Lies]
  exact ⟨none, 0, rfl, ⟨by omega, by omega, show (0 : Nat) ≤ 9223372036854775807 by omega, by omega, by omega, by omega, by omega, by omega, by omega, by simp, by simp⟩, by rw [TRow]; trivial⟩
end Go.Proofs.Ytibepkljcofpdaa.pln
