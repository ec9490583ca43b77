/- Package term: one node without what has no meaning (plainNode, variable). -/
import Derived.Test.YtjgkgceigbimoaaMeas
import Derived.RegionTactic
namespace Go.Proofs.Ytjgkgceigbimoaa.pln
set_option linter.unusedVariables false
open Go.ChangeShapes Go.WideShapes Go.ChangeAt Go.RowKit
open Go.Proofs.Ytjgkgceigbimoaa.tm Go.Proofs.Ytjgkgceigbimoaa.lie Go.Proofs.Ytjgkgceigbimoaa.kp Go.Proofs.Ytjgkgceigbimoaa.wlk Go.Proofs.Ytjgkgceigbimoaa.cur Go.Proofs.Ytjgkgceigbimoaa.may
abbrev ZV : Value := .agg #[.int .i64 0, .string ⟨#[]⟩, .int .i64 0, .int .u64 0, .int .u64 0, .slice none 0 0]
/-- the cells of n zero terms -/
def MC (n : Nat) : Array Value := madeCells ZV.cells (n * 6)
theorem MC_size (n : Nat) : (MC n).size = n * 6 := by unfold MC; simp [madeCells]
theorem infoT : (Try.prog.info? 25).map (fun i => (i.zero, i.size, i.bytes)) = some (some ZV, 6, 72) := by kernel_rfl
theorem make_run (n : Nat) (h : n ≤ 1000000) (w : World) :
    (Instr.makeSlice 22 (.int .i64 (n : Int)) (.int .i64 (n : Int))).run Try.prog w = .ok (.slice (some ⟨w.heap.size, 0, none⟩) n n) (w.alloc (.cells (MC n) 25)) := by
  obtain ⟨i, hi, hz, hs, hb⟩ := info_parts infoT
  have hr := run_make (P := Try.prog) w 22 25 i ZV Try.underlying22 hi hz .i64 .i64 n n (by omega) (Int.le_refl _) (by rw [hb]; omega) (by omega)
  simp only [Int.toNat_natCast, hs] at hr
  exact hr
/-- a node that is no compound, by itself -/
theorem plainNode_leaf (k : Int) (n : ByteArray) (i re im : Int) (a : Option Addr) (len c : Nat) (w : World) (s : Int → Tm) (l : List Tm) (h : k = 2 ∨ k = 3 ∨ k = 4) :
    Calls Try.prog 48 #[.agg #[.int .i64 k, .string n, .int .i64 i, .int .u64 re, .int .u64 im, .slice a len c]] w fun e w' =>
      e = .returned (.agg #[.int .i64 k, .string (if k = 2 then n else ⟨#[]⟩), .int .i64 (if k = 3 then i else 0), .int .u64 (if k = 4 then re else 0), .int .u64 (if k = 4 then im else 0), .slice none 0 0]) ∧ Below w.heap.size w w' := by
  rcases h with rfl | rfl | rfl
  · go_enter Try.func48, Try.ntmps48
    go_wp2_with fail
    exact bodyPost_ret (v := .agg #[.int .i64 2, .string n, .int .i64 0, .int .u64 0, .int .u64 0, .slice none 0 0]) (by simp [results, Try.results48, go_sem]) rfl ⟨rfl, bt (bt (ba w _) (ba _ _)) (ba _ _)⟩
  · go_enter Try.func48, Try.ntmps48
    go_wp2_with fail
    exact bodyPost_ret (v := .agg #[.int .i64 3, .string ⟨#[]⟩, .int .i64 i, .int .u64 0, .int .u64 0, .slice none 0 0]) (by simp [results, Try.results48, go_sem]) rfl ⟨rfl, bt (bt (ba w _) (ba _ _)) (ba _ _)⟩
  · go_enter Try.func48, Try.ntmps48
    go_wp2_with fail
    go_region
    all_goals
      go_wp2_with fail
      exact bodyPost_ret (v := .agg #[.int .i64 4, .string ⟨#[]⟩, .int .i64 0, .int .u64 re, .int .u64 im, .slice none 0 0]) (by simp [results, Try.results48, go_sem]) rfl ⟨rfl, bt (bt (bt (ba w _) (ba _ _)) (ba _ _)) (bdr _)⟩
/-- a compound: its arguments' places are new -/
def Laid5 (n : ByteArray) (len : Nat) (w : World) (e : Ending) (w' : World) : Prop :=
  ∃ q cur, e = .returned (.agg #[.int .i64 5, .string n, .int .i64 0, .int .u64 0, .int .u64 0, .slice (some ⟨q, 0, none⟩) len len]) ∧ Below w.heap.size w w' ∧ w.heap.size ≤ q ∧ w'.heap[q]? = some (.cells cur 25 (0, 0)) ∧ cur.size = len * 6
theorem plainNode_comp (n : ByteArray) (i re im : Int) (a : Option Addr) (len c : Nat) (w : World) (h : len ≤ 20) :
    Calls Try.prog 48 #[.agg #[.int .i64 5, .string n, .int .i64 i, .int .u64 re, .int .u64 im, .slice a len c]] w (Laid5 n len w) := by
  have hmk := make_run len (by omega)
  go_enter Try.func48, Try.ntmps48
  go_wp2_with fail
  go_region
  all_goals
    go_wp2_with fail
    refine bodyPost_ret (v := .agg #[.int .i64 5, .string n, .int .i64 0, .int .u64 0, .int .u64 0, .slice (some ⟨w.heap.size + 1 + 1 + 1, 0, none⟩) len len]) (by simp [results, Try.results48, go_sem]) rfl ⟨w.heap.size + 1 + 1 + 1, MC len, rfl, bt (bt (bt (bt (ba w _) (ba _ _)) (ba _ _)) (ba _ _)) (bdr _), by omega, ?_, MC_size len⟩
    rw [heap_drew]
    have hh := fun (w : World) (o : Obj) (n : Nat) (h : n = w.heap.size) => (h ▸ alloc_at w o : (w.alloc o).heap[n]? = some o)
    exact hh _ _ _ (by rw [alloc_size, alloc_size, alloc_size])
theorem plainNode_2 (n : ByteArray) (i re im : Int) (a : Option Addr) (len c : Nat) (w : World) :
    Calls Try.prog 48 #[.agg #[.int .i64 2, .string n, .int .i64 i, .int .u64 re, .int .u64 im, .slice a len c]] w fun e w' => e = .returned (.agg #[.int .i64 2, .string n, .int .i64 0, .int .u64 0, .int .u64 0, .slice none 0 0]) ∧ Below w.heap.size w w' := by
  have := plainNode_leaf 2 n i re im a len c w var [] (by simp)
  simpa using this
theorem lies_2 (X : Nat → Prop) (s : Int → Tm) (n : ByteArray) (i re im : Int) (l : List Tm) (c : Nat) (w : World) (f : Fit 2 n i re im l.length c) : Lies X w (sub s (.mk 2 n i re im l)) (.agg #[.int .i64 2, .string n, .int .i64 0, .int .u64 0, .int .u64 0, .slice none 0 0]) := by
  obtain ⟨k0, k1, n1, i0, i1, r0, r1, m0, m1, l1, c1⟩ := f
  simp only [sub]
  simp only [show ¬ (2 : Int) = 1 by decide, if_false, if_true]
  rw [Lies]
  exact ⟨none, 0, rfl, ⟨by omega, by omega, n1, by omega, by omega, by omega, by omega, by omega, by omega, by simp, by simp⟩, by rw [TRow]; trivial⟩
theorem plainNode_3 (n : ByteArray) (i re im : Int) (a : Option Addr) (len c : Nat) (w : World) :
    Calls Try.prog 48 #[.agg #[.int .i64 3, .string n, .int .i64 i, .int .u64 re, .int .u64 im, .slice a len c]] w fun e w' => e = .returned (.agg #[.int .i64 3, .string ⟨#[]⟩, .int .i64 i, .int .u64 0, .int .u64 0, .slice none 0 0]) ∧ Below w.heap.size w w' := by
  have := plainNode_leaf 3 n i re im a len c w var [] (by simp)
  simpa using this
theorem lies_3 (X : Nat → Prop) (s : Int → Tm) (n : ByteArray) (i re im : Int) (l : List Tm) (c : Nat) (w : World) (f : Fit 3 n i re im l.length c) : Lies X w (sub s (.mk 3 n i re im l)) (.agg #[.int .i64 3, .string ⟨#[]⟩, .int .i64 i, .int .u64 0, .int .u64 0, .slice none 0 0]) := by
  obtain ⟨k0, k1, n1, i0, i1, r0, r1, m0, m1, l1, c1⟩ := f
  simp only [sub]
  simp only [show ¬ (3 : Int) = 1 by decide, if_false, if_true, show ¬ (3 : Int) = 2 by decide]
  rw [Lies]
  exact ⟨none, 0, rfl, ⟨by omega, by omega, show (0 : Nat) ≤ 9223372036854775807 by omega, by omega, by omega, by omega, by omega, by omega, by omega, by simp, by simp⟩, by rw [TRow]; trivial⟩
theorem plainNode_4 (n : ByteArray) (i re im : Int) (a : Option Addr) (len c : Nat) (w : World) :
    Calls Try.prog 48 #[.agg #[.int .i64 4, .string n, .int .i64 i, .int .u64 re, .int .u64 im, .slice a len c]] w fun e w' => e = .returned (.agg #[.int .i64 4, .string ⟨#[]⟩, .int .i64 0, .int .u64 re, .int .u64 im, .slice none 0 0]) ∧ Below w.heap.size w w' := by
  have := plainNode_leaf 4 n i re im a len c w var [] (by simp)
  simpa using this
theorem lies_4 (X : Nat → Prop) (s : Int → Tm) (n : ByteArray) (i re im : Int) (l : List Tm) (c : Nat) (w : World) (f : Fit 4 n i re im l.length c) : Lies X w (sub s (.mk 4 n i re im l)) (.agg #[.int .i64 4, .string ⟨#[]⟩, .int .i64 0, .int .u64 re, .int .u64 im, .slice none 0 0]) := by
  obtain ⟨k0, k1, n1, i0, i1, r0, r1, m0, m1, l1, c1⟩ := f
  simp only [sub]
  simp only [show ¬ (4 : Int) = 1 by decide, if_false, if_true, show ¬ (4 : Int) = 2 by decide, show ¬ (4 : Int) = 3 by decide]
  rw [Lies]
  exact ⟨none, 0, rfl, ⟨by omega, by omega, show (0 : Nat) ≤ 9223372036854775807 by omega, by omega, by omega, by omega, by omega, by omega, by omega, by simp, by simp⟩, by rw [TRow]; trivial⟩
theorem variable_any (n : Int) (w : World) :
    Calls Try.prog 37 #[.int .i64 n] w fun e w' => e = .returned (.agg #[.int .i64 1, .string ⟨#[]⟩, .int .i64 n, .int .u64 0, .int .u64 0, .slice none 0 0]) ∧ Below w.heap.size w w' := by
  go_enter Try.func37, Try.ntmps37
  go_wp2_with fail
  exact bodyPost_ret (v := .agg #[.int .i64 1, .string ⟨#[]⟩, .int .i64 n, .int .u64 0, .int .u64 0, .slice none 0 0]) (by simp [results, Try.results37, go_sem]) rfl ⟨rfl, ba w _⟩
end Go.Proofs.Ytjgkgceigbimoaa.pln
