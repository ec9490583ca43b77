/- Slices of cells, and of calls (what, where, a cell), that came in: what a walk may know of them, whatever their address. -/
import Derived.Test.YtickdmfcdfocmaaRows
import Derived.WalkKit
import Derived.ProofKit
import Derived.OpenShut
import Derived.SizedLaws
import Derived.Lib.Hide
import Derived.ChangeSlices
namespace Go.Proofs.Ytickdmfcdfocmaa.arg
open Go.ChangeShapes Go.WideShapes Go.ChangeAt Go.RowKit
set_option linter.unusedVariables false
/-- The slice value with address a holds the n cells t. -/
structure Ints (w : World) (a : Option Addr) (n : Nat) (t : List Int) : Prop where
  len : t.length = n
  reach : n * 8 ≤ 140737488351232
  wf : ∀ x ∈ t, 0 ≤ x ∧ x < 18446744073709551616
  place : ∀ k, k < n → ∃ b o, a = some ⟨b, o, none⟩ ∧ b < w.heap.size ∧ w.cell? ⟨b, o + k, none⟩ = some (.int .u64 (t.getD k 0))
theorem wf_u {n : Int} (h : (Lit.int .u64 n).wf = true) : 0 ≤ n ∧ n < 18446744073709551616 := by
  have e1 : IntKind.u64.min = 0 := by decide
  have e2 : IntKind.u64.max = 18446744073709551615 := by decide
  simp only [Lit.wf, e1, e2, Bool.and_eq_true, decide_eq_true_eq] at h
  omega
theorem wf_i {n : Int} (h : (Lit.int .i64 n).wf = true) : -9223372036854775808 ≤ n ∧ n ≤ 9223372036854775807 := by
  have e1 : IntKind.i64.min = -9223372036854775808 := by decide
  have e2 : IntKind.i64.max = 9223372036854775807 := by decide
  simp only [Lit.wf, e1, e2, Bool.and_eq_true, decide_eq_true_eq] at h
  exact h
theorem Ints.look {w : World} {a : Option Addr} {n : Nat} {t : List Int} (h : Ints w a n t) {k : Nat} (hk : k < n) :
    ∃ A : Addr, A.block < w.heap.size ∧ w.cell? A = some (.int .u64 (t.getD k 0)) ∧ ∀ (c : Nat) (w' : World), (Instr.indexAt 22 (.slice a n c) (.int .i64 (k : Int))).run Try.prog w' = .ok (.pointer (some A)) w' := by
  obtain ⟨b, o, rfl, hb, hc⟩ := h.place k hk
  refine ⟨⟨b, o + k, none⟩, hb, hc, fun c w' => ?_⟩
  have he : Try.prog.elem 22 = 25 := by kernel_rfl
  have hs : (sizeOf 25).run Try.prog w' = .ok 1 w' := by kernel_rfl
  rw [run_indexAt_slice w' 22 _ _ _ _ _ (by rw [he]; exact Try.underlying22), if_pos ⟨by omega, by omega⟩, he, hs]
  simp [Result.andThen, Addr.add]
theorem Ints.at_wf {w : World} {a : Option Addr} {n : Nat} {t : List Int} (h : Ints w a n t) (k : Nat) : 0 ≤ t.getD k 0 ∧ t.getD k 0 < 18446744073709551616 := by
  rw [List.getD_eq_getElem?_getD]
  cases e : t[k]? with
  | none => exact ⟨by simp, by simp⟩
  | some x => exact h.wf x (List.mem_of_getElem? e)
theorem Ints.nil (w : World) (a : Option Addr) : Ints w a 0 [] := ⟨rfl, by omega, by simp, by omega⟩
theorem ints_open {H : Type} {enc : TypeId × Value → H} {W : World} {fuel n c : Nat} {a : Option Addr} {d : DataW H} {p : List MemPlace} {sp : Nat → Bool}
    (hf : DataW.trod enc Try.prog W 0 sp true fuel 22 (Value.slice a n c).cells.toList = some (d, p)) (hlt : ∀ x ∈ p, x.block < W.heap.size)
    (hsz : ∀ x y, d = .slice x y → (x.length + y.length) * Try.prog.bytesOf 25 ≤ reachBytes) : ∃ t, Ints W a n t := by
  have hb : Try.prog.bytesOf 25 = 8 := by kernel_rfl
  have hr : reachBytes = 140737488351232 := by decide
  rcases open_ints Try.underlying22 Try.underlying25 (by kernel_rfl) hf with ⟨hcs, hx⟩ | ⟨a', len', cap', ss, hcs, _, hl, hm, hz, hx, hcell, hws⟩
  · simp [Value.cells] at hcs
    obtain ⟨rfl, rfl, rfl⟩ := hcs
    exact ⟨[], Ints.nil W _⟩
  · simp [Value.cells] at hcs
    obtain ⟨rfl, rfl, rfl⟩ := hcs
    simp only [Prod.mk.injEq] at hx
    obtain ⟨rfl, rfl⟩ := hx
    have h1 := hsz _ _ rfl
    rw [hb, hr] at h1
    have hn : n ≤ ss.length := by rw [hz]; split <;> omega
    simp only [lits, List.length_map, List.length_take, List.length_drop] at h1
    refine ⟨ss.take n, by simp; omega, by omega, fun s hs => wf_u (hws s (List.mem_of_mem_take hs)), fun k hk => ?_⟩
    have hc := hcell k (by omega)
    obtain ⟨b, o, spot⟩ := a'
    have hspot : spot = none := by
      have h0 := hcell 0 (by omega)
      simpa [Addr.add] using World.cell?_spot h0
    subst hspot
    refine ⟨b, o, rfl, ?_, ?_⟩
    · exact hlt (.cell b o) (MemPlace.mem_row.2 ⟨0, by omega, by simp⟩)
    · rw [add_plain] at hc
      rw [hc]
      simp [List.getD, hk]
end Go.Proofs.Ytickdmfcdfocmaa.arg
