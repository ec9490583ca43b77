/- A slice of strings that came in: what a walk may know of it, whatever its address. -/
import Derived.Test.YtickdmfcdfocmaaRows
import Derived.WalkKit
import Derived.ProofKit
import Derived.OpenShut
import Derived.SizedLaws
import Derived.Lib.Hide
namespace Go.Proofs.Ytickdmfcdfocmaa.atm
open Go.ChangeShapes Go.WideShapes Go.ChangeAt Go.RowKit
/-- The slice value with address a holds the n strings t. -/
structure Strs (w : World) (a : Option Addr) (n : Nat) (t : List ByteArray) : Prop where
  len : t.length = n
  reach : n * 16 ≤ 140737488351232
  size : ∀ s ∈ t, s.size ≤ maxLen
  place : ∀ k, k < n → ∃ b o, a = some ⟨b, o, none⟩ ∧ b < w.heap.size ∧ w.cell? ⟨b, o + k, none⟩ = some (.string (t.getD k ByteArray.empty))
theorem Strs.look {w : World} {a : Option Addr} {n : Nat} {t : List ByteArray} (h : Strs w a n t) {k : Nat} (hk : k < n) :
    ∃ A : Addr, A.block < w.heap.size ∧ w.cell? A = some (.string (t.getD k ByteArray.empty)) ∧ ∀ (c : Nat) (w' : World), (Instr.indexAt 23 (.slice a n c) (.int .i64 (k : Int))).run Try.prog w' = .ok (.pointer (some A)) w' := by
  obtain ⟨b, o, rfl, hb, hc⟩ := h.place k hk
  refine ⟨⟨b, o + k, none⟩, hb, hc, fun c w' => ?_⟩
  have he : Try.prog.elem 23 = 9 := by kernel_rfl
  have hs : (sizeOf 9).run Try.prog w' = .ok 1 w' := by kernel_rfl
  rw [run_indexAt_slice w' 23 _ _ _ _ _ (by rw [he]; exact Try.underlying23), if_pos ⟨by omega, by omega⟩, he, hs]
  simp [Result.andThen, Addr.add]
theorem Strs.at_size {w : World} {a : Option Addr} {n : Nat} {t : List ByteArray} (h : Strs w a n t) {k : Nat} (hk : k < n) : (t.getD k ByteArray.empty).size ≤ maxLen := by
  have := h.len
  refine h.size _ ?_
  rw [List.getD_eq_getElem?_getD, List.getElem?_eq_getElem (by omega)]; simp
theorem Strs.nil (w : World) (a : Option Addr) : Strs w a 0 [] := ⟨rfl, by omega, by simp, by omega⟩
theorem strs_open {H : Type} {enc : TypeId × Value → H} {W : World} {fuel n c : Nat} {a : Option Addr} {d : DataW H} {p : List MemPlace} {sp : Nat → Bool}
    (hf : DataW.trod enc Try.prog W 0 sp true fuel 23 (Value.slice a n c).cells.toList = some (d, p)) (hlt : ∀ x ∈ p, x.block < W.heap.size)
    (hsz : ∀ x y, d = .slice x y → (x.length + y.length) * Try.prog.bytesOf 9 ≤ reachBytes) : ∃ t, Strs W a n t := by
  have hb : Try.prog.bytesOf 9 = 16 := by kernel_rfl
  have hr : reachBytes = 140737488351232 := by decide
  rcases open_strings Try.underlying23 Try.underlying9 (by kernel_rfl) hf with ⟨hcs, hx⟩ | ⟨a', len', cap', ss, hcs, _, hl, hm, hz, hx, hcell, hws⟩
  · simp [Value.cells] at hcs
    obtain ⟨rfl, rfl, rfl⟩ := hcs
    exact ⟨[], Strs.nil W _⟩
  · simp [Value.cells] at hcs
    obtain ⟨rfl, rfl, rfl⟩ := hcs
    simp only [Prod.mk.injEq] at hx
    obtain ⟨rfl, rfl⟩ := hx
    have h1 := hsz _ _ rfl
    rw [hb, hr] at h1
    have hn : n ≤ ss.length := by rw [hz]; split <;> omega
    simp only [strs, List.length_map, List.length_take, List.length_drop] at h1
    refine ⟨ss.take n, by simp; omega, by omega, fun s hs => hws s (List.mem_of_mem_take hs), fun k hk => ?_⟩
    have hc := hcell k (by omega)
    obtain ⟨b, o, spot⟩ := a'
    have hspot : spot = none := by
      have h0 := hcell 0 (by omega)
      simpa [Addr.add] using World.cell?_spot h0
    subst hspot
    refine ⟨b, o, rfl, ?_, ?_⟩
    · exact hlt (.cell b o) (MemPlace.mem_row.2 ⟨0, by omega, by simp⟩)
    · rw [add_plain] at hc
      rw [hc]
      simp [List.getD, hk]
end Go.Proofs.Ytickdmfcdfocmaa.atm
