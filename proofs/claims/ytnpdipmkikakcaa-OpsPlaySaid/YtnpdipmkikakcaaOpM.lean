/- Operators that came in as arguments. -/
import Derived.Test.YtnpdipmkikakcaaOpB
import Derived.WalkKit
import Derived.ProofKit
import Derived.OpenShut
import Derived.SizedLaws
namespace Go.Proofs.Ytnpdipmkikakcaa.opm
open Go.ChangeShapes Go.WideShapes Go.ChangeAt Go.RowKit
open Go.Proofs.Ytnpdipmkikakcaa.kp Go.Proofs.Ytnpdipmkikakcaa.opa Go.Proofs.Ytnpdipmkikakcaa.opb
set_option linter.unusedVariables false
def d0 : D := ⟨[], 0, 0⟩
/-- The slice value with address a holds the n operators t. -/
structure ORow (w : World) (a : Option Addr) (n : Nat) (t : List D) : Prop where
  len : t.length = n
  reach : n * 32 ≤ 140737488351232
  place : ∀ k, k < n → ∃ b o, a = some ⟨b, o, none⟩ ∧ b < w.heap.size ∧ w.cell? ⟨b, o + k * 3, none⟩ = some (.string ⟨(t.getD k d0).n.toArray⟩) ∧ w.cell? ⟨b, o + k * 3 + 1, none⟩ = some (.int .i64 (t.getD k d0).k) ∧ w.cell? ⟨b, o + k * 3 + 2, none⟩ = some (.int .i64 (t.getD k d0).p)
theorem ORow.look {w : World} {a : Option Addr} {n : Nat} {t : List D} (h : ORow w a n t) {k : Nat} (hk : k < n) :
    ∃ b o, b < w.heap.size ∧ w.cell? ⟨b, o, none⟩ = some (.string ⟨(t.getD k d0).n.toArray⟩) ∧ w.cell? ⟨b, o + 1, none⟩ = some (.int .i64 (t.getD k d0).k) ∧ w.cell? ⟨b, o + 2, none⟩ = some (.int .i64 (t.getD k d0).p) ∧
      ∀ (c : Nat) (w' : World), (Instr.indexAt 22 (.slice a n c) (.int .i64 (k : Int))).run Try.prog w' = .ok (.pointer (some ⟨b, o, none⟩)) w' := by
  obtain ⟨b, o, rfl, hb, c0, c1, c2⟩ := h.place k hk
  refine ⟨b, o + k * 3, hb, c0, c1, c2, fun c w' => ?_⟩
  rw [run_indexAt_slice w' 22 _ _ _ _ _ (by rw [elT]; exact Try.underlying22), if_pos ⟨by omega, by omega⟩, elT, szT]
  simp only [Result.andThen]
  rcases k with _ | k <;> simp [Addr.add]
theorem ORow.nil (w : World) (a : Option Addr) : ORow w a 0 [] := ⟨rfl, by omega, by omega⟩
theorem cells3 : Try.prog.cellsOf 32 = 3 := by kernel_rfl
theorem one3 (t : TypeId) (h : Try.prog.cellsOf t = 1) (cs : List Value) (j : Nat) (v : Value) (hj : cs[j]? = some v) : (cs.drop j).take (Try.prog.cellsOf t) = [v] := by
  rw [h]
  obtain ⟨hl, rfl⟩ := List.getElem?_eq_some_iff.1 hj
  rw [List.drop_eq_getElem_cons hl]
  rfl
theorem op_open {H : Type} {enc : TypeId × Value → H} {W : World} {base : Nat} {sp : Nat → Bool} {held : Bool} {fuel : Nat} {cs : List Value} {x : DataW H × List MemPlace}
    (h : DataW.trod enc Try.prog W base sp held fuel 32 cs = some x) : ∃ t : D, cs = t.cs := by
  obtain ⟨xs, n, hn, hx, hl, hxl, hf⟩ := DataW.trod_struct Try.underlying32 h
  rw [cells3] at hl
  match cs, hl with
  | [u0, u1, u2], _ =>
    have f0 := hf 0 _ rfl
    have f1 := hf 1 _ rfl
    have f2 := hf 2 _ rfl
    rw [one3 _ (by kernel_rfl) _ _ u0 rfl] at f0
    rw [one3 _ (by kernel_rfl) _ _ u1 rfl] at f1
    rw [one3 _ (by kernel_rfl) _ _ u2 rfl] at f2
    have hxs : ∀ j, j < 3 → ∃ y, xs[j]? = some y := fun j hj => ⟨_, List.getElem?_eq_getElem (by rw [hxl]; exact hj)⟩
    obtain ⟨y0, e0⟩ := hxs 0 (by omega)
    obtain ⟨y1, e1⟩ := hxs 1 (by omega)
    obtain ⟨y2, e2⟩ := hxs 2 (by omega)
    obtain ⟨s, hs, _⟩ := DataW.trod_string Try.underlying9 (f0.trans e0)
    obtain ⟨i, hi, _, wi⟩ := DataW.trod_int Try.underlying3 (f1.trans e1)
    obtain ⟨c, hc, _, wc⟩ := DataW.trod_int Try.underlying3 (f2.trans e2)
    simp only [List.cons.injEq, and_true] at hs hi hc
    subst hs; subst hi; subst hc
    exact ⟨⟨s.data.toList, i, c⟩, rfl⟩
theorem ops_open {H : Type} {enc : TypeId × Value → H} {W : World} {fuel n c : Nat} {a : Option Addr} {d : DataW H} {p : List MemPlace} {sp : Nat → Bool}
    (hf : DataW.trod enc Try.prog W 0 sp true fuel 22 (Value.slice a n c).cells.toList = some (d, p)) (hlt : ∀ x ∈ p, x.block < W.heap.size)
    (hsz : ∀ x y, d = .slice x y → (x.length + y.length) * Try.prog.bytesOf 32 ≤ reachBytes) : ∃ t, ORow W a n t := by
  have hb : Try.prog.bytesOf 32 = 32 := by kernel_rfl
  have hr : reachBytes = 140737488351232 := by decide
  rcases DataW.trod_slice Try.underlying22 hf with ⟨h5, _⟩ | ⟨a', len, cap, elems, rest, m, hm, h5, hx, hb', hlc, hcm, hlen, hel, _⟩
  · simp [Value.cells] at h5
    obtain ⟨rfl, rfl, rfl⟩ := h5
    exact ⟨[], ORow.nil W _⟩
  · simp [Value.cells] at h5
    obtain ⟨rfl, rfl, rfl⟩ := h5
    simp only [Prod.mk.injEq] at hx
    obtain ⟨rfl, rfl⟩ := hx
    have h1 := hsz _ _ rfl
    rw [hb, hr] at h1
    simp only [List.length_map] at h1
    have key : ∀ j, j < n → ∃ t : D, W.cells? 0 (a'.add (j * 3)) 3 = some t.cs := by
      intro j hj
      have := hel j hj
      rw [cells3, List.getElem?_eq_getElem (by omega)] at this
      obtain ⟨cs', hc, ht⟩ := Option.bind_eq_some_iff.1 this
      obtain ⟨t, rfl⟩ := op_open ht
      exact ⟨t, hc⟩
    have hch : ∃ f : Nat → D, ∀ j, j < n → W.cells? 0 (a'.add (j * 3)) 3 = some (f j).cs :=
      ⟨fun j => if h : j < n then Classical.choose (key j h) else d0, fun j hj => by simp only [dif_pos hj]; exact Classical.choose_spec (key j hj)⟩
    obtain ⟨f, hf'⟩ := hch
    obtain ⟨b, o, spot⟩ := a'
    have eg : ∀ k, k < n → ((List.range n).map f).getD k d0 = f k := fun k hk => by simp [List.getD, hk]
    refine ⟨(List.range n).map f, by simp, by omega, fun k hk => ?_⟩
    obtain ⟨_, _, hcell⟩ := World.cells?_some (hf' k hk)
    have hspot : spot = none := by
      have h0 := (World.cells?_some (hf' 0 (by omega))).2.2 0 (by omega)
      simpa [Addr.add, D.cs] using World.cell?_spot h0
    subst hspot
    rw [eg k hk]
    have e : ∀ i v, i < 3 → (f k).cs[i]? = some v → W.cell? ⟨b, o + k * 3 + i, none⟩ = some v := fun i v hi hv => by
      have := hcell i hi
      rw [hv, add_plain, add_plain] at this
      exact this
    refine ⟨b, o, rfl, ?_, e 0 _ (by omega) rfl, e 1 _ (by omega) rfl, e 2 _ (by omega) rfl⟩
    exact hlt (.cell b o) (by rw [List.mem_append]; exact Or.inl (MemPlace.mem_row.2 ⟨0, by have := cells3; rw [cells3]; omega, by simp⟩))
/-- a struct argument -/
theorem op_arg {H : Type} {enc : TypeId × Value → H} {W : World} {sp : Nat → Bool} {d : DataW H} {p : List MemPlace} {v : Value} (hs : ∃ cs, v = .agg cs)
    (h : ∃ fuel, DataW.trod enc Try.prog W 0 sp true fuel 32 v.cells.toList = some (d, p)) : ∃ t : D, v = t.v := by
  obtain ⟨cs, rfl⟩ := hs
  obtain ⟨fuel, h⟩ := h
  obtain ⟨t, ht⟩ := op_open h
  refine ⟨t, ?_⟩
  have : cs = t.cs.toArray := by
    apply Array.ext'
    simpa [Value.cells] using ht
  rw [this]; rfl
end Go.Proofs.Ytnpdipmkikakcaa.opm
