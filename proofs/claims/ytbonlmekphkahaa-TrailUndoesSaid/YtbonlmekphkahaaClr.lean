/- Slices of slices of calls that came in. elenchuslaw6 = the law's package. -/
import Derived.Test.YtbonlmekphkahaaCls
namespace Go.Proofs.Ytbonlmekphkahaa.arg
open Go.ChangeShapes Go.WideShapes Go.ChangeAt Go.RowKit
set_option linter.unusedVariables false
abbrev Cr := Option Addr × Nat × Nat × List Cl
/-- The slice value with address a holds the n slices of calls f. -/
structure CRows (w : World) (a : Option Addr) (n : Nat) (f : Nat → Cr) : Prop where
  reach : n * 24 ≤ 140737488351232
  place : ∀ k, k < n → ∃ b o, a = some ⟨b, o, none⟩ ∧ b < w.heap.size ∧ w.cell? ⟨b, o + k, none⟩ = some (.slice (f k).1 (f k).2.1 (f k).2.2.1) ∧ CRow w (f k).1 (f k).2.1 (f k).2.2.2
theorem CRows.look {w : World} {a : Option Addr} {n : Nat} {f : Nat → Cr} (h : CRows w a n f) {k : Nat} (hk : k < n) :
    ∃ A : Addr, A.block < w.heap.size ∧ w.cell? A = some (.slice (f k).1 (f k).2.1 (f k).2.2.1) ∧ CRow w (f k).1 (f k).2.1 (f k).2.2.2 ∧ ∀ (c : Nat) (w' : World), (Instr.indexAt 54 (.slice a n c) (.int .i64 (k : Int))).run Try.prog w' = .ok (.pointer (some A)) w' := by
  obtain ⟨b, o, rfl, hb, hc, hr⟩ := h.place k hk
  refine ⟨⟨b, o + k, none⟩, hb, hc, hr, fun c w' => ?_⟩
  have he : Try.prog.elem 54 = 22 := by kernel_rfl
  have hs : (sizeOf 22).run Try.prog w' = .ok 1 w' := by kernel_rfl
  rw [run_indexAt_slice w' 54 _ _ _ _ _ (by rw [he]; exact Try.underlying54), if_pos ⟨by omega, by omega⟩, he, hs]
  simp [Result.andThen, Addr.add]
theorem CRows.nil (w : World) (a : Option Addr) : CRows w a 0 (fun _ => (none, 0, 0, [])) := ⟨by omega, by omega⟩
theorem wAll_mem {H : Type} {P : Program} {e : TypeId} {d : DataW H} {m : Nat} : ∀ {l : List (DataW H)}, d ∈ l → m ∈ d.weights P e → m ∈ DataW.weightsAll P e l
  | x :: r, hd, hm => by
    unfold DataW.weightsAll
    rcases List.mem_cons.1 hd with rfl | hd
    · exact List.mem_append.2 (Or.inl hm)
    · exact List.mem_append.2 (Or.inr (wAll_mem hd hm))
theorem weights_le {H : Type} {P : Program} {ts : List TypeId} {ds : List (DataW H)} (h : (DataW.weightsEach P ts ds).all (· ≤ reachBytes) = true) {j : Nat} {t : TypeId} {d : DataW H} (ht : ts[j]? = some t) (hd : ds[j]? = some d) : ∀ m ∈ d.weights P t, m ≤ reachBytes := fun m hm =>
  of_decide_eq_true (List.all_eq_true.1 h m (DataW.weights_mem_each ht hd m hm))
theorem rows_open {H : Type} {enc : TypeId × Value → H} {W : World} {fuel n c : Nat} {a : Option Addr} {d : DataW H} {p : List MemPlace} {sp : Nat → Bool}
    (hf : DataW.trod enc Try.prog W 0 sp true fuel 54 (Value.slice a n c).cells.toList = some (d, p)) (hlt : ∀ x ∈ p, x.block < W.heap.size)
    (hw : ∀ m ∈ d.weights Try.prog 54, m ≤ reachBytes) : ∃ f, CRows W a n f := by
  have hb : Try.prog.bytesOf 22 = 24 := by kernel_rfl
  have hb2 : Try.prog.bytesOf 36 = 24 := by kernel_rfl
  have hr : reachBytes = 140737488351232 := by decide
  have hc1 : Try.prog.cellsOf 22 = 1 := by kernel_rfl
  rcases DataW.trod_slice Try.underlying54 hf with ⟨h5, _⟩ | ⟨a', len, cap, elems, rest, m, hm, h5, hx, hb', hlc, hcm, hlen, hel, _⟩
  · simp [Value.cells] at h5
    obtain ⟨rfl, rfl, rfl⟩ := h5
    exact ⟨_, CRows.nil W _⟩
  · simp [Value.cells] at h5
    obtain ⟨rfl, rfl, rfl⟩ := h5
    simp only [Prod.mk.injEq] at hx
    obtain ⟨rfl, rfl⟩ := hx
    have hw0 : ∀ m, m ∈ ((elems.map (·.1)).length + (rest.map (·.1)).length) * Try.prog.bytesOf 22 :: (DataW.weightsAll Try.prog 22 (elems.map (·.1)) ++ DataW.weightsAll Try.prog 22 (rest.map (·.1))) → m ≤ reachBytes := by
      intro m hm
      refine hw m ?_
      unfold DataW.weights
      rw [Try.underlying54]
      exact hm
    have h1 := hw0 _ (List.mem_cons.2 (Or.inl rfl))
    rw [hb, hr] at h1
    simp only [List.length_map] at h1
    have key : ∀ j, j < n → ∃ t : Cr, W.cell? (a'.add j) = some (.slice t.1 t.2.1 t.2.2.1) ∧ CRow W t.1 t.2.1 t.2.2.2 := by
      intro j hj
      have hj2 : j < elems.length := by omega
      have := hel j hj
      rw [hc1, Nat.mul_one, List.getElem?_eq_getElem hj2] at this
      obtain ⟨cs', hc, ht⟩ := Option.bind_eq_some_iff.1 this
      obtain ⟨_, hl, hcell⟩ := World.cells?_some hc
      obtain ⟨v, rfl⟩ : ∃ v, cs' = [v] := List.length_eq_one_iff.1 hl
      have hv := hcell 0 (by omega)
      have e0 : ∃ a2 n2 c2, v = .slice a2 n2 c2 := by
        rcases DataW.trod_slice Try.underlying22 ht with ⟨h5, _⟩ | ⟨a2, l2, c2, _, _, _, _, h5, _⟩
        · simp at h5; exact ⟨_, _, _, h5⟩
        · simp at h5; exact ⟨_, _, _, h5⟩
      obtain ⟨a2, n2, c2, rfl⟩ := e0
      obtain ⟨⟨d2, p2⟩, he⟩ : ∃ x, elems[j] = x := ⟨_, rfl⟩
      rw [he] at ht
      have hmem : (d2, p2) ∈ elems := by rw [← he]; exact List.getElem_mem hj2
      obtain ⟨t, ht2⟩ := calls_open (a := a2) (n := n2) (c := c2) ht (fun x hx => hlt x (List.mem_append.2 (Or.inr (List.mem_flatMap.2 ⟨(d2, p2), List.mem_append.2 (Or.inl hmem), hx⟩)))) (fun x y e => hw0 _ (List.mem_cons.2 (Or.inr (List.mem_append.2 (Or.inl (wAll_mem (List.mem_map.2 ⟨_, hmem, rfl⟩) (by
        show _ ∈ d2.weights _ _
        rw [e]; unfold DataW.weights; rw [Try.underlying22]; exact List.mem_cons.2 (Or.inl rfl))))))))
      exact ⟨(a2, n2, c2, t), by simpa [Addr.add] using hv, ht2⟩
    have hch : ∃ f : Nat → Cr, ∀ j, j < n → W.cell? (a'.add j) = some (.slice (f j).1 (f j).2.1 (f j).2.2.1) ∧ CRow W (f j).1 (f j).2.1 (f j).2.2.2 :=
      ⟨fun j => if h : j < n then Classical.choose (key j h) else (none, 0, 0, []), fun j hj => by simp only [dif_pos hj]; exact Classical.choose_spec (key j hj)⟩
    obtain ⟨f, hf'⟩ := hch
    obtain ⟨b, o, spot⟩ := a'
    refine ⟨f, by omega, fun k hk => ?_⟩
    have hspot : spot = none := by
      have h0 := (hf' 0 (by omega)).1
      simpa [Addr.add] using World.cell?_spot h0
    subst hspot
    refine ⟨b, o, rfl, ?_, by have := (hf' k hk).1; rwa [add_plain] at this, (hf' k hk).2⟩
    exact hlt (.cell b o) (by rw [List.mem_append]; exact Or.inl (MemPlace.mem_row.2 ⟨0, by rw [hc1]; omega, by simp⟩))
end Go.Proofs.Ytbonlmekphkahaa.arg
