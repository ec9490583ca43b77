/- The library's replacer: build. -/
import Derived.Test.YtedbcmagjbgbjaaGreatDoorTkT
import Derived.Laws.CopyRow
namespace Go.Proofs.YtedbcmagjbgbjaaGreatDoor.tk
open Go.ChangeShapes Go.WideShapes Go.ChangeAt Go.RowKit Go.Maps
open Go.Proofs.YtedbcmagjbgbjaaGreatDoor.kp Go.Proofs.YtedbcmagjbgbjaaGreatDoor.num Go.Proofs.YtedbcmagjbgbjaaGreatDoor.dec
set_option linter.unusedVariables false
/-- what is replaced, by what -/
structure ON (w : World) (b og cap : Nat) : Prop where
  row : w.cell? ⟨b, 4, none⟩ = some (.slice (some ⟨og, 0, none⟩) 6 cap)
  o0 : w.cell? ⟨og, 0, none⟩ = some (.string ⟨#[92]⟩)
  o1 : w.cell? ⟨og, 1, none⟩ = some (.string ⟨#[92, 92]⟩)
  o2 : w.cell? ⟨og, 2, none⟩ = some (.string ⟨#[10]⟩)
  o3 : w.cell? ⟨og, 3, none⟩ = some (.string ⟨#[92, 110]⟩)
  o4 : w.cell? ⟨og, 4, none⟩ = some (.string ⟨#[39]⟩)
  o5 : w.cell? ⟨og, 5, none⟩ = some (.string ⟨#[92, 39]⟩)
theorem ON.keep {w w' : World} {b og cap : Nat} (h : ON w b og cap) (k : Keep (fun i => w.heap.size ≤ i) w w') : ON w' b og cap := by
  have e : ∀ b o v, w.cell? ⟨b, o, none⟩ = some v → w'.cell? ⟨b, o, none⟩ = some v := fun b o v hc => cell_keep k (fun hf => by have := cell_lt hc; omega) hc
  exact ⟨e _ _ _ h.row, e _ _ _ h.o0, e _ _ _ h.o1, e _ _ _ h.o2, e _ _ _ h.o3, e _ _ _ h.o4, e _ _ _ h.o5⟩
/-- the replacer while it is being made -/
structure PB (w0 : World) (rb : Nat) (gg cc : UInt8 → Nat) (sec : UInt8 → UInt8) (v : Value) (D : List UInt8) (w : World) : Prop where
  kw : Keep (fun i => w0.heap.size ≤ i) w0 w
  rbl : w0.heap.size ≤ rb
  rep : ∀ c : UInt8, w.cell? ⟨rb, c.toNat, none⟩ = some (if c ∈ D then .slice (some ⟨gg c, 0, none⟩) 2 (cc c) else .slice none 0 0)
  tor : w.cell? ⟨rb, 256, none⟩ = some v
  own : w.ownsRow w0.heap.size 9 1 v D.length (D.map fun c => .string ⟨#[c]⟩)
  ne : v.ownBlock ≠ some rb
  arr : ∀ c ∈ D, (w.cell? ⟨gg c, 0, none⟩ = some (bv 92) ∧ w.cell? ⟨gg c, 1, none⟩ = some (bv (sec c))) ∧ gg c ≠ rb ∧ v.ownBlock ≠ some (gg c) ∧ w0.heap.size ≤ gg c
  frz : ∀ j, w.frozen? ⟨rb, j, none⟩ = false
def two (x : UInt8) : ByteArray := ⟨#[92, x]⟩
theorem bytesRow_two (x : UInt8) (cap : Nat) : (bytesRow (two x) cap)[0]? = some (bv 92) ∧ (bytesRow (two x) cap)[1]? = some (bv x) := by
  unfold bytesRow two bv
  constructor
  · rw [Array.getElem?_append_left (by simp)]; simp
  · rw [Array.getElem?_append_left (by simp)]; simp
theorem PB.step {w0 w w5 w6 w7 w8 : World} {rb : Nat} {gg cc : UInt8 → Nat} {sec : UInt8 → UInt8} {v v' : Value} {D : List UInt8} (h : PB w0 rb gg cc sec v D w) (c : UInt8) (hc : c ∉ D)
    {wb : World} (hwb : wb = (w.alloc (.cells #[bv c] 5)).alloc (.cells #[.string ⟨#[c]⟩] 9))
    (hr : w5.ownsRow w0.heap.size 9 1 v' (D.length + 1) ((D.map fun c => Value.string ⟨#[c]⟩) ++ [.string ⟨#[c]⟩])) (g5 : wb.grownBy w5 v.ownBlock) (hat : v'.ownBlock = v.ownBlock ∨ v'.ownBlock = some wb.heap.size)
    (h6 : w6 = w5.setCell ⟨rb, 256, none⟩ v') {cap : Nat} {fr : Nat × Nat} (h7 : w7 = w6.drew.alloc (.cells (bytesRow (two (sec c)) cap) 5 fr))
    (h8 : w8 = w7.setCell ⟨rb, c.toNat, none⟩ (.slice (some ⟨w6.heap.size, 0, none⟩) 2 cap)) :
    PB w0 rb (fun x => if x = c then w6.heap.size else gg x) (fun x => if x = c then cap else cc x) sec v' (D ++ [c]) w8 := by
  obtain ⟨kw, rbl, rep, tor, own, ne, arr, frz⟩ := h
  have hrb : rb < w.heap.size := cell_lt tor
  have kb : Below w.heap.size w wb := by rw [hwb]; exact (kp.ba w _).trans ((kp.ba _ _).mono (by rw [alloc_size]; omega))
  have sb := kb.size
  have k5 : Keep (fun i => v.ownBlock = some i) wb w5 := Keep.of_grown g5 fun i e => e.symm.symm
  have s5 := k5.size
  have k6 : Keep (fun i => i = rb) w5 w6 := by rw [h6]; exact Keep.setCell (F := fun i => i = rb) w5 rfl v'
  have s6 := k6.size
  have b7 : Below w6.heap.size w6 w7 := by rw [h7]; exact (kp.bdr w6).trans ((kp.ba _ _).mono (Nat.le_refl _))
  have s7 := b7.size
  have k8 : Keep (fun i => i = rb) w7 w8 := by rw [h8]; exact Keep.setCell (F := fun i => i = rb) w7 rfl _
  have hov : ∀ i, v.ownBlock = some i → w0.heap.size ≤ i ∧ i < w.heap.size := fun i e => own.lt i e
  have hov' : ∀ i, v'.ownBlock = some i → w0.heap.size ≤ i ∧ i < w5.heap.size := fun i e => hr.lt i e
  have ne' : v'.ownBlock ≠ some rb := by
    intro e
    rcases hat with e1 | e1
    · exact ne (e1 ▸ e)
    · rw [e] at e1; injection e1 with e1; omega
  -- cells of an old block that none of these touches
  have old : ∀ (g o : Nat) (x : Value), w.cell? ⟨g, o, none⟩ = some x → g ≠ rb → v.ownBlock ≠ some g → w8.cell? ⟨g, o, none⟩ = some x := by
    intro g o x hx h1 h2
    have hg := cell_lt hx
    have a1 := cell_keep (Keep.of_below (F := fun _ => False) kb) id hx
    have a2 := cell_keep k5 h2 a1
    have a3 := cell_keep k6 h1 a2
    have a4 := cell_keep (Keep.of_below (F := fun _ => False) b7) id a3
    exact cell_keep k8 h1 a4
  have rb5 : ∀ o, w5.cell? ⟨rb, o, none⟩ = w.cell? ⟨rb, o, none⟩ := by
    intro o
    have e1 : wb.heap[rb]? = w.heap[rb]? := kb.block rb hrb
    have e2 : w5.heap[rb]? = wb.heap[rb]? := k5.block rb (by omega) ne
    simp only [World.cell?, e1, e2]
  have rb8 : ∀ o, o ≠ 256 → o ≠ c.toNat → w8.cell? ⟨rb, o, none⟩ = w.cell? ⟨rb, o, none⟩ := by
    intro o ho1 ho2
    rw [h8, World.cell?_setCell_other _ ⟨rb, c.toNat, none⟩ ⟨rb, o, none⟩ _ (by intro e; injection e with e1 e2; exact ho2 e2.symm)]
    have e7 : w7.cell? ⟨rb, o, none⟩ = w6.cell? ⟨rb, o, none⟩ := by simp only [World.cell?, b7.block rb (by omega)]
    rw [e7, h6, World.cell?_setCell_other _ ⟨rb, 256, none⟩ ⟨rb, o, none⟩ _ (by intro e; injection e with e1 e2; exact ho1 e2.symm), rb5]
  have c256 := c.toNat_lt
  have q256 : w8.cell? ⟨rb, 256, none⟩ = some v' := by
    rw [h8, World.cell?_setCell_other _ ⟨rb, c.toNat, none⟩ ⟨rb, 256, none⟩ _ (by intro e; injection e with e1 e2; omega)]
    have e7 : w7.cell? ⟨rb, 256, none⟩ = w6.cell? ⟨rb, 256, none⟩ := by simp only [World.cell?, b7.block rb (by omega)]
    rw [e7, h6]
    exact World.cell?_setCell_same _ _ _ ((rb5 256).trans tor)
  have qc : w8.cell? ⟨rb, c.toNat, none⟩ = some (.slice (some ⟨w6.heap.size, 0, none⟩) 2 cap) := by
    rw [h8]
    have e7 : w7.cell? ⟨rb, c.toNat, none⟩ = w6.cell? ⟨rb, c.toNat, none⟩ := by simp only [World.cell?, b7.block rb (by omega)]
    refine World.cell?_setCell_same _ _ _ (?_ : _ = some (Value.slice none 0 0))
    rw [e7, h6, World.cell?_setCell_other _ ⟨rb, 256, none⟩ ⟨rb, c.toNat, none⟩ _ (by intro e; injection e with e1 e2; omega), rb5, rep c, if_neg hc]
  have kall : Keep (fun i => w0.heap.size ≤ i) w0 w8 := by
    have t1 := kw.trans (Keep.of_below (F := fun i => w0.heap.size ≤ i) kb) fun _ => Or.inl
    have t2 := t1.trans k5 fun i hi => Or.inl (hov i hi).1
    have t3 := t2.trans k6 fun i hi => Or.inl (by omega)
    have t4 := t3.trans (Keep.of_below (F := fun i => w0.heap.size ≤ i) b7) fun _ => Or.inl
    exact t4.trans k8 fun i hi => Or.inl (by omega)
  refine ⟨kall, rbl, ?_, q256, ?_, ne', ?_, ?_⟩
  · intro x
    by_cases hx : x = c
    · subst hx; rw [qc, if_pos (by simp)]; simp
    · have hne : x.toNat ≠ c.toNat := fun e => hx (UInt8.toNat_inj.1 e)
      have x256 := x.toNat_lt
      rw [rb8 _ (by omega) hne, rep x]
      by_cases hd : x ∈ D
      · rw [if_pos hd, if_pos (by simp [hd])]; simp [hx]
      · rw [if_neg hd, if_neg (by simp [hd, hx])]
  · rw [List.length_append, List.length_singleton, List.map_append]
    refine ow_keep hr fun i hi => ?_
    have hlt := (hov' i hi).2
    have hnr : i ≠ rb := fun e => ne' (e ▸ hi)
    have e6 : w6.heap[i]? = w5.heap[i]? := k6.block i hlt hnr
    have e7 : w7.heap[i]? = w6.heap[i]? := b7.block i (by omega)
    have e8 : w8.heap[i]? = w7.heap[i]? := k8.block i (by omega) hnr
    rw [e8, e7, e6]
  · intro x hx
    by_cases hxc : x = c
    · subst hxc
      simp only [if_true]
      have hn : w7.heap[w6.heap.size]? = some (.cells (bytesRow (two (sec x)) cap) 5 fr) := by rw [h7]; exact alloc_at w6.drew _
      have hr6 : w6.heap.size ≠ rb := by omega
      have hn8 : w8.heap[w6.heap.size]? = some (.cells (bytesRow (two (sec x)) cap) 5 fr) := (k8.block _ (Nw.lt hn) hr6).trans hn
      obtain ⟨t0, t1⟩ := bytesRow_two (sec x) cap
      refine ⟨⟨?_, ?_⟩, hr6, ?_, by have := kw.size; omega⟩
      · simp only [World.cell?, hn8]; exact t0
      · simp only [World.cell?, hn8]; exact t1
      · intro e; have := (hov' _ e).2; omega
    · have hxD : x ∈ D := by
        rcases List.mem_append.1 hx with h | h
        · exact h
        · simp at h; exact absurd h hxc
      simp only [hxc, if_false]
      obtain ⟨⟨a0, a1⟩, a2, a3, a4⟩ := arr x hxD
      refine ⟨⟨old _ _ _ a0 a2 a3, old _ _ _ a1 a2 a3⟩, a2, ?_, a4⟩
      intro e
      rcases hat with e1 | e1
      · exact a3 (e1 ▸ e)
      · rw [e] at e1; injection e1 with e1; have := cell_lt a0; omega
  · intro j
    have f5 : w5.frozen? ⟨rb, j, none⟩ = w.frozen? ⟨rb, j, none⟩ := by
      have e1 : wb.heap[rb]? = w.heap[rb]? := kb.block rb hrb
      have e2 : w5.heap[rb]? = wb.heap[rb]? := k5.block rb (by omega) ne
      simp only [World.frozen?, e1, e2]
    have f7 : w7.frozen? ⟨rb, j, none⟩ = w6.frozen? ⟨rb, j, none⟩ := by simp only [World.frozen?, b7.block rb (by omega)]
    rw [h8, World.frozen?_setCell, f7, h6, World.frozen?_setCell, f5, frz j]
/-- the replacer's blocks lie from B on -/
structure Bnd (B rb : Nat) (G : RG) : Prop where
  r : B ≤ rb
  b1 : B ≤ G.g1
  b2 : B ≤ G.g2
  b3 : B ≤ G.g3
  t : B ≤ G.tg
theorem BR.off {w w' : World} {B rb : Nat} {G : RG} {F : Nat → Prop} (h : BR w rb G) (n : Bnd B rb G) (k : Keep F w w') (hF : ∀ i, F i → i < B) : BR w' rb G := by
  have e : ∀ b o v, B ≤ b → w.cell? ⟨b, o, none⟩ = some v → w'.cell? ⟨b, o, none⟩ = some v := fun b o v hb hc => cell_keep k (fun hf => by have := hF _ hf; omega) hc
  exact ⟨fun c => e _ _ _ n.r (h.rep c), e _ _ _ n.r h.tor, e _ _ _ n.t h.t0, e _ _ _ n.t h.t1, e _ _ _ n.t h.t2, ⟨e _ _ _ n.b1 h.a1.1, e _ _ _ n.b1 h.a1.2⟩, ⟨e _ _ _ n.b2 h.a2.1, e _ _ _ n.b2 h.a2.2⟩, ⟨e _ _ _ n.b3 h.a3.1, e _ _ _ n.b3 h.a3.2⟩⟩
theorem PB.done {w0 w : World} {rb : Nat} {gg cc : UInt8 → Nat} {sec : UInt8 → UInt8} {v : Value} (h : PB w0 rb gg cc sec v [39, 10, 92] w) (s1 : sec 39 = 39) (s2 : sec 10 = 110) (s3 : sec 92 = 92) : ∃ G, BR w rb G ∧ Bnd w0.heap.size rb G := by
  obtain ⟨kw, rbl, rep, tor, own, ne, arr, frz⟩ := h
  have h0 := own
  obtain ⟨hl, hr⟩ := own
  rcases hr with ⟨rfl, hz⟩ | ⟨g, cap, cur, rfl, hg0, hg, r⟩
  · simp at hz
  · have hc := fun j hj => World.ownsRow.cellAt h0 j hj
    refine ⟨⟨gg 92, gg 10, gg 39, g, cc 92, cc 10, cc 39, cap⟩, ⟨fun c => ?_, tor, hc 0 (by decide), hc 1 (by decide), hc 2 (by decide), ?_, ?_, ?_⟩, ⟨rbl, (arr 92 (by simp)).2.2.2, (arr 10 (by simp)).2.2.2, (arr 39 (by simp)).2.2.2, hg0⟩⟩
    · rw [rep c]
      unfold rpv
      by_cases e1 : c = 92
      · subst e1; simp
      · by_cases e2 : c = 10
        · subst e2; simp
        · by_cases e3 : c = 39
          · subst e3; simp
          · simp [e1, e2, e3]
    · have := (arr 92 (by simp)).1; rw [s3] at this; exact this
    · have := (arr 10 (by simp)).1; rw [s2] at this; exact this
    · have := (arr 39 (by simp)).1; rw [s1] at this; exact this
def secB (c : UInt8) : UInt8 := if c = 10 then 110 else c
theorem zero102 : ∃ N, N = 256 ∧ Tryz.zeroCells261.toList = List.replicate (N + 1) (Value.slice none 0 0) := ⟨256, rfl, by kernel_rfl⟩
theorem last_at (N : Nat) (z u : Value) : ∀ j, j < N → (List.replicate N z ++ [u]).toArray[j]? = some z := by
  intro j hj
  rw [List.getElem?_toArray, List.getElem?_append_left (by rw [List.length_replicate]; exact hj), List.getElem?_replicate, if_pos hj]
theorem last_end (N : Nat) (z u : Value) : (List.replicate N z ++ [u]).toArray[N]? = some u := by
  rw [List.getElem?_toArray, List.getElem?_append_right (by rw [List.length_replicate]; exact Nat.le_refl _), List.length_replicate, Nat.sub_self]; rfl
/-- the replacer's block, laid -/
theorem PB.start {w0 w : World} (h : w = w0.alloc (.cells #[.string ⟨#[]⟩, .string ⟨#[]⟩, .string ⟨#[]⟩] 9)) {w1 : World} (h1 : w1 = w.alloc (.cells Tryz.zeroCells261 261)) :
    ∃ w2, (storeCells ⟨w0.heap.size + 1, 0, none⟩ (Tryz.zeroCells261.toList.set 256 (.slice (some ⟨w0.heap.size, 0, none⟩) 0 3))).run Tryz.prog w1 = .ok () w2 ∧ ∀ sec, PB w0 (w0.heap.size + 1) (fun _ => 0) (fun _ => 0) sec (.slice (some ⟨w0.heap.size, 0, none⟩) 0 3) [] w2 := by
  obtain ⟨N, hN, hz⟩ := zero102
  obtain ⟨u, hu⟩ : ∃ u, u = Value.slice (some ⟨w0.heap.size, 0, none⟩) 0 3 := ⟨_, rfl⟩
  obtain ⟨Z, hZ⟩ : ∃ Z, Z = Tryz.zeroCells261 := ⟨_, rfl⟩
  rw [← hZ] at hz h1 ⊢
  rw [← hu, ← hN]
  have hs : w.heap.size = w0.heap.size + 1 := by rw [h, alloc_size]
  have hg : w1.heap[w0.heap.size + 1]? = some (.cells Z 261 (0, 0)) := by rw [h1, ← hs]; exact alloc_at w _
  have hsz : Z.size = N + 1 := by rw [← Array.length_toList, hz, List.length_replicate]
  have hset : Z.toList.set N u = List.replicate N (Value.slice none 0 0) ++ [u] := by
    rw [hz, List.replicate_succ', List.set_append_right _ _ (by rw [List.length_replicate]; exact Nat.le_refl _), List.length_replicate, Nat.sub_self]; rfl
  rw [hset]
  have hlen : (List.replicate N (Value.slice none 0 0) ++ [u]).length = N + 1 := by rw [List.length_append, List.length_replicate]; rfl
  have hrun := run_storeCells_at Tryz.prog (w0.heap.size + 1) 0 261 (List.replicate N (Value.slice none 0 0) ++ [u]) 0 Z w1 hg (by rw [hlen, hsz]; omega) (by
    intro v hv
    rcases List.mem_append.1 hv with h | h
    · rw [List.eq_of_mem_replicate h]; rfl
    · rw [List.mem_singleton] at h; rw [h, hu]; rfl)
  refine ⟨_, hrun, fun sec => ?_⟩
  rw [hlen, show 0 + 0 = 0 from rfl, Nat.zero_add, List.take_zero, List.nil_append, List.drop_of_length_le (by rw [Array.length_toList, hsz]; exact Nat.le_refl _), List.append_nil]
  generalize hw2 : w1.setRow (w0.heap.size + 1) _ = w2
  have hn2 : w2.heap[w0.heap.size + 1]? = some (.cells (List.replicate N (Value.slice none 0 0) ++ [u]).toArray 261 (0, 0)) := by
    rw [← hw2]; exact setRow_heap w1 _ _ _ _ _ hg
  have k2 : Keep (fun i => i = w0.heap.size + 1) w1 w2 := by
    rw [← hw2]; exact ⟨rfl, rfl, rfl, by simp [World.setRow], fun k _ hk => setRow_other w1 _ k _ hk⟩
  have b0 : Below w0.heap.size w0 w := by rw [h]; exact kp.ba w0 _
  have b1 : Below w0.heap.size w0 w1 := by rw [h1]; exact b0.trans ((kp.ba w _).mono (by omega))
  have ht : w2.heap[w0.heap.size]? = some (.cells #[.string ⟨#[]⟩, .string ⟨#[]⟩, .string ⟨#[]⟩] 9 (0, 0)) := by
    have a1 : w.heap[w0.heap.size]? = some (.cells #[.string ⟨#[]⟩, .string ⟨#[]⟩, .string ⟨#[]⟩] 9 (0, 0)) := by rw [h]; exact alloc_at w0 _
    have a2 : w1.heap[w0.heap.size]? = some (.cells #[.string ⟨#[]⟩, .string ⟨#[]⟩, .string ⟨#[]⟩] 9 (0, 0)) := by rw [h1]; exact ((kp.ba w _).block _ (by omega)).trans a1
    exact (k2.block _ (Nw.lt a2) (by omega)).trans a2
  refine ⟨(Keep.of_below (F := fun i => w0.heap.size ≤ i) b1).trans k2 fun i hi => Or.inl (by omega), by omega, ?_, ?_, ?_, ?_, ?_, ?_⟩
  · intro c
    have c256 := c.toNat_lt
    simp only [World.cell?, hn2]
    rw [last_at _ _ _ _ (by omega), if_neg (List.not_mem_nil)]; rfl
  · rw [← hN]
    simp only [World.cell?, hn2]
    exact last_end _ _ _
  · rw [hu]
    exact ⟨rfl, Or.inr ⟨w0.heap.size, 3, _, rfl, Nat.le_refl _, ht, Nat.zero_le _, by unfold maxLen; omega, rfl, rfl⟩⟩
  · rw [hu]; intro e; injection e with e; exact absurd e (by show w0.heap.size ≠ w0.heap.size + 1; omega)
  · intro c hc; cases hc
  · intro j; simp [World.frozen?, hn2]
theorem infoS : (Tryz.prog.info? 9).map (fun i => (i.zero, i.size, i.bytes)) = some (some (.string ⟨#[]⟩), 1, 16) := by kernel_rfl
theorem mk_str3 (w : World) : (Instr.makeSlice 28 (.int .i64 0) (.int .i64 3)).run Tryz.prog w = .ok (.slice (some ⟨w.heap.size, 0, none⟩) 0 3) (w.alloc (.cells #[.string ⟨#[]⟩, .string ⟨#[]⟩, .string ⟨#[]⟩] 9)) := by kernel_rfl
def RU1 (w0 : World) (all i : Value) (wr : World) : Prop := ∃ k : Nat, k ≤ 3 ∧ i = .int .i64 ((2 * k : Nat) : Int) ∧ all = .bool (decide (k = 0)) ∧ wr = w0
def RU4 (w0 : World) (rb : Nat) (i : Value) (wr : World) : Prop := ∃ (k : Nat) (gg cc : UInt8 → Nat) (v : Value), k ≤ 3 ∧ i = .int .i64 (4 - 2 * (k : Int)) ∧ PB w0 rb gg cc secB v ([39, 10, 92].take k) wr
theorem conv_one (w : World) (c : UInt8) : (convert 123 9 (.slice (some ⟨w.heap.size, 0, none⟩) 1 1)).run Tryz.prog (w.alloc (.cells #[.int .u8 (c.toNat : Int)] 5)) = .ok (.string ⟨#[c]⟩) (w.alloc (.cells #[.int .u8 (c.toNat : Int)] 5)) := by
  refine run_convert_bytes_back (P := Tryz.prog) _ 123 9 5 ⟨w.heap.size, 0, none⟩ 1 [c] Tryz.underlying123 Tryz.underlying5 Tryz.underlying9 fun j hj => ?_
  simp only [List.length_singleton] at hj
  obtain rfl : j = 0 := by omega
  have h := kp.alloc_at w (.cells #[.int .u8 (c.toNat : Int)] 5)
  rw [show (⟨w.heap.size, 0, none⟩ : Addr).add 0 = ⟨w.heap.size, 0, none⟩ from by simp [Addr.add]]
  simp only [World.cell?, h]
  rfl
set_option maxRecDepth 100000 in
theorem eql_nil (w : World) : (binOp BinOp.eql 123 (.slice none 0 0) (.slice none 0 0)).run Tryz.prog w = .ok (.bool true) w := by
  kernel_rfl
set_option maxRecDepth 100000 in
set_option maxHeartbeats 8000000 in
theorem build_any {w : World} {b og cap : Nat} (h : ON w b og cap) :
    Calls Tryz.prog 209 #[.pointer (some ⟨b, 0, none⟩)] w fun e w' => (∃ rb G, e = .returned (.iface 262 (.pointer (some ⟨rb, 0, none⟩))) ∧ BR w' rb G ∧ Bnd w.heap.size rb G) ∧ Below w.heap.size w w' := by
  have HON := Lib.hid h
  obtain ⟨row, o0, o1, o2, o3, o4, o5⟩ := h
  have hmk := mk_str3
  have hen := eql_nil
  go_enter Tryz.func209, Tryz.ntmps209
  go_wp2_with fail
  go_loopw [4, 5] (fun all i wr => RU1 w all i wr) (fun _ i _ => 6 - (intOf i).toNat)
  case atStart => exact ⟨0, by omega, rfl, rfl, rfl⟩
  case round =>
    obtain ⟨k, hk, rfl, rfl, rfl⟩ := hrel
    rcases (show k = 0 ∨ k = 1 ∨ k = 2 ∨ k = 3 by omega) with rfl | rfl | rfl | rfl
    · go_wp2_with fail
      go_roundw
      case rel => exact ⟨1, by omega, rfl, rfl, rfl⟩
      case measure => decide
    · go_wp2_with fail
      go_roundw
      case rel => exact ⟨2, by omega, rfl, rfl, rfl⟩
      case measure => decide
    · go_wp2_with fail
      go_roundw
      case rel => exact ⟨3, by omega, rfl, rfl, rfl⟩
      case measure => decide
    · obtain ⟨wa, hwa⟩ : ∃ wa, wa = wr.alloc (.cells #[.string ⟨#[]⟩, .string ⟨#[]⟩, .string ⟨#[]⟩] 9) := ⟨_, rfl⟩
      obtain ⟨wb, hwb⟩ : ∃ wb, wb = wa.alloc (.cells Tryz.zeroCells261 261) := ⟨_, rfl⟩
      obtain ⟨w2, hst, hpb⟩ := PB.start hwa hwb
      rw [hwb, hwa] at hst
      have HPB := Lib.hid (hpb secB)
      obtain ⟨rb, hrb⟩ : ∃ rb, rb = wr.heap.size + 1 := ⟨_, rfl⟩
      have HRB := Lib.hid hrb
      clear hwa hwb hpb hrb
      go_upto_region 27 with fail
      rw [← HRB.out]
      clear hst
      obtain ⟨w0, hw0⟩ : ∃ w0, w0 = wr := ⟨_, rfl⟩
      subst hw0
      have HPB2 := Lib.hid (show PB w0 rb (fun _ => 0) (fun _ => 0) secB (.slice (some ⟨w0.heap.size, 0, none⟩) 0 3) [] w2 by rw [HRB.out]; exact HPB.out)
      clear HPB
      go_wp2_with fail
      go_loopw [12] (fun i wr => RU4 w0 rb i wr) (fun i _ => (intOf i + 2).toNat)
      case atStart => exact ⟨0, _, _, _, by omega, rfl, HPB2.out⟩
      case round =>
        obtain ⟨k, gg, cc, v, hk, rfl, P⟩ := hrel
        clear row o0 o1 o2 o3 o4 o5
        rcases (show k = 0 ∨ k = 1 ∨ k = 2 ∨ k = 3 by omega) with rfl | rfl | rfl | rfl
        · replace P : PB w0 rb gg cc secB v [] wr := P
          obtain ⟨sa, sc, rfl⟩ := kp.shape P.own
          have hon := HON.out.keep P.kw
          have p1 := hon.o4
          have p2 := hon.o5
          have gk : ∀ h, (⟨#[39]⟩ : ByteArray)[0]'h = 39 := fun _ => rfl
          have r1 : wr.cell? ⟨rb, 39, none⟩ = some (.slice none 0 0) := by have := P.rep 39; simpa using this
          have r2 := P.tor
          have fz := P.frz 256
          have hcv := conv_one wr 39
          replace hcv : (convert 123 9 (.slice (some ⟨wr.heap.size, 0, none⟩) 1 1)).run Tryz.prog (wr.alloc (.cells #[.int .u8 39] 5)) = .ok (.string ⟨#[39]⟩) (wr.alloc (.cells #[.int .u8 39] 5)) := hcv
          have HP := Lib.hid P
          have hsz := cell_lt P.tor
          obtain ⟨i0, hi, hz0, hz1, hz2⟩ := info_of infoS
          have HI := Lib.hid (And.intro hi (And.intro hz0 (And.intro hz1 hz2)))
          obtain ⟨wb, hwb⟩ : ∃ wb, wb = (wr.alloc (.cells #[.int .u8 39] 5)).alloc (.cells #[.string ⟨#[39]⟩] 9) := ⟨_, rfl⟩
          have hsb : wb.heap.size = wr.heap.size + 2 := by rw [hwb, alloc_size, alloc_size]
          have HWB := Lib.hid (And.intro hwb hsb)
          have kb : Below wr.heap.size wr wb := by rw [hwb]; exact (kp.ba wr _).trans ((kp.ba _ _).mono (by rw [alloc_size]; omega))
          have HRW := Lib.hid (show ((wr.alloc (.cells #[.int .u8 39] 5)).alloc (.cells #[.string ⟨#[39]⟩] 9)).ownsRow w0.heap.size 9 1 (.slice sa ([] : List UInt8).length sc) ([] : List UInt8).length (([] : List UInt8).map fun c => Value.string ⟨#[c]⟩) by rw [← hwb]; exact ow_keep P.own fun q e => kb.block q (P.own.lt q e).2)
          have hbs0 : w0.heap.size ≤ wr.heap.size := P.kw.size
          have HBS := Lib.hid (show w0.heap.size ≤ ((wr.alloc (.cells #[.int .u8 39] 5)).alloc (.cells #[.string ⟨#[39]⟩] 9)).heap.size by rw [alloc_size, alloc_size]; omega)
          have HKB := Lib.hid kb
          have HSZ := Lib.hid hsz
          have HNW := Lib.hid (show ∀ j u, [Value.string ⟨#[39]⟩][j]? = some u → ((wr.alloc (.cells #[.int .u8 39] 5)).alloc (.cells #[.string ⟨#[39]⟩] 9)).cell? ((⟨wr.heap.size + 1, 0, none⟩ : Addr).add j) = some u by have := one_new (wr.alloc (.cells #[.int .u8 39] 5)) (.string ⟨#[39]⟩) 9; rw [alloc_size] at this; exact this)
          clear P hon hi hz0 hz1 hz2 hwb hsb kb hbs0 hsz
          go_wp2_with (at_builtin; refine wpList_append_own_at _ rfl (.tmp 119) (.tmp 123) 28 rfl w0.heap.size 9 i0 (.string ⟨#[]⟩) 1 16 Tryz.underlying28 HI.out.1 HI.out.2.1 HI.out.2.2.1 HI.out.2.2.2 rfl (by decide) _ _ _ rfl HRW.out ⟨wr.heap.size + 1, 0, none⟩ 1 1 [.string ⟨#[39]⟩] rfl rfl HNW.out ?c2 ?b1 ?b2 ?b3 ?_)
          case c2 => intro u hu; simp at hu; subst hu; rfl
          case b1 => unfold maxLen; simp
          case b2 => simp
          case b3 => exact HBS.out
          intro v' w5 hr5 g5 _ hat
          obtain ⟨sa2, sc2, rfl⟩ := kp.shape hr5
          rw [← HWB.out.1] at g5
          replace hat : (Value.slice sa2 1 sc2).ownBlock = (Value.slice sa ([] : List UInt8).length sc).ownBlock ∨ (Value.slice sa2 1 sc2).ownBlock = some wb.heap.size := by rw [HWB.out.2]; exact hat
          have hne := HP.out.ne
          have e5 : w5.heap[rb]? = wr.heap[rb]? := ((Keep.of_grown (F := fun i => (Value.slice sa ([] : List UInt8).length sc).ownBlock = some i) g5 fun i e => e.symm.symm).block rb (by have := HKB.out.size; have := HSZ.out; omega) hne).trans (HKB.out.block rb HSZ.out)
          have q2 : w5.cell? ⟨rb, 256, none⟩ = some (.slice sa ([] : List UInt8).length sc) := by simp only [World.cell?, e5]; exact r2
          have qf : w5.frozen? ⟨rb, 256, none⟩ = false := by simp only [World.frozen?, e5]; exact fz
          have qc : w5.cell? ⟨rb, 39, none⟩ = some (.slice none 0 0) := by simp only [World.cell?, e5]; exact r1
          have qg : w5.frozen? ⟨rb, 39, none⟩ = false := by simp only [World.frozen?, e5]; exact HP.out.frz 39
          obtain ⟨w6, hw6⟩ : ∃ w6, w6 = w5.setCell ⟨rb, 256, none⟩ (.slice sa2 1 sc2) := ⟨_, rfl⟩
          have s6 : w6.heap.size = w5.heap.size := by rw [hw6]; simp [World.setCell]
          have x6 : w6.cell? ⟨rb, 39, none⟩ = some (.slice none 0 0) := by rw [hw6, World.cell?_setCell_other _ ⟨rb, 256, none⟩ ⟨rb, 39, none⟩ _ (by simp)]; exact qc
          have y6 : w6.frozen? ⟨rb, 39, none⟩ = false := by rw [hw6, World.frozen?_setCell]; exact qg
          have hbs := run_bytes_of_string (P := Tryz.prog) w6 9 123 5 (two 39) Tryz.underlying9 Tryz.underlying123 Tryz.underlying5
          rw [show (two 39).size = 2 from rfl] at hbs
          generalize grownCap w6 2 0 5 = CAP at hbs
          obtain ⟨w7, hw7⟩ : ∃ w7, w7 = w6.drew.alloc (.cells (bytesRow (two 39) CAP) 5 ((bytesRow (two 39) CAP).size, (bytesRow (two 39) CAP).size + 1)) := ⟨_, rfl⟩
          rw [← hw7] at hbs
          replace hbs : (convert 9 123 (.string ⟨#[92, 39]⟩)).run Tryz.prog w6 = .ok (.slice (some ⟨w6.heap.size, 0, none⟩) 2 CAP) w7 := hbs
          have b7 : Below w6.heap.size w6 w7 := by rw [hw7]; exact (kp.bdr w6).trans ((kp.ba _ _).mono (Nat.le_refl _))
          have x7 : w7.cell? ⟨rb, 39, none⟩ = some (.slice none 0 0) := cell_keep (Keep.of_below (F := fun _ => False) b7) id x6
          have y7 : w7.frozen? ⟨rb, 39, none⟩ = false := by
            have := b7.block rb (cell_lt x6)
            simp only [World.frozen?, this] at y6 ⊢; exact y6
          obtain ⟨nb6, hnb6⟩ : ∃ nb6, nb6 = w6.heap.size := ⟨_, rfl⟩
          rw [← hnb6] at hbs
          have ST := Lib.hid (PB.step HP.out 39 (by decide) HWB.out.1 (by simpa using hr5) g5 hat hw6 hw7 (hnb6 ▸ rfl : w7.setCell ⟨rb, ((39 : UInt8)).toNat, none⟩ (.slice (some ⟨nb6, 0, none⟩) 2 CAP) = w7.setCell ⟨rb, ((39 : UInt8)).toNat, none⟩ (.slice (some ⟨w6.heap.size, 0, none⟩) 2 CAP)))
          have HW6 := Lib.hid hw6
          clear hr5 g5 hat e5 qc qg s6 x6 y6 b7 hw6 hw7 hnb6 r1 r2 fz hcv HRW HI HBS
          go_upto_region 34 with fail
          rw [← HW6.out]
          go_wp2_with fail
          go_roundw
          case rel => exact ⟨0 + 1, _, _, _, by omega, by first | rfl | go_num, ST.out⟩
          case measure => decide
        · replace P : PB w0 rb gg cc secB v [39] wr := P
          obtain ⟨sa, sc, rfl⟩ := kp.shape P.own
          have hon := HON.out.keep P.kw
          have p1 := hon.o2
          have p2 := hon.o3
          have gk : ∀ h, (⟨#[10]⟩ : ByteArray)[0]'h = 10 := fun _ => rfl
          have r1 : wr.cell? ⟨rb, 10, none⟩ = some (.slice none 0 0) := by have := P.rep 10; simpa using this
          have r2 := P.tor
          have fz := P.frz 256
          have hcv := conv_one wr 10
          replace hcv : (convert 123 9 (.slice (some ⟨wr.heap.size, 0, none⟩) 1 1)).run Tryz.prog (wr.alloc (.cells #[.int .u8 10] 5)) = .ok (.string ⟨#[10]⟩) (wr.alloc (.cells #[.int .u8 10] 5)) := hcv
          have HP := Lib.hid P
          have hsz := cell_lt P.tor
          obtain ⟨i0, hi, hz0, hz1, hz2⟩ := info_of infoS
          have HI := Lib.hid (And.intro hi (And.intro hz0 (And.intro hz1 hz2)))
          obtain ⟨wb, hwb⟩ : ∃ wb, wb = (wr.alloc (.cells #[.int .u8 10] 5)).alloc (.cells #[.string ⟨#[10]⟩] 9) := ⟨_, rfl⟩
          have hsb : wb.heap.size = wr.heap.size + 2 := by rw [hwb, alloc_size, alloc_size]
          have HWB := Lib.hid (And.intro hwb hsb)
          have kb : Below wr.heap.size wr wb := by rw [hwb]; exact (kp.ba wr _).trans ((kp.ba _ _).mono (by rw [alloc_size]; omega))
          have HRW := Lib.hid (show ((wr.alloc (.cells #[.int .u8 10] 5)).alloc (.cells #[.string ⟨#[10]⟩] 9)).ownsRow w0.heap.size 9 1 (.slice sa ([39] : List UInt8).length sc) ([39] : List UInt8).length (([39] : List UInt8).map fun c => Value.string ⟨#[c]⟩) by rw [← hwb]; exact ow_keep P.own fun q e => kb.block q (P.own.lt q e).2)
          have hbs0 : w0.heap.size ≤ wr.heap.size := P.kw.size
          have HBS := Lib.hid (show w0.heap.size ≤ ((wr.alloc (.cells #[.int .u8 10] 5)).alloc (.cells #[.string ⟨#[10]⟩] 9)).heap.size by rw [alloc_size, alloc_size]; omega)
          have HKB := Lib.hid kb
          have HSZ := Lib.hid hsz
          have HNW := Lib.hid (show ∀ j u, [Value.string ⟨#[10]⟩][j]? = some u → ((wr.alloc (.cells #[.int .u8 10] 5)).alloc (.cells #[.string ⟨#[10]⟩] 9)).cell? ((⟨wr.heap.size + 1, 0, none⟩ : Addr).add j) = some u by have := one_new (wr.alloc (.cells #[.int .u8 10] 5)) (.string ⟨#[10]⟩) 9; rw [alloc_size] at this; exact this)
          clear P hon hi hz0 hz1 hz2 hwb hsb kb hbs0 hsz
          go_wp2_with (at_builtin; refine wpList_append_own_at _ rfl (.tmp 119) (.tmp 123) 28 rfl w0.heap.size 9 i0 (.string ⟨#[]⟩) 1 16 Tryz.underlying28 HI.out.1 HI.out.2.1 HI.out.2.2.1 HI.out.2.2.2 rfl (by decide) _ _ _ rfl HRW.out ⟨wr.heap.size + 1, 0, none⟩ 1 1 [.string ⟨#[10]⟩] rfl rfl HNW.out ?c2 ?b1 ?b2 ?b3 ?_)
          case c2 => intro u hu; simp at hu; subst hu; rfl
          case b1 => unfold maxLen; simp
          case b2 => simp
          case b3 => exact HBS.out
          intro v' w5 hr5 g5 _ hat
          obtain ⟨sa2, sc2, rfl⟩ := kp.shape hr5
          rw [← HWB.out.1] at g5
          replace hat : (Value.slice sa2 2 sc2).ownBlock = (Value.slice sa ([39] : List UInt8).length sc).ownBlock ∨ (Value.slice sa2 2 sc2).ownBlock = some wb.heap.size := by rw [HWB.out.2]; exact hat
          have hne := HP.out.ne
          have e5 : w5.heap[rb]? = wr.heap[rb]? := ((Keep.of_grown (F := fun i => (Value.slice sa ([39] : List UInt8).length sc).ownBlock = some i) g5 fun i e => e.symm.symm).block rb (by have := HKB.out.size; have := HSZ.out; omega) hne).trans (HKB.out.block rb HSZ.out)
          have q2 : w5.cell? ⟨rb, 256, none⟩ = some (.slice sa ([39] : List UInt8).length sc) := by simp only [World.cell?, e5]; exact r2
          have qf : w5.frozen? ⟨rb, 256, none⟩ = false := by simp only [World.frozen?, e5]; exact fz
          have qc : w5.cell? ⟨rb, 10, none⟩ = some (.slice none 0 0) := by simp only [World.cell?, e5]; exact r1
          have qg : w5.frozen? ⟨rb, 10, none⟩ = false := by simp only [World.frozen?, e5]; exact HP.out.frz 10
          obtain ⟨w6, hw6⟩ : ∃ w6, w6 = w5.setCell ⟨rb, 256, none⟩ (.slice sa2 2 sc2) := ⟨_, rfl⟩
          have s6 : w6.heap.size = w5.heap.size := by rw [hw6]; simp [World.setCell]
          have x6 : w6.cell? ⟨rb, 10, none⟩ = some (.slice none 0 0) := by rw [hw6, World.cell?_setCell_other _ ⟨rb, 256, none⟩ ⟨rb, 10, none⟩ _ (by simp)]; exact qc
          have y6 : w6.frozen? ⟨rb, 10, none⟩ = false := by rw [hw6, World.frozen?_setCell]; exact qg
          have hbs := run_bytes_of_string (P := Tryz.prog) w6 9 123 5 (two 110) Tryz.underlying9 Tryz.underlying123 Tryz.underlying5
          rw [show (two 110).size = 2 from rfl] at hbs
          generalize grownCap w6 2 0 5 = CAP at hbs
          obtain ⟨w7, hw7⟩ : ∃ w7, w7 = w6.drew.alloc (.cells (bytesRow (two 110) CAP) 5 ((bytesRow (two 110) CAP).size, (bytesRow (two 110) CAP).size + 1)) := ⟨_, rfl⟩
          rw [← hw7] at hbs
          replace hbs : (convert 9 123 (.string ⟨#[92, 110]⟩)).run Tryz.prog w6 = .ok (.slice (some ⟨w6.heap.size, 0, none⟩) 2 CAP) w7 := hbs
          have b7 : Below w6.heap.size w6 w7 := by rw [hw7]; exact (kp.bdr w6).trans ((kp.ba _ _).mono (Nat.le_refl _))
          have x7 : w7.cell? ⟨rb, 10, none⟩ = some (.slice none 0 0) := cell_keep (Keep.of_below (F := fun _ => False) b7) id x6
          have y7 : w7.frozen? ⟨rb, 10, none⟩ = false := by
            have := b7.block rb (cell_lt x6)
            simp only [World.frozen?, this] at y6 ⊢; exact y6
          obtain ⟨nb6, hnb6⟩ : ∃ nb6, nb6 = w6.heap.size := ⟨_, rfl⟩
          rw [← hnb6] at hbs
          have ST := Lib.hid (PB.step HP.out 10 (by decide) HWB.out.1 (by simpa using hr5) g5 hat hw6 hw7 (hnb6 ▸ rfl : w7.setCell ⟨rb, ((10 : UInt8)).toNat, none⟩ (.slice (some ⟨nb6, 0, none⟩) 2 CAP) = w7.setCell ⟨rb, ((10 : UInt8)).toNat, none⟩ (.slice (some ⟨w6.heap.size, 0, none⟩) 2 CAP)))
          have HW6 := Lib.hid hw6
          clear hr5 g5 hat e5 qc qg s6 x6 y6 b7 hw6 hw7 hnb6 r1 r2 fz hcv HRW HI HBS
          go_upto_region 34 with fail
          rw [← HW6.out]
          go_wp2_with fail
          go_roundw
          case rel => exact ⟨1 + 1, _, _, _, by omega, by first | rfl | go_num, ST.out⟩
          case measure => decide
        · replace P : PB w0 rb gg cc secB v [39, 10] wr := P
          obtain ⟨sa, sc, rfl⟩ := kp.shape P.own
          have hon := HON.out.keep P.kw
          have p1 := hon.o0
          have p2 := hon.o1
          have gk : ∀ h, (⟨#[92]⟩ : ByteArray)[0]'h = 92 := fun _ => rfl
          have r1 : wr.cell? ⟨rb, 92, none⟩ = some (.slice none 0 0) := by have := P.rep 92; simpa using this
          have r2 := P.tor
          have fz := P.frz 256
          have hcv := conv_one wr 92
          replace hcv : (convert 123 9 (.slice (some ⟨wr.heap.size, 0, none⟩) 1 1)).run Tryz.prog (wr.alloc (.cells #[.int .u8 92] 5)) = .ok (.string ⟨#[92]⟩) (wr.alloc (.cells #[.int .u8 92] 5)) := hcv
          have HP := Lib.hid P
          have hsz := cell_lt P.tor
          obtain ⟨i0, hi, hz0, hz1, hz2⟩ := info_of infoS
          have HI := Lib.hid (And.intro hi (And.intro hz0 (And.intro hz1 hz2)))
          obtain ⟨wb, hwb⟩ : ∃ wb, wb = (wr.alloc (.cells #[.int .u8 92] 5)).alloc (.cells #[.string ⟨#[92]⟩] 9) := ⟨_, rfl⟩
          have hsb : wb.heap.size = wr.heap.size + 2 := by rw [hwb, alloc_size, alloc_size]
          have HWB := Lib.hid (And.intro hwb hsb)
          have kb : Below wr.heap.size wr wb := by rw [hwb]; exact (kp.ba wr _).trans ((kp.ba _ _).mono (by rw [alloc_size]; omega))
          have HRW := Lib.hid (show ((wr.alloc (.cells #[.int .u8 92] 5)).alloc (.cells #[.string ⟨#[92]⟩] 9)).ownsRow w0.heap.size 9 1 (.slice sa ([39, 10] : List UInt8).length sc) ([39, 10] : List UInt8).length (([39, 10] : List UInt8).map fun c => Value.string ⟨#[c]⟩) by rw [← hwb]; exact ow_keep P.own fun q e => kb.block q (P.own.lt q e).2)
          have hbs0 : w0.heap.size ≤ wr.heap.size := P.kw.size
          have HBS := Lib.hid (show w0.heap.size ≤ ((wr.alloc (.cells #[.int .u8 92] 5)).alloc (.cells #[.string ⟨#[92]⟩] 9)).heap.size by rw [alloc_size, alloc_size]; omega)
          have HKB := Lib.hid kb
          have HSZ := Lib.hid hsz
          have HNW := Lib.hid (show ∀ j u, [Value.string ⟨#[92]⟩][j]? = some u → ((wr.alloc (.cells #[.int .u8 92] 5)).alloc (.cells #[.string ⟨#[92]⟩] 9)).cell? ((⟨wr.heap.size + 1, 0, none⟩ : Addr).add j) = some u by have := one_new (wr.alloc (.cells #[.int .u8 92] 5)) (.string ⟨#[92]⟩) 9; rw [alloc_size] at this; exact this)
          clear P hon hi hz0 hz1 hz2 hwb hsb kb hbs0 hsz
          go_wp2_with (at_builtin; refine wpList_append_own_at _ rfl (.tmp 119) (.tmp 123) 28 rfl w0.heap.size 9 i0 (.string ⟨#[]⟩) 1 16 Tryz.underlying28 HI.out.1 HI.out.2.1 HI.out.2.2.1 HI.out.2.2.2 rfl (by decide) _ _ _ rfl HRW.out ⟨wr.heap.size + 1, 0, none⟩ 1 1 [.string ⟨#[92]⟩] rfl rfl HNW.out ?c2 ?b1 ?b2 ?b3 ?_)
          case c2 => intro u hu; simp at hu; subst hu; rfl
          case b1 => unfold maxLen; simp
          case b2 => simp
          case b3 => exact HBS.out
          intro v' w5 hr5 g5 _ hat
          obtain ⟨sa2, sc2, rfl⟩ := kp.shape hr5
          rw [← HWB.out.1] at g5
          replace hat : (Value.slice sa2 3 sc2).ownBlock = (Value.slice sa ([39, 10] : List UInt8).length sc).ownBlock ∨ (Value.slice sa2 3 sc2).ownBlock = some wb.heap.size := by rw [HWB.out.2]; exact hat
          have hne := HP.out.ne
          have e5 : w5.heap[rb]? = wr.heap[rb]? := ((Keep.of_grown (F := fun i => (Value.slice sa ([39, 10] : List UInt8).length sc).ownBlock = some i) g5 fun i e => e.symm.symm).block rb (by have := HKB.out.size; have := HSZ.out; omega) hne).trans (HKB.out.block rb HSZ.out)
          have q2 : w5.cell? ⟨rb, 256, none⟩ = some (.slice sa ([39, 10] : List UInt8).length sc) := by simp only [World.cell?, e5]; exact r2
          have qf : w5.frozen? ⟨rb, 256, none⟩ = false := by simp only [World.frozen?, e5]; exact fz
          have qc : w5.cell? ⟨rb, 92, none⟩ = some (.slice none 0 0) := by simp only [World.cell?, e5]; exact r1
          have qg : w5.frozen? ⟨rb, 92, none⟩ = false := by simp only [World.frozen?, e5]; exact HP.out.frz 92
          obtain ⟨w6, hw6⟩ : ∃ w6, w6 = w5.setCell ⟨rb, 256, none⟩ (.slice sa2 3 sc2) := ⟨_, rfl⟩
          have s6 : w6.heap.size = w5.heap.size := by rw [hw6]; simp [World.setCell]
          have x6 : w6.cell? ⟨rb, 92, none⟩ = some (.slice none 0 0) := by rw [hw6, World.cell?_setCell_other _ ⟨rb, 256, none⟩ ⟨rb, 92, none⟩ _ (by simp)]; exact qc
          have y6 : w6.frozen? ⟨rb, 92, none⟩ = false := by rw [hw6, World.frozen?_setCell]; exact qg
          have hbs := run_bytes_of_string (P := Tryz.prog) w6 9 123 5 (two 92) Tryz.underlying9 Tryz.underlying123 Tryz.underlying5
          rw [show (two 92).size = 2 from rfl] at hbs
          generalize grownCap w6 2 0 5 = CAP at hbs
          obtain ⟨w7, hw7⟩ : ∃ w7, w7 = w6.drew.alloc (.cells (bytesRow (two 92) CAP) 5 ((bytesRow (two 92) CAP).size, (bytesRow (two 92) CAP).size + 1)) := ⟨_, rfl⟩
          rw [← hw7] at hbs
          replace hbs : (convert 9 123 (.string ⟨#[92, 92]⟩)).run Tryz.prog w6 = .ok (.slice (some ⟨w6.heap.size, 0, none⟩) 2 CAP) w7 := hbs
          have b7 : Below w6.heap.size w6 w7 := by rw [hw7]; exact (kp.bdr w6).trans ((kp.ba _ _).mono (Nat.le_refl _))
          have x7 : w7.cell? ⟨rb, 92, none⟩ = some (.slice none 0 0) := cell_keep (Keep.of_below (F := fun _ => False) b7) id x6
          have y7 : w7.frozen? ⟨rb, 92, none⟩ = false := by
            have := b7.block rb (cell_lt x6)
            simp only [World.frozen?, this] at y6 ⊢; exact y6
          obtain ⟨nb6, hnb6⟩ : ∃ nb6, nb6 = w6.heap.size := ⟨_, rfl⟩
          rw [← hnb6] at hbs
          have ST := Lib.hid (PB.step HP.out 92 (by decide) HWB.out.1 (by simpa using hr5) g5 hat hw6 hw7 (hnb6 ▸ rfl : w7.setCell ⟨rb, ((92 : UInt8)).toNat, none⟩ (.slice (some ⟨nb6, 0, none⟩) 2 CAP) = w7.setCell ⟨rb, ((92 : UInt8)).toNat, none⟩ (.slice (some ⟨w6.heap.size, 0, none⟩) 2 CAP)))
          have HW6 := Lib.hid hw6
          clear hr5 g5 hat e5 qc qg s6 x6 y6 b7 hw6 hw7 hnb6 r1 r2 fz hcv HRW HI HBS
          go_upto_region 34 with fail
          rw [← HW6.out]
          go_wp2_with fail
          go_roundw
          case rel => exact ⟨2 + 1, _, _, _, by omega, by first | rfl | go_num, ST.out⟩
          case measure => decide
        · replace P : PB w0 rb gg cc secB v [39, 10, 92] wr := P
          obtain ⟨G, hG, hN⟩ := P.done rfl rfl rfl
          have HE := Lib.hid (And.intro (And.intro hG hN) (P.kw.to_below (fun _ h => h) (Nat.le_refl _)))
          clear P hG hN
          go_wp2_with fail
          go_ret; exact ⟨⟨rb, G, rfl, HE.out.1⟩, HE.out.2⟩
end Go.Proofs.YtedbcmagjbgbjaaGreatDoor.tk
