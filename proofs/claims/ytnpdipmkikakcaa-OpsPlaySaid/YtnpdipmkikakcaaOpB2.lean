/- The reference's tables (as OpB's). -/
import Derived.Test.YtnpdipmkikakcaaOpB
namespace Go.Proofs.Ytnpdipmkikakcaa.opb2
open Go.ChangeShapes Go.WideShapes Go.ChangeAt Go.RowKit
open Go.Proofs.Ytnpdipmkikakcaa.kp Go.Proofs.Ytnpdipmkikakcaa.opa Go.Proofs.Ytnpdipmkikakcaa.opb
set_option linter.unusedVariables false
section
variable {w w' : World} {p : Nat} {F G : Nat → Prop} {l : List D} {a : Option Addr} {c : Nat}
/-- The table at block p: its operators l; F: its own blocks. -/
structure RTb (w : World) (p : Nat) (F : Nat → Prop) (l : List D) : Prop where
  ex : ∃ a c, w.heap[p]? = some (.cells #[.slice a l.length c] 30 (0, 0)) ∧ Rw w a c l ∧ (Value.slice a l.length c).ownBlock ≠ some p ∧ (∀ k, F k ↔ k = p ∨ (Value.slice a l.length c).ownBlock = some k)
theorem RTb.lt (h : RTb w p F l) : ∀ k, F k → k < w.heap.size := by
  obtain ⟨a, c, hp, hr, _, hF⟩ := h.ex
  intro k hk
  rcases (hF k).1 hk with rfl | e
  · exact (Array.getElem?_eq_some_iff.1 hp).1
  · exact (World.ownsRow.lt hr k e).2
theorem RTb.mine (h : RTb w p F l) : F p := by
  obtain ⟨a, c, hp, hr, _, hF⟩ := h.ex
  exact (hF p).2 (Or.inl rfl)
theorem RTb.keep (h : RTb w p F l) (hk : Keep G w w') (hd : ∀ k, F k → ¬ G k) : RTb w' p F l := by
  have hlt := h.lt
  obtain ⟨a, c, hp, hr, h1, hF⟩ := h.ex
  have hb : ∀ k, F k → w'.heap[k]? = w.heap[k]? := fun k f => hk.block k (hlt k f) (hd k f)
  exact ⟨a, c, (hb p ((hF p).2 (Or.inl rfl))).trans hp, hr.of_block fun k e => hb k ((hF k).2 (Or.inr e)), h1, hF⟩
theorem RTb.below (h : RTb w p F l) (hb : Below w.heap.size w w') : RTb w' p F l := h.keep (G := fun _ => False) (Keep.of_below hb) (fun _ _ => id)
/-- The same table, other operators: its blocks are those that it had, and new ones. -/
def RNext (w : World) (p : Nat) (F : Nat → Prop) (l : List D) (w' : World) : Prop := ∃ F', RTb w' p F' l ∧ Keep F w w' ∧ ∀ k, F' k → F k ∨ w.heap.size ≤ k
def RMade (w : World) (l : List D) (p : Nat) (w' : World) : Prop := ∃ F, RTb w' p F l ∧ Below w.heap.size w w' ∧ ∀ k, F k → w.heap.size ≤ k
theorem RNext.same (h : RTb w p F l) : RNext w p F l w := ⟨F, h, Keep.refl _ _, fun _ => Or.inl⟩
theorem RNext.below {a b : World} (h : RTb a p F l) (hb : Below a.heap.size a b) : RNext a p F l b := ⟨F, h.below hb, Keep.of_below hb, fun _ => Or.inl⟩
theorem RNext.trans {a b c : World} {F' : Nat → Prop} (k : Keep F a b) (hs : ∀ i, F' i → F i ∨ a.heap.size ≤ i) (n : RNext b p F' l c) : RNext a p F l c := by
  obtain ⟨G, t, k2, h2⟩ := n
  refine ⟨G, t, k.trans k2 (fun i hi => hs i hi), fun i hi => ?_⟩
  rcases h2 i hi with h | h
  · exact hs i h
  · exact Or.inr (Nat.le_trans k.size h)
/-- what a walk may know of a table -/
theorem RTb.open_ (h : RTb w p F l) : ∃ a c, w.cell? ⟨p, 0, none⟩ = some (.slice a l.length c) ∧ w.frozen? ⟨p, 0, none⟩ = false ∧ Rw w a c l := by
  obtain ⟨a, c, hp, hr, _, _⟩ := h.ex
  exact ⟨a, c, (one_cell hp).1, (one_cell hp).2, hr⟩
/-- one operator of the table set -/
theorem RNext.set_ (h : RTb w p F l) {m : Nat} (hm : m < l.length) {P c : Nat} (hg : w.cell? ⟨p, 0, none⟩ = some (.slice (some ⟨P, 0, none⟩) l.length c)) (d : D) :
    RNext w p F (l.set m d) (set3 w P (m * 3) d) := by
  obtain ⟨a, c', hp, hr, h1, hF⟩ := h.ex
  rw [(one_cell hp).1] at hg
  injection hg with hg
  injection hg with e1 e2 e3
  subst e1; subst e3
  have hk := set3_keep w P (m * 3) d
  have hPp : P ≠ p := fun e => h1 (by rw [e]; rfl)
  have s1 := (World.ownsRow.stored hr (m * 3) (.string ⟨d.n.toArray⟩)).1
  have s2 := (World.ownsRow.stored s1 (m * 3 + 1) (.int .i64 d.k)).1
  have s3 := (World.ownsRow.stored s2 (m * 3 + 2) (.int .i64 d.p)).1
  rw [flat_set hm d] at s3
  refine ⟨F, ⟨some ⟨P, 0, none⟩, c', ?_, ?_, by rw [List.length_set]; exact h1, by rw [List.length_set]; exact hF⟩, hk.mono fun k e => (hF k).2 (Or.inr (by rw [e]; rfl)), fun _ => Or.inl⟩
  · rw [List.length_set]; exact (hk.block p (Array.getElem?_eq_some_iff.1 hp).1 (fun e => hPp e.symm)).trans hp
  · unfold Rw; rw [List.length_set]; exact s3
/-- another slice stored -/
theorem RNext.put {w1 : World} {l' : List D} {a' : Option Addr} {c' : Nat} (h : RTb w p F l) (hg : w.cell? ⟨p, 0, none⟩ = some (.slice a l.length c)) (k1 : Keep (fun k => (Value.slice a l.length c).ownBlock = some k) w w1)
    (hr : Rw w1 a' c' l') (hat : ∀ k, (Value.slice a' l'.length c').ownBlock = some k → (Value.slice a l.length c).ownBlock = some k ∨ w.heap.size ≤ k) :
    RNext w p F l' (w1.setCell ⟨p, 0, none⟩ (.slice a' l'.length c')) := by
  have hpl := h.lt p h.mine
  obtain ⟨a0, c0, hp, hr0, h1, hF⟩ := h.ex
  rw [(one_cell hp).1] at hg
  injection hg with hg
  injection hg with e1 e2 e3
  subst e1; subst e3
  have p1 : w1.heap[p]? = some (.cells #[.slice a0 l.length c0] 30 (0, 0)) := (k1.block p hpl h1).trans hp
  have hne : (Value.slice a' l'.length c').ownBlock ≠ some p := fun e => by
    rcases hat p e with e | e
    · exact h1 e
    · omega
  refine ⟨fun k => k = p ∨ (Value.slice a' l'.length c').ownBlock = some k, ⟨a', c', ?_, ?_, hne, fun _ => Iff.rfl⟩, ?_, ?_⟩
  · simp only [World.setCell, Array.getElem?_modify, p1]; simp
  · exact ownsRow_setCell_other hr hne _
  · exact (k1.mono fun k e => (hF k).2 (Or.inr e)).trans (Keep.setCell (F := F) w1 (p := ⟨p, 0, none⟩) ((hF p).2 (Or.inl rfl)) _) fun _ => Or.inl
  · rintro k (rfl | e)
    · exact Or.inl ((hF _).2 (Or.inl rfl))
    · rcases hat k e with e | e
      · exact Or.inl ((hF k).2 (Or.inr e))
      · exact Or.inr e
/-- a table of the call's own: made behind W -/
def ROwn (W : World) (p : Nat) (l : List D) (w : World) : Prop := ∃ F, RTb w p F l ∧ Below W.heap.size W w ∧ ∀ j, F j → W.heap.size ≤ j
theorem ROwn.step {W : World} {l' : List D} (b : Below W.heap.size W w) (f : ∀ j, F j → W.heap.size ≤ j) (n : RNext w p F l' w') : ROwn W p l' w' := by
  obtain ⟨G, t, k, s⟩ := n
  exact ⟨G, t, b.trans (k.to_below f b.size), fun j hj => (s j hj).elim (f j) (Nat.le_trans b.size)⟩
theorem ROwn.below {W : World} (o : ROwn W p l w) (b : Below w.heap.size w w') : ROwn W p l w' := by
  obtain ⟨F, h, b0, f⟩ := o
  exact ⟨F, h.below b, b0.trans (b.mono b0.size), f⟩
theorem ROwn.made {W : World} (b : Below W.heap.size W w) (h : RMade w l p w') : ROwn W p l w' := by
  obtain ⟨F, h, b1, f⟩ := h
  exact ⟨F, h, b.trans (b1.mono b.size), fun j hj => Nat.le_trans b.size (f j hj)⟩
end
end Go.Proofs.Ytnpdipmkikakcaa.opb2
