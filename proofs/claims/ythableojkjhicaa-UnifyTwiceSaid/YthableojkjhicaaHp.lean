/- Heaps of cells in memory: what a heap holds, which blocks are its own, what has turned; and what its calls answer. -/
import Derived.Test.YthableojkjhicaaKeep
import Derived.Test.YthableojkjhicaaCell
import Derived.Laws.OwnMore
import Derived.OneCell
import Derived.Deep.Draws
namespace Go.Proofs.Ythableojkjhicaa.hp
open Go.ChangeShapes Go.WideShapes Go.ChangeAt Go.RowKit
open Go.Proofs.Ythableojkjhicaa.kp Go.Proofs.Ythableojkjhicaa.cel
set_option linter.unusedVariables false
/-! ### what the calls answer: l the cells, m the room -/
def room (l : List Int) (m : Int) : Bool := decide ((l.length : Int) < m)
def pv (l : List Int) (m : Int) : Int := if (l.length : Int) < m then l.length else 0
def pe (l : List Int) (m : Int) : Int := if (l.length : Int) < m then 0 else 4
def px (l : List Int) (m c : Int) : List Int := if (l.length : Int) < m then l ++ [c] else l
def gb (l : List Int) (n : Int) : Bool := decide (0 ≤ n ∧ n < l.length)
def gv (l : List Int) (n : Int) : Int := if 0 ≤ n ∧ n < l.length then l.getD n.toNat 0 else 0
def sx (l : List Int) (n c : Int) : List Int := if 0 ≤ n ∧ n < l.length then l.set n.toNat c else l
def cb (l : List Int) (n : Int) : Bool := decide (0 ≤ n ∧ n ≤ l.length)
def cx (l : List Int) (n : Int) : List Int := if 0 ≤ n ∧ n ≤ l.length then l.take n.toNat else l
/-- does a cell lead on: a reference to a place that there is, of another cell -/
def on (l : List Int) (c : Int) : Prop := c % 8 = 0 ∧ c / 8 < l.length ∧ l.getD (c / 8).toNat 0 ≠ c
instance (l : List Int) (c : Int) : Decidable (on l c) := by unfold on; infer_instance
def dr (l : List Int) : Nat → Int → Int
  | 0, c => c
  | k + 1, c => if on l c then dr l k (l.getD (c / 8).toNat 0) else c
theorem dr_off {l : List Int} {c : Int} (h : ¬ on l c) : ∀ k, dr l k c = c
  | 0 => rfl
  | k + 1 => by rw [dr, if_neg h]
theorem dr_on {l : List Int} {c : Int} (h : on l c) (k : Nat) : dr l (k + 1) c = dr l k (l.getD (c / 8).toNat 0) := by rw [dr, if_pos h]
theorem getD_w {l : List Int} (h : ∀ c ∈ l, W64 c) (n : Nat) : W64 (l.getD n 0) := by
  rw [List.getD_eq_getElem?_getD]
  cases e : l[n]? with
  | none => exact ⟨by simp, by simp⟩
  | some x => exact h x (List.mem_of_getElem? e)
theorem gv_w {l : List Int} (h : ∀ c ∈ l, W64 c) (n : Int) : W64 (gv l n) := by
  unfold gv; split
  · exact getD_w h _
  · exact ⟨by omega, by omega⟩
theorem dr_w {l : List Int} (h : ∀ c ∈ l, W64 c) : ∀ (k : Nat) (c : Int), W64 c → W64 (dr l k c)
  | 0, c, hc => hc
  | k + 1, c, hc => by
    rw [dr]; split
    · exact dr_w h k _ (getD_w h _)
    · exact hc
/-- The heap at block p, of type T: its cells l, its room m; F: its own blocks. -/
structure Hp (T : TypeId) (w : World) (p : Nat) (F : Nat → Prop) (l : List Int) (m : Int) : Prop where
  ex : ∃ v, w.heap[p]? = some (.cells #[v, .int .i64 m] T (0, 0)) ∧ w.ownsRow 0 23 1 v l.length (l.map (Value.int .u64)) ∧ v.ownBlock ≠ some p ∧ (∀ k, F k ↔ k = p ∨ v.ownBlock = some k)
  fits : (l.length : Int) ≤ m
  most : m ≤ 1048576
  wf : ∀ c ∈ l, W64 c
section
variable {T : TypeId} {w w' : World} {p : Nat} {F G : Nat → Prop} {l : List Int} {m : Int}
theorem Hp.lt (h : Hp T w p F l m) : ∀ k, F k → k < w.heap.size := by
  obtain ⟨v, hp, hr, _, hF⟩ := h.ex
  intro k hk
  rcases (hF k).1 hk with rfl | e
  · exact (Array.getElem?_eq_some_iff.1 hp).1
  · exact (hr.lt k e).2
theorem Hp.mine (h : Hp T w p F l m) : F p := by
  obtain ⟨v, hp, hr, _, hF⟩ := h.ex
  exact (hF p).2 (Or.inl rfl)
theorem Hp.len_le (h : Hp T w p F l m) : (l.length : Int) ≤ 1048576 := by have := h.fits; have := h.most; omega
theorem Hp.keep (h : Hp T w p F l m) (hk : Keep G w w') (hd : ∀ k, F k → ¬ G k) : Hp T w' p F l m := by
  have hlt := h.lt
  obtain ⟨⟨v, hp, hr, h1, hF⟩, a, b, c⟩ := h
  have hb : ∀ k, F k → w'.heap[k]? = w.heap[k]? := fun k f => hk.block k (hlt k f) (hd k f)
  refine ⟨⟨v, (hb p ((hF p).2 (Or.inl rfl))).trans hp, ?_, h1, hF⟩, a, b, c⟩
  obtain ⟨hl, hr⟩ := hr
  refine ⟨hl, ?_⟩
  rcases hr with hr | ⟨g, cap, cur, rfl, hg0, hg, r⟩
  · exact Or.inl hr
  · exact Or.inr ⟨g, cap, cur, rfl, hg0, (hb g ((hF g).2 (Or.inr rfl))).trans hg, r⟩
theorem Hp.below (h : Hp T w p F l m) (hb : Below w.heap.size w w') : Hp T w' p F l m := h.keep (G := fun _ => False) (Keep.of_below hb) (fun _ _ => id)
/-- The same heap, other cells: its blocks are those that it had, and new ones. -/
def Next (T : TypeId) (w : World) (p : Nat) (F : Nat → Prop) (l : List Int) (m : Int) (w' : World) : Prop := ∃ F', Hp T w' p F' l m ∧ Keep F w w' ∧ ∀ k, F' k → F k ∨ w.heap.size ≤ k
/-- A new heap. -/
def Made (T : TypeId) (w : World) (l : List Int) (m : Int) (w' : World) : Prop := ∃ F, Hp T w' w.heap.size F l m ∧ Below w.heap.size w w' ∧ ∀ k, F k → w.heap.size ≤ k
theorem Next.same (h : Hp T w p F l m) : Next T w p F l m w := ⟨F, h, Keep.refl _ _, fun _ => Or.inl⟩
theorem Next.trans {a b c : World} {F' : Nat → Prop} (k : Keep F a b) (hs : ∀ i, F' i → F i ∨ a.heap.size ≤ i) (n : Next T b p F' l m c) : Next T a p F l m c := by
  obtain ⟨G, t, k2, h2⟩ := n
  refine ⟨G, t, k.trans k2 (fun i hi => hs i hi), fun i hi => ?_⟩
  rcases h2 i hi with h | h
  · exact hs i h
  · exact Or.inr (Nat.le_trans k.size h)
theorem two_cells {a b : Value} {t : TypeId} (h : w.heap[p]? = some (.cells #[a, b] t (0, 0))) :
    w.cell? ⟨p, 0, none⟩ = some a ∧ w.cell? ⟨p, 1, none⟩ = some b ∧ w.frozen? ⟨p, 0, none⟩ = false ∧ w.frozen? ⟨p, 1, none⟩ = false := by
  refine ⟨?_, ?_, ?_, ?_⟩ <;> simp [World.cell?, World.frozen?, h]
/-- what a walk may know of a heap: the slice's three parts, its two cells -/
theorem Hp.open_ (h : Hp T w p F l m) : ∃ a c, w.cell? ⟨p, 0, none⟩ = some (.slice a l.length c) ∧ w.cell? ⟨p, 1, none⟩ = some (.int .i64 m) ∧ w.frozen? ⟨p, 0, none⟩ = false ∧ w.frozen? ⟨p, 1, none⟩ = false ∧ l.length ≤ c := by
  obtain ⟨v, hp, hr, _, _⟩ := h.ex
  have hc : ∀ a n c, v = .slice a n c → l.length ≤ c := by
    rintro a n c rfl
    rcases hr.2 with ⟨e, e0⟩ | ⟨g, cap, cur, e, _, _, hc, _⟩
    · omega
    · injection e with _ _ e; omega
  obtain ⟨a, c, rfl⟩ := kp.shape hr
  obtain ⟨c0, c1, f0, f1⟩ := two_cells hp
  exact ⟨a, c, c0, c1, f0, f1, hc _ _ _ rfl⟩
/-- a place that there is -/
theorem Hp.at_ (h : Hp T w p F l m) (k : Nat) (hk : k < l.length) : ∃ g c, w.cell? ⟨p, 0, none⟩ = some (.slice (some ⟨g, 0, none⟩) l.length c) ∧ w.frozen? ⟨p, 0, none⟩ = false ∧ g < w.heap.size ∧ g ≠ p ∧ F g ∧ l.length ≤ c ∧ w.cell? ⟨g, k, none⟩ = some (.int .u64 (l.getD k 0)) ∧ w.frozen? ⟨g, k, none⟩ = false ∧ w.cell? ⟨p, 1, none⟩ = some (.int .i64 m) ∧ w.frozen? ⟨p, 1, none⟩ = false := by
  obtain ⟨v, hp, hr, h1, hF⟩ := h.ex
  rcases hr.2 with ⟨_, e0⟩ | ⟨g, cap, cur, rfl, _, hg, hc, _⟩
  · omega
  obtain ⟨c0, c1, f0, f1⟩ := two_cells hp
  have e := hr.cellAt k (by omega)
  refine ⟨g, cap, c0, f0, (Array.getElem?_eq_some_iff.1 hg).1, fun e => h1 (by rw [e]; rfl), (hF g).2 (Or.inr rfl), hc, ?_, hr.frozenAt k, c1, f1⟩
  rw [e]; simp [List.getD, hk]
/-- a cell set -/
theorem Next.set_ (h : Hp T w p F l m) {k : Nat} (hk : k < l.length) {g c : Nat} (hg : w.cell? ⟨p, 0, none⟩ = some (.slice (some ⟨g, 0, none⟩) l.length c)) (u : Int) (hu : W64 u) :
    Next T w p F (l.set k u) m (w.setCell ⟨g, k, none⟩ (.int .u64 u)) := by
  obtain ⟨⟨v, hp, hr, h1, hF⟩, a, b, d⟩ := h
  obtain ⟨c0, _⟩ := two_cells hp
  rw [hg] at c0
  obtain rfl : Value.slice (some ⟨g, 0, none⟩) l.length c = v := by injection c0
  have hgp : g ≠ p := fun e => h1 (by rw [e]; rfl)
  refine ⟨F, ⟨⟨_, ?_, ?_, h1, hF⟩, by simpa using a, b, ?_⟩, Keep.setCell w ((hF g).2 (Or.inr rfl)) _, fun _ => Or.inl⟩
  · rw [Below.heap_setCell _ _ _ _ (fun e => hgp e.symm)]; simpa using hp
  · have := hr.stored k (.int .u64 u)
    rw [List.length_set, List.map_set]; exact this.1
  · intro x hx
    rcases List.mem_or_eq_of_mem_set hx with hx | rfl
    · exact d x hx
    · exact hu
/-- cells cut off -/
theorem own_cut {base e size n c : Nat} {a : Option Addr} {xs : List Value} (h : w.ownsRow base e size (.slice a n c) n xs) {k : Nat} (hk : k ≤ n) : w.ownsRow base e size (.slice a k c) k (xs.take (k * size)) := by
  obtain ⟨hl, hr⟩ := h
  have hks : k * size ≤ n * size := Nat.mul_le_mul_right _ hk
  refine ⟨by rw [List.length_take, hl]; omega, ?_⟩
  rcases hr with ⟨hr, hn⟩ | ⟨g, cap, cur, hv, hg0, hg, h1, h2, h3, h4⟩
  · injection hr with e1 e2 e3
    subst e1; subst e3
    obtain rfl : k = 0 := by omega
    exact Or.inl ⟨rfl, rfl⟩
  · injection hv with e1 e2 e3
    subst e1; subst e3
    refine Or.inr ⟨g, c, cur, rfl, hg0, hg, by omega, h2, h3, ?_⟩
    rw [← h4, List.take_take, Nat.min_eq_left hks]
theorem Next.cut (h : Hp T w p F l m) {k : Nat} (hk : k ≤ l.length) {a : Option Addr} {c : Nat} (hg : w.cell? ⟨p, 0, none⟩ = some (.slice a l.length c)) :
    Next T w p F (l.take k) m (w.setCell ⟨p, 0, none⟩ (.slice a k c)) := by
  obtain ⟨⟨v, hp, hr, h1, hF⟩, q, b, d⟩ := h
  obtain ⟨c0, _⟩ := two_cells hp
  rw [hg] at c0
  obtain rfl : Value.slice a l.length c = v := by injection c0
  have hl : (l.take k).length = k := by simp; omega
  have ho := own_cut hr hk
  have e1 : (Value.slice a k c).ownBlock = (Value.slice a l.length c).ownBlock := by cases a <;> rfl
  refine ⟨F, ⟨⟨.slice a k c, ?_, ?_, by rw [e1]; exact h1, by rw [e1]; exact hF⟩, by rw [hl]; omega, b, fun x hx => d x (List.mem_of_mem_take hx)⟩, Keep.setCell w ((hF p).2 (Or.inl rfl)) _, fun _ => Or.inl⟩
  · simp only [World.setCell, Array.getElem?_modify, hp]; simp
  · rw [hl, List.map_take]
    rw [Nat.mul_one] at ho
    exact ownsRow_setCell_other ho (by rw [e1]; exact h1) _
/-- a cell pushed: behind the append (w2), and the store of the slice -/
theorem Next.push {w1 w2 : World} {v v' : Value} {c : Int} (h : Hp T w p F l m) (hv : w.cell? ⟨p, 0, none⟩ = some v) (hm : (l.length : Int) < m) (hc : W64 c) (b1 : Below w.heap.size w w1)
    (hr' : w2.ownsRow 0 23 1 v' (l.length + 1) (l.map (Value.int .u64) ++ [.int .u64 c])) (g2 : w1.grownBy w2 v.ownBlock) (hat : v'.ownBlock = v.ownBlock ∨ v'.ownBlock = some w1.heap.size) :
    Next T w p F (l ++ [c]) m (w2.setCell ⟨p, 0, none⟩ v') := by
  have hlt := h.lt
  have hpl := h.lt p h.mine
  obtain ⟨⟨v0, hp, hr, h1, hF⟩, q, b, d⟩ := h
  obtain ⟨c0, _⟩ := two_cells hp
  rw [hv] at c0
  obtain rfl : v = v0 := by injection c0
  have s1 := b1.size
  have s2 := g2.size
  have p2 : w2.heap[p]? = some (.cells #[v, .int .i64 m] T (0, 0)) := (g2.block p (by omega) (fun e => h1 e.symm)).trans ((b1.block p hpl).trans hp)
  have hne : v'.ownBlock ≠ some p := by
    rcases hat with e | e
    · rw [e]; exact h1
    · rw [e]; intro e'; injection e' with e'; omega
  refine ⟨fun k => k = p ∨ v'.ownBlock = some k, ⟨⟨v', ?_, ?_, hne, fun _ => Iff.rfl⟩, by simp; omega, b, ?_⟩, ?_, ?_⟩
  · simp only [World.setCell, Array.getElem?_modify, p2]; simp
  · rw [List.length_append, List.map_append]
    exact ownsRow_setCell_other hr' hne _
  · intro x hx
    rcases List.mem_append.1 hx with hx | hx
    · exact d x hx
    · simp at hx; subst hx; exact hc
  · refine ((Keep.of_below (F := F) b1).trans (Keep.of_grown (F := F) g2 (fun k e => (hF k).2 (Or.inr e))) (fun _ => Or.inl)).trans (Keep.setCell (F := F) w2 (p := ⟨p, 0, none⟩) ((hF p).2 (Or.inl rfl)) v') (fun _ => Or.inl)
  · rintro k (rfl | e)
    · exact Or.inl ((hF _).2 (Or.inl rfl))
    · rcases hat with e' | e'
      · exact Or.inl ((hF k).2 (Or.inr (e' ▸ e)))
      · rw [e'] at e; injection e with e; exact Or.inr (by omega)
theorem drewN_below (w : World) (n : Nat) : Below w.heap.size w (w.drewN n) := by
  induction n with
  | zero => exact Below.refl _ _
  | succ n ih => exact ih.drew
theorem Hp.drewN (h : Hp T w p F l m) (n : Nat) : Hp T (w.drewN n) p F l m := h.below (drewN_below w n)
theorem drewN_size (w : World) (n : Nat) : (w.drewN n).heap.size = w.heap.size := by
  induction n with
  | zero => rfl
  | succ n ih => exact ih
theorem Next.of_drewN {n : Nat} (h : Next T (w.drewN n) p F l m w') : Next T w p F l m w' :=
  Next.trans (F' := F) (Keep.of_below (drewN_below w n)) (fun _ => Or.inl) h
theorem Next.drewN {a : World} (h : Next T a p F l m w) (n : Nat) : Next T a p F l m (w.drewN n) := by
  obtain ⟨G, t, k, s⟩ := h
  exact ⟨G, t.drewN n, k.trans (Keep.of_below (F := fun _ => False) (drewN_below w n)) (fun _ h => h.elim), s⟩
/-- a heap as New leaves it -/
theorem Made.new {m : Int} (h0 : 0 ≤ m) (h1 : m ≤ 1048576) (w : World) (T : TypeId) : Made T w [] m (w.alloc (.cells #[.slice none 0 0, .int .i64 m] T)) :=
  ⟨fun k => k = w.heap.size, ⟨⟨.slice none 0 0, alloc_at _ _, World.ownsRow_nil _ _ _ _, by simp [Value.ownBlock], fun k => by simp [Value.ownBlock]⟩, by simpa using h0, h1, fun _ h => by simp at h⟩,
    (Below.refl _ _).alloc (Nat.le_refl _) _, fun k hk => by omega⟩
/-- a heap of the call's own: made behind W -/
def Own (T : TypeId) (W : World) (p : Nat) (l : List Int) (m : Int) (w : World) : Prop := ∃ F, Hp T w p F l m ∧ Below W.heap.size W w ∧ ∀ j, F j → W.heap.size ≤ j
theorem Own.step {W : World} {l' : List Int} (b : Below W.heap.size W w) (f : ∀ j, F j → W.heap.size ≤ j) (n : Next T w p F l' m w') : Own T W p l' m w' := by
  obtain ⟨G, t, k, s⟩ := n
  exact ⟨G, t, b.trans (k.to_below f b.size), fun j hj => (s j hj).elim (f j) (Nat.le_trans b.size)⟩
theorem Own.below {W : World} (o : Own T W p l m w) (b : Below w.heap.size w w') : Own T W p l m w' := by
  obtain ⟨F, h, b0, f⟩ := o
  exact ⟨F, h.below b, b0.trans (b.mono b0.size), f⟩
theorem Own.drewN {W : World} (o : Own T W p l m w) (n : Nat) : Own T W p l m (w.drewN n) := o.below (drewN_below w n)
theorem Own.made {W : World} (b : Below W.heap.size W w) (h : Made T w l m w') : Own T W w.heap.size l m w' := by
  obtain ⟨F, h, b1, f⟩ := h
  exact ⟨F, h, b.trans (b1.mono b.size), fun j hj => Nat.le_trans b.size (f j hj)⟩
end
end Go.Proofs.Ythableojkjhicaa.hp
