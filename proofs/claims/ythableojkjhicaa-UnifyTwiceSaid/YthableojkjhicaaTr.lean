/- Trails in memory (two slices: places, and what stood there), and a trail beside a heap; what their calls answer. -/
import Derived.Test.YthableojkjhicaaHp
namespace Go.Proofs.Ythableojkjhicaa.hp
open Go.ChangeShapes Go.WideShapes Go.ChangeAt Go.RowKit
open Go.Proofs.Ythableojkjhicaa.kp Go.Proofs.Ythableojkjhicaa.cel
set_option linter.unusedVariables false
abbrev TT : TypeId := 100
abbrev Wr := Int × Int
def pl (L : List Wr) : List Int := L.map (·.1)
def sl (L : List Wr) : List Int := L.map (·.2)
theorem pl_len (L : List Wr) : (pl L).length = L.length := by simp [pl]
theorem sl_len (L : List Wr) : (sl L).length = L.length := by simp [sl]
theorem pl_add (L : List Wr) (x : Wr) : pl (L ++ [x]) = pl L ++ [x.1] := by simp [pl]
theorem sl_add (L : List Wr) (x : Wr) : sl (L ++ [x]) = sl L ++ [x.2] := by simp [sl]
theorem pl_take (L : List Wr) (n : Nat) : pl (L.take n) = (pl L).take n := by simp [pl]
theorem sl_take (L : List Wr) (n : Nat) : sl (L.take n) = (sl L).take n := by simp [sl]
def wr0 : Wr := (0, 0)
theorem pl_at (L : List Wr) (k : Nat) : (pl L).getD k 0 = (L.getD k wr0).1 := by
  simp only [pl, List.getD_eq_getElem?_getD, List.getElem?_map]; cases L[k]? <;> rfl
theorem sl_at (L : List Wr) (k : Nat) : (sl L).getD k 0 = (L.getD k wr0).2 := by
  simp only [sl, List.getD_eq_getElem?_getD, List.getElem?_map]; cases L[k]? <;> rfl
/-- the writes that a trail keeps: places that there may be, words -/
def Gd (L : List Wr) : Prop := ∀ x ∈ L, (0 ≤ x.1 ∧ x.1 < 1048576) ∧ W64 x.2
theorem Gd.at_ {L : List Wr} (h : Gd L) (k : Nat) : (0 ≤ (L.getD k wr0).1 ∧ (L.getD k wr0).1 < 1048576) ∧ W64 (L.getD k wr0).2 := by
  rw [List.getD_eq_getElem?_getD]
  cases e : L[k]? with
  | none => exact ⟨⟨by simp [wr0], by simp [wr0]⟩, by simp [wr0], by simp [wr0]⟩
  | some x => exact h x (List.mem_of_getElem? e)
theorem Gd.take {L : List Wr} (h : Gd L) (n : Nat) : Gd (L.take n) := fun x hx => h x (List.mem_of_mem_take hx)
theorem Gd.nil : Gd [] := fun x hx => by simp at hx
/-- what the calls make of cells l and writes L -/
def tx (l : List Int) (L : List Wr) (n : Int) : List Wr := if gb l n = true then L ++ [(n, gv l n)] else L
def hb (L : List Wr) (n : Int) : Bool := decide (0 ≤ n ∧ n ≤ L.length)
def nb (L : List Wr) (n : Int) : Int := if 0 ≤ n ∧ n ≤ L.length then L.length - n else 0
def kx (L : List Wr) (n : Int) : List Wr := if 0 ≤ n ∧ n ≤ L.length then L.take n.toNat else L
/-- writes undone, the last first -/
def ub (l : List Int) (L : List Wr) : List Int := L.foldr (fun x l => sx l x.1 x.2) l
def ux (l : List Int) (L : List Wr) (n : Int) : List Int := if 0 ≤ n ∧ n ≤ L.length then ub l (L.drop n.toNat) else l
theorem sx_len (l : List Int) (n c : Int) : (sx l n c).length = l.length := by unfold sx; split <;> simp
theorem ub_len (l : List Int) (L : List Wr) : (ub l L).length = l.length := by
  induction L with
  | nil => rfl
  | cons x L ih => show (sx (ub l L) x.1 x.2).length = _; rw [sx_len, ih]
theorem ub_step (l : List Int) (L : List Wr) {k : Nat} (hk : k < L.length) : ub l (L.drop k) = sx (ub l (L.drop (k + 1))) (L.getD k wr0).1 (L.getD k wr0).2 := by
  rw [List.drop_eq_getElem_cons hk]
  have e : L.getD k wr0 = L[k] := by simp [List.getD, hk]
  rw [e]; rfl
theorem Gd.tx {l : List Int} {L : List Wr} (h : Gd L) (hl : (l.length : Int) ≤ 1048576) (hw : ∀ c ∈ l, W64 c) (n : Int) : Gd (tx l L n) := by
  unfold hp.tx; split
  · rename_i hg
    have h0 := of_decide_eq_true hg
    intro x hx
    rcases List.mem_append.1 hx with hx | hx
    · exact h x hx
    · simp at hx; subst hx; exact ⟨⟨h0.1, by simp; omega⟩, gv_w hw n⟩
  · exact h
theorem sx_w {l : List Int} (hw : ∀ c ∈ l, W64 c) (n : Int) {u : Int} (hu : W64 u) : ∀ c ∈ sx l n u, W64 c := by
  unfold sx; split
  · intro c hc
    rcases List.mem_or_eq_of_mem_set hc with hc | rfl
    · exact hw c hc
    · exact hu
  · exact hw
theorem row_keep {w w' : World} {b e s n : Nat} {v : Value} {xs : List Value} (h : w.ownsRow b e s v n xs) (hk : ∀ k, v.ownBlock = some k → w'.heap[k]? = w.heap[k]?) : w'.ownsRow b e s v n xs := by
  obtain ⟨hl, hr⟩ := h
  refine ⟨hl, ?_⟩
  rcases hr with hr | ⟨g, cap, cur, rfl, hg0, hg, r⟩
  · exact Or.inl hr
  · exact Or.inr ⟨g, cap, cur, rfl, hg0, (hk g rfl).trans hg, r⟩
/-- The trail at block q: places ps, what stood there ss; G: its own blocks. -/
structure Tp (w : World) (q : Nat) (G : Nat → Prop) (ps ss : List Int) : Prop where
  ex : ∃ v u, w.heap[q]? = some (.cells #[v, u] TT (0, 0)) ∧ w.ownsRow 0 3 1 v ps.length (ps.map (Value.int .i64)) ∧ w.ownsRow 0 23 1 u ss.length (ss.map (Value.int .u64)) ∧
    v.ownBlock ≠ some q ∧ u.ownBlock ≠ some q ∧ (∀ k, v.ownBlock = some k → u.ownBlock ≠ some k) ∧ ∀ k, G k ↔ k = q ∨ v.ownBlock = some k ∨ u.ownBlock = some k
section
variable {w w' : World} {q : Nat} {G G' : Nat → Prop} {ps ss ps' ss' : List Int}
theorem Tp.lt (h : Tp w q G ps ss) : ∀ k, G k → k < w.heap.size := by
  obtain ⟨v, u, hq, hv, hu, _, _, _, hG⟩ := h.ex
  intro k hk
  rcases (hG k).1 hk with rfl | e | e
  · exact (Array.getElem?_eq_some_iff.1 hq).1
  · exact (hv.lt k e).2
  · exact (hu.lt k e).2
theorem Tp.mine (h : Tp w q G ps ss) : G q := by
  obtain ⟨v, u, hq, hv, hu, _, _, _, hG⟩ := h.ex
  exact (hG q).2 (Or.inl rfl)
theorem Tp.keep {F : Nat → Prop} (h : Tp w q G ps ss) (hk : Keep F w w') (hd : ∀ k, G k → ¬ F k) : Tp w' q G ps ss := by
  have hlt := h.lt
  obtain ⟨v, u, hq, hv, hu, h1, h2, h3, hG⟩ := h.ex
  have hb : ∀ k, G k → w'.heap[k]? = w.heap[k]? := fun k f => hk.block k (hlt k f) (hd k f)
  exact ⟨v, u, (hb q ((hG q).2 (Or.inl rfl))).trans hq, row_keep hv fun k e => hb k ((hG k).2 (Or.inr (Or.inl e))), row_keep hu fun k e => hb k ((hG k).2 (Or.inr (Or.inr e))), h1, h2, h3, hG⟩
theorem Tp.below (h : Tp w q G ps ss) (hb : Below w.heap.size w w') : Tp w' q G ps ss := h.keep (F := fun _ => False) (Keep.of_below hb) (fun _ _ => id)
theorem Tp.drewN (h : Tp w q G ps ss) (n : Nat) : Tp (w.drewN n) q G ps ss := h.below (drewN_below w n)
/-- The same trail, other writes. -/
def TN (w : World) (q : Nat) (G : Nat → Prop) (ps ss : List Int) (w' : World) : Prop := ∃ G', Tp w' q G' ps ss ∧ Keep G w w' ∧ ∀ k, G' k → G k ∨ w.heap.size ≤ k
theorem TN.same (h : Tp w q G ps ss) : TN w q G ps ss w := ⟨G, h, Keep.refl _ _, fun _ => Or.inl⟩
theorem TN.trans {a b c : World} (k : Keep G a b) (hs : ∀ i, G' i → G i ∨ a.heap.size ≤ i) (n : TN b q G' ps ss c) : TN a q G ps ss c := by
  obtain ⟨H, t, k2, h2⟩ := n
  refine ⟨H, t, k.trans k2 (fun i hi => hs i hi), fun i hi => ?_⟩
  rcases h2 i hi with h | h
  · exact hs i h
  · exact Or.inr (Nat.le_trans k.size h)
/-- what a walk may know of a trail -/
theorem Tp.open_ (h : Tp w q G ps ss) : ∃ a c b d, w.cell? ⟨q, 0, none⟩ = some (.slice a ps.length c) ∧ w.cell? ⟨q, 1, none⟩ = some (.slice b ss.length d) ∧ w.frozen? ⟨q, 0, none⟩ = false ∧ w.frozen? ⟨q, 1, none⟩ = false ∧ ps.length ≤ c ∧ ss.length ≤ d ∧
    w.ownsRow 0 3 1 (.slice a ps.length c) ps.length (ps.map (Value.int .i64)) ∧ w.ownsRow 0 23 1 (.slice b ss.length d) ss.length (ss.map (Value.int .u64)) ∧
    (Value.slice a ps.length c).ownBlock ≠ some q ∧ (Value.slice b ss.length d).ownBlock ≠ some q ∧ (∀ k, (Value.slice a ps.length c).ownBlock = some k → (Value.slice b ss.length d).ownBlock ≠ some k) ∧ (∀ k, G k ↔ k = q ∨ (Value.slice a ps.length c).ownBlock = some k ∨ (Value.slice b ss.length d).ownBlock = some k) := by
  obtain ⟨v, u, hq, hv, hu, h1, h2, h3, hG⟩ := h.ex
  obtain ⟨a, c, rfl⟩ := kp.shape hv
  obtain ⟨b, d, rfl⟩ := kp.shape hu
  obtain ⟨c0, c1, f0, f1⟩ := two_cells hq
  have hc : ∀ {e s n a c xs}, w.ownsRow 0 e s (.slice a n c) n xs → n ≤ c := by
    rintro e s n a c xs ⟨_, hr⟩
    rcases hr with ⟨e, e0⟩ | ⟨g, cap, cur, e, _, _, hc, _⟩
    · omega
    · injection e with _ _ e; omega
  exact ⟨a, c, b, d, c0, c1, f0, f1, hc hv, hc hu, hv, hu, h1, h2, h3, hG⟩
/-- a write that there is -/
theorem Tp.at_ (h : Tp w q G ps ss) (k : Nat) (hk : k < ps.length) (hk' : k < ss.length) : ∃ g c e d, w.cell? ⟨q, 0, none⟩ = some (.slice (some ⟨g, 0, none⟩) ps.length c) ∧ w.cell? ⟨q, 1, none⟩ = some (.slice (some ⟨e, 0, none⟩) ss.length d) ∧ ps.length ≤ c ∧ ss.length ≤ d ∧
    w.cell? ⟨g, k, none⟩ = some (.int .i64 (ps.getD k 0)) ∧ w.cell? ⟨e, k, none⟩ = some (.int .u64 (ss.getD k 0)) := by
  obtain ⟨a, c, b, d, c0, c1, f0, f1, hc, hd, hv, hu, _⟩ := h.open_
  rcases hv.2 with ⟨_, e0⟩ | ⟨g, cap, cur, ev, _, hg, _, _⟩
  · omega
  rcases hu.2 with ⟨_, e0⟩ | ⟨e, cap2, cur2, eu, _, he, _, _⟩
  · omega
  injection ev with ea _ _
  injection eu with eb _ _
  subst ea; subst eb
  refine ⟨g, c, e, d, c0, c1, hc, hd, ?_, ?_⟩
  · rw [hv.cellAt k (by omega)]; simp [List.getD, hk]
  · rw [hu.cellAt k (by omega)]; simp [List.getD, hk']
/-- a place pushed -/
theorem TN.push0 {w1 w2 : World} {v v' : Value} {c : Int} (h : Tp w q G ps ss) (hv : w.cell? ⟨q, 0, none⟩ = some v) (b1 : Below w.heap.size w w1)
    (hr' : w2.ownsRow 0 3 1 v' (ps.length + 1) (ps.map (Value.int .i64) ++ [.int .i64 c])) (g2 : w1.grownBy w2 v.ownBlock) (hat : v'.ownBlock = v.ownBlock ∨ v'.ownBlock = some w1.heap.size) :
    TN w q G (ps ++ [c]) ss (w2.setCell ⟨q, 0, none⟩ v') := by
  have hlt := h.lt
  obtain ⟨v0, u, hq, h0, hu, h1, h2, h3, hG⟩ := h.ex
  obtain ⟨c0, _⟩ := two_cells hq
  rw [hv] at c0
  obtain rfl : v = v0 := by injection c0
  have s1 := b1.size
  have s2 := g2.size
  have hqq := hlt q ((hG q).2 (Or.inl rfl))
  have hblk : ∀ k, k < w.heap.size → v.ownBlock ≠ some k → w2.heap[k]? = w.heap[k]? := fun k hk e => (g2.block k (by omega) (fun e' => e e'.symm)).trans (b1.block k hk)
  have q2 : w2.heap[q]? = some (.cells #[v, u] TT (0, 0)) := (hblk q hqq h1).trans hq
  have hne : v'.ownBlock ≠ some q := by
    rcases hat with e | e
    · rw [e]; exact h1
    · rw [e]; intro e'; injection e' with e'; omega
  refine ⟨fun k => k = q ∨ v'.ownBlock = some k ∨ u.ownBlock = some k, ⟨v', u, ?_, ?_, ?_, hne, h2, ?_, fun _ => Iff.rfl⟩, ?_, ?_⟩
  · simp only [World.setCell, Array.getElem?_modify, q2]; simp
  · rw [List.length_append, List.map_append]
    exact ownsRow_setCell_other hr' hne _
  · exact ownsRow_setCell_other (row_keep hu fun k e => hblk k (hlt k ((hG k).2 (Or.inr (Or.inr e)))) (fun e' => h3 k e' e)) h2 _
  · intro k e
    rcases hat with e' | e'
    · exact h3 k (e' ▸ e)
    · rw [e'] at e; injection e with e; intro eu; have := hlt k ((hG k).2 (Or.inr (Or.inr eu))); omega
  · refine ((Keep.of_below (F := G) b1).trans (Keep.of_grown (F := G) g2 (fun k e => (hG k).2 (Or.inr (Or.inl e)))) (fun _ => Or.inl)).trans (Keep.setCell (F := G) w2 (p := ⟨q, 0, none⟩) ((hG q).2 (Or.inl rfl)) v') (fun _ => Or.inl)
  · rintro k (rfl | e | e)
    · exact Or.inl ((hG _).2 (Or.inl rfl))
    · rcases hat with e' | e'
      · exact Or.inl ((hG k).2 (Or.inr (Or.inl (e' ▸ e))))
      · rw [e'] at e; injection e with e; exact Or.inr (by omega)
    · exact Or.inl ((hG k).2 (Or.inr (Or.inr e)))
/-- what stood there pushed -/
theorem TN.push1 {w1 w2 : World} {v v' : Value} {c : Int} (h : Tp w q G ps ss) (hv : w.cell? ⟨q, 1, none⟩ = some v) (b1 : Below w.heap.size w w1)
    (hr' : w2.ownsRow 0 23 1 v' (ss.length + 1) (ss.map (Value.int .u64) ++ [.int .u64 c])) (g2 : w1.grownBy w2 v.ownBlock) (hat : v'.ownBlock = v.ownBlock ∨ v'.ownBlock = some w1.heap.size) :
    TN w q G ps (ss ++ [c]) (w2.setCell ⟨q, 1, none⟩ v') := by
  have hlt := h.lt
  obtain ⟨u, v0, hq, hu, h0, h2, h1, h3, hG⟩ := h.ex
  obtain ⟨_, c0, _⟩ := two_cells hq
  rw [hv] at c0
  obtain rfl : v = v0 := by injection c0
  have s1 := b1.size
  have s2 := g2.size
  have hqq := hlt q ((hG q).2 (Or.inl rfl))
  have hblk : ∀ k, k < w.heap.size → v.ownBlock ≠ some k → w2.heap[k]? = w.heap[k]? := fun k hk e => (g2.block k (by omega) (fun e' => e e'.symm)).trans (b1.block k hk)
  have q2 : w2.heap[q]? = some (.cells #[u, v] TT (0, 0)) := (hblk q hqq h1).trans hq
  have hne : v'.ownBlock ≠ some q := by
    rcases hat with e | e
    · rw [e]; exact h1
    · rw [e]; intro e'; injection e' with e'; omega
  refine ⟨fun k => k = q ∨ u.ownBlock = some k ∨ v'.ownBlock = some k, ⟨u, v', ?_, ?_, ?_, h2, hne, ?_, fun _ => Iff.rfl⟩, ?_, ?_⟩
  · simp only [World.setCell, Array.getElem?_modify, q2]; simp
  · exact ownsRow_setCell_other (row_keep hu fun k e => hblk k (hlt k ((hG k).2 (Or.inr (Or.inl e)))) (fun e' => h3 k e e')) h2 _
  · rw [List.length_append, List.map_append]
    exact ownsRow_setCell_other hr' hne _
  · intro k e
    rcases hat with e' | e'
    · rw [e']; exact h3 k e
    · rw [e']; intro e2; injection e2 with e2; have := hlt k ((hG k).2 (Or.inr (Or.inl e))); omega
  · refine ((Keep.of_below (F := G) b1).trans (Keep.of_grown (F := G) g2 (fun k e => (hG k).2 (Or.inr (Or.inr e)))) (fun _ => Or.inl)).trans (Keep.setCell (F := G) w2 (p := ⟨q, 1, none⟩) ((hG q).2 (Or.inl rfl)) v') (fun _ => Or.inl)
  · rintro k (rfl | e | e)
    · exact Or.inl ((hG _).2 (Or.inl rfl))
    · exact Or.inl ((hG k).2 (Or.inr (Or.inl e)))
    · rcases hat with e' | e'
      · exact Or.inl ((hG k).2 (Or.inr (Or.inr (e' ▸ e))))
      · rw [e'] at e; injection e with e; exact Or.inr (by omega)
/-- both cut off -/
theorem TN.cut (h : Tp w q G ps ss) {k : Nat} (hk : k ≤ ps.length) (hk' : k ≤ ss.length) {a b : Option Addr} {c d : Nat} (ha : w.cell? ⟨q, 0, none⟩ = some (.slice a ps.length c)) (hb : w.cell? ⟨q, 1, none⟩ = some (.slice b ss.length d))
    (e : w' = (w.setCell ⟨q, 0, none⟩ (.slice a k c)).setCell ⟨q, 1, none⟩ (.slice b k d) ∨ w' = (w.setCell ⟨q, 1, none⟩ (.slice b k d)).setCell ⟨q, 0, none⟩ (.slice a k c)) :
    TN w q G (ps.take k) (ss.take k) w' := by
  obtain ⟨v, u, hq, hv, hu, h1, h2, h3, hG⟩ := h.ex
  obtain ⟨c0, c1, _⟩ := two_cells hq
  rw [ha] at c0
  rw [hb] at c1
  obtain rfl : Value.slice a ps.length c = v := by injection c0
  obtain rfl : Value.slice b ss.length d = u := by injection c1
  have l1 : (ps.take k).length = k := by simp; omega
  have l2 : (ss.take k).length = k := by simp; omega
  have e1 : (Value.slice a k c).ownBlock = (Value.slice a ps.length c).ownBlock := by cases a <;> rfl
  have e2 : (Value.slice b k d).ownBlock = (Value.slice b ss.length d).ownBlock := by cases b <;> rfl
  have o1 := own_cut hv hk
  have o2 := own_cut hu hk'
  rw [Nat.mul_one] at o1 o2
  have kq : Keep G w w' := by
    rcases e with rfl | rfl
    · exact (Keep.setCell (F := G) w (p := ⟨q, 0, none⟩) ((hG q).2 (Or.inl rfl)) _).trans (Keep.setCell (F := G) _ (p := ⟨q, 1, none⟩) ((hG q).2 (Or.inl rfl)) _) (fun _ => Or.inl)
    · exact (Keep.setCell (F := G) w (p := ⟨q, 1, none⟩) ((hG q).2 (Or.inl rfl)) _).trans (Keep.setCell (F := G) _ (p := ⟨q, 0, none⟩) ((hG q).2 (Or.inl rfl)) _) (fun _ => Or.inl)
  refine ⟨G, ⟨.slice a k c, .slice b k d, ?_, ?_, ?_, by rw [e1]; exact h1, by rw [e2]; exact h2, by rw [e1, e2]; exact h3, by rw [e1, e2]; exact hG⟩, kq, fun _ => Or.inl⟩
  · rcases e with rfl | rfl <;> simp [World.setCell, Array.getElem?_modify, hq]
  · rw [l1, List.map_take]
    rcases e with rfl | rfl
    · exact ownsRow_setCell_other (ownsRow_setCell_other o1 (by rw [e1]; exact h1) _) (by rw [e1]; exact h1) _
    · exact ownsRow_setCell_other (ownsRow_setCell_other o1 (by rw [e1]; exact h1) _) (by rw [e1]; exact h1) _
  · rw [l2, List.map_take]
    rcases e with rfl | rfl
    · exact ownsRow_setCell_other (ownsRow_setCell_other o2 (by rw [e2]; exact h2) _) (by rw [e2]; exact h2) _
    · exact ownsRow_setCell_other (ownsRow_setCell_other o2 (by rw [e2]; exact h2) _) (by rw [e2]; exact h2) _
/-- a new trail -/
theorem TN.made (w : World) : ∃ G, Tp (w.alloc (.cells #[.slice none 0 0, .slice none 0 0] TT)) w.heap.size G [] [] ∧ ∀ k, G k → w.heap.size ≤ k :=
  ⟨fun k => k = w.heap.size, ⟨.slice none 0 0, .slice none 0 0, alloc_at _ _, World.ownsRow_nil _ _ _ _, World.ownsRow_nil _ _ _ _, by simp [Value.ownBlock], by simp [Value.ownBlock], by simp [Value.ownBlock], fun k => by simp [Value.ownBlock]⟩, fun k hk => by omega⟩
end
/-! ### A trail of either kind, beside its heap -/
abbrev Tk := World → Nat → (Nat → Prop) → List Wr → Prop
/-- what both kinds keep -/
structure Frm (Tr : Tk) : Prop where
  lt : ∀ {w q G L}, Tr w q G L → ∀ k, G k → k < w.heap.size
  keep : ∀ {w w' q G L} {F : Nat → Prop}, Tr w q G L → Keep F w w' → (∀ k, G k → ¬ F k) → Tr w' q G L
def TP : Tk := fun w q G L => Tp w q G (pl L) (sl L)
theorem frmP : Frm TP := ⟨fun h => Tp.lt h, fun h k d => Tp.keep h k d⟩
/-- the heap at p, the trail at q: K: the blocks of both -/
def Sys (T : TypeId) (Tr : Tk) (w : World) (p q : Nat) (K : Nat → Prop) (l : List Int) (m : Int) (L : List Wr) : Prop :=
  (∃ F G, Hp T w p F l m ∧ Tr w q G L ∧ (∀ k, F k → ¬ G k) ∧ ∀ k, K k ↔ F k ∨ G k) ∧ Gd L
section
variable {T : TypeId} {Tr : Tk} {w w' : World} {p q : Nat} {K K' F G : Nat → Prop} {l l' : List Int} {m : Int} {L L' : List Wr}
theorem Sys.lt (f : Frm Tr) (h : Sys T Tr w p q K l m L) : ∀ k, K k → k < w.heap.size := by
  obtain ⟨⟨F, G, a, b, _, d⟩, _⟩ := h
  intro k hk
  rcases (d k).1 hk with hk | hk
  · exact a.lt k hk
  · exact f.lt b k hk
theorem Sys.keep (f : Frm Tr) {M : Nat → Prop} (h : Sys T Tr w p q K l m L) (hk : Keep M w w') (hd : ∀ k, K k → ¬ M k) : Sys T Tr w' p q K l m L := by
  obtain ⟨⟨F, G, a, b, c, d⟩, g⟩ := h
  exact ⟨⟨F, G, a.keep hk fun k hf => hd k ((d k).2 (Or.inl hf)), f.keep b hk fun k hf => hd k ((d k).2 (Or.inr hf)), c, d⟩, g⟩
theorem Sys.below (f : Frm Tr) (h : Sys T Tr w p q K l m L) (hb : Below w.heap.size w w') : Sys T Tr w' p q K l m L := h.keep f (M := fun _ => False) (Keep.of_below hb) (fun _ _ => id)
theorem Sys.drewN (f : Frm Tr) (h : Sys T Tr w p q K l m L) (n : Nat) : Sys T Tr (w.drewN n) p q K l m L := h.below f (drewN_below w n)
def SN (T : TypeId) (Tr : Tk) (w : World) (p q : Nat) (K : Nat → Prop) (l : List Int) (m : Int) (L : List Wr) (w' : World) : Prop := ∃ K', Sys T Tr w' p q K' l m L ∧ Keep K w w' ∧ ∀ k, K' k → K k ∨ w.heap.size ≤ k
theorem SN.same (h : Sys T Tr w p q K l m L) : SN T Tr w p q K l m L w := ⟨K, h, Keep.refl _ _, fun _ => Or.inl⟩
theorem SN.trans {a b c : World} (k : Keep K a b) (hs : ∀ i, K' i → K i ∨ a.heap.size ≤ i) (n : SN T Tr b p q K' l m L c) : SN T Tr a p q K l m L c := by
  obtain ⟨H, t, k2, h2⟩ := n
  refine ⟨H, t, k.trans k2 (fun i hi => hs i hi), fun i hi => ?_⟩
  rcases h2 i hi with h | h
  · exact hs i h
  · exact Or.inr (Nat.le_trans k.size h)
theorem SN.below (f : Frm Tr) {a : World} (n : SN T Tr a p q K l m L w) (b : Below w.heap.size w w') : SN T Tr a p q K l m L w' := by
  obtain ⟨H, t, k2, h2⟩ := n
  exact ⟨H, t.below f b, k2.trans (Keep.of_below (F := fun _ => False) b) (fun _ h => h.elim), h2⟩
theorem SN.drewN (f : Frm Tr) {a : World} (n : SN T Tr a p q K l m L w) (i : Nat) : SN T Tr a p q K l m L (w.drewN i) := n.below f (drewN_below w i)
/-- the heap has turned -/
theorem SN.heap (f : Frm Tr) (a : Hp T w p F l m) (b : Tr w q G L) (c : ∀ k, F k → ¬ G k) (d : ∀ k, K k ↔ F k ∨ G k) (g : Gd L) (n : Next T w p F l' m w') : SN T Tr w p q K l' m L w' := by
  obtain ⟨F', a', k, s⟩ := n
  have hlt := f.lt b
  refine ⟨fun i => F' i ∨ G i, ⟨⟨F', G, a', f.keep b k (fun i hg hf => c i hf hg), fun i hf hg => ?_, fun _ => Iff.rfl⟩, g⟩, k.mono fun i hi => (d i).2 (Or.inl hi), fun i hi => ?_⟩
  · rcases s i hf with h | h
    · exact c i h hg
    · have := hlt i hg; omega
  · rcases hi with hi | hi
    · exact (s i hi).imp (fun h => (d i).2 (Or.inl h)) id
    · exact Or.inl ((d i).2 (Or.inr hi))
/-- the trail has turned -/
theorem SN.trail (a : Hp T w p F l m) (c : ∀ k, F k → ¬ G k) (d : ∀ k, K k ↔ F k ∨ G k) (g : Gd L') {G' : Nat → Prop} (b' : Tr w' q G' L') (k : Keep G w w') (s : ∀ i, G' i → G i ∨ w.heap.size ≤ i) : SN T Tr w p q K l m L' w' := by
  have hlt := a.lt
  refine ⟨fun i => F i ∨ G' i, ⟨⟨F, G', a.keep k c, b', fun i hf hg => ?_, fun _ => Iff.rfl⟩, g⟩, k.mono fun i hi => (d i).2 (Or.inr hi), fun i hi => ?_⟩
  · rcases s i hg with h | h
    · exact c i hf h
    · have := hlt i hf; omega
  · rcases hi with hi | hi
    · exact Or.inl ((d i).2 (Or.inl hi))
    · exact (s i hi).imp (fun h => (d i).2 (Or.inr h)) id
/-- two that are apart stay apart, when one turns -/
theorem SN.apart {M : Nat → Prop} (hM : ∀ k, M k → k < w.heap.size) (hd : ∀ k, K k → ¬ M k) (n : ∀ k, K' k → K k ∨ w.heap.size ≤ k) : ∀ k, K' k → ¬ M k := fun k hk hm => by
  rcases n k hk with h | h
  · exact hd k h hm
  · have := hM k hm; omega
/-- both the call's own: made behind W -/
def SOwn (T : TypeId) (Tr : Tk) (W : World) (p q : Nat) (l : List Int) (m : Int) (L : List Wr) (w : World) : Prop := ∃ K, Sys T Tr w p q K l m L ∧ Below W.heap.size W w ∧ ∀ j, K j → W.heap.size ≤ j
theorem SOwn.step {W : World} (b : Below W.heap.size W w) (f : ∀ j, K j → W.heap.size ≤ j) (n : SN T Tr w p q K l' m L' w') : SOwn T Tr W p q l' m L' w' := by
  obtain ⟨H, t, k, s⟩ := n
  exact ⟨H, t, b.trans (k.to_below f b.size), fun j hj => (s j hj).elim (f j) (Nat.le_trans b.size)⟩
theorem SOwn.below (fr : Frm Tr) {W : World} (o : SOwn T Tr W p q l m L w) (b : Below w.heap.size w w') : SOwn T Tr W p q l m L w' := by
  obtain ⟨K, h, b0, f⟩ := o
  exact ⟨K, h.below fr b, b0.trans (b.mono b0.size), f⟩
theorem SOwn.drewN (fr : Frm Tr) {W : World} (o : SOwn T Tr W p q l m L w) (n : Nat) : SOwn T Tr W p q l m L (w.drewN n) := o.below fr (drewN_below w n)
end
end Go.Proofs.Ythableojkjhicaa.hp
