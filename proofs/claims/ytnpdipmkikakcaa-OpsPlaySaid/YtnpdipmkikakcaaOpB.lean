/- Rows of operators in memory, tables. -/
import Derived.Test.YtnpdipmkikakcaaOpA
import Derived.Test.YtnpdipmkikakcaaKeep
import Derived.Laws.OwnMore
import Derived.OneCell
import Derived.Deep.Draws
import Derived.KernelRfl
namespace Go.Proofs.Ytnpdipmkikakcaa.opb
open Go.ChangeShapes Go.WideShapes Go.ChangeAt Go.RowKit
open Go.Proofs.Ytnpdipmkikakcaa.kp Go.Proofs.Ytnpdipmkikakcaa.opa
set_option linter.unusedVariables false
def _root_.Go.Proofs.Ytnpdipmkikakcaa.opa.D.cs (d : D) : List Value := [.string ⟨d.n.toArray⟩, .int .i64 d.k, .int .i64 d.p]
def _root_.Go.Proofs.Ytnpdipmkikakcaa.opa.D.v (d : D) : Value := .agg #[.string ⟨d.n.toArray⟩, .int .i64 d.k, .int .i64 d.p]
def flat (A : List D) : List Value := A.flatMap D.cs
theorem flat_nil : flat [] = [] := rfl
theorem flat_cons (e : D) (A : List D) : flat (e :: A) = e.cs ++ flat A := by simp [flat]
theorem flat_append (A B : List D) : flat (A ++ B) = flat A ++ flat B := by simp [flat]
theorem flat_len (A : List D) : (flat A).length = A.length * 3 := by
  induction A with
  | nil => rfl
  | cons e A ih => rw [flat_cons, List.length_append, ih, List.length_cons]; simp [D.cs]; omega
theorem flat_take (A : List D) : ∀ n, (flat A).take (n * 3) = flat (A.take n) := by
  induction A with
  | nil => intro n; simp [flat]
  | cons e A ih =>
    intro n
    cases n with
    | zero => simp [flat]
    | succ n =>
      rw [List.take_succ_cons, flat_cons, flat_cons, ← ih n, List.take_append, show (n + 1) * 3 - e.cs.length = n * 3 by simp [D.cs]; omega, List.take_of_length_le (by simp [D.cs]; omega)]
theorem flat_drop (A : List D) : ∀ n, (flat A).drop (n * 3) = flat (A.drop n) := by
  induction A with
  | nil => intro n; simp [flat]
  | cons e A ih =>
    intro n
    cases n with
    | zero => simp [flat]
    | succ n =>
      rw [List.drop_succ_cons, flat_cons, ← ih n, List.drop_append, show (n + 1) * 3 - e.cs.length = n * 3 by simp [D.cs]; omega, List.drop_of_length_le (by simp [D.cs]; omega), List.nil_append]
theorem flat_at {A : List D} {m : Nat} (h : m < A.length) (sp : List Value) {j : Nat} (hj : j < 3) : (flat A ++ sp)[m * 3 + j]? = A[m].cs[j]? := by
  have e : A = A.take m ++ (A[m] :: A.drop (m + 1)) := by rw [List.getElem_cons_drop, List.take_append_drop]
  have hl : (flat (A.take m)).length = m * 3 := by rw [flat_len, List.length_take, Nat.min_eq_left (by omega)]
  conv => lhs; rw [e]
  rw [flat_append, flat_cons, List.append_assoc, List.getElem?_append_right (by rw [hl]; omega), hl, Nat.add_sub_cancel_left, List.append_assoc, List.getElem?_append_left (by simp [D.cs]; omega)]
theorem flat_one (A : List D) : ∀ v ∈ flat A, v.oneCell' = true := by
  intro v hv
  obtain ⟨e, he, hv⟩ := List.mem_flatMap.1 hv
  simp only [D.cs, List.mem_cons, List.not_mem_nil, or_false] at hv
  rcases hv with rfl | rfl | rfl <;> rfl
theorem flat_set {A : List D} {m : Nat} (h : m < A.length) (e : D) :
    (((flat A).set (m * 3) (.string ⟨e.n.toArray⟩)).set (m * 3 + 1) (.int .i64 e.k)).set (m * 3 + 2) (.int .i64 e.p) = flat (A.set m e) := by
  have hA : A = A.take m ++ (A[m] :: A.drop (m + 1)) := by rw [List.getElem_cons_drop, List.take_append_drop]
  have hl : (flat (A.take m)).length = m * 3 := by rw [flat_len, List.length_take, Nat.min_eq_left (by omega)]
  have h1 : A.set m e = A.take m ++ (e :: A.drop (m + 1)) := List.set_eq_take_append_cons_drop.trans (if_pos h)
  rw [h1]
  obtain ⟨L, hL⟩ : ∃ L, L = A.take m := ⟨_, rfl⟩
  obtain ⟨R, hR⟩ : ∃ R, R = A.drop (m + 1) := ⟨_, rfl⟩
  obtain ⟨x, hx⟩ : ∃ x, x = A[m] := ⟨_, rfl⟩
  rw [← hL, ← hR, ← hx] at hA
  rw [← hL] at hl
  rw [← hL, ← hR, hA]
  simp only [flat_append, flat_cons, D.cs]
  rw [← hl]
  have s : ∀ (j : Nat) (Y : List Value) (v : Value), (flat L ++ Y).set ((flat L).length + j) v = flat L ++ Y.set j v := fun j Y v => by rw [List.set_append_right _ _ (by omega), Nat.add_sub_cancel_left]
  have s0 : ∀ (Y : List Value) (v : Value), (flat L ++ Y).set ((flat L).length) v = flat L ++ Y.set 0 v := fun Y v => s 0 Y v
  simp only [s, s0]
  rfl
theorem elT : Try.prog.elem 22 = 32 := by kernel_rfl
theorem szT (w : World) : (sizeOf 32).run Try.prog w = .ok 3 w := by kernel_rfl
theorem isz : (Try.prog.info? 32).map (·.size) = some 3 := by kernel_rfl
def ZV : Value := .agg #[.string ⟨#[]⟩, .int .i64 0, .int .i64 0]
theorem infoO : (Try.prog.info? 32).map (fun i => (i.zero, i.size, i.bytes)) = some (some ZV, 3, 32) := by kernel_rfl
theorem info_o : ∃ i, Try.prog.info? 32 = some i ∧ i.zero = some ZV ∧ i.size = 3 ∧ i.bytes = 32 := by
  have h := infoO
  cases e : Try.prog.info? 32 with
  | none => rw [e] at h; cases h
  | some i => rw [e] at h; simp at h; exact ⟨i, rfl, h.1, h.2.1, h.2.2⟩
/-- a slice of operators that is known whole -/
def Rw (w : World) (a : Option Addr) (c : Nat) (l : List D) : Prop := w.ownsRow 0 32 3 (.slice a l.length c) l.length (flat l)
theorem addm (P o m : Nat) : (⟨P, o * 3, none⟩ : Addr).add (m * 3) = ⟨P, (o + m) * 3, none⟩ := by
  unfold Addr.add
  split
  · rename_i h; simp only [Addr.mk.injEq, and_true, true_and]; omega
  · simp only [Addr.mk.injEq, and_true, true_and]; omega
section
variable {w w' : World} {p : Nat} {F G : Nat → Prop} {l : List D} {a : Option Addr} {c : Nat}
theorem Rw.caps (h : Rw w a c l) : l.length ≤ c ∧ c ≤ maxLen := by
  rcases h.2 with ⟨e, h0⟩ | ⟨g, cap, cur, hv, hg0, hgc, h1, h2, h3, h4⟩
  · injection e with e1 e2 e3; subst e3; exact ⟨by omega, by simp [maxLen]⟩
  · injection hv with e1 e2 e3; subst e3; exact ⟨h1, h2⟩
theorem Rw.of_block (h : Rw w a c l) (hb : ∀ k, (Value.slice a l.length c).ownBlock = some k → w'.heap[k]? = w.heap[k]?) : Rw w' a c l := by
  obtain ⟨hl, hr⟩ := h
  refine ⟨hl, ?_⟩
  rcases hr with hr | ⟨g, cap, cur, e, hg0, hg, r⟩
  · exact Or.inl hr
  · exact Or.inr ⟨g, cap, cur, e, hg0, (hb g (by rw [e]; rfl)).trans hg, r⟩
theorem Rw.below (h : Rw w a c l) (hb : Below w.heap.size w w') : Rw w' a c l := h.of_block fun k e => hb.block k (World.ownsRow.lt h k e).2
/-- a place of the row -/
theorem Rw.look (h : Rw w a c l) {m : Nat} (hm : m < l.length) : ∃ P, a = some ⟨P, 0, none⟩ ∧ P < w.heap.size ∧ w.cell? ⟨P, m * 3, none⟩ = some (.string ⟨l[m].n.toArray⟩) ∧ w.cell? ⟨P, m * 3 + 1, none⟩ = some (.int .i64 l[m].k) ∧ w.cell? ⟨P, m * 3 + 2, none⟩ = some (.int .i64 l[m].p) ∧
    (∀ o, w.frozen? ⟨P, o, none⟩ = false) ∧ ∀ w', (Instr.indexAt 22 (.slice a l.length c) (.int .i64 (m : Int))).run Try.prog w' = .ok (.pointer (some ⟨P, m * 3, none⟩)) w' := by
  have hc := h.caps
  have ho := h
  rcases h.2 with ⟨_, e0⟩ | ⟨g, cap, cur, hv, _, hg, h1, _⟩
  · omega
  injection hv with e1 e2 e3
  subst e1; subst e3
  have f := fun j (hj : j < 3) => flat_at hm [] hj
  simp only [List.append_nil] at f
  refine ⟨g, rfl, (Array.getElem?_eq_some_iff.1 hg).1, ?_, ?_, ?_, fun o => World.ownsRow.frozenAt ho o, fun w' => ?_⟩
  · rw [World.ownsRow.cellAt ho (m * 3) (by omega)]; exact f 0 (by omega)
  · rw [World.ownsRow.cellAt ho (m * 3 + 1) (by omega), f 1 (by omega)]; rfl
  · rw [World.ownsRow.cellAt ho (m * 3 + 2) (by omega), f 2 (by omega)]; rfl
  · rw [run_indexAt_slice w' 22 _ _ _ _ _ (by rw [elT]; exact Try.underlying22), if_pos ⟨by omega, by omega⟩, elT, szT]
    have := addm g 0 m
    rw [Nat.zero_mul, Nat.zero_add] at this
    simp [Result.andThen, this]
/-- The table at block p: its operators l; F: its own blocks. -/
structure Tb (w : World) (p : Nat) (F : Nat → Prop) (l : List D) : Prop where
  ex : ∃ a c, w.heap[p]? = some (.cells #[.slice a l.length c] 48 (0, 0)) ∧ Rw w a c l ∧ (Value.slice a l.length c).ownBlock ≠ some p ∧ (∀ k, F k ↔ k = p ∨ (Value.slice a l.length c).ownBlock = some k)
theorem Tb.lt (h : Tb w p F l) : ∀ k, F k → k < w.heap.size := by
  obtain ⟨a, c, hp, hr, _, hF⟩ := h.ex
  intro k hk
  rcases (hF k).1 hk with rfl | e
  · exact (Array.getElem?_eq_some_iff.1 hp).1
  · exact (World.ownsRow.lt hr k e).2
theorem Tb.mine (h : Tb w p F l) : F p := by
  obtain ⟨a, c, hp, hr, _, hF⟩ := h.ex
  exact (hF p).2 (Or.inl rfl)
theorem Tb.keep (h : Tb w p F l) (hk : Keep G w w') (hd : ∀ k, F k → ¬ G k) : Tb w' p F l := by
  have hlt := h.lt
  obtain ⟨a, c, hp, hr, h1, hF⟩ := h.ex
  have hb : ∀ k, F k → w'.heap[k]? = w.heap[k]? := fun k f => hk.block k (hlt k f) (hd k f)
  exact ⟨a, c, (hb p ((hF p).2 (Or.inl rfl))).trans hp, hr.of_block fun k e => hb k ((hF k).2 (Or.inr e)), h1, hF⟩
theorem Tb.below (h : Tb w p F l) (hb : Below w.heap.size w w') : Tb w' p F l := h.keep (G := fun _ => False) (Keep.of_below hb) (fun _ _ => id)
/-- The same table, other operators: its blocks are those that it had, and new ones. -/
def Next (w : World) (p : Nat) (F : Nat → Prop) (l : List D) (w' : World) : Prop := ∃ F', Tb w' p F' l ∧ Keep F w w' ∧ ∀ k, F' k → F k ∨ w.heap.size ≤ k
def Made (w : World) (l : List D) (p : Nat) (w' : World) : Prop := ∃ F, Tb w' p F l ∧ Below w.heap.size w w' ∧ ∀ k, F k → w.heap.size ≤ k
theorem Next.same (h : Tb w p F l) : Next w p F l w := ⟨F, h, Keep.refl _ _, fun _ => Or.inl⟩
theorem Next.below {a b : World} (h : Tb a p F l) (hb : Below a.heap.size a b) : Next a p F l b := ⟨F, h.below hb, Keep.of_below hb, fun _ => Or.inl⟩
theorem Next.trans {a b c : World} {F' : Nat → Prop} (k : Keep F a b) (hs : ∀ i, F' i → F i ∨ a.heap.size ≤ i) (n : Next b p F' l c) : Next a p F l c := by
  obtain ⟨G, t, k2, h2⟩ := n
  refine ⟨G, t, k.trans k2 (fun i hi => hs i hi), fun i hi => ?_⟩
  rcases h2 i hi with h | h
  · exact hs i h
  · exact Or.inr (Nat.le_trans k.size h)
theorem one_cell {v : Value} {t : TypeId} (h : w.heap[p]? = some (.cells #[v] t (0, 0))) :
    w.cell? ⟨p, 0, none⟩ = some v ∧ w.frozen? ⟨p, 0, none⟩ = false := by
  refine ⟨?_, ?_⟩ <;> simp [World.cell?, World.frozen?, h]
/-- what a walk may know of a table -/
theorem Tb.open_ (h : Tb w p F l) : ∃ a c, w.cell? ⟨p, 0, none⟩ = some (.slice a l.length c) ∧ w.frozen? ⟨p, 0, none⟩ = false ∧ Rw w a c l := by
  obtain ⟨a, c, hp, hr, _, _⟩ := h.ex
  exact ⟨a, c, (one_cell hp).1, (one_cell hp).2, hr⟩
/-- three cells stored -/
def set3 (w : World) (P o : Nat) (d : D) : World := ((w.setCell ⟨P, o, none⟩ (.string ⟨d.n.toArray⟩)).setCell ⟨P, o + 1, none⟩ (.int .i64 d.k)).setCell ⟨P, o + 2, none⟩ (.int .i64 d.p)
theorem set3_keep (w : World) (P o : Nat) (d : D) : Keep (fun k => k = P) w (set3 w P o d) :=
  ((Keep.setCell (F := fun k => k = P) w (p := ⟨P, o, none⟩) rfl _).trans (Keep.setCell (F := fun k => k = P) _ (p := ⟨P, o + 1, none⟩) rfl _) fun _ => Or.inl).trans (Keep.setCell (F := fun k => k = P) _ (p := ⟨P, o + 2, none⟩) rfl _) fun _ => Or.inl
/-- one operator of the table set -/
theorem Next.set_ (h : Tb w p F l) {m : Nat} (hm : m < l.length) {P c : Nat} (hg : w.cell? ⟨p, 0, none⟩ = some (.slice (some ⟨P, 0, none⟩) l.length c)) (d : D) :
    Next w p F (l.set m d) (set3 w P (m * 3) d) := by
  obtain ⟨a, c', hp, hr, h1, hF⟩ := h.ex
  rw [(one_cell hp).1] at hg
  injection hg with hg
  injection hg with e1 e2 e3
  subst e1; subst e3
  have hk := set3_keep w P (m * 3) d
  have hPp : P ≠ p := fun e => h1 (by rw [e]; rfl)
  have s1 := (World.ownsRow.stored hr (m * 3) (.string ⟨d.n.toArray⟩)).1
  have s2 := (World.ownsRow.stored s1 (m * 3 + 1) (.int .i64 d.k)).1
  have s3 := (World.ownsRow.stored s2 (m * 3 + 2) (.int .i64 d.p)).1
  rw [flat_set hm d] at s3
  refine ⟨F, ⟨some ⟨P, 0, none⟩, c', ?_, ?_, by rw [List.length_set]; exact h1, by rw [List.length_set]; exact hF⟩, hk.mono fun k e => (hF k).2 (Or.inr (by rw [e]; rfl)), fun _ => Or.inl⟩
  · rw [List.length_set]; exact (hk.block p (Array.getElem?_eq_some_iff.1 hp).1 (fun e => hPp e.symm)).trans hp
  · unfold Rw; rw [List.length_set]; exact s3
/-- another slice stored -/
theorem Next.put {w1 : World} {l' : List D} {a' : Option Addr} {c' : Nat} (h : Tb w p F l) (hg : w.cell? ⟨p, 0, none⟩ = some (.slice a l.length c)) (k1 : Keep (fun k => (Value.slice a l.length c).ownBlock = some k) w w1)
    (hr : Rw w1 a' c' l') (hat : ∀ k, (Value.slice a' l'.length c').ownBlock = some k → (Value.slice a l.length c).ownBlock = some k ∨ w.heap.size ≤ k) :
    Next w p F l' (w1.setCell ⟨p, 0, none⟩ (.slice a' l'.length c')) := by
  have hpl := h.lt p h.mine
  obtain ⟨a0, c0, hp, hr0, h1, hF⟩ := h.ex
  rw [(one_cell hp).1] at hg
  injection hg with hg
  injection hg with e1 e2 e3
  subst e1; subst e3
  have p1 : w1.heap[p]? = some (.cells #[.slice a0 l.length c0] 48 (0, 0)) := (k1.block p hpl h1).trans hp
  have hne : (Value.slice a' l'.length c').ownBlock ≠ some p := fun e => by
    rcases hat p e with e | e
    · exact h1 e
    · omega
  refine ⟨fun k => k = p ∨ (Value.slice a' l'.length c').ownBlock = some k, ⟨a', c', ?_, ?_, hne, fun _ => Iff.rfl⟩, ?_, ?_⟩
  · simp only [World.setCell, Array.getElem?_modify, p1]; simp
  · exact ownsRow_setCell_other hr hne _
  · exact (k1.mono fun k e => (hF k).2 (Or.inr e)).trans (Keep.setCell (F := F) w1 (p := ⟨p, 0, none⟩) ((hF p).2 (Or.inl rfl)) _) fun _ => Or.inl
  · rintro k (rfl | e)
    · exact Or.inl ((hF _).2 (Or.inl rfl))
    · rcases hat k e with e | e
      · exact Or.inl ((hF k).2 (Or.inr e))
      · exact Or.inr e
theorem drewN_below (w : World) (n : Nat) : Below w.heap.size w (w.drewN n) := by
  induction n with
  | zero => exact Below.refl _ _
  | succ n ih => exact ih.drew
/-- a table of the call's own: made behind W -/
def Own (W : World) (p : Nat) (l : List D) (w : World) : Prop := ∃ F, Tb w p F l ∧ Below W.heap.size W w ∧ ∀ j, F j → W.heap.size ≤ j
theorem Own.step {W : World} {l' : List D} (b : Below W.heap.size W w) (f : ∀ j, F j → W.heap.size ≤ j) (n : Next w p F l' w') : Own W p l' w' := by
  obtain ⟨G, t, k, s⟩ := n
  exact ⟨G, t, b.trans (k.to_below f b.size), fun j hj => (s j hj).elim (f j) (Nat.le_trans b.size)⟩
theorem Own.below {W : World} (o : Own W p l w) (b : Below w.heap.size w w') : Own W p l w' := by
  obtain ⟨F, h, b0, f⟩ := o
  exact ⟨F, h.below b, b0.trans (b.mono b0.size), f⟩
theorem Own.made {W : World} (b : Below W.heap.size W w) (h : Made w l p w') : Own W p l w' := by
  obtain ⟨F, h, b1, f⟩ := h
  exact ⟨F, h, b.trans (b1.mono b.size), fun j hj => Nat.le_trans b.size (f j hj)⟩
end
end Go.Proofs.Ytnpdipmkikakcaa.opb
