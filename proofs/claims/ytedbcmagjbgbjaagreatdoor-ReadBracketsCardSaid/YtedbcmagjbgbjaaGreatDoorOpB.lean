/- Rows of operators in memory, tables. Package ops: place, compare, isOp, find; slices.BinarySearchFunc. slices.BinarySearchFunc; (*Table).find. (*Table).get, Prefix, Infix. -/
import Derived.Test.YtedbcmagjbgbjaaGreatDoorOpA
import Derived.Test.YtedbcmagjbgbjaaGreatDoorKeep
import Derived.Laws.OwnMore
import Derived.OneCell
import Derived.Deep.Draws
import Derived.KernelRfl
import Derived.Test.YtedbcmagjbgbjaaGreatDoorShelf
import Derived.StillTailTactics
import Derived.Deep.LoopGhost
import Derived.Deep.RegionHeld3
import Derived.Deep.QuietTactic
import Derived.BigQuiet
namespace Go.Proofs.YtedbcmagjbgbjaaGreatDoor.opb
open Go.ChangeShapes Go.WideShapes Go.ChangeAt Go.RowKit
open Go.Proofs.YtedbcmagjbgbjaaGreatDoor.kp Go.Proofs.YtedbcmagjbgbjaaGreatDoor.opa
set_option linter.unusedVariables false
def _root_.Go.Proofs.YtedbcmagjbgbjaaGreatDoor.opa.D.cs (d : D) : List Value := [.string ⟨d.n.toArray⟩, .int .i64 d.k, .int .i64 d.p]
def _root_.Go.Proofs.YtedbcmagjbgbjaaGreatDoor.opa.D.v (d : D) : Value := .agg #[.string ⟨d.n.toArray⟩, .int .i64 d.k, .int .i64 d.p]
def flat (A : List D) : List Value := A.flatMap D.cs
theorem flat_nil : flat [] = [] := rfl
theorem flat_cons (e : D) (A : List D) : flat (e :: A) = e.cs ++ flat A := by simp [flat]
theorem flat_append (A B : List D) : flat (A ++ B) = flat A ++ flat B := by simp [flat]
theorem flat_len (A : List D) : (flat A).length = A.length * 3 := by
  induction A with
  | nil => rfl
  | cons e A ih => rw [flat_cons, List.length_append, ih, List.length_cons]; simp [D.cs]; omega
theorem flat_take (A : List D) : ∀ n, (flat A).take (n * 3) = flat (A.take n) := by
  induction A with
  | nil => intro n; simp [flat]
  | cons e A ih =>
    intro n
    cases n with
    | zero => simp [flat]
    | succ n =>
      rw [List.take_succ_cons, flat_cons, flat_cons, ← ih n, List.take_append, show (n + 1) * 3 - e.cs.length = n * 3 by simp [D.cs]; omega, List.take_of_length_le (by simp [D.cs]; omega)]
theorem flat_drop (A : List D) : ∀ n, (flat A).drop (n * 3) = flat (A.drop n) := by
  induction A with
  | nil => intro n; simp [flat]
  | cons e A ih =>
    intro n
    cases n with
    | zero => simp [flat]
    | succ n =>
      rw [List.drop_succ_cons, flat_cons, ← ih n, List.drop_append, show (n + 1) * 3 - e.cs.length = n * 3 by simp [D.cs]; omega, List.drop_of_length_le (by simp [D.cs]; omega), List.nil_append]
theorem flat_at {A : List D} {m : Nat} (h : m < A.length) (sp : List Value) {j : Nat} (hj : j < 3) : (flat A ++ sp)[m * 3 + j]? = A[m].cs[j]? := by
  have e : A = A.take m ++ (A[m] :: A.drop (m + 1)) := by rw [List.getElem_cons_drop, List.take_append_drop]
  have hl : (flat (A.take m)).length = m * 3 := by rw [flat_len, List.length_take, Nat.min_eq_left (by omega)]
  conv => lhs; rw [e]
  rw [flat_append, flat_cons, List.append_assoc, List.getElem?_append_right (by rw [hl]; omega), hl, Nat.add_sub_cancel_left, List.append_assoc, List.getElem?_append_left (by simp [D.cs]; omega)]
theorem flat_one (A : List D) : ∀ v ∈ flat A, v.oneCell' = true := by
  intro v hv
  obtain ⟨e, he, hv⟩ := List.mem_flatMap.1 hv
  simp only [D.cs, List.mem_cons, List.not_mem_nil, or_false] at hv
  rcases hv with rfl | rfl | rfl <;> rfl
theorem flat_set {A : List D} {m : Nat} (h : m < A.length) (e : D) :
    (((flat A).set (m * 3) (.string ⟨e.n.toArray⟩)).set (m * 3 + 1) (.int .i64 e.k)).set (m * 3 + 2) (.int .i64 e.p) = flat (A.set m e) := by
  have hA : A = A.take m ++ (A[m] :: A.drop (m + 1)) := by rw [List.getElem_cons_drop, List.take_append_drop]
  have hl : (flat (A.take m)).length = m * 3 := by rw [flat_len, List.length_take, Nat.min_eq_left (by omega)]
  have h1 : A.set m e = A.take m ++ (e :: A.drop (m + 1)) := List.set_eq_take_append_cons_drop.trans (if_pos h)
  rw [h1]
  obtain ⟨L, hL⟩ : ∃ L, L = A.take m := ⟨_, rfl⟩
  obtain ⟨R, hR⟩ : ∃ R, R = A.drop (m + 1) := ⟨_, rfl⟩
  obtain ⟨x, hx⟩ : ∃ x, x = A[m] := ⟨_, rfl⟩
  rw [← hL, ← hR, ← hx] at hA
  rw [← hL] at hl
  rw [← hL, ← hR, hA]
  simp only [flat_append, flat_cons, D.cs]
  rw [← hl]
  have s : ∀ (j : Nat) (Y : List Value) (v : Value), (flat L ++ Y).set ((flat L).length + j) v = flat L ++ Y.set j v := fun j Y v => by rw [List.set_append_right _ _ (by omega), Nat.add_sub_cancel_left]
  have s0 : ∀ (Y : List Value) (v : Value), (flat L ++ Y).set ((flat L).length) v = flat L ++ Y.set 0 v := fun Y v => s 0 Y v
  simp only [s, s0]
  rfl
theorem elT : Tryz.prog.elem 62 = 45 := by kernel_rfl
theorem szT (w : World) : (sizeOf 45).run Tryz.prog w = .ok 3 w := by kernel_rfl
theorem isz : (Tryz.prog.info? 45).map (·.size) = some 3 := by kernel_rfl
def ZV : Value := .agg #[.string ⟨#[]⟩, .int .i64 0, .int .i64 0]
theorem infoO : (Tryz.prog.info? 45).map (fun i => (i.zero, i.size, i.bytes)) = some (some ZV, 3, 32) := by kernel_rfl
theorem info_o : ∃ i, Tryz.prog.info? 45 = some i ∧ i.zero = some ZV ∧ i.size = 3 ∧ i.bytes = 32 := by
  have h := infoO
  cases e : Tryz.prog.info? 45 with
  | none => rw [e] at h; cases h
  | some i => rw [e] at h; simp at h; exact ⟨i, rfl, h.1, h.2.1, h.2.2⟩
/-- a slice of operators that is known whole -/
def Rw (w : World) (a : Option Addr) (c : Nat) (l : List D) : Prop := w.ownsRow 0 45 3 (.slice a l.length c) l.length (flat l)
theorem addm (P o m : Nat) : (⟨P, o * 3, none⟩ : Addr).add (m * 3) = ⟨P, (o + m) * 3, none⟩ := by
  unfold Addr.add
  split
  · rename_i h; simp only [Addr.mk.injEq, and_true, true_and]; omega
  · simp only [Addr.mk.injEq, and_true, true_and]; omega
section
variable {w w' : World} {p : Nat} {F G : Nat → Prop} {l : List D} {a : Option Addr} {c : Nat}
theorem Rw.caps (h : Rw w a c l) : l.length ≤ c ∧ c ≤ maxLen := by
  rcases h.2 with ⟨e, h0⟩ | ⟨g, cap, cur, hv, hg0, hgc, h1, h2, h3, h4⟩
  · injection e with e1 e2 e3; subst e3; exact ⟨by omega, by simp [maxLen]⟩
  · injection hv with e1 e2 e3; subst e3; exact ⟨h1, h2⟩
theorem Rw.of_block (h : Rw w a c l) (hb : ∀ k, (Value.slice a l.length c).ownBlock = some k → w'.heap[k]? = w.heap[k]?) : Rw w' a c l := by
  obtain ⟨hl, hr⟩ := h
  refine ⟨hl, ?_⟩
  rcases hr with hr | ⟨g, cap, cur, e, hg0, hg, r⟩
  · exact Or.inl hr
  · exact Or.inr ⟨g, cap, cur, e, hg0, (hb g (by rw [e]; rfl)).trans hg, r⟩
theorem Rw.below (h : Rw w a c l) (hb : Below w.heap.size w w') : Rw w' a c l := h.of_block fun k e => hb.block k (World.ownsRow.lt h k e).2
/-- a place of the row -/
theorem Rw.look (h : Rw w a c l) {m : Nat} (hm : m < l.length) : ∃ P, a = some ⟨P, 0, none⟩ ∧ P < w.heap.size ∧ w.cell? ⟨P, m * 3, none⟩ = some (.string ⟨l[m].n.toArray⟩) ∧ w.cell? ⟨P, m * 3 + 1, none⟩ = some (.int .i64 l[m].k) ∧ w.cell? ⟨P, m * 3 + 2, none⟩ = some (.int .i64 l[m].p) ∧
    (∀ o, w.frozen? ⟨P, o, none⟩ = false) ∧ ∀ w', (Instr.indexAt 62 (.slice a l.length c) (.int .i64 (m : Int))).run Tryz.prog w' = .ok (.pointer (some ⟨P, m * 3, none⟩)) w' := by
  have hc := h.caps
  have ho := h
  rcases h.2 with ⟨_, e0⟩ | ⟨g, cap, cur, hv, _, hg, h1, _⟩
  · omega
  injection hv with e1 e2 e3
  subst e1; subst e3
  have f := fun j (hj : j < 3) => flat_at hm [] hj
  simp only [List.append_nil] at f
  refine ⟨g, rfl, (Array.getElem?_eq_some_iff.1 hg).1, ?_, ?_, ?_, fun o => World.ownsRow.frozenAt ho o, fun w' => ?_⟩
  · rw [World.ownsRow.cellAt ho (m * 3) (by omega)]; exact f 0 (by omega)
  · rw [World.ownsRow.cellAt ho (m * 3 + 1) (by omega), f 1 (by omega)]; rfl
  · rw [World.ownsRow.cellAt ho (m * 3 + 2) (by omega), f 2 (by omega)]; rfl
  · rw [run_indexAt_slice w' 62 _ _ _ _ _ (by rw [elT]; exact Tryz.underlying62), if_pos ⟨by omega, by omega⟩, elT, szT]
    have := addm g 0 m
    rw [Nat.zero_mul, Nat.zero_add] at this
    simp [Result.andThen, this]
/-- The table at block p: its operators l; F: its own blocks. -/
structure Tb (w : World) (p : Nat) (F : Nat → Prop) (l : List D) : Prop where
  ex : ∃ a c, w.heap[p]? = some (.cells #[.slice a l.length c] 78 (0, 0)) ∧ Rw w a c l ∧ (Value.slice a l.length c).ownBlock ≠ some p ∧ (∀ k, F k ↔ k = p ∨ (Value.slice a l.length c).ownBlock = some k)
theorem Tb.lt (h : Tb w p F l) : ∀ k, F k → k < w.heap.size := by
  obtain ⟨a, c, hp, hr, _, hF⟩ := h.ex
  intro k hk
  rcases (hF k).1 hk with rfl | e
  · exact (Array.getElem?_eq_some_iff.1 hp).1
  · exact (World.ownsRow.lt hr k e).2
theorem Tb.mine (h : Tb w p F l) : F p := by
  obtain ⟨a, c, hp, hr, _, hF⟩ := h.ex
  exact (hF p).2 (Or.inl rfl)
theorem Tb.keep (h : Tb w p F l) (hk : Keep G w w') (hd : ∀ k, F k → ¬ G k) : Tb w' p F l := by
  have hlt := h.lt
  obtain ⟨a, c, hp, hr, h1, hF⟩ := h.ex
  have hb : ∀ k, F k → w'.heap[k]? = w.heap[k]? := fun k f => hk.block k (hlt k f) (hd k f)
  exact ⟨a, c, (hb p ((hF p).2 (Or.inl rfl))).trans hp, hr.of_block fun k e => hb k ((hF k).2 (Or.inr e)), h1, hF⟩
theorem Tb.below (h : Tb w p F l) (hb : Below w.heap.size w w') : Tb w' p F l := h.keep (G := fun _ => False) (Keep.of_below hb) (fun _ _ => id)
/-- The same table, other operators: its blocks are those that it had, and new ones. -/
def Next (w : World) (p : Nat) (F : Nat → Prop) (l : List D) (w' : World) : Prop := ∃ F', Tb w' p F' l ∧ Keep F w w' ∧ ∀ k, F' k → F k ∨ w.heap.size ≤ k
def Made (w : World) (l : List D) (p : Nat) (w' : World) : Prop := ∃ F, Tb w' p F l ∧ Below w.heap.size w w' ∧ ∀ k, F k → w.heap.size ≤ k
theorem Next.same (h : Tb w p F l) : Next w p F l w := ⟨F, h, Keep.refl _ _, fun _ => Or.inl⟩
theorem Next.below {a b : World} (h : Tb a p F l) (hb : Below a.heap.size a b) : Next a p F l b := ⟨F, h.below hb, Keep.of_below hb, fun _ => Or.inl⟩
theorem Next.trans {a b c : World} {F' : Nat → Prop} (k : Keep F a b) (hs : ∀ i, F' i → F i ∨ a.heap.size ≤ i) (n : Next b p F' l c) : Next a p F l c := by
  obtain ⟨G, t, k2, h2⟩ := n
  refine ⟨G, t, k.trans k2 (fun i hi => hs i hi), fun i hi => ?_⟩
  rcases h2 i hi with h | h
  · exact hs i h
  · exact Or.inr (Nat.le_trans k.size h)
theorem one_cell {v : Value} {t : TypeId} (h : w.heap[p]? = some (.cells #[v] t (0, 0))) :
    w.cell? ⟨p, 0, none⟩ = some v ∧ w.frozen? ⟨p, 0, none⟩ = false := by
  refine ⟨?_, ?_⟩ <;> simp [World.cell?, World.frozen?, h]
/-- what a walk may know of a table -/
theorem Tb.open_ (h : Tb w p F l) : ∃ a c, w.cell? ⟨p, 0, none⟩ = some (.slice a l.length c) ∧ w.frozen? ⟨p, 0, none⟩ = false ∧ Rw w a c l := by
  obtain ⟨a, c, hp, hr, _, _⟩ := h.ex
  exact ⟨a, c, (one_cell hp).1, (one_cell hp).2, hr⟩
/-- three cells stored -/
def set3 (w : World) (P o : Nat) (d : D) : World := ((w.setCell ⟨P, o, none⟩ (.string ⟨d.n.toArray⟩)).setCell ⟨P, o + 1, none⟩ (.int .i64 d.k)).setCell ⟨P, o + 2, none⟩ (.int .i64 d.p)
theorem set3_keep (w : World) (P o : Nat) (d : D) : Keep (fun k => k = P) w (set3 w P o d) :=
  ((Keep.setCell (F := fun k => k = P) w (p := ⟨P, o, none⟩) rfl _).trans (Keep.setCell (F := fun k => k = P) _ (p := ⟨P, o + 1, none⟩) rfl _) fun _ => Or.inl).trans (Keep.setCell (F := fun k => k = P) _ (p := ⟨P, o + 2, none⟩) rfl _) fun _ => Or.inl
/-- one operator of the table set -/
theorem Next.set_ (h : Tb w p F l) {m : Nat} (hm : m < l.length) {P c : Nat} (hg : w.cell? ⟨p, 0, none⟩ = some (.slice (some ⟨P, 0, none⟩) l.length c)) (d : D) :
    Next w p F (l.set m d) (set3 w P (m * 3) d) := by
  obtain ⟨a, c', hp, hr, h1, hF⟩ := h.ex
  rw [(one_cell hp).1] at hg
  injection hg with hg
  injection hg with e1 e2 e3
  subst e1; subst e3
  have hk := set3_keep w P (m * 3) d
  have hPp : P ≠ p := fun e => h1 (by rw [e]; rfl)
  have s1 := (World.ownsRow.stored hr (m * 3) (.string ⟨d.n.toArray⟩)).1
  have s2 := (World.ownsRow.stored s1 (m * 3 + 1) (.int .i64 d.k)).1
  have s3 := (World.ownsRow.stored s2 (m * 3 + 2) (.int .i64 d.p)).1
  rw [flat_set hm d] at s3
  refine ⟨F, ⟨some ⟨P, 0, none⟩, c', ?_, ?_, by rw [List.length_set]; exact h1, by rw [List.length_set]; exact hF⟩, hk.mono fun k e => (hF k).2 (Or.inr (by rw [e]; rfl)), fun _ => Or.inl⟩
  · rw [List.length_set]; exact (hk.block p (Array.getElem?_eq_some_iff.1 hp).1 (fun e => hPp e.symm)).trans hp
  · unfold Rw; rw [List.length_set]; exact s3
/-- another slice stored -/
theorem Next.put {w1 : World} {l' : List D} {a' : Option Addr} {c' : Nat} (h : Tb w p F l) (hg : w.cell? ⟨p, 0, none⟩ = some (.slice a l.length c)) (k1 : Keep (fun k => (Value.slice a l.length c).ownBlock = some k) w w1)
    (hr : Rw w1 a' c' l') (hat : ∀ k, (Value.slice a' l'.length c').ownBlock = some k → (Value.slice a l.length c).ownBlock = some k ∨ w.heap.size ≤ k) :
    Next w p F l' (w1.setCell ⟨p, 0, none⟩ (.slice a' l'.length c')) := by
  have hpl := h.lt p h.mine
  obtain ⟨a0, c0, hp, hr0, h1, hF⟩ := h.ex
  rw [(one_cell hp).1] at hg
  injection hg with hg
  injection hg with e1 e2 e3
  subst e1; subst e3
  have p1 : w1.heap[p]? = some (.cells #[.slice a0 l.length c0] 78 (0, 0)) := (k1.block p hpl h1).trans hp
  have hne : (Value.slice a' l'.length c').ownBlock ≠ some p := fun e => by
    rcases hat p e with e | e
    · exact h1 e
    · omega
  refine ⟨fun k => k = p ∨ (Value.slice a' l'.length c').ownBlock = some k, ⟨a', c', ?_, ?_, hne, fun _ => Iff.rfl⟩, ?_, ?_⟩
  · simp only [World.setCell, Array.getElem?_modify, p1]; simp
  · exact ownsRow_setCell_other hr hne _
  · exact (k1.mono fun k e => (hF k).2 (Or.inr e)).trans (Keep.setCell (F := F) w1 (p := ⟨p, 0, none⟩) ((hF p).2 (Or.inl rfl)) _) fun _ => Or.inl
  · rintro k (rfl | e)
    · exact Or.inl ((hF _).2 (Or.inl rfl))
    · rcases hat k e with e | e
      · exact Or.inl ((hF k).2 (Or.inr e))
      · exact Or.inr e
theorem drewN_below (w : World) (n : Nat) : Below w.heap.size w (w.drewN n) := by
  induction n with
  | zero => exact Below.refl _ _
  | succ n ih => exact ih.drew
/-- a table of the call's own: made behind W -/
def Own (W : World) (p : Nat) (l : List D) (w : World) : Prop := ∃ F, Tb w p F l ∧ Below W.heap.size W w ∧ ∀ j, F j → W.heap.size ≤ j
theorem Own.step {W : World} {l' : List D} (b : Below W.heap.size W w) (f : ∀ j, F j → W.heap.size ≤ j) (n : Next w p F l' w') : Own W p l' w' := by
  obtain ⟨G, t, k, s⟩ := n
  exact ⟨G, t, b.trans (k.to_below f b.size), fun j hj => (s j hj).elim (f j) (Nat.le_trans b.size)⟩
theorem Own.below {W : World} (o : Own W p l w) (b : Below w.heap.size w w') : Own W p l w' := by
  obtain ⟨F, h, b0, f⟩ := o
  exact ⟨F, h.below b, b0.trans (b.mono b0.size), f⟩
theorem Own.made {W : World} (b : Below W.heap.size W w) (h : Made w l p w') : Own W p l w' := by
  obtain ⟨F, h, b1, f⟩ := h
  exact ⟨F, h, b.trans (b1.mono b.size), fun j hj => Nat.le_trans b.size (f j hj)⟩
end
end Go.Proofs.YtedbcmagjbgbjaaGreatDoor.opb
namespace Go.Proofs.YtedbcmagjbgbjaaGreatDoor.opc
open Go.ChangeShapes Go.WideShapes Go.ChangeAt Go.RowKit
open Go.Proofs.YtedbcmagjbgbjaaGreatDoor.kp Go.Proofs.YtedbcmagjbgbjaaGreatDoor.opa Go.Proofs.YtedbcmagjbgbjaaGreatDoor.opb
set_option linter.unusedVariables false
theorem rI {x y : Int} (h : x = y) : Ending.returned (.int .i64 x) = .returned (.int .i64 y) := by rw [h]
theorem place_any (k : Int) (w : World) : Calls Tryz.prog 110 #[.int .i64 k] w fun e w' => e = .returned (.int .i64 (pl k)) ∧ w = w' := by
  by_cases h : k = 4
  · subst h; go_enter Tryz.func110, Tryz.ntmps110; go_wp2; go_ret; exact ⟨rI (by decide), rfl⟩
  · have e1 : (k == 4) = false := by rw [beq_eq_false_iff_ne]; exact h
    by_cases g : k = 5
    · subst g; go_enter Tryz.func110, Tryz.ntmps110; go_wp2; go_ret; exact ⟨rI (by decide), rfl⟩
    · have e2 : (k == 5) = false := by rw [beq_eq_false_iff_ne]; exact g
      go_enter Tryz.func110, Tryz.ntmps110; go_wp2; go_ret; exact ⟨rI (by simp [pl, fr, h, g]), rfl⟩
theorem nan_int (x : Int) (w : World) : Calls Tryz.prog 150 #[.int .i64 x] w fun e w' => e = .returned (.bool false) ∧ w = w' := by
  have e1 : (x != x) = false := by simp
  go_enter Tryz.func150, Tryz.ntmps150; go_wp2; go_ret; exact ⟨rb (by simp), rfl⟩
theorem cw_lt {a b : Int} (h : a < b) : cw a b = -1 := by unfold cw; rw [if_pos h]
theorem cw_gt {a b : Int} (h : b < a) : cw a b = 1 := by unfold cw; rw [if_neg (by omega), if_pos h]
theorem cw_eq {a b : Int} (h : b ≤ a) (g : a ≤ b) : cw a b = 0 := by unfold cw; rw [if_neg (by omega), if_neg (by omega)]
theorem cmp_int (a b : Int) (w : World) : Calls Tryz.prog 109 #[.int .i64 a, .int .i64 b] w fun e w' => e = .returned (.int .i64 (cw a b)) ∧ w = w' := by
  go_enter Tryz.func109, Tryz.ntmps109
  go_wp2_with fail
  refine (nan_int _ _).mono ?_; rintro e w' ⟨rfl, rfl⟩
  go_wp2_with fail
  refine (nan_int _ _).mono ?_; rintro e w' ⟨rfl, rfl⟩
  by_cases h : a < b
  · go_wp2_with fail; go_ret; exact ⟨rI (cw_lt h).symm, rfl⟩
  · by_cases g : b < a
    · go_wp2_with fail; go_ret; exact ⟨rI (cw_gt g).symm, rfl⟩
    · go_wp2_with fail; go_ret; exact ⟨rI (cw_eq h g).symm, rfl⟩
def orI (x y : Int) : Int := if x = 0 then y else x
def ORel (x y : Int) (w : World) (g : Nat) (s8 : Value) (wr : World) : Prop := ∃ k : Nat, k ≤ 2 ∧ g = 2 - k ∧ s8 = .int .i64 k ∧ (0 < k → x = 0) ∧ (1 < k → y = 0) ∧ wr = w
/-- cmp.Or of two -/
theorem or_any (x y : Int) (P : Nat) (w : World) (h0 : w.cell? ⟨P, 0, none⟩ = some (.int .i64 x)) (h1 : w.cell? ⟨P, 1, none⟩ = some (.int .i64 y)) : Calls Tryz.prog 107 #[.slice (some ⟨P, 0, none⟩) 2 2] w fun e w' => e = .returned (.int .i64 (orI x y)) ∧ w = w' := by
  go_enter Tryz.func107, Tryz.ntmps107
  go_wp2_with fail
  go_loopg [8] 2 (ORel x y w)
  case atStart => exact ⟨0, by omega, by omega, rfl, by omega, by omega, rfl⟩
  case round =>
    obtain ⟨k, hk, rfl, rfl, hx, hy, rfl⟩ := hrel
    by_cases h : k = 0
    · subst h
      by_cases hz : x = 0
      · subst hz
        have i0 : ∀ w, (Instr.indexAt 177 (.slice (some ⟨P, 0, none⟩) 2 2) (.int .i64 0)).run Tryz.prog w = .ok (.pointer (some ⟨P, 0, none⟩)) w := fun w => by kernel_rfl
        go_wp2_with fail
        go_roundg 1
        case measure => omega
        case rel => exact ⟨1, by omega, by omega, by go_num, by simp, by omega, rfl⟩
      · have e : (x != 0) = true := by rw [bne_iff_ne]; exact hz
        have i0 : ∀ w, (Instr.indexAt 177 (.slice (some ⟨P, 0, none⟩) 2 2) (.int .i64 0)).run Tryz.prog w = .ok (.pointer (some ⟨P, 0, none⟩)) w := fun w => by kernel_rfl
        go_wp2_with fail
        go_ret
        exact ⟨rI (by simp [orI, hz]), rfl⟩
    · by_cases h2 : k = 1
      · subst h2
        by_cases hz : y = 0
        · subst hz
          have i0 : ∀ w, (Instr.indexAt 177 (.slice (some ⟨P, 0, none⟩) 2 2) (.int .i64 1)).run Tryz.prog w = .ok (.pointer (some ⟨P, 1, none⟩)) w := fun w => by kernel_rfl
          go_wp2_with fail
          go_roundg 0
          case measure => omega
          case rel => exact ⟨2, by omega, by omega, by go_num, fun _ => hx (by omega), by simp, rfl⟩
        · have e : (y != 0) = true := by rw [bne_iff_ne]; exact hz
          have hx0 := Lib.hid (hx (by omega))
          clear hx hy
          have i0 : ∀ w, (Instr.indexAt 177 (.slice (some ⟨P, 0, none⟩) 2 2) (.int .i64 1)).run Tryz.prog w = .ok (.pointer (some ⟨P, 1, none⟩)) w := fun w => by kernel_rfl
          go_wp2_with fail
          go_ret
          exact ⟨rI (by simp [orI, hx0.out]), rfl⟩
      · have : k = 2 := by omega
        subst this
        have hx0 := Lib.hid (And.intro (hx (by omega)) (hy (by omega)))
        clear hx hy
        go_wp2_with fail
        go_ret
        exact ⟨rI (by simp [orI, hx0.out.1, hx0.out.2]), rfl⟩
theorem scmp_any (a b : List UInt8) (w : World) : Calls Tryz.prog 108 #[.string ⟨a.toArray⟩, .string ⟨b.toArray⟩] w fun e w' => e = .returned (.int .i64 (cb a b)) ∧ w = w' := by
  refine (Tryz.strings_Compare _ _ w).mono ?_
  rintro e w' ⟨rfl, rfl⟩
  exact ⟨rfl, rfl⟩
/-- two boxes -/
structure T2 (w : World) (x y : D) (wN : World) : Prop where
  a : wN.heap[w.heap.size]? = some (.cells x.cs.toArray 45 (0, 0))
  b : wN.heap[w.heap.size + 1]? = some (.cells y.cs.toArray 45 (0, 0))
  bel : Below w.heap.size w wN
theorem T2.below {w : World} {x y : D} {w1 w2 : World} (h : T2 w x y w1) (hb : Below w1.heap.size w1 w2) : T2 w x y w2 :=
  ⟨(hb.block _ (Array.getElem?_eq_some_iff.1 h.a).1).trans h.a, (hb.block _ (Array.getElem?_eq_some_iff.1 h.b).1).trans h.b, h.bel.trans (hb.mono h.bel.size)⟩
theorem T2.mk' (w : World) (x y : D) : T2 w x y ((w.alloc (.cells x.cs.toArray 45)).alloc (.cells y.cs.toArray 45)) := by
  refine ⟨?_, ?_, bt (ba _ _) (ba _ _)⟩
  · exact ((ba (w.alloc (.cells x.cs.toArray 45)) _).block _ (by simp)).trans (alloc_at _ _)
  · have := alloc_at (w.alloc (.cells x.cs.toArray 45)) (.cells y.cs.toArray 45)
    rwa [alloc_size] at this
theorem T2.cells {w : World} {x y : D} {wN : World} (h : T2 w x y wN) : wN.cell? ⟨w.heap.size, 0, none⟩ = some (.string ⟨x.n.toArray⟩) ∧ wN.cell? ⟨w.heap.size, 1, none⟩ = some (.int .i64 x.k) ∧
    wN.cell? ⟨w.heap.size + 1, 0, none⟩ = some (.string ⟨y.n.toArray⟩) ∧ wN.cell? ⟨w.heap.size + 1, 1, none⟩ = some (.int .i64 y.k) := by
  refine ⟨?_, ?_, ?_, ?_⟩ <;> simp [World.cell?, h.a, h.b, D.cs]
set_option maxRecDepth 100000 in
set_option maxHeartbeats 4000000 in
theorem compare_any (x y : D) (w : World) : Calls Tryz.prog 69 #[x.v, y.v] w fun e w' => e = .returned (.int .i64 (cd x y)) ∧ Below w.heap.size w w' := by
  have hS0 := T2.mk' w x y
  obtain ⟨n, k, p⟩ := x
  obtain ⟨n', k', p'⟩ := y
  obtain ⟨e0, e1, e2, e3⟩ := hS0.cells
  simp only [D.cs, D.v] at hS0 e0 e1 e2 e3 ⊢
  go_enter Tryz.func69, Tryz.ntmps69
  go_wp2_with fail
  generalize hw0 : ((w.alloc (.cells #[.string ⟨n.toArray⟩, .int .i64 k, .int .i64 p] 45)).alloc (.cells #[.string ⟨n'.toArray⟩, .int .i64 k', .int .i64 p'] 45)) = w0 at e0 e1 e2 e3 ⊢
  have hS := Lib.hid hS0
  rw [hw0] at hS0
  clear hw0 hS
  go_region_held3 (fun w' => w'.cell? ⟨w.heap.size, 0, none⟩ = some (.string ⟨n.toArray⟩) ∧ w'.cell? ⟨w.heap.size, 1, none⟩ = some (.int .i64 k) ∧ w'.cell? ⟨w.heap.size + 1, 0, none⟩ = some (.string ⟨n'.toArray⟩) ∧ w'.cell? ⟨w.heap.size + 1, 1, none⟩ = some (.int .i64 k'))
    (first | (exact (T2.cells (by assumption))) | (exact T2.cells (T2.below (by assumption) (bdr _))) | (exact T2.cells (T2.below (by assumption) (ba _ _))) | go_keep)
    (first
      | (go_at_call 108; refine (scmp_any _ _ _).mono ?_; rintro e wN ⟨rfl, rfl⟩)
      | (go_at_call 110; refine (place_any _ _).mono ?_; rintro e wN ⟨rfl, rfl⟩)
      | (go_at_call 109; refine (cmp_int _ _ _).mono ?_; rintro e wN ⟨rfl, rfl⟩)
      | (go_at_call 107; refine (or_any _ _ _ _ (by exact kp.alloc_cell _ _ _ _ _ 0 rfl rfl) (by exact kp.alloc_cell _ _ _ _ _ 1 rfl rfl)).mono ?_; rintro e wN ⟨rfl, rfl⟩))
  have HB : Hid (Below w.heap.size w (w0.alloc (.cells #[.int .i64 (cb n n'), .int .i64 (cw (pl k) (pl k'))] 3)).drew) := Lib.hid (hS0.bel.trans (((ba w0 _).drew).mono hS0.bel.size))
  clear hS0 e0 e1 e2 e3
  go_wp2_with fail
  go_ret
  refine ⟨rI ?_, HB.out⟩
  unfold orI cd
  rfl
theorem tl_list (l : List UInt8) : (⟨l.toArray⟩ : ByteArray).toList = l := by rw [ByteArray.toList_eq]
theorem tl_beq (l m : List UInt8) : ((⟨l.toArray⟩ : ByteArray).toList == (⟨m.toArray⟩ : ByteArray).toList) = decide (l = m) := by rw [tl_list, tl_list]; by_cases h : l = m <;> simp [h]
set_option maxRecDepth 100000 in
set_option maxHeartbeats 4000000 in
theorem isOp_any (x : D) (w : World) : Calls Tryz.prog 46 #[x.v] w fun e w' => e = .returned (.bool (isOp x)) ∧ Below w.heap.size w w' := by
  obtain ⟨n, k, p⟩ := x
  simp only [D.v]
  have HB := Lib.hid (ba w (.cells #[.string ⟨n.toArray⟩, .int .i64 k, .int .i64 p] 45))
  have ex : Hid (isOp ⟨n, k, p⟩ = (!(decide (n = []) || decide (n = [44]) || decide (n = [124]) || decide (n = [91, 93])) && decide (1 ≤ k ∧ k ≤ 5 ∧ 0 ≤ p ∧ p ≤ 1200 ∧ n.length ≤ 200))) := Lib.hid rfl
  by_cases h0 : n = []
  · subst h0
    clear ex
    go_enter Tryz.func46, Tryz.ntmps46; go_wp2; go_ret; exact ⟨rb (by simp [isOp]), HB.out⟩
  by_cases h1 : n = [44]
  · subst h1
    clear ex h0
    go_enter Tryz.func46, Tryz.ntmps46; go_wp2; go_ret; exact ⟨rb (by simp [isOp]), HB.out⟩
  by_cases h2 : n = [124]
  · subst h2
    clear ex h0 h1
    go_enter Tryz.func46, Tryz.ntmps46; go_wp2; go_ret; exact ⟨rb (by simp [isOp]), HB.out⟩
  by_cases h3 : n = [91, 93]
  · subst h3
    clear ex h0 h1 h2
    go_enter Tryz.func46, Tryz.ntmps46; go_wp2; go_ret; exact ⟨rb (by simp [isOp]), HB.out⟩
  have he : n.isEmpty = false := by cases n <;> simp_all
  have t1 : (n == [44]) = false := by rw [beq_eq_false_iff_ne]; exact h1
  have t2 : (n == [124]) = false := by rw [beq_eq_false_iff_ne]; exact h2
  have t3 : (n == [91, 93]) = false := by rw [beq_eq_false_iff_ne]; exact h3
  have ev : Hid (isOp ⟨n, k, p⟩ = (decide (1 ≤ k) && (decide (k ≤ 5) && (decide (0 ≤ p) && (decide (p ≤ 1200) && decide (n.length ≤ 200)))))) := Lib.hid (by rw [ex.out]; simp [h0, h1, h2, h3])
  clear ex h0 h1 h2 h3
  by_cases q1 : 1 ≤ k
  · by_cases q2 : k ≤ 5
    · by_cases q3 : 0 ≤ p
      · by_cases q4 : p ≤ 1200
        · have e : Hid (isOp ⟨n, k, p⟩ = decide (n.length ≤ 200)) := Lib.hid (by rw [ev.out]; simp [q1, q2, q3, q4])
          clear ev
          by_cases q5 : n.length ≤ 200
          · have e' : Hid (isOp ⟨n, k, p⟩ = true) := Lib.hid (by rw [e.out]; simp [q5])
            clear e
            go_enter Tryz.func46, Tryz.ntmps46; go_wp2; go_ret; exact ⟨rb (by rw [e'.out]; simp; omega), HB.out⟩
          · have e' : Hid (isOp ⟨n, k, p⟩ = false) := Lib.hid (by rw [e.out]; simp [q5])
            clear e
            go_enter Tryz.func46, Tryz.ntmps46; go_wp2; go_ret; exact ⟨rb (by rw [e'.out]; simp; omega), HB.out⟩
        · have e : Hid (isOp ⟨n, k, p⟩ = false) := Lib.hid (by rw [ev.out]; simp [q4])
          clear ev
          go_enter Tryz.func46, Tryz.ntmps46; go_wp2; go_ret; exact ⟨rb (by rw [e.out]), HB.out⟩
      · have e : Hid (isOp ⟨n, k, p⟩ = false) := Lib.hid (by rw [ev.out]; simp [q3])
        clear ev
        go_enter Tryz.func46, Tryz.ntmps46; go_wp2; go_ret; exact ⟨rb (by rw [e.out]), HB.out⟩
    · have e : Hid (isOp ⟨n, k, p⟩ = false) := Lib.hid (by rw [ev.out]; simp [q2])
      clear ev
      go_enter Tryz.func46, Tryz.ntmps46; go_wp2; go_ret; exact ⟨rb (by rw [e.out]), HB.out⟩
  · have e : Hid (isOp ⟨n, k, p⟩ = false) := Lib.hid (by rw [ev.out]; simp [q1])
    clear ev
    go_enter Tryz.func46, Tryz.ntmps46; go_wp2; go_ret; exact ⟨rb (by rw [e.out]), HB.out⟩
end Go.Proofs.YtedbcmagjbgbjaaGreatDoor.opc
namespace Go.Proofs.YtedbcmagjbgbjaaGreatDoor.opd
open Go.ChangeShapes Go.WideShapes Go.ChangeAt Go.RowKit
open Go.Proofs.YtedbcmagjbgbjaaGreatDoor.kp Go.Proofs.YtedbcmagjbgbjaaGreatDoor.opa Go.Proofs.YtedbcmagjbgbjaaGreatDoor.opb Go.Proofs.YtedbcmagjbgbjaaGreatDoor.opc
set_option linter.unusedVariables false
/-- a row, and a box of one operator -/
structure RX (w : World) (a : Option Addr) (c : Nat) (l : List D) (o : D) (wN : World) : Prop where
  row : Rw wN a c l
  box : wN.heap[w.heap.size]? = some (.cells o.cs.toArray 45 (0, 0))
  bel : Below w.heap.size w wN
theorem RX.below {w : World} {a : Option Addr} {c : Nat} {l : List D} {o : D} {w1 w2 : World} (h : RX w a c l o w1) (hb : Below w1.heap.size w1 w2) : RX w a c l o w2 :=
  ⟨h.row.below hb, (hb.block _ (Array.getElem?_eq_some_iff.1 h.box).1).trans h.box, h.bel.trans (hb.mono h.bel.size)⟩
theorem RX.mk' {w : World} {a : Option Addr} {c : Nat} {l : List D} (h : Rw w a c l) (o : D) : RX w a c l o (w.alloc (.cells o.cs.toArray 45)) := ⟨h.below (ba _ _), alloc_at _ _, ba _ _⟩
theorem RX.cells {w : World} {a : Option Addr} {c : Nat} {l : List D} {o : D} {wN : World} (h : RX w a c l o wN) :
    wN.cell? ⟨w.heap.size, 0, none⟩ = some (.string ⟨o.n.toArray⟩) ∧ wN.cell? ⟨w.heap.size, 1, none⟩ = some (.int .i64 o.k) ∧ wN.cell? ⟨w.heap.size, 2, none⟩ = some (.int .i64 o.p) := by
  refine ⟨?_, ?_, ?_⟩ <;> simp [World.cell?, h.box, D.cs]
structure RXC (w : World) (P i : Nat) (n : List UInt8) (k p : Int) (x : D) (w' : World) : Prop where
  cells : w'.cell? ⟨P, i * 3, none⟩ = some (.string ⟨x.n.toArray⟩) ∧ w'.cell? ⟨P, i * 3 + 1, none⟩ = some (.int .i64 x.k) ∧ w'.cell? ⟨P, i * 3 + 2, none⟩ = some (.int .i64 x.p) ∧ w'.cell? ⟨w.heap.size, 0, none⟩ = some (.string ⟨n.toArray⟩) ∧ w'.cell? ⟨w.heap.size, 1, none⟩ = some (.int .i64 k) ∧ w'.cell? ⟨w.heap.size, 2, none⟩ = some (.int .i64 p)
  l1 : P < w'.heap.size
  l2 : w.heap.size < w'.heap.size
  bel : Below w.heap.size w w'
theorem RXC.below {w : World} {P i : Nat} {n : List UInt8} {k p : Int} {x : D} {w1 w2 : World} (h : RXC w P i n k p x w1) (hb : Below w1.heap.size w1 w2) : RXC w P i n k p x w2 := by
  have c := fun (b o : Nat) (hb' : b < w1.heap.size) => (Keep.of_below (F := fun _ => False) hb).cell (o := o) hb' id
  have s := hb.size
  exact ⟨by rw [c P _ h.l1, c P _ h.l1, c P _ h.l1, c _ _ h.l2, c _ _ h.l2, c _ _ h.l2]; exact h.cells, by have := h.l1; omega, by have := h.l2; omega, h.bel.trans (hb.mono h.bel.size)⟩
def BRel (w : World) (a : Option Addr) (c : Nat) (l : List D) (o : D) (g : Nat) (s9 s10 : Value) (wr : World) : Prop :=
  ∃ i j : Nat, i ≤ j ∧ j ≤ l.length ∧ g = j - i ∧ s9 = .int .i64 i ∧ s10 = .int .i64 j ∧ (∀ m (h : m < l.length), m < i → cd l[m] o < 0) ∧ (∀ m (h : m < l.length), j ≤ m → 0 ≤ cd l[m] o) ∧ RX w a c l o wr
theorem Srt.get {l : List D} (h : Srt l) {i j : Nat} (hi : i < l.length) (hj : j < l.length) (hij : i < j) : cd l[i] l[j] < 0 := List.pairwise_iff_getElem.1 h i j hi hj hij
set_option maxRecDepth 100000 in
set_option maxHeartbeats 8000000 in
theorem bsearch_any {l : List D} {a : Option Addr} {c : Nat} (o : D) (w : World) (hr : Rw w a c l) (hs : Srt l) (hl : l.length ≤ 1000) :
    Calls Tryz.prog 68 #[.slice a l.length c, o.v, .func (.func 69) #[] #[]] w fun e w' => e = .returned (.tuple #[.int .i64 (ix l o : Nat), .bool (is l o)]) ∧ Below w.heap.size w w' := by
  have hX := Lib.hid (RX.mk' hr o)
  have HS := Lib.hid hs
  clear hr hs
  obtain ⟨n, k, p⟩ := o
  simp only [D.v, D.cs] at hX ⊢
  go_enter Tryz.func68, Tryz.ntmps68
  go_wp2_with fail
  go_loopg [9, 10] l.length (BRel w a c l ⟨n, k, p⟩)
  case atStart => exact ⟨0, l.length, by omega, by omega, by omega, rfl, rfl, by omega, by omega, hX.out⟩
  case round =>
    obtain ⟨i, j, hij, hjl, rfl, rfl, rfl, h1, h2, hx⟩ := hrel
    by_cases hlt : i < j
    · obtain ⟨m, hm⟩ : ∃ m, m = (i + j) / 2 := ⟨_, rfl⟩
      have him : i ≤ m := by omega
      have hmj : m < j := by omega
      have HM := Lib.hid hm
      clear hm
      have hml : m < l.length := by omega
      obtain ⟨P, rfl, hP, e0, e1, e2, hf, hix⟩ := hx.row.look (m := m) hml
      obtain ⟨f0, f1, f2⟩ := hx.cells
      have HH := Lib.hid (And.intro h1 (And.intro h2 hx))
      clear h1 h2 hx hf
      go_wp2_with fail
      have hc : ((i : Int) + j) / 2 = (m : Int) := by have := HM.out; omega
      rw [hc]
      clear hc
      go_still_tail 6, (by kernel_rfl)
      change wpList _ _ _ _ _ wr.drew
      obtain ⟨wd, hwd⟩ : ∃ wd, wd = wr.drew := ⟨_, rfl⟩
      have HD := Lib.hid (show Below wr.heap.size wr wd by rw [hwd]; exact bdr wr)
      rw [← hwd]
      clear hwd e0 e1 e2 f0 f1 f2 hix
      go_wp2_with fail
      refine (compare_any l[m] ⟨n, k, p⟩ _).mono ?_
      rintro e w4 ⟨rfl, hb4⟩
      have HX4 := Lib.hid (HH.out.2.2.below (bt HD.out hb4))
      clear hb4
      by_cases hz : cd l[m] ⟨n, k, p⟩ < 0
      · have HZ := Lib.hid hz
        have hz' : decide (cd l[m] ⟨n, k, p⟩ < 0) = true := decide_eq_true hz
        clear hz
        go_wp2_with fail
        go_roundg (j - (m + 1))
        case measure => omega
        case rel =>
          refine ⟨m + 1, j, by omega, hjl, rfl, by go_num, rfl, ?_, HH.out.2.1, HX4.out⟩
          intro m' hm' hlt'
          by_cases e : m' = m
          · subst e; exact HZ.out
          · exact cd_trans (Srt.get HS.out hm' (by omega) (by omega)) HZ.out
      · have HZ := Lib.hid hz
        have hz' : decide (cd l[m] ⟨n, k, p⟩ < 0) = false := decide_eq_false hz
        clear hz
        go_wp2_with fail
        go_roundg (m - i)
        case measure => omega
        case rel =>
          refine ⟨i, m, by omega, by omega, rfl, rfl, rfl, HH.out.1, ?_, HX4.out⟩
          intro m' hm' hle
          have hz := HZ.out
          refine Classical.byContradiction fun hcd => ?_
          by_cases e : m = m'
          · subst e; omega
          · have h1 : cd l[m] l[m'] < 0 := Srt.get HS.out (by omega) hm' (by omega)
            have := cd_trans h1 (show cd l[m'] ⟨n, k, p⟩ < 0 by omega)
            omega
    · obtain rfl : i = j := by omega
      have hi := ix_of (o := ⟨n, k, p⟩) hjl h1 (fun m hm hle => by have := h2 m hm hle; omega)
      have hs := is_at HS.out ⟨n, k, p⟩
      clear h1 h2
      by_cases hn : i < l.length
      · have hg : decide ((i : Int) < l.length) = true := decide_eq_true (by omega)
        obtain ⟨P, rfl, hP, e0, e1, e2, hf, hix⟩ := hx.row.look (m := i) hn
        obtain ⟨f0, f1, f2⟩ := hx.cells
        have hC : RXC w P i n k p l[i] wr := ⟨⟨e0, e1, e2, f0, f1, f2⟩, hP, by have := (Array.getElem?_eq_some_iff.1 hx.box).1; exact this, hx.bel⟩
        have HH := Lib.hid (And.intro hi (And.intro hs hx))
        clear hi hs hx hf
        go_wp2_with fail
        go_region_held3 (fun w' => w'.cell? ⟨P, i * 3, none⟩ = some (.string ⟨l[i].n.toArray⟩) ∧ w'.cell? ⟨P, i * 3 + 1, none⟩ = some (.int .i64 l[i].k) ∧ w'.cell? ⟨P, i * 3 + 2, none⟩ = some (.int .i64 l[i].p) ∧ w'.cell? ⟨w.heap.size, 0, none⟩ = some (.string ⟨n.toArray⟩) ∧ w'.cell? ⟨w.heap.size, 1, none⟩ = some (.int .i64 k) ∧ w'.cell? ⟨w.heap.size, 2, none⟩ = some (.int .i64 p))
          (first | (exact RXC.cells (by assumption)) | (exact RXC.cells (RXC.below (by assumption) (bdr _))) | go_keep)
          (first
            | (go_at_call 69; refine (compare_any l[i] ⟨n, k, p⟩ _).mono ?_; rintro e wN ⟨rfl, hbN⟩; have hSN := RXC.below (by (first | assumption | exact RXC.below (by assumption) (bdr _))) hbN; clear hbN))
        have hSN := (by assumption : RXC w P i n k p l[i] _)
        have HF := Lib.hid hSN.bel
        clear hSN
        go_wp2_with fail
        go_ret2
        refine ⟨?_, HF.out⟩
        rw [HH.out.1, HH.out.2.1, HH.out.1, dif_pos hn]
        by_cases hz : cd l[i] ⟨n, k, p⟩ = 0 <;> simp [hz]
      · have hg : decide ((i : Int) < l.length) = false := decide_eq_false (by omega)
        have HH := Lib.hid (And.intro hi (And.intro hs hx))
        clear hi hs hx
        go_wp2_with fail
        go_quiet (fail)
        go_wp2_with fail
        go_ret2
        refine ⟨?_, HH.out.2.2.bel.trans ((drewN_below _ _).mono HH.out.2.2.bel.size)⟩
        rw [HH.out.1, HH.out.2.1, HH.out.1, dif_neg hn]
        rfl
theorem box_cells {w : World} {b : Nat} {o : D} (h : w.heap[b]? = some (.cells o.cs.toArray 45 (0, 0))) :
    w.cell? ⟨b, 0, none⟩ = some (.string ⟨o.n.toArray⟩) ∧ w.cell? ⟨b, 1, none⟩ = some (.int .i64 o.k) ∧ w.cell? ⟨b, 2, none⟩ = some (.int .i64 o.p) ∧ ∀ j, w.frozen? ⟨b, j, none⟩ = false := by
  refine ⟨?_, ?_, ?_, fun j => ?_⟩ <;> simp [World.cell?, World.frozen?, h, D.cs]
/-- cells that are known, behind a world -/
structure Cl (w0 : World) (S : List (Nat × Nat × Value)) (w : World) : Prop where
  at_ : ∀ x ∈ S, w.cell? ⟨x.1, x.2.1, none⟩ = some x.2.2
  bel : Below w0.heap.size w0 w
theorem Cl.below {w0 w w' : World} {S : List (Nat × Nat × Value)} (h : Cl w0 S w) (hb : Below w.heap.size w w') : Cl w0 S w' :=
  ⟨fun x hx => ((Keep.of_below (F := fun _ => False) hb).cell (World.block_lt_of_cell? w _ (h.at_ x hx)) id).trans (h.at_ x hx), h.bel.trans (hb.mono h.bel.size)⟩
theorem Cl.drew {w0 w : World} {S : List (Nat × Nat × Value)} (h : Cl w0 S w) : Cl w0 S w.drew := h.below (bdr _)
theorem Cl.alloc {w0 w : World} {S : List (Nat × Nat × Value)} (h : Cl w0 S w) (o : Obj) : Cl w0 S (w.alloc o) := h.below (ba _ _)
abbrev Cy (w : World) (x : Nat × Nat × Value) : Prop := w.cell? ⟨x.1, x.2.1, none⟩ = some x.2.2
theorem Cl.c1 {w0 w : World} {a : Nat × Nat × Value} (h : Cl w0 [a] w) : Cy w a := h.at_ a (by simp)
theorem Cl.c2 {w0 w : World} {a b : Nat × Nat × Value} (h : Cl w0 [a, b] w) : Cy w a ∧ Cy w b := ⟨h.at_ a (by simp), h.at_ b (by simp)⟩
theorem Cl.c3 {w0 w : World} {a b c : Nat × Nat × Value} (h : Cl w0 [a, b, c] w) : Cy w a ∧ Cy w b ∧ Cy w c := ⟨h.at_ a (by simp), h.at_ b (by simp), h.at_ c (by simp)⟩
theorem Cl.c4 {w0 w : World} {a b c d : Nat × Nat × Value} (h : Cl w0 [a, b, c, d] w) : Cy w a ∧ Cy w b ∧ Cy w c ∧ Cy w d := ⟨h.at_ a (by simp), h.at_ b (by simp), h.at_ c (by simp), h.at_ d (by simp)⟩
theorem Cl.c6 {w0 w : World} {a b c d e f : Nat × Nat × Value} (h : Cl w0 [a, b, c, d, e, f] w) : Cy w a ∧ Cy w b ∧ Cy w c ∧ Cy w d ∧ Cy w e ∧ Cy w f := ⟨h.at_ a (by simp), h.at_ b (by simp), h.at_ c (by simp), h.at_ d (by simp), h.at_ e (by simp), h.at_ f (by simp)⟩
set_option maxRecDepth 100000 in
theorem find_any {p : Nat} {F : Nat → Prop} {l : List D} (o : D) (w : World) (h : Tb w p F l) (hs : Srt l) (hl : l.length ≤ 1000) :
    Calls Tryz.prog 47 #[.pointer (some ⟨p, 0, none⟩), o.v] w fun e w' => e = .returned (.tuple #[.int .i64 (ix l o : Nat), .bool (is l o)]) ∧ Below w.heap.size w w' := by
  have hb := ba w (.cells o.cs.toArray 45)
  obtain ⟨a, c, e0, _, hr⟩ := (h.below hb).open_
  obtain ⟨f0, f1, f2, _⟩ := box_cells (alloc_at w (.cells o.cs.toArray 45))
  obtain ⟨n, k, q⟩ := o
  simp only [D.v, D.cs] at hb e0 hr f0 f1 f2 ⊢
  have HR := Lib.hid (And.intro hr (And.intro hs hb))
  clear h hs hr hb
  go_enter Tryz.func47, Tryz.ntmps47
  go_wp2_with fail
  generalize hw1 : (w.alloc (.cells #[.string ⟨n.toArray⟩, .int .i64 k, .int .i64 q] 45)) = w1 at e0 f0 f1 f2 ⊢
  have HR1 : Hid (Rw w1 a c l ∧ Srt l ∧ Below w.heap.size w w1) := Lib.hid (by rw [← hw1]; exact HR.out)
  clear hw1 HR
  have hC : Cl w1 [(p, 0, .slice a l.length c), (w.heap.size, 0, .string ⟨n.toArray⟩), (w.heap.size, 1, .int .i64 k), (w.heap.size, 2, .int .i64 q)] w1 := ⟨by simp [e0, f0, f1, f2], br _⟩
  go_region_held3 (fun w' => w'.cell? ⟨p, 0, none⟩ = some (.slice a l.length c) ∧ w'.cell? ⟨w.heap.size, 0, none⟩ = some (.string ⟨n.toArray⟩) ∧ w'.cell? ⟨w.heap.size, 1, none⟩ = some (.int .i64 k) ∧ w'.cell? ⟨w.heap.size, 2, none⟩ = some (.int .i64 q))
    (first | (exact Cl.c4 (by assumption)) | (exact Cl.c4 (Cl.drew (by assumption))) | go_keep)
    (first
      | (go_at_call 68; refine (bsearch_any ⟨n, k, q⟩ _ (HR1.out.1.below (by first | exact Cl.bel (by assumption) | exact Cl.bel (Cl.drew (by assumption)))) HR1.out.2.1 hl).mono ?_; rintro e wN ⟨rfl, hbN⟩; have hCN := Cl.below (by (first | assumption | exact Cl.drew (by assumption))) hbN; clear hbN))
  have hCN := (by assumption : Cl w1 [(p, 0, .slice a l.length c), (w.heap.size, 0, .string ⟨n.toArray⟩), (w.heap.size, 1, .int .i64 k), (w.heap.size, 2, .int .i64 q)] _)
  have HB4 := Lib.hid (HR1.out.2.2.trans (hCN.bel.mono HR1.out.2.2.size))
  clear hCN e0 f0 f1 f2
  go_wp2_with fail
  go_ret2
  exact ⟨rfl, HB4.out⟩
end Go.Proofs.YtedbcmagjbgbjaaGreatDoor.opd
namespace Go.Proofs.YtedbcmagjbgbjaaGreatDoor.ope
open Go.ChangeShapes Go.WideShapes Go.ChangeAt Go.RowKit
open Go.Proofs.YtedbcmagjbgbjaaGreatDoor.kp Go.Proofs.YtedbcmagjbgbjaaGreatDoor.opa Go.Proofs.YtedbcmagjbgbjaaGreatDoor.opb Go.Proofs.YtedbcmagjbgbjaaGreatDoor.opc Go.Proofs.YtedbcmagjbgbjaaGreatDoor.opd
set_option linter.unusedVariables false
def gd (l : List D) (o : D) : D := (md l o).head?.getD ⟨[], 0, 0⟩
theorem gd_no {l : List D} {o : D} (h : is l o = false) : gd l o = ⟨[], 0, 0⟩ := by
  have : md l o = [] := by unfold is at h; simpa using h
  simp [gd, this]
theorem gd_is {l : List D} (hs : Srt l) {o : D} (h : is l o = true) : ∃ hx : ix l o < l.length, l[ix l o] = gd l o := by
  obtain ⟨x, e, _, _, _, hx, q, _⟩ := at_is hs h
  exact ⟨hx, by rw [q hx]; simp [gd, e]⟩
theorem set3_block {w : World} {b : Nat} {d z : D} (h : w.heap[b]? = some (.cells z.cs.toArray 45 (0, 0))) : (set3 w b 0 d).heap[b]? = some (.cells d.cs.toArray 45 (0, 0)) := by
  simp only [set3, World.setCell, Array.getElem?_modify, h]
  simp [D.cs]
theorem zero_run (w : World) : (zeroValue 45).run Tryz.prog w = .ok ZV w := by kernel_rfl
set_option maxRecDepth 100000 in
set_option maxHeartbeats 4000000 in
theorem get_nil (o : D) (w : World) : Calls Tryz.prog 168 #[.pointer none, o.v] w fun e w' => e = .returned (.tuple #[ZV, .bool false]) ∧ Below w.heap.size w w' := by
  obtain ⟨n, k, q⟩ := o
  simp only [D.v]
  go_enter Tryz.func168, Tryz.ntmps168
  go_wp2_with fail
  have hz := alloc_at (w.alloc (.cells #[.string ⟨n.toArray⟩, .int .i64 k, .int .i64 q] 45)) (.cells (D.cs ⟨[], 0, 0⟩).toArray 45)
  rw [alloc_size] at hz
  obtain ⟨z0, z1, z2, _⟩ := box_cells hz
  simp only [D.cs] at z0 z1 z2
  exact bodyPost_ret (v := .tuple #[ZV, .bool false]) (by simp [results, Tryz.results168, go_sem, z0, z1, z2, ZV]) rfl ⟨rfl, bt (ba _ _) (ba _ _)⟩
set_option maxRecDepth 100000 in
set_option maxHeartbeats 4000000 in
theorem get_any {p : Nat} {F : Nat → Prop} {l : List D} (o : D) (w : World) (h : Tb w p F l) (hs : Srt l) (hl : l.length ≤ 1000) :
    Calls Tryz.prog 168 #[.pointer (some ⟨p, 0, none⟩), o.v] w fun e w' => e = .returned (.tuple #[(gd l o).v, .bool (is l o)]) ∧ Below w.heap.size w w' := by
  have hb1 := ba w (.cells o.cs.toArray 45)
  have hb2 := ba (w.alloc (.cells o.cs.toArray 45)) (.cells #[.string ⟨#[]⟩, .int .i64 0, .int .i64 0] 45)
  have hb := bt hb1 hb2
  obtain ⟨f0, f1, f2, _⟩ := box_cells (alloc_at w (.cells o.cs.toArray 45))
  obtain ⟨n, k, q⟩ := o
  simp only [D.v, D.cs] at hb f0 f1 f2 ⊢
  have HR := Lib.hid (And.intro (h.below hb) (And.intro hs hb))
  clear h hs hb hb1 hb2
  go_enter Tryz.func168, Tryz.ntmps168
  go_wp2_with fail
  have hz := alloc_at (w.alloc (.cells #[.string ⟨n.toArray⟩, .int .i64 k, .int .i64 q] 45)) (.cells #[.string ⟨#[]⟩, .int .i64 0, .int .i64 0] 45)
  rw [alloc_size] at hz
  generalize hw1 : ((w.alloc (.cells #[.string ⟨n.toArray⟩, .int .i64 k, .int .i64 q] 45)).alloc (.cells #[.string ⟨#[]⟩, .int .i64 0, .int .i64 0] 45)) = w1 at hz ⊢
  have HR1 : Hid (Tb w1 p F l ∧ Srt l ∧ Below w.heap.size w w1) := Lib.hid (by rw [← hw1]; exact HR.out)
  clear hw1 HR f0 f1 f2
  have HZ := Lib.hid hz
  clear hz
  refine (find_any ⟨n, k, q⟩ _ HR1.out.1 HR1.out.2.1 hl).mono ?_
  rintro e w4 ⟨rfl, hb4⟩
  have ht4 := HR1.out.1.below hb4
  have hz4 : w4.heap[w.heap.size + 1]? = some (.cells (D.cs ⟨[], 0, 0⟩).toArray 45 (0, 0)) := (hb4.block _ (Array.getElem?_eq_some_iff.1 HZ.out).1).trans HZ.out
  have hb5 := HR1.out.2.2.trans (hb4.mono HR1.out.2.2.size)
  obtain ⟨z0, z1, z2, hzf⟩ := box_cells hz4
  have g0 := hzf 0
  have g1 := hzf 1
  have g2 := hzf 2
  have hlt := (Array.getElem?_eq_some_iff.1 hz4).1
  cases hq : is l ⟨n, k, q⟩
  · have H4 := Lib.hid (And.intro hq hb5)
    have HV := Lib.hid (gd_no hq)
    have HZ4 := Lib.hid (And.intro hz4 hlt)
    clear ht4 hz4 hb5 hb4 hzf
    go_wp2_with fail
    have hz9 := set3_block (d := ⟨[], 0, 0⟩) HZ4.out.1
    obtain ⟨y0, y1, y2, _⟩ := box_cells hz9
    have hb9 := (set3_keep w4 (w.heap.size + 1) 0 ⟨[], 0, 0⟩).to_below (B := w.heap.size) (fun k e => by subst e; omega) (by have := HZ4.out.2; omega)
    simp only [set3] at y0 y1 y2 hb9
    exact bodyPost_ret (v := .tuple #[ZV, .bool false]) (by simp [results, Tryz.results168, go_sem, y0, y1, y2, ZV]) rfl ⟨by rw [HV.out, H4.out.1]; rfl, H4.out.2.trans hb9⟩
  · obtain ⟨hx, hxe⟩ := gd_is HR1.out.2.1 hq
    obtain ⟨a, c, e0, _, hrw⟩ := ht4.open_
    obtain ⟨P, rfl, hP, e1, e2, e3, _, hix⟩ := hrw.look (m := ix l ⟨n, k, q⟩) hx
    rw [hxe] at e1 e2 e3
    have H4 := Lib.hid (And.intro hq hb5)
    have HZ4 := Lib.hid (And.intro hz4 hlt)
    clear ht4 hz4 hb5 hb4 hzf hrw hxe
    generalize hd : gd l ⟨n, k, q⟩ = d at e1 e2 e3 ⊢
    have HD := Lib.hid hd
    clear hd
    go_wp2_with fail
    have hz9 := set3_block (d := d) HZ4.out.1
    obtain ⟨y0, y1, y2, _⟩ := box_cells hz9
    have hb9 := (set3_keep w4 (w.heap.size + 1) 0 d).to_below (B := w.heap.size) (fun k e => by subst e; omega) (by have := HZ4.out.2; omega)
    simp only [set3] at y0 y1 y2 hb9
    exact bodyPost_ret (v := .tuple #[d.v, .bool true]) (by simp [results, Tryz.results168, go_sem, y0, y1, y2, D.v]) rfl ⟨by rw [H4.out.1, HD.out]; rfl, H4.out.2.trans hb9⟩
set_option maxRecDepth 100000 in
set_option maxHeartbeats 4000000 in
theorem prefix_any {p : Nat} {F : Nat → Prop} {l : List D} (n : List UInt8) (w : World) (h : Tb w p F l) (hs : Srt l) (hl : l.length ≤ 1000) :
    Calls Tryz.prog 156 #[.pointer (some ⟨p, 0, none⟩), .string ⟨n.toArray⟩] w fun e w' => e = .returned (.tuple #[(gd l ⟨n, 4, 0⟩).v, .bool (is l ⟨n, 4, 0⟩)]) ∧ Below w.heap.size w w' := by
  have hb := ba w (.cells (D.cs ⟨[], 0, 0⟩).toArray 45)
  have hz := alloc_at w (.cells (D.cs ⟨[], 0, 0⟩).toArray 45)
  have HR := Lib.hid (And.intro (h.below hb) (And.intro hs (And.intro hb hz)))
  clear h hs hb hz
  go_enter Tryz.func156, Tryz.ntmps156
  go_wp2_with fail
  have HR2 := HR
  simp only [D.cs] at HR2
  refine (get_any ⟨n, 4, 0⟩ _ HR2.out.1 HR2.out.2.1 hl).mono ?_
  clear HR2
  rintro e w4 ⟨rfl, hb4⟩
  have hz4 : w4.heap[w.heap.size]? = some (.cells (D.cs ⟨[], 0, 0⟩).toArray 45 (0, 0)) := (hb4.block _ (by simp)).trans HR.out.2.2.2
  have hb5 : Below w.heap.size w w4 := HR.out.2.2.1.trans (hb4.mono (by simp))
  obtain ⟨z0, z1, z2, hzf⟩ := box_cells hz4
  have g0 := hzf 0
  have g1 := hzf 1
  have g2 := hzf 2
  have hlt := (Array.getElem?_eq_some_iff.1 hz4).1
  generalize hd : gd l ⟨n, 4, 0⟩ = d
  generalize hi : is l ⟨n, 4, 0⟩ = i
  have HZ4 := Lib.hid (And.intro hz4 (And.intro hlt hb5))
  have HDI := Lib.hid (And.intro hd hi)
  simp only [D.v]
  clear hz4 hb4 hzf hd hi hb5
  go_wp2_with fail
  have hz9 := set3_block (d := d) HZ4.out.1
  obtain ⟨y0, y1, y2, _⟩ := box_cells hz9
  have hb9 := (set3_keep w4 w.heap.size 0 d).to_below (B := w.heap.size) (fun k e => by subst e; omega) (by have := HZ4.out.2.1; omega)
  simp only [set3] at y0 y1 y2 hb9
  exact bodyPost_ret (v := .tuple #[d.v, .bool i]) (by simp [results, Tryz.results156, go_sem, y0, y1, y2, D.v]) rfl ⟨by rw [HDI.out.1, HDI.out.2], HZ4.out.2.2.trans hb9⟩
set_option maxRecDepth 100000 in
set_option maxHeartbeats 4000000 in
theorem prefix_nil (n : List UInt8) (w : World) : Calls Tryz.prog 156 #[.pointer none, .string ⟨n.toArray⟩] w fun e w' => e = .returned (.tuple #[ZV, .bool false]) ∧ Below w.heap.size w w' := by
  have hb := ba w (.cells (D.cs ⟨[], 0, 0⟩).toArray 45)
  have hz := alloc_at w (.cells (D.cs ⟨[], 0, 0⟩).toArray 45)
  have HR := Lib.hid (And.intro hb hz)
  clear hb hz
  go_enter Tryz.func156, Tryz.ntmps156
  go_wp2_with fail
  refine (get_nil ⟨n, 4, 0⟩ _).mono ?_
  rintro e w4 ⟨rfl, hb4⟩
  have hz4 : w4.heap[w.heap.size]? = some (.cells (D.cs ⟨[], 0, 0⟩).toArray 45 (0, 0)) := (hb4.block _ (by simp)).trans HR.out.2
  have hb5 : Below w.heap.size w w4 := HR.out.1.trans (hb4.mono (by simp))
  obtain ⟨z0, z1, z2, hzf⟩ := box_cells hz4
  have g0 := hzf 0
  have g1 := hzf 1
  have g2 := hzf 2
  have hlt := (Array.getElem?_eq_some_iff.1 hz4).1
  have HZ4 := Lib.hid (And.intro hz4 (And.intro hlt hb5))
  simp only [ZV]
  clear hz4 hb4 hzf hb5
  go_wp2_with fail
  have hz9 := set3_block (d := ⟨[], 0, 0⟩) HZ4.out.1
  obtain ⟨y0, y1, y2, _⟩ := box_cells hz9
  have hb9 := (set3_keep w4 w.heap.size 0 ⟨[], 0, 0⟩).to_below (B := w.heap.size) (fun k e => by subst e; omega) (by have := HZ4.out.2.1; omega)
  simp only [set3] at y0 y1 y2 hb9
  exact bodyPost_ret (v := .tuple #[ZV, .bool false]) (by simp [results, Tryz.results156, go_sem, y0, y1, y2, ZV]) rfl ⟨rfl, HZ4.out.2.2.trans hb9⟩
set_option maxRecDepth 100000 in
set_option maxHeartbeats 4000000 in
theorem infix_any {p : Nat} {F : Nat → Prop} {l : List D} (n : List UInt8) (w : World) (h : Tb w p F l) (hs : Srt l) (hl : l.length ≤ 1000) :
    Calls Tryz.prog 133 #[.pointer (some ⟨p, 0, none⟩), .string ⟨n.toArray⟩] w fun e w' => e = .returned (.tuple #[(gd l ⟨n, 1, 0⟩).v, .bool (is l ⟨n, 1, 0⟩)]) ∧ Below w.heap.size w w' := by
  have hb := ba w (.cells (D.cs ⟨[], 0, 0⟩).toArray 45)
  have hz := alloc_at w (.cells (D.cs ⟨[], 0, 0⟩).toArray 45)
  have HR := Lib.hid (And.intro (h.below hb) (And.intro hs (And.intro hb hz)))
  clear h hs hb hz
  go_enter Tryz.func133, Tryz.ntmps133
  go_wp2_with fail
  have HR2 := HR
  simp only [D.cs] at HR2
  refine (get_any ⟨n, 1, 0⟩ _ HR2.out.1 HR2.out.2.1 hl).mono ?_
  clear HR2
  rintro e w4 ⟨rfl, hb4⟩
  have hz4 : w4.heap[w.heap.size]? = some (.cells (D.cs ⟨[], 0, 0⟩).toArray 45 (0, 0)) := (hb4.block _ (by simp)).trans HR.out.2.2.2
  have hb5 : Below w.heap.size w w4 := HR.out.2.2.1.trans (hb4.mono (by simp))
  obtain ⟨z0, z1, z2, hzf⟩ := box_cells hz4
  have g0 := hzf 0
  have g1 := hzf 1
  have g2 := hzf 2
  have hlt := (Array.getElem?_eq_some_iff.1 hz4).1
  generalize hd : gd l ⟨n, 1, 0⟩ = d
  generalize hi : is l ⟨n, 1, 0⟩ = i
  have HZ4 := Lib.hid (And.intro hz4 (And.intro hlt hb5))
  have HDI := Lib.hid (And.intro hd hi)
  simp only [D.v]
  clear hz4 hb4 hzf hd hi hb5
  go_wp2_with fail
  have hz9 := set3_block (d := d) HZ4.out.1
  obtain ⟨y0, y1, y2, _⟩ := box_cells hz9
  have hb9 := (set3_keep w4 w.heap.size 0 d).to_below (B := w.heap.size) (fun k e => by subst e; omega) (by have := HZ4.out.2.1; omega)
  simp only [set3] at y0 y1 y2 hb9
  exact bodyPost_ret (v := .tuple #[d.v, .bool i]) (by simp [results, Tryz.results133, go_sem, y0, y1, y2, D.v]) rfl ⟨by rw [HDI.out.1, HDI.out.2], HZ4.out.2.2.trans hb9⟩
set_option maxRecDepth 100000 in
set_option maxHeartbeats 4000000 in
theorem infix_nil (n : List UInt8) (w : World) : Calls Tryz.prog 133 #[.pointer none, .string ⟨n.toArray⟩] w fun e w' => e = .returned (.tuple #[ZV, .bool false]) ∧ Below w.heap.size w w' := by
  have hb := ba w (.cells (D.cs ⟨[], 0, 0⟩).toArray 45)
  have hz := alloc_at w (.cells (D.cs ⟨[], 0, 0⟩).toArray 45)
  have HR := Lib.hid (And.intro hb hz)
  clear hb hz
  go_enter Tryz.func133, Tryz.ntmps133
  go_wp2_with fail
  refine (get_nil ⟨n, 1, 0⟩ _).mono ?_
  rintro e w4 ⟨rfl, hb4⟩
  have hz4 : w4.heap[w.heap.size]? = some (.cells (D.cs ⟨[], 0, 0⟩).toArray 45 (0, 0)) := (hb4.block _ (by simp)).trans HR.out.2
  have hb5 : Below w.heap.size w w4 := HR.out.1.trans (hb4.mono (by simp))
  obtain ⟨z0, z1, z2, hzf⟩ := box_cells hz4
  have g0 := hzf 0
  have g1 := hzf 1
  have g2 := hzf 2
  have hlt := (Array.getElem?_eq_some_iff.1 hz4).1
  have HZ4 := Lib.hid (And.intro hz4 (And.intro hlt hb5))
  simp only [ZV]
  clear hz4 hb4 hzf hb5
  go_wp2_with fail
  have hz9 := set3_block (d := ⟨[], 0, 0⟩) HZ4.out.1
  obtain ⟨y0, y1, y2, _⟩ := box_cells hz9
  have hb9 := (set3_keep w4 w.heap.size 0 ⟨[], 0, 0⟩).to_below (B := w.heap.size) (fun k e => by subst e; omega) (by have := HZ4.out.2.1; omega)
  simp only [set3] at y0 y1 y2 hb9
  exact bodyPost_ret (v := .tuple #[ZV, .bool false]) (by simp [results, Tryz.results133, go_sem, y0, y1, y2, ZV]) rfl ⟨rfl, HZ4.out.2.2.trans hb9⟩
end Go.Proofs.YtedbcmagjbgbjaaGreatDoor.ope
