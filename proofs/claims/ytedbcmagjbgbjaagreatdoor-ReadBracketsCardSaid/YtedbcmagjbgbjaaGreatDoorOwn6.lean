/- Terms appended side by side to a slice that the call owns. Terms appended side by side to a slice of the call's own, that lie off a set Z of blocks. -/
import Derived.Test.YtedbcmagjbgbjaaGreatDoorPl
import Derived.Deep.AppendLies
import Derived.Test.YtedbcmagjbgbjaaGreatDoorTm
namespace Go.Proofs.YtedbcmagjbgbjaaGreatDoor.ow6
set_option linter.unusedVariables false
open Go.ChangeShapes Go.WideShapes Go.ChangeAt Go.RowKit
open Go.Proofs.YtedbcmagjbgbjaaGreatDoor.tm Go.Proofs.YtedbcmagjbgbjaaGreatDoor.lie Go.Proofs.YtedbcmagjbgbjaaGreatDoor.kp Go.Proofs.YtedbcmagjbgbjaaGreatDoor.cur Go.Proofs.YtedbcmagjbgbjaaGreatDoor.pln
/-- the slice v owns these terms; what they hold lies off its own block -/
structure TOwn (B : Nat) (l : List Tm) (v : Value) (w : World) : Prop where
  ex : ∃ xs, w.ownsRow B 27 6 v l.length xs ∧ ∀ (m : Nat) (hm : m < l.length), ∃ v0 v1 v2 v3 v4 v5, xs[m * 6]? = some v0 ∧ xs[m * 6 + 1]? = some v1 ∧ xs[m * 6 + 2]? = some v2 ∧ xs[m * 6 + 3]? = some v3 ∧ xs[m * 6 + 4]? = some v4 ∧ xs[m * 6 + 5]? = some v5 ∧
    Lies (fun k => v.ownBlock = some k) w l[m] (.agg #[v0, v1, v2, v3, v4, v5])
theorem TOwn.nil (B : Nat) (w : World) : TOwn B [] (.slice none 0 0) w := ⟨⟨[], World.ownsRow_nil _ _ _ _, fun m hm => by simp at hm⟩⟩
theorem row6_keep {w w' : World} {B e n z : Nat} {v : Value} {xs : List Value} (h : w.ownsRow B e z v n xs) (hb : ∀ k, v.ownBlock = some k → w'.heap[k]? = w.heap[k]?) : w'.ownsRow B e z v n xs := by
  obtain ⟨hl, hr⟩ := h
  refine ⟨hl, ?_⟩
  rcases hr with hr | ⟨g, cap, cur, rfl, hg0, hgc, q⟩
  · exact Or.inl hr
  · exact Or.inr ⟨g, cap, cur, rfl, hg0, (hb g rfl).trans hgc, q⟩
theorem TOwn.below {B : Nat} {l : List Tm} {v : Value} {w w' : World} (h : TOwn B l v w) (hb : Below w.heap.size w w') : TOwn B l v w' := by
  obtain ⟨xs, ho, hx⟩ := h.ex
  refine ⟨xs, row6_keep ho fun k e => hb.block k (ho.lt k e).2, fun m hm => ?_⟩
  obtain ⟨v0, v1, v2, v3, v4, v5, h0, h1, h2, h3, h4, h5, ht⟩ := hx m hm
  exact ⟨v0, v1, v2, v3, v4, v5, h0, h1, h2, h3, h4, h5, ht.below hb⟩
/-- as a row of terms -/
theorem TOwn.row {B : Nat} {l : List Tm} {v : Value} {w : World} (h : TOwn B l v w) : ∃ a c, v = .slice a l.length c ∧ l.length ≤ c ∧ c ≤ maxLen ∧ TRow No w l a 0 := by
  obtain ⟨xs, ho, hx⟩ := h.ex
  rcases ho.2 with ⟨rfl, h0⟩ | ⟨g, cap, cur, rfl, hg0, hgc, h1, h2, h3, h4⟩
  · have : l = [] := List.eq_nil_of_length_eq_zero h0
    subst this
    exact ⟨none, 0, rfl, by simp, by simp [maxLen], by rw [TRow]; trivial⟩
  · refine ⟨_, cap, rfl, h1, h2, TRow.mk l 0 fun m hm => ?_⟩
    obtain ⟨v0, v1, v2, v3, v4, v5, e0, e1, e2, e3, e4, e5, ht⟩ := hx m hm
    have e : ∀ j x, xs[j]? = some x → w.cell? ⟨g, j, none⟩ = some x := fun j x hj => by
      rw [← h4, List.getElem?_take] at hj
      split at hj
      · simp [World.cell?, hgc]; simpa using hj
      · cases hj
    refine ⟨g, 0, v0, v1, v2, v3, v4, v5, rfl, id, ?_, ht.off fun _ _ h => h.elim⟩
    simp only [Nat.zero_add]
    exact ⟨e _ _ e0, e _ _ e1, e _ _ e2, e _ _ e3, e _ _ e4, e _ _ e5⟩
/-- one term more -/
theorem TOwn.add {B g' c' : Nat} {l : List Tm} {t : Tm} {v : Value} {w w4 : World} {o : Obj} {v0 v1 v2 v3 v4 v5 : Value} {xs : List Value} (hx : ∀ (m : Nat) (hm : m < l.length), ∃ v0 v1 v2 v3 v4 v5, xs[m * 6]? = some v0 ∧ xs[m * 6 + 1]? = some v1 ∧ xs[m * 6 + 2]? = some v2 ∧ xs[m * 6 + 3]? = some v3 ∧ xs[m * 6 + 4]? = some v4 ∧ xs[m * 6 + 5]? = some v5 ∧
    Lies (fun k => v.ownBlock = some k) w l[m] (.agg #[v0, v1, v2, v3, v4, v5])) (ho : w.ownsRow B 27 6 v l.length xs)
    (ht : Lies (fun k => v.ownBlock = some k) w t (.agg #[v0, v1, v2, v3, v4, v5])) (ho4 : w4.ownsRow B 27 6 (.slice (some ⟨g', 0, none⟩) (l.length + 1) c') (l.length + 1) (xs ++ [v0, v1, v2, v3, v4, v5]))
    (hg4 : (w.alloc o).grownBy w4 v.ownBlock) (ha : v.ownBlock = some g' ∨ w.heap.size ≤ g') : TOwn B (l ++ [t]) (.slice (some ⟨g', 0, none⟩) (l ++ [t]).length c') w4 ∧ Keep (fun k => v.ownBlock = some k) w w4 := by
  have hk : Keep (fun k => v.ownBlock = some k) w w4 := (Keep.of_below (F := fun k => v.ownBlock = some k) (ba w o)).trans (Keep.of_grown (F := fun k => v.ownBlock = some k) hg4 fun k e => e) fun _ => Or.inl
  have hsub : ∀ b, b < w.heap.size → (Value.slice (some ⟨g', 0, none⟩) (l ++ [t]).length c').ownBlock = some b → v.ownBlock = some b := fun b hb e => by
    simp only [Value.ownBlock, Option.some.injEq] at e
    subst e
    exact ha.elim id fun h => by omega
  have hxl := ho.1
  refine ⟨⟨xs ++ [v0, v1, v2, v3, v4, v5], by simpa using ho4, fun m hm => ?_⟩, hk⟩
  simp only [List.length_append, List.length_singleton] at hm
  by_cases hml : m < l.length
  · obtain ⟨u0, u1, u2, u3, u4, u5, h0, h1, h2, h3, h4, h5, hl⟩ := hx m hml
    have e : ∀ j x, xs[j]? = some x → (xs ++ [v0, v1, v2, v3, v4, v5])[j]? = some x := fun j x hj => by
      rw [List.getElem?_append_left (List.getElem?_eq_some_iff.1 hj).1]; exact hj
    rw [List.getElem_append_left hml]
    exact ⟨u0, u1, u2, u3, u4, u5, e _ _ h0, e _ _ h1, e _ _ h2, e _ _ h3, e _ _ h4, e _ _ h5, Lies.keep hk hsub _ _ hl⟩
  · have hm' : m = l.length := by omega
    subst hm'
    have e : ∀ j, (xs ++ [v0, v1, v2, v3, v4, v5])[l.length * 6 + j]? = [v0, v1, v2, v3, v4, v5][j]? := fun j => by
      rw [List.getElem?_append_right (by omega)]; congr 1; omega
    have ht' := Lies.keep hk hsub _ _ ht
    refine ⟨v0, v1, v2, v3, v4, v5, e 0, e 1, e 2, e 3, e 4, e 5, ?_⟩
    simpa using ht'
theorem news6 (w : World) (v0 v1 v2 v3 v4 v5 : Value) (t : TypeId) : ∀ j u, [v0, v1, v2, v3, v4, v5][j]? = some u → (w.alloc (.cells #[v0, v1, v2, v3, v4, v5] t)).cell? ((⟨w.heap.size, 0, none⟩ : Addr).add j) = some u := by
  intro j u hj
  rw [add_plain, Nat.zero_add]
  exact alloc_cell w _ #[v0, v1, v2, v3, v4, v5] t u j rfl (by simpa using hj)
end Go.Proofs.YtedbcmagjbgbjaaGreatDoor.ow6
namespace Go.Proofs.YtedbcmagjbgbjaaGreatDoor.ow6
set_option linter.unusedVariables false
open Go.ChangeShapes Go.WideShapes Go.ChangeAt Go.RowKit
open Go.Proofs.YtedbcmagjbgbjaaGreatDoor.tm Go.Proofs.YtedbcmagjbgbjaaGreatDoor.lie Go.Proofs.YtedbcmagjbgbjaaGreatDoor.kp Go.Proofs.YtedbcmagjbgbjaaGreatDoor.cur Go.Proofs.YtedbcmagjbgbjaaGreatDoor.pln
/-- the slice v owns these terms; what they hold lies off its own block and off Z -/
structure XOwn (Z : Nat → Prop) (B : Nat) (l : List Tm) (v : Value) (w : World) : Prop where
  ex : ∃ xs, w.ownsRow B 27 6 v l.length xs ∧ ∀ (m : Nat) (hm : m < l.length), ∃ v0 v1 v2 v3 v4 v5, xs[m * 6]? = some v0 ∧ xs[m * 6 + 1]? = some v1 ∧ xs[m * 6 + 2]? = some v2 ∧ xs[m * 6 + 3]? = some v3 ∧ xs[m * 6 + 4]? = some v4 ∧ xs[m * 6 + 5]? = some v5 ∧
    Lies (fun k => Z k ∨ v.ownBlock = some k) w l[m] (.agg #[v0, v1, v2, v3, v4, v5])
theorem XOwn.nil (Z : Nat → Prop) (B : Nat) (w : World) : XOwn Z B [] (.slice none 0 0) w := ⟨⟨[], World.ownsRow_nil _ _ _ _, fun m hm => by simp at hm⟩⟩
theorem XOwn.keep {Z F : Nat → Prop} {B : Nat} {l : List Tm} {v : Value} {w w' : World} (h : XOwn Z B l v w) (hk : Keep F w w') (hF : ∀ k, F k → Z k ∧ k < B) : XOwn Z B l v w' := by
  obtain ⟨xs, ho, hx⟩ := h.ex
  refine ⟨xs, row6_keep ho fun k e => hk.block k (ho.lt k e).2 fun hf => by have := (hF k hf).2; have := (ho.lt k e).1; omega, fun m hm => ?_⟩
  obtain ⟨v0, v1, v2, v3, v4, v5, h0, h1, h2, h3, h4, h5, ht⟩ := hx m hm
  exact ⟨v0, v1, v2, v3, v4, v5, h0, h1, h2, h3, h4, h5, Lies.keep (hk.mono (G := fun k => Z k ∨ v.ownBlock = some k) fun i hi => Or.inl (hF i hi).1) (fun _ _ => id) _ _ ht⟩
theorem XOwn.below {Z : Nat → Prop} {B : Nat} {l : List Tm} {v : Value} {w w' : World} (h : XOwn Z B l v w) (hb : Below w.heap.size w w') : XOwn Z B l v w' :=
  h.keep (F := No) (Keep.of_below hb) fun _ h => h.elim
/-- as a row of terms, off Y -/
theorem XOwn.row {Z Y : Nat → Prop} {B : Nat} {l : List Tm} {v : Value} {w : World} (h : XOwn Z B l v w) (hY : ∀ k, Y k → Z k ∧ k < B) : ∃ a c, v = .slice a l.length c ∧ l.length ≤ c ∧ c ≤ maxLen ∧ TRow Y w l a 0 := by
  obtain ⟨xs, ho, hx⟩ := h.ex
  rcases ho.2 with ⟨rfl, h0⟩ | ⟨g, cap, cur, rfl, hg0, hgc, h1, h2, h3, h4⟩
  · have : l = [] := List.eq_nil_of_length_eq_zero h0
    subst this
    exact ⟨none, 0, rfl, by simp, by simp [maxLen], by rw [TRow]; trivial⟩
  · refine ⟨_, cap, rfl, h1, h2, TRow.mk l 0 fun m hm => ?_⟩
    obtain ⟨v0, v1, v2, v3, v4, v5, e0, e1, e2, e3, e4, e5, ht⟩ := hx m hm
    have e : ∀ j x, xs[j]? = some x → w.cell? ⟨g, j, none⟩ = some x := fun j x hj => by
      rw [← h4, List.getElem?_take] at hj
      split at hj
      · simp [World.cell?, hgc]; simpa using hj
      · cases hj
    refine ⟨g, 0, v0, v1, v2, v3, v4, v5, rfl, fun hg => by have := (hY g hg).2; omega, ?_, ht.off fun b _ hb => Or.inl (hY b hb).1⟩
    simp only [Nat.zero_add]
    exact ⟨e _ _ e0, e _ _ e1, e _ _ e2, e _ _ e3, e _ _ e4, e _ _ e5⟩
/-- one term more -/
theorem XOwn.add {Z : Nat → Prop} {B g' c' : Nat} {l : List Tm} {t : Tm} {v : Value} {w w4 : World} {o : Obj} {v0 v1 v2 v3 v4 v5 : Value} {xs : List Value} (hx : ∀ (m : Nat) (hm : m < l.length), ∃ v0 v1 v2 v3 v4 v5, xs[m * 6]? = some v0 ∧ xs[m * 6 + 1]? = some v1 ∧ xs[m * 6 + 2]? = some v2 ∧ xs[m * 6 + 3]? = some v3 ∧ xs[m * 6 + 4]? = some v4 ∧ xs[m * 6 + 5]? = some v5 ∧
    Lies (fun k => Z k ∨ v.ownBlock = some k) w l[m] (.agg #[v0, v1, v2, v3, v4, v5])) (ho : w.ownsRow B 27 6 v l.length xs)
    (ht : Lies (fun k => Z k ∨ v.ownBlock = some k) w t (.agg #[v0, v1, v2, v3, v4, v5])) (ho4 : w4.ownsRow B 27 6 (.slice (some ⟨g', 0, none⟩) (l.length + 1) c') (l.length + 1) (xs ++ [v0, v1, v2, v3, v4, v5]))
    (hg4 : (w.alloc o).grownBy w4 v.ownBlock) (ha : v.ownBlock = some g' ∨ w.heap.size ≤ g') : XOwn Z B (l ++ [t]) (.slice (some ⟨g', 0, none⟩) (l ++ [t]).length c') w4 ∧ Keep (fun k => v.ownBlock = some k) w w4 := by
  have hk : Keep (fun k => v.ownBlock = some k) w w4 := (Keep.of_below (F := fun k => v.ownBlock = some k) (ba w o)).trans (Keep.of_grown (F := fun k => v.ownBlock = some k) hg4 fun k e => e) fun _ => Or.inl
  have hk2 := hk.mono (G := fun k => Z k ∨ v.ownBlock = some k) fun _ => Or.inr
  have hsub : ∀ b, b < w.heap.size → (Z b ∨ (Value.slice (some ⟨g', 0, none⟩) (l ++ [t]).length c').ownBlock = some b) → (Z b ∨ v.ownBlock = some b) := fun b hb e => by
    rcases e with e | e
    · exact Or.inl e
    simp only [Value.ownBlock, Option.some.injEq] at e
    subst e
    exact ha.elim Or.inr fun h => by omega
  have hxl := ho.1
  refine ⟨⟨xs ++ [v0, v1, v2, v3, v4, v5], by simpa using ho4, fun m hm => ?_⟩, hk⟩
  simp only [List.length_append, List.length_singleton] at hm
  by_cases hml : m < l.length
  · obtain ⟨u0, u1, u2, u3, u4, u5, h0, h1, h2, h3, h4, h5, hl⟩ := hx m hml
    have e : ∀ j x, xs[j]? = some x → (xs ++ [v0, v1, v2, v3, v4, v5])[j]? = some x := fun j x hj => by
      rw [List.getElem?_append_left (List.getElem?_eq_some_iff.1 hj).1]; exact hj
    rw [List.getElem_append_left hml]
    exact ⟨u0, u1, u2, u3, u4, u5, e _ _ h0, e _ _ h1, e _ _ h2, e _ _ h3, e _ _ h4, e _ _ h5, Lies.keep hk2 hsub _ _ hl⟩
  · have hm' : m = l.length := by omega
    subst hm'
    have e : ∀ j, (xs ++ [v0, v1, v2, v3, v4, v5])[l.length * 6 + j]? = [v0, v1, v2, v3, v4, v5][j]? := fun j => by
      rw [List.getElem?_append_right (by omega)]; congr 1; omega
    have ht' := Lies.keep hk2 hsub _ _ ht
    refine ⟨v0, v1, v2, v3, v4, v5, e 0, e 1, e 2, e 3, e 4, e 5, ?_⟩
    simpa using ht'
/-- what has been made since B0, as far as block b -/
abbrev Zb (B0 b : Nat) : Nat → Prop := fun k => B0 ≤ k ∧ k ≤ b
/-- a node in block b whose arguments are being appended: L so far, in the slice s -/
structure Grow (B0 b : Nat) (k : Int) (n : ByteArray) (L : List Tm) (s : Value) (w wr : World) : Prop where
  own : XOwn (Zb B0 b) (b + 1) L s wr
  box : wr.heap[b]? = some (.cells #[.int .i64 k, .string n, .int .i64 0, .int .u64 0, .int .u64 0, s] 27 (0, 0))
  bel : Below w.heap.size w wr
  wb : w.heap.size ≤ b
  b0 : B0 ≤ w.heap.size
theorem Grow.lt {B0 b : Nat} {k : Int} {n : ByteArray} {L : List Tm} {s : Value} {w wr : World} (h : Grow B0 b k n L s w wr) : b < wr.heap.size := (Array.getElem?_eq_some_iff.1 h.box).1
theorem Grow.below {B0 b : Nat} {k : Int} {n : ByteArray} {L : List Tm} {s : Value} {w wr w' : World} (h : Grow B0 b k n L s w wr) (hb : Below wr.heap.size wr w') : Grow B0 b k n L s w w' :=
  ⟨h.own.below hb, (hb.block _ h.lt).trans h.box, h.bel.trans (hb.mono h.bel.size), h.wb, h.b0⟩
/-- behind the call that makes the next argument -/
theorem Grow.pre {B0 b : Nat} {k : Int} {n : ByteArray} {L : List Tm} {s : Value} {w wr w0 w3 : World} {q : Tm} {v : Value} (h : Grow B0 b k n L s w wr) (hb : Below wr.heap.size wr w0) (hb3 : Below w0.heap.size w0 w3)
    (hq : Lies (fun k => B0 ≤ k ∧ k < w0.heap.size) w3 q v) : Grow B0 b k n L s w w3 ∧ Lies (fun k => Zb B0 b k ∨ s.ownBlock = some k) w3 q v := by
  have h0 := h.below hb
  refine ⟨h0.below hb3, hq.off fun i _ hi => ?_⟩
  rcases hi with hi | hi
  · exact ⟨hi.1, by have := h0.lt; have := hi.2; omega⟩
  · obtain ⟨xs, ho, _⟩ := h0.own.ex
    have := ho.lt i hi
    exact ⟨by have := h.b0; have := h.wb; omega, this.2⟩
theorem Grow.post {B0 b g' c' : Nat} {k : Int} {n : ByteArray} {L : List Tm} {s : Value} {w w3 w4 : World} {q : Tm} {o : Obj} {v0 v1 v2 v3 v4 v5 : Value} {xs : List Value} (h : Grow B0 b k n L s w w3)
    (hx : ∀ (m : Nat) (hm : m < L.length), ∃ v0 v1 v2 v3 v4 v5, xs[m * 6]? = some v0 ∧ xs[m * 6 + 1]? = some v1 ∧ xs[m * 6 + 2]? = some v2 ∧ xs[m * 6 + 3]? = some v3 ∧ xs[m * 6 + 4]? = some v4 ∧ xs[m * 6 + 5]? = some v5 ∧
    Lies (fun k => Zb B0 b k ∨ s.ownBlock = some k) w3 L[m] (.agg #[v0, v1, v2, v3, v4, v5])) (ho : w3.ownsRow (b + 1) 27 6 s L.length xs)
    (hq : Lies (fun k => Zb B0 b k ∨ s.ownBlock = some k) w3 q (.agg #[v0, v1, v2, v3, v4, v5])) (ho4 : w4.ownsRow (b + 1) 27 6 (.slice (some ⟨g', 0, none⟩) (L.length + 1) c') (L.length + 1) (xs ++ [v0, v1, v2, v3, v4, v5]))
    (hg4 : (w3.alloc o).grownBy w4 s.ownBlock) (ha : s.ownBlock = some g' ∨ g' = (w3.alloc o).heap.size) :
    (w4.cell? ⟨b, 5, none⟩ = some s ∧ w4.frozen? ⟨b, 5, none⟩ = false) ∧ Grow B0 b k n (L ++ [q]) (.slice (some ⟨g', 0, none⟩) (L.length + 1) c') w (w4.setCell ⟨b, 5, none⟩ (.slice (some ⟨g', 0, none⟩) (L.length + 1) c')) := by
  obtain ⟨ha1, hk⟩ := XOwn.add hx ho hq ho4 hg4 (ha.imp id fun e => by rw [alloc_size] at e; omega)
  have hbl := h.lt
  have hnb : ¬ s.ownBlock = some b := fun e => by have := (ho.lt b e).1; omega
  have hb4 : w4.heap[b]? = some (.cells #[.int .i64 k, .string n, .int .i64 0, .int .u64 0, .int .u64 0, s] 27 (0, 0)) := (hk.block b hbl hnb).trans h.box
  refine ⟨⟨by simp [World.cell?, hb4], by simp [World.frozen?, hb4]⟩, ?_⟩
  have ks : Keep (fun i => i = b) w4 (w4.setCell ⟨b, 5, none⟩ (.slice (some ⟨g', 0, none⟩) (L.length + 1) c')) := Keep.setCell (F := fun i => i = b) w4 rfl _
  have s3 := h.bel.size; have s4 := hk.size; have hwb := h.wb; have hb0 := h.b0
  refine ⟨?_, ?_, ?_, h.wb, h.b0⟩
  · have := ha1.keep ks fun i hi => by subst hi; exact ⟨⟨by omega, Nat.le_refl _⟩, by omega⟩
    simpa using this
  · have := heap_setCell_same w4 b 5 _ 27 (.slice (some ⟨g', 0, none⟩) (L.length + 1) c') hb4
    simpa using this
  · refine (h.bel.trans (hk.to_below (fun i hi => by have := (ho.lt i hi).1; omega) s3)).trans (ks.to_below (fun i hi => by subst hi; exact hwb) (by omega))
/-- the node, told -/
theorem Grow.lies {B0 b : Nat} {n : ByteArray} {L : List Tm} {s : Value} {w wr : World} (h : Grow B0 b 5 n L s w wr) (hn : n.size ≤ 9223372036854775807) : ∃ a c, s = .slice a L.length c ∧ Lies (Zb B0 b) wr (comp n L) (.agg #[.int .i64 5, .string n, .int .i64 0, .int .u64 0, .int .u64 0, s]) := by
  obtain ⟨a, c, rfl, h1, h2, hr⟩ := h.own.row (Y := Zb B0 b) fun k hk => ⟨hk, by have := hk.2; omega⟩
  exact ⟨a, c, rfl, Go.Proofs.YtedbcmagjbgbjaaGreatDoor.awk.comp_lies hn h1 h2 hr⟩
theorem info_t : ∃ ij, Tryz.prog.info? 27 = some ij ∧ ij.zero = some ZV ∧ ij.size = 6 ∧ ij.bytes = 72 := by
  have h := infoT
  cases hi : Tryz.prog.info? 27 with
  | none => rw [hi] at h; cases h
  | some ij =>
    rw [hi] at h
    simp only [Option.map_some, Option.some.injEq, Prod.mk.injEq] at h
    exact ⟨ij, rfl, h.1, h.2.1, h.2.2⟩
theorem map_next {f : Tm → Tm} {l : List Tm} {k : Nat} (hk : k < l.length) : (l.take k).map f ++ [f l[k]] = (l.take (k + 1)).map f := by
  rw [List.take_succ_eq_append_getElem hk, List.map_append]; rfl
theorem map_len {f : Tm → Tm} {l : List Tm} {k : Nat} (hk : k ≤ l.length) : ((l.take k).map f).length = k := by simp; omega
end Go.Proofs.YtedbcmagjbgbjaaGreatDoor.ow6
