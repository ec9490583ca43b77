/- Terms appended side by side to a slice that the call owns. -/
import Derived.Test.YtibepkljcofpdaaAwk
import Derived.Deep.AppendLies
namespace Go.Proofs.Ytibepkljcofpdaa.ow6
set_option linter.unusedVariables false
open Go.ChangeShapes Go.WideShapes Go.ChangeAt Go.RowKit
open Go.Proofs.Ytibepkljcofpdaa.tm Go.Proofs.Ytibepkljcofpdaa.lie Go.Proofs.Ytibepkljcofpdaa.kp Go.Proofs.Ytibepkljcofpdaa.cur Go.Proofs.Ytibepkljcofpdaa.pln
/-- the slice v owns these terms; what they hold lies off its own block -/
structure TOwn (B : Nat) (l : List Tm) (v : Value) (w : World) : Prop where
  ex : ∃ xs, w.ownsRow B 36 6 v l.length xs ∧ ∀ (m : Nat) (hm : m < l.length), ∃ v0 v1 v2 v3 v4 v5, xs[m * 6]? = some v0 ∧ xs[m * 6 + 1]? = some v1 ∧ xs[m * 6 + 2]? = some v2 ∧ xs[m * 6 + 3]? = some v3 ∧ xs[m * 6 + 4]? = some v4 ∧ xs[m * 6 + 5]? = some v5 ∧
    Lies (fun k => v.ownBlock = some k) w l[m] (.agg #[v0, v1, v2, v3, v4, v5])
theorem TOwn.nil (B : Nat) (w : World) : TOwn B [] (.slice none 0 0) w := ⟨⟨[], World.ownsRow_nil _ _ _ _, fun m hm => by simp at hm⟩⟩
theorem row6_keep {w w' : World} {B e n z : Nat} {v : Value} {xs : List Value} (h : w.ownsRow B e z v n xs) (hb : ∀ k, v.ownBlock = some k → w'.heap[k]? = w.heap[k]?) : w'.ownsRow B e z v n xs := by
  obtain ⟨hl, hr⟩ := h
  refine ⟨hl, ?_⟩
  rcases hr with hr | ⟨g, cap, cur, rfl, hg0, hgc, q⟩
  · exact Or.inl hr
  · exact Or.inr ⟨g, cap, cur, rfl, hg0, (hb g rfl).trans hgc, q⟩
theorem TOwn.below {B : Nat} {l : List Tm} {v : Value} {w w' : World} (h : TOwn B l v w) (hb : Below w.heap.size w w') : TOwn B l v w' := by
  obtain ⟨xs, ho, hx⟩ := h.ex
  refine ⟨xs, row6_keep ho fun k e => hb.block k (ho.lt k e).2, fun m hm => ?_⟩
  obtain ⟨v0, v1, v2, v3, v4, v5, h0, h1, h2, h3, h4, h5, ht⟩ := hx m hm
  exact ⟨v0, v1, v2, v3, v4, v5, h0, h1, h2, h3, h4, h5, ht.below hb⟩
/-- as a row of terms -/
theorem TOwn.row {B : Nat} {l : List Tm} {v : Value} {w : World} (h : TOwn B l v w) : ∃ a c, v = .slice a l.length c ∧ l.length ≤ c ∧ c ≤ maxLen ∧ TRow No w l a 0 := by
  obtain ⟨xs, ho, hx⟩ := h.ex
  rcases ho.2 with ⟨rfl, h0⟩ | ⟨g, cap, cur, rfl, hg0, hgc, h1, h2, h3, h4⟩
  · have : l = [] := List.eq_nil_of_length_eq_zero h0
    subst this
    exact ⟨none, 0, rfl, by simp, by simp [maxLen], by rw [TRow]; trivial⟩
  · refine ⟨_, cap, rfl, h1, h2, TRow.mk l 0 fun m hm => ?_⟩
    obtain ⟨v0, v1, v2, v3, v4, v5, e0, e1, e2, e3, e4, e5, ht⟩ := hx m hm
    have e : ∀ j x, xs[j]? = some x → w.cell? ⟨g, j, none⟩ = some x := fun j x hj => by
      rw [← h4, List.getElem?_take] at hj
      split at hj
      · simp [World.cell?, hgc]; simpa using hj
      · cases hj
    refine ⟨g, 0, v0, v1, v2, v3, v4, v5, rfl, id, ?_, ht.off fun _ _ h => h.elim⟩
    simp only [Nat.zero_add]
    exact ⟨e _ _ e0, e _ _ e1, e _ _ e2, e _ _ e3, e _ _ e4, e _ _ e5⟩
/-- one term more -/
theorem TOwn.add {B g' c' : Nat} {l : List Tm} {t : Tm} {v : Value} {w w4 : World} {o : Obj} {v0 v1 v2 v3 v4 v5 : Value} {xs : List Value} (hx : ∀ (m : Nat) (hm : m < l.length), ∃ v0 v1 v2 v3 v4 v5, xs[m * 6]? = some v0 ∧ xs[m * 6 + 1]? = some v1 ∧ xs[m * 6 + 2]? = some v2 ∧ xs[m * 6 + 3]? = some v3 ∧ xs[m * 6 + 4]? = some v4 ∧ xs[m * 6 + 5]? = some v5 ∧
    Lies (fun k => v.ownBlock = some k) w l[m] (.agg #[v0, v1, v2, v3, v4, v5])) (ho : w.ownsRow B 36 6 v l.length xs)
    (ht : Lies (fun k => v.ownBlock = some k) w t (.agg #[v0, v1, v2, v3, v4, v5])) (ho4 : w4.ownsRow B 36 6 (.slice (some ⟨g', 0, none⟩) (l.length + 1) c') (l.length + 1) (xs ++ [v0, v1, v2, v3, v4, v5]))
    (hg4 : (w.alloc o).grownBy w4 v.ownBlock) (ha : v.ownBlock = some g' ∨ w.heap.size ≤ g') : TOwn B (l ++ [t]) (.slice (some ⟨g', 0, none⟩) (l ++ [t]).length c') w4 ∧ Keep (fun k => v.ownBlock = some k) w w4 := by
  have hk : Keep (fun k => v.ownBlock = some k) w w4 := (Keep.of_below (F := fun k => v.ownBlock = some k) (ba w o)).trans (Keep.of_grown (F := fun k => v.ownBlock = some k) hg4 fun k e => e) fun _ => Or.inl
  have hsub : ∀ b, b < w.heap.size → (Value.slice (some ⟨g', 0, none⟩) (l ++ [t]).length c').ownBlock = some b → v.ownBlock = some b := fun b hb e => by
    simp only [Value.ownBlock, Option.some.injEq] at e
    subst e
    exact ha.elim id fun h => by omega
  have hxl := ho.1
  refine ⟨⟨xs ++ [v0, v1, v2, v3, v4, v5], by simpa using ho4, fun m hm => ?_⟩, hk⟩
  simp only [List.length_append, List.length_singleton] at hm
  by_cases hml : m < l.length
  · obtain ⟨u0, u1, u2, u3, u4, u5, h0, h1, h2, h3, h4, h5, hl⟩ := hx m hml
    have e : ∀ j x, xs[j]? = some x → (xs ++ [v0, v1, v2, v3, v4, v5])[j]? = some x := fun j x hj => by
      rw [List.getElem?_append_left (List.getElem?_eq_some_iff.1 hj).1]; exact hj
    rw [List.getElem_append_left hml]
    exact ⟨u0, u1, u2, u3, u4, u5, e _ _ h0, e _ _ h1, e _ _ h2, e _ _ h3, e _ _ h4, e _ _ h5, Lies.keep hk hsub _ _ hl⟩
  · have hm' : m = l.length := by omega
    subst hm'
    have e : ∀ j, (xs ++ [v0, v1, v2, v3, v4, v5])[l.length * 6 + j]? = [v0, v1, v2, v3, v4, v5][j]? := fun j => by
      rw [List.getElem?_append_right (by omega)]; congr 1; omega
    have ht' := Lies.keep hk hsub _ _ ht
    refine ⟨v0, v1, v2, v3, v4, v5, e 0, e 1, e 2, e 3, e 4, e 5, ?_⟩
    simpa using ht'
theorem news6 (w : World) (v0 v1 v2 v3 v4 v5 : Value) (t : TypeId) : ∀ j u, [v0, v1, v2, v3, v4, v5][j]? = some u → (w.alloc (.cells #[v0, v1, v2, v3, v4, v5] t)).cell? ((⟨w.heap.size, 0, none⟩ : Addr).add j) = some u := by
  intro j u hj
  rw [add_plain, Nat.zero_add]
  exact alloc_cell w _ #[v0, v1, v2, v3, v4, v5] t u j rfl (by simpa using hj)
end Go.Proofs.Ytibepkljcofpdaa.ow6
