/- Slices of one's own as objects: Row: one slice, its cells; Cont: several, read alone. -/
import Derived.Test.YthableojkjhicaaOb
import Derived.Laws.OwnMore
import Derived.Maps.AppendAt
import Derived.Deep.AppendLies
namespace Go.Proofs.Ythableojkjhicaa.ob
open Go.ChangeShapes Go.WideShapes Go.ChangeAt Go.RowKit Go.Maps
open Go.Proofs.Ythableojkjhicaa.kp
set_option linter.unusedVariables false
theorem ow_keep {w w' : World} {b e s n : Nat} {v : Value} {xs : List Value} (h : w.ownsRow b e s v n xs) (hk : ∀ k, v.ownBlock = some k → w'.heap[k]? = w.heap[k]?) : w'.ownsRow b e s v n xs := by
  obtain ⟨hl, hr⟩ := h
  refine ⟨hl, ?_⟩
  rcases hr with hr | ⟨g, cap, cur, rfl, hg0, hg, r⟩
  · exact Or.inl hr
  · exact Or.inr ⟨g, cap, cur, rfl, hg0, (hk g rfl).trans hg, r⟩
/-- the slice v holds the n elements xs (size cells each, of type e) -/
def Row (e : TypeId) (size : Nat) (v : Value) (n : Nat) (xs : List Value) : Ob := fun w N => w.ownsRow 0 e size v n xs ∧ ∀ k, N k ↔ v.ownBlock = some k
section
variable {A : Ob} {W w w' w1 w2 : World} {N : Nat → Prop} {e : TypeId} {size n : Nat} {v v' : Value} {xs ys : List Value}
theorem Fr.row : Fr (Row e size v n xs) where
  lt := by
    rintro w N ⟨h, f⟩ k hk
    exact (h.lt k ((f k).1 hk)).2
  keep := by
    rintro w w' N F ⟨h, f⟩ k hd
    exact ⟨ow_keep h fun i e => k.block i (h.lt i e).2 (hd i ((f i).2 e)), f⟩
theorem Row.nil (w : World) : Row e size (.slice none 0 0) 0 [] w (fun _ => False) := ⟨World.ownsRow_nil _ _ _ _, fun k => by simp [Value.ownBlock]⟩
theorem Row.shape (h : Row e size v n xs w N) : ∃ a c, v = .slice a n c := kp.shape h.1
/-- appended to -/
theorem Row.push (h : Row e size v n xs w N) (b1 : Below w.heap.size w w1) {n' : Nat} (hr : w2.ownsRow 0 e size v' n' ys) (g2 : w1.grownBy w2 v.ownBlock) (hat : v'.ownBlock = v.ownBlock ∨ v'.ownBlock = some w1.heap.size) : Nx (Row e size v' n' ys) w N w2 := by
  have s1 := b1.size
  refine ⟨fun k => v'.ownBlock = some k, ⟨hr, fun _ => Iff.rfl⟩, (Keep.of_below (F := N) b1).trans (Keep.of_grown (F := N) g2 fun k e => (h.2 k).2 e) (fun _ => Or.inl), fun k hk => ?_⟩
  rcases hat with e' | e'
  · exact Or.inl ((h.2 k).2 (e' ▸ hk))
  · rw [e'] at hk; injection hk with hk; exact Or.inr (by omega)
/-- an element of one cell -/
theorem Row.look {a : Option Addr} {c : Nat} (h : Row e 1 (.slice a n c) n xs w N) {k : Nat} (hk : k < n) : ∃ g x, a = some ⟨g, 0, none⟩ ∧ g < w.heap.size ∧ n ≤ c ∧ xs[k]? = some x ∧ w.cell? ⟨g, k, none⟩ = some x := by
  obtain ⟨h, f⟩ := h
  have hl : xs.length = n := by have := h.1; omega
  rcases h.2 with ⟨_, e0⟩ | ⟨g, cap, cur, ev, _, hg, hc, _⟩
  · omega
  injection ev with ea _ ec
  subst ea; subst ec
  have hx : k < xs.length := by omega
  refine ⟨g, xs[k], rfl, (Array.getElem?_eq_some_iff.1 hg).1, hc, List.getElem?_eq_getElem hx, ?_⟩
  rw [h.cellAt k (by omega), List.getElem?_eq_getElem hx]
theorem Row.len (h : Row e 1 v n xs w N) : xs.length = n := by have := h.1.1; omega
end
/-- slices that are read alone: each one's cells -/
def Cont (e : TypeId) (L : List (Value × List Value)) : Ob := fun w N => (∀ x ∈ L, w.ownsRow 0 e 1 x.1 x.2.length x.2) ∧ ∀ k, N k ↔ ∃ x ∈ L, x.1.ownBlock = some k
theorem Fr.cont {e : TypeId} {L : List (Value × List Value)} : Fr (Cont e L) where
  lt := by
    rintro w N ⟨h, f⟩ k hk
    obtain ⟨x, hx, hb⟩ := (f k).1 hk
    exact ((h x hx).lt k hb).2
  keep := by
    rintro w w' N F ⟨h, f⟩ k hd
    exact ⟨fun x hx => ow_keep (h x hx) fun i e => k.block i ((h x hx).lt i e).2 (hd i ((f i).2 ⟨x, hx, e⟩)), f⟩
theorem Cont.nil {e : TypeId} (w : World) : Cont e [] w (fun _ => False) := ⟨fun x hx => by simp at hx, fun k => by simp⟩
theorem Cont.add {e : TypeId} {L : List (Value × List Value)} {v : Value} {xs : List Value} {w : World} {N : Nat → Prop} (h : Tim (Cont e L) (Row e 1 v xs.length xs) w N) : Cont e (L ++ [(v, xs)]) w N := by
  obtain ⟨K, M, ⟨a, fa⟩, ⟨b, fb⟩, d, f⟩ := h
  refine ⟨fun x hx => ?_, fun k => ?_⟩
  · rcases List.mem_append.1 hx with hx | hx
    · exact a x hx
    · simp at hx; subst hx; exact b
  · rw [f k, fa k, fb k]
    constructor
    · rintro (⟨x, hx, e⟩ | e)
      · exact ⟨x, List.mem_append.2 (Or.inl hx), e⟩
      · exact ⟨(v, xs), List.mem_append.2 (Or.inr (by simp)), e⟩
    · rintro ⟨x, hx, e⟩
      rcases List.mem_append.1 hx with hx | hx
      · exact Or.inl ⟨x, hx, e⟩
      · simp at hx; subst hx; exact Or.inr e
end Go.Proofs.Ythableojkjhicaa.ob
