/- The way through a term, node by node: what next tells, in terms of the nodes that are still to come. -/
import Derived.Test.YtibepkljcofpdaaWalk
namespace Go.Proofs.Ytibepkljcofpdaa.cur
set_option linter.unusedVariables false
open Go.ChangeShapes Go.WideShapes Go.ChangeAt Go.RowKit
open Go.Proofs.Ytibepkljcofpdaa.tm Go.Proofs.Ytibepkljcofpdaa.lie Go.Proofs.Ytibepkljcofpdaa.kp Go.Proofs.Ytibepkljcofpdaa.wlk
/-- what is still to come, the last row first -/
def flatR : List (List Tm) → List (Tm × Nat)
  | [] => []
  | row :: R => preL (R.length + 1) row ++ flatR R
def flat (R : List (List Tm)) : List (Tm × Nat) := flatR R.reverse
theorem flatR_empty : ∀ {S : List (List Tm)}, (∀ x ∈ S, x = []) → ∀ T, flatR (S ++ T) = flatR T
  | [], _, T => rfl
  | x :: S, h, T => by
    have : x = [] := h x (by simp)
    subst this
    rw [List.cons_append, flatR, flatR_empty (fun x hx => h x (by simp [hx]))]
    simp [preL]
theorem decomp : ∀ (S : List (List Tm)), (∀ x ∈ S, x = []) ∨ ∃ (E : List (List Tm)) (t : Tm) (row : List Tm) (T : List (List Tm)), S = E ++ (t :: row) :: T ∧ ∀ x ∈ E, x = []
  | [] => Or.inl (by simp)
  | (t :: row) :: S => Or.inr ⟨[], t, row, S, rfl, by simp⟩
  | [] :: S => by
    rcases decomp S with h | ⟨E, t, row, T, rfl, h⟩
    · exact Or.inl (by simpa using h)
    · exact Or.inr ⟨[] :: E, t, row, T, rfl, by simpa using h⟩
theorem flatR_kids (t : Tm) (row : List Tm) (T : List (List Tm)) : flatR ((t :: row) :: T) = (t, T.length + 1) :: flatR ((kids t).reverse ++ row :: T) := by
  obtain ⟨k, n, i, re, im, l⟩ := t
  by_cases h : k = 5
  · subst h
    simp [flatR, kids, preL, pre]
  · simp [flatR, kids, preL, pre, h]
theorem kids_len (t : Tm) : (kids t).length ≤ 1 := by
  obtain ⟨k, n, i, re, im, l⟩ := t
  by_cases h : k = 5 <;> simp [kids, h]
/-- the rows: nothing is left, or one node is next -/
theorem flat_cases (R : List (List Tm)) : (flat R = [] ∧ ∀ x ∈ R, x = []) ∨
    ∃ (R0 E : List (List Tm)) (t : Tm) (row : List Tm), R = R0 ++ (t :: row) :: E ∧ (∀ x ∈ E, x = []) ∧ flat R = (t, R0.length + 1) :: flat (R0 ++ [row] ++ kids t) := by
  rcases decomp R.reverse with h | ⟨E, t, row, T, h, hE⟩
  · left
    refine ⟨?_, fun x hx => h x (by simpa using hx)⟩
    have := flatR_empty h []
    simpa [flat, flatR] using this
  · right
    refine ⟨T.reverse, E.reverse, t, row, ?_, fun x hx => hE x (by simpa using hx), ?_⟩
    · have := congrArg List.reverse h
      simpa using this
    · rw [flat, h, flatR_empty hE, flatR_kids]
      simp [flat]
def After (B r : Nat) (L : List (Tm × Nat)) (p : Nat) (F : Nat → Prop) (w : World) (k0 : Int) (n0 : ByteArray) (i0 re0 im0 : Int) (a0 : Option Addr) (l0 c0 : Nat) (d : Int) (b : Bool) (w' : World) : Prop :=
  Keep F w w' ∧ ((L = [] ∧ b = false) ∨ ∃ t k L' R' F', L = (t, k) :: L' ∧ d = (k : Nat) ∧ b = true ∧ Lies (Off B r) w' t (.agg #[.int .i64 k0, .string n0, .int .i64 i0, .int .u64 re0, .int .u64 im0, .slice a0 l0 c0]) ∧ TWay B r w' p F' R' ∧ flat R' = L' ∧ R'.length ≤ k + 1 ∧ ∀ i, F' i → F i ∨ w.heap.size ≤ i)
def NextAny (B r : Nat) (L : List (Tm × Nat)) (p : Nat) (F : Nat → Prop) (w : World) (e : Ending) (w' : World) : Prop :=
  ∃ k0 n0 i0 re0 im0 a0 l0 c0 d b, e = .returned (.tuple #[.agg #[.int .i64 k0, .string n0, .int .i64 i0, .int .u64 re0, .int .u64 im0, .slice a0 l0 c0], .int .i64 d, .bool b]) ∧ After B r L p F w k0 n0 i0 re0 im0 a0 l0 c0 d b w'
theorem next_flat (B r : Nat) (w : World) (p : Nat) (F : Nat → Prop) (R : List (List Tm)) (h : TWay B r w p F R) (h9 : R.length ≤ 1000) (hr : r < w.heap.size) :
    Calls Try.prog 79 #[.pointer (some ⟨p, 0, none⟩)] w (NextAny B r (flat R) p F w) := by
  rcases flat_cases R with ⟨h0, hR⟩ | ⟨R0, E, t, row, rfl, hE, hL⟩
  · refine (next_none B r w p F R h hR h9).mono fun e w' ⟨he, hk⟩ => ?_
    exact ⟨_, _, _, _, _, _, _, _, _, _, he, hk, Or.inl ⟨h0, rfl⟩⟩
  · have hl : (R0 ++ (t :: row) :: E).length = R0.length + 1 + E.length := by simp; omega
    refine (next_some B r w p F R0 E t row h hE (by omega) hr).mono fun e w' ⟨v, he, hv, F', hw, hk, hF⟩ => ?_
    have hv' := hv
    obtain ⟨k, n, i, re, im, l⟩ := t
    rw [Lies] at hv'
    obtain ⟨a, c, rfl, _⟩ := hv'
    refine ⟨_, _, _, _, _, _, _, _, _, _, he, hk, Or.inr ⟨_, _, _, _, F', hL, rfl, rfl, hv, hw, rfl, ?_, hF⟩⟩
    have := kids_len (Tm.mk k n i re im l)
    simp only [List.length_append, List.length_cons, List.length_nil]; omega
/-- THE CURSOR: the node in block nb, d its depth, b whether there is one; L: it and all that come behind it -/
def Cur (B r : Nat) (L : List (Tm × Nat)) (p : Nat) (w : World) (nb : Nat) (k0 : Int) (n0 : ByteArray) (i0 re0 im0 : Int) (a0 : Option Addr) (l0 c0 : Nat) (d : Int) (b : Bool) : Prop :=
  w.heap[nb]? = some (.cells #[.int .i64 k0, .string n0, .int .i64 i0, .int .u64 re0, .int .u64 im0, .slice a0 l0 c0] 36 (0, 0)) ∧ ((L = [] ∧ b = false) ∨ ∃ t k L' R F, L = (t, k) :: L' ∧ d = (k : Nat) ∧ b = true ∧ Lies (Off B r) w t (.agg #[.int .i64 k0, .string n0, .int .i64 i0, .int .u64 re0, .int .u64 im0, .slice a0 l0 c0]) ∧ TWay B r w p F R ∧ flat R = L' ∧ R.length ≤ k + 1 ∧ r < w.heap.size ∧ ¬ F nb ∧ Off B r nb)
theorem After.first {B r p : Nat} {L : List (Tm × Nat)} {F : Nat → Prop} {w w' : World} {k0 : Int} {n0 : ByteArray} {i0 re0 im0 : Int} {a0 : Option Addr} {l0 c0 : Nat} {d : Int} {b : Bool} (h : After B r L p F w k0 n0 i0 re0 im0 a0 l0 c0 d b w') (hB : B ≤ w.heap.size) (hr : r < w.heap.size) :
    Cur B r L p (w'.alloc (.cells #[.int .i64 k0, .string n0, .int .i64 i0, .int .u64 re0, .int .u64 im0, .slice a0 l0 c0] 36)) w'.heap.size k0 n0 i0 re0 im0 a0 l0 c0 d b := by
  obtain ⟨hk, h⟩ := h
  have hs := hk.size
  refine ⟨alloc_at _ _, ?_⟩
  rcases h with h | ⟨t, k, L', R', F', rfl, rfl, rfl, hv, hw, hf, hl, hF⟩
  · exact Or.inl h
  · exact Or.inr ⟨t, k, L', R', F', rfl, rfl, rfl, hv.below (ba _ _), hw.keep (G := No) (Keep.of_below (ba _ _)) (fun _ _ => id) (fun _ h => h.elim), hf, hl, by rw [alloc_size]; omega, fun h => by have := (hw.lt _ h).2.2; omega, by omega, by omega⟩
theorem After.store {B r p nb : Nat} {L : List (Tm × Nat)} {F : Nat → Prop} {w w' : World} {k0 : Int} {n0 : ByteArray} {i0 re0 im0 : Int} {a0 : Option Addr} {l0 c0 : Nat} {u0 u1 u2 u3 u4 u5 : Value} {d : Int} {b : Bool} (h : After B r L p F w k0 n0 i0 re0 im0 a0 l0 c0 d b w') (hr : r < w.heap.size)
    (hn : w.heap[nb]? = some (.cells #[u0, u1, u2, u3, u4, u5] 36 (0, 0))) (hF0 : ¬ F nb) (ho : Off B r nb) :
    Cur B r L p ((((((w'.setCell ⟨nb, 0, none⟩ (.int .i64 k0)).setCell ⟨nb, 1, none⟩ (.string n0)).setCell ⟨nb, 2, none⟩ (.int .i64 i0)).setCell ⟨nb, 3, none⟩ (.int .u64 re0)).setCell ⟨nb, 4, none⟩ (.int .u64 im0)).setCell ⟨nb, 5, none⟩ (.slice a0 l0 c0)) nb k0 n0 i0 re0 im0 a0 l0 c0 d b := by
  obtain ⟨hk, h⟩ := h
  have hs := hk.size
  have hnb : nb < w.heap.size := (Array.getElem?_eq_some_iff.1 hn).1
  have hn' := (hk.block nb hnb hF0).trans hn
  have k6 := keep_set6 w' nb (.int .i64 k0) (.string n0) (.int .i64 i0) (.int .u64 re0) (.int .u64 im0) (.slice a0 l0 c0)
  refine ⟨?_, ?_⟩
  · have e := fun (w : World) (i : Nat) (cs : Array Value) (v : Value) (hg : w.heap[nb]? = some (.cells cs 36 (0, 0))) => heap_setCell_same w nb i cs 36 v hg
    have := e _ 5 _ (.slice a0 l0 c0) (e _ 4 _ (.int .u64 im0) (e _ 3 _ (.int .u64 re0) (e _ 2 _ (.int .i64 i0) (e _ 1 _ (.string n0) (e w' 0 _ (.int .i64 k0) hn')))))
    simpa using this
  rcases h with h | ⟨t, k, L', R', F', rfl, rfl, rfl, hv, hw, hf, hl, hF⟩
  · exact Or.inl h
  · have hnF : ¬ F' nb := fun h => (hF _ h).elim hF0 fun e => by omega
    refine Or.inr ⟨t, k, L', R', F', rfl, rfl, rfl, Lies.keep (k6.mono (G := Off B r) fun i h => by subst h; exact ho) (fun _ _ => id) _ _ hv, hw.keep k6 (fun i h e => hnF (e ▸ h)) (fun i h => by subst h; exact ho), hf, hl, ?_, hnF, ho⟩
    have := k6.size
    omega
theorem blk_facts {w : World} {b : Nat} {v0 v1 v2 v3 v4 v5 : Value} {t : TypeId} (h : w.heap[b]? = some (.cells #[v0, v1, v2, v3, v4, v5] t (0, 0))) :
    (w.cell? ⟨b, 0, none⟩ = some v0 ∧ w.cell? ⟨b, 1, none⟩ = some v1 ∧ w.cell? ⟨b, 2, none⟩ = some v2 ∧ w.cell? ⟨b, 3, none⟩ = some v3 ∧ w.cell? ⟨b, 4, none⟩ = some v4 ∧ w.cell? ⟨b, 5, none⟩ = some v5) ∧
    w.frozen? ⟨b, 0, none⟩ = false ∧ w.frozen? ⟨b, 1, none⟩ = false ∧ w.frozen? ⟨b, 2, none⟩ = false ∧ w.frozen? ⟨b, 3, none⟩ = false ∧ w.frozen? ⟨b, 4, none⟩ = false ∧ w.frozen? ⟨b, 5, none⟩ = false := by
  refine ⟨⟨?_, ?_, ?_, ?_, ?_, ?_⟩, ?_, ?_, ?_, ?_, ?_, ?_⟩ <;> simp [World.cell?, World.frozen?, h]
end Go.Proofs.Ytibepkljcofpdaa.cur
