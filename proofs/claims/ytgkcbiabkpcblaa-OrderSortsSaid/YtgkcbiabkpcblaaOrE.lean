/- Rows of terms in memory that are sorted where they lie: no walk. -/
import Derived.Test.YtgkcbiabkpcblaaOrD
import Derived.Test.YtgkcbiabkpcblaaOrS
import Derived.Laws.CopyOwn
namespace Go.Proofs.Ytgkcbiabkpcblaa.ode
open Go.ChangeShapes Go.WideShapes Go.ChangeAt Go.RowKit
set_option linter.unusedVariables false
open Go.Proofs.Ytgkcbiabkpcblaa.tm Go.Proofs.Ytgkcbiabkpcblaa.lie Go.Proofs.Ytgkcbiabkpcblaa.kp Go.Proofs.Ytgkcbiabkpcblaa.cur Go.Proofs.Ytgkcbiabkpcblaa.rws Go.Proofs.Ytgkcbiabkpcblaa.pla Go.Proofs.Ytgkcbiabkpcblaa.lev
/-- what has been made behind W -/
abbrev Nw (W : World) : Nat → Prop := fun k => W.heap.size ≤ k
/-- a term in six cells -/
structure E where
  v0 : Value
  v1 : Value
  v2 : Value
  v3 : Value
  v4 : Value
  v5 : Value
  t : Tm
def E.cs (e : E) : List Value := [e.v0, e.v1, e.v2, e.v3, e.v4, e.v5]
def E.v (e : E) : Value := .agg #[e.v0, e.v1, e.v2, e.v3, e.v4, e.v5]
def flat (A : List E) : List Value := A.flatMap E.cs
theorem flat_nil : flat [] = [] := rfl
theorem flat_cons (e : E) (A : List E) : flat (e :: A) = e.cs ++ flat A := by simp [flat]
theorem flat_append (A B : List E) : flat (A ++ B) = flat A ++ flat B := by simp [flat]
theorem flat_len (A : List E) : (flat A).length = A.length * 6 := by
  induction A with
  | nil => rfl
  | cons e A ih => rw [flat_cons, List.length_append, ih, List.length_cons]; simp [E.cs]; omega
theorem flat_take (A : List E) : ∀ n, (flat A).take (n * 6) = flat (A.take n) := by
  induction A with
  | nil => intro n; simp [flat]
  | cons e A ih =>
    intro n
    cases n with
    | zero => simp [flat]
    | succ n =>
      rw [List.take_succ_cons, flat_cons, flat_cons, ← ih n, List.take_append, show (n + 1) * 6 - e.cs.length = n * 6 by simp [E.cs]; omega, List.take_of_length_le (by simp [E.cs]; omega)]
theorem flat_drop (A : List E) : ∀ n, (flat A).drop (n * 6) = flat (A.drop n) := by
  induction A with
  | nil => intro n; simp [flat]
  | cons e A ih =>
    intro n
    cases n with
    | zero => simp [flat]
    | succ n =>
      rw [List.drop_succ_cons, flat_cons, ← ih n, List.drop_append, show (n + 1) * 6 - e.cs.length = n * 6 by simp [E.cs]; omega, List.drop_of_length_le (by simp [E.cs]; omega), List.nil_append]
theorem flat_at {A : List E} {m : Nat} (h : m < A.length) (sp : List Value) {j : Nat} (hj : j < 6) : (flat A ++ sp)[m * 6 + j]? = A[m].cs[j]? := by
  have e : A = A.take m ++ (A[m] :: A.drop (m + 1)) := by rw [List.getElem_cons_drop, List.take_append_drop]
  have hl : (flat (A.take m)).length = m * 6 := by rw [flat_len, List.length_take, Nat.min_eq_left (by omega)]
  conv => lhs; rw [e]
  rw [flat_append, flat_cons, List.append_assoc, List.getElem?_append_right (by rw [hl]; omega), hl, Nat.add_sub_cancel_left, List.append_assoc, List.getElem?_append_left (by simp [E.cs]; omega)]
theorem flat_set {A : List E} {m : Nat} (h : m < A.length) (sp : List Value) (e : E) :
    ((((((flat A ++ sp).toArray.setIfInBounds (m * 6) e.v0).setIfInBounds (m * 6 + 1) e.v1).setIfInBounds (m * 6 + 2) e.v2).setIfInBounds (m * 6 + 3) e.v3).setIfInBounds (m * 6 + 4) e.v4).setIfInBounds (m * 6 + 5) e.v5 = (flat (A.set m e) ++ sp).toArray := by
  have hA : A = A.take m ++ (A[m] :: A.drop (m + 1)) := by rw [List.getElem_cons_drop, List.take_append_drop]
  have hl : (flat (A.take m)).length = m * 6 := by rw [flat_len, List.length_take, Nat.min_eq_left (by omega)]
  have h1 : A.set m e = A.take m ++ (e :: A.drop (m + 1)) := List.set_eq_take_append_cons_drop.trans (if_pos h)
  rw [h1]
  obtain ⟨L, hL⟩ : ∃ L, L = A.take m := ⟨_, rfl⟩
  obtain ⟨R, hR⟩ : ∃ R, R = A.drop (m + 1) := ⟨_, rfl⟩
  obtain ⟨x, hx⟩ : ∃ x, x = A[m] := ⟨_, rfl⟩
  rw [← hL, ← hR, ← hx] at hA
  rw [← hL] at hl
  rw [← hL, ← hR, hA]
  simp only [flat_append, flat_cons, E.cs, List.setIfInBounds_toArray, List.append_assoc]
  rw [← hl]
  congr 1
  have s : ∀ (j : Nat) (Y : List Value) (v : Value), (flat L ++ Y).set ((flat L).length + j) v = flat L ++ Y.set j v := fun j Y v => by rw [List.set_append_right _ _ (by omega), Nat.add_sub_cancel_left]
  have s0 : ∀ (Y : List Value) (v : Value), (flat L ++ Y).set ((flat L).length) v = flat L ++ Y.set 0 v := fun Y v => s 0 Y v
  simp only [s, s0]
  rfl
theorem addm (P o m : Nat) : (⟨P, o * 6, none⟩ : Addr).add (m * 6) = ⟨P, (o + m) * 6, none⟩ := by
  unfold Addr.add
  split
  · rename_i h; simp only [Addr.mk.injEq, and_true, true_and]; omega
  · simp only [Addr.mk.injEq, and_true, true_and]; omega
/-- a window of a block of terms: n terms from place o on -/
structure Win (P o : Nat) (a : Option Addr) (n c : Nat) : Prop where
  len : n ≤ c
  cap : c ≤ maxLen
  pos : 0 < n → a = some ⟨P, o * 6, none⟩
theorem elT : Try.prog.elem 23 = 25 := by kernel_rfl
theorem szT (w : World) : (sizeOf 25).run Try.prog w = .ok 6 w := by kernel_rfl
theorem Win.ix {P o n c m : Nat} {a : Option Addr} (h : Win P o a n c) (hm : m < n) (w : World) :
    (Instr.indexAt 23 (.slice a n c) (.int .i64 (m : Int))).run Try.prog w = .ok (.pointer (some ⟨P, (o + m) * 6, none⟩)) w := by
  rw [h.pos (by omega), run_indexAt_slice w 23 _ _ _ _ _ (by rw [elT]; exact Try.underlying23), if_pos ⟨by omega, by have := h.len; omega⟩, elT, szT]
  simp [Result.andThen, addm P o m]
theorem Win.hi {P o n c k : Nat} {a : Option Addr} (h : Win P o a n c) (hk : k ≤ n) : Win P o a k c ∧ (∀ w, (Instr.slice 23 (.slice a n c) none (some (.int .i64 (k : Int))) none).run Try.prog w = .ok (.slice a k c) w) ∧
    (∀ w, (Instr.sliceAt 23 (.slice a n c) none (some (.int .i64 (k : Int))) none).run Try.prog w = .ok (.slice a k c) w) := by
  have hl := h.len
  have r : ∀ w, (Instr.slice 23 (.slice a n c) none (some (.int .i64 (k : Int))) none).run Try.prog w = .ok (.slice a k c) w := fun w => by
    rw [run_slice_h w 23 _ _ _ (by rw [elT]; exact Try.underlying23) _ _ (by omega) (by omega), elT, szT]
    cases a with
    | none => simp [Result.andThen, sliced]
    | some p => simp [Result.andThen, sliced, Addr.add]
  exact ⟨⟨by omega, h.cap, fun q => h.pos (by omega)⟩, r, fun w => by rw [run_sliceAt_slice _ _ _ _ _ _ (by rw [elT]; exact Try.underlying23), r]⟩
theorem Win.lo {P o n c k : Nat} {a : Option Addr} (h : Win P o a n c) (hk : k ≤ n) : ∃ a', Win P (o + k) a' (n - k) (c - k) ∧ (∀ w, (Instr.slice 23 (.slice a n c) (some (.int .i64 (k : Int))) none none).run Try.prog w = .ok (.slice a' (n - k) (c - k)) w) ∧
    (∀ w, (Instr.sliceAt 23 (.slice a n c) (some (.int .i64 (k : Int))) none none).run Try.prog w = .ok (.slice a' (n - k) (c - k)) w) := by
  have hl := h.len
  obtain ⟨a', ha'⟩ : ∃ a', a' = (if k = c then a else a.map fun p => p.add (k * 6)) := ⟨_, rfl⟩
  have r : ∀ w, (Instr.slice 23 (.slice a n c) (some (.int .i64 (k : Int))) none none).run Try.prog w = .ok (.slice a' (n - k) (c - k)) w := fun w => by
    rw [run_slice_l w 23 _ _ _ (by rw [elT]; exact Try.underlying23) _ _ (by omega) (by omega), elT, szT, ha']
    cases a with
    | none => simp [Result.andThen, sliced]
    | some p =>
      by_cases e : k = c
      · simp [Result.andThen, sliced, e]
      · simp [Result.andThen, sliced, e, Ne.symm e]
  refine ⟨a', ⟨by omega, by have := h.cap; omega, fun q => ?_⟩, r, fun w => by rw [run_sliceAt_slice _ _ _ _ _ _ (by rw [elT]; exact Try.underlying23), r]⟩
  rw [ha', h.pos (by omega), if_neg (by omega)]
  simp [addm P o k]
/-- TWO BLOCKS OF TERMS, P and Q, made behind W; what their terms hold lies in old memory -/
structure SO (W : World) (P Q : Nat) (A B : List E) (sp sq : List Value) (w : World) : Prop where
  pa : w.heap[P]? = some (.cells (flat A ++ sp).toArray 25 (0, 0))
  qa : w.heap[Q]? = some (.cells (flat B ++ sq).toArray 25 (0, 0))
  la : ∀ e ∈ A, Lies (Nw W) w e.t e.v
  lb : ∀ e ∈ B, Lies (Nw W) w e.t e.v
  ne : P ≠ Q
  hp : W.heap.size ≤ P
  hq : W.heap.size ≤ Q
  bel : Below W.heap.size W w
theorem SO.below {W w w' : World} {P Q : Nat} {A B : List E} {sp sq : List Value} (h : SO W P Q A B sp sq w) (hb : Below w.heap.size w w') : SO W P Q A B sp sq w' :=
  ⟨(hb.block _ (Array.getElem?_eq_some_iff.1 h.pa).1).trans h.pa, (hb.block _ (Array.getElem?_eq_some_iff.1 h.qa).1).trans h.qa, fun e he => (h.la e he).below hb, fun e he => (h.lb e he).below hb, h.ne, h.hp, h.hq, h.bel.trans (hb.mono h.bel.size)⟩
theorem SO.swap {W w : World} {P Q : Nat} {A B : List E} {sp sq : List Value} (h : SO W P Q A B sp sq w) : SO W Q P B A sq sp w := ⟨h.qa, h.pa, h.lb, h.la, h.ne.symm, h.hq, h.hp, h.bel⟩
theorem blk_six {w : World} {P : Nat} {A : List E} {sp : List Value} (h : w.heap[P]? = some (.cells (flat A ++ sp).toArray 25 (0, 0))) {m : Nat} (hm : m < A.length) :
    Six w P (m * 6) A[m].v0 A[m].v1 A[m].v2 A[m].v3 A[m].v4 A[m].v5 ∧ ∀ o, w.frozen? ⟨P, o, none⟩ = false := by
  have f := fun j (hj : j < 6) => flat_at hm sp hj
  refine ⟨⟨?_, ?_, ?_, ?_, ?_, ?_⟩, fun o => by simp [World.frozen?, h]⟩
  · simpa [World.cell?, h, E.cs] using f 0 (by omega)
  · simpa [World.cell?, h, E.cs] using f 1 (by omega)
  · simpa [World.cell?, h, E.cs] using f 2 (by omega)
  · simpa [World.cell?, h, E.cs] using f 3 (by omega)
  · simpa [World.cell?, h, E.cs] using f 4 (by omega)
  · simpa [World.cell?, h, E.cs] using f 5 (by omega)
theorem SO.set {W w : World} {P Q : Nat} {A B : List E} {sp sq : List Value} (h : SO W P Q A B sp sq w) {m : Nat} (hm : m < A.length) (e : E) (he : Lies (Nw W) w e.t e.v) :
    SO W P Q (A.set m e) B sp sq (set6 w P (m * 6) e.v0 e.v1 e.v2 e.v3 e.v4 e.v5) := by
  have k6 := set6_keep w P (m * 6) e.v0 e.v1 e.v2 e.v3 e.v4 e.v5
  have kO := k6.mono (G := Nw W) fun k q => by subst q; exact h.hp
  have lk : ∀ x : E, Lies (Nw W) w x.t x.v → Lies (Nw W) (set6 w P (m * 6) e.v0 e.v1 e.v2 e.v3 e.v4 e.v5) x.t x.v := fun x hx => Lies.keep kO (fun _ _ => id) _ _ hx
  refine ⟨?_, (k6.block Q (Array.getElem?_eq_some_iff.1 h.qa).1 (fun q => h.ne q.symm)).trans h.qa, ?_, fun x hx => lk x (h.lb x hx), h.ne, h.hp, h.hq, h.bel.trans (k6.to_below (fun k q => by subst q; exact h.hp) h.bel.size)⟩
  · rw [set6_heap h.pa, flat_set hm]
  · intro x hx
    rcases List.mem_or_eq_of_mem_set hx with q | q
    · exact lk x (h.la x q)
    · subst q; exact lk x he
end Go.Proofs.Ytgkcbiabkpcblaa.ode
