/- Package term: the way through a term (begin, next). -/
import Derived.Test.YtibepkljcofpdaaLie
import Derived.WalkKit
import Derived.Lib.SmallJoins
import Derived.ScopeJumps
import Derived.WalkMore
import Derived.Deep.AppendLies
import Derived.Deep.RegionLaw
namespace Go.Proofs.Ytibepkljcofpdaa.wlk
set_option linter.unusedVariables false
open Go.ChangeShapes Go.WideShapes Go.ChangeAt Go.RowKit
open Go.Proofs.Ytibepkljcofpdaa.tm Go.Proofs.Ytibepkljcofpdaa.lie Go.Proofs.Ytibepkljcofpdaa.kp
/-- each value is a slice of the terms of its row -/
def All (X : Nat → Prop) (w : World) : List (List Tm) → List Value → Prop
  | [], [] => True
  | r :: R, x :: xs => Slc X w r x ∧ All X w R xs
  | _, _ => False
theorem All.len {X : Nat → Prop} {w : World} : ∀ {R : List (List Tm)} {xs : List Value}, All X w R xs → xs.length = R.length
  | [], [], _ => rfl
  | _ :: _, _ :: _, h => by simp [All.len h.2]
  | [], _ :: _, h => h.elim
  | _ :: _, [], h => h.elim
theorem All.map {X Y : Nat → Prop} {w w' : World} (f : ∀ l v, Slc X w l v → Slc Y w' l v) : ∀ {R : List (List Tm)} {xs : List Value}, All X w R xs → All Y w' R xs
  | [], [], _ => trivial
  | _ :: _, _ :: _, h => ⟨f _ _ h.1, All.map f h.2⟩
  | [], _ :: _, h => h.elim
  | _ :: _, [], h => h.elim
theorem All.append {X : Nat → Prop} {w : World} : ∀ {R S : List (List Tm)} {xs ys : List Value}, All X w R xs → All X w S ys → All X w (R ++ S) (xs ++ ys)
  | [], _, [], _, _, h => h
  | _ :: _, _, _ :: _, _, h, k => ⟨h.1, All.append h.2 k⟩
  | [], _, _ :: _, _, h, _ => h.elim
  | _ :: _, _, [], _, h, _ => h.elim
theorem All.split {X : Nat → Prop} {w : World} : ∀ {R S : List (List Tm)} {xs : List Value}, All X w (R ++ S) xs → All X w R (xs.take R.length) ∧ All X w S (xs.drop R.length)
  | [], _, xs, h => by simpa [All] using h
  | _ :: R, _, x :: xs, h => by
    have := All.split (R := R) h.2
    exact ⟨⟨h.1, this.1⟩, this.2⟩
  | _ :: _, _, [], h => h.elim
/-- all that is new from block B on, but for the block r (the root's own row) -/
abbrev Off (B r : Nat) : Nat → Prop := fun k => B ≤ k ∧ k ≠ r
/-- THE WAY at block p, what is still to be met: R (the root's row first); F: its own blocks; the terms lie off all that is new but r. -/
def TWay (B r : Nat) (w : World) (p : Nat) (F : Nat → Prop) (R : List (List Tm)) : Prop :=
  ∃ g c xs, w.heap[p]? = some (.cells #[.slice (some ⟨g, 0, none⟩) R.length c] 148 (0, 0)) ∧ w.ownsRow B 22 1 (.slice (some ⟨g, 0, none⟩) R.length c) R.length xs ∧ All (Off B r) w R xs ∧
    p ≠ g ∧ (∀ k, F k ↔ k = p ∨ k = g) ∧ (∀ k, F k → Off B r k)
theorem TWay.lt {B r : Nat} {w : World} {p : Nat} {F : Nat → Prop} {R : List (List Tm)} (h : TWay B r w p F R) : ∀ k, F k → B ≤ k ∧ k ≠ r ∧ k < w.heap.size := by
  obtain ⟨g, c, xs, hp, ho, _, _, hF, hO⟩ := h
  intro k hk
  refine ⟨(hO k hk).1, (hO k hk).2, ?_⟩
  rcases (hF k).1 hk with rfl | rfl
  · exact (Array.getElem?_eq_some_iff.1 hp).1
  · exact (ho.lt _ rfl).2
theorem TWay.keep {B r : Nat} {w w' : World} {p : Nat} {F G : Nat → Prop} {R : List (List Tm)} (h : TWay B r w p F R) (hk : Keep G w w') (hd : ∀ k, F k → ¬ G k) (hG : ∀ k, G k → B ≤ k ∧ k ≠ r) : TWay B r w' p F R := by
  have hlt := h.lt
  obtain ⟨g, c, xs, hp, ho, ha, h1, hF, hO⟩ := h
  have hb : ∀ k, F k → w'.heap[k]? = w.heap[k]? := fun k f => hk.block k (hlt k f).2.2 (hd k f)
  refine ⟨g, c, xs, (hb p ((hF p).2 (Or.inl rfl))).trans hp, ?_, ha.map fun l v h => Slc.keep (hk.mono hG) (fun _ _ => id) h, h1, hF, hO⟩
  obtain ⟨hl, hr⟩ := ho
  refine ⟨hl, ?_⟩
  rcases hr with hr | ⟨g', cap, cur, hg, hg0, hgc, r⟩
  · exact Or.inl hr
  · have : g' = g := by simp at hg; exact hg.1.symm
    subst this
    exact Or.inr ⟨g', cap, cur, hg, hg0, (hb g' ((hF g').2 (Or.inr rfl))).trans hgc, r⟩
/-- a new way -/
def Begun (B : Nat) (t : Tm) (w : World) (e : Ending) (w' : World) : Prop := ∃ p F r, e = .returned (.pointer (some ⟨p, 0, none⟩)) ∧ TWay B r w' p F [[t]] ∧ Below w.heap.size w w' ∧ (∀ k, F k → w.heap.size ≤ k) ∧ w.heap.size ≤ r ∧ r < w'.heap.size
theorem six_alloc (w : World) (v0 v1 v2 v3 v4 v5 : Value) (t : TypeId) : Six (w.alloc (.cells #[v0, v1, v2, v3, v4, v5] t)) w.heap.size 0 v0 v1 v2 v3 v4 v5 := by
  refine ⟨?_, ?_, ?_, ?_, ?_, ?_⟩ <;> exact alloc_cell w _ _ t _ _ rfl rfl
theorem begin_any (B : Nat) (t : Tm) (v : Value) (w : World) (hB : B ≤ w.heap.size) (ht : Lies (fun k => B ≤ k) w t v) :
    Calls Try.prog 78 #[v] w (Begun B t w) := by
  obtain ⟨k, n, i, re, im, l⟩ := t
  have HT := Lib.hid ht
  rw [Lies] at ht
  obtain ⟨a, c, rfl, hf, hr⟩ := ht
  have HF := Lib.hid hf
  clear hr hf
  have HB := Lib.hid hB
  clear hB
  go_enter Try.func78, Try.ntmps78
  go_wp2_with fail
  go_ret
  have hB := HB.out
  have hb1 := ba w (.cells #[.int .i64 k, .string n, .int .i64 i, .int .u64 re, .int .u64 im, .slice a l.length c] 36)
  generalize hw1 : w.alloc (.cells #[.int .i64 k, .string n, .int .i64 i, .int .u64 re, .int .u64 im, .slice a l.length c] 36) = w1 at hb1 ⊢
  have hs1 : w1.heap.size = w.heap.size + 1 := by rw [← hw1, alloc_size]
  have hb2 := ba w1 (.cells #[.int .i64 k, .string n, .int .i64 i, .int .u64 re, .int .u64 im, .slice a l.length c] 36)
  have h6 := six_alloc w1 (.int .i64 k) (.string n) (.int .i64 i) (.int .u64 re) (.int .u64 im) (.slice a l.length c) 36
  generalize hw2 : w1.alloc (.cells #[.int .i64 k, .string n, .int .i64 i, .int .u64 re, .int .u64 im, .slice a l.length c] 36) = w2 at hb2 h6 ⊢
  have hs2 : w2.heap.size = w.heap.size + 1 + 1 := by rw [← hw2, alloc_size, hs1]
  have hb3 := ba w2 (.cells #[.slice (some ⟨w.heap.size + 1, 0, none⟩) 1 1] 22)
  generalize hw3 : w2.alloc (.cells #[.slice (some ⟨w.heap.size + 1, 0, none⟩) 1 1] 22) = w3 at hb3 ⊢
  have hs3 : w3.heap.size = w.heap.size + 1 + 1 + 1 := by rw [← hw3, alloc_size, hs2]
  have hb4 := ba w3 (.cells #[.slice (some ⟨w.heap.size + 1 + 1, 0, none⟩) 1 1] 148)
  have hb34 := bt hb3 hb4
  have hb := bt (bt hb1 hb2) hb34
  refine ⟨w.heap.size + 1 + 1 + 1, fun k => k = w.heap.size + 1 + 1 + 1 ∨ k = w.heap.size + 1 + 1, w.heap.size + 1, rfl, ?_, hb, fun k hk => by omega, by omega, by rw [alloc_size, hs3]; omega⟩
  refine ⟨w.heap.size + 1 + 1, 1, [.slice (some ⟨w.heap.size + 1, 0, none⟩) 1 1], ?_, ⟨rfl, Or.inr ⟨w.heap.size + 1 + 1, 1, #[.slice (some ⟨w.heap.size + 1, 0, none⟩) 1 1], rfl, by omega, ?_, by simp, by simp [maxLen], rfl, rfl⟩⟩, ⟨⟨some ⟨w.heap.size + 1, 0, none⟩, 1, rfl, by simp, by simp [maxLen], ?_⟩, trivial⟩, by omega, fun k => Iff.rfl, fun k hk => ⟨by omega, by omega⟩⟩
  · rw [← hs3]; exact alloc_at _ _
  · have : (w3.alloc (Obj.cells #[Value.slice (some ⟨w.heap.size + 1 + 1, 0, none⟩) 1 1] 148)).heap[w.heap.size + 1 + 1]? = w3.heap[w.heap.size + 1 + 1]? := hb4.block _ (by omega)
    rw [this, ← hw3, ← hs2]; exact alloc_at _ _
  · rw [TRow]
    refine ⟨⟨w.heap.size + 1, 0, .int .i64 k, .string n, .int .i64 i, .int .u64 re, .int .u64 im, .slice a l.length c, rfl, by omega, ?_, ?_⟩, by rw [TRow]; trivial⟩
    · have := h6.keep (X := No) (Keep.of_below hb34) id
      simpa [hs1] using this
    · exact (HT.out.off (fun k _ h => h.1)).below hb
/-- slicing off the first: what stands behind it -/
theorem TRow.tail {X : Nat → Prop} {w : World} {t : Tm} {r : List Tm} {a : Option Addr} {c : Nat} (h : TRow X w (t :: r) a 0) (hc : r.length + 1 ≤ c) :
    ∃ a', TRow X w r a' 0 ∧ ∀ w', (Instr.slice 22 (.slice a (r.length + 1) c) (some (.int .i64 1)) none none).run Try.prog w' = .ok (.slice a' r.length (c - 1)) w' := by
  rw [TRow] at h
  obtain ⟨⟨b, o, v0, v1, v2, v3, v4, v5, rfl, _⟩, hr⟩ := h
  refine ⟨if c = 1 then some ⟨b, o, none⟩ else some ⟨b, o + 6, none⟩, ?_, fun w' => ?_⟩
  · by_cases e : c = 1
    · have : r = [] := List.eq_nil_of_length_eq_zero (by omega)
      subst this
      rw [TRow]; trivial
    · rw [if_neg e]
      refine TRow.mk _ _ fun m hm => ?_
      obtain ⟨b', o', v0, v1, v2, v3, v4, v5, ha, hX, hs, ht⟩ := hr.at m hm
      cases ha
      exact ⟨b, o + 6, v0, v1, v2, v3, v4, v5, rfl, hX, by rw [show o + 6 + (0 + m) * 6 = o + (0 + 1 + m) * 6 by omega]; exact hs, ht⟩
  · have he : Try.prog.elem 22 = 36 := by kernel_rfl
    have hz : (sizeOf 36).run Try.prog w' = .ok 6 w' := by kernel_rfl
    rw [run_slice_l w' 22 _ _ _ (by rw [he]; exact Try.underlying22) _ _ (by omega) (by omega), he, hz]
    simp only [Result.andThen, sliced]
    by_cases e : c = 1
    · subst e
      have : r = [] := List.eq_nil_of_length_eq_zero (by omega)
      subst this
      rfl
    · have e' : ¬ c = (1 : Int).toNat := e
      rw [if_neg e, if_neg e']
      simp [Addr.add]
/-- a scope that begins with its label -/
theorem wp_scope_label {P : Program} {Q : Exit → Act → World → Prop} {a : Act} {w : World} {rest : Code} (l : Nat) (J : Act → World → Prop) (μ : Act → World → Nat) 
    (hJ : J a w) (pass : ∀ a w, J a w → rest.wp P (Exit.jump l (fun a' w' => J a' w' ∧ μ a' w' < μ a w) Q) a w) : (Code.scope ((Code.label l).seq rest)).wp P Q a w := by
  refine wp_scope_jumps l J μ (rest := Code.skip.seq rest) (by simp [findLabel]) ?_ fun a w h => wp_seq (wp_skip (pass a w h))
  refine wp_seq (wp_label ?_)
  show rest.wp P _ a w
  refine wp_mono (pass a w hJ) fun e a' w' h => ?_
  cases e <;> first | exact ⟨h.1, h.2.1⟩ | exact h
theorem own_cell {w : World} {B e g n c : Nat} {xs : List Value} (ho : w.ownsRow B e 1 (.slice (some ⟨g, 0, none⟩) n c) n xs) {m : Nat} (hm : m < n) :
    w.cell? ⟨g, m, none⟩ = xs[m]? ∧ w.frozen? ⟨g, m, none⟩ = false ∧ g < w.heap.size ∧ n ≤ c ∧ B ≤ g := by
  obtain ⟨hl, hr⟩ := ho
  rcases hr with ⟨hr, _⟩ | ⟨g', cap, cur, hg, hg0, hgc, h1, h2, h3, h4⟩
  · cases hr
  · simp only [Value.slice.injEq, Option.some.injEq, Addr.mk.injEq, and_true, true_and] at hg
    obtain ⟨rfl, rfl⟩ := hg
    refine ⟨?_, ?_, (Array.getElem?_eq_some_iff.1 hgc).1, h1, hg0⟩
    · subst h4
      rw [List.getElem?_take, if_pos (by omega)]
      simp [World.cell?, hgc]
    · simp [World.frozen?, hgc]
theorem All.at {X : Nat → Prop} {w : World} : ∀ {R : List (List Tm)} {xs : List Value} (_ : All X w R xs) {m : Nat} {row : List Tm} (_ : R[m]? = some row), ∃ x, xs[m]? = some x ∧ Slc X w row x
  | [], [], _, m, _, hm => by simp at hm
  | _ :: _, x :: _, h, 0, _, hm => by simp only [List.getElem?_cons_zero, Option.some.injEq] at hm; exact ⟨x, rfl, hm ▸ h.1⟩
  | _ :: R, _ :: xs, h, m + 1, _, hm => by simpa using All.at h.2 (by simpa using hm)
  | [], _ :: _, h, _, _, _ => h.elim
  | _ :: _, [], h, _, _, _ => h.elim
abbrev ZT : Obj := .cells #[.int .i64 0, .string ⟨#[]⟩, .int .i64 0, .int .u64 0, .int .u64 0, .slice none 0 0] 36
theorem six_set {w : World} {b : Nat} {v0 v1 v2 v3 v4 v5 u0 u1 u2 u3 u4 u5 : Value} {t : TypeId} (h : w.heap[b]? = some (.cells #[u0, u1, u2, u3, u4, u5] t (0, 0))) :
    Six ((((((w.setCell ⟨b, 0, none⟩ v0).setCell ⟨b, 1, none⟩ v1).setCell ⟨b, 2, none⟩ v2).setCell ⟨b, 3, none⟩ v3).setCell ⟨b, 4, none⟩ v4).setCell ⟨b, 5, none⟩ v5) b 0 v0 v1 v2 v3 v4 v5 := by
  have e := fun (w : World) (i : Nat) (cs : Array Value) (v : Value) (hg : w.heap[b]? = some (.cells cs t (0, 0))) => heap_setCell_same w b i cs t v hg
  have hf := e _ 5 _ v5 (e _ 4 _ v4 (e _ 3 _ v3 (e _ 2 _ v2 (e _ 1 _ v1 (e w 0 _ v0 h)))))
  refine ⟨?_, ?_, ?_, ?_, ?_, ?_⟩ <;> simp [World.cell?, hf]
theorem keep_set6 (w : World) (b : Nat) (v0 v1 v2 v3 v4 v5 : Value) :
    Keep (fun k => k = b) w ((((((w.setCell ⟨b, 0, none⟩ v0).setCell ⟨b, 1, none⟩ v1).setCell ⟨b, 2, none⟩ v2).setCell ⟨b, 3, none⟩ v3).setCell ⟨b, 4, none⟩ v4).setCell ⟨b, 5, none⟩ v5) := by
  have k (w : World) (o : Nat) (u : Value) : Keep (fun k => k = b) w (w.setCell ⟨b, o, none⟩ u) := Keep.setCell (F := fun k => k = b) w rfl u
  exact ((((((k _ _ _).trans (k _ _ _) fun _ => Or.inl).trans (k _ _ _) fun _ => Or.inl).trans (k _ _ _) fun _ => Or.inl).trans (k _ _ _) fun _ => Or.inl).trans (k _ _ _) fun _ => Or.inl)
/-- at a jump: n rows are left, the others were empty -/
def Jn (w : World) (p g c lo hi : Nat) (a' : Act) (w' : World) : Prop :=
  ∃ (n : Nat) (U : Nat → Value), lo ≤ n ∧ n ≤ hi ∧ a' = { tmps := (.pointer (some ⟨p, 0, none⟩) :: undef :: .pointer (some ⟨w.heap.size, 0, none⟩) :: .int .i64 0 :: .bool false :: U 5 :: U 6 :: U 7 :: U 8 :: U 9 :: U 10 :: U 11 :: U 12 :: U 13 :: U 14 :: U 15 :: U 16 :: U 17 :: U 18 :: U 19 :: U 20 :: U 21 :: U 22 :: U 23 :: U 24 :: U 25 :: U 26 :: U 27 :: U 28 :: U 29 :: U 30 :: U 31 :: U 32 :: U 33 :: U 34 :: U 35 :: U 36 :: U 37 :: U 38 :: U 39 :: U 40 :: U 41 :: U 42 :: U 43 :: U 44 :: U 45 :: U 46 :: U 47 :: U 48 :: U 49 :: U 50 :: U 51 :: U 52 :: U 53 :: U 54 :: U 55 :: U 56 :: U 57 :: U 58 :: U 59 :: U 60 :: U 61 :: U 62 :: U 63 :: []).toArray, defers := [] } ∧
    Keep (fun k => k = p) (w.alloc ZT) w' ∧ w'.heap[p]? = some (.cells #[.slice (some ⟨g, 0, none⟩) n c] 148 (0, 0))
theorem Jn.mk {w : World} {p g c lo hi : Nat} {a' : Act} {w' : World} (n : Nat) (h0 : lo ≤ n) (h1 : n ≤ hi)
    (h : a' = { tmps := (.pointer (some ⟨p, 0, none⟩) :: undef :: .pointer (some ⟨w.heap.size, 0, none⟩) :: .int .i64 0 :: .bool false :: a'.tmps.getD 5 undef :: a'.tmps.getD 6 undef :: a'.tmps.getD 7 undef :: a'.tmps.getD 8 undef :: a'.tmps.getD 9 undef :: a'.tmps.getD 10 undef :: a'.tmps.getD 11 undef :: a'.tmps.getD 12 undef :: a'.tmps.getD 13 undef :: a'.tmps.getD 14 undef :: a'.tmps.getD 15 undef :: a'.tmps.getD 16 undef :: a'.tmps.getD 17 undef :: a'.tmps.getD 18 undef :: a'.tmps.getD 19 undef :: a'.tmps.getD 20 undef :: a'.tmps.getD 21 undef :: a'.tmps.getD 22 undef :: a'.tmps.getD 23 undef :: a'.tmps.getD 24 undef :: a'.tmps.getD 25 undef :: a'.tmps.getD 26 undef :: a'.tmps.getD 27 undef :: a'.tmps.getD 28 undef :: a'.tmps.getD 29 undef :: a'.tmps.getD 30 undef :: a'.tmps.getD 31 undef :: a'.tmps.getD 32 undef :: a'.tmps.getD 33 undef :: a'.tmps.getD 34 undef :: a'.tmps.getD 35 undef :: a'.tmps.getD 36 undef :: a'.tmps.getD 37 undef :: a'.tmps.getD 38 undef :: a'.tmps.getD 39 undef :: a'.tmps.getD 40 undef :: a'.tmps.getD 41 undef :: a'.tmps.getD 42 undef :: a'.tmps.getD 43 undef :: a'.tmps.getD 44 undef :: a'.tmps.getD 45 undef :: a'.tmps.getD 46 undef :: a'.tmps.getD 47 undef :: a'.tmps.getD 48 undef :: a'.tmps.getD 49 undef :: a'.tmps.getD 50 undef :: a'.tmps.getD 51 undef :: a'.tmps.getD 52 undef :: a'.tmps.getD 53 undef :: a'.tmps.getD 54 undef :: a'.tmps.getD 55 undef :: a'.tmps.getD 56 undef :: a'.tmps.getD 57 undef :: a'.tmps.getD 58 undef :: a'.tmps.getD 59 undef :: a'.tmps.getD 60 undef :: a'.tmps.getD 61 undef :: a'.tmps.getD 62 undef :: a'.tmps.getD 63 undef :: []).toArray, defers := [] })
    (hk : Keep (fun k => k = p) (w.alloc ZT) w') (hp : w'.heap[p]? = some (.cells #[.slice (some ⟨g, 0, none⟩) n c] 148 (0, 0))) : Jn w p g c lo hi a' w' :=
  ⟨n, fun k => a'.tmps.getD k undef, h0, h1, h, hk, hp⟩
def Mn (p : Nat) (w' : World) : Nat := match w'.cell? ⟨p, 0, none⟩ with | some (.slice _ n _) => n | _ => 0
theorem Mn_eq {w : World} {p g n c : Nat} {t : TypeId} (h : w.heap[p]? = some (.cells #[.slice (some ⟨g, 0, none⟩) n c] t (0, 0))) : Mn p w = n := by
  have : w.cell? ⟨p, 0, none⟩ = some (.slice (some ⟨g, 0, none⟩) n c) := by simp [World.cell?, h]
  rw [Mn, this]
def Step (B r : Nat) (w : World) (p : Nat) (F : Nat → Prop) (R : List (List Tm)) (w' : World) : Prop := ∃ F', TWay B r w' p F' R ∧ Keep F w w' ∧ ∀ k, F' k → F k ∨ w.heap.size ≤ k
def NextNone (F : Nat → Prop) (w : World) (e : Ending) (w' : World) : Prop :=
  e = .returned (.tuple #[.agg #[.int .i64 0, .string ⟨#[]⟩, .int .i64 0, .int .u64 0, .int .u64 0, .slice none 0 0], .int .i64 0, .bool false]) ∧ Keep F w w'
set_option maxRecDepth 100000 in
theorem next_none (B r : Nat) (w : World) (p : Nat) (F : Nat → Prop) (R : List (List Tm)) (h : TWay B r w p F R) (hR : ∀ x ∈ R, x = []) (h9 : R.length ≤ 1000) :
    Calls Try.prog 79 #[.pointer (some ⟨p, 0, none⟩)] w (NextNone F w) := by
  obtain ⟨g, c, xs, hp, ho, ha, hpg, hF, hO⟩ := h
  have H := Lib.hid (And.intro hp (And.intro ho (And.intro ha (And.intro hpg (And.intro hF (And.intro hO hR))))))
  clear ho ha hF hO hR
  have hc0 : w.cell? ⟨p, 0, none⟩ = some (.slice (some ⟨g, 0, none⟩) R.length c) := by simp [World.cell?, hp]
  have hf0 : w.frozen? ⟨p, 0, none⟩ = false := by simp [World.frozen?, hp]
  have hlt : p < w.heap.size := (Array.getElem?_eq_some_iff.1 hp).1
  clear hp
  go_enter Try.func79, Try.ntmps79
  go_wp2_with fail
  refine wp_scope_label 0 (Jn w p g c 0 R.length) (fun _ => Mn p) ?_ ?_
  · refine ⟨R.length, fun _ => undef, by omega, by omega, rfl, Keep.refl _ _, ?_⟩
    rw [(ba w ZT).block p hlt]; exact H.out.1
  · rintro a' w' ⟨n, U, h0, hn, rfl, hk, hp'⟩
    have HM := Lib.hid (Mn_eq hp')
    have hz : w'.heap[w.heap.size]? = some ZT := by rw [hk.block _ (by rw [alloc_size]; omega) (by omega)]; exact alloc_at _ _
    have HK := Lib.hid hk
    have HP := Lib.hid hp'
    have HN := Lib.hid hn
    have q1 : w'.cell? ⟨p, 0, none⟩ = some (.slice (some ⟨g, 0, none⟩) n c) := by simp [World.cell?, hp']
    have q2 : w'.frozen? ⟨p, 0, none⟩ = false := by simp [World.frozen?, hp']
    clear hk hp' hn hc0 hf0 hlt h0 hpg
    rcases n with _ | m
    · have HZ := Lib.hid hz
      have y0 : Six w' w.heap.size 0 (.int .i64 0) (.string ⟨#[]⟩) (.int .i64 0) (.int .u64 0) (.int .u64 0) (.slice none 0 0) := by refine ⟨?_, ?_, ?_, ?_, ?_, ?_⟩ <;> simp [World.cell?, hz]
      have y1 : ∀ j, j < 6 → w'.frozen? ⟨w.heap.size, j, none⟩ = false := fun j hj => by simp [World.frozen?, hz]
      obtain ⟨z0, z1, z2, z3, z4, z5⟩ := y0
      have y10 := y1 0 (by omega)
      have y11 := y1 1 (by omega)
      have y12 := y1 2 (by omega)
      have y13 := y1 3 (by omega)
      have y14 := y1 4 (by omega)
      have y15 := y1 5 (by omega)
      clear hz y1
      go_wp2_with fail
      simp only [Exit.jump]
      have hk := HK.out
      have hz := HZ.out
      have hF := H.out.2.2.2.2.1
      generalize hW : ((((((w'.setCell ⟨w.heap.size, 0, none⟩ (.int .i64 0)).setCell ⟨w.heap.size, 1, none⟩ (.string ⟨#[]⟩)).setCell ⟨w.heap.size, 2, none⟩ (.int .i64 0)).setCell ⟨w.heap.size, 3, none⟩ (.int .u64 0)).setCell ⟨w.heap.size, 4, none⟩ (.int .u64 0)).setCell ⟨w.heap.size, 5, none⟩ (.slice none 0 0)) = W
      have h6 : Six W w.heap.size 0 (.int .i64 0) (.string ⟨#[]⟩) (.int .i64 0) (.int .u64 0) (.int .u64 0) (.slice none 0 0) := by rw [← hW]; exact six_set hz
      have hkk : Keep (fun k => k = p ∨ k = w.heap.size) (w.alloc ZT) W := by rw [← hW]; exact (hk.mono fun _ => Or.inl).trans (keep_set6 w' w.heap.size _ _ _ _ _ _) fun i h => Or.inl (Or.inr h)
      obtain ⟨e0, e1, e2, e3, e4, e5⟩ := h6
      refine bodyPost_ret (v := .tuple #[.agg #[.int .i64 0, .string ⟨#[]⟩, .int .i64 0, .int .u64 0, .int .u64 0, .slice none 0 0], .int .i64 0, .bool false]) (by simp [results, Try.results79, go_sem, e0, e1, e2, e3, e4, e5]) rfl ⟨rfl, ?_⟩
      exact ⟨hkk.os, hkk.tape, hkk.output, by have := hkk.size; rw [alloc_size] at this; omega, fun k h1 h2 => (hkk.block k (by rw [alloc_size]; omega) (fun e => e.elim (fun e => h2 ((hF k).2 (.inl e))) (by omega))).trans ((ba w ZT).block k h1)⟩
    · have hx : ∃ a c', w.cell? ⟨g, m, none⟩ = some (.slice a 0 c') := by
        obtain ⟨_, ho, ha, _, _, _, hR⟩ := H.out
        have hm : m < R.length := HN.out
        obtain ⟨x, hx, hs⟩ := ha.at (m := m) (row := R[m]) (by simp [hm])
        have := hR R[m] (List.getElem_mem hm)
        rw [this] at hs
        obtain ⟨a, c', rfl, _⟩ := hs
        exact ⟨a, c', (own_cell ho hm).1.trans hx⟩
      have hg : ∀ k, w'.cell? ⟨g, k, none⟩ = w.cell? ⟨g, k, none⟩ := fun k => by
        obtain ⟨_, ho, _, hpg, _⟩ := H.out
        have hm : m < R.length := HN.out
        have := (own_cell ho hm).2.2.1
        simp only [World.cell?]
        rw [HK.out.block g (by rw [alloc_size]; omega) (by omega), (ba w ZT).block g this]
      obtain ⟨a, c', hx⟩ := hx
      have hx' := (hg m).trans hx
      have hmc : m + 1 ≤ c := by
        obtain ⟨_, ho, _⟩ := H.out
        have hm : m < R.length := HN.out
        have := own_cell ho hm
        omega
      have hm9 : m + 1 ≤ 1000 := Nat.le_trans HN.out h9
      clear hx hg hz h9
      go_wp2_with fail
      go_step3
      have hp' := heap_setCell_same w' p 0 _ 148 (.slice (some ⟨g, 0, none⟩) m c) HP.out
      refine ⟨rfl, Jn.mk m (by omega) (by have := HN.out; omega) rfl (HK.out.trans (Keep.setCell (F := fun k => k = p) _ rfl _) fun _ => Or.inl) hp', ?_⟩
      rw [Mn_eq hp', HM.out]
      omega
/-- behind the copy of the node -/
theorem facts1 {w w' w1 : World} {p g c m n : Nat} {v0 v1 v2 v3 v4 v5 x : Value} (hpg : p ≠ g) (hg : g < w.heap.size) (hK : Keep (fun k => k = p) (w.alloc ZT) w')
    (hp : w'.heap[p]? = some (.cells #[.slice (some ⟨g, 0, none⟩) n c] 148 (0, 0))) (hz : w'.heap[w.heap.size]? = some ZT) (hw : w1 = w'.alloc (.cells #[v0, v1, v2, v3, v4, v5] 36))
    (hx : w'.cell? ⟨g, m, none⟩ = some x) (hf : w'.frozen? ⟨g, m, none⟩ = false) :
    w1.cell? ⟨p, 0, none⟩ = some (.slice (some ⟨g, 0, none⟩) n c) ∧ w1.frozen? ⟨p, 0, none⟩ = false ∧ w1.cell? ⟨g, m, none⟩ = some x ∧ w1.frozen? ⟨g, m, none⟩ = false ∧
    w1.cell? ⟨w'.heap.size, 0, none⟩ = some v0 ∧ w1.cell? ⟨w'.heap.size, 1, none⟩ = some v1 ∧ w1.cell? ⟨w'.heap.size, 2, none⟩ = some v2 ∧ w1.cell? ⟨w'.heap.size, 3, none⟩ = some v3 ∧ w1.cell? ⟨w'.heap.size, 4, none⟩ = some v4 ∧ w1.cell? ⟨w'.heap.size, 5, none⟩ = some v5 ∧
    g < w'.heap.size ∧ p < w'.heap.size ∧ w.heap.size < w'.heap.size := by
  subst hw
  have hp1 : p < w'.heap.size := (Array.getElem?_eq_some_iff.1 hp).1
  have hz1 : w.heap.size < w'.heap.size := (Array.getElem?_eq_some_iff.1 hz).1
  have hg1 := cell_lt hx
  have e : ∀ b o, b < w'.heap.size → (w'.alloc (.cells #[v0, v1, v2, v3, v4, v5] 36)).cell? ⟨b, o, none⟩ = w'.cell? ⟨b, o, none⟩ := fun b o h => (ba w' _).cell (p := ⟨b, o, none⟩) h
  have f : ∀ b o, b < w'.heap.size → (w'.alloc (.cells #[v0, v1, v2, v3, v4, v5] 36)).frozen? ⟨b, o, none⟩ = w'.frozen? ⟨b, o, none⟩ := fun b o h => (ba w' _).frozen (p := ⟨b, o, none⟩) h
  obtain ⟨a0, a1, a2, a3, a4, a5⟩ := six_alloc w' v0 v1 v2 v3 v4 v5 36
  refine ⟨(e _ _ hp1).trans (by simp [World.cell?, hp]), (f _ _ hp1).trans (by simp [World.frozen?, hp]), (e _ _ hg1).trans hx, (f _ _ hg1).trans hf, a0, a1, a2, a3, a4, a5, hg1, hp1, hz1⟩
/-- behind the store of the row -/
theorem facts2 {w w' w1 w2 : World} {p g c m n : Nat} {v0 v1 v2 v3 v4 v5 x y : Value} (hpg : p ≠ g) (hz : w'.heap[w.heap.size]? = some ZT)
    (h : w1 = w'.alloc (.cells #[v0, v1, v2, v3, v4, v5] 36) ∧ w1.cell? ⟨p, 0, none⟩ = some (.slice (some ⟨g, 0, none⟩) n c) ∧ w1.frozen? ⟨p, 0, none⟩ = false ∧ w1.cell? ⟨g, m, none⟩ = some x ∧ w1.frozen? ⟨g, m, none⟩ = false ∧
      w1.cell? ⟨w'.heap.size, 0, none⟩ = some v0 ∧ w1.cell? ⟨w'.heap.size, 1, none⟩ = some v1 ∧ w1.cell? ⟨w'.heap.size, 2, none⟩ = some v2 ∧ w1.cell? ⟨w'.heap.size, 3, none⟩ = some v3 ∧ w1.cell? ⟨w'.heap.size, 4, none⟩ = some v4 ∧ w1.cell? ⟨w'.heap.size, 5, none⟩ = some v5 ∧
      g < w'.heap.size ∧ p < w'.heap.size ∧ w.heap.size < w'.heap.size) (hgw : g ≠ w.heap.size) (hw : w2 = (w1.setCell ⟨g, m, none⟩ y).drew) :
    Keep (fun k => k = g) w1 w2 ∧ w2.cell? ⟨p, 0, none⟩ = some (.slice (some ⟨g, 0, none⟩) n c) ∧ w2.frozen? ⟨p, 0, none⟩ = false ∧
      w2.cell? ⟨w'.heap.size, 0, none⟩ = some v0 ∧ w2.cell? ⟨w'.heap.size, 1, none⟩ = some v1 ∧ w2.cell? ⟨w'.heap.size, 2, none⟩ = some v2 ∧ w2.cell? ⟨w'.heap.size, 3, none⟩ = some v3 ∧ w2.cell? ⟨w'.heap.size, 4, none⟩ = some v4 ∧ w2.cell? ⟨w'.heap.size, 5, none⟩ = some v5 ∧
      w2.cell? ⟨w.heap.size, 0, none⟩ = some (.int .i64 0) ∧ w2.cell? ⟨w.heap.size, 1, none⟩ = some (.string ⟨#[]⟩) ∧ w2.cell? ⟨w.heap.size, 2, none⟩ = some (.int .i64 0) ∧ w2.cell? ⟨w.heap.size, 3, none⟩ = some (.int .u64 0) ∧ w2.cell? ⟨w.heap.size, 4, none⟩ = some (.int .u64 0) ∧ w2.cell? ⟨w.heap.size, 5, none⟩ = some (.slice none 0 0) ∧
      w2.frozen? ⟨w.heap.size, 0, none⟩ = false ∧ w2.frozen? ⟨w.heap.size, 1, none⟩ = false ∧ w2.frozen? ⟨w.heap.size, 2, none⟩ = false ∧ w2.frozen? ⟨w.heap.size, 3, none⟩ = false ∧ w2.frozen? ⟨w.heap.size, 4, none⟩ = false ∧ w2.frozen? ⟨w.heap.size, 5, none⟩ = false := by
  obtain ⟨h1, a1, a2, _, _, c0, c1, c2, c3, c4, c5, l1, l2, l3⟩ := h
  have k2 : Keep (fun k => k = g) w1 w2 := by
    rw [hw]; exact (Keep.setCell (F := fun k => k = g) (p := ⟨g, m, none⟩) w1 rfl y).trans (Keep.drew (fun k => k = g) _) fun _ => Or.inl
  have hs : w1.heap.size = w'.heap.size + 1 := by rw [h1, alloc_size]
  have hzz : w2.heap[w.heap.size]? = some ZT := by rw [k2.block _ (by omega) (by omega), h1, (ba w' _).block _ l3]; exact hz
  have e : ∀ b o, b < w1.heap.size → b ≠ g → w2.cell? ⟨b, o, none⟩ = w1.cell? ⟨b, o, none⟩ := fun b o h1 h2 => k2.cell h1 h2
  have f : ∀ b o, b < w1.heap.size → b ≠ g → w2.frozen? ⟨b, o, none⟩ = w1.frozen? ⟨b, o, none⟩ := fun b o h1 h2 => k2.frozen h1 h2
  refine ⟨k2, (e _ _ (by omega) hpg).trans a1, (f _ _ (by omega) hpg).trans a2, (e _ _ (by omega) (by omega)).trans c0, (e _ _ (by omega) (by omega)).trans c1, (e _ _ (by omega) (by omega)).trans c2, (e _ _ (by omega) (by omega)).trans c3, (e _ _ (by omega) (by omega)).trans c4, (e _ _ (by omega) (by omega)).trans c5, ?_, ?_, ?_, ?_, ?_, ?_, ?_, ?_, ?_, ?_, ?_, ?_⟩ <;> simp [World.cell?, World.frozen?, hzz]
theorem own_keep {w w' : World} {B e g n c : Nat} {xs : List Value} (h : w.ownsRow B e 1 (.slice (some ⟨g, 0, none⟩) n c) n xs) (hb : w'.heap[g]? = w.heap[g]?) : w'.ownsRow B e 1 (.slice (some ⟨g, 0, none⟩) n c) n xs := by
  obtain ⟨hl, hr⟩ := h
  refine ⟨hl, ?_⟩
  rcases hr with hr | ⟨g', cap, cur, hg, hg0, hgc, r⟩
  · exact Or.inl hr
  · have : g' = g := by simp at hg; exact hg.1.symm
    subst this
    exact Or.inr ⟨g', cap, cur, hg, hg0, hb.trans hgc, r⟩
theorem own_set {w : World} {B e g n c m : Nat} {xs : List Value} {y : Value} (h : w.ownsRow B e 1 (.slice (some ⟨g, 0, none⟩) n c) n xs) (hm : m < n) :
    (w.setCell ⟨g, m, none⟩ y).ownsRow B e 1 (.slice (some ⟨g, 0, none⟩) (m + 1) c) (m + 1) (xs.take m ++ [y]) := by
  obtain ⟨hl, hr⟩ := h
  rcases hr with ⟨hr, _⟩ | ⟨g', cap, cur, hg, hg0, hgc, h1, h2, h3, h4⟩
  · cases hr
  · simp only [Value.slice.injEq, Option.some.injEq, Addr.mk.injEq, and_true, true_and] at hg
    obtain ⟨rfl, rfl⟩ := hg
    refine ⟨by simp at hl ⊢; omega, Or.inr ⟨g, c, cur.setIfInBounds m y, rfl, hg0, heap_setCell_same w g m cur e y hgc, by omega, h2, by simpa using h3, ?_⟩⟩
    subst h4
    have hs : m < cur.toList.length := by simp; omega
    simp only [Array.toList_setIfInBounds, Nat.mul_one, List.take_take]
    rw [List.take_succ_eq_append_getElem (by simp; omega), List.take_set_of_le (Nat.le_refl m)]
    simp [Nat.min_eq_left (Nat.le_of_lt hm)]
theorem zt2 {w w' w1 w2 : World} {p g c m n : Nat} {v0 v1 v2 v3 v4 v5 x : Value} (hpg : p ≠ g) (hz : w'.heap[w.heap.size]? = some ZT)
    (h : w1 = w'.alloc (.cells #[v0, v1, v2, v3, v4, v5] 36) ∧ w1.cell? ⟨p, 0, none⟩ = some (.slice (some ⟨g, 0, none⟩) n c) ∧ w1.frozen? ⟨p, 0, none⟩ = false ∧ w1.cell? ⟨g, m, none⟩ = some x ∧ w1.frozen? ⟨g, m, none⟩ = false ∧
      w1.cell? ⟨w'.heap.size, 0, none⟩ = some v0 ∧ w1.cell? ⟨w'.heap.size, 1, none⟩ = some v1 ∧ w1.cell? ⟨w'.heap.size, 2, none⟩ = some v2 ∧ w1.cell? ⟨w'.heap.size, 3, none⟩ = some v3 ∧ w1.cell? ⟨w'.heap.size, 4, none⟩ = some v4 ∧ w1.cell? ⟨w'.heap.size, 5, none⟩ = some v5 ∧
      g < w'.heap.size ∧ p < w'.heap.size ∧ w.heap.size < w'.heap.size) (k2 : Keep (fun k => k = g) w1 w2) (hgw : g ≠ w.heap.size) : w2.heap[w.heap.size]? = some ZT := by
  obtain ⟨h1, a1, a2, _, _, c0, c1, c2, c3, c4, c5, l1, l2, l3⟩ := h
  have hs : w1.heap.size = w'.heap.size + 1 := by rw [h1, alloc_size]
  rw [k2.block _ (by omega) (by omega), h1, (ba w' _).block _ l3]; exact hz
theorem infoSl : (Try.prog.info? 22).map (fun i => (i.zero, i.size, i.bytes)) = some (some (.slice none 0 0), 1, 24) := by kernel_rfl
theorem own2 {B r : Nat} {w w' w1 w2 : World} {p g c c' : Nat} {F : Nat → Prop} {R0 E : List (List Tm)} {t : Tm} {row : List Tm} {xs : List Value} {a' : Option Addr} {v0 v1 v2 v3 v4 v5 x : Value}
    (H : w.heap[p]? = some (.cells #[.slice (some ⟨g, 0, none⟩) (R0 ++ (t :: row) :: E).length c] 148 (0, 0)) ∧ w.ownsRow B 22 1 (.slice (some ⟨g, 0, none⟩) (R0 ++ (t :: row) :: E).length c) (R0 ++ (t :: row) :: E).length xs ∧ All (Off B r) w (R0 ++ (t :: row) :: E) xs ∧
      p ≠ g ∧ (∀ k, F k ↔ k = p ∨ k = g) ∧ (∀ k, F k → Off B r k) ∧ ∀ x ∈ E, x = []) (HL : (R0 ++ (t :: row) :: E).length = R0.length + 1 + E.length)
    (HK : Keep (fun k => k = p) (w.alloc ZT) w')
    (H1 : w1 = w'.alloc (.cells #[v0, v1, v2, v3, v4, v5] 36) ∧ w1.cell? ⟨p, 0, none⟩ = some (.slice (some ⟨g, 0, none⟩) (R0.length + 1) c) ∧ w1.frozen? ⟨p, 0, none⟩ = false ∧ w1.cell? ⟨g, R0.length, none⟩ = some x ∧ w1.frozen? ⟨g, R0.length, none⟩ = false ∧
      w1.cell? ⟨w'.heap.size, 0, none⟩ = some v0 ∧ w1.cell? ⟨w'.heap.size, 1, none⟩ = some v1 ∧ w1.cell? ⟨w'.heap.size, 2, none⟩ = some v2 ∧ w1.cell? ⟨w'.heap.size, 3, none⟩ = some v3 ∧ w1.cell? ⟨w'.heap.size, 4, none⟩ = some v4 ∧ w1.cell? ⟨w'.heap.size, 5, none⟩ = some v5 ∧
      g < w'.heap.size ∧ p < w'.heap.size ∧ w.heap.size < w'.heap.size)
    (H2 : w2 = (w1.setCell ⟨g, R0.length, none⟩ (.slice a' row.length (c' - 1))).drew ∧ Keep (fun k => k = g) w1 w2) :
    w2.ownsRow B 22 1 (.slice (some ⟨g, 0, none⟩) (R0.length + 1) c) (R0.length + 1) (xs.take R0.length ++ [.slice a' row.length (c' - 1)]) ∧ g < w2.heap.size := by
  obtain ⟨hp, ho, ha, hpg, hF, hO, hE⟩ := H
  obtain ⟨h1, _, _, _, _, _, _, _, _, _, _, l1, l2, l3⟩ := H1
  obtain ⟨h2, k2⟩ := H2
  have hgw : g < w.heap.size := (own_cell ho (m := R0.length) (by rw [HL]; omega)).2.2.1
  have hg1 : w1.heap[g]? = w.heap[g]? := by rw [h1, (ba w' _).block g l1, HK.block g (by rw [alloc_size]; omega) (by omega), (ba w ZT).block g hgw]
  have o1 := own_set (m := R0.length) (y := .slice a' row.length (c' - 1)) (own_keep ho hg1) (by rw [HL]; omega)
  exact ⟨by rw [h2]; exact o1, by have := k2.size; rw [h1, alloc_size] at this; omega⟩
theorem grown2 {w2 w4 : World} {g n c : Nat} {o : Obj} (h : ((w2.alloc o).drew).grownBy w4 (Value.slice (some ⟨g, 0, none⟩) n c).ownBlock) : Keep (fun k => k = g) w2 w4 := by
  have k1 : Keep (fun k => k = g) w2 (w2.alloc o).drew := (Keep.of_below (ba w2 o)).trans (F' := fun k => k = g) (Keep.drew (fun k => k = g) _) fun _ => Or.inl
  exact k1.trans (Keep.of_grown (F := fun k => k = g) h fun k e => by simpa [Value.ownBlock, eq_comm] using e) fun _ => Or.inl
/-- the way behind the store of the row, wherever else memory has turned -/
theorem fin2 {B r : Nat} {w w' w1 w2 W : World} {p g c c' : Nat} {F : Nat → Prop} {R0 E : List (List Tm)} {t : Tm} {row : List Tm} {xs : List Value} {a' : Option Addr} {v0 v1 v2 v3 v4 v5 x : Value}
    (H : w.heap[p]? = some (.cells #[.slice (some ⟨g, 0, none⟩) (R0 ++ (t :: row) :: E).length c] 148 (0, 0)) ∧ w.ownsRow B 22 1 (.slice (some ⟨g, 0, none⟩) (R0 ++ (t :: row) :: E).length c) (R0 ++ (t :: row) :: E).length xs ∧ All (Off B r) w (R0 ++ (t :: row) :: E) xs ∧
      p ≠ g ∧ (∀ k, F k ↔ k = p ∨ k = g) ∧ (∀ k, F k → Off B r k) ∧ ∀ x ∈ E, x = []) (HL : (R0 ++ (t :: row) :: E).length = R0.length + 1 + E.length)
    (HK : Keep (fun k => k = p) (w.alloc ZT) w') (HP : w'.heap[p]? = some (.cells #[.slice (some ⟨g, 0, none⟩) (R0.length + 1) c] 148 (0, 0)))
    (H1 : w1 = w'.alloc (.cells #[v0, v1, v2, v3, v4, v5] 36) ∧ w1.cell? ⟨p, 0, none⟩ = some (.slice (some ⟨g, 0, none⟩) (R0.length + 1) c) ∧ w1.frozen? ⟨p, 0, none⟩ = false ∧ w1.cell? ⟨g, R0.length, none⟩ = some x ∧ w1.frozen? ⟨g, R0.length, none⟩ = false ∧
      w1.cell? ⟨w'.heap.size, 0, none⟩ = some v0 ∧ w1.cell? ⟨w'.heap.size, 1, none⟩ = some v1 ∧ w1.cell? ⟨w'.heap.size, 2, none⟩ = some v2 ∧ w1.cell? ⟨w'.heap.size, 3, none⟩ = some v3 ∧ w1.cell? ⟨w'.heap.size, 4, none⟩ = some v4 ∧ w1.cell? ⟨w'.heap.size, 5, none⟩ = some v5 ∧
      g < w'.heap.size ∧ p < w'.heap.size ∧ w.heap.size < w'.heap.size)
    (H2 : w2 = (w1.setCell ⟨g, R0.length, none⟩ (.slice a' row.length (c' - 1))).drew ∧ Keep (fun k => k = g) w1 w2) (hW : Keep (fun k => k = w.heap.size) w2 W) (hT : TRow (Off B r) w row a' 0) (hc : row.length + 1 ≤ c' ∧ c' ≤ maxLen) :
    TWay B r W p F (R0 ++ [row]) ∧ Keep F w W := by
  obtain ⟨hp, ho, ha, hpg, hF, hO, hE⟩ := H
  obtain ⟨h1, _, _, _, _, _, _, _, _, _, _, l1, l2, l3⟩ := H1
  obtain ⟨h2, k2⟩ := H2
  have hgw : g < w.heap.size := (own_cell ho (m := R0.length) (by rw [HL]; omega)).2.2.1
  have hpw : p < w.heap.size := (Array.getElem?_eq_some_iff.1 hp).1
  have hs1 : w1.heap.size = w'.heap.size + 1 := by rw [h1, alloc_size]
  have hs2 := k2.size
  have kw : Keep F w W := by
    have ka : Keep F w (w.alloc ZT) := Keep.of_below (ba w ZT)
    have kb : Keep F w w' := ka.trans HK fun i h => Or.inl ((hF i).2 (Or.inl h))
    have kc : Keep F w w1 := kb.trans (F' := No) (Keep.of_below (by rw [h1]; exact ba w' _)) fun i h => h.elim
    have kd : Keep F w w2 := kc.trans k2 fun i h => Or.inl ((hF i).2 (Or.inr h))
    exact kd.trans hW fun i h => Or.inr (by omega)
  refine ⟨⟨g, c, xs.take R0.length ++ [.slice a' row.length (c' - 1)], ?_, ?_, ?_, hpg, hF, hO⟩, kw⟩
  · rw [hW.block p (by omega) (by omega), k2.block p (by omega) hpg, h1, (ba w' _).block p l2, HP]; simp
  · have hg1 : w1.heap[g]? = w.heap[g]? := by rw [h1, (ba w' _).block g l1, HK.block g (by rw [alloc_size]; omega) (by omega), (ba w ZT).block g hgw]
    have o1 := own_set (m := R0.length) (y := .slice a' row.length (c' - 1)) (own_keep ho hg1) (by rw [HL]; omega)
    have : W.heap[g]? = (w1.setCell ⟨g, R0.length, none⟩ (.slice a' row.length (c' - 1))).heap[g]? := by
      rw [hW.block g (by omega) (by omega), h2]; rfl
    have o2 := own_keep o1 this
    simpa using o2
  · refine All.append ((ha.split (R := R0)).1.map fun l v h => Slc.keep (kw.mono hO) (fun _ _ => id) h) ⟨⟨a', c' - 1, rfl, by omega, by omega, TRow.keep (kw.mono hO) (fun _ _ => id) _ _ hT⟩, trivial⟩
theorem facts3 {w w' w1 w2 w4 w5 : World} {p g c m n : Nat} {v0 v1 v2 v3 v4 v5 x y : Value} (hpg : p ≠ g) (hg : g < w.heap.size) (hp : p < w.heap.size) (hK : Keep (fun k => k = p) (w.alloc ZT) w') (hz : w'.heap[w.heap.size]? = some ZT)
    (h : w1 = w'.alloc (.cells #[v0, v1, v2, v3, v4, v5] 36) ∧ w1.cell? ⟨p, 0, none⟩ = some (.slice (some ⟨g, 0, none⟩) n c) ∧ w1.frozen? ⟨p, 0, none⟩ = false ∧ w1.cell? ⟨g, m, none⟩ = some x ∧ w1.frozen? ⟨g, m, none⟩ = false ∧
      w1.cell? ⟨w'.heap.size, 0, none⟩ = some v0 ∧ w1.cell? ⟨w'.heap.size, 1, none⟩ = some v1 ∧ w1.cell? ⟨w'.heap.size, 2, none⟩ = some v2 ∧ w1.cell? ⟨w'.heap.size, 3, none⟩ = some v3 ∧ w1.cell? ⟨w'.heap.size, 4, none⟩ = some v4 ∧ w1.cell? ⟨w'.heap.size, 5, none⟩ = some v5 ∧
      g < w'.heap.size ∧ p < w'.heap.size ∧ w.heap.size < w'.heap.size) (k2 : Keep (fun k => k = g) w1 w2) (kk : Keep (fun k => k = g) w2 w4) (hw : w5 = w4.setCell ⟨p, 0, none⟩ y) :
      w5.cell? ⟨w'.heap.size, 0, none⟩ = some v0 ∧ w5.cell? ⟨w'.heap.size, 1, none⟩ = some v1 ∧ w5.cell? ⟨w'.heap.size, 2, none⟩ = some v2 ∧ w5.cell? ⟨w'.heap.size, 3, none⟩ = some v3 ∧ w5.cell? ⟨w'.heap.size, 4, none⟩ = some v4 ∧ w5.cell? ⟨w'.heap.size, 5, none⟩ = some v5 ∧
      w5.cell? ⟨w.heap.size, 0, none⟩ = some (.int .i64 0) ∧ w5.cell? ⟨w.heap.size, 1, none⟩ = some (.string ⟨#[]⟩) ∧ w5.cell? ⟨w.heap.size, 2, none⟩ = some (.int .i64 0) ∧ w5.cell? ⟨w.heap.size, 3, none⟩ = some (.int .u64 0) ∧ w5.cell? ⟨w.heap.size, 4, none⟩ = some (.int .u64 0) ∧ w5.cell? ⟨w.heap.size, 5, none⟩ = some (.slice none 0 0) ∧
      w5.frozen? ⟨w.heap.size, 0, none⟩ = false ∧ w5.frozen? ⟨w.heap.size, 1, none⟩ = false ∧ w5.frozen? ⟨w.heap.size, 2, none⟩ = false ∧ w5.frozen? ⟨w.heap.size, 3, none⟩ = false ∧ w5.frozen? ⟨w.heap.size, 4, none⟩ = false ∧ w5.frozen? ⟨w.heap.size, 5, none⟩ = false := by
  obtain ⟨h1, a1, a2, _, _, c0, c1, c2, c3, c4, c5, l1, l2, l3⟩ := h
  have k5 : Keep (fun k => k = p) w4 w5 := by rw [hw]; exact Keep.setCell (F := fun k => k = p) (p := ⟨p, 0, none⟩) w4 rfl y
  have hs : w1.heap.size = w'.heap.size + 1 := by rw [h1, alloc_size]
  have s2 := k2.size
  have s4 := kk.size
  have hb : ∀ b, b < w1.heap.size → b ≠ g → b ≠ p → w5.heap[b]? = w1.heap[b]? := fun b h1 h2 h3 => by
    rw [k5.block b (by omega) h3, kk.block b (by omega) h2, k2.block b h1 h2]
  have hzz : w5.heap[w.heap.size]? = some ZT := by rw [hb _ (by omega) (by omega) (by omega), h1, (ba w' _).block _ l3]; exact hz
  have e : ∀ o, w5.cell? ⟨w'.heap.size, o, none⟩ = w1.cell? ⟨w'.heap.size, o, none⟩ := fun o => by simp only [World.cell?, hb w'.heap.size (by omega) (by omega) (by omega)]
  refine ⟨(e _).trans c0, (e _).trans c1, (e _).trans c2, (e _).trans c3, (e _).trans c4, (e _).trans c5, ?_, ?_, ?_, ?_, ?_, ?_, ?_, ?_, ?_, ?_, ?_, ?_⟩ <;> simp [World.cell?, World.frozen?, hzz]
theorem fin5 {B r : Nat} {w w' w1 w2 w4 w5 W : World} {p g c c' g' cap' : Nat} {F : Nat → Prop} {R0 E : List (List Tm)} {t : Tm} {row l : List Tm} {xs : List Value} {a' al : Option Addr} {cl : Nat} {v0 v1 v2 v3 v4 v5 u0 u1 u2 u3 u4 u5 x : Value}
    (H : w.heap[p]? = some (.cells #[.slice (some ⟨g, 0, none⟩) (R0 ++ (t :: row) :: E).length c] 148 (0, 0)) ∧ w.ownsRow B 22 1 (.slice (some ⟨g, 0, none⟩) (R0 ++ (t :: row) :: E).length c) (R0 ++ (t :: row) :: E).length xs ∧ All (Off B r) w (R0 ++ (t :: row) :: E) xs ∧
      p ≠ g ∧ (∀ k, F k ↔ k = p ∨ k = g) ∧ (∀ k, F k → Off B r k) ∧ ∀ x ∈ E, x = []) (HL : (R0 ++ (t :: row) :: E).length = R0.length + 1 + E.length)
    (HK : Keep (fun k => k = p) (w.alloc ZT) w') (HP : w'.heap[p]? = some (.cells #[.slice (some ⟨g, 0, none⟩) (R0.length + 1) c] 148 (0, 0))) (HZ : w'.heap[w.heap.size]? = some ZT)
    (H1 : w1 = w'.alloc (.cells #[v0, v1, v2, v3, v4, v5] 36) ∧ w1.cell? ⟨p, 0, none⟩ = some (.slice (some ⟨g, 0, none⟩) (R0.length + 1) c) ∧ w1.frozen? ⟨p, 0, none⟩ = false ∧ w1.cell? ⟨g, R0.length, none⟩ = some x ∧ w1.frozen? ⟨g, R0.length, none⟩ = false ∧
      w1.cell? ⟨w'.heap.size, 0, none⟩ = some v0 ∧ w1.cell? ⟨w'.heap.size, 1, none⟩ = some v1 ∧ w1.cell? ⟨w'.heap.size, 2, none⟩ = some v2 ∧ w1.cell? ⟨w'.heap.size, 3, none⟩ = some v3 ∧ w1.cell? ⟨w'.heap.size, 4, none⟩ = some v4 ∧ w1.cell? ⟨w'.heap.size, 5, none⟩ = some v5 ∧
      g < w'.heap.size ∧ p < w'.heap.size ∧ w.heap.size < w'.heap.size)
    (H2 : w2 = (w1.setCell ⟨g, R0.length, none⟩ (.slice a' row.length (c' - 1))).drew ∧ Keep (fun k => k = g) w1 w2)
    (H4 : w4.ownsRow B 22 1 (.slice (some ⟨g', 0, none⟩) (R0.length + 1 + 1) cap') (R0.length + 1 + 1) ((xs.take R0.length ++ [.slice a' row.length (c' - 1)]) ++ [.slice al l.length cl]) ∧ ((Value.slice (some ⟨g, 0, none⟩) (R0.length + 1) c).ownBlock = some g' ∨ g' = (w2.alloc (.cells #[.slice al l.length cl] 22)).drew.heap.size) ∧ g' < w4.heap.size ∧
      Keep (fun k => k = g) w2 w4 ∧ w5 = w4.setCell ⟨p, 0, none⟩ (.slice (some ⟨g', 0, none⟩) (R0.length + 1 + 1) cap'))
    (hT : TRow (Off B r) w row a' 0) (hc : row.length + 1 ≤ c' ∧ c' ≤ maxLen) (hTl : TRow (Off B r) w l al 0) (hcl : l.length ≤ cl) (hcm : cl ≤ maxLen)
    (hrw : r < w.heap.size) (hW : W = ((((((w5.setCell ⟨w.heap.size, 0, none⟩ u0).setCell ⟨w.heap.size, 1, none⟩ u1).setCell ⟨w.heap.size, 2, none⟩ u2).setCell ⟨w.heap.size, 3, none⟩ u3).setCell ⟨w.heap.size, 4, none⟩ u4).setCell ⟨w.heap.size, 5, none⟩ u5)) :
    ∃ F', Six W w.heap.size 0 u0 u1 u2 u3 u4 u5 ∧ TWay B r W p F' (R0 ++ [row] ++ [l]) ∧ Keep F w W ∧ ∀ k, F' k → F k ∨ w.heap.size ≤ k := by
  obtain ⟨hp, ho, ha, hpg, hF, hO, hE⟩ := H
  obtain ⟨h1, _, _, _, _, _, _, _, _, _, _, l1, l2, l3⟩ := H1
  obtain ⟨h2, k2⟩ := H2
  obtain ⟨ho4, ha4, hl4, kk, h5⟩ := H4
  have hgw : g < w.heap.size := (own_cell ho (m := R0.length) (by rw [HL]; omega)).2.2.1
  have hpw : p < w.heap.size := (Array.getElem?_eq_some_iff.1 hp).1
  have hs1 : w1.heap.size = w'.heap.size + 1 := by rw [h1, alloc_size]
  have hs2 := k2.size
  have hs4 := kk.size
  have hgB : Off B r g := hO g ((hF g).2 (Or.inr rfl))
  have hg' : g' = g ∨ w.heap.size < g' := by
    rcases ha4 with e | e
    · left; simp [Value.ownBlock] at e; exact e.symm
    · right; rw [e]; show w.heap.size < (w2.alloc _).heap.size; rw [alloc_size]; omega
  have hpg' : p ≠ g' := by rcases hg' with e | e <;> omega
  have k5 : Keep (fun k => k = p) w4 w5 := by rw [h5]; exact Keep.setCell (F := fun k => k = p) (p := ⟨p, 0, none⟩) w4 rfl _
  have hs5 := k5.size
  have kW : Keep (fun k => k = w.heap.size) w5 W := by rw [hW]; exact keep_set6 w5 w.heap.size _ _ _ _ _ _
  have kw : Keep F w W := by
    have ka : Keep F w (w.alloc ZT) := Keep.of_below (ba w ZT)
    have kb : Keep F w w' := ka.trans HK fun i h => Or.inl ((hF i).2 (Or.inl h))
    have kc : Keep F w w1 := kb.trans (F' := No) (Keep.of_below (by rw [h1]; exact ba w' _)) fun i h => h.elim
    have kd : Keep F w w2 := kc.trans k2 fun i h => Or.inl ((hF i).2 (Or.inr h))
    have ke : Keep F w w4 := kd.trans kk fun i h => Or.inl ((hF i).2 (Or.inr h))
    have kf : Keep F w w5 := ke.trans k5 fun i h => Or.inl ((hF i).2 (Or.inl h))
    exact kf.trans kW fun i h => Or.inr (by omega)
  have hz5 : w5.heap[w.heap.size]? = some ZT := by
    rw [k5.block _ (by omega) (by omega), kk.block _ (by omega) (by omega), k2.block _ (by omega) (by omega), h1, (ba w' _).block _ l3]; exact HZ
  refine ⟨fun k => k = p ∨ k = g', by rw [hW]; exact six_set hz5, ⟨g', cap', (xs.take R0.length ++ [.slice a' row.length (c' - 1)]) ++ [.slice al l.length cl], ?_, ?_, ?_, hpg', fun k => Iff.rfl, ?_⟩, kw, ?_⟩
  · have hp4 : w4.heap[p]? = some (.cells #[.slice (some ⟨g, 0, none⟩) (R0.length + 1) c] 148 (0, 0)) := by
      rw [kk.block p (by omega) hpg, k2.block p (by omega) hpg, h1, (ba w' _).block p l2, HP]
    rw [kW.block p (by omega) (by omega), h5, heap_setCell_same w4 p 0 _ 148 _ hp4]; simp
  · have : W.heap[g']? = w4.heap[g']? := by
      rw [kW.block g' (by omega) (by omega), k5.block g' hl4 (fun e => hpg' e.symm)]
    have o2 := own_keep ho4 this
    simpa using o2
  · refine All.append (All.append ((ha.split (R := R0)).1.map fun l v h => Slc.keep (kw.mono hO) (fun _ _ => id) h) ⟨⟨a', c' - 1, rfl, by omega, by omega, TRow.keep (kw.mono hO) (fun _ _ => id) _ _ hT⟩, trivial⟩) ⟨⟨al, cl, rfl, hcl, hcm, TRow.keep (kw.mono hO) (fun _ _ => id) _ _ hTl⟩, trivial⟩
  · intro k hk
    rcases hk with rfl | rfl
    · exact hO _ ((hF _).2 (Or.inl rfl))
    · refine ⟨?_, ?_⟩
      · exact (ho4.lt _ rfl).1
      · rcases hg' with e | e
        · rw [e]; exact hgB.2
        · omega
  · intro k hk
    rcases hk with rfl | rfl
    · exact Or.inl ((hF _).2 (Or.inl rfl))
    · rcases hg' with e | e
      · exact Or.inl ((hF _).2 (Or.inr e))
      · exact Or.inr (by omega)
/-- the rows behind a step: of a compound its arguments -/
def kids : Tm → List (List Tm) | .mk k _ _ _ _ l => if k = 5 then [l] else []
def NextSome (B r : Nat) (t : Tm) (d : Int) (p : Nat) (F : Nat → Prop) (R : List (List Tm)) (w : World) (e : Ending) (w' : World) : Prop :=
  ∃ v, e = .returned (.tuple #[v, .int .i64 d, .bool true]) ∧ Lies (Off B r) w' t v ∧ Step B r w p F R w'
set_option maxRecDepth 100000 in
theorem next_some (B r : Nat) (w : World) (p : Nat) (F : Nat → Prop) (R0 E : List (List Tm)) (t : Tm) (row : List Tm) (h : TWay B r w p F (R0 ++ (t :: row) :: E)) (hE : ∀ x ∈ E, x = []) (h9 : R0.length + 1 + E.length ≤ 1000) (hrw : r < w.heap.size) :
    Calls Try.prog 79 #[.pointer (some ⟨p, 0, none⟩)] w (NextSome B r t (R0.length + 1 : Nat) p F (R0 ++ [row] ++ kids t) w) := by
  obtain ⟨g, c, xs, hp, ho, ha, hpg, hF, hO⟩ := h
  have H := Lib.hid (And.intro hp (And.intro ho (And.intro ha (And.intro hpg (And.intro hF (And.intro hO hE))))))
  clear ho ha hF hO hE
  have hlen : (R0 ++ (t :: row) :: E).length = R0.length + 1 + E.length := by simp; omega
  have hc0 : w.cell? ⟨p, 0, none⟩ = some (.slice (some ⟨g, 0, none⟩) (R0 ++ (t :: row) :: E).length c) := by simp [World.cell?, hp]
  have hf0 : w.frozen? ⟨p, 0, none⟩ = false := by simp [World.frozen?, hp]
  have hlt : p < w.heap.size := (Array.getElem?_eq_some_iff.1 hp).1
  have HL := Lib.hid hlen
  have HRW := Lib.hid hrw
  clear hp hlen hrw
  go_enter Try.func79, Try.ntmps79
  go_wp2_with fail
  refine wp_scope_label 0 (Jn w p g c (R0.length + 1) (R0.length + 1 + E.length)) (fun _ => Mn p) ?_ ?_
  · refine ⟨R0.length + 1 + E.length, fun _ => undef, by omega, by omega, rfl, Keep.refl _ _, ?_⟩
    rw [(ba w ZT).block p hlt, ← HL.out]; exact H.out.1
  · rintro a' w' ⟨n, U, h0, hn, rfl, hk, hp'⟩
    have HM := Lib.hid (Mn_eq hp')
    have hz : w'.heap[w.heap.size]? = some ZT := by rw [hk.block _ (by rw [alloc_size]; omega) (by omega)]; exact alloc_at _ _
    have HK := Lib.hid hk
    have HP := Lib.hid hp'
    have HN := Lib.hid (And.intro h0 hn)
    have q1 : w'.cell? ⟨p, 0, none⟩ = some (.slice (some ⟨g, 0, none⟩) n c) := by simp [World.cell?, hp']
    have q2 : w'.frozen? ⟨p, 0, none⟩ = false := by simp [World.frozen?, hp']
    obtain ⟨m, rfl⟩ : ∃ m, n = m + 1 := ⟨n - 1, by omega⟩
    have hg : ∀ k, w'.cell? ⟨g, k, none⟩ = w.cell? ⟨g, k, none⟩ ∧ w'.frozen? ⟨g, k, none⟩ = w.frozen? ⟨g, k, none⟩ := fun k => by
      obtain ⟨_, ho, _, hpg, _⟩ := H.out
      have := (own_cell ho (m := m) (by rw [HL.out]; omega)).2.2.1
      simp only [World.cell?, World.frozen?]
      rw [HK.out.block g (by rw [alloc_size]; omega) (by omega), (ba w ZT).block g this]
      exact ⟨rfl, rfl⟩
    have hmc : m + 1 ≤ c := by
      obtain ⟨_, ho, _⟩ := H.out
      have := own_cell ho (m := m) (by rw [HL.out]; omega)
      rw [HL.out] at this
      omega
    have hm9 : m + 1 ≤ 1000 := by omega
    by_cases hm : m = R0.length
    · subst hm
      have hx : ∃ a c', w'.cell? ⟨g, R0.length, none⟩ = some (.slice a (row.length + 1) c') ∧ row.length + 1 ≤ c' ∧ c' ≤ maxLen ∧ TRow (Off B r) w (t :: row) a 0 := by
        obtain ⟨_, ho, ha, _, _, _, hE⟩ := H.out
        have he : (R0 ++ (t :: row) :: E)[R0.length]? = some (t :: row) := by simp
        obtain ⟨x, hx, hs⟩ := ha.at he
        obtain ⟨a, c', rfl, hs⟩ := hs
        exact ⟨a, c', (hg _).1.trans ((own_cell ho (by rw [HL.out]; omega)).1.trans hx), hs⟩
      obtain ⟨a, c', hx, hc1, hc2, hT⟩ := hx
      have hgf : w'.frozen? ⟨g, R0.length, none⟩ = false := by
        obtain ⟨_, ho, _⟩ := H.out
        exact (hg _).2.trans (own_cell ho (by rw [HL.out]; omega)).2.1
      obtain ⟨a', hT', htail⟩ := TRow.tail (r := row) hT hc1
      obtain ⟨b, o, v0, v1, v2, v3, v4, v5, hbw, hbX, h6, hlt0, hlook⟩ := TRow.look (l := t :: row) hT (m := 0) (by simp)
      have hb : w'.heap[b]? = w.heap[b]? := by
        have hpO := H.out.2.2.2.2.2.1 p ((H.out.2.2.2.2.1 p).2 (.inl rfl))
        rw [HK.out.block b (by rw [alloc_size]; omega) (fun e => hbX (e ▸ hpO)), (ba w ZT).block b hbw]
      have h6' : Six w' b o v0 v1 v2 v3 v4 v5 := by
        simp only [Six, World.cell?, hb]; exact h6
      have HT' := Lib.hid (And.intro hT' (And.intro hlt0 (And.intro hbX (And.intro hbw (And.intro hc1 hc2)))))
      obtain ⟨e0, e1, e2, e3, e4, e5⟩ := h6'
      have hl1 := hlook c' 
      simp only [List.length_cons, Int.natCast_zero] at hl1
      obtain ⟨k, nn, i, re, im, l⟩ := t
      change Lies _ _ (Tm.mk k nn i re im l) _ at hlt0
      rw [Lies] at hlt0
      obtain ⟨al, cl, hv, hf, hrl⟩ := hlt0
      simp only [Value.agg.injEq, Array.mk.injEq, List.cons.injEq, and_true] at hv
      obtain ⟨rfl, rfl, rfl, rfl, rfl, rfl⟩ := hv
      have HFit := Lib.hid (And.intro hf hrl)
      have HB := Lib.hid (And.intro h9 hbw)
      have HG := Lib.hid hg
      have HZ := Lib.hid hz
      clear hk hp' hn hc0 hf0 hlt h0 hpg hz hg h9 hT hlook h6 hbX hbw hT' hf hrl hb hc1 hc2
      by_cases hk5 : k = 5
      · subst hk5
        go_wp2_with fail
        obtain ⟨w1, hw1⟩ : ∃ w1, w1 = w'.alloc (.cells #[.int .i64 5, .string nn, .int .i64 i, .int .u64 re, .int .u64 im, .slice al l.length cl] 36) := ⟨_, rfl⟩
        rw [← hw1]
        have F1 := facts1 H.out.2.2.2.1 (own_cell H.out.2.1 (m := R0.length) (by rw [HL.out]; omega)).2.2.1 HK.out HP.out HZ.out hw1 hx hgf
        have HW1 := Lib.hid (And.intro hw1 F1)
        obtain ⟨g1, g2, g3, g4, g5, g6, g7, g8, g9, g10, s1, s2, s3⟩ := F1
        clear hw1 q1 q2 hx hgf e0 e1 e2 e3 e4 e5
        go_region
        obtain ⟨w2, hw2⟩ : ∃ w2, w2 = (w1.setCell ⟨g, R0.length, none⟩ (.slice a' row.length (c' - 1))).drew := ⟨_, rfl⟩
        rw [← hw2]
        have F2 := facts2 H.out.2.2.2.1 HZ.out HW1.out (by have := (own_cell H.out.2.1 (m := R0.length) (by rw [HL.out]; omega)).2.2.1; omega) hw2
        obtain ⟨k2, g1, g2, g5, g6, g7, g8, g9, g10, z0, z1, z2, z3, z4, z5, f0, f1, f2, f3, f4, f5⟩ := F2
        have HW2 := Lib.hid (And.intro hw2 k2)
        have HO2 := Lib.hid (own2 H.out HL.out HK.out HW1.out HW2.out)
        have hl2 : p < w2.heap.size ∧ w.heap.size < w2.heap.size ∧ w'.heap.size < w2.heap.size := by
          have a1 := HW1.out.1
          have a2 := k2.size
          rw [a1, alloc_size] at a2
          omega
        obtain ⟨l21, l22, l23⟩ := hl2
        obtain ⟨i0, hi, hi0, hi1, hi2⟩ := info_parts infoSl
        have HI := Lib.hid (And.intro hi (And.intro hi0 (And.intro hi1 hi2)))
        clear hw2 k2 hi hi0 hi1 hi2
        go_wp2_with fail
        go_region_law (refine step_append_lies _ rfl (.tmp 54) (.tmp 57) 146 rfl B 22 i0 (.slice none 0 0) 1 24 Try.underlying146 HI.out.1 HI.out.2.1 HI.out.2.2.1 HI.out.2.2.2 rfl (by decide) (.slice (some ⟨g, 0, none⟩) (R0.length + 1) c) (R0.length + 1) (xs.take R0.length ++ [.slice a' row.length (c' - 1)]) rfl (own_keep HO2.out.1 ((ba w2 _).block g HO2.out.2)) ⟨w2.heap.size, 0, none⟩ 1 1 [.slice al l.length cl] rfl rfl (cell_one_new w2 _ _) (by simp [Value.oneCell']) (by omega) (by unfold maxLen; omega) (by omega) (by have := HO2.out.1.lt _ rfl; simp; omega) _ rfl ?_; intro g' cap' w4 ho4 hg4 ha4 hl4; have kk := grown2 hg4; have y1 : w4.cell? ⟨p, 0, none⟩ = some (.slice (some ⟨g, 0, none⟩) (R0.length + 1) c) := (kk.cell l21 H.out.2.2.2.1).trans g1; have y2 : w4.frozen? ⟨p, 0, none⟩ = false := (kk.frozen l21 H.out.2.2.2.1).trans g2)
        all_goals
          obtain ⟨w5, hw5⟩ : ∃ w5, w5 = w4.setCell ⟨p, 0, none⟩ (.slice (some ⟨g', 0, none⟩) (R0.length + 1 + 1) cap') := ⟨_, rfl⟩
          rw [← hw5]
          have hgw : g < w.heap.size := (own_cell H.out.2.1 (m := R0.length) (by rw [HL.out]; omega)).2.2.1
          have F3 := facts3 H.out.2.2.2.1 hgw (Array.getElem?_eq_some_iff.1 H.out.1).1 HK.out HZ.out HW1.out HW2.out.2 kk hw5
          obtain ⟨g5, g6, g7, g8, g9, g10, z0, z1, z2, z3, z4, z5, f0, f1, f2, f3, f4, f5⟩ := F3
          have HF := Lib.hid (And.intro ho4 (And.intro ha4 (And.intro hl4 (And.intro kk hw5))))
          clear ho4 hg4 ha4 hl4 kk y1 y2 hw5 hgw g1 g2
          go_wp2_with fail
          obtain ⟨W, hW⟩ : ∃ W, W = ((((((w5.setCell ⟨w.heap.size, 0, none⟩ (.int .i64 5)).setCell ⟨w.heap.size, 1, none⟩ (.string nn)).setCell ⟨w.heap.size, 2, none⟩ (.int .i64 i)).setCell ⟨w.heap.size, 3, none⟩ (.int .u64 re)).setCell ⟨w.heap.size, 4, none⟩ (.int .u64 im)).setCell ⟨w.heap.size, 5, none⟩ (.slice al l.length cl)) := ⟨_, rfl⟩
          rw [← hW]
          have hall := fin5 H.out HL.out HK.out HP.out HZ.out HW1.out HW2.out HF.out HT'.out.1 HT'.out.2.2.2.2 HFit.out.2 HFit.out.1.l1 (by have := HFit.out.1.c1; unfold maxLen; exact this) HRW.out hW
          obtain ⟨F', ⟨e0, e1, e2, e3, e4, e5⟩, hway, hkp, hFF⟩ := hall
          refine bodyPost_ret (v := .tuple #[.agg #[.int .i64 5, .string nn, .int .i64 i, .int .u64 re, .int .u64 im, .slice al l.length cl], .int .i64 (R0.length + 1), .bool true]) (by simp [results, Try.results79, go_sem, e0, e1, e2, e3, e4, e5]) rfl ⟨_, by simp, Lies.keep (hkp.mono H.out.2.2.2.2.2.1) (fun _ _ => id) _ _ HT'.out.2.1, F', ?_, hkp, hFF⟩
          have hkd : kids (Tm.mk 5 nn i re im l) = [l] := by rw [kids, if_pos rfl]
          rw [hkd]
          exact hway
      · have hk5' : (k == 5) = false := by rw [beq_eq_false_iff_ne]; exact hk5
        have HK5 := Lib.hid hk5
        clear hk5
        go_wp2_with fail
        obtain ⟨w1, hw1⟩ : ∃ w1, w1 = w'.alloc (.cells #[.int .i64 k, .string nn, .int .i64 i, .int .u64 re, .int .u64 im, .slice al l.length cl] 36) := ⟨_, rfl⟩
        rw [← hw1]
        have F1 := facts1 H.out.2.2.2.1 (own_cell H.out.2.1 (m := R0.length) (by rw [HL.out]; omega)).2.2.1 HK.out HP.out HZ.out hw1 hx hgf
        have HW1 := Lib.hid (And.intro hw1 F1)
        obtain ⟨g1, g2, g3, g4, g5, g6, g7, g8, g9, g10, s1, s2, s3⟩ := F1
        clear hw1 q1 q2 hx hgf e0 e1 e2 e3 e4 e5
        go_region
        obtain ⟨w2, hw2⟩ : ∃ w2, w2 = (w1.setCell ⟨g, R0.length, none⟩ (.slice a' row.length (c' - 1))).drew := ⟨_, rfl⟩
        rw [← hw2]
        have F2 := facts2 H.out.2.2.2.1 HZ.out HW1.out (by have := (own_cell H.out.2.1 (m := R0.length) (by rw [HL.out]; omega)).2.2.1; omega) hw2
        obtain ⟨k2, g1, g2, g5, g6, g7, g8, g9, g10, z0, z1, z2, z3, z4, z5, f0, f1, f2, f3, f4, f5⟩ := F2
        have HW2 := Lib.hid (And.intro hw2 k2)
        clear hw2 k2
        go_wp2_with fail
        obtain ⟨W, hW⟩ : ∃ W, W = ((((((w2.setCell ⟨w.heap.size, 0, none⟩ (.int .i64 k)).setCell ⟨w.heap.size, 1, none⟩ (.string nn)).setCell ⟨w.heap.size, 2, none⟩ (.int .i64 i)).setCell ⟨w.heap.size, 3, none⟩ (.int .u64 re)).setCell ⟨w.heap.size, 4, none⟩ (.int .u64 im)).setCell ⟨w.heap.size, 5, none⟩ (.slice al l.length cl)) := ⟨_, rfl⟩
        rw [← hW]
        have hz2 : w2.heap[w.heap.size]? = some ZT := zt2 H.out.2.2.2.1 HZ.out HW1.out HW2.out.2 (by have := (own_cell H.out.2.1 (m := R0.length) (by rw [HL.out]; omega)).2.2.1; omega)
        have h6 : Six W w.heap.size 0 (.int .i64 k) (.string nn) (.int .i64 i) (.int .u64 re) (.int .u64 im) (.slice al l.length cl) := by rw [hW]; exact six_set hz2
        have hk2 : Keep (fun k => k = w.heap.size) w2 W := by rw [hW]; exact keep_set6 w2 w.heap.size _ _ _ _ _ _
        have hall := fin2 H.out HL.out HK.out HP.out HW1.out HW2.out hk2 HT'.out.1 HT'.out.2.2.2.2
        obtain ⟨e0, e1, e2, e3, e4, e5⟩ := h6
        refine bodyPost_ret (v := .tuple #[.agg #[.int .i64 k, .string nn, .int .i64 i, .int .u64 re, .int .u64 im, .slice al l.length cl], .int .i64 (R0.length + 1), .bool true]) (by simp [results, Try.results79, go_sem, e0, e1, e2, e3, e4, e5]) rfl ⟨_, by simp, Lies.keep (hall.2.mono H.out.2.2.2.2.2.1) (fun _ _ => id) _ _ HT'.out.2.1, F, ?_, hall.2, fun _ => Or.inl⟩
        have hkd : kids (Tm.mk k nn i re im l) = [] := by rw [kids, if_neg HK5.out]
        rw [hkd, List.append_nil]
        exact hall.1
    · have hx : ∃ a c', w'.cell? ⟨g, m, none⟩ = some (.slice a 0 c') := by
        obtain ⟨_, ho, ha, _, _, _, hE⟩ := H.out
        have he : (R0 ++ (t :: row) :: E)[m]? = E[m - R0.length - 1]? := by
          rw [List.getElem?_append_right (by omega), show m - R0.length = (m - R0.length - 1) + 1 by omega, List.getElem?_cons_succ]
          simp
        have hl : m - R0.length - 1 < E.length := by omega
        rw [List.getElem?_eq_getElem hl] at he
        obtain ⟨x, hx, hs⟩ := ha.at he
        rw [hE _ (List.getElem_mem hl)] at hs
        obtain ⟨a, c', rfl, _⟩ := hs
        exact ⟨a, c', (hg m).1.trans ((own_cell ho (by rw [HL.out]; omega)).1.trans hx)⟩
      obtain ⟨a, c', hx⟩ := hx
      have HB := Lib.hid (And.intro hm h9)
      clear hk hp' hn hc0 hf0 hlt h0 hpg hz hg hm h9
      go_wp2_with fail
      go_step3
      have hp' := heap_setCell_same w' p 0 _ 148 (.slice (some ⟨g, 0, none⟩) m c) HP.out
      refine ⟨rfl, Jn.mk m (by have := HN.out; have := HB.out; omega) (by have := HN.out; omega) rfl (HK.out.trans (Keep.setCell (F := fun k => k = p) _ rfl _) fun _ => Or.inl) hp', ?_⟩
      rw [Mn_eq hp', HM.out]
      omega
end Go.Proofs.Ytibepkljcofpdaa.wlk
