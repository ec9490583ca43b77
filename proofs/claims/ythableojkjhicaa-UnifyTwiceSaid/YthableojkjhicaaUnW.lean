/- What each place of a heap is: raw (a word, a functor) or a cell; kept by Put. -/
import Derived.Test.YthableojkjhicaaUnO
namespace Go.Proofs.Ythableojkjhicaa.unw
open Go.Proofs.Ythableojkjhicaa.hp Go.Proofs.Ythableojkjhicaa.cel Go.Proofs.Ythableojkjhicaa.kp Go.Proofs.Ythableojkjhicaa.tm Go.Proofs.Ythableojkjhicaa.pm Go.Proofs.Ythableojkjhicaa.un
open Go.Proofs.Ythableojkjhicaa.rpt (putT)
open Go.Proofs.Ythableojkjhicaa.atm (nv ne nx l0)
set_option linter.unusedVariables false
/-- a term's cell; B: the places that hold no cell -/
def TO (h : List Int) (B : Nat → Prop) (c : Int) : Prop :=
  (∃ p : Nat, c = (p : Int) * 8 ∧ p < h.length ∧ ¬ B p) ∨
  (∃ p n j : Nat, c = jn 1 (p : Int) ∧ p + n < h.length ∧ 1 ≤ n ∧ n ≤ 20 ∧ j < 4096 ∧ h.getD p 0 = jn 6 ((j : Int) * 256 + n) ∧ B p ∧ ∀ i, 1 ≤ i → i ≤ n → ¬ B (p + i)) ∨
  ((c % 8 = 2 ∨ c % 8 = 3) ∧ W64 c) ∨
  (∃ p : Nat, c = jn 4 (p : Int) ∧ p < h.length ∧ B p) ∨
  (∃ p : Nat, c = jn 5 (p : Int) ∧ p + 1 < h.length ∧ B p ∧ B (p + 1))
structure WT (h : List Int) (B : Nat → Prop) : Prop where
  b : ∀ q, B q → q < h.length
  c : ∀ q, q < h.length → ¬ B q → TO h B (h.getD q 0)
structure Gr (h : List Int) (B : Nat → Prop) (h' : List Int) (B' : Nat → Prop) : Prop where
  len : h.length ≤ h'.length
  b : ∀ q, q < h.length → (B' q ↔ B q)
  v : ∀ q, q < h.length → B q → h'.getD q 0 = h.getD q 0
section
variable {l l' l'' : List Int} {B B' B'' : Nat → Prop} {c x : Int}
theorem Gr.refl : Gr l B l B := ⟨Nat.le_refl _, fun _ _ => Iff.rfl, fun _ _ _ => rfl⟩
theorem Gr.trans (g : Gr l B l' B') (g' : Gr l' B' l'' B'') : Gr l B l'' B'' := by
  have h1 := g.len
  have h2 := g'.len
  exact ⟨by omega, fun q hq => (g'.b q (by omega)).trans (g.b q hq), fun q hq hb => (g'.v q (by omega) ((g.b q hq).2 hb)).trans (g.v q hq hb)⟩
theorem TO.gr (h : TO l B c) (g : Gr l B l' B') : TO l' B' c := by
  have hl := g.len
  rcases h with ⟨p, h1, h2, h3⟩ | ⟨p, n, j, h1, h2, h3, h4, h5, h6, h7, h8⟩ | h | ⟨p, h1, h2, h3⟩ | ⟨p, h1, h2, h3, h4⟩
  · exact Or.inl ⟨p, h1, by omega, fun h => h3 ((g.b p h2).1 h)⟩
  · exact Or.inr (Or.inl ⟨p, n, j, h1, by omega, h3, h4, h5, (g.v p (by omega) h7).trans h6, (g.b p (by omega)).2 h7, fun i i1 i2 h => h8 i i1 i2 ((g.b _ (by omega)).1 h)⟩)
  · exact Or.inr (Or.inr (Or.inl h))
  · exact Or.inr (Or.inr (Or.inr (Or.inl ⟨p, h1, by omega, (g.b p h2).2 h3⟩)))
  · exact Or.inr (Or.inr (Or.inr (Or.inr ⟨p, h1, by omega, (g.b p (by omega)).2 h3, (g.b _ h2).2 h4⟩)))
theorem getD_old {q : Nat} (h : q < l.length) (x : Int) : (l ++ [x]).getD q 0 = l.getD q 0 := by
  rw [List.getD_eq_getElem?_getD, List.getD_eq_getElem?_getD, List.getElem?_append_left h]
theorem getD_new (x : Int) : (l ++ [x]).getD l.length 0 = x := by
  rw [List.getD_eq_getElem?_getD, List.getElem?_append_right (Nat.le_refl _)]; simp
theorem push_cell (w : WT l B) (hx : TO (l ++ [x]) B x) : WT (l ++ [x]) B ∧ Gr l B (l ++ [x]) B := by
  have g : Gr l B (l ++ [x]) B := ⟨by simp, fun _ _ => Iff.rfl, fun q hq _ => getD_old hq x⟩
  refine ⟨⟨fun q h => by have := w.b q h; simp; omega, fun q hq hb => ?_⟩, g⟩
  by_cases h : q < l.length
  · rw [getD_old h]; exact (w.c q h hb).gr g
  · have : q = l.length := by simp at hq; omega
    subst this
    rw [getD_new]; exact hx
theorem push_var (w : WT l B) : WT (l ++ [(l.length : Int) * 8]) B ∧ Gr l B (l ++ [(l.length : Int) * 8]) B :=
  push_cell w (Or.inl ⟨l.length, rfl, by simp, fun h => by have := w.b _ h; omega⟩)
theorem push_raw (w : WT l B) (x : Int) : WT (l ++ [x]) (fun q => B q ∨ q = l.length) ∧ Gr l B (l ++ [x]) (fun q => B q ∨ q = l.length) := by
  have g : Gr l B (l ++ [x]) (fun q => B q ∨ q = l.length) := ⟨by simp, fun q hq => ⟨fun h => h.resolve_right (by omega), Or.inl⟩, fun q hq _ => getD_old hq x⟩
  refine ⟨⟨fun q h => ?_, fun q hq hb => ?_⟩, g⟩
  · rcases h with h | h
    · have := w.b q h; simp; omega
    · simp; omega
  · have h : q < l.length := by
      have h1 : q ≠ l.length := fun e => hb (Or.inr e)
      simp at hq; omega
    rw [getD_old h]; exact (w.c q h fun h => hb (Or.inl h)).gr g
theorem set_at {q : Nat} (h : q < l.length) (x : Int) : (l.set q x).getD q 0 = x := by
  rw [List.getD_eq_getElem?_getD, List.getElem?_set_self h]; rfl
theorem set_off {p q : Nat} (h : p ≠ q) (x : Int) : (l.set p x).getD q 0 = l.getD q 0 := by
  rw [List.getD_eq_getElem?_getD, List.getElem?_set_ne h, ← List.getD_eq_getElem?_getD]
theorem set_cell (w : WT l B) {p : Nat} (hp : p < l.length) (hb : ¬ B p) (hx : TO l B x) : WT (l.set p x) B ∧ Gr l B (l.set p x) B := by
  have g : Gr l B (l.set p x) B := ⟨by simp, fun _ _ => Iff.rfl, fun q hq h => set_off (fun e => hb (by rw [e]; exact h)) x⟩
  refine ⟨⟨fun q h => by have := w.b q h; simp; omega, fun q hq hq2 => ?_⟩, g⟩
  by_cases h : p = q
  · subst h; rw [set_at hp]; exact hx.gr g
  · rw [set_off h]; exact (w.c q (by simpa using hq) hq2).gr g
theorem more_wt (m : Int) : ∀ (n : Nat) (l : List Int), WT l B → (more m n l).1 = 0 → WT (more m n l).2 B ∧ Gr l B (more m n l).2 B ∧ (more m n l).2.length = l.length + n ∧ (∀ q, q < l.length → (more m n l).2.getD q 0 = l.getD q 0) ∧ ∀ q, l.length ≤ q → q < l.length + n → (more m n l).2.getD q 0 = (q : Int) * 8
  | 0, l, w, _ => ⟨w, Gr.refl, rfl, fun _ _ => rfl, fun q h1 h2 => by omega⟩
  | n + 1, l, w, h => by
    unfold more at h ⊢
    split at h
    · rename_i hm
      rw [if_pos hm]
      obtain ⟨w1, g1⟩ := push_var w
      obtain ⟨w2, g2, e2, k2, n2⟩ := more_wt m n _ w1 h
      simp only [List.length_append, List.length_cons, List.length_nil] at e2 k2 n2
      refine ⟨w2, g1.trans g2, by omega, fun q hq => (k2 q (by omega)).trans (getD_old hq _), fun q h1 h3 => ?_⟩
      by_cases hq : q = l.length
      · subst hq; rw [k2 _ (by omega), getD_new]
      · exact n2 q (by omega) (by omega)
    · cases h
end
/-! ### Put keeps it, and references stand straight upon variables -/
structure ST (s : S) (B : Nat → Prop) : Prop where
  w : WT s.h B
  v : ∀ x ∈ s.v, ∃ p : Nat, x.2 = (p : Int) * 8 ∧ p < s.h.length ∧ ¬ B p ∧ s.h.getD p 0 = (p : Int) * 8
  f : ∀ q, q < s.h.length → ¬ B q → s.h.getD q 0 % 8 = 0 → s.h.getD q 0 = (q : Int) * 8 ∨ ∃ x ∈ s.v, x.2 = s.h.getD q 0
  a : s.a.length ≤ 4096
theorem ne_nv {a : List ByteArray} {n : ByteArray} (h : ne a n = 0) (ha : a.length ≤ 4096) : ∃ j : Nat, nv a n = (j : Int) ∧ j < 4096 ∧ (nx a n).length ≤ 4096 := by
  unfold atm.ne at h
  unfold atm.nv atm.nx
  split at h
  · cases h
  rename_i h1
  rw [if_neg h1, if_neg h1]
  split at h
  · rename_i h2
    rw [if_pos h2, if_pos h2]
    exact ⟨_, rfl, by have := List.idxOf_lt_length_of_mem h2; omega, ha⟩
  · rename_i h2
    rw [if_neg h2, if_neg h2]
    split at h
    · cases h
    · rename_i h3
      rw [if_neg h3, if_neg h3]
      exact ⟨_, rfl, by omega, by simp; omega⟩
/-- the place of one's own: there, a cell, no variable's -/
def Own (s : S) (B : Nat → Prop) (own : Int) : Prop := own < 0 ∨ ∃ p : Nat, own = (p : Int) ∧ p < s.h.length ∧ ¬ B p ∧ s.h.getD p 0 = (p : Int) * 8 ∧ ∀ x ∈ s.v, x.2 ≠ (p : Int) * 8
structure PR (s : S) (B : Nat → Prop) (own : Int) (c : Int) (s' : S) (B' : Nat → Prop) : Prop where
  st : ST s' B'
  gr : Gr s.h B s'.h B'
  tt : TO s'.h B' c
  old : ∀ x ∈ s.v, x ∈ s'.v
  nw : ∀ x ∈ s'.v, x ∈ s.v ∨ (x.2 = own * 8 ∧ c = own * 8) ∨ (s.h.length : Int) * 8 ≤ x.2
  ref : c % 8 = 0 → ∃ x ∈ s'.v, x.2 = c
  keep : ∀ q, q < s.h.length → s'.h.getD q 0 = s.h.getD q 0
structure PL (s : S) (B : Nat → Prop) (p : Nat) (s' : S) (B' : Nat → Prop) : Prop where
  st : ST s' B'
  gr : Gr s.h B s'.h B'
  old : ∀ x ∈ s.v, x ∈ s'.v
  nw : ∀ x ∈ s'.v, x ∈ s.v ∨ (p : Int) * 8 ≤ x.2
  keep : ∀ q, q < p → q < s.h.length → s'.h.getD q 0 = s.h.getD q 0
theorem look_mem {v : List (Int × Int)} {i c : Int} (h : pm.look v i = some c) : ∃ x ∈ v, x.2 = c := by
  unfold pm.look at h
  rw [Option.map_eq_some_iff] at h
  obtain ⟨x, hx, rfl⟩ := h
  exact ⟨x, List.mem_of_find?_eq_some hx, rfl⟩
theorem ST.raw {s : S} {B : Nat → Prop} (h : ST s B) (x : Int) {a : List ByteArray} (ha : a.length ≤ 4096) : ST ⟨s.h ++ [x], a, s.v⟩ (fun q => B q ∨ q = s.h.length) ∧ Gr s.h B (s.h ++ [x]) (fun q => B q ∨ q = s.h.length) := by
  obtain ⟨w, g⟩ := push_raw h.w x
  refine ⟨⟨w, fun y hy => ?_, fun q hq hb he => ?_, ha⟩, g⟩
  · obtain ⟨p, h1, h2, h3, h4⟩ := h.v y hy
    exact ⟨p, h1, by simp; omega, fun h => h3 (h.resolve_right (by omega)), by show (s.h ++ [x]).getD p 0 = _; rw [getD_old h2]; exact h4⟩
  · have hq2 : q < s.h.length := by
      have h1 : q ≠ s.h.length := fun e => hb (Or.inr e)
      have : q < (s.h ++ [x]).length := hq
      simp at this; omega
    have e : (s.h ++ [x]).getD q 0 = s.h.getD q 0 := getD_old hq2 x
    show (s.h ++ [x]).getD q 0 = _ ∨ ∃ y ∈ s.v, y.2 = (s.h ++ [x]).getD q 0
    rw [e]
    exact h.f q hq2 (fun h => hb (Or.inl h)) (by rw [← e]; exact he)
set_option maxHeartbeats 1000000 in
theorem put_wt (m : Int) (T : Tm) : ∀ (own : Int) (s : S) (B : Nat → Prop), ST s B → sound T = true → Own s B own → ∀ (c : Int) (s' : S), put m T own s = (c, 0, s') → ∃ B', PR s B own c s' B' := by
  induction T using Tm.ind with
  | h k n i re im l ih =>
    intro own s B st hs ho c s' e
    rw [put] at e
    by_cases k2 : k = 2
    · rw [if_pos k2] at e
      split at e
      · rename_i hn
        obtain ⟨j, hj, hj2, hj3⟩ := ne_nv hn st.a
        injection e with e1 e2
        injection e2 with _ e2
        subst e1 e2
        exact ⟨B, ⟨⟨st.w, st.v, st.f, hj3⟩, Gr.refl, Or.inr (Or.inr (Or.inl ⟨Or.inl (by unfold jn; omega), jn_w _ (by decide) (by decide)⟩)), fun x h => h, fun x h => Or.inl h, fun h => by unfold jn at h; omega, fun _ _ => rfl⟩⟩
      · rename_i hn
        injection e with e1 e2
        injection e2 with e2 _
        exact absurd e2 hn
    rw [if_neg k2] at e
    by_cases k3 : k = 3
    · rw [if_pos k3] at e
      split at e
      · rename_i hso
        injection e with e1 e2
        injection e2 with _ e2
        subst e1 e2
        have h3 : sv i % 8 = 3 ∧ W64 (sv i) := by
          have := of_decide_eq_true hso
          unfold sv; rw [if_pos this]
          exact ⟨by unfold jn; omega, jn_w _ (by decide) (by decide)⟩
        exact ⟨B, ⟨st, Gr.refl, Or.inr (Or.inr (Or.inl ⟨Or.inr h3.1, h3.2⟩)), fun x h => h, fun x h => Or.inl h, fun h => by omega, fun _ _ => rfl⟩⟩
      · split at e
        · injection e with e1 e2
          injection e2 with _ e2
          subst e1 e2
          obtain ⟨s1, g1⟩ := st.raw (u64 i) st.a
          exact ⟨_, ⟨s1, g1, Or.inr (Or.inr (Or.inr (Or.inl ⟨s.h.length, rfl, by simp, Or.inr rfl⟩))), fun x h => h, fun x h => Or.inl h, fun h => by unfold jn at h; omega, fun q hq => getD_old hq _⟩⟩
        · injection e with e1 e2
          injection e2 with e2 _
          cases e2
    rw [if_neg k3] at e
    by_cases k4 : k = 4
    · rw [if_pos k4] at e
      split at e
      · split at e
        · injection e with e1 e2
          injection e2 with _ e2
          subst e1 e2
          obtain ⟨s1, g1⟩ := st.raw re st.a
          obtain ⟨s2, g2⟩ := s1.raw im s1.a
          exact ⟨_, ⟨s2, g1.trans g2, Or.inr (Or.inr (Or.inr (Or.inr ⟨s.h.length, rfl, by simp, Or.inl (Or.inr rfl), Or.inr (by simp)⟩))), fun x h => h, fun x h => Or.inl h, fun h => by unfold jn at h; omega, fun q hq => (getD_old (by simp; omega) _).trans (getD_old hq _)⟩⟩
        · injection e with e1 e2
          injection e2 with e2 _
          cases e2
      · injection e with e1 e2
        injection e2 with e2 _
        cases e2
    rw [if_neg k4] at e
    by_cases k1 : k = 1
    · rw [if_pos k1] at e
      cases hlk : pm.look s.v i with
      | some d =>
        rw [hlk] at e
        dsimp only at e
        injection e with e1 e2
        injection e2 with _ e2
        subst e1 e2
        obtain ⟨x, hx, hxe⟩ := look_mem hlk
        obtain ⟨p, h1, h2, h3, h4⟩ := st.v x hx
        exact ⟨B, ⟨st, Gr.refl, Or.inl ⟨p, by rw [← hxe]; exact h1, h2, h3⟩, fun x h => h, fun x h => Or.inl h, fun _ => ⟨x, hx, hxe⟩, fun _ _ => rfl⟩⟩
      | none =>
        rw [hlk] at e
        dsimp only at e
        by_cases hown : own < 0
        · rw [if_pos hown] at e
          split at e
          · injection e with e1 e2
            injection e2 with _ e2
            subst e1 e2
            obtain ⟨w1, g1⟩ := push_var st.w
            have hb : ¬ B s.h.length := fun h => by have := st.w.b _ h; omega
            refine ⟨B, ⟨⟨w1, fun y hy => ?_, fun q hq hb he => ?_, st.a⟩, g1, Or.inl ⟨s.h.length, rfl, by simp, hb⟩, fun x h => List.mem_append_left _ h, fun x h => ?_, fun _ => ⟨_, List.mem_append_right _ (List.mem_singleton.2 rfl), rfl⟩, fun q hq => getD_old hq _⟩⟩
            · rcases List.mem_append.1 hy with hy | hy
              · obtain ⟨p, h1, h2, h3, h4⟩ := st.v y hy
                exact ⟨p, h1, by simp; omega, h3, (getD_old h2 _).trans h4⟩
              · rw [List.mem_singleton] at hy; subst hy
                exact ⟨s.h.length, rfl, by simp, hb, getD_new _⟩
            · by_cases hq2 : q < s.h.length
              · have e := getD_old hq2 ((s.h.length : Int) * 8)
                rw [e] at he ⊢
                rcases st.f q hq2 hb he with h | ⟨y, hy, h⟩
                · exact Or.inl h
                · exact Or.inr ⟨y, List.mem_append_left _ hy, h⟩
              · have : q = s.h.length := by
                  have : q < (s.h ++ [(s.h.length : Int) * 8]).length := hq
                  simp at this; omega
                subst this
                exact Or.inl (getD_new _)
            · rcases List.mem_append.1 h with h | h
              · exact Or.inl h
              · rw [List.mem_singleton] at h; subst h
                exact Or.inr (Or.inr (Int.le_refl _))
          · injection e with e1 e2
            injection e2 with e2 _
            cases e2
        · rw [if_neg hown] at e
          injection e with e1 e2
          injection e2 with _ e2
          subst e1 e2
          rcases ho with h | ⟨p, rfl, h2, h3, h4, h5⟩
          · exact absurd h hown
          refine ⟨B, ⟨⟨st.w, fun y hy => ?_, fun q hq hb he => ?_, st.a⟩, Gr.refl, Or.inl ⟨p, rfl, h2, h3⟩, fun x h => List.mem_append_left _ h, fun x h => ?_, fun _ => ⟨_, List.mem_append_right _ (List.mem_singleton.2 rfl), rfl⟩, fun _ _ => rfl⟩⟩
          · rcases List.mem_append.1 hy with hy | hy
            · exact st.v y hy
            · rw [List.mem_singleton] at hy; subst hy
              exact ⟨p, rfl, h2, h3, h4⟩
          · rcases st.f q hq hb he with h | ⟨y, hy, h⟩
            · exact Or.inl h
            · exact Or.inr ⟨y, List.mem_append_left _ hy, h⟩
          · rcases List.mem_append.1 h with h | h
            · exact Or.inl h
            · rw [List.mem_singleton] at h; subst h
              exact Or.inr (Or.inl ⟨rfl, rfl⟩)
    rw [if_neg k1] at e
    have k5 : k = 5 := by rcases chkk (sound_chk hs) with h | ⟨h, _⟩ | h | h | ⟨h, _⟩ <;> first | exact h | (exfalso; omega)
    subst k5
    have hlen := comp_len hs
    have key : ∀ (l : List Tm), (∀ x ∈ l, ∀ (own : Int) (s : S) (B : Nat → Prop), ST s B → sound x = true → Own s B own → ∀ (c : Int) (s' : S), put m x own s = (c, 0, s') → ∃ B', PR s B own c s' B') → (∀ x ∈ l, sound x = true) →
        ∀ (p : Nat) (s : S) (B : Nat → Prop), ST s B → (∀ q, p ≤ q → q < p + l.length → q < s.h.length ∧ ¬ B q ∧ s.h.getD q 0 = (q : Int) * 8 ∧ ∀ x ∈ s.v, x.2 ≠ (q : Int) * 8) → ∀ s', putL m l p s = (0, s') → ∃ B', PL s B p s' B' := by
      intro l
      induction l with
      | nil =>
        intro _ _ p s B st _ s' e
        rw [putL] at e
        injection e with _ e
        subst e
        exact ⟨B, st, Gr.refl, fun x h => h, fun x h => Or.inl h, fun _ _ _ => rfl⟩
      | cons t r ihr =>
        intro hx hss p s B st hfr s' e
        rw [putL] at e
        obtain ⟨⟨c, e1, s1⟩, hP⟩ : ∃ P, P = put m t p s := ⟨_, rfl⟩
        rw [← hP] at e
        dsimp only at e
        split at e
        · rename_i he1
          subst he1
          obtain ⟨f1, f2, f3, f4⟩ := hfr p (Nat.le_refl _) (by simp)
          obtain ⟨B1, R⟩ := hx t (by simp) (p : Int) s B st (hss t (by simp)) (Or.inr ⟨p, rfl, f1, f2, f3, f4⟩) c s1 hP.symm
          have gl := R.gr.len
          have hb1 : ¬ B1 p := fun h => f2 ((R.gr.b p f1).1 h)
          obtain ⟨w2, g2⟩ := set_cell R.st.w (p := p) (by omega) hb1 R.tt
          have st2 : ST ⟨s1.h.set p c, s1.a, s1.v⟩ B1 := by
            refine ⟨w2, fun y hy => ?_, fun q hq hb he => ?_, R.st.a⟩
            · obtain ⟨q, h1, h2, h3, h4⟩ := R.st.v y hy
              refine ⟨q, h1, by show q < (s1.h.set p c).length; simpa using h2, h3, ?_⟩
              show (s1.h.set p c).getD q 0 = _
              by_cases hpq : p = q
              · subst hpq
                rw [set_at h2]
                rcases R.nw y hy with h | ⟨_, h⟩ | h
                · exact absurd h1 (f4 y h)
                · exact h
                · omega
              · rw [set_off hpq]; exact h4
            · have hq' : q < s1.h.length := by
                have : q < (s1.h.set p c).length := hq
                simpa using this
              show (s1.h.set p c).getD q 0 = _ ∨ ∃ x ∈ s1.v, x.2 = (s1.h.set p c).getD q 0
              have he' : (s1.h.set p c).getD q 0 % 8 = 0 := he
              by_cases hpq : p = q
              · subst hpq
                rw [set_at hq'] at he' ⊢
                exact Or.inr (R.ref he')
              · rw [set_off hpq] at he' ⊢
                exact R.st.f q hq' hb he'
          obtain ⟨B2, Q⟩ := ihr (fun x hx' => hx x (by simp [hx'])) (fun x hx' => hss x (by simp [hx'])) (p + 1) _ B1 st2 (fun q h1 h2 => by
            obtain ⟨u1, u2, u3, u4⟩ := hfr q (by omega) (by simp; omega)
            refine ⟨by show q < (s1.h.set p c).length; simp; omega, fun h => u2 ((R.gr.b q u1).1 h), ?_, fun y hy hyq => ?_⟩
            · show (s1.h.set p c).getD q 0 = _
              rw [set_off (by omega), R.keep q u1]; exact u3
            · rcases R.nw y hy with h | ⟨h, _⟩ | h
              · exact u4 y h hyq
              · omega
              · omega) s' e
          refine ⟨B2, Q.st, (R.gr.trans g2).trans Q.gr, fun x h => Q.old x (R.old x h), fun x h => ?_, fun q h1 h2 => ?_⟩
          · rcases Q.nw x h with h | h
            · rcases R.nw x h with h | ⟨h, _⟩ | h
              · exact Or.inl h
              · exact Or.inr (by omega)
              · exact Or.inr (by omega)
            · exact Or.inr (by omega)
          · rw [Q.keep q (by omega) (by show q < (s1.h.set p c).length; simp; omega)]
            show (s1.h.set p c).getD q 0 = _
            rw [set_off (by omega), R.keep q h2]
        · rename_i he1
          injection e with e _
          exact absurd e he1
    split at e
    · rename_i hn
      split at e
      · rename_i hm
        obtain ⟨j, hj, hj2, hj3⟩ := ne_nv hn st.a
        rw [hj] at e
        obtain ⟨s1, g1⟩ := st.raw (jn 6 ((j : Int) * 256 + l.length)) hj3
        obtain ⟨⟨er, h2⟩, hmm⟩ : ∃ q, q = more m l.length (s.h ++ [jn 6 ((j : Int) * 256 + l.length)]) := ⟨_, rfl⟩
        rw [← hmm] at e
        dsimp only at e
        split at e
        · rename_i he0
          subst he0
          have hmw := more_wt m l.length _ s1.w (by show (more m l.length (s.h ++ [jn 6 ((j : Int) * 256 + l.length)])).1 = 0; rw [← hmm])
          dsimp only at hmw
          rw [← hmm] at hmw
          simp only [List.length_append, List.length_cons, List.length_nil] at hmw
          obtain ⟨w2, g2, len2, keep2, new2⟩ := hmw
          have st2 : ST ⟨h2, nx s.a n, s.v⟩ (fun q => B q ∨ q = s.h.length) := by
            refine ⟨w2, fun y hy => ?_, fun q hq hb he => ?_, hj3⟩
            · obtain ⟨p, h1, h3, h4, h5⟩ := st.v y hy
              exact ⟨p, h1, by show p < h2.length; omega, fun h => h4 (h.resolve_right (by omega)), by show h2.getD p 0 = _; rw [keep2 p (by omega), getD_old h3]; exact h5⟩
            · have hq' : q < h2.length := hq
              have hq3 : q ≠ s.h.length := fun e => hb (Or.inr e)
              show h2.getD q 0 = _ ∨ ∃ y ∈ s.v, y.2 = h2.getD q 0
              have he' : h2.getD q 0 % 8 = 0 := he
              by_cases hq2 : q < s.h.length
              · rw [keep2 q (by omega), getD_old hq2] at he' ⊢
                exact st.f q hq2 (fun h => hb (Or.inl h)) he'
              · exact Or.inl (new2 q (by omega) (by omega))
          obtain ⟨⟨e3, s3⟩, hpl⟩ : ∃ q, q = putL m l (s.h.length + 1) ⟨h2, nx s.a n, s.v⟩ := ⟨_, rfl⟩
          rw [← hpl] at e
          dsimp only at e
          split at e
          · rename_i he3
            subst he3
            injection e with e1 e2
            injection e2 with _ e2
            subst e1 e2
            obtain ⟨B3, Q⟩ := key l ih (sound_args hs rfl) (s.h.length + 1) _ _ st2 (fun q h1 h3 => ⟨by show q < h2.length; omega, fun h => by
                rcases h with h | h
                · have := st.w.b q h; omega
                · omega, new2 q (by omega) (by omega), fun x hx hxe => by
                obtain ⟨p, h4, h5, _⟩ := st.v x hx
                omega⟩) s3 hpl.symm
            have gl : h2.length ≤ s3.h.length := Q.gr.len
            have hf : h2.getD s.h.length 0 = jn 6 ((j : Int) * 256 + l.length) := by rw [keep2 _ (by omega), getD_new]
            refine ⟨B3, Q.st, (g1.trans g2).trans Q.gr, Or.inr (Or.inl ⟨s.h.length, l.length, j, rfl, by omega, hlen.1, hlen.2, hj2, ?_, ?_, fun i h1 h3 h => ?_⟩), fun x h => Q.old x h, fun x h => ?_, fun h => by unfold jn at h; omega, fun q hq => ?_⟩
            · exact (Q.gr.v s.h.length (by show _ < h2.length; omega) (Or.inr rfl)).trans hf
            · exact (Q.gr.b s.h.length (by show _ < h2.length; omega)).2 (Or.inr rfl)
            · rcases (Q.gr.b _ (by show s.h.length + i < h2.length; omega)).1 h with h | h
              · have := st.w.b _ h; omega
              · omega
            · rcases Q.nw x h with h | h
              · exact Or.inl h
              · exact Or.inr (Or.inr (by omega))
            · rw [Q.keep q (by omega) (by show q < h2.length; omega)]
              exact (keep2 q (by omega)).trans (getD_old hq _)
          · rename_i he3
            injection e with e1 e2
            injection e2 with e2 _
            exact absurd e2 he3
        · rename_i he0
          injection e with e1 e2
          injection e2 with e2 _
          exact absurd e2 he0
      · injection e with e1 e2
        injection e2 with e2 _
        cases e2
    · rename_i hn
      injection e with e1 e2
      injection e2 with e2 _
      exact absurd e2 hn
end Go.Proofs.Ythableojkjhicaa.unw
