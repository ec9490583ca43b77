/- Put: what there is grows, by so much at most, whatever comes of it. The mathematics. -/
import Derived.Test.YtibepkljcofpdaaPutM
namespace Go.Proofs.Ytibepkljcofpdaa.pm
set_option linter.unusedVariables false
open Go.ChangeShapes Go.WideShapes Go.ChangeAt Go.RowKit
open Go.Proofs.Ytibepkljcofpdaa.tm Go.Proofs.Ytibepkljcofpdaa.hp Go.Proofs.Ytibepkljcofpdaa.cel
open Go.Proofs.Ytibepkljcofpdaa.atm (nv ne nx)
theorem chkk {k : Int} {n : ByteArray} {i re im : Int} {l : List Tm} (h : chk (.mk k n i re im l) = 0) : k = 1 ∨ (k = 2 ∧ n.size ≤ 200) ∨ k = 3 ∨ k = 4 ∨ (k = 5 ∧ n.size ≤ 200 ∧ 1 ≤ l.length ∧ l.length ≤ 20) := by
  have hk := chk_kind h
  simp only [Tm.kind] at hk
  rcases hk with rfl | rfl | rfl | rfl | rfl
  · exact Or.inl rfl
  · refine Or.inr (Or.inl ⟨rfl, ?_⟩)
    simp only [chk] at h; simp at h; omega
  · exact Or.inr (Or.inr (Or.inl rfl))
  · exact Or.inr (Or.inr (Or.inr (Or.inl rfl)))
  · refine Or.inr (Or.inr (Or.inr (Or.inr ⟨rfl, ?_⟩)))
    simp only [chk] at h; simp at h
    split at h
    · omega
    · split at h
      · omega
      · split at h
        · omega
        · rename_i h0 _ _
          exact ⟨by omega, List.length_pos_iff.2 h0, by omega⟩
structure Gr (n : Nat) (s s' : S) : Prop where
  h : s.h.length ≤ s'.h.length
  a : s.a.length ≤ s'.a.length ∧ s'.a.length ≤ s.a.length + n
  v : s.v.length ≤ s'.v.length ∧ s'.v.length ≤ s.v.length + n
theorem Gr.refl (s : S) : Gr 0 s s := ⟨Nat.le_refl _, ⟨Nat.le_refl _, Nat.le_refl _⟩, Nat.le_refl _, Nat.le_refl _⟩
theorem Gr.more {n k : Nat} {s s' : S} (h : Gr n s s') (hk : n ≤ k) : Gr k s s' := ⟨h.h, ⟨h.a.1, by have := h.a.2; omega⟩, h.v.1, by have := h.v.2; omega⟩
theorem Gr.trans {n k : Nat} {a b c : S} (h : Gr n a b) (g : Gr k b c) : Gr (n + k) a c :=
  ⟨Nat.le_trans h.h g.h, ⟨Nat.le_trans h.a.1 g.a.1, by have := h.a.2; have := g.a.2; omega⟩, Nat.le_trans h.v.1 g.v.1, by have := h.v.2; have := g.v.2; omega⟩
theorem nx_gr (a : List ByteArray) (n : ByteArray) : a.length ≤ (nx a n).length ∧ (nx a n).length ≤ a.length + 1 := by
  obtain ⟨b, hb, h1⟩ := nx_pre a n
  rw [hb, List.length_append]; omega
theorem putL_grow (m : Int) : ∀ (l : List Tm), (∀ x ∈ l, ∀ own s, Gr (size x) s (put m x own s).2.2) → ∀ p s, Gr (sizeL l) s (putL m l p s).2
  | [], _, p, s => by rw [putL]; exact Gr.refl s
  | t :: r, hx, p, s => by
    rw [putL]
    have h1 := hx t (by simp) p s
    generalize put m t p s = q at *
    obtain ⟨c, e, s'⟩ := q
    dsimp only at h1 ⊢
    rw [sizeL]
    split
    · have h2 := putL_grow m r (fun x h => hx x (by simp [h])) (p + 1) ⟨s'.h.set p c, s'.a, s'.v⟩
      exact h1.trans ⟨by have := h2.h; simpa using this, h2.a, h2.v⟩
    · exact h1.more (by omega)
theorem put_grow (m : Int) (t : Tm) : sound t = true → ∀ own s, Gr (size t) s (put m t own s).2.2 := by
  induction t using Tm.ind with
  | h k n i re im l ih =>
    intro hs own s
    have h1 : 1 ≤ size (.mk k n i re im l) := by rw [size]; omega
    have r0 := (Gr.refl s).more (Nat.zero_le (size (.mk k n i re im l)))
    have hn := nx_gr s.a n
    rw [put]
    by_cases k2 : k = 2
    · rw [if_pos k2]
      split
      · exact ⟨Nat.le_refl _, ⟨hn.1, by show (nx s.a n).length ≤ _; omega⟩, Nat.le_refl _, by show s.v.length ≤ _; omega⟩
      · exact r0
    rw [if_neg k2]
    by_cases k3 : k = 3
    · rw [if_pos k3]
      split
      · exact r0
      · split
        · exact ⟨by simp, ⟨Nat.le_refl _, by show s.a.length ≤ _; omega⟩, Nat.le_refl _, by show s.v.length ≤ _; omega⟩
        · exact r0
    rw [if_neg k3]
    by_cases k4 : k = 4
    · rw [if_pos k4]
      split
      · split
        · exact ⟨by simp, ⟨Nat.le_refl _, by show s.a.length ≤ _; omega⟩, Nat.le_refl _, by show s.v.length ≤ _; omega⟩
        · exact ⟨by simp, ⟨Nat.le_refl _, by show s.a.length ≤ _; omega⟩, Nat.le_refl _, by show s.v.length ≤ _; omega⟩
      · exact r0
    rw [if_neg k4]
    by_cases k1 : k = 1
    · rw [if_pos k1]
      split
      · exact r0
      · split
        · split
          · exact ⟨by simp, ⟨Nat.le_refl _, by show s.a.length ≤ _; omega⟩, by simp, by simp; omega⟩
          · exact r0
        · exact ⟨Nat.le_refl _, ⟨Nat.le_refl _, by show s.a.length ≤ _; omega⟩, by simp, by simp; omega⟩
    rw [if_neg k1]
    split
    · split
      · have hm := more_pre m l.length (s.h ++ [jn 6 (nv s.a n * 256 + l.length)])
        generalize more m l.length (s.h ++ [jn 6 (nv s.a n * 256 + l.length)]) = eh at *
        obtain ⟨e, h⟩ := eh
        have hl := hm.1
        simp only [List.length_append, List.length_cons, List.length_nil] at hl
        have hs1 : Gr 1 s ⟨h, nx s.a n, s.v⟩ := ⟨by show _ ≤ h.length; omega, hn, Nat.le_refl _, by show s.v.length ≤ _; omega⟩
        dsimp only
        split
        · by_cases k5 : k = 5
          · have h2 := putL_grow m l (fun x hx => ih x hx (sound_args hs k5 x hx)) (s.h.length + 1) ⟨h, nx s.a n, s.v⟩
            have hsz : size (.mk k n i re im l) = 1 + sizeL l := by simp [size, k5]
            rw [hsz]
            generalize putL m l (s.h.length + 1) ⟨h, nx s.a n, s.v⟩ = es at *
            obtain ⟨e2, s2⟩ := es
            dsimp only at h2 ⊢
            split
            · exact hs1.trans h2
            · exact hs1.trans h2
          · have := chk_kind (sound_chk hs); simp only [Tm.kind] at this; omega
        · exact hs1.more h1
      · exact ⟨Nat.le_refl _, ⟨hn.1, by show (nx s.a n).length ≤ _; omega⟩, Nat.le_refl _, by show s.v.length ≤ _; omega⟩
    · exact r0
end Go.Proofs.Ytibepkljcofpdaa.pm
