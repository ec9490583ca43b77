/- Terms that are alike: the plain mathematics; no program. -/
import Derived.Test.YtibepkljcofpdaaTv
namespace Go.Proofs.Ytibepkljcofpdaa.tm
set_option linter.unusedVariables false
/-- two nodes are alike but for their arguments -/
def sn : Tm → Tm → Bool
  | .mk k n i re im l, .mk k' n' i' re' im' l' => decide (k = k') && (if k = 2 then decide (n = n') else if k = 4 then decide (re = re') && decide (im = im') else if k = 5 then decide (n = n') && decide (l.length = l'.length) else decide (i = i'))
/-- node by node: each of the first row is alike the second row's -/
def pf : List (Tm × Nat) → List (Tm × Nat) → Bool
  | [], _ => true
  | _ :: _, [] => false
  | x :: l, y :: l' => sn x.1 y.1 && pf l l'
theorem chk_kind {t : Tm} (h : chk t = 0) : t.kind = 1 ∨ t.kind = 2 ∨ t.kind = 3 ∨ t.kind = 4 ∨ t.kind = 5 := by
  obtain ⟨k, n, i, re, im, l⟩ := t
  simp only [chk] at h
  simp only [Tm.kind]
  by_cases h1 : k = 1
  · exact Or.inl h1
  by_cases h2 : k = 2
  · exact Or.inr (Or.inl h2)
  by_cases h3 : k = 3
  · exact Or.inr (Or.inr (Or.inl h3))
  by_cases h4 : k = 4
  · exact Or.inr (Or.inr (Or.inr (Or.inl h4)))
  by_cases h5 : k = 5
  · exact Or.inr (Or.inr (Or.inr (Or.inr h5)))
  · simp [h1, h2, h3, h4, h5] at h
theorem sound_chk {t : Tm} (h : sound t = true) : chk t = 0 := by
  obtain ⟨k, n, i, re, im, l⟩ := t
  simp only [sound, Bool.and_eq_true, decide_eq_true_eq] at h
  exact h.1
theorem sound_args {k : Int} {n : ByteArray} {i re im : Int} {l : List Tm} (h : sound (.mk k n i re im l) = true) (hk : k = 5) : ∀ x ∈ l, sound x = true := by
  subst hk
  simp only [sound, Bool.and_eq_true, if_true, soundL_all, List.all_eq_true] at h
  exact h.2
theorem likeL_len : ∀ {l l' : List Tm}, likeL l l' = true → l.length = l'.length
  | [], [], _ => rfl
  | _ :: l, _ :: l', h => by
    simp only [likeL, Bool.and_eq_true] at h
    simp [likeL_len h.2]
  | [], _ :: _, h => by simp [likeL] at h
  | _ :: _, [], h => by simp [likeL] at h
theorem pf_pre (a : Tm) : ∀ (b : Tm), sound a = true → sound b = true → ∀ d d' X Y, pf (pre d a ++ X) (pre d' b ++ Y) = (like a b && pf X Y) := by
  induction a using Tm.ind with
  | h k n i re im l ih =>
    intro b ha hb d d' X Y
    obtain ⟨k', n', i', re', im', l'⟩ := b
    have hc := chk_kind (sound_chk ha)
    simp only [Tm.kind] at hc
    by_cases hk : k = k'
    · subst hk
      rcases hc with rfl | rfl | rfl | rfl | rfl
      · simp [pre, pf, sn, like]
      · simp [pre, pf, sn, like]
      · simp [pre, pf, sn, like]
      · simp [pre, pf, sn, like]
      · have hL : ∀ (l : List Tm), (∀ x ∈ l, ∀ (b : Tm), sound x = true → sound b = true → ∀ d d' X Y, pf (pre d x ++ X) (pre d' b ++ Y) = (like x b && pf X Y)) → (∀ x ∈ l, sound x = true) →
            ∀ l' : List Tm, l.length = l'.length → (∀ x ∈ l', sound x = true) → ∀ d d' X Y, pf (preL d l ++ X) (preL d' l' ++ Y) = (likeL l l' && pf X Y) := by
          intro l
          induction l with
          | nil =>
            intro _ _ l' hl _ d d' X Y
            have : l' = [] := List.eq_nil_of_length_eq_zero hl.symm
            subst this
            simp [preL, likeL]
          | cons t r ihr =>
            intro h hs l' hl hs' d d' X Y
            cases l' with
            | nil => simp at hl
            | cons t' r' =>
              simp only [preL, List.append_assoc, likeL]
              rw [h t (by simp) t' (hs t (by simp)) (hs' t' (by simp)), ihr (fun x hx => h x (by simp [hx])) (fun x hx => hs x (by simp [hx])) r' (by simpa using hl) (fun x hx => hs' x (by simp [hx]))]
              rw [Bool.and_assoc]
        simp only [pre, if_true, List.cons_append, pf, sn, like]
        by_cases hl : l.length = l'.length
        · rw [hL l ih (sound_args ha rfl) l' hl (sound_args hb rfl)]
          simp [hl, Bool.and_assoc]
        · have : likeL l l' = false := by
            cases h : likeL l l'
            · rfl
            · exact absurd (likeL_len h) hl
          simp [hl, this]
    · have e1 : like (.mk k n i re im l) (.mk k' n' i' re' im' l') = false := by simp [like, hk]
      rw [e1]
      by_cases h5 : k = 5 <;> by_cases h5' : k' = 5 <;> simp [pre, pf, sn, hk]
theorem pf_like {a b : Tm} (ha : sound a = true) (hb : sound b = true) : pf (pre 1 a) (pre 1 b) = like a b := by
  have := pf_pre a b ha hb 1 1 [] []
  simpa [pf] using this
theorem like_plain (a : Tm) : ∀ (b : Tm), sound a = true → sound b = true → (like a b = true ↔ plain a = plain b) := by
  induction a using Tm.ind with
  | h k n i re im l ih =>
    intro b ha hb
    obtain ⟨k', n', i', re', im', l'⟩ := b
    have hc := chk_kind (sound_chk ha)
    have hc' := chk_kind (sound_chk hb)
    simp only [Tm.kind] at hc hc'
    by_cases hk : k = k'
    · subst hk
      rcases hc with rfl | rfl | rfl | rfl | rfl
      · simp [like, plain, sub, var]
      · simp [like, plain, sub]
      · simp [like, plain, sub]
      · simp [like, plain, sub]
      · have hL : ∀ (l : List Tm), (∀ x ∈ l, ∀ (b : Tm), sound x = true → sound b = true → (like x b = true ↔ plain x = plain b)) → (∀ x ∈ l, sound x = true) →
            ∀ l' : List Tm, (∀ x ∈ l', sound x = true) → (likeL l l' = true ↔ subL var l = subL var l') := by
          intro l
          induction l with
          | nil =>
            intro _ _ l' _
            cases l' <;> simp [likeL, subL]
          | cons t r ihr =>
            intro h hs l' hs'
            cases l' with
            | nil => simp [likeL, subL]
            | cons t' r' =>
              simp only [likeL, subL, Bool.and_eq_true, List.cons.injEq]
              rw [h t (by simp) t' (hs t (by simp)) (hs' t' (by simp)), ihr (fun x hx => h x (by simp [hx])) (fun x hx => hs x (by simp [hx])) r' (fun x hx => hs' x (by simp [hx]))]
              rfl
        have := hL l ih (sound_args ha rfl) l' (sound_args hb rfl)
        simp [like, plain, sub, this]
    · have e1 : like (.mk k n i re im l) (.mk k' n' i' re' im' l') = false := by simp [like, hk]
      rw [e1]
      constructor
      · intro h; cases h
      · intro h
        exfalso
        have := congrArg Tm.kind h
        rcases hc with rfl | rfl | rfl | rfl | rfl <;> rcases hc' with rfl | rfl | rfl | rfl | rfl <;> simp_all [plain, sub, var]
/-- Same's answer -/
def sameB (a b : Tm) : Bool := good a && good b && like a b
theorem good_sound {t : Tm} (h : good t = true) : sound t = true := by simp only [good, Bool.and_eq_true] at h; exact h.2
theorem sameB_iff (a b : Tm) : sameB a b = true ↔ good a = true ∧ good b = true ∧ plain a = plain b := by
  unfold sameB
  simp only [Bool.and_eq_true]
  constructor
  · rintro ⟨⟨h1, h2⟩, h3⟩
    exact ⟨h1, h2, (like_plain a b (good_sound h1) (good_sound h2)).1 h3⟩
  · rintro ⟨h1, h2, h3⟩
    exact ⟨⟨h1, h2⟩, (like_plain a b (good_sound h1) (good_sound h2)).2 h3⟩
theorem bool_ext {x y : Bool} (h : x = true ↔ y = true) : x = y := by cases x <;> cases y <;> simp_all
theorem sameB_comm (a b : Tm) : sameB a b = sameB b a := bool_ext (by rw [sameB_iff, sameB_iff]; exact ⟨fun ⟨x, y, z⟩ => ⟨y, x, z.symm⟩, fun ⟨x, y, z⟩ => ⟨y, x, z.symm⟩⟩)
theorem sameB_refl (a : Tm) : sameB a a = good a := bool_ext (by rw [sameB_iff]; exact ⟨fun h => h.1, fun h => ⟨h, h, rfl⟩⟩)
theorem sameB_trans {a b c : Tm} (h : sameB a b = true) (k : sameB b c = true) : sameB a c = true := by
  rw [sameB_iff] at *
  exact ⟨h.1, k.2.1, h.2.2.trans k.2.2⟩
end Go.Proofs.Ytibepkljcofpdaa.tm
