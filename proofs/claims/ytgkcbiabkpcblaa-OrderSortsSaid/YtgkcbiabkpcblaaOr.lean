/- The order of terms: the plain mathematics; no program. -/
import Derived.Test.YtgkcbiabkpcblaaTm
import Derived.Test.YtgkcbiabkpcblaaCmp
namespace Go.Proofs.Ytgkcbiabkpcblaa.odm
set_option linter.unusedVariables false
open Go.Proofs.Ytgkcbiabkpcblaa.tm Go.Proofs.Ytgkcbiabkpcblaa.num
/-! ### texts -/
theorem bl_asymm : ∀ (a b : List UInt8), Op.bytesLess a b = true → Op.bytesLess b a = false
  | _, [], h => by simp [Op.bytesLess] at h
  | [], _ :: _, _ => rfl
  | a :: x, b :: y, h => by
    simp only [Op.bytesLess, Bool.or_eq_true, Bool.and_eq_true, decide_eq_true_eq, beq_iff_eq, Bool.or_eq_false_iff, Bool.and_eq_false_iff, decide_eq_false_iff_not] at h ⊢
    rcases h with h | ⟨rfl, h⟩
    · exact ⟨fun q => absurd (UInt8.lt_trans h q) (UInt8.lt_irrefl _), Or.inl (by rw [beq_eq_false_iff_ne]; rintro rfl; exact UInt8.lt_irrefl _ h)⟩
    · exact ⟨UInt8.lt_irrefl _, Or.inr (bl_asymm x y h)⟩
theorem bl_trans : ∀ (a b c : List UInt8), Op.bytesLess a b = true → Op.bytesLess b c = true → Op.bytesLess a c = true
  | _, [], _, h, _ => by simp [Op.bytesLess] at h
  | _, _ :: _, [], _, h => by simp [Op.bytesLess] at h
  | [], _ :: _, _ :: _, _, _ => rfl
  | a :: x, b :: y, c :: z, h, k => by
    simp only [Op.bytesLess, Bool.or_eq_true, Bool.and_eq_true, decide_eq_true_eq, beq_iff_eq] at h k ⊢
    rcases h with h | ⟨rfl, h⟩
    · rcases k with k | ⟨rfl, k⟩
      · exact Or.inl (UInt8.lt_trans h k)
      · exact Or.inl h
    · rcases k with k | ⟨rfl, k⟩
      · exact Or.inl k
      · exact Or.inr ⟨rfl, bl_trans x y z h k⟩
theorem bl_total : ∀ (a b : List UInt8), Op.bytesLess a b = false → Op.bytesLess b a = false → a = b
  | [], [], _, _ => rfl
  | [], _ :: _, h, _ => by simp [Op.bytesLess] at h
  | _ :: _, [], _, h => by simp [Op.bytesLess] at h
  | a :: x, b :: y, h, k => by
    simp only [Op.bytesLess, Bool.or_eq_false_iff, Bool.and_eq_false_iff, decide_eq_false_iff_not, beq_eq_false_iff_ne] at h k
    have e : a = b := UInt8.le_antisymm (UInt8.not_lt.1 k.1) (UInt8.not_lt.1 h.1)
    subst e
    rw [bl_total x y (h.2.resolve_left fun q => q rfl) (k.2.resolve_left fun q => q rfl)]
theorem tl_inj {x s : ByteArray} (h : x.toList = s.toList) : x = s := by
  have := ByteArray.ext_iff.2 (Array.toList_inj.1 (by rwa [← ByteArray.toList_eq, ← ByteArray.toList_eq]) : x.data = s.data)
  exact this
theorem cw_trans {a b c : Int} (p : cw a b ≤ 0) (q : cw b c ≤ 0) (h : a ≠ b) : cw a c ≤ 0 ∧ a ≠ c := by
  have h1 : a < b := by unfold cw at p; (repeat' split at p) <;> omega
  have h2 : b ≤ c := by unfold cw at q; (repeat' split at q) <;> omega
  refine ⟨?_, by omega⟩
  unfold cw; rw [if_pos (by omega)]; decide
def sc (a b : ByteArray) : Int := if Op.bytesLess a.toList b.toList = true then -1 else if Op.bytesLess b.toList a.toList = true then 1 else 0
theorem sc_bd (a b : ByteArray) : -1 ≤ sc a b ∧ sc a b ≤ 1 := by unfold sc; split <;> (try split) <;> omega
theorem sc_neg (a b : ByteArray) : sc b a = -sc a b := by
  unfold sc
  cases h : Op.bytesLess a.toList b.toList
  · cases k : Op.bytesLess b.toList a.toList <;> simp
  · have := bl_asymm _ _ h; simp [this]
theorem sc_zero (a b : ByteArray) : sc a b = 0 ↔ a = b := by
  unfold sc
  cases h : Op.bytesLess a.toList b.toList
  · cases k : Op.bytesLess b.toList a.toList
    · simpa using tl_inj (bl_total _ _ h k)
    · simp; rintro rfl; rw [h] at k; cases k
  · simp; rintro rfl; have := bl_asymm _ _ h; rw [h] at this; cases this
theorem sc_trans (a b c : ByteArray) (h : sc a b ≤ 0) (g : sc b c ≤ 0) : sc a c ≤ 0 := by
  have e1 : sc a b = -1 ∨ sc a b = 0 := by have := sc_bd a b; omega
  have e2 : sc b c = -1 ∨ sc b c = 0 := by have := sc_bd b c; omega
  rcases e1 with e1 | e1
  · rcases e2 with e2 | e2
    · unfold sc at e1 e2 ⊢
      have h1 : Op.bytesLess a.toList b.toList = true := Classical.byContradiction fun q => by rw [if_neg q] at e1; split at e1 <;> cases e1
      have h2 : Op.bytesLess b.toList c.toList = true := Classical.byContradiction fun q => by rw [if_neg q] at e2; split at e2 <;> cases e2
      rw [if_pos (bl_trans _ _ _ h1 h2)]; decide
    · rw [sc_zero] at e2; subst e2; exact h
  · rw [sc_zero] at e1; subst e1; exact g
/-! ### terms -/
def rk (k : Int) : Int := if k = 1 then 1 else if k = 4 then 2 else if k = 3 then 3 else if k = 2 then 4 else 5
theorem rk_inj {k k' : Int} (h : k = 1 ∨ k = 2 ∨ k = 3 ∨ k = 4 ∨ k = 5) (h' : k' = 1 ∨ k' = 2 ∨ k' = 3 ∨ k' = 4 ∨ k' = 5) (e : rk k = rk k') : k = k' := by
  rcases h with rfl | rfl | rfl | rfl | rfl <;> rcases h' with rfl | rfl | rfl | rfl | rfl <;> first | rfl | (simp [rk] at e)
mutual
/-- the order of terms that may be -/
def ord : Tm → Tm → Int
  | .mk k n i re im l, .mk k' n' i' re' im' l' => if k = k' then (if k = 4 then cc re im re' im' else if k = 2 then sc n n' else if k = 5 then (if l.length = l'.length then (if n = n' then ordL l l' else sc n n') else cw l.length l'.length) else cw i i') else cw (rk k) (rk k')
def ordL : List Tm → List Tm → Int
  | a :: l, b :: l' => if ord a b = 0 then ordL l l' else ord a b
  | [], [] => 0
  | [], _ :: _ => -1
  | _ :: _, [] => 1
end
theorem ord_bd (a : Tm) : ∀ b, -1 ≤ ord a b ∧ ord a b ≤ 1 := by
  induction a using Tm.ind with
  | h k n i re im l ih =>
    rintro ⟨k', n', i', re', im', l'⟩
    have hl : ∀ (l : List Tm), (∀ x ∈ l, ∀ b, -1 ≤ ord x b ∧ ord x b ≤ 1) → ∀ l', -1 ≤ ordL l l' ∧ ordL l l' ≤ 1 := by
      intro l
      induction l with
      | nil => rintro _ (_ | ⟨_, _⟩) <;> simp [ordL]
      | cons a l ihl =>
        rintro h (_ | ⟨b, l'⟩)
        · simp [ordL]
        · rw [ordL]; split
          · exact ihl (fun x hx => h x (by simp [hx])) l'
          · exact h a (by simp) b
    rw [ord]
    repeat' split
    all_goals first | exact cc_bd _ _ _ _ | exact sc_bd _ _ | exact cw_bd _ _ | exact hl l ih l'
theorem ord_neg (a : Tm) : ∀ b, ord b a = -ord a b := by
  induction a using Tm.ind with
  | h k n i re im l ih =>
    rintro ⟨k', n', i', re', im', l'⟩
    have hl : ∀ (l : List Tm), (∀ x ∈ l, ∀ b, ord b x = -ord x b) → ∀ l', ordL l' l = -ordL l l' := by
      intro l
      induction l with
      | nil => rintro _ (_ | ⟨_, _⟩) <;> simp [ordL]
      | cons a l ihl =>
        rintro h (_ | ⟨b, l'⟩)
        · simp [ordL]
        · have e := h a (by simp) b
          rw [ordL, ordL]
          by_cases h0 : ord a b = 0
          · rw [if_pos h0, if_pos (by omega)]; exact ihl (fun x hx => h x (by simp [hx])) l'
          · rw [if_neg h0, if_neg (by omega)]; exact e
    rw [ord, ord]
    by_cases hk : k = k'
    · subst hk
      rw [if_pos rfl, if_pos rfl]
      by_cases h4 : k = 4
      · rw [if_pos h4, if_pos h4]; exact cc_neg _ _ _ _
      rw [if_neg h4, if_neg h4]
      by_cases h2 : k = 2
      · rw [if_pos h2, if_pos h2]; exact sc_neg _ _
      rw [if_neg h2, if_neg h2]
      by_cases h5 : k = 5
      · rw [if_pos h5, if_pos h5]
        by_cases hn : l.length = l'.length
        · rw [if_pos hn, if_pos hn.symm]
          by_cases he : n = n'
          · rw [if_pos he, if_pos he.symm]; exact hl l ih l'
          · rw [if_neg he, if_neg (Ne.symm he)]; exact sc_neg _ _
        · rw [if_neg hn, if_neg (Ne.symm hn)]; exact cw_neg _ _
      · rw [if_neg h5, if_neg h5]; exact cw_neg _ _
    · rw [if_neg hk, if_neg (Ne.symm hk)]; exact cw_neg _ _
/-- 0 just of what is alike -/
theorem ord_zero (a : Tm) : ∀ b, sound a = true → sound b = true → (ord a b = 0 ↔ plain a = plain b) := by
  intro b ha hb
  rw [← like_plain a b ha hb]
  revert b
  induction a using Tm.ind with
  | h k n i re im l ih =>
    rintro ⟨k', n', i', re', im', l'⟩ hb
    have h1 := chk_kind (sound_chk ha)
    have h2 := chk_kind (sound_chk hb)
    simp only [Tm.kind] at h1 h2
    have hl : ∀ (l : List Tm), (∀ x ∈ l, sound x = true → ∀ b, sound b = true → (ord x b = 0 ↔ like x b = true)) → (∀ x ∈ l, sound x = true) → ∀ l', (∀ x ∈ l', sound x = true) → (ordL l l' = 0 ↔ likeL l l' = true) := by
      intro l
      induction l with
      | nil => rintro _ _ (_ | ⟨_, _⟩) _ <;> simp [ordL, likeL]
      | cons a l ihl =>
        rintro h hs (_ | ⟨b, l'⟩) hs'
        · simp [ordL, likeL]
        · have e := h a (by simp) (hs a (by simp)) b (hs' b (by simp))
          rw [ordL, likeL, Bool.and_eq_true, ← e]
          by_cases h0 : ord a b = 0
          · rw [if_pos h0, ihl (fun x hx => h x (by simp [hx])) (fun x hx => hs x (by simp [hx])) l' (fun x hx => hs' x (by simp [hx]))]; simp [h0]
          · rw [if_neg h0]; simp [h0]
    rw [ord]
    by_cases hk : k = k'
    · subst hk
      rw [if_pos rfl]
      rcases h1 with rfl | rfl | rfl | rfl | rfl
      · simp [like, cw_zero]
      · simp [like, sc_zero]
      · simp [like, cw_zero]
      · simp [like, cc_zero]
      · have hL := hl l (fun x hx hs b hb => ih x hx hs b hb) (sound_args ha rfl) l' (sound_args hb rfl)
        by_cases hn : l.length = l'.length
        · by_cases he : n = n'
          · subst he; simp [like, hn, hL]
          · have := mt (sc_zero n n').1 he; simp [like, hn, he, this]
        · have h0 : cw (l.length : Int) l'.length ≠ 0 := by rw [Ne, cw_zero]; omega
          have : likeL l l' = false := by
            cases h : likeL l l'
            · rfl
            · exact absurd (likeL_len h) hn
          simp [hn, h0, like, this]
    · rw [if_neg hk]
      have : cw (rk k) (rk k') ≠ 0 := by rw [Ne, cw_zero]; exact fun e => hk (rk_inj h1 h2 e)
      simp [this, like, hk]
theorem ord_plain (a : Tm) : ∀ b, sound a = true → ord (plain a) b = ord a b := by
  induction a using Tm.ind with
  | h k n i re im l ih =>
    rintro ⟨k', n', i', re', im', l'⟩ ha
    have h1 := chk_kind (sound_chk ha)
    simp only [Tm.kind] at h1
    have hl : ∀ (l : List Tm), (∀ x ∈ l, ∀ b, sound x = true → ord (plain x) b = ord x b) → (∀ x ∈ l, sound x = true) → ∀ l', ordL (subL var l) l' = ordL l l' := by
      intro l
      induction l with
      | nil => rintro _ _ (_ | ⟨_, _⟩) <;> simp [ordL, subL]
      | cons a l ihl =>
        rintro h hs (_ | ⟨b, l'⟩)
        · simp [ordL, subL]
        · have e := h a (by simp) b (hs a (by simp))
          rw [plain] at e
          rw [subL, ordL, ordL, e, ihl (fun x hx => h x (by simp [hx])) (fun x hx => hs x (by simp [hx])) l']
    rcases h1 with rfl | rfl | rfl | rfl | rfl
    · simp [plain, sub, ord, var]
    · simp [plain, sub, ord]
    · simp [plain, sub, ord]
    · simp [plain, sub, ord]
    · have hL := hl l (fun x hx b hs => ih x hx b hs) (sound_args ha rfl) l'
      have e : plain (.mk 5 n i re im l) = .mk 5 n 0 0 0 (subL var l) := by simp [plain, sub]
      have e2 : (subL var l).length = l.length := by rw [subL_map, List.length_map]
      rw [e, ord, hL, e2, ord]
      rfl
theorem ord_eq_left {a b : Tm} (ha : sound a = true) (hb : sound b = true) (h : ord a b = 0) (c : Tm) : ord a c = ord b c := by
  rw [← ord_plain a c ha, ← ord_plain b c hb, (ord_zero a b ha hb).1 h]
theorem ord_eq_right {a b : Tm} (ha : sound a = true) (hb : sound b = true) (h : ord a b = 0) (c : Tm) : ord c a = ord c b := by
  rw [ord_neg a c, ord_neg b c, ord_eq_left ha hb h c]
theorem ord_refl (a : Tm) (ha : sound a = true) : ord a a = 0 := (ord_zero a a ha ha).2 rfl
theorem ord_trans (a : Tm) : ∀ b c, sound a = true → sound b = true → sound c = true → ord a b ≤ 0 → ord b c ≤ 0 → ord a c ≤ 0 := by
  induction a using Tm.ind with
  | h k n i re im l ih =>
    rintro ⟨k', n', i', re', im', l'⟩ ⟨k2, n2, i2, re2, im2, l2⟩ ha hb hc
    have h1 := chk_kind (sound_chk ha)
    have h2 := chk_kind (sound_chk hb)
    have h3 := chk_kind (sound_chk hc)
    simp only [Tm.kind] at h1 h2 h3
    have hl : ∀ (l : List Tm), (∀ x ∈ l, ∀ b c, sound x = true → sound b = true → sound c = true → ord x b ≤ 0 → ord b c ≤ 0 → ord x c ≤ 0) → (∀ x ∈ l, sound x = true) → ∀ l' l2, (∀ x ∈ l', sound x = true) → (∀ x ∈ l2, sound x = true) → ordL l l' ≤ 0 → ordL l' l2 ≤ 0 → ordL l l2 ≤ 0 := by
      intro l
      induction l with
      | nil => rintro _ _ (_ | ⟨_, _⟩) (_ | ⟨_, _⟩) _ _ <;> simp [ordL]
      | cons a l ihl =>
        rintro h hs (_ | ⟨b, l'⟩) (_ | ⟨c, l2⟩) hs' hs2
        · simp [ordL]
        · simp [ordL]
        · simp [ordL]
        · have sa := hs a (by simp)
          have sb := hs' b (by simp)
          have sc' := hs2 c (by simp)
          have IH := ihl (fun x hx => h x (by simp [hx])) (fun x hx => hs x (by simp [hx])) l' l2 (fun x hx => hs' x (by simp [hx])) (fun x hx => hs2 x (by simp [hx]))
          rw [ordL, ordL, ordL]
          by_cases x0 : ord a b = 0
          · rw [if_pos x0, ord_eq_left sa sb x0 c]
            by_cases y0 : ord b c = 0
            · rw [if_pos y0, if_pos y0]; exact IH
            · rw [if_neg y0, if_neg y0]; exact fun _ q => q
          · rw [if_neg x0]
            by_cases y0 : ord b c = 0
            · rw [if_pos y0, ← ord_eq_right sb sc' y0 a, if_neg x0]; exact fun q _ => q
            · rw [if_neg y0]
              intro p q
              have z := h a (by simp) b c sa sb sc' p q
              rw [if_neg]
              · exact z
              · intro z0
                have e := ord_eq_left sa sc' z0 b
                rw [ord_neg b c] at e
                omega
    rw [ord, ord, ord]
    by_cases hk : k = k'
    · subst hk
      by_cases hk2 : k = k2
      · subst hk2
        simp only [if_true]
        rcases h1 with rfl | rfl | rfl | rfl | rfl
        · simpa using fun h g => by simp only [cw] at *; (repeat' split) <;> (repeat' split at h) <;> (repeat' split at g) <;> omega
        · simpa using sc_trans n n' n2
        · simpa using fun h g => by simp only [cw] at *; (repeat' split) <;> (repeat' split at h) <;> (repeat' split at g) <;> omega
        · simpa using cc_trans re im re' im' re2 im2
        · simp only [if_neg (show ¬ (5 : Int) = 4 by decide), if_neg (show ¬ (5 : Int) = 2 by decide), if_true]
          by_cases e1 : l.length = l'.length
          · by_cases e2 : l'.length = l2.length
            · rw [if_pos e1, if_pos e2, if_pos (e1.trans e2)]
              by_cases f1 : n = n'
              · subst f1
                rw [if_pos rfl]
                by_cases f2 : n = n2
                · rw [if_pos f2, if_pos f2]
                  exact hl l ih (sound_args ha rfl) l' l2 (sound_args hb rfl) (sound_args hc rfl)
                · rw [if_neg f2, if_neg f2]; exact fun _ q => q
              · rw [if_neg f1]
                by_cases f2 : n' = n2
                · subst f2
                  rw [if_neg f1]; exact fun q _ => q
                · rw [if_neg f2]
                  intro p q
                  have z := sc_trans n n' n2 p q
                  rw [if_neg]
                  · exact z
                  · rintro rfl
                    rw [sc_neg n n'] at q
                    have := mt (sc_zero n n').1 f1
                    omega
            · rw [if_pos e1, if_neg e2, e1, if_neg e2]; exact fun _ q => q
          · by_cases e2 : l'.length = l2.length
            · rw [if_neg e1, if_pos e2, ← e2, if_neg e1]; exact fun q _ => q
            · rw [if_neg e1, if_neg e2]
              intro p q
              have := cw_trans p q (by omega)
              rw [if_neg (by omega)]; exact this.1
      · simp only [if_neg hk2, if_true]; exact fun _ q => q
    · rw [if_neg hk]
      by_cases hk2 : k' = k2
      · subst hk2; rw [if_neg hk]; exact fun q _ => q
      · rw [if_neg hk2]
        intro p q
        have n1 := fun e => hk (rk_inj h1 h2 e)
        have n2 := fun e => hk2 (rk_inj h2 h3 e)
        have := cw_trans p q n1
        rw [if_neg fun e => this.2 (by rw [e])]; exact this.1
end Go.Proofs.Ytgkcbiabkpcblaa.odm
