/- Rows of terms in order: the plain mathematics; no program. -/
import Derived.Test.YtgkcbiabkpcblaaOr
import Derived.Test.YtgkcbiabkpcblaaRm
namespace Go.Proofs.Ytgkcbiabkpcblaa.ods
set_option linter.unusedVariables false
open Go.Proofs.Ytgkcbiabkpcblaa.tm Go.Proofs.Ytgkcbiabkpcblaa.odm Go.Proofs.Ytgkcbiabkpcblaa.pln
/-- rising, equals let in -/
def Up (l : List Tm) : Prop := l.Pairwise fun a b => ord a b ≤ 0
/-- rising, no equals -/
def Str (l : List Tm) : Prop := l.Pairwise fun a b => ord a b < 0
/-- those that may be, plain -/
def G (l : List Tm) : List Tm := (l.filter good).map plain
def SortR (l M : List Tm) : Prop := M.Perm (G l) ∧ Up M
def SetR (l M : List Tm) : Prop := (∀ x, x ∈ M ↔ x ∈ G l) ∧ Str M
/-- a term that is its plain copy, and may be -/
def Pl (x : Tm) : Prop := good x = true ∧ plain x = x
theorem plain_plain (t : Tm) : plain (plain t) = plain t := by unfold plain; rw [sub_sub]; congr 1
theorem pl_plain {t : Tm} (h : good t = true) : Pl (plain t) := ⟨good_plain h (good_sound h), plain_plain t⟩
theorem G_pl {l : List Tm} : ∀ x ∈ G l, Pl x := by
  intro x hx
  obtain ⟨t, ht, rfl⟩ := List.mem_map.1 hx
  exact pl_plain (List.mem_filter.1 ht).2
theorem mem_G {l : List Tm} {x : Tm} : x ∈ G l ↔ ∃ t ∈ l, good t = true ∧ plain t = x := by
  unfold G; rw [List.mem_map]
  constructor
  · rintro ⟨t, ht, rfl⟩; obtain ⟨h1, h2⟩ := List.mem_filter.1 ht; exact ⟨t, h1, h2, rfl⟩
  · rintro ⟨t, h1, h2, rfl⟩; exact ⟨t, List.mem_filter.2 ⟨h1, h2⟩, rfl⟩
theorem pl_eq {a b : Tm} (ha : Pl a) (hb : Pl b) (h : ord a b = 0) : a = b := by
  have := (ord_zero a b (good_sound ha.1) (good_sound hb.1)).1 h
  rwa [ha.2, hb.2] at this
theorem ord_pp {a b : Tm} (ha : good a = true) (hb : good b = true) : ord (plain a) (plain b) = ord a b := by
  rw [ord_plain a _ (good_sound ha), ord_neg (plain b) a, ord_plain b a (good_sound hb), ← ord_neg b a]
theorem uniq_up : ∀ {l l' : List Tm}, l.Perm l' → Up l → Up l' → (∀ x ∈ l, Pl x) → l = l'
  | [], l', h, _, _, _ => h.nil_eq
  | a :: t, [], h, _, _, _ => h.eq_nil
  | a :: t, b :: t', h, hu, hu', hp => by
    have hp' : ∀ x ∈ b :: t', Pl x := fun x hx => hp x (h.mem_iff.2 hx)
    have e : a = b := by
      have h1 : ord a b ≤ 0 := by
        rcases List.mem_cons.1 (h.mem_iff.2 (List.mem_cons_self (a := b))) with e | e
        · subst e; rw [ord_refl _ (good_sound (hp _ (by simp)).1)]; omega
        · exact (List.pairwise_cons.1 hu).1 b e
      have h2 : ord b a ≤ 0 := by
        rcases List.mem_cons.1 (h.mem_iff.1 (List.mem_cons_self (a := a))) with e | e
        · subst e; rw [ord_refl _ (good_sound (hp _ (by simp)).1)]; omega
        · exact (List.pairwise_cons.1 hu').1 a e
      rw [ord_neg a b] at h2
      exact pl_eq (hp a (by simp)) (hp' b (by simp)) (by omega)
    subst e
    rw [uniq_up (h.cons_inv) (List.pairwise_cons.1 hu).2 (List.pairwise_cons.1 hu').2 fun x hx => hp x (by simp [hx])]
theorem str_head {a : Tm} {t : List Tm} (hs : Str (a :: t)) (ha : sound a = true) : a ∉ t := fun h => by
  have := (List.pairwise_cons.1 hs).1 a h
  rw [ord_refl a ha] at this; omega
theorem uniq_str : ∀ {l l' : List Tm}, (∀ x, x ∈ l ↔ x ∈ l') → Str l → Str l' → (∀ x ∈ l, Pl x) → l = l'
  | [], [], _, _, _, _ => rfl
  | [], b :: t', h, _, _, _ => by have := (h b).2 (by simp); simp at this
  | a :: t, [], h, _, _, _ => by have := (h a).1 (by simp); simp at this
  | a :: t, b :: t', h, hu, hu', hp => by
    have hp' : ∀ x ∈ b :: t', Pl x := fun x hx => hp x ((h x).2 hx)
    have e : a = b := by
      rcases List.mem_cons.1 ((h b).2 (by simp)) with e | e
      · exact e.symm
      · rcases List.mem_cons.1 ((h a).1 (by simp)) with e' | e'
        · exact e'
        · have h1 := (List.pairwise_cons.1 hu).1 b e
          have h2 := (List.pairwise_cons.1 hu').1 a e'
          rw [ord_neg a b] at h2; omega
    subst e
    have sa := good_sound (hp a (by simp)).1
    have n1 := str_head hu sa
    have n2 := str_head hu' sa
    rw [uniq_str (l := t) (l' := t') (fun x => ?_) (List.pairwise_cons.1 hu).2 (List.pairwise_cons.1 hu').2 fun x hx => hp x (by simp [hx])]
    constructor
    · intro hx
      rcases List.mem_cons.1 ((h x).1 (by simp [hx])) with e | e
      · subst e; exact absurd hx n1
      · exact e
    · intro hx
      rcases List.mem_cons.1 ((h x).2 (by simp [hx])) with e | e
      · subst e; exact absurd hx n2
      · exact e
theorem SortR.uniq {l M M' : List Tm} (h : SortR l M) (h' : SortR l M') : M = M' :=
  uniq_up (h.1.trans h'.1.symm) h.2 h'.2 fun x hx => G_pl x (h.1.mem_iff.1 hx)
theorem SetR.uniq {l M M' : List Tm} (h : SetR l M) (h' : SetR l M') : M = M' :=
  uniq_str (fun x => (h.1 x).trans (h'.1 x).symm) h.2 h'.2 fun x hx => G_pl x ((h.1 x).1 hx)
theorem SortR.pl {l M : List Tm} (h : SortR l M) : ∀ x ∈ M, Pl x := fun x hx => G_pl x (h.1.mem_iff.1 hx)
theorem SetR.pl {l M : List Tm} (h : SetR l M) : ∀ x ∈ M, Pl x := fun x hx => G_pl x ((h.1 x).1 hx)
/-- what has been sorted, made plain -/
theorem SortR.of {l A : List Tm} (h : A.Perm (l.filter good)) (hu : Up A) : SortR l (A.map plain) := by
  refine ⟨h.map plain, ?_⟩
  have hg : ∀ x ∈ A, good x = true := fun x hx => (List.mem_filter.1 (h.mem_iff.1 hx)).2
  refine List.pairwise_map.2 (List.Pairwise.imp_of_mem ?_ hu)
  intro a b ha hb q
  rw [ord_pp (hg a ha) (hg b hb)]; exact q
theorem SetR.of {l D : List Tm} (hd : ∀ x ∈ D, x ∈ l.filter good) (hc : ∀ x ∈ l.filter good, ∃ d ∈ D, ord d x = 0) (hs : Str D) : SetR l (D.map plain) := by
  have hg : ∀ x ∈ D, good x = true := fun x hx => (List.mem_filter.1 (hd x hx)).2
  refine ⟨fun x => ?_, ?_⟩
  · constructor
    · intro hx
      obtain ⟨d, h, rfl⟩ := List.mem_map.1 hx
      exact List.mem_map.2 ⟨d, hd d h, rfl⟩
    · intro hx
      obtain ⟨t, h, rfl⟩ := List.mem_map.1 hx
      obtain ⟨d, h1, h2⟩ := hc t h
      refine List.mem_map.2 ⟨d, h1, ?_⟩
      exact (ord_zero d t (good_sound (hg d h1)) (good_sound (List.mem_filter.1 h).2)).1 h2
  · refine List.pairwise_map.2 (List.Pairwise.imp_of_mem ?_ hs)
    intro a b ha hb q
    rw [ord_pp (hg a ha) (hg b hb)]; exact q
/-! ### the reference's insertion -/
def RS (once : Bool) (l M : List Tm) : Prop := if once = true then SetR l M else SortR l M
theorem RS.pl {once : Bool} {l M : List Tm} (h : RS once l M) : ∀ x ∈ M, Pl x := by
  cases once
  · exact SortR.pl (l := l) (by simpa [RS] using h)
  · exact SetR.pl (l := l) (by simpa [RS] using h)
theorem RS.nil (once : Bool) : RS once [] [] := by cases once <;> simp [RS, SortR, SetR, G, Up, Str]
theorem G_bad {l : List Tm} {t : Tm} (h : good t = false) : G (l ++ [t]) = G l := by simp [G, List.filter_append, h]
theorem G_good {l : List Tm} {t : Tm} (h : good t = true) : G (l ++ [t]) = G l ++ [plain t] := by simp [G, List.filter_append, h]
theorem RS.bad {once : Bool} {l M : List Tm} {t : Tm} (h : RS once l M) (ht : good t = false) : RS once (l ++ [t]) M := by
  cases once
  · simpa [RS, SortR, G_bad ht] using h
  · simpa [RS, SetR, G_bad ht] using h
/-- places from at on are behind t -/
def Behind (t : Tm) (M : List Tm) (at_ : Nat) : Prop := ∀ (j : Nat) (h : j < M.length), at_ ≤ j → ord t M[j] < 0
theorem insert_up {M : List Tm} {t : Tm} {k : Nat} (hu : Up M) (hp : ∀ x ∈ M, Pl x) (ht : good t = true) (hk : k ≤ M.length) (hb : Behind t M k) (h0 : ∀ (h : k - 1 < M.length), 0 < k → 0 ≤ ord t M[k - 1]) :
    Up (M.take k ++ plain t :: M.drop k) := by
  have st := good_sound ht
  have hq : ∀ x ∈ M.take k, ord x (plain t) ≤ 0 := by
    intro x hx
    obtain ⟨j, hj, rfl⟩ := List.mem_iff_getElem.1 hx
    simp only [List.length_take] at hj
    rw [List.getElem_take]
    have h1 := h0 (by omega) (by omega)
    have h2 : ord M[j] M[k - 1] ≤ 0 := by
      rcases Nat.lt_or_ge j (k - 1) with q | q
      · exact List.pairwise_iff_getElem.1 hu j (k - 1) (by omega) (by omega) q
      · have e : j = k - 1 := by omega
        subst e
        rw [ord_refl _ (good_sound (hp _ (List.getElem_mem (by omega))).1)]; omega
    have sj := good_sound (hp M[j] (List.getElem_mem (by omega))).1
    have sk := good_sound (hp M[k - 1] (List.getElem_mem (by omega))).1
    have h3 := ord_trans M[j] M[k - 1] t sj sk st h2 (by rw [ord_neg t]; omega)
    rw [ord_neg (plain t), ord_plain t _ st, ← ord_neg t]; exact h3
  have hr : ∀ x ∈ M.drop k, ord (plain t) x ≤ 0 := by
    intro x hx
    obtain ⟨j, hj, rfl⟩ := List.mem_iff_getElem.1 hx
    simp only [List.length_drop] at hj
    rw [List.getElem_drop, ord_plain t _ st]
    have := hb (k + j) (by omega) (by omega)
    omega
  refine List.pairwise_append.2 ⟨hu.sublist (List.take_sublist _ _), List.pairwise_cons.2 ⟨hr, hu.sublist (List.drop_sublist _ _)⟩, ?_⟩
  intro a ha b hb'
  rcases List.mem_cons.1 hb' with e | e
  · subst e; exact hq a ha
  · have := hu
    rw [Up, ← List.take_append_drop k M] at this
    exact (List.pairwise_append.1 this).2.2 a ha b e
theorem insert_str {M : List Tm} {t : Tm} {k : Nat} (hu : Str M) (hp : ∀ x ∈ M, Pl x) (ht : good t = true) (hk : k ≤ M.length) (hb : Behind t M k) (h0 : ∀ (h : k - 1 < M.length), 0 < k → 0 < ord t M[k - 1]) :
    Str (M.take k ++ plain t :: M.drop k) := by
  have st := good_sound ht
  have hq : ∀ x ∈ M.take k, ord x (plain t) < 0 := by
    intro x hx
    obtain ⟨j, hj, rfl⟩ := List.mem_iff_getElem.1 hx
    simp only [List.length_take] at hj
    rw [List.getElem_take]
    have h1 := h0 (by omega) (by omega)
    have sj := good_sound (hp M[j] (List.getElem_mem (by omega))).1
    have sk := good_sound (hp M[k - 1] (List.getElem_mem (by omega))).1
    have h2 : ord M[j] M[k - 1] ≤ 0 := by
      rcases Nat.lt_or_ge j (k - 1) with q | q
      · have := List.pairwise_iff_getElem.1 hu j (k - 1) (by omega) (by omega) q; omega
      · have e : j = k - 1 := by omega
        subst e
        rw [ord_refl _ sj]; omega
    have h3 := ord_trans M[j] M[k - 1] t sj sk st h2 (by rw [ord_neg t]; omega)
    have h4 : ord M[j] t ≠ 0 := fun e => by
      have := ord_eq_left sj st e M[k - 1]
      omega
    rw [ord_neg (plain t), ord_plain t _ st, ← ord_neg t]; omega
  have hr : ∀ x ∈ M.drop k, ord (plain t) x < 0 := by
    intro x hx
    obtain ⟨j, hj, rfl⟩ := List.mem_iff_getElem.1 hx
    simp only [List.length_drop] at hj
    rw [List.getElem_drop, ord_plain t _ st]
    exact hb (k + j) (by omega) (by omega)
  refine List.pairwise_append.2 ⟨hu.sublist (List.take_sublist _ _), List.pairwise_cons.2 ⟨hr, hu.sublist (List.drop_sublist _ _)⟩, ?_⟩
  intro a ha b hb'
  rcases List.mem_cons.1 hb' with e | e
  · subst e; exact hq a ha
  · have := hu
    rw [Str, ← List.take_append_drop k M] at this
    exact (List.pairwise_append.1 this).2.2 a ha b e
theorem insert_perm (M : List Tm) (x : Tm) (k : Nat) : (M.take k ++ x :: M.drop k).Perm (M ++ [x]) := by
  have h1 : (M.take k ++ x :: M.drop k).Perm (x :: (M.take k ++ M.drop k)) := List.perm_middle
  rw [List.take_append_drop] at h1
  exact h1.trans (List.perm_append_singleton x M).symm
theorem RS.ins {once : Bool} {l M : List Tm} {t : Tm} {k : Nat} (h : RS once l M) (ht : good t = true) (hk : k ≤ M.length) (hb : Behind t M k) (h0 : ∀ (h : k - 1 < M.length), 0 < k → (if once = true then 0 < ord t M[k - 1] else 0 ≤ ord t M[k - 1])) :
    RS once (l ++ [t]) (M.take k ++ plain t :: M.drop k) := by
  have hp := h.pl
  cases once
  · simp only [RS, Bool.false_eq_true, if_false] at h h0 ⊢
    exact ⟨by rw [G_good ht]; exact (insert_perm M _ k).trans (h.1.append_right _), insert_up h.2 hp ht hk hb h0⟩
  · simp only [RS, if_true] at h h0 ⊢
    exact ⟨fun x => by rw [G_good ht, (insert_perm M _ k).mem_iff, List.mem_append, List.mem_append, h.1 x], insert_str h.2 hp ht hk hb h0⟩
theorem RS.dup {l M : List Tm} {t : Tm} {k : Nat} (h : RS true l M) (ht : good t = true) (hk : k - 1 < M.length) (h0 : ord t M[k - 1] = 0) : RS true (l ++ [t]) M := by
  have hp := h.pl
  simp only [RS, if_true] at h ⊢
  refine ⟨fun x => ?_, h.2⟩
  rw [G_good ht, List.mem_append, h.1 x, List.mem_singleton]
  refine ⟨Or.inl, fun q => q.elim id fun e => ?_⟩
  subst e
  have hm := hp _ (List.getElem_mem hk)
  have e2 := (ord_zero t _ (good_sound ht) (good_sound hm.1)).1 h0
  rw [e2, hm.2, ← h.1]
  exact List.getElem_mem hk
/-- no more of a set than there are -/
theorem nodup_le : ∀ {M N : List Tm}, Str M → (∀ x ∈ M, sound x = true) → (∀ x ∈ M, x ∈ N) → M.length ≤ N.length
  | [], _, _, _, _ => by simp
  | a :: M, N, h, hs, hm => by
    obtain ⟨s, t, rfl⟩ := List.append_of_mem (hm a (by simp))
    have na := str_head h (hs a (by simp))
    have := nodup_le (M := M) (N := s ++ t) (List.pairwise_cons.1 h).2 (fun x hx => hs x (by simp [hx])) fun x hx => by
      have := hm x (by simp [hx])
      simp only [List.mem_append, List.mem_cons] at this ⊢
      rcases this with q | q | q
      · exact Or.inl q
      · subst q; exact absurd hx na
      · exact Or.inr q
    simp only [List.length_append, List.length_cons] at this ⊢
    omega
theorem G_of_pl {M : List Tm} (h : ∀ x ∈ M, Pl x) : G M = M := by
  unfold G
  rw [List.filter_eq_self.2 fun x hx => (h x hx).1]
  conv => rhs; rw [← List.map_id M]
  exact List.map_congr_left fun x hx => (h x hx).2
end Go.Proofs.Ytgkcbiabkpcblaa.ods
