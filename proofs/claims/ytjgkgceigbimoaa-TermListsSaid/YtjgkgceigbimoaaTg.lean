/- Terms that may be: the plain mathematics; no program. -/
import Derived.Test.YtjgkgceigbimoaaTv
namespace Go.Proofs.Ytjgkgceigbimoaa.tm
/-! ### a compound of few small terms -/
theorem sizeL_snoc (l : List Tm) (t : Tm) : sizeL (l ++ [t]) = sizeL l + size t := by rw [sizeL_sum, sizeL_sum]; simp
theorem heightL_snoc (l : List Tm) (t : Tm) : heightL (l ++ [t]) = max (heightL l) (height t) := by
  induction l with
  | nil => simp [heightL]
  | cons a r ih => rw [List.cons_append, heightL, ih, heightL, Nat.max_assoc]
theorem sizeL_bound {l : List Tm} {m : Nat} (h : ∀ x ∈ l, size x ≤ m) : sizeL l ≤ l.length * m := by
  induction l with
  | nil => simp [sizeL]
  | cons a r ih =>
    have h1 := h a (by simp)
    have h2 := ih fun x hx => h x (by simp [hx])
    rw [sizeL, List.length_cons, Nat.add_mul]; omega
theorem good_parts {t : Tm} (h : good t = true) : size t ≤ 2000 ∧ height t ≤ 500 ∧ sound t = true := by
  simp only [good, Bool.and_eq_true, decide_eq_true_eq] at h
  exact ⟨h.1.1, h.1.2, h.2⟩
theorem comp_good {n : ByteArray} {l : List Tm} (hl0 : l ≠ []) (hl : l.length ≤ 8) (hn : n.size ≤ 50) (h : ∀ x ∈ l, good x = true ∧ size x ≤ 200 ∧ height x ≤ 300) : good (comp n l) = true ∧ size (comp n l) = 1 + sizeL l ∧ height (comp n l) = 1 + heightL l := by
  have hs : size (comp n l) = 1 + sizeL l := by simp [comp, size]
  have hh : height (comp n l) = 1 + heightL l := by simp [comp, height]
  have h1 := sizeL_bound (l := l) (m := 200) fun x hx => (h x hx).2.1
  have h2 : heightL l ≤ 300 := heightL_le.2 fun x hx => (h x hx).2.2
  have h3 : soundL l = true := by
    rw [soundL_all, List.all_eq_true]
    exact fun x hx => (good_parts (h x hx).1).2.2
  have h4 : chk (comp n l) = 0 := by
    have : 0 < l.length := List.length_pos_iff.2 hl0
    simp only [comp, chk]
    rw [if_neg (by decide), if_neg (by decide), if_neg (by decide), if_neg (by decide), if_pos trivial, if_neg (by omega), if_neg (by omega), if_neg (by omega)]
  refine ⟨?_, hs, hh⟩
  have h5 : sound (comp n l) = true := by
    have : sound (comp n l) = (decide (chk (comp n l) = 0) && (if (5 : Int) = 5 then soundL l else true)) := rfl
    rw [this, h4, if_pos rfl, h3]; rfl
  simp only [good, Bool.and_eq_true, decide_eq_true_eq]
  exact ⟨⟨by rw [hs]; have : l.length * 200 ≤ 8 * 200 := Nat.mul_le_mul_right _ hl; omega, by omega⟩, h5⟩
end Go.Proofs.Ytjgkgceigbimoaa.tm
