/- Cells that lead on, and what becomes of them when a variable is bound (no program). -/
import Derived.Test.YthableojkjhicaaUnE
namespace Go.Proofs.Ythableojkjhicaa.un
open Go.Proofs.Ythableojkjhicaa.hp Go.Proofs.Ythableojkjhicaa.cel
set_option linter.unusedVariables false
/-! ### rows of numbers below n that are not as long as they must be -/
theorem nodup_lt : ∀ (n : Nat) (l : List Nat), l.Nodup → (∀ x ∈ l, x < n) → l.length ≤ n
  | 0, l, _, h => by cases l with | nil => exact Nat.le_refl _ | cons x r => exact absurd (h x List.mem_cons_self) (Nat.not_lt_zero _)
  | n + 1, l, hd, h => by
    have h1 := nodup_lt n (l.erase n) (hd.erase n) fun x hx => by
      rw [hd.mem_erase_iff] at hx
      have := h x hx.2
      have := hx.1
      omega
    rw [List.length_erase] at h1
    split at h1 <;> omega
theorem pigeon (n : Nat) (f : Nat → Nat) (hf : ∀ i, i ≤ n → f i < n) : ∃ i j, i < j ∧ j ≤ n ∧ f i = f j := by
  apply Classical.byContradiction
  intro hno
  have hd : ((List.range (n + 1)).map f).Nodup := by
    rw [List.Nodup, List.pairwise_map]
    refine List.Pairwise.imp_of_mem ?_ (List.pairwise_lt_range (n := n + 1))
    intro a b ha hb hab e
    exact hno ⟨a, b, hab, by have := List.mem_range.1 hb; omega, e⟩
  have := nodup_lt n _ hd (by
    intro x hx
    obtain ⟨i, hi, rfl⟩ := List.mem_map.1 hx
    exact hf i (by have := List.mem_range.1 hi; omega))
  rw [List.length_map, List.length_range] at this
  omega
/-! ### Deref by steps -/
theorem dr_add (l : List Int) : ∀ (a b : Nat) (c : Int), dr l (a + b) c = dr l b (dr l a c)
  | 0, b, c => by rw [Nat.zero_add]; rfl
  | a + 1, b, c => by
    by_cases h : on l c
    · rw [show a + 1 + b = (a + b) + 1 by omega, dr_on h, dr_on h, dr_add l a b]
    · rw [dr_off h, dr_off h, dr_off h]
theorem dr_end {l : List Int} {k : Nat} {c : Int} (h : ¬ on l (dr l k c)) {k' : Nat} (hk : k ≤ k') : dr l k' c = dr l k c := by
  obtain ⟨m, rfl⟩ := Nat.le.dest hk
  rw [dr_add, dr_off h]
def Wl (l : List Int) : Prop := ∀ c ∈ l, W64 c
theorem on_cell {l : List Int} {c d : Int} (hc : 0 ≤ c) (hd : 0 ≤ d) (h1 : on l c) (h2 : on l d) (e : (c / 8).toNat = (d / 8).toNat) : c = d := by
  have a := h1.1
  have b := h2.1
  omega
/-- a row of references that ends, ends within as many steps as there are cells -/
theorem dr_within {l : List Int} (hw : Wl l) (c : Int) (hc : W64 c) : ∀ (m : Nat), ¬ on l (dr l m c) → ¬ on l (dr l l.length c) := by
  intro m
  induction m using Nat.strongRecOn with
  | _ m ih =>
    intro hm
    by_cases hle : m ≤ l.length
    · rw [dr_end hm hle]; exact hm
    by_cases hall : ∀ i, i ≤ l.length → on l (dr l i c)
    · obtain ⟨i, j, hij, hj, he⟩ := pigeon l.length (fun i => (dr l i c / 8).toNat) fun i hi => by
        have h1 := (hall i hi).2.1
        have h2 := (dr_w hw i c hc).1
        show (dr l i c / 8).toNat < l.length
        omega
      have e := on_cell (dr_w hw i c hc).1 (dr_w hw j c hc).1 (hall i (by omega)) (hall j hj) he
      refine ih (m - (j - i)) (by omega) ?_
      have e1 : dr l (m - (j - i)) c = dr l (m - j) (dr l i c) := by rw [← dr_add]; congr 1; omega
      have e2 : dr l m c = dr l (m - j) (dr l j c) := by rw [← dr_add]; congr 1; omega
      rw [e1, e, ← e2]; exact hm
    · obtain ⟨i, hi⟩ := Classical.not_forall.1 hall
      obtain ⟨h1, h2⟩ := Classical.not_imp.1 hi
      exact ih i (by omega) h2
/-- all rows of references end -/
def Ends (l : List Int) : Prop := ∀ c, W64 c → ¬ on l (dr l l.length c)
section
variable {l : List Int} {v y : Int}
/-- the variable v is bound to y -/
theorem set_getD (hv : isV l v = true) (p : Nat) : (l.set (v / 8).toNat y).getD p 0 = if p = (v / 8).toNat then y else l.getD p 0 := by
  have hg := of_decide_eq_true (isV_gb hv).2.1
  rw [List.getD_eq_getElem?_getD, List.getD_eq_getElem?_getD, List.getElem?_set]
  by_cases e : (v / 8).toNat = p
  · rw [if_pos e, if_pos e.symm, if_pos (by omega)]; rfl
  · rw [if_neg e, if_neg (fun h => e h.symm)]
theorem v_off (hv : isV l v = true) : ¬ on l v := by
  obtain ⟨h8, hg, hx⟩ := isV_gb hv
  rintro ⟨_, _, hn⟩
  have hg := of_decide_eq_true hg
  unfold gv at hx
  rw [if_pos hg] at hx
  exact hn hx
theorem sx_set (hv : isV l v = true) : sx l (v / 8) y = l.set (v / 8).toNat y := by
  have hg := of_decide_eq_true (isV_gb hv).2.1
  unfold sx; rw [if_pos hg]
theorem on_bound (hv : isV l v = true) (hyv : y ≠ v) : on (sx l (v / 8) y) v := by
  obtain ⟨h8, hg, _⟩ := isV_gb hv
  have hg := of_decide_eq_true hg
  rw [sx_set hv]
  refine ⟨h8, by rw [List.length_set]; exact hg.2, ?_⟩
  rw [set_getD hv, if_pos rfl]; exact hyv
theorem on_other (hv : isV l v = true) {c : Int} (hc : 0 ≤ c) (hcv : c ≠ v) : on (sx l (v / 8) y) c ↔ on l c := by
  obtain ⟨h8, hg, _⟩ := isV_gb hv
  have hg := of_decide_eq_true hg
  rw [sx_set hv]
  unfold on
  rw [List.length_set]
  constructor
  · rintro ⟨a, b, d⟩
    rw [set_getD hv, if_neg (by omega)] at d
    exact ⟨a, b, d⟩
  · rintro ⟨a, b, d⟩
    refine ⟨a, b, ?_⟩
    rw [set_getD hv, if_neg (by omega)]; exact d
theorem next_other (hv : isV l v = true) {c : Int} (hc : 0 ≤ c) (h : on l c) : (sx l (v / 8) y).getD (c / 8).toNat 0 = l.getD (c / 8).toNat 0 := by
  have hcv : c ≠ v := fun e => v_off hv (e ▸ h)
  have h8 := (isV_gb hv).1
  have hg := of_decide_eq_true (isV_gb hv).2.1
  have h1 := h.1
  rw [sx_set hv, set_getD hv, if_neg (by omega)]
theorem bound_steps (hw : Wl l) (hv : isV l v = true) (hy : ¬ on l y) (hy0 : 0 ≤ y) (hyv : y ≠ v) : ∀ (k : Nat) (c : Int), W64 c → ¬ on l (dr l k c) →
    (dr l k c ≠ v → dr (sx l (v / 8) y) k c = dr l k c) ∧ (dr l k c = v → dr (sx l (v / 8) y) (k + 1) c = y)
  | 0, c, hc, h => by
    refine ⟨fun _ => rfl, fun e => ?_⟩
    have e : c = v := e
    subst e
    rw [dr_on (on_bound hv hyv), sx_set hv, set_getD hv, if_pos rfl]; rfl
  | k + 1, c, hc, h => by
    by_cases ho : on l c
    · have hcv : c ≠ v := fun e => v_off hv (e ▸ ho)
      have ho' := (on_other (y := y) hv hc.1 hcv).2 ho
      have ih := bound_steps hw hv hy hy0 hyv k (l.getD (c / 8).toNat 0) (getD_w hw _) (by rw [← dr_on ho]; exact h)
      rw [dr_on ho, dr_on ho', dr_on ho', next_other hv hc.1 ho]
      exact ih
    · rw [dr_off ho]
      refine ⟨fun hcv => ?_, fun e => ?_⟩
      · exact dr_off (fun h => ho ((on_other hv hc.1 hcv).1 h)) _
      · subst e
        rw [dr_on (on_bound hv hyv), sx_set hv, set_getD hv, if_pos rfl, ← sx_set hv]
        exact dr_off (fun h => hy ((on_other hv hy0 hyv).1 h)) _
/-- what any cell comes to, when a variable is bound -/
theorem dr_bound (hw : Wl l) (hE : Ends l) (hv : isV l v = true) (hy : ¬ on l y) (hyw : W64 y) (hyv : y ≠ v) (c : Int) (hc : W64 c) :
    dr (sx l (v / 8) y) (sx l (v / 8) y).length c = if dr l l.length c = v then y else dr l l.length c := by
  have hs := bound_steps hw hv hy hyw.1 hyv l.length c hc (hE c hc)
  have hw' : Wl (sx l (v / 8) y) := sx_w hw _ hyw
  have hyo : ¬ on (sx l (v / 8) y) y := fun h => hy ((on_other hv hyw.1 hyv).1 h)
  rw [sx_len]
  by_cases e : dr l l.length c = v
  · rw [if_pos e]
    have h1 := hs.2 e
    have h2 := dr_within hw' c hc (l.length + 1) (by rw [h1]; exact hyo)
    rw [sx_len] at h2
    rw [← dr_end h2 (Nat.le_succ _)]; exact h1
  · rw [if_neg e]; exact hs.1 e
theorem ends_bound (hw : Wl l) (hE : Ends l) (hv : isV l v = true) (hy : ¬ on l y) (hyw : W64 y) (hyv : y ≠ v) : Ends (sx l (v / 8) y) := by
  intro c hc
  rw [dr_bound hw hE hv hy hyw hyv c hc]
  split
  · exact fun h => hy ((on_other hv hyw.1 hyv).1 h)
  · rename_i e
    exact fun h => hE c hc ((on_other hv (dr_w hw _ c hc).1 e).1 h)
end
end Go.Proofs.Ythableojkjhicaa.un
