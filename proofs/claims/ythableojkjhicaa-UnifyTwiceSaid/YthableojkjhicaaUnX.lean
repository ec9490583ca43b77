/- Heaps of good cells under binding: no error of form. -/
import Derived.Test.YthableojkjhicaaUnW
namespace Go.Proofs.Ythableojkjhicaa.unw
open Go.Proofs.Ythableojkjhicaa.hp Go.Proofs.Ythableojkjhicaa.cel Go.Proofs.Ythableojkjhicaa.kp Go.Proofs.Ythableojkjhicaa.tm Go.Proofs.Ythableojkjhicaa.un
open Go.Proofs.Ythableojkjhicaa.pm hiding nd
set_option linter.unusedVariables false
section
variable {l l' : List Int} {B B' : Nat → Prop} {c v y : Int}
theorem jn_lt {t : Int} {p : Nat} (h0 : 0 ≤ t) (h1 : t < 8) (hp : p ≤ 1048576) : jn t (p : Int) = (p : Int) * 8 + t := by unfold jn; omega
theorem TO.w (hl : l.length ≤ 1048576) (h : TO l B c) : W64 c := by
  rcases h with ⟨p, h1, h2, h3⟩ | ⟨p, n, j, h1, _⟩ | h | ⟨p, h1, _⟩ | ⟨p, h1, _⟩
  · exact ⟨by omega, by omega⟩
  · rw [h1]; exact jn_w _ (by decide) (by decide)
  · exact h.2
  · rw [h1]; exact jn_w _ (by decide) (by decide)
  · rw [h1]; exact jn_w _ (by decide) (by decide)
theorem TO.ref (hl : l.length ≤ 1048576) (h : TO l B c) (h8 : c % 8 = 0) : ∃ p : Nat, c = (p : Int) * 8 ∧ p < l.length ∧ ¬ B p := by
  rcases h with h | ⟨p, n, j, h1, h2, _⟩ | h | ⟨p, h1, h2, _⟩ | ⟨p, h1, h2, _⟩
  · exact h
  · rw [jn_lt (by decide) (by decide) (by omega)] at h1; omega
  · omega
  · rw [jn_lt (by decide) (by decide) (by omega)] at h1; omega
  · rw [jn_lt (by decide) (by decide) (by omega)] at h1; omega
theorem dr_to (w : WT l B) (hl : l.length ≤ 1048576) : ∀ (k : Nat) (c : Int), TO l B c → TO l B (dr l k c)
  | 0, c, h => h
  | k + 1, c, h => by
    by_cases ho : on l c
    · rw [dr_on ho]
      obtain ⟨p, h1, h2, h3⟩ := h.ref hl ho.1
      have e : (c / 8).toNat = p := by omega
      rw [e]
      exact dr_to w hl k _ (w.c p h2 h3)
    · rw [dr_off ho]; exact h
theorem within (w : WT l B) (hl : l.length ≤ 1048576) (c : Int) (hc : TO l B c) : ∀ (m : Nat), ¬ on l (dr l m c) → ¬ on l (dr l l.length c) := by
  intro m
  induction m using Nat.strongRecOn with
  | _ m ih =>
    intro hm
    by_cases hle : m ≤ l.length
    · rw [dr_end hm hle]; exact hm
    by_cases hall : ∀ i, i ≤ l.length → on l (dr l i c)
    · obtain ⟨i, j, hij, hj, he⟩ := pigeon l.length (fun i => (dr l i c / 8).toNat) fun i hi => by
        have h1 := (hall i hi).2.1
        have h2 := ((dr_to w hl i c hc).w hl).1
        show (dr l i c / 8).toNat < l.length
        omega
      have e := on_cell ((dr_to w hl i c hc).w hl).1 ((dr_to w hl j c hc).w hl).1 (hall i (by omega)) (hall j hj) he
      refine ih (m - (j - i)) (by omega) ?_
      have e1 : dr l (m - (j - i)) c = dr l (m - j) (dr l i c) := by rw [← dr_add]; congr 1; omega
      have e2 : dr l m c = dr l (m - j) (dr l j c) := by rw [← dr_add]; congr 1; omega
      rw [e1, e, ← e2]; exact hm
    · obtain ⟨i, hi⟩ := Classical.not_forall.1 hall
      obtain ⟨h1, h2⟩ := Classical.not_imp.1 hi
      exact ih i (by omega) h2
theorem steps (w : WT l B) (hl : l.length ≤ 1048576) (hv : isV l v = true) (hy : ¬ on l y) (hy0 : 0 ≤ y) (hyv : y ≠ v) : ∀ (k : Nat) (c : Int), TO l B c → ¬ on l (dr l k c) →
    (dr l k c ≠ v → dr (sx l (v / 8) y) k c = dr l k c) ∧ (dr l k c = v → dr (sx l (v / 8) y) (k + 1) c = y)
  | 0, c, hc, h => by
    refine ⟨fun _ => rfl, fun e => ?_⟩
    have e : c = v := e
    subst e
    rw [dr_on (on_bound hv hyv), sx_set hv, set_getD hv, if_pos rfl]; rfl
  | k + 1, c, hc, h => by
    have hc0 := (hc.w hl).1
    by_cases ho : on l c
    · have hcv : c ≠ v := fun e => v_off hv (e ▸ ho)
      have ho' := (on_other (y := y) hv hc0 hcv).2 ho
      obtain ⟨p, h1, h2, h3⟩ := hc.ref hl ho.1
      have ht : TO l B (l.getD (c / 8).toNat 0) := by
        have e : (c / 8).toNat = p := by omega
        rw [e]; exact w.c p h2 h3
      have ih := steps w hl hv hy hy0 hyv k (l.getD (c / 8).toNat 0) ht (by rw [← dr_on ho]; exact h)
      rw [dr_on ho, dr_on ho', dr_on ho', next_other hv hc0 ho]
      exact ih
    · rw [dr_off ho]
      refine ⟨fun hcv => ?_, fun e => ?_⟩
      · exact dr_off (fun h => ho ((on_other hv hc0 hcv).1 h)) _
      · subst e
        rw [dr_on (on_bound hv hyv), sx_set hv, set_getD hv, if_pos rfl, ← sx_set hv]
        exact dr_off (fun h => hy ((on_other hv hy0 hyv).1 h)) _
/-- a heap of good cells, all rows of references end -/
structure GH (l : List Int) (B : Nat → Prop) : Prop where
  w : WT l B
  hl : l.length ≤ 1048576
  ends : ∀ c, TO l B c → ¬ on l (dr l l.length c)
theorem Gr.back (g : Gr l B l' B) (h : l'.length = l.length) : Gr l' B l B := ⟨by omega, fun _ _ => Iff.rfl, fun q hq hb => (g.v q (by omega) hb).symm⟩
theorem isV_place (hl : l.length ≤ 1048576) (hv : isV l v = true) (ht : TO l B v) : ∃ p : Nat, v = (p : Int) * 8 ∧ p < l.length ∧ ¬ B p := ht.ref hl (isV_gb hv).1
theorem GH.bound (g : GH l B) (hv : isV l v = true) (hvt : TO l B v) (hy : ¬ on l y) (hyt : TO l B y) (hyv : y ≠ v) :
    GH (sx l (v / 8) y) B ∧ Gr l B (sx l (v / 8) y) B ∧ ∀ c, TO l B c → dr (sx l (v / 8) y) (sx l (v / 8) y).length c = if dr l l.length c = v then y else dr l l.length c := by
  obtain ⟨p, h1, h2, h3⟩ := isV_place g.hl hv hvt
  have e : sx l (v / 8) y = l.set p y := by rw [sx_set hv]; congr 1; omega
  obtain ⟨w2, gr⟩ := set_cell g.w h2 h3 hyt
  rw [← e] at w2 gr
  have hyw := (hyt.w g.hl)
  have hyo : ¬ on (sx l (v / 8) y) y := fun h => hy ((on_other hv hyw.1 hyv).1 h)
  have hd : ∀ c, TO l B c → dr (sx l (v / 8) y) (sx l (v / 8) y).length c = if dr l l.length c = v then y else dr l l.length c := by
    intro c hc
    have hs := steps g.w g.hl hv hy hyw.1 hyv l.length c hc (g.ends c hc)
    rw [sx_len]
    by_cases e : dr l l.length c = v
    · rw [if_pos e]
      have h1 := hs.2 e
      have h2 := within w2 (by rw [sx_len]; exact g.hl) c (hc.gr gr) (l.length + 1) (by rw [h1]; exact hyo)
      rw [sx_len] at h2
      rw [← dr_end h2 (Nat.le_succ _)]; exact h1
    · rw [if_neg e]; exact hs.1 e
  refine ⟨⟨w2, by rw [sx_len]; exact g.hl, fun c hc => ?_⟩, gr, hd⟩
  have hc := hc.gr (gr.back (sx_len _ _ _))
  rw [hd c hc]
  split
  · exact hyo
  · rename_i e
    exact fun h => g.ends c hc ((on_other hv ((dr_to g.w g.hl _ c hc).w g.hl).1 e).1 h)
theorem GH.laid {s : S} (st : ST s B) (hl : s.h.length ≤ 1048576) : GH s.h B := by
  refine ⟨st.w, hl, fun c hc => ?_⟩
  by_cases h8 : c % 8 = 0
  · obtain ⟨p, h1, h2, h3⟩ := hc.ref hl h8
    have e : (c / 8).toNat = p := by omega
    by_cases ho : on s.h c
    · obtain ⟨n, hn⟩ : ∃ n, s.h.length = n + 1 := ⟨s.h.length - 1, by omega⟩
      rw [hn, dr_on ho, e]
      have hne := ho.2.2
      rw [e] at hne
      have hoff : ¬ on s.h (s.h.getD p 0) := by
        intro h
        rcases st.f p h2 h3 h.1 with h4 | ⟨x, hx, hxe⟩
        · exact hne (by rw [h4]; exact h1.symm)
        · obtain ⟨q, q1, q2, q3, q4⟩ := st.v x hx
          rw [← hxe, q1] at h
          have : ((q : Int) * 8 / 8).toNat = q := by omega
          exact h.2.2 (by rw [this]; exact q4)
      rw [dr_off hoff]; exact hoff
    · rw [dr_off ho]; exact ho
  · have ho : ¬ on s.h c := fun h => h8 h.1
    rw [dr_off ho]; exact ho
/-! ### nodes -/
theorem nd_at (g : GH l B) (h : TO l B c) (ho : ¬ on l c) :
    (nd l c).ok = true ∧ ((nd l c).k = 1 ↔ isV l c = true) ∧ ((nd l c).k = 1 ↔ c % 8 = 0) ∧ ((nd l c).k = 5 → ∃ p n : Nat, (nd l c).f = (p : Int) + 1 ∧ (nd l c).a = (n : Int) ∧ p + n < l.length ∧ n ≤ 20 ∧ ∀ i, 1 ≤ i → i ≤ n → ¬ B (p + i)) := by
  have hl := g.hl
  rcases h with ⟨p, h1, h2, h3⟩ | ⟨p, n, j, h1, h2, h3, h4, h5, h6, h7, h8⟩ | h | ⟨p, h1, h2, h3⟩ | ⟨p, h1, h2, h3, h4⟩
  · have hV : isV l c = true := by
      unfold isV
      have e : c / 8 = (p : Int) := by omega
      have e2 : (c / 8).toNat = p := by omega
      rw [decide_eq_true (show c % 8 = 0 by omega), e, gbD h2, gvD]
      have : l.getD p 0 = c := Classical.byContradiction fun hn => ho ⟨by omega, by omega, by rw [e2]; exact hn⟩
      rw [this]; simp
    have hn : nd l c = ⟨1, 0, 0, 0, 0, true⟩ := by unfold nd; rw [if_pos (by omega), hV]
    rw [hn]
    exact ⟨rfl, by simp [hV], ⟨fun _ => by omega, fun _ => rfl⟩, fun h => by simp at h⟩
  · obtain ⟨e1, e2⟩ := jn_at (t := 1) (by omega) (by omega) p (by omega)
    obtain ⟨f1, f2⟩ := jn6 h5 h3 h4
    have hn : nd l c = ⟨5, jn 6 ((j : Int) * 256 + n), 0, (p : Int) + 1, (n : Int), true⟩ := by
      unfold nd
      rw [h1, if_neg (by omega), if_pos e1, e2]
      unfold cn
      rw [gvD, h6, f1, f2, if_pos (show fo (j : Int) (n : Int) = true from decide_eq_true ⟨by omega, by omega, by omega, by omega⟩), show (p : Int) + (n : Int) = ((p + n : Nat) : Int) by omega, gbD h2]
    have hnV : ¬ isV l c = true := fun h => by have := (isV_gb h).1; rw [h1] at this; omega
    rw [hn]
    exact ⟨rfl, by simp [hnV], by rw [h1, e1]; simp, fun _ => ⟨p, n, rfl, rfl, h2, h4, h8⟩⟩
  · have hnV : ¬ isV l c = true := fun hV => by have := (isV_gb hV).1; omega
    rcases h.1 with h | h
    · have hn : nd l c = ⟨2, c / 8, 0, 0, 0, true⟩ := by unfold nd; rw [if_neg (by omega), if_neg (by omega), if_pos h]
      rw [hn]; exact ⟨rfl, by simp [hnV], by simp; omega, fun h => by simp at h⟩
    · have hn : nd l c = ⟨3, IntKind.u64.wrap (sg c), 0, 0, 0, true⟩ := by unfold nd; rw [if_neg (by omega), if_neg (by omega), if_neg (by omega), if_pos h]
      rw [hn]; exact ⟨rfl, by simp [hnV], by simp; omega, fun h => by simp at h⟩
  · obtain ⟨e1, e2⟩ := jn_at (t := 4) (by omega) (by omega) p (by omega)
    have hnV : ¬ isV l c = true := fun h => by have := (isV_gb h).1; rw [h1] at this; omega
    have hn : nd l c = ⟨3, gv l (p : Int), 0, 0, 0, true⟩ := by unfold nd; rw [h1, if_neg (by omega), if_neg (by omega), if_neg (by omega), if_neg (by omega), if_pos e1, e2, gbD h2]
    rw [hn]; exact ⟨rfl, by simp [hnV], by rw [h1, e1]; simp, fun h => by simp at h⟩
  · obtain ⟨e1, e2⟩ := jn_at (t := 5) (by omega) (by omega) p (by omega)
    have hnV : ¬ isV l c = true := fun h => by have := (isV_gb h).1; rw [h1] at this; omega
    have hn : nd l c = ⟨4, gv l (p : Int), gv l ((p : Int) + 1), 0, 0, true⟩ := by unfold nd; rw [h1, if_neg (by omega), if_neg (by omega), if_neg (by omega), if_neg (by omega), if_neg (by omega), if_pos e1, e2, show (p : Int) + 1 = ((p + 1 : Nat) : Int) by omega, gbD h2]
    rw [hn]; exact ⟨rfl, by simp [hnV], by rw [h1, e1]; simp, fun h => by simp at h⟩
/-- what is no variable is the same in every later heap -/
theorem nd_gr (hl : l'.length ≤ 1048576) (h : TO l B c) (hc : c % 8 ≠ 0) (gr : Gr l B l' B') : nd l' c = nd l c := by
  have hle := gr.len
  rcases h with ⟨p, h1, _⟩ | ⟨p, n, j, h1, h2, h3, h4, h5, h6, h7, h8⟩ | h | ⟨p, h1, h2, h3⟩ | ⟨p, h1, h2, h3, h4⟩
  · omega
  · obtain ⟨e1, e2⟩ := jn_at (t := 1) (by omega) (by omega) p (by omega)
    unfold nd
    rw [h1, if_neg (by omega), if_pos e1, if_neg (by omega), if_pos e1, e2]
    unfold cn
    obtain ⟨f1, f2⟩ := jn6 h5 h3 h4
    rw [gvD, gvD, gr.v p (by omega) h7, h6, f1, f2, show (p : Int) + (n : Int) = ((p + n : Nat) : Int) by omega, gbD h2, gbD (show p + n < l'.length by omega)]
  · unfold nd
    rcases h.1 with h | h
    · rw [if_neg (by omega), if_neg (by omega), if_pos h, if_neg (by omega), if_neg (by omega), if_pos h]
    · rw [if_neg (by omega), if_neg (by omega), if_neg (by omega), if_pos h, if_neg (by omega), if_neg (by omega), if_neg (by omega), if_pos h]
  · obtain ⟨e1, e2⟩ := jn_at (t := 4) (by omega) (by omega) p (by omega)
    unfold nd
    rw [h1, if_neg (by omega), if_neg (by omega), if_neg (by omega), if_neg (by omega), if_pos e1, if_neg (by omega), if_neg (by omega), if_neg (by omega), if_neg (by omega), if_pos e1, e2, gvD, gvD, gr.v p h2 h3, gbD h2, gbD (show p < l'.length by omega)]
  · obtain ⟨e1, e2⟩ := jn_at (t := 5) (by omega) (by omega) p (by omega)
    unfold nd
    rw [h1, if_neg (by omega), if_neg (by omega), if_neg (by omega), if_neg (by omega), if_neg (by omega), if_pos e1, if_neg (by omega), if_neg (by omega), if_neg (by omega), if_neg (by omega), if_neg (by omega), if_pos e1, e2, show (p : Int) + 1 = ((p + 1 : Nat) : Int) by omega, gvD, gvD, gvD, gvD, gr.v p (by omega) h3, gr.v _ h2 h4, gbD h2, gbD (show p + 1 < l'.length by omega)]
end
end Go.Proofs.Ythableojkjhicaa.unw
