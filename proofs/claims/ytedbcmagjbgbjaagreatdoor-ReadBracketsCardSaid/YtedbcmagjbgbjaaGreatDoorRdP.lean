/- The project's reader, the mathematics: what stands behind a whole term makes no difference, nor does its place, nor its level. -/
import Derived.Test.YtedbcmagjbgbjaaGreatDoorRdO
namespace Go.Proofs.YtedbcmagjbgbjaaGreatDoor.rd
open Go.Proofs.YtedbcmagjbgbjaaGreatDoor.tk
set_option linter.unusedVariables false
/-- the same token further on -/
def sh (d : Nat) (t : Tk) : Tk := ⟨t.k, t.t, t.n, t.re, t.im, t.a + d⟩
def noEnd (a : List Tk) : Prop := ∀ t ∈ a, t.k ≠ 8
section
variable {e e' : Tk} {A B : List Tk} {d N N' m : Nat} {O : OT} {rec rec' : Rec}
/-- a token that ends a term -/
def Stop (e : Tk) : Prop := e.k = 8 ∨ (e.k = 6 ∧ e.t = [41])
theorem Stop.p (h : Stop e) {c : UInt8} (hc : c ≠ 41) : isP e c = false := by
  unfold isP
  rcases h with h | ⟨h, h2⟩
  · simp [h]
  · simp [h, h2, Ne.symm hc]
theorem Stop.x (h : Stop e) : infx O e = false := by
  unfold infx
  rw [h.p (by decide)]
  rcases h with h | ⟨h, -⟩ <;> simp [h]
theorem Stop.s (h : Stop e) : shuts e = true := by
  unfold shuts
  rcases h with h | ⟨h, h2⟩
  · simp [h]
  · simp [h, h2]
theorem isP8 (h : e.k = 8) (c : UInt8) : isP e c = false := by simp [isP, h]
/-- what the one reads to the stop the other reads as far, from another level -/
def Sim (e e' : Tk) (A B : List Tk) (d : Nat) (rec rec' : Rec) (m : Nat) : Prop :=
  ∀ most l1 l2 a ns v r n, a.length < m → noEnd a → l2 + a.length ≤ 2000 → rec most l1 (a ++ e :: A) ns = .ok v r n →
    ∃ b, b <:+ a ∧ b.length < a.length ∧ r = b ++ e :: A ∧ rec' most l2 (a.map (sh d) ++ e' :: B) ns = .ok v (b.map (sh d) ++ e' :: B) n
theorem noEnd.suf {a b : List Tk} (h : noEnd a) (hb : b <:+ a) : noEnd b := fun t ht => h t (hb.subset ht)
theorem isP_sh {t : Tk} {c : UInt8} : isP (sh d t) c = isP t c := rfl
theorem infx_sh {t : Tk} : infx O (sh d t) = infx O t := rfl
theorem row_sim (he : e.k = 8) (he' : Stop e') (hS : Sim e e' A B d rec rec' m) {l1 l2 : Nat} : ∀ f f2 acc a ns l r n, a.length < m → a.length < f2 → noEnd a → l2 + a.length ≤ 2000 → row N rec l1 f acc (a ++ e :: A) ns = .ok l r n →
    ∃ b, b <:+ a ∧ b.length < a.length ∧ r = b ++ e :: A ∧ row N' rec' l2 f2 acc (a.map (sh d) ++ e' :: B) ns = .ok l (b.map (sh d) ++ e' :: B) n := by
  intro f
  induction f with
  | zero => intro f2 acc a ns l r n _ _ _ _ h; cases h
  | succ f ih =>
    intro f2 acc a ns l r n hm hf hn hl h
    obtain ⟨f2, rfl⟩ : ∃ q, f2 = q + 1 := ⟨f2 - 1, by omega⟩
    obtain ⟨t, r1, n1, hx, -⟩ := PR.bind_ok h
    obtain ⟨b, hb, hbl, rfl, hx'⟩ := hS _ _ l2 _ _ _ _ _ hm hn hl hx
    cases b with
    | nil =>
      rw [row_end hx (isP8 he 44)] at h
      cases h
      exact ⟨[], hb, hbl, rfl, row_end hx' (he'.p (by decide))⟩
    | cons u s =>
      cases hp : isP u 44 with
      | true =>
        rw [row_ok hx hp] at h
        have hs : s <:+ a := (List.suffix_cons u s).trans hb
        simp only [List.length_cons] at hbl
        obtain ⟨c, hc, hcl, rfl, hy⟩ := ih f2 _ s _ _ _ _ (by omega) (by omega) (hn.suf hs) (by omega) h
        exact ⟨c, hc.trans hs, by omega, rfl, (row_ok hx' hp).trans hy⟩
      | false =>
        rw [row_end hx hp] at h
        cases h
        exact ⟨u :: s, hb, hbl, rfl, row_end hx' hp⟩
theorem shut_sim {α β : Type} (he : e.k = 8) {c : UInt8} {f : α → β} {x x' : PR α} {v : β} {r : List Tk} {n : Names} {a : List Tk} (hx : ∀ v r n, x = .ok v r n → ∃ b, b <:+ a ∧ b.length < a.length ∧ r = b ++ e :: A ∧ x' = .ok v (b.map (sh d) ++ e' :: B) n)
    (h : shut N c f x = .ok v r n) : ∃ b, b <:+ a ∧ b.length < a.length ∧ r = b ++ e :: A ∧ shut N' c f x' = .ok v (b.map (sh d) ++ e' :: B) n := by
  obtain ⟨y, t, h1, h2, rfl⟩ := shut_ok h
  obtain ⟨b, hb, hbl, hr, hx'⟩ := hx _ _ _ h1
  cases b with
  | nil => cases hr; rw [isP8 he] at h2; cases h2
  | cons u s =>
    cases hr
    refine ⟨s, (List.suffix_cons _ _).trans hb, by simp at hbl; omega, rfl, ?_⟩
    rw [hx']
    unfold shut PR.bind
    simp only [List.map_cons, List.cons_append, see_cons, isP_sh, h2]
    rfl
theorem list_sim (he : e.k = 8) (he' : Stop e') (hS : Sim e e' A B d rec rec' m) {l1 l2 : Nat} {a : List Tk} {ns : Names} {v : Tm} {r : List Tk} {n : Names} (hm : a.length < m) (hn : noEnd a) (hl : l2 + a.length ≤ 2000) (h : list N rec l1 (a ++ e :: A) ns = .ok v r n) :
    ∃ b, b <:+ a ∧ b.length < a.length ∧ r = b ++ e :: A ∧ list N' rec' l2 (a.map (sh d) ++ e' :: B) ns = .ok v (b.map (sh d) ++ e' :: B) n := by
  have rest (hp1 : isP (see N (a ++ e :: A) 0) 93 = false) (hp2 : isP (see N' (a.map (sh d) ++ e' :: B) 0) 93 = false) :
      ∃ b, b <:+ a ∧ b.length < a.length ∧ r = b ++ e :: A ∧ list N' rec' l2 (a.map (sh d) ++ e' :: B) ns = .ok v (b.map (sh d) ++ e' :: B) n := by
    obtain ⟨l, r1, n1, hx⟩ := list_row hp1 h
    obtain ⟨b, hb, hbl, rfl, hx'⟩ := row_sim (N' := N') he he' hS _ ((a.map (sh d) ++ e' :: B).length + 1) _ _ _ _ _ _ hm (by simp; omega) hn hl hx
    cases b with
    | nil =>
      rw [list_no hp1 hx (isP8 he 124)] at h
      obtain ⟨y, t, h3, h4, -⟩ := shut_ok h
      cases h3
      rw [isP8 he] at h4; cases h4
    | cons u s =>
      have hs : s <:+ a := (List.suffix_cons u s).trans hb
      simp only [List.length_cons] at hbl
      cases hp : isP u 124 with
      | true =>
        rw [list_bar hp1 hx hp] at h
        obtain ⟨c, hc, hcl, hr, hy⟩ := shut_sim (N' := N') (a := s) (d := d) he (fun v r n hv => hS _ _ l2 _ _ _ _ _ (by omega) (hn.suf hs) (by omega) hv) h
        exact ⟨c, hc.trans hs, by omega, hr, (list_bar hp2 hx' hp).trans hy⟩
      | false =>
        rw [list_no hp1 hx hp] at h
        obtain ⟨y, t, h3, h4, rfl⟩ := shut_ok h
        cases h3
        exact ⟨s, hs, by omega, rfl, (list_no hp2 hx' hp).trans (shut_is (N := N') h4)⟩
  cases a with
  | nil => exact rest (isP8 he 93) (he'.p (by decide))
  | cons u s =>
    cases hp : isP u 93 with
    | true =>
      rw [list_nil (N := N) (ts := u :: s ++ e :: A) hp] at h
      cases h
      exact ⟨s, List.suffix_cons _ _, by simp, rfl, list_nil (N := N') (ts := (u :: s).map (sh d) ++ e' :: B) hp⟩
    | false => exact rest hp hp
theorem begs_sim {most : Int} {t : Tk} {s : List Tk} (he : e.k = 8) (he' : Stop e') : begs true O N most (t :: s ++ e :: A) = begs true O N' most ((t :: s).map (sh d) ++ e' :: B) := by
  have h7 : e'.k ≠ 7 ∧ e'.k ≠ 4 := by rcases he' with h | ⟨h, -⟩ <;> omega
  have hs : shuts e = true := Stop.s (Or.inl he)
  cases s with
  | nil =>
    unfold begs atomB
    simp only [List.cons_append, List.nil_append, List.map_cons, List.map_nil, see_cons, see_cons1, sh, he, hs, he'.s, h7.1, h7.2]
    simp
    rfl
  | cons b q =>
    have ha : (sh d b).a = (sh d t).a + 1 ↔ b.a = t.a + 1 := by unfold sh; dsimp only; omega
    have e0 : alone true O N (t :: b :: (q ++ e :: A)) = alone true O N' (sh d t :: sh d b :: (q.map (sh d) ++ e' :: B)) := rfl
    unfold begs atomB
    simp only [List.cons_append, List.map_cons, see_cons, see_cons1, ha, e0]
    rfl
theorem begs_tok {most : Int} {t : Tk} {A : List Tk} (he : e.k = 8) (h : (begs true O N most (t :: e :: A)).1 = 2 ∨ (begs true O N most (t :: e :: A)).1 = 3) : False := by
  have hs : shuts e = true := Stop.s (Or.inl he)
  have : (begs true O N most (t :: e :: A)).1 ≠ 2 ∧ (begs true O N most (t :: e :: A)).1 ≠ 3 := by
    have e1 : atomB true O N most (t :: e :: A) = (1, 0) := by
      unfold atomB
      simp only [see_cons, see_cons1, he, hs]
      simp
    show (if t.k = 1 ∨ t.k = 2 then atomB true O N most (t :: e :: A) else if t.k = 3 ∨ t.k = 5 then (1, 0) else if t.k = 4 then (if 0 ≤ t.n then (1, 0) else (0, 0)) else if t.k = 7 then (5, 0) else if t.k = 6 then (if t.t = [40] then (5, 0) else if t.t = [91] then (6, 0) else (0, 0)) else ((0, 0) : Int × Int)).1 ≠ 2 ∧ (if t.k = 1 ∨ t.k = 2 then atomB true O N most (t :: e :: A) else if t.k = 3 ∨ t.k = 5 then (1, 0) else if t.k = 4 then (if 0 ≤ t.n then (1, 0) else (0, 0)) else if t.k = 7 then (5, 0) else if t.k = 6 then (if t.t = [40] then (5, 0) else if t.t = [91] then (6, 0) else (0, 0)) else ((0, 0) : Int × Int)).1 ≠ 3
    rw [e1]
    by_cases g1 : t.k = 1 ∨ t.k = 2
    · rw [if_pos g1]; exact ⟨by decide, by decide⟩
    rw [if_neg g1]
    by_cases g2 : t.k = 3 ∨ t.k = 5
    · rw [if_pos g2]; exact ⟨by decide, by decide⟩
    rw [if_neg g2]
    by_cases g3 : t.k = 4
    · rw [if_pos g3]; by_cases g : 0 ≤ t.n
      · rw [if_pos g]; exact ⟨by decide, by decide⟩
      · rw [if_neg g]; exact ⟨by decide, by decide⟩
    rw [if_neg g3]
    by_cases g4 : t.k = 7
    · rw [if_pos g4]; exact ⟨by decide, by decide⟩
    rw [if_neg g4]
    by_cases g5 : t.k = 6
    · rw [if_pos g5]; by_cases g : t.t = [40]
      · rw [if_pos g]; exact ⟨by decide, by decide⟩
      · rw [if_neg g]
        by_cases g : t.t = [91]
        · rw [if_pos g]; exact ⟨by decide, by decide⟩
        · rw [if_neg g]; exact ⟨by decide, by decide⟩
    rw [if_neg g5]; exact ⟨by decide, by decide⟩
  omega
theorem goOn_sim (he : e.k = 8) (he' : Stop e') (hS : Sim e e' A B d rec rec' m) {most : Int} {l1 l2 : Nat} : ∀ f f2 left pr a ns v r n, a.length ≤ m → a.length < f2 → noEnd a → l2 + a.length ≤ 2000 → goOn O N rec most l1 f left pr (a ++ e :: A) ns = .ok v r n →
    ∃ b, b <:+ a ∧ r = b ++ e :: A ∧ goOn O N' rec' most l2 f2 left pr (a.map (sh d) ++ e' :: B) ns = .ok v (b.map (sh d) ++ e' :: B) n := by
  intro f
  induction f with
  | zero => intro f2 left pr a ns v r n _ _ _ _ h; cases h
  | succ f ih =>
    intro f2 left pr a ns v r n hm hf hn hl h
    obtain ⟨f2, rfl⟩ : ∃ q, f2 = q + 1 := ⟨f2 - 1, by omega⟩
    cases a with
    | nil =>
      rw [goOn_end (fun h => by have := h.1; rw [show see N ([] ++ e :: A) 0 = e from rfl, Stop.x (O := O) (Or.inl he)] at this; cases this)] at h
      cases h
      exact ⟨[], List.suffix_refl _, rfl, goOn_end (fun h => by have := h.1; rw [show see N' (([] : List Tk).map (sh d) ++ e' :: B) 0 = e' from rfl, he'.x] at this; cases this)⟩
    | cons u s =>
      simp only [List.length_cons] at hm hf hl
      by_cases hp : infx O u = true ∧ (O.di u.t).p ≤ most ∧ pr ≤ bnd (O.di u.t) 3
      · rw [goOn_on (ts := u :: s ++ e :: A) hp] at h
        obtain ⟨y, r1, n1, hx, h2⟩ := PR.bind_ok h
        have hns := hn.suf (List.suffix_cons u s)
        obtain ⟨b, hb, hbl, rfl, hx'⟩ := hS _ _ (l2 + 1) s _ _ _ _ (by omega) hns (by omega) hx
        obtain ⟨c, hc, rfl, hy⟩ := ih f2 _ _ b _ _ _ _ (by omega) (by omega) (hns.suf hb) (by omega) h2
        refine ⟨c, hc.trans (hb.trans (List.suffix_cons _ _)), rfl, ?_⟩
        rw [goOn_on (ts := (u :: s).map (sh d) ++ e' :: B) hp]
        have hx2 : rec' (bnd (O.di (see N' ((u :: s).map (sh d) ++ e' :: B) 0).t) 2) (l2 + 1) ((u :: s).map (sh d) ++ e' :: B).tail ns = _ := hx'
        rw [hx2]
        exact hy
      · rw [goOn_end (ts := u :: s ++ e :: A) hp] at h
        cases h
        exact ⟨u :: s, List.suffix_refl _, rfl, goOn_end (ts := (u :: s).map (sh d) ++ e' :: B) hp⟩
theorem whole_sh (t : Tk) (ns : Names) : whole (sh d t) ns = whole t ns := rfl
theorem first_sim (he : e.k = 8) (he' : Stop e') (hS : Sim e e' A B d rec rec' m) {a : Int} {l1 l2 : Nat} {t : Tk} {s : List Tk} {ns : Names} {v : Tm} {r : List Tk} {n : Names} (hm : s.length < m) (hn : noEnd s) (hl : l2 + 1 + s.length ≤ 2000)
    (ha : a = 2 ∨ a = 3 → s ≠ []) (h : first O N rec a l1 (t :: s ++ e :: A) ns = .ok v r n) :
    ∃ b, b <:+ s ∧ r = b ++ e :: A ∧ first O N' rec' a l2 ((t :: s).map (sh d) ++ e' :: B) ns = .ok v (b.map (sh d) ++ e' :: B) n := by
  unfold first at h ⊢
  simp only [List.cons_append, List.map_cons, see_cons, List.tail_cons] at h ⊢
  by_cases a2 : a = 2
  · rw [if_pos a2] at h ⊢
    cases s with
    | nil => exact absurd rfl (ha (Or.inl a2))
    | cons b q =>
      cases h
      exact ⟨q, List.suffix_cons _ _, rfl, rfl⟩
  rw [if_neg a2] at h ⊢
  by_cases a3 : a = 3
  · rw [if_pos a3] at h ⊢
    cases s with
    | nil => exact absurd rfl (ha (Or.inr a3))
    | cons b q =>
      simp only [List.cons_append, List.map_cons, List.tail_cons] at h ⊢
      simp only [List.length_cons] at hm hl
      have hq := hn.suf (List.suffix_cons b q)
      obtain ⟨c, hc, hcl, hr, hy⟩ := shut_sim (N' := N') (a := q) (d := d) (e' := e') (B := B) he (fun v r n hv => row_sim (N' := N') (l2 := l2 + 1) he he' hS _ ((sh d t :: sh d b :: (q.map (sh d) ++ e' :: B)).length + 1) _ _ _ _ _ _ (by omega) (by simp; omega) hq (by omega) hv) h
      exact ⟨c, hc.trans (List.suffix_cons _ _), hr, hy⟩
  rw [if_neg a3] at h ⊢
  by_cases a4 : a = 4
  · rw [if_pos a4] at h ⊢
    obtain ⟨y, r1, n1, hx, h2⟩ := PR.bind_ok h
    obtain ⟨b, hb, hbl, rfl, hx'⟩ := hS _ _ (l2 + 1) _ _ _ _ _ hm hn (by omega) hx
    have hx2 : rec' (bnd (O.dp (sh d t).t) 4) (l2 + 1) (s.map (sh d) ++ e' :: B) ns = _ := hx'
    rw [hx2]
    cases h2
    exact ⟨b, hb, rfl, rfl⟩
  rw [if_neg a4] at h ⊢
  by_cases a5 : a = 5
  · rw [if_pos a5] at h ⊢
    obtain ⟨c, hc, hcl, hr, hy⟩ := shut_sim (N' := N') (a := s) (d := d) (e' := e') (B := B) he (fun v r n hv => hS _ _ (l2 + 1) _ _ _ _ _ hm hn (by omega) hv) h
    exact ⟨c, hc, hr, hy⟩
  rw [if_neg a5] at h ⊢
  by_cases a6 : a = 6
  · rw [if_pos a6] at h ⊢
    obtain ⟨c, hc, hcl, hr, hy⟩ := list_sim (N' := N') (l2 := l2 + 1) he he' hS hm hn (by omega) h
    exact ⟨c, hc, hr, hy⟩
  rw [if_neg a6] at h ⊢
  rw [whole_sh]
  cases h
  exact ⟨s, List.suffix_refl _, rfl, rfl⟩
theorem step_sim (he : e.k = 8) (he' : Stop e') (hS : Sim e e' A B d rec rec' m) : Sim e e' A B d (step true O N rec) (step true O N' rec') (m + 1) := by
  intro most l1 l2 a ns v r n hm hn hl h
  cases a with
  | nil =>
    exfalso
    have hb : begs true O N most ([] ++ e :: A) = (0, 0) := by
      unfold begs
      simp [see_cons, he]
    unfold step at h
    simp only [hb] at h
    rw [if_pos (Or.inl trivial)] at h
    cases h
  | cons t s =>
    have hb := begs_sim (O := O) (N := N) (N' := N') (A := A) (B := B) (d := d) (most := most) (t := t) (s := s) he he'
    have hnz : (begs true O N most (t :: s ++ e :: A)).1 = 2 ∨ (begs true O N most (t :: s ++ e :: A)).1 = 3 → s ≠ [] := by
      rintro h rfl; exact begs_tok he h
    unfold step at h ⊢
    dsimp only at h ⊢
    rw [← hb]
    generalize begs true O N most (t :: s ++ e :: A) = bb at h hnz ⊢
    simp only [List.length_cons] at hm hl
    split at h
    · cases h
    · rename_i h1
      rw [if_neg h1]
      split at h
      · cases h
      · rename_i h2
        rw [if_neg (by omega)]
        obtain ⟨y, r1, n1, hx, h3⟩ := PR.bind_ok h
        obtain ⟨b, hb2, rfl, hx'⟩ := first_sim (N' := N') (l2 := l2) he he' hS (by omega) (hn.suf (List.suffix_cons t s)) (by omega) hnz hx
        rw [hx']
        simp only [PR.bind]
        have hbl := hb2.length_le
        obtain ⟨c, hc, rfl, hy⟩ := goOn_sim (N' := N') (l2 := l2) he he' hS _ (((t :: s).map (sh d) ++ e' :: B).length + 1) _ _ b _ _ _ _ (by omega) (by simp; omega) ((hn.suf (List.suffix_cons t s)).suf hb2) (by omega) h3
        exact ⟨c, hc.trans (hb2.trans (List.suffix_cons _ _)), by have := hc.length_le; simp only [List.length_cons]; omega, rfl, hy⟩
theorem term_sim (he : e.k = 8) (he' : Stop e') : ∀ f f', Sim e e' A B d (term true O N f) (term true O N' f') f' := by
  intro f
  induction f with
  | zero => intro f' most l1 l2 a ns v r n _ _ _ h; cases h
  | succ f ih =>
    intro f'
    cases f' with
    | zero => intro most l1 l2 a ns v r n h; omega
    | succ f' => exact step_sim he he' (ih f')
end
end Go.Proofs.YtedbcmagjbgbjaaGreatDoor.rd
