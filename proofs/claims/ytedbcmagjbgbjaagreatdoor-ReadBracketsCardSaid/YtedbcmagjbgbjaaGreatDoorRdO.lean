/- The project's reader, the mathematics: what is left is a part of what there was; each term takes a token. -/
import Derived.Test.YtedbcmagjbgbjaaGreatDoorRdI
namespace Go.Proofs.YtedbcmagjbgbjaaGreatDoor.rd
open Go.Proofs.YtedbcmagjbgbjaaGreatDoor.tk
set_option linter.unusedVariables false
theorem PR.bind_ok {α β : Type} {x : PR α} {f : α → List Tk → Names → PR β} {v : β} {r : List Tk} {n : Names} (h : x.bind f = .ok v r n) : ∃ a r1 n1, x = .ok a r1 n1 ∧ f a r1 n1 = .ok v r n := by
  cases x with
  | er => cases h
  | ok a r1 n1 => exact ⟨a, r1, n1, rfl, h⟩
theorem see_cons {N : Nat} {t : Tk} {ts : List Tk} : see N (t :: ts) 0 = t := rfl
theorem see_cons1 {N : Nat} {t u : Tk} {ts : List Tk} : see N (t :: u :: ts) 1 = u := rfl
theorem isP_cons {N : Nat} {r : List Tk} {c : UInt8} (h : isP (see N r 0) c = true) : ∃ t s, r = t :: s ∧ isP t c = true := by
  cases r with
  | nil => simp [see, isP] at h
  | cons t s => exact ⟨t, s, rfl, h⟩
theorem shut_ok {α β : Type} {N : Nat} {c : UInt8} {f : α → β} {x : PR α} {v : β} {r : List Tk} {n : Names} (h : shut N c f x = .ok v r n) :
    ∃ a t, x = .ok a (t :: r) n ∧ isP t c = true ∧ v = f a := by
  obtain ⟨a, r1, n1, hx, h2⟩ := PR.bind_ok h
  split at h2
  · rename_i hp
    cases h2
    obtain ⟨t, s, rfl, ht⟩ := isP_cons hp
    exact ⟨a, t, hx, ht, rfl⟩
  · cases h2
/-- what is left is what there was, but for one or more tokens at the head -/
def Part (r ts : List Tk) : Prop := r <:+ ts ∧ r.length < ts.length
def Parts (rec : Rec) : Prop := ∀ most level ts ns v r n, rec most level ts ns = .ok v r n → Part r ts
theorem Part.tail {r ts : List Tk} (h : Part r ts.tail) : Part r ts := by
  cases ts with
  | nil => exact h
  | cons t s => exact ⟨h.1.trans (List.suffix_cons _ _), by have := h.2; simp at *; omega⟩
theorem Part.cons {t : Tk} {r ts : List Tk} (h : Part (t :: r) ts) : Part r ts := ⟨(List.suffix_cons _ _).trans h.1, by have := h.2; simp at *; omega⟩
theorem Part.trans {r s ts : List Tk} (h : Part r s) (g : Part s ts) : Part r ts := ⟨h.1.trans g.1, Nat.lt_trans h.2 g.2⟩
theorem row_part {N : Nat} {rec : Rec} (hr : Parts rec) {level : Nat} : ∀ f acc ts ns l r n, row N rec level f acc ts ns = .ok l r n → Part r ts := by
  intro f
  induction f with
  | zero => intro acc ts ns l r n h; cases h
  | succ f ih =>
    intro acc ts ns l r n h
    obtain ⟨a, r1, n1, hx, h2⟩ := PR.bind_ok h
    have p1 := hr _ _ _ _ _ _ _ hx
    split at h2
    · rename_i hp
      obtain ⟨t, s, rfl, -⟩ := isP_cons hp
      exact (ih _ _ _ _ _ _ h2).trans p1.cons
    · cases h2; exact p1
theorem list_part {N : Nat} {rec : Rec} (hr : Parts rec) {level : Nat} {ts : List Tk} {ns : Names} {v : Tm} {r : List Tk} {n : Names} (h : list N rec level ts ns = .ok v r n) : Part r ts := by
  unfold list at h
  split at h
  · rename_i hp
    obtain ⟨t, s, rfl, -⟩ := isP_cons hp
    cases h
    exact ⟨List.suffix_cons _ _, by simp⟩
  · obtain ⟨a, r1, n1, hx, h2⟩ := PR.bind_ok h
    have p1 := row_part hr _ _ _ _ _ _ _ hx
    split at h2
    · rename_i hp
      obtain ⟨t, s, rfl, -⟩ := isP_cons hp
      obtain ⟨b, u, hy, -, -⟩ := shut_ok h2
      exact ((hr _ _ _ _ _ _ _ hy).cons.trans p1.cons)
    · obtain ⟨b, u, hy, -, -⟩ := shut_ok h2
      cases hy
      exact p1.cons
theorem begs_cons {x : Bool} {O : OT} {N : Nat} {most : Int} {ts : List Tk} (h : (begs x O N most ts).1 ≠ 0) : ∃ t s, ts = t :: s := by
  cases ts with
  | nil => exact absurd rfl h
  | cons t s => exact ⟨t, s, rfl⟩
theorem first_part {O : OT} {N : Nat} {rec : Rec} (hr : Parts rec) {a : Int} {level : Nat} {t : Tk} {ts : List Tk} {ns : Names} {v : Tm} {r : List Tk} {n : Names} (h : first O N rec a level (t :: ts) ns = .ok v r n) : Part r (t :: ts) := by
  have one : Part ts (t :: ts) := ⟨List.suffix_cons _ _, by simp⟩
  unfold first at h
  dsimp only [List.tail_cons] at h
  split at h
  · cases h
    exact ⟨(List.tail_suffix _).trans (List.suffix_cons _ _), by simp; omega⟩
  · split at h
    · obtain ⟨b, u, hy, -, -⟩ := shut_ok h
      exact (row_part hr _ _ _ _ _ _ _ hy).cons.tail.trans one
    · split at h
      · obtain ⟨b, r1, n1, hx, h2⟩ := PR.bind_ok h
        cases h2
        exact (hr _ _ _ _ _ _ _ hx).trans one
      · split at h
        · obtain ⟨b, u, hy, -, -⟩ := shut_ok h
          exact (hr _ _ _ _ _ _ _ hy).cons.trans one
        · split at h
          · exact (list_part hr h).trans one
          · cases h; exact one
theorem goOn_part {O : OT} {N : Nat} {rec : Rec} (hr : Parts rec) {most : Int} {level : Nat} : ∀ f left pr ts ns v r n, goOn O N rec most level f left pr ts ns = .ok v r n → r <:+ ts := by
  intro f
  induction f with
  | zero => intro left pr ts ns v r n h; cases h
  | succ f ih =>
    intro left pr ts ns v r n h
    unfold goOn at h
    dsimp only at h
    split at h
    · obtain ⟨a, r1, n1, hx, h2⟩ := PR.bind_ok h
      exact (ih _ _ _ _ _ _ _ h2).trans ((hr _ _ _ _ _ _ _ hx).1.trans (List.tail_suffix _))
    · cases h; exact List.suffix_refl _
theorem step_part {x : Bool} {O : OT} {N : Nat} {rec : Rec} (hr : Parts rec) : Parts (step x O N rec) := by
  intro most level ts ns v r n h
  unfold step at h
  dsimp only at h
  split at h
  · cases h
  · rename_i hb
    split at h
    · cases h
    · obtain ⟨a, r1, n1, hx, h2⟩ := PR.bind_ok h
      obtain ⟨t, s, rfl⟩ := begs_cons (fun e => hb (Or.inl e))
      have p1 := first_part hr hx
      have p2 := goOn_part hr _ _ _ _ _ _ _ _ h2
      exact ⟨p2.trans p1.1, Nat.lt_of_le_of_lt p2.length_le p1.2⟩
theorem term_part (x : Bool) (O : OT) (N : Nat) : ∀ f, Parts (term x O N f) := by
  intro f
  induction f with
  | zero => intro most level ts ns v r n h; cases h
  | succ f ih => exact step_part ih
theorem term_short (x : Bool) (O : OT) (N f : Nat) : Short (term x O N f) := fun most level ts ns v r n h => (term_part x O N f most level ts ns v r n h).2
theorem row_ok {N : Nat} {rec : Rec} {l f : Nat} {acc : List Tm} {ts r1 : List Tk} {ns n1 : Names} {t : Tm} (h : rec 999 l ts ns = .ok t r1 n1) (hp : isP (see N r1 0) 44 = true) : row N rec l (f + 1) acc ts ns = row N rec l f (acc ++ [t]) r1.tail n1 := by
  rw [row, h]; simp only [PR.bind]; rw [if_pos hp]
theorem row_end {N : Nat} {rec : Rec} {l f : Nat} {acc : List Tm} {ts r1 : List Tk} {ns n1 : Names} {t : Tm} (h : rec 999 l ts ns = .ok t r1 n1) (hp : isP (see N r1 0) 44 = false) : row N rec l (f + 1) acc ts ns = .ok (acc ++ [t]) r1 n1 := by
  rw [row, h]; simp only [PR.bind]; rw [if_neg (by rw [hp]; decide)]
theorem list_nil {N : Nat} {rec : Rec} {l : Nat} {ts : List Tk} {ns : Names} (h : isP (see N ts 0) 93 = true) : list N rec l ts ns = .ok listE ts.tail ns := by
  rw [list, if_pos h]
theorem list_bar {N : Nat} {rec : Rec} {l : Nat} {ts r1 : List Tk} {ns n1 : Names} {a : List Tm} (h : isP (see N ts 0) 93 = false) (hr : row N rec l (ts.length + 1) [] ts ns = .ok a r1 n1) (hp : isP (see N r1 0) 124 = true) :
    list N rec l ts ns = shut N 93 (listOf a) (rec 999 l r1.tail n1) := by
  rw [list, if_neg (by rw [h]; decide), hr]; simp only [PR.bind]; rw [if_pos hp]
theorem list_no {N : Nat} {rec : Rec} {l : Nat} {ts r1 : List Tk} {ns n1 : Names} {a : List Tm} (h : isP (see N ts 0) 93 = false) (hr : row N rec l (ts.length + 1) [] ts ns = .ok a r1 n1) (hp : isP (see N r1 0) 124 = false) :
    list N rec l ts ns = shut N 93 (fun _ => listOf a listE) (.ok () r1 n1) := by
  rw [list, if_neg (by rw [h]; decide), hr]; simp only [PR.bind]; rw [if_neg (by rw [hp]; decide)]
theorem list_row {N : Nat} {rec : Rec} {l : Nat} {ts r : List Tk} {ns n : Names} {v : Tm} (h : isP (see N ts 0) 93 = false) (hl : list N rec l ts ns = .ok v r n) : ∃ a r1 n1, row N rec l (ts.length + 1) [] ts ns = .ok a r1 n1 := by
  rw [list, if_neg (by rw [h]; decide)] at hl
  obtain ⟨a, r1, n1, hx, -⟩ := PR.bind_ok hl
  exact ⟨a, r1, n1, hx⟩
theorem shut_is {α β : Type} {N : Nat} {c : UInt8} {f : α → β} {v : α} {r : List Tk} {n : Names} (hp : isP (see N r 0) c = true) : shut N c f (.ok v r n) = .ok (f v) r.tail n := by
  unfold shut; simp only [PR.bind]; rw [if_pos hp]
theorem goOn_end {O : OT} {N : Nat} {rec : Rec} {most : Int} {l f : Nat} {left : Tm} {pr : Int} {ts : List Tk} {ns : Names} (h : ¬ (infx O (see N ts 0) = true ∧ (O.di (see N ts 0).t).p ≤ most ∧ pr ≤ bnd (O.di (see N ts 0).t) 3)) : goOn O N rec most l (f + 1) left pr ts ns = .ok left ts ns := by
  rw [goOn]; exact if_neg h
theorem goOn_on {O : OT} {N : Nat} {rec : Rec} {most : Int} {l f : Nat} {left : Tm} {pr : Int} {ts : List Tk} {ns : Names} (h : infx O (see N ts 0) = true ∧ (O.di (see N ts 0).t).p ≤ most ∧ pr ≤ bnd (O.di (see N ts 0).t) 3) :
    goOn O N rec most l (f + 1) left pr ts ns = (rec (bnd (O.di (see N ts 0).t) 2) (l + 1) ts.tail ns).bind fun v r n => goOn O N rec most l f (tm.comp (nm (O.di (see N ts 0).t).n) [left, v]) (O.di (see N ts 0).t).p r n := by
  rw [goOn]; exact if_pos h
theorem list_er {N : Nat} {rec : Rec} {l : Nat} {ts r1 : List Tk} {ns n1 : Names} {e : Int} (h : isP (see N ts 0) 93 = false) (hr : row N rec l (ts.length + 1) [] ts ns = .er e r1 n1) : list N rec l ts ns = .er e r1 n1 := by
  rw [list, if_neg (by rw [h]; decide), hr]; rfl
/-! ### the errors of a term are errors -/
def Errs (rec : Rec) : Prop := ∀ most level ts ns e r n, rec most level ts ns = .er e r n → e = 0 ∨ e = 2 ∨ e = 3
end Go.Proofs.YtedbcmagjbgbjaaGreatDoor.rd
