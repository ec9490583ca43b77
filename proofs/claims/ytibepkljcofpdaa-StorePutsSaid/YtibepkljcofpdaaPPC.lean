/- What is still to be laid, as a stack: the mathematics; a scope with two labels; the stack in memory. -/
import Derived.Test.YtibepkljcofpdaaPPB
import Derived.Test.YtibepkljcofpdaaRow
import Derived.Test.YtibepkljcofpdaaRPutE
import Derived.ScopeJumps
namespace Go.Proofs.Ytibepkljcofpdaa.ppt
set_option linter.unusedVariables false
open Go.ChangeShapes Go.WideShapes Go.ChangeAt Go.RowKit Go.Maps
open Go.Proofs.Ytibepkljcofpdaa.hp Go.Proofs.Ytibepkljcofpdaa.cel Go.Proofs.Ytibepkljcofpdaa.kp Go.Proofs.Ytibepkljcofpdaa.ob Go.Proofs.Ytibepkljcofpdaa.pm Go.Proofs.Ytibepkljcofpdaa.tm Go.Proofs.Ytibepkljcofpdaa.lie
open Go.Proofs.Ytibepkljcofpdaa.atm (nv ne nx Tab)
/-- a node that is laid but for some arguments: its cell, where it goes, these, the first one's cell -/
abbrev Fm := Int × Int × List Tm × Nat
def fin (m : Int) : List Fm → S → Int × Int × S
  | [], s => (0, 0, s)
  | f :: r, s => match putL m f.2.2.1 f.2.2.2 s with
    | (e, s') => if e = 0 then (if f.2.1 = -1 then (f.1, 0, s') else fin m r ⟨s'.h.set f.2.1.toNat f.1, s'.a, s'.v⟩) else (0, e, s')
def dn (m : Int) (t : Tm) (own : Int) (r : List Fm) (s : S) : Int × Int × S :=
  match put m t own s with
    | (c, e, s') => if e = 0 then (if own = -1 then (c, 0, s') else fin m r ⟨s'.h.set own.toNat c, s'.a, s'.v⟩) else (0, e, s')
def kidsT : Tm → List Tm | .mk k _ _ _ _ l => if k = 5 then l else []
theorem kids5 {n : ByteArray} {i re im : Int} {l : List Tm} : kidsT (.mk 5 n i re im l) = l := by rw [kidsT, if_pos rfl]
theorem kidsN {k : Int} (h : ¬ k = 5) {n : ByteArray} {i re im : Int} {l : List Tm} : kidsT (.mk k n i re im l) = [] := by rw [kidsT, if_neg h]
theorem fin_cons (m : Int) (c own : Int) (l : List Tm) (x : Nat) (r : List Fm) (s : S) : fin m ((c, own, l, x) :: r) s = (match putL m l x s with
    | (e, s') => if e = 0 then (if own = -1 then (c, 0, s') else fin m r ⟨s'.h.set own.toNat c, s'.a, s'.v⟩) else (0, e, s')) := by rw [fin]
theorem dn_nil (m : Int) (t : Tm) (s : S) : dn m t (-1) [] s = put m t (-1) s := by
  unfold dn
  have hz := rpt.put_zero m t (-1) s
  revert hz
  generalize put m t (-1) s = P
  obtain ⟨c, e, s'⟩ := P
  intro hz
  dsimp only at hz ⊢
  by_cases he : e = 0
  · rw [if_pos he, if_pos rfl, he]
  · rw [if_neg he, hz he]
theorem put_leaf (m : Int) {k : Int} (n : ByteArray) (i re im : Int) (l : List Tm) (own : Int) (s : S) (hk : k = 1 ∨ k = 2 ∨ k = 3 ∨ k = 4) : put m (.mk k n i re im l) own s = put m (.mk k n i re im []) own s := by
  rcases hk with rfl | rfl | rfl | rfl
  · rw [put, put]; rfl
  · rw [put, put]; rfl
  · rw [put, put]; rfl
  · rw [put, put]; rfl
theorem dn_step (m : Int) (t : Tm) (own : Int) (r : List Fm) (s : S) (hs : sound t = true) (ha : s.a.length < 4096) (hh : (s.h.length : Int) ≤ 1048576) {c e : Int} {s1 : S} (h : nodeM m t own s = (c, e, s1)) :
    dn m t own r s = if e = 0 then fin m ((c, own, kidsT t, (c / 8).toNat + 1) :: r) s1 else (0, e, s1) := by
  obtain ⟨k, n, i, re, im, l⟩ := t
  have hk := pm.chkk (sound_chk hs)
  by_cases k5 : k = 5
  · subst k5
    obtain ⟨q1, q2, q3, _, _⟩ := name_ok (n := n) (by rcases hk with h | ⟨h, _⟩ | h | h | ⟨_, h, _⟩ <;> first | omega | exact h) ha
    rw [nodeM, if_pos rfl] at h
    unfold dn
    rw [put, if_neg (by decide), if_neg (by decide), if_neg (by decide), if_neg (by decide), if_pos q1]
    by_cases hm : (s.h.length : Int) < m
    · rw [if_pos hm] at h ⊢
      generalize more m l.length (s.h ++ [jn 6 (nv s.a n * 256 + ↑l.length)]) = M at h ⊢
      obtain ⟨e9, h9⟩ := M
      dsimp only at h ⊢
      by_cases he : e9 = 0
      · rw [if_pos he] at h ⊢
        injection h with h1 h2
        injection h2 with h2 h3
        subst h2
        rw [if_pos rfl]
        have hc : (c / 8).toNat = s.h.length := by rw [← h1]; unfold jn; omega
        rw [fin_cons, hc, ← h3, ← h1, kids5]
        generalize putL m l (s.h.length + 1) ⟨h9, nx s.a n, s.v⟩ = Q
        obtain ⟨e8, s8⟩ := Q
        dsimp only
        by_cases h8 : e8 = 0
        · simp only [h8, if_true]
        · simp only [if_neg h8]
      · rw [if_neg he] at h ⊢
        injection h with h1 h2
        injection h2 with h2 h3
        subst h2; subst h3
        simp only [if_neg he]
    · rw [if_neg hm] at h ⊢
      injection h with h1 h2
      injection h2 with h2 h3
      subst h2; subst h3
      simp
  · have hp : put m (.mk k n i re im l) own s = (c, e, s1) := by
      rw [nodeM, if_neg k5] at h
      rw [put_leaf m n i re im l own s (by rcases hk with h | ⟨h, _⟩ | h | h | ⟨h, _⟩ <;> omega)]; exact h
    rw [dn, hp, kidsN k5, fin_cons, putL]
    dsimp only
    by_cases he : e = 0
    · simp only [he, if_true]
    · simp only [if_neg he]
theorem fin_step (m : Int) (c own : Int) (t : Tm) (l : List Tm) (x : Nat) (r : List Fm) (s : S) : fin m ((c, own, t :: l, x) :: r) s = dn m t x ((c, own, l, x + 1) :: r) s := by
  rw [fin_cons, dn, putL]
  generalize put m t x s = P
  obtain ⟨c1, e1, s1⟩ := P
  dsimp only
  by_cases he : e1 = 0
  · simp only [if_pos he, if_neg (show ¬ (x : Int) = -1 by omega), Int.toNat_natCast]
    rw [fin_cons]
  · simp only [if_neg he]
theorem fin_nil (m : Int) (c own : Int) (x : Nat) (r : List Fm) (s : S) : fin m ((c, own, [], x) :: r) s = if own = -1 then (c, 0, s) else fin m r ⟨s.h.set own.toNat c, s.a, s.v⟩ := by
  rw [fin_cons, putL]; dsimp only; rw [if_pos rfl]
/-! ### how much is left -/
def rest : List Fm → Nat | [] => 0 | f :: r => sizeL f.2.2.1 + rest r
def wei : List Fm → Nat | [] => 0 | f :: r => 2 + 4 * sizeL f.2.2.1 + wei r
theorem kids_size (t : Tm) : sizeL (kidsT t) + 1 ≤ size t := by
  obtain ⟨k, n, i, re, im, l⟩ := t
  rw [kidsT]
  by_cases h : k = 5
  · subst h; rw [if_pos rfl, tm.size]; simp; omega
  · rw [if_neg h, sizeL, tm.size]; omega
/-- a stack that may be: the lowest goes nowhere, the others to places that there are -/
def Fok (n : Nat) : List Fm → Prop
  | [] => False
  | [f] => f.2.1 = -1 ∧ W64 f.1 ∧ (∀ t ∈ f.2.2.1, sound t = true) ∧ f.2.2.2 + f.2.2.1.length ≤ n
  | f :: r => (0 ≤ f.2.1 ∧ f.2.1 < n) ∧ W64 f.1 ∧ (∀ t ∈ f.2.2.1, sound t = true) ∧ f.2.2.2 + f.2.2.1.length ≤ n ∧ Fok n r
theorem Fok.mono {n n' : Nat} (h : n ≤ n') : ∀ {l : List Fm}, Fok n l → Fok n' l
  | [], f => f
  | [f], ⟨a, b, c, d⟩ => ⟨a, b, c, by omega⟩
  | f :: g :: r, ⟨a, b, c, d, e⟩ => ⟨⟨a.1, by omega⟩, b, c, by omega, Fok.mono h e⟩
theorem Fok.top {n : Nat} {f : Fm} {r : List Fm} (h : Fok n (f :: r)) : W64 f.1 ∧ (∀ t ∈ f.2.2.1, sound t = true) ∧ f.2.2.2 + f.2.2.1.length ≤ n ∧ ((f.2.1 = -1 ∧ r = []) ∨ ((0 ≤ f.2.1 ∧ f.2.1 < n) ∧ Fok n r)) := by
  cases r with
  | nil => exact ⟨h.2.1, h.2.2.1, h.2.2.2, Or.inl ⟨h.1, rfl⟩⟩
  | cons g r => exact ⟨h.2.1, h.2.2.1, h.2.2.2.1, Or.inr ⟨h.1, h.2.2.2.2⟩⟩
theorem Fok.mk {n : Nat} {f : Fm} {r : List Fm} (h1 : W64 f.1) (h2 : ∀ t ∈ f.2.2.1, sound t = true) (h3 : f.2.2.2 + f.2.2.1.length ≤ n) (h4 : (f.2.1 = -1 ∧ r = []) ∨ ((0 ≤ f.2.1 ∧ f.2.1 < n) ∧ Fok n r)) : Fok n (f :: r) := by
  cases r with
  | nil => exact ⟨h4.elim (fun h => h.1) (fun h => h.2.elim), h1, h2, h3⟩
  | cons g r => exact h4.elim (fun h => by cases h.2) fun h => ⟨h.1, h1, h2, h3, h.2⟩
theorem kids_sound {t : Tm} (h : sound t = true) : ∀ x ∈ kidsT t, sound x = true := by
  obtain ⟨k, n, i, re, im, l⟩ := t
  rw [kidsT]
  by_cases hk : k = 5
  · subst hk; rw [if_pos rfl]; exact sound_args h rfl
  · rw [if_neg hk]; simp
/-- what a node makes: more, and no more than one name, one variable -/
theorem node_grow (m : Int) (t : Tm) (own : Int) (s : S) (hs : sound t = true) (ha : s.a.length < 4096) (hh : (s.h.length : Int) ≤ 1048576) (ho : own = -1 ∨ (0 ≤ own ∧ own < s.h.length)) {c e : Int} {s1 : S} (h : nodeM m t own s = (c, e, s1)) : s.h.length ≤ s1.h.length ∧ s1.a.length ≤ s.a.length + 1 ∧ s1.v.length ≤ s.v.length + 1 ∧ (e = 0 → (c / 8).toNat + 1 + (kidsT t).length ≤ s1.h.length ∨ kidsT t = []) := by
  obtain ⟨k, n, i, re, im, l⟩ := t
  have hk := pm.chkk (sound_chk hs)
  have hnx := nx_gr s.a n
  by_cases k5 : k = 5
  · subst k5
    rw [nodeM, if_pos rfl] at h
    by_cases hm : (s.h.length : Int) < m
    · rw [if_pos hm] at h
      have hl := rpt.more_len m l.length (s.h ++ [jn 6 (nv s.a n * 256 + ↑l.length)])
      have hp := more_pre m l.length (s.h ++ [jn 6 (nv s.a n * 256 + ↑l.length)])
      revert h hl hp
      generalize more m l.length (s.h ++ [jn 6 (nv s.a n * 256 + ↑l.length)]) = M
      obtain ⟨e9, h9⟩ := M
      intro h hl hp
      dsimp only at h hl hp
      have hp1 := hp.1
      simp only [List.length_append, List.length_singleton] at hp1 hl
      by_cases he : e9 = 0
      · rw [if_pos he] at h
        injection h with h1 h2
        injection h2 with h2 h3
        subst h3
        refine ⟨by show _ ≤ h9.length; omega, hnx.2, by show s.v.length ≤ _; omega, fun _ => Or.inl ?_⟩
        have := hl he
        rw [kids5, ← h1]
        show _ ≤ h9.length
        unfold jn; omega
      · rw [if_neg he] at h
        injection h with h1 h2
        injection h2 with h2 h3
        subst h3
        exact ⟨by show _ ≤ h9.length; omega, hnx.2, by show s.v.length ≤ _; omega, fun h => absurd (h2.trans h) he⟩
    · rw [if_neg hm] at h
      injection h with h1 h2
      injection h2 with h2 h3
      subst h3
      exact ⟨Nat.le_refl _, hnx.2, by show s.v.length ≤ _; omega, fun h => by omega⟩
  · have hsz : sound (.mk k n i re im []) = true → Gr (size (.mk k n i re im [])) s (put m (.mk k n i re im []) own s).2.2 := fun hs => put_grow m _ hs own s
    have hp : put m (.mk k n i re im []) own s = (c, e, s1) := by rw [nodeM, if_neg k5] at h; exact h
    have hs' : sound (.mk k n i re im []) = true := by
      have := hs
      rw [tm.sound] at this ⊢
      rw [if_neg k5] at this ⊢
      simpa [tm.soundL, chk, k5] using this
    have hg := hsz hs'
    rw [hp] at hg
    have e1 : size (.mk k n i re im []) = 1 := by rw [tm.size, if_neg k5]
    rw [e1] at hg
    exact ⟨hg.h, hg.a.2, hg.v.2, fun _ => Or.inr (if_neg k5)⟩
/-! ### a scope with two labels -/
def du (J0 J1 : Nat → Act → World → Prop) (n : Nat) (Q : Exit → Act → World → Prop) : Exit → Act → World → Prop
  | .goto l, a, w => ∃ n', n' < n ∧ ((l = 0 ∧ J0 n' a w) ∨ (l = 1 ∧ J1 n' a w))
  | e, a, w => Q e a w
theorem du_le {J0 J1 : Nat → Act → World → Prop} {n n' : Nat} {Q : Exit → Act → World → Prop} (h : n ≤ n') (e : Exit) (a : Act) (w : World) (hd : du J0 J1 n Q e a w) : du J0 J1 n' Q e a w := by
  cases e with
  | goto l => obtain ⟨k, hk, h2⟩ := hd; exact ⟨k, by omega, h2⟩
  | _ => exact hd
theorem wp_scope_fam {P : Program} {a : Act} {w : World} {Q : Exit → Act → World → Prop} {c r0 r1 : Code} (J0 J1 : Nat → Act → World → Prop) (h0 : findLabel c 0 = some r0) (h1 : findLabel c 1 = some r1)
    (p0 : ∀ n a w, J0 n a w → r0.wp P (du J0 J1 n Q) a w) (p1 : ∀ n a w, J1 n a w → r1.wp P (du J0 J1 n Q) a w) (n0 : Nat) (first : c.wp P (du J0 J1 n0 Q) a w) : (Code.scope c).wp P Q a w := by
  intro b k cs
  have g0 : gotoIn 0 (.inScope c :: k) = some (.code r0 :: .inScope c :: k) := by simp [gotoIn, h0]
  have g1 : gotoIn 1 (.inScope c :: k) = some (.code r1 :: .inScope c :: k) := by simp [gotoIn, h1]
  have key : ∀ n a w r, (J0 n a w ∧ r = r0) ∨ (J1 n a w ∧ r = r1) → ∃ e a' w', Q e a' w' ∧ Arrives P (lone (b.at a (.code r :: .inScope c :: k)) cs w) b k cs e a' w' := by
    intro n
    induction n using Nat.strongRecOn with
    | _ n ih =>
      intro a w r hJ
      have hp : r.wp P (du J0 J1 n Q) a w := by
        rcases hJ with ⟨h, rfl⟩ | ⟨h, rfl⟩
        · exact p0 n a w h
        · exact p1 n a w h
      obtain ⟨e, a₁, w₁, hq, harr⟩ := hp b (.inScope c :: k) cs
      cases e with
      | normal => exact ⟨.normal, a₁, w₁, hq, Steps.trans harr (.one step_inScope)⟩
      | exit id => exact ⟨.exit id, a₁, w₁, hq, fun k' hk => harr k' (by simp [exitTo, hk])⟩
      | goto l' =>
        obtain ⟨n', hn', hh⟩ := hq
        rcases hh with ⟨rfl, hJ'⟩ | ⟨rfl, hJ'⟩
        · obtain ⟨e₂, a₂, w₂, hq₂, harr₂⟩ := ih n' hn' a₁ w₁ r0 (Or.inl ⟨hJ', rfl⟩)
          exact ⟨e₂, a₂, w₂, hq₂, .of_steps (harr _ g0) harr₂⟩
        · obtain ⟨e₂, a₂, w₂, hq₂, harr₂⟩ := ih n' hn' a₁ w₁ r1 (Or.inr ⟨hJ', rfl⟩)
          exact ⟨e₂, a₂, w₂, hq₂, .of_steps (harr _ g1) harr₂⟩
      | ret => exact ⟨_, a₁, w₁, hq, harr⟩
      | panic ch => exact ⟨_, a₁, w₁, hq, harr⟩
      | outgrown => exact ⟨_, a₁, w₁, hq, harr⟩
  obtain ⟨e, a₁, w₁, hq, harr⟩ := first b (.inScope c :: k) cs
  cases e with
  | normal => exact ⟨.normal, a₁, w₁, hq, .head step_scope (Steps.trans harr (.one step_inScope))⟩
  | exit id => exact ⟨.exit id, a₁, w₁, hq, fun k' hk => .head step_scope (harr k' (by simp [exitTo, hk]))⟩
  | goto l' =>
    obtain ⟨n', hn', hh⟩ := hq
    rcases hh with ⟨rfl, hJ'⟩ | ⟨rfl, hJ'⟩
    · obtain ⟨e₂, a₂, w₂, hq₂, harr₂⟩ := key n' a₁ w₁ r0 (Or.inl ⟨hJ', rfl⟩)
      exact ⟨e₂, a₂, w₂, hq₂, .of_steps (.head step_scope (harr _ g0)) harr₂⟩
    · obtain ⟨e₂, a₂, w₂, hq₂, harr₂⟩ := key n' a₁ w₁ r1 (Or.inr ⟨hJ', rfl⟩)
      exact ⟨e₂, a₂, w₂, hq₂, .of_steps (.head step_scope (harr _ g1)) harr₂⟩
  | ret => exact ⟨_, a₁, w₁, hq, .of_steps (.one step_scope) harr⟩
  | panic ch => exact ⟨_, a₁, w₁, hq, .of_steps (.one step_scope) harr⟩
  | outgrown => exact ⟨_, a₁, w₁, hq, .of_steps (.one step_scope) harr⟩
theorem wp_scope_du {P : Program} {a : Act} {w : World} {Q : Exit → Act → World → Prop} {c D U : Code} (J0 J1 : Nat → Act → World → Prop) (hd : findLabel c 0 = some (Code.skip.seq D)) (hu : findLabel c 1 = some (Code.skip.seq U))
    (up : ∀ n a w, J1 n a w → U.wp P (du J0 J1 n Q) a w)
    (down : (∀ n a w, J1 n a w → U.wp P (du J0 J1 n Q) a w) → ∀ n a w, J0 n a w → D.wp P (du J0 J1 n Q) a w)
    (first : (∀ n a w, J0 n a w → D.wp P (du J0 J1 n Q) a w) → ∃ n, c.wp P (du J0 J1 n Q) a w) : (Code.scope c).wp P Q a w := by
  have dn := down up
  obtain ⟨n0, fst⟩ := first dn
  refine wp_scope_fam J0 J1 hd hu (fun n a w h => wp_seq (wp_skip (dn n a w h))) (fun n a w h => wp_seq (wp_skip (up n a w h))) n0 fst
end Go.Proofs.Ytibepkljcofpdaa.ppt
