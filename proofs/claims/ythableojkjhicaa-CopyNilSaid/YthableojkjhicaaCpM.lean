/- Cells copied: what a copy makes, step by step; of what Put laid the copy is what Put lays. The mathematics (no program). -/
import Derived.Test.YthableojkjhicaaPutM
namespace Go.Proofs.Ythableojkjhicaa.cpy
set_option linter.unusedVariables false
open Go.ChangeShapes Go.WideShapes Go.ChangeAt Go.RowKit
open Go.Proofs.Ythableojkjhicaa.tm Go.Proofs.Ythableojkjhicaa.hp Go.Proofs.Ythableojkjhicaa.cel Go.Proofs.Ythableojkjhicaa.pm
open Go.Proofs.Ythableojkjhicaa.atm (nv ne nx)
/-- it takes no cell -/
def leaf : Tm → Prop
  | .mk k _ i _ _ _ => k = 2 ∨ (k = 3 ∧ so i = true)
instance (t : Tm) : Decidable (leaf t) := by cases t; unfold leaf; exact inferInstance
def vrs : Nat → List Int → List Int
  | 0, l => l
  | n + 1, l => vrs n (l ++ [(l.length : Int) * 8])
theorem more_vrs (m : Int) : ∀ (n : Nat) (l : List Int), (l.length : Int) + n ≤ m → more m n l = (0, vrs n l)
  | 0, l, _ => rfl
  | n + 1, l, h => by
    rw [more, if_pos (by omega), vrs]
    exact more_vrs m n _ (by simp; omega)
theorem vrs_len : ∀ (n : Nat) (l : List Int), (vrs n l).length = l.length + n
  | 0, l => rfl
  | n + 1, l => by rw [vrs, vrs_len n]; simp; omega
mutual
/-- a term that the cell c stands for among the cells l is copied; own: its place, if it has one (else below 0). The state: cells there, names, what stands for what was met -/
def cp (l : List Int) : Tm → Int → Int → S → Int × S
  | .mk k n i re im ts, c, own, s =>
    if k = 2 ∨ (k = 3 ∧ so i = true) then (c, s) else
    match pm.look s.v c with
    | some d => (d, s)
    | none =>
      if k = 1 then (if own < 0 then ((s.h.length : Int) * 8, ⟨s.h ++ [(s.h.length : Int) * 8], s.a, s.v ++ [(c, (s.h.length : Int) * 8)]⟩) else (own * 8, ⟨s.h, s.a, s.v ++ [(c, own * 8)]⟩))
      else if k = 3 then (jn 4 s.h.length, ⟨s.h ++ [l.getD (c / 8).toNat 0], s.a, s.v ++ [(c, jn 4 s.h.length)]⟩)
      else if k = 4 then (jn 5 s.h.length, ⟨s.h ++ [l.getD (c / 8).toNat 0] ++ [l.getD ((c / 8).toNat + 1) 0], s.a, s.v ++ [(c, jn 5 s.h.length)]⟩)
      else (jn 1 s.h.length, cpL l ts ((c / 8).toNat + 1) (s.h.length + 1) ⟨vrs ts.length (s.h ++ [l.getD (c / 8).toNat 0]), s.a, s.v ++ [(c, jn 1 s.h.length)]⟩)
def cpL (l : List Int) : List Tm → Nat → Nat → S → S
  | [], _, _, s => s
  | t :: r, y, x, s => match cp l t (l.getD y 0) x s with
    | (d, s') => cpL l r (y + 1) (x + 1) ⟨s'.h.set x d, s'.a, s'.v⟩
end
/-! ### what is met is met -/
theorem cpL_grow (l : List Int) : ∀ (ts : List Tm), (∀ x ∈ ts, ∀ c own s, ∃ b, (cp l x c own s).2.v = s.v ++ b) → ∀ y x s, ∃ b, (cpL l ts y x s).v = s.v ++ b
  | [], _, y, x, s => ⟨[], by rw [cpL]; simp⟩
  | t :: r, h, y, x, s => by
    obtain ⟨b, hb⟩ := h t (by simp) (l.getD y 0) x s
    rw [cpL]
    generalize cp l t (l.getD y 0) x s = P at *
    obtain ⟨d, s'⟩ := P
    dsimp only at hb ⊢
    obtain ⟨b2, hb2⟩ := cpL_grow l r (fun x hx => h x (by simp [hx])) (y + 1) (x + 1) ⟨s'.h.set x d, s'.a, s'.v⟩
    exact ⟨b ++ b2, by rw [hb2]; show s'.v ++ b2 = _; rw [hb, List.append_assoc]⟩
theorem cp_grow (l : List Int) (t : Tm) : ∀ c own s, ∃ b, (cp l t c own s).2.v = s.v ++ b := by
  induction t using Tm.ind with
  | h k n i re im ts ih =>
    intro c own s
    rw [cp]
    by_cases hl : k = 2 ∨ (k = 3 ∧ so i = true)
    · rw [if_pos hl]; exact ⟨[], by simp⟩
    rw [if_neg hl]
    cases hm : pm.look s.v c with
    | some d => exact ⟨[], by simp⟩
    | none =>
      dsimp only
      by_cases k1 : k = 1
      · rw [if_pos k1]; split <;> exact ⟨_, rfl⟩
      rw [if_neg k1]
      by_cases k3 : k = 3
      · rw [if_pos k3]; exact ⟨_, rfl⟩
      rw [if_neg k3]
      by_cases k4 : k = 4
      · rw [if_pos k4]; exact ⟨_, rfl⟩
      rw [if_neg k4]
      obtain ⟨b, hb⟩ := cpL_grow l ts ih ((c / 8).toNat + 1) (s.h.length + 1) ⟨vrs ts.length (s.h ++ [l.getD (c / 8).toNat 0]), s.a, s.v ++ [(c, jn 1 s.h.length)]⟩
      exact ⟨_, hb.trans (List.append_assoc _ _ _)⟩
theorem cp_met (l : List Int) (t : Tm) (c own : Int) (s : S) (hl : ¬ leaf t) : pm.look (cp l t c own s).2.v c = some (cp l t c own s).1 := by
  obtain ⟨k, n, i, re, im, ts⟩ := t
  rw [cp]
  have hl : ¬ (k = 2 ∨ (k = 3 ∧ so i = true)) := hl
  rw [if_neg hl]
  cases hm : pm.look s.v c with
  | some d => exact hm
  | none =>
    dsimp only
    by_cases k1 : k = 1
    · rw [if_pos k1]; split <;> exact look_new hm
    rw [if_neg k1]
    by_cases k3 : k = 3
    · rw [if_pos k3]; exact look_new hm
    rw [if_neg k3]
    by_cases k4 : k = 4
    · rw [if_pos k4]; exact look_new hm
    rw [if_neg k4]
    obtain ⟨b, hb⟩ := cpL_grow l ts (fun x _ => cp_grow l x) ((c / 8).toNat + 1) (s.h.length + 1) ⟨vrs ts.length (s.h ++ [l.getD (c / 8).toNat 0]), s.a, s.v ++ [(c, jn 1 s.h.length)]⟩
    dsimp only at hb ⊢
    rw [hb]
    exact look_add (look_new hm)
/-- met, or no cell's: nothing turns -/
theorem cp_again (l : List Int) (t : Tm) (c d own own' : Int) (s s' : S) (h : cp l t c own s = (d, s')) (s2 : S) (hv : s2.v = s'.v) : cp l t c own' s2 = (d, s2) := by
  have hm := cp_met l t c own s
  rw [h] at hm
  obtain ⟨k, n, i, re, im, ts⟩ := t
  by_cases hl : k = 2 ∨ (k = 3 ∧ so i = true)
  · rw [cp, if_pos hl] at h ⊢
    injection h with h1 h2
    rw [h1]
  · rw [cp, if_neg hl, hv, hm hl]
/-! ### names that are there -/
theorem nv_pre {a b A : List ByteArray} {n : ByteArray} (hn : n.size ≤ 200) (ha : a.length < 4096) (hA : A = nx a n ++ b) : nv A n = nv a n ∧ nx A n = A ∧ ne A n = 0 := by
  have g1 : ¬ 200 < n.size := by omega
  have g2 : ¬ 4096 ≤ a.length := by omega
  have hmem : n ∈ A := by
    rw [hA]; unfold atm.nx; rw [if_neg g1]
    split
    · rename_i h; exact List.mem_append_left _ h
    · simp
  have e1 : nv A n = A.idxOf n := by unfold atm.nv; rw [if_neg g1, if_pos hmem]
  refine ⟨?_, by unfold atm.nx; rw [if_neg g1, if_pos hmem], by unfold atm.ne; rw [if_neg g1, if_pos hmem]⟩
  rw [e1, hA]
  unfold atm.nv atm.nx
  rw [if_neg g1, if_neg g1]
  by_cases h : n ∈ a
  · rw [if_pos h, if_pos h, List.idxOf_append, if_pos h]
  · rw [if_neg h, if_neg h, if_neg g2, if_neg g2, List.append_assoc, List.idxOf_append, if_neg h]; simp
/-! ### arguments by themselves -/
theorem RepL.less {O O' : Nat → Prop} {s : S} (ho : ∀ q, O' q → O q) : ∀ (l : List Tm) (p : Nat), RepL O s l p → RepL O' s l p
  | [], _, _ => by rw [RepL]; trivial
  | t :: r, p, hr => by
    rw [RepL] at hr ⊢
    exact ⟨fun q => hr.1 (ho _ q), hr.2.1, Rep.less ho _ _ hr.2.2.1, RepL.less ho r _ hr.2.2.2⟩
/-- behind an argument's setting -/
theorem arg_ok {m : Int} {t : Tm} {p : Nat} {s s1 : S} {O : Nat → Prop} {c : Int} (hO : ∀ q, O q → q < s.h.length) (hcp : O p ∧ s.h.getD p 0 = (p : Int) * 8) (ok : Ok m O t p s c s1) :
    s1.h.length = s.h.length + pm.nd t ∧ Vs (fun q => O q ∧ q ≠ p) ⟨s1.h.set p c, s1.a, s1.v⟩ ∧ Rep (fun q => O q ∧ q ≠ p) ⟨s1.h.set p c, s1.a, s1.v⟩ t c := by
  have hp0 : p < s.h.length := hO p hcp.1
  have hlen : s1.h.length = s.h.length + pm.nd t := by
    have := ok.len
    by_cases k1 : t.kind = 1
    · rw [if_pos k1, if_neg (by omega)] at this
      have : pm.nd t = 0 := by obtain ⟨k, n, i, re, im, l⟩ := t; simp only [Tm.kind] at k1; subst k1; simp [pm.nd]
      omega
    · rw [if_neg k1] at this; exact this
  have hp1 : p < s1.h.length := by omega
  refine ⟨hlen, ?_⟩
  rcases ok.rep with ⟨p', k1, ep, ec, vs', lk⟩ | ⟨vs', rp⟩
  · have hpp : p = p' := by omega
    subst hpp
    have hx2 : Ext (fun q => O q ∧ q ≠ p) s1 ⟨s1.h.set p c, s1.a, s1.v⟩ := by
      refine ⟨⟨by simp, fun q hq _ => ?_⟩, ⟨[], by simp⟩, ⟨[], by simp⟩⟩
      show (s1.h.set p c).getD q 0 = _
      rw [getD_set hp1]
      split
      · rename_i e; subst e
        rw [ok.pre.2 q hp0, hcp.2, ec]
      · rfl
    refine ⟨vs'.ext hx2 rfl, ?_⟩
    obtain ⟨k, n, i, re, im, l⟩ := t
    simp only [Tm.kind] at k1
    subst k1
    rw [Rep]; simpa [Tm.int] using lk
  · have hx2 : Ext O s1 ⟨s1.h.set p c, s1.a, s1.v⟩ := by
      refine ⟨⟨by simp, fun q hq ho => ?_⟩, ⟨[], by simp⟩, ⟨[], by simp⟩⟩
      show (s1.h.set p c).getD q 0 = _
      rw [getD_set hp1, if_neg (fun e => ho (by rw [e]; exact hcp.1))]
    exact ⟨(vs'.ext hx2 rfl).less fun q h => h.1, Rep.less (fun q h => h.1) _ _ (Rep.ext hx2 _ _ rp)⟩
theorem putL_ok (m : Int) : ∀ (l : List Tm), (∀ x ∈ l, sound x = true) → ∀ (p : Nat) (s : S) (O : Nat → Prop), Vs O s → (∀ q, O q → q < s.h.length) → (∀ q, p ≤ q → q < p + l.length → O q ∧ s.h.getD q 0 = (q : Int) * 8) → (s.h.length : Int) + ndL l + 1 ≤ m → s.a.length + sizeL l ≤ 4096 →
    ∃ s', putL m l p s = (0, s') ∧ (∀ q, q < s.h.length → ¬ (p ≤ q ∧ q < p + l.length) → s'.h.getD q 0 = s.h.getD q 0) ∧ s'.h.length = s.h.length + ndL l ∧ (∃ b, s'.a = s.a ++ b) := by
  intro l
  induction l with
  | nil => intro _ p s O _ _ _ _ _; exact ⟨s, by rw [putL], fun _ _ _ => rfl, by simp [ndL], [], by simp⟩
  | cons t r ih =>
    intro hss p s O hv hO hcs hm ha
    have hcp := hcs p (Nat.le_refl _) (by simp)
    simp only [ndL] at hm
    simp only [sizeL] at ha
    obtain ⟨c, s1, e1, ok⟩ := put_ok m t p s O (hss t (by simp)) hv hO (Or.inr ⟨p, rfl, hcp⟩) (by omega) (by omega)
    obtain ⟨hlen, hv2, hr2⟩ := arg_ok hO hcp ok
    have hp0 : p < s.h.length := hO p hcp.1
    have hp1 : p < s1.h.length := by omega
    have hs2 : (s1.h.set p c).length = s1.h.length := by simp
    obtain ⟨b1, hb1, hb2⟩ := ok.a
    obtain ⟨s3, e3, k3, l3, b3, hb3⟩ := ih (fun x hx => hss x (by simp [hx])) (p + 1) ⟨s1.h.set p c, s1.a, s1.v⟩ (fun q => O q ∧ q ≠ p) hv2
      (fun q h => by show q < (s1.h.set p c).length; rw [hs2]; have := hO q h.1; omega)
      (fun q h1 h2 => by
        have h3 := hcs q (by omega) (by simp; omega)
        refine ⟨⟨h3.1, by omega⟩, ?_⟩
        show (s1.h.set p c).getD q 0 = _
        rw [getD_set hp1, if_neg (by omega), ok.pre.2 q (hO q h3.1)]; exact h3.2)
      (by show ((s1.h.set p c).length : Int) + _ + 1 ≤ m; rw [hs2]; omega) (by show s1.a.length + _ ≤ _; rw [hb1, List.length_append]; omega)
    refine ⟨s3, ?_, fun q hq hn => ?_, ?_, b1 ++ b3, ?_⟩
    · rw [putL, e1]; dsimp only; rw [if_pos rfl]; exact e3
    · rw [k3 q (by show q < (s1.h.set p c).length; rw [hs2]; omega) (fun h => hn ⟨by omega, by simp; omega⟩)]
      show (s1.h.set p c).getD q 0 = _
      rw [getD_set hp1, if_neg (fun e => hn ⟨by omega, by simp; omega⟩), ok.pre.2 q hq]
    · rw [l3]; show (s1.h.set p c).length + _ = _; rw [hs2, hlen]; simp only [ndL]; omega
    · rw [hb3]; show s1.a ++ b3 = _; rw [hb1, List.append_assoc]
/-! ### of what Put laid the copy is what Put lays -/
/-- Put's state where it is copied from (s), Put's state there (u), what was met (M) -/
structure Rel (B : Nat) (s u : S) (M : List (Int × Int)) : Prop where
  vk : ∀ i c, pm.look s.v i = some c → ∃ d, pm.look M c = some d ∧ pm.look u.v i = some d
  nk : ∀ i, pm.look s.v i = none → pm.look u.v i = none
  mv : ∀ c d, pm.look M c = some d → c % 8 = 0 → ∃ i, pm.look s.v i = some c
  mp : ∀ c d, pm.look M c = some d → c % 8 ≠ 0 → c / 8 < (s.h.length : Int) ∨ (B : Int) ≤ c / 8
theorem Rel.turn {B : Nat} {s u s' u' : S} {M : List (Int × Int)} (h : Rel B s u M) (e1 : s'.v = s.v) (e2 : u'.v = u.v) (hl : s.h.length ≤ s'.h.length) : Rel B s' u' M :=
  ⟨fun i c hi => by rw [e1] at hi; rw [e2]; exact h.vk i c hi, fun i hi => by rw [e1] at hi; rw [e2]; exact h.nk i hi, fun c d hc h8 => by rw [e1]; exact h.mv c d hc h8, fun c d hc h8 => (h.mp c d hc h8).imp (fun x => by omega) id⟩
/-- a number, a compound is met -/
theorem Rel.met {B : Nat} {O : Nat → Prop} {s u s' : S} {M : List (Int × Int)} (h : Rel B s u M) (hv : Vs O s) {c : Int} (d : Int) (h8 : c % 8 ≠ 0) (hc : c / 8 = (s.h.length : Int)) (hB : s.h.length < B) (e1 : s'.v = s.v) (hl : s.h.length < s'.h.length) {u' : S} (e2 : u'.v = u.v) :
    pm.look M c = none ∧ Rel B s' u' (M ++ [(c, d)]) := by
  have hn : pm.look M c = none := by
    cases e : pm.look M c with
    | none => rfl
    | some d' => have := h.mp c d' e h8; omega
  refine ⟨hn, fun i x hi => ?_, fun i hi => by rw [e1] at hi; rw [e2]; exact h.nk i hi, fun x d' hx h0 => ?_, fun x d' hx h0 => ?_⟩
  · rw [e1] at hi
    obtain ⟨d', g1, g2⟩ := h.vk i x hi
    exact ⟨d', look_add g1, by rw [e2]; exact g2⟩
  · rw [e1]
    by_cases e : c = x
    · subst e; exact absurd h0 h8
    · rw [look_old e] at hx; exact h.mv x d' hx h0
  · by_cases e : c = x
    · subst e; left; omega
    · rw [look_old e] at hx; exact (h.mp x d' hx h0).imp (fun y => by omega) id
/-- a variable is met -/
theorem Rel.new {B : Nat} {s u s' u' : S} {M : List (Int × Int)} (h : Rel B s u M) {i c d : Int} (hi : pm.look s.v i = none) (hn : pm.look M c = none) (h8 : c % 8 = 0) (e1 : s'.v = s.v ++ [(i, c)]) (hl : s.h.length ≤ s'.h.length) (e2 : u'.v = u.v ++ [(i, d)]) : Rel B s' u' (M ++ [(c, d)]) := by
  refine ⟨fun j x hj => ?_, fun j hj => ?_, fun x d' hx h0 => ?_, fun x d' hx h0 => ?_⟩
  · rw [e1] at hj
    rw [e2]
    by_cases e : i = j
    · subst e
      rw [look_new hi] at hj
      injection hj with hj
      subst hj
      exact ⟨d, look_new hn, look_new (h.nk i hi)⟩
    · rw [look_old e] at hj
      obtain ⟨d', g1, g2⟩ := h.vk j x hj
      exact ⟨d', look_add g1, look_add g2⟩
  · rw [e1] at hj
    rw [e2]
    by_cases e : i = j
    · subst e; rw [look_new hi] at hj; cases hj
    · rw [look_old e] at hj ⊢; exact h.nk j hj
  · rw [e1]
    by_cases e : c = x
    · subst e; exact ⟨i, look_new hi⟩
    · rw [look_old e] at hx
      obtain ⟨j, hj⟩ := h.mv x d' hx h0
      exact ⟨j, look_add hj⟩
  · by_cases e : c = x
    · subst e; exact absurd h8 h0
    · rw [look_old e] at hx; exact (h.mp x d' hx h0).imp (fun y => by omega) id
def SimT (m m' : Int) (L : List Int) (B : Nat) (A : List ByteArray) (t : Tm) : Prop :=
  ∀ (own own' : Int) (s : S) (O : Nat → Prop) (c : Int) (s' u : S) (M : List (Int × Int)), sound t = true → Vs O s → (∀ q, O q → q < s.h.length) → (own < 0 ∨ ∃ p : Nat, own = p ∧ O p ∧ s.h.getD p 0 = (p : Int) * 8) → (s.h.length : Int) + pm.nd t + 1 ≤ m → s.a.length + size t ≤ 4096 →
    put m t own s = (c, 0, s') → (∀ q, q < s'.h.length → ¬ O q → L.getD q 0 = s'.h.getD q 0) → s'.h.length ≤ B → (∃ b, A = s'.a ++ b) → u.a = A → (u.h.length : Int) + pm.nd t + 1 ≤ m' → Rel B s u M →
    ∃ d u' M', put m' t own' u = (d, 0, u') ∧ cp L t c own' ⟨u.h, A, M⟩ = (d, ⟨u'.h, A, M'⟩) ∧ u'.a = A ∧ Rel B s' u' M' ∧ u'.h.length ≤ u.h.length + pm.nd t + (if own' < 0 then 1 else 0)
theorem simL {m m' : Int} {L : List Int} {B : Nat} {A : List ByteArray} : ∀ (l : List Tm), (∀ x ∈ l, SimT m m' L B A x) → ∀ (p x : Nat) (s : S) (O : Nat → Prop) (s' u : S) (M : List (Int × Int)), (∀ x ∈ l, sound x = true) → Vs O s → (∀ q, O q → q < s.h.length) → (∀ q, p ≤ q → q < p + l.length → O q ∧ s.h.getD q 0 = (q : Int) * 8) → (s.h.length : Int) + ndL l + 1 ≤ m → s.a.length + sizeL l ≤ 4096 →
    putL m l p s = (0, s') → (∀ q, q < s'.h.length → ¬ (O q ∧ ¬ (p ≤ q ∧ q < p + l.length)) → L.getD q 0 = s'.h.getD q 0) → s'.h.length ≤ B → (∃ b, A = s'.a ++ b) → u.a = A → (u.h.length : Int) + ndL l + 1 ≤ m' → Rel B s u M →
    ∃ u' M', putL m' l x u = (0, u') ∧ cpL L l p x ⟨u.h, A, M⟩ = ⟨u'.h, A, M'⟩ ∧ u'.a = A ∧ Rel B s' u' M' ∧ u'.h.length ≤ u.h.length + ndL l := by
  intro l
  induction l with
  | nil =>
    intro _ p x s O s' u M _ _ _ _ _ _ hp _ _ _ hu _ hr
    rw [putL] at hp
    injection hp with _ hp
    subst hp
    exact ⟨u, M, by rw [putL], by rw [cpL], hu, hr, by simp [ndL]⟩
  | cons t r ih =>
    intro hx p x s O s' u M hss hv hO hcs hm ha hput hL hB hA hu hmu hr
    have hcp := hcs p (Nat.le_refl _) (by simp)
    simp only [ndL] at hm hmu
    simp only [sizeL] at ha
    obtain ⟨c, s1, e1, ok⟩ := put_ok m t p s O (hss t (by simp)) hv hO (Or.inr ⟨p, rfl, hcp⟩) (by omega) (by omega)
    obtain ⟨hlen, hv2, hr2⟩ := arg_ok hO hcp ok
    have hp0 : p < s.h.length := hO p hcp.1
    have hp1 : p < s1.h.length := by omega
    have hs2 : (s1.h.set p c).length = s1.h.length := by simp
    obtain ⟨b1, hb1, hb2⟩ := ok.a
    have hO2 : ∀ q, (O q ∧ q ≠ p) → q < (⟨s1.h.set p c, s1.a, s1.v⟩ : S).h.length := fun q h => by show q < (s1.h.set p c).length; rw [hs2]; have := hO q h.1; omega
    have hc2 : ∀ q, p + 1 ≤ q → q < p + 1 + r.length → (O q ∧ q ≠ p) ∧ (⟨s1.h.set p c, s1.a, s1.v⟩ : S).h.getD q 0 = (q : Int) * 8 := fun q h1 h2 => by
      have h3 := hcs q (by omega) (by simp; omega)
      refine ⟨⟨h3.1, by omega⟩, ?_⟩
      show (s1.h.set p c).getD q 0 = _
      rw [getD_set hp1, if_neg (by omega), ok.pre.2 q (hO q h3.1)]; exact h3.2
    have hm2 : ((⟨s1.h.set p c, s1.a, s1.v⟩ : S).h.length : Int) + ndL r + 1 ≤ m := by show ((s1.h.set p c).length : Int) + _ + 1 ≤ m; rw [hs2]; omega
    have ha2 : (⟨s1.h.set p c, s1.a, s1.v⟩ : S).a.length + sizeL r ≤ 4096 := by show s1.a.length + _ ≤ _; rw [hb1, List.length_append]; omega
    obtain ⟨s3, e3, k3, l3, b3, hb3⟩ := putL_ok m r (fun x hx => hss x (by simp [hx])) (p + 1) ⟨s1.h.set p c, s1.a, s1.v⟩ (fun q => O q ∧ q ≠ p) hv2 hO2 hc2 hm2 ha2
    have hs3 : s3 = s' := by
      rw [putL, e1] at hput
      dsimp only at hput
      rw [if_pos rfl, e3] at hput
      injection hput
    subst hs3
    have l3' : s3.h.length = s1.h.length + ndL r := by rw [l3]; show (s1.h.set p c).length + _ = _; rw [hs2]
    have hcell : s3.h.getD p 0 = c := by
      rw [k3 p (by show p < (s1.h.set p c).length; rw [hs2]; exact hp1) (by omega)]
      show (s1.h.set p c).getD p 0 = c
      rw [getD_set hp1, if_pos rfl]
    obtain ⟨bA, hbA⟩ := hA
    obtain ⟨d, u1, M1, p1, c1, a1, r1, z1⟩ := hx t (by simp) p x s O c s1 u M (hss t (by simp)) hv hO (Or.inr ⟨p, rfl, hcp⟩) (by omega) (by omega) e1 (fun q hq hn => by
        rw [hL q (by omega) (fun h => hn h.1)]
        have hne : q ≠ p := fun e => hn (e ▸ hcp.1)
        rw [k3 q (by show q < (s1.h.set p c).length; rw [hs2]; exact hq) (fun h => hn (hcs q (by omega) (by simp; omega)).1)]
        show (s1.h.set p c).getD q 0 = _
        rw [getD_set hp1, if_neg hne]) (by omega) ⟨b3 ++ bA, by rw [hbA, hb3]; show s1.a ++ b3 ++ bA = _; rw [List.append_assoc]⟩ hu (by omega) hr
    rw [if_neg (by omega)] at z1
    have hu2 : (u1.h.set x d).length = u1.h.length := by simp
    obtain ⟨u3, M3, p3, c3, a3, r3, z3⟩ := ih (fun y hy => hx y (by simp [hy])) (p + 1) (x + 1) ⟨s1.h.set p c, s1.a, s1.v⟩ (fun q => O q ∧ q ≠ p) s3 ⟨u1.h.set x d, u1.a, u1.v⟩ M1 (fun x hx => hss x (by simp [hx])) hv2 hO2 hc2 hm2 ha2 e3
      (fun q hq hn => hL q hq fun h => hn ⟨⟨h.1, fun e => h.2 ⟨by omega, by simp; omega⟩⟩, fun e => h.2 ⟨by omega, by simp; omega⟩⟩) hB ⟨bA, hbA⟩ a1 (by show ((u1.h.set x d).length : Int) + _ + 1 ≤ m'; rw [hu2]; omega) (r1.turn rfl rfl (by show s1.h.length ≤ (s1.h.set p c).length; rw [hs2]; exact Nat.le_refl _))
    refine ⟨u3, M3, ?_, ?_, a3, r3, ?_⟩
    · rw [putL, p1]; dsimp only; rw [if_pos rfl]; exact p3
    · rw [cpL, hL p (by omega) (fun h => h.2 ⟨Nat.le_refl _, by simp⟩), hcell, c1]
      dsimp only
      exact c3
    · have : (⟨u1.h.set x d, u1.a, u1.v⟩ : S).h.length = u1.h.length := hu2
      simp only [ndL]; omega
theorem sim {m m' : Int} {L : List Int} {B : Nat} {A : List ByteArray} (hB8 : (B : Int) ≤ 1048576) (t : Tm) : SimT m m' L B A t := by
  induction t using Tm.ind with
  | h k n i re im l ih =>
    intro own own' s O c s' u M hs hv hO hown hm ha hput hL hB hA hu hmu hr
    have hc := sound_chk hs
    have hk := chk_kind hc
    simp only [Tm.kind] at hk
    have hsh : (s.h.length : Int) ≤ m := by omega
    rcases hk with rfl | rfl | rfl | rfl | rfl
    · -- a variable
      have hnd : pm.nd (.mk 1 n i re im l) = 0 := by simp [pm.nd]
      rw [hnd] at hm hmu
      rw [put, if_neg (by decide), if_neg (by decide), if_neg (by decide), if_pos rfl] at hput
      have hput' : put m' (.mk 1 n i re im l) own' u = (match pm.look u.v i with | some c => (c, 0, u) | none => if own' < 0 then (if (u.h.length : Int) < m' then ((u.h.length : Int) * 8, 0, ⟨u.h ++ [(u.h.length : Int) * 8], u.a, u.v ++ [(i, (u.h.length : Int) * 8)]⟩) else (0, 4, u)) else (own' * 8, 0, ⟨u.h, u.a, u.v ++ [(i, own' * 8)]⟩)) := by
        rw [put, if_neg (by decide), if_neg (by decide), if_neg (by decide), if_pos rfl]
        cases pm.look u.v i <;> rfl
      have hcp : ∀ s9 : S, cp L (.mk 1 n i re im l) c own' s9 = (match pm.look s9.v c with | some d => (d, s9) | none => if own' < 0 then ((s9.h.length : Int) * 8, ⟨s9.h ++ [(s9.h.length : Int) * 8], s9.a, s9.v ++ [(c, (s9.h.length : Int) * 8)]⟩) else (own' * 8, ⟨s9.h, s9.a, s9.v ++ [(c, own' * 8)]⟩)) := fun s9 => by
        rw [cp, if_neg (show ¬ ((1 : Int) = 2 ∨ ((1 : Int) = 3 ∧ so i = true)) by simp)]
        simp only [if_true]
      rw [hput']
      cases hl : pm.look s.v i with
      | some c0 =>
        rw [hl] at hput
        injection hput with e1 e2
        injection e2 with _ e2
        subst e1 e2
        obtain ⟨d, g1, g2⟩ := hr.vk i _ hl
        refine ⟨d, u, M, by rw [g2], ?_, hu, hr, by omega⟩
        rw [hcp]
        dsimp only
        rw [g1]
      | none =>
        rw [hl] at hput
        have hcn : ∀ c0 : Int, (c0 = (s.h.length : Int) * 8 ∨ ∃ p : Nat, c0 = (p : Int) * 8 ∧ O p) → pm.look M c0 = none := fun c0 h0 => by
          cases e : pm.look M c0 with
          | none => rfl
          | some d =>
            obtain ⟨j, hj⟩ := hr.mv c0 d e (by rcases h0 with h0 | ⟨p, h0, _⟩ <;> omega)
            obtain ⟨p', x1, x2, x3, x4⟩ := hv.cell j c0 hj
            rcases h0 with h0 | ⟨p, h0, hp⟩
            · omega
            · have : p = p' := by omega
              subst this; exact absurd hp x2
        have hpc : pm.look M c = none ∧ c % 8 = 0 ∧ s'.v = s.v ++ [(i, c)] ∧ s.h.length ≤ s'.h.length := by
          dsimp only at hput
          by_cases h0 : own < 0
          · rw [if_pos h0] at hput
            rw [if_pos (by omega)] at hput
            injection hput with e1 e2
            injection e2 with _ e2
            subst e1 e2
            exact ⟨hcn _ (Or.inl rfl), by omega, rfl, by simp⟩
          · rw [if_neg h0] at hput
            obtain ⟨p, rfl, hp, _⟩ := hown.resolve_left h0
            injection hput with e1 e2
            injection e2 with _ e2
            subst e1 e2
            exact ⟨hcn _ (Or.inr ⟨p, rfl, hp⟩), by omega, rfl, by simp⟩
        obtain ⟨p1, p2, p3, p4⟩ := hpc
        rw [hr.nk i hl, hcp]
        dsimp only
        rw [p1]
        dsimp only
        by_cases h0 : own' < 0
        · rw [if_pos h0, if_pos h0, if_pos (by omega), if_pos h0]
          exact ⟨_, _, _, rfl, rfl, hu, hr.new (u' := ⟨u.h ++ [(u.h.length : Int) * 8], u.a, u.v ++ [(i, (u.h.length : Int) * 8)]⟩) hl p1 p2 p3 p4 rfl, by simp⟩
        · rw [if_neg h0, if_neg h0, if_neg h0]
          exact ⟨_, _, _, rfl, rfl, hu, hr.new (u' := ⟨u.h, u.a, u.v ++ [(i, own' * 8)]⟩) hl p1 p2 p3 p4 rfl, by simp⟩
    · -- an atom
      have hn : n.size ≤ 200 := by simp only [chk] at hc; simp at hc; omega
      have h1 : 1 ≤ size (.mk 2 n i re im l) := by rw [size]; omega
      obtain ⟨q1, q2, q3, q4, q5⟩ := name_ok hn (show s.a.length < 4096 by omega)
      rw [put, if_pos rfl, if_pos q1] at hput
      injection hput with e1 e2
      injection e2 with _ e2
      subst e1 e2
      obtain ⟨b, hb⟩ := hA
      obtain ⟨g1, g2, g3⟩ := nv_pre hn (show s.a.length < 4096 by omega) hb
      refine ⟨jn 2 (nv s.a n), u, M, ?_, ?_, hu, hr.turn rfl rfl (Nat.le_refl _), by omega⟩
      · rw [put, if_pos rfl, hu, g3, if_pos rfl, g1, g2, ← hu]
      · rw [cp, if_pos (Or.inl rfl)]
    · -- a number
      rw [put, if_neg (by decide), if_pos rfl] at hput
      rw [put, if_neg (by decide), if_pos rfl]
      by_cases hso : so i = true
      · rw [if_pos hso] at hput
        injection hput with e1 e2
        injection e2 with _ e2
        subst e1 e2
        refine ⟨sv i, u, M, by rw [if_pos hso], ?_, hu, hr, by omega⟩
        rw [cp, if_pos (Or.inr ⟨rfl, hso⟩)]
      · have hnd : pm.nd (.mk 3 n i re im l) = 1 := by simp [pm.nd, hso]
        rw [hnd] at hm hmu
        rw [if_neg hso, if_pos (by omega)] at hput
        injection hput with e1 e2
        injection e2 with _ e2
        subst e1 e2
        have hlen : (s.h ++ [u64 i]).length = s.h.length + 1 := by simp
        dsimp only at hB hL
        rw [hlen] at hB hL
        have c8 : jn 4 (s.h.length : Int) % 8 = 4 := jn_tag _ _ (by decide) (by decide)
        have cp8 : jn 4 (s.h.length : Int) / 8 = (s.h.length : Int) := jn_val _ _ (by decide) (by decide) (by omega) (by omega)
        have hw : L.getD s.h.length 0 = u64 i := by rw [hL s.h.length (by omega) (fun h => by have := hO _ h; omega)]; simp [List.getD]
        obtain ⟨g1, g2⟩ := hr.met (s' := ⟨s.h ++ [u64 i], s.a, s.v⟩) (u' := ⟨u.h ++ [u64 i], u.a, u.v⟩) hv (jn 4 u.h.length) (by omega) cp8 (by omega) rfl (by rw [hlen]; omega) rfl
        refine ⟨jn 4 u.h.length, ⟨u.h ++ [u64 i], u.a, u.v⟩, _, by rw [if_neg hso, if_pos (by omega)], ?_, hu, g2, by simp [hnd]⟩
        rw [cp, if_neg (by simp [hso])]
        dsimp only
        rw [g1]
        dsimp only
        rw [if_neg (by decide), if_pos rfl, cp8, Int.toNat_natCast, hw]
    · -- a complex number
      have hnd : pm.nd (.mk 4 n i re im l) = 2 := by simp [pm.nd]
      rw [hnd] at hm hmu
      rw [put, if_neg (by decide), if_neg (by decide), if_pos rfl, if_pos (by omega), if_pos (by omega)] at hput
      injection hput with e1 e2
      injection e2 with _ e2
      subst e1 e2
      have hlen : (s.h ++ [re] ++ [im]).length = s.h.length + 2 := by simp
      dsimp only at hB hL
      rw [hlen] at hB hL
      have c8 : jn 5 (s.h.length : Int) % 8 = 5 := jn_tag _ _ (by decide) (by decide)
      have cp8 : jn 5 (s.h.length : Int) / 8 = (s.h.length : Int) := jn_val _ _ (by decide) (by decide) (by omega) (by omega)
      have hw : L.getD s.h.length 0 = re := by rw [hL s.h.length (by omega) (fun h => by have := hO _ h; omega)]; simp [List.getD]
      have hw1 : L.getD (s.h.length + 1) 0 = im := by rw [hL (s.h.length + 1) (by omega) (fun h => by have := hO _ h; omega)]; simp [List.getD]
      obtain ⟨g1, g2⟩ := hr.met (s' := ⟨s.h ++ [re] ++ [im], s.a, s.v⟩) (u' := ⟨u.h ++ [re] ++ [im], u.a, u.v⟩) hv (jn 5 u.h.length) (by omega) cp8 (by omega) rfl (by rw [hlen]; omega) rfl
      refine ⟨jn 5 u.h.length, ⟨u.h ++ [re] ++ [im], u.a, u.v⟩, _, by rw [put, if_neg (by decide), if_neg (by decide), if_pos rfl, if_pos (by omega), if_pos (by omega)], ?_, hu, g2, by simp [hnd]⟩
      rw [cp, if_neg (by simp)]
      dsimp only
      rw [g1]
      dsimp only
      rw [if_neg (by decide), if_neg (by decide), if_pos rfl, cp8, Int.toNat_natCast, hw, hw1]
    · -- a compound
      obtain ⟨hn, hl1, hl2⟩ : n.size ≤ 200 ∧ 1 ≤ l.length ∧ l.length ≤ 20 := by
        rcases chkk hc with h | ⟨h, _⟩ | h | h | ⟨_, h1, h2, h3⟩
        · omega
        · omega
        · omega
        · omega
        · exact ⟨h1, h2, h3⟩
      have hsz : size (.mk 5 n i re im l) = 1 + sizeL l := by simp [size]
      have hnd : pm.nd (.mk 5 n i re im l) = 1 + l.length + ndL l := by simp [pm.nd]
      rw [hsz] at ha
      rw [hnd] at hm hmu
      obtain ⟨q1, q2, q3, q4, q5⟩ := name_ok hn (show s.a.length < 4096 by omega)
      obtain ⟨b, hb, hb1⟩ := nx_pre s.a n
      have hl1' : (s.h ++ [jn 6 (nv s.a n * 256 + l.length)]).length = s.h.length + 1 := by simp
      obtain ⟨m1, m2, m3, m4⟩ := more_room m l.length (s.h ++ [jn 6 (nv s.a n * 256 + l.length)]) (by rw [hl1']; omega)
      have mp := (Pre.add s.h [jn 6 (nv s.a n * 256 + l.length)]).trans (more_pre m l.length _)
      rw [more_vrs m _ _ (by rw [hl1']; omega)] at m2 m3 m4 mp
      rw [put, if_neg (by decide), if_neg (by decide), if_neg (by decide), if_neg (by decide), if_pos q1, if_pos (by omega), more_vrs m _ _ (by rw [hl1']; omega)] at hput
      obtain ⟨h1, hh1⟩ : ∃ h1, h1 = vrs l.length (s.h ++ [jn 6 (nv s.a n * 256 + l.length)]) := ⟨_, rfl⟩
      rw [← hh1] at m2 m3 m4 mp hput
      dsimp only at m2 m3 m4 mp hput
      rw [if_pos rfl] at hput
      rw [hl1'] at m2 m3 m4
      have hv1 : Vs (fun q => O q ∨ (s.h.length + 1 ≤ q ∧ q < s.h.length + 1 + l.length)) ⟨h1, nx s.a n, s.v⟩ := by
        refine ⟨fun j c e => ?_, hv.nd, hv.inj⟩
        obtain ⟨p, x1, x2, x3, x4⟩ := hv.cell j c e
        exact ⟨p, x1, fun h => by rcases h with h | h; exact x2 h; omega, by show p < h1.length; omega, (mp.2 p x3).trans x4⟩
      have hO1 : ∀ q, (O q ∨ (s.h.length + 1 ≤ q ∧ q < s.h.length + 1 + l.length)) → q < (⟨h1, nx s.a n, s.v⟩ : S).h.length := fun q h => by show q < h1.length; rcases h with h | h; have := hO q h; omega; omega
      have hcs1 : ∀ q, s.h.length + 1 ≤ q → q < s.h.length + 1 + l.length → (O q ∨ (s.h.length + 1 ≤ q ∧ q < s.h.length + 1 + l.length)) ∧ (⟨h1, nx s.a n, s.v⟩ : S).h.getD q 0 = (q : Int) * 8 := fun q a1 a2 => ⟨Or.inr ⟨a1, a2⟩, m4 q a1 a2⟩
      have hm1 : ((⟨h1, nx s.a n, s.v⟩ : S).h.length : Int) + ndL l + 1 ≤ m := by show (h1.length : Int) + _ + 1 ≤ m; omega
      have ha1 : (⟨h1, nx s.a n, s.v⟩ : S).a.length + sizeL l ≤ 4096 := by show (nx s.a n).length + _ ≤ _; rw [hb, List.length_append]; omega
      obtain ⟨s3, e3, k3, l3, b3, hb3⟩ := putL_ok m l (sound_args hs rfl) (s.h.length + 1) ⟨h1, nx s.a n, s.v⟩ _ hv1 hO1 hcs1 hm1 ha1
      rw [e3] at hput
      dsimp only at hput
      rw [if_pos rfl] at hput
      injection hput with e1 e2
      injection e2 with _ e2
      subst e1 e2
      dsimp only at l3 hb3
      obtain ⟨bA, hbA⟩ := hA
      obtain ⟨g1, g2, g3⟩ := nv_pre (A := A) hn (show s.a.length < 4096 by omega) (hbA.trans (by rw [hb3, List.append_assoc]))
      have c8 : jn 1 (s.h.length : Int) % 8 = 1 := jn_tag _ _ (by decide) (by decide)
      have cp8 : jn 1 (s.h.length : Int) / 8 = (s.h.length : Int) := jn_val _ _ (by decide) (by decide) (by omega) (by omega)
      have hw : L.getD s.h.length 0 = jn 6 (nv s.a n * 256 + l.length) := by
        rw [hL s.h.length (by omega) (fun h => by have := hO _ h; omega), k3 s.h.length (by show _ < h1.length; omega) (by omega)]
        show h1.getD s.h.length 0 = _
        rw [m3 s.h.length (by omega)]
        simp [List.getD]
      have hlu : (u.h ++ [jn 6 (nv s.a n * 256 + l.length)]).length = u.h.length + 1 := by simp
      have hlv : (vrs l.length (u.h ++ [jn 6 (nv s.a n * 256 + l.length)])).length = u.h.length + 1 + l.length := by rw [vrs_len, hlu]
      obtain ⟨r1, r2⟩ := hr.met (s' := ⟨h1, nx s.a n, s.v⟩) (u' := ⟨vrs l.length (u.h ++ [jn 6 (nv s.a n * 256 + l.length)]), A, u.v⟩) hv (jn 1 u.h.length) (by omega) cp8 (by omega) rfl (by show _ < h1.length; omega) rfl
      obtain ⟨u3, M3, p3, c3, a3, r3, z3⟩ := simL (m := m) (m' := m') l ih (s.h.length + 1) (u.h.length + 1) ⟨h1, nx s.a n, s.v⟩ _ s3 ⟨vrs l.length (u.h ++ [jn 6 (nv s.a n * 256 + l.length)]), A, u.v⟩ _ (sound_args hs rfl) hv1 hO1 hcs1 hm1 ha1 e3
        (fun q hq hn9 => hL q hq fun h => hn9 ⟨Or.inl h, by have := hO q h; omega⟩) hB ⟨bA, hbA⟩ rfl (by show ((vrs _ _).length : Int) + _ + 1 ≤ _; rw [hlv]; omega) r2
      refine ⟨jn 1 u.h.length, u3, M3, ?_, ?_, a3, r3, ?_⟩
      · rw [put, if_neg (by decide), if_neg (by decide), if_neg (by decide), if_neg (by decide), hu, g3, if_pos rfl, if_pos (by omega), g1, g2, more_vrs m' _ _ (by rw [hlu]; omega)]
        dsimp only
        rw [if_pos rfl, p3]
        dsimp only
        rw [if_pos rfl]
      · rw [cp, if_neg (by simp)]
        dsimp only
        rw [r1]
        dsimp only
        rw [if_neg (by decide), if_neg (by decide), if_neg (by decide), cp8, Int.toNat_natCast, hw, c3]
      · rw [hnd]
        have : (⟨vrs l.length (u.h ++ [jn 6 (nv s.a n * 256 + l.length)]), A, u.v⟩ : S).h.length = u.h.length + 1 + l.length := hlv
        omega
end Go.Proofs.Ythableojkjhicaa.cpy
