/- Cells copied: what a copy makes, step by step; of what Put laid the copy is what Put lays. The mathematics (no program). Package copy's small calls: place, tagged, get, deref, size; the copier beside what it copies from and to, as an object. Package copy: first, what is met for the first time is laid but for its arguments. Package copy: node, what a cell stands for is laid but for its arguments. -/
import Derived.Test.YthableojkjhicaaPutM
import Derived.Test.YthableojkjhicaaPPA
import Derived.Test.YthableojkjhicaaUnB
namespace Go.Proofs.Ythableojkjhicaa.cpy
set_option linter.unusedVariables false
open Go.ChangeShapes Go.WideShapes Go.ChangeAt Go.RowKit
open Go.Proofs.Ythableojkjhicaa.tm Go.Proofs.Ythableojkjhicaa.hp Go.Proofs.Ythableojkjhicaa.cel Go.Proofs.Ythableojkjhicaa.pm
open Go.Proofs.Ythableojkjhicaa.atm (nv ne nx)
/-- it takes no cell -/
def leaf : Tm → Prop
  | .mk k _ i _ _ _ => k = 2 ∨ (k = 3 ∧ so i = true)
instance (t : Tm) : Decidable (leaf t) := by cases t; unfold leaf; exact inferInstance
def vrs : Nat → List Int → List Int
  | 0, l => l
  | n + 1, l => vrs n (l ++ [(l.length : Int) * 8])
theorem more_vrs (m : Int) : ∀ (n : Nat) (l : List Int), (l.length : Int) + n ≤ m → more m n l = (0, vrs n l)
  | 0, l, _ => rfl
  | n + 1, l, h => by
    rw [more, if_pos (by omega), vrs]
    exact more_vrs m n _ (by simp; omega)
theorem vrs_len : ∀ (n : Nat) (l : List Int), (vrs n l).length = l.length + n
  | 0, l => rfl
  | n + 1, l => by rw [vrs, vrs_len n]; simp; omega
mutual
/-- a term that the cell c stands for among the cells l is copied; own: its place, if it has one (else below 0). The state: cells there, names, what stands for what was met -/
def cp (l : List Int) : Tm → Int → Int → S → Int × S
  | .mk k n i re im ts, c, own, s =>
    if k = 2 ∨ (k = 3 ∧ so i = true) then (c, s) else
    match pm.look s.v c with
    | some d => (d, s)
    | none =>
      if k = 1 then (if own < 0 then ((s.h.length : Int) * 8, ⟨s.h ++ [(s.h.length : Int) * 8], s.a, s.v ++ [(c, (s.h.length : Int) * 8)]⟩) else (own * 8, ⟨s.h, s.a, s.v ++ [(c, own * 8)]⟩))
      else if k = 3 then (jn 4 s.h.length, ⟨s.h ++ [l.getD (c / 8).toNat 0], s.a, s.v ++ [(c, jn 4 s.h.length)]⟩)
      else if k = 4 then (jn 5 s.h.length, ⟨s.h ++ [l.getD (c / 8).toNat 0] ++ [l.getD ((c / 8).toNat + 1) 0], s.a, s.v ++ [(c, jn 5 s.h.length)]⟩)
      else (jn 1 s.h.length, cpL l ts ((c / 8).toNat + 1) (s.h.length + 1) ⟨vrs ts.length (s.h ++ [l.getD (c / 8).toNat 0]), s.a, s.v ++ [(c, jn 1 s.h.length)]⟩)
def cpL (l : List Int) : List Tm → Nat → Nat → S → S
  | [], _, _, s => s
  | t :: r, y, x, s => match cp l t (l.getD y 0) x s with
    | (d, s') => cpL l r (y + 1) (x + 1) ⟨s'.h.set x d, s'.a, s'.v⟩
end
/-! ### what is met is met -/
theorem cpL_grow (l : List Int) : ∀ (ts : List Tm), (∀ x ∈ ts, ∀ c own s, ∃ b, (cp l x c own s).2.v = s.v ++ b) → ∀ y x s, ∃ b, (cpL l ts y x s).v = s.v ++ b
  | [], _, y, x, s => ⟨[], by rw [cpL]; simp⟩
  | t :: r, h, y, x, s => by
    obtain ⟨b, hb⟩ := h t (by simp) (l.getD y 0) x s
    rw [cpL]
    generalize cp l t (l.getD y 0) x s = P at *
    obtain ⟨d, s'⟩ := P
    dsimp only at hb ⊢
    obtain ⟨b2, hb2⟩ := cpL_grow l r (fun x hx => h x (by simp [hx])) (y + 1) (x + 1) ⟨s'.h.set x d, s'.a, s'.v⟩
    exact ⟨b ++ b2, by rw [hb2]; show s'.v ++ b2 = _; rw [hb, List.append_assoc]⟩
theorem cp_grow (l : List Int) (t : Tm) : ∀ c own s, ∃ b, (cp l t c own s).2.v = s.v ++ b := by
  induction t using Tm.ind with
  | h k n i re im ts ih =>
    intro c own s
    rw [cp]
    by_cases hl : k = 2 ∨ (k = 3 ∧ so i = true)
    · rw [if_pos hl]; exact ⟨[], by simp⟩
    rw [if_neg hl]
    cases hm : pm.look s.v c with
    | some d => exact ⟨[], by simp⟩
    | none =>
      dsimp only
      by_cases k1 : k = 1
      · rw [if_pos k1]; split <;> exact ⟨_, rfl⟩
      rw [if_neg k1]
      by_cases k3 : k = 3
      · rw [if_pos k3]; exact ⟨_, rfl⟩
      rw [if_neg k3]
      by_cases k4 : k = 4
      · rw [if_pos k4]; exact ⟨_, rfl⟩
      rw [if_neg k4]
      obtain ⟨b, hb⟩ := cpL_grow l ts ih ((c / 8).toNat + 1) (s.h.length + 1) ⟨vrs ts.length (s.h ++ [l.getD (c / 8).toNat 0]), s.a, s.v ++ [(c, jn 1 s.h.length)]⟩
      exact ⟨_, hb.trans (List.append_assoc _ _ _)⟩
theorem cp_met (l : List Int) (t : Tm) (c own : Int) (s : S) (hl : ¬ leaf t) : pm.look (cp l t c own s).2.v c = some (cp l t c own s).1 := by
  obtain ⟨k, n, i, re, im, ts⟩ := t
  rw [cp]
  have hl : ¬ (k = 2 ∨ (k = 3 ∧ so i = true)) := hl
  rw [if_neg hl]
  cases hm : pm.look s.v c with
  | some d => exact hm
  | none =>
    dsimp only
    by_cases k1 : k = 1
    · rw [if_pos k1]; split <;> exact look_new hm
    rw [if_neg k1]
    by_cases k3 : k = 3
    · rw [if_pos k3]; exact look_new hm
    rw [if_neg k3]
    by_cases k4 : k = 4
    · rw [if_pos k4]; exact look_new hm
    rw [if_neg k4]
    obtain ⟨b, hb⟩ := cpL_grow l ts (fun x _ => cp_grow l x) ((c / 8).toNat + 1) (s.h.length + 1) ⟨vrs ts.length (s.h ++ [l.getD (c / 8).toNat 0]), s.a, s.v ++ [(c, jn 1 s.h.length)]⟩
    dsimp only at hb ⊢
    rw [hb]
    exact look_add (look_new hm)
/-- met, or no cell's: nothing turns -/
theorem cp_again (l : List Int) (t : Tm) (c d own own' : Int) (s s' : S) (h : cp l t c own s = (d, s')) (s2 : S) (hv : s2.v = s'.v) : cp l t c own' s2 = (d, s2) := by
  have hm := cp_met l t c own s
  rw [h] at hm
  obtain ⟨k, n, i, re, im, ts⟩ := t
  by_cases hl : k = 2 ∨ (k = 3 ∧ so i = true)
  · rw [cp, if_pos hl] at h ⊢
    injection h with h1 h2
    rw [h1]
  · rw [cp, if_neg hl, hv, hm hl]
/-! ### names that are there -/
theorem nv_pre {a b A : List ByteArray} {n : ByteArray} (hn : n.size ≤ 200) (ha : a.length < 4096) (hA : A = nx a n ++ b) : nv A n = nv a n ∧ nx A n = A ∧ ne A n = 0 := by
  have g1 : ¬ 200 < n.size := by omega
  have g2 : ¬ 4096 ≤ a.length := by omega
  have hmem : n ∈ A := by
    rw [hA]; unfold atm.nx; rw [if_neg g1]
    split
    · rename_i h; exact List.mem_append_left _ h
    · simp
  have e1 : nv A n = A.idxOf n := by unfold atm.nv; rw [if_neg g1, if_pos hmem]
  refine ⟨?_, by unfold atm.nx; rw [if_neg g1, if_pos hmem], by unfold atm.ne; rw [if_neg g1, if_pos hmem]⟩
  rw [e1, hA]
  unfold atm.nv atm.nx
  rw [if_neg g1, if_neg g1]
  by_cases h : n ∈ a
  · rw [if_pos h, if_pos h, List.idxOf_append, if_pos h]
  · rw [if_neg h, if_neg h, if_neg g2, if_neg g2, List.append_assoc, List.idxOf_append, if_neg h]; simp
/-! ### arguments by themselves -/
theorem RepL.less {O O' : Nat → Prop} {s : S} (ho : ∀ q, O' q → O q) : ∀ (l : List Tm) (p : Nat), RepL O s l p → RepL O' s l p
  | [], _, _ => by rw [RepL]; trivial
  | t :: r, p, hr => by
    rw [RepL] at hr ⊢
    exact ⟨fun q => hr.1 (ho _ q), hr.2.1, Rep.less ho _ _ hr.2.2.1, RepL.less ho r _ hr.2.2.2⟩
/-- behind an argument's setting -/
theorem arg_ok {m : Int} {t : Tm} {p : Nat} {s s1 : S} {O : Nat → Prop} {c : Int} (hO : ∀ q, O q → q < s.h.length) (hcp : O p ∧ s.h.getD p 0 = (p : Int) * 8) (ok : Ok m O t p s c s1) :
    s1.h.length = s.h.length + pm.nd t ∧ Vs (fun q => O q ∧ q ≠ p) ⟨s1.h.set p c, s1.a, s1.v⟩ ∧ Rep (fun q => O q ∧ q ≠ p) ⟨s1.h.set p c, s1.a, s1.v⟩ t c := by
  have hp0 : p < s.h.length := hO p hcp.1
  have hlen : s1.h.length = s.h.length + pm.nd t := by
    have := ok.len
    by_cases k1 : t.kind = 1
    · rw [if_pos k1, if_neg (by omega)] at this
      have : pm.nd t = 0 := by obtain ⟨k, n, i, re, im, l⟩ := t; simp only [Tm.kind] at k1; subst k1; simp [pm.nd]
      omega
    · rw [if_neg k1] at this; exact this
  have hp1 : p < s1.h.length := by omega
  refine ⟨hlen, ?_⟩
  rcases ok.rep with ⟨p', k1, ep, ec, vs', lk⟩ | ⟨vs', rp⟩
  · have hpp : p = p' := by omega
    subst hpp
    have hx2 : Ext (fun q => O q ∧ q ≠ p) s1 ⟨s1.h.set p c, s1.a, s1.v⟩ := by
      refine ⟨⟨by simp, fun q hq _ => ?_⟩, ⟨[], by simp⟩, ⟨[], by simp⟩⟩
      show (s1.h.set p c).getD q 0 = _
      rw [getD_set hp1]
      split
      · rename_i e; subst e
        rw [ok.pre.2 q hp0, hcp.2, ec]
      · rfl
    refine ⟨vs'.ext hx2 rfl, ?_⟩
    obtain ⟨k, n, i, re, im, l⟩ := t
    simp only [Tm.kind] at k1
    subst k1
    rw [Rep]; simpa [Tm.int] using lk
  · have hx2 : Ext O s1 ⟨s1.h.set p c, s1.a, s1.v⟩ := by
      refine ⟨⟨by simp, fun q hq ho => ?_⟩, ⟨[], by simp⟩, ⟨[], by simp⟩⟩
      show (s1.h.set p c).getD q 0 = _
      rw [getD_set hp1, if_neg (fun e => ho (by rw [e]; exact hcp.1))]
    exact ⟨(vs'.ext hx2 rfl).less fun q h => h.1, Rep.less (fun q h => h.1) _ _ (Rep.ext hx2 _ _ rp)⟩
theorem putL_ok (m : Int) : ∀ (l : List Tm), (∀ x ∈ l, sound x = true) → ∀ (p : Nat) (s : S) (O : Nat → Prop), Vs O s → (∀ q, O q → q < s.h.length) → (∀ q, p ≤ q → q < p + l.length → O q ∧ s.h.getD q 0 = (q : Int) * 8) → (s.h.length : Int) + ndL l + 1 ≤ m → s.a.length + sizeL l ≤ 4096 →
    ∃ s', putL m l p s = (0, s') ∧ (∀ q, q < s.h.length → ¬ (p ≤ q ∧ q < p + l.length) → s'.h.getD q 0 = s.h.getD q 0) ∧ s'.h.length = s.h.length + ndL l ∧ (∃ b, s'.a = s.a ++ b) := by
  intro l
  induction l with
  | nil => intro _ p s O _ _ _ _ _; exact ⟨s, by rw [putL], fun _ _ _ => rfl, by simp [ndL], [], by simp⟩
  | cons t r ih =>
    intro hss p s O hv hO hcs hm ha
    have hcp := hcs p (Nat.le_refl _) (by simp)
    simp only [ndL] at hm
    simp only [sizeL] at ha
    obtain ⟨c, s1, e1, ok⟩ := put_ok m t p s O (hss t (by simp)) hv hO (Or.inr ⟨p, rfl, hcp⟩) (by omega) (by omega)
    obtain ⟨hlen, hv2, hr2⟩ := arg_ok hO hcp ok
    have hp0 : p < s.h.length := hO p hcp.1
    have hp1 : p < s1.h.length := by omega
    have hs2 : (s1.h.set p c).length = s1.h.length := by simp
    obtain ⟨b1, hb1, hb2⟩ := ok.a
    obtain ⟨s3, e3, k3, l3, b3, hb3⟩ := ih (fun x hx => hss x (by simp [hx])) (p + 1) ⟨s1.h.set p c, s1.a, s1.v⟩ (fun q => O q ∧ q ≠ p) hv2
      (fun q h => by show q < (s1.h.set p c).length; rw [hs2]; have := hO q h.1; omega)
      (fun q h1 h2 => by
        have h3 := hcs q (by omega) (by simp; omega)
        refine ⟨⟨h3.1, by omega⟩, ?_⟩
        show (s1.h.set p c).getD q 0 = _
        rw [getD_set hp1, if_neg (by omega), ok.pre.2 q (hO q h3.1)]; exact h3.2)
      (by show ((s1.h.set p c).length : Int) + _ + 1 ≤ m; rw [hs2]; omega) (by show s1.a.length + _ ≤ _; rw [hb1, List.length_append]; omega)
    refine ⟨s3, ?_, fun q hq hn => ?_, ?_, b1 ++ b3, ?_⟩
    · rw [putL, e1]; dsimp only; rw [if_pos rfl]; exact e3
    · rw [k3 q (by show q < (s1.h.set p c).length; rw [hs2]; omega) (fun h => hn ⟨by omega, by simp; omega⟩)]
      show (s1.h.set p c).getD q 0 = _
      rw [getD_set hp1, if_neg (fun e => hn ⟨by omega, by simp; omega⟩), ok.pre.2 q hq]
    · rw [l3]; show (s1.h.set p c).length + _ = _; rw [hs2, hlen]; simp only [ndL]; omega
    · rw [hb3]; show s1.a ++ b3 = _; rw [hb1, List.append_assoc]
/-! ### of what Put laid the copy is what Put lays -/
/-- Put's state where it is copied from (s), Put's state there (u), what was met (M) -/
structure Rel (B : Nat) (s u : S) (M : List (Int × Int)) : Prop where
  vk : ∀ i c, pm.look s.v i = some c → ∃ d, pm.look M c = some d ∧ pm.look u.v i = some d
  nk : ∀ i, pm.look s.v i = none → pm.look u.v i = none
  mv : ∀ c d, pm.look M c = some d → c % 8 = 0 → ∃ i, pm.look s.v i = some c
  mp : ∀ c d, pm.look M c = some d → c % 8 ≠ 0 → c / 8 < (s.h.length : Int) ∨ (B : Int) ≤ c / 8
theorem Rel.turn {B : Nat} {s u s' u' : S} {M : List (Int × Int)} (h : Rel B s u M) (e1 : s'.v = s.v) (e2 : u'.v = u.v) (hl : s.h.length ≤ s'.h.length) : Rel B s' u' M :=
  ⟨fun i c hi => by rw [e1] at hi; rw [e2]; exact h.vk i c hi, fun i hi => by rw [e1] at hi; rw [e2]; exact h.nk i hi, fun c d hc h8 => by rw [e1]; exact h.mv c d hc h8, fun c d hc h8 => (h.mp c d hc h8).imp (fun x => by omega) id⟩
/-- a number, a compound is met -/
theorem Rel.met {B : Nat} {O : Nat → Prop} {s u s' : S} {M : List (Int × Int)} (h : Rel B s u M) (hv : Vs O s) {c : Int} (d : Int) (h8 : c % 8 ≠ 0) (hc : c / 8 = (s.h.length : Int)) (hB : s.h.length < B) (e1 : s'.v = s.v) (hl : s.h.length < s'.h.length) {u' : S} (e2 : u'.v = u.v) :
    pm.look M c = none ∧ Rel B s' u' (M ++ [(c, d)]) := by
  have hn : pm.look M c = none := by
    cases e : pm.look M c with
    | none => rfl
    | some d' => have := h.mp c d' e h8; omega
  refine ⟨hn, fun i x hi => ?_, fun i hi => by rw [e1] at hi; rw [e2]; exact h.nk i hi, fun x d' hx h0 => ?_, fun x d' hx h0 => ?_⟩
  · rw [e1] at hi
    obtain ⟨d', g1, g2⟩ := h.vk i x hi
    exact ⟨d', look_add g1, by rw [e2]; exact g2⟩
  · rw [e1]
    by_cases e : c = x
    · subst e; exact absurd h0 h8
    · rw [look_old e] at hx; exact h.mv x d' hx h0
  · by_cases e : c = x
    · subst e; left; omega
    · rw [look_old e] at hx; exact (h.mp x d' hx h0).imp (fun y => by omega) id
/-- a variable is met -/
theorem Rel.new {B : Nat} {s u s' u' : S} {M : List (Int × Int)} (h : Rel B s u M) {i c d : Int} (hi : pm.look s.v i = none) (hn : pm.look M c = none) (h8 : c % 8 = 0) (e1 : s'.v = s.v ++ [(i, c)]) (hl : s.h.length ≤ s'.h.length) (e2 : u'.v = u.v ++ [(i, d)]) : Rel B s' u' (M ++ [(c, d)]) := by
  refine ⟨fun j x hj => ?_, fun j hj => ?_, fun x d' hx h0 => ?_, fun x d' hx h0 => ?_⟩
  · rw [e1] at hj
    rw [e2]
    by_cases e : i = j
    · subst e
      rw [look_new hi] at hj
      injection hj with hj
      subst hj
      exact ⟨d, look_new hn, look_new (h.nk i hi)⟩
    · rw [look_old e] at hj
      obtain ⟨d', g1, g2⟩ := h.vk j x hj
      exact ⟨d', look_add g1, look_add g2⟩
  · rw [e1] at hj
    rw [e2]
    by_cases e : i = j
    · subst e; rw [look_new hi] at hj; cases hj
    · rw [look_old e] at hj ⊢; exact h.nk j hj
  · rw [e1]
    by_cases e : c = x
    · subst e; exact ⟨i, look_new hi⟩
    · rw [look_old e] at hx
      obtain ⟨j, hj⟩ := h.mv x d' hx h0
      exact ⟨j, look_add hj⟩
  · by_cases e : c = x
    · subst e; exact absurd h8 h0
    · rw [look_old e] at hx; exact (h.mp x d' hx h0).imp (fun y => by omega) id
def SimT (m m' : Int) (L : List Int) (B : Nat) (A : List ByteArray) (t : Tm) : Prop :=
  ∀ (own own' : Int) (s : S) (O : Nat → Prop) (c : Int) (s' u : S) (M : List (Int × Int)), sound t = true → Vs O s → (∀ q, O q → q < s.h.length) → (own < 0 ∨ ∃ p : Nat, own = p ∧ O p ∧ s.h.getD p 0 = (p : Int) * 8) → (s.h.length : Int) + pm.nd t + 1 ≤ m → s.a.length + size t ≤ 4096 →
    put m t own s = (c, 0, s') → (∀ q, q < s'.h.length → ¬ O q → L.getD q 0 = s'.h.getD q 0) → s'.h.length ≤ B → (∃ b, A = s'.a ++ b) → u.a = A → (u.h.length : Int) + pm.nd t + 1 ≤ m' → Rel B s u M →
    ∃ d u' M', put m' t own' u = (d, 0, u') ∧ cp L t c own' ⟨u.h, A, M⟩ = (d, ⟨u'.h, A, M'⟩) ∧ u'.a = A ∧ Rel B s' u' M' ∧ u'.h.length ≤ u.h.length + pm.nd t + (if own' < 0 then 1 else 0)
theorem simL {m m' : Int} {L : List Int} {B : Nat} {A : List ByteArray} : ∀ (l : List Tm), (∀ x ∈ l, SimT m m' L B A x) → ∀ (p x : Nat) (s : S) (O : Nat → Prop) (s' u : S) (M : List (Int × Int)), (∀ x ∈ l, sound x = true) → Vs O s → (∀ q, O q → q < s.h.length) → (∀ q, p ≤ q → q < p + l.length → O q ∧ s.h.getD q 0 = (q : Int) * 8) → (s.h.length : Int) + ndL l + 1 ≤ m → s.a.length + sizeL l ≤ 4096 →
    putL m l p s = (0, s') → (∀ q, q < s'.h.length → ¬ (O q ∧ ¬ (p ≤ q ∧ q < p + l.length)) → L.getD q 0 = s'.h.getD q 0) → s'.h.length ≤ B → (∃ b, A = s'.a ++ b) → u.a = A → (u.h.length : Int) + ndL l + 1 ≤ m' → Rel B s u M →
    ∃ u' M', putL m' l x u = (0, u') ∧ cpL L l p x ⟨u.h, A, M⟩ = ⟨u'.h, A, M'⟩ ∧ u'.a = A ∧ Rel B s' u' M' ∧ u'.h.length ≤ u.h.length + ndL l := by
  intro l
  induction l with
  | nil =>
    intro _ p x s O s' u M _ _ _ _ _ _ hp _ _ _ hu _ hr
    rw [putL] at hp
    injection hp with _ hp
    subst hp
    exact ⟨u, M, by rw [putL], by rw [cpL], hu, hr, by simp [ndL]⟩
  | cons t r ih =>
    intro hx p x s O s' u M hss hv hO hcs hm ha hput hL hB hA hu hmu hr
    have hcp := hcs p (Nat.le_refl _) (by simp)
    simp only [ndL] at hm hmu
    simp only [sizeL] at ha
    obtain ⟨c, s1, e1, ok⟩ := put_ok m t p s O (hss t (by simp)) hv hO (Or.inr ⟨p, rfl, hcp⟩) (by omega) (by omega)
    obtain ⟨hlen, hv2, hr2⟩ := arg_ok hO hcp ok
    have hp0 : p < s.h.length := hO p hcp.1
    have hp1 : p < s1.h.length := by omega
    have hs2 : (s1.h.set p c).length = s1.h.length := by simp
    obtain ⟨b1, hb1, hb2⟩ := ok.a
    have hO2 : ∀ q, (O q ∧ q ≠ p) → q < (⟨s1.h.set p c, s1.a, s1.v⟩ : S).h.length := fun q h => by show q < (s1.h.set p c).length; rw [hs2]; have := hO q h.1; omega
    have hc2 : ∀ q, p + 1 ≤ q → q < p + 1 + r.length → (O q ∧ q ≠ p) ∧ (⟨s1.h.set p c, s1.a, s1.v⟩ : S).h.getD q 0 = (q : Int) * 8 := fun q h1 h2 => by
      have h3 := hcs q (by omega) (by simp; omega)
      refine ⟨⟨h3.1, by omega⟩, ?_⟩
      show (s1.h.set p c).getD q 0 = _
      rw [getD_set hp1, if_neg (by omega), ok.pre.2 q (hO q h3.1)]; exact h3.2
    have hm2 : ((⟨s1.h.set p c, s1.a, s1.v⟩ : S).h.length : Int) + ndL r + 1 ≤ m := by show ((s1.h.set p c).length : Int) + _ + 1 ≤ m; rw [hs2]; omega
    have ha2 : (⟨s1.h.set p c, s1.a, s1.v⟩ : S).a.length + sizeL r ≤ 4096 := by show s1.a.length + _ ≤ _; rw [hb1, List.length_append]; omega
    obtain ⟨s3, e3, k3, l3, b3, hb3⟩ := putL_ok m r (fun x hx => hss x (by simp [hx])) (p + 1) ⟨s1.h.set p c, s1.a, s1.v⟩ (fun q => O q ∧ q ≠ p) hv2 hO2 hc2 hm2 ha2
    have hs3 : s3 = s' := by
      rw [putL, e1] at hput
      dsimp only at hput
      rw [if_pos rfl, e3] at hput
      injection hput
    subst hs3
    have l3' : s3.h.length = s1.h.length + ndL r := by rw [l3]; show (s1.h.set p c).length + _ = _; rw [hs2]
    have hcell : s3.h.getD p 0 = c := by
      rw [k3 p (by show p < (s1.h.set p c).length; rw [hs2]; exact hp1) (by omega)]
      show (s1.h.set p c).getD p 0 = c
      rw [getD_set hp1, if_pos rfl]
    obtain ⟨bA, hbA⟩ := hA
    obtain ⟨d, u1, M1, p1, c1, a1, r1, z1⟩ := hx t (by simp) p x s O c s1 u M (hss t (by simp)) hv hO (Or.inr ⟨p, rfl, hcp⟩) (by omega) (by omega) e1 (fun q hq hn => by
        rw [hL q (by omega) (fun h => hn h.1)]
        have hne : q ≠ p := fun e => hn (e ▸ hcp.1)
        rw [k3 q (by show q < (s1.h.set p c).length; rw [hs2]; exact hq) (fun h => hn (hcs q (by omega) (by simp; omega)).1)]
        show (s1.h.set p c).getD q 0 = _
        rw [getD_set hp1, if_neg hne]) (by omega) ⟨b3 ++ bA, by rw [hbA, hb3]; show s1.a ++ b3 ++ bA = _; rw [List.append_assoc]⟩ hu (by omega) hr
    rw [if_neg (by omega)] at z1
    have hu2 : (u1.h.set x d).length = u1.h.length := by simp
    obtain ⟨u3, M3, p3, c3, a3, r3, z3⟩ := ih (fun y hy => hx y (by simp [hy])) (p + 1) (x + 1) ⟨s1.h.set p c, s1.a, s1.v⟩ (fun q => O q ∧ q ≠ p) s3 ⟨u1.h.set x d, u1.a, u1.v⟩ M1 (fun x hx => hss x (by simp [hx])) hv2 hO2 hc2 hm2 ha2 e3
      (fun q hq hn => hL q hq fun h => hn ⟨⟨h.1, fun e => h.2 ⟨by omega, by simp; omega⟩⟩, fun e => h.2 ⟨by omega, by simp; omega⟩⟩) hB ⟨bA, hbA⟩ a1 (by show ((u1.h.set x d).length : Int) + _ + 1 ≤ m'; rw [hu2]; omega) (r1.turn rfl rfl (by show s1.h.length ≤ (s1.h.set p c).length; rw [hs2]; exact Nat.le_refl _))
    refine ⟨u3, M3, ?_, ?_, a3, r3, ?_⟩
    · rw [putL, p1]; dsimp only; rw [if_pos rfl]; exact p3
    · rw [cpL, hL p (by omega) (fun h => h.2 ⟨Nat.le_refl _, by simp⟩), hcell, c1]
      dsimp only
      exact c3
    · have : (⟨u1.h.set x d, u1.a, u1.v⟩ : S).h.length = u1.h.length := hu2
      simp only [ndL]; omega
theorem sim {m m' : Int} {L : List Int} {B : Nat} {A : List ByteArray} (hB8 : (B : Int) ≤ 1048576) (t : Tm) : SimT m m' L B A t := by
  induction t using Tm.ind with
  | h k n i re im l ih =>
    intro own own' s O c s' u M hs hv hO hown hm ha hput hL hB hA hu hmu hr
    have hc := sound_chk hs
    have hk := chk_kind hc
    simp only [Tm.kind] at hk
    have hsh : (s.h.length : Int) ≤ m := by omega
    rcases hk with rfl | rfl | rfl | rfl | rfl
    · -- a variable
      have hnd : pm.nd (.mk 1 n i re im l) = 0 := by simp [pm.nd]
      rw [hnd] at hm hmu
      rw [put, if_neg (by decide), if_neg (by decide), if_neg (by decide), if_pos rfl] at hput
      have hput' : put m' (.mk 1 n i re im l) own' u = (match pm.look u.v i with | some c => (c, 0, u) | none => if own' < 0 then (if (u.h.length : Int) < m' then ((u.h.length : Int) * 8, 0, ⟨u.h ++ [(u.h.length : Int) * 8], u.a, u.v ++ [(i, (u.h.length : Int) * 8)]⟩) else (0, 4, u)) else (own' * 8, 0, ⟨u.h, u.a, u.v ++ [(i, own' * 8)]⟩)) := by
        rw [put, if_neg (by decide), if_neg (by decide), if_neg (by decide), if_pos rfl]
        cases pm.look u.v i <;> rfl
      have hcp : ∀ s9 : S, cp L (.mk 1 n i re im l) c own' s9 = (match pm.look s9.v c with | some d => (d, s9) | none => if own' < 0 then ((s9.h.length : Int) * 8, ⟨s9.h ++ [(s9.h.length : Int) * 8], s9.a, s9.v ++ [(c, (s9.h.length : Int) * 8)]⟩) else (own' * 8, ⟨s9.h, s9.a, s9.v ++ [(c, own' * 8)]⟩)) := fun s9 => by
        rw [cp, if_neg (show ¬ ((1 : Int) = 2 ∨ ((1 : Int) = 3 ∧ so i = true)) by simp)]
        simp only [if_true]
      rw [hput']
      cases hl : pm.look s.v i with
      | some c0 =>
        rw [hl] at hput
        injection hput with e1 e2
        injection e2 with _ e2
        subst e1 e2
        obtain ⟨d, g1, g2⟩ := hr.vk i _ hl
        refine ⟨d, u, M, by rw [g2], ?_, hu, hr, by omega⟩
        rw [hcp]
        dsimp only
        rw [g1]
      | none =>
        rw [hl] at hput
        have hcn : ∀ c0 : Int, (c0 = (s.h.length : Int) * 8 ∨ ∃ p : Nat, c0 = (p : Int) * 8 ∧ O p) → pm.look M c0 = none := fun c0 h0 => by
          cases e : pm.look M c0 with
          | none => rfl
          | some d =>
            obtain ⟨j, hj⟩ := hr.mv c0 d e (by rcases h0 with h0 | ⟨p, h0, _⟩ <;> omega)
            obtain ⟨p', x1, x2, x3, x4⟩ := hv.cell j c0 hj
            rcases h0 with h0 | ⟨p, h0, hp⟩
            · omega
            · have : p = p' := by omega
              subst this; exact absurd hp x2
        have hpc : pm.look M c = none ∧ c % 8 = 0 ∧ s'.v = s.v ++ [(i, c)] ∧ s.h.length ≤ s'.h.length := by
          dsimp only at hput
          by_cases h0 : own < 0
          · rw [if_pos h0] at hput
            rw [if_pos (by omega)] at hput
            injection hput with e1 e2
            injection e2 with _ e2
            subst e1 e2
            exact ⟨hcn _ (Or.inl rfl), by omega, rfl, by simp⟩
          · rw [if_neg h0] at hput
            obtain ⟨p, rfl, hp, _⟩ := hown.resolve_left h0
            injection hput with e1 e2
            injection e2 with _ e2
            subst e1 e2
            exact ⟨hcn _ (Or.inr ⟨p, rfl, hp⟩), by omega, rfl, by simp⟩
        obtain ⟨p1, p2, p3, p4⟩ := hpc
        rw [hr.nk i hl, hcp]
        dsimp only
        rw [p1]
        dsimp only
        by_cases h0 : own' < 0
        · rw [if_pos h0, if_pos h0, if_pos (by omega), if_pos h0]
          exact ⟨_, _, _, rfl, rfl, hu, hr.new (u' := ⟨u.h ++ [(u.h.length : Int) * 8], u.a, u.v ++ [(i, (u.h.length : Int) * 8)]⟩) hl p1 p2 p3 p4 rfl, by simp⟩
        · rw [if_neg h0, if_neg h0, if_neg h0]
          exact ⟨_, _, _, rfl, rfl, hu, hr.new (u' := ⟨u.h, u.a, u.v ++ [(i, own' * 8)]⟩) hl p1 p2 p3 p4 rfl, by simp⟩
    · -- an atom
      have hn : n.size ≤ 200 := by simp only [chk] at hc; simp at hc; omega
      have h1 : 1 ≤ size (.mk 2 n i re im l) := by rw [size]; omega
      obtain ⟨q1, q2, q3, q4, q5⟩ := name_ok hn (show s.a.length < 4096 by omega)
      rw [put, if_pos rfl, if_pos q1] at hput
      injection hput with e1 e2
      injection e2 with _ e2
      subst e1 e2
      obtain ⟨b, hb⟩ := hA
      obtain ⟨g1, g2, g3⟩ := nv_pre hn (show s.a.length < 4096 by omega) hb
      refine ⟨jn 2 (nv s.a n), u, M, ?_, ?_, hu, hr.turn rfl rfl (Nat.le_refl _), by omega⟩
      · rw [put, if_pos rfl, hu, g3, if_pos rfl, g1, g2, ← hu]
      · rw [cp, if_pos (Or.inl rfl)]
    · -- a number
      rw [put, if_neg (by decide), if_pos rfl] at hput
      rw [put, if_neg (by decide), if_pos rfl]
      by_cases hso : so i = true
      · rw [if_pos hso] at hput
        injection hput with e1 e2
        injection e2 with _ e2
        subst e1 e2
        refine ⟨sv i, u, M, by rw [if_pos hso], ?_, hu, hr, by omega⟩
        rw [cp, if_pos (Or.inr ⟨rfl, hso⟩)]
      · have hnd : pm.nd (.mk 3 n i re im l) = 1 := by simp [pm.nd, hso]
        rw [hnd] at hm hmu
        rw [if_neg hso, if_pos (by omega)] at hput
        injection hput with e1 e2
        injection e2 with _ e2
        subst e1 e2
        have hlen : (s.h ++ [u64 i]).length = s.h.length + 1 := by simp
        dsimp only at hB hL
        rw [hlen] at hB hL
        have c8 : jn 4 (s.h.length : Int) % 8 = 4 := jn_tag _ _ (by decide) (by decide)
        have cp8 : jn 4 (s.h.length : Int) / 8 = (s.h.length : Int) := jn_val _ _ (by decide) (by decide) (by omega) (by omega)
        have hw : L.getD s.h.length 0 = u64 i := by rw [hL s.h.length (by omega) (fun h => by have := hO _ h; omega)]; simp [List.getD]
        obtain ⟨g1, g2⟩ := hr.met (s' := ⟨s.h ++ [u64 i], s.a, s.v⟩) (u' := ⟨u.h ++ [u64 i], u.a, u.v⟩) hv (jn 4 u.h.length) (by omega) cp8 (by omega) rfl (by rw [hlen]; omega) rfl
        refine ⟨jn 4 u.h.length, ⟨u.h ++ [u64 i], u.a, u.v⟩, _, by rw [if_neg hso, if_pos (by omega)], ?_, hu, g2, by simp [hnd]⟩
        rw [cp, if_neg (by simp [hso])]
        dsimp only
        rw [g1]
        dsimp only
        rw [if_neg (by decide), if_pos rfl, cp8, Int.toNat_natCast, hw]
    · -- a complex number
      have hnd : pm.nd (.mk 4 n i re im l) = 2 := by simp [pm.nd]
      rw [hnd] at hm hmu
      rw [put, if_neg (by decide), if_neg (by decide), if_pos rfl, if_pos (by omega), if_pos (by omega)] at hput
      injection hput with e1 e2
      injection e2 with _ e2
      subst e1 e2
      have hlen : (s.h ++ [re] ++ [im]).length = s.h.length + 2 := by simp
      dsimp only at hB hL
      rw [hlen] at hB hL
      have c8 : jn 5 (s.h.length : Int) % 8 = 5 := jn_tag _ _ (by decide) (by decide)
      have cp8 : jn 5 (s.h.length : Int) / 8 = (s.h.length : Int) := jn_val _ _ (by decide) (by decide) (by omega) (by omega)
      have hw : L.getD s.h.length 0 = re := by rw [hL s.h.length (by omega) (fun h => by have := hO _ h; omega)]; simp [List.getD]
      have hw1 : L.getD (s.h.length + 1) 0 = im := by rw [hL (s.h.length + 1) (by omega) (fun h => by have := hO _ h; omega)]; simp [List.getD]
      obtain ⟨g1, g2⟩ := hr.met (s' := ⟨s.h ++ [re] ++ [im], s.a, s.v⟩) (u' := ⟨u.h ++ [re] ++ [im], u.a, u.v⟩) hv (jn 5 u.h.length) (by omega) cp8 (by omega) rfl (by rw [hlen]; omega) rfl
      refine ⟨jn 5 u.h.length, ⟨u.h ++ [re] ++ [im], u.a, u.v⟩, _, by rw [put, if_neg (by decide), if_neg (by decide), if_pos rfl, if_pos (by omega), if_pos (by omega)], ?_, hu, g2, by simp [hnd]⟩
      rw [cp, if_neg (by simp)]
      dsimp only
      rw [g1]
      dsimp only
      rw [if_neg (by decide), if_neg (by decide), if_pos rfl, cp8, Int.toNat_natCast, hw, hw1]
    · -- a compound
      obtain ⟨hn, hl1, hl2⟩ : n.size ≤ 200 ∧ 1 ≤ l.length ∧ l.length ≤ 20 := by
        rcases chkk hc with h | ⟨h, _⟩ | h | h | ⟨_, h1, h2, h3⟩
        · omega
        · omega
        · omega
        · omega
        · exact ⟨h1, h2, h3⟩
      have hsz : size (.mk 5 n i re im l) = 1 + sizeL l := by simp [size]
      have hnd : pm.nd (.mk 5 n i re im l) = 1 + l.length + ndL l := by simp [pm.nd]
      rw [hsz] at ha
      rw [hnd] at hm hmu
      obtain ⟨q1, q2, q3, q4, q5⟩ := name_ok hn (show s.a.length < 4096 by omega)
      obtain ⟨b, hb, hb1⟩ := nx_pre s.a n
      have hl1' : (s.h ++ [jn 6 (nv s.a n * 256 + l.length)]).length = s.h.length + 1 := by simp
      obtain ⟨m1, m2, m3, m4⟩ := more_room m l.length (s.h ++ [jn 6 (nv s.a n * 256 + l.length)]) (by rw [hl1']; omega)
      have mp := (Pre.add s.h [jn 6 (nv s.a n * 256 + l.length)]).trans (more_pre m l.length _)
      rw [more_vrs m _ _ (by rw [hl1']; omega)] at m2 m3 m4 mp
      rw [put, if_neg (by decide), if_neg (by decide), if_neg (by decide), if_neg (by decide), if_pos q1, if_pos (by omega), more_vrs m _ _ (by rw [hl1']; omega)] at hput
      obtain ⟨h1, hh1⟩ : ∃ h1, h1 = vrs l.length (s.h ++ [jn 6 (nv s.a n * 256 + l.length)]) := ⟨_, rfl⟩
      rw [← hh1] at m2 m3 m4 mp hput
      dsimp only at m2 m3 m4 mp hput
      rw [if_pos rfl] at hput
      rw [hl1'] at m2 m3 m4
      have hv1 : Vs (fun q => O q ∨ (s.h.length + 1 ≤ q ∧ q < s.h.length + 1 + l.length)) ⟨h1, nx s.a n, s.v⟩ := by
        refine ⟨fun j c e => ?_, hv.nd, hv.inj⟩
        obtain ⟨p, x1, x2, x3, x4⟩ := hv.cell j c e
        exact ⟨p, x1, fun h => by rcases h with h | h; exact x2 h; omega, by show p < h1.length; omega, (mp.2 p x3).trans x4⟩
      have hO1 : ∀ q, (O q ∨ (s.h.length + 1 ≤ q ∧ q < s.h.length + 1 + l.length)) → q < (⟨h1, nx s.a n, s.v⟩ : S).h.length := fun q h => by show q < h1.length; rcases h with h | h; have := hO q h; omega; omega
      have hcs1 : ∀ q, s.h.length + 1 ≤ q → q < s.h.length + 1 + l.length → (O q ∨ (s.h.length + 1 ≤ q ∧ q < s.h.length + 1 + l.length)) ∧ (⟨h1, nx s.a n, s.v⟩ : S).h.getD q 0 = (q : Int) * 8 := fun q a1 a2 => ⟨Or.inr ⟨a1, a2⟩, m4 q a1 a2⟩
      have hm1 : ((⟨h1, nx s.a n, s.v⟩ : S).h.length : Int) + ndL l + 1 ≤ m := by show (h1.length : Int) + _ + 1 ≤ m; omega
      have ha1 : (⟨h1, nx s.a n, s.v⟩ : S).a.length + sizeL l ≤ 4096 := by show (nx s.a n).length + _ ≤ _; rw [hb, List.length_append]; omega
      obtain ⟨s3, e3, k3, l3, b3, hb3⟩ := putL_ok m l (sound_args hs rfl) (s.h.length + 1) ⟨h1, nx s.a n, s.v⟩ _ hv1 hO1 hcs1 hm1 ha1
      rw [e3] at hput
      dsimp only at hput
      rw [if_pos rfl] at hput
      injection hput with e1 e2
      injection e2 with _ e2
      subst e1 e2
      dsimp only at l3 hb3
      obtain ⟨bA, hbA⟩ := hA
      obtain ⟨g1, g2, g3⟩ := nv_pre (A := A) hn (show s.a.length < 4096 by omega) (hbA.trans (by rw [hb3, List.append_assoc]))
      have c8 : jn 1 (s.h.length : Int) % 8 = 1 := jn_tag _ _ (by decide) (by decide)
      have cp8 : jn 1 (s.h.length : Int) / 8 = (s.h.length : Int) := jn_val _ _ (by decide) (by decide) (by omega) (by omega)
      have hw : L.getD s.h.length 0 = jn 6 (nv s.a n * 256 + l.length) := by
        rw [hL s.h.length (by omega) (fun h => by have := hO _ h; omega), k3 s.h.length (by show _ < h1.length; omega) (by omega)]
        show h1.getD s.h.length 0 = _
        rw [m3 s.h.length (by omega)]
        simp [List.getD]
      have hlu : (u.h ++ [jn 6 (nv s.a n * 256 + l.length)]).length = u.h.length + 1 := by simp
      have hlv : (vrs l.length (u.h ++ [jn 6 (nv s.a n * 256 + l.length)])).length = u.h.length + 1 + l.length := by rw [vrs_len, hlu]
      obtain ⟨r1, r2⟩ := hr.met (s' := ⟨h1, nx s.a n, s.v⟩) (u' := ⟨vrs l.length (u.h ++ [jn 6 (nv s.a n * 256 + l.length)]), A, u.v⟩) hv (jn 1 u.h.length) (by omega) cp8 (by omega) rfl (by show _ < h1.length; omega) rfl
      obtain ⟨u3, M3, p3, c3, a3, r3, z3⟩ := simL (m := m) (m' := m') l ih (s.h.length + 1) (u.h.length + 1) ⟨h1, nx s.a n, s.v⟩ _ s3 ⟨vrs l.length (u.h ++ [jn 6 (nv s.a n * 256 + l.length)]), A, u.v⟩ _ (sound_args hs rfl) hv1 hO1 hcs1 hm1 ha1 e3
        (fun q hq hn9 => hL q hq fun h => hn9 ⟨Or.inl h, by have := hO q h; omega⟩) hB ⟨bA, hbA⟩ rfl (by show ((vrs _ _).length : Int) + _ + 1 ≤ _; rw [hlv]; omega) r2
      refine ⟨jn 1 u.h.length, u3, M3, ?_, ?_, a3, r3, ?_⟩
      · rw [put, if_neg (by decide), if_neg (by decide), if_neg (by decide), if_neg (by decide), hu, g3, if_pos rfl, if_pos (by omega), g1, g2, more_vrs m' _ _ (by rw [hlu]; omega)]
        dsimp only
        rw [if_pos rfl, p3]
        dsimp only
        rw [if_pos rfl]
      · rw [cp, if_neg (by simp)]
        dsimp only
        rw [r1]
        dsimp only
        rw [if_neg (by decide), if_neg (by decide), if_neg (by decide), cp8, Int.toNat_natCast, hw, c3]
      · rw [hnd]
        have : (⟨vrs l.length (u.h ++ [jn 6 (nv s.a n * 256 + l.length)]), A, u.v⟩ : S).h.length = u.h.length + 1 + l.length := hlv
        omega
end Go.Proofs.Ythableojkjhicaa.cpy
namespace Go.Proofs.Ythableojkjhicaa.cpy
open Go.ChangeShapes Go.WideShapes Go.ChangeAt Go.RowKit Go.Maps
open Go.Proofs.Ythableojkjhicaa.kp Go.Proofs.Ythableojkjhicaa.cel Go.Proofs.Ythableojkjhicaa.hp Go.Proofs.Ythableojkjhicaa.ob Go.Proofs.Ythableojkjhicaa.tm Go.Proofs.Ythableojkjhicaa.pm
open Go.Proofs.Ythableojkjhicaa.rpt (HB frHB zeroC)
set_option linter.unusedVariables false
/-! ### what was met, in memory -/
abbrev CU (i : Int) : Lit := .int .u64 i
theorem CU_ne {i j : Int} (h : i ≠ j) : CU i ≠ CU j := fun e => h (by injection e)
theorem lawU : Keyed Try.prog 23 := int_keyed Try.underlying23
def VMU (D : DataW Unit) (v : List (Int × Int)) : Prop := ∀ i : Int, has D (CU i) = (pm.look v i).isSome ∧ D.atKey (CU i) (.lit (.int .u64 0)) = .lit (.int .u64 ((pm.look v i).getD 0))
theorem VMU.nil : VMU (.map []) [] := fun i => by simp [has, DataW.atKey, pm.look]
theorem VMU.put {D : DataW Unit} {v : List (Int × Int)} {i c : Int} (h : VMU D v) (hD : IsMap D) (hi : pm.look v i = none) : VMU (D.put (CU i) (.lit (.int .u64 c))) (v ++ [(i, c)]) := by
  intro j
  by_cases e : j = i
  · subst e
    rw [has_put_same hD (by simp [WideAt.IsKeyLit]), atKey_put_same hD (by simp [WideAt.IsKeyLit]), look_new hi]; simp
  · rw [has_put_other (CU_ne e), atKey_put_other (CU_ne e), look_old (fun h => e h.symm)]
    exact h j
def VU (mb : Nat) (v : List (Int × Int)) : Ob := fun w N => (∃ D, w.ownsMap Try.prog 23 (plainElem (H := Unit) Try.prog 23) mb v.length D ∧ VMU D v ∧ Maps.size D = v.length) ∧ ∀ k, N k ↔ k = mb
theorem mapU_keep {w w' : World} {mb n : Nat} {D : DataW Unit} (h : w.ownsMap Try.prog 23 (plainElem (H := Unit) Try.prog 23) mb n D) (hb : w'.heap[mb]? = w.heap[mb]?) : w'.ownsMap Try.prog 23 (plainElem (H := Unit) Try.prog 23) mb n D := by
  obtain ⟨es, clock, hmb, q⟩ := h
  exact ⟨es, clock, hb.trans hmb, q⟩
theorem frVU {mb : Nat} {v : List (Int × Int)} : Fr (VU mb v) where
  lt := by
    rintro w N ⟨⟨D, h, _⟩, f⟩ k hk
    rw [(f k).1 hk]; exact h.lt
  keep := by
    rintro w w' N F ⟨⟨D, h, hv⟩, f⟩ k hd
    exact ⟨⟨D, mapU_keep h (k.block mb h.lt (hd mb ((f mb).2 rfl))), hv⟩, f⟩
theorem sizeU_new {w : World} {mb n : Nat} {D : DataW Unit} {v : List (Int × Int)} {i c : Int} (hD : w.ownsMap Try.prog 23 (plainElem (H := Unit) Try.prog 23) mb n D) (hv : VMU D v) (hi : pm.look v i = none) (hz : Maps.size D = v.length) : Maps.size (D.put (CU i) (.lit (.int .u64 c))) = (v ++ [(i, c)]).length := by
  rw [size_put (hD.tidy lawU), (hv i).1, hi, hz]
  simp
/-! ### where it is copied from and to -/
structure Env (p q : Nat) (l : List Int) (m : Int) (b : Nat) (E : List Int → Ob) : Prop where
  fr : ∀ T, Fr (E T)
  ml : m ≤ 1048576
  ll : l.length ≤ 1048576
  lw : ∀ c ∈ l, W64 c
  get : ∀ {T : List Int} {w : World} {N : Nat → Prop}, E T w N → ∀ n : Nat, n < l.length → Calls Try.prog 85 #[.pointer (some ⟨p, 0, none⟩), .int .i64 (n : Int)] w fun e w' => e = .returned (.tuple #[.int .u64 (l.getD n 0), .bool true]) ∧ w = w'
  len : ∀ {T : List Int} {w : World} {N : Nat → Prop}, E T w N → Calls Try.prog 22 #[.pointer (some ⟨q, 0, none⟩)] w fun e w' => e = .returned (.int .i64 (T.length : Int)) ∧ w = w'
  push : ∀ {T : List Int} {w : World} {N : Nat → Prop}, E T w N → ∀ u : Int, W64 u → (T.length : Int) < m → Calls Try.prog 79 #[.pointer (some ⟨q, 0, none⟩), .int .u64 u] w fun e w' => e = .returned (.tuple #[.int .i64 (T.length : Int), .int .i64 0]) ∧ Nx (E (T ++ [u])) w N w'
  var : ∀ {T : List Int} {w : World} {N : Nat → Prop}, E T w N → (T.length : Int) < m → Calls Try.prog 50 #[.pointer (some ⟨q, 0, none⟩)] w fun e w' => e = .returned (.tuple #[.int .i64 (T.length : Int), .int .i64 0]) ∧ Nx (E (T ++ [(T.length : Int) * 8])) w N w'
  set : ∀ {T : List Int} {w : World} {N : Nat → Prop}, E T w N → ∀ (x : Nat) (c : Int), b ≤ x → x < T.length → W64 c → Calls Try.prog 61 #[.pointer (some ⟨q, 0, none⟩), .int .i64 (x : Int), .int .u64 c] w fun e w' => e = .returned (.bool true) ∧ Nx (E (T.set x c)) w N w'
/-- the copier's block -/
abbrev CPB (p : Nat) (e : Int) (q mb : Nat) (n : Int) : Obj := .cells #[.pointer (some ⟨p, 0, none⟩), .int .i64 e, .pointer (some ⟨q, 0, none⟩), .map (some mb), .int .i64 n] 115 (0, 0)
def CB (E : List Int → Ob) (p q mb pb : Nat) (e : Int) (s : S) (n : Int) : Ob := Tim (E s.h) (Tim (VU mb s.v) (Blk pb (CPB p e q mb n)))
/-- behind w0, beside C -/
def XC (w0 : World) (N : Nat → Prop) (E : List Int → Ob) (p q mb pb : Nat) (e : Int) (s : S) (n : Int) (C : Ob) (wr : World) : Prop := Nx (Tim (CB E p q mb pb e s n) C) w0 N wr
section
variable {E : List Int → Ob} {l : List Int} {m : Int} {b : Nat} {p q mb pb : Nat} {e : Int} {s s' : S} {n n' : Int} {C C' : Ob} {w w0 wr w' : World} {N K : Nat → Prop}
theorem frCB (v : Env p q l m b E) : Fr (CB E p q mb pb e s n) := (v.fr _).tim (frVU.tim (Fr.blk _ _))
theorem XC.below (v : Env p q l m b E) (fC : Fr C) (h : XC w0 N E p q mb pb e s n C wr) (bb : Below wr.heap.size wr w') : XC w0 N E p q mb pb e s n C w' := Nx.below ((frCB v).tim fC) h bb
theorem XC.drew (v : Env p q l m b E) (fC : Fr C) (h : XC w0 N E p q mb pb e s n C wr) : XC w0 N E p q mb pb e s n C wr.drew := h.below v fC (kp.bdr wr)
theorem XC.env (v : Env p q l m b E) (fC : Fr C) (h : XC w0 N E p q mb pb e s n C wr) : ∃ K, E s.h wr K ∧ ∀ T' w', Nx (E T') wr K w' → XC w0 N E p q mb pb e ⟨T', s.a, s.v⟩ n C w' := by
  obtain ⟨K, a, k, sub⟩ := h
  obtain ⟨K1, c, up⟩ := Tim.at1 fC a
  obtain ⟨K2, d, up2⟩ := Tim.at1 (frVU.tim (Fr.blk _ _)) c
  exact ⟨K2, d, fun T' w' nn => Nx.trans k sub (up (CB E p q mb pb e ⟨T', s.a, s.v⟩ n) _ (up2 _ _ nn))⟩
theorem XC.vars (v : Env p q l m b E) (fC : Fr C) (h : XC w0 N E p q mb pb e s n C wr) : ∃ D, wr.ownsMap Try.prog 23 (plainElem (H := Unit) Try.prog 23) mb s.v.length D ∧ VMU D s.v ∧ Maps.size D = s.v.length ∧
    (∀ v' D' w', w'.ownsMap Try.prog 23 (plainElem (H := Unit) Try.prog 23) mb v'.length D' → VMU D' v' → Maps.size D' = v'.length → wr.grownBy w' (some mb) → XC w0 N E p q mb pb e ⟨s.h, s.a, v'⟩ n C w') := by
  obtain ⟨K, a, k, sub⟩ := h
  obtain ⟨K1, c, up⟩ := Tim.at1 fC a
  obtain ⟨K2, d, up2⟩ := Tim.at2 (v.fr _) c
  obtain ⟨K3, ⟨⟨D, hD, hv, hz⟩, hF⟩, up3⟩ := Tim.at1 (Fr.blk _ _) d
  refine ⟨D, hD, hv, hz, fun v' D' w' h1 h2 h3 g => Nx.trans k sub (up (CB E p q mb pb e ⟨s.h, s.a, v'⟩ n) _ (up2 _ _ (up3 (VU mb v') _ ⟨K3, ⟨⟨D', h1, h2, h3⟩, hF⟩, Keep.of_grown g fun k e => (hF k).2 (by injection e with e; exact e.symm), fun _ => Or.inl⟩)))⟩
theorem XC.put (v : Env p q l m b E) (fC : Fr C) (h : XC w0 N E p q mb pb e s n C wr) {D : DataW Unit} (hD : wr.ownsMap Try.prog 23 (plainElem (H := Unit) Try.prog 23) mb s.v.length D) (hv : VMU D s.v) {i c : Int} (hi : pm.look s.v i = none) {w7 : World}
    (hm : w7.ownsMap Try.prog 23 (plainElem (H := Unit) Try.prog 23) mb (s.v.length + 1) (D.put (CU i) (.lit (.int .u64 c)))) (g : wr.grownBy w7 (some mb)) : XC w0 N E p q mb pb e ⟨s.h, s.a, s.v ++ [(i, c)]⟩ n C w7 := by
  obtain ⟨D', hD', hv', hz, up⟩ := h.vars v fC
  have hz2 : Maps.size D = s.v.length := by
    obtain ⟨es, clock, hb, _, _, rfl⟩ := hD
    obtain ⟨es', clock', hb', _, _, rfl⟩ := hD'
    rw [hb] at hb'
    injection hb' with e
    injection e with e _
    subst e
    exact hz
  exact up _ _ w7 (by rw [List.length_append]; exact hm) (hv.put hD.isMap hi) (sizeU_new hD hv hi hz2) g
theorem XC.blk (v : Env p q l m b E) (fC : Fr C) (h : XC w0 N E p q mb pb e s n C wr) : wr.heap[pb]? = some (CPB p e q mb n) ∧ ∀ n' w', kp.Keep (fun i => i = pb) wr w' → w'.heap[pb]? = some (CPB p e q mb n') → XC w0 N E p q mb pb e s n' C w' := by
  obtain ⟨K, a, k, sub⟩ := h
  obtain ⟨K1, c, up⟩ := Tim.at1 fC a
  obtain ⟨K2, d, up2⟩ := Tim.at2 (v.fr _) c
  obtain ⟨K3, g, up3⟩ := Tim.at2 frVU d
  refine ⟨g.1, fun n' w' hk hb => Nx.trans k sub (up (CB E p q mb pb e s n') _ (up2 _ _ (up3 _ _ ⟨K3, ⟨hb, g.2⟩, hk.mono fun i hi => (g.2 i).2 hi, fun _ => Or.inl⟩)))⟩
theorem XC.five (v : Env p q l m b E) (fC : Fr C) (h : XC w0 N E p q mb pb e s n C wr) : (wr.cell? ⟨pb, 0, none⟩ = some (.pointer (some ⟨p, 0, none⟩)) ∧ wr.cell? ⟨pb, 1, none⟩ = some (.int .i64 e) ∧ wr.cell? ⟨pb, 2, none⟩ = some (.pointer (some ⟨q, 0, none⟩)) ∧ wr.cell? ⟨pb, 3, none⟩ = some (.map (some mb)) ∧ wr.cell? ⟨pb, 4, none⟩ = some (.int .i64 n)) ∧ wr.frozen? ⟨pb, 4, none⟩ = false := by
  have h := (h.blk v fC).1
  refine ⟨⟨?_, ?_, ?_, ?_, ?_⟩, ?_⟩ <;> simp [World.cell?, World.frozen?, h]
theorem XC.open2 (v : Env p q l m b E) (h : XC w0 N E p q mb pb e s n C wr) : ∃ M, C wr M ∧ ∀ C' w', Nx C' wr M w' → XC w0 N E p q mb pb e s n C' w' := by
  obtain ⟨K, a, k, sub⟩ := h
  obtain ⟨M, c, up⟩ := Tim.at2 (frCB v) a
  exact ⟨M, c, fun C' w' nn => Nx.trans k sub (up C' w' nn)⟩
theorem XC.imp (h : XC w0 N E p q mb pb e s n C wr) (f : ∀ K, C wr K → C' wr K) : XC w0 N E p q mb pb e s n C' wr := by
  obtain ⟨K, a, k, sub⟩ := h
  exact ⟨K, a.map2 f, k, sub⟩
theorem XC.alloc (v : Env p q l m b E) (fC : Fr C) (h : XC w0 N E p q mb pb e s n C wr) (o : Obj) : XC w0 N E p q mb pb e s n (Tim C (Blk wr.heap.size o)) (wr.alloc o) := by
  obtain ⟨K, a, k, sub⟩ := h
  have f := (frCB (mb := mb) (pb := pb) (e := e) (s := s) (n := n) v).tim fC
  have hlt := f.lt a
  have a2 := f.below a (kp.ba wr o)
  refine ⟨fun i => K i ∨ i = wr.heap.size, Tim.right_ ⟨K, fun i => i = wr.heap.size, a2, ⟨kp.alloc_at wr o, fun _ => Iff.rfl⟩, fun i h1 h2 => by have := hlt i h1; omega, fun _ => Iff.rfl⟩, k.trans (F' := fun _ => False) (Keep.of_below (kp.ba wr o)) (fun _ h => h.elim), fun i hi => ?_⟩
  rcases hi with hi | hi
  · exact sub i hi
  · have := k.size; exact Or.inr (by omega)
/-! ### the calls -/
theorem ctagged_any (t n : Int) (w : World) (h0 : 0 ≤ t) (h1 : t ≤ 6) (h2 : 0 ≤ n) (h3 : n < 2305843009213693952) : Calls Try.prog 132 #[.int .i64 t, .int .i64 n] w fun e w' => e = .returned (.int .u64 (jn t n)) ∧ w = w' := by
  have hm := make_any t n w ⟨by omega, by omega⟩ ⟨h2, by omega⟩
  have e1 : mv t n = jn t n := by unfold mv; rw [if_pos ⟨h0, h1, h3⟩]
  have e2 : mo t n = true := decide_eq_true ⟨h0, h1, h3⟩
  have hcv : IntKind.u64.wrap n = n := by rw [IntKind.wrap_u64]; omega
  rw [e1, e2] at hm
  clear e1 e2
  go_enter Try.func132, Try.ntmps132
  go_wp2_with fail
  refine hm.mono ?_; rintro e w' ⟨rfl, rfl⟩
  go_wp2_with fail
  go_ret
  exact ⟨rfl, rfl⟩
theorem cplace_any (c : Int) (w : World) (h : W64 c) : Calls Try.prog 105 #[.int .u64 c] w fun e w' => e = .returned (.int .i64 (c / 8)) ∧ w = w' := by
  have hv := value_any c w h
  have hcv2 : wrap64 (c / 8) = c / 8 := by obtain ⟨h0, h1⟩ := h; unfold wrap64; omega
  go_enter Try.func105, Try.ntmps105
  go_wp2_with fail
  refine hv.mono ?_; rintro e w' ⟨rfl, rfl⟩
  go_wp2_with fail
  go_ret
  exact ⟨kp.ri hcv2, rfl⟩
theorem cget_any (v : Env p q l m b E) (fC : Fr C) (h : XC w0 N E p q mb pb (l.length : Int) s n C wr) (k : Nat) (hk : k < l.length) :
    Calls Try.prog 77 #[.pointer (some ⟨pb, 0, none⟩), .int .i64 (k : Int)] wr fun e w' => e = .returned (.tuple #[.int .u64 (l.getD k 0), .bool true]) ∧ wr = w' := by
  obtain ⟨⟨c0, c1, c2, c3, c4⟩, f4⟩ := h.five v fC
  obtain ⟨K, hE, _⟩ := h.env v fC
  have hg := v.get hE k hk
  have hge : (decide ((l.length : Int) ≤ (k : Int))) = false := decide_eq_false (by omega)
  have hge2 : (decide ((k : Int) ≥ (l.length : Int))) = false := decide_eq_false (by omega)
  have hlt : ¬ (l.length : Int) ≤ (k : Int) := by omega
  clear h hE v hk
  generalize (l.length : Int) = z at *
  generalize l.getD k 0 = x at *
  generalize (k : Int) = y at *
  go_enter Try.func77, Try.ntmps77
  go_wp2_with fail
  refine hg.mono ?_; rintro e w' ⟨rfl, rfl⟩
  go_wp2_with fail
  go_ret2
  exact ⟨rfl, rfl⟩
/-- what leads nowhere else -/
def Ends1 (l : List Int) (c : Int) : Prop := c % 8 ≠ 0 ∨ ∃ k : Nat, c = (k : Int) * 8 ∧ k < l.length ∧ l.getD k 0 = c
theorem cderef_ok (v : Env p q l m b E) (fC : Fr C) (h : XC w0 N E p q mb pb (l.length : Int) s n C wr) (c : Int) (hc : W64 c) (he : Ends1 l c) :
    Calls Try.prog 102 #[.pointer (some ⟨pb, 0, none⟩), .int .u64 c] wr fun e w' => e = .returned (.int .u64 c) ∧ wr = w' := by
  obtain ⟨⟨c0, c1, c2, c3, c4⟩, f4⟩ := h.five v fC
  have ht := tag_any c wr hc
  rcases he with he | ⟨k, hck, hk, hlk⟩
  · have hb : (c % 8 != 0) = true := by simpa using he
    clear h v hc he
    generalize (l.length : Int) = z at *
    generalize c % 8 = t at *
    go_enter Try.func102, Try.ntmps102
    go_wp2_with fail
    refine un.wp_scope_one (fun _ _ _ => False) rfl (fun _ _ _ h => h.elim) ?_
    intro dn
    refine ⟨0, ?_⟩
    clear dn
    go_wp2_with fail
    refine wp_label ?_
    go_wp2_with fail
    refine ht.mono ?_; rintro e w' ⟨rfl, rfl⟩
    go_wp2_with fail
    simp only [un.dj]
    change bodyPost _ _ _ Exit.ret _ _
    go_ret
    exact ⟨rfl, rfl⟩
  · have hpl := cplace_any c wr hc
    have hg := cget_any v fC h k hk
    have e8 : c % 8 = 0 := by omega
    have e9 : c / 8 = (k : Int) := by omega
    rw [e8] at ht
    rw [e9] at hpl
    rw [hlk] at hg
    have hz : ((l.length : Int) == 0) = false := by rw [beq_eq_false_iff_ne]; omega
    clear h v hc hlk e8 e9 hk
    generalize (l.length : Int) = z at *
    subst hck
    generalize (k : Int) * 8 = c at *
    generalize (k : Int) = y at *
    go_enter Try.func102, Try.ntmps102
    go_wp2_with fail
    refine un.wp_scope_one (fun _ _ _ => False) rfl (fun _ _ _ h => h.elim) ?_
    intro dn
    refine ⟨0, ?_⟩
    clear dn
    go_wp2_with fail
    refine wp_label ?_
    go_wp2_with fail
    refine ht.mono ?_; rintro e w' ⟨rfl, rfl⟩
    go_wp2_with fail
    refine hpl.mono ?_; rintro e w' ⟨rfl, rfl⟩
    go_wp2_with fail
    refine hg.mono ?_; rintro e w' ⟨rfl, rfl⟩
    go_wp2_with fail
    simp only [un.dj]
    change bodyPost _ _ _ Exit.ret _ _
    go_ret
    exact ⟨rfl, rfl⟩
set_option maxRecDepth 100000 in
set_option maxHeartbeats 1000000 in
theorem csize_0 (v : Env p q l m b E) (fC : Fr C) (h : XC w0 N E p q mb pb (l.length : Int) s n C wr) (c : Int) (k : Nat) (hck : c = (k : Int) * 8) (hk : k < l.length) (hlk : l.getD k 0 = c) :
    Calls Try.prog 103 #[.pointer (some ⟨pb, 0, none⟩), .int .u64 c] wr fun e w' => e = .returned (.tuple #[.int .i64 1, .bool true]) ∧ wr = w' := by
  have hll := v.ll
  have hc : W64 c := ⟨by omega, by omega⟩
  have ht := tag_any c wr hc
  have hpl := cplace_any c wr hc
  have hg := cget_any v fC h k hk
  have e8 : c % 8 = 0 := by omega
  have e9 : c / 8 = (k : Int) := by omega
  rw [e8] at ht
  rw [e9] at hpl
  rw [hlk] at hg
  clear h v hc hlk e8 e9 hk hll
  subst hck
  generalize (k : Int) * 8 = c at *
  generalize (k : Int) = y at *
  go_enter Try.func103, Try.ntmps103
  go_wp2_with fail
  refine ht.mono ?_; rintro e w' ⟨rfl, rfl⟩
  go_wp2_with fail
  refine hpl.mono ?_; rintro e w' ⟨rfl, rfl⟩
  go_wp2_with fail
  refine hg.mono ?_; rintro e w' ⟨rfl, rfl⟩
  go_wp2_with fail
  go_ret2
  exact ⟨by simp, rfl⟩
set_option maxRecDepth 100000 in
set_option maxHeartbeats 1000000 in
theorem csize_23 (c : Int) (hc : W64 c) (ht3 : c % 8 = 2 ∨ c % 8 = 3) :
    Calls Try.prog 103 #[.pointer (some ⟨pb, 0, none⟩), .int .u64 c] wr fun e w' => e = .returned (.tuple #[.int .i64 0, .bool true]) ∧ wr = w' := by
  have ht := tag_any c wr hc
  rcases ht3 with h3 | h3
  · rw [h3] at ht
    clear hc h3
    go_enter Try.func103, Try.ntmps103
    go_wp2_with fail
    refine ht.mono ?_; rintro e w' ⟨rfl, rfl⟩
    go_wp2_with fail
    go_ret2
    exact ⟨rfl, rfl⟩
  · rw [h3] at ht
    clear hc h3
    go_enter Try.func103, Try.ntmps103
    go_wp2_with fail
    refine ht.mono ?_; rintro e w' ⟨rfl, rfl⟩
    go_wp2_with fail
    go_ret2
    exact ⟨rfl, rfl⟩
set_option maxRecDepth 100000 in
set_option maxHeartbeats 1000000 in
theorem csize_45 (v : Env p q l m b E) (fC : Fr C) (h : XC w0 N E p q mb pb (l.length : Int) s n C wr) (k j : Nat) (hj : j = 1 ∨ j = 2) (hk : k + j ≤ l.length) :
    Calls Try.prog 103 #[.pointer (some ⟨pb, 0, none⟩), .int .u64 (jn ((j : Int) + 3) (k : Int))] wr fun e w' => e = .returned (.tuple #[.int .i64 (j : Int), .bool true]) ∧ wr = w' := by
  have hll := v.ll
  rcases hj with rfl | rfl
  · obtain ⟨c, hcc⟩ : ∃ c, c = jn (((1 : Nat) : Int) + 3) (k : Int) := ⟨_, rfl⟩
    have hc : W64 c := by rw [hcc]; exact jn_w _ (by decide) (by decide)
    have e8 : c % 8 = 4 := by rw [hcc]; exact jn_tag _ _ (by decide) (by decide)
    have e9 : c / 8 = (k : Int) := by rw [hcc]; exact jn_val _ _ (by decide) (by decide) (by omega) (by omega)
    have ht := tag_any c wr hc
    have hpl := cplace_any c wr hc
    have hg := cget_any v fC h k (by omega)
    have HG := Lib.hid (show ∀ x : Int, x = (k : Int) → Calls Try.prog 77 #[.pointer (some ⟨pb, 0, none⟩), .int .i64 x] wr fun e w' => e = .returned (.tuple #[.int .u64 (l.getD k 0), .bool true]) ∧ wr = w' from fun x hx => hx ▸ hg)
    clear hg
    rw [e8] at ht
    rw [e9] at hpl
    rw [← hcc]
    have hy : (k : Int) ≤ 1048576 := by omega
    have hy0 : 0 ≤ (k : Int) := by omega
    clear h v hc e8 e9 hk hll hcc
    generalize l.getD k 0 = u at *
    generalize (k : Int) = y at *
    go_enter Try.func103, Try.ntmps103
    go_wp2_with fail
    refine ht.mono ?_; rintro e w' ⟨rfl, rfl⟩
    go_wp2_with fail
    refine hpl.mono ?_; rintro e w' ⟨rfl, rfl⟩
    go_wp2_with fail
    refine (HG.out _ (by omega)).mono ?_; rintro e w' ⟨rfl, rfl⟩
    go_wp2_with fail
    go_ret2
    exact ⟨rfl, rfl⟩
  · obtain ⟨c, hcc⟩ : ∃ c, c = jn (((2 : Nat) : Int) + 3) (k : Int) := ⟨_, rfl⟩
    have hc : W64 c := by rw [hcc]; exact jn_w _ (by decide) (by decide)
    have e8 : c % 8 = 5 := by rw [hcc]; exact jn_tag _ _ (by decide) (by decide)
    have e9 : c / 8 = (k : Int) := by rw [hcc]; exact jn_val _ _ (by decide) (by decide) (by omega) (by omega)
    have ht := tag_any c wr hc
    have hpl := cplace_any c wr hc
    have hg := cget_any v fC h (k + 1) (by omega)
    rw [e8] at ht
    rw [e9] at hpl
    rw [← hcc]
    have hy : (k : Int) ≤ 1048576 := by omega
    have hy0 : 0 ≤ (k : Int) := by omega
    have HG := Lib.hid (show ∀ x : Int, x = (k : Int) + 1 → Calls Try.prog 77 #[.pointer (some ⟨pb, 0, none⟩), .int .i64 x] wr fun e w' => e = .returned (.tuple #[.int .u64 (l.getD (k + 1) 0), .bool true]) ∧ wr = w' from fun x hx => by rw [show x = ((k + 1 : Nat) : Int) by omega]; exact hg)
    clear hg
    clear h v hc e8 e9 hk hll hcc
    generalize l.getD (k + 1) 0 = u at *
    generalize (k : Int) = y at *
    go_enter Try.func103, Try.ntmps103
    go_wp2_with fail
    refine ht.mono ?_; rintro e w' ⟨rfl, rfl⟩
    go_wp2_with fail
    refine hpl.mono ?_; rintro e w' ⟨rfl, rfl⟩
    go_wp2_with fail
    refine (HG.out _ (by omega)).mono ?_; rintro e w' ⟨rfl, rfl⟩
    go_wp2_with fail
    go_ret2
    exact ⟨rfl, rfl⟩
set_option maxRecDepth 100000 in
set_option maxHeartbeats 1000000 in
theorem csize_1 (v : Env p q l m b E) (fC : Fr C) (h : XC w0 N E p q mb pb (l.length : Int) s n C wr) (k j a : Nat) (hj : 1 ≤ j ∧ j ≤ 20) (ha : a < 4096) (hk : k + j < l.length) (hf : l.getD k 0 = jn 6 ((a : Int) * 256 + j)) :
    Calls Try.prog 103 #[.pointer (some ⟨pb, 0, none⟩), .int .u64 (jn 1 (k : Int))] wr fun e w' => e = .returned (.tuple #[.int .i64 (1 + (j : Int)), .bool true]) ∧ wr = w' := by
  have hll := v.ll
  obtain ⟨c, hcc⟩ : ∃ c, c = jn 1 (k : Int) := ⟨_, rfl⟩
  have hc : W64 c := by rw [hcc]; exact jn_w _ (by decide) (by decide)
  have e8 : c % 8 = 1 := by rw [hcc]; exact jn_tag _ _ (by decide) (by decide)
  have e9 : c / 8 = (k : Int) := by rw [hcc]; exact jn_val _ _ (by decide) (by decide) (by omega) (by omega)
  have ht := tag_any c wr hc
  have hpl := cplace_any c wr hc
  have hg := cget_any v fC h k (by omega)
  have hg2 := cget_any v fC h (k + j) (by omega)
  rw [e8] at ht
  rw [e9] at hpl
  rw [← hcc]
  rw [hf] at hg
  have t1 : jn 6 ((a : Int) * 256 + j) % 8 = 6 := jn_tag _ _ (by decide) (by decide)
  have t2 : jn 6 ((a : Int) * 256 + j) / 8 = (a : Int) * 256 + j := jn_val _ _ (by decide) (by decide) (by omega) (by omega)
  have hfw : W64 (jn 6 ((a : Int) * 256 + j)) := jn_w _ (by decide) (by decide)
  have hp1 : pa (jn 6 ((a : Int) * 256 + j)) = (a : Int) := by unfold pa; rw [t1, t2]; split <;> omega
  have hp2 : pk (jn 6 ((a : Int) * 256 + j)) = (j : Int) := by unfold pk; rw [t1, t2]; split <;> omega
  have hpa := fun w => parts_any (jn 6 ((a : Int) * 256 + j)) w hfw
  rw [hp1, hp2] at hpa
  have hfu := fun w => functor_any (a : Int) (j : Int) w (by unfold I64; omega) (by unfold I64; omega)
  have hfo : fo (a : Int) (j : Int) = true := by unfold fo; exact decide_eq_true ⟨by omega, by omega, by omega, by omega⟩
  rw [hfo] at hfu
  have hy : (k : Int) ≤ 1048576 := by omega
  have hy0 : 0 ≤ (k : Int) := by omega
  have hj0 : 0 ≤ (j : Int) := by omega
  have hj2 : (j : Int) ≤ 20 := by omega
  have HG := Lib.hid (show ∀ x : Int, x = (k : Int) + (j : Int) → Calls Try.prog 77 #[.pointer (some ⟨pb, 0, none⟩), .int .i64 x] wr fun e w' => e = .returned (.tuple #[.int .u64 (l.getD (k + j) 0), .bool true]) ∧ wr = w' from fun x hx => by rw [show x = ((k + j : Nat) : Int) by omega]; exact hg2)
  clear hg2
  clear h v hc e8 e9 hk hll hcc hf t1 t2 hfw hp1 hp2 hfo ha hj
  generalize fv (a : Int) (j : Int) = fq at *
  generalize jn 6 ((a : Int) * 256 + j) = f at *
  generalize l.getD (k + j) 0 = u at *
  generalize (k : Int) = y at *
  generalize (j : Int) = z at *
  generalize (a : Int) = x at *
  go_enter Try.func103, Try.ntmps103
  go_wp2_with fail
  refine ht.mono ?_; rintro e w' ⟨rfl, rfl⟩
  go_wp2_with fail
  refine hpl.mono ?_; rintro e w' ⟨rfl, rfl⟩
  go_wp2_with fail
  refine hg.mono ?_; rintro e w' ⟨rfl, rfl⟩
  go_wp2_with fail
  refine (hpa _).mono ?_; rintro e w' ⟨rfl, rfl⟩
  go_wp2_with fail
  refine (hfu _).mono ?_; rintro e w' ⟨rfl, rfl⟩
  go_wp2_with fail
  refine hpl.mono ?_; rintro e w' ⟨rfl, rfl⟩
  go_wp2_with fail
  refine (HG.out _ (by omega)).mono ?_; rintro e w' ⟨rfl, rfl⟩
  go_wp2_with fail
  go_ret2
  exact ⟨rfl, rfl⟩
end
end Go.Proofs.Ythableojkjhicaa.cpy
namespace Go.Proofs.Ythableojkjhicaa.cpy
open Go.ChangeShapes Go.WideShapes Go.ChangeAt Go.RowKit Go.Maps
open Go.Proofs.Ythableojkjhicaa.kp Go.Proofs.Ythableojkjhicaa.cel Go.Proofs.Ythableojkjhicaa.hp Go.Proofs.Ythableojkjhicaa.ob Go.Proofs.Ythableojkjhicaa.tm Go.Proofs.Ythableojkjhicaa.pm
open Go.Proofs.Ythableojkjhicaa.rpt (HB frHB zeroC)
set_option linter.unusedVariables false
/-- the first i cells of what is laid -/
def fs (l : List Int) (tag : Int) (pl : Nat) : Nat → List Int → List Int
  | 0, T => T
  | i + 1, T => if tag = 0 ∨ (tag = 1 ∧ 0 < i) then fs l tag pl i T ++ [((fs l tag pl i T).length : Int) * 8] else fs l tag pl i T ++ [l.getD (pl + i) 0]
theorem fs_len (l : List Int) (tag : Int) (pl : Nat) (T : List Int) : ∀ i, (fs l tag pl i T).length = T.length + i
  | 0 => rfl
  | i + 1 => by rw [fs]; split <;> (rw [List.length_append, fs_len l tag pl T i]; simp; omega)
theorem fs_0 (l : List Int) (pl : Nat) (T : List Int) : fs l 0 pl 1 T = T ++ [(T.length : Int) * 8] := by rw [fs, if_pos (Or.inl rfl), fs]
theorem fs_4 (l : List Int) (pl : Nat) (T : List Int) : fs l 4 pl 1 T = T ++ [l.getD pl 0] := by rw [fs, if_neg (by simp), fs]; rfl
theorem fs_5 (l : List Int) (pl : Nat) (T : List Int) : fs l 5 pl 2 T = T ++ [l.getD pl 0] ++ [l.getD (pl + 1) 0] := by rw [fs, if_neg (by simp), fs, if_neg (by simp), fs]; rfl
theorem vrs_snoc : ∀ (n : Nat) (T : List Int), vrs (n + 1) T = vrs n T ++ [((vrs n T).length : Int) * 8]
  | 0, T => rfl
  | n + 1, T => by rw [vrs, vrs_snoc n, ← vrs]
theorem fs_1 (l : List Int) (pl : Nat) (T : List Int) : ∀ k, fs l 1 pl (k + 1) T = vrs k (T ++ [l.getD pl 0])
  | 0 => by rw [fs, if_neg (by simp), fs]; rfl
  | k + 1 => by rw [fs, if_pos (Or.inr ⟨rfl, by omega⟩), fs_1 l pl T k, ← vrs_snoc]
section
variable {E : List Int → Ob} {l : List Int} {m : Int} {b : Nat} {p q mb pb : Nat} {e : Int} {s s' : S} {n n' : Int} {C C' : Ob} {w w0 wr w' : World} {N K : Nat → Prop}
theorem cLen (v : Env p q l m b E) (fC : Fr C) (h : XC w0 N E p q mb pb e s n C wr) : Calls Try.prog 22 #[.pointer (some ⟨q, 0, none⟩)] wr fun e w' => e = .returned (.int .i64 (s.h.length : Int)) ∧ wr = w' := by
  obtain ⟨K, hE, _⟩ := h.env v fC
  exact v.len hE
theorem cVar (v : Env p q l m b E) (fC : Fr C) (h : XC w0 N E p q mb pb e s n C wr) (hm : (s.h.length : Int) < m) : Calls Try.prog 50 #[.pointer (some ⟨q, 0, none⟩)] wr fun e9 w' => e9 = .returned (.tuple #[.int .i64 (s.h.length : Int), .int .i64 0]) ∧ XC w0 N E p q mb pb e ⟨s.h ++ [(s.h.length : Int) * 8], s.a, s.v⟩ n C w' := by
  obtain ⟨K, hE, up⟩ := h.env v fC
  exact (v.var hE hm).mono fun e9 w' ⟨h1, h2⟩ => ⟨h1, up _ _ h2⟩
theorem cPush (v : Env p q l m b E) (fC : Fr C) (h : XC w0 N E p q mb pb e s n C wr) (u : Int) (hu : W64 u) (hm : (s.h.length : Int) < m) : Calls Try.prog 79 #[.pointer (some ⟨q, 0, none⟩), .int .u64 u] wr fun e9 w' => e9 = .returned (.tuple #[.int .i64 (s.h.length : Int), .int .i64 0]) ∧ XC w0 N E p q mb pb e ⟨s.h ++ [u], s.a, s.v⟩ n C w' := by
  obtain ⟨K, hE, up⟩ := h.env v fC
  exact (v.push hE u hu hm).mono fun e9 w' ⟨h1, h2⟩ => ⟨h1, up _ _ h2⟩
theorem cSet (v : Env p q l m b E) (fC : Fr C) (h : XC w0 N E p q mb pb e s n C wr) (x : Nat) (c : Int) (hb : b ≤ x) (hx : x < s.h.length) (hc : W64 c) : Calls Try.prog 61 #[.pointer (some ⟨q, 0, none⟩), .int .i64 (x : Int), .int .u64 c] wr fun e9 w' => e9 = .returned (.bool true) ∧ XC w0 N E p q mb pb e ⟨s.h.set x c, s.a, s.v⟩ n C w' := by
  obtain ⟨K, hE, up⟩ := h.env v fC
  exact (v.set hE x c hb hx hc).mono fun e9 w' ⟨h1, h2⟩ => ⟨h1, up _ _ h2⟩
/-- an argument's own cell -/
theorem cfirst_own (c k at_ : Int) (hc : W64 c) (h8 : c % 8 = 0) (h0 : 0 ≤ at_) (h1 : at_ < 1048576) :
    Calls Try.prog 104 #[.pointer (some ⟨pb, 0, none⟩), .int .u64 c, .int .i64 k, .int .i64 at_] wr fun e9 w' => e9 = .returned (.tuple #[.int .u64 (at_ * 8), .int .i64 0]) ∧ wr = w' := by
  have ht := tag_any c wr hc
  rw [h8] at ht
  have hg := ctagged_any 0 at_ wr (by decide) (by decide) h0 (by omega)
  rw [show jn 0 at_ = at_ * 8 by unfold jn; omega] at hg
  have hne : (at_ != -1) = true := by simp; omega
  clear hc h8 h0 h1
  generalize at_ * 8 = d at *
  go_enter Try.func104, Try.ntmps104
  go_wp2_with fail
  refine ht.mono ?_; rintro e w' ⟨rfl, rfl⟩
  go_wp2_with fail
  refine hg.mono ?_; rintro e w' ⟨rfl, rfl⟩
  go_wp2_with fail
  go_ret2
  exact ⟨rfl, rfl⟩
def FW (w0 : World) (N : Nat → Prop) (E : List Int → Ob) (p q mb pb : Nat) (e : Int) (l : List Int) (tag : Int) (pl k : Nat) (s : S) (n : Int) (C : Ob) (g : Nat) (iv : Value) (wr : World) : Prop :=
  ∃ i : Nat, i + g = k ∧ iv = .int .i64 (i : Int) ∧ XC w0 N E p q mb pb e ⟨fs l tag pl i s.h, s.a, s.v⟩ n C wr
set_option maxRecDepth 100000 in
set_option maxHeartbeats 4000000 in
theorem cfirst_any (v : Env p q l m b E) (fC : Fr C) (h : XC w0 N E p q mb pb (l.length : Int) s n C wr) (tag : Int) (pl k : Nat) (at_ : Int) (ht : (tag = 0 ∧ at_ = -1) ∨ tag = 1 ∨ tag = 4 ∨ tag = 5) (hk : pl + k ≤ l.length) (hm : (s.h.length : Int) + k ≤ m) :
    Calls Try.prog 104 #[.pointer (some ⟨pb, 0, none⟩), .int .u64 (jn tag (pl : Int)), .int .i64 (k : Int), .int .i64 at_] wr fun e9 w' => e9 = .returned (.tuple #[.int .u64 (jn tag (s.h.length : Int)), .int .i64 0]) ∧ XC w0 N E p q mb pb (l.length : Int) ⟨fs l tag pl k s.h, s.a, s.v⟩ n C w' := by
  have hll := v.ll
  have hml := v.ml
  have t0 : 0 ≤ tag ∧ tag ≤ 6 := by omega
  obtain ⟨c, hcc⟩ : ∃ c, c = jn tag (pl : Int) := ⟨_, rfl⟩
  have hc : W64 c := by rw [hcc]; exact jn_w _ t0.1 (by omega)
  have e8 : c % 8 = tag := by rw [hcc]; exact jn_tag _ _ t0.1 (by omega)
  have e9 : c / 8 = (pl : Int) := by rw [hcc]; exact jn_val _ _ t0.1 (by omega) (by omega) (by omega)
  have htag := fun w => tag_any c w hc
  rw [e8] at htag
  have hpl := fun w => cplace_any c w hc
  rw [e9] at hpl
  rw [← hcc]
  have hlen := cLen v fC h
  have htg := ctagged_any tag (s.h.length : Int) wr t0.1 t0.2 (by omega) (by omega)
  obtain ⟨⟨c0, c1, c2, c3, c4⟩, f4⟩ := h.five v fC
  have X1 := Lib.hid h
  have HM := Lib.hid hm
  have HK := Lib.hid hk
  have HT := Lib.hid ht
  have hpk : (pl : Int) ≤ 1048576 ∧ (k : Int) ≤ 1048576 := by omega
  have HPK := Lib.hid hpk
  have hguard : ((tag == 0) && (at_ != -1)) = false := by
    rcases ht with ⟨_, h⟩ | h | h | h
    · subst h; simp
    · subst h; simp
    · subst h; simp
    · subst h; simp
  clear h hcc hc e8 e9 hm hk hpk hll hml t0
  obtain ⟨z, hz⟩ : ∃ z, z = (s.h.length : Int) := ⟨_, rfl⟩
  rw [← hz] at hlen htg ⊢
  have HZ := Lib.hid hz
  clear hz
  obtain ⟨dd, hdd⟩ : ∃ dd, dd = jn tag z := ⟨_, rfl⟩
  rw [← hdd] at htg ⊢
  clear hdd
  go_enter Try.func104, Try.ntmps104
  go_wp2_with fail
  refine (htag _).mono ?_; rintro e w' ⟨rfl, rfl⟩
  have hstart : ∀ g : Nat, g = k → FW w0 N E p q mb pb (l.length : Int) l tag pl k s n C g (.int .i64 0) wr := fun g hg => ⟨0, by omega, rfl, X1.out⟩
  have hround : True := trivial
  rcases ht with ⟨rfl, rfl⟩ | rfl | rfl | rfl
  all_goals clear hround hguard
  · go_wp2_with fail
    refine hlen.mono ?_; rintro e w' ⟨rfl, rfl⟩
    go_wp2_with fail
    refine htg.mono ?_; rintro e w' ⟨rfl, rfl⟩
    clear hlen htg htag c0 c1 c2 c3 c4 f4
    go_wp2_with fail
    go_loopg [35] k (FW w0 N E p q mb pb (l.length : Int) l 0 pl k s n C)
    case atStart => exact hstart _ rfl
    case round =>
      obtain ⟨i, hig, rfl, x⟩ := hrel
      by_cases hlt : i < k
      · obtain ⟨⟨c0, c1, c2, c3, c4⟩, f4⟩ := x.five v fC
        have hv := cVar v fC x (by show ((fs l 0 pl i s.h).length : Int) < m; rw [fs_len]; have := HM.out; omega)
        obtain ⟨g9, rfl⟩ : ∃ g9, gk = g9 + 1 := ⟨gk - 1, by omega⟩
        have hki : (i : Int) < (k : Int) := by omega
        have HL := Lib.hid hlt
        have hib : (i : Int) ≤ 1048576 := by have := HPK.out; omega
        clear hlt x
        go_wp2_with fail
        refine hv.mono ?_; rintro e w5 ⟨rfl, x5⟩
        have X5 := Lib.hid x5
        clear x5 hv c0 c1 c2 c3 c4 f4
        go_wp2_with fail
        go_roundg g9
        case measure => omega
        case rel => exact ⟨i + 1, by omega, by go_num, by have := X5.out; rw [fs, if_pos (Or.inl rfl)]; exact this⟩
      · have hki : ¬ (i : Int) < (k : Int) := by omega
        have hik : i = k := by omega
        subst hik
        have X5 := Lib.hid x
        clear x hki hlt
        have hki : ¬ (i : Int) < (i : Int) := by omega
        go_wp2_with fail
        go_ret2
        exact ⟨rfl, X5.out⟩
  · go_wp2_with fail
    refine hlen.mono ?_; rintro e w' ⟨rfl, rfl⟩
    go_wp2_with fail
    refine htg.mono ?_; rintro e w' ⟨rfl, rfl⟩
    clear hlen htg htag c0 c1 c2 c3 c4 f4
    go_wp2_with fail
    go_loopg [35] k (FW w0 N E p q mb pb (l.length : Int) l 1 pl k s n C)
    case atStart => exact hstart _ rfl
    case round =>
      obtain ⟨i, hig, rfl, x⟩ := hrel
      by_cases hlt : i < k
      · obtain ⟨⟨c0, c1, c2, c3, c4⟩, f4⟩ := x.five v fC
        by_cases hi : i = 0
        · have HI := Lib.hid hi
          clear hi
          have hv := cPush v fC x (l.getD (pl + i) 0) (hp.getD_w v.lw _) (by show ((fs l 1 pl i s.h).length : Int) < m; rw [fs_len]; have := HM.out; omega)
          have hgt := cget_any v fC x (pl + i) (by have := HK.out; omega)
          have HG := Lib.hid (show ∀ y : Int, y = (pl : Int) + (i : Int) → Calls Try.prog 77 #[.pointer (some ⟨pb, 0, none⟩), .int .i64 y] wr fun e w' => e = .returned (.tuple #[.int .u64 (l.getD (pl + i) 0), .bool true]) ∧ wr = w' from fun y hy => by rw [show y = ((pl + i : Nat) : Int) by omega]; exact hgt)
          clear hgt
          have hpb := HPK.out.1
          have hpb0 : 0 ≤ (pl : Int) := by omega
          obtain ⟨g9, rfl⟩ : ∃ g9, gk = g9 + 1 := ⟨gk - 1, by omega⟩
          have hki : (i : Int) < (k : Int) := by omega
          have HL := Lib.hid hlt
          have hib : (i : Int) ≤ 1048576 := by have := HPK.out; omega
          have HFS := Lib.hid (show fs l 1 pl (i + 1) s.h = fs l 1 pl i s.h ++ [l.getD (pl + i) 0] by rw [fs, if_neg (by rw [HI.out]; simp)])
          have hi0 : ¬ (i : Int) > 0 := by have := HI.out; omega
          clear hlt x
          generalize l.getD (pl + i) 0 = u at *
          go_wp2_with fail
          refine (hpl _).mono ?_; rintro e w' ⟨rfl, rfl⟩
          go_wp2_with fail
          refine (HG.out _ (by omega)).mono ?_; rintro e w' ⟨rfl, rfl⟩
          go_wp2_with fail
          refine hv.mono ?_; rintro e w5 ⟨rfl, x5⟩
          have X5 := Lib.hid x5
          clear x5 hv c0 c1 c2 c3 c4 f4
          go_wp2_with fail
          go_roundg g9
          case measure => omega
          case rel => exact ⟨i + 1, by omega, by go_num, by have := X5.out; rw [HFS.out]; exact this⟩
        · have HI := Lib.hid (Nat.pos_of_ne_zero hi)
          clear hi
          have hv := cVar v fC x (by show ((fs l 1 pl i s.h).length : Int) < m; rw [fs_len]; have := HM.out; omega)
          obtain ⟨g9, rfl⟩ : ∃ g9, gk = g9 + 1 := ⟨gk - 1, by omega⟩
          have hki : (i : Int) < (k : Int) := by omega
          have HL := Lib.hid hlt
          have hib : (i : Int) ≤ 1048576 := by have := HPK.out; omega
          have hi0 : (i : Int) > 0 := by have := HI.out; omega
          clear hlt x
          go_wp2_with fail
          refine hv.mono ?_; rintro e w5 ⟨rfl, x5⟩
          have X5 := Lib.hid x5
          clear x5 hv c0 c1 c2 c3 c4 f4
          go_wp2_with fail
          go_roundg g9
          case measure => omega
          case rel => exact ⟨i + 1, by omega, by go_num, by have := X5.out; rw [fs, if_pos (Or.inr ⟨rfl, HI.out⟩)]; exact this⟩
      · have hki : ¬ (i : Int) < (k : Int) := by omega
        have hik : i = k := by omega
        subst hik
        have X5 := Lib.hid x
        clear x hki hlt
        have hki : ¬ (i : Int) < (i : Int) := by omega
        go_wp2_with fail
        go_ret2
        exact ⟨rfl, X5.out⟩
  · go_wp2_with fail
    refine hlen.mono ?_; rintro e w' ⟨rfl, rfl⟩
    go_wp2_with fail
    refine htg.mono ?_; rintro e w' ⟨rfl, rfl⟩
    clear hlen htg htag c0 c1 c2 c3 c4 f4
    go_wp2_with fail
    go_loopg [35] k (FW w0 N E p q mb pb (l.length : Int) l 4 pl k s n C)
    case atStart => exact hstart _ rfl
    case round =>
      obtain ⟨i, hig, rfl, x⟩ := hrel
      by_cases hlt : i < k
      · obtain ⟨⟨c0, c1, c2, c3, c4⟩, f4⟩ := x.five v fC
        have hv := cPush v fC x (l.getD (pl + i) 0) (hp.getD_w v.lw _) (by show ((fs l 4 pl i s.h).length : Int) < m; rw [fs_len]; have := HM.out; omega)
        have hgt := cget_any v fC x (pl + i) (by have := HK.out; omega)
        have HG := Lib.hid (show ∀ y : Int, y = (pl : Int) + (i : Int) → Calls Try.prog 77 #[.pointer (some ⟨pb, 0, none⟩), .int .i64 y] wr fun e w' => e = .returned (.tuple #[.int .u64 (l.getD (pl + i) 0), .bool true]) ∧ wr = w' from fun y hy => by rw [show y = ((pl + i : Nat) : Int) by omega]; exact hgt)
        clear hgt
        have hpb := HPK.out.1
        have hpb0 : 0 ≤ (pl : Int) := by omega
        obtain ⟨g9, rfl⟩ : ∃ g9, gk = g9 + 1 := ⟨gk - 1, by omega⟩
        have hki : (i : Int) < (k : Int) := by omega
        have HL := Lib.hid hlt
        have hib : (i : Int) ≤ 1048576 := by have := HPK.out; omega
        have HFS := Lib.hid (show fs l 4 pl (i + 1) s.h = fs l 4 pl i s.h ++ [l.getD (pl + i) 0] by rw [fs, if_neg (by simp; try omega)])
        clear hlt x
        generalize l.getD (pl + i) 0 = u at *
        go_wp2_with fail
        refine (hpl _).mono ?_; rintro e w' ⟨rfl, rfl⟩
        go_wp2_with fail
        refine (HG.out _ (by omega)).mono ?_; rintro e w' ⟨rfl, rfl⟩
        go_wp2_with fail
        refine hv.mono ?_; rintro e w5 ⟨rfl, x5⟩
        have X5 := Lib.hid x5
        clear x5 hv c0 c1 c2 c3 c4 f4
        go_wp2_with fail
        go_roundg g9
        case measure => omega
        case rel => exact ⟨i + 1, by omega, by go_num, by have := X5.out; rw [HFS.out]; exact this⟩
      · have hki : ¬ (i : Int) < (k : Int) := by omega
        have hik : i = k := by omega
        subst hik
        have X5 := Lib.hid x
        clear x hki hlt
        have hki : ¬ (i : Int) < (i : Int) := by omega
        go_wp2_with fail
        go_ret2
        exact ⟨rfl, X5.out⟩
  · go_wp2_with fail
    refine hlen.mono ?_; rintro e w' ⟨rfl, rfl⟩
    go_wp2_with fail
    refine htg.mono ?_; rintro e w' ⟨rfl, rfl⟩
    clear hlen htg htag c0 c1 c2 c3 c4 f4
    go_wp2_with fail
    go_loopg [35] k (FW w0 N E p q mb pb (l.length : Int) l 5 pl k s n C)
    case atStart => exact hstart _ rfl
    case round =>
      obtain ⟨i, hig, rfl, x⟩ := hrel
      by_cases hlt : i < k
      · obtain ⟨⟨c0, c1, c2, c3, c4⟩, f4⟩ := x.five v fC
        have hv := cPush v fC x (l.getD (pl + i) 0) (hp.getD_w v.lw _) (by show ((fs l 5 pl i s.h).length : Int) < m; rw [fs_len]; have := HM.out; omega)
        have hgt := cget_any v fC x (pl + i) (by have := HK.out; omega)
        have HG := Lib.hid (show ∀ y : Int, y = (pl : Int) + (i : Int) → Calls Try.prog 77 #[.pointer (some ⟨pb, 0, none⟩), .int .i64 y] wr fun e w' => e = .returned (.tuple #[.int .u64 (l.getD (pl + i) 0), .bool true]) ∧ wr = w' from fun y hy => by rw [show y = ((pl + i : Nat) : Int) by omega]; exact hgt)
        clear hgt
        have hpb := HPK.out.1
        have hpb0 : 0 ≤ (pl : Int) := by omega
        obtain ⟨g9, rfl⟩ : ∃ g9, gk = g9 + 1 := ⟨gk - 1, by omega⟩
        have hki : (i : Int) < (k : Int) := by omega
        have HL := Lib.hid hlt
        have hib : (i : Int) ≤ 1048576 := by have := HPK.out; omega
        have HFS := Lib.hid (show fs l 5 pl (i + 1) s.h = fs l 5 pl i s.h ++ [l.getD (pl + i) 0] by rw [fs, if_neg (by simp; try omega)])
        clear hlt x
        generalize l.getD (pl + i) 0 = u at *
        go_wp2_with fail
        refine (hpl _).mono ?_; rintro e w' ⟨rfl, rfl⟩
        go_wp2_with fail
        refine (HG.out _ (by omega)).mono ?_; rintro e w' ⟨rfl, rfl⟩
        go_wp2_with fail
        refine hv.mono ?_; rintro e w5 ⟨rfl, x5⟩
        have X5 := Lib.hid x5
        clear x5 hv c0 c1 c2 c3 c4 f4
        go_wp2_with fail
        go_roundg g9
        case measure => omega
        case rel => exact ⟨i + 1, by omega, by go_num, by have := X5.out; rw [HFS.out]; exact this⟩
      · have hki : ¬ (i : Int) < (k : Int) := by omega
        have hik : i = k := by omega
        subst hik
        have X5 := Lib.hid x
        clear x hki hlt
        have hki : ¬ (i : Int) < (i : Int) := by omega
        go_wp2_with fail
        go_ret2
        exact ⟨rfl, X5.out⟩
end
end Go.Proofs.Ythableojkjhicaa.cpy
namespace Go.Proofs.Ythableojkjhicaa.cpy
open Go.ChangeShapes Go.WideShapes Go.ChangeAt Go.RowKit Go.Maps
open Go.Proofs.Ythableojkjhicaa.kp Go.Proofs.Ythableojkjhicaa.cel Go.Proofs.Ythableojkjhicaa.hp Go.Proofs.Ythableojkjhicaa.ob Go.Proofs.Ythableojkjhicaa.tm Go.Proofs.Ythableojkjhicaa.pm
open Go.Proofs.Ythableojkjhicaa.rpt (HB frHB zeroC)
open Go.Proofs.Ythableojkjhicaa.un (five fin5)
set_option linter.unusedVariables false
abbrev LV (c at_ f t k : Int) : Value := .agg #[.int .u64 c, .int .i64 at_, .int .i64 f, .int .i64 t, .int .i64 k]
abbrev LO (c at_ f t k : Int) : Obj := .cells #[.int .u64 c, .int .i64 at_, .int .i64 f, .int .i64 t, .int .i64 k] 118 (0, 0)
section
variable {E : List Int → Ob} {l : List Int} {m : Int} {b : Nat} {p q mb pb r : Nat} {e : Int} {s s' : S} {n n' : Int} {C C' D : Ob} {w w0 wr w' : World} {N K : Nat → Prop} {o o' : Obj}
theorem XC.turn (v : Env p q l m b E) (fC : Fr C) (h : XC w0 N E p q mb pb e s n (Tim C (Blk r o)) wr) (k : kp.Keep (fun i => i = r) wr w') (hb : w'.heap[r]? = some o') : XC w0 N E p q mb pb e s n (Tim C (Blk r o')) w' := by
  obtain ⟨M, t, up⟩ := h.open2 v
  obtain ⟨M2, bb, up2⟩ := Tim.at2 fC t
  exact up _ _ (up2 (Blk r o') w' ⟨M2, ⟨hb, bb.2⟩, k.mono fun i hi => (bb.2 i).2 hi, fun _ => Or.inl⟩)
theorem XC.back (h : XC w0 N E p q mb pb e s n (Tim C D) wr) : XC w0 N E p q mb pb e s n C wr := by
  obtain ⟨K, ⟨K1, K2, a, ⟨K3, K4, c, d, dd, ee⟩, d2, e2⟩, k, sub⟩ := h
  exact ⟨fun i => K1 i ∨ K3 i, ⟨K1, K3, a, c, fun i h1 h2 => d2 i h1 ((ee i).2 (Or.inl h2)), fun _ => Iff.rfl⟩, k, fun i hi => sub i ((e2 i).2 (hi.imp id fun h => (ee i).2 (Or.inl h)))⟩
theorem XC.box (h : XC w0 N E p q mb pb e s n (Tim C (Blk r o)) wr) : wr.heap[r]? = some o := by
  obtain ⟨K, ⟨K1, K2, a, ⟨K3, K4, c, d, dd, ee⟩, d2, e2⟩, k, sub⟩ := h
  exact d.1
theorem XC.visit (v : Env p q l m b E) (fC : Fr C) (h : XC w0 N E p q mb pb e s n C wr) (n2 : Int) : XC w0 N E p q mb pb e s n2 C (wr.setCell ⟨pb, 4, none⟩ (.int .i64 n2)) := by
  obtain ⟨hb, up⟩ := h.blk v fC
  refine up n2 _ (Keep.setCell (F := fun i => i = pb) wr (p := ⟨pb, 4, none⟩) rfl _) ?_
  have := heap_setCell_same wr pb 4 _ _ (.int .i64 n2) hb
  simpa using this
theorem fin3 {u0 u1 u2 u3 u4 : Value} {t : TypeId} (h : w.heap[r]? = some (.cells #[u0, u1, u2, u3, u4] t (0, 0))) (v2 v3 v4 : Value) : ∃ W,
    (((w.setCell ⟨r, 2, none⟩ v2).setCell ⟨r, 3, none⟩ v3).setCell ⟨r, 4, none⟩ v4) = W ∧ W.heap[r]? = some (.cells #[u0, u1, v2, v3, v4] t (0, 0)) ∧ kp.Keep (fun k => k = r) w W := by
  have e := fun (w : World) (i : Nat) (cs : Array Value) (v : Value) (hg : w.heap[r]? = some (.cells cs t (0, 0))) => heap_setCell_same w r i cs t v hg
  have hf := e _ 4 _ v4 (e _ 3 _ v3 (e _ 2 _ v2 h))
  have kk (w : World) (o : Nat) (u : Value) : kp.Keep (fun k => k = r) w (w.setCell ⟨r, o, none⟩ u) := Keep.setCell (F := fun k => k = r) w rfl u
  refine ⟨_, rfl, ?_, ((kk _ _ _).trans (kk _ _ _) fun _ => Or.inl).trans (kk _ _ _) fun _ => Or.inl⟩
  simpa using hf
/-- what size tells, whatever stands beside -/
def SzAt (w0 : World) (N : Nat → Prop) (E : List Int → Ob) (p q mb pb : Nat) (l : List Int) (s : S) (c k : Int) : Prop :=
  ∀ (C : Ob) (n : Int) (w : World), Fr C → XC w0 N E p q mb pb (l.length : Int) s n C w → Calls Try.prog 103 #[.pointer (some ⟨pb, 0, none⟩), .int .u64 c] w fun e w' => e = .returned (.tuple #[.int .i64 k, .bool true]) ∧ w = w'
def FsAt (w0 : World) (N : Nat → Prop) (E : List Int → Ob) (p q mb pb : Nat) (l : List Int) (s : S) (c k own d : Int) (T : List Int) : Prop :=
  ∀ (C : Ob) (n : Int) (w : World), Fr C → XC w0 N E p q mb pb (l.length : Int) s n C w → Calls Try.prog 104 #[.pointer (some ⟨pb, 0, none⟩), .int .u64 c, .int .i64 k, .int .i64 own] w fun e w' => e = .returned (.tuple #[.int .u64 d, .int .i64 0]) ∧ XC w0 N E p q mb pb (l.length : Int) ⟨T, s.a, s.v⟩ n C w'
/-- what node answers -/
def NdP (w0 : World) (N : Nat → Prop) (E : List Int → Ob) (p q mb pb : Nat) (l : List Int) (s2 : S) (n : Int) (C : Ob) (vl : Value) (e : Ending) (w' : World) : Prop :=
  e = .returned (.tuple #[vl, .int .i64 0]) ∧ XC w0 N E p q mb pb (l.length : Int) s2 (n + 1) C w'
set_option maxRecDepth 100000 in
set_option maxHeartbeats 4000000 in
theorem cnode_leaf (v : Env p q l m b E) (fC : Fr C) (h : XC w0 N E p q mb pb (l.length : Int) s n C wr) (c own : Int) (hc : W64 c) (he : Ends1 l c) (hs : SzAt w0 N E p q mb pb l s c 0) (hn : 0 ≤ n ∧ n < 100000) :
    Calls Try.prog 76 #[.pointer (some ⟨pb, 0, none⟩), .int .u64 c, .int .i64 own] wr (NdP w0 N E p q mb pb l s n C (LV c own 0 0 0)) := by
  obtain ⟨r0, hr0⟩ : ∃ r0, r0 = wr.heap.size := ⟨_, rfl⟩
  obtain ⟨w1, hw1⟩ : ∃ w1, w1 = wr.alloc (LO 0 0 0 0 0) := ⟨_, rfl⟩
  have x1 := h.alloc v fC (LO 0 0 0 0 0)
  rw [← hr0, ← hw1] at x1
  have HW := Lib.hid (And.intro hr0 hw1)
  have f1 := fC.tim (Fr.blk r0 (LO 0 0 0 0 0))
  have hd := cderef_ok v f1 x1 c hc he
  have hz := hs _ _ _ f1 x1
  obtain ⟨⟨c0, c1, c2, c3, c4⟩, f4⟩ := x1.five v f1
  have x2 := x1.visit v f1 (n + 1)
  obtain ⟨w2, hw2⟩ : ∃ w2, w2 = w1.setCell ⟨pb, 4, none⟩ (.int .i64 (n + 1)) := ⟨_, rfl⟩
  rw [← hw2] at x2
  have X2 := Lib.hid x2
  have HV := Lib.hid v
  have HFC := Lib.hid fC
  obtain ⟨⟨d0, d1, d2, d3, d4⟩, _⟩ := x2.five v f1
  obtain ⟨⟨z0, z1, z2, z3, z4⟩, y0, y1, y2, y3, y4⟩ := five x2.box
  have HW2 := Lib.hid hw2
  have hn1 : n + 1 ≤ 100000 := by omega
  have hn0 : 0 ≤ n := hn.1
  clear h hr0 hw1 x1 f1 hw2 x2 hs he hc v fC hn
  go_enter Try.func76, Try.ntmps76
  go_upto_region 1 with fail
  change Code.wp _ _ _ _ (wr.alloc (LO 0 0 0 0 0))
  rw [← HW.out.1, ← HW.out.2]
  go_wp2_with fail
  refine hd.mono ?_; rintro e w' ⟨rfl, rfl⟩
  go_wp2_with fail
  refine hz.mono ?_; rintro e w' ⟨rfl, rfl⟩
  clear hd hz
  go_upto_region 6 with fail
  rw [← HW2.out]
  clear c0 c1 c2 c3 c4 f4
  go_wp2_with fail
  obtain ⟨W, hW, hz, kk⟩ := fin5 X2.out.box (.int .u64 c) (.int .i64 own) (.int .i64 0) (.int .i64 0) (.int .i64 0)
  obtain ⟨⟨e0, e1, e2, e3, e4⟩, _⟩ := five hz
  rw [hW]
  refine bodyPost_ret (v := .tuple #[LV c own 0 0 0, .int .i64 0]) (by simp [results, Try.results76, go_sem, e0, e1, e2, e3, e4]) rfl ⟨rfl, (X2.out.turn HV.out HFC.out kk hz).back⟩
set_option maxRecDepth 100000 in
set_option maxHeartbeats 4000000 in
theorem cnode_met (v : Env p q l m b E) (fC : Fr C) (h : XC w0 N E p q mb pb (l.length : Int) s n C wr) (c own k d : Int) (hc : W64 c) (he : Ends1 l c) (hs : SzAt w0 N E p q mb pb l s c k) (hk : 1 ≤ k ∧ k ≤ 21) (hl : pm.look s.v c = some d) (hn : 0 ≤ n ∧ n < 100000) :
    Calls Try.prog 76 #[.pointer (some ⟨pb, 0, none⟩), .int .u64 c, .int .i64 own] wr (NdP w0 N E p q mb pb l s n C (LV d own 0 0 0)) := by
  obtain ⟨r0, hr0⟩ : ∃ r0, r0 = wr.heap.size := ⟨_, rfl⟩
  obtain ⟨w1, hw1⟩ : ∃ w1, w1 = wr.alloc (LO 0 0 0 0 0) := ⟨_, rfl⟩
  have x1 := h.alloc v fC (LO 0 0 0 0 0)
  rw [← hr0, ← hw1] at x1
  have HW := Lib.hid (And.intro hr0 hw1)
  have f1 := fC.tim (Fr.blk r0 (LO 0 0 0 0 0))
  have hd := cderef_ok v f1 x1 c hc he
  have hz := hs _ _ _ f1 x1
  obtain ⟨⟨c0, c1, c2, c3, c4⟩, f4⟩ := x1.five v f1
  have x2 := x1.visit v f1 (n + 1)
  obtain ⟨w2, hw2⟩ : ∃ w2, w2 = w1.setCell ⟨pb, 4, none⟩ (.int .i64 (n + 1)) := ⟨_, rfl⟩
  rw [← hw2] at x2
  have X2 := Lib.hid x2
  have HV := Lib.hid v
  have HFC := Lib.hid fC
  obtain ⟨⟨d0, d1, d2, d3, d4⟩, _⟩ := x2.five v f1
  obtain ⟨⟨z0, z1, z2, z3, z4⟩, y0, y1, y2, y3, y4⟩ := five x2.box
  have HW2 := Lib.hid hw2
  have hn1 : n + 1 ≤ 100000 := by omega
  have hn0 : 0 ≤ n := hn.1
  have hk0 : (k == 0) = false := by rw [beq_eq_false_iff_ne]; omega
  obtain ⟨D, hD, hvm, _, _⟩ := x2.vars v f1
  have hkey : keyOf Try.prog 23 (.int .u64 c) = some (CU c) := keyOf_int_mk Try.underlying23 (WalkArith.wf_u64 (by obtain ⟨h1, h2⟩ := hc; omega))
  have hv2 := hvm c
  rw [hl] at hv2
  have HD := Lib.hid hD
  have HVM := Lib.hid hv2
  have hsome : (some d).isSome = true := rfl
  clear h hr0 hw1 x1 f1 hw2 x2 hs he hc v fC hn hk hl hD hvm hv2
  go_enter Try.func76, Try.ntmps76
  go_upto_region 1 with fail
  change Code.wp _ _ _ _ (wr.alloc (LO 0 0 0 0 0))
  rw [← HW.out.1, ← HW.out.2]
  go_wp2_with fail
  refine hd.mono ?_; rintro e w' ⟨rfl, rfl⟩
  go_wp2_with fail
  refine hz.mono ?_; rintro e w' ⟨rfl, rfl⟩
  clear hd hz
  go_upto_region 6 with fail
  rw [← HW2.out]
  clear c0 c1 c2 c3 c4 f4
  go_wp2_with (at_lookup; refine wpList_lookup_own_ok_int _ rfl _ _ 113 rfl 23 23 .u64 lawU Try.underlying113 Try.underlying23 (zeroC _) mb _ D rfl HD.out _ _ rfl hkey ?_; intro c9 hat hwc; rw [HVM.out.1, hsome])
  have hc9 : c9 = d := by
    have h2 := HVM.out.2
    rw [hat] at h2
    injection h2 with e; injection e with _ e
  subst hc9
  clear hat hwc
  go_wp2_with fail
  obtain ⟨W, hW, hz, kk⟩ := fin5 X2.out.box (.int .u64 c9) (.int .i64 own) (.int .i64 0) (.int .i64 0) (.int .i64 0)
  obtain ⟨⟨e0, e1, e2, e3, e4⟩, _⟩ := five hz
  rw [hW]
  refine bodyPost_ret (v := .tuple #[LV c9 own 0 0 0, .int .i64 0]) (by simp [results, Try.results76, go_sem, e0, e1, e2, e3, e4]) rfl ⟨rfl, (X2.out.turn HV.out HFC.out kk hz).back⟩
set_option maxRecDepth 100000 in
set_option maxHeartbeats 4000000 in
theorem cnode_new (v : Env p q l m b E) (fC : Fr C) (h : XC w0 N E p q mb pb (l.length : Int) s n C wr) (c own k d : Int) (T : List Int) (hc : W64 c) (hdw : W64 d) (he : Ends1 l c) (hs : SzAt w0 N E p q mb pb l s c k) (hf : FsAt w0 N E p q mb pb l s c k own d T) (hk : 1 ≤ k ∧ k ≤ 21) (h1 : c % 8 ≠ 1) (hl : pm.look s.v c = none) (hlen : s.v.length < 1000000) (hn : 0 ≤ n ∧ n < 100000) :
    Calls Try.prog 76 #[.pointer (some ⟨pb, 0, none⟩), .int .u64 c, .int .i64 own] wr (NdP w0 N E p q mb pb l ⟨T, s.a, s.v ++ [(c, d)]⟩ n C (LV d own 0 0 0)) := by
  obtain ⟨r0, hr0⟩ : ∃ r0, r0 = wr.heap.size := ⟨_, rfl⟩
  obtain ⟨w1, hw1⟩ : ∃ w1, w1 = wr.alloc (LO 0 0 0 0 0) := ⟨_, rfl⟩
  have x1 := h.alloc v fC (LO 0 0 0 0 0)
  rw [← hr0, ← hw1] at x1
  have HW := Lib.hid (And.intro hr0 hw1)
  have f1 := fC.tim (Fr.blk r0 (LO 0 0 0 0 0))
  have hd := cderef_ok v f1 x1 c hc he
  have hz := hs _ _ _ f1 x1
  obtain ⟨⟨c0, c1, c2, c3, c4⟩, f4⟩ := x1.five v f1
  have x2 := x1.visit v f1 (n + 1)
  obtain ⟨w2, hw2⟩ : ∃ w2, w2 = w1.setCell ⟨pb, 4, none⟩ (.int .i64 (n + 1)) := ⟨_, rfl⟩
  rw [← hw2] at x2
  have X2 := Lib.hid x2
  have HV := Lib.hid v
  have HFC := Lib.hid fC
  obtain ⟨⟨d0, d1, d2, d3, d4⟩, _⟩ := x2.five v f1
  obtain ⟨⟨z0, z1, z2, z3, z4⟩, y0, y1, y2, y3, y4⟩ := five x2.box
  have HW2 := Lib.hid hw2
  have hn1 : n + 1 ≤ 100000 := by omega
  have hn0 : 0 ≤ n := hn.1
  have hk0 : (k == 0) = false := by rw [beq_eq_false_iff_ne]; omega
  obtain ⟨D, hD, hvm, _, _⟩ := x2.vars v f1
  have hkey : keyOf Try.prog 23 (.int .u64 c) = some (CU c) := keyOf_int_mk Try.underlying23 (WalkArith.wf_u64 (by obtain ⟨h1, h2⟩ := hc; omega))
  have hv2 := hvm c
  rw [hl] at hv2
  have HL := Lib.hid hl
  have hff := hf _ _ _ f1 x2
  have htag := fun w => tag_any c w hc
  have ht1 : (c % 8 == 1) = false := by rw [beq_eq_false_iff_ne]; exact h1
  have HW9 := Lib.hid (show (Lit.int .u64 d).wf = true from WalkArith.wf_u64 (by obtain ⟨h1, h2⟩ := hdw; omega))
  have HKY := Lib.hid hkey
  have HLN := Lib.hid (show s.v.length < maxLen by unfold maxLen; omega)
  have HD := Lib.hid hD
  have HVM := Lib.hid hv2
  have hnone : (none : Option Int).isSome = false := rfl
  clear h hr0 hw1 x1 f1 hw2 x2 hs he hc v fC hn hk hl hD hvm hv2 hf h1 hdw hlen
  generalize c % 8 = tg at *
  go_enter Try.func76, Try.ntmps76
  go_upto_region 1 with fail
  change Code.wp _ _ _ _ (wr.alloc (LO 0 0 0 0 0))
  rw [← HW.out.1, ← HW.out.2]
  go_wp2_with fail
  refine hd.mono ?_; rintro e w' ⟨rfl, rfl⟩
  go_wp2_with fail
  refine hz.mono ?_; rintro e w' ⟨rfl, rfl⟩
  clear hd hz
  go_upto_region 6 with fail
  rw [← HW2.out]
  clear c0 c1 c2 c3 c4 f4
  go_wp2_with (at_lookup; refine wpList_lookup_own_ok_int _ rfl _ _ 113 rfl 23 23 .u64 lawU Try.underlying113 Try.underlying23 (zeroC _) mb _ D rfl HD.out _ _ rfl hkey ?_; intro c9 hat hwc; rw [HVM.out.1, hnone])
  clear hat hwc
  refine hff.mono ?_; rintro e w5 ⟨rfl, x5⟩
  have f1 := HFC.out.tim (Fr.blk r0 (LO 0 0 0 0 0))
  have X5 := Lib.hid x5
  clear hff d0 d1 d2 d3 d4 z0 z1 z2 z3 z4 y0 y1 y2 y3 y4
  obtain ⟨⟨d0, d1, d2, d3, d4⟩, _⟩ := x5.five HV.out f1
  obtain ⟨D5, hD5, hv5, _, _⟩ := x5.vars HV.out f1
  have HD5 := Lib.hid hD5
  have HV5 := Lib.hid hv5
  clear x5 hD5 hv5 f1
  go_wp2_with (at_mapUpdate; refine wpList_mapUpdate_own _ rfl _ _ _ 113 rfl 23 23 lawU Try.underlying113 _ mb s.v.length D5 rfl HD5.out HLN.out _ _ _ rfl rfl HKY.out _ [] (plainElem_int Try.underlying23 HW9.out) ?_)
  intro w7 hm7 hg7
  have X7 := Lib.hid (XC.put HV.out (HFC.out.tim (Fr.blk r0 (LO 0 0 0 0 0))) X5.out HD5.out HV5.out HL.out hm7 hg7)
  clear hm7 hg7 d0 d1 d2 d3 d4
  obtain ⟨r1, hr1⟩ : ∃ r1, r1 = w7.heap.size := ⟨_, rfl⟩
  obtain ⟨w8, hw8⟩ : ∃ w8, w8 = w7.alloc (LO d own 0 0 0) := ⟨_, rfl⟩
  have x8 := X7.out.alloc HV.out (HFC.out.tim (Fr.blk r0 (LO 0 0 0 0 0))) (LO d own 0 0 0)
  rw [← hr1, ← hw8] at x8
  have X8 := Lib.hid x8
  have HW8 := Lib.hid (And.intro hr1 hw8)
  obtain ⟨⟨a0, a1, a2, a3, a4⟩, j0, j1, j2, j3, j4⟩ := five x8.box
  obtain ⟨⟨z0, z1, z2, z3, z4⟩, y0, y1, y2, y3, y4⟩ := five x8.back.box
  clear hr1 hw8 x8
  go_upto_region 18 with fail
  rw [← HW8.out.1]
  change Code.wp _ _ _ _ (w7.alloc (LO d own 0 0 0))
  rw [← HW8.out.2]
  go_wp2_with fail
  refine (htag _).mono ?_; rintro e w' ⟨rfl, rfl⟩
  go_wp2_with fail
  obtain ⟨W, hW, hz, kk⟩ := fin5 X8.out.back.box (.int .u64 d) (.int .i64 own) (.int .i64 0) (.int .i64 0) (.int .i64 0)
  obtain ⟨⟨e0, e1, e2, e3, e4⟩, _⟩ := five hz
  rw [hW]
  refine bodyPost_ret (v := .tuple #[LV d own 0 0 0, .int .i64 0]) (by simp [results, Try.results76, go_sem, e0, e1, e2, e3, e4]) rfl ⟨rfl, (X8.out.back.turn HV.out HFC.out kk hz).back⟩
set_option maxRecDepth 100000 in
set_option maxHeartbeats 4000000 in
theorem cnode_comp (v : Env p q l m b E) (fC : Fr C) (h : XC w0 N E p q mb pb (l.length : Int) s n C wr) (c own k d : Int) (T : List Int) (hc : W64 c) (hdw : W64 d) (he : Ends1 l c) (hs : SzAt w0 N E p q mb pb l s c k) (hf : FsAt w0 N E p q mb pb l s c k own d T) (hk : 1 ≤ k ∧ k ≤ 21) (h1 : c % 8 = 1) (hl : pm.look s.v c = none) (hlen : s.v.length < 1000000) (hn : 0 ≤ n ∧ n < 100000) :
    Calls Try.prog 76 #[.pointer (some ⟨pb, 0, none⟩), .int .u64 c, .int .i64 own] wr (NdP w0 N E p q mb pb l ⟨T, s.a, s.v ++ [(c, d)]⟩ n C (LV d own (c / 8 + 1) (d / 8 + 1) (k - 1))) := by
  obtain ⟨r0, hr0⟩ : ∃ r0, r0 = wr.heap.size := ⟨_, rfl⟩
  obtain ⟨w1, hw1⟩ : ∃ w1, w1 = wr.alloc (LO 0 0 0 0 0) := ⟨_, rfl⟩
  have x1 := h.alloc v fC (LO 0 0 0 0 0)
  rw [← hr0, ← hw1] at x1
  have HW := Lib.hid (And.intro hr0 hw1)
  have f1 := fC.tim (Fr.blk r0 (LO 0 0 0 0 0))
  have hd := cderef_ok v f1 x1 c hc he
  have hz := hs _ _ _ f1 x1
  obtain ⟨⟨c0, c1, c2, c3, c4⟩, f4⟩ := x1.five v f1
  have x2 := x1.visit v f1 (n + 1)
  obtain ⟨w2, hw2⟩ : ∃ w2, w2 = w1.setCell ⟨pb, 4, none⟩ (.int .i64 (n + 1)) := ⟨_, rfl⟩
  rw [← hw2] at x2
  have X2 := Lib.hid x2
  have HV := Lib.hid v
  have HFC := Lib.hid fC
  obtain ⟨⟨d0, d1, d2, d3, d4⟩, _⟩ := x2.five v f1
  obtain ⟨⟨z0, z1, z2, z3, z4⟩, y0, y1, y2, y3, y4⟩ := five x2.box
  have HW2 := Lib.hid hw2
  have hn1 : n + 1 ≤ 100000 := by omega
  have hn0 : 0 ≤ n := hn.1
  have hk0 : (k == 0) = false := by rw [beq_eq_false_iff_ne]; omega
  obtain ⟨D, hD, hvm, _, _⟩ := x2.vars v f1
  have hkey : keyOf Try.prog 23 (.int .u64 c) = some (CU c) := keyOf_int_mk Try.underlying23 (WalkArith.wf_u64 (by obtain ⟨h1, h2⟩ := hc; omega))
  have hv2 := hvm c
  rw [hl] at hv2
  have HL := Lib.hid hl
  have hff := hf _ _ _ f1 x2
  have htag := fun w => tag_any c w hc
  have ht1 : (c % 8 == 1) = true := by rw [h1]; rfl
  have hpl := fun w => cplace_any c w hc
  have hpl2 := fun w => cplace_any d w hdw
  have hq1 : 0 ≤ c / 8 ∧ c / 8 < 2305843009213693952 := by obtain ⟨h0, h1⟩ := hc; omega
  have hq2 : 0 ≤ d / 8 ∧ d / 8 < 2305843009213693952 := by obtain ⟨h0, h1⟩ := hdw; omega
  obtain ⟨hq1a, hq1b⟩ := hq1
  obtain ⟨hq2a, hq2b⟩ := hq2
  obtain ⟨hka, hkb⟩ := hk
  have HW9 := Lib.hid (show (Lit.int .u64 d).wf = true from WalkArith.wf_u64 (by obtain ⟨h1, h2⟩ := hdw; omega))
  have HKY := Lib.hid hkey
  have HLN := Lib.hid (show s.v.length < maxLen by unfold maxLen; omega)
  have HD := Lib.hid hD
  have HVM := Lib.hid hv2
  have hnone : (none : Option Int).isSome = false := rfl
  clear h hr0 hw1 x1 f1 hw2 x2 hs he hc v fC hn hl hD hvm hv2 hf h1 hdw hlen
  generalize c % 8 = tg at *
  generalize c / 8 = cq at *
  generalize d / 8 = dq at *
  go_enter Try.func76, Try.ntmps76
  go_upto_region 1 with fail
  change Code.wp _ _ _ _ (wr.alloc (LO 0 0 0 0 0))
  rw [← HW.out.1, ← HW.out.2]
  go_wp2_with fail
  refine hd.mono ?_; rintro e w' ⟨rfl, rfl⟩
  go_wp2_with fail
  refine hz.mono ?_; rintro e w' ⟨rfl, rfl⟩
  clear hd hz
  go_upto_region 6 with fail
  rw [← HW2.out]
  clear c0 c1 c2 c3 c4 f4
  go_wp2_with (at_lookup; refine wpList_lookup_own_ok_int _ rfl _ _ 113 rfl 23 23 .u64 lawU Try.underlying113 Try.underlying23 (zeroC _) mb _ D rfl HD.out _ _ rfl hkey ?_; intro c9 hat hwc; rw [HVM.out.1, hnone])
  clear hat hwc
  refine hff.mono ?_; rintro e w5 ⟨rfl, x5⟩
  have f1 := HFC.out.tim (Fr.blk r0 (LO 0 0 0 0 0))
  have X5 := Lib.hid x5
  clear hff d0 d1 d2 d3 d4 z0 z1 z2 z3 z4 y0 y1 y2 y3 y4
  obtain ⟨⟨d0, d1, d2, d3, d4⟩, _⟩ := x5.five HV.out f1
  obtain ⟨D5, hD5, hv5, _, _⟩ := x5.vars HV.out f1
  have HD5 := Lib.hid hD5
  have HV5 := Lib.hid hv5
  clear x5 hD5 hv5 f1
  go_wp2_with (at_mapUpdate; refine wpList_mapUpdate_own _ rfl _ _ _ 113 rfl 23 23 lawU Try.underlying113 _ mb s.v.length D5 rfl HD5.out HLN.out _ _ _ rfl rfl HKY.out _ [] (plainElem_int Try.underlying23 HW9.out) ?_)
  intro w7 hm7 hg7
  have X7 := Lib.hid (XC.put HV.out (HFC.out.tim (Fr.blk r0 (LO 0 0 0 0 0))) X5.out HD5.out HV5.out HL.out hm7 hg7)
  clear hm7 hg7 d0 d1 d2 d3 d4
  obtain ⟨r1, hr1⟩ : ∃ r1, r1 = w7.heap.size := ⟨_, rfl⟩
  obtain ⟨w8, hw8⟩ : ∃ w8, w8 = w7.alloc (LO d own 0 0 0) := ⟨_, rfl⟩
  have x8 := X7.out.alloc HV.out (HFC.out.tim (Fr.blk r0 (LO 0 0 0 0 0))) (LO d own 0 0 0)
  rw [← hr1, ← hw8] at x8
  have X8 := Lib.hid x8
  have HW8 := Lib.hid (And.intro hr1 hw8)
  obtain ⟨⟨a0, a1, a2, a3, a4⟩, j0, j1, j2, j3, j4⟩ := five x8.box
  obtain ⟨⟨z0, z1, z2, z3, z4⟩, y0, y1, y2, y3, y4⟩ := five x8.back.box
  clear hr1 hw8 x8
  go_upto_region 18 with fail
  rw [← HW8.out.1]
  change Code.wp _ _ _ _ (w7.alloc (LO d own 0 0 0))
  rw [← HW8.out.2]
  go_wp2_with fail
  refine (htag _).mono ?_; rintro e w' ⟨rfl, rfl⟩
  go_wp2_with fail
  refine (hpl _).mono ?_; rintro e w' ⟨rfl, rfl⟩
  go_wp2_with fail
  refine (hpl2 _).mono ?_; rintro e w' ⟨rfl, rfl⟩
  go_upto_region 20 with fail
  clear a0 a1 a2 a3 a4 j0 j1 j2 j3 j4 z0 z1 z2 z3 z4 y0 y1 y2 y3 y4
  obtain ⟨w9, hw9, hz9, kk9⟩ := fin3 X8.out.box (.int .i64 (cq + 1)) (.int .i64 (dq + 1)) (.int .i64 (k - 1))
  have X9 := Lib.hid (X8.out.turn HV.out (HFC.out.tim (Fr.blk r0 (LO 0 0 0 0 0))) kk9 hz9)
  rw [hw9]
  clear hw9 hz9 kk9
  obtain ⟨⟨a0, a1, a2, a3, a4⟩, j0, j1, j2, j3, j4⟩ := five X9.out.box
  obtain ⟨⟨z0, z1, z2, z3, z4⟩, y0, y1, y2, y3, y4⟩ := five X9.out.back.box
  go_wp2_with fail
  obtain ⟨W, hW, hz, kk⟩ := fin5 X9.out.back.box (.int .u64 d) (.int .i64 own) (.int .i64 (cq + 1)) (.int .i64 (dq + 1)) (.int .i64 (k - 1))
  obtain ⟨⟨e0, e1, e2, e3, e4⟩, _⟩ := five hz
  rw [hW]
  refine bodyPost_ret (v := .tuple #[LV d own (cq + 1) (dq + 1) (k - 1), .int .i64 0]) (by simp [results, Try.results76, go_sem, e0, e1, e2, e3, e4]) rfl ⟨rfl, (X9.out.back.turn HV.out HFC.out kk hz).back⟩
end
end Go.Proofs.Ythableojkjhicaa.cpy
