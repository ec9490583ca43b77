/- Put of a term that may be, where there is room: no error; what the cells stand for; how many there are. The mathematics. Put: what there is grows, by so much at most, whatever comes of it. The mathematics. Put of a term whose variables have other numbers: the same cells. The mathematics. -/
import Derived.Test.YtibepkljcofpdaaPutM
import Derived.Test.YtibepkljcofpdaaVm
namespace Go.Proofs.Ytibepkljcofpdaa.pm
set_option linter.unusedVariables false
open Go.ChangeShapes Go.WideShapes Go.ChangeAt Go.RowKit
open Go.Proofs.Ytibepkljcofpdaa.tm Go.Proofs.Ytibepkljcofpdaa.hp Go.Proofs.Ytibepkljcofpdaa.cel
open Go.Proofs.Ytibepkljcofpdaa.atm (nv ne nx)
mutual
/-- how many cells a term takes, a variable none -/
def nd : Tm → Nat
  | .mk k n i re im l => if k = 3 then (if so i = true then 0 else 1) else if k = 4 then 2 else if k = 5 then 1 + l.length + ndL l else 0
def ndL : List Tm → Nat
  | [] => 0
  | t :: r => nd t + ndL r
end
theorem nd_size (t : Tm) : nd t + 1 ≤ 3 * size t := by
  induction t using Tm.ind with
  | h k n i re im l ih =>
    have hl : ∀ (l : List Tm), (∀ x ∈ l, nd x + 1 ≤ 3 * size x) → ndL l + l.length ≤ 3 * sizeL l := by
      intro l
      induction l with
      | nil => intro _; simp [ndL, sizeL]
      | cons t r ihr =>
        intro h
        have h1 := h t (by simp)
        have h2 := ihr fun x hx => h x (by simp [hx])
        simp only [ndL, sizeL, List.length_cons]; omega
    have := hl l ih
    rw [nd, size]
    by_cases k3 : k = 3
    · subst k3; simp; split <;> omega
    by_cases k4 : k = 4
    · subst k4; simp
    by_cases k5 : k = 5
    · subst k5; simp; omega
    · simp [k3, k4, k5]
theorem Vs.less {O O' : Nat → Prop} {s : S} (h : Vs O s) (ho : ∀ q, O' q → O q) : Vs O' s :=
  ⟨fun i c e => by obtain ⟨p, a, b, d⟩ := h.cell i c e; exact ⟨p, a, fun q => b (ho _ q), d⟩, h.nd, h.inj⟩
theorem Vs.ext {O : Nat → Prop} {s s' : S} (h : Vs O s) (hx : Ext O s s') (hv : s'.v = s.v) : Vs O s' := by
  refine ⟨fun i c e => ?_, by rw [hv]; exact h.nd, by rw [hv]; exact h.inj⟩
  rw [hv] at e
  obtain ⟨p, a, b, d, f⟩ := h.cell i c e
  exact ⟨p, a, b, Nat.lt_of_lt_of_le d hx.h.1, (hx.h.2 p d b).trans f⟩
theorem keys_add (v : List (Int × Int)) (i c : Int) : keys (v ++ [(i, c)]) = keys v ++ [i] := by simp [keys]
/-- one more variable, its place p new among them -/
theorem Vs.new {O O' : Nat → Prop} {s s' : S} (h : Vs O s) (hx : Ext O s s') {i : Int} {p : Nat} (hi : look s.v i = none) (hv : s'.v = s.v ++ [(i, (p : Int) * 8)]) (hp : p < s'.h.length) (hc : s'.h.getD p 0 = (p : Int) * 8) (ho : ¬ O' p) (hoo : ∀ q, O' q → O q) (hn : O p ∨ s.h.length ≤ p) : Vs O' s' := by
  have hne : ∀ j c, look s.v j = some c → c ≠ (p : Int) * 8 := fun j c e q => by
    obtain ⟨p', a, b, d, f⟩ := h.cell j c e
    rw [a] at q
    have : p' = p := by omega
    subst this
    rcases hn with hn | hn
    · exact b hn
    · omega
  refine ⟨fun j c e => ?_, ?_, ?_⟩
  · rw [hv] at e
    by_cases hj : i = j
    · subst hj
      rw [look_new hi] at e; injection e with e; subst e
      exact ⟨p, rfl, ho, hp, hc⟩
    · rw [look_old hj] at e
      obtain ⟨p', a, b, d, f⟩ := h.cell j c e
      exact ⟨p', a, fun q => b (hoo _ q), Nat.lt_of_lt_of_le d hx.h.1, (hx.h.2 p' d b).trans f⟩
  · rw [hv, keys_add]
    have := look_none.1 hi
    rw [List.nodup_append]
    exact ⟨h.nd, by simp, fun a ha b hb => by simp at hb; subst hb; exact fun e => this (e ▸ ha)⟩
  · rw [hv, List.map_append]
    rw [List.nodup_append]
    refine ⟨h.inj, by simp, fun a ha b hb => ?_⟩
    simp at hb; subst hb
    obtain ⟨⟨j, c⟩, hm, rfl⟩ := List.mem_map.1 ha
    exact hne j c (mem_look h.nd hm)
/-- what Put makes of a term -/
structure Ok (m : Int) (O : Nat → Prop) (t : Tm) (own : Int) (s : S) (c : Int) (s' : S) : Prop where
  pre : Pre s.h s'.h
  a : ∃ b, s'.a = s.a ++ b ∧ b.length ≤ size t
  v : ∃ b, s'.v = s.v ++ b
  len : s'.h.length = s.h.length + (if t.kind = 1 then (if own < 0 ∧ look s.v t.int = none then 1 else 0) else nd t)
  keys : keys s'.v = (occ t).foldl addv (keys s.v)
  rep : (∃ p : Nat, t.kind = 1 ∧ own = p ∧ c = own * 8 ∧ Vs (fun q => O q ∧ q ≠ p) s' ∧ look s'.v t.int = some c) ∨ (Vs O s' ∧ Rep O s' t c)
structure OkL (m : Int) (O : Nat → Prop) (l : List Tm) (p : Nat) (s s' : S) : Prop where
  pre : s.h.length ≤ s'.h.length ∧ ∀ q, q < s.h.length → ¬ (p ≤ q ∧ q < p + l.length) → s'.h.getD q 0 = s.h.getD q 0
  a : ∃ b, s'.a = s.a ++ b ∧ b.length ≤ sizeL l
  v : ∃ b, s'.v = s.v ++ b
  len : s'.h.length = s.h.length + ndL l
  keys : keys s'.v = (occL l).foldl addv (keys s.v)
  vs : Vs (fun q => O q ∧ ¬ (p ≤ q ∧ q < p + l.length)) s'
  rep : RepL (fun q => O q ∧ ¬ (p ≤ q ∧ q < p + l.length)) s' l p
theorem getD_set {l : List Int} {p q : Nat} {c : Int} (hp : p < l.length) : (l.set p c).getD q 0 = if q = p then c else l.getD q 0 := by
  rw [List.getD_eq_getElem?_getD, List.getD_eq_getElem?_getD, List.getElem?_set]
  by_cases e : p = q
  · subst e; simp [hp]
  · simp [e, show ¬ q = p from fun h => e h.symm]
theorem put_ok (m : Int) (t : Tm) : ∀ (own : Int) (s : S) (O : Nat → Prop), sound t = true → Vs O s → (∀ q, O q → q < s.h.length) → (own < 0 ∨ ∃ p : Nat, own = p ∧ O p ∧ s.h.getD p 0 = (p : Int) * 8) → (s.h.length : Int) + nd t + 1 ≤ m → s.a.length + size t ≤ 4096 →
    ∃ c s', put m t own s = (c, 0, s') ∧ Ok m O t own s c s' := by
  induction t using Tm.ind with
  | h k n i re im l ih =>
    intro own s O hs hv hO hown hm ha
    have hc := sound_chk hs
    have hk := chk_kind hc
    simp only [Tm.kind] at hk
    rcases hk with rfl | rfl | rfl | rfl | rfl
    · -- a variable
      rw [put, if_neg (by decide), if_neg (by decide), if_neg (by decide), if_pos rfl]
      have ho : occ (.mk 1 n i re im l) = [i] := by simp [occ]
      cases hl : look s.v i with
      | some c =>
        refine ⟨c, s, rfl, Pre.refl _, ⟨[], by simp⟩, ⟨[], by simp⟩, by simp [Tm.kind, Tm.int, hl], ?_, Or.inr ⟨hv, by rw [Rep]; simpa using hl⟩⟩
        rw [ho]
        have : i ∈ keys s.v := Classical.byContradiction fun h => by rw [look_none.2 h] at hl; cases hl
        simp [addv, this]
      | none =>
        have hni := look_none.1 hl
        by_cases h0 : own < 0
        · rw [if_pos h0, if_pos (by simp [nd] at hm; omega)]
          refine ⟨_, _, rfl, Pre.add _ _, ⟨[], by simp⟩, ⟨_, rfl⟩, by simp [Tm.kind, Tm.int, hl, h0], by rw [keys_add, ho]; simp [addv, hni], Or.inr ⟨?_, by rw [Rep]; simpa using look_new hl⟩⟩
          refine Vs.new (O := O) hv (Ext.of_pre (Pre.add _ _) ⟨[], by simp⟩ ⟨_, rfl⟩) hl rfl (by simp) (by simp [List.getD]) (fun q => by have := hO _ q; omega) (fun _ h => h) (Or.inr (Nat.le_refl _))
        · rw [if_neg h0]
          obtain ⟨p, rfl, hOp, hcp⟩ := hown.resolve_left h0
          refine ⟨_, _, rfl, Pre.refl _, ⟨[], by simp⟩, ⟨_, rfl⟩, by simp [Tm.kind, Tm.int, hl]; try omega, by rw [keys_add, ho]; simp [addv, hni], Or.inl ⟨p, rfl, rfl, rfl, ?_, look_new hl⟩⟩
          exact Vs.new (O := O) hv (Ext.of_pre (Pre.refl _) ⟨[], by simp⟩ ⟨_, rfl⟩) hl rfl (hO p hOp) hcp (fun h => h.2 rfl) (fun _ h => h.1) (Or.inl hOp)
    · -- an atom
      have hn : n.size ≤ 200 := by simp only [chk] at hc; simp at hc; omega
      have h1 : 1 ≤ size (.mk 2 n i re im l) := by rw [size]; omega
      obtain ⟨q1, q2, q3, q4, q5⟩ := name_ok hn (show s.a.length < 4096 by omega)
      rw [put, if_pos rfl, if_pos q1]
      obtain ⟨b, hb, hb1⟩ := nx_pre s.a n
      have hx : Ext O s ⟨s.h, nx s.a n, s.v⟩ := Ext.of_pre (Pre.refl _) ⟨b, hb⟩ ⟨[], by simp⟩
      refine ⟨_, _, rfl, Pre.refl _, ⟨b, hb, by omega⟩, ⟨[], by simp⟩, by simp [Tm.kind, nd], by simp [occ], Or.inr ⟨hv.ext hx rfl, ?_⟩⟩
      rw [Rep, if_pos rfl]
      exact ⟨(nv s.a n).toNat, by rw [Int.toNat_of_nonneg q2], by omega, q4⟩
    · -- a number
      rw [put, if_neg (by decide), if_pos rfl]
      by_cases hso : so i = true
      · rw [if_pos hso]
        refine ⟨_, _, rfl, Pre.refl _, ⟨[], by simp⟩, ⟨[], by simp⟩, by simp [Tm.kind, nd, hso], by simp [occ], Or.inr ⟨hv, ?_⟩⟩
        rw [Rep, if_neg (by decide), if_pos rfl, if_pos hso]
      · rw [if_neg hso]
        have : (s.h.length : Int) < m := by simp [nd, hso] at hm; omega
        rw [if_pos this]
        have hx : Ext O s ⟨s.h ++ [u64 i], s.a, s.v⟩ := Ext.of_pre (Pre.add _ _) ⟨[], by simp⟩ ⟨[], by simp⟩
        refine ⟨_, _, rfl, Pre.add _ _, ⟨[], by simp⟩, ⟨[], by simp⟩, by simp [Tm.kind, nd, hso], by simp [occ], Or.inr ⟨hv.ext hx rfl, ?_⟩⟩
        rw [Rep, if_neg (by decide), if_pos rfl, if_neg hso]
        exact ⟨s.h.length, rfl, fun q => by have := hO _ q; omega, by simp, by simp [List.getD]⟩
    · -- a complex number
      rw [put, if_neg (by decide), if_neg (by decide), if_pos rfl]
      have h2 : (s.h.length : Int) + 3 ≤ m := by simp [nd] at hm; omega
      rw [if_pos (by omega), if_pos (by omega)]
      have hp : Pre s.h (s.h ++ [re] ++ [im]) := (Pre.add _ _).trans (Pre.add _ _)
      have hx : Ext O s ⟨s.h ++ [re] ++ [im], s.a, s.v⟩ := Ext.of_pre hp ⟨[], by simp⟩ ⟨[], by simp⟩
      refine ⟨_, _, rfl, hp, ⟨[], by simp⟩, ⟨[], by simp⟩, by simp [Tm.kind, nd], by simp [occ], Or.inr ⟨hv.ext hx rfl, ?_⟩⟩
      rw [Rep, if_neg (by decide), if_neg (by decide), if_pos rfl]
      exact ⟨s.h.length, rfl, fun q => by have := hO _ q; omega, fun q => by have := hO _ q; omega, by simp, by simp [List.getD], by simp [List.getD]⟩
    · -- a compound
      have hn : n.size ≤ 200 ∧ l.length ≤ 20 := by
        simp only [chk] at hc; simp at hc
        split at hc
        · omega
        · split at hc
          · omega
          · split at hc
            · omega
            · omega
      have hsz : size (.mk 5 n i re im l) = 1 + sizeL l := by simp [size]
      have hnd : nd (.mk 5 n i re im l) = 1 + l.length + ndL l := by simp [nd]
      rw [hsz] at ha
      rw [hnd] at hm
      obtain ⟨q1, q2, q3, q4, q5⟩ := name_ok hn.1 (show s.a.length < 4096 by omega)
      obtain ⟨b, hb, hb1⟩ := nx_pre s.a n
      rw [put, if_neg (by decide), if_neg (by decide), if_neg (by decide), if_neg (by decide), if_pos q1, if_pos (by omega)]
      have hl1 : (s.h ++ [jn 6 (nv s.a n * 256 + l.length)]).length = s.h.length + 1 := by simp
      obtain ⟨m1, m2, m3, m4⟩ := more_room m l.length (s.h ++ [jn 6 (nv s.a n * 256 + l.length)]) (by rw [hl1]; omega)
      have mp := (Pre.add s.h [jn 6 (nv s.a n * 256 + l.length)]).trans (more_pre m l.length _)
      generalize more m l.length (s.h ++ [jn 6 (nv s.a n * 256 + l.length)]) = eh at *
      obtain ⟨e1, h1⟩ := eh
      dsimp only at m1 m2 m3 m4 mp ⊢
      subst m1
      rw [if_pos rfl]
      rw [hl1] at m2 m3 m4
      have key : ∀ (l : List Tm), (∀ x ∈ l, ∀ (own : Int) (s : S) (O : Nat → Prop), sound x = true → Vs O s → (∀ q, O q → q < s.h.length) → (own < 0 ∨ ∃ p : Nat, own = p ∧ O p ∧ s.h.getD p 0 = (p : Int) * 8) → (s.h.length : Int) + nd x + 1 ≤ m → s.a.length + size x ≤ 4096 → ∃ c s', put m x own s = (c, 0, s') ∧ Ok m O x own s c s') →
          (∀ x ∈ l, sound x = true) → ∀ (p : Nat) (s : S) (O : Nat → Prop), Vs O s → (∀ q, O q → q < s.h.length) → (∀ q, p ≤ q → q < p + l.length → O q ∧ s.h.getD q 0 = (q : Int) * 8) → (s.h.length : Int) + ndL l + 1 ≤ m → s.a.length + sizeL l ≤ 4096 →
          ∃ s', putL m l p s = (0, s') ∧ OkL m O l p s s' := by
        intro l
        induction l with
        | nil =>
          intro _ _ p s O hv hO _ _ _
          refine ⟨s, by rw [putL], ⟨Nat.le_refl _, fun _ _ _ => rfl⟩, ⟨[], by simp⟩, ⟨[], by simp⟩, by simp [ndL], by simp [occL], hv.less fun q h => h.1, by rw [RepL]; trivial⟩
        | cons t r ihr =>
          intro hx hss p s O hv hO hcs hm ha
          have hcp := hcs p (Nat.le_refl _) (by simp)
          simp only [ndL] at hm
          simp only [sizeL] at ha
          obtain ⟨c, s1, e1, ok⟩ := hx t (by simp) p s O (hss t (by simp)) hv hO (Or.inr ⟨p, rfl, hcp⟩) (by omega) (by omega)
          have hp0 : p < s.h.length := hO p hcp.1
          have hlen : s1.h.length = s.h.length + nd t := by
            have := ok.len
            by_cases k1 : t.kind = 1
            · rw [if_pos k1, if_neg (by omega)] at this
              have : nd t = 0 := by obtain ⟨k, n, i, re, im, l⟩ := t; simp only [Tm.kind] at k1; subst k1; simp [nd]
              omega
            · rw [if_neg k1] at this; exact this
          have hp1 : p < s1.h.length := by omega
          -- behind the setting
          have hrep : Vs (fun q => O q ∧ q ≠ p) ⟨s1.h.set p c, s1.a, s1.v⟩ ∧ Rep (fun q => O q ∧ q ≠ p) ⟨s1.h.set p c, s1.a, s1.v⟩ t c := by
            rcases ok.rep with ⟨p', k1, ep, ec, vs', lk⟩ | ⟨vs', rp⟩
            · have hpp : p = p' := by omega
              subst hpp
              have hx2 : Ext (fun q => O q ∧ q ≠ p) s1 ⟨s1.h.set p c, s1.a, s1.v⟩ := by
                refine ⟨⟨by simp, fun q hq _ => ?_⟩, ⟨[], by simp⟩, ⟨[], by simp⟩⟩
                show (s1.h.set p c).getD q 0 = _
                rw [getD_set hp1]
                split
                · rename_i e; subst e
                  rw [ok.pre.2 q hp0, hcp.2, ec]
                · rfl
              refine ⟨vs'.ext hx2 rfl, ?_⟩
              obtain ⟨k, n, i, re, im, l⟩ := t
              simp only [Tm.kind] at k1
              subst k1
              rw [Rep]; simpa [Tm.int] using lk
            · have hx2 : Ext O s1 ⟨s1.h.set p c, s1.a, s1.v⟩ := by
                refine ⟨⟨by simp, fun q hq ho => ?_⟩, ⟨[], by simp⟩, ⟨[], by simp⟩⟩
                show (s1.h.set p c).getD q 0 = _
                rw [getD_set hp1, if_neg (fun e => ho (by rw [e]; exact hcp.1))]
              exact ⟨(vs'.ext hx2 rfl).less fun q h => h.1, Rep.less (fun q h => h.1) _ _ (Rep.ext hx2 _ _ rp)⟩
          obtain ⟨b1, hb1, hb2⟩ := ok.a
          have hs2 : (s1.h.set p c).length = s1.h.length := by simp
          obtain ⟨s3, e3, ok3⟩ := ihr (fun x hx' => hx x (by simp [hx'])) (fun x hx' => hss x (by simp [hx'])) (p + 1) ⟨s1.h.set p c, s1.a, s1.v⟩ (fun q => O q ∧ q ≠ p) hrep.1
            (fun q h => by show q < (s1.h.set p c).length; rw [hs2]; have := hO q h.1; omega)
            (fun q h1 h2 => by
              have h3 := hcs q (by omega) (by simp; omega)
              refine ⟨⟨h3.1, by omega⟩, ?_⟩
              show (s1.h.set p c).getD q 0 = _
              rw [getD_set hp1, if_neg (by omega), ok.pre.2 q (hO q h3.1)]; exact h3.2)
            (by show ((s1.h.set p c).length : Int) + _ + 1 ≤ m; rw [hs2]; omega) (by show s1.a.length + _ ≤ _; rw [hb1, List.length_append]; omega)
          have hx3 : Ext (fun q => O q ∧ q ≠ p) ⟨s1.h.set p c, s1.a, s1.v⟩ s3 := by
            obtain ⟨b3, hb3, _⟩ := ok3.a
            refine ⟨⟨ok3.pre.1, fun q hq ho => ok3.pre.2 q hq fun h => ho ?_⟩, ⟨b3, hb3⟩, ok3.v⟩
            have h3 := hcs q (by omega) (by simp; omega)
            exact ⟨h3.1, by omega⟩
          have hcell : s3.h.getD p 0 = c := by
            rw [ok3.pre.2 p (by show p < (s1.h.set p c).length; rw [hs2]; exact hp1) (by omega)]
            show (s1.h.set p c).getD p 0 = c
            rw [getD_set hp1, if_pos rfl]
          refine ⟨s3, ?_, ?_, ?_, ?_, ?_, ?_, ?_, ?_⟩
          · rw [putL, e1]; dsimp only; rw [if_pos rfl]; exact e3
          · refine ⟨by have := ok3.pre.1; simp only [hs2] at this; have := ok.pre.1; omega, fun q hq hn => ?_⟩
            rw [ok3.pre.2 q (by show q < (s1.h.set p c).length; rw [hs2]; have := ok.pre.1; omega) (fun h => hn ⟨by omega, by simp; omega⟩)]
            show (s1.h.set p c).getD q 0 = _
            rw [getD_set hp1, if_neg (fun e => hn ⟨by omega, by simp; omega⟩), ok.pre.2 q hq]
          · obtain ⟨b3, hb3, hb4⟩ := ok3.a
            exact ⟨b1 ++ b3, by rw [hb3]; show s1.a ++ b3 = _; rw [hb1, List.append_assoc], by simp only [sizeL, List.length_append]; omega⟩
          · obtain ⟨b3, hb3⟩ := ok3.v
            obtain ⟨b2, hb2⟩ := ok.v
            exact ⟨b2 ++ b3, by rw [hb3]; show s1.v ++ b3 = _; rw [hb2, List.append_assoc]⟩
          · rw [ok3.len]; show (s1.h.set p c).length + _ = _; rw [hs2, hlen]; simp only [ndL]; omega
          · rw [ok3.keys]; show (occL r).foldl addv (keys s1.v) = _; rw [ok.keys, occL, List.foldl_append]
          · exact ok3.vs.less fun q h => ⟨⟨h.1, fun e => h.2 ⟨by omega, by simp; omega⟩⟩, fun e => h.2 ⟨by omega, by simp; omega⟩⟩
          · rw [RepL]
            refine ⟨fun h => h.2 ⟨Nat.le_refl _, by simp⟩, by have := ok3.pre.1; simp only [hs2] at this; omega, ?_, ?_⟩
            · rw [hcell]
              exact Rep.less (fun q h => ⟨h.1, fun e => h.2 ⟨by omega, by simp; omega⟩⟩) _ _ (Rep.ext hx3 _ _ hrep.2)
            · have h4 := ok3.rep
              have less : ∀ {O O' : Nat → Prop} {s : S} (ho : ∀ q, O' q → O q) (l : List Tm) (p : Nat), RepL O s l p → RepL O' s l p := by
                intro O O' s ho l
                induction l with
                | nil => intro p _; rw [RepL]; trivial
                | cons t r ihr =>
                  intro p hr
                  rw [RepL] at hr ⊢
                  exact ⟨fun q => hr.1 (ho _ q), hr.2.1, Rep.less ho _ _ hr.2.2.1, ihr _ hr.2.2.2⟩
              exact less (fun q h => ⟨⟨h.1, fun e => h.2 ⟨by omega, by simp; omega⟩⟩, fun e => h.2 ⟨by omega, by simp; omega⟩⟩) _ _ h4
      have hs' := sound_args hs rfl
      have hxs : Ext O s ⟨h1, nx s.a n, s.v⟩ := Ext.of_pre mp ⟨b, hb⟩ ⟨[], by simp⟩
      have hv1 : Vs (fun q => O q ∨ (s.h.length + 1 ≤ q ∧ q < s.h.length + 1 + l.length)) ⟨h1, nx s.a n, s.v⟩ := by
        refine ⟨fun j c e => ?_, hv.nd, hv.inj⟩
        obtain ⟨p, x1, x2, x3, x4⟩ := hv.cell j c e
        exact ⟨p, x1, fun h => by rcases h with h | h; exact x2 h; omega, by show p < h1.length; omega, (mp.2 p x3).trans x4⟩
      obtain ⟨s3, e3, ok3⟩ := key l ih hs' (s.h.length + 1) ⟨h1, nx s.a n, s.v⟩ _ hv1
        (fun q h => by show q < h1.length; rcases h with h | h; have := hO q h; omega; omega)
        (fun q a1 a2 => ⟨Or.inr ⟨a1, a2⟩, m4 q a1 a2⟩) (by show (h1.length : Int) + _ + 1 ≤ m; omega) (by show (nx s.a n).length + _ ≤ _; rw [hb, List.length_append]; omega)
      rw [e3]
      dsimp only
      rw [if_pos rfl]
      obtain ⟨b3, hb3, hb4⟩ := ok3.a
      have hO' : ∀ q, O q → (O q ∨ (s.h.length + 1 ≤ q ∧ q < s.h.length + 1 + l.length)) ∧ ¬ (s.h.length + 1 ≤ q ∧ q < s.h.length + 1 + l.length) := fun q h => ⟨Or.inl h, by have := hO q h; omega⟩
      have hpre : Pre s.h s3.h := ⟨by have := ok3.pre.1; have := mp.1; simp only at *; omega, fun q hq => (ok3.pre.2 q (by show q < h1.length; omega) (by omega)).trans (mp.2 q hq)⟩
      have less : ∀ {O O' : Nat → Prop} {s : S} (ho : ∀ q, O' q → O q) (l : List Tm) (p : Nat), RepL O s l p → RepL O' s l p := by
        intro O O' s ho l
        induction l with
        | nil => intro p _; rw [RepL]; trivial
        | cons t r ihr =>
          intro p hr
          rw [RepL] at hr ⊢
          exact ⟨fun q => hr.1 (ho _ q), hr.2.1, Rep.less ho _ _ hr.2.2.1, ihr _ hr.2.2.2⟩
      refine ⟨_, _, rfl, hpre, ⟨b ++ b3, by rw [hb3]; show nx s.a n ++ b3 = _; rw [hb, List.append_assoc], by rw [hsz, List.length_append]; omega⟩, ok3.v, ?_, ?_, Or.inr ⟨ok3.vs.less hO', ?_⟩⟩
      · rw [if_neg (by simp [Tm.kind]), ok3.len, hnd]
        show h1.length + _ = _
        omega
      · rw [ok3.keys]; show (occL l).foldl addv (keys s.v) = _; simp [occ]
      · rw [Rep, if_neg (by decide), if_neg (by decide), if_neg (by decide), if_neg (by decide)]
        have hl3 := ok3.pre.1
        refine ⟨s.h.length, (nv s.a n).toNat, rfl, fun h => by have := hO _ h; omega, by simp only at hl3; omega, by omega, ?_, ?_, less hO' _ _ ok3.rep⟩
        · rw [ok3.pre.2 s.h.length (by show _ < h1.length; omega) (by omega)]
          show h1.getD s.h.length 0 = _
          rw [m3 s.h.length (by omega), Int.toNat_of_nonneg q2]
          simp [List.getD]
        · rw [hb3]
          show (nx s.a n ++ b3)[_]? = _
          rw [List.getElem?_append_left (List.getElem?_eq_some_iff.1 q4).1]; exact q4
end Go.Proofs.Ytibepkljcofpdaa.pm
namespace Go.Proofs.Ytibepkljcofpdaa.pm
set_option linter.unusedVariables false
open Go.ChangeShapes Go.WideShapes Go.ChangeAt Go.RowKit
open Go.Proofs.Ytibepkljcofpdaa.tm Go.Proofs.Ytibepkljcofpdaa.hp Go.Proofs.Ytibepkljcofpdaa.cel
open Go.Proofs.Ytibepkljcofpdaa.atm (nv ne nx)
theorem chkk {k : Int} {n : ByteArray} {i re im : Int} {l : List Tm} (h : chk (.mk k n i re im l) = 0) : k = 1 ∨ (k = 2 ∧ n.size ≤ 200) ∨ k = 3 ∨ k = 4 ∨ (k = 5 ∧ n.size ≤ 200 ∧ 1 ≤ l.length ∧ l.length ≤ 20) := by
  have hk := chk_kind h
  simp only [Tm.kind] at hk
  rcases hk with rfl | rfl | rfl | rfl | rfl
  · exact Or.inl rfl
  · refine Or.inr (Or.inl ⟨rfl, ?_⟩)
    simp only [chk] at h; simp at h; omega
  · exact Or.inr (Or.inr (Or.inl rfl))
  · exact Or.inr (Or.inr (Or.inr (Or.inl rfl)))
  · refine Or.inr (Or.inr (Or.inr (Or.inr ⟨rfl, ?_⟩)))
    simp only [chk] at h; simp at h
    split at h
    · omega
    · split at h
      · omega
      · split at h
        · omega
        · rename_i h0 _ _
          exact ⟨by omega, List.length_pos_iff.2 h0, by omega⟩
structure Gr (n : Nat) (s s' : S) : Prop where
  h : s.h.length ≤ s'.h.length
  a : s.a.length ≤ s'.a.length ∧ s'.a.length ≤ s.a.length + n
  v : s.v.length ≤ s'.v.length ∧ s'.v.length ≤ s.v.length + n
theorem Gr.refl (s : S) : Gr 0 s s := ⟨Nat.le_refl _, ⟨Nat.le_refl _, Nat.le_refl _⟩, Nat.le_refl _, Nat.le_refl _⟩
theorem Gr.more {n k : Nat} {s s' : S} (h : Gr n s s') (hk : n ≤ k) : Gr k s s' := ⟨h.h, ⟨h.a.1, by have := h.a.2; omega⟩, h.v.1, by have := h.v.2; omega⟩
theorem Gr.trans {n k : Nat} {a b c : S} (h : Gr n a b) (g : Gr k b c) : Gr (n + k) a c :=
  ⟨Nat.le_trans h.h g.h, ⟨Nat.le_trans h.a.1 g.a.1, by have := h.a.2; have := g.a.2; omega⟩, Nat.le_trans h.v.1 g.v.1, by have := h.v.2; have := g.v.2; omega⟩
theorem nx_gr (a : List ByteArray) (n : ByteArray) : a.length ≤ (nx a n).length ∧ (nx a n).length ≤ a.length + 1 := by
  obtain ⟨b, hb, h1⟩ := nx_pre a n
  rw [hb, List.length_append]; omega
theorem putL_grow (m : Int) : ∀ (l : List Tm), (∀ x ∈ l, ∀ own s, Gr (size x) s (put m x own s).2.2) → ∀ p s, Gr (sizeL l) s (putL m l p s).2
  | [], _, p, s => by rw [putL]; exact Gr.refl s
  | t :: r, hx, p, s => by
    rw [putL]
    have h1 := hx t (by simp) p s
    generalize put m t p s = q at *
    obtain ⟨c, e, s'⟩ := q
    dsimp only at h1 ⊢
    rw [sizeL]
    split
    · have h2 := putL_grow m r (fun x h => hx x (by simp [h])) (p + 1) ⟨s'.h.set p c, s'.a, s'.v⟩
      exact h1.trans ⟨by have := h2.h; simpa using this, h2.a, h2.v⟩
    · exact h1.more (by omega)
theorem put_grow (m : Int) (t : Tm) : sound t = true → ∀ own s, Gr (size t) s (put m t own s).2.2 := by
  induction t using Tm.ind with
  | h k n i re im l ih =>
    intro hs own s
    have h1 : 1 ≤ size (.mk k n i re im l) := by rw [size]; omega
    have r0 := (Gr.refl s).more (Nat.zero_le (size (.mk k n i re im l)))
    have hn := nx_gr s.a n
    rw [put]
    by_cases k2 : k = 2
    · rw [if_pos k2]
      split
      · exact ⟨Nat.le_refl _, ⟨hn.1, by show (nx s.a n).length ≤ _; omega⟩, Nat.le_refl _, by show s.v.length ≤ _; omega⟩
      · exact r0
    rw [if_neg k2]
    by_cases k3 : k = 3
    · rw [if_pos k3]
      split
      · exact r0
      · split
        · exact ⟨by simp, ⟨Nat.le_refl _, by show s.a.length ≤ _; omega⟩, Nat.le_refl _, by show s.v.length ≤ _; omega⟩
        · exact r0
    rw [if_neg k3]
    by_cases k4 : k = 4
    · rw [if_pos k4]
      split
      · split
        · exact ⟨by simp, ⟨Nat.le_refl _, by show s.a.length ≤ _; omega⟩, Nat.le_refl _, by show s.v.length ≤ _; omega⟩
        · exact ⟨by simp, ⟨Nat.le_refl _, by show s.a.length ≤ _; omega⟩, Nat.le_refl _, by show s.v.length ≤ _; omega⟩
      · exact r0
    rw [if_neg k4]
    by_cases k1 : k = 1
    · rw [if_pos k1]
      split
      · exact r0
      · split
        · split
          · exact ⟨by simp, ⟨Nat.le_refl _, by show s.a.length ≤ _; omega⟩, by simp, by simp; omega⟩
          · exact r0
        · exact ⟨Nat.le_refl _, ⟨Nat.le_refl _, by show s.a.length ≤ _; omega⟩, by simp, by simp; omega⟩
    rw [if_neg k1]
    split
    · split
      · have hm := more_pre m l.length (s.h ++ [jn 6 (nv s.a n * 256 + l.length)])
        generalize more m l.length (s.h ++ [jn 6 (nv s.a n * 256 + l.length)]) = eh at *
        obtain ⟨e, h⟩ := eh
        have hl := hm.1
        simp only [List.length_append, List.length_cons, List.length_nil] at hl
        have hs1 : Gr 1 s ⟨h, nx s.a n, s.v⟩ := ⟨by show _ ≤ h.length; omega, hn, Nat.le_refl _, by show s.v.length ≤ _; omega⟩
        dsimp only
        split
        · by_cases k5 : k = 5
          · have h2 := putL_grow m l (fun x hx => ih x hx (sound_args hs k5 x hx)) (s.h.length + 1) ⟨h, nx s.a n, s.v⟩
            have hsz : size (.mk k n i re im l) = 1 + sizeL l := by simp [size, k5]
            rw [hsz]
            generalize putL m l (s.h.length + 1) ⟨h, nx s.a n, s.v⟩ = es at *
            obtain ⟨e2, s2⟩ := es
            dsimp only at h2 ⊢
            split
            · exact hs1.trans h2
            · exact hs1.trans h2
          · have := chk_kind (sound_chk hs); simp only [Tm.kind] at this; omega
        · exact hs1.more h1
      · exact ⟨Nat.le_refl _, ⟨hn.1, by show (nx s.a n).length ≤ _; omega⟩, Nat.le_refl _, by show s.v.length ≤ _; omega⟩
    · exact r0
end Go.Proofs.Ytibepkljcofpdaa.pm
namespace Go.Proofs.Ytibepkljcofpdaa.pm
set_option linter.unusedVariables false
open Go.ChangeShapes Go.WideShapes Go.ChangeAt Go.RowKit
open Go.Proofs.Ytibepkljcofpdaa.tm Go.Proofs.Ytibepkljcofpdaa.hp Go.Proofs.Ytibepkljcofpdaa.cel
open Go.Proofs.Ytibepkljcofpdaa.atm (nv ne nx)
/-- the same, variables by other numbers -/
def mpS (f : Int → Int) (s : S) : S := ⟨s.h, s.a, s.v.map fun x => (f x.1, x.2)⟩
theorem look_mp {f : Int → Int} {A : Int → Prop} (hf : ∀ x y, A x → A y → f x = f y → x = y) {i : Int} (hi : A i) : ∀ (v : List (Int × Int)), (∀ k ∈ keys v, A k) → look (v.map fun x => (f x.1, x.2)) (f i) = look v i
  | [], _ => rfl
  | x :: r, h => by
    have ih := look_mp hf hi r (fun k hk => h k (by unfold keys at hk ⊢; simp at hk ⊢; exact Or.inr hk))
    have hx : A x.1 := h x.1 (by simp [keys])
    unfold look at ih ⊢
    rw [List.map_cons, List.find?_cons, List.find?_cons]
    by_cases e : x.1 = i
    · simp [e]
    · have e' : ¬ f x.1 = f i := fun he => e (hf _ _ hx hi he)
      simp only [e, e', decide_false]
      exact ih
def PS (f : Int → Int) (A : Int → Prop) (r r' : Int × Int × S) : Prop := r'.1 = r.1 ∧ r'.2.1 = r.2.1 ∧ r'.2.2 = mpS f r.2.2 ∧ ∀ k ∈ keys r.2.2.v, A k
theorem putL_sub (m : Int) {f : Int → Int} {A : Int → Prop} : ∀ (l : List Tm), (∀ t ∈ l, ∀ own s, (∀ k ∈ keys s.v, A k) → PS f A (put m t own s) (put m (sub (fun n => var (f n)) t) own (mpS f s))) → ∀ p s, (∀ k ∈ keys s.v, A k) →
    (putL m (subL (fun n => var (f n)) l) p (mpS f s)).1 = (putL m l p s).1 ∧ (putL m (subL (fun n => var (f n)) l) p (mpS f s)).2 = mpS f (putL m l p s).2 ∧ ∀ k ∈ keys (putL m l p s).2.v, A k
  | [], _, p, s, hk => by
    rw [subL, putL, putL]; exact ⟨rfl, rfl, hk⟩
  | t :: r, h, p, s, hk => by
    have h1 := h t (by simp) p s hk
    rw [subL, putL, putL]
    revert h1
    generalize put m t p s = P
    generalize put m (sub (fun n => var (f n)) t) p (mpS f s) = P'
    obtain ⟨c, e, s1⟩ := P
    obtain ⟨c', e', s1'⟩ := P'
    rintro ⟨h1, h2, h3, h4⟩
    dsimp only at h1 h2 h3 h4 ⊢
    subst h1; subst h2; subst h3
    by_cases he : e' = 0
    · rw [if_pos he, if_pos he]
      exact putL_sub m r (fun x hx => h x (by simp [hx])) (p + 1) ⟨s1.h.set p c', s1.a, s1.v⟩ h4
    · rw [if_neg he, if_neg he]
      exact ⟨rfl, rfl, h4⟩
theorem subL_len (s : Int → Tm) : ∀ l : List Tm, (subL s l).length = l.length
  | [] => rfl
  | t :: r => by rw [subL, List.length_cons, List.length_cons, subL_len s r]
theorem put_k1 (m : Int) (n : ByteArray) (i re im : Int) (l : List Tm) (own : Int) (s : S) : put m (.mk 1 n i re im l) own s = (match look s.v i with
      | some c => (c, 0, s)
      | none => if own < 0 then (if (s.h.length : Int) < m then ((s.h.length : Int) * 8, 0, ⟨s.h ++ [(s.h.length : Int) * 8], s.a, s.v ++ [(i, (s.h.length : Int) * 8)]⟩) else (0, 4, s))
        else (own * 8, 0, ⟨s.h, s.a, s.v ++ [(i, own * 8)]⟩)) := by
  rw [put, if_neg (by decide), if_neg (by decide), if_neg (by decide), if_pos rfl]
  cases look s.v i <;> rfl
theorem put_k2 (m : Int) (n : ByteArray) (i re im : Int) (l : List Tm) (own : Int) (s : S) : put m (.mk 2 n i re im l) own s = (if ne s.a n = 0 then (jn 2 (nv s.a n), 0, ⟨s.h, nx s.a n, s.v⟩) else (0, ne s.a n, s)) := by rw [put, if_pos rfl]
theorem put_k3 (m : Int) (n : ByteArray) (i re im : Int) (l : List Tm) (own : Int) (s : S) : put m (.mk 3 n i re im l) own s = (if so i = true then (sv i, 0, s) else if (s.h.length : Int) < m then (jn 4 s.h.length, 0, ⟨s.h ++ [u64 i], s.a, s.v⟩) else (0, 4, s)) := by rw [put, if_neg (by decide), if_pos rfl]
theorem put_k4 (m : Int) (n : ByteArray) (i re im : Int) (l : List Tm) (own : Int) (s : S) : put m (.mk 4 n i re im l) own s = (if (s.h.length : Int) < m then (if (s.h.length : Int) + 1 < m then (jn 5 s.h.length, 0, ⟨s.h ++ [re] ++ [im], s.a, s.v⟩) else (0, 4, ⟨s.h ++ [re], s.a, s.v⟩)) else (0, 4, s)) := by rw [put, if_neg (by decide), if_neg (by decide), if_pos rfl]
theorem put_k5 (m : Int) (n : ByteArray) (i re im : Int) (l : List Tm) (own : Int) (s : S) : put m (.mk 5 n i re im l) own s = (if ne s.a n = 0 then (if (s.h.length : Int) < m then
        (match more m l.length (s.h ++ [jn 6 (nv s.a n * 256 + l.length)]) with
          | (e, h) => if e = 0 then (match putL m l (s.h.length + 1) ⟨h, nx s.a n, s.v⟩ with
              | (e, s') => if e = 0 then (jn 1 s.h.length, 0, s') else (0, e, s'))
            else (0, e, ⟨h, nx s.a n, s.v⟩))
      else (0, 4, ⟨s.h, nx s.a n, s.v⟩)) else (0, ne s.a n, s)) := by rw [put, if_neg (by decide), if_neg (by decide), if_neg (by decide), if_neg (by decide)]
theorem put_sub (m : Int) {f : Int → Int} {A : Int → Prop} (hf : ∀ x y, A x → A y → f x = f y → x = y) (t : Tm) : sound t = true → (∀ n ∈ occ t, A n) → ∀ own s, (∀ k ∈ keys s.v, A k) → PS f A (put m t own s) (put m (sub (fun n => var (f n)) t) own (mpS f s)) := by
  induction t using Tm.ind with
  | h k n i re im l ih =>
    intro hs hA own s hk
    have hc := Go.Proofs.Ytibepkljcofpdaa.tm.chk_kind (sound_chk hs)
    simp only [Tm.kind] at hc
    by_cases k1 : k = 1
    · subst k1
      have hi : A i := hA i (by simp [occ])
      have e : sub (fun n => var (f n)) (.mk 1 n i re im l) = var (f i) := by simp [sub]
      rw [e, var, put_k1, put_k1]
      rw [show look (mpS f s).v (f i) = look s.v i from look_mp hf hi s.v hk]
      cases hl : look s.v i with
      | some c => exact ⟨rfl, rfl, rfl, hk⟩
      | none =>
        have hadd : ∀ c, ∀ k ∈ keys (s.v ++ [(i, c)]), A k := fun c k hk' => by
          unfold keys at hk'
          rw [List.map_append, List.mem_append] at hk'
          rcases hk' with h | h
          · exact hk k h
          · simp at h; subst h; exact hi
        dsimp only
        by_cases ho : own < 0
        · rw [if_pos ho, if_pos ho]
          by_cases hm : (s.h.length : Int) < m
          · rw [if_pos hm, if_pos (show ((mpS f s).h.length : Int) < m from hm)]
            exact ⟨rfl, rfl, by simp [mpS], hadd _⟩
          · rw [if_neg hm, if_neg (show ¬ ((mpS f s).h.length : Int) < m from hm)]
            exact ⟨rfl, rfl, rfl, hk⟩
        · rw [if_neg ho, if_neg ho]
          exact ⟨rfl, rfl, by simp [mpS], hadd _⟩
    by_cases k2 : k = 2
    · subst k2
      have e : sub (fun n => var (f n)) (.mk 2 n i re im l) = .mk 2 n 0 0 0 [] := by simp [sub]
      rw [e, put_k2, put_k2]
      show PS f A _ (if ne s.a n = 0 then _ else _)
      split
      · exact ⟨rfl, rfl, rfl, hk⟩
      · exact ⟨rfl, rfl, rfl, hk⟩
    by_cases k3 : k = 3
    · subst k3
      have e : sub (fun n => var (f n)) (.mk 3 n i re im l) = .mk 3 E i 0 0 [] := by simp [sub]
      rw [e, put_k3, put_k3]
      by_cases hso : so i = true
      · rw [if_pos hso, if_pos hso]; exact ⟨rfl, rfl, rfl, hk⟩
      · rw [if_neg hso, if_neg hso]
        by_cases hm : (s.h.length : Int) < m
        · rw [if_pos hm, if_pos (show ((mpS f s).h.length : Int) < m from hm)]; exact ⟨rfl, rfl, rfl, hk⟩
        · rw [if_neg hm, if_neg (show ¬ ((mpS f s).h.length : Int) < m from hm)]; exact ⟨rfl, rfl, rfl, hk⟩
    by_cases k4 : k = 4
    · subst k4
      have e : sub (fun n => var (f n)) (.mk 4 n i re im l) = .mk 4 E 0 re im [] := by simp [sub]
      rw [e, put_k4, put_k4]
      by_cases hm : (s.h.length : Int) < m
      · rw [if_pos hm, if_pos (show ((mpS f s).h.length : Int) < m from hm)]
        by_cases hm2 : (s.h.length : Int) + 1 < m
        · rw [if_pos hm2, if_pos (show ((mpS f s).h.length : Int) + 1 < m from hm2)]; exact ⟨rfl, rfl, rfl, hk⟩
        · rw [if_neg hm2, if_neg (show ¬ ((mpS f s).h.length : Int) + 1 < m from hm2)]; exact ⟨rfl, rfl, rfl, hk⟩
      · rw [if_neg hm, if_neg (show ¬ ((mpS f s).h.length : Int) < m from hm)]; exact ⟨rfl, rfl, rfl, hk⟩
    obtain rfl : k = 5 := by omega
    have e : sub (fun n => var (f n)) (.mk 5 n i re im l) = .mk 5 n 0 0 0 (subL (fun n => var (f n)) l) := by simp [sub]
    have hAl : ∀ x ∈ l, ∀ n ∈ occ x, A n := fun x hx n hn => hA n (by rw [occ, if_neg (by decide), if_pos rfl, occL_flat]; exact List.mem_flatMap.2 ⟨x, hx, hn⟩)
    have hL := putL_sub m (f := f) (A := A) l (fun x hx => ih x hx (sound_args hs rfl x hx) (hAl x hx))
    rw [e, put_k5, put_k5, subL_len, show (mpS f s).h = s.h from rfl, show (mpS f s).a = s.a from rfl]
    by_cases hn : ne s.a n = 0
    · rw [if_pos hn, if_pos hn]
      by_cases hm : (s.h.length : Int) < m
      · rw [if_pos hm, if_pos hm]
        generalize more m l.length (s.h ++ [jn 6 (nv s.a n * 256 + ↑l.length)]) = M
        obtain ⟨e9, h9⟩ := M
        dsimp only
        by_cases he : e9 = 0
        · rw [if_pos he, if_pos he]
          have h1 := hL (s.h.length + 1) ⟨h9, nx s.a n, s.v⟩ hk
          revert h1
          rw [show (⟨h9, nx s.a n, (mpS f s).v⟩ : S) = mpS f ⟨h9, nx s.a n, s.v⟩ from rfl]
          generalize putL m l (s.h.length + 1) ⟨h9, nx s.a n, s.v⟩ = Q
          generalize putL m (subL (fun n => var (f n)) l) (s.h.length + 1) (mpS f ⟨h9, nx s.a n, s.v⟩) = Q'
          obtain ⟨e8, s8⟩ := Q
          obtain ⟨e8', s8'⟩ := Q'
          rintro ⟨h1, h2, h3⟩
          dsimp only at h1 h2 h3 ⊢
          subst h1; subst h2
          by_cases h8 : e8' = 0
          · rw [if_pos h8, if_pos h8]; exact ⟨rfl, rfl, rfl, h3⟩
          · rw [if_neg h8, if_neg h8]; exact ⟨rfl, rfl, rfl, h3⟩
        · rw [if_neg he, if_neg he]; exact ⟨rfl, rfl, rfl, hk⟩
      · rw [if_neg hm, if_neg hm]; exact ⟨rfl, rfl, rfl, hk⟩
    · rw [if_neg hn, if_neg hn]; exact ⟨rfl, rfl, rfl, hk⟩
end Go.Proofs.Ytibepkljcofpdaa.pm
