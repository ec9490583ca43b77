/- Terms laid in cells: the plain mathematics: what Put makes, step by step. No program. Put of a term that may be, where there is room: no error; what the cells stand for; how many there are. The mathematics. Put: what there is grows, by so much at most, whatever comes of it. The mathematics. Put of a term whose variables have other numbers: the same cells. The mathematics. Terms told from cells: what Get tells, step by step; Get of what Put laid. The mathematics. -/
import Derived.Test.YthableojkjhicaaHp
import Derived.Test.YthableojkjhicaaTab
import Derived.Test.YthableojkjhicaaTm
import Derived.Test.YthableojkjhicaaRm
namespace Go.Proofs.Ythableojkjhicaa.pm
set_option linter.unusedVariables false
open Go.ChangeShapes Go.WideShapes Go.ChangeAt Go.RowKit Go.Maps
open Go.Proofs.Ythableojkjhicaa.tm Go.Proofs.Ythableojkjhicaa.hp Go.Proofs.Ythableojkjhicaa.cel
open Go.Proofs.Ythableojkjhicaa.atm (nv ne nx)
/-- cells, names, the cells of variables (in the order in which they were met) -/
structure S where
  h : List Int
  a : List ByteArray
  v : List (Int × Int)
def keys (v : List (Int × Int)) : List Int := v.map (·.1)
def look (v : List (Int × Int)) (i : Int) : Option Int := (v.find? fun x => decide (x.1 = i)).map (·.2)
/-- a number's word -/
def u64 (i : Int) : Int := IntKind.u64.wrap i
/-- as many variables at the end: an error, the cells -/
def more (m : Int) : Nat → List Int → Int × List Int
  | 0, l => (0, l)
  | n + 1, l => if (l.length : Int) < m then more m n (l ++ [(l.length : Int) * 8]) else (4, l)
mutual
/-- a term is laid; own: its place, if it has one (else below 0): its cell, an error, what there is then -/
def put (m : Int) : Tm → Int → S → Int × Int × S
  | .mk k n i re im l, own, s =>
    if k = 2 then (if ne s.a n = 0 then (jn 2 (nv s.a n), 0, ⟨s.h, nx s.a n, s.v⟩) else (0, ne s.a n, s))
    else if k = 3 then (if so i = true then (sv i, 0, s) else if (s.h.length : Int) < m then (jn 4 s.h.length, 0, ⟨s.h ++ [u64 i], s.a, s.v⟩) else (0, 4, s))
    else if k = 4 then (if (s.h.length : Int) < m then (if (s.h.length : Int) + 1 < m then (jn 5 s.h.length, 0, ⟨s.h ++ [re] ++ [im], s.a, s.v⟩) else (0, 4, ⟨s.h ++ [re], s.a, s.v⟩)) else (0, 4, s))
    else if k = 1 then (match look s.v i with
      | some c => (c, 0, s)
      | none => if own < 0 then (if (s.h.length : Int) < m then ((s.h.length : Int) * 8, 0, ⟨s.h ++ [(s.h.length : Int) * 8], s.a, s.v ++ [(i, (s.h.length : Int) * 8)]⟩) else (0, 4, s))
        else (own * 8, 0, ⟨s.h, s.a, s.v ++ [(i, own * 8)]⟩))
    else if ne s.a n = 0 then (if (s.h.length : Int) < m then
        (match more m l.length (s.h ++ [jn 6 (nv s.a n * 256 + l.length)]) with
          | (e, h) => if e = 0 then (match putL m l (s.h.length + 1) ⟨h, nx s.a n, s.v⟩ with
              | (e, s') => if e = 0 then (jn 1 s.h.length, 0, s') else (0, e, s'))
            else (0, e, ⟨h, nx s.a n, s.v⟩))
      else (0, 4, ⟨s.h, nx s.a n, s.v⟩))
    else (0, ne s.a n, s)
/-- arguments are laid, each set where it stands -/
def putL (m : Int) : List Tm → Nat → S → Int × S
  | [], _, s => (0, s)
  | t :: r, p, s => match put m t p s with
    | (c, e, s') => if e = 0 then putL m r (p + 1) ⟨s'.h.set p c, s'.a, s'.v⟩ else (e, s')
end
/-! ### more variables -/
theorem more_room (m : Int) : ∀ (n : Nat) (l : List Int), (l.length : Int) + n ≤ m → (more m n l).1 = 0 ∧ (more m n l).2.length = l.length + n ∧ (∀ q, q < l.length → (more m n l).2.getD q 0 = l.getD q 0) ∧ ∀ q, l.length ≤ q → q < l.length + n → (more m n l).2.getD q 0 = (q : Int) * 8
  | 0, l, h => ⟨rfl, rfl, fun q _ => rfl, fun q h1 h2 => by omega⟩
  | n + 1, l, h => by
    unfold more
    rw [if_pos (by omega)]
    have hl : (l ++ [(l.length : Int) * 8]).length = l.length + 1 := by simp
    obtain ⟨h1, h2, h3, h4⟩ := more_room m n (l ++ [(l.length : Int) * 8]) (by rw [hl]; omega)
    rw [hl] at h2 h3 h4
    refine ⟨h1, by omega, fun q hq => ?_, fun q ha hb => ?_⟩
    · rw [h3 q (by omega), List.getD_eq_getElem?_getD, List.getD_eq_getElem?_getD, List.getElem?_append_left hq]
    · by_cases e : q = l.length
      · subst e
        rw [h3 _ (by omega)]; simp [List.getD]
      · exact h4 q (by omega) (by omega)
/-- the first cells stay -/
def Pre (l l' : List Int) : Prop := l.length ≤ l'.length ∧ ∀ q, q < l.length → l'.getD q 0 = l.getD q 0
theorem Pre.refl (l : List Int) : Pre l l := ⟨Nat.le_refl _, fun _ _ => rfl⟩
theorem Pre.trans {a b c : List Int} (h : Pre a b) (k : Pre b c) : Pre a c := ⟨Nat.le_trans h.1 k.1, fun q hq => (k.2 q (Nat.lt_of_lt_of_le hq h.1)).trans (h.2 q hq)⟩
theorem Pre.add (l x : List Int) : Pre l (l ++ x) := ⟨by simp, fun q hq => by rw [List.getD_eq_getElem?_getD, List.getD_eq_getElem?_getD, List.getElem?_append_left hq]⟩
theorem more_pre (m : Int) : ∀ (n : Nat) (l : List Int), Pre l (more m n l).2
  | 0, l => Pre.refl l
  | n + 1, l => by
    unfold more
    split
    · exact (Pre.add _ _).trans (more_pre m n _)
    · exact Pre.refl l
theorem Pre.set {l l' : List Int} (h : Pre l l') {p : Nat} (hp : l.length ≤ p) (c : Int) : Pre l (l'.set p c) :=
  ⟨by simpa using h.1, fun q hq => by
    rw [← h.2 q hq, List.getD_eq_getElem?_getD, List.getD_eq_getElem?_getD, List.getElem?_set_ne (by omega)]⟩
/-! ### names -/
theorem nx_pre (a : List ByteArray) (n : ByteArray) : ∃ b, nx a n = a ++ b ∧ b.length ≤ 1 := by
  unfold nx; split
  · exact ⟨[], by simp⟩
  · split
    · exact ⟨[], by simp⟩
    · split
      · exact ⟨[], by simp⟩
      · exact ⟨[n], by simp⟩
/-- a name that is short enough, where there is room -/
theorem name_ok {a : List ByteArray} {n : ByteArray} (h1 : n.size ≤ 200) (h2 : a.length < 4096) : ne a n = 0 ∧ 0 ≤ nv a n ∧ nv a n < 4096 ∧ (nx a n)[(nv a n).toNat]? = some n ∧ nv a n < (nx a n).length := by
  have g1 : ¬ 200 < n.size := by omega
  have g2 : ¬ 4096 ≤ a.length := by omega
  unfold ne nv nx
  by_cases h : n ∈ a
  · have := List.idxOf_lt_length_of_mem h
    rw [if_neg g1, if_neg g1, if_neg g1, if_pos h, if_pos h, if_pos h]
    refine ⟨rfl, by omega, by omega, ?_, by omega⟩
    rw [Int.toNat_natCast, List.getElem?_eq_getElem this, List.getElem_idxOf]
  · rw [if_neg g1, if_neg g1, if_neg g1, if_neg h, if_neg h, if_neg h, if_neg g2, if_neg g2, if_neg g2]
    refine ⟨rfl, by omega, by omega, by simp, by simp; omega⟩
/-! ### what a cell stands for: places that it needs lie off O -/
mutual
def Rep (O : Nat → Prop) (s : S) : Tm → Int → Prop
  | .mk k n i re im l, c =>
    if k = 2 then ∃ j : Nat, c = jn 2 j ∧ j < 4096 ∧ s.a[j]? = some n
    else if k = 3 then (if so i = true then c = sv i else ∃ p : Nat, c = jn 4 p ∧ ¬ O p ∧ p < s.h.length ∧ s.h.getD p 0 = u64 i)
    else if k = 4 then ∃ p : Nat, c = jn 5 p ∧ ¬ O p ∧ ¬ O (p + 1) ∧ p + 1 < s.h.length ∧ s.h.getD p 0 = re ∧ s.h.getD (p + 1) 0 = im
    else if k = 1 then look s.v i = some c
    else ∃ p j : Nat, c = jn 1 p ∧ ¬ O p ∧ p + l.length < s.h.length ∧ j < 4096 ∧ s.h.getD p 0 = jn 6 ((j : Int) * 256 + l.length) ∧ s.a[j]? = some n ∧ RepL O s l (p + 1)
def RepL (O : Nat → Prop) (s : S) : List Tm → Nat → Prop
  | [], _ => True
  | t :: r, p => ¬ O p ∧ p < s.h.length ∧ Rep O s t (s.h.getD p 0) ∧ RepL O s r (p + 1)
end
/-- each variable has a cell of its own, off O; each variable once, each place once -/
structure Vs (O : Nat → Prop) (s : S) : Prop where
  cell : ∀ i c, look s.v i = some c → ∃ p : Nat, c = (p : Int) * 8 ∧ ¬ O p ∧ p < s.h.length ∧ s.h.getD p 0 = c
  nd : (keys s.v).Nodup
  inj : (s.v.map (·.2)).Nodup
/-- more of all -/
structure Ext (O : Nat → Prop) (s s' : S) : Prop where
  h : s.h.length ≤ s'.h.length ∧ ∀ q, q < s.h.length → ¬ O q → s'.h.getD q 0 = s.h.getD q 0
  a : ∃ b, s'.a = s.a ++ b
  v : ∃ b, s'.v = s.v ++ b
theorem Ext.refl (O : Nat → Prop) (s : S) : Ext O s s := ⟨⟨Nat.le_refl _, fun _ _ _ => rfl⟩, ⟨[], by simp⟩, ⟨[], by simp⟩⟩
theorem Ext.trans {O : Nat → Prop} {a b c : S} (h : Ext O a b) (k : Ext O b c) : Ext O a c := by
  obtain ⟨⟨h1, h2⟩, ⟨x, hx⟩, ⟨y, hy⟩⟩ := h
  obtain ⟨⟨k1, k2⟩, ⟨x', hx'⟩, ⟨y', hy'⟩⟩ := k
  exact ⟨⟨Nat.le_trans h1 k1, fun q hq ho => (k2 q (Nat.lt_of_lt_of_le hq h1) ho).trans (h2 q hq ho)⟩, ⟨x ++ x', by rw [hx', hx, List.append_assoc]⟩, ⟨y ++ y', by rw [hy', hy, List.append_assoc]⟩⟩
theorem Ext.of_pre {O : Nat → Prop} {s s' : S} (h : Pre s.h s'.h) (a : ∃ b, s'.a = s.a ++ b) (v : ∃ b, s'.v = s.v ++ b) : Ext O s s' := ⟨⟨h.1, fun q hq _ => h.2 q hq⟩, a, v⟩
theorem Ext.mono {O O' : Nat → Prop} {s s' : S} (h : Ext O s s') (hs : ∀ q, O q → O' q) : Ext O' s s' := ⟨⟨h.h.1, fun q hq ho => h.h.2 q hq fun x => ho (hs q x)⟩, h.a, h.v⟩
theorem look_add {v b : List (Int × Int)} {i c : Int} (h : look v i = some c) : look (v ++ b) i = some c := by
  unfold look at *
  rw [List.find?_append]
  cases e : v.find? fun x => decide (x.1 = i) with
  | none => rw [e] at h; simp at h
  | some x => rw [e] at h; simpa using h
theorem look_none {v : List (Int × Int)} {i : Int} : look v i = none ↔ i ∉ keys v := by
  unfold look keys
  simp only [Option.map_eq_none_iff, List.find?_eq_none, decide_eq_true_eq, List.mem_map, not_exists, not_and]
theorem look_new {v : List (Int × Int)} {i c : Int} (h : look v i = none) : look (v ++ [(i, c)]) i = some c := by
  unfold look at *
  simp only [Option.map_eq_none_iff] at h
  rw [List.find?_append, h]; simp
theorem look_old {v : List (Int × Int)} {i j c : Int} (h : i ≠ j) : look (v ++ [(i, c)]) j = look v j := by
  unfold look
  rw [List.find?_append]
  cases e : v.find? fun x => decide (x.1 = j) with
  | none => simp [h]
  | some x => simp
theorem look_mem {v : List (Int × Int)} {i c : Int} (h : look v i = some c) : (i, c) ∈ v := by
  unfold look at h
  cases e : v.find? fun x => decide (x.1 = i) with
  | none => rw [e] at h; simp at h
  | some x =>
    rw [e] at h
    have h1 := List.find?_some e
    have h2 := List.mem_of_find?_eq_some e
    simp at h h1
    subst h; subst h1; exact h2
theorem mem_look {v : List (Int × Int)} (hn : (keys v).Nodup) {i c : Int} (h : (i, c) ∈ v) : look v i = some c := by
  induction v with
  | nil => simp at h
  | cons x r ih =>
    unfold keys at hn
    simp only [List.map_cons, List.nodup_cons] at hn
    rcases List.mem_cons.1 h with e | h
    · subst e; simp [look]
    · have hx : x.1 ≠ i := fun e => hn.1 (by rw [e]; exact List.mem_map.2 ⟨_, h, rfl⟩)
      have := ih hn.2 h
      unfold look at this ⊢
      simpa [List.find?_cons, hx] using this
/-- Rep stays where more comes and what has turned lies in O -/
theorem Rep.ext {O : Nat → Prop} {s s' : S} (hx : Ext O s s') : ∀ (t : Tm) (c : Int), Rep O s t c → Rep O s' t c := by
  intro t
  obtain ⟨⟨h1, h2⟩, ⟨b, ha⟩, ⟨d, hv⟩⟩ := hx
  have hat : ∀ (j : Nat) (n : ByteArray), s.a[j]? = some n → s'.a[j]? = some n := fun j n h => by
    rw [ha, List.getElem?_append_left (List.getElem?_eq_some_iff.1 h).1]; exact h
  induction t using Tm.ind with
  | h k n i re im l ih =>
    intro c h
    rw [Rep] at h ⊢
    by_cases k2 : k = 2
    · rw [if_pos k2] at h ⊢
      obtain ⟨j, e, hj, hn⟩ := h
      exact ⟨j, e, hj, hat j n hn⟩
    rw [if_neg k2] at h ⊢
    by_cases k3 : k = 3
    · rw [if_pos k3] at h ⊢
      split at h
      · rename_i hso; rw [if_pos hso]; exact h
      · rename_i hso; rw [if_neg hso]
        obtain ⟨p, e, ho, hp, hc⟩ := h
        exact ⟨p, e, ho, by omega, (h2 p hp ho).trans hc⟩
    rw [if_neg k3] at h ⊢
    by_cases k4 : k = 4
    · rw [if_pos k4] at h ⊢
      obtain ⟨p, e, ho, ho1, hp, hc, hc1⟩ := h
      exact ⟨p, e, ho, ho1, by omega, (h2 p (by omega) ho).trans hc, (h2 _ hp ho1).trans hc1⟩
    rw [if_neg k4] at h ⊢
    by_cases k1 : k = 1
    · rw [if_pos k1] at h ⊢
      rw [hv]; exact look_add h
    rw [if_neg k1] at h ⊢
    obtain ⟨p, j, e, ho, hp, hj, hc, hn, hl⟩ := h
    refine ⟨p, j, e, ho, by omega, hj, (h2 p (by omega) ho).trans hc, hat j n hn, ?_⟩
    have key : ∀ (l : List Tm), (∀ x ∈ l, ∀ c, Rep O s x c → Rep O s' x c) → ∀ p, RepL O s l p → RepL O s' l p := by
      intro l
      induction l with
      | nil => intro _ p _; rw [RepL]; trivial
      | cons t r ihr =>
        intro hh p hr
        rw [RepL] at hr ⊢
        obtain ⟨q1, q2, q3, q4⟩ := hr
        refine ⟨q1, by omega, ?_, ihr (fun x hx => hh x (by simp [hx])) _ q4⟩
        rw [h2 p q2 q1]
        exact hh t (by simp) _ q3
    exact key l ih _ hl
theorem RepL.ext {O : Nat → Prop} {s s' : S} (hx : Ext O s s') : ∀ (l : List Tm) (p : Nat), RepL O s l p → RepL O s' l p
  | [], _, _ => by rw [RepL]; trivial
  | t :: r, p, h => by
    rw [RepL] at h ⊢
    obtain ⟨q1, q2, q3, q4⟩ := h
    have h2 := hx.h
    refine ⟨q1, by omega, ?_, RepL.ext hx r _ q4⟩
    rw [h2.2 p q2 q1]
    exact Rep.ext hx t _ q3
/-- fewer places are open -/
theorem Rep.less {O O' : Nat → Prop} {s : S} (ho : ∀ q, O' q → O q) : ∀ (t : Tm) (c : Int), Rep O s t c → Rep O' s t c := by
  intro t
  induction t using Tm.ind with
  | h k n i re im l ih =>
    intro c h
    rw [Rep] at h ⊢
    by_cases k2 : k = 2
    · rw [if_pos k2] at h ⊢; exact h
    rw [if_neg k2] at h ⊢
    by_cases k3 : k = 3
    · rw [if_pos k3] at h ⊢
      split at h
      · rename_i hso; rw [if_pos hso]; exact h
      · rename_i hso; rw [if_neg hso]
        obtain ⟨p, e, h1, hp⟩ := h
        exact ⟨p, e, fun q => h1 (ho _ q), hp⟩
    rw [if_neg k3] at h ⊢
    by_cases k4 : k = 4
    · rw [if_pos k4] at h ⊢
      obtain ⟨p, e, h1, h2, hp⟩ := h
      exact ⟨p, e, fun q => h1 (ho _ q), fun q => h2 (ho _ q), hp⟩
    rw [if_neg k4] at h ⊢
    by_cases k1 : k = 1
    · rw [if_pos k1] at h ⊢; exact h
    rw [if_neg k1] at h ⊢
    obtain ⟨p, j, e, h1, hp, hj, hc, hn, hl⟩ := h
    refine ⟨p, j, e, fun q => h1 (ho _ q), hp, hj, hc, hn, ?_⟩
    have key : ∀ (l : List Tm), (∀ x ∈ l, ∀ c, Rep O s x c → Rep O' s x c) → ∀ p, RepL O s l p → RepL O' s l p := by
      intro l
      induction l with
      | nil => intro _ p _; rw [RepL]; trivial
      | cons t r ihr =>
        intro hh p hr
        rw [RepL] at hr ⊢
        obtain ⟨q1, q2, q3, q4⟩ := hr
        exact ⟨fun q => q1 (ho _ q), q2, hh t (by simp) _ q3, ihr (fun x hx => hh x (by simp [hx])) _ q4⟩
    exact key l ih _ hl
end Go.Proofs.Ythableojkjhicaa.pm
namespace Go.Proofs.Ythableojkjhicaa.pm
set_option linter.unusedVariables false
open Go.ChangeShapes Go.WideShapes Go.ChangeAt Go.RowKit
open Go.Proofs.Ythableojkjhicaa.tm Go.Proofs.Ythableojkjhicaa.hp Go.Proofs.Ythableojkjhicaa.cel
open Go.Proofs.Ythableojkjhicaa.atm (nv ne nx)
mutual
/-- how many cells a term takes, a variable none -/
def nd : Tm → Nat
  | .mk k n i re im l => if k = 3 then (if so i = true then 0 else 1) else if k = 4 then 2 else if k = 5 then 1 + l.length + ndL l else 0
def ndL : List Tm → Nat
  | [] => 0
  | t :: r => nd t + ndL r
end
theorem nd_size (t : Tm) : nd t + 1 ≤ 3 * size t := by
  induction t using Tm.ind with
  | h k n i re im l ih =>
    have hl : ∀ (l : List Tm), (∀ x ∈ l, nd x + 1 ≤ 3 * size x) → ndL l + l.length ≤ 3 * sizeL l := by
      intro l
      induction l with
      | nil => intro _; simp [ndL, sizeL]
      | cons t r ihr =>
        intro h
        have h1 := h t (by simp)
        have h2 := ihr fun x hx => h x (by simp [hx])
        simp only [ndL, sizeL, List.length_cons]; omega
    have := hl l ih
    rw [nd, size]
    by_cases k3 : k = 3
    · subst k3; simp; split <;> omega
    by_cases k4 : k = 4
    · subst k4; simp
    by_cases k5 : k = 5
    · subst k5; simp; omega
    · simp [k3, k4, k5]
theorem Vs.less {O O' : Nat → Prop} {s : S} (h : Vs O s) (ho : ∀ q, O' q → O q) : Vs O' s :=
  ⟨fun i c e => by obtain ⟨p, a, b, d⟩ := h.cell i c e; exact ⟨p, a, fun q => b (ho _ q), d⟩, h.nd, h.inj⟩
theorem Vs.ext {O : Nat → Prop} {s s' : S} (h : Vs O s) (hx : Ext O s s') (hv : s'.v = s.v) : Vs O s' := by
  refine ⟨fun i c e => ?_, by rw [hv]; exact h.nd, by rw [hv]; exact h.inj⟩
  rw [hv] at e
  obtain ⟨p, a, b, d, f⟩ := h.cell i c e
  exact ⟨p, a, b, Nat.lt_of_lt_of_le d hx.h.1, (hx.h.2 p d b).trans f⟩
theorem keys_add (v : List (Int × Int)) (i c : Int) : keys (v ++ [(i, c)]) = keys v ++ [i] := by simp [keys]
/-- one more variable, its place p new among them -/
theorem Vs.new {O O' : Nat → Prop} {s s' : S} (h : Vs O s) (hx : Ext O s s') {i : Int} {p : Nat} (hi : look s.v i = none) (hv : s'.v = s.v ++ [(i, (p : Int) * 8)]) (hp : p < s'.h.length) (hc : s'.h.getD p 0 = (p : Int) * 8) (ho : ¬ O' p) (hoo : ∀ q, O' q → O q) (hn : O p ∨ s.h.length ≤ p) : Vs O' s' := by
  have hne : ∀ j c, look s.v j = some c → c ≠ (p : Int) * 8 := fun j c e q => by
    obtain ⟨p', a, b, d, f⟩ := h.cell j c e
    rw [a] at q
    have : p' = p := by omega
    subst this
    rcases hn with hn | hn
    · exact b hn
    · omega
  refine ⟨fun j c e => ?_, ?_, ?_⟩
  · rw [hv] at e
    by_cases hj : i = j
    · subst hj
      rw [look_new hi] at e; injection e with e; subst e
      exact ⟨p, rfl, ho, hp, hc⟩
    · rw [look_old hj] at e
      obtain ⟨p', a, b, d, f⟩ := h.cell j c e
      exact ⟨p', a, fun q => b (hoo _ q), Nat.lt_of_lt_of_le d hx.h.1, (hx.h.2 p' d b).trans f⟩
  · rw [hv, keys_add]
    have := look_none.1 hi
    rw [List.nodup_append]
    exact ⟨h.nd, by simp, fun a ha b hb => by simp at hb; subst hb; exact fun e => this (e ▸ ha)⟩
  · rw [hv, List.map_append]
    rw [List.nodup_append]
    refine ⟨h.inj, by simp, fun a ha b hb => ?_⟩
    simp at hb; subst hb
    obtain ⟨⟨j, c⟩, hm, rfl⟩ := List.mem_map.1 ha
    exact hne j c (mem_look h.nd hm)
/-- what Put makes of a term -/
structure Ok (m : Int) (O : Nat → Prop) (t : Tm) (own : Int) (s : S) (c : Int) (s' : S) : Prop where
  pre : Pre s.h s'.h
  a : ∃ b, s'.a = s.a ++ b ∧ b.length ≤ size t
  v : ∃ b, s'.v = s.v ++ b
  len : s'.h.length = s.h.length + (if t.kind = 1 then (if own < 0 ∧ look s.v t.int = none then 1 else 0) else nd t)
  keys : keys s'.v = (occ t).foldl addv (keys s.v)
  rep : (∃ p : Nat, t.kind = 1 ∧ own = p ∧ c = own * 8 ∧ Vs (fun q => O q ∧ q ≠ p) s' ∧ look s'.v t.int = some c) ∨ (Vs O s' ∧ Rep O s' t c)
structure OkL (m : Int) (O : Nat → Prop) (l : List Tm) (p : Nat) (s s' : S) : Prop where
  pre : s.h.length ≤ s'.h.length ∧ ∀ q, q < s.h.length → ¬ (p ≤ q ∧ q < p + l.length) → s'.h.getD q 0 = s.h.getD q 0
  a : ∃ b, s'.a = s.a ++ b ∧ b.length ≤ sizeL l
  v : ∃ b, s'.v = s.v ++ b
  len : s'.h.length = s.h.length + ndL l
  keys : keys s'.v = (occL l).foldl addv (keys s.v)
  vs : Vs (fun q => O q ∧ ¬ (p ≤ q ∧ q < p + l.length)) s'
  rep : RepL (fun q => O q ∧ ¬ (p ≤ q ∧ q < p + l.length)) s' l p
theorem getD_set {l : List Int} {p q : Nat} {c : Int} (hp : p < l.length) : (l.set p c).getD q 0 = if q = p then c else l.getD q 0 := by
  rw [List.getD_eq_getElem?_getD, List.getD_eq_getElem?_getD, List.getElem?_set]
  by_cases e : p = q
  · subst e; simp [hp]
  · simp [e, show ¬ q = p from fun h => e h.symm]
theorem put_ok (m : Int) (t : Tm) : ∀ (own : Int) (s : S) (O : Nat → Prop), sound t = true → Vs O s → (∀ q, O q → q < s.h.length) → (own < 0 ∨ ∃ p : Nat, own = p ∧ O p ∧ s.h.getD p 0 = (p : Int) * 8) → (s.h.length : Int) + nd t + 1 ≤ m → s.a.length + size t ≤ 4096 →
    ∃ c s', put m t own s = (c, 0, s') ∧ Ok m O t own s c s' := by
  induction t using Tm.ind with
  | h k n i re im l ih =>
    intro own s O hs hv hO hown hm ha
    have hc := sound_chk hs
    have hk := chk_kind hc
    simp only [Tm.kind] at hk
    rcases hk with rfl | rfl | rfl | rfl | rfl
    · -- a variable
      rw [put, if_neg (by decide), if_neg (by decide), if_neg (by decide), if_pos rfl]
      have ho : occ (.mk 1 n i re im l) = [i] := by simp [occ]
      cases hl : look s.v i with
      | some c =>
        refine ⟨c, s, rfl, Pre.refl _, ⟨[], by simp⟩, ⟨[], by simp⟩, by simp [Tm.kind, Tm.int, hl], ?_, Or.inr ⟨hv, by rw [Rep]; simpa using hl⟩⟩
        rw [ho]
        have : i ∈ keys s.v := Classical.byContradiction fun h => by rw [look_none.2 h] at hl; cases hl
        simp [addv, this]
      | none =>
        have hni := look_none.1 hl
        by_cases h0 : own < 0
        · rw [if_pos h0, if_pos (by simp [nd] at hm; omega)]
          refine ⟨_, _, rfl, Pre.add _ _, ⟨[], by simp⟩, ⟨_, rfl⟩, by simp [Tm.kind, Tm.int, hl, h0], by rw [keys_add, ho]; simp [addv, hni], Or.inr ⟨?_, by rw [Rep]; simpa using look_new hl⟩⟩
          refine Vs.new (O := O) hv (Ext.of_pre (Pre.add _ _) ⟨[], by simp⟩ ⟨_, rfl⟩) hl rfl (by simp) (by simp [List.getD]) (fun q => by have := hO _ q; omega) (fun _ h => h) (Or.inr (Nat.le_refl _))
        · rw [if_neg h0]
          obtain ⟨p, rfl, hOp, hcp⟩ := hown.resolve_left h0
          refine ⟨_, _, rfl, Pre.refl _, ⟨[], by simp⟩, ⟨_, rfl⟩, by simp [Tm.kind, Tm.int, hl]; try omega, by rw [keys_add, ho]; simp [addv, hni], Or.inl ⟨p, rfl, rfl, rfl, ?_, look_new hl⟩⟩
          exact Vs.new (O := O) hv (Ext.of_pre (Pre.refl _) ⟨[], by simp⟩ ⟨_, rfl⟩) hl rfl (hO p hOp) hcp (fun h => h.2 rfl) (fun _ h => h.1) (Or.inl hOp)
    · -- an atom
      have hn : n.size ≤ 200 := by simp only [chk] at hc; simp at hc; omega
      have h1 : 1 ≤ size (.mk 2 n i re im l) := by rw [size]; omega
      obtain ⟨q1, q2, q3, q4, q5⟩ := name_ok hn (show s.a.length < 4096 by omega)
      rw [put, if_pos rfl, if_pos q1]
      obtain ⟨b, hb, hb1⟩ := nx_pre s.a n
      have hx : Ext O s ⟨s.h, nx s.a n, s.v⟩ := Ext.of_pre (Pre.refl _) ⟨b, hb⟩ ⟨[], by simp⟩
      refine ⟨_, _, rfl, Pre.refl _, ⟨b, hb, by omega⟩, ⟨[], by simp⟩, by simp [Tm.kind, nd], by simp [occ], Or.inr ⟨hv.ext hx rfl, ?_⟩⟩
      rw [Rep, if_pos rfl]
      exact ⟨(nv s.a n).toNat, by rw [Int.toNat_of_nonneg q2], by omega, q4⟩
    · -- a number
      rw [put, if_neg (by decide), if_pos rfl]
      by_cases hso : so i = true
      · rw [if_pos hso]
        refine ⟨_, _, rfl, Pre.refl _, ⟨[], by simp⟩, ⟨[], by simp⟩, by simp [Tm.kind, nd, hso], by simp [occ], Or.inr ⟨hv, ?_⟩⟩
        rw [Rep, if_neg (by decide), if_pos rfl, if_pos hso]
      · rw [if_neg hso]
        have : (s.h.length : Int) < m := by simp [nd, hso] at hm; omega
        rw [if_pos this]
        have hx : Ext O s ⟨s.h ++ [u64 i], s.a, s.v⟩ := Ext.of_pre (Pre.add _ _) ⟨[], by simp⟩ ⟨[], by simp⟩
        refine ⟨_, _, rfl, Pre.add _ _, ⟨[], by simp⟩, ⟨[], by simp⟩, by simp [Tm.kind, nd, hso], by simp [occ], Or.inr ⟨hv.ext hx rfl, ?_⟩⟩
        rw [Rep, if_neg (by decide), if_pos rfl, if_neg hso]
        exact ⟨s.h.length, rfl, fun q => by have := hO _ q; omega, by simp, by simp [List.getD]⟩
    · -- a complex number
      rw [put, if_neg (by decide), if_neg (by decide), if_pos rfl]
      have h2 : (s.h.length : Int) + 3 ≤ m := by simp [nd] at hm; omega
      rw [if_pos (by omega), if_pos (by omega)]
      have hp : Pre s.h (s.h ++ [re] ++ [im]) := (Pre.add _ _).trans (Pre.add _ _)
      have hx : Ext O s ⟨s.h ++ [re] ++ [im], s.a, s.v⟩ := Ext.of_pre hp ⟨[], by simp⟩ ⟨[], by simp⟩
      refine ⟨_, _, rfl, hp, ⟨[], by simp⟩, ⟨[], by simp⟩, by simp [Tm.kind, nd], by simp [occ], Or.inr ⟨hv.ext hx rfl, ?_⟩⟩
      rw [Rep, if_neg (by decide), if_neg (by decide), if_pos rfl]
      exact ⟨s.h.length, rfl, fun q => by have := hO _ q; omega, fun q => by have := hO _ q; omega, by simp, by simp [List.getD], by simp [List.getD]⟩
    · -- a compound
      have hn : n.size ≤ 200 ∧ l.length ≤ 20 := by
        simp only [chk] at hc; simp at hc
        split at hc
        · omega
        · split at hc
          · omega
          · split at hc
            · omega
            · omega
      have hsz : size (.mk 5 n i re im l) = 1 + sizeL l := by simp [size]
      have hnd : nd (.mk 5 n i re im l) = 1 + l.length + ndL l := by simp [nd]
      rw [hsz] at ha
      rw [hnd] at hm
      obtain ⟨q1, q2, q3, q4, q5⟩ := name_ok hn.1 (show s.a.length < 4096 by omega)
      obtain ⟨b, hb, hb1⟩ := nx_pre s.a n
      rw [put, if_neg (by decide), if_neg (by decide), if_neg (by decide), if_neg (by decide), if_pos q1, if_pos (by omega)]
      have hl1 : (s.h ++ [jn 6 (nv s.a n * 256 + l.length)]).length = s.h.length + 1 := by simp
      obtain ⟨m1, m2, m3, m4⟩ := more_room m l.length (s.h ++ [jn 6 (nv s.a n * 256 + l.length)]) (by rw [hl1]; omega)
      have mp := (Pre.add s.h [jn 6 (nv s.a n * 256 + l.length)]).trans (more_pre m l.length _)
      generalize more m l.length (s.h ++ [jn 6 (nv s.a n * 256 + l.length)]) = eh at *
      obtain ⟨e1, h1⟩ := eh
      dsimp only at m1 m2 m3 m4 mp ⊢
      subst m1
      rw [if_pos rfl]
      rw [hl1] at m2 m3 m4
      have key : ∀ (l : List Tm), (∀ x ∈ l, ∀ (own : Int) (s : S) (O : Nat → Prop), sound x = true → Vs O s → (∀ q, O q → q < s.h.length) → (own < 0 ∨ ∃ p : Nat, own = p ∧ O p ∧ s.h.getD p 0 = (p : Int) * 8) → (s.h.length : Int) + nd x + 1 ≤ m → s.a.length + size x ≤ 4096 → ∃ c s', put m x own s = (c, 0, s') ∧ Ok m O x own s c s') →
          (∀ x ∈ l, sound x = true) → ∀ (p : Nat) (s : S) (O : Nat → Prop), Vs O s → (∀ q, O q → q < s.h.length) → (∀ q, p ≤ q → q < p + l.length → O q ∧ s.h.getD q 0 = (q : Int) * 8) → (s.h.length : Int) + ndL l + 1 ≤ m → s.a.length + sizeL l ≤ 4096 →
          ∃ s', putL m l p s = (0, s') ∧ OkL m O l p s s' := by
        intro l
        induction l with
        | nil =>
          intro _ _ p s O hv hO _ _ _
          refine ⟨s, by rw [putL], ⟨Nat.le_refl _, fun _ _ _ => rfl⟩, ⟨[], by simp⟩, ⟨[], by simp⟩, by simp [ndL], by simp [occL], hv.less fun q h => h.1, by rw [RepL]; trivial⟩
        | cons t r ihr =>
          intro hx hss p s O hv hO hcs hm ha
          have hcp := hcs p (Nat.le_refl _) (by simp)
          simp only [ndL] at hm
          simp only [sizeL] at ha
          obtain ⟨c, s1, e1, ok⟩ := hx t (by simp) p s O (hss t (by simp)) hv hO (Or.inr ⟨p, rfl, hcp⟩) (by omega) (by omega)
          have hp0 : p < s.h.length := hO p hcp.1
          have hlen : s1.h.length = s.h.length + nd t := by
            have := ok.len
            by_cases k1 : t.kind = 1
            · rw [if_pos k1, if_neg (by omega)] at this
              have : nd t = 0 := by obtain ⟨k, n, i, re, im, l⟩ := t; simp only [Tm.kind] at k1; subst k1; simp [nd]
              omega
            · rw [if_neg k1] at this; exact this
          have hp1 : p < s1.h.length := by omega
          -- behind the setting
          have hrep : Vs (fun q => O q ∧ q ≠ p) ⟨s1.h.set p c, s1.a, s1.v⟩ ∧ Rep (fun q => O q ∧ q ≠ p) ⟨s1.h.set p c, s1.a, s1.v⟩ t c := by
            rcases ok.rep with ⟨p', k1, ep, ec, vs', lk⟩ | ⟨vs', rp⟩
            · have hpp : p = p' := by omega
              subst hpp
              have hx2 : Ext (fun q => O q ∧ q ≠ p) s1 ⟨s1.h.set p c, s1.a, s1.v⟩ := by
                refine ⟨⟨by simp, fun q hq _ => ?_⟩, ⟨[], by simp⟩, ⟨[], by simp⟩⟩
                show (s1.h.set p c).getD q 0 = _
                rw [getD_set hp1]
                split
                · rename_i e; subst e
                  rw [ok.pre.2 q hp0, hcp.2, ec]
                · rfl
              refine ⟨vs'.ext hx2 rfl, ?_⟩
              obtain ⟨k, n, i, re, im, l⟩ := t
              simp only [Tm.kind] at k1
              subst k1
              rw [Rep]; simpa [Tm.int] using lk
            · have hx2 : Ext O s1 ⟨s1.h.set p c, s1.a, s1.v⟩ := by
                refine ⟨⟨by simp, fun q hq ho => ?_⟩, ⟨[], by simp⟩, ⟨[], by simp⟩⟩
                show (s1.h.set p c).getD q 0 = _
                rw [getD_set hp1, if_neg (fun e => ho (by rw [e]; exact hcp.1))]
              exact ⟨(vs'.ext hx2 rfl).less fun q h => h.1, Rep.less (fun q h => h.1) _ _ (Rep.ext hx2 _ _ rp)⟩
          obtain ⟨b1, hb1, hb2⟩ := ok.a
          have hs2 : (s1.h.set p c).length = s1.h.length := by simp
          obtain ⟨s3, e3, ok3⟩ := ihr (fun x hx' => hx x (by simp [hx'])) (fun x hx' => hss x (by simp [hx'])) (p + 1) ⟨s1.h.set p c, s1.a, s1.v⟩ (fun q => O q ∧ q ≠ p) hrep.1
            (fun q h => by show q < (s1.h.set p c).length; rw [hs2]; have := hO q h.1; omega)
            (fun q h1 h2 => by
              have h3 := hcs q (by omega) (by simp; omega)
              refine ⟨⟨h3.1, by omega⟩, ?_⟩
              show (s1.h.set p c).getD q 0 = _
              rw [getD_set hp1, if_neg (by omega), ok.pre.2 q (hO q h3.1)]; exact h3.2)
            (by show ((s1.h.set p c).length : Int) + _ + 1 ≤ m; rw [hs2]; omega) (by show s1.a.length + _ ≤ _; rw [hb1, List.length_append]; omega)
          have hx3 : Ext (fun q => O q ∧ q ≠ p) ⟨s1.h.set p c, s1.a, s1.v⟩ s3 := by
            obtain ⟨b3, hb3, _⟩ := ok3.a
            refine ⟨⟨ok3.pre.1, fun q hq ho => ok3.pre.2 q hq fun h => ho ?_⟩, ⟨b3, hb3⟩, ok3.v⟩
            have h3 := hcs q (by omega) (by simp; omega)
            exact ⟨h3.1, by omega⟩
          have hcell : s3.h.getD p 0 = c := by
            rw [ok3.pre.2 p (by show p < (s1.h.set p c).length; rw [hs2]; exact hp1) (by omega)]
            show (s1.h.set p c).getD p 0 = c
            rw [getD_set hp1, if_pos rfl]
          refine ⟨s3, ?_, ?_, ?_, ?_, ?_, ?_, ?_, ?_⟩
          · rw [putL, e1]; dsimp only; rw [if_pos rfl]; exact e3
          · refine ⟨by have := ok3.pre.1; simp only [hs2] at this; have := ok.pre.1; omega, fun q hq hn => ?_⟩
            rw [ok3.pre.2 q (by show q < (s1.h.set p c).length; rw [hs2]; have := ok.pre.1; omega) (fun h => hn ⟨by omega, by simp; omega⟩)]
            show (s1.h.set p c).getD q 0 = _
            rw [getD_set hp1, if_neg (fun e => hn ⟨by omega, by simp; omega⟩), ok.pre.2 q hq]
          · obtain ⟨b3, hb3, hb4⟩ := ok3.a
            exact ⟨b1 ++ b3, by rw [hb3]; show s1.a ++ b3 = _; rw [hb1, List.append_assoc], by simp only [sizeL, List.length_append]; omega⟩
          · obtain ⟨b3, hb3⟩ := ok3.v
            obtain ⟨b2, hb2⟩ := ok.v
            exact ⟨b2 ++ b3, by rw [hb3]; show s1.v ++ b3 = _; rw [hb2, List.append_assoc]⟩
          · rw [ok3.len]; show (s1.h.set p c).length + _ = _; rw [hs2, hlen]; simp only [ndL]; omega
          · rw [ok3.keys]; show (occL r).foldl addv (keys s1.v) = _; rw [ok.keys, occL, List.foldl_append]
          · exact ok3.vs.less fun q h => ⟨⟨h.1, fun e => h.2 ⟨by omega, by simp; omega⟩⟩, fun e => h.2 ⟨by omega, by simp; omega⟩⟩
          · rw [RepL]
            refine ⟨fun h => h.2 ⟨Nat.le_refl _, by simp⟩, by have := ok3.pre.1; simp only [hs2] at this; omega, ?_, ?_⟩
            · rw [hcell]
              exact Rep.less (fun q h => ⟨h.1, fun e => h.2 ⟨by omega, by simp; omega⟩⟩) _ _ (Rep.ext hx3 _ _ hrep.2)
            · have h4 := ok3.rep
              have less : ∀ {O O' : Nat → Prop} {s : S} (ho : ∀ q, O' q → O q) (l : List Tm) (p : Nat), RepL O s l p → RepL O' s l p := by
                intro O O' s ho l
                induction l with
                | nil => intro p _; rw [RepL]; trivial
                | cons t r ihr =>
                  intro p hr
                  rw [RepL] at hr ⊢
                  exact ⟨fun q => hr.1 (ho _ q), hr.2.1, Rep.less ho _ _ hr.2.2.1, ihr _ hr.2.2.2⟩
              exact less (fun q h => ⟨⟨h.1, fun e => h.2 ⟨by omega, by simp; omega⟩⟩, fun e => h.2 ⟨by omega, by simp; omega⟩⟩) _ _ h4
      have hs' := sound_args hs rfl
      have hxs : Ext O s ⟨h1, nx s.a n, s.v⟩ := Ext.of_pre mp ⟨b, hb⟩ ⟨[], by simp⟩
      have hv1 : Vs (fun q => O q ∨ (s.h.length + 1 ≤ q ∧ q < s.h.length + 1 + l.length)) ⟨h1, nx s.a n, s.v⟩ := by
        refine ⟨fun j c e => ?_, hv.nd, hv.inj⟩
        obtain ⟨p, x1, x2, x3, x4⟩ := hv.cell j c e
        exact ⟨p, x1, fun h => by rcases h with h | h; exact x2 h; omega, by show p < h1.length; omega, (mp.2 p x3).trans x4⟩
      obtain ⟨s3, e3, ok3⟩ := key l ih hs' (s.h.length + 1) ⟨h1, nx s.a n, s.v⟩ _ hv1
        (fun q h => by show q < h1.length; rcases h with h | h; have := hO q h; omega; omega)
        (fun q a1 a2 => ⟨Or.inr ⟨a1, a2⟩, m4 q a1 a2⟩) (by show (h1.length : Int) + _ + 1 ≤ m; omega) (by show (nx s.a n).length + _ ≤ _; rw [hb, List.length_append]; omega)
      rw [e3]
      dsimp only
      rw [if_pos rfl]
      obtain ⟨b3, hb3, hb4⟩ := ok3.a
      have hO' : ∀ q, O q → (O q ∨ (s.h.length + 1 ≤ q ∧ q < s.h.length + 1 + l.length)) ∧ ¬ (s.h.length + 1 ≤ q ∧ q < s.h.length + 1 + l.length) := fun q h => ⟨Or.inl h, by have := hO q h; omega⟩
      have hpre : Pre s.h s3.h := ⟨by have := ok3.pre.1; have := mp.1; simp only at *; omega, fun q hq => (ok3.pre.2 q (by show q < h1.length; omega) (by omega)).trans (mp.2 q hq)⟩
      have less : ∀ {O O' : Nat → Prop} {s : S} (ho : ∀ q, O' q → O q) (l : List Tm) (p : Nat), RepL O s l p → RepL O' s l p := by
        intro O O' s ho l
        induction l with
        | nil => intro p _; rw [RepL]; trivial
        | cons t r ihr =>
          intro p hr
          rw [RepL] at hr ⊢
          exact ⟨fun q => hr.1 (ho _ q), hr.2.1, Rep.less ho _ _ hr.2.2.1, ihr _ hr.2.2.2⟩
      refine ⟨_, _, rfl, hpre, ⟨b ++ b3, by rw [hb3]; show nx s.a n ++ b3 = _; rw [hb, List.append_assoc], by rw [hsz, List.length_append]; omega⟩, ok3.v, ?_, ?_, Or.inr ⟨ok3.vs.less hO', ?_⟩⟩
      · rw [if_neg (by simp [Tm.kind]), ok3.len, hnd]
        show h1.length + _ = _
        omega
      · rw [ok3.keys]; show (occL l).foldl addv (keys s.v) = _; simp [occ]
      · rw [Rep, if_neg (by decide), if_neg (by decide), if_neg (by decide), if_neg (by decide)]
        have hl3 := ok3.pre.1
        refine ⟨s.h.length, (nv s.a n).toNat, rfl, fun h => by have := hO _ h; omega, by simp only at hl3; omega, by omega, ?_, ?_, less hO' _ _ ok3.rep⟩
        · rw [ok3.pre.2 s.h.length (by show _ < h1.length; omega) (by omega)]
          show h1.getD s.h.length 0 = _
          rw [m3 s.h.length (by omega), Int.toNat_of_nonneg q2]
          simp [List.getD]
        · rw [hb3]
          show (nx s.a n ++ b3)[_]? = _
          rw [List.getElem?_append_left (List.getElem?_eq_some_iff.1 q4).1]; exact q4
end Go.Proofs.Ythableojkjhicaa.pm
namespace Go.Proofs.Ythableojkjhicaa.pm
set_option linter.unusedVariables false
open Go.ChangeShapes Go.WideShapes Go.ChangeAt Go.RowKit
open Go.Proofs.Ythableojkjhicaa.tm Go.Proofs.Ythableojkjhicaa.hp Go.Proofs.Ythableojkjhicaa.cel
open Go.Proofs.Ythableojkjhicaa.atm (nv ne nx)
theorem chkk {k : Int} {n : ByteArray} {i re im : Int} {l : List Tm} (h : chk (.mk k n i re im l) = 0) : k = 1 ∨ (k = 2 ∧ n.size ≤ 200) ∨ k = 3 ∨ k = 4 ∨ (k = 5 ∧ n.size ≤ 200 ∧ 1 ≤ l.length ∧ l.length ≤ 20) := by
  have hk := chk_kind h
  simp only [Tm.kind] at hk
  rcases hk with rfl | rfl | rfl | rfl | rfl
  · exact Or.inl rfl
  · refine Or.inr (Or.inl ⟨rfl, ?_⟩)
    simp only [chk] at h; simp at h; omega
  · exact Or.inr (Or.inr (Or.inl rfl))
  · exact Or.inr (Or.inr (Or.inr (Or.inl rfl)))
  · refine Or.inr (Or.inr (Or.inr (Or.inr ⟨rfl, ?_⟩)))
    simp only [chk] at h; simp at h
    split at h
    · omega
    · split at h
      · omega
      · split at h
        · omega
        · rename_i h0 _ _
          exact ⟨by omega, List.length_pos_iff.2 h0, by omega⟩
structure Gr (n : Nat) (s s' : S) : Prop where
  h : s.h.length ≤ s'.h.length
  a : s.a.length ≤ s'.a.length ∧ s'.a.length ≤ s.a.length + n
  v : s.v.length ≤ s'.v.length ∧ s'.v.length ≤ s.v.length + n
theorem Gr.refl (s : S) : Gr 0 s s := ⟨Nat.le_refl _, ⟨Nat.le_refl _, Nat.le_refl _⟩, Nat.le_refl _, Nat.le_refl _⟩
theorem Gr.more {n k : Nat} {s s' : S} (h : Gr n s s') (hk : n ≤ k) : Gr k s s' := ⟨h.h, ⟨h.a.1, by have := h.a.2; omega⟩, h.v.1, by have := h.v.2; omega⟩
theorem Gr.trans {n k : Nat} {a b c : S} (h : Gr n a b) (g : Gr k b c) : Gr (n + k) a c :=
  ⟨Nat.le_trans h.h g.h, ⟨Nat.le_trans h.a.1 g.a.1, by have := h.a.2; have := g.a.2; omega⟩, Nat.le_trans h.v.1 g.v.1, by have := h.v.2; have := g.v.2; omega⟩
theorem nx_gr (a : List ByteArray) (n : ByteArray) : a.length ≤ (nx a n).length ∧ (nx a n).length ≤ a.length + 1 := by
  obtain ⟨b, hb, h1⟩ := nx_pre a n
  rw [hb, List.length_append]; omega
theorem putL_grow (m : Int) : ∀ (l : List Tm), (∀ x ∈ l, ∀ own s, Gr (size x) s (put m x own s).2.2) → ∀ p s, Gr (sizeL l) s (putL m l p s).2
  | [], _, p, s => by rw [putL]; exact Gr.refl s
  | t :: r, hx, p, s => by
    rw [putL]
    have h1 := hx t (by simp) p s
    generalize put m t p s = q at *
    obtain ⟨c, e, s'⟩ := q
    dsimp only at h1 ⊢
    rw [sizeL]
    split
    · have h2 := putL_grow m r (fun x h => hx x (by simp [h])) (p + 1) ⟨s'.h.set p c, s'.a, s'.v⟩
      exact h1.trans ⟨by have := h2.h; simpa using this, h2.a, h2.v⟩
    · exact h1.more (by omega)
theorem put_grow (m : Int) (t : Tm) : sound t = true → ∀ own s, Gr (size t) s (put m t own s).2.2 := by
  induction t using Tm.ind with
  | h k n i re im l ih =>
    intro hs own s
    have h1 : 1 ≤ size (.mk k n i re im l) := by rw [size]; omega
    have r0 := (Gr.refl s).more (Nat.zero_le (size (.mk k n i re im l)))
    have hn := nx_gr s.a n
    rw [put]
    by_cases k2 : k = 2
    · rw [if_pos k2]
      split
      · exact ⟨Nat.le_refl _, ⟨hn.1, by show (nx s.a n).length ≤ _; omega⟩, Nat.le_refl _, by show s.v.length ≤ _; omega⟩
      · exact r0
    rw [if_neg k2]
    by_cases k3 : k = 3
    · rw [if_pos k3]
      split
      · exact r0
      · split
        · exact ⟨by simp, ⟨Nat.le_refl _, by show s.a.length ≤ _; omega⟩, Nat.le_refl _, by show s.v.length ≤ _; omega⟩
        · exact r0
    rw [if_neg k3]
    by_cases k4 : k = 4
    · rw [if_pos k4]
      split
      · split
        · exact ⟨by simp, ⟨Nat.le_refl _, by show s.a.length ≤ _; omega⟩, Nat.le_refl _, by show s.v.length ≤ _; omega⟩
        · exact ⟨by simp, ⟨Nat.le_refl _, by show s.a.length ≤ _; omega⟩, Nat.le_refl _, by show s.v.length ≤ _; omega⟩
      · exact r0
    rw [if_neg k4]
    by_cases k1 : k = 1
    · rw [if_pos k1]
      split
      · exact r0
      · split
        · split
          · exact ⟨by simp, ⟨Nat.le_refl _, by show s.a.length ≤ _; omega⟩, by simp, by simp; omega⟩
          · exact r0
        · exact ⟨Nat.le_refl _, ⟨Nat.le_refl _, by show s.a.length ≤ _; omega⟩, by simp, by simp; omega⟩
    rw [if_neg k1]
    split
    · split
      · have hm := more_pre m l.length (s.h ++ [jn 6 (nv s.a n * 256 + l.length)])
        generalize more m l.length (s.h ++ [jn 6 (nv s.a n * 256 + l.length)]) = eh at *
        obtain ⟨e, h⟩ := eh
        have hl := hm.1
        simp only [List.length_append, List.length_cons, List.length_nil] at hl
        have hs1 : Gr 1 s ⟨h, nx s.a n, s.v⟩ := ⟨by show _ ≤ h.length; omega, hn, Nat.le_refl _, by show s.v.length ≤ _; omega⟩
        dsimp only
        split
        · by_cases k5 : k = 5
          · have h2 := putL_grow m l (fun x hx => ih x hx (sound_args hs k5 x hx)) (s.h.length + 1) ⟨h, nx s.a n, s.v⟩
            have hsz : size (.mk k n i re im l) = 1 + sizeL l := by simp [size, k5]
            rw [hsz]
            generalize putL m l (s.h.length + 1) ⟨h, nx s.a n, s.v⟩ = es at *
            obtain ⟨e2, s2⟩ := es
            dsimp only at h2 ⊢
            split
            · exact hs1.trans h2
            · exact hs1.trans h2
          · have := chk_kind (sound_chk hs); simp only [Tm.kind] at this; omega
        · exact hs1.more h1
      · exact ⟨Nat.le_refl _, ⟨hn.1, by show (nx s.a n).length ≤ _; omega⟩, Nat.le_refl _, by show s.v.length ≤ _; omega⟩
    · exact r0
end Go.Proofs.Ythableojkjhicaa.pm
namespace Go.Proofs.Ythableojkjhicaa.pm
set_option linter.unusedVariables false
open Go.ChangeShapes Go.WideShapes Go.ChangeAt Go.RowKit
open Go.Proofs.Ythableojkjhicaa.tm Go.Proofs.Ythableojkjhicaa.hp Go.Proofs.Ythableojkjhicaa.cel
open Go.Proofs.Ythableojkjhicaa.atm (nv ne nx)
/-- the same, variables by other numbers -/
def mpS (f : Int → Int) (s : S) : S := ⟨s.h, s.a, s.v.map fun x => (f x.1, x.2)⟩
theorem look_mp {f : Int → Int} {A : Int → Prop} (hf : ∀ x y, A x → A y → f x = f y → x = y) {i : Int} (hi : A i) : ∀ (v : List (Int × Int)), (∀ k ∈ keys v, A k) → look (v.map fun x => (f x.1, x.2)) (f i) = look v i
  | [], _ => rfl
  | x :: r, h => by
    have ih := look_mp hf hi r (fun k hk => h k (by unfold keys at hk ⊢; simp at hk ⊢; exact Or.inr hk))
    have hx : A x.1 := h x.1 (by simp [keys])
    unfold look at ih ⊢
    rw [List.map_cons, List.find?_cons, List.find?_cons]
    by_cases e : x.1 = i
    · simp [e]
    · have e' : ¬ f x.1 = f i := fun he => e (hf _ _ hx hi he)
      simp only [e, e', decide_false]
      exact ih
def PS (f : Int → Int) (A : Int → Prop) (r r' : Int × Int × S) : Prop := r'.1 = r.1 ∧ r'.2.1 = r.2.1 ∧ r'.2.2 = mpS f r.2.2 ∧ ∀ k ∈ keys r.2.2.v, A k
theorem putL_sub (m : Int) {f : Int → Int} {A : Int → Prop} : ∀ (l : List Tm), (∀ t ∈ l, ∀ own s, (∀ k ∈ keys s.v, A k) → PS f A (put m t own s) (put m (sub (fun n => var (f n)) t) own (mpS f s))) → ∀ p s, (∀ k ∈ keys s.v, A k) →
    (putL m (subL (fun n => var (f n)) l) p (mpS f s)).1 = (putL m l p s).1 ∧ (putL m (subL (fun n => var (f n)) l) p (mpS f s)).2 = mpS f (putL m l p s).2 ∧ ∀ k ∈ keys (putL m l p s).2.v, A k
  | [], _, p, s, hk => by
    rw [subL, putL, putL]; exact ⟨rfl, rfl, hk⟩
  | t :: r, h, p, s, hk => by
    have h1 := h t (by simp) p s hk
    rw [subL, putL, putL]
    revert h1
    generalize put m t p s = P
    generalize put m (sub (fun n => var (f n)) t) p (mpS f s) = P'
    obtain ⟨c, e, s1⟩ := P
    obtain ⟨c', e', s1'⟩ := P'
    rintro ⟨h1, h2, h3, h4⟩
    dsimp only at h1 h2 h3 h4 ⊢
    subst h1; subst h2; subst h3
    by_cases he : e' = 0
    · rw [if_pos he, if_pos he]
      exact putL_sub m r (fun x hx => h x (by simp [hx])) (p + 1) ⟨s1.h.set p c', s1.a, s1.v⟩ h4
    · rw [if_neg he, if_neg he]
      exact ⟨rfl, rfl, h4⟩
theorem subL_len (s : Int → Tm) : ∀ l : List Tm, (subL s l).length = l.length
  | [] => rfl
  | t :: r => by rw [subL, List.length_cons, List.length_cons, subL_len s r]
theorem put_k1 (m : Int) (n : ByteArray) (i re im : Int) (l : List Tm) (own : Int) (s : S) : put m (.mk 1 n i re im l) own s = (match look s.v i with
      | some c => (c, 0, s)
      | none => if own < 0 then (if (s.h.length : Int) < m then ((s.h.length : Int) * 8, 0, ⟨s.h ++ [(s.h.length : Int) * 8], s.a, s.v ++ [(i, (s.h.length : Int) * 8)]⟩) else (0, 4, s))
        else (own * 8, 0, ⟨s.h, s.a, s.v ++ [(i, own * 8)]⟩)) := by
  rw [put, if_neg (by decide), if_neg (by decide), if_neg (by decide), if_pos rfl]
  all_goals (cases look s.v i <;> rfl)
theorem put_k2 (m : Int) (n : ByteArray) (i re im : Int) (l : List Tm) (own : Int) (s : S) : put m (.mk 2 n i re im l) own s = (if ne s.a n = 0 then (jn 2 (nv s.a n), 0, ⟨s.h, nx s.a n, s.v⟩) else (0, ne s.a n, s)) := by rw [put, if_pos rfl]
theorem put_k3 (m : Int) (n : ByteArray) (i re im : Int) (l : List Tm) (own : Int) (s : S) : put m (.mk 3 n i re im l) own s = (if so i = true then (sv i, 0, s) else if (s.h.length : Int) < m then (jn 4 s.h.length, 0, ⟨s.h ++ [u64 i], s.a, s.v⟩) else (0, 4, s)) := by rw [put, if_neg (by decide), if_pos rfl]
theorem put_k4 (m : Int) (n : ByteArray) (i re im : Int) (l : List Tm) (own : Int) (s : S) : put m (.mk 4 n i re im l) own s = (if (s.h.length : Int) < m then (if (s.h.length : Int) + 1 < m then (jn 5 s.h.length, 0, ⟨s.h ++ [re] ++ [im], s.a, s.v⟩) else (0, 4, ⟨s.h ++ [re], s.a, s.v⟩)) else (0, 4, s)) := by rw [put, if_neg (by decide), if_neg (by decide), if_pos rfl]
theorem put_k5 (m : Int) (n : ByteArray) (i re im : Int) (l : List Tm) (own : Int) (s : S) : put m (.mk 5 n i re im l) own s = (if ne s.a n = 0 then (if (s.h.length : Int) < m then
        (match more m l.length (s.h ++ [jn 6 (nv s.a n * 256 + l.length)]) with
          | (e, h) => if e = 0 then (match putL m l (s.h.length + 1) ⟨h, nx s.a n, s.v⟩ with
              | (e, s') => if e = 0 then (jn 1 s.h.length, 0, s') else (0, e, s'))
            else (0, e, ⟨h, nx s.a n, s.v⟩))
      else (0, 4, ⟨s.h, nx s.a n, s.v⟩)) else (0, ne s.a n, s)) := by rw [put, if_neg (by decide), if_neg (by decide), if_neg (by decide), if_neg (by decide)]
theorem put_sub (m : Int) {f : Int → Int} {A : Int → Prop} (hf : ∀ x y, A x → A y → f x = f y → x = y) (t : Tm) : sound t = true → (∀ n ∈ occ t, A n) → ∀ own s, (∀ k ∈ keys s.v, A k) → PS f A (put m t own s) (put m (sub (fun n => var (f n)) t) own (mpS f s)) := by
  induction t using Tm.ind with
  | h k n i re im l ih =>
    intro hs hA own s hk
    have hc := Go.Proofs.Ythableojkjhicaa.tm.chk_kind (sound_chk hs)
    simp only [Tm.kind] at hc
    by_cases k1 : k = 1
    · subst k1
      have hi : A i := hA i (by simp [occ])
      have e : sub (fun n => var (f n)) (.mk 1 n i re im l) = var (f i) := by simp [sub]
      rw [e, var, put_k1, put_k1]
      rw [show look (mpS f s).v (f i) = look s.v i from look_mp hf hi s.v hk]
      cases hl : look s.v i with
      | some c => exact ⟨rfl, rfl, rfl, hk⟩
      | none =>
        have hadd : ∀ c, ∀ k ∈ keys (s.v ++ [(i, c)]), A k := fun c k hk' => by
          unfold keys at hk'
          rw [List.map_append, List.mem_append] at hk'
          rcases hk' with h | h
          · exact hk k h
          · simp at h; subst h; exact hi
        dsimp only
        by_cases ho : own < 0
        · rw [if_pos ho, if_pos ho]
          by_cases hm : (s.h.length : Int) < m
          · rw [if_pos hm, if_pos (show ((mpS f s).h.length : Int) < m from hm)]
            exact ⟨rfl, rfl, by simp [mpS], hadd _⟩
          · rw [if_neg hm, if_neg (show ¬ ((mpS f s).h.length : Int) < m from hm)]
            exact ⟨rfl, rfl, rfl, hk⟩
        · rw [if_neg ho, if_neg ho]
          exact ⟨rfl, rfl, by simp [mpS], hadd _⟩
    by_cases k2 : k = 2
    · subst k2
      have e : sub (fun n => var (f n)) (.mk 2 n i re im l) = .mk 2 n 0 0 0 [] := by simp [sub]
      rw [e, put_k2, put_k2]
      show PS f A _ (if ne s.a n = 0 then _ else _)
      split
      · exact ⟨rfl, rfl, rfl, hk⟩
      · exact ⟨rfl, rfl, rfl, hk⟩
    by_cases k3 : k = 3
    · subst k3
      have e : sub (fun n => var (f n)) (.mk 3 n i re im l) = .mk 3 E i 0 0 [] := by simp [sub]
      rw [e, put_k3, put_k3]
      by_cases hso : so i = true
      · rw [if_pos hso, if_pos hso]; exact ⟨rfl, rfl, rfl, hk⟩
      · rw [if_neg hso, if_neg hso]
        by_cases hm : (s.h.length : Int) < m
        · rw [if_pos hm, if_pos (show ((mpS f s).h.length : Int) < m from hm)]; exact ⟨rfl, rfl, rfl, hk⟩
        · rw [if_neg hm, if_neg (show ¬ ((mpS f s).h.length : Int) < m from hm)]; exact ⟨rfl, rfl, rfl, hk⟩
    by_cases k4 : k = 4
    · subst k4
      have e : sub (fun n => var (f n)) (.mk 4 n i re im l) = .mk 4 E 0 re im [] := by simp [sub]
      rw [e, put_k4, put_k4]
      by_cases hm : (s.h.length : Int) < m
      · rw [if_pos hm, if_pos (show ((mpS f s).h.length : Int) < m from hm)]
        by_cases hm2 : (s.h.length : Int) + 1 < m
        · rw [if_pos hm2, if_pos (show ((mpS f s).h.length : Int) + 1 < m from hm2)]; exact ⟨rfl, rfl, rfl, hk⟩
        · rw [if_neg hm2, if_neg (show ¬ ((mpS f s).h.length : Int) + 1 < m from hm2)]; exact ⟨rfl, rfl, rfl, hk⟩
      · rw [if_neg hm, if_neg (show ¬ ((mpS f s).h.length : Int) < m from hm)]; exact ⟨rfl, rfl, rfl, hk⟩
    obtain rfl : k = 5 := by omega
    have e : sub (fun n => var (f n)) (.mk 5 n i re im l) = .mk 5 n 0 0 0 (subL (fun n => var (f n)) l) := by simp [sub]
    have hAl : ∀ x ∈ l, ∀ n ∈ occ x, A n := fun x hx n hn => hA n (by rw [occ, if_neg (by decide), if_pos rfl, occL_flat]; exact List.mem_flatMap.2 ⟨x, hx, hn⟩)
    have hL := putL_sub m (f := f) (A := A) l (fun x hx => ih x hx (sound_args hs rfl x hx) (hAl x hx))
    rw [e, put_k5, put_k5, subL_len, show (mpS f s).h = s.h from rfl, show (mpS f s).a = s.a from rfl]
    by_cases hn : ne s.a n = 0
    · rw [if_pos hn, if_pos hn]
      by_cases hm : (s.h.length : Int) < m
      · rw [if_pos hm, if_pos hm]
        generalize more m l.length (s.h ++ [jn 6 (nv s.a n * 256 + ↑l.length)]) = M
        obtain ⟨e9, h9⟩ := M
        dsimp only
        by_cases he : e9 = 0
        · rw [if_pos he, if_pos he]
          have h1 := hL (s.h.length + 1) ⟨h9, nx s.a n, s.v⟩ hk
          revert h1
          rw [show (⟨h9, nx s.a n, (mpS f s).v⟩ : S) = mpS f ⟨h9, nx s.a n, s.v⟩ from rfl]
          generalize putL m l (s.h.length + 1) ⟨h9, nx s.a n, s.v⟩ = Q
          generalize putL m (subL (fun n => var (f n)) l) (s.h.length + 1) (mpS f ⟨h9, nx s.a n, s.v⟩) = Q'
          obtain ⟨e8, s8⟩ := Q
          obtain ⟨e8', s8'⟩ := Q'
          rintro ⟨h1, h2, h3⟩
          dsimp only at h1 h2 h3 ⊢
          subst h1; subst h2
          by_cases h8 : e8' = 0
          · rw [if_pos h8, if_pos h8]; exact ⟨rfl, rfl, rfl, h3⟩
          · rw [if_neg h8, if_neg h8]; exact ⟨rfl, rfl, rfl, h3⟩
        · rw [if_neg he, if_neg he]; exact ⟨rfl, rfl, rfl, hk⟩
      · rw [if_neg hm, if_neg hm]; exact ⟨rfl, rfl, rfl, hk⟩
    · rw [if_neg hn, if_neg hn]; exact ⟨rfl, rfl, rfl, hk⟩
end Go.Proofs.Ythableojkjhicaa.pm
namespace Go.Proofs.Ythableojkjhicaa.pm
set_option linter.unusedVariables false
open Go.ChangeShapes Go.WideShapes Go.ChangeAt Go.RowKit
open Go.Proofs.Ythableojkjhicaa.tm Go.Proofs.Ythableojkjhicaa.hp Go.Proofs.Ythableojkjhicaa.cel Go.Proofs.Ythableojkjhicaa.ren
/-- how many nodes were told, the numbers of places (in the order in which they were met), an error -/
structure G where
  n : Nat
  v : List (Int × Int)
  e : Int
/-- as many, one behind the other, as long as there is no error -/
def getL (f : Int → G → Tm × G) (l : List Int) : Nat → Nat → G → List Tm × G
  | 0, _, g => ([], g)
  | n + 1, p, g => if g.e = 0 then (match f (l.getD p 0) g with
      | (t, g1) => match getL f l n (p + 1) g1 with
        | (ts, g2) => (t :: ts, g2)) else ([], g)
/-- a functor's cell: is it one whose arguments are there -/
def fok (l : List Int) (p : Int) : Bool := gb l p && decide (gv l p % 8 = 6) && decide (1 ≤ gv l p / 8 % 256) && decide (gv l p / 8 % 256 ≤ 20) && gb l (p + gv l p / 8 % 256)
/-- what a cell stands for; r: how many levels may still come -/
def get (l : List Int) (a : List ByteArray) : Nat → Int → G → Tm × G
  | 0, c, g => if g.e = 0 then (zero, ⟨g.n + 1, g.v, 3⟩) else (zero, g)
  | r + 1, c, g => if g.e = 0 then (if 2000 ≤ g.n then (zero, ⟨g.n + 1, g.v, 3⟩) else
      if dr l l.length c % 8 = 0 then (if gb l (dr l l.length c / 8) = true ∧ gv l (dr l l.length c / 8) = dr l l.length c then
          (match look g.v (dr l l.length c / 8) with
            | some k => (var k, ⟨g.n + 1, g.v, 0⟩)
            | none => (var g.v.length, ⟨g.n + 1, g.v ++ [(dr l l.length c / 8, (g.v.length : Int))], 0⟩))
        else (zero, ⟨g.n + 1, g.v, 2⟩))
      else if dr l l.length c % 8 = 2 then (if dr l l.length c / 8 < a.length then (atom (a.getD (dr l l.length c / 8).toNat ByteArray.empty), ⟨g.n + 1, g.v, 0⟩) else (zero, ⟨g.n + 1, g.v, 2⟩))
      else if dr l l.length c % 8 = 3 then (.mk 3 E (sg (dr l l.length c)) 0 0 [], ⟨g.n + 1, g.v, 0⟩)
      else if dr l l.length c % 8 = 4 then (if gb l (dr l l.length c / 8) = true then (.mk 3 E (wrap64 (gv l (dr l l.length c / 8))) 0 0 [], ⟨g.n + 1, g.v, 0⟩) else (zero, ⟨g.n + 1, g.v, 2⟩))
      else if dr l l.length c % 8 = 5 then (if gb l (dr l l.length c / 8) = true ∧ gb l (dr l l.length c / 8 + 1) = true then (.mk 4 E 0 (gv l (dr l l.length c / 8)) (gv l (dr l l.length c / 8 + 1)) [], ⟨g.n + 1, g.v, 0⟩) else (zero, ⟨g.n + 1, g.v, 2⟩))
      else if dr l l.length c % 8 = 1 ∧ fok l (dr l l.length c / 8) = true then
        (if gv l (dr l l.length c / 8) / 8 / 256 < a.length then
          (match getL (get l a r) l (gv l (dr l l.length c / 8) / 8 % 256).toNat ((dr l l.length c / 8).toNat + 1) ⟨g.n + 1, g.v, 0⟩ with
            | (ts, g2) => (comp (a.getD (gv l (dr l l.length c / 8) / 8 / 256).toNat ByteArray.empty) ts, g2))
          else (zero, ⟨g.n + 1, g.v, 2⟩))
      else (zero, ⟨g.n + 1, g.v, 2⟩)) else (zero, g)
/-! ### Get of what Put laid -/
/-- numbers stand for themselves -/
def wf : Tm → Prop := fun t => True
/-- where a variable's cell is -/
def pl (s : S) (i : Int) : Int := (look s.v i).getD 0 / 8
/-- the numbers are 0, 1 .. -/
def Num (v : List (Int × Int)) : Prop := ∀ x, look v x = if x ∈ keys v then some (ix0 (keys v) x) else none
theorem Num.nil : Num [] := fun x => by simp [look, keys]
theorem Num.add {v : List (Int × Int)} (h : Num v) {x : Int} (hx : x ∉ keys v) : Num (v ++ [(x, (v.length : Int))]) := by
  intro y
  have hl : (keys v).length = v.length := by simp [keys]
  rw [keys_add]
  by_cases e : x = y
  · subst e
    rw [look_new (look_none.2 hx), if_pos (by simp)]
    simp [ix0, List.idxOf_append, hx, hl]
  · rw [look_old e, h y]
    by_cases hy : y ∈ keys v
    · rw [if_pos hy, if_pos (by simp [hy])]
      simp [ix0, hy, List.idxOf_append]
    · rw [if_neg hy, if_neg (by simp [hy, show ¬ y = x from fun h => e h.symm])]
theorem fold_pre (l acc : List Int) : ∃ b, l.foldl addv acc = acc ++ b := by
  induction l generalizing acc with
  | nil => exact ⟨[], by simp⟩
  | cons x l ih =>
    obtain ⟨b, hb⟩ := ih (addv acc x)
    simp only [List.foldl_cons]
    rw [hb]
    unfold addv
    split
    · exact ⟨b, rfl⟩
    · exact ⟨x :: b, by simp⟩
theorem ix0_pre {k : List Int} {x : Int} (hx : x ∈ k) (b : List Int) : ix0 (k ++ b) x = ix0 k x := by
  simp [ix0, hx, List.idxOf_append]
theorem fold_has {l acc : List Int} {x : Int} (h : x ∈ l ∨ x ∈ acc) : x ∈ l.foldl addv acc := (fold_mem l acc x).2 h.symm
mutual
/-- each number stands in 64 bits -/
def ints : Tm → Prop
  | .mk k n i re im l => (k = 3 → I64 i) ∧ intsL l
def intsL : List Tm → Prop
  | [] => True
  | t :: r => ints t ∧ intsL r
end
theorem intsL_mem : ∀ {l : List Tm}, intsL l → ∀ x ∈ l, ints x
  | t :: r, h, x, hx => by
    rw [intsL] at h
    rcases List.mem_cons.1 hx with rfl | hx
    · exact h.1
    · exact intsL_mem h.2 x hx
theorem jn_tag (t : Int) (p : Int) (h0 : 0 ≤ t) (h1 : t < 8) : jn t p % 8 = t := by unfold jn; omega
theorem jn_val (t : Int) (p : Int) (h0 : 0 ≤ t) (h1 : t < 8) (hp : 0 ≤ p) (hq : p < 2305843009213693952) : jn t p / 8 = p := by unfold jn; omega
theorem sv_tag {i : Int} (h : so i = true) : sv i % 8 = 3 := by
  have := of_decide_eq_true h
  unfold sv; rw [if_pos this]; unfold jn; omega
theorem sg_sv {i : Int} (h : so i = true) : sg (sv i) = i := by
  have := of_decide_eq_true h
  unfold sv; rw [if_pos this]; unfold sg jn wrap64; omega
theorem w64_u64 {i : Int} (h : I64 i) : wrap64 (u64 i) = i := by
  obtain ⟨h0, h1⟩ := h
  unfold u64; rw [IntKind.wrap_u64]; unfold wrap64; omega
/-- what stands for a term is not followed any further -/
theorem rep_dr {O : Nat → Prop} {s : S} {t : Tm} {c : Int} (hv : Vs O s) (h : Rep O s t c) (n : Nat) : dr s.h n c = c := by
  apply dr_off
  rintro ⟨h0, h1, h2⟩
  obtain ⟨k, nm, i, re, im, l⟩ := t
  rw [Rep] at h
  by_cases k2 : k = 2
  · rw [if_pos k2] at h
    obtain ⟨j, rfl, _⟩ := h
    rw [jn_tag _ _ (by decide) (by decide)] at h0; omega
  rw [if_neg k2] at h
  by_cases k3 : k = 3
  · rw [if_pos k3] at h
    split at h
    · rename_i hso
      rw [h, sv_tag hso] at h0; omega
    · obtain ⟨p, rfl, _⟩ := h
      rw [jn_tag _ _ (by decide) (by decide)] at h0; omega
  rw [if_neg k3] at h
  by_cases k4 : k = 4
  · rw [if_pos k4] at h
    obtain ⟨p, rfl, _⟩ := h
    rw [jn_tag _ _ (by decide) (by decide)] at h0; omega
  rw [if_neg k4] at h
  by_cases k1 : k = 1
  · rw [if_pos k1] at h
    obtain ⟨p, rfl, _, hp, hc⟩ := hv.cell i c h
    apply h2
    have : ((p : Int) * 8 / 8).toNat = p := by omega
    rw [this]; exact hc
  rw [if_neg k1] at h
  obtain ⟨p, j, rfl, _⟩ := h
  rw [jn_tag _ _ (by decide) (by decide)] at h0; omega
theorem gb_nat {l : List Int} {p : Nat} (h : p < l.length) : gb l (p : Int) = true := decide_eq_true ⟨by omega, by omega⟩
theorem gv_nat {l : List Int} {p : Nat} (h : p < l.length) : gv l (p : Int) = l.getD p 0 := by unfold gv; rw [if_pos ⟨by omega, by omega⟩]; simp
/-- the term as it is told: variables by their places' numbers -/
def told (s : S) (ks : List Int) (t : Tm) : Tm := sub (fun i => var (ix0 ks (pl s i))) t
structure Told (s : S) (g : G) (n : Nat) (os : List Int) (g' : G) : Prop where
  n : g'.n = g.n + n
  e : g'.e = 0
  num : Num g'.v
  keys : keys g'.v = (os.map (pl s)).foldl addv (keys g.v)
theorem pl_of {O : Nat → Prop} {s : S} (hv : Vs O s) {i c : Int} (h : look s.v i = some c) : ∃ p : Nat, pl s i = p ∧ c = (p : Int) * 8 ∧ p < s.h.length ∧ s.h.getD p 0 = c := by
  obtain ⟨p, e, _, hp, hc⟩ := hv.cell i c h
  exact ⟨p, by unfold pl; rw [h]; simp; omega, e, hp, hc⟩
theorem told_more {s : S} {ks b : List Int} {t : Tm} (h : ∀ i ∈ occ t, pl s i ∈ ks) : told s (ks ++ b) t = told s ks t := by
  unfold told
  refine sub_congr t fun i hi => ?_
  rw [ix0_pre (h i hi)]
theorem get_ok (s : S) (O : Nat → Prop) (hv : Vs O s) (hlen : s.h.length ≤ 1048576) (ha : s.a.length ≤ 4096) (t : Tm) : ∀ (c : Int) (r : Nat) (g : G), Rep O s t c → sound t = true → ints t → height t ≤ r → g.e = 0 → Num g.v → g.n + size t ≤ 2000 →
    ∃ g', get s.h s.a r c g = (told s (keys g'.v) t, g') ∧ Told s g (size t) (occ t) g' := by
  induction t using Tm.ind with
  | h k n i re im l ih =>
    intro c r g hr hs hi hh he hg hn
    have hdr := rep_dr hv hr s.h.length
    have hc := sound_chk hs
    have hk := chk_kind hc
    simp only [Tm.kind] at hk
    have hsz : 1 ≤ size (.mk k n i re im l) := by rw [size]; omega
    have hht : 1 ≤ height (.mk k n i re im l) := by rw [height]; omega
    obtain ⟨r, rfl⟩ : ∃ r', r = r' + 1 := ⟨r - 1, by omega⟩
    obtain ⟨gn, gv_, ge⟩ := g
    simp only at he hg hn
    subst he
    rw [get]
    dsimp only
    rw [if_pos rfl, if_neg (by omega), hdr]
    rw [Rep] at hr
    have leaf : ∀ (k : Int) (n : ByteArray) (i re im : Int) (l : List Tm), k ≠ 1 → k ≠ 5 → size (.mk k n i re im l) = 1 ∧ occ (.mk k n i re im l) = [] := fun k n i re im l h1 h5 => by simp [size, occ, h1, h5]
    rcases hk with rfl | rfl | rfl | rfl | rfl
    · -- a variable
      rw [if_neg (by decide), if_neg (by decide), if_neg (by decide), if_pos rfl] at hr
      obtain ⟨p, hp, hcp, hpl, hcell⟩ := pl_of hv hr
      have e1 : c % 8 = 0 := by omega
      have e2 : c / 8 = (p : Int) := by omega
      rw [if_pos e1, e2, if_pos ⟨gb_nat hpl, by rw [gv_nat hpl]; exact hcell⟩]
      have hsz1 : size (.mk 1 n i re im l) = 1 := by simp [size]
      have ho : occ (.mk 1 n i re im l) = [i] := by simp [occ]
      have htl : ∀ ks, told s ks (.mk 1 n i re im l) = var (ix0 ks p) := fun ks => by unfold told; simp [sub, hp]
      rw [hg (p : Int)]
      by_cases hm : (p : Int) ∈ keys gv_
      · rw [if_pos hm]
        refine ⟨⟨gn + 1, gv_, 0⟩, ?_, ?_⟩
        · rw [htl]
        · exact ⟨by rw [hsz1], rfl, hg, by rw [ho]; simp [addv, hp, hm]⟩
      · rw [if_neg hm]
        refine ⟨⟨gn + 1, gv_ ++ [((p : Int), (gv_.length : Int))], 0⟩, ?_, ?_⟩
        · rw [htl]
          have : ix0 (keys (gv_ ++ [((p : Int), (gv_.length : Int))])) p = gv_.length := by
            have hkl : (keys gv_).length = gv_.length := by simp [keys]
            rw [keys_add]; simp [ix0, List.idxOf_append, hm, hkl]
          rw [this]
        · exact ⟨by rw [hsz1], rfl, hg.add hm, by rw [ho]; simp [addv, hp, hm, keys_add]⟩
    · -- an atom
      rw [if_pos rfl] at hr
      obtain ⟨j, rfl, hj, hn2⟩ := hr
      obtain ⟨l1, l2⟩ := leaf 2 n i re im l (by decide) (by decide)
      have hja := (List.getElem?_eq_some_iff.1 hn2).1
      rw [jn_tag _ _ (by decide) (by decide), jn_val _ _ (by decide) (by decide) (by omega) (by omega), if_neg (by decide), if_pos rfl, if_pos (by omega)]
      refine ⟨⟨gn + 1, gv_, 0⟩, ?_, by rw [l1], rfl, hg, by rw [l2]; simp⟩
      unfold told; simp [sub, atom, List.getD, hn2]
    · -- a number
      rw [if_neg (by decide), if_pos rfl] at hr
      obtain ⟨l1, l2⟩ := leaf 3 n i re im l (by decide) (by decide)
      rw [ints] at hi
      refine ⟨⟨gn + 1, gv_, 0⟩, ?_, by rw [l1], rfl, hg, by rw [l2]; simp⟩
      have htl : told s (keys gv_) (.mk 3 n i re im l) = .mk 3 E i 0 0 [] := by unfold told; simp [sub]
      rw [htl]
      split at hr
      · rename_i hso
        subst hr
        rw [sv_tag hso, if_neg (by decide), if_neg (by decide), if_pos rfl, sg_sv hso]
      · obtain ⟨p, rfl, _, hp, hcell⟩ := hr
        rw [jn_tag _ _ (by decide) (by decide), jn_val _ _ (by decide) (by decide) (by omega) (by omega), if_neg (by decide), if_neg (by decide), if_neg (by decide), if_pos rfl, if_pos (gb_nat hp), gv_nat hp, hcell, w64_u64 (hi.1 rfl)]
    · -- a complex number
      rw [if_neg (by decide), if_neg (by decide), if_pos rfl] at hr
      obtain ⟨l1, l2⟩ := leaf 4 n i re im l (by decide) (by decide)
      obtain ⟨p, rfl, _, _, hp, h1, h2⟩ := hr
      have hp1 : ((p : Int) + 1) = ((p + 1 : Nat) : Int) := by omega
      rw [jn_tag _ _ (by decide) (by decide), jn_val _ _ (by decide) (by decide) (by omega) (by omega), if_neg (by decide), if_neg (by decide), if_neg (by decide), if_neg (by decide), if_pos rfl, hp1, if_pos ⟨gb_nat (by omega), gb_nat hp⟩, gv_nat (by omega), gv_nat hp, h1, h2]
      refine ⟨⟨gn + 1, gv_, 0⟩, ?_, by rw [l1], rfl, hg, by rw [l2]; simp⟩
      unfold told; simp [sub]
    · -- a compound
      rw [if_neg (by decide), if_neg (by decide), if_neg (by decide), if_neg (by decide)] at hr
      obtain ⟨p, j, rfl, _, hp, hj, hf, hn2, hl⟩ := hr
      have hja := (List.getElem?_eq_some_iff.1 hn2).1
      have h20 : 1 ≤ l.length ∧ l.length ≤ 20 := by
        simp only [chk] at hc; simp at hc
        split at hc
        · omega
        · split at hc
          · omega
          · refine ⟨?_, by omega⟩
            rename_i h0 _
            exact List.length_pos_iff.2 h0
      have hp0 : p < s.h.length := by omega
      have g1 : gv s.h (p : Int) = jn 6 ((j : Int) * 256 + l.length) := by rw [gv_nat hp0, hf]
      have t1 : jn 6 ((j : Int) * 256 + l.length) % 8 = 6 := jn_tag _ _ (by decide) (by decide)
      have t2 : jn 6 ((j : Int) * 256 + l.length) / 8 = (j : Int) * 256 + l.length := jn_val _ _ (by decide) (by decide) (by omega) (by omega)
      have t3 : ((j : Int) * 256 + l.length) % 256 = l.length := by omega
      have t4 : ((j : Int) * 256 + l.length) / 256 = j := by omega
      have hfok : fok s.h (p : Int) = true := by
        unfold fok
        rw [g1, t2, t3, gb_nat hp0]
        have : (p : Int) + l.length = ((p + l.length : Nat) : Int) := by omega
        rw [this, gb_nat hp]
        simp [t1]; omega
      rw [jn_tag _ _ (by decide) (by decide), jn_val _ _ (by decide) (by decide) (by omega) (by omega), if_neg (by decide), if_neg (by decide), if_neg (by decide), if_neg (by decide), if_neg (by decide), if_pos ⟨rfl, hfok⟩, g1, t2, t3, t4, if_pos (by omega)]
      have hsz5 : size (.mk 5 n i re im l) = 1 + sizeL l := by simp [size]
      have hht5 : height (.mk 5 n i re im l) = 1 + heightL l := by simp [height]
      have ho5 : occ (.mk 5 n i re im l) = occL l := by simp [occ]
      rw [hsz5] at hn
      rw [hht5] at hh
      rw [ints] at hi
      have key : ∀ (l : List Tm) (p : Nat) (g : G), (∀ x ∈ l, ∀ (c : Int) (r : Nat) (g : G), Rep O s x c → sound x = true → ints x → height x ≤ r → g.e = 0 → Num g.v → g.n + size x ≤ 2000 → ∃ g', get s.h s.a r c g = (told s (keys g'.v) x, g') ∧ Told s g (size x) (occ x) g') →
          RepL O s l p → (∀ x ∈ l, sound x = true) → (∀ x ∈ l, ints x) → heightL l ≤ r → g.e = 0 → Num g.v → g.n + sizeL l ≤ 2000 →
          ∃ g', getL (get s.h s.a r) s.h l.length p g = (l.map (told s (keys g'.v)), g') ∧ Told s g (sizeL l) (occL l) g' := by
        intro l
        induction l with
        | nil => intro p g _ _ _ _ _ he hg _; exact ⟨g, by simp [getL], by simp [sizeL], he, hg, by simp [occL]⟩
        | cons t l ihl =>
          intro p g hx hrl hss hii hhh he hg hnn
          rw [RepL] at hrl
          simp only [heightL] at hhh
          simp only [sizeL] at hnn
          obtain ⟨g1, e1, k1⟩ := hx t (by simp) _ r g hrl.2.2.1 (hss t (by simp)) (hii t (by simp)) (by omega) he hg (by omega)
          obtain ⟨g2, e2, k2⟩ := ihl (p + 1) g1 (fun x hx' => hx x (by simp [hx'])) hrl.2.2.2 (fun x h => hss x (by simp [h])) (fun x h => hii x (by simp [h])) (by omega) k1.e k1.num (by have := k1.n; omega)
          refine ⟨g2, ?_, ?_, k2.e, k2.num, ?_⟩
          · rw [List.length_cons, getL, if_pos he, e1]
            dsimp only
            rw [e2]
            dsimp only
            obtain ⟨b, hb⟩ := fold_pre ((occL l).map (pl s)) (keys g1.v)
            rw [← k2.keys] at hb
            have : told s (keys g1.v) t = told s (keys g2.v) t := by
              rw [hb, told_more fun i hi => ?_]
              rw [k1.keys]
              exact fold_has (Or.inl (List.mem_map.2 ⟨i, hi, rfl⟩))
            rw [this]; rfl
          · have := k1.n; have := k2.n; simp only [sizeL]; omega
          · rw [k2.keys, k1.keys, occL, List.map_append, List.foldl_append]
      obtain ⟨g', e1, k1⟩ := key l (p + 1) ⟨gn + 1, gv_, 0⟩ ih hl (sound_args hs rfl) (intsL_mem hi.2) (by omega) rfl hg (by show gn + 1 + _ ≤ _; omega)
      have tn : ((p : Int)).toNat + 1 = p + 1 := by omega
      have tl : ((l.length : Int)).toNat = l.length := by omega
      rw [tn, tl, e1]
      refine ⟨g', ?_, ?_, k1.e, k1.num, ?_⟩
      · dsimp only
        unfold told
        simp [sub, comp, subL_map, List.getD, hn2]
      · have h9 : g'.n = gn + 1 + sizeL l := k1.n
        rw [hsz5]; show g'.n = gn + (1 + sizeL l); omega
      · rw [k1.keys, ho5]
end Go.Proofs.Ythableojkjhicaa.pm
