/- Terms laid in cells: the plain mathematics: what Put makes, step by step. No program. -/
import Derived.Test.YtibepkljcofpdaaHp
import Derived.Test.YtibepkljcofpdaaTab
import Derived.Test.YtibepkljcofpdaaSm
namespace Go.Proofs.Ytibepkljcofpdaa.pm
set_option linter.unusedVariables false
open Go.ChangeShapes Go.WideShapes Go.ChangeAt Go.RowKit Go.Maps
open Go.Proofs.Ytibepkljcofpdaa.tm Go.Proofs.Ytibepkljcofpdaa.hp Go.Proofs.Ytibepkljcofpdaa.cel
open Go.Proofs.Ytibepkljcofpdaa.atm (nv ne nx)
/-- cells, names, the cells of variables (in the order in which they were met) -/
structure S where
  h : List Int
  a : List ByteArray
  v : List (Int × Int)
def keys (v : List (Int × Int)) : List Int := v.map (·.1)
def look (v : List (Int × Int)) (i : Int) : Option Int := (v.find? fun x => decide (x.1 = i)).map (·.2)
/-- a number's word -/
def u64 (i : Int) : Int := IntKind.u64.wrap i
/-- as many variables at the end: an error, the cells -/
def more (m : Int) : Nat → List Int → Int × List Int
  | 0, l => (0, l)
  | n + 1, l => if (l.length : Int) < m then more m n (l ++ [(l.length : Int) * 8]) else (4, l)
mutual
/-- a term is laid; own: its place, if it has one (else below 0): its cell, an error, what there is then -/
def put (m : Int) : Tm → Int → S → Int × Int × S
  | .mk k n i re im l, own, s =>
    if k = 2 then (if ne s.a n = 0 then (jn 2 (nv s.a n), 0, ⟨s.h, nx s.a n, s.v⟩) else (0, ne s.a n, s))
    else if k = 3 then (if so i = true then (sv i, 0, s) else if (s.h.length : Int) < m then (jn 4 s.h.length, 0, ⟨s.h ++ [u64 i], s.a, s.v⟩) else (0, 4, s))
    else if k = 4 then (if (s.h.length : Int) < m then (if (s.h.length : Int) + 1 < m then (jn 5 s.h.length, 0, ⟨s.h ++ [re] ++ [im], s.a, s.v⟩) else (0, 4, ⟨s.h ++ [re], s.a, s.v⟩)) else (0, 4, s))
    else if k = 1 then (match look s.v i with
      | some c => (c, 0, s)
      | none => if own < 0 then (if (s.h.length : Int) < m then ((s.h.length : Int) * 8, 0, ⟨s.h ++ [(s.h.length : Int) * 8], s.a, s.v ++ [(i, (s.h.length : Int) * 8)]⟩) else (0, 4, s))
        else (own * 8, 0, ⟨s.h, s.a, s.v ++ [(i, own * 8)]⟩))
    else if ne s.a n = 0 then (if (s.h.length : Int) < m then
        (match more m l.length (s.h ++ [jn 6 (nv s.a n * 256 + l.length)]) with
          | (e, h) => if e = 0 then (match putL m l (s.h.length + 1) ⟨h, nx s.a n, s.v⟩ with
              | (e, s') => if e = 0 then (jn 1 s.h.length, 0, s') else (0, e, s'))
            else (0, e, ⟨h, nx s.a n, s.v⟩))
      else (0, 4, ⟨s.h, nx s.a n, s.v⟩))
    else (0, ne s.a n, s)
/-- arguments are laid, each set where it stands -/
def putL (m : Int) : List Tm → Nat → S → Int × S
  | [], _, s => (0, s)
  | t :: r, p, s => match put m t p s with
    | (c, e, s') => if e = 0 then putL m r (p + 1) ⟨s'.h.set p c, s'.a, s'.v⟩ else (e, s')
end
/-! ### more variables -/
theorem more_room (m : Int) : ∀ (n : Nat) (l : List Int), (l.length : Int) + n ≤ m → (more m n l).1 = 0 ∧ (more m n l).2.length = l.length + n ∧ (∀ q, q < l.length → (more m n l).2.getD q 0 = l.getD q 0) ∧ ∀ q, l.length ≤ q → q < l.length + n → (more m n l).2.getD q 0 = (q : Int) * 8
  | 0, l, h => ⟨rfl, rfl, fun q _ => rfl, fun q h1 h2 => by omega⟩
  | n + 1, l, h => by
    unfold more
    rw [if_pos (by omega)]
    have hl : (l ++ [(l.length : Int) * 8]).length = l.length + 1 := by simp
    obtain ⟨h1, h2, h3, h4⟩ := more_room m n (l ++ [(l.length : Int) * 8]) (by rw [hl]; omega)
    rw [hl] at h2 h3 h4
    refine ⟨h1, by omega, fun q hq => ?_, fun q ha hb => ?_⟩
    · rw [h3 q (by omega), List.getD_eq_getElem?_getD, List.getD_eq_getElem?_getD, List.getElem?_append_left hq]
    · by_cases e : q = l.length
      · subst e
        rw [h3 _ (by omega)]; simp [List.getD]
      · exact h4 q (by omega) (by omega)
/-- the first cells stay -/
def Pre (l l' : List Int) : Prop := l.length ≤ l'.length ∧ ∀ q, q < l.length → l'.getD q 0 = l.getD q 0
theorem Pre.refl (l : List Int) : Pre l l := ⟨Nat.le_refl _, fun _ _ => rfl⟩
theorem Pre.trans {a b c : List Int} (h : Pre a b) (k : Pre b c) : Pre a c := ⟨Nat.le_trans h.1 k.1, fun q hq => (k.2 q (Nat.lt_of_lt_of_le hq h.1)).trans (h.2 q hq)⟩
theorem Pre.add (l x : List Int) : Pre l (l ++ x) := ⟨by simp, fun q hq => by rw [List.getD_eq_getElem?_getD, List.getD_eq_getElem?_getD, List.getElem?_append_left hq]⟩
theorem more_pre (m : Int) : ∀ (n : Nat) (l : List Int), Pre l (more m n l).2
  | 0, l => Pre.refl l
  | n + 1, l => by
    unfold more
    split
    · exact (Pre.add _ _).trans (more_pre m n _)
    · exact Pre.refl l
theorem Pre.set {l l' : List Int} (h : Pre l l') {p : Nat} (hp : l.length ≤ p) (c : Int) : Pre l (l'.set p c) :=
  ⟨by simpa using h.1, fun q hq => by
    rw [← h.2 q hq, List.getD_eq_getElem?_getD, List.getD_eq_getElem?_getD, List.getElem?_set_ne (by omega)]⟩
/-! ### names -/
theorem nx_pre (a : List ByteArray) (n : ByteArray) : ∃ b, nx a n = a ++ b ∧ b.length ≤ 1 := by
  unfold nx; split
  · exact ⟨[], by simp⟩
  · split
    · exact ⟨[], by simp⟩
    · split
      · exact ⟨[], by simp⟩
      · exact ⟨[n], by simp⟩
/-- a name that is short enough, where there is room -/
theorem name_ok {a : List ByteArray} {n : ByteArray} (h1 : n.size ≤ 200) (h2 : a.length < 4096) : ne a n = 0 ∧ 0 ≤ nv a n ∧ nv a n < 4096 ∧ (nx a n)[(nv a n).toNat]? = some n ∧ nv a n < (nx a n).length := by
  have g1 : ¬ 200 < n.size := by omega
  have g2 : ¬ 4096 ≤ a.length := by omega
  unfold ne nv nx
  by_cases h : n ∈ a
  · have := List.idxOf_lt_length_of_mem h
    rw [if_neg g1, if_neg g1, if_neg g1, if_pos h, if_pos h, if_pos h]
    refine ⟨rfl, by omega, by omega, ?_, by omega⟩
    rw [Int.toNat_natCast, List.getElem?_eq_getElem this, List.getElem_idxOf]
  · rw [if_neg g1, if_neg g1, if_neg g1, if_neg h, if_neg h, if_neg h, if_neg g2, if_neg g2, if_neg g2]
    refine ⟨rfl, by omega, by omega, by simp, by simp; omega⟩
/-! ### what a cell stands for: places that it needs lie off O -/
mutual
def Rep (O : Nat → Prop) (s : S) : Tm → Int → Prop
  | .mk k n i re im l, c =>
    if k = 2 then ∃ j : Nat, c = jn 2 j ∧ j < 4096 ∧ s.a[j]? = some n
    else if k = 3 then (if so i = true then c = sv i else ∃ p : Nat, c = jn 4 p ∧ ¬ O p ∧ p < s.h.length ∧ s.h.getD p 0 = u64 i)
    else if k = 4 then ∃ p : Nat, c = jn 5 p ∧ ¬ O p ∧ ¬ O (p + 1) ∧ p + 1 < s.h.length ∧ s.h.getD p 0 = re ∧ s.h.getD (p + 1) 0 = im
    else if k = 1 then look s.v i = some c
    else ∃ p j : Nat, c = jn 1 p ∧ ¬ O p ∧ p + l.length < s.h.length ∧ j < 4096 ∧ s.h.getD p 0 = jn 6 ((j : Int) * 256 + l.length) ∧ s.a[j]? = some n ∧ RepL O s l (p + 1)
def RepL (O : Nat → Prop) (s : S) : List Tm → Nat → Prop
  | [], _ => True
  | t :: r, p => ¬ O p ∧ p < s.h.length ∧ Rep O s t (s.h.getD p 0) ∧ RepL O s r (p + 1)
end
/-- each variable has a cell of its own, off O; each variable once, each place once -/
structure Vs (O : Nat → Prop) (s : S) : Prop where
  cell : ∀ i c, look s.v i = some c → ∃ p : Nat, c = (p : Int) * 8 ∧ ¬ O p ∧ p < s.h.length ∧ s.h.getD p 0 = c
  nd : (keys s.v).Nodup
  inj : (s.v.map (·.2)).Nodup
/-- more of all -/
structure Ext (O : Nat → Prop) (s s' : S) : Prop where
  h : s.h.length ≤ s'.h.length ∧ ∀ q, q < s.h.length → ¬ O q → s'.h.getD q 0 = s.h.getD q 0
  a : ∃ b, s'.a = s.a ++ b
  v : ∃ b, s'.v = s.v ++ b
theorem Ext.refl (O : Nat → Prop) (s : S) : Ext O s s := ⟨⟨Nat.le_refl _, fun _ _ _ => rfl⟩, ⟨[], by simp⟩, ⟨[], by simp⟩⟩
theorem Ext.trans {O : Nat → Prop} {a b c : S} (h : Ext O a b) (k : Ext O b c) : Ext O a c := by
  obtain ⟨⟨h1, h2⟩, ⟨x, hx⟩, ⟨y, hy⟩⟩ := h
  obtain ⟨⟨k1, k2⟩, ⟨x', hx'⟩, ⟨y', hy'⟩⟩ := k
  exact ⟨⟨Nat.le_trans h1 k1, fun q hq ho => (k2 q (Nat.lt_of_lt_of_le hq h1) ho).trans (h2 q hq ho)⟩, ⟨x ++ x', by rw [hx', hx, List.append_assoc]⟩, ⟨y ++ y', by rw [hy', hy, List.append_assoc]⟩⟩
theorem Ext.of_pre {O : Nat → Prop} {s s' : S} (h : Pre s.h s'.h) (a : ∃ b, s'.a = s.a ++ b) (v : ∃ b, s'.v = s.v ++ b) : Ext O s s' := ⟨⟨h.1, fun q hq _ => h.2 q hq⟩, a, v⟩
theorem Ext.mono {O O' : Nat → Prop} {s s' : S} (h : Ext O s s') (hs : ∀ q, O q → O' q) : Ext O' s s' := ⟨⟨h.h.1, fun q hq ho => h.h.2 q hq fun x => ho (hs q x)⟩, h.a, h.v⟩
theorem look_add {v b : List (Int × Int)} {i c : Int} (h : look v i = some c) : look (v ++ b) i = some c := by
  unfold look at *
  rw [List.find?_append]
  cases e : v.find? fun x => decide (x.1 = i) with
  | none => rw [e] at h; simp at h
  | some x => rw [e] at h; simpa using h
theorem look_none {v : List (Int × Int)} {i : Int} : look v i = none ↔ i ∉ keys v := by
  unfold look keys
  simp only [Option.map_eq_none_iff, List.find?_eq_none, decide_eq_true_eq, List.mem_map, not_exists, not_and]
theorem look_new {v : List (Int × Int)} {i c : Int} (h : look v i = none) : look (v ++ [(i, c)]) i = some c := by
  unfold look at *
  simp only [Option.map_eq_none_iff] at h
  rw [List.find?_append, h]; simp
theorem look_old {v : List (Int × Int)} {i j c : Int} (h : i ≠ j) : look (v ++ [(i, c)]) j = look v j := by
  unfold look
  rw [List.find?_append]
  cases e : v.find? fun x => decide (x.1 = j) with
  | none => simp [h]
  | some x => simp
theorem look_mem {v : List (Int × Int)} {i c : Int} (h : look v i = some c) : (i, c) ∈ v := by
  unfold look at h
  cases e : v.find? fun x => decide (x.1 = i) with
  | none => rw [e] at h; simp at h
  | some x =>
    rw [e] at h
    have h1 := List.find?_some e
    have h2 := List.mem_of_find?_eq_some e
    simp at h h1
    subst h; subst h1; exact h2
theorem mem_look {v : List (Int × Int)} (hn : (keys v).Nodup) {i c : Int} (h : (i, c) ∈ v) : look v i = some c := by
  induction v with
  | nil => simp at h
  | cons x r ih =>
    unfold keys at hn
    simp only [List.map_cons, List.nodup_cons] at hn
    rcases List.mem_cons.1 h with e | h
    · subst e; simp [look]
    · have hx : x.1 ≠ i := fun e => hn.1 (by rw [e]; exact List.mem_map.2 ⟨_, h, rfl⟩)
      have := ih hn.2 h
      unfold look at this ⊢
      simpa [List.find?_cons, hx] using this
/-- Rep stays where more comes and what has turned lies in O -/
theorem Rep.ext {O : Nat → Prop} {s s' : S} (hx : Ext O s s') : ∀ (t : Tm) (c : Int), Rep O s t c → Rep O s' t c := by
  intro t
  obtain ⟨⟨h1, h2⟩, ⟨b, ha⟩, ⟨d, hv⟩⟩ := hx
  have hat : ∀ (j : Nat) (n : ByteArray), s.a[j]? = some n → s'.a[j]? = some n := fun j n h => by
    rw [ha, List.getElem?_append_left (List.getElem?_eq_some_iff.1 h).1]; exact h
  induction t using Tm.ind with
  | h k n i re im l ih =>
    intro c h
    rw [Rep] at h ⊢
    by_cases k2 : k = 2
    · rw [if_pos k2] at h ⊢
      obtain ⟨j, e, hj, hn⟩ := h
      exact ⟨j, e, hj, hat j n hn⟩
    rw [if_neg k2] at h ⊢
    by_cases k3 : k = 3
    · rw [if_pos k3] at h ⊢
      split at h
      · rename_i hso; rw [if_pos hso]; exact h
      · rename_i hso; rw [if_neg hso]
        obtain ⟨p, e, ho, hp, hc⟩ := h
        exact ⟨p, e, ho, by omega, (h2 p hp ho).trans hc⟩
    rw [if_neg k3] at h ⊢
    by_cases k4 : k = 4
    · rw [if_pos k4] at h ⊢
      obtain ⟨p, e, ho, ho1, hp, hc, hc1⟩ := h
      exact ⟨p, e, ho, ho1, by omega, (h2 p (by omega) ho).trans hc, (h2 _ hp ho1).trans hc1⟩
    rw [if_neg k4] at h ⊢
    by_cases k1 : k = 1
    · rw [if_pos k1] at h ⊢
      rw [hv]; exact look_add h
    rw [if_neg k1] at h ⊢
    obtain ⟨p, j, e, ho, hp, hj, hc, hn, hl⟩ := h
    refine ⟨p, j, e, ho, by omega, hj, (h2 p (by omega) ho).trans hc, hat j n hn, ?_⟩
    have key : ∀ (l : List Tm), (∀ x ∈ l, ∀ c, Rep O s x c → Rep O s' x c) → ∀ p, RepL O s l p → RepL O s' l p := by
      intro l
      induction l with
      | nil => intro _ p _; rw [RepL]; trivial
      | cons t r ihr =>
        intro hh p hr
        rw [RepL] at hr ⊢
        obtain ⟨q1, q2, q3, q4⟩ := hr
        refine ⟨q1, by omega, ?_, ihr (fun x hx => hh x (by simp [hx])) _ q4⟩
        rw [h2 p q2 q1]
        exact hh t (by simp) _ q3
    exact key l ih _ hl
theorem RepL.ext {O : Nat → Prop} {s s' : S} (hx : Ext O s s') : ∀ (l : List Tm) (p : Nat), RepL O s l p → RepL O s' l p
  | [], _, _ => by rw [RepL]; trivial
  | t :: r, p, h => by
    rw [RepL] at h ⊢
    obtain ⟨q1, q2, q3, q4⟩ := h
    have h2 := hx.h
    refine ⟨q1, by omega, ?_, RepL.ext hx r _ q4⟩
    rw [h2.2 p q2 q1]
    exact Rep.ext hx t _ q3
/-- fewer places are open -/
theorem Rep.less {O O' : Nat → Prop} {s : S} (ho : ∀ q, O' q → O q) : ∀ (t : Tm) (c : Int), Rep O s t c → Rep O' s t c := by
  intro t
  induction t using Tm.ind with
  | h k n i re im l ih =>
    intro c h
    rw [Rep] at h ⊢
    by_cases k2 : k = 2
    · rw [if_pos k2] at h ⊢; exact h
    rw [if_neg k2] at h ⊢
    by_cases k3 : k = 3
    · rw [if_pos k3] at h ⊢
      split at h
      · rename_i hso; rw [if_pos hso]; exact h
      · rename_i hso; rw [if_neg hso]
        obtain ⟨p, e, h1, hp⟩ := h
        exact ⟨p, e, fun q => h1 (ho _ q), hp⟩
    rw [if_neg k3] at h ⊢
    by_cases k4 : k = 4
    · rw [if_pos k4] at h ⊢
      obtain ⟨p, e, h1, h2, hp⟩ := h
      exact ⟨p, e, fun q => h1 (ho _ q), fun q => h2 (ho _ q), hp⟩
    rw [if_neg k4] at h ⊢
    by_cases k1 : k = 1
    · rw [if_pos k1] at h ⊢; exact h
    rw [if_neg k1] at h ⊢
    obtain ⟨p, j, e, h1, hp, hj, hc, hn, hl⟩ := h
    refine ⟨p, j, e, fun q => h1 (ho _ q), hp, hj, hc, hn, ?_⟩
    have key : ∀ (l : List Tm), (∀ x ∈ l, ∀ c, Rep O s x c → Rep O' s x c) → ∀ p, RepL O s l p → RepL O' s l p := by
      intro l
      induction l with
      | nil => intro _ p _; rw [RepL]; trivial
      | cons t r ihr =>
        intro hh p hr
        rw [RepL] at hr ⊢
        obtain ⟨q1, q2, q3, q4⟩ := hr
        exact ⟨fun q => q1 (ho _ q), q2, hh t (by simp) _ q3, ihr (fun x hx => hh x (by simp [hx])) _ q4⟩
    exact key l ih _ hl
end Go.Proofs.Ytibepkljcofpdaa.pm
