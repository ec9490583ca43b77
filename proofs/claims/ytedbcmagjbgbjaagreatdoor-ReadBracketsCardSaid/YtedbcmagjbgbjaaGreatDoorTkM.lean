/- Texts as tokens: the mathematics of what the project's machine does. -/
import Derived.Test.YtedbcmagjbgbjaaGreatDoorParse
import Derived.Test.YtedbcmagjbgbjaaGreatDoorHexP
namespace Go.Proofs.YtedbcmagjbgbjaaGreatDoor.tk
open Go.Proofs.YtedbcmagjbgbjaaGreatDoor.num Go.Proofs.YtedbcmagjbgbjaaGreatDoor.dec
set_option linter.unusedVariables false
def sm (c : UInt8) : Bool := decide (97 ≤ c.toNat) && decide (c.toNat ≤ 122)
def gr (c : UInt8) : Bool := decide (65 ≤ c.toNat) && decide (c.toNat ≤ 90)
def dg (c : UInt8) : Bool := decide (48 ≤ c.toNat) && decide (c.toNat ≤ 57)
def wd (c : UInt8) : Bool := sm c || gr c || dg c || decide (c.toNat = 95)
def blankL : List UInt8 := [32, 9, 10, 13]
def signL : List UInt8 := [43, 45, 42, 47, 92, 94, 60, 62, 61, 126, 58, 46, 63, 64, 35, 38, 36]
def soloL : List UInt8 := [33, 59]
def punctL : List UInt8 := [40, 41, 91, 93, 44, 124]
/-- is it one of those? -/
def mem (s : List UInt8) (c : UInt8) : Bool := decide (0 ≤ Lib.indexByte s c)
def memO (s : List UInt8) : Option UInt8 → Bool
  | none => false
  | some c => mem s c
def bi : Option UInt8 → Int
  | none => -1
  | some c => c.toNat
def wdO : Option UInt8 → Bool
  | none => false
  | some c => wd c
def sg (c : UInt8) : Bool := mem signL c
/-- what stands behind a quote's first mark: its text, and what is left -/
def qt : List UInt8 → Option (List UInt8 × List UInt8)
  | [] => none
  | c :: r =>
    if c = 10 then none
    else if c = 92 then
      match r with
      | [] => none
      | d :: r' => if d = 110 then (qt r').map fun x => (10 :: x.1, x.2) else if d = 92 ∨ d = 39 then (qt r').map fun x => (d :: x.1, x.2) else none
    else if c = 39 then
      match r with
      | [] => some ([], [])
      | d :: r' => if d = 39 then (qt r').map fun x => (39 :: x.1, x.2) else some ([], d :: r')
    else (qt r).map fun x => (c :: x.1, x.2)
theorem qt_cons (c : UInt8) (r : List UInt8) : qt (c :: r) =
    if c = 10 then none
    else if c = 92 then
      match r with
      | [] => none
      | d :: r' => if d = 110 then (qt r').map fun x => (10 :: x.1, x.2) else if d = 92 ∨ d = 39 then (qt r').map fun x => (d :: x.1, x.2) else none
    else if c = 39 then
      match r with
      | [] => some ([], [])
      | d :: r' => if d = 39 then (qt r').map fun x => (39 :: x.1, x.2) else some ([], d :: r')
    else (qt r).map fun x => (c :: x.1, x.2) := by cases r <;> rfl
/-- where one is between tokens -/
inductive Md where | bt | ln | b0 | bk | b1
/-- white space and remarks: does each end; what is left, or where the remark that does not end begins -/
def sk : Md → List UInt8 → List UInt8 → Bool × List UInt8
  | .bt, _, [] => (true, [])
  | .bt, _, c :: r => if mem blankL c = true then sk .bt r r else if c = 37 then sk .ln (c :: r) r else if c = 47 ∧ r.head? = some 42 then sk .b0 (c :: r) r else (true, c :: r)
  | .ln, _, [] => (true, [])
  | .ln, b, c :: r => if c = 10 then sk .bt r r else sk .ln b r
  | .b0, b, [] => (false, b)
  | .b0, b, c :: r => sk .bk b r
  | .bk, b, [] => (false, b)
  | .bk, b, c :: r => if c = 42 ∧ r.head? = some 47 then sk .b1 b r else sk .bk b r
  | .b1, b, [] => (false, b)
  | .b1, b, c :: r => sk .bt r r
/-- a token but for its place, and what is left; or an error -/
inductive TR where
  | er (e : Int)
  | ok (k : Int) (t : List UInt8) (n : Int) (re im : Nat) (rest : List UInt8)
def txt (k : Int) (t : List UInt8) (rest : List UInt8) : TR := if t.length ≤ 200 then .ok k t 0 0 0 rest else .er 3
def leastL : List UInt8 := [57, 50, 50, 51, 51, 55, 50, 48, 51, 54, 56, 53, 52, 55, 55, 53, 56, 48, 56]
def nmb (la : Int × List UInt8) (w rest : List UInt8) : TR :=
  if dve w = 0 then .ok 5 [] 0 (dv1 w) (dv2 w) rest
  else if w = leastL ∧ la.1 = 1 ∧ la.2 = [45] then .ok 4 [] (-9223372036854775808) 0 0 rest
  else if pe w = 0 then .ok 4 [] (pv w) 0 0 rest else .er (pe w)
def stops : List UInt8 → Bool
  | [] => true
  | c :: _ => decide (c = 37) || mem blankL c
def tok (la : Int × List UInt8) (c : UInt8) (r : List UInt8) : TR :=
  if sm c = true then txt 1 (c :: r.takeWhile wd) (r.dropWhile wd)
  else if gr c = true ∨ c = 95 then txt 3 (c :: r.takeWhile wd) (r.dropWhile wd)
  else if dg c = true then nmb la (c :: r.takeWhile wd) (r.dropWhile wd)
  else if sg c = true then
    if c :: r.takeWhile sg = [46] ∧ stops (r.dropWhile sg) = true then .ok 8 [] 0 0 0 (r.dropWhile sg) else txt 1 (c :: r.takeWhile sg) (r.dropWhile sg)
  else if mem soloL c = true then txt 1 [c] r
  else if mem punctL c = true then
    if c = 40 ∧ (la.1 = 1 ∨ la.1 = 2) then .ok 7 [] 0 0 0 r else txt 6 [c] r
  else if c = 39 then match qt r with
    | none => .er 2
    | some x => txt 2 x.1 x.2
  else .er 2
/-- a token -/
structure Tk where
  k : Int
  t : List UInt8
  n : Int
  re : Nat
  im : Nat
  a : Nat
theorem Tk.same (x y : Tk) : x = y ↔ x.k = y.k ∧ x.t = y.t ∧ x.n = y.n ∧ x.re = y.re ∧ x.im = y.im ∧ x.a = y.a := by
  constructor
  · rintro rfl; exact ⟨rfl, rfl, rfl, rfl, rfl, rfl⟩
  · obtain ⟨a, b, c, d, e, f⟩ := x
    obtain ⟨a', b', c', d', e', f'⟩ := y
    rintro ⟨h1, h2, h3, h4, h5, h6⟩
    dsimp only at *
    subst h1 h2 h3 h4 h5 h6; rfl
instance : DecidableEq Tk := fun x y => decidable_of_iff _ (Tk.same x y).symm
/-- the tokens of what is left of a text of N bytes; a place; an error -/
def lex (N : Nat) : Nat → Int × List UInt8 → List UInt8 → List Tk × Nat × Int
  | 0, _, _ => ([], 0, 0)
  | f + 1, la, l => match sk .bt l l with
    | (false, s) => ([], N - s.length, 2)
    | (true, []) => ([], 0, 0)
    | (true, c :: r) => match tok (if (c :: r).length = l.length then la else (0, [])) c r with
      | .er e => ([], N - (c :: r).length, e)
      | .ok k t n re im rest => match lex N f (k, t) rest with
        | (ts, p, e) => if e = 0 then (⟨k, t, n, re, im, N - (c :: r).length⟩ :: ts, 0, 0) else ([], p, e)
/-- what All tells -/
def allT (S : List UInt8) : List Tk × Nat × Int := if S.length ≤ 65536 then lex S.length (S.length + 1) (0, []) S else ([], 0, 3)
/-- what Plain tells -/
def plainB (S : List UInt8) : Bool := if S = [91, 93] then true else match allT (S ++ [32]) with
  | ([x], _, e) => decide (e = 0) && (decide (x.k = 1) && decide (x.t = S))
  | _ => false
/-- what Quote tells of what is not plain -/
def qb (c : UInt8) : List UInt8 := if c = 92 then [92, 92] else if c = 10 then [92, 110] else if c = 39 then [92, 39] else [c]
def quoteL (S : List UInt8) : List UInt8 := if plainB S = true then S else 39 :: (S.flatMap qb ++ [39])
/-! ### what is left is a part -/
theorem sk_suf (l : List UInt8) : ∀ m b, ∃ p, sk m b l = (true, p) ∧ p <:+ l ∨ ∃ s, sk m b l = (false, s) ∧ (s <:+ l ∨ s = b) := by
  induction l with
  | nil => intro m b; cases m <;> first | exact ⟨_, Or.inl ⟨rfl, List.suffix_refl _⟩⟩ | exact ⟨[], Or.inr ⟨_, rfl, Or.inr rfl⟩⟩
  | cons c r ih =>
    intro m b
    have go : ∀ m b', (b' = b ∨ b' <:+ c :: r) → ∃ p, sk m b' r = (true, p) ∧ p <:+ c :: r ∨ ∃ s, sk m b' r = (false, s) ∧ (s <:+ c :: r ∨ s = b) := by
      intro m b' hb
      obtain ⟨p, h | ⟨s, h, h2⟩⟩ := ih m b'
      · exact ⟨p, Or.inl ⟨h.1, h.2.trans (List.suffix_cons _ _)⟩⟩
      · refine ⟨[], Or.inr ⟨s, h, ?_⟩⟩
        rcases h2 with h2 | h2
        · exact Or.inl (h2.trans (List.suffix_cons _ _))
        · rcases hb with hb | hb
          · exact Or.inr (h2.trans hb)
          · exact Or.inl (h2 ▸ hb)
    cases m <;> simp only [sk]
    · by_cases h1 : mem blankL c = true
      · rw [if_pos h1]; exact go _ _ (Or.inr (List.suffix_cons _ _))
      · rw [if_neg h1]
        by_cases h2 : c = 37
        · rw [if_pos h2]; exact go _ _ (Or.inr (List.suffix_refl _))
        · rw [if_neg h2]
          by_cases h3 : c = 47 ∧ r.head? = some 42
          · rw [if_pos h3]; exact go _ _ (Or.inr (List.suffix_refl _))
          · rw [if_neg h3]; exact ⟨_, Or.inl ⟨rfl, List.suffix_refl _⟩⟩
    · by_cases h1 : c = 10
      · rw [if_pos h1]; exact go _ _ (Or.inr (List.suffix_cons _ _))
      · rw [if_neg h1]; exact go _ _ (Or.inl rfl)
    · exact go _ _ (Or.inl rfl)
    · by_cases h1 : c = 42 ∧ r.head? = some 47
      · rw [if_pos h1]; exact go _ _ (Or.inl rfl)
      · rw [if_neg h1]; exact go _ _ (Or.inl rfl)
    · exact go _ _ (Or.inr (List.suffix_cons _ _))
theorem sk_ok {l p : List UInt8} (h : sk .bt l l = (true, p)) : p <:+ l := by
  obtain ⟨q, ⟨h1, h2⟩ | ⟨s, h1, h2⟩⟩ := sk_suf l .bt l
  · rw [h1] at h; cases h; exact h2
  · rw [h1] at h; cases h
theorem sk_no {l s : List UInt8} (h : sk .bt l l = (false, s)) : s <:+ l := by
  obtain ⟨q, ⟨h1, h2⟩ | ⟨s', h1, h2⟩⟩ := sk_suf l .bt l
  · rw [h1] at h; cases h
  · rw [h1] at h; cases h
    rcases h2 with h2 | h2
    · exact h2
    · rw [h2]; exact List.suffix_refl _
theorem qt_suf : ∀ (n : Nat) (l : List UInt8), l.length ≤ n → ∀ x, qt l = some x → x.2 <:+ l ∧ x.1.length ≤ l.length := by
  intro n
  induction n with
  | zero => intro l hl x h; cases l with
    | nil => simp [qt] at h
    | cons c r => simp at hl
  | succ n ih =>
    intro l hl x h
    cases l with
    | nil => simp [qt] at h
    | cons c r =>
      have hr : r.length ≤ n := by simp at hl; omega
      have one : ∀ (d : UInt8) (q : List UInt8), q <:+ c :: r → q.length ≤ n → q.length + 1 ≤ (c :: r).length → ∀ y, (qt q).map (fun x => (d :: x.1, x.2)) = some y → y.2 <:+ c :: r ∧ y.1.length ≤ (c :: r).length := by
        intro d q hq hqn hql y hy
        cases h : qt q with
        | none => rw [h] at hy; cases hy
        | some z =>
          rw [h] at hy; cases hy
          obtain ⟨a, b⟩ := ih q hqn z h
          exact ⟨a.trans hq, by simp only [List.length_cons]; simp only [List.length_cons] at hql; omega⟩
      rw [qt_cons] at h
      split at h
      · cases h
      · split at h
        · cases r with
          | nil => cases h
          | cons d r' =>
            have sq : r' <:+ c :: d :: r' := (List.suffix_cons _ _).trans (List.suffix_cons _ _)
            simp only at h
            have hr2 : r'.length ≤ n := by simp at hr; omega
            split at h
            · exact one _ r' sq hr2 (by simp) x h
            · split at h
              · exact one _ r' sq hr2 (by simp) x h
              · cases h
        · split at h
          · cases r with
            | nil => cases h; exact ⟨by simp, by simp⟩
            | cons d r' =>
              have sq : r' <:+ c :: d :: r' := (List.suffix_cons _ _).trans (List.suffix_cons _ _)
              have hr2 : r'.length ≤ n := by simp at hr; omega
              simp only at h
              split at h
              · exact one _ r' sq hr2 (by simp) x h
              · cases h; exact ⟨List.suffix_cons _ _, by simp⟩
          · exact one _ r (List.suffix_cons _ _) hr (by simp) x h
theorem drop_suf (p : UInt8 → Bool) (l : List UInt8) : l.dropWhile p <:+ l := List.dropWhile_suffix p
theorem tok_suf {la : Int × List UInt8} {c : UInt8} {r : List UInt8} {k : Int} {t : List UInt8} {n : Int} {re im : Nat} {rest : List UInt8} (h : tok la c r = .ok k t n re im rest) : rest <:+ r := by
  have T : ∀ k' t' rest', rest' <:+ r → txt k' t' rest' = .ok k t n re im rest → rest <:+ r := by
    intro k' t' rest' hs h
    unfold txt at h; split at h
    · cases h; exact hs
    · cases h
  unfold tok at h
  split at h
  · exact T _ _ _ (drop_suf _ _) h
  · split at h
    · exact T _ _ _ (drop_suf _ _) h
    · split at h
      · unfold nmb at h
        repeat' split at h
        all_goals first | (cases h; exact drop_suf _ _) | cases h
      · split at h
        · split at h
          · cases h; exact drop_suf _ _
          · exact T _ _ _ (drop_suf _ _) h
        · split at h
          · exact T _ _ _ (List.suffix_refl _) h
          · split at h
            · split at h
              · cases h; exact List.suffix_refl _
              · exact T _ _ _ (List.suffix_refl _) h
            · split at h
              · split at h
                · cases h
                · rename_i x hx
                  exact T _ _ _ (qt_suf _ r (Nat.le_refl _) _ hx).1 h
              · cases h
theorem suf_len {a b : List UInt8} (h : a <:+ b) : a.length ≤ b.length := h.length_le
/-- more fuel than bytes is enough -/
theorem lex_fuel (N : Nat) : ∀ (n : Nat) (l : List UInt8), l.length ≤ n → ∀ f g la, l.length < f → l.length < g → lex N f la l = lex N g la l := by
  intro n
  induction n with
  | zero =>
    intro l hl f g la hf hg
    cases l with
    | nil => cases f <;> cases g <;> first | omega | rfl
    | cons => simp at hl
  | succ n ih =>
    intro l hl f g la hf hg
    cases f with
    | zero => omega
    | succ f => cases g with
      | zero => omega
      | succ g =>
        simp only [lex]
        split
        · rfl
        · rfl
        · rename_i c r hs
          have h1 := suf_len (sk_ok hs)
          simp only [List.length_cons] at h1
          split
          · rfl
          · rename_i k t n' re im rest ht
            have h2 := suf_len (tok_suf ht)
            rw [ih rest (by omega) f g (k, t) (by omega) (by omega)]
end Go.Proofs.YtedbcmagjbgbjaaGreatDoor.tk
