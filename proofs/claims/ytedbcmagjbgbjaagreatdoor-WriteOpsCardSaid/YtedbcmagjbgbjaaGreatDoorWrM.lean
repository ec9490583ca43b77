/- Terms as texts: the mathematics; no program. No two terms have one text; no program. -/
import Derived.Test.YtedbcmagjbgbjaaGreatDoorTkY
import Derived.Test.YtedbcmagjbgbjaaGreatDoorTm
import Derived.Test.YtedbcmagjbgbjaaGreatDoorDecBack
import Derived.Test.YtedbcmagjbgbjaaGreatDoorTkN
namespace Go.Proofs.YtedbcmagjbgbjaaGreatDoor.wr
open Go.Proofs.YtedbcmagjbgbjaaGreatDoor.tm Go.Proofs.YtedbcmagjbgbjaaGreatDoor.tk Go.Proofs.YtedbcmagjbgbjaaGreatDoor.num Go.Proofs.YtedbcmagjbgbjaaGreatDoor.dec
set_option linter.unusedVariables false
abbrev LB := List UInt8
def DOTL : LB := [46]
def NILL : LB := [91, 93]
def COM : LB := [44]
def bl (n : ByteArray) : LB := n.data.toList
/-- which names are written as operators: in front, between -/
structure Ways where
  pf : LB → Bool
  bt : LB → Bool
def W0 : Ways := ⟨fun _ => false, fun _ => false⟩
def fnm (n : LB) : LB := if n = NILL then [39, 91, 93, 39] else quoteL n
def atT (W : Ways) (n : LB) : LB := if n = COM ∨ (W.pf n = false ∧ W.bt n = false) then quoteL n else 40 :: (quoteL n ++ [41])
/-- items, each with a comma ahead -/
def rT (L : List LB) : LB := L.flatMap fun a => 44 :: a
def rowT (L : List LB) : LB := (rT L).tail
theorem rT_nil : rT [] = [] := rfl
theorem rT_cons (a : LB) (L : List LB) : rT (a :: L) = 44 :: (a ++ rT L) := by simp [rT]
theorem rT_append (L L' : List LB) : rT (L ++ L') = rT L ++ rT L' := by simp [rT]
theorem rowT_one (a : LB) : rowT [a] = a := by simp [rowT, rT]
theorem rowT_cons (a : LB) (L : List LB) : rowT (a :: L) = a ++ rT L := by simp [rowT, rT_cons]
theorem rowT_two (a b : LB) : rowT [a, b] = a ++ 44 :: b := by simp [rowT_cons, rT_cons, rT_nil]
theorem rowT_add {L : List LB} (h : L ≠ []) (b : LB) : rowT (L ++ [b]) = rowT L ++ 44 :: b := by
  cases L with
  | nil => exact absurd rfl h
  | cons a L => simp [rowT_cons, rT_append, rT_cons, rT_nil]
abbrev PB := LB × LB
def pfst (L : List PB) : PB := L.head?.getD ([], [])
def psnd (L : List PB) : PB := L.tail.head?.getD ([], [])
def isP (k : Int) (n : LB) (len : Nat) : Prop := k = 5 ∧ n = DOTL ∧ len = 2
instance (k : Int) (n : LB) (len : Nat) : Decidable (isP k n len) := by unfold isP; infer_instance
def compT (W : Ways) (n : LB) (L : List PB) : LB :=
  if isP 5 n L.length then 91 :: ((pfst L).1 ++ (psnd L).2 ++ [93])
  else if L.length = 2 ∧ W.bt n = true then 40 :: ((pfst L).1 ++ 32 :: (n ++ 32 :: ((psnd L).1 ++ [41])))
  else if L.length = 1 ∧ W.pf n = true then 40 :: (n ++ 32 :: ((pfst L).1 ++ [41]))
  else fnm n ++ 40 :: (rowT (L.map (·.1)) ++ [41])
def tx (W : Ways) (k : Int) (n : LB) (i re im : Int) (L : List PB) : LB :=
  if k = 1 then 95 :: Lib.itoa i
  else if k = 3 then Lib.itoa i
  else if k = 4 then cpx re.toNat im.toNat
  else if k = 2 then atT W n
  else compT W n L
def tl (W : Ways) (k : Int) (n : LB) (i re im : Int) (L : List PB) : LB :=
  if isP k n L.length then 44 :: ((pfst L).1 ++ (psnd L).2)
  else if k = 2 ∧ n = NILL then []
  else 124 :: tx W k n i re im L
mutual
/-- a term's text; what it comes to behind a list's items -/
def w2 (W : Ways) : Tm → PB
  | .mk k n i re im l => (tx W k (bl n) i re im (w2L W l), tl W k (bl n) i re im (w2L W l))
def w2L (W : Ways) : List Tm → List PB
  | [] => []
  | t :: r => w2 W t :: w2L W r
end
theorem w2L_map (W : Ways) : ∀ l, w2L W l = l.map (w2 W) | [] => rfl | t :: r => by simp [w2L, w2L_map W r]
theorem w2L_len (W : Ways) (l : List Tm) : (w2L W l).length = l.length := by simp [w2L_map]
/-- its text -/
def wt (W : Ways) (t : Tm) : LB := (w2 W t).1
def wl (W : Ways) (t : Tm) : LB := (w2 W t).2
theorem wt_mk (W : Ways) (k n i re im l) : wt W (.mk k n i re im l) = tx W k (bl n) i re im (w2L W l) := rfl
theorem wl_mk (W : Ways) (k n i re im l) : wl W (.mk k n i re im l) = tl W k (bl n) i re im (w2L W l) := rfl
theorem w2L_fst (W : Ways) (l : List Tm) : (w2L W l).map (·.1) = l.map (wt W) := by simp [w2L_map, wt]
/-! ### lengths -/
theorem quote_len (S : LB) : (quoteL S).length ≤ 2 * S.length + 2 := by
  unfold quoteL; split
  · omega
  · have := qbs_len S; simp only [List.length_cons, List.length_append, List.length_nil]; omega
theorem fnm_len (S : LB) : (fnm S).length ≤ 2 * S.length + 4 := by
  unfold fnm; split
  · simp
  · have := quote_len S; omega
theorem atT_len (W : Ways) (S : LB) : (atT W S).length ≤ 2 * S.length + 4 := by
  have := quote_len S
  unfold atT; split
  · omega
  · simp only [List.length_cons, List.length_append, List.length_nil]; omega
theorem itoa_len' (n : Int) (h : -9223372036854775808 ≤ n ∧ n ≤ 9223372036854775807) : (Lib.itoa n).length ≤ 20 := itoa_len n h
theorem cpx_len (p q : Nat) : (cpx p q).length = 34 := by simp [cpx, hex16_length]
/-- numbers are as they may be -/
def inR (i : Int) : Prop := -9223372036854775808 ≤ i ∧ i ≤ 9223372036854775807
mutual
def rg : Tm → Prop
  | .mk k n i re im l => inR i ∧ (0 ≤ re ∧ re < 18446744073709551616) ∧ (0 ≤ im ∧ im < 18446744073709551616) ∧ rgL l
def rgL : List Tm → Prop
  | [] => True
  | t :: r => rg t ∧ rgL r
end
theorem rgL_all : ∀ l, rgL l ↔ ∀ x ∈ l, rg x | [] => by simp [rgL] | t :: r => by simp [rgL, rgL_all r]
theorem chk_name {k : Int} {n : ByteArray} {i re im : Int} {l : List Tm} (h : chk (.mk k n i re im l) = 0) (hk : k = 2 ∨ k = 5) : (bl n).length ≤ 200 := by
  have e : (bl n).length = n.size := rfl
  rw [e]
  unfold chk at h
  rcases hk with rfl | rfl
  · simp at h; omega
  · simp at h
    split at h
    · omega
    · split at h
      · omega
      · omega
theorem chk_args {n : ByteArray} {i re im : Int} {l : List Tm} (h : chk (.mk 5 n i re im l) = 0) : 0 < l.length ∧ l.length ≤ 20 := by
  unfold chk at h
  simp at h
  by_cases h0 : l = []
  · simp [h0] at h
  · simp only [h0, if_false] at h
    split at h
    · omega
    · exact ⟨List.length_pos_iff.2 h0, by omega⟩
theorem rT_len (W : Ways) : ∀ l : List Tm, (∀ x ∈ l, (wt W x).length ≤ 450 * size x) → (rT (l.map (wt W))).length ≤ 450 * sizeL l + l.length := by
  intro l
  induction l with
  | nil => intro _; simp [rT]
  | cons t r ih =>
    intro h
    have h1 := h t (by simp)
    have h2 := ih fun x hx => h x (by simp [hx])
    simp only [List.map_cons, rT_cons, List.length_cons, List.length_append, sizeL]
    omega
theorem two_of {l : List Tm} (h : l.length = 2) : ∃ a b, l = [a, b] := by
  match l, h with
  | [a, b], _ => exact ⟨a, b, rfl⟩
theorem one_of {l : List Tm} (h : l.length = 1) : ∃ a, l = [a] := by
  match l, h with
  | [a], _ => exact ⟨a, rfl⟩
theorem w2_len (W : Ways) (t : Tm) : sound t = true → rg t → (wt W t).length ≤ 450 * size t ∧ (wl W t).length ≤ 450 * size t + 1 := by
  induction t using Tm.ind with
  | h k n i re im l ih =>
    intro hs hr
    have hc := sound_chk hs
    rw [rg] at hr
    obtain ⟨hi, -, -, hrl⟩ := hr
    have hi' := itoa_len' i hi
    have hpos : 1 ≤ size (.mk k n i re im l) := by rw [size]; omega
    have h1 : (wt W (.mk k n i re im l)).length ≤ 450 * size (.mk k n i re im l) ∧ (isP k (bl n) l.length → (wl W (.mk k n i re im l)).length ≤ 450 * size (.mk k n i re im l) + 1) := by
      rw [wt_mk, wl_mk]
      unfold tx
      have np : k ≠ 5 → ∀ L, ¬ isP k L l.length := fun h L h2 => h h2.1
      split
      · rename_i hk; exact ⟨by simp only [List.length_cons]; omega, fun h => absurd h (np (by omega) _)⟩
      split
      · rename_i hk; exact ⟨by omega, fun h => absurd h (np (by omega) _)⟩
      split
      · rename_i hk; exact ⟨by rw [cpx_len]; omega, fun h => absurd h (np (by omega) _)⟩
      split
      · rename_i hk
        have := atT_len W (bl n)
        have h2 := chk_name hc (Or.inl hk)
        exact ⟨by omega, fun h => absurd h (np (by omega) _)⟩
      · rename_i h1 h3 h4 h2
        have hk : k = 5 := by
          rcases chk_kind hc with h | h | h | h | h
          · exact absurd h h1
          · exact absurd h h2
          · exact absurd h h3
          · exact absurd h h4
          · exact h
        subst hk
        have ihx : ∀ x ∈ l, (wt W x).length ≤ 450 * size x ∧ (wl W x).length ≤ 450 * size x + 1 := fun x hx => ih x hx (sound_args hs rfl x hx) ((rgL_all l).1 hrl x hx)
        have hn := chk_name hc (Or.inr rfl)
        have hl := chk_args hc
        have hsz : size (.mk 5 n i re im l) = 1 + sizeL l := by rw [size]; simp
        have hf := fnm_len (bl n)
        have hrow := rT_len W l fun x hx => (ihx x hx).1
        rw [hsz]
        unfold compT tl
        rw [w2L_len, w2L_fst]
        by_cases hp : isP 5 (bl n) l.length
        · rw [if_pos hp, if_pos hp]
          obtain ⟨a, b, rfl⟩ := two_of hp.2.2
          have ha := ihx a (by simp)
          have hb := ihx b (by simp)
          simp only [w2L, pfst, psnd, List.head?_cons, List.tail_cons, Option.getD_some, List.length_cons, List.length_append, List.length_nil, sizeL] at *
          unfold wt wl at ha hb
          exact ⟨by omega, fun _ => by omega⟩
        · refine ⟨?_, fun h => absurd h hp⟩
          rw [if_neg hp]
          split
          · rename_i h2
            obtain ⟨a, b, rfl⟩ := two_of h2.1
            have ha := ihx a (by simp)
            have hb := ihx b (by simp)
            simp only [w2L, pfst, psnd, List.head?_cons, List.tail_cons, Option.getD_some, List.length_cons, List.length_append, List.length_nil, sizeL] at *
            unfold wt wl at ha hb
            omega
          split
          · rename_i h2
            obtain ⟨a, rfl⟩ := one_of h2.1
            have ha := ihx a (by simp)
            simp only [w2L, pfst, List.head?_cons, Option.getD_some, List.length_cons, List.length_append, List.length_nil, sizeL] at *
            unfold wt wl at ha
            omega
          · simp only [List.length_append, List.length_cons, List.length_nil, rowT, List.length_tail]
            omega
    refine ⟨h1.1, ?_⟩
    by_cases hp : isP k (bl n) l.length
    · exact h1.2 hp
    · rw [wl_mk]
      unfold tl
      rw [w2L_len, if_neg hp]
      split
      · simp
      · have := h1.1
        rw [wt_mk] at this
        simp only [List.length_cons]
        omega
end Go.Proofs.YtedbcmagjbgbjaaGreatDoor.wr
namespace Go.Proofs.YtedbcmagjbgbjaaGreatDoor.wr
open Go.Proofs.YtedbcmagjbgbjaaGreatDoor.tm Go.Proofs.YtedbcmagjbgbjaaGreatDoor.tk Go.Proofs.YtedbcmagjbgbjaaGreatDoor.num Go.Proofs.YtedbcmagjbgbjaaGreatDoor.dec
set_option linter.unusedVariables false
/-- what a term's text may be followed by -/
def St (r : LB) : Prop := ∀ c ∈ r.head?, c = 44 ∨ c = 41 ∨ c = 93 ∨ c = 124
def Sp (r : LB) : Prop := ∀ c ∈ r.head?, c = 44 ∨ c = 41 ∨ c = 93 ∨ c = 124 ∨ c = 40
theorem St.sp {r : LB} (h : St r) : Sp r := fun c hc => by
  rcases h c hc with h | h | h | h
  · exact Or.inl h
  · exact Or.inr (Or.inl h)
  · exact Or.inr (Or.inr (Or.inl h))
  · exact Or.inr (Or.inr (Or.inr (Or.inl h)))
theorem St.nil : St [] := fun c hc => by cases hc
theorem St.cons {c : UInt8} (r : LB) (h : c = 44 ∨ c = 41 ∨ c = 93 ∨ c = 124) : St (c :: r) := fun x hx => by
  simp only [List.head?_cons, Option.mem_def, Option.some.injEq] at hx; subst hx; exact h
theorem Sp.paren (r : LB) : Sp (40 :: r) := fun x hx => by
  simp only [List.head?_cons, Option.mem_def, Option.some.injEq] at hx; subst hx; simp
theorem Sp.no {r : LB} (h : Sp r) {p : UInt8 → Bool} (hp : p 44 = false ∧ p 41 = false ∧ p 93 = false ∧ p 124 = false ∧ p 40 = false) : ∀ c ∈ r.head?, p c = false := fun c hc => by
  rcases h c hc with rfl | rfl | rfl | rfl | rfl
  · exact hp.1
  · exact hp.2.1
  · exact hp.2.2.1
  · exact hp.2.2.2.1
  · exact hp.2.2.2.2
theorem wd_st : wd 44 = false ∧ wd 41 = false ∧ wd 93 = false ∧ wd 124 = false ∧ wd 40 = false := by decide +kernel
theorem sg_st : sg 44 = false ∧ sg 41 = false ∧ sg 93 = false ∧ sg 124 = false ∧ sg 40 = false := by decide +kernel
/-- a name that is not quoted -/
theorem shape_of {S : LB} (hs : S.length ≤ 200) (hne : S ≠ [91, 93]) (h : plainB S = true) :
    ∃ c r, S = c :: r ∧ ((sm c = true ∧ r.all wd = true) ∨ (sg c = true ∧ r.all sg = true) ∨ (mem soloL c = true ∧ r = [])) := by
  have ha := plain_lex hs hne h
  rw [allT_of (by omega)] at ha
  have hsuf := sk_suf S .bt S
  simp only [lex] at ha
  cases hsk : sk .bt S S with
  | mk b s =>
  rw [hsk] at ha hsuf
  cases b with
  | false => cases ha
  | true =>
  cases s with
  | nil => cases ha
  | cons c r =>
  simp only at ha
  generalize hla : (if (c :: r).length = S.length then ((0, []) : Int × List UInt8) else (0, [])) = la at ha
  cases htk : tok la c r with
  | er e => rw [htk] at ha; cases ha
  | ok k t n re im rest =>
  rw [htk] at ha
  simp only at ha
  generalize lex S.length S.length (k, t) rest = R at ha
  obtain ⟨ts, q, e⟩ := R
  simp only at ha
  split at ha
  · simp only [Prod.mk.injEq, List.cons.injEq, Tk.mk.injEq] at ha
    obtain ⟨⟨⟨rfl, rfl, -⟩, -⟩, -⟩ := ha
    have hsf : c :: r <:+ t := by
      obtain ⟨p, h⟩ := hsuf
      rcases h with ⟨h, h'⟩ | ⟨s, h, -⟩
      · cases h; exact h'
      · cases h
    have h1 := (tok_one htk).1
    have hle := hsf.length_le
    have hc := congrArg List.length h1
    simp only [List.length_append] at hc
    have hr0 : rest = [] := List.eq_nil_of_length_eq_zero (by omega)
    subst hr0
    rw [List.append_nil] at h1
    refine ⟨c, r, h1, ?_⟩
    have T : ∀ k' t' rest', txt k' t' rest' = .ok 1 t n re im [] → k' = 1 ∧ t' = t ∧ rest' = [] := by
      intro k' t' rest' h
      unfold txt at h; split at h
      · cases h; exact ⟨rfl, rfl, rfl⟩
      · cases h
    have all_of : ∀ p : UInt8 → Bool, r.dropWhile p = [] → r.all p = true := by
      intro p hp
      rw [List.all_eq_true]
      intro x hx
      rw [← List.takeWhile_append_dropWhile (p := p) (l := r), hp, List.append_nil] at hx
      exact tw_mem hx
    unfold tok at htk
    split at htk
    · rename_i hs
      obtain ⟨-, -, h3⟩ := T _ _ _ htk
      exact Or.inl ⟨hs, all_of _ h3⟩
    split at htk
    · obtain ⟨e, -⟩ := T _ _ _ htk; omega
    split at htk
    · unfold nmb at htk
      split at htk
      · cases htk
      split at htk
      · cases htk
      split at htk <;> cases htk
    split at htk
    · rename_i hs
      split at htk
      · cases htk
      · obtain ⟨-, -, h3⟩ := T _ _ _ htk
        exact Or.inr (Or.inl ⟨hs, all_of _ h3⟩)
    split at htk
    · rename_i hs
      obtain ⟨-, -, h3⟩ := T _ _ _ htk
      exact Or.inr (Or.inr ⟨hs, h3⟩)
    split at htk
    · split at htk
      · cases htk
      · obtain ⟨e, -⟩ := T _ _ _ htk; omega
    split at htk
    · split at htk
      · cases htk
      · obtain ⟨e, -⟩ := T _ _ _ htk; omega
    · cases htk
  · cases ha
theorem qt_any (S r : LB) (hr : r.head? ≠ some 39) : qt (S.flatMap qb ++ 39 :: r) = some (S, r) := by
  induction S with
  | nil =>
    simp only [List.flatMap_nil, List.nil_append]
    rw [qt_cons]
    cases r with
    | nil => simp
    | cons d r =>
      have : d ≠ 39 := by simpa using hr
      simp [this]
  | cons c s ih =>
    rw [List.flatMap_cons, List.append_assoc, show qb c = (if c = 92 then [92, 92] else if c = 10 then [92, 110] else if c = 39 then [92, 39] else [c]) from rfl]
    split
    · rename_i h; subst h
      simp only [List.cons_append, List.nil_append]
      rw [qt_cons]; simp [ih]
    split
    · rename_i h; subst h
      simp only [List.cons_append, List.nil_append]
      rw [qt_cons]; simp [ih]
    split
    · rename_i h; subst h
      simp only [List.cons_append, List.nil_append]
      rw [qt_cons]; simp [ih]
    · rename_i h1 h2 h3
      simp only [List.cons_append, List.nil_append]
      rw [qt_cons, if_neg h2, if_neg h1, if_neg h3, ih]; rfl
/-- the first part of a text -/
def dec (l : LB) : Nat × LB × LB :=
  match l with
  | [] => (9, [], [])
  | c :: r => if wd c = true then (0, (c :: r).takeWhile wd, (c :: r).dropWhile wd) else if sg c = true then (1, (c :: r).takeWhile sg, (c :: r).dropWhile sg)
    else if c = 39 then (match qt r with | some x => (2, x.1, x.2) | none => (9, [], [])) else (3, [c], r)
theorem dec_wd {c : UInt8} {a r : LB} (h : (c :: a).all wd = true) (hr : ∀ c ∈ r.head?, wd c = false) : dec ((c :: a) ++ r) = (0, c :: a, r) := by
  obtain ⟨e1, e2⟩ := take_all h hr
  simp only [List.all_cons, Bool.and_eq_true] at h
  rw [List.cons_append] at e1 e2
  rw [List.cons_append, dec, if_pos h.1, e1, e2]
theorem sg_nw_b : ∀ n : Fin 256, sg (UInt8.ofNat n.val) = true → wd (UInt8.ofNat n.val) = false := by decide +kernel
theorem sg_nw (c : UInt8) (h : sg c = true) : wd c = false := byte_all (P := fun c => sg c = true → wd c = false) sg_nw_b c h
theorem so_b : ∀ n : Fin 256, mem soloL (UInt8.ofNat n.val) = true → wd (UInt8.ofNat n.val) = false ∧ sg (UInt8.ofNat n.val) = false ∧ UInt8.ofNat n.val ≠ 39 ∧ UInt8.ofNat n.val ≠ 91 ∧ UInt8.ofNat n.val ≠ 93 := by decide +kernel
theorem so_nw (c : UInt8) (h : mem soloL c = true) : wd c = false ∧ sg c = false ∧ c ≠ 39 ∧ c ≠ 91 ∧ c ≠ 93 := byte_all (P := fun c => mem soloL c = true → wd c = false ∧ sg c = false ∧ c ≠ 39 ∧ c ≠ 91 ∧ c ≠ 93) so_b c h
theorem dec_sg {c : UInt8} {a r : LB} (h : (c :: a).all sg = true) (hr : ∀ c ∈ r.head?, sg c = false) : dec ((c :: a) ++ r) = (1, c :: a, r) := by
  obtain ⟨e1, e2⟩ := take_all h hr
  simp only [List.all_cons, Bool.and_eq_true] at h
  rw [List.cons_append] at e1 e2
  rw [List.cons_append, dec, if_neg (by rw [sg_nw c h.1]; simp), if_pos h.1, e1, e2]
theorem dec_qt (S r : LB) (hr : r.head? ≠ some 39) : dec (39 :: (S.flatMap qb ++ [39]) ++ r) = (2, S, r) := by
  have h1 : wd 39 = false := by decide +kernel
  have h2 : sg 39 = false := by decide +kernel
  rw [List.cons_append, dec, if_neg (by rw [h1]; simp), if_neg (by rw [h2]; simp), if_pos rfl, List.append_assoc, List.cons_append, List.nil_append, qt_any S r hr]
theorem Sp.nq {r : LB} (h : Sp r) : r.head? ≠ some 39 := fun e => by
  have := h 39 (by rw [e]; rfl)
  revert this; decide
/-- a name's text -/
theorem name_dec {S q : LB} (hs : S.length ≤ 200) (hne : S ≠ NILL) (hq : Sp q) : ∃ k, dec (quoteL S ++ q) = (k, S, q) ∧ ((k = 0 ∧ ∃ c r, S = c :: r ∧ sm c = true) ∨ k = 1 ∨ k = 2 ∨ (k = 3 ∧ S ≠ [91])) := by
  cases hb : plainB S with
  | true =>
    have e : quoteL S = S := by unfold quoteL; rw [if_pos hb]
    rw [e]
    obtain ⟨c, r, rfl, h⟩ := shape_of hs hne hb
    rcases h with ⟨h1, h2⟩ | ⟨h1, h2⟩ | ⟨h1, rfl⟩
    · exact ⟨0, dec_wd (by simp only [List.all_cons, Bool.and_eq_true]; exact ⟨sm_wd _ h1, h2⟩) (hq.no wd_st), Or.inl ⟨rfl, c, r, rfl, h1⟩⟩
    · exact ⟨1, dec_sg (by simp only [List.all_cons, Bool.and_eq_true]; exact ⟨h1, h2⟩) (hq.no sg_st), Or.inr (Or.inl rfl)⟩
    · obtain ⟨n1, n2, n3, n4, n5⟩ := so_nw c h1
      refine ⟨3, ?_, Or.inr (Or.inr (Or.inr ⟨rfl, by simpa using n4⟩))⟩
      rw [List.cons_append, List.nil_append, dec, if_neg (by rw [n1]; simp), if_neg (by rw [n2]; simp), if_neg n3]
  | false =>
    have e : quoteL S = 39 :: (S.flatMap qb ++ [39]) := by unfold quoteL; rw [if_neg (by rw [hb]; simp)]
    rw [e]
    exact ⟨2, dec_qt S q hq.nq, Or.inr (Or.inr (Or.inl rfl))⟩
theorem fnm_dec {S q : LB} (hs : S.length ≤ 200) (hq : Sp q) : ∃ k, dec (fnm S ++ q) = (k, S, q) ∧ ((k = 0 ∧ ∃ c r, S = c :: r ∧ sm c = true) ∨ k = 1 ∨ k = 2 ∨ (k = 3 ∧ S ≠ [91])) := by
  unfold fnm
  split
  · rename_i h; subst h
    refine ⟨2, ?_, Or.inr (Or.inr (Or.inl rfl))⟩
    exact dec_qt NILL q hq.nq
  · rename_i h; exact name_dec hs h hq
/-- what kind of term a text begins with, its name or number, what is left -/
def nq (p q : LB) : Nat × LB × LB := if q.head? = some 40 then (5, p, q.tail) else (2, p, q)
def DD (l : LB) : Nat × LB × LB :=
  match dec l with
  | (0, p, q) => if p.head? = some 95 then (1, p, q) else if (p.head?.map dg).getD false = true then (if p.tail.head? = some 99 then (4, p, q) else (3, p, q)) else nq p q
  | (1, p, q) => if (q.head?.map dg).getD false = true then (6, p, q) else nq p q
  | (2, p, q) => nq p q
  | (3, p, q) => if p = [91] then (if q.head? = some 93 then (2, NILL, q.tail) else (7, [], q)) else nq p q
  | _ => (9, [], [])
theorem sm_nd_b : ∀ n : Fin 256, sm (UInt8.ofNat n.val) = true → dg (UInt8.ofNat n.val) = false ∧ UInt8.ofNat n.val ≠ 95 ∧ UInt8.ofNat n.val ≠ 93 := by decide +kernel
theorem sm_nd (c : UInt8) (h : sm c = true) : dg c = false ∧ c ≠ 95 ∧ c ≠ 93 := byte_all (P := fun c => sm c = true → dg c = false ∧ c ≠ 95 ∧ c ≠ 93) sm_nd_b c h
theorem dg_st : dg 44 = false ∧ dg 41 = false ∧ dg 93 = false ∧ dg 124 = false ∧ dg 40 = false := by decide +kernel
theorem Sp.nd {q : LB} (h : Sp q) : (q.head?.map dg).getD false = false := by
  cases hq : q.head? with
  | none => rfl
  | some c => exact h.no dg_st c (by rw [hq]; rfl)
theorem DD_of {l S q : LB} {k : Nat} (hq : Sp q) (hd : dec l = (k, S, q)) (h : (k = 0 ∧ ∃ c r, S = c :: r ∧ sm c = true) ∨ k = 1 ∨ k = 2 ∨ (k = 3 ∧ S ≠ [91])) : DD l = nq S q := by
  unfold DD
  rw [hd]
  rcases h with ⟨rfl, c, r, rfl, hc⟩ | rfl | rfl | ⟨rfl, h⟩
  · obtain ⟨h1, h2, h3⟩ := sm_nd c hc
    simp [h1, h2]
  · simp [hq.nd]
  · rfl
  · simp [h]
theorem St.ne40 {q : LB} (h : St q) : q.head? ≠ some 40 := fun e => by
  have := h 40 (by rw [e]; rfl)
  revert this; decide
theorem dig_of (u : Nat) : ∃ c r, Lib.decDigits u = c :: r ∧ dg c = true ∧ c ≠ 95 ∧ c ≠ 93 ∧ (c :: r).all wd = true ∧ r.head? ≠ some 99 := by
  have hall := dd_all u
  obtain ⟨c, r, h1, h2, h3⟩ := dd_cons u
  rw [h1] at hall
  obtain ⟨-, hw, -, -, h95, hd, -⟩ := dig c h2
  refine ⟨c, r, h1, hd, h95, ?_, ?_, ?_⟩
  · intro e; subst e; revert hd; decide +kernel
  · simp only [List.all_cons, Bool.and_eq_true]; exact ⟨hw, h3⟩
  · cases r with
    | nil => simp
    | cons x r =>
      simp only [List.all_cons, Bool.and_eq_true] at hall
      have := (dig x hall.2.1).2.2.2.2.2.2.2
      simpa using this
theorem itoa_inj {a b : Int} (h : Lib.itoa a = Lib.itoa b) : a = b := by
  have h1 := (ok_back a).2
  have h2 := (ok_back b).2
  rw [h] at h1
  exact h1.symm.trans h2
theorem cpx_all_wd (p q : Nat) : ∃ r, cpx p q = 48 :: 99 :: r ∧ (48 :: 99 :: r).all wd = true := by
  refine ⟨hex16 p ++ hex16 q, rfl, ?_⟩
  rw [List.all_eq_true]
  intro x hx
  simp only [List.mem_cons, List.mem_append, hex16, List.mem_map] at hx
  rcases hx with rfl | rfl | hx | hx
  · decide +kernel
  · decide +kernel
  · obtain ⟨j, -, rfl⟩ := hx; exact hex_wd _ (isH_hexAt p j)
  · obtain ⟨j, -, rfl⟩ := hx; exact hex_wd _ (isH_hexAt q j)
theorem atT0 (n : LB) : atT W0 n = quoteL n := by unfold atT; rw [if_pos (Or.inr ⟨rfl, rfl⟩)]
theorem compT0 {n : LB} {L : List PB} (h : ¬ isP 5 n L.length) : compT W0 n L = fnm n ++ 40 :: (rowT (L.map (·.1)) ++ [41]) := by
  unfold compT
  rw [if_neg h, if_neg (by rintro ⟨-, h⟩; cases h), if_neg (by rintro ⟨-, h⟩; cases h)]
theorem quote_nil : quoteL NILL = NILL := by unfold quoteL; rw [if_pos (by unfold plainB; rw [if_pos (show NILL = [91, 93] from rfl)])]
theorem d91 (q : LB) : dec (91 :: q) = (3, [91], q) := by
  have h1 : wd 91 = false := by decide +kernel
  have h2 : sg 91 = false := by decide +kernel
  rw [dec, if_neg (by rw [h1]; simp), if_neg (by rw [h2]; simp), if_neg (by decide)]
theorem DD_var (i : Int) (h : 0 ≤ i) {r : LB} (hr : Sp r) : DD (95 :: Lib.itoa i ++ r) = (1, 95 :: Lib.itoa i, r) := by
  obtain ⟨c, s, h1, h2, h3, h4, h5, h6⟩ := dig_of i.toNat
  have e : Lib.itoa i = c :: s := by unfold Lib.itoa; rw [if_neg (by omega), h1]
  have hw : wd 95 = true := by decide +kernel
  have hd : dec (95 :: Lib.itoa i ++ r) = (0, 95 :: Lib.itoa i, r) := dec_wd (by rw [e, List.all_cons, hw]; exact h5) (hr.no wd_st)
  unfold DD; rw [hd]; simp
theorem DD_int (i : Int) (h : 0 ≤ i) {r : LB} (hr : Sp r) : DD (Lib.itoa i ++ r) = (3, Lib.itoa i, r) := by
  obtain ⟨c, s, h1, h2, h3, h4, h5, h6⟩ := dig_of i.toNat
  have e : Lib.itoa i = c :: s := by unfold Lib.itoa; rw [if_neg (by omega), h1]
  have hd : dec (Lib.itoa i ++ r) = (0, Lib.itoa i, r) := by rw [e]; exact dec_wd h5 (hr.no wd_st)
  unfold DD; rw [hd, e]; simp [h3, h2, h6]
theorem DD_neg (i : Int) (h : i < 0) (r : LB) : DD (Lib.itoa i ++ r) = (6, [45], Lib.decDigits i.natAbs ++ r) := by
  obtain ⟨c, s, h1, h2, h3, h4, h5, h6⟩ := dig_of i.natAbs
  have e : Lib.itoa i = 45 :: Lib.decDigits i.natAbs := by unfold Lib.itoa; rw [if_pos h]
  have hw : sg 45 = true := by decide +kernel
  have hns : sg c = false := by
    have := (dig c (by have := dd_all i.natAbs; rw [h1, List.all_cons, Bool.and_eq_true] at this; exact this.1)).2.2.2.2.2.2.1
    exact this
  have hd : dec (Lib.itoa i ++ r) = (1, [45], Lib.decDigits i.natAbs ++ r) := by
    rw [e]
    exact dec_sg (c := 45) (a := []) (r := Lib.decDigits i.natAbs ++ r) (by simp [hw]) (by rw [h1]; intro x hx; simp at hx; subst hx; exact hns)
  unfold DD; rw [hd, h1]; simp [h2]
theorem DD_cpx (p q : Nat) {r : LB} (hr : Sp r) : DD (cpx p q ++ r) = (4, cpx p q, r) := by
  obtain ⟨s, h1, h2⟩ := cpx_all_wd p q
  have hd : dec (cpx p q ++ r) = (0, cpx p q, r) := by rw [h1]; exact dec_wd h2 (hr.no wd_st)
  have e : dg 48 = true := by decide +kernel
  unfold DD; rw [hd, h1]; simp [e]
theorem DD_atom {n r : LB} (hs : n.length ≤ 200) (hr : St r) : DD (quoteL n ++ r) = (2, n, r) := by
  by_cases hn : n = NILL
  · subst hn
    rw [quote_nil]
    unfold DD
    rw [show NILL ++ r = 91 :: (93 :: r) from rfl, d91]
    simp
  · obtain ⟨k, hd, hk⟩ := name_dec hs hn hr.sp
    rw [DD_of hr.sp hd hk, nq, if_neg hr.ne40]
theorem DD_fun {n r : LB} (hs : n.length ≤ 200) : DD (fnm n ++ 40 :: r) = (5, n, r) := by
  obtain ⟨k, hd, hk⟩ := fnm_dec hs (Sp.paren r)
  rw [DD_of (Sp.paren r) hd hk, nq, if_pos (show (40 :: r).head? = some 40 from rfl), List.tail_cons]
theorem DD_list {q : LB} (h : q.head? ≠ some 93) : DD (91 :: q) = (7, [], q) := by
  unfold DD; rw [d91]; simp [h]
theorem quote_head {n : LB} (hs : n.length ≤ 200) : ∃ c r, quoteL n = c :: r ∧ c ≠ 93 := by
  by_cases hn : n = NILL
  · subst hn; exact ⟨91, [93], quote_nil, by decide⟩
  cases hb : plainB n with
  | true =>
    have e : quoteL n = n := by unfold quoteL; rw [if_pos hb]
    rw [e]
    obtain ⟨c, r, rfl, h⟩ := shape_of hs hn hb
    refine ⟨c, r, rfl, ?_⟩
    rcases h with ⟨h1, h2⟩ | ⟨h1, h2⟩ | ⟨h1, rfl⟩
    · exact (sm_nd c h1).2.2
    · intro e; subst e; revert h1; decide +kernel
    · exact (so_nw c h1).2.2.2.2
  | false => exact ⟨39, n.flatMap qb ++ [39], by unfold quoteL; rw [if_neg (by rw [hb]; simp)], by decide⟩
theorem fnm_head {n : LB} (hs : n.length ≤ 200) : ∃ c r, fnm n = c :: r ∧ c ≠ 93 := by
  unfold fnm; split
  · exact ⟨39, _, rfl, by decide⟩
  · exact quote_head hs
/-- by its kind -/
theorem sound_kind {k : Int} {n : ByteArray} {i re im : Int} {l : List Tm} (h : sound (.mk k n i re im l) = true) :
    (k = 1 ∧ 0 ≤ i) ∨ (k = 2 ∧ (bl n).length ≤ 200) ∨ k = 3 ∨ k = 4 ∨ (k = 5 ∧ (bl n).length ≤ 200 ∧ 0 < l.length) := by
  have hc := sound_chk h
  rcases chk_kind hc with e | e | e | e | e <;> simp only [Tm.kind] at e <;> subst e
  · refine Or.inl ⟨rfl, ?_⟩
    unfold chk at hc; simp at hc; omega
  · exact Or.inr (Or.inl ⟨rfl, chk_name hc (Or.inl rfl)⟩)
  · exact Or.inr (Or.inr (Or.inl rfl))
  · exact Or.inr (Or.inr (Or.inr (Or.inl rfl)))
  · exact Or.inr (Or.inr (Or.inr (Or.inr ⟨rfl, chk_name hc (Or.inr rfl), (chk_args hc).1⟩)))
theorem wt_head (t : Tm) (hs : sound t = true) : ∃ c r, wt W0 t = c :: r ∧ c ≠ 93 := by
  obtain ⟨k, n, i, re, im, l⟩ := t
  rw [wt_mk]
  rcases sound_kind hs with ⟨rfl, h⟩ | ⟨rfl, h⟩ | rfl | rfl | ⟨rfl, h, hl⟩
  · exact ⟨95, _, rfl, by decide⟩
  · have : tx W0 2 (bl n) i re im (w2L W0 l) = quoteL (bl n) := by rw [← atT0]; rfl
    rw [this]; exact quote_head h
  · have : tx W0 3 (bl n) i re im (w2L W0 l) = Lib.itoa i := rfl
    rw [this]
    unfold Lib.itoa; split
    · exact ⟨45, _, rfl, by decide⟩
    · obtain ⟨c, s, h1, h2, h3, h4, -⟩ := dig_of i.toNat
      exact ⟨c, s, h1, h4⟩
  · exact ⟨48, _, rfl, by decide⟩
  · have : tx W0 5 (bl n) i re im (w2L W0 l) = compT W0 (bl n) (w2L W0 l) := rfl
    rw [this]
    by_cases hp : isP 5 (bl n) (w2L W0 l).length
    · unfold compT; rw [if_pos hp]; exact ⟨91, _, rfl, by decide⟩
    · rw [compT0 hp]
      obtain ⟨c, r, e, hc⟩ := fnm_head h
      exact ⟨c, r ++ 40 :: (rowT ((w2L W0 l).map (·.1)) ++ [41]), by rw [e]; rfl, hc⟩
/-- what a text begins with -/
def KD : Tm → LB → Nat × LB × LB
  | .mk k n i re im l, r =>
    if k = 1 then (1, 95 :: Lib.itoa i, r)
    else if k = 2 then (2, bl n, r)
    else if k = 3 then (if 0 ≤ i then (3, Lib.itoa i, r) else (6, [45], Lib.decDigits i.natAbs ++ r))
    else if k = 4 then (4, cpx re.toNat im.toNat, r)
    else if isP 5 (bl n) l.length then (7, [], (pfst (w2L W0 l)).1 ++ ((psnd (w2L W0 l)).2 ++ 93 :: r))
    else (5, bl n, rowT (l.map (wt W0)) ++ 41 :: r)
theorem DD_wt (t : Tm) (hs : sound t = true) (r : LB) (hr : St r) : DD (wt W0 t ++ r) = KD t r := by
  obtain ⟨k, n, i, re, im, l⟩ := t
  rw [wt_mk]
  rcases sound_kind hs with ⟨rfl, h⟩ | ⟨rfl, h⟩ | rfl | rfl | ⟨rfl, h, hl⟩
  · exact DD_var i h hr.sp
  · have : tx W0 2 (bl n) i re im (w2L W0 l) = quoteL (bl n) := by rw [← atT0]; rfl
    rw [this]; exact DD_atom h hr
  · have : tx W0 3 (bl n) i re im (w2L W0 l) = Lib.itoa i := rfl
    rw [this, KD, if_neg (by decide), if_neg (by decide), if_pos rfl]
    split
    · rename_i h; exact DD_int i h hr.sp
    · rename_i h; exact DD_neg i (by omega) r
  · exact DD_cpx _ _ hr.sp
  · have : tx W0 5 (bl n) i re im (w2L W0 l) = compT W0 (bl n) (w2L W0 l) := rfl
    rw [this, KD, if_neg (by decide), if_neg (by decide), if_neg (by decide), if_neg (by decide)]
    by_cases hp : isP 5 (bl n) l.length
    · rw [if_pos hp]
      obtain ⟨a, b, rfl⟩ := two_of hp.2.2
      unfold compT; rw [w2L_len, if_pos hp, List.cons_append, DD_list]
      · simp
      · obtain ⟨c, s, e, hc⟩ := wt_head a (sound_args hs rfl a (by simp))
        simp only [w2L, pfst, psnd, List.head?_cons, List.tail_cons, Option.getD_some]
        unfold wt at e
        rw [e]; simpa using hc
    · rw [if_neg hp, compT0 (by rw [w2L_len]; exact hp), w2L_fst, List.append_assoc, List.cons_append, DD_fun h, List.append_assoc]; rfl
theorem bl_inj {a b : ByteArray} (h : bl a = bl b) : a = b := by
  apply ByteArray.ext
  apply Array.ext'
  exact h
def Inj (x : Tm) : Prop := ∀ y, sound y = true → rg y → ∀ r s, St r → St s → wt W0 x ++ r = wt W0 y ++ s → like x y = true ∧ r = s
def InjL (x : Tm) : Prop := ∀ y, sound y = true → rg y → ∀ r s, wl W0 x ++ 93 :: r = wl W0 y ++ 93 :: s → like x y = true ∧ r = s
theorem st_rT (L : List LB) (r : LB) : St (rT L ++ 41 :: r) := by
  cases L with
  | nil => exact St.cons _ (by simp)
  | cons a L => rw [rT_cons]; exact St.cons _ (by simp)
theorem rT_inj : ∀ (l l' : List Tm), (∀ y ∈ l', sound y = true ∧ rg y) → (∀ x ∈ l, Inj x) →
    ∀ r s, rT (l.map (wt W0)) ++ 41 :: r = rT (l'.map (wt W0)) ++ 41 :: s → likeL l l' = true ∧ r = s := by
  intro l
  induction l with
  | nil =>
    intro l' _ _ r s h
    cases l' with
    | nil => simp [rT] at h; exact ⟨by rw [likeL], h⟩
    | cons y l' => simp [rT] at h
  | cons x l ih =>
    intro l' hs' hx r s h
    cases l' with
    | nil => simp [rT] at h
    | cons y l' =>
      simp only [List.map_cons, rT_cons, List.cons_append, List.append_assoc, List.cons.injEq, true_and] at h
      obtain ⟨h1, h2⟩ := hx x (by simp) y (hs' y (by simp)).1 (hs' y (by simp)).2 _ _ (st_rT _ _) (st_rT _ _) h
      obtain ⟨h3, h4⟩ := ih l' (fun z hz => hs' z (by simp [hz])) (fun z hz => hx z (by simp [hz])) r s h2
      exact ⟨by rw [likeL, h1, h3]; rfl, h4⟩
/-- what stands behind an item -/
theorem st_wl (t : Tm) (r : LB) : St (wl W0 t ++ 93 :: r) := by
  obtain ⟨k, n, i, re, im, l⟩ := t
  rw [wl_mk]
  unfold tl
  split
  · exact St.cons _ (by simp)
  split
  · exact St.cons _ (by simp)
  · exact St.cons _ (by simp)
theorem wl_pair {n : ByteArray} {i re im : Int} {a b : Tm} (h : bl n = DOTL) : wl W0 (.mk 5 n i re im [a, b]) = 44 :: (wt W0 a ++ wl W0 b) := by
  rw [wl_mk]; unfold tl; rw [if_pos ⟨rfl, h, rfl⟩]; rfl
theorem wl_else {k : Int} {n : ByteArray} {i re im : Int} {l : List Tm} (h : ¬ isP k (bl n) l.length) (h2 : ¬ (k = 2 ∧ bl n = NILL)) : wl W0 (.mk k n i re im l) = 124 :: wt W0 (.mk k n i re im l) := by
  rw [wl_mk]; unfold tl; rw [w2L_len, if_neg h, if_neg h2]; rfl
theorem wl_nil {n : ByteArray} {i re im : Int} {l : List Tm} (h2 : bl n = NILL) : wl W0 (.mk 2 n i re im l) = [] := by
  rw [wl_mk]; unfold tl; rw [if_neg (fun h => by have := h.1; omega), if_pos ⟨rfl, h2⟩]
theorem KD_kind {k : Int} {n : ByteArray} {i re im : Int} {l : List Tm} (h : sound (.mk k n i re im l) = true) (r : LB) :
    (k = 1 ∧ (KD (.mk k n i re im l) r).1 = 1) ∨ (k = 2 ∧ (KD (.mk k n i re im l) r).1 = 2) ∨ (k = 3 ∧ ((KD (.mk k n i re im l) r).1 = 3 ∨ (KD (.mk k n i re im l) r).1 = 6)) ∨
    (k = 4 ∧ (KD (.mk k n i re im l) r).1 = 4) ∨ (k = 5 ∧ ((KD (.mk k n i re im l) r).1 = 5 ∨ (KD (.mk k n i re im l) r).1 = 7)) := by
  rcases sound_kind h with ⟨rfl, h1⟩ | ⟨rfl, h1⟩ | rfl | rfl | ⟨rfl, h1, hl⟩
  · exact Or.inl ⟨rfl, rfl⟩
  · exact Or.inr (Or.inl ⟨rfl, rfl⟩)
  · refine Or.inr (Or.inr (Or.inl ⟨rfl, ?_⟩))
    rw [KD, if_neg (by decide), if_neg (by decide), if_pos rfl]
    split
    · exact Or.inl rfl
    · exact Or.inr rfl
  · exact Or.inr (Or.inr (Or.inr (Or.inl ⟨rfl, rfl⟩)))
  · refine Or.inr (Or.inr (Or.inr (Or.inr ⟨rfl, ?_⟩)))
    rw [KD, if_neg (by decide), if_neg (by decide), if_neg (by decide), if_neg (by decide)]
    split
    · exact Or.inr rfl
    · exact Or.inl rfl
set_option maxHeartbeats 1000000 in
theorem inj (a : Tm) : sound a = true → rg a → Inj a ∧ InjL a := by
  induction a using Tm.ind with
  | h k n i re im l ih =>
    intro hs hr
    have hsnd := sound_kind hs
    have hc := sound_chk hs
    have hr' := hr
    rw [rg] at hr'
    obtain ⟨hi, hre, him, hrl⟩ := hr'
    have I1 : Inj (.mk k n i re im l) := by
      intro y hy hry r s hrr hss h
      have hk : KD (.mk k n i re im l) r = KD y s := by rw [← DD_wt _ hs r hrr, ← DD_wt y hy s hss, h]
      obtain ⟨k', n', i', re', im', l'⟩ := y
      have hr2 := hry
      rw [rg] at hr2
      obtain ⟨hi', hre', him', hrl'⟩ := hr2
      clear h
      have hkk : k = k' := by
        have q1 := KD_kind hs r
        have q2 := KD_kind hy s
        rw [hk] at q1
        omega
      subst hkk
      have hl' : k = 5 → 0 < l'.length := by
        rcases sound_kind hy with ⟨rfl, h2⟩ | ⟨rfl, h2⟩ | rfl | rfl | ⟨rfl, h2, hl'⟩
        · intro h; omega
        · intro h; omega
        · intro h; omega
        · intro h; omega
        · intro _; exact hl'
      rcases hsnd with ⟨rfl, h1⟩ | ⟨rfl, h1⟩ | rfl | rfl | ⟨rfl, h1, hl⟩
      · simp [KD] at hk
        obtain ⟨h3, rfl⟩ := hk
        have := itoa_inj h3
        subst this
        exact ⟨by simp [like], rfl⟩
      · simp [KD] at hk
        obtain ⟨h3, rfl⟩ := hk
        have := bl_inj h3
        subst this
        exact ⟨by simp [like], rfl⟩
      · simp only [KD] at hk
        simp only [show ¬ ((3 : Int) = 1) by decide, show ¬ ((3 : Int) = 2) by decide, if_true, if_false] at hk
        split at hk <;> split at hk
        · simp at hk
          obtain ⟨h3, rfl⟩ := hk
          have := itoa_inj h3
          subst this
          exact ⟨by simp [like], rfl⟩
        · simp at hk
        · simp at hk
        · simp at hk
          rename_i h3 h4
          have w1 : Lib.itoa i = 45 :: Lib.decDigits i.natAbs := by unfold Lib.itoa; rw [if_pos (by omega)]
          have w2 : Lib.itoa i' = 45 :: Lib.decDigits i'.natAbs := by unfold Lib.itoa; rw [if_pos (by omega)]
          have t1 := take_all (p := dg) (a := Lib.decDigits i.natAbs) (r := r) (by have := dd_all i.natAbs; rw [List.all_eq_true] at *; exact fun x hx => (dig x (this x hx)).2.2.2.2.2.1) (hrr.sp.no dg_st)
          have t2 := take_all (p := dg) (a := Lib.decDigits i'.natAbs) (r := s) (by have := dd_all i'.natAbs; rw [List.all_eq_true] at *; exact fun x hx => (dig x (this x hx)).2.2.2.2.2.1) (hss.sp.no dg_st)
          rw [hk] at t1
          have := itoa_inj (w1.trans ((congrArg (45 :: ·) (t1.1.symm.trans t2.1)).trans w2.symm))
          subst this
          exact ⟨by simp [like], t1.2.symm.trans t2.2⟩
      · simp [KD] at hk
        obtain ⟨h3, rfl⟩ := hk
        obtain ⟨e1, e2⟩ := cpx_inj _ _ _ _ (by omega) (by omega) (by omega) (by omega) h3
        have e1' : re = re' := by omega
        have e2' : im = im' := by omega
        subst e1' e2'
        exact ⟨by simp [like], rfl⟩
      · simp only [KD] at hk
        simp only [show ¬ ((5 : Int) = 1) by decide, show ¬ ((5 : Int) = 2) by decide, show ¬ ((5 : Int) = 3) by decide, show ¬ ((5 : Int) = 4) by decide, if_false] at hk
        have ihl : ∀ x ∈ l, Inj x ∧ InjL x := fun x hx => ih x hx (sound_args hs rfl x hx) ((rgL_all l).1 hrl x hx)
        have hsl' : ∀ y ∈ l', sound y = true ∧ rg y := fun y hy' => ⟨sound_args hy rfl y hy', (rgL_all l').1 hrl' y hy'⟩
        by_cases p1 : isP 5 (bl n) l.length <;> by_cases p2 : isP 5 (bl n') l'.length
        · rw [if_pos p1, if_pos p2] at hk
          obtain ⟨a, b, rfl⟩ := two_of p1.2.2
          obtain ⟨a', b', rfl⟩ := two_of p2.2.2
          simp only [Prod.mk.injEq, true_and] at hk
          have e1 : (pfst (w2L W0 [a, b])).1 = wt W0 a := rfl
          have e2 : (psnd (w2L W0 [a, b])).2 = wl W0 b := rfl
          have e3 : (pfst (w2L W0 [a', b'])).1 = wt W0 a' := rfl
          have e4 : (psnd (w2L W0 [a', b'])).2 = wl W0 b' := rfl
          rw [e1, e2, e3, e4] at hk
          obtain ⟨q1, q2⟩ := (ihl a (by simp)).1 a' (hsl' a' (by simp)).1 (hsl' a' (by simp)).2 _ _ (st_wl b r) (st_wl b' s) hk
          obtain ⟨q3, q4⟩ := (ihl b (by simp)).2 b' (hsl' b' (by simp)).1 (hsl' b' (by simp)).2 _ _ q2
          have hn : n = n' := bl_inj (p1.2.1.trans p2.2.1.symm)
          subst hn
          exact ⟨by simp [like, likeL, q1, q3], q4⟩
        · rw [if_pos p1, if_neg p2] at hk; simp at hk
        · rw [if_neg p1, if_pos p2] at hk; simp at hk
        · rw [if_neg p1, if_neg p2] at hk
          simp only [Prod.mk.injEq, true_and] at hk
          have hn : n = n' := bl_inj hk.1
          subst hn
          have hk2 := hk.2
          cases l with
          | nil => simp at hl
          | cons x l =>
            cases l' with
            | nil => exact absurd (hl' rfl) (by simp)
            | cons y l' =>
              have h44 : rT ((x :: l).map (wt W0)) ++ 41 :: r = rT ((y :: l').map (wt W0)) ++ 41 :: s := by
                simp only [List.map_cons, rowT_cons] at hk2
                simp only [List.map_cons, rT_cons, List.cons_append, hk2]
              obtain ⟨q1, q2⟩ := rT_inj (x :: l) (y :: l') hsl' (fun z hz => (ihl z hz).1) r s h44
              exact ⟨by simp [like, q1], q2⟩
    refine ⟨I1, ?_⟩
    intro y hy hry r s h
    obtain ⟨k', n', i', re', im', l'⟩ := y
    have pk : ∀ {k : Int} {n : ByteArray} {l : List Tm}, isP k (bl n) l.length → k = 5 ∧ bl n = DOTL ∧ ∃ a b, l = [a, b] := fun h => ⟨h.1, h.2.1, two_of h.2.2⟩
    by_cases p1 : isP k (bl n) l.length
    · obtain ⟨rfl, hn, a, b, rfl⟩ := pk p1
      rw [wl_pair hn] at h
      by_cases p2 : isP k' (bl n') l'.length
      · obtain ⟨rfl, hn', a', b', rfl⟩ := pk p2
        rw [wl_pair hn'] at h
        simp only [List.cons_append, List.append_assoc, List.cons.injEq, true_and] at h
        have ihl : ∀ x ∈ [a, b], Inj x ∧ InjL x := fun x hx => ih x hx (sound_args hs rfl x hx) ((rgL_all _).1 hrl x hx)
        have hr2 := hry
        rw [rg] at hr2
        have hsl' : ∀ y ∈ [a', b'], sound y = true ∧ rg y := fun y hy' => ⟨sound_args hy rfl y hy', (rgL_all _).1 hr2.2.2.2 y hy'⟩
        obtain ⟨q1, q2⟩ := (ihl a (by simp)).1 a' (hsl' a' (by simp)).1 (hsl' a' (by simp)).2 _ _ (st_wl b r) (st_wl b' s) h
        obtain ⟨q3, q4⟩ := (ihl b (by simp)).2 b' (hsl' b' (by simp)).1 (hsl' b' (by simp)).2 _ _ q2
        have hn2 : n = n' := bl_inj (hn.trans hn'.symm)
        subst hn2
        exact ⟨by simp [like, likeL, q1, q3], q4⟩
      · by_cases z2 : k' = 2 ∧ bl n' = NILL
        · obtain ⟨rfl, hn'⟩ := z2
          rw [wl_nil hn'] at h; simp at h
        · rw [wl_else p2 z2] at h; simp at h
    · by_cases z1 : k = 2 ∧ bl n = NILL
      · obtain ⟨rfl, hn⟩ := z1
        rw [wl_nil hn] at h
        by_cases p2 : isP k' (bl n') l'.length
        · obtain ⟨rfl, hn', a', b', rfl⟩ := pk p2
          rw [wl_pair hn'] at h; simp at h
        · by_cases z2 : k' = 2 ∧ bl n' = NILL
          · obtain ⟨rfl, hn'⟩ := z2
            rw [wl_nil hn'] at h
            simp at h
            have hn2 : n = n' := bl_inj (hn.trans hn'.symm)
            subst hn2
            exact ⟨by simp [like], h⟩
          · rw [wl_else p2 z2] at h; simp at h
      · rw [wl_else p1 z1] at h
        by_cases p2 : isP k' (bl n') l'.length
        · obtain ⟨rfl, hn', a', b', rfl⟩ := pk p2
          rw [wl_pair hn'] at h; simp at h
        · by_cases z2 : k' = 2 ∧ bl n' = NILL
          · obtain ⟨rfl, hn'⟩ := z2
            rw [wl_nil hn'] at h; simp at h
          · rw [wl_else p2 z2] at h
            simp only [List.cons_append, List.cons.injEq, true_and] at h
            obtain ⟨q1, q2⟩ := I1 _ hy hry _ _ (St.cons _ (by simp)) (St.cons _ (by simp)) h
            simp only [List.cons.injEq, true_and] at q2
            exact ⟨q1, q2⟩
/-- terms that are alike have one text -/
theorem like_wt (W : Ways) (a : Tm) : ∀ b, sound a = true → sound b = true → like a b = true → w2 W a = w2 W b := by
  induction a using Tm.ind with
  | h k n i re im l ih =>
    intro b hs hb h
    obtain ⟨k', n', i', re', im', l'⟩ := b
    rw [like] at h
    simp only [Bool.and_eq_true, decide_eq_true_eq] at h
    obtain ⟨rfl, h⟩ := h
    have hLL : ∀ (l l' : List Tm), (∀ x ∈ l, ∀ b, sound x = true → sound b = true → like x b = true → w2 W x = w2 W b) → (∀ x ∈ l, sound x = true) → (∀ x ∈ l', sound x = true) → likeL l l' = true → w2L W l = w2L W l' := by
      intro l
      induction l with
      | nil => intro l' _ _ _ h; cases l' with
        | nil => rfl
        | cons => simp [likeL] at h
      | cons x l ihl => intro l' hx h1 h2 h; cases l' with
        | nil => simp [likeL] at h
        | cons y l' =>
          simp only [likeL, Bool.and_eq_true] at h
          rw [w2L, w2L, hx x (by simp) y (h1 x (by simp)) (h2 y (by simp)) h.1, ihl l' (fun z hz => hx z (by simp [hz])) (fun z hz => h1 z (by simp [hz])) (fun z hz => h2 z (by simp [hz])) h.2]
    rcases sound_kind hs with ⟨rfl, -⟩ | ⟨rfl, -⟩ | rfl | rfl | ⟨rfl, -, -⟩
    · simp at h; subst h; simp [w2, tx, tl, isP]
    · simp at h; subst h; simp [w2, tx, tl, isP]
    · simp at h; subst h; simp [w2, tx, tl, isP]
    · simp at h; obtain ⟨rfl, rfl⟩ := h; simp [w2, tx, tl, isP]
    · simp at h
      obtain ⟨rfl, h⟩ := h
      have := hLL l l' (fun x hx b => ih x hx b) (fun x hx => sound_args hs rfl x hx) (fun x hx => sound_args hb rfl x hx) h
      simp [w2, tx, tl, this]
/-- one text just of terms that are alike -/
theorem wt_iff {a b : Tm} (ha : sound a = true) (hb : sound b = true) (ra : rg a) (rb : rg b) : wt W0 a = wt W0 b ↔ like a b = true :=
  ⟨fun h => ((inj a ha ra).1 b hb rb [] [] St.nil St.nil (by rw [h])).1, fun h => by unfold wt; rw [like_wt W0 a b ha hb h]⟩
end Go.Proofs.YtedbcmagjbgbjaaGreatDoor.wr
