/- Two texts, one behind the other: their tokens, their clauses; the mathematics. Two texts, one behind the other: their clauses; the mathematics. Two rows of the same names; what clauses of a text are. -/
import Derived.Test.YtfgopgncgociiaaGreatDoorRdP
import Derived.Test.YtfgopgncgociiaaGreatDoorTkS
import Derived.Test.YtfgopgncgociiaaGreatDoorRaA
import Derived.Test.YtfgopgncgociiaaGreatDoorRdZ
import Derived.Test.YtfgopgncgociiaaGreatDoorRaB
import Derived.Test.YtfgopgncgociiaaGreatDoorRSm
import Derived.BigQuiet
import Derived.LoopTactic
import Derived.Deep.LoopGhost
namespace Go.Proofs.YtfgopgncgociiaaGreatDoor.tk
open Go.Proofs.YtfgopgncgociiaaGreatDoor.num Go.Proofs.YtfgopgncgociiaaGreatDoor.dec
set_option linter.unusedVariables false
theorem qt_end {v : List UInt8} (hv : Wh v) : ∀ (n : Nat) (l : List UInt8), l.length ≤ n → ∀ x, qt l = some x → x.2 <:+ l ∧ qt (l ++ v) = some (x.1, x.2 ++ v) := by
  intro n
  induction n with
  | zero =>
    intro l hl x h
    obtain rfl : l = [] := List.eq_nil_of_length_eq_zero (by omega)
    simp [qt] at h
  | succ n ih =>
    intro l hl x h
    cases l with
    | nil => simp [qt] at h
    | cons c r =>
      have hr : r.length ≤ n := by simp at hl; omega
      have go : ∀ (d : UInt8) (q : List UInt8), q.length ≤ n → q <:+ c :: r → (qt q).map (fun x => (d :: x.1, x.2)) = some x →
          x.2 <:+ c :: r ∧ (qt (q ++ v)).map (fun x => (d :: x.1, x.2)) = some (x.1, x.2 ++ v) := by
        intro d q hq hs hm
        cases hqt : qt q with
        | none => rw [hqt] at hm; cases hm
        | some y =>
          rw [hqt] at hm; cases hm
          obtain ⟨h2, h3⟩ := ih q hq y hqt
          exact ⟨h2.trans hs, by rw [h3]; rfl⟩
      rw [qt_cons] at h
      rw [List.cons_append, qt_cons]
      by_cases h10 : c = 10
      · rw [if_pos h10] at h; cases h
      · rw [if_neg h10] at h ⊢
        by_cases h92 : c = 92
        · rw [if_pos h92] at h ⊢
          cases r with
          | nil => simp at h
          | cons d r' =>
            have hs : r' <:+ c :: d :: r' := (List.suffix_cons _ _).trans (List.suffix_cons _ _)
            have hr2 : r'.length ≤ n := by simp at hr; omega
            simp only [List.cons_append] at h ⊢
            by_cases hd : d = 110
            · rw [if_pos hd] at h ⊢; exact go _ _ hr2 hs h
            · rw [if_neg hd] at h ⊢
              by_cases hd2 : d = 92 ∨ d = 39
              · rw [if_pos hd2] at h ⊢; exact go _ _ hr2 hs h
              · rw [if_neg hd2] at h; cases h
        · rw [if_neg h92] at h ⊢
          by_cases h39 : c = 39
          · rw [if_pos h39] at h ⊢
            cases r with
            | nil =>
              cases h
              refine ⟨List.nil_suffix, ?_⟩
              rcases hv with rfl | ⟨d, y, rfl, hd⟩
              · rfl
              · simp only [List.nil_append]; rw [if_neg (blank d hd).2.2.1]
            | cons d r' =>
              have hs : r' <:+ c :: d :: r' := (List.suffix_cons _ _).trans (List.suffix_cons _ _)
              have hr2 : r'.length ≤ n := by simp at hr; omega
              simp only [List.cons_append] at h ⊢
              by_cases hd : d = 39
              · rw [if_pos hd] at h ⊢; exact go _ _ hr2 hs h
              · rw [if_neg hd] at h ⊢
                cases h
                exact ⟨List.suffix_cons _ _, rfl⟩
          · rw [if_neg h39] at h ⊢
            exact go _ _ hr (List.suffix_cons _ _) h
theorem stops_end {v : List UInt8} (hv : Wh v) (l : List UInt8) : stops (l ++ v) = stops l := by
  cases l with
  | nil =>
    rcases hv with rfl | ⟨d, y, rfl, hd⟩
    · rfl
    · simp only [List.nil_append, stops, hd]; simp
  | cons c r => rfl
theorem tok_end {v : List UInt8} (hv : Wh v) {la : Int × List UInt8} {c : UInt8} {r : List UInt8} {k : Int} {t : List UInt8} {n : Int} {re im : Nat} {rest : List UInt8} (h : tok la c r = .ok k t n re im rest) :
    rest <:+ r ∧ tok la c (r ++ v) = .ok k t n re im (rest ++ v) := by
  have w2 := tw (p := wd) (fun c h => (blank c h).1) hv r
  have s2 := tw (p := sg) (fun c h => (blank c h).2.1) hv r
  unfold tok at h ⊢
  rw [w2.1, w2.2, s2.1, s2.2]
  by_cases g1 : sm c = true
  · rw [if_pos g1] at h ⊢
    obtain ⟨rfl, e2⟩ := txt_tail h (r.dropWhile wd ++ v)
    exact ⟨drop_suf _ _, e2⟩
  · rw [if_neg g1] at h ⊢
    by_cases g2 : gr c = true ∨ c = 95
    · rw [if_pos g2] at h ⊢
      obtain ⟨rfl, e2⟩ := txt_tail h (r.dropWhile wd ++ v)
      exact ⟨drop_suf _ _, e2⟩
    · rw [if_neg g2] at h ⊢
      by_cases g3 : dg c = true
      · rw [if_pos g3] at h ⊢
        obtain ⟨rfl, e2⟩ := nmb_tail h (r.dropWhile wd ++ v)
        exact ⟨drop_suf _ _, e2⟩
      · rw [if_neg g3] at h ⊢
        by_cases g4 : sg c = true
        · rw [if_pos g4] at h ⊢
          rw [stops_end hv]
          by_cases g5 : c :: r.takeWhile sg = [46] ∧ stops (r.dropWhile sg) = true
          · rw [if_pos g5] at h ⊢; cases h; exact ⟨drop_suf _ _, rfl⟩
          · rw [if_neg g5] at h ⊢
            obtain ⟨rfl, e2⟩ := txt_tail h (r.dropWhile sg ++ v)
            exact ⟨drop_suf _ _, e2⟩
        · rw [if_neg g4] at h ⊢
          by_cases g6 : mem soloL c = true
          · rw [if_pos g6] at h ⊢
            obtain ⟨rfl, e2⟩ := txt_tail h (r ++ v)
            exact ⟨List.suffix_refl _, e2⟩
          · rw [if_neg g6] at h ⊢
            by_cases g7 : mem punctL c = true
            · rw [if_pos g7] at h ⊢
              by_cases g8 : c = 40 ∧ (la.1 = 1 ∨ la.1 = 2)
              · rw [if_pos g8] at h ⊢; cases h; exact ⟨List.suffix_refl _, rfl⟩
              · rw [if_neg g8] at h ⊢
                obtain ⟨rfl, e2⟩ := txt_tail h (r ++ v)
                exact ⟨List.suffix_refl _, e2⟩
            · rw [if_neg g7] at h ⊢
              by_cases g9 : c = 39
              · rw [if_pos g9] at h ⊢
                cases hq : qt r with
                | none => rw [hq] at h; cases h
                | some x =>
                  rw [hq] at h
                  obtain ⟨h2, h3⟩ := qt_end hv _ r (Nat.le_refl _) x hq
                  rw [h3]
                  obtain ⟨rfl, e2⟩ := txt_tail h (x.2 ++ v)
                  exact ⟨h2, e2⟩
              · rw [if_neg g9] at h; cases h
theorem sk_end {v : List UInt8} (hv : Wh v) : ∀ (l : List UInt8), (∀ x ∈ l, x ≠ 37) → ∀ (m : Md) (b p : List UInt8), Nxt m l → sk m b l = (true, p) →
    (p = [] ∧ ∀ b', sk m b' (l ++ v) = sk .bt v v) ∨ (p ≠ [] ∧ p <:+ l ∧ ∀ b', sk m b' (l ++ v) = (true, p ++ v)) := by
  have n42 : mem blankL 42 = false := by decide
  have n47 : mem blankL 47 = false := by decide
  intro l
  induction l with
  | nil =>
    intro _ m b p hm h
    cases m with
    | bt =>
      simp only [sk] at h
      cases h
      exact Or.inl ⟨rfl, fun b' => sk_bt _ _ _⟩
    | ln => exact hm.elim
    | b0 => cases hm
    | bk =>
      simp only [sk] at h
      cases h
    | b1 => cases hm
  | cons c r ih =>
    intro h37 m b p hm h
    have hr37 : ∀ x ∈ r, x ≠ 37 := fun x hx => h37 x (List.mem_cons_of_mem _ hx)
    have up : ∀ m' b2 p, Nxt m' r → sk m' b2 r = (true, p) → (p = [] ∧ ∀ b', sk m' b' (r ++ v) = sk .bt v v) ∨ (p ≠ [] ∧ p <:+ c :: r ∧ ∀ b', sk m' b' (r ++ v) = (true, p ++ v)) := by
      intro m' b2 p hn hs
      rcases ih hr37 m' b2 p hn hs with h | ⟨h2, h3, h4⟩
      · exact Or.inl h
      · exact Or.inr ⟨h2, h3.trans (List.suffix_cons _ _), h4⟩
    cases m with
    | ln => exact hm.elim
    | bt =>
      simp only [List.cons_append, sk] at h ⊢
      by_cases g1 : mem blankL c = true
      · simp only [if_pos g1] at h ⊢
        rcases up .bt _ p trivial h with h | ⟨h2, h3, h4⟩
        · exact Or.inl ⟨h.1, fun b' => h.2 _⟩
        · exact Or.inr ⟨h2, h3, fun b' => h4 _⟩
      · have g2 : c ≠ 37 := h37 c (List.mem_cons_self)
        simp only [if_neg g1, if_neg g2] at h ⊢
        simp only [head_tail hv n42] at h ⊢
        by_cases g3 : c = 47 ∧ r.head? = some 42
        · simp only [if_pos g3] at h ⊢
          rcases up .b0 _ p g3.2 h with h | ⟨h2, h3, h4⟩
          · exact Or.inl ⟨h.1, fun b' => h.2 _⟩
          · exact Or.inr ⟨h2, h3, fun b' => h4 _⟩
        · simp only [if_neg g3] at h ⊢
          cases h
          exact Or.inr ⟨by simp, List.suffix_refl _, fun b' => rfl⟩
    | b0 =>
      simp only [List.cons_append, sk] at h ⊢
      exact up .bk _ p trivial h
    | bk =>
      simp only [List.cons_append, sk] at h ⊢
      simp only [head_tail hv n47] at h ⊢
      by_cases g3 : c = 42 ∧ r.head? = some 47
      · simp only [if_pos g3] at h ⊢
        exact up .b1 _ p g3.2 h
      · simp only [if_neg g3] at h ⊢
        exact up .bk _ p trivial h
    | b1 =>
      simp only [List.cons_append, sk] at h ⊢
      rcases up .bt _ p trivial h with h | ⟨h2, h3, h4⟩
      · exact Or.inl ⟨h.1, fun b' => h.2 _⟩
      · exact Or.inr ⟨h2, h3, fun b' => h4 _⟩
theorem lex_ends {A v : List UInt8} (hv : Wh v) : ∀ (f : Nat) (la : Int × List UInt8) (l : List UInt8) (ts : List Tk) (p : Nat), (∀ x ∈ l, x ≠ 37) → l <:+ A → l.length < f →
    lex A.length f la l = (ts, p, 0) → ∀ g, (l ++ v).length < g → lex (A.length + v.length) g la (l ++ v) = comb ts (lex (A.length + v.length) (v.length + 1) (0, []) v) := by
  intro f
  induction f with
  | zero => intro la l ts p _ _ h; omega
  | succ f ih =>
    intro la l ts p h37 hl hf h g hg
    cases g with
    | zero => omega
    | succ g =>
    cases hs : sk .bt l l with
    | mk ok s =>
    cases ok with
    | false => simp only [lex, hs] at h; injection h with h1 h2; injection h2 with h2 h3; exact absurd h3 (by decide)
    | true =>
    rcases sk_end hv l h37 .bt _ s trivial hs with ⟨rfl, hsv⟩ | ⟨hq, hql, hsv⟩
    · rw [lex_end hs] at h
      cases h
      have e1 : lex (A.length + v.length) (g + 1) la (l ++ v) = lex (A.length + v.length) (g + 1) (0, []) v := by
        by_cases hl0 : l = []
        · subst hl0; exact lex_wh hv la
        · simp only [lex, hsv]
          cases hsk : sk .bt v v with
          | mk ok s =>
            cases ok with
            | false => rfl
            | true =>
              cases s with
              | nil => rfl
              | cons x y =>
                have h1 := (sk_ok hsk).length_le
                have h2 := List.length_pos_iff.2 hl0
                simp only
                rw [if_neg (by simp only [List.length_append]; omega)]
                have e2 : (if (x :: y).length = v.length then ((0, []) : Int × List UInt8) else (0, [])) = (0, []) := by split <;> rfl
                rw [e2]
      rw [e1, lex_fuel _ v.length v (Nat.le_refl _) (g + 1) (v.length + 1) (0, []) (by simp only [List.length_append] at hg; omega) (by omega)]
      generalize hR2 : lex (A.length + v.length) (v.length + 1) (0, []) v = R
      obtain ⟨ts2, p2, e2⟩ := R
      have hbad := lex_bad _ _ _ _ _ _ hR2
      unfold comb
      by_cases he : e2 = 0
      · subst he; simp
      · simp only [he, if_false]; rw [hbad he]
    · obtain ⟨c, r, rfl⟩ : ∃ c r, s = c :: r := by
        cases s with
        | nil => exact absurd rfl hq
        | cons c r => exact ⟨c, r, rfl⟩
      have hqA := hql.trans hl
      have hlen := hqA.length_le
      have hlen2 := hql.length_le
      have hv1 := hsv (l ++ v)
      simp only [List.cons_append] at hv1
      have hcond : ((c :: r).length = l.length) ↔ (c :: (r ++ v)).length = (l ++ v).length := by simp; omega
      cases ht : tok (if (c :: r).length = l.length then la else (0, [])) c r with
      | er e =>
        simp only [lex, hs, ht] at h
        injection h with h1 h2; injection h2 with h2 h3; exact absurd h3 (tok_er ht)
      | ok k t n re im rest =>
        have hx := lex_one (N := A.length) (f := f) hs ht
        obtain ⟨hr', ht2⟩ := tok_end hv ht
        have ht3 : tok (if (c :: (r ++ v)).length = (l ++ v).length then la else (0, [])) c (r ++ v) = .ok k t n re im (rest ++ v) := by
          by_cases hb : (c :: r).length = l.length
          · rw [if_pos hb] at ht2; rw [if_pos (hcond.1 hb)]; exact ht2
          · rw [if_neg hb] at ht2; rw [if_neg (fun h => hb (hcond.2 h))]; exact ht2
        rw [lex_one hv1 ht3]
        rw [h] at hx
        have hrs : rest <:+ A := hr'.trans ((List.suffix_cons _ _).trans hqA)
        have hrl := hr'.length_le
        simp only [List.length_cons] at hlen hlen2
        generalize hL : lex A.length f (k, t) rest = L at hx
        obtain ⟨ts1, p1, e1⟩ := L
        unfold cons1 at hx
        by_cases he : e1 = 0
        · subst he
          rw [if_pos rfl] at hx
          injection hx with hx1 hx2
          subst hx1
          rw [ih (k, t) rest ts1 p1 (fun x hx => h37 x ((hr'.trans ((List.suffix_cons _ _).trans hql)).subset hx)) hrs (by omega) hL g (by simp only [List.length_append] at *; omega)]
          rw [cons1_comb _ _ (lex_p0 _ _ _)]
          have ea : A.length + v.length - (c :: (r ++ v)).length = A.length - (c :: r).length := by simp; omega
          rw [ea]
        · rw [if_neg he] at hx
          injection hx with hx1 hx2
          injection hx2 with hx2 hx3
          exact absurd hx3.symm he
/-- two texts with a space between -/
theorem two_texts {a b : List UInt8} (h37 : ∀ x ∈ a, x ≠ 37) (ha : a.length ≤ 2000) (hb : b.length ≤ 2000) (hx : (allT a).2.2 = 0) (hy : (allT b).2.2 = 0) :
    allT (a ++ 32 :: b) = ((allT a).1 ++ (allT b).1.map (sh (a.length + 1)), 0, 0) := by
  obtain ⟨x, p, e, hxe⟩ : ∃ x p e, allT a = (x, p, e) := ⟨_, _, _, rfl⟩
  obtain ⟨y, q, e', hye⟩ : ∃ y q e, allT b = (y, q, e) := ⟨_, _, _, rfl⟩
  rw [hxe] at hx
  rw [hye] at hy
  rw [hxe, hye]
  have hx0 : e = 0 := hx
  have hy0 : e' = 0 := hy
  subst hx0 hy0
  unfold allT at hxe hye ⊢
  rw [if_pos (by omega)] at hxe
  rw [if_pos (by omega)] at hye
  rw [if_pos (by simp; omega)]
  have hw : Wh (32 :: b) := Or.inr ⟨32, b, rfl, by decide⟩
  have h1 := lex_ends hw _ (0, []) a x p h37 (List.suffix_refl _) (by omega) hxe ((a ++ 32 :: b).length + 1) (by omega)
  rw [← List.length_append] at h1
  rw [h1]
  have hsh := lex_shift (d := a.length + 1) _ (0, []) b y q (Nat.le_refl _) hye
  have e2 : lex (a ++ 32 :: b).length ((32 :: b).length + 1) (0, []) (32 :: b) = (y.map (sh (a.length + 1)), 0, 0) := by
    rw [show (32 :: b).length + 1 = b.length + 1 + 1 by simp, lex_blank (by decide), ← hsh]
    rw [show (a ++ 32 :: b).length = b.length + (a.length + 1) by simp; omega]
    exact lex_fuel _ b.length b (Nat.le_refl _) _ _ _ (by omega) (by omega)
  rw [e2]
  simp [comb]
end Go.Proofs.YtfgopgncgociiaaGreatDoor.tk
namespace Go.Proofs.YtfgopgncgociiaaGreatDoor.rd
open Go.Proofs.YtfgopgncgociiaaGreatDoor.tk
set_option linter.unusedVariables false
section
variable {N N' d : Nat} {O : OT} {A B : List Tk}
theorem split_end : ∀ {ts r : List Tk} {e : Tk}, e :: r <:+ ts → e.k = 8 → ∃ seg e0 A, ts = seg ++ e0 :: A ∧ e0.k = 8 ∧ noEnd seg
  | [], r, e, h, _ => by simpa using h.length_le
  | t :: ts, r, e, h, he => by
    by_cases ht : t.k = 8
    · exact ⟨[], t, ts, rfl, ht, fun x hx => by cases hx⟩
    · have h2 : e :: r <:+ ts := by
        rcases List.suffix_cons_iff.1 h with h3 | h3
        · injection h3 with h4 h5; exact absurd (h4 ▸ he) ht
        · exact h3
      obtain ⟨seg, e0, A, h3, h4, h5⟩ := split_end h2 he
      exact ⟨t :: seg, e0, A, by rw [h3]; rfl, h4, fun x hx => by
        rcases List.mem_cons.1 hx with rfl | hx
        · exact ht
        · exact h5 x hx⟩
theorem sh_eq (d : Nat) : (sh d : Tk → Tk) = tk.sh d := rfl
/-- a clause is the same wherever it stands, whatever stands behind its end -/
theorem clause_sim {ts rest Y : List Tk} {t : tm.Tm} {ns : Names} {a : Nat} (h : clause true O N ts = .ok t ns a rest) (hl : ts.length ≤ 2000) :
    clause true O N' (ts.map (sh d) ++ Y) = .ok t ns (a + d) (rest.map (sh d) ++ Y) := by
  unfold clause at h
  split at h
  · cases h
  · rename_i v r n hx
    split at h
    · rename_i h8
      split at h
      · rename_i hm
        cases h
        have hp := (term_part _ _ _ _ _ _ _ _ _ _ _ hx).1
        have hr : ∃ e s, r = e :: s := by
          cases r with
          | nil => cases h8
          | cons e s => exact ⟨e, s, rfl⟩
        obtain ⟨e, s, rfl⟩ := hr
        obtain ⟨seg, e0, A, rfl, he0, hne⟩ := split_end hp h8
        have hll : seg.length ≤ 2000 := by simp at hl; omega
        obtain ⟨b, hb, hbl, hbe, hy⟩ := term_sim (N := N) (N' := N') (O := O) (e := e0) (e' := sh d e0) (A := A) (B := A.map (sh d) ++ Y) (d := d) he0 (Or.inl he0) _ (((seg ++ e0 :: A).map (sh d) ++ Y).length + 1) 1200 0 0 seg [] _ _ _ (by simp; omega) hne (by omega) hx
        have hb0 : b = [] := by
          cases b with
          | nil => rfl
          | cons u q =>
            injection hbe with h1 h2
            exact absurd (h1 ▸ h8 : u.k = 8) (hne u (hb.subset (List.mem_cons_self)))
        subst hb0
        injection hbe with h1 h2
        subst h1 h2
        have hts : (seg ++ e :: s).map (sh d) ++ Y = seg.map (sh d) ++ sh d e :: (s.map (sh d) ++ Y) := by simp
        have hseg : seg ≠ [] := by intro e9; rw [e9] at hbl; simp at hbl
        unfold clause
        rw [hts] at hy ⊢
        simp only [List.map_nil, List.nil_append] at hy
        rw [hy]
        show (if (sh d e).k = 8 then _ else _) = _
        rw [if_pos (show (sh d e).k = 8 from h8), if_pos hm]
        cases seg with
        | nil => exact absurd rfl hseg
        | cons u q => rfl
      · cases h
    · cases h
/-- errors are errors, where there is fuel -/
def NZ (rec : Rec) (m : Nat) : Prop := ∀ most level ts ns e r n, ts.length < m → rec most level ts ns = .er e r n → e ≠ 0
theorem shut_nz {α β : Type} {c : UInt8} {f : α → β} {x : PR α} {e : Int} {r : List Tk} {n : Names} (h : shut N c f x = .er e r n) : x = .er e r n ∨ e = 2 := by
  rcases PR.bind_er h with h | ⟨a, r1, n1, hx, h2⟩
  · exact Or.inl h
  · split at h2
    · cases h2
    · cases h2; exact Or.inr rfl
theorem row_nz {rec : Rec} {m : Nat} (hr : Parts rec) (hz : NZ rec m) {level : Nat} : ∀ f acc ts ns e r n, ts.length < f → ts.length < m → row N rec level f acc ts ns = .er e r n → e ≠ 0 := by
  intro f
  induction f with
  | zero => intro acc ts ns e r n h; omega
  | succ f ih =>
    intro acc ts ns e r n hf hm h
    rcases PR.bind_er h with h | ⟨a, r1, n1, hx, h2⟩
    · exact hz _ _ _ _ _ _ _ hm h
    · have p1 := (hr _ _ _ _ _ _ _ hx).2
      split at h2
      · have h3 : r1.tail.length ≤ r1.length := by simp
        exact ih _ _ _ _ _ _ (by omega) (by omega) h2
      · cases h2
theorem list_nz {rec : Rec} {m : Nat} (hr : Parts rec) (hz : NZ rec m) {level : Nat} {ts : List Tk} {ns : Names} {e : Int} {r : List Tk} {n : Names} (hm : ts.length < m) (h : list N rec level ts ns = .er e r n) : e ≠ 0 := by
  unfold list at h
  split at h
  · cases h
  · rcases PR.bind_er h with h | ⟨a, r1, n1, hx, h2⟩
    · exact row_nz hr hz _ _ _ _ _ _ _ (by omega) hm h
    · have p1 := (row_part hr _ _ _ _ _ _ _ hx).2
      split at h2
      · have h9 : r1.tail.length ≤ r1.length := by simp
        rcases shut_nz h2 with h3 | h3
        · exact hz _ _ _ _ _ _ _ (by omega) h3
        · omega
      · rcases shut_nz h2 with h3 | h3
        · cases h3
        · omega
theorem first_nz {rec : Rec} {m : Nat} (hr : Parts rec) (hz : NZ rec m) {a : Int} {level : Nat} {t : Tk} {s : List Tk} {ns : Names} {e : Int} {r : List Tk} {n : Names} (hm : s.length < m) (h : first O N rec a level (t :: s) ns = .er e r n) : e ≠ 0 := by
  unfold first at h
  dsimp only [List.tail_cons] at h
  have hst : s.tail.length ≤ s.length := by simp
  split at h
  · cases h
  · split at h
    · rcases shut_nz h with h3 | h3
      · exact row_nz hr hz _ _ _ _ _ _ _ (by simp; omega) (by omega) h3
      · omega
    · split at h
      · rcases PR.bind_er h with h | ⟨b, r1, n1, hx, h2⟩
        · exact hz _ _ _ _ _ _ _ hm h
        · cases h2
      · split at h
        · rcases shut_nz h with h3 | h3
          · exact hz _ _ _ _ _ _ _ hm h3
          · omega
        · split at h
          · exact list_nz hr hz hm h
          · cases h
theorem goOn_nz {rec : Rec} {m : Nat} (hr : Parts rec) (hz : NZ rec m) {most : Int} {level : Nat} : ∀ f left pr ts ns e r n, ts.length < f → ts.length ≤ m → goOn O N rec most level f left pr ts ns = .er e r n → e ≠ 0 := by
  intro f
  induction f with
  | zero => intro left pr ts ns e r n h; omega
  | succ f ih =>
    intro left pr ts ns e r n hf hm h
    unfold goOn at h
    dsimp only at h
    split at h
    · rename_i hc
      have hne : ∃ t s, ts = t :: s := by
        cases ts with
        | nil => have := hc.1; unfold infx isP see at this; simp at this
        | cons t s => exact ⟨t, s, rfl⟩
      obtain ⟨t, s, rfl⟩ := hne
      simp only [List.length_cons] at hf hm
      rcases PR.bind_er h with h | ⟨a, r1, n1, hx, h2⟩
      · exact hz _ _ _ _ _ _ _ (by simp; omega) h
      · have p1 := (hr _ _ _ _ _ _ _ hx).2
        simp only [List.tail_cons] at p1
        exact ih _ _ _ _ _ _ _ (by omega) (by omega) h2
    · cases h
theorem term_nz (x : Bool) (O : OT) (N : Nat) : ∀ f, NZ (term x O N f) f := by
  intro f
  induction f with
  | zero => intro most level ts ns e r n h; omega
  | succ f ih =>
    intro most level ts ns e r n hf h
    unfold term step at h
    dsimp only at h
    have hp := term_part x O N f
    split at h
    · cases h; decide
    · rename_i hb
      split at h
      · cases h; decide
      · obtain ⟨t, s, rfl⟩ := begs_cons (fun e => hb (Or.inl e))
        simp only [List.length_cons] at hf
        rcases PR.bind_er h with h | ⟨a, r1, n1, hx, h2⟩
        · exact first_nz hp ih (by omega) h
        · have p1 := (first_part hp hx).2
          simp only [List.length_cons] at p1
          exact goOn_nz hp ih _ _ _ _ _ _ _ _ (by simp; omega) (by omega) h2
theorem clause_nz {ts : List Tk} {e : Int} {a : Nat} (h : clause true O N ts = .er e a) : e ≠ 0 := by
  unfold clause at h
  split at h
  · rename_i e1 r n hx
    cases h
    exact term_nz _ _ _ _ _ _ _ _ _ _ _ (by omega) hx
  · split at h
    · split at h
      · cases h
      · rename_i hm; cases h; exact hm
    · cases h; decide
def mv (d : Nat) (c : Cl3) : Cl3 := (c.1, c.2.1, c.2.2 + d)
theorem allOf_two : ∀ (f : Nat) (acc acc2 : List Cl3) (ts Y : List Tk) (l : List Cl3) (p : Nat), ts.length < f → ts.length ≤ 2000 → allOf true O N f acc ts = (l, p, 0) → ∀ g, ts.length + Y.length < g →
    ∃ l1, l = acc ++ l1 ∧ ∃ g', Y.length < g' ∧ allOf true O N' g acc2 (ts.map (sh d) ++ Y) = allOf true O N' g' (acc2 ++ l1.map (mv d)) Y := by
  intro f
  induction f with
  | zero => intro acc acc2 ts Y l p h; omega
  | succ f ih =>
    intro acc acc2 ts Y l p hf hl h g hg
    cases ts with
    | nil =>
      rw [allOf, if_pos rfl] at h
      cases h
      exact ⟨[], by simp, g, by simpa using hg, by simp⟩
    | cons t r =>
      rw [allOf, if_neg (by simp)] at h
      split at h
      · rename_i e a hc; cases h
        exact absurd rfl (clause_nz hc)
      · rename_i t' n' a' r' hc
        obtain ⟨g, rfl⟩ : ∃ q, g = q + 1 := ⟨g - 1, by omega⟩
        obtain ⟨x, hx, -⟩ := clause_end hc
        have hrl : r'.length < (t :: r).length := by have := hx.length_le; simp at this ⊢; omega
        have hcs := clause_sim (N' := N') (d := d) (Y := Y) hc hl
        obtain ⟨l1, rfl, g', hg', hy⟩ := ih _ (acc2 ++ [(t', n', a' + d)]) r' Y _ _ (by omega) (by omega) h g (by simp at hg hrl ⊢; omega)
        refine ⟨(t', n', a') :: l1, by simp, g', hg', ?_⟩
        rw [allOf, if_neg (by simp), hcs]
        show allOf true O N' g (acc2 ++ [(t', n', a' + d)]) (r'.map (sh d) ++ Y) = _
        rw [hy]
        simp [mv]
/-- two texts with a space between have the clauses of both -/
theorem readA_two {tl : List opa.D} {a b : List UInt8} (h37 : ∀ x ∈ a, x ≠ 37) (ha : a.length ≤ 1500) (hb : b.length ≤ 1500) {l m : List Cl3} {p q : Nat} (h1 : readA tl a = (l, p, 0)) (h2 : readA tl b = (m, q, 0)) :
    readA tl (a ++ 32 :: b) = (l ++ m.map (mv (a.length + 1)), 0, 0) := by
  have hz : ∀ {M f acc ts l p}, allOf true (OTof tl) M f acc ts = (l, p, 0) → p = 0 := by
    intro M f
    induction f with
    | zero => intro acc ts l p h; cases h; rfl
    | succ f ih =>
      intro acc ts l p h
      rw [allOf] at h
      split at h
      · cases h; rfl
      · split at h
        · rename_i hc; cases h; exact absurd rfl (clause_nz hc)
        · exact ih h
  unfold readA at h1 h2 ⊢
  by_cases e1 : (allT a).2.2 = 0
  rotate_left
  · rw [if_pos e1] at h1; injection h1 with h3 h4; injection h4 with h5 h6; exact absurd h6 e1
  by_cases e2 : (allT b).2.2 = 0
  rotate_left
  · rw [if_pos e2] at h2; injection h2 with h3 h4; injection h4 with h5 h6; exact absurd h6 e2
  rw [if_neg (by simpa using e1)] at h1
  rw [if_neg (by simpa using e2)] at h2
  have ht := two_texts h37 (by omega) (by omega) e1 e2
  rw [ht, if_neg (by simp)]
  have la := all_len (S := a) (ts := (allT a).1) (p := (allT a).2.1) (e := (allT a).2.2) rfl
  have lb := all_len (S := b) (ts := (allT b).1) (p := (allT b).2.1) (e := (allT b).2.2) rfl
  have hid : (allT a).1.map (sh 0) = (allT a).1 := by
    rw [show (sh 0 : Tk → Tk) = id from funext fun t => by cases t; rfl]; simp
  dsimp only
  obtain ⟨l1, h8, g', hg', hy⟩ := allOf_two (N' := (a ++ 32 :: b).length) (d := 0) _ [] [] (allT a).1 ((allT b).1.map (tk.sh (a.length + 1))) _ _ (by omega) (by omega) h1 (((allT a).1 ++ (allT b).1.map (tk.sh (a.length + 1))).length + 1) (by simp)
  rw [hid] at hy
  rw [hy]
  obtain ⟨l2, h9, g2, hg2, hy2⟩ := allOf_two (N' := (a ++ 32 :: b).length) (d := a.length + 1) _ [] ([] ++ l1.map (mv 0)) (allT b).1 [] _ _ (by omega) (by omega) h2 g' (by simpa using hg')
  rw [List.append_nil] at hy2
  rw [show (tk.sh (a.length + 1) : Tk → Tk) = sh (a.length + 1) from rfl, hy2]
  obtain ⟨g3, rfl⟩ : ∃ z, g2 = z + 1 := ⟨g2 - 1, by simp at hg2; omega⟩
  rw [allOf, if_pos rfl]
  have hm0 : l1.map (mv 0) = l1 := by
    rw [show (mv 0 : Cl3 → Cl3) = id from funext fun c => rfl]; simp
  rw [hm0, h8, h9]
  simp
end
end Go.Proofs.YtfgopgncgociiaaGreatDoor.rd
namespace Go.Proofs.YtfgopgncgociiaaGreatDoor.rd
open Go.ChangeShapes Go.WideShapes Go.ChangeAt Go.RowKit Go.Maps
open Go.Proofs.YtfgopgncgociiaaGreatDoor.kp Go.Proofs.YtfgopgncgociiaaGreatDoor.num Go.Proofs.YtfgopgncgociiaaGreatDoor.dec Go.Proofs.YtfgopgncgociiaaGreatDoor.tk
set_option linter.unusedVariables false
set_option linter.unusedSimpArgs false
theorem rd_drewN (w : World) (n : Nat) : Below w.heap.size w (w.drewN n) := by
  induction n with
  | zero => simpa [World.drewN] using Below.refl _ _
  | succ n ih => exact ih.trans ((kp.bdr _).mono ih.size)
set_option maxRecDepth 100000 in
theorem rnames_any {B B' : Nat} {ns : Names} {a a' : Option Addr} {c c' : Nat} (w : World) (h1 : w.ownsRow B 9 1 (.slice a ns.length c) ns.length (ns.map sv)) (h2 : w.ownsRow B' 9 1 (.slice a' ns.length c') ns.length (ns.map sv)) :
    Calls Tryz.prog 16 #[.slice a ns.length c, .slice a' ns.length c'] w fun e w' => e = .returned (.bool true) ∧ Below w.heap.size w w' := by
  have hn : ns.length ≤ 9223372036854775807 := by
    obtain ⟨-, hr⟩ := h1
    rcases hr with ⟨h, h0⟩ | ⟨g', cap, cur, h, -, -, q1, q2, -⟩
    · omega
    · cases h; unfold maxLen at q2; omega
  have H1 := Lib.hid h1
  have H2 := Lib.hid h2
  have HN := Lib.hid hn
  obtain ⟨n, hnn⟩ : ∃ n, n = ns.length := ⟨_, rfl⟩
  have HNN := Lib.hid hnn
  rw [← hnn]
  clear h1 h2 hn hnn
  go_enter Tryz.func16, Tryz.ntmps16
  go_wp2_with fail
  go_loopg [13] n (fun gk i wx => ∃ k : Nat, k ≤ n ∧ gk = n - k ∧ i = .int .i64 k ∧ ∃ m, wx = w.drewN m)
  case atStart => exact ⟨0, by omega, by omega, rfl, 0, rfl⟩
  case round =>
    obtain ⟨k, hk, hgk, rfl, m, hm⟩ := hrel
    by_cases hlt : k < n
    · have hne : ns ≠ [] := by intro e; have := HNN.out; rw [e] at this; simp at this; omega
      obtain ⟨g, rfl, -, e1⟩ := str_row H1.out hne
      obtain ⟨g2, rfl, -, e2⟩ := str_row H2.out hne
      have hki : (k : Int) < (n : Int) := by omega
      have hl : k < ns.length := by have := HNN.out; omega
      have e1 := e1 k hl
      have e2 := e2 k hl
      obtain ⟨u, hu⟩ : ∃ u, u = ns[k] := ⟨_, rfl⟩
      rw [← hu] at e1 e2
      have b1 : wr.cell? ⟨g, k, none⟩ = some (.string ⟨u.toArray⟩) := by rw [hm]; exact (World.cell?_drewN w m _).trans e1
      have b2 : wr.cell? ⟨g2, k, none⟩ = some (.string ⟨u.toArray⟩) := by rw [hm]; exact (World.cell?_drewN w m _).trans e2
      have ix1 := fun w => str_ix (g := g) (c := c) hlt w
      have ix2 := fun w => str_ix (g := g2) (c := c') hlt w
      have HM := Lib.hid hm
      have HG := Lib.hid hgk
      have HL := Lib.hid hlt
      clear e1 e2 hm hgk hne hu hl
      go_wp2_with fail
      go_quiet (fail)
      have HM2 := Lib.hid (show wr.drewN nq = w.drewN (m + nq) by rw [HM.out, World.drewN_drewN])
      generalize wr.drewN nq = wq at *
      clear b1 b2 HM
      go_wp2_with fail
      go_roundg (n - (k + 1))
      case measure => have := HG.out; have := HL.out; omega
      case rel => exact ⟨k + 1, HL.out, rfl, congrArg (Value.int .i64) (show wrap64 ((k : Int) + 1) = ((k + 1 : Nat) : Int) by have := HN.out; have := HNN.out; have := HL.out; unfold wrap64; omega), _, HM2.out⟩
    · obtain rfl : k = n := by omega
      have HM := Lib.hid hm
      clear hm
      go_wp2_with fail
      go_ret
      refine ⟨rfl, ?_⟩
      rw [HM.out]
      exact rd_drewN _ _
section
variable {O : OT} {N : Nat}
/-- each clause of a text may be, and starts in it -/
theorem allOf_may : ∀ (f : Nat) (acc : List Cl3) (ts : List Tk) (l : List Cl3) (p : Nat) (e : Int), (∀ t ∈ ts, t.a ≤ N) → (∀ c ∈ acc, tm.may c.1 = 0 ∧ c.2.2 ≤ N) → allOf true O N f acc ts = (l, p, e) → ∀ c ∈ l, tm.may c.1 = 0 ∧ c.2.2 ≤ N := by
  intro f
  induction f with
  | zero => intro acc ts l p e _ _ h; cases h; intro c hc; cases hc
  | succ f ih =>
    intro acc ts l p e hN ha h
    rw [allOf] at h
    split at h
    · cases h; exact ha
    · split at h
      · cases h; intro c hc; cases hc
      · rename_i t n a r hc
        obtain ⟨x, hx, -⟩ := clause_end hc
        refine ih _ _ _ _ _ (fun t ht => hN t (hx.subset (List.mem_cons_of_mem _ ht))) (fun c hm => ?_) h
        rcases List.mem_append.1 hm with hm | hm
        · exact ha c hm
        · simp only [List.mem_singleton] at hm
          subst hm
          refine ⟨(clause_names hc).1, ?_⟩
          have hp : 0 < ts.length := by have := hx.length_le; simp at this; omega
          have hs : see N ts 0 = ts[0] := by
            cases ts with
            | nil => simp at hp
            | cons x y => rfl
          unfold clause at hc
          split at hc
          · cases hc
          · split at hc
            · split at hc
              · cases hc; show (see N ts 0).a ≤ N; rw [hs]; exact hN _ (List.getElem_mem hp)
              · cases hc
            · cases hc
theorem readA_may {tl : List opa.D} {S : List UInt8} (hS : S.length ≤ 65536) {l : List Cl3} {p : Nat} {e : Int} (h : readA tl S = (l, p, e)) : ∀ c ∈ l, tm.may c.1 = 0 ∧ c.2.2 ≤ S.length := by
  unfold readA at h
  have hf := all_fine hS (ts := (allT S).1) (p := (allT S).2.1) (e := (allT S).2.2) rfl
  split at h
  · cases h; intro c hc; cases hc
  · rename_i he
    have hF := Fine_mem (hf.1 (by simpa using he))
    exact allOf_may _ _ _ _ _ _ (fun t ht => by have := hF t ht; omega) (fun c hc => by cases hc) h
end
end Go.Proofs.YtfgopgncgociiaaGreatDoor.rd
