/- What stands behind makes no difference: the mathematics of gaps, of what is moved. -/
import Derived.Test.YtedbcmagjbgbjaaGreatDoorTkL
namespace Go.Proofs.YtedbcmagjbgbjaaGreatDoor.tk
open Go.ChangeShapes Go.WideShapes Go.ChangeAt Go.RowKit Go.Maps
open Go.Proofs.YtedbcmagjbgbjaaGreatDoor.kp Go.Proofs.YtedbcmagjbgbjaaGreatDoor.num Go.Proofs.YtedbcmagjbgbjaaGreatDoor.dec
set_option linter.unusedVariables false
/-- nothing, or white space ahead -/
def Wh (v : List UInt8) : Prop := v = [] ∨ ∃ c r, v = c :: r ∧ mem blankL c = true
theorem blank_b : ∀ n : Fin 256, mem blankL (UInt8.ofNat n.val) = true → wd (UInt8.ofNat n.val) = false ∧ sg (UInt8.ofNat n.val) = false ∧ UInt8.ofNat n.val ≠ 39 ∧ UInt8.ofNat n.val ≠ 42 ∧ UInt8.ofNat n.val ≠ 47 := by decide +kernel
theorem blank (c : UInt8) (h : mem blankL c = true) : wd c = false ∧ sg c = false ∧ c ≠ 39 ∧ c ≠ 42 ∧ c ≠ 47 :=
  byte_all (P := fun c => mem blankL c = true → wd c = false ∧ sg c = false ∧ c ≠ 39 ∧ c ≠ 42 ∧ c ≠ 47) blank_b c h
theorem wh1 : Wh [32] := Or.inr ⟨32, [], rfl, by decide⟩
theorem Wh.head {v : List UInt8} (h : Wh v) {d : UInt8} (hd : mem blankL d = false) : v.head? ≠ some d := by
  rcases h with rfl | ⟨c, r, rfl, hc⟩
  · simp
  · intro e; simp at e; rw [e, hd] at hc; cases hc
theorem tw {p : UInt8 → Bool} (hp : ∀ c, mem blankL c = true → p c = false) {v : List UInt8} (hv : Wh v) (l : List UInt8) : (l ++ v).takeWhile p = l.takeWhile p ∧ (l ++ v).dropWhile p = l.dropWhile p ++ v := by
  induction l with
  | nil =>
    rcases hv with rfl | ⟨c, r, rfl, hc⟩
    · exact ⟨rfl, rfl⟩
    · have := hp c hc; simp [this]
  | cons x l ih =>
    by_cases hx : p x = true
    · simp [hx, ih.1, ih.2]
    · simp [hx]
theorem txt_tail {k : Int} {q r1 : List UInt8} {k' : Int} {t : List UInt8} {n : Int} {re im : Nat} {r : List UInt8} (h : txt k q r1 = .ok k' t n re im r) (r2 : List UInt8) : r = r1 ∧ txt k q r2 = .ok k' t n re im r2 := by
  unfold txt at *; split at h
  · rename_i hq; cases h; exact ⟨rfl, by rw [if_pos hq]⟩
  · cases h
theorem nmb_tail {la : Int × List UInt8} {q r1 : List UInt8} {k' : Int} {t : List UInt8} {n : Int} {re im : Nat} {r : List UInt8} (h : nmb la q r1 = .ok k' t n re im r) (r2 : List UInt8) : r = r1 ∧ nmb la q r2 = .ok k' t n re im r2 := by
  unfold nmb at *
  by_cases h1 : dve q = 0
  · rw [if_pos h1] at h ⊢; cases h; exact ⟨rfl, rfl⟩
  · rw [if_neg h1] at h ⊢
    by_cases h2 : q = leastL ∧ la.1 = 1 ∧ la.2 = [45]
    · rw [if_pos h2] at h ⊢; cases h; exact ⟨rfl, rfl⟩
    · rw [if_neg h2] at h ⊢
      by_cases h3 : pe q = 0
      · rw [if_pos h3] at h ⊢; cases h; exact ⟨rfl, rfl⟩
      · rw [if_neg h3] at h; cases h
theorem qt_tail {v : List UInt8} (hv : Wh v) : ∀ (n : Nat) (l : List UInt8), l.length ≤ n → ∀ x, qt (l ++ [32]) = some x → ∃ r', x.2 = r' ++ [32] ∧ r' <:+ l ∧ qt (l ++ v) = some (x.1, r' ++ v) := by
  intro n
  induction n with
  | zero =>
    intro l hl x h
    obtain rfl : l = [] := List.eq_nil_of_length_eq_zero (by omega)
    rw [List.nil_append, qt_cons] at h; simp [qt] at h
  | succ n ih =>
    intro l hl x h
    cases l with
    | nil => rw [List.nil_append, qt_cons] at h; simp [qt] at h
    | cons c r =>
      have hr : r.length ≤ n := by simp at hl; omega
      have go : ∀ (d : UInt8) (q : List UInt8), q.length ≤ n → q <:+ c :: r → (qt (q ++ [32])).map (fun x => (d :: x.1, x.2)) = some x →
          ∃ r', x.2 = r' ++ [32] ∧ r' <:+ c :: r ∧ (qt (q ++ v)).map (fun x => (d :: x.1, x.2)) = some (x.1, r' ++ v) := by
        intro d q hq hs hm
        cases hqt : qt (q ++ [32]) with
        | none => rw [hqt] at hm; cases hm
        | some y =>
          rw [hqt] at hm; cases hm
          obtain ⟨r', h1, h2, h3⟩ := ih q hq y hqt
          exact ⟨r', h1, h2.trans hs, by rw [h3]; rfl⟩
      rw [List.cons_append, qt_cons] at h
      rw [List.cons_append, qt_cons]
      by_cases h10 : c = 10
      · rw [if_pos h10] at h; cases h
      · rw [if_neg h10] at h ⊢
        by_cases h92 : c = 92
        · rw [if_pos h92] at h ⊢
          cases r with
          | nil => simp at h
          | cons d r' =>
            have hs : r' <:+ c :: d :: r' := (List.suffix_cons _ _).trans (List.suffix_cons _ _)
            have hr2 : r'.length ≤ n := by simp at hr; omega
            simp only [List.cons_append] at h ⊢
            by_cases hd : d = 110
            · rw [if_pos hd] at h ⊢; exact go _ _ hr2 hs h
            · rw [if_neg hd] at h ⊢
              by_cases hd2 : d = 92 ∨ d = 39
              · rw [if_pos hd2] at h ⊢; exact go _ _ hr2 hs h
              · rw [if_neg hd2] at h; cases h
        · rw [if_neg h92] at h ⊢
          by_cases h39 : c = 39
          · rw [if_pos h39] at h ⊢
            cases r with
            | nil =>
              simp only [List.nil_append] at h ⊢
              rw [if_neg (by decide)] at h
              cases h
              refine ⟨[], rfl, List.nil_suffix, ?_⟩
              rcases hv with rfl | ⟨d, y, rfl, hd⟩
              · rfl
              · simp only; rw [if_neg (blank d hd).2.2.1]; rfl
            | cons d r' =>
              have hs : r' <:+ c :: d :: r' := (List.suffix_cons _ _).trans (List.suffix_cons _ _)
              have hr2 : r'.length ≤ n := by simp at hr; omega
              simp only [List.cons_append] at h ⊢
              by_cases hd : d = 39
              · rw [if_pos hd] at h ⊢; exact go _ _ hr2 hs h
              · rw [if_neg hd] at h ⊢
                cases h
                exact ⟨d :: r', rfl, List.suffix_cons _ _, rfl⟩
          · rw [if_neg h39] at h ⊢
            exact go _ _ hr (List.suffix_cons _ _) h
theorem stops_tail {v : List UInt8} (hv : Wh v) (l : List UInt8) : stops (l ++ v) = stops (l ++ [32]) := by
  cases l with
  | nil =>
    rcases hv with rfl | ⟨d, y, rfl, hd⟩
    · rfl
    · simp only [List.nil_append, stops, hd]; simp; decide
  | cons c r => rfl
theorem tok_tail {v : List UInt8} (hv : Wh v) {la : Int × List UInt8} {c : UInt8} {r : List UInt8} {k : Int} {t : List UInt8} {n : Int} {re im : Nat} {rest : List UInt8} (h : tok la c (r ++ [32]) = .ok k t n re im rest) :
    ∃ r', rest = r' ++ [32] ∧ r' <:+ r ∧ tok la c (r ++ v) = .ok k t n re im (r' ++ v) := by
  have w1 := tw (p := wd) (fun c h => (blank c h).1) wh1 r
  have w2 := tw (p := wd) (fun c h => (blank c h).1) hv r
  have s1 := tw (p := sg) (fun c h => (blank c h).2.1) wh1 r
  have s2 := tw (p := sg) (fun c h => (blank c h).2.1) hv r
  unfold tok at h ⊢
  rw [w1.1, w1.2, s1.1, s1.2] at h
  rw [w2.1, w2.2, s2.1, s2.2]
  by_cases g1 : sm c = true
  · rw [if_pos g1] at h ⊢
    obtain ⟨e1, e2⟩ := txt_tail h (r.dropWhile wd ++ v)
    exact ⟨_, e1, drop_suf _ _, e2⟩
  · rw [if_neg g1] at h ⊢
    by_cases g2 : gr c = true ∨ c = 95
    · rw [if_pos g2] at h ⊢
      obtain ⟨e1, e2⟩ := txt_tail h (r.dropWhile wd ++ v)
      exact ⟨_, e1, drop_suf _ _, e2⟩
    · rw [if_neg g2] at h ⊢
      by_cases g3 : dg c = true
      · rw [if_pos g3] at h ⊢
        obtain ⟨e1, e2⟩ := nmb_tail h (r.dropWhile wd ++ v)
        exact ⟨_, e1, drop_suf _ _, e2⟩
      · rw [if_neg g3] at h ⊢
        by_cases g4 : sg c = true
        · rw [if_pos g4] at h ⊢
          rw [stops_tail hv]
          by_cases g5 : c :: r.takeWhile sg = [46] ∧ stops (r.dropWhile sg ++ [32]) = true
          · rw [if_pos g5] at h ⊢; cases h; exact ⟨_, rfl, drop_suf _ _, rfl⟩
          · rw [if_neg g5] at h ⊢
            obtain ⟨e1, e2⟩ := txt_tail h (r.dropWhile sg ++ v)
            exact ⟨_, e1, drop_suf _ _, e2⟩
        · rw [if_neg g4] at h ⊢
          by_cases g6 : mem soloL c = true
          · rw [if_pos g6] at h ⊢
            obtain ⟨e1, e2⟩ := txt_tail h (r ++ v)
            exact ⟨_, e1, List.suffix_refl _, e2⟩
          · rw [if_neg g6] at h ⊢
            by_cases g7 : mem punctL c = true
            · rw [if_pos g7] at h ⊢
              by_cases g8 : c = 40 ∧ (la.1 = 1 ∨ la.1 = 2)
              · rw [if_pos g8] at h ⊢; cases h; exact ⟨_, rfl, List.suffix_refl _, rfl⟩
              · rw [if_neg g8] at h ⊢
                obtain ⟨e1, e2⟩ := txt_tail h (r ++ v)
                exact ⟨_, e1, List.suffix_refl _, e2⟩
            · rw [if_neg g7] at h ⊢
              by_cases g9 : c = 39
              · rw [if_pos g9] at h ⊢
                cases hq : qt (r ++ [32]) with
                | none => rw [hq] at h; cases h
                | some x =>
                  rw [hq] at h
                  obtain ⟨r', h1, h2, h3⟩ := qt_tail hv _ r (Nat.le_refl _) x hq
                  rw [h3]
                  obtain ⟨e1, e2⟩ := txt_tail h (r' ++ v)
                  exact ⟨r', by rw [e1, h1], h2, e2⟩
              · rw [if_neg g9] at h; cases h
theorem head_tail {v : List UInt8} (hv : Wh v) {d : UInt8} (hd : mem blankL d = false) (r : List UInt8) : (r ++ v).head? = some d ↔ r.head? = some d := by
  cases r with
  | nil => constructor
           · intro h; exact absurd h (hv.head hd)
           · intro h; cases h
  | cons c r => simp
/-- what a mode asks of what is next -/
def Nxt : Md → List UInt8 → Prop
  | .b0, l => l.head? = some 42
  | .b1, l => l.head? = some 47
  | .ln, _ => False
  | _, _ => True
theorem sk_tail {v : List UInt8} (hv : Wh v) : ∀ (l : List UInt8), (∀ x ∈ l, x ≠ 37) → ∀ (m : Md) (b p : List UInt8), Nxt m l → sk m b (l ++ [32]) = (true, p) →
    (p = [] ∧ ∀ b', sk m b' (l ++ v) = sk .bt v v) ∨ (∃ q, p = q ++ [32] ∧ q ≠ [] ∧ q <:+ l ∧ ∀ b', sk m b' (l ++ v) = (true, q ++ v)) := by
  have n42 : mem blankL 42 = false := by decide
  have n47 : mem blankL 47 = false := by decide
  intro l
  induction l with
  | nil =>
    intro _ m b p hm h
    cases m with
    | bt =>
      simp only [List.nil_append, sk] at h
      rw [if_pos (by decide)] at h
      cases h
      exact Or.inl ⟨rfl, fun b' => sk_bt _ _ _⟩
    | ln => exact hm.elim
    | b0 => cases hm
    | bk =>
      simp only [List.nil_append, sk] at h
      rw [if_neg (by simp)] at h
      cases h
    | b1 => cases hm
  | cons c r ih =>
    intro h37 m b p hm h
    have hr37 : ∀ x ∈ r, x ≠ 37 := fun x hx => h37 x (List.mem_cons_of_mem _ hx)
    have up : ∀ m' b2 p, Nxt m' r → sk m' b2 (r ++ [32]) = (true, p) → (p = [] ∧ ∀ b', sk m' b' (r ++ v) = sk .bt v v) ∨ (∃ q, p = q ++ [32] ∧ q ≠ [] ∧ q <:+ c :: r ∧ ∀ b', sk m' b' (r ++ v) = (true, q ++ v)) := by
      intro m' b2 p hn hs
      rcases ih hr37 m' b2 p hn hs with h | ⟨q, h1, h2, h3, h4⟩
      · exact Or.inl h
      · exact Or.inr ⟨q, h1, h2, h3.trans (List.suffix_cons _ _), h4⟩
    cases m with
    | ln => exact hm.elim
    | bt =>
      simp only [List.cons_append, sk] at h ⊢
      by_cases g1 : mem blankL c = true
      · simp only [if_pos g1] at h ⊢
        rcases up .bt _ p trivial h with h | ⟨q, h1, h2, h3, h4⟩
        · exact Or.inl ⟨h.1, fun b' => h.2 _⟩
        · exact Or.inr ⟨q, h1, h2, h3, fun b' => h4 _⟩
      · have g2 : c ≠ 37 := h37 c (List.mem_cons_self)
        simp only [if_neg g1, if_neg g2] at h ⊢
        simp only [head_tail wh1 n42, head_tail hv n42] at h ⊢
        by_cases g3 : c = 47 ∧ r.head? = some 42
        · simp only [if_pos g3] at h ⊢
          rcases up .b0 _ p g3.2 h with h | ⟨q, h1, h2, h3, h4⟩
          · exact Or.inl ⟨h.1, fun b' => h.2 _⟩
          · exact Or.inr ⟨q, h1, h2, h3, fun b' => h4 _⟩
        · simp only [if_neg g3] at h ⊢
          cases h
          exact Or.inr ⟨c :: r, rfl, by simp, List.suffix_refl _, fun b' => rfl⟩
    | b0 =>
      simp only [List.cons_append, sk] at h ⊢
      exact up .bk _ p trivial h
    | bk =>
      simp only [List.cons_append, sk] at h ⊢
      simp only [head_tail wh1 n47, head_tail hv n47] at h ⊢
      by_cases g3 : c = 42 ∧ r.head? = some 47
      · simp only [if_pos g3] at h ⊢
        exact up .b1 _ p g3.2 h
      · simp only [if_neg g3] at h ⊢
        exact up .bk _ p trivial h
    | b1 =>
      simp only [List.cons_append, sk] at h ⊢
      rcases up .bt _ p trivial h with h | ⟨q, h1, h2, h3, h4⟩
      · exact Or.inl ⟨h.1, fun b' => h.2 _⟩
      · exact Or.inr ⟨q, h1, h2, h3, fun b' => h4 _⟩
theorem lex_wh {N f : Nat} {v : List UInt8} (hv : Wh v) (la : Int × List UInt8) : lex N (f + 1) la v = lex N (f + 1) (0, []) v := by
  rcases hv with rfl | ⟨c, r, rfl, hc⟩
  · rfl
  · rw [lex_blank hc, lex_blank hc]
theorem comb_cons (x : Tk) (ts : List Tk) (R : List Tk × Nat × Int) : cons1 x (comb ts R) = comb (x :: ts) R ∨ R.2.2 = 0 := by
  by_cases h : R.2.2 = 0
  · exact Or.inr h
  · left; simp [cons1, comb, h]
theorem cons1_comb (x : Tk) (ts : List Tk) {R : List Tk × Nat × Int} (hp : R.2.2 = 0 → R.2.1 = 0) : cons1 x (comb ts R) = comb (x :: ts) R := by
  by_cases h : R.2.2 = 0
  · simp [cons1, comb, h, hp h]
  · simp [cons1, comb, h]
theorem lex_p0 {N : Nat} : ∀ f la l, (lex N f la l).2.2 = 0 → (lex N f la l).2.1 = 0 := by
  intro f
  induction f with
  | zero => intro la l _; rfl
  | succ f ih =>
    intro la l
    generalize h : lex N (f + 1) la l = R
    simp only [lex] at h
    split at h
    · subst h; intro h; simp at h
    · subst h; intro _; rfl
    · split at h
      · rename_i e ht; subst h; intro h; exact absurd h (tok_er ht)
      · split at h
        · subst h; intro _; rfl
        · rename_i hne; subst h; intro h; exact absurd h hne
/-- ahead of white space, or of nothing, the tokens are the same -/
theorem lex_tail {A v : List UInt8} (hv : Wh v) : ∀ (f : Nat) (la : Int × List UInt8) (l : List UInt8) (ts : List Tk) (p : Nat), (∀ x ∈ l, x ≠ 37) → l <:+ A → (l ++ [32]).length < f →
    lex (A.length + 1) f la (l ++ [32]) = (ts, p, 0) → ∀ g, (l ++ v).length < g → lex (A.length + v.length) g la (l ++ v) = comb ts (lex (A.length + v.length) (v.length + 1) (0, []) v) := by
  intro f
  induction f with
  | zero => intro la l ts p _ _ h; omega
  | succ f ih =>
    intro la l ts p h37 hl hf h g hg
    cases g with
    | zero => omega
    | succ g =>
    cases hs : sk .bt (l ++ [32]) (l ++ [32]) with
    | mk ok s =>
    cases ok with
    | false => simp only [lex, hs] at h; injection h with h1 h2; injection h2 with h2 h3; exact absurd h3 (by decide)
    | true =>
    rcases sk_tail hv l h37 .bt _ s trivial hs with ⟨rfl, hsv⟩ | ⟨q, rfl, hq, hql, hsv⟩
    · rw [lex_end hs] at h
      cases h
      have e1 : lex (A.length + v.length) (g + 1) la (l ++ v) = lex (A.length + v.length) (g + 1) (0, []) v := by
        by_cases hl0 : l = []
        · subst hl0; exact lex_wh hv la
        · simp only [lex, hsv]
          cases hsk : sk .bt v v with
          | mk ok s =>
            cases ok with
            | false => rfl
            | true =>
              cases s with
              | nil => rfl
              | cons x y =>
                have h1 := (sk_ok hsk).length_le
                have h2 := List.length_pos_iff.2 hl0
                simp only
                rw [if_neg (by simp only [List.length_append]; omega)]
                have e2 : (if (x :: y).length = v.length then ((0, []) : Int × List UInt8) else (0, [])) = (0, []) := by split <;> rfl
                rw [e2]
      rw [e1, lex_fuel _ v.length v (Nat.le_refl _) (g + 1) (v.length + 1) (0, []) (by simp only [List.length_append] at hg; omega) (by omega)]
      generalize hR2 : lex (A.length + v.length) (v.length + 1) (0, []) v = R
      obtain ⟨ts2, p2, e2⟩ := R
      have hbad := lex_bad _ _ _ _ _ _ hR2
      unfold comb
      by_cases he : e2 = 0
      · subst he; simp
      · simp only [he, if_false]; rw [hbad he]
    · obtain ⟨c, r, rfl⟩ : ∃ c r, q = c :: r := by
        cases q with
        | nil => exact absurd rfl hq
        | cons c r => exact ⟨c, r, rfl⟩
      have hqA := hql.trans hl
      have hlen := hqA.length_le
      have hlen2 := hql.length_le
      have hv1 := hsv (l ++ v)
      simp only [List.cons_append] at hs hv1
      have hcond : ((c :: (r ++ [32])).length = (l ++ [32]).length) ↔ (c :: (r ++ v)).length = (l ++ v).length := by simp; omega
      cases ht : tok (if (c :: (r ++ [32])).length = (l ++ [32]).length then la else (0, [])) c (r ++ [32]) with
      | er e =>
        simp only [lex, hs, ht] at h
        injection h with h1 h2; injection h2 with h2 h3; exact absurd h3 (tok_er ht)
      | ok k t n re im rest =>
        have hx := lex_one (N := A.length + 1) (f := f) hs ht
        obtain ⟨r', rfl, hr', ht2⟩ := tok_tail hv ht
        have ht3 : tok (if (c :: (r ++ v)).length = (l ++ v).length then la else (0, [])) c (r ++ v) = .ok k t n re im (r' ++ v) := by
          by_cases hb : (c :: (r ++ [32])).length = (l ++ [32]).length
          · rw [if_pos hb] at ht2; rw [if_pos (hcond.1 hb)]; exact ht2
          · rw [if_neg hb] at ht2; rw [if_neg (fun h => hb (hcond.2 h))]; exact ht2
        rw [lex_one hv1 ht3]
        rw [h] at hx
        have hrs : r' <:+ A := hr'.trans ((List.suffix_cons _ _).trans hqA)
        have hrl := hr'.length_le
        simp only [List.length_cons] at hlen hlen2
        generalize hL : lex (A.length + 1) f (k, t) (r' ++ [32]) = L at hx
        obtain ⟨ts1, p1, e1⟩ := L
        unfold cons1 at hx
        by_cases he : e1 = 0
        · subst he
          rw [if_pos rfl] at hx
          injection hx with hx1 hx2
          subst hx1
          rw [ih (k, t) r' ts1 p1 (fun x hx => h37 x ((hr'.trans ((List.suffix_cons _ _).trans hql)).subset hx)) hrs (by simp only [List.length_append, List.length_cons, List.length_nil] at *; omega) hL g (by simp only [List.length_append] at *; omega)]
          rw [cons1_comb _ _ (lex_p0 _ _ _)]
          have ea : A.length + v.length - (c :: (r ++ v)).length = A.length + 1 - (c :: (r ++ [32])).length := by simp; omega
          rw [ea]
        · rw [if_neg he] at hx
          injection hx with hx1 hx2
          injection hx2 with hx2 hx3
          exact absurd hx3.symm he
/-- moved by d -/
def sh (d : Nat) (x : Tk) : Tk := ⟨x.k, x.t, x.n, x.re, x.im, x.a + d⟩
theorem lex_shift {N d : Nat} : ∀ f la l ts p, l.length ≤ N → lex N f la l = (ts, p, 0) → lex (N + d) f la l = (ts.map (sh d), 0, 0) := by
  intro f
  induction f with
  | zero => intro la l ts p _ h; simp only [lex] at h; cases h; rfl
  | succ f ih =>
    intro la l ts p hl h
    cases hs : sk .bt l l with
    | mk ok s =>
    cases ok with
    | false => simp only [lex, hs] at h; injection h with h1 h2; injection h2 with h2 h3; exact absurd h3 (by decide)
    | true =>
    cases s with
    | nil => rw [lex_end hs] at h ⊢; cases h; rfl
    | cons c r =>
      have h4 := (sk_ok hs).length_le
      simp only [List.length_cons] at h4
      cases ht : tok (if (c :: r).length = l.length then la else (0, [])) c r with
      | er e =>
        simp only [lex, hs, ht] at h
        injection h with h1 h2; injection h2 with h2 h3; exact absurd h3 (tok_er ht)
      | ok k t n re im rest =>
        have h6 := (tok_suf ht).length_le
        rw [lex_one hs ht] at h ⊢
        generalize hL : lex N f (k, t) rest = L at h
        obtain ⟨ts1, p1, e1⟩ := L
        unfold cons1 at h
        by_cases he : e1 = 0
        · subst he
          rw [if_pos rfl] at h
          injection h with h1 h2
          subst h1
          rw [ih (k, t) rest ts1 p1 (by omega) hL, cons1_ok]
          simp only [List.map_cons, sh, List.length_cons]
          have : N + d - (r.length + 1) = N - (r.length + 1) + d := by omega
          rw [this]
        · rw [if_neg he] at h
          injection h with h1 h2; injection h2 with h2 h3; exact absurd h3 he
theorem lex_gap {N f : Nat} {g b : List UInt8} (h : sk .bt (g ++ b) (g ++ b) = sk .bt b b) : lex N (f + 1) (0, []) (g ++ b) = lex N (f + 1) (0, []) b := by
  simp only [lex, h]
  cases hs : sk .bt b b with
  | mk ok s =>
    cases ok with
    | false => rfl
    | true =>
      cases s with
      | nil => rfl
      | cons x y =>
        have e1 : (if (x :: y).length = (g ++ b).length then ((0, []) : Int × List UInt8) else (0, [])) = (0, []) := by split <;> rfl
        have e2 : (if (x :: y).length = b.length then ((0, []) : Int × List UInt8) else (0, [])) = (0, []) := by split <;> rfl
        simp only [e1, e2]
/-- the four gaps -/
def gapL : Nat → List UInt8
  | 0 => [32]
  | 1 => [10, 9, 32]
  | 2 => [32, 37, 32, 97, 32, 114, 101, 109, 97, 114, 107, 10]
  | _ => [32, 47, 42, 32, 97, 110, 111, 116, 104, 101, 114, 32, 42, 32, 47, 32, 111, 110, 101, 32, 42, 47, 32]
theorem gap_sk (j : Nat) (b : List UInt8) : sk .bt (gapL j ++ b) (gapL j ++ b) = sk .bt b b := by
  have e := sk_bt
  match j with
  | 0 => simp only [gapL, List.cons_append, List.nil_append, sk]; rw [if_pos (by decide)]
  | 1 => simp only [gapL, List.cons_append, List.nil_append, sk]; rw [if_pos (by decide), if_pos (by decide), if_pos (by decide)]
  | 2 =>
    simp only [gapL, List.cons_append, List.nil_append, sk]
    simp [show mem blankL 32 = true by decide, show mem blankL 37 = false by decide]
  | j + 3 =>
    simp only [gapL, List.cons_append, List.nil_append, sk]
    simp [show mem blankL 32 = true by decide, show mem blankL 47 = false by decide]
theorem gap_wh (j : Nat) (b : List UInt8) : Wh (gapL j ++ b) := by
  match j with
  | 0 => exact Or.inr ⟨32, b, rfl, by decide⟩
  | 1 => exact Or.inr ⟨10, _, rfl, by decide⟩
  | 2 => exact Or.inr ⟨32, _, rfl, by decide⟩
  | j + 3 => exact Or.inr ⟨32, _, rfl, by decide⟩
theorem gap_len (j : Nat) : (gapL j).length ≤ 30 := by
  match j with
  | 0 => decide
  | 1 => decide
  | 2 => decide
  | j + 3 => exact (by decide : (23 : Nat) ≤ 30)
/-- TokenSpaces -/
theorem spaces {a b : List UInt8} (h37 : ∀ x ∈ a, x ≠ 37) (ha : a.length ≤ 1000) (hb : b.length ≤ 1000) {x y : List Tk} {p q : Nat} (hx : allT (a ++ [32]) = (x, p, 0)) (hy : allT b = (y, q, 0)) (j : Nat) :
    allT (a ++ (gapL j ++ b)) = (x ++ y.map (sh (a.length + (gapL j).length)), 0, 0) := by
  have hg := gap_len j
  unfold allT at hx hy ⊢
  rw [if_pos (by simp; omega)] at hx
  rw [if_pos (by omega)] at hy
  rw [if_pos (by simp; omega)]
  rw [List.length_append, List.length_singleton] at hx
  have h1 := lex_tail (gap_wh j b) _ (0, []) a x p h37 (List.suffix_refl _) (by simp) hx ((a ++ (gapL j ++ b)).length + 1) (by omega)
  rw [← List.length_append] at h1
  rw [h1]
  have hsh := lex_shift (d := a.length + (gapL j).length) _ (0, []) b y q (Nat.le_refl _) hy
  have e2 : lex (a ++ (gapL j ++ b)).length ((gapL j ++ b).length + 1) (0, []) (gapL j ++ b) = (y.map (sh (a.length + (gapL j).length)), 0, 0) := by
    rw [lex_gap (gap_sk j b), ← hsh]
    rw [show (a ++ (gapL j ++ b)).length = b.length + (a.length + (gapL j).length) by simp; omega]
    exact lex_fuel _ b.length b (Nat.le_refl _) _ _ _ (by simp; omega) (by omega)
  rw [e2]
  simp [comb]
end Go.Proofs.YtedbcmagjbgbjaaGreatDoor.tk
