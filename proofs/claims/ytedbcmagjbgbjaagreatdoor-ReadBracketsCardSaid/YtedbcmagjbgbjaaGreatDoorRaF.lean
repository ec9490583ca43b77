/- A text ahead of ' .': the same tokens ahead of any white space (for ReadBrackets). -/
import Derived.Test.YtedbcmagjbgbjaaGreatDoorTkS
import Derived.Test.YtedbcmagjbgbjaaGreatDoorRdP
namespace Go.Proofs.YtedbcmagjbgbjaaGreatDoor.tk
open Go.Proofs.YtedbcmagjbgbjaaGreatDoor.num Go.Proofs.YtedbcmagjbgbjaaGreatDoor.dec
set_option linter.unusedVariables false
theorem whD : Wh [32, 46] := Or.inr ⟨32, [46], rfl, by decide⟩
theorem stopsD {v : List UInt8} (hv : Wh v) (l : List UInt8) : stops (l ++ v) = stops (l ++ [32, 46]) := (stops_tail hv l).trans (stops_tail whD l).symm
theorem qt_tailD {v : List UInt8} (hv : Wh v) : ∀ (n : Nat) (l : List UInt8), l.length ≤ n → ∀ x, qt (l ++ [32, 46]) = some x → ∃ r', x.2 = r' ++ [32, 46] ∧ r' <:+ l ∧ qt (l ++ v) = some (x.1, r' ++ v) := by
  intro n
  induction n with
  | zero =>
    intro l hl x h
    obtain rfl : l = [] := List.eq_nil_of_length_eq_zero (by omega)
    rw [List.nil_append, qt_cons] at h; simp [qt] at h
  | succ n ih =>
    intro l hl x h
    cases l with
    | nil => rw [List.nil_append, qt_cons] at h; simp [qt] at h
    | cons c r =>
      have hr : r.length ≤ n := by simp at hl; omega
      have go : ∀ (d : UInt8) (q : List UInt8), q.length ≤ n → q <:+ c :: r → (qt (q ++ [32, 46])).map (fun x => (d :: x.1, x.2)) = some x →
          ∃ r', x.2 = r' ++ [32, 46] ∧ r' <:+ c :: r ∧ (qt (q ++ v)).map (fun x => (d :: x.1, x.2)) = some (x.1, r' ++ v) := by
        intro d q hq hs hm
        cases hqt : qt (q ++ [32, 46]) with
        | none => rw [hqt] at hm; cases hm
        | some y =>
          rw [hqt] at hm; cases hm
          obtain ⟨r', h1, h2, h3⟩ := ih q hq y hqt
          exact ⟨r', h1, h2.trans hs, by rw [h3]; rfl⟩
      rw [List.cons_append, qt_cons] at h
      rw [List.cons_append, qt_cons]
      by_cases h10 : c = 10
      · rw [if_pos h10] at h; cases h
      · rw [if_neg h10] at h ⊢
        by_cases h92 : c = 92
        · rw [if_pos h92] at h ⊢
          cases r with
          | nil => simp at h
          | cons d r' =>
            have hs : r' <:+ c :: d :: r' := (List.suffix_cons _ _).trans (List.suffix_cons _ _)
            have hr2 : r'.length ≤ n := by simp at hr; omega
            simp only [List.cons_append] at h ⊢
            by_cases hd : d = 110
            · rw [if_pos hd] at h ⊢; exact go _ _ hr2 hs h
            · rw [if_neg hd] at h ⊢
              by_cases hd2 : d = 92 ∨ d = 39
              · rw [if_pos hd2] at h ⊢; exact go _ _ hr2 hs h
              · rw [if_neg hd2] at h; cases h
        · rw [if_neg h92] at h ⊢
          by_cases h39 : c = 39
          · rw [if_pos h39] at h ⊢
            cases r with
            | nil =>
              simp only [List.nil_append] at h ⊢
              rw [if_neg (by decide)] at h
              cases h
              refine ⟨[], rfl, List.nil_suffix, ?_⟩
              rcases hv with rfl | ⟨d, y, rfl, hd⟩
              · rfl
              · simp only; rw [if_neg (blank d hd).2.2.1]; rfl
            | cons d r' =>
              have hs : r' <:+ c :: d :: r' := (List.suffix_cons _ _).trans (List.suffix_cons _ _)
              have hr2 : r'.length ≤ n := by simp at hr; omega
              simp only [List.cons_append] at h ⊢
              by_cases hd : d = 39
              · rw [if_pos hd] at h ⊢; exact go _ _ hr2 hs h
              · rw [if_neg hd] at h ⊢
                cases h
                exact ⟨d :: r', rfl, List.suffix_cons _ _, rfl⟩
          · rw [if_neg h39] at h ⊢
            exact go _ _ hr (List.suffix_cons _ _) h
theorem tok_tailD {v : List UInt8} (hv : Wh v) {la : Int × List UInt8} {c : UInt8} {r : List UInt8} {k : Int} {t : List UInt8} {n : Int} {re im : Nat} {rest : List UInt8} (h : tok la c (r ++ [32, 46]) = .ok k t n re im rest) :
    ∃ r', rest = r' ++ [32, 46] ∧ r' <:+ r ∧ tok la c (r ++ v) = .ok k t n re im (r' ++ v) := by
  have w1 := tw (p := wd) (fun c h => (blank c h).1) whD r
  have w2 := tw (p := wd) (fun c h => (blank c h).1) hv r
  have s1 := tw (p := sg) (fun c h => (blank c h).2.1) whD r
  have s2 := tw (p := sg) (fun c h => (blank c h).2.1) hv r
  unfold tok at h ⊢
  rw [w1.1, w1.2, s1.1, s1.2] at h
  rw [w2.1, w2.2, s2.1, s2.2]
  by_cases g1 : sm c = true
  · rw [if_pos g1] at h ⊢
    obtain ⟨e1, e2⟩ := txt_tail h (r.dropWhile wd ++ v)
    exact ⟨_, e1, drop_suf _ _, e2⟩
  · rw [if_neg g1] at h ⊢
    by_cases g2 : gr c = true ∨ c = 95
    · rw [if_pos g2] at h ⊢
      obtain ⟨e1, e2⟩ := txt_tail h (r.dropWhile wd ++ v)
      exact ⟨_, e1, drop_suf _ _, e2⟩
    · rw [if_neg g2] at h ⊢
      by_cases g3 : dg c = true
      · rw [if_pos g3] at h ⊢
        obtain ⟨e1, e2⟩ := nmb_tail h (r.dropWhile wd ++ v)
        exact ⟨_, e1, drop_suf _ _, e2⟩
      · rw [if_neg g3] at h ⊢
        by_cases g4 : sg c = true
        · rw [if_pos g4] at h ⊢
          rw [stopsD hv]
          by_cases g5 : c :: r.takeWhile sg = [46] ∧ stops (r.dropWhile sg ++ [32, 46]) = true
          · rw [if_pos g5] at h ⊢; cases h; exact ⟨_, rfl, drop_suf _ _, rfl⟩
          · rw [if_neg g5] at h ⊢
            obtain ⟨e1, e2⟩ := txt_tail h (r.dropWhile sg ++ v)
            exact ⟨_, e1, drop_suf _ _, e2⟩
        · rw [if_neg g4] at h ⊢
          by_cases g6 : mem soloL c = true
          · rw [if_pos g6] at h ⊢
            obtain ⟨e1, e2⟩ := txt_tail h (r ++ v)
            exact ⟨_, e1, List.suffix_refl _, e2⟩
          · rw [if_neg g6] at h ⊢
            by_cases g7 : mem punctL c = true
            · rw [if_pos g7] at h ⊢
              by_cases g8 : c = 40 ∧ (la.1 = 1 ∨ la.1 = 2)
              · rw [if_pos g8] at h ⊢; cases h; exact ⟨_, rfl, List.suffix_refl _, rfl⟩
              · rw [if_neg g8] at h ⊢
                obtain ⟨e1, e2⟩ := txt_tail h (r ++ v)
                exact ⟨_, e1, List.suffix_refl _, e2⟩
            · rw [if_neg g7] at h ⊢
              by_cases g9 : c = 39
              · rw [if_pos g9] at h ⊢
                cases hq : qt (r ++ [32, 46]) with
                | none => rw [hq] at h; cases h
                | some x =>
                  rw [hq] at h
                  obtain ⟨r', h1, h2, h3⟩ := qt_tailD hv _ r (Nat.le_refl _) x hq
                  rw [h3]
                  obtain ⟨e1, e2⟩ := txt_tail h (r' ++ v)
                  exact ⟨r', by rw [e1, h1], h2, e2⟩
              · rw [if_neg g9] at h; cases h
theorem sk_tailD {v : List UInt8} (hv : Wh v) : ∀ (l : List UInt8), (∀ x ∈ l, x ≠ 37) → ∀ (m : Md) (b p : List UInt8), Nxt m l → sk m b (l ++ [32, 46]) = (true, p) →
    (p = [46] ∧ ∀ b', sk m b' (l ++ v) = sk .bt v v) ∨ (∃ q, p = q ++ [32, 46] ∧ q ≠ [] ∧ q <:+ l ∧ ∀ b', sk m b' (l ++ v) = (true, q ++ v)) := by
  have n42 : mem blankL 42 = false := by decide
  have n47 : mem blankL 47 = false := by decide
  intro l
  induction l with
  | nil =>
    intro _ m b p hm h
    cases m with
    | bt =>
      simp only [List.nil_append, sk] at h
      rw [if_pos (by decide), if_neg (by decide), if_neg (by decide), if_neg (by simp)] at h
      cases h
      exact Or.inl ⟨rfl, fun b' => sk_bt _ _ _⟩
    | ln => exact hm.elim
    | b0 => cases hm
    | bk =>
      simp only [List.nil_append, sk] at h
      rw [if_neg (by simp), if_neg (by simp)] at h
      cases h
    | b1 => cases hm
  | cons c r ih =>
    intro h37 m b p hm h
    have hr37 : ∀ x ∈ r, x ≠ 37 := fun x hx => h37 x (List.mem_cons_of_mem _ hx)
    have up : ∀ m' b2 p, Nxt m' r → sk m' b2 (r ++ [32, 46]) = (true, p) → (p = [46] ∧ ∀ b', sk m' b' (r ++ v) = sk .bt v v) ∨ (∃ q, p = q ++ [32, 46] ∧ q ≠ [] ∧ q <:+ c :: r ∧ ∀ b', sk m' b' (r ++ v) = (true, q ++ v)) := by
      intro m' b2 p hn hs
      rcases ih hr37 m' b2 p hn hs with h | ⟨q, h1, h2, h3, h4⟩
      · exact Or.inl h
      · exact Or.inr ⟨q, h1, h2, h3.trans (List.suffix_cons _ _), h4⟩
    cases m with
    | ln => exact hm.elim
    | bt =>
      simp only [List.cons_append, sk] at h ⊢
      by_cases g1 : mem blankL c = true
      · simp only [if_pos g1] at h ⊢
        rcases up .bt _ p trivial h with h | ⟨q, h1, h2, h3, h4⟩
        · exact Or.inl ⟨h.1, fun b' => h.2 _⟩
        · exact Or.inr ⟨q, h1, h2, h3, fun b' => h4 _⟩
      · have g2 : c ≠ 37 := h37 c (List.mem_cons_self)
        simp only [if_neg g1, if_neg g2] at h ⊢
        simp only [head_tail whD n42, head_tail hv n42] at h ⊢
        by_cases g3 : c = 47 ∧ r.head? = some 42
        · simp only [if_pos g3] at h ⊢
          rcases up .b0 _ p g3.2 h with h | ⟨q, h1, h2, h3, h4⟩
          · exact Or.inl ⟨h.1, fun b' => h.2 _⟩
          · exact Or.inr ⟨q, h1, h2, h3, fun b' => h4 _⟩
        · simp only [if_neg g3] at h ⊢
          cases h
          exact Or.inr ⟨c :: r, rfl, by simp, List.suffix_refl _, fun b' => rfl⟩
    | b0 =>
      simp only [List.cons_append, sk] at h ⊢
      exact up .bk _ p trivial h
    | bk =>
      simp only [List.cons_append, sk] at h ⊢
      simp only [head_tail whD n47, head_tail hv n47] at h ⊢
      by_cases g3 : c = 42 ∧ r.head? = some 47
      · simp only [if_pos g3] at h ⊢
        exact up .b1 _ p g3.2 h
      · simp only [if_neg g3] at h ⊢
        exact up .bk _ p trivial h
    | b1 =>
      simp only [List.cons_append, sk] at h ⊢
      rcases up .bt _ p trivial h with h | ⟨q, h1, h2, h3, h4⟩
      · exact Or.inl ⟨h.1, fun b' => h.2 _⟩
      · exact Or.inr ⟨q, h1, h2, h3, fun b' => h4 _⟩
/-- a stop is a stop's byte alone -/
theorem tok_k8 {la : Int × List UInt8} {c : UInt8} {r : List UInt8} {t : List UInt8} {n : Int} {re im : Nat} {rest : List UInt8} (h : tok la c r = .ok 8 t n re im rest) : c = 46 := by
  have T : ∀ k' t' rest', txt k' t' rest' = .ok 8 t n re im rest → k' = 8 := by
    intro k' t' rest' h
    unfold txt at h; split at h
    · cases h; rfl
    · cases h
  unfold tok at h
  split at h
  · have := T _ _ _ h; omega
  split at h
  · have := T _ _ _ h; omega
  split at h
  · unfold nmb at h
    split at h
    · cases h
    split at h
    · cases h
    split at h <;> cases h
  split at h
  · split at h
    · rename_i h5
      have h6 := h5.1
      simp only [List.cons.injEq] at h6
      exact h6.1
    · have := T _ _ _ h; omega
  split at h
  · have := T _ _ _ h; omega
  split at h
  · split at h
    · cases h
    · have := T _ _ _ h; omega
  split at h
  · split at h
    · cases h
    · have := T _ _ _ h; omega
  · cases h
theorem lex_dot (N f : Nat) (la : Int × List UInt8) (l : List UInt8) (h : sk .bt l l = (true, [46])) : lex N (f + 1) la l = ([⟨8, [], 0, 0, 0, N - 1⟩], 0, 0) := by
  have ht : ∀ la, tok la 46 [] = .ok 8 [] 0 0 0 [] := by
    intro la
    unfold tok
    rw [if_neg (by decide), if_neg (by decide), if_neg (by decide), if_pos (by decide), if_pos (by constructor <;> decide)]
    rfl
  rw [lex_one h (ht _)]
  cases f with
  | zero => simp [cons1, lex]
  | succ f => simp [cons1, lex, sk]
/-- a text without stops and remarks, ahead of ' .': its tokens, and what they are ahead of any white space -/
theorem lex_tailD {A : List UInt8} : ∀ (f : Nat) (la : Int × List UInt8) (l : List UInt8) (ts : List Tk) (p : Nat), (∀ x ∈ l, x ≠ 37 ∧ x ≠ 46) → l <:+ A → (l ++ [32, 46]).length < f →
    lex (A.length + 2) f la (l ++ [32, 46]) = (ts, p, 0) → ∃ ts' e, ts = ts' ++ [e] ∧ e.k = 8 ∧ rd.noEnd ts' ∧ ts'.length ≤ l.length ∧
      ∀ v, Wh v → ∀ g, (l ++ v).length < g → lex (A.length + v.length) g la (l ++ v) = comb ts' (lex (A.length + v.length) (v.length + 1) (0, []) v) := by
  intro f
  induction f with
  | zero => intro la l ts p _ _ h; omega
  | succ f ih =>
    intro la l ts p h37 hl hf h
    have h37' : ∀ x ∈ l, x ≠ 37 := fun x hx => (h37 x hx).1
    cases hs : sk .bt (l ++ [32, 46]) (l ++ [32, 46]) with
    | mk ok s =>
    cases ok with
    | false => simp only [lex, hs] at h; injection h with h1 h2; injection h2 with h2 h3; exact absurd h3 (by decide)
    | true =>
    rcases sk_tailD whD l h37' .bt _ s trivial hs with ⟨rfl, -⟩ | ⟨q, rfl, hq, hql, -⟩
    · rw [lex_dot _ _ _ _ hs] at h
      cases h
      refine ⟨[], _, rfl, rfl, (fun t ht => nomatch ht), by simp, ?_⟩
      intro v hv g hg
      cases g with
      | zero => omega
      | succ g =>
      obtain ⟨-, hsv⟩ | ⟨q, hq1, hq2, -⟩ := sk_tailD hv l h37' .bt _ _ trivial hs
      · have e1 : lex (A.length + v.length) (g + 1) la (l ++ v) = lex (A.length + v.length) (g + 1) (0, []) v := by
          by_cases hl0 : l = []
          · subst hl0; exact lex_wh hv la
          · simp only [lex, hsv]
            cases hsk : sk .bt v v with
            | mk ok s =>
              cases ok with
              | false => rfl
              | true =>
                cases s with
                | nil => rfl
                | cons x y =>
                  have h1 := (sk_ok hsk).length_le
                  have h2 := List.length_pos_iff.2 hl0
                  simp only
                  rw [if_neg (by simp only [List.length_append]; omega)]
                  have e2 : (if (x :: y).length = v.length then ((0, []) : Int × List UInt8) else (0, [])) = (0, []) := by split <;> rfl
                  rw [e2]
        rw [e1, lex_fuel _ v.length v (Nat.le_refl _) (g + 1) (v.length + 1) (0, []) (by simp only [List.length_append] at hg; omega) (by omega)]
        generalize hR2 : lex (A.length + v.length) (v.length + 1) (0, []) v = R
        obtain ⟨ts2, p2, e2⟩ := R
        have hbad := lex_bad _ _ _ _ _ _ hR2
        have hp0 := lex_p0 (v.length + 1) (0, []) v (N := A.length + v.length)
        rw [hR2] at hp0
        unfold comb
        by_cases he : e2 = 0
        · subst he; simp
        · simp only [he, if_false]; rw [hbad he]
      · exfalso
        have := congrArg List.length hq1
        have h0 := List.length_pos_iff.2 hq2
        simp only [List.length_append, List.length_cons, List.length_nil] at this
        omega
    · obtain ⟨c, r, rfl⟩ : ∃ c r, q = c :: r := by
        cases q with
        | nil => exact absurd rfl hq
        | cons c r => exact ⟨c, r, rfl⟩
      have hqA := hql.trans hl
      have hlen := hqA.length_le
      have hlen2 := hql.length_le
      have hs0 := hs
      simp only [List.cons_append] at hs
      cases ht : tok (if (c :: (r ++ [32, 46])).length = (l ++ [32, 46]).length then la else (0, [])) c (r ++ [32, 46]) with
      | er e =>
        simp only [lex, hs, ht] at h
        injection h with h1 h2; injection h2 with h2 h3; exact absurd h3 (tok_er ht)
      | ok k t n re im rest =>
        have hx := lex_one (N := A.length + 2) (f := f) hs ht
        obtain ⟨r', hre, hr', -⟩ := tok_tailD whD ht
        subst hre
        rw [h] at hx
        have hrs : r' <:+ A := hr'.trans ((List.suffix_cons _ _).trans hqA)
        have hrl := hr'.length_le
        have hk8 : k ≠ 8 := by
          rintro rfl
          exact (h37 c (hql.subset (List.mem_cons_self))).2 (tok_k8 ht)
        simp only [List.length_cons] at hlen hlen2
        generalize hL : lex (A.length + 2) f (k, t) (r' ++ [32, 46]) = L at hx
        obtain ⟨ts1, p1, e1⟩ := L
        unfold cons1 at hx
        by_cases he : e1 = 0
        · subst he
          rw [if_pos rfl] at hx
          injection hx with hx1 hx2
          subst hx1
          obtain ⟨ts2, e, rfl, hek, hne, hle, hall⟩ := ih (k, t) r' ts1 p1 (fun x hx => h37 x ((hr'.trans ((List.suffix_cons _ _).trans hql)).subset hx)) hrs (by simp only [List.length_append, List.length_cons, List.length_nil] at *; omega) hL
          refine ⟨_ :: ts2, e, rfl, hek, ?_, by simp only [List.length_cons]; omega, ?_⟩
          · intro y hy
            rcases List.mem_cons.1 hy with rfl | hy
            · exact hk8
            · exact hne y hy
          intro v hv g hg
          cases g with
          | zero => omega
          | succ g =>
          obtain ⟨hqq, -⟩ | ⟨q2, hq2, -, -, hsv⟩ := sk_tailD hv l h37' .bt _ _ trivial hs0
          · exfalso
            have := congrArg List.length hqq
            simp at this
          · have hq3 : q2 = c :: r := (List.append_cancel_right hq2).symm
            subst hq3
            have hv1 := hsv (l ++ v)
            simp only [List.cons_append] at hv1
            have hcond : ((c :: (r ++ [32, 46])).length = (l ++ [32, 46]).length) ↔ (c :: (r ++ v)).length = (l ++ v).length := by simp; omega
            obtain ⟨r2, hr2, -, ht2⟩ := tok_tailD hv ht
            have hr3 : r2 = r' := (List.append_cancel_right hr2).symm
            subst hr3
            have ht3 : tok (if (c :: (r ++ v)).length = (l ++ v).length then la else (0, [])) c (r ++ v) = .ok k t n re im (r2 ++ v) := by
              by_cases hb : (c :: (r ++ [32, 46])).length = (l ++ [32, 46]).length
              · rw [if_pos hb] at ht2; rw [if_pos (hcond.1 hb)]; exact ht2
              · rw [if_neg hb] at ht2; rw [if_neg (fun h => hb (hcond.2 h))]; exact ht2
            rw [lex_one hv1 ht3, hall v hv g (by simp only [List.length_append] at *; omega), cons1_comb _ _ (lex_p0 _ _ _)]
            have ea : A.length + v.length - (c :: (r ++ v)).length = A.length + 2 - (c :: (r ++ [32, 46])).length := by simp; omega
            rw [ea]
        · rw [if_neg he] at hx
          injection hx with hx1 hx2
          injection hx2 with hx2 hx3
          exact absurd hx3.symm he
end Go.Proofs.YtedbcmagjbgbjaaGreatDoor.tk
