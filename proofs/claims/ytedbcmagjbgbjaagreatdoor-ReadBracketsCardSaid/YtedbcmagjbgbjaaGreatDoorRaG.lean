/- A whole term in brackets is the term; twice, too; as an argument it is that argument: the mathematics (for ReadBrackets). -/
import Derived.Test.YtedbcmagjbgbjaaGreatDoorRaF
import Derived.Test.YtedbcmagjbgbjaaGreatDoorRdW
namespace Go.Proofs.YtedbcmagjbgbjaaGreatDoor.rd
open Go.Proofs.YtedbcmagjbgbjaaGreatDoor.num Go.Proofs.YtedbcmagjbgbjaaGreatDoor.tk
set_option linter.unusedVariables false
theorem map_sh (d d' : Nat) (l : List Tk) : (l.map (sh d)).map (sh d') = l.map (sh (d + d')) := by
  rw [List.map_map]; congr 1; funext x; simp [sh, Nat.add_assoc]
/-- the tokens of a text with that behind it, in a text that began d bytes ahead -/
theorem lex_mid {s v : List UInt8} {ts' vt : List Tk} (hall : ∀ v, Wh v → ∀ g, (s ++ v).length < g → lex (s.length + v.length) g (0, []) (s ++ v) = comb ts' (lex (s.length + v.length) (v.length + 1) (0, []) v))
    (hv : Wh v) (hvt : lex v.length (v.length + 1) (0, []) v = (vt, 0, 0)) (d : Nat) : ∀ g, (s ++ v).length < g → lex (s.length + v.length + d) g (0, []) (s ++ v) = ((ts' ++ vt.map (tk.sh s.length)).map (tk.sh d), 0, 0) := by
  intro g hg
  have h1 := lex_shift (N := v.length) (d := s.length) _ _ _ _ _ (Nat.le_refl _) hvt
  rw [Nat.add_comm] at h1
  have h2 := hall v hv g hg
  rw [h1] at h2
  simp only [comb, if_true] at h2
  exact lex_shift _ _ _ _ _ (by simp) h2
def o6 (a : Nat) : Tk := ⟨6, [40], 0, 0, 0, a⟩
def c6 (a : Nat) : Tk := ⟨6, [41], 0, 0, 0, a⟩
def d8 (a : Nat) : Tk := ⟨8, [], 0, 0, 0, a⟩
theorem lex_open {N f : Nat} {x : List UInt8} : lex N (f + 2) (0, []) (40 :: 32 :: x) = cons1 (o6 (N - (x.length + 2))) (lex N (f + 1) (0, []) x) := by
  rw [lex_one (c := 40) (r := 32 :: x) (k := 6) (t := [40]) (n := 0) (re := 0) (im := 0) (rest := 32 :: x) (sk_fresh _ _ (by decide))]
  · rw [lex_blank (by decide)]; rfl
  · have : ∀ b : Bool, tok (if b then ((0, []) : Int × List UInt8) else (0, [])) 40 (32 :: x) = .ok 6 [40] 0 0 0 (32 :: x) := by
      intro b
      unfold tok
      rw [if_neg (by decide), if_neg (by decide), if_neg (by decide), if_neg (by decide), if_neg (by decide), if_pos (by decide), if_neg (by cases b <;> simp)]
      rfl
    split
    · exact this true
    · exact this false
theorem lex_fopen {N f : Nat} {x : List UInt8} : lex N (f + 3) (0, []) (102 :: 40 :: 32 :: x) = cons1 ⟨1, [102], 0, 0, 0, N - (x.length + 3)⟩ (cons1 ⟨7, [], 0, 0, 0, N - (x.length + 2)⟩ (lex N (f + 1) (0, []) x)) := by
  have h1 := lex_word (N := N) (f := f + 2) (la := (0, [])) (a := [102]) (r := 40 :: 32 :: x) (by simp) (by decide) (by simp) (by intro c hc; simp at hc; subst hc; decide)
  rw [List.cons_append, List.nil_append] at h1
  rw [h1]
  rw [lex_one (c := 40) (r := 32 :: x) (k := 7) (t := []) (n := 0) (re := 0) (im := 0) (rest := 32 :: x) (sk_fresh _ _ (by decide))]
  · rw [lex_blank (by decide)]; rfl
  · rw [if_pos rfl]
    unfold tok
    rw [if_neg (by decide), if_neg (by decide), if_neg (by decide), if_neg (by decide), if_neg (by decide), if_pos (by decide), if_pos ⟨rfl, Or.inl rfl⟩]
section
variable {O : OT} {N : Nat} {t : Tm} {ns : Names}
/-- brackets around what is read -/
theorem paren {f : Nat} {most : Int} {l : Nat} {o c : Tk} {Y R : List Tk} (ho : o.k = 6 ∧ o.t = [40]) (hc : isP c 41 = true) (hm : 0 ≤ most) (hl : l ≤ 2000) (hR : infx O (see N R 0) = false)
    (H : term true O N f 1200 (l + 1) Y [] = .ok t (c :: R) ns) : term true O N (f + 1) most l (o :: Y) [] = .ok t R ns := by
  show step true O N (term true O N f) most l (o :: Y) [] = _
  have hb : begs true O N most (o :: Y) = (5, 0) := by
    unfold begs
    simp [see, ho.1, ho.2]
  unfold step
  rw [hb]
  simp only
  rw [if_neg (by simp; omega), if_neg (by omega)]
  have hf : first O N (term true O N f) 5 l (o :: Y) [] = .ok t R ns := by
    unfold first
    simp only
    rw [if_neg (by decide), if_neg (by decide), if_neg (by decide), if_pos trivial, List.tail_cons, H]
    unfold shut
    simp only [PR.bind]
    have : see N (c :: R) 0 = c := rfl
    rw [this, hc]
    rfl
  rw [hf]
  simp only [PR.bind, goOn]
  rw [hR]
  simp
/-- a name's only argument -/
theorem call1 {f : Nat} {l : Nat} {g : List UInt8} {fa oa : Nat} {c : Tk} {Y R : List Tk} (hc : isP c 41 = true) (hl : l ≤ 2000) (hR : infx O (see N R 0) = false)
    (H : term true O N f 999 (l + 1) Y [] = .ok t (c :: R) ns) : term true O N (f + 1) 1200 l (⟨1, g, 0, 0, 0, fa⟩ :: ⟨7, [], 0, 0, 0, oa⟩ :: Y) [] = .ok (tm.comp (nm g) [t]) R ns := by
  show step true O N (term true O N f) 1200 l _ [] = _
  have hb : begs true O N 1200 (⟨1, g, 0, 0, 0, fa⟩ :: ⟨7, [], 0, 0, 0, oa⟩ :: Y) = (3, 0) := by
    unfold begs atomB
    simp [see]
  unfold step
  rw [hb]
  simp only
  rw [if_neg (by simp), if_neg (by omega)]
  have hcc : see N (c :: R) 0 = c := rfl
  have h44 : isP c 44 = false := by
    unfold isP at hc ⊢
    simp only [Bool.and_eq_true, decide_eq_true_eq] at hc
    rw [hc.2]; simp
  have hf : first O N (term true O N f) 3 l (⟨1, g, 0, 0, 0, fa⟩ :: ⟨7, [], 0, 0, 0, oa⟩ :: Y) [] = .ok (tm.comp (nm g) [t]) R ns := by
    unfold first
    simp only
    rw [if_neg (by decide), if_pos trivial]
    simp only [List.tail_cons, row, H, PR.bind]
    rw [hcc, h44]
    simp only [Bool.false_eq_true, if_false, shut, PR.bind]
    rw [hcc, hc]
    rfl
  rw [hf]
  simp only [PR.bind, goOn]
  rw [hR]
  simp
theorem infx_c (a : Nat) (R : List Tk) : infx O (see N (c6 a :: R) 0) = false := by simp [infx, see, c6, isP]
theorem infx_d (a : Nat) (R : List Tk) : infx O (see N (d8 a :: R) 0) = false := by simp [infx, see, d8, isP]
theorem isP_c (a : Nat) : isP (c6 a) 41 = true := by simp [isP, c6]
/-- read.Term of tokens whose term is read to the stop -/
theorem termOf_ok {ts : List Tk} {a : Nat} (H : term true O N (ts.length + 1) 1200 0 ts [] = .ok t [d8 a] ns) (hm : tm.may t = 0) : termOf true O N ts = .ok t ns (see N ts 0).a [] := by
  unfold termOf clause
  rw [H]
  have : (see N [d8 a] 0).k = 8 := rfl
  simp only
  rw [if_pos this, if_pos hm]
  simp
end
/-- no remark, no end of a clause -/
def Calm (s : List UInt8) : Prop := ∀ x ∈ s, x ≠ 37 ∧ x ≠ 46
theorem v1_lex : lex 4 5 (0, []) [32, 41, 32, 46] = ([c6 1, d8 3], 0, 0) := by decide +kernel
theorem v2_lex : lex 6 7 (0, []) [32, 41, 32, 41, 32, 46] = ([c6 1, c6 3, d8 5], 0, 0) := by decide +kernel
theorem whc (l : List UInt8) : Wh (32 :: l) := Or.inr ⟨32, l, rfl, by decide⟩
/-- what is read of a text, and what its tokens are read as elsewhere -/
theorem read_toks {tl : List opa.D} {s : List UInt8} {t : Tm} {ns : Names} {p : Nat} {r : List Tk} (hs : Calm s) (hl : s.length ≤ 1000) (h : readT tl (s ++ [32, 46]) = .ok t ns p r) :
    ∃ ts', tm.may t = 0 ∧ ts'.length ≤ 1000 ∧ (∀ v, Wh v → ∀ g, (s ++ v).length < g → lex (s.length + v.length) g (0, []) (s ++ v) = comb ts' (lex (s.length + v.length) (v.length + 1) (0, []) v)) ∧
      ∀ (N' d f' l2 : Nat) (e' : Tk) (B : List Tk), Stop e' → ts'.length < f' → l2 ≤ 1000 → term true (OTof tl) N' f' 1200 l2 (ts'.map (sh d) ++ e' :: B) [] = .ok t (e' :: B) ns := by
  unfold readT at h
  split at h
  · cases h
  · rename_i he
    have he0 : (allT (s ++ [32, 46])).2.2 = 0 := by simpa using he
    have hal : allT (s ++ [32, 46]) = lex (s.length + 2) (s.length + 3) (0, []) (s ++ [32, 46]) := by
      unfold allT; rw [if_pos (by simp; omega)]
      simp
    obtain ⟨ts, q, e, hts⟩ : ∃ ts q e, allT (s ++ [32, 46]) = (ts, q, e) := ⟨_, _, _, rfl⟩
    rw [hts] at he0 h
    simp only at he0 h
    subst he0
    rw [hal] at hts
    obtain ⟨ts', e, rfl, hek, hne, hle, hall⟩ := lex_tailD (A := s) _ _ s ts q hs (List.suffix_refl _) (by simp) hts
    unfold termOf at h
    split at h
    · cases h
    · rename_i t' n' a' r' hc
      split at h
      · rename_i hr0
        cases h
        unfold clause at hc
        split at hc
        · cases hc
        · rename_i t2 r2 n2 hterm
          split at hc
          · rename_i h8
            split at hc
            · rename_i hmay
              injection hc with h1 h2 h3 h4
              subst h1 h2
              have hr2 : r2.tail = [] := by rw [h4]; exact hr0
              refine ⟨ts', hmay, by omega, hall, ?_⟩
              intro N' d f' l2 e' B hst hf hl2
              obtain ⟨b, hb1, hb2, hb3, hb4⟩ := term_sim (N' := N') (d := d) (B := B) (A := []) hek hst _ f' 1200 0 l2 ts' [] _ _ _ hf hne (by omega) hterm
              have hb0 : b = [] := by
                cases b with
                | nil => rfl
                | cons x b =>
                  rw [hb3] at hr2
                  simp at hr2
              rw [hb0] at hb4
              exact hb4
            · cases hc
          · cases hc
      · cases h
theorem Stop.c (a : Nat) : Stop (c6 a) := Or.inr ⟨rfl, rfl⟩
theorem readT_of {tl : List opa.D} {S : List UInt8} {ts : List Tk} {t : Tm} {ns : Names} {a : Nat} (hS : S.length ≤ 65536) (hl : lex S.length (S.length + 1) (0, []) S = (ts, 0, 0))
    (H : term true (OTof tl) S.length (ts.length + 1) 1200 0 ts [] = .ok t [d8 a] ns) (hm : tm.may t = 0) : readT tl S = .ok t ns (see S.length ts 0).a [] := by
  have hal : allT S = (ts, 0, 0) := by unfold allT; rw [if_pos hS, hl]
  unfold readT
  rw [hal]
  simp only
  rw [if_neg (by simp)]
  exact termOf_ok H hm
theorem cons1_zero (x : Tk) (ts : List Tk) : cons1 x (ts, 0, 0) = (x :: ts, 0, 0) := cons1_ok x ts 0
/-- a whole term in brackets is the term; twice, too; as an argument it is that argument -/
theorem brackets {tl : List opa.D} {s : List UInt8} {t : Tm} {ns : Names} {p : Nat} {r : List Tk} (hs : Calm s) (hl : s.length ≤ 1000) (h : readT tl (s ++ [32, 46]) = .ok t ns p r) :
    tm.may t = 0 ∧ (∃ a, readT tl ([40, 32] ++ s ++ [32, 41, 32, 46]) = .ok t ns a []) ∧ (∃ a, readT tl ([40, 32, 40, 32] ++ s ++ [32, 41, 32, 41, 32, 46]) = .ok t ns a []) ∧
      (tm.may (tm.comp (nm [102]) [t]) = 0 → ∃ a, readT tl ([102, 40, 32, 40, 32] ++ s ++ [32, 41, 32, 41, 32, 46]) = .ok (tm.comp (nm [102]) [t]) ns a []) := by
  obtain ⟨ts', hmay, hle, hall, hterm⟩ := read_toks hs hl h
  refine ⟨hmay, ?_, ?_, ?_⟩
  · have hm : lex (s.length + 4 + 2) (s.length + 6) (0, []) (s ++ [32, 41, 32, 46]) = _ := lex_mid (d := 2) hall (whc [41, 32, 46]) v1_lex (s.length + 6) (by simp)
    have e1 : ([40, 32] ++ s ++ [32, 41, 32, 46] : List UInt8) = 40 :: 32 :: (s ++ [32, 41, 32, 46]) := by simp
    rw [e1]
    have hlx : lex (40 :: 32 :: (s ++ [32, 41, 32, 46])).length ((40 :: 32 :: (s ++ [32, 41, 32, 46])).length + 1) (0, []) (40 :: 32 :: (s ++ [32, 41, 32, 46])) = (o6 0 :: (ts' ++ [c6 1, d8 3].map (tk.sh s.length)).map (tk.sh 2), 0, 0) := by
      have en : (40 :: 32 :: (s ++ [32, 41, 32, 46])).length = s.length + 4 + 2 := by simp
      rw [en, lex_open, hm, cons1_zero]
      simp
    refine ⟨_, readT_of (a := 3 + s.length + 2) (by simp; omega) hlx ?_ hmay⟩
    simp only [List.map_append, List.map_cons, List.map_nil, List.length_cons, List.length_append, List.length_map, List.length_nil]
    refine paren (c := c6 (1 + s.length + 2)) ⟨rfl, rfl⟩ (isP_c _) (by decide) (by omega) (infx_d _ _) ?_
    exact hterm _ 2 _ 1 _ _ (Stop.c _) (by omega) (by omega)
  · have hm : lex (s.length + 6 + 4) (s.length + 9) (0, []) (s ++ [32, 41, 32, 41, 32, 46]) = _ := lex_mid (d := 4) hall (whc [41, 32, 41, 32, 46]) v2_lex (s.length + 9) (by simp)
    have e1 : ([40, 32, 40, 32] ++ s ++ [32, 41, 32, 41, 32, 46] : List UInt8) = 40 :: 32 :: 40 :: 32 :: (s ++ [32, 41, 32, 41, 32, 46]) := by simp
    rw [e1]
    have hlx : lex (40 :: 32 :: 40 :: 32 :: (s ++ [32, 41, 32, 41, 32, 46])).length ((40 :: 32 :: 40 :: 32 :: (s ++ [32, 41, 32, 41, 32, 46])).length + 1) (0, []) (40 :: 32 :: 40 :: 32 :: (s ++ [32, 41, 32, 41, 32, 46])) = (o6 0 :: o6 2 :: (ts' ++ [c6 1, c6 3, d8 5].map (tk.sh s.length)).map (tk.sh 4), 0, 0) := by
      have en : (40 :: 32 :: 40 :: 32 :: (s ++ [32, 41, 32, 41, 32, 46])).length = s.length + 6 + 4 := by simp
      rw [en, lex_open, lex_open, hm, cons1_zero, cons1_zero]
      simp
    refine ⟨_, readT_of (a := 5 + s.length + 4) (by simp; omega) hlx ?_ hmay⟩
    simp only [List.map_append, List.map_cons, List.map_nil, List.length_cons, List.length_append, List.length_map, List.length_nil]
    refine paren (c := c6 (3 + s.length + 4)) ⟨rfl, rfl⟩ (isP_c _) (by decide) (by omega) (infx_d _ _) ?_
    refine paren (c := c6 (1 + s.length + 4)) ⟨rfl, rfl⟩ (isP_c _) (by decide) (by omega) (infx_c _ _) ?_
    exact hterm _ 4 _ 2 _ _ (Stop.c _) (by omega) (by omega)
  · intro hmc
    have hm : lex (s.length + 6 + 5) (s.length + 9) (0, []) (s ++ [32, 41, 32, 41, 32, 46]) = _ := lex_mid (d := 5) hall (whc [41, 32, 41, 32, 46]) v2_lex (s.length + 9) (by simp)
    have e1 : ([102, 40, 32, 40, 32] ++ s ++ [32, 41, 32, 41, 32, 46] : List UInt8) = 102 :: 40 :: 32 :: 40 :: 32 :: (s ++ [32, 41, 32, 41, 32, 46]) := by simp
    rw [e1]
    have hlx : lex (102 :: 40 :: 32 :: 40 :: 32 :: (s ++ [32, 41, 32, 41, 32, 46])).length ((102 :: 40 :: 32 :: 40 :: 32 :: (s ++ [32, 41, 32, 41, 32, 46])).length + 1) (0, []) (102 :: 40 :: 32 :: 40 :: 32 :: (s ++ [32, 41, 32, 41, 32, 46])) = (⟨1, [102], 0, 0, 0, 0⟩ :: ⟨7, [], 0, 0, 0, 1⟩ :: o6 3 :: (ts' ++ [c6 1, c6 3, d8 5].map (tk.sh s.length)).map (tk.sh 5), 0, 0) := by
      have en : (102 :: 40 :: 32 :: 40 :: 32 :: (s ++ [32, 41, 32, 41, 32, 46])).length = s.length + 6 + 5 := by simp
      rw [en, lex_fopen, lex_open, hm, cons1_zero, cons1_zero, cons1_zero]
      simp
    refine ⟨_, readT_of (a := 5 + s.length + 5) (by simp; omega) hlx ?_ hmc⟩
    simp only [List.map_append, List.map_cons, List.map_nil, List.length_cons, List.length_append, List.length_map, List.length_nil]
    refine call1 (c := c6 (3 + s.length + 5)) (isP_c _) (by omega) (infx_d _ _) ?_
    refine paren (c := c6 (1 + s.length + 5)) ⟨rfl, rfl⟩ (isP_c _) (by decide) (by omega) (infx_c _ _) ?_
    exact hterm _ 5 _ 2 _ _ (Stop.c _) (by omega) (by omega)
end Go.Proofs.YtedbcmagjbgbjaaGreatDoor.rd
