/- Quoted names are one token: the mathematics. -/
import Derived.Test.YtedbcmagjbgbjaaGreatDoorTkS
namespace Go.Proofs.YtedbcmagjbgbjaaGreatDoor.tk
open Go.Proofs.YtedbcmagjbgbjaaGreatDoor.num Go.Proofs.YtedbcmagjbgbjaaGreatDoor.dec
set_option linter.unusedVariables false
theorem wd_b : ∀ n : Fin 256, wd (UInt8.ofNat n.val) = true → UInt8.ofNat n.val ≠ 37 ∧ UInt8.ofNat n.val ≠ 32 := by decide +kernel
theorem sg_b : ∀ n : Fin 256, sg (UInt8.ofNat n.val) = true → UInt8.ofNat n.val ≠ 37 ∧ UInt8.ofNat n.val ≠ 32 := by decide +kernel
theorem sl_b : ∀ n : Fin 256, mem soloL (UInt8.ofNat n.val) = true → UInt8.ofNat n.val ≠ 37 ∧ UInt8.ofNat n.val ≠ 32 := by decide +kernel
theorem sw_b : ∀ n : Fin 256, sm (UInt8.ofNat n.val) = true → wd (UInt8.ofNat n.val) = true := by decide +kernel
theorem wd_37 (c : UInt8) (h : wd c = true) : c ≠ 37 ∧ c ≠ 32 := byte_all (P := fun c => wd c = true → c ≠ 37 ∧ c ≠ 32) wd_b c h
theorem sg_37 (c : UInt8) (h : sg c = true) : c ≠ 37 ∧ c ≠ 32 := byte_all (P := fun c => sg c = true → c ≠ 37 ∧ c ≠ 32) sg_b c h
theorem sl_37 (c : UInt8) (h : mem soloL c = true) : c ≠ 37 ∧ c ≠ 32 := byte_all (P := fun c => mem soloL c = true → c ≠ 37 ∧ c ≠ 32) sl_b c h
theorem sm_wd (c : UInt8) (h : sm c = true) : wd c = true := byte_all (P := fun c => sm c = true → wd c = true) sw_b c h
theorem tw_mem {p : UInt8 → Bool} : ∀ {l : List UInt8} {x : UInt8}, x ∈ l.takeWhile p → p x = true := by
  intro l
  induction l with
  | nil => intro x h; cases h
  | cons c r ih =>
    intro x h
    rw [List.takeWhile_cons] at h
    split at h
    · rcases List.mem_cons.1 h with rfl | h
      · assumption
      · exact ih h
    · cases h
/-- an atom's token is a piece of the text as it stands -/
theorem tok_one {la : Int × List UInt8} {c : UInt8} {r t : List UInt8} {n : Int} {re im : Nat} {rest : List UInt8} (h : tok la c r = .ok 1 t n re im rest) :
    t ++ rest = c :: r ∧ n = 0 ∧ re = 0 ∧ im = 0 ∧ t ≠ [] ∧ ∀ x ∈ t, x ≠ 37 ∧ x ≠ 32 := by
  have T : ∀ k' t' rest', txt k' t' rest' = .ok 1 t n re im rest → k' = 1 ∧ t' = t ∧ rest' = rest ∧ n = 0 ∧ re = 0 ∧ im = 0 := by
    intro k' t' rest' h
    unfold txt at h; split at h
    · cases h; exact ⟨rfl, rfl, rfl, rfl, rfl, rfl⟩
    · cases h
  unfold tok at h
  split at h
  · rename_i hs
    obtain ⟨-, rfl, rfl, h1, h2, h3⟩ := T _ _ _ h
    refine ⟨by simp, h1, h2, h3, by simp, ?_⟩
    intro x hx
    rcases List.mem_cons.1 hx with rfl | hx
    · exact wd_37 _ (sm_wd _ hs)
    · exact wd_37 _ (tw_mem hx)
  split at h
  · obtain ⟨e, -⟩ := T _ _ _ h; omega
  split at h
  · unfold nmb at h
    split at h
    · cases h
    split at h
    · cases h
    split at h <;> cases h
  split at h
  · rename_i hs
    split at h
    · cases h
    · obtain ⟨-, rfl, rfl, h1, h2, h3⟩ := T _ _ _ h
      refine ⟨by simp, h1, h2, h3, by simp, ?_⟩
      intro x hx
      rcases List.mem_cons.1 hx with rfl | hx
      · exact sg_37 _ hs
      · exact sg_37 _ (tw_mem hx)
  split at h
  · rename_i hs
    obtain ⟨-, rfl, rfl, h1, h2, h3⟩ := T _ _ _ h
    refine ⟨by simp, h1, h2, h3, by simp, ?_⟩
    intro x hx
    rcases List.mem_cons.1 hx with rfl | hx
    · exact sl_37 _ hs
    · cases hx
  split at h
  · split at h
    · cases h
    · obtain ⟨e, -⟩ := T _ _ _ h; omega
  split at h
  · split at h
    · cases h
    · obtain ⟨e, -⟩ := T _ _ _ h; omega
  · cases h
theorem allT_of {S : List UInt8} (h : S.length ≤ 65536) : allT S = lex S.length (S.length + 1) (0, []) S := by unfold allT; rw [if_pos h]
/-- a plain name is one token by itself -/
theorem plain_lex {S : List UInt8} (hs : S.length ≤ 200) (hne : S ≠ [91, 93]) (h : plainB S = true) : allT S = ([⟨1, S, 0, 0, 0, 0⟩], 0, 0) := by
  unfold plainB at h
  rw [if_neg hne] at h
  cases ha : allT (S ++ [32]) with
  | mk ts pe =>
  obtain ⟨p, e⟩ := pe
  rw [ha] at h
  cases ts with
  | nil => simp at h
  | cons x ts =>
  cases ts with
  | cons y ts => simp at h
  | nil =>
  simp only [Bool.and_eq_true, decide_eq_true_eq] at h
  obtain ⟨rfl, hk, ht⟩ := h
  have hl : (S ++ [32]).length ≤ 65536 := by simp; omega
  rw [allT_of hl] at ha
  have hx : x = ⟨1, S, 0, 0, 0, 0⟩ ∧ ∀ y ∈ S, y ≠ 37 := by
    have ha' := ha
    simp only [lex] at ha'
    have hsuf := sk_suf (S ++ [32]) .bt (S ++ [32])
    cases hsk : sk .bt (S ++ [32]) (S ++ [32]) with
    | mk b s =>
    rw [hsk] at ha' hsuf
    cases b with
    | false => cases ha'
    | true =>
    cases s with
    | nil => cases ha'
    | cons c r =>
    simp only at ha'
    generalize hla : (if (c :: r).length = (S ++ [32]).length then ((0, []) : Int × List UInt8) else (0, [])) = la at ha'
    cases htk : tok la c r with
    | er e => rw [htk] at ha'; cases ha'
    | ok k t n re im rest =>
    rw [htk] at ha'
    simp only at ha'
    generalize lex (S ++ [32]).length (S ++ [32]).length (k, t) rest = R at ha'
    obtain ⟨ts, q, e⟩ := R
    simp only at ha'
    split at ha'
    · cases ha'
      simp only at hk ht
      subst hk
      obtain ⟨h1, h2, h3, h4, h5, h6⟩ := tok_one htk
      subst ht
      have hsf : c :: r <:+ t ++ [32] := by
        obtain ⟨p, h⟩ := hsuf
        rcases h with ⟨h, h'⟩ | ⟨s, h, -⟩
        · cases h; exact h'
        · cases h
      have hle := hsf.length_le
      have hr : rest ≠ [] := by
        rintro rfl
        rw [List.append_nil] at h1
        rw [← h1] at hsf
        obtain ⟨p, hp⟩ := hsf
        have hg := congrArg List.getLast? hp
        rw [List.getLast?_append, List.getLast?_append] at hg
        cases hgl : t.getLast? with
        | none => exact h5 (List.getLast?_eq_none_iff.1 hgl)
        | some z =>
          rw [hgl] at hg
          simp at hg
          have := List.mem_of_getLast? hgl
          exact (h6 z this).2 hg
      have hc := congrArg List.length h1
      simp only [List.length_append, List.length_cons, List.length_nil] at hc hle
      have hrl : rest.length ≠ 0 := fun e => hr (List.eq_nil_of_length_eq_zero e)
      refine ⟨?_, fun y hy => (h6 y hy).1⟩
      rw [h2, h3, h4]
      congr 1
      simp only [List.length_append, List.length_cons, List.length_nil]
      omega
    · cases ha'
  obtain ⟨rfl, h37⟩ := hx
  rw [allT_of (by omega)]
  have := lex_tail (A := S) (v := []) (Or.inl rfl) _ _ _ _ _ h37 (List.suffix_refl _) (Nat.lt_succ_self _) (by simpa using ha) (S.length + 1) (by simp)
  simpa [comb, lex, sk] using this
theorem qt_qb (S : List UInt8) : qt (S.flatMap qb ++ [39]) = some (S, []) := by
  induction S with
  | nil => rfl
  | cons c r ih =>
    rw [List.flatMap_cons, List.append_assoc, show qb c = (if c = 92 then [92, 92] else if c = 10 then [92, 110] else if c = 39 then [92, 39] else [c]) from rfl]
    split
    · rename_i h; subst h
      simp only [List.cons_append, List.nil_append]
      rw [qt_cons]; simp [ih]
    split
    · rename_i h; subst h
      simp only [List.cons_append, List.nil_append]
      rw [qt_cons]; simp [ih]
    split
    · rename_i h; subst h
      simp only [List.cons_append, List.nil_append]
      rw [qt_cons]; simp [ih]
    · rename_i h1 h2 h3
      simp only [List.cons_append, List.nil_append]
      rw [qt_cons, if_neg h2, if_neg h1, if_neg h3, ih]; rfl
theorem qbs_len (S : List UInt8) : (S.flatMap qb).length ≤ 2 * S.length := by
  induction S with
  | nil => exact Nat.le_refl _
  | cons c r ih =>
    have : (qb c).length ≤ 2 := by unfold qb; repeat' split
                                   all_goals simp
    rw [List.flatMap_cons, List.length_append, List.length_cons]; omega
/-- a name in quotes is one token -/
theorem quote_lex {S : List UInt8} (hs : S.length ≤ 200) (h : plainB S = false) : allT (quoteL S) = ([⟨2, S, 0, 0, 0, 0⟩], 0, 0) := by
  unfold quoteL
  rw [if_neg (by rw [h]; simp)]
  have := qbs_len S
  rw [allT_of (by simp only [List.length_cons, List.length_append, List.length_nil]; omega)]
  rw [lex_one (c := 39) (r := S.flatMap qb ++ [39]) (k := 2) (t := S) (n := 0) (re := 0) (im := 0) (rest := [])]
  · simp [cons1, lex, sk]
  · rfl
  · have key : ∀ la, tok la 39 (S.flatMap qb ++ [39]) = .ok 2 S 0 0 0 [] := by
      intro la
      have : tok la 39 (S.flatMap qb ++ [39]) = match qt (S.flatMap qb ++ [39]) with | none => .er 2 | some x => txt 2 x.1 x.2 := rfl
      rw [this, qt_qb]
      simp [txt, hs]
    exact key _
theorem box_lex : allT [91, 93] = ([⟨6, [91], 0, 0, 0, 0⟩, ⟨6, [93], 0, 0, 0, 1⟩], 0, 0) := by decide +kernel
end Go.Proofs.YtedbcmagjbgbjaaGreatDoor.tk
