/- As many operators as may be. -/
import Derived.Test.YtnpdipmkikakcaaOpN
namespace Go.Proofs.Ytnpdipmkikakcaa.opp
open Go.Proofs.Ytnpdipmkikakcaa.opa Go.Proofs.Ytnpdipmkikakcaa.opb Go.Proofs.Ytnpdipmkikakcaa.opn Go.Proofs.Ytnpdipmkikakcaa.ope Go.Proofs.Ytnpdipmkikakcaa.opk
set_option linter.unusedVariables false
def nm (i : Nat) : D := ⟨[97, UInt8.ofNat (97 + i / 26), UInt8.ofNat (97 + i % 26)], 1, 5⟩
def M (k : Nat) : List D := (List.range k).foldl (fun l i => ins l (nm i)) newL
theorem M_succ (k : Nat) : M (k + 1) = ins (M k) (nm k) := by unfold M; rw [List.range_succ, List.foldl_append]; rfl
theorem M_mem : ∀ (k : Nat) {x : D}, x ∈ M k → x ∈ newL ∨ ∃ j, j < k ∧ x = nm j
  | 0, x, h => Or.inl h
  | k + 1, x, h => by
    rw [M_succ] at h
    rcases mem_ins h with rfl | h
    · exact Or.inr ⟨k, by omega, rfl⟩
    · rcases M_mem k h with h | ⟨j, hj, e⟩
      · exact Or.inl h
      · exact Or.inr ⟨j, by omega, e⟩
theorem nm_inj {i j : Nat} (hi : i < 80) (hj : j < 80) (h : (nm i).n = (nm j).n) : i = j := by
  simp only [nm, List.cons.injEq, true_and, and_true] at h
  obtain ⟨h1, h2⟩ := h
  have a := congrArg UInt8.toNat h1
  have b := congrArg UInt8.toNat h2
  simp only [UInt8.toNat_ofNat'] at a b
  omega
theorem newL_head : newL.all (fun x => decide (x.n.head? ≠ some 97)) = true := by kernel_rfl
theorem M_no {k i : Nat} (hk : k ≤ i) (hi : i < 80) (hs : Srt (M k)) : is (M k) (nm i) = false := by
  cases h : is (M k) (nm i)
  · rfl
  · obtain ⟨x, _, hm, hc, _⟩ := at_is hs h
    have hn := ((cd_zero _ _).1 hc).1
    rcases M_mem k hm with h | ⟨j, hj, rfl⟩
    · have := List.all_eq_true.1 newL_head x h
      rw [hn] at this
      simp [nm] at this
    · have := nm_inj (by omega) hi hn
      omega
theorem nm_isOp {i : Nat} (hi : i < 80) : isOp (nm i) = true := by
  simp [isOp, nm]
theorem ins_len {l : List D} (h : Srt l) {o : D} (hn : is l o = false) : (ins l o).length = l.length + 1 ∧ (lo l o ++ hi l o).length = l.length := by
  obtain ⟨e, _⟩ := at_no h hn
  have e2 := congrArg List.length e
  refine ⟨?_, e2.symm⟩
  unfold ins
  rw [List.length_append] at e2 ⊢
  rw [List.length_cons]; omega
theorem M_inv : ∀ k, k ≤ 70 → Inv (M k) ∧ (M k).length = 30 + k
  | 0, _ => ⟨newL_inv, newL_len⟩
  | k + 1, hk => by
    obtain ⟨h1, h2⟩ := M_inv k (by omega)
    have hl := ins_len h1.srt (M_no (Nat.le_refl _) (by omega) h1.srt)
    rw [M_succ]
    exact ⟨h1.ins (by simp [nm]) (by omega), by omega⟩
theorem M_set {i : Nat} (hi : i < 70) : setE (M i) (nm i) = 0 ∧ setL (M i) (nm i) = M (i + 1) := by
  obtain ⟨h1, h2⟩ := M_inv i (by omega)
  have hl := (ins_len h1.srt (M_no (Nat.le_refl i) (by omega) h1.srt)).2
  have hp : ¬ (nm i).p = 0 := by simp [nm]
  rw [M_succ]
  refine ⟨?_, ?_⟩
  · unfold setE; rw [if_neg (by rw [nm_isOp (by omega)]; simp), if_neg hp, if_neg (by omega)]
  · unfold setL; rw [if_neg (by rw [nm_isOp (by omega)]; simp), if_neg hp, if_neg (by omega)]
theorem M_full {i : Nat} (h70 : 70 ≤ i) (hi : i < 80) : setE (M 70) (nm i) = 8 ∧ setL (M 70) (nm i) = M 70 := by
  obtain ⟨h1, h2⟩ := M_inv 70 (by omega)
  have hl := (ins_len h1.srt (M_no h70 (by omega) h1.srt)).2
  have hp : ¬ (nm i).p = 0 := by simp [nm]
  refine ⟨?_, ?_⟩
  · unfold setE; rw [if_neg (by rw [nm_isOp (by omega)]; simp), if_neg hp, if_pos (by omega)]
  · unfold setL; rw [if_neg (by rw [nm_isOp (by omega)]; simp), if_neg hp, if_pos (by omega)]
theorem M_step {i : Nat} (hi : i < 80) : setE (M (min i 70)) (nm i) = (if i < 70 then 0 else 8) ∧ setL (M (min i 70)) (nm i) = M (min (i + 1) 70) := by
  by_cases h : i < 70
  · rw [Nat.min_eq_left (by omega), Nat.min_eq_left (by omega), if_pos h]; exact M_set h
  · rw [Nat.min_eq_right (by omega), Nat.min_eq_right (by omega), if_neg h]; exact M_full (by omega) hi
theorem ins_mem {l : List D} {o x : D} (h : x ∈ l) (hc : cd x o ≠ 0) : x ∈ ins l o := by
  unfold ins
  by_cases h1 : cd x o < 0
  · exact List.mem_append.2 (Or.inl (List.mem_filter.2 ⟨h, by simpa using h1⟩))
  · exact List.mem_append.2 (Or.inr (List.mem_cons_of_mem _ (List.mem_filter.2 ⟨h, by simp; omega⟩)))
theorem M_new : ∀ k, k ≤ 70 → ∀ x ∈ newL, x ∈ M k
  | 0, _, x, h => h
  | k + 1, hk, x, h => by
    rw [M_succ]
    refine ins_mem (M_new k (by omega) x h) fun hc => ?_
    have hn := ((cd_zero _ _).1 hc).1
    have := List.all_eq_true.1 newL_head x h
    rw [hn] at this
    simp [nm] at this
def oIs : D := ⟨[105, 115], 1, 700⟩
def oIs9 : D := ⟨[105, 115], 3, 9⟩
def oMod : D := ⟨[109, 111, 100], 3, 400⟩
def oMod0 : D := ⟨[109, 111, 100], 1, 0⟩
theorem is_of {l : List D} {x o : D} (hx : x ∈ l) (hc : cd x o = 0) : is l o = true := by
  have hm : x ∈ md l o := List.mem_filter.2 ⟨hx, by simpa using hc⟩
  unfold is
  simp only [decide_eq_true_eq]
  intro e; rw [e] at hm; cases hm
theorem newL_has : oIs ∈ newL ∧ oMod ∈ newL := by
  have h : (decide (oIs ∈ newL) && decide (oMod ∈ newL)) = true := by kernel_rfl
  simpa using h
theorem md_rest (l : List D) (o x : D) (h : cd o x = 0) : is (lo l o ++ hi l o) x = false := by
  have : md (lo l o ++ hi l o) x = [] := List.filter_eq_nil_iff.2 fun y hy => by
    have e := cd_congR h y
    rcases List.mem_append.1 hy with q | q
    · have := (lo_lt q).2; simp; omega
    · have := (hi_gt q).2; simp; omega
  unfold is; rw [this]; simp
/-- the last steps -/
theorem M_last {k : Nat} (hk : k ≤ 70) : setE (M k) oIs9 = 0 ∧ setL (M k) oIs9 = ins (M k) oIs9 ∧ Inv (ins (M k) oIs9) ∧ gd (ins (M k) oIs9) ⟨[105, 115], 1, 0⟩ = oIs9 ∧ is (ins (M k) oIs9) ⟨[105, 115], 1, 0⟩ = true ∧
    setE (ins (M k) oIs9) oMod0 = 0 ∧ Inv (setL (ins (M k) oIs9) oMod0) ∧ is (setL (ins (M k) oIs9) oMod0) ⟨[109, 111, 100], 1, 0⟩ = false ∧ (setL (ins (M k) oIs9) oMod0).length + 1 = 30 + k := by
  obtain ⟨h1, h2⟩ := M_inv k hk
  have hi9 : isOp oIs9 = true := by decide
  have hm0 : isOp oMod0 = true := by decide
  have hp9 : ¬ oIs9.p = 0 := by decide
  have his := is_of (M_new k hk _ newL_has.1) (o := oIs9) (by decide)
  obtain ⟨_, _, _, _, _, _, _, _, _, hlen⟩ := at_is h1.srt his
  have e1 : setE (M k) oIs9 = 0 := by unfold setE; rw [if_neg (by rw [hi9]; simp), if_neg hp9, if_neg (by have := h1.len; omega)]
  have e2 : setL (M k) oIs9 = ins (M k) oIs9 := by unfold setL; rw [if_neg (by rw [hi9]; simp), if_neg hp9, if_neg (by have := h1.len; omega)]
  have hI : Inv (ins (M k) oIs9) := by rw [← e2]; exact h1.setL _
  have hil : (ins (M k) oIs9).length = 30 + k := by unfold ins; rw [List.length_append] at hlen ⊢; rw [List.length_cons]; omega
  have hmem : oIs9 ∈ ins (M k) oIs9 := by unfold ins; simp
  have hf := found hI.srt hmem (y := ⟨[105, 115], 1, 0⟩) (by decide)
  have hmod : oMod ∈ ins (M k) oIs9 := ins_mem (M_new k hk _ newL_has.2) (by decide)
  have hism := is_of hmod (o := oMod0) (by decide)
  obtain ⟨_, _, _, _, _, _, _, _, _, hlen2⟩ := at_is hI.srt hism
  have e3 : setE (ins (M k) oIs9) oMod0 = 0 := by unfold setE; rw [if_neg (by rw [hm0]; simp), if_pos (show oMod0.p = 0 from rfl)]
  have e4 : setL (ins (M k) oIs9) oMod0 = lo (ins (M k) oIs9) oMod0 ++ hi (ins (M k) oIs9) oMod0 := by unfold setL; rw [if_neg (by rw [hm0]; simp), if_pos (show oMod0.p = 0 from rfl)]
  refine ⟨e1, e2, hI, hf.1, hf.2, e3, hI.setL _, ?_, ?_⟩
  · rw [e4]; exact md_rest _ _ _ (by decide)
  · rw [e4]; omega
end Go.Proofs.Ytnpdipmkikakcaa.opp
