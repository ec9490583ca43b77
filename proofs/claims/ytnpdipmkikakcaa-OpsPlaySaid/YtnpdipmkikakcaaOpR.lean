/- One operator makes no difference to others: the mathematics; rows that grow. -/
import Derived.Test.YtnpdipmkikakcaaOpQ
namespace Go.Proofs.Ytnpdipmkikakcaa.opr
open Go.ChangeShapes Go.WideShapes Go.ChangeAt Go.RowKit
open Go.Proofs.Ytnpdipmkikakcaa.kp Go.Proofs.Ytnpdipmkikakcaa.opa Go.Proofs.Ytnpdipmkikakcaa.opb Go.Proofs.Ytnpdipmkikakcaa.opc Go.Proofs.Ytnpdipmkikakcaa.opd Go.Proofs.Ytnpdipmkikakcaa.ope Go.Proofs.Ytnpdipmkikakcaa.opf Go.Proofs.Ytnpdipmkikakcaa.opg Go.Proofs.Ytnpdipmkikakcaa.oph Go.Proofs.Ytnpdipmkikakcaa.opi Go.Proofs.Ytnpdipmkikakcaa.opj Go.Proofs.Ytnpdipmkikakcaa.opk Go.Proofs.Ytnpdipmkikakcaa.opl Go.Proofs.Ytnpdipmkikakcaa.opm Go.Proofs.Ytnpdipmkikakcaa.opn Go.Proofs.Ytnpdipmkikakcaa.opq
set_option linter.unusedVariables false
def mn (o x : D) : Bool := decide (cd x o = 0)
def nm (l : List D) (o : D) : List D := l.filter fun x => !mn o x
theorem nm_eq {l : List D} (h : Srt l) (o : D) : nm l o = lo l o ++ hi l o := by
  have e : nm l o = (lo l o ++ (md l o ++ hi l o)).filter fun x => !mn o x := by rw [← split_ (o := o) h]; rfl
  rw [e, List.filter_append, List.filter_append]
  have a1 : (lo l o).filter (fun x => !mn o x) = lo l o := List.filter_eq_self.2 fun x hx => by have := (lo_lt hx).2; simp [mn]; omega
  have a2 : (md l o).filter (fun x => !mn o x) = [] := List.filter_eq_nil_iff.2 fun x hx => by have := (List.mem_filter.1 hx).2; simpa [mn] using this
  have a3 : (hi l o).filter (fun x => !mn o x) = hi l o := List.filter_eq_self.2 fun x hx => by have := (hi_gt hx).2; simp [mn]; omega
  rw [a1, a2, a3]; rfl
theorem nm_set {l : List D} (h : Inv l) (o : D) : nm (setL l o) o = nm l o := by
  rw [nm_eq (h.setL o).srt, nm_eq h.srt, (lo_set l (cd_self o)).1, (lo_set l (cd_self o)).2]
/-- when it is set -/
theorem set_ok {l : List D} {o : D} (he : setE l o = 0) : isOp o = true ∧ ((o.p = 0 ∧ setL l o = lo l o ++ hi l o) ∨ (o.p ≠ 0 ∧ setL l o = ins l o)) := by
  unfold setE at he
  by_cases h1 : isOp o = false
  · rw [if_pos h1] at he; cases he
  · rw [if_neg h1] at he
    refine ⟨by simpa using h1, ?_⟩
    rw [setL_eq, if_neg h1]
    by_cases h2 : o.p = 0
    · rw [if_pos h2]; exact Or.inl ⟨h2, rfl⟩
    · rw [if_neg h2] at he ⊢
      by_cases h3 : 100 ≤ (lo l o ++ hi l o).length
      · rw [if_pos h3] at he; cases he
      · rw [if_neg h3]; exact Or.inr ⟨h2, rfl⟩
theorem set_bad {l : List D} {o : D} (he : setE l o ≠ 0) : setL l o = l := by
  unfold setE at he
  rw [setL_eq]
  by_cases h1 : isOp o = false
  · rw [if_pos h1]
  · rw [if_neg h1] at he ⊢
    by_cases h2 : o.p = 0
    · rw [if_pos h2] at he; exact absurd rfl he
    · rw [if_neg h2] at he ⊢
      by_cases h3 : 100 ≤ (lo l o ++ hi l o).length
      · rw [if_pos h3]
      · rw [if_neg h3] at he; exact absurd rfl he
theorem mine_one {l : List D} {o x : D} (he : setE l o = 0) (hx : x ∈ setL l o) (hm : mn o x = true) : x = o := by
  have hc : cd x o = 0 := by simpa [mn] using hm
  obtain ⟨_, h | h⟩ := set_ok he
  · rw [h.2] at hx
    rcases List.mem_append.1 hx with q | q
    · have := (lo_lt q).2; omega
    · have := (hi_gt q).2; omega
  · rw [h.2] at hx
    rcases List.mem_append.1 hx with q | q
    · have := (lo_lt q).2; omega
    · rcases List.mem_cons.1 q with q | q
      · exact q
      · have := (hi_gt q).2; omega
def cnt (l : List D) (o : D) : Nat := (l.filter (mn o)).length
theorem cnt_set {l : List D} {o : D} (hI : Inv l) (he : setE l o = 0) : (0 < o.p → cnt (setL l o) o = 1) ∧ (o.p ≤ 0 → cnt (setL l o) o = 0) := by
  obtain ⟨hi', h | h⟩ := set_ok he
  · have hz : cnt (setL l o) o = 0 := by
      unfold cnt
      rw [List.length_eq_zero_iff, h.2]
      refine List.filter_eq_nil_iff.2 fun x hx => ?_
      rcases List.mem_append.1 hx with q | q
      · have := (lo_lt q).2; simp [mn]; omega
      · have := (hi_gt q).2; simp [mn]; omega
    exact ⟨fun hp => by omega, fun _ => hz⟩
  · have hp0 := (isOp_ok hi').2.2.1
    have h1 : cnt (setL l o) o = 1 := by
      unfold cnt
      rw [h.2]
      unfold ins
      have a1 : (lo l o).filter (mn o) = [] := List.filter_eq_nil_iff.2 fun x hx => by have := (lo_lt hx).2; simp [mn]; omega
      have a3 : (hi l o).filter (mn o) = [] := List.filter_eq_nil_iff.2 fun x hx => by have := (hi_gt hx).2; simp [mn]; omega
      rw [List.filter_append, List.filter_cons_of_pos (by simp [mn, cd_self]), a1, a3]; rfl
    exact ⟨fun _ => h1, fun hp => absurd (show o.p = 0 by omega) h.1⟩
/-- set again to what it was -/
theorem set_back {l : List D} {o x : D} (hI : Inv l) (he : setE l o = 0) (hx : x ∈ l) (hm : mn o x = true) : setE (setL l o) x = 0 ∧ setL (setL l o) x = l := by
  have hc : cd x o = 0 := by simpa [mn] using hm
  have hc' : cd o x = 0 := by rw [cd_neg x o, hc]; rfl
  obtain ⟨hop, _⟩ := set_ok he
  have ho := isOp_ok hop
  have hn := (cd_zero _ _).1 hc
  have hxo := hI.ok x hx
  have hopx : isOp x = true := by
    unfold isOp
    rw [hn.1]
    simp only [ho.2.2.2.2.2.1, ho.2.2.2.2.2.2.1, ho.2.2.2.2.2.2.2.1, ho.2.2.2.2.2.2.2.2, decide_false, Bool.or_self, Bool.not_false, Bool.true_and, decide_eq_true_eq]
    exact ⟨by omega, by omega, by omega, by omega, by omega⟩
  have his : is l x = true := by
    have hm1 : x ∈ md l x := List.mem_filter.2 ⟨hx, by simp [cd_self]⟩
    unfold is; simp only [decide_eq_true_eq]; intro e; rw [e] at hm1; cases hm1
  obtain ⟨y, hmd, _, hcy, hl, _, _, _, _, hlen⟩ := at_is hI.srt his
  have hxy : y = x := by
    have : x ∈ md l x := List.mem_filter.2 ⟨hx, by simp [cd_self]⟩
    rw [hmd] at this
    exact (List.mem_singleton.1 this).symm
  subst hxy
  obtain ⟨e1, e2⟩ := lo_set l hc'
  have hfull : ¬ 100 ≤ (lo l y ++ hi l y).length := by have := hI.len; omega
  have hp : ¬ y.p = 0 := by omega
  have hnb : ¬ isOp y = false := by simp [hopx]
  refine ⟨?_, ?_⟩
  · unfold setE; rw [e1, e2, if_neg hnb, if_neg hp, if_neg hfull]
  · rw [setL_eq (setL l o) y, e1, e2, if_neg hnb, if_neg hp, if_neg hfull, ins_set l hc']
    exact hl.symm
/-- there was none: set to nothing -/
theorem set_none {l : List D} {o : D} (hI : Inv l) (he : setE l o = 0) (hn : ∀ x ∈ l, mn o x = false) : setE (setL l o) ⟨o.n, o.k, 0⟩ = 0 ∧ setL (setL l o) ⟨o.n, o.k, 0⟩ = l := by
  obtain ⟨hop, _⟩ := set_ok he
  have ho := isOp_ok hop
  have hc : cd o ⟨o.n, o.k, 0⟩ = 0 := (cd_zero _ _).2 ⟨rfl, rfl⟩
  have hop0 : isOp ⟨o.n, o.k, 0⟩ = true := by
    unfold isOp
    simp only [ho.2.2.2.2.2.1, ho.2.2.2.2.2.2.1, ho.2.2.2.2.2.2.2.1, ho.2.2.2.2.2.2.2.2, decide_false, Bool.or_self, Bool.not_false, Bool.true_and, decide_eq_true_eq]
    exact ⟨by omega, by omega, by omega, by omega, by omega⟩
  obtain ⟨e1, e2⟩ := lo_set l hc
  obtain ⟨c1, c2⟩ := lo_cong l hc
  have hl : lo l o ++ hi l o = l := by
    rw [← nm_eq hI.srt]
    exact List.filter_eq_self.2 fun x hx => by rw [hn x hx]; rfl
  refine ⟨?_, ?_⟩
  · unfold setE; rw [if_neg (by rw [hop0]; simp), if_pos (show (⟨o.n, o.k, 0⟩ : D).p = 0 from rfl)]
  · rw [setL_eq (setL l o), if_neg (by rw [hop0]; simp), if_pos (show (⟨o.n, o.k, 0⟩ : D).p = 0 from rfl), e1, e2, c1, c2, hl]
theorem nm_next {l : List D} {k : Nat} (o : D) (hk : k < l.length) : nm (l.take (k + 1)) o = nm (l.take k) o ++ (if mn o l[k] = true then [] else [l[k]]) := by
  unfold nm
  rw [List.take_succ_eq_append_getElem hk, List.filter_append]
  congr 1
  cases h : mn o l[k] <;> simp [h]
theorem cnt_next {l : List D} {k : Nat} (o : D) (hk : k < l.length) : cnt (l.take (k + 1)) o = cnt (l.take k) o + (if mn o l[k] = true then 1 else 0) := by
  unfold cnt
  rw [List.take_succ_eq_append_getElem hk, List.filter_append, List.length_append]
  congr 1
  cases h : mn o l[k] <;> simp [h]
/-- a row of the call's own, behind W -/
def Gr (W : World) (v : Value) (xs : List D) (w : World) : Prop := w.ownsRow W.heap.size 32 3 v xs.length (flat xs)
theorem Gr.nil (W w : World) : Gr W (.slice none 0 0) [] w := World.ownsRow_nil _ _ _ _
theorem Gr.shape {W w : World} {v : Value} {xs : List D} (h : Gr W v xs w) : ∃ a c, v = .slice a xs.length c := kp.shape h
theorem Gr.rw_ {W w : World} {a : Option Addr} {c : Nat} {xs : List D} (h : Gr W (.slice a xs.length c) xs w) : Rw w a c xs := by
  obtain ⟨q1, q2⟩ := h
  refine ⟨q1, ?_⟩
  rcases q2 with q2 | ⟨g', cap', cur', e, _, r⟩
  · exact Or.inl q2
  · exact Or.inr ⟨g', cap', cur', e, Nat.zero_le _, r⟩
theorem Gr.below {W w w' : World} {v : Value} {xs : List D} (h : Gr W v xs w) (hb : Below w.heap.size w w') : Gr W v xs w' := by
  obtain ⟨q1, q2⟩ := h
  refine ⟨q1, ?_⟩
  rcases q2 with q2 | ⟨g', cap', cur', e, hb0, hg, r⟩
  · exact Or.inl q2
  · exact Or.inr ⟨g', cap', cur', e, hb0, (hb.block _ (Array.getElem?_eq_some_iff.1 hg).1).trans hg, r⟩
end Go.Proofs.Ytnpdipmkikakcaa.opr
