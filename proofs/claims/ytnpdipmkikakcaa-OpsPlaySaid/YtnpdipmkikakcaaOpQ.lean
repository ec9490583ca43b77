/- Two tables side by side; what follows of sets of one key. -/
import Derived.Test.YtnpdipmkikakcaaOpN
namespace Go.Proofs.Ytnpdipmkikakcaa.opq
open Go.ChangeShapes Go.WideShapes Go.ChangeAt Go.RowKit
open Go.Proofs.Ytnpdipmkikakcaa.kp Go.Proofs.Ytnpdipmkikakcaa.opa Go.Proofs.Ytnpdipmkikakcaa.opb Go.Proofs.Ytnpdipmkikakcaa.opc Go.Proofs.Ytnpdipmkikakcaa.opd Go.Proofs.Ytnpdipmkikakcaa.ope Go.Proofs.Ytnpdipmkikakcaa.opf Go.Proofs.Ytnpdipmkikakcaa.opg Go.Proofs.Ytnpdipmkikakcaa.oph Go.Proofs.Ytnpdipmkikakcaa.opi Go.Proofs.Ytnpdipmkikakcaa.opj Go.Proofs.Ytnpdipmkikakcaa.opk Go.Proofs.Ytnpdipmkikakcaa.opl Go.Proofs.Ytnpdipmkikakcaa.opm Go.Proofs.Ytnpdipmkikakcaa.opn
set_option linter.unusedVariables false
/-! ### sets of one key -/
theorem lo_cong (l : List D) {o b : D} (h : cd o b = 0) : lo l b = lo l o ∧ hi l b = hi l o := by
  unfold lo hi
  constructor <;> (congr 1; funext x; rw [cd_congR h x])
theorem lo_rest (l : List D) (o : D) : lo (lo l o ++ hi l o) o = lo l o ∧ hi (lo l o ++ hi l o) o = hi l o := by
  have a1 : lo (lo l o) o = lo l o := List.filter_eq_self.2 fun x hx => by have := (lo_lt hx).2; simpa using this
  have a2 : lo (hi l o) o = [] := List.filter_eq_nil_iff.2 fun x hx => by have := (hi_gt hx).2; simp; omega
  have a3 : hi (lo l o) o = [] := List.filter_eq_nil_iff.2 fun x hx => by have := (lo_lt hx).2; simp; omega
  have a4 : hi (hi l o) o = hi l o := List.filter_eq_self.2 fun x hx => by have := (hi_gt hx).2; simpa using this
  have e1 : ∀ a b : List D, lo (a ++ b) o = lo a o ++ lo b o := fun a b => by unfold lo; rw [List.filter_append]
  have e2 : ∀ a b : List D, hi (a ++ b) o = hi a o ++ hi b o := fun a b => by unfold hi; rw [List.filter_append]
  rw [e1, e2, a1, a2, a3, a4]; simp
theorem lo_ins (l : List D) (o : D) : lo (ins l o) o = lo l o ∧ hi (ins l o) o = hi l o := by
  have hs := cd_self o
  have e1 : ∀ a : List D, lo (o :: a) o = lo a o := fun a => by unfold lo; rw [List.filter_cons_of_neg (by simp [hs])]
  have e2 : ∀ a : List D, hi (o :: a) o = hi a o := fun a => by unfold hi; rw [List.filter_cons_of_neg (by simp [hs])]
  have f1 : ∀ a b : List D, lo (a ++ b) o = lo a o ++ lo b o := fun a b => by unfold lo; rw [List.filter_append]
  have f2 : ∀ a b : List D, hi (a ++ b) o = hi a o ++ hi b o := fun a b => by unfold hi; rw [List.filter_append]
  have h := lo_rest l o
  rw [f1, f2] at h
  unfold ins
  rw [f1, f2, e1, e2]
  exact h
theorem lo_set (l : List D) {o b : D} (h : cd o b = 0) : lo (setL l o) b = lo l b ∧ hi (setL l o) b = hi l b := by
  obtain ⟨c1, c2⟩ := lo_cong (setL l o) h
  obtain ⟨d1, d2⟩ := lo_cong l h
  rw [c1, c2, d1, d2]
  unfold setL
  split
  · exact ⟨rfl, rfl⟩
  · split
    · exact lo_rest l o
    · split
      · exact ⟨rfl, rfl⟩
      · exact lo_ins l o
theorem setE_set (l : List D) {o b : D} (h : cd o b = 0) : setE (setL l o) b = setE l b := by
  obtain ⟨e1, e2⟩ := lo_set l h
  unfold setE
  rw [e1, e2]
theorem setL_eq (l : List D) (o : D) : setL l o = if isOp o = false then l else if o.p = 0 then lo l o ++ hi l o else if 100 ≤ (lo l o ++ hi l o).length then l else ins l o := rfl
theorem ins_set (l : List D) {o b : D} (h : cd o b = 0) : ins (setL l o) b = ins l b := by
  obtain ⟨e1, e2⟩ := lo_set l h
  unfold ins; rw [e1, e2]
theorem setL_same (l : List D) (a : D) : setL (setL l a) a = setL l a := by
  obtain ⟨e1, e2⟩ := lo_set l (cd_self a)
  rw [setL_eq (setL l a) a, e1, e2, ins_set l (cd_self a)]
  by_cases h1 : isOp a = false
  · rw [if_pos h1]
  · rw [if_neg h1]
    by_cases h2 : a.p = 0
    · rw [if_pos h2, setL_eq l a, if_neg h1, if_pos h2]
    · rw [if_neg h2]
      by_cases h3 : 100 ≤ (lo l a ++ hi l a).length
      · rw [if_pos h3]
      · rw [if_neg h3, setL_eq l a, if_neg h1, if_neg h2, if_neg h3]
theorem setL_other (l : List D) {a b : D} (h : cd a b = 0) (he : setE l b = 0) : setL (setL l a) b = setL l b := by
  obtain ⟨e1, e2⟩ := lo_set l h
  unfold setE at he
  rw [setL_eq (setL l a) b, setL_eq l b, e1, e2, ins_set l h]
  by_cases h1 : isOp b = false
  · rw [if_pos h1] at he; cases he
  · rw [if_neg h1] at he
    rw [if_neg h1, if_neg h1]
    by_cases h2 : b.p = 0
    · rw [if_pos h2, if_pos h2]
    · rw [if_neg h2] at he
      rw [if_neg h2, if_neg h2]
      by_cases h3 : 100 ≤ (lo l b ++ hi l b).length
      · rw [if_pos h3] at he; cases he
      · rw [if_neg h3, if_neg h3]
/-! ### two tables, boxes beside them -/
structure TT (w0 : World) (X : List (Nat × D)) (p q : Nat) (l m : List D) (w : World) : Prop where
  ex : ∃ F G, Tb w p F l ∧ Tb w q G m ∧ (∀ k, F k → ¬ G k) ∧ (∀ k, F k → w0.heap.size ≤ k ∧ ∀ x ∈ X, x.1 ≠ k) ∧ (∀ k, G k → w0.heap.size ≤ k ∧ ∀ x ∈ X, x.1 ≠ k)
  box : ∀ x ∈ X, w.heap[x.1]? = some (.cells x.2.cs.toArray 32 (0, 0))
  bel : Below w0.heap.size w0 w
section
variable {w0 w w' : World} {X : List (Nat × D)} {p q : Nat} {l m : List D}
theorem TT.swap (h : TT w0 X p q l m w) : TT w0 X q p m l w := by
  obtain ⟨F, G, a, b, c, d, e⟩ := h.ex
  exact ⟨⟨G, F, b, a, fun k g f => c k f g, e, d⟩, h.box, h.bel⟩
theorem TT.below (h : TT w0 X p q l m w) (hb : Below w.heap.size w w') : TT w0 X p q l m w' := by
  obtain ⟨F, G, a, b, c, d, e⟩ := h.ex
  exact ⟨⟨F, G, a.below hb, b.below hb, c, d, e⟩, fun x hx => (hb.block _ (Array.getElem?_eq_some_iff.1 (h.box x hx)).1).trans (h.box x hx), h.bel.trans (hb.mono h.bel.size)⟩
theorem TT.drew (h : TT w0 X p q l m w) : TT w0 X p q l m w.drew := h.below (bdr _)
theorem TT.set (h : TT w0 X p q l m w) (hI : Inv l) (o : D) : Calls Try.prog 13 #[.pointer (some ⟨p, 0, none⟩), o.v] w fun e w' => e = .returned (.int .i64 (setE l o)) ∧ TT w0 X p q (setL l o) m w' := by
  obtain ⟨F, G, a, b, c, d, e⟩ := h.ex
  refine (set_any o w a hI).mono ?_
  rintro e' w' ⟨rfl, F', t, k, s⟩
  refine ⟨rfl, ⟨F', G, t, b.keep k (fun i g f => c i f g), fun i hi g => ?_, fun i hi => ?_, e⟩, fun x hx => ?_, h.bel.trans (k.to_below (fun i hi => (d i hi).1) h.bel.size)⟩
  · rcases s i hi with f | f
    · exact c i f g
    · have := b.lt i g; omega
  · rcases s i hi with f | f
    · exact d i f
    · refine ⟨Nat.le_trans h.bel.size f, fun x hx e => ?_⟩
      have := (Array.getElem?_eq_some_iff.1 (h.box x hx)).1
      omega
  · have hx1 := h.box x hx
    exact (k.block _ (Array.getElem?_eq_some_iff.1 hx1).1 (fun f => (d _ f).2 x hx rfl)).trans hx1
theorem TT.set2 (h : TT w0 X p q l m w) (hI : Inv m) (o : D) : Calls Try.prog 13 #[.pointer (some ⟨q, 0, none⟩), o.v] w fun e w' => e = .returned (.int .i64 (setE m o)) ∧ TT w0 X p q l (setL m o) w' := by
  refine (h.swap.set hI o).mono ?_
  rintro e w' ⟨h1, h2⟩
  exact ⟨h1, h2.swap⟩
theorem TT.all (h : TT w0 X p q l m w) (hl : l.length ≤ 1000) : Calls Try.prog 12 #[.pointer (some ⟨p, 0, none⟩)] w fun e w' => ∃ a c, e = .returned (.slice a l.length c) ∧ Rw w' a c l ∧ TT w0 X p q l m w' ∧ Below w.heap.size w w' := by
  obtain ⟨F, G, a, b, c, d, e⟩ := h.ex
  refine (all_any w a hl).mono ?_
  rintro e w' ⟨a', c', h1, h2, h3, _⟩
  exact ⟨a', c', h1, h2, h.below h3, h3⟩
theorem TT.all2 (h : TT w0 X p q l m w) (hl : m.length ≤ 1000) : Calls Try.prog 12 #[.pointer (some ⟨q, 0, none⟩)] w fun e w' => ∃ a c, e = .returned (.slice a m.length c) ∧ Rw w' a c m ∧ TT w0 X p q l m w' ∧ Below w.heap.size w w' := by
  refine (h.swap.all hl).mono ?_
  rintro e w' ⟨a, c, h1, h2, h3, h4⟩
  exact ⟨a, c, h1, h2, h3.swap, h4⟩
theorem TT.cells (h : TT w0 X p q l m w) {b : Nat} {o : D} (hx : (b, o) ∈ X) : w.cell? ⟨b, 0, none⟩ = some (.string ⟨o.n.toArray⟩) ∧ w.cell? ⟨b, 1, none⟩ = some (.int .i64 o.k) ∧ w.cell? ⟨b, 2, none⟩ = some (.int .i64 o.p) ∧ ∀ j, w.frozen? ⟨b, j, none⟩ = false := box_cells (h.box (b, o) hx)
end
end Go.Proofs.Ytnpdipmkikakcaa.opq
