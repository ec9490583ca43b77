/- The two tables of law 12's first statement. -/
import Derived.Test.YtnpdipmkikakcaaOpW
import Derived.Test.YtnpdipmkikakcaaOpJ
namespace Go.Proofs.Ytnpdipmkikakcaa.opx
open Go.ChangeShapes Go.WideShapes Go.ChangeAt Go.RowKit
open Go.Proofs.Ytnpdipmkikakcaa.kp Go.Proofs.Ytnpdipmkikakcaa.opa Go.Proofs.Ytnpdipmkikakcaa.opb Go.Proofs.Ytnpdipmkikakcaa.opb2 Go.Proofs.Ytnpdipmkikakcaa.opc Go.Proofs.Ytnpdipmkikakcaa.opd Go.Proofs.Ytnpdipmkikakcaa.ope Go.Proofs.Ytnpdipmkikakcaa.opf Go.Proofs.Ytnpdipmkikakcaa.opg Go.Proofs.Ytnpdipmkikakcaa.oph Go.Proofs.Ytnpdipmkikakcaa.opi Go.Proofs.Ytnpdipmkikakcaa.opj Go.Proofs.Ytnpdipmkikakcaa.opk Go.Proofs.Ytnpdipmkikakcaa.opl Go.Proofs.Ytnpdipmkikakcaa.opm Go.Proofs.Ytnpdipmkikakcaa.opn Go.Proofs.Ytnpdipmkikakcaa.opq Go.Proofs.Ytnpdipmkikakcaa.opr Go.Proofs.Ytnpdipmkikakcaa.ops_ Go.Proofs.Ytnpdipmkikakcaa.opt Go.Proofs.Ytnpdipmkikakcaa.opu Go.Proofs.Ytnpdipmkikakcaa.opv Go.Proofs.Ytnpdipmkikakcaa.opw
set_option linter.unusedVariables false
def W2 (w : World) (p q : Nat) (l m : List D) (w1 : World) : Prop :=
  ∃ F G : Nat → Prop, Tb w1 p F l ∧ RTb w1 q G m ∧ Below w.heap.size w w1 ∧ (∀ k, F k → w.heap.size ≤ k) ∧ (∀ k, G k → w.heap.size ≤ k) ∧ ∀ k, F k → ¬ G k
variable {w w1 w2 : World} {p q : Nat} {l m : List D}
theorem W2.below (h : W2 w p q l m w1) (hb : Below w1.heap.size w1 w2) : W2 w p q l m w2 := by
  obtain ⟨F, G, a, b, c, d⟩ := h
  exact ⟨F, G, a.below hb, b.below hb, c.trans (hb.mono c.size), d⟩
theorem W2.new (h1 : Made w l p w1) (h2 : RMade w1 m q w2) : W2 w p q l m w2 := by
  obtain ⟨F, a, b, c⟩ := h1
  obtain ⟨G, a', b', c'⟩ := h2
  exact ⟨F, G, a.below b', a', b.trans (b'.mono b.size), c, fun k hk => Nat.le_trans b.size (c' k hk), fun k hk hg => by have := a.lt k hk; have := c' k hg; omega⟩
theorem W2.tb (h : W2 w p q l m w1) : ∃ F, Tb w1 p F l := h.imp fun F h => h.choose_spec.1
theorem W2.rtb (h : W2 w p q l m w1) : ∃ G, RTb w1 q G m := by obtain ⟨F, G, a, b, c⟩ := h; exact ⟨G, b⟩
theorem W2.bel (h : W2 w p q l m w1) : Below w.heap.size w w1 := by obtain ⟨F, G, a, b, c, d⟩ := h; exact c
theorem W2.set (o : D) (h : W2 w p q l m w1) (hI : Inv l) :
    Calls Try.prog 13 #[.pointer (some ⟨p, 0, none⟩), o.v] w1 fun e w2 => e = .returned (.int .i64 (setE l o)) ∧ W2 w p q (setL l o) m w2 := by
  obtain ⟨F, G, a, b, c, d, e, f⟩ := h
  refine (set_any o _ a hI).mono ?_
  rintro e' w2 ⟨rfl, F', t, k, s⟩
  refine ⟨rfl, F', G, t, b.keep k (fun j hg hf => f j hf hg), c.trans (k.to_below d c.size), fun j hj => ?_, e, fun j hj hg => ?_⟩
  · rcases s j hj with h | h
    · exact d j h
    · exact Nat.le_trans c.size h
  · rcases s j hj with h | h
    · exact f j h hg
    · have := b.lt j hg; omega
theorem W2.rset (o : D) (h : W2 w p q l m w1) (hI : Inv m) :
    Calls Try.prog 14 #[.pointer (some ⟨q, 0, none⟩), o.v] w1 fun e w2 => e = .returned (.int .i64 (setE m o)) ∧ W2 w p q l (setL m o) w2 := by
  obtain ⟨F, G, a, b, c, d, e, f⟩ := h
  refine (rset_any o _ b hI).mono ?_
  rintro e' w2 ⟨rfl, G', t, k, s⟩
  refine ⟨rfl, F, G', a.keep k (fun j hf hg => f j hf hg), t, c.trans (k.to_below e c.size), d, fun j hj => ?_, fun j hf hj => ?_⟩
  · rcases s j hj with h | h
    · exact e j h
    · exact Nat.le_trans c.size h
  · rcases s j hj with h | h
    · exact f j hf h
    · have := a.lt j hf; omega
theorem same_true {a b : Option Addr} {c c' : Nat} (w : World) (h : Rw w a c l) (h' : Rw w b c' l) (hl : l.length ≤ 1000) :
    Calls Try.prog 11 #[.slice a l.length c, .slice b l.length c'] w fun e w' => e = .returned (.bool true) ∧ Below w.heap.size w w' :=
  (same_any w h h' hl).mono fun e w' h => ⟨by rw [h.1, decide_eq_true rfl], h.2⟩
theorem eqD (n : List UInt8) (k p : Int) (w : World) : Sem.run Try.prog (binOp .eql 32 (.agg #[.string ⟨n.toArray⟩, .int .i64 k, .int .i64 p]) (.agg #[.string ⟨n.toArray⟩, .int .i64 k, .int .i64 p])) w = .ok (.bool true) w := by
  have u3 := Try.underlying3
  have a3 := Try.isAgg3
  have z3 := Try.sizeOf3
  have u9 := Try.underlying9
  have a9 := Try.isAgg9
  have z9 := Try.sizeOf9
  have hS : Try.prog.underlying 32 = some (.struct (Try.prog.fieldsOf 32)) := by kernel_rfl
  have hp : Try.prog.stoodInHeld 32 = false := by kernel_rfl
  rw [run_eql_struct, show (10000 : Nat) = 9999 + 1 from rfl, run_equalIn_agg w 9999 32 _ _ hS hp]
  simp only [Program.fieldsOf, Try.underlying32]
  go_simp
/-- and a box beside them -/
def W3 (w : World) (p q : Nat) (l m : List D) (bx : Nat) (x : D) (w1 : World) : Prop :=
  ∃ F G : Nat → Prop, (Tb w1 p F l ∧ RTb w1 q G m ∧ Below w.heap.size w w1 ∧ (∀ k, F k → w.heap.size ≤ k) ∧ (∀ k, G k → w.heap.size ≤ k) ∧ ∀ k, F k → ¬ G k) ∧ w1.heap[bx]? = some (.cells x.cs.toArray 32 (0, 0)) ∧ ¬ F bx ∧ ¬ G bx
theorem nb {w1 w2 : World} {b : Nat} {o : Obj} (h : w1.heap[b]? = some o) (hb : Below w1.heap.size w1 w2) : w2.heap[b]? = some o := (hb.block _ (Array.getElem?_eq_some_iff.1 h).1).trans h
theorem W3.mk' (x : D) (h : W2 w p q l m w1) : W3 w p q l m w1.heap.size x (w1.alloc (.cells x.cs.toArray 32)) := by
  obtain ⟨F, G, a, b, c, d⟩ := h
  exact ⟨F, G, ⟨a.below (ba _ _), b.below (ba _ _), c.trans ((ba _ _).mono c.size), d⟩, alloc_at _ _, fun f => by have := a.lt _ f; omega, fun f => by have := b.lt _ f; omega⟩
theorem W3.below {bx : Nat} {x : D} (h : W3 w p q l m bx x w1) (hb : Below w1.heap.size w1 w2) : W3 w p q l m bx x w2 := by
  obtain ⟨F, G, ⟨a, b, c, d⟩, h1, h2⟩ := h
  exact ⟨F, G, ⟨a.below hb, b.below hb, c.trans (hb.mono c.size), d⟩, nb h1 hb, h2⟩
theorem W3.two {bx : Nat} {x : D} (h : W3 w p q l m bx x w1) : W2 w p q l m w1 := by
  obtain ⟨F, G, a, _⟩ := h; exact ⟨F, G, a⟩
theorem W3.cells {bx : Nat} {x : D} (h : W3 w p q l m bx x w1) : w1.cell? ⟨bx, 0, none⟩ = some (.string ⟨x.n.toArray⟩) ∧ w1.cell? ⟨bx, 1, none⟩ = some (.int .i64 x.k) ∧ w1.cell? ⟨bx, 2, none⟩ = some (.int .i64 x.p) := by
  obtain ⟨F, G, a, h1, _⟩ := h
  obtain ⟨y0, y1, y2, _⟩ := box_cells h1
  exact ⟨y0, y1, y2⟩
theorem W3.set {bx : Nat} {x : D} (o : D) (h : W3 w p q l m bx x w1) (hI : Inv l) :
    Calls Try.prog 13 #[.pointer (some ⟨p, 0, none⟩), o.v] w1 fun e w2 => e = .returned (.int .i64 (setE l o)) ∧ W3 w p q (setL l o) m bx x w2 := by
  obtain ⟨F, G, ⟨a, b, c, d, e, f⟩, h1, h2, h3⟩ := h
  have hbl := (Array.getElem?_eq_some_iff.1 h1).1
  refine (set_any o _ a hI).mono ?_
  rintro e' w2 ⟨rfl, F', t, k, s⟩
  refine ⟨rfl, F', G, ⟨t, b.keep k (fun j hg hf => f j hf hg), c.trans (k.to_below d c.size), fun j hj => ?_, e, fun j hj hg => ?_⟩, (k.block _ hbl h2).trans h1, fun hf => ?_, h3⟩
  · rcases s j hj with h | h
    · exact d j h
    · exact Nat.le_trans c.size h
  · rcases s j hj with h | h
    · exact f j h hg
    · have := b.lt j hg; omega
  · rcases s _ hf with h | h
    · exact h2 h
    · omega
theorem W3.rset {bx : Nat} {x : D} (o : D) (h : W3 w p q l m bx x w1) (hI : Inv m) :
    Calls Try.prog 14 #[.pointer (some ⟨q, 0, none⟩), o.v] w1 fun e w2 => e = .returned (.int .i64 (setE m o)) ∧ W3 w p q l (setL m o) bx x w2 := by
  obtain ⟨F, G, ⟨a, b, c, d, e, f⟩, h1, h2, h3⟩ := h
  have hbl := (Array.getElem?_eq_some_iff.1 h1).1
  refine (rset_any o _ b hI).mono ?_
  rintro e' w2 ⟨rfl, G', t, k, s⟩
  refine ⟨rfl, F, G', ⟨a.keep k (fun j hf hg => f j hf hg), t, c.trans (k.to_below e c.size), d, fun j hj => ?_, fun j hf hj => ?_⟩, (k.block _ hbl h3).trans h1, h2, fun hf => ?_⟩
  · rcases s j hj with h | h
    · exact e j h
    · exact Nat.le_trans c.size h
  · rcases s j hj with h | h
    · exact f j hf h
    · have := a.lt j hf; omega
  · rcases s _ hf with h | h
    · exact h3 h
    · omega
theorem c13 {w0 : World} {a1 a2 a3 a4 a5 a6 a7 a8 a9 a10 a11 a12 a13 : Nat × Nat × Value} (h : Cl w0 [a1, a2, a3, a4, a5, a6, a7, a8, a9, a10, a11, a12, a13] w) :
    Cy w a1 ∧ Cy w a2 ∧ Cy w a3 ∧ Cy w a4 ∧ Cy w a5 ∧ Cy w a6 ∧ Cy w a7 ∧ Cy w a8 ∧ Cy w a9 ∧ Cy w a10 ∧ Cy w a11 ∧ Cy w a12 ∧ Cy w a13 :=
  ⟨h.at_ a1 (by simp), h.at_ a2 (by simp), h.at_ a3 (by simp), h.at_ a4 (by simp), h.at_ a5 (by simp), h.at_ a6 (by simp), h.at_ a7 (by simp), h.at_ a8 (by simp), h.at_ a9 (by simp), h.at_ a10 (by simp), h.at_ a11 (by simp), h.at_ a12 (by simp), h.at_ a13 (by simp)⟩
end Go.Proofs.Ytnpdipmkikakcaa.opx
