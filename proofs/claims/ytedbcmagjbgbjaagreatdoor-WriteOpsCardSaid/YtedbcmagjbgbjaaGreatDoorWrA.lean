/- A text that is being written: a row of bytes of one's own; what turns beside it. Package write: name, functor, isPair, isInFront, isBetween, appendAtom. Package write: appendRow, appendCompound, appendInFront, appendBetween: what they write, if appendTerm writes its terms. Package write: appendList. Package write: appendTerm, text, Canonical, Ops. Package write: text, Canonical, Ops. What law 14 asks at every input (awake); the operators of New. -/
import Derived.Test.YtedbcmagjbgbjaaGreatDoorWalk
import Derived.Test.YtedbcmagjbgbjaaGreatDoorTkX
import Derived.Test.YtedbcmagjbgbjaaGreatDoorWrM
import Derived.Deep.AppendLies
import Derived.Test.YtedbcmagjbgbjaaGreatDoorOpF
import Derived.Lib.AppendStr
import Derived.Lib.OthersKept
import Derived.Lib.BufferKept
import Derived.Lib.UnsafeStr
import Derived.Test.YtedbcmagjbgbjaaGreatDoorOwn6
import Derived.Test.YtedbcmagjbgbjaaGreatDoorLst
import Derived.Test.YtedbcmagjbgbjaaGreatDoorRLs
namespace Go.Proofs.YtedbcmagjbgbjaaGreatDoor.wr
open Go.ChangeShapes Go.WideShapes Go.ChangeAt Go.RowKit Go.Maps
open Go.Proofs.YtedbcmagjbgbjaaGreatDoor.kp Go.Proofs.YtedbcmagjbgbjaaGreatDoor.tm Go.Proofs.YtedbcmagjbgbjaaGreatDoor.lie Go.Proofs.YtedbcmagjbgbjaaGreatDoor.tk
set_option linter.unusedVariables false
/-- the value v owns a row with these bytes, in no block below B -/
def TX (B : Nat) (X : LB) (v : Value) (w : World) : Prop := w.ownsRow B 5 1 v X.length (Lib.byteCells X)
/-- nothing below B has turned, and no row but of bytes -/
structure Cg (B : Nat) (w w' : World) : Prop where
  bel : Below B w w'
  oth : Lib.OthersKept 5 none w w'
/-- the rows of bytes from B on -/
def UX (B : Nat) (w : World) (k : Nat) : Prop := B ≤ k ∧ ∃ c fz, w.heap[k]? = some (.cells c 5 fz)
section
variable {B : Nat} {X : LB} {v : Value} {w w' w2 : World}
theorem Cg.refl (B : Nat) (w : World) : Cg B w w := ⟨Below.refl _ _, Lib.OthersKept.refl _ _ _⟩
theorem Cg.trans (h : Cg B w w') (k : Cg B w' w2) : Cg B w w2 := ⟨h.bel.trans k.bel, h.oth.trans k.oth⟩
theorem Cg.of_below (hB : B ≤ w.heap.size) (h : Below w.heap.size w w') : Cg B w w' := ⟨h.mono hB, (Lib.OthersKept.refl _ _ w).below h⟩
theorem Cg.below (h : Cg B w w') (hB : B ≤ w.heap.size) (k : Below w'.heap.size w' w2) : Cg B w w2 := h.trans (Cg.of_below (Nat.le_trans hB h.bel.size) k)
theorem Cg.size (h : Cg B w w') : w.heap.size ≤ w'.heap.size := h.bel.size
theorem Cg.keep (h : Cg B w w') : Keep (UX B w) w w' := ⟨h.bel.os, h.bel.tape, h.bel.output, h.bel.size, fun k hk hn => by
  by_cases hb : k < B
  · exact h.bel.block k hb
  · obtain ⟨o, ho⟩ : ∃ o, w.heap[k]? = some o := ⟨w.heap[k], Array.getElem?_eq_getElem hk⟩
    rw [ho]
    exact h.oth k o ho (by simp) fun c fz e => hn ⟨by omega, c, fz, by rw [ho, e]⟩⟩
theorem Cg.ux (h : Cg B w w') : ∀ b, b < w.heap.size → UX B w' b → UX B w b := fun b hb hu => by
  obtain ⟨h1, c, fz, h2⟩ := hu
  refine ⟨h1, ?_⟩
  obtain ⟨o, ho⟩ : ∃ o, w.heap[b]? = some o := ⟨w.heap[b], Array.getElem?_eq_getElem hb⟩
  refine Classical.byContradiction fun hn => ?_
  have := h.oth b o ho (by simp) fun c fz e => hn ⟨c, fz, by rw [ho, e]⟩
  rw [this] at h2
  exact hn ⟨c, fz, by rw [ho]; exact h2⟩
theorem Cg.lies {t : Tm} {x : Value} (h : Cg B w w') (hl : Lies (UX B w) w t x) : Lies (UX B w') w' t x := Lies.keep h.keep h.ux _ _ hl
theorem Cg.trow {l : List Tm} {a : Option Addr} {j : Nat} (h : Cg B w w') (hl : TRow (UX B w) w l a j) : TRow (UX B w') w' l a j := TRow.keep h.keep h.ux _ _ hl
theorem Cg.six {b o : Nat} {v0 v1 v2 v3 v4 v5 : Value} (h : Cg B w w') (hl : Six w b o v0 v1 v2 v3 v4 v5) (hx : ¬ UX B w b) : Six w' b o v0 v1 v2 v3 v4 v5 := hl.keep h.keep hx
theorem Cg.no {b : Nat} (h : Cg B w w') (hb : b < w.heap.size) (hx : ¬ UX B w b) : ¬ UX B w' b := fun e => hx (h.ux b hb e)
theorem Cg.block {b : Nat} (h : Cg B w w') (hb : b < w.heap.size) (hx : ¬ UX B w b) : w'.heap[b]? = w.heap[b]? := h.keep.block b hb hx
/-- what lies in old memory lies off all rows of bytes that are new -/
theorem lies_new {t : Tm} {x : Value} (h : Lies No w t x) : Lies (UX w.heap.size w) w t x := h.off fun b hb hu => absurd hu.1 (by omega)
theorem TX.nil (B : Nat) (w : World) : TX B [] (.slice none 0 0) w := World.ownsRow_nil _ _ _ _
theorem TX.below (h : TX B X v w) (hb : Below w.heap.size w w') : TX B X v w' := ow_keep h fun k e => hb.block k (World.ownsRow.lt h k e).2
theorem TX.drew (h : TX B X v w) (n : Nat) : TX B X v (w.drewN n) := h
theorem TX.row (h : TX B X v w) : ∀ g, v.ownBlock = some g → ∃ c fz, w.heap[g]? = some (.cells c 5 fz) := by
  intro g hg
  rcases h.2 with ⟨rfl, h0⟩ | ⟨g', cap, cur, rfl, _, hgc, _⟩
  · cases hg
  · simp only [Value.ownBlock, Option.some.injEq] at hg
    subst hg
    exact ⟨cur, _, hgc⟩
theorem TX.shape (h : TX B X v w) : ∃ a c, v = .slice a X.length c := kp.shape h
theorem TX.cg (h : TX B X v w) (hB : B ≤ w.heap.size) (hg : w.grownBy w' v.ownBlock) : Cg B w w' :=
  ⟨(Below.refl B w).grown hg hB fun k e => (World.ownsRow.lt h k e).1, (Lib.OthersKept.refl _ _ w).grown hg h.row⟩
theorem TX.conv (h : TX B X v w) : (convert 123 9 v).run Tryz.prog w = .ok (.string ⟨X.toArray⟩) w := by
  rcases h.2 with ⟨rfl, h0⟩ | ⟨g, cap, cur, rfl, hg0, hg, hc, hm, hs, hx⟩
  · obtain rfl : X = [] := List.eq_nil_of_length_eq_zero h0
    exact run_convert_bytes_nil (w := w) _ _ Tryz.underlying123 Tryz.underlying5 _ _ _ Tryz.underlying9
  · refine run_convert_bytes_back (P := Tryz.prog) w 123 9 5 ⟨g, 0, none⟩ cap X Tryz.underlying123 Tryz.underlying5 Tryz.underlying9 fun j hj => ?_
    have h3 := World.ownsRow.cellAt h j (by omega)
    rw [show (⟨g, 0, none⟩ : Addr).add j = ⟨g, j, none⟩ from by simp [Addr.add]; omega, h3, Lib.byteCells, List.getElem?_map, List.getElem?_eq_getElem hj]
    rfl
end
theorem TX.ad {B : Nat} {X : LB} {v : Value} {w : World} (h : TX B X v w) (o : Obj) : TX B X v (w.alloc o).drew := (h.below (ba w o)).below (bdr _)
theorem TX.d1 {B : Nat} {X : LB} {v : Value} {w : World} (h : TX B X v w) : TX B X v w.drew := h.below (bdr _)
theorem sz_ad {B : Nat} {w : World} (h : B ≤ w.heap.size) (o : Obj) : B ≤ (w.alloc o).drew.heap.size := Nat.le_trans h (by show w.heap.size ≤ (w.alloc o).heap.size; rw [alloc_size]; omega)
theorem lit_ad (w : World) (z : Value) (t : TypeId) : (w.alloc (.cells #[z] t)).drew.cell? ⟨w.heap.size, 0, none⟩ = some z := alloc_cell w _ #[z] t _ 0 rfl rfl
theorem Cg.ad {B : Nat} {w : World} (h : B ≤ w.heap.size) (o : Obj) : Cg B w (w.alloc o).drew := Cg.of_below h (bt (ba _ _) (bdr _))
/-- a byte behind a text -/
theorem wp_byte {w : World} {ops : Array Oper} {rest : List Oper} {o : Oper} {a : Act} {Q : Exit → Act → World → Prop} (hgd : o.guard = none) (s x : Operand)
    (ho : o.op = .call { callee := .builtin .append, args := #[s, x], argTypes := #[123, 123] })
    {B : Nat} {X : LB} {v : Value} (hs : a.eval s = v) (hT : TX B X v w) (hB : B ≤ w.heap.size) (c : UInt8) (g : Nat) (hx : a.eval x = .slice (some ⟨g, 0, none⟩) 1 1) (hc : w.cell? ⟨g, 0, none⟩ = some (.int .u8 (c.toNat : Int))) (hl : X.length ≤ 1000000000)
    (h : ∀ v' w', TX B (X ++ [c]) v' w' → Cg B w w' → wpList Tryz.prog ops Q rest (a.put o.dst v') w') : wpList Tryz.prog ops Q (o :: rest) a w := by
  obtain ⟨i, hi1, hi2, hi3, hi4⟩ := info_of infoU
  refine wpList_append_own w hgd s x 123 ho B 5 i (.int .u8 0) 1 1 Tryz.underlying123 hi1 hi2 hi3 hi4 rfl (by decide) v X.length (Lib.byteCells X) hs hT ⟨g, 0, none⟩ 1 1 [.int .u8 (c.toNat : Int)] hx rfl ?_ ?_ (by unfold maxLen; omega) (by omega) hB ?_
  · intro j u hj
    match j, hj with
    | 0, hj => simp at hj; subst hj; simpa [Addr.add] using hc
    | (j + 1), hj => simp at hj
  · intro u hu; simp at hu; subst hu; rfl
  · intro v' w' ho' hg _
    refine h v' w' ?_ (hT.cg hB hg)
    unfold TX
    rw [List.length_append, Lib.byteCells_append]
    exact ho'
/-- a string behind a text -/
theorem wp_text {w : World} {ops : Array Oper} {rest : List Oper} {o : Oper} {a : Act} {Q : Exit → Act → World → Prop} (hgd : o.guard = none) (s x : Operand)
    (ho : o.op = .call { callee := .builtin .append, args := #[s, x], argTypes := #[123, 9] })
    {B : Nat} {X : LB} {v : Value} (hs : a.eval s = v) (hT : TX B X v w) (hB : B ≤ w.heap.size) (Y : LB) (hx : a.eval x = .string ⟨Y.toArray⟩) (hl : X.length ≤ 1000000000) (hl2 : Y.length ≤ 1000000000)
    (h : ∀ v' w', TX B (X ++ Y) v' w' → Cg B w w' → wpList Tryz.prog ops Q rest (a.put o.dst v') w') : wpList Tryz.prog ops Q (o :: rest) a w := by
  obtain ⟨i, hi1, hi2, hi3, hi4⟩ := info_of infoU
  have hsz : (⟨Y.toArray⟩ : ByteArray).size = Y.length := by simp [ByteArray.size]
  refine Lib.wpList_append_own_string w hgd s x 123 9 ho B 5 i Tryz.underlying123 Tryz.underlying9 hi1 hi2 hi3 hi4 v X.length (Lib.byteCells X) hs hT ⟨Y.toArray⟩ hx (by unfold maxLen; omega) (by omega) hB ?_
  intro v' w' ho' hg _
  refine h v' w' ?_ (hT.cg hB hg)
  unfold TX
  rw [List.length_append, Lib.byteCells_append]
  rw [hsz] at ho'
  have e : Lib.strCells ⟨Y.toArray⟩ = Lib.byteCells Y := by simp [Lib.strCells, Lib.byteCells]
  rw [e] at ho'
  exact ho'
/-- the same at a step of a region that draws its order -/
theorem step_byte {w : World} {ops : Array Oper} {o : Oper} {a : Act} {K : Act → World → Prop} {Q : Exit → Act → World → Prop} {E : Prop} (hgd : o.guard = none) (s x : Operand)
    (ho : o.op = .call { callee := .builtin .append, args := #[s, x], argTypes := #[123, 123] })
    {B : Nat} {X : LB} {v : Value} (hs : a.eval s = v) (hT : TX B X v w) (hB : B ≤ w.heap.size) (c : UInt8) (g : Nat) (hx : a.eval x = .slice (some ⟨g, 0, none⟩) 1 1) (hc : w.cell? ⟨g, 0, none⟩ = some (.int .u8 (c.toNat : Int))) (hl : X.length ≤ 1000000000)
    (h : ∀ v' w', TX B (X ++ [c]) v' w' → Cg B w w' → K (a.put o.dst v') w') : if Region.wanted o (yielded ops a.tmps) = true then Oper.wp Tryz.prog o a w K Q else E := by
  obtain ⟨i, hi1, hi2, hi3, hi4⟩ := info_of infoU
  have hw : Region.wanted o (yielded ops a.tmps) = true := by simp [Region.wanted, hgd]
  rw [if_pos hw]
  refine wp_append_own w s x 123 ho B 5 i (.int .u8 0) 1 1 Tryz.underlying123 hi1 hi2 hi3 hi4 rfl (by decide) v X.length (Lib.byteCells X) hs hT ⟨g, 0, none⟩ 1 1 [.int .u8 (c.toNat : Int)] hx rfl ?_ ?_ (by unfold maxLen; omega) (by omega) hB ?_
  · intro j u hj
    match j, hj with
    | 0, hj => simp at hj; subst hj; simpa [Addr.add] using hc
    | (j + 1), hj => simp at hj
  · intro u hu; simp at hu; subst hu; rfl
  · intro v' w' ho' hg _
    refine h v' w' ?_ (hT.cg hB hg)
    unfold TX
    rw [List.length_append, Lib.byteCells_append]
    exact ho'
/-- a literal byte behind a text -/
theorem wp_lit {w : World} {ops : Array Oper} {rest : List Oper} {o : Oper} {a : Act} {Q : Exit → Act → World → Prop} (hgd : o.guard = none) (s x : Operand)
    (ho : o.op = .call { callee := .builtin .append, args := #[s, x], argTypes := #[123, 123] })
    {B : Nat} {X : LB} {v : Value} (hs : a.eval s = v) (hT : TX B X v w) (hB : B ≤ w.heap.size) (c : UInt8) {z : Value} (hz : z = .int .u8 (c.toNat : Int)) (hx : a.eval x = .slice (some ⟨w.heap.size, 0, none⟩) 1 1) (hl : X.length ≤ 1000000000)
    (h : ∀ v' w', TX B (X ++ [c]) v' w' → Cg B w w' → wpList Tryz.prog ops Q rest (a.put o.dst v') w') : wpList Tryz.prog ops Q (o :: rest) a (w.alloc (.cells #[z] 5)) := by
  subst hz
  exact wp_byte hgd s x ho hs (hT.below (ba _ _)) (Nat.le_trans hB (ba w (.cells #[.int .u8 (c.toNat : Int)] 5)).size) c w.heap.size hx (alloc_cell w _ #[.int .u8 (c.toNat : Int)] 5 _ 0 rfl rfl) hl fun v' w' t k => h v' w' t ((Cg.of_below hB (ba _ _)).trans k)
/-- the writer's box -/
def WB (b : Nat) (tp : Value) (w : World) : Prop := w.heap[b]? = some (.cells #[tp, .bool false] 101 (0, 0))
theorem WB.lt {b : Nat} {tp : Value} {w : World} (h : WB b tp w) : b < w.heap.size := (Array.getElem?_eq_some_iff.1 h).1
theorem WB.below {b : Nat} {tp : Value} {w w' : World} (h : WB b tp w) (k : Below w.heap.size w w') : WB b tp w' := (k.block b h.lt).trans h
theorem WB.cg {b B : Nat} {tp : Value} {w w' : World} (h : WB b tp w) (k : Cg B w w') : WB b tp w' := k.oth b _ h (by simp) (fun c fz e => by simp at e)
theorem WB.new (tp : Value) (w : World) : WB w.heap.size tp (w.alloc (.cells #[tp, .bool false] 101)) := alloc_at _ _
theorem WB.cells {b : Nat} {tp : Value} {w : World} (h : WB b tp w) : w.cell? ⟨b, 0, none⟩ = some tp ∧ w.cell? ⟨b, 1, none⟩ = some (.bool false) := by
  constructor <;> simp [World.cell?, show w.heap[b]? = _ from h]
/-- a term's box -/
def TB (b : Nat) (k : Int) (n : ByteArray) (i re im : Int) (s : Value) (w : World) : Prop := w.heap[b]? = some (.cells #[.int .i64 k, .string n, .int .i64 i, .int .u64 re, .int .u64 im, s] 27 (0, 0))
theorem TB.lt {b : Nat} {k : Int} {n : ByteArray} {i re im : Int} {s : Value} {w : World} (h : TB b k n i re im s w) : b < w.heap.size := (Array.getElem?_eq_some_iff.1 h).1
theorem TB.below {b : Nat} {k : Int} {n : ByteArray} {i re im : Int} {s : Value} {w w' : World} (h : TB b k n i re im s w) (q : Below w.heap.size w w') : TB b k n i re im s w' := (q.block b h.lt).trans h
theorem TB.cg {b B : Nat} {k : Int} {n : ByteArray} {i re im : Int} {s : Value} {w w' : World} (h : TB b k n i re im s w) (q : Cg B w w') : TB b k n i re im s w' := q.oth b _ h (by simp) (fun c fz e => by simp at e)
theorem TB.new (k : Int) (n : ByteArray) (i re im : Int) (s : Value) (w : World) : TB w.heap.size k n i re im s (w.alloc (.cells #[.int .i64 k, .string n, .int .i64 i, .int .u64 re, .int .u64 im, s] 27)) := alloc_at _ _
theorem TB.cells {b : Nat} {k : Int} {n : ByteArray} {i re im : Int} {s : Value} {w : World} (h : TB b k n i re im s w) :
    w.cell? ⟨b, 0, none⟩ = some (.int .i64 k) ∧ w.cell? ⟨b, 1, none⟩ = some (.string n) ∧ w.cell? ⟨b, 2, none⟩ = some (.int .i64 i) ∧ w.cell? ⟨b, 3, none⟩ = some (.int .u64 re) ∧ w.cell? ⟨b, 4, none⟩ = some (.int .u64 im) ∧ w.cell? ⟨b, 5, none⟩ = some s := by
  refine ⟨?_, ?_, ?_, ?_, ?_, ?_⟩ <;> simp [World.cell?, show w.heap[b]? = _ from h]
/-! ### what the writer stands on -/
/-- the table tells these names -/
def Wr (B : Nat) (W : Ways) (tp : Value) (w : World) : Prop :=
  (tp = .pointer none ∧ W = W0) ∨
  (∃ p F tl, tp = .pointer (some ⟨p, 0, none⟩) ∧ opb.Tb w p F tl ∧ (∀ k, F k → k < B) ∧ opa.Srt tl ∧ tl.length ≤ 1000 ∧
    ∀ n, W.pf n = (opa.is tl ⟨n, 4, 0⟩ && plainB n) ∧ W.bt n = (opa.is tl ⟨n, 1, 0⟩ && (decide (n = COM) || plainB n)))
structure Env (B : Nat) (W : Ways) (tp : Value) (w : World) : Prop where
  hB : B ≤ w.heap.size
  wr : Wr B W tp w
  vr : VR B w
  tb : Lib.TabBelow Tryz.prog B w "internal/strconv.uint64pow10" .u64 Lib.pow10Tab
end Go.Proofs.YtedbcmagjbgbjaaGreatDoor.wr
namespace Go.Proofs.YtedbcmagjbgbjaaGreatDoor.wr
open Go.ChangeShapes Go.WideShapes Go.ChangeAt Go.RowKit Go.Maps
open Go.Proofs.YtedbcmagjbgbjaaGreatDoor.kp Go.Proofs.YtedbcmagjbgbjaaGreatDoor.tm Go.Proofs.YtedbcmagjbgbjaaGreatDoor.lie Go.Proofs.YtedbcmagjbgbjaaGreatDoor.tk
set_option linter.unusedVariables false
section
variable {B : Nat} {W : Ways} {tp : Value} {w w' : World} {X S : LB} {v : Value}
theorem vr_more {B B' : Nat} (h : VR B w) (hb : B ≤ B') : VR B' w := by
  obtain ⟨W, a, b, c⟩ := h
  exact ⟨W, a, b, Nat.le_trans c hb⟩
theorem Env.cg (h : Env B W tp w) (k : Cg B w w') : Env B W tp w' := by
  have hk : Keep (fun i => B ≤ i) w w' := ⟨k.bel.os, k.bel.tape, k.bel.output, k.bel.size, fun i _ hn => k.bel.block i (by omega)⟩
  refine ⟨Nat.le_trans h.hB k.size, ?_, h.vr.keep hk (fun _ => id), h.tb.on k.bel⟩
  rcases h.wr with hw | ⟨p, F, tl, h1, h2, h3, h4, h5, h6⟩
  · exact Or.inl hw
  · exact Or.inr ⟨p, F, tl, h1, h2.keep hk (fun i hi => by have := h3 i hi; omega), h3, h4, h5, h6⟩
theorem Env.below (h : Env B W tp w) (k : Below w.heap.size w w') : Env B W tp w' := h.cg (Cg.of_below h.hB k)
theorem name_any (hv : VR w.heap.size w) (hS : S.length ≤ 65000) :
    Calls Tryz.prog 153 #[.agg #[tp, .bool false], .string ⟨S.toArray⟩] w fun e w' => e = .returned (.string ⟨(quoteL S).toArray⟩) ∧ Below w.heap.size w w' := by
  have hq : ∀ w1, Below w.heap.size w w1 → _ := fun w1 hb => quote_any' S hS w1 (hv.up hb)
  have HQ := Lib.hid hq
  clear hq hv
  go_enter Tryz.func153, Tryz.ntmps153
  go_wp2_with fail
  refine (HQ.out _ (ba _ _)).mono ?_; rintro e w1 ⟨rfl, b1⟩
  have hb := bt (ba _ _) b1
  clear HQ b1
  go_wp2_with fail
  go_ret
  exact ⟨rfl, hb⟩
theorem functor_any (hv : VR w.heap.size w) (hS : S.length ≤ 65000) :
    Calls Tryz.prog 157 #[.agg #[tp, .bool false], .string ⟨S.toArray⟩] w fun e w' => e = .returned (.string ⟨(fnm S).toArray⟩) ∧ Below w.heap.size w w' := by
  by_cases h : S = NILL
  · subst h
    have hf : fnm NILL = [39, 91, 93, 39] := by unfold fnm; rw [if_pos rfl]
    rw [hf]
    clear hv hf hS
    unfold NILL
    go_enter Tryz.func157, Tryz.ntmps157
    go_wp2_with fail
    go_ret
    exact ⟨rfl, ba _ _⟩
  · have hf : fnm S = quoteL S := by unfold fnm; rw [if_neg h]
    rw [hf]
    have hn : ∀ w1, Below w.heap.size w w1 → _ := fun w1 hb => name_any (tp := tp) (hv.up hb) hS
    have hne : (S == [91, 93]) = false := beq_eq_false_iff_ne.2 h
    have HQ := Lib.hid hn
    clear hn hv hf h
    go_enter Tryz.func157, Tryz.ntmps157
    go_wp2_with fail
    refine (HQ.out _ (ba _ _)).mono ?_; rintro e w1 ⟨rfl, b1⟩
    have hb := bt (ba _ _) b1
    clear HQ b1
    go_wp2_with fail
    go_ret
    exact ⟨rfl, hb⟩
theorem isPair_any (k : Int) (n : ByteArray) (i re im : Int) (a : Option Addr) (len c : Nat) (w : World) :
    Calls Tryz.prog 114 #[.agg #[.int .i64 k, .string n, .int .i64 i, .int .u64 re, .int .u64 im, .slice a len c]] w fun e w' => e = .returned (.bool (decide (isP k (bl n) len))) ∧ Below w.heap.size w w' := by
  have hn : n = ⟨(bl n).toArray⟩ := rfl
  by_cases h5 : k = 5
  · have d5 : decide (k = 5) = true := decide_eq_true h5
    by_cases hd : bl n = DOTL
    · have hnn : n = ⟨#[46]⟩ := by rw [hn, hd]; rfl
      by_cases h2 : len = 2
      · have e : decide (isP k (bl n) len) = true := decide_eq_true ⟨h5, hd, h2⟩
        rw [e]
        subst h5 h2 hnn
        clear e hd hn d5
        go_enter Tryz.func114, Tryz.ntmps114
        go_wp2_with fail
        go_ret
        exact ⟨rfl, ba _ _⟩
      · have e : decide (isP k (bl n) len) = false := decide_eq_false fun h => h2 h.2.2
        rw [e]
        have d2 : ((len : Int) == 2) = false := beq_eq_false_iff_ne.2 (by omega)
        subst h5 hnn
        clear e hd hn d5 h2
        go_enter Tryz.func114, Tryz.ntmps114
        go_wp2_with fail
        go_ret
        exact ⟨rfl, ba _ _⟩
    · have e : decide (isP k (bl n) len) = false := decide_eq_false fun h => hd h.2.1
      rw [e]
      have dn : (n.toList == [46]) = false := beq_eq_false_iff_ne.2 (fun h => hd (by rw [ByteArray.toList_eq] at h; exact h))
      subst h5
      clear e hd hn d5
      go_enter Tryz.func114, Tryz.ntmps114
      go_wp2_with fail
      go_ret
      exact ⟨rfl, ba _ _⟩
  · have e : decide (isP k (bl n) len) = false := decide_eq_false fun h => h5 h.1
    rw [e]
    have d5 : (k == 5) = false := beq_eq_false_iff_ne.2 h5
    clear e hn h5
    go_enter Tryz.func114, Tryz.ntmps114
    go_wp2_with fail
    go_ret
    exact ⟨rfl, ba _ _⟩
/-- what a table tells of a name -/
theorem pre_of (E : Env B W tp w) (S : LB) : ∃ d b, (∀ w1, Below w.heap.size w w1 → Calls Tryz.prog 156 #[tp, .string ⟨S.toArray⟩] w1 fun e w' => e = .returned (.tuple #[opa.D.v d, .bool b]) ∧ Below w1.heap.size w1 w') ∧ W.pf S = (b && plainB S) := by
  rcases E.wr with ⟨rfl, rfl⟩ | ⟨p, F, tl, rfl, h2, h3, h4, h5, h6⟩
  · exact ⟨⟨[], 0, 0⟩, false, fun w1 hb => ope.prefix_nil S w1, rfl⟩
  · exact ⟨_, _, fun w1 hb => ope.prefix_any S w1 (h2.below hb) h4 h5, (h6 S).1⟩
theorem inf_of (E : Env B W tp w) (S : LB) : ∃ d b, (∀ w1, Below w.heap.size w w1 → Calls Tryz.prog 133 #[tp, .string ⟨S.toArray⟩] w1 fun e w' => e = .returned (.tuple #[opa.D.v d, .bool b]) ∧ Below w1.heap.size w1 w') ∧ W.bt S = (b && (decide (S = COM) || plainB S)) := by
  rcases E.wr with ⟨rfl, rfl⟩ | ⟨p, F, tl, rfl, h2, h3, h4, h5, h6⟩
  · exact ⟨⟨[], 0, 0⟩, false, fun w1 hb => ope.infix_nil S w1, rfl⟩
  · exact ⟨_, _, fun w1 hb => ope.infix_any S w1 (h2.below hb) h4 h5, (h6 S).2⟩
set_option maxRecDepth 100000 in
set_option maxHeartbeats 4000000 in
theorem front_any (E : Env B W tp w) (hS : S.length ≤ 65000) :
    Calls Tryz.prog 118 #[.agg #[tp, .bool false], .string ⟨S.toArray⟩] w fun e w' => e = .returned (.bool (W.pf S)) ∧ Below w.heap.size w w' := by
  obtain ⟨⟨dn, dk, dp⟩, b, hc, hpf⟩ := pre_of E S
  rw [hpf]
  have hv : ∀ w1, Below w.heap.size w w1 → _ := fun w1 hb => plain_any S hS w1 ((vr_more E.vr E.hB).up hb)
  have HV := Lib.hid (And.intro hc hv)
  clear hc hv hpf E
  go_enter Tryz.func118, Tryz.ntmps118
  go_wp2_with fail
  refine (HV.out.1 _ (ba _ _)).mono ?_; rintro e w1 ⟨rfl, b1⟩
  have hb := bt (ba _ _) b1
  unfold opa.D.v
  have HB := Lib.hid hb
  clear hb b1
  go_upto_region 2 with fail
  have hb3 := HB.out.trans ((ba w1 (.cells #[.string ⟨dn.toArray⟩, .int .i64 dk, .int .i64 dp] 45)).mono HB.out.size)
  generalize w1.alloc (.cells #[.string ⟨dn.toArray⟩, .int .i64 dk, .int .i64 dp] 45) = w3 at hb3 ⊢
  have HB3 := Lib.hid hb3
  clear hb3 HB
  cases b with
  | false =>
    go_wp2_with fail
    go_ret
    exact ⟨rfl, HB3.out⟩
  | true =>
    go_wp2_with fail
    refine (HV.out.2 _ HB3.out).mono ?_; rintro e w4 ⟨rfl, b4⟩
    have hb := HB3.out.trans (b4.mono HB3.out.size)
    clear b4 HV HB3
    go_wp2_with fail
    go_ret
    exact ⟨rfl, hb⟩
set_option maxRecDepth 100000 in
set_option maxHeartbeats 4000000 in
theorem between_any (E : Env B W tp w) (hS : S.length ≤ 65000) :
    Calls Tryz.prog 116 #[.agg #[tp, .bool false], .string ⟨S.toArray⟩] w fun e w' => e = .returned (.bool (W.bt S)) ∧ Below w.heap.size w w' := by
  obtain ⟨⟨dn, dk, dp⟩, b, hc, hpf⟩ := inf_of E S
  rw [hpf]
  have hv : ∀ w1, Below w.heap.size w w1 → _ := fun w1 hb => plain_any S hS w1 ((vr_more E.vr E.hB).up hb)
  have HV := Lib.hid (And.intro hc hv)
  clear hc hv hpf E
  go_enter Tryz.func116, Tryz.ntmps116
  go_wp2_with fail
  refine (HV.out.1 _ (ba _ _)).mono ?_; rintro e w1 ⟨rfl, b1⟩
  have hb := bt (ba _ _) b1
  unfold opa.D.v
  have HB := Lib.hid hb
  clear hb b1
  go_upto_region 2 with fail
  have hb3 := HB.out.trans ((ba w1 (.cells #[.string ⟨dn.toArray⟩, .int .i64 dk, .int .i64 dp] 45)).mono HB.out.size)
  generalize w1.alloc (.cells #[.string ⟨dn.toArray⟩, .int .i64 dk, .int .i64 dp] 45) = w3 at hb3 ⊢
  have HB3 := Lib.hid hb3
  clear hb3 HB
  cases b with
  | false =>
    go_wp2_with fail
    go_ret
    exact ⟨rfl, HB3.out⟩
  | true =>
    by_cases hc : S = COM
    · have e1 : (S == [44]) = true := beq_iff_eq.2 hc
      have e2 : (true && (decide (S = COM) || plainB S)) = true := by rw [decide_eq_true hc]; rfl
      have HE := Lib.hid e2
      clear e2 hc HV
      go_wp2_with fail
      go_ret
      exact ⟨rb HE.out.symm, HB3.out⟩
    · have e1 : (S == [44]) = false := beq_eq_false_iff_ne.2 hc
      have e2 : (true && (decide (S = COM) || plainB S)) = plainB S := by rw [decide_eq_false hc]; rfl
      have HE := Lib.hid e2
      clear e2 hc
      go_wp2_with fail
      refine (HV.out.2 _ HB3.out).mono ?_; rintro e w4 ⟨rfl, b4⟩
      have hb := HB3.out.trans (b4.mono HB3.out.size)
      clear b4 HV HB3
      go_wp2_with fail
      go_ret
      exact ⟨rb HE.out.symm, hb⟩
/-- what a call that writes text tells -/
def TE (B : Nat) (Y : LB) (w : World) (e : Ending) (w' : World) : Prop := ∃ v', e = .returned v' ∧ TX B Y v' w' ∧ Cg B w w'
set_option maxRecDepth 100000 in
set_option maxHeartbeats 4000000 in
theorem atom_any (E : Env B W tp w) (hT : TX B X v w) (hX : X.length ≤ 900000000) (hS : S.length ≤ 65000) :
    Calls Tryz.prog 113 #[.agg #[tp, .bool false], v, .string ⟨S.toArray⟩] w (TE B (X ++ atT W S) w) := by
  have hf : ∀ w1, Below w.heap.size w w1 → _ := fun w1 hb => front_any (E.below hb) hS
  have hg : ∀ w1, Below w.heap.size w w1 → _ := fun w1 hb => between_any (E.below hb) hS
  have hn : ∀ w1, Cg B w w1 → _ := fun w1 hb => name_any (tp := tp) (vr_more (E.cg hb).vr (E.cg hb).hB) hS
  have hlq := quote_len S
  have HF := Lib.hid hf
  have HG := Lib.hid hg
  have HN := Lib.hid hn
  have HT := Lib.hid (And.intro hT E.hB)
  clear hf hg hn hT E
  by_cases hc : S = COM
  · have e1 : (S == [44]) = true := beq_iff_eq.2 hc
    have ha : atT W S = quoteL S := by unfold atT; rw [if_pos (Or.inl hc)]
    have HA := Lib.hid ha
    clear hc ha
    have bel := ba w (.cells #[tp, .bool false] 101)
    have wb := WB.new tp w
    obtain ⟨x0, x1⟩ := wb.cells
    go_enter Tryz.func113, Tryz.ntmps113
    go_upto_region 2 with fail
    have HM := Lib.hid (And.intro bel wb)
    clear bel wb HF HG x0 x1
    obtain ⟨x0, x1⟩ := HM.out.2.cells
    go_wp2_with fail
    refine (HN.out _ (Cg.of_below HT.out.2 HM.out.1)).mono ?_; rintro e w5 ⟨rfl, b5⟩
    have b9 := HM.out.1.trans (b5.mono HM.out.1.size)
    have c5 : Cg B w w5 := Cg.of_below HT.out.2 b9
    have H5 := Lib.hid (And.intro c5 (And.intro (HT.out.1.below b9) (Nat.le_trans HT.out.2 c5.size)))
    clear c5 b9 b5 HN x0 x1 HM
    go_wp2_with (at_builtin; refine wp_text rfl (.tmp 21) (.tmp 24) rfl rfl H5.out.2.1 H5.out.2.2 (quoteL S) rfl (by omega) (by omega) ?_)
    intro v6 w6 t6 c6
    have H6 := Lib.hid (And.intro (H5.out.1.trans c6) t6)
    clear c6 t6 H5
    go_wp2_with fail
    go_ret
    exact ⟨v6, rfl, by rw [HA.out]; exact H6.out.2, H6.out.1⟩
  · have e1 : (S == [44]) = false := beq_eq_false_iff_ne.2 hc
    cases hp : W.pf S with
    | true =>
      have ha : atT W S = 40 :: (quoteL S ++ [41]) := by unfold atT; rw [if_neg]; rintro (h | h); exact hc h; rw [hp] at h; cases h.1
      have HA := Lib.hid ha
      rw [hp] at HF
      clear hc ha hp HG
      have bel := ba w (.cells #[tp, .bool false] 101)
      have wb := WB.new tp w
      obtain ⟨x0, x1⟩ := wb.cells
      go_enter Tryz.func113, Tryz.ntmps113
      go_wp2_with fail
      refine (HF.out _ bel).mono ?_; rintro e w1 ⟨rfl, b1⟩
      have bel := bel.trans (b1.mono bel.size)
      have wb := wb.below b1
      clear b1 x0 x1
      obtain ⟨x0, x1⟩ := wb.cells
      go_upto_region 3 with fail
      have HG := bel
      have HM := Lib.hid (And.intro bel (And.intro wb (And.intro (HT.out.1.below bel) (Nat.le_trans HT.out.2 bel.size))))
      clear bel wb HF HG x0 x1
      go_wp2_with (at_builtin; refine wp_lit rfl (.tmp 26) (.tmp 27) rfl rfl HM.out.2.2.1 HM.out.2.2.2 40 rfl rfl (by omega) ?_)
      intro v6 w6 t6 c6
      have H6 := Lib.hid (And.intro ((Cg.of_below HT.out.2 HM.out.1).trans c6) (And.intro t6 (HM.out.2.1.cg c6)))
      clear c6 t6 HM
      obtain ⟨x0, x1⟩ := H6.out.2.2.cells
      go_wp2_with fail
      refine (HN.out _ H6.out.1).mono ?_; rintro e w7 ⟨rfl, b7⟩
      have H7 := Lib.hid (And.intro (H6.out.1.below HT.out.2 b7) (And.intro (H6.out.2.1.below b7) (Nat.le_trans HT.out.2 (H6.out.1.below HT.out.2 b7).size)))
      clear b7 HN x0 x1 H6
      go_wp2_with (at_builtin; refine wp_text rfl (.tmp 29) (.tmp 32) rfl rfl H7.out.2.1 H7.out.2.2 (quoteL S) rfl (by simp; omega) (by omega) ?_)
      intro v8 w8 t8 c8
      have H8 := Lib.hid (And.intro (H7.out.1.trans c8) (And.intro t8 (Nat.le_trans H7.out.2.2 c8.size)))
      clear c8 t8 H7
      go_wp2_with (at_builtin; refine wp_lit rfl (.tmp 34) (.tmp 35) rfl rfl H8.out.2.1 H8.out.2.2 41 rfl rfl (by simp; omega) ?_)
      intro v9 w9 t9 c9
      have H9 := Lib.hid (And.intro (H8.out.1.trans c9) t9)
      clear c9 t9 H8
      go_wp2_with fail
      go_ret
      exact ⟨v9, rfl, by rw [HA.out]; exact H9.out.2, H9.out.1⟩
    | false =>
      rw [hp] at HF
      cases hq : W.bt S with
      | true =>
        have ha : atT W S = 40 :: (quoteL S ++ [41]) := by unfold atT; rw [if_neg]; rintro (h | h); exact hc h; rw [hq] at h; cases h.2
        have HA := Lib.hid ha
        rw [hq] at HG
        clear hc ha hp hq
        have bel := ba w (.cells #[tp, .bool false] 101)
        have wb := WB.new tp w
        obtain ⟨x0, x1⟩ := wb.cells
        go_enter Tryz.func113, Tryz.ntmps113
        go_wp2_with fail
        refine (HF.out _ bel).mono ?_; rintro e w1 ⟨rfl, b1⟩
        have bel := bel.trans (b1.mono bel.size)
        have wb := wb.below b1
        clear b1 x0 x1
        obtain ⟨x0, x1⟩ := wb.cells
        go_wp2_with fail
        refine (HG.out _ bel).mono ?_; rintro e w2 ⟨rfl, b2⟩
        have bel := bel.trans (b2.mono bel.size)
        have wb := wb.below b2
        clear b2 x0 x1
        obtain ⟨x0, x1⟩ := wb.cells
        go_upto_region 3 with fail
        have HM := Lib.hid (And.intro bel (And.intro wb (And.intro (HT.out.1.below bel) (Nat.le_trans HT.out.2 bel.size))))
        clear bel wb HF HG x0 x1
        go_wp2_with (at_builtin; refine wp_lit rfl (.tmp 26) (.tmp 27) rfl rfl HM.out.2.2.1 HM.out.2.2.2 40 rfl rfl (by omega) ?_)
        intro v6 w6 t6 c6
        have H6 := Lib.hid (And.intro ((Cg.of_below HT.out.2 HM.out.1).trans c6) (And.intro t6 (HM.out.2.1.cg c6)))
        clear c6 t6 HM
        obtain ⟨x0, x1⟩ := H6.out.2.2.cells
        go_wp2_with fail
        refine (HN.out _ H6.out.1).mono ?_; rintro e w7 ⟨rfl, b7⟩
        have H7 := Lib.hid (And.intro (H6.out.1.below HT.out.2 b7) (And.intro (H6.out.2.1.below b7) (Nat.le_trans HT.out.2 (H6.out.1.below HT.out.2 b7).size)))
        clear b7 HN x0 x1 H6
        go_wp2_with (at_builtin; refine wp_text rfl (.tmp 29) (.tmp 32) rfl rfl H7.out.2.1 H7.out.2.2 (quoteL S) rfl (by simp; omega) (by omega) ?_)
        intro v8 w8 t8 c8
        have H8 := Lib.hid (And.intro (H7.out.1.trans c8) (And.intro t8 (Nat.le_trans H7.out.2.2 c8.size)))
        clear c8 t8 H7
        go_wp2_with (at_builtin; refine wp_lit rfl (.tmp 34) (.tmp 35) rfl rfl H8.out.2.1 H8.out.2.2 41 rfl rfl (by simp; omega) ?_)
        intro v9 w9 t9 c9
        have H9 := Lib.hid (And.intro (H8.out.1.trans c9) t9)
        clear c9 t9 H8
        go_wp2_with fail
        go_ret
        exact ⟨v9, rfl, by rw [HA.out]; exact H9.out.2, H9.out.1⟩
      | false =>
        have ha : atT W S = quoteL S := by unfold atT; rw [if_pos (Or.inr ⟨hp, hq⟩)]
        have HA := Lib.hid ha
        rw [hq] at HG
        clear hc ha hp hq
        have bel := ba w (.cells #[tp, .bool false] 101)
        have wb := WB.new tp w
        obtain ⟨x0, x1⟩ := wb.cells
        go_enter Tryz.func113, Tryz.ntmps113
        go_wp2_with fail
        refine (HF.out _ bel).mono ?_; rintro e w1 ⟨rfl, b1⟩
        have bel := bel.trans (b1.mono bel.size)
        have wb := wb.below b1
        clear b1 x0 x1
        obtain ⟨x0, x1⟩ := wb.cells
        go_wp2_with fail
        refine (HG.out _ bel).mono ?_; rintro e w2 ⟨rfl, b2⟩
        have bel := bel.trans (b2.mono bel.size)
        have wb := wb.below b2
        clear b2 x0 x1
        obtain ⟨x0, x1⟩ := wb.cells
        go_upto_region 2 with fail
        have HM := Lib.hid (And.intro bel wb)
        clear bel wb HF HG x0 x1
        obtain ⟨x0, x1⟩ := HM.out.2.cells
        go_wp2_with fail
        refine (HN.out _ (Cg.of_below HT.out.2 HM.out.1)).mono ?_; rintro e w5 ⟨rfl, b5⟩
        have b9 := HM.out.1.trans (b5.mono HM.out.1.size)
        have c5 : Cg B w w5 := Cg.of_below HT.out.2 b9
        have H5 := Lib.hid (And.intro c5 (And.intro (HT.out.1.below b9) (Nat.le_trans HT.out.2 c5.size)))
        clear c5 b9 b5 HN x0 x1 HM
        go_wp2_with (at_builtin; refine wp_text rfl (.tmp 21) (.tmp 24) rfl rfl H5.out.2.1 H5.out.2.2 (quoteL S) rfl (by omega) (by omega) ?_)
        intro v6 w6 t6 c6
        have H6 := Lib.hid (And.intro (H5.out.1.trans c6) t6)
        clear c6 t6 H5
        go_wp2_with fail
        go_ret
        exact ⟨v6, rfl, by rw [HA.out]; exact H6.out.2, H6.out.1⟩
end
end Go.Proofs.YtedbcmagjbgbjaaGreatDoor.wr
namespace Go.Proofs.YtedbcmagjbgbjaaGreatDoor.wr
open Go.ChangeShapes Go.WideShapes Go.ChangeAt Go.RowKit Go.Maps
open Go.Proofs.YtedbcmagjbgbjaaGreatDoor.kp Go.Proofs.YtedbcmagjbgbjaaGreatDoor.tm Go.Proofs.YtedbcmagjbgbjaaGreatDoor.lie Go.Proofs.YtedbcmagjbgbjaaGreatDoor.tk Go.Proofs.YtedbcmagjbgbjaaGreatDoor.rws
set_option linter.unusedVariables false
/-- appendTerm writes this term -/
def CT (W : Ways) (tp : Value) (t : Tm) : Prop := ∀ (w : World) (B : Nat) (X : LB) (v tv : Value), Env B W tp w → TX B X v w → X.length + (wt W t).length ≤ 900000000 → Lies (UX B w) w t tv →
  Calls Tryz.prog 71 #[.agg #[tp, .bool false], v, tv] w (TE B (X ++ wt W t) w)
theorem rowT_take (f : Tm → LB) (l : List Tm) (k : Nat) (h : k < l.length) : rowT ((l.take (k + 1)).map f) = if k = 0 then f l[k] else rowT ((l.take k).map f) ++ 44 :: f l[k] := by
  rw [List.take_succ_eq_append_getElem h, List.map_append, List.map_cons, List.map_nil]
  split
  · rename_i h0; subst h0; simp [rowT_one]
  · rename_i h0
    rw [rowT_add]
    intro e
    have h2 : ((l.take k).map f).length = 0 := by rw [e]; rfl
    rw [List.length_map, List.length_take] at h2
    omega
theorem rowT_le (L L' : List LB) : (rowT L).length ≤ (rowT (L ++ L')).length := by
  unfold rowT
  rw [rT_append, List.length_tail, List.length_tail, List.length_append]
  omega
theorem rowT_take_le (f : Tm → LB) (l : List Tm) (k : Nat) : (rowT ((l.take k).map f)).length ≤ (rowT (l.map f)).length := by
  have := rowT_le ((l.take k).map f) ((l.drop k).map f)
  rwa [← List.map_append, List.take_append_drop] at this
/-- what the loop of appendRow knows -/
def ARel (B b : Nat) (W : Ways) (tp : Value) (w : World) (X : LB) (l : List Tm) (g : Nat) (s1 s11 : Value) (wr : World) : Prop :=
  ∃ k : Nat, k ≤ l.length ∧ g = l.length - k ∧ s11 = .int .i64 (k : Int) ∧ TX B (X ++ rowT ((l.take k).map (wt W))) s1 wr ∧ Cg B w wr ∧ WB b tp wr
section
variable {B : Nat} {W : Ways} {tp : Value} {w w' : World} {X S : LB} {v : Value}
set_option maxRecDepth 100000 in
set_option maxHeartbeats 4000000 in
theorem row_any {l : List Tm} {a : Option Addr} {c : Nat} (E : Env B W tp w) (hT : TX B X v w) (hX : X.length + (rowT (l.map (wt W))).length ≤ 900000000) (hl : l.length ≤ 100000) (hr : TRow (UX B w) w l a 0) (hc : ∀ x ∈ l, CT W tp x) :
    Calls Tryz.prog 154 #[.agg #[tp, .bool false], v, .slice a l.length c] w (TE B (X ++ rowT (l.map (wt W))) w) := by
  have bel := ba w (.cells #[tp, .bool false] 101)
  have wb := WB.new tp w
  have H := Lib.hid (And.intro E (And.intro hT (And.intro hr (And.intro hc (And.intro bel wb)))))
  have HX := Lib.hid hX
  clear E hT hr hc bel wb hX
  go_enter Tryz.func154, Tryz.ntmps154
  go_wp2_with fail
  go_loopg [1, 11] l.length (ARel B w.heap.size W tp w X l)
  case atStart =>
    refine ⟨0, Nat.zero_le _, by omega, rfl, ?_, Cg.of_below H.out.1.hB H.out.2.2.2.2.1, H.out.2.2.2.2.2⟩
    have := H.out.2.1.below H.out.2.2.2.2.1
    simpa [rowT, rT] using this
  case round =>
    obtain ⟨k, hk, hg, rfl, ht, hcg, hwb⟩ := hrel
    by_cases hlt : k < l.length
    · obtain ⟨b1, o1, v0, v1, v2, v3, v4, v5, hbl, hnx, h6, hlx, hix⟩ := H.out.2.2.1.look hlt
      have h6' := hcg.six h6 hnx
      have hlx' := hcg.lies hlx
      have hix' := hix c
      obtain ⟨kp, np, ip, rp, mp, lp, ap, cp, hv, _⟩ := lies_form hlx
      obtain ⟨rfl, rfl, rfl, rfl, rfl, rfl⟩ := hv
      obtain ⟨e0, e1, e2, e3, e4, e5⟩ := h6'
      have hd : decide ((k : Int) < (l.length : Int)) = true := decide_eq_true (by omega)
      have hct := H.out.2.2.2.1 l[k] (by simp)
      have hEr := H.out.1.cg hcg
      have hlen := rowT_take_le (wt W) l (k + 1)
      have htk := rowT_take (wt W) l k hlt
      have H0 := Lib.hid (And.intro hcg (And.intro hwb (And.intro ht (And.intro hlx' (And.intro hct (And.intro hEr (And.intro hlen htk)))))))
      clear hcg hwb ht hlx hlx' hct hEr h6 hix hnx hbl hlen htk hk
      go_upto_region 4 with fail
      have tb := TB.new kp np ip rp mp (.slice ap lp cp) wr
      have bA := ba wr (.cells #[.int .i64 kp, .string np, .int .i64 ip, .int .u64 rp, .int .u64 mp, .slice ap lp cp] 27)
      obtain ⟨wA, hwA⟩ : ∃ wA, wA = wr.alloc (.cells #[.int .i64 kp, .string np, .int .i64 ip, .int .u64 rp, .int .u64 mp, .slice ap lp cp] 27) := ⟨_, rfl⟩
      rw [← hwA] at tb bA ⊢
      have HA := Lib.hid (And.intro tb (And.intro (Cg.of_below H0.out.2.2.2.2.2.1.hB bA) bA))
      clear tb bA hwA e0 e1 e2 e3 e4 e5
      by_cases h0 : k = 0
      · subst h0
        obtain ⟨x0, x1⟩ := (H0.out.2.1.cg HA.out.2.1).cells
        obtain ⟨y0, y1, y2, y3, y4, y5⟩ := HA.out.1.cells
        have ht0 : TX B X u1 wA := by have := H0.out.2.2.1.below HA.out.2.2; simpa [rowT, rT] using this
        have hcall := H0.out.2.2.2.2.1 wA B X u1 _ (H0.out.2.2.2.2.2.1.cg HA.out.2.1) ht0 (by have h1 := H0.out.2.2.2.2.2.2.2; have h2 := H0.out.2.2.2.2.2.2.1; have h3 := HX.out; rw [if_pos rfl] at h1; rw [h1] at h2; omega) (HA.out.2.1.lies H0.out.2.2.2.1)
        have HC := Lib.hid hcall
        clear hcall ht0
        go_wp2_with fail
        refine HC.out.mono ?_; rintro e w7 ⟨v7, rfl, t7, c7⟩
        have H7 := Lib.hid (And.intro t7 (HA.out.2.1.trans c7))
        clear t7 c7 HC x0 x1 y0 y1 y2 y3 y4 y5
        go_wp2_with fail
        go_roundg (l.length - (0 + 1))
        case measure => omega
        case rel =>
          refine ⟨0 + 1, by omega, rfl, by go_num, ?_, H0.out.1.trans H7.out.2, H0.out.2.1.cg H7.out.2⟩
          have h1 : rowT ((l.take (0 + 1)).map (wt W)) = wt W l[0] := by simpa using rowT_take (wt W) l 0 hlt
          rw [h1]
          exact H7.out.1
      · have hd2 : decide ((k : Int) > 0) = true := by simp; omega
        have hd3 : decide (0 < (k : Int)) = true := by simp; omega
        have ht0 := H0.out.2.2.1.below HA.out.2.2
        have HT0 := Lib.hid (And.intro ht0 (H0.out.2.2.2.2.2.1.cg HA.out.2.1).hB)
        have hb0 : (X ++ rowT ((l.take k).map (wt W))).length ≤ 900000000 := by
          have h1 := rowT_take_le (wt W) l k
          have h3 := HX.out
          rw [List.length_append]; omega
        clear ht0
        go_wp2_with (at_builtin; refine wp_lit rfl (.tmp 18) (.tmp 19) rfl rfl HT0.out.1 HT0.out.2 44 rfl rfl (by omega) ?_)
        intro v6 w6 t6 c6
        have H6 := Lib.hid (And.intro (HA.out.2.1.trans c6) (And.intro t6 (And.intro (HA.out.1.cg c6) ((H0.out.2.1.cg HA.out.2.1).cg c6))))
        clear c6 t6 HT0
        obtain ⟨x0, x1⟩ := H6.out.2.2.2.cells
        obtain ⟨y0, y1, y2, y3, y4, y5⟩ := H6.out.2.2.1.cells
        have hcall := H0.out.2.2.2.2.1 w6 B _ v6 _ (H0.out.2.2.2.2.2.1.cg H6.out.1) H6.out.2.1 (by have h1 := H0.out.2.2.2.2.2.2.2; have h2 := H0.out.2.2.2.2.2.2.1; have h3 := HX.out; rw [if_neg h0] at h1; rw [h1] at h2; simp only [List.map_take, List.length_append, List.length_cons, List.length_nil] at h2 ⊢; omega) (H6.out.1.lies H0.out.2.2.2.1)
        have HC := Lib.hid hcall
        have HK := Lib.hid h0
        clear hcall hb0 h0
        go_wp2_with fail
        refine HC.out.mono ?_; rintro e w7 ⟨v7, rfl, t7, c7⟩
        have H7 := Lib.hid (And.intro t7 (H6.out.1.trans c7))
        clear t7 c7 HC x0 x1 y0 y1 y2 y3 y4 y5
        go_wp2_with fail
        go_roundg (l.length - (k + 1))
        case measure => omega
        case rel =>
          refine ⟨k + 1, by omega, rfl, by go_num, ?_, H0.out.1.trans H7.out.2, H0.out.2.1.cg H7.out.2⟩
          have h1 := rowT_take (wt W) l k hlt
          rw [if_neg HK.out] at h1
          rw [h1]
          have h2 := H7.out.1
          simpa using h2
    · have hk' : k = l.length := by omega
      subst hk'
      rw [List.take_length] at ht
      have hd : decide ((l.length : Int) < (l.length : Int)) = false := decide_eq_false (by omega)
      have H0 := Lib.hid (And.intro ht hcg)
      clear ht hcg hwb hk hg
      go_wp2_with fail
      go_ret
      exact ⟨_, rfl, H0.out.1, H0.out.2⟩
set_option maxRecDepth 100000 in
set_option maxHeartbeats 4000000 in
theorem compound_any {n : LB} {i re im : Int} {l : List Tm} {a : Option Addr} {c : Nat} (E : Env B W tp w) (hT : TX B X v w) (hX : X.length + (fnm n).length + (rowT (l.map (wt W))).length + 2 ≤ 900000000) (hn : n.length ≤ 65000) (hl : l.length ≤ 100000) (hr : TRow (UX B w) w l a 0) (hc : ∀ x ∈ l, CT W tp x) :
    Calls Tryz.prog 120 #[.agg #[tp, .bool false], v, .agg #[.int .i64 5, .string ⟨n.toArray⟩, .int .i64 i, .int .u64 re, .int .u64 im, .slice a l.length c]] w (TE B (X ++ (fnm n ++ 40 :: (rowT (l.map (wt W)) ++ [41]))) w) := by
  have b1 := ba w (.cells #[tp, .bool false] 101)
  have b2 := bt b1 (ba _ (.cells #[.int .i64 5, .string ⟨n.toArray⟩, .int .i64 i, .int .u64 re, .int .u64 im, .slice a l.length c] 27))
  have wb := (WB.new tp w).below (ba _ (.cells #[.int .i64 5, .string ⟨n.toArray⟩, .int .i64 i, .int .u64 re, .int .u64 im, .slice a l.length c] 27))
  have tb := TB.new 5 ⟨n.toArray⟩ i re im (.slice a l.length c) (w.alloc (.cells #[tp, .bool false] 101))
  rw [alloc_size] at tb
  have hfu : ∀ w1, Below w.heap.size w w1 → _ := fun w1 hb => functor_any (tp := tp) (S := n) (vr_more (E.below hb).vr (E.below hb).hB) hn
  have hrow : ∀ (w1 : World) (X1 : LB) (v1 : Value), Cg B w w1 → TX B X1 v1 w1 → X1.length + (rowT (l.map (wt W))).length ≤ 900000000 → _ := fun w1 X1 v1 hb ht hx => row_any (c := c) (E.cg hb) ht hx hl (hb.trow hr) hc
  have H := Lib.hid (And.intro b2 (And.intro wb (And.intro tb (And.intro hT E.hB))))
  have HF := Lib.hid hfu
  have HR := Lib.hid hrow
  have HX := Lib.hid hX
  obtain ⟨x0, x1⟩ := wb.cells
  obtain ⟨y0, y1, y2, y3, y4, y5⟩ := tb.cells
  clear E hT hr hc b1 b2 wb tb hfu hrow hX
  go_enter Tryz.func120, Tryz.ntmps120
  go_wp2_with fail
  refine (HF.out _ H.out.1).mono ?_; rintro e w3 ⟨rfl, b3⟩
  have b9 := H.out.1.trans (b3.mono H.out.1.size)
  have c3 : Cg B w w3 := Cg.of_below H.out.2.2.2.2 b9
  have hx3 := HX.out
  have H3 := Lib.hid (And.intro c3 (And.intro (H.out.2.2.2.1.below b9) (And.intro (Nat.le_trans H.out.2.2.2.2 c3.size) (And.intro (H.out.2.1.below b3) (H.out.2.2.1.below b3)))))
  clear c3 b9 b3 HF x0 x1 y0 y1 y2 y3 y4 y5 H
  go_wp2_with (at_builtin; refine wp_text rfl (.tmp 7) (.tmp 11) rfl rfl H3.out.2.1 H3.out.2.2.1 (fnm n) rfl (by omega) (by omega) ?_)
  intro v4 w4 t4 c4
  obtain ⟨q3, hq3⟩ : ∃ q, q = w.heap.size := ⟨_, rfl⟩
  obtain ⟨q5, hq5⟩ : ∃ q, q = w.heap.size + 1 := ⟨_, rfl⟩
  have wb4 := H3.out.2.2.2.1.cg c4
  have tb4 := H3.out.2.2.2.2.cg c4
  have H4 := Lib.hid (And.intro (H3.out.1.trans c4) (And.intro t4 (And.intro (Nat.le_trans H3.out.2.2.1 c4.size) (And.intro wb4 tb4))))
  clear t4 c4 H3 wb4 tb4
  go_upto_region 2 with fail

  rw [← hq3, ← hq5] at *
  have SC : ∀ w9, Cg B w4 w9 → (w9.cell? ⟨q3, 0, none⟩ = some tp ∧ w9.cell? ⟨q3, 1, none⟩ = some (.bool false) ∧ w9.cell? ⟨q5, 5, none⟩ = some (.slice a l.length c) ∧ Cg B w4 w9) := fun w9 hc =>
    ⟨(H4.out.2.2.2.1.cg hc).cells.1, (H4.out.2.2.2.1.cg hc).cells.2, (H4.out.2.2.2.2.cg hc).cells.2.2.2.2.2, hc⟩
  have hdr : ∀ w9, Cg B w4 w9 → Cg B w4 w9.drew := fun w9 hc => hc.below H4.out.2.2.1 (bdr _)
  have hal : ∀ w9 o, Cg B w4 w9 → Cg B w4 (w9.alloc o) := fun w9 o hc => hc.below H4.out.2.2.1 (ba _ _)
  have hc0 := Cg.refl B w4
  go_region_held3? (fun w9 => w9.cell? ⟨q3, 0, none⟩ = some tp ∧ w9.cell? ⟨q3, 1, none⟩ = some (.bool false) ∧ w9.cell? ⟨q5, 5, none⟩ = some (.slice a l.length c) ∧ Cg B w4 w9)
    (first | exact SC _ (by assumption) | exact SC _ (hdr _ (by assumption)) | exact SC _ (hal _ _ (by assumption)) | exact SC _ (hal _ _ (hdr _ (by assumption))) | exact SC _ (hdr _ (hal _ _ (by assumption))) | go_keep)
    (first
      | (refine step_byte rfl (.tmp 14) (.tmp 15) rfl rfl (H4.out.2.1.ad _) (sz_ad H4.out.2.2.1 _) 40 w4.heap.size rfl (lit_ad w4 _ _) (by simp; omega) ?_; intro v6 w6 t6 c6; have c7 := (Cg.ad H4.out.2.2.1 _).trans c6)
      | (go_at_call 154; refine (HR.out _ _ _ (H4.out.1.trans (by first | assumption | exact hdr _ (by assumption))) (by first | exact t6 | exact t6.d1) (by have := HX.out; simp; omega)).mono ?_; rintro e w7 ⟨v7, rfl, t7, c8⟩; have c9 := Cg.trans (by first | assumption | exact hdr _ (by assumption)) c8))
  have H7 := Lib.hid (And.intro (H4.out.1.trans c9) (And.intro t7 (Nat.le_trans H4.out.2.2.1 c9.size)))
  clear SC hdr hal hc0 H4 HR c6 c7 c8 c9 t6 t7
  go_wp2_with (at_builtin; refine wp_lit rfl (.tmp 20) (.tmp 21) rfl rfl H7.out.2.1 H7.out.2.2 41 rfl rfl (by have := HX.out; simp; omega) ?_)
  intro v8 w8 t8 c8
  have H8 := Lib.hid (And.intro (H7.out.1.trans c8) t8)
  clear t8 c8 H7
  go_wp2_with fail
  go_ret
  exact ⟨v8, rfl, by simpa using H8.out.2, H8.out.1⟩
set_option maxRecDepth 100000 in
set_option maxHeartbeats 4000000 in
theorem infront_any {n : LB} {i re im : Int} {x : Tm} {a : Option Addr} {c : Nat} (E : Env B W tp w) (hT : TX B X v w) (hX : X.length + n.length + (wt W x).length + 3 ≤ 900000000) (hr : TRow (UX B w) w [x] a 0) (hc : CT W tp x) :
    Calls Tryz.prog 119 #[.agg #[tp, .bool false], v, .agg #[.int .i64 5, .string ⟨n.toArray⟩, .int .i64 i, .int .u64 re, .int .u64 im, .slice a 1 c]] w (TE B (X ++ (40 :: (n ++ 32 :: (wt W x ++ [41])))) w) := by
  have b1 := ba w (.cells #[tp, .bool false] 101)
  have b2 := bt b1 (ba _ (.cells #[.int .i64 5, .string ⟨n.toArray⟩, .int .i64 i, .int .u64 re, .int .u64 im, .slice a 1 c] 27))
  have wb := (WB.new tp w).below (ba _ (.cells #[.int .i64 5, .string ⟨n.toArray⟩, .int .i64 i, .int .u64 re, .int .u64 im, .slice a 1 c] 27))
  have tb := TB.new 5 ⟨n.toArray⟩ i re im (.slice a 1 c) (w.alloc (.cells #[tp, .bool false] 101))
  rw [alloc_size] at tb
  obtain ⟨p1, o1, u0, u1, u2, u3, u4, u5, hbl, hnx, h6, hlx, hix⟩ := hr.look (m := 0) (by simp)
  simp only [List.getElem_cons_zero, List.length_cons, List.length_nil, Nat.zero_add] at hlx hix
  obtain ⟨kp, np, ip, rp, mp, lp, ap, cp, hv, _⟩ := lies_form hlx
  obtain ⟨rfl, rfl, rfl, rfl, rfl, rfl⟩ := hv
  have hix0 := hix c
  simp only [Int.natCast_zero] at hix0
  have hcall : ∀ (w1 : World) (X1 : LB) (v1 : Value), Cg B w w1 → TX B X1 v1 w1 → X1.length + (wt W x).length ≤ 900000000 → _ := fun w1 X1 v1 hb ht hx => hc w1 B X1 v1 _ (E.cg hb) ht hx (hb.lies hlx)
  have hsix : ∀ w1, Cg B w w1 → _ := fun w1 hb => hb.six h6 hnx
  have H := Lib.hid (And.intro b2 (And.intro wb (And.intro tb (And.intro hT E.hB))))
  have HR := Lib.hid (And.intro hcall hsix)
  have HX := Lib.hid hX
  clear E hT hr hc b1 wb hcall hX hbl hnx h6 hlx hix hsix tb
  obtain ⟨x0, x1⟩ := H.out.2.1.cells
  obtain ⟨y0, y1, y2, y3, y4, y5⟩ := H.out.2.2.1.cells
  go_enter Tryz.func119, Tryz.ntmps119
  go_upto_region 1 with fail
  obtain ⟨w1, hw1⟩ : ∃ w1, w1 = (w.alloc (.cells #[tp, .bool false] 101)).alloc (.cells #[.int .i64 5, .string ⟨n.toArray⟩, .int .i64 i, .int .u64 re, .int .u64 im, .slice a 1 c] 27) := ⟨_, rfl⟩
  have c1 : Cg B w w1 := by rw [hw1]; exact Cg.of_below H.out.2.2.2.2 H.out.1
  have H1 := Lib.hid (And.intro c1 (And.intro (show TX B X v w1 by rw [hw1]; exact H.out.2.2.2.1.below H.out.1) (And.intro (Nat.le_trans H.out.2.2.2.2 c1.size) (And.intro (show WB w.heap.size tp w1 by rw [hw1]; exact H.out.2.1) (show TB (w.heap.size + 1) 5 ⟨n.toArray⟩ i re im (.slice a 1 c) w1 by rw [hw1]; exact H.out.2.2.1)))))
  rw [← hw1]
  clear H x0 x1 y0 y1 y2 y3 y4 y5 hw1 c1 b2
  go_wp2_with (at_builtin; refine wp_lit rfl (.tmp 7) (.tmp 8) rfl rfl H1.out.2.1 H1.out.2.2.1 40 rfl rfl (by have := HX.out; omega) ?_)
  intro v2 w2 t2 c2
  have H2 := Lib.hid (And.intro (H1.out.1.trans c2) (And.intro t2 (And.intro (Nat.le_trans H1.out.2.2.1 c2.size) (And.intro (H1.out.2.2.2.1.cg c2) (H1.out.2.2.2.2.cg c2)))))
  clear t2 c2 H1
  obtain ⟨y0, y1, y2, y3, y4, y5⟩ := H2.out.2.2.2.2.cells
  go_wp2_with (at_builtin; refine wp_text rfl (.tmp 10) (.tmp 12) rfl rfl H2.out.2.1 H2.out.2.2.1 n rfl (by have := HX.out; simp; omega) (by have := HX.out; omega) ?_)
  intro v4 w4 t4 c4
  obtain ⟨q3, hq3⟩ : ∃ q, q = w.heap.size := ⟨_, rfl⟩
  obtain ⟨q5, hq5⟩ : ∃ q, q = w.heap.size + 1 := ⟨_, rfl⟩
  have H4 := Lib.hid (And.intro (H2.out.1.trans c4) (And.intro t4 (And.intro (Nat.le_trans H2.out.2.2.1 c4.size) (And.intro (H2.out.2.2.2.1.cg c4) (H2.out.2.2.2.2.cg c4)))))
  clear t4 c4 H2 y0 y1 y2 y3 y4 y5
  go_upto_region 3 with fail
  rw [← hq3, ← hq5] at *
  have SC : ∀ w9, Cg B w4 w9 → (w9.cell? ⟨q3, 0, none⟩ = some tp ∧ w9.cell? ⟨q3, 1, none⟩ = some (.bool false) ∧ w9.cell? ⟨q5, 5, none⟩ = some (.slice a 1 c) ∧ w9.cell? ⟨p1, o1, none⟩ = some (.int .i64 kp) ∧ w9.cell? ⟨p1, o1 + 1, none⟩ = some (.string np) ∧ w9.cell? ⟨p1, o1 + 2, none⟩ = some (.int .i64 ip) ∧ w9.cell? ⟨p1, o1 + 3, none⟩ = some (.int .u64 rp) ∧ w9.cell? ⟨p1, o1 + 4, none⟩ = some (.int .u64 mp) ∧ w9.cell? ⟨p1, o1 + 5, none⟩ = some (.slice ap lp cp) ∧ Cg B w4 w9) := fun w9 hc => ⟨(H4.out.2.2.2.1.cg hc).cells.1, (H4.out.2.2.2.1.cg hc).cells.2, (H4.out.2.2.2.2.cg hc).cells.2.2.2.2.2, (HR.out.2 _ (H4.out.1.trans hc)).1, (HR.out.2 _ (H4.out.1.trans hc)).2.1, (HR.out.2 _ (H4.out.1.trans hc)).2.2.1, (HR.out.2 _ (H4.out.1.trans hc)).2.2.2.1, (HR.out.2 _ (H4.out.1.trans hc)).2.2.2.2.1, (HR.out.2 _ (H4.out.1.trans hc)).2.2.2.2.2, hc⟩
  have hdr : ∀ w9, Cg B w4 w9 → Cg B w4 w9.drew := fun w9 hc => hc.below H4.out.2.2.1 (bdr _)
  have hal : ∀ w9 o, Cg B w4 w9 → Cg B w4 (w9.alloc o) := fun w9 o hc => hc.below H4.out.2.2.1 (ba _ _)
  have hc0 := Cg.refl B w4
  go_region_held3 (fun w9 => w9.cell? ⟨q3, 0, none⟩ = some tp ∧ w9.cell? ⟨q3, 1, none⟩ = some (.bool false) ∧ w9.cell? ⟨q5, 5, none⟩ = some (.slice a 1 c) ∧ w9.cell? ⟨p1, o1, none⟩ = some (.int .i64 kp) ∧ w9.cell? ⟨p1, o1 + 1, none⟩ = some (.string np) ∧ w9.cell? ⟨p1, o1 + 2, none⟩ = some (.int .i64 ip) ∧ w9.cell? ⟨p1, o1 + 3, none⟩ = some (.int .u64 rp) ∧ w9.cell? ⟨p1, o1 + 4, none⟩ = some (.int .u64 mp) ∧ w9.cell? ⟨p1, o1 + 5, none⟩ = some (.slice ap lp cp) ∧ Cg B w4 w9)
    (first | exact SC _ (by assumption) | exact SC _ (hdr _ (by assumption)) | exact SC _ (hal _ _ (by assumption)) | exact SC _ (hal _ _ (hdr _ (by assumption))) | exact SC _ (hdr _ (hal _ _ (by assumption))) | go_keep)
    (first
      | (refine step_byte rfl (.tmp 15) (.tmp 16) rfl rfl (H4.out.2.1.ad _) (sz_ad H4.out.2.2.1 _) 32 w4.heap.size rfl (lit_ad w4 _ _) (by have := HX.out; simp; omega) ?_; intro v6 w6 t6 c6; have c7 := (Cg.ad H4.out.2.2.1 _).trans c6)
      | (go_at_call 71; refine (HR.out.1 _ _ _ (H4.out.1.trans (by first | assumption | exact hdr _ (by assumption))) (by first | exact t6 | exact t6.d1) (by have := HX.out; simp; omega)).mono ?_; rintro e w7 ⟨v7, rfl, t7, c8⟩; have c9 := Cg.trans (by first | assumption | exact hdr _ (by assumption)) c8))
  have H7 := Lib.hid (And.intro (H4.out.1.trans c9) (And.intro t7 (Nat.le_trans H4.out.2.2.1 c9.size)))
  clear SC hdr hal hc0 H4 HR c6 c7 c8 c9 t6 t7
  go_wp2_with (at_builtin; refine wp_lit rfl (.tmp 23) (.tmp 24) rfl rfl H7.out.2.1 H7.out.2.2 41 rfl rfl (by have := HX.out; simp; omega) ?_)
  intro v8 w8 t8 c8
  have H8 := Lib.hid (And.intro (H7.out.1.trans c8) t8)
  clear t8 c8 H7
  go_wp2_with fail
  go_ret
  exact ⟨v8, rfl, by simpa using H8.out.2, H8.out.1⟩
set_option maxRecDepth 100000 in
set_option maxHeartbeats 4000000 in
theorem inbetween_any {n : LB} {i re im : Int} {x y : Tm} {a : Option Addr} {c : Nat} (E : Env B W tp w) (hT : TX B X v w) (hX : X.length + n.length + (wt W x).length + (wt W y).length + 4 ≤ 900000000) (hr : TRow (UX B w) w [x, y] a 0) (hc : CT W tp x) (hcy : CT W tp y) :
    Calls Tryz.prog 117 #[.agg #[tp, .bool false], v, .agg #[.int .i64 5, .string ⟨n.toArray⟩, .int .i64 i, .int .u64 re, .int .u64 im, .slice a 2 c]] w (TE B (X ++ (40 :: (wt W x ++ 32 :: (n ++ 32 :: (wt W y ++ [41]))))) w) := by
  have b1 := ba w (.cells #[tp, .bool false] 101)
  have b2 := bt b1 (ba _ (.cells #[.int .i64 5, .string ⟨n.toArray⟩, .int .i64 i, .int .u64 re, .int .u64 im, .slice a 2 c] 27))
  have wb := (WB.new tp w).below (ba _ (.cells #[.int .i64 5, .string ⟨n.toArray⟩, .int .i64 i, .int .u64 re, .int .u64 im, .slice a 2 c] 27))
  have tb := TB.new 5 ⟨n.toArray⟩ i re im (.slice a 2 c) (w.alloc (.cells #[tp, .bool false] 101))
  rw [alloc_size] at tb
  obtain ⟨p1, o1, u0, u1, u2, u3, u4, u5, hbl, hnx, h6, hlx, hix⟩ := hr.look (m := 0) (by simp)
  obtain ⟨p2, o2, z0, z1, z2, z3, z4, z5, hbl2, hnx2, h62, hly, hiy⟩ := hr.look (m := 1) (by simp)
  simp only [List.getElem_cons_zero, List.getElem_cons_succ, List.length_cons, List.length_nil, Nat.zero_add, Nat.reduceAdd] at hlx hix hly hiy
  obtain ⟨kp, np, ip, rp, mp, lp, ap, cp, hv, _⟩ := lies_form hlx
  obtain ⟨rfl, rfl, rfl, rfl, rfl, rfl⟩ := hv
  obtain ⟨kz, nz, iz, rz, mz, lz, az, cz, hv, _⟩ := lies_form hly
  obtain ⟨rfl, rfl, rfl, rfl, rfl, rfl⟩ := hv
  have hix0 := hix c
  have hiy0 := hiy c
  simp only [Int.natCast_zero, Int.natCast_one] at hix0 hiy0
  have hcall : ∀ (w1 : World) (X1 : LB) (v1 : Value), Cg B w w1 → TX B X1 v1 w1 → X1.length + (wt W x).length ≤ 900000000 → _ := fun w1 X1 v1 hb ht hx => hc w1 B X1 v1 _ (E.cg hb) ht hx (hb.lies hlx)
  have hcall2 : ∀ (w1 : World) (X1 : LB) (v1 : Value), Cg B w w1 → TX B X1 v1 w1 → X1.length + (wt W y).length ≤ 900000000 → _ := fun w1 X1 v1 hb ht hx => hcy w1 B X1 v1 _ (E.cg hb) ht hx (hb.lies hly)
  have hsix : ∀ w1, Cg B w w1 → _ := fun w1 hb => hb.six h6 hnx
  have hsiy : ∀ w1, Cg B w w1 → _ := fun w1 hb => hb.six h62 hnx2
  have H := Lib.hid (And.intro b2 (And.intro wb (And.intro tb (And.intro hT E.hB))))
  have HR := Lib.hid (And.intro hcall hsix)
  have HY := Lib.hid (And.intro hcall2 hsiy)
  have HX := Lib.hid hX
  clear E hT hr hc hcy b1 wb hcall hcall2 hX hbl hnx h6 hlx hix hsix hsiy tb hbl2 hnx2 h62 hly hiy
  obtain ⟨x0, x1⟩ := H.out.2.1.cells
  obtain ⟨y0, y1, y2, y3, y4, y5⟩ := H.out.2.2.1.cells
  go_enter Tryz.func117, Tryz.ntmps117
  go_upto_region 1 with fail
  obtain ⟨w1, hw1⟩ : ∃ w1, w1 = (w.alloc (.cells #[tp, .bool false] 101)).alloc (.cells #[.int .i64 5, .string ⟨n.toArray⟩, .int .i64 i, .int .u64 re, .int .u64 im, .slice a 2 c] 27) := ⟨_, rfl⟩
  have c1 : Cg B w w1 := by rw [hw1]; exact Cg.of_below H.out.2.2.2.2 H.out.1
  obtain ⟨q3, hq3⟩ : ∃ q, q = w.heap.size := ⟨_, rfl⟩
  obtain ⟨q5, hq5⟩ : ∃ q, q = w.heap.size + 1 := ⟨_, rfl⟩
  have H1 := Lib.hid (And.intro c1 (And.intro (show TX B X v w1 by rw [hw1]; exact H.out.2.2.2.1.below H.out.1) (And.intro (Nat.le_trans H.out.2.2.2.2 c1.size) (And.intro (show WB q3 tp w1 by rw [hw1, hq3]; exact H.out.2.1) (show TB q5 5 ⟨n.toArray⟩ i re im (.slice a 2 c) w1 by rw [hw1, hq5]; exact H.out.2.2.1)))))
  rw [← hw1]
  clear H x0 x1 y0 y1 y2 y3 y4 y5 hw1 c1 b2
  rw [← hq5, ← hq3]
  clear hq3 hq5
  have SC : ∀ w9, Cg B w1 w9 → (w9.cell? ⟨q3, 0, none⟩ = some tp ∧ w9.cell? ⟨q3, 1, none⟩ = some (.bool false) ∧ w9.cell? ⟨q5, 5, none⟩ = some (.slice a 2 c) ∧ w9.cell? ⟨p1, o1, none⟩ = some (.int .i64 kp) ∧ w9.cell? ⟨p1, o1 + 1, none⟩ = some (.string np) ∧ w9.cell? ⟨p1, o1 + 2, none⟩ = some (.int .i64 ip) ∧ w9.cell? ⟨p1, o1 + 3, none⟩ = some (.int .u64 rp) ∧ w9.cell? ⟨p1, o1 + 4, none⟩ = some (.int .u64 mp) ∧ w9.cell? ⟨p1, o1 + 5, none⟩ = some (.slice ap lp cp) ∧ Cg B w1 w9) := fun w9 hc => ⟨(H1.out.2.2.2.1.cg hc).cells.1, (H1.out.2.2.2.1.cg hc).cells.2, (H1.out.2.2.2.2.cg hc).cells.2.2.2.2.2, (HR.out.2 _ (H1.out.1.trans hc)).1, (HR.out.2 _ (H1.out.1.trans hc)).2.1, (HR.out.2 _ (H1.out.1.trans hc)).2.2.1, (HR.out.2 _ (H1.out.1.trans hc)).2.2.2.1, (HR.out.2 _ (H1.out.1.trans hc)).2.2.2.2.1, (HR.out.2 _ (H1.out.1.trans hc)).2.2.2.2.2, hc⟩
  have hdr : ∀ w9, Cg B w1 w9 → Cg B w1 w9.drew := fun w9 hc => hc.below H1.out.2.2.1 (bdr _)
  have hal : ∀ w9 o, Cg B w1 w9 → Cg B w1 (w9.alloc o) := fun w9 o hc => hc.below H1.out.2.2.1 (ba _ _)
  have hc0 := Cg.refl B w1
  go_region_held3 (fun w9 => w9.cell? ⟨q3, 0, none⟩ = some tp ∧ w9.cell? ⟨q3, 1, none⟩ = some (.bool false) ∧ w9.cell? ⟨q5, 5, none⟩ = some (.slice a 2 c) ∧ w9.cell? ⟨p1, o1, none⟩ = some (.int .i64 kp) ∧ w9.cell? ⟨p1, o1 + 1, none⟩ = some (.string np) ∧ w9.cell? ⟨p1, o1 + 2, none⟩ = some (.int .i64 ip) ∧ w9.cell? ⟨p1, o1 + 3, none⟩ = some (.int .u64 rp) ∧ w9.cell? ⟨p1, o1 + 4, none⟩ = some (.int .u64 mp) ∧ w9.cell? ⟨p1, o1 + 5, none⟩ = some (.slice ap lp cp) ∧ Cg B w1 w9)
    (first | exact SC _ (by assumption) | exact SC _ (hdr _ (by assumption)) | exact SC _ (hal _ _ (by assumption)) | exact SC _ (hal _ _ (hdr _ (by assumption))) | exact SC _ (hdr _ (hal _ _ (by assumption))) | go_keep)
    (first
      | (refine step_byte rfl (.tmp 8) (.tmp 9) rfl rfl (H1.out.2.1.ad _) (sz_ad H1.out.2.2.1 _) 40 w1.heap.size rfl (lit_ad w1 _ _) (by have := HX.out; simp; omega) ?_; intro v6 w6 t6 c6; have c7 := (Cg.ad H1.out.2.2.1 _).trans c6)
      | (go_at_call 71; refine (HR.out.1 _ _ _ (H1.out.1.trans (by first | assumption | exact hdr _ (by assumption))) (by first | exact t6 | exact t6.d1) (by have := HX.out; simp; omega)).mono ?_; rintro e w7 ⟨v7, rfl, t7, c8⟩; have c9 := Cg.trans (by first | assumption | exact hdr _ (by assumption)) c8))
  have H2 := Lib.hid (And.intro (H1.out.1.trans c9) (And.intro t7 (And.intro (Nat.le_trans H1.out.2.2.1 c9.size) (And.intro (H1.out.2.2.2.1.cg c9) (H1.out.2.2.2.2.cg c9)))))
  clear SC hdr hal hc0 H1 HR c6 c7 c8 c9 t6 t7 hix0
  go_wp2_with (at_builtin; refine wp_lit rfl (.tmp 16) (.tmp 17) rfl rfl H2.out.2.1 H2.out.2.2.1 32 rfl rfl (by have := HX.out; simp; omega) ?_)
  intro v3 w3 t3 c3
  have H3 := Lib.hid (And.intro (H2.out.1.trans c3) (And.intro t3 (And.intro (Nat.le_trans H2.out.2.2.1 c3.size) (And.intro (H2.out.2.2.2.1.cg c3) (H2.out.2.2.2.2.cg c3)))))
  clear t3 c3 H2
  obtain ⟨y0, y1, y2, y3, y4, y5⟩ := H3.out.2.2.2.2.cells
  go_wp2_with (at_builtin; refine wp_text rfl (.tmp 19) (.tmp 21) rfl rfl H3.out.2.1 H3.out.2.2.1 n rfl (by have := HX.out; simp; omega) (by have := HX.out; omega) ?_)
  intro v4 w4 t4 c4
  have H4 := Lib.hid (And.intro (H3.out.1.trans c4) (And.intro t4 (And.intro (Nat.le_trans H3.out.2.2.1 c4.size) (And.intro (H3.out.2.2.2.1.cg c4) (H3.out.2.2.2.2.cg c4)))))
  clear t4 c4 H3 y0 y1 y2 y3 y4 y5
  go_upto_region 4 with fail
  have SC : ∀ w9, Cg B w4 w9 → (w9.cell? ⟨q3, 0, none⟩ = some tp ∧ w9.cell? ⟨q3, 1, none⟩ = some (.bool false) ∧ w9.cell? ⟨q5, 5, none⟩ = some (.slice a 2 c) ∧ w9.cell? ⟨p2, o2, none⟩ = some (.int .i64 kz) ∧ w9.cell? ⟨p2, o2 + 1, none⟩ = some (.string nz) ∧ w9.cell? ⟨p2, o2 + 2, none⟩ = some (.int .i64 iz) ∧ w9.cell? ⟨p2, o2 + 3, none⟩ = some (.int .u64 rz) ∧ w9.cell? ⟨p2, o2 + 4, none⟩ = some (.int .u64 mz) ∧ w9.cell? ⟨p2, o2 + 5, none⟩ = some (.slice az lz cz) ∧ Cg B w4 w9) := fun w9 hc => ⟨(H4.out.2.2.2.1.cg hc).cells.1, (H4.out.2.2.2.1.cg hc).cells.2, (H4.out.2.2.2.2.cg hc).cells.2.2.2.2.2, (HY.out.2 _ (H4.out.1.trans hc)).1, (HY.out.2 _ (H4.out.1.trans hc)).2.1, (HY.out.2 _ (H4.out.1.trans hc)).2.2.1, (HY.out.2 _ (H4.out.1.trans hc)).2.2.2.1, (HY.out.2 _ (H4.out.1.trans hc)).2.2.2.2.1, (HY.out.2 _ (H4.out.1.trans hc)).2.2.2.2.2, hc⟩
  have hdr : ∀ w9, Cg B w4 w9 → Cg B w4 w9.drew := fun w9 hc => hc.below H4.out.2.2.1 (bdr _)
  have hal : ∀ w9 o, Cg B w4 w9 → Cg B w4 (w9.alloc o) := fun w9 o hc => hc.below H4.out.2.2.1 (ba _ _)
  have hc0 := Cg.refl B w4
  go_region_held3 (fun w9 => w9.cell? ⟨q3, 0, none⟩ = some tp ∧ w9.cell? ⟨q3, 1, none⟩ = some (.bool false) ∧ w9.cell? ⟨q5, 5, none⟩ = some (.slice a 2 c) ∧ w9.cell? ⟨p2, o2, none⟩ = some (.int .i64 kz) ∧ w9.cell? ⟨p2, o2 + 1, none⟩ = some (.string nz) ∧ w9.cell? ⟨p2, o2 + 2, none⟩ = some (.int .i64 iz) ∧ w9.cell? ⟨p2, o2 + 3, none⟩ = some (.int .u64 rz) ∧ w9.cell? ⟨p2, o2 + 4, none⟩ = some (.int .u64 mz) ∧ w9.cell? ⟨p2, o2 + 5, none⟩ = some (.slice az lz cz) ∧ Cg B w4 w9)
    (first | exact SC _ (by assumption) | exact SC _ (hdr _ (by assumption)) | exact SC _ (hal _ _ (by assumption)) | exact SC _ (hal _ _ (hdr _ (by assumption))) | exact SC _ (hdr _ (hal _ _ (by assumption))) | go_keep)
    (first
      | (refine step_byte rfl (.tmp 24) (.tmp 25) rfl rfl (H4.out.2.1.ad _) (sz_ad H4.out.2.2.1 _) 32 w4.heap.size rfl (lit_ad w4 _ _) (by have := HX.out; simp; omega) ?_; intro v6 w6 t6 c6; have c7 := (Cg.ad H4.out.2.2.1 _).trans c6)
      | (go_at_call 71; refine (HY.out.1 _ _ _ (H4.out.1.trans (by first | assumption | exact hdr _ (by assumption))) (by first | exact t6 | exact t6.d1) (by have := HX.out; simp; omega)).mono ?_; rintro e w7 ⟨v7, rfl, t7, c8⟩; have c9 := Cg.trans (by first | assumption | exact hdr _ (by assumption)) c8))
  have H7 := Lib.hid (And.intro (H4.out.1.trans c9) (And.intro t7 (Nat.le_trans H4.out.2.2.1 c9.size)))
  clear SC hdr hal hc0 H4 HY c6 c7 c8 c9 t6 t7
  go_wp2_with (at_builtin; refine wp_lit rfl (.tmp 32) (.tmp 33) rfl rfl H7.out.2.1 H7.out.2.2 41 rfl rfl (by have := HX.out; simp; omega) ?_)
  intro v8 w8 t8 c8
  have H8 := Lib.hid (And.intro (H7.out.1.trans c8) t8)
  clear t8 c8 H7
  go_wp2_with fail
  go_ret
  exact ⟨v8, rfl, by simpa using H8.out.2, H8.out.1⟩
end
end Go.Proofs.YtedbcmagjbgbjaaGreatDoor.wr
namespace Go.Proofs.YtedbcmagjbgbjaaGreatDoor.wr
open Go.ChangeShapes Go.WideShapes Go.ChangeAt Go.RowKit
open Go.Proofs.YtedbcmagjbgbjaaGreatDoor.kp Go.Proofs.YtedbcmagjbgbjaaGreatDoor.tm Go.Proofs.YtedbcmagjbgbjaaGreatDoor.lie Go.Proofs.YtedbcmagjbgbjaaGreatDoor.rws
open Go.Proofs.YtedbcmagjbgbjaaGreatDoor.ow6 (XOwn row6_keep news6 info_t)
open Go.Proofs.YtedbcmagjbgbjaaGreatDoor.lst (box_set)
open Go.Proofs.YtedbcmagjbgbjaaGreatDoor.cur (blk_facts)
set_option linter.unusedVariables false
/-- new, or a row of bytes -/
def Zt (B : Nat) (w : World) (k : Nat) : Prop := w.heap.size ≤ k ∨ UX B w k
section
variable {B B2 : Nat} {W : Ways} {tp : Value} {w w' wp : World} {X S : LB} {v : Value}
theorem ux_zt (hb : Below w.heap.size w wp) : ∀ b, UX B wp b → Zt B w b := by
  intro b hu
  by_cases h : w.heap.size ≤ b
  · exact Or.inl h
  · refine Or.inr ⟨hu.1, ?_⟩
    obtain ⟨c, fz, h2⟩ := hu.2
    exact ⟨c, fz, (hb.block b (by omega)).symm.trans h2⟩
theorem row_ux {L : List Tm} {s : Value} (h : XOwn (Zt B w) B2 L s wp) (hb : Below w.heap.size w wp) : ∃ a c, s = .slice a L.length c ∧ L.length ≤ c ∧ TRow (UX B wp) wp L a 0 := by
  obtain ⟨xs, ho, hx⟩ := h.ex
  rcases ho.2 with ⟨rfl, h0⟩ | ⟨g, cap, cur, rfl, hg0, hgc, h1, h2, h3, h4⟩
  · have : L = [] := List.eq_nil_of_length_eq_zero h0
    subst this
    exact ⟨none, 0, rfl, by simp, by rw [TRow]; trivial⟩
  · refine ⟨_, cap, rfl, h1, TRow.mk L 0 fun m hm => ?_⟩
    obtain ⟨v0, v1, v2, v3, v4, v5, e0, e1, e2, e3, e4, e5, ht⟩ := hx m hm
    have e : ∀ j x, xs[j]? = some x → wp.cell? ⟨g, j, none⟩ = some x := fun j x hj => by
      rw [← h4, List.getElem?_take] at hj
      split at hj
      · simp [World.cell?, hgc]; simpa using hj
      · cases hj
    refine ⟨g, 0, v0, v1, v2, v3, v4, v5, rfl, ?_, ?_, ht.off fun b _ hu => Or.inl (ux_zt hb b hu)⟩
    · rintro ⟨-, c, fz, hc⟩
      rw [hgc] at hc
      simp at hc
    · simp only [Nat.zero_add]
      exact ⟨e _ _ e0, e _ _ e1, e _ _ e2, e _ _ e3, e _ _ e4, e _ _ e5⟩
theorem wlp {W : Ways} {n : ByteArray} {i re im : Int} {a b : Tm} (h : bl n = DOTL) : wl W (.mk 5 n i re im [a, b]) = 44 :: (wt W a ++ wl W b) := by
  rw [wl_mk]; unfold tl; rw [if_pos ⟨rfl, h, rfl⟩]; rfl
theorem wle {W : Ways} {k : Int} {n : ByteArray} {i re im : Int} {l : List Tm} (h : ¬ isP k (bl n) l.length) (h2 : ¬ (k = 2 ∧ bl n = NILL)) : wl W (.mk k n i re im l) = 124 :: wt W (.mk k n i re im l) := by
  rw [wl_mk]; unfold tl; rw [w2L_len, if_neg h, if_neg h2]; rfl
theorem wln {W : Ways} {n : ByteArray} {i re im : Int} {l : List Tm} (h2 : bl n = NILL) : wl W (.mk 2 n i re im l) = [] := by
  rw [wl_mk]; unfold tl; rw [if_neg (fun h => by have := h.1; omega), if_pos ⟨rfl, h2⟩]
theorem wt_pair {W : Ways} {n : ByteArray} {i re im : Int} {a b : Tm} (h : bl n = DOTL) : wt W (.mk 5 n i re im [a, b]) = 91 :: (wt W a ++ wl W b ++ [93]) := by
  rw [wt_mk]
  show compT W (bl n) _ = _
  unfold compT; rw [if_pos ⟨rfl, h, rfl⟩]; rfl
/-- what the loop of appendList knows -/
def LSt (B b3 b5 B2 : Nat) (W : Ways) (tp : Value) (w : World) (t0 : Tm) (g : Nat) (s7 : Value) (wr : World) : Prop :=
  ∃ (L : List Tm) (T : Tm) (kq : Int) (nq : ByteArray) (iq rq mq : Int) (aq : Option Addr) (lq cq : Nat), g = size T ∧ rT (L.map (wt W)) ++ wl W T = wl W t0 ∧ (L = [] → T = t0) ∧ L.length + size T ≤ size t0 ∧
    (∀ x ∈ L, size x < size t0 ∧ sound x = true) ∧ sound T = true ∧ XOwn (Zt B w) B2 L s7 wr ∧ TB b5 kq nq iq rq mq (.slice aq lq cq) wr ∧ Lies (Zt B w) wr T (.agg #[.int .i64 kq, .string nq, .int .i64 iq, .int .u64 rq, .int .u64 mq, .slice aq lq cq]) ∧
    Below w.heap.size w wr ∧ B2 ≤ wr.heap.size ∧ WB b3 tp wr
set_option maxRecDepth 100000 in
set_option maxHeartbeats 8000000 in
theorem list_any {n : ByteArray} {i re im : Int} {x0 y0 : Tm} {tv : Value} (E : Env B W tp w) (hT : TX B X v w) (hX : X.length + (wt W (.mk 5 n i re im [x0, y0])).length ≤ 900000000) (hn : bl n = DOTL) (hs : sound (.mk 5 n i re im [x0, y0]) = true) (hsz : size (.mk 5 n i re im [x0, y0]) ≤ 100000)
    (hl : Lies (UX B w) w (.mk 5 n i re im [x0, y0]) tv) (hc : ∀ x, size x < size (.mk 5 n i re im [x0, y0]) → sound x = true → CT W tp x) :
    Calls Tryz.prog 115 #[.agg #[tp, .bool false], v, tv] w (TE B (X ++ wt W (.mk 5 n i re im [x0, y0])) w) := by
  obtain ⟨t0, ht0⟩ : ∃ t0, t0 = Tm.mk 5 n i re im [x0, y0] := ⟨_, rfl⟩
  have hwl : ∃ r, wl W t0 = 44 :: r ∧ wt W t0 = 91 :: (r ++ [93]) := by rw [ht0]; exact ⟨_, wlp hn, wt_pair hn⟩
  have hnp : ∀ k n i re im l, t0 = .mk k n i re im l → isP k (bl n) l.length := by rw [ht0]; intro k n' i' re' im' l h; cases h; exact ⟨rfl, hn, rfl⟩
  rw [← ht0] at hX hs hsz hl hc ⊢
  obtain ⟨kT, nT, iT, rT', mT, lT⟩ := t0
  have hl0 := hl
  rw [Lies] at hl
  obtain ⟨aT, cT, rfl, -, -⟩ := hl
  obtain ⟨t0, ht9⟩ : ∃ t0, t0 = Tm.mk kT nT iT rT' mT lT := ⟨_, rfl⟩
  rw [← ht9] at hX hs hsz hl0 hc hwl hnp ht0 ⊢
  clear ht9 ht0
  have b1 := ba w (.cells #[tp, .bool false] 101)
  have b2 := bt b1 (ba _ (.cells #[.int .i64 kT, .string nT, .int .i64 iT, .int .u64 rT', .int .u64 mT, .slice aT lT.length cT] 27))
  have wb := (WB.new tp w).below (ba _ (.cells #[.int .i64 kT, .string nT, .int .i64 iT, .int .u64 rT', .int .u64 mT, .slice aT lT.length cT] 27))
  have tb := TB.new kT nT iT rT' mT (.slice aT lT.length cT) (w.alloc (.cells #[tp, .bool false] 101))
  rw [alloc_size] at tb
  obtain ⟨w1, hw1⟩ : ∃ w1, w1 = (w.alloc (.cells #[tp, .bool false] 101)).alloc (.cells #[.int .i64 kT, .string nT, .int .i64 iT, .int .u64 rT', .int .u64 mT, .slice aT lT.length cT] 27) := ⟨_, rfl⟩
  have hsz1 : w1.heap.size = w.heap.size + 2 := by rw [hw1, alloc_size, alloc_size]
  rw [← hw1] at b2 wb tb
  obtain ⟨ij, hi1, hi2, hi3, hi4⟩ := info_t
  have HI := Lib.hid (And.intro hi1 (And.intro hi2 (And.intro hi3 hi4)))
  have hlz : Lies (Zt B w) w t0 (.agg #[.int .i64 kT, .string nT, .int .i64 iT, .int .u64 rT', .int .u64 mT, .slice aT lT.length cT]) := hl0.off fun b hb hu => hu.elim (fun h => absurd hb (by omega)) id
  have H := Lib.hid (And.intro E (And.intro hT (And.intro hlz (And.intro hc (And.intro b2 (And.intro wb (And.intro tb (And.intro hwl (And.intro hnp (And.intro hs hsz))))))))))
  have HW := Lib.hid (And.intro hw1 hsz1)
  have HX := Lib.hid hX
  clear E hT hlz hl0 hc b1 b2 wb tb hX hwl hnp hs hi1 hi2 hi3 hi4 hsz
  go_enter Tryz.func115, Tryz.ntmps115
  go_upto_region 1 with fail
  change Code.wp _ _ _ _ ((w.alloc _).alloc _)
  rw [← HW.out.1]
  clear hw1 hsz1
  go_wp2_with fail
  go_loopg [7] (size t0) (LSt B w.heap.size (w.heap.size + 1) w1.heap.size W tp w t0)
  case atStart =>
    refine ⟨[], t0, kT, nT, iT, rT', mT, aT, lT.length, cT, rfl, by simp [rT], fun _ => rfl, by simp, by simp, H.out.2.2.2.2.2.2.2.2.2.1, XOwn.nil _ _ _, H.out.2.2.2.2.2.2.1, H.out.2.2.1.below H.out.2.2.2.2.1, H.out.2.2.2.2.1, Nat.le_refl _, H.out.2.2.2.2.2.1⟩
  case round =>
    obtain ⟨L, T, kq, nq, iq, rq, mq, aq, lq, cq, hg, htx, hLt, hLs, hLm, hTs, hown, htb, hli, hb, hB2, hwb⟩ := hrel
    have hpos : 1 ≤ size T := by obtain ⟨_, _, _, _, _, _⟩ := T; rw [size]; omega
    obtain ⟨⟨e0, e1, e2, e3, e4, e5⟩, f0, f1, f2, f3, f4, f5⟩ := blk_facts htb
    have HP := Lib.hid (fun w9 => isPair_any kq nq iq rq mq aq lq cq w9)
    have H0 := Lib.hid (And.intro htx (And.intro hLt (And.intro hLs (And.intro hLm (And.intro hTs (And.intro hown (And.intro htb (And.intro hli (And.intro hb (And.intro hB2 (And.intro hg (And.intro hpos hwb))))))))))))
    clear htx hLt hLs hLm hTs hown htb hli hb hB2 hwb
    go_wp2_with fail
    refine (HP.out _).mono ?_; rintro e wp ⟨rfl, bp⟩
    have htb := TB.below H0.out.2.2.2.2.2.2.1 bp
    have hown := H0.out.2.2.2.2.2.1.below bp
    have hli := H0.out.2.2.2.2.2.2.2.1.below bp
    have hb := H0.out.2.2.2.2.2.2.2.2.1.trans (bp.mono H0.out.2.2.2.2.2.2.2.2.1.size)
    have hB2 := Nat.le_trans H0.out.2.2.2.2.2.2.2.2.2.1 bp.size
    have hwb := WB.below H0.out.2.2.2.2.2.2.2.2.2.2.2.2 bp
    clear e0 e1 e2 e3 e4 e5 f0 f1 f2 f3 f4 f5 bp HP
    have hliT := hli
    obtain ⟨kt, nt, it, rt, mt, lt⟩ := T
    rw [Lies] at hli
    obtain ⟨a1, c1, hv, hfit, hrow⟩ := hli
    simp only [Value.agg.injEq, Array.mk.injEq, List.cons.injEq, Value.int.injEq, Value.string.injEq, Value.slice.injEq, and_true, true_and] at hv
    obtain ⟨rfl, rfl, rfl, rfl, rfl, rfl, rfl, rfl⟩ := hv
    by_cases hp : isP kq (bl nq) lt.length
    · have hd : decide (isP kq (bl nq) lt.length) = true := decide_eq_true hp
      rw [hd]
      obtain ⟨rfl, hdot, x, y, rfl⟩ : kq = 5 ∧ bl nq = DOTL ∧ ∃ x y, lt = [x, y] := ⟨hp.1, hp.2.1, two_of hp.2.2⟩
      obtain ⟨p1, o1, u0, u1, u2, u3, u4, u5, _, hx1, h6, hlx, hix⟩ := hrow.look (m := 0) (by simp)
      obtain ⟨p2, o2, z0, z1, z2, z3, z4, z5, _, hx2, h62, hly, hiy⟩ := hrow.look (m := 1) (by simp)
      simp only [List.getElem_cons_zero, List.getElem_cons_succ, List.length_cons, List.length_nil, Nat.zero_add, Nat.reduceAdd] at hlx hix hly hiy
      obtain ⟨kp, np, ip, rp, mp, lp, ap, cp, hv, _⟩ := lies_form hlx
      obtain ⟨rfl, rfl, rfl, rfl, rfl, rfl⟩ := hv
      obtain ⟨kz, nz, iz, rz, mz, lz, az, cz, hv, _⟩ := lies_form hly
      obtain ⟨rfl, rfl, rfl, rfl, rfl, rfl⟩ := hv
      have hix0 := hix cq
      have hiy0 := hiy cq
      simp only [Int.natCast_zero, Int.natCast_one] at hix0 hiy0
      obtain ⟨a3, c3, rfl, hl3, hr3⟩ := row_ux hown hb
      obtain ⟨xs, ho, hxs⟩ := hown.ex
      obtain ⟨⟨e0, e1, e2, e3, e4, e5⟩, f0, f1, f2, f3, f4, f5⟩ := blk_facts htb
      obtain ⟨g0, g1, g2, g3, g4, g5⟩ := h6
      have h62' := h62.1
      obtain ⟨j0, j1, j2, j3, j4, j5⟩ := h62
      have hLl : L.length ≤ 100000 := by have h1 := H0.out.2.2.1; have h2 := H.out.2.2.2.2.2.2.2.2.2.2; omega
      have hsx : size (.mk 5 nq iq rq mq [x, y]) = 1 + (size x + size y) := by rw [size]; simp [sizeL]
      have HX1 := Lib.hid (And.intro hown (And.intro ho (And.intro hxs (And.intro htb (And.intro hlx (And.intro hly (And.intro hb (And.intro hB2 (And.intro hx2 (And.intro hdot (And.intro hsx hwb)))))))))))
      have hnb2 : p2 < w.heap.size := by have : ¬ Zt B w p2 := hx2; unfold Zt at this; omega
      have hbl2 := cell_lt h62'
      simp only [List.length_cons, List.length_nil, Nat.zero_add, Nat.reduceAdd] at e5
      clear hwb hrow hx1 hx2 hix hiy hlx hly hown ho hxs htb hb hB2 hl3 hr3 h62' hd hp hfit hdot hg hpos hsx
      simp only [List.length_cons, List.length_nil, Nat.zero_add, Nat.reduceAdd]
      go_wp2_with (at_builtin; refine wpList_append_lies _ rfl (.tmp 14) (.tmp 19) 25 rfl w1.heap.size 27 ij pln.ZV 6 72 Tryz.underlying25 HI.out.1 HI.out.2.1 HI.out.2.2.1 HI.out.2.2.2 rfl (by decide) _ L.length xs rfl (row6_keep HX1.out.2.1 fun q e => (ba _ _).block q (HX1.out.2.1.lt q e).2) ⟨wp.heap.size, 0, none⟩ 1 1 [.int .i64 kp, .string np, .int .i64 ip, .int .u64 rp, .int .u64 mp, .slice ap lp cp] rfl rfl (news6 _ _ _ _ _ _ _ _) ?ac1 (by omega) ?ac2 ?ac3 ?ac4 _ rfl ?_)
      case ac1 => intro u hu; simp only [List.mem_cons, List.not_mem_nil, or_false] at hu; rcases hu with rfl | rfl | rfl | rfl | rfl | rfl <;> rfl
      case ac2 => unfold maxLen; omega
      case ac3 => omega
      case ac4 => have := HX1.out.2.2.2.2.2.2.2.1; rw [alloc_size]; omega
      intro g' c' w9 ho9 hg9 ha9 hl9
      have hadd := XOwn.add (Z := Zt B w) (t := x) HX1.out.2.2.1 HX1.out.2.1 (HX1.out.2.2.2.2.1.off fun q hq e => by
        rcases e with e | e
        · exact e
        · have h1 := (HX1.out.2.1.lt q e).1
          have h2 := HW.out.2
          exact Or.inl (by omega)) ho9 hg9 (ha9.imp id fun e => by omega)
      have hkp := hadd.2
      have hno : ∀ q, q < w1.heap.size → ¬ (Value.slice a3 L.length c3).ownBlock = some q := fun q hq e => by have := (HX1.out.2.1.lt q e).1; omega
      have hw12 := HW.out.2
      have hB9 := HX1.out.2.2.2.2.2.2.2.1
      have hbox9 : TB (w.heap.size + 1) 5 nq iq rq mq (.slice aq 2 cq) w9 := (hkp.block (w.heap.size + 1) (by omega) (hno _ (by omega))).trans HX1.out.2.2.2.1
      have q0 := (hkp.cell (o := o2) hbl2 (hno _ (by omega))).trans j0
      have q1 := (hkp.cell (o := o2 + 1) hbl2 (hno _ (by omega))).trans j1
      have q2 := (hkp.cell (o := o2 + 2) hbl2 (hno _ (by omega))).trans j2
      have q3 := (hkp.cell (o := o2 + 3) hbl2 (hno _ (by omega))).trans j3
      have q4 := (hkp.cell (o := o2 + 4) hbl2 (hno _ (by omega))).trans j4
      have q5 := (hkp.cell (o := o2 + 5) hbl2 (hno _ (by omega))).trans j5
      have hwb9 : WB w.heap.size tp w9 := (hkp.block w.heap.size (by omega) (hno _ (by omega))).trans HX1.out.2.2.2.2.2.2.2.2.2.2.2
      have H9 := Lib.hid (And.intro hadd.1 (And.intro hbox9 (And.intro hkp hwb9)))
      obtain ⟨⟨d0, d1, d2, d3, d4, d5⟩, y0, y1, y2, y3, y4, y5⟩ := blk_facts hbox9
      clear hwb9 ho9 hg9 ha9 hl9 hadd hkp hno hbox9 e0 e1 e2 e3 e4 e5 f0 f1 f2 f3 f4 f5 j0 j1 j2 j3 j4 j5 g0 g1 g2 g3 g4 g5 hw12 hB9
      go_wp2_with fail
      obtain ⟨W9, hW9, hboxW, k6⟩ := box_set H9.out.2.1 (.int .i64 kz) (.string nz) (.int .i64 iz) (.int .u64 rz) (.int .u64 mz) (.slice az lz cz)
      rw [hW9]
      go_roundg (size y)
      case measure => have h1 := HX1.out.2.2.2.2.2.2.2.2.2.2.1; have h2 := H0.out.2.2.2.2.2.2.2.2.2.2.1; omega
      case rel =>
        have hs9 := H9.out.2.2.1.size
        have hB9 := HX1.out.2.2.2.2.2.2.2.1
        have hw12 := HW.out.2
        have hszx := HX1.out.2.2.2.2.2.2.2.2.2.2.1
        have hpx : 1 ≤ size x := by obtain ⟨_, _, _, _, _, _⟩ := x; rw [size]; omega
        have hpy : 1 ≤ size y := by obtain ⟨_, _, _, _, _, _⟩ := y; rw [size]; omega
        have hsnd := sound_args H0.out.2.2.2.2.1 rfl
        refine ⟨L ++ [x], y, kz, nz, iz, rz, mz, az, lz, cz, rfl, ?_, fun h => by simp at h, ?_, ?_, hsnd y (by simp), ?_, hboxW, ?_, ?_, ?_, (k6.block w.heap.size (by omega) (by omega)).trans H9.out.2.2.2⟩
        · have h1 := H0.out.1
          rw [wlp HX1.out.2.2.2.2.2.2.2.2.2.1] at h1
          rw [← h1, List.map_append, List.map_cons, List.map_nil, rT_append, rT_cons, rT_nil, List.append_assoc]
          simp
        · have h1 := H0.out.2.2.1
          rw [List.length_append, List.length_cons, List.length_nil]
          omega
        · intro z hz
          have h1 := H0.out.2.2.1
          rcases List.mem_append.1 hz with hz | hz
          · exact H0.out.2.2.2.1 z hz
          · rw [List.mem_singleton] at hz
            subst hz
            exact ⟨by omega, hsnd z (by simp)⟩
        · have h1 := H9.out.1.keep k6 (fun q h => ⟨Or.inl (by omega), by omega⟩)
          simpa using h1
        · exact Lies.keep (k6.mono (G := Zt B w) fun q h => Or.inl (by omega)) (fun _ _ => id) _ _ (Lies.keep (H9.out.2.2.1.mono (G := Zt B w) fun q h => Or.inl (by have := (HX1.out.2.1.lt q h).1; omega)) (fun _ _ => id) _ _ HX1.out.2.2.2.2.2.1)
        · exact (HX1.out.2.2.2.2.2.2.1.trans (H9.out.2.2.1.to_below (fun q h => by have := (HX1.out.2.1.lt q h).1; omega) HX1.out.2.2.2.2.2.2.1.size)).trans (k6.to_below (fun q h => by omega) (by have := HX1.out.2.2.2.2.2.2.1.size; omega))
        · have := k6.size; omega
    · have hd : decide (isP kq (bl nq) lt.length) = false := decide_eq_false hp
      rw [hd]
      have hne : L ≠ [] := fun h => hp (H.out.2.2.2.2.2.2.2.2.1 _ _ _ _ _ _ (H0.out.2.1 h).symm)
      obtain ⟨r, hr1, hr2⟩ := H.out.2.2.2.2.2.2.2.1
      obtain ⟨Y, hY⟩ : ∃ Y, Y = rowT (L.map (wt W)) := ⟨_, rfl⟩
      obtain ⟨Z, hZ⟩ : ∃ Z, Z = wl W (.mk kq nq iq rq mq lt) := ⟨_, rfl⟩
      have hYZ : Y ++ Z = r := by
        have h1 := H0.out.1
        rw [hr1] at h1
        cases hL : L with
        | nil => exact absurd hL hne
        | cons x L' =>
          rw [hL, List.map_cons, rT_cons] at h1
          rw [hY, hZ, hL, List.map_cons, rowT_cons]
          simpa using h1
      have hX2 : X.length + Y.length + Z.length + 2 ≤ 900000000 := by
        have h1 := HX.out
        rw [hr2, ← hYZ] at h1
        simp only [List.length_cons, List.length_append, List.length_nil] at h1
        omega
      obtain ⟨a3, c3, rfl, hl3, hr3⟩ := row_ux hown hb
      have E9 := H.out.1.below hb
      have hLl : L.length ≤ 100000 := by have h1 := H0.out.2.2.1; have h2 := H.out.2.2.2.2.2.2.2.2.2.2; omega
      have hlu : Lies (UX B wp) wp (.mk kq nq iq rq mq lt) _ := hliT.off fun b _ hu => ux_zt hb b hu
      have hrow' : ∀ (w1 : World) (X1 : LB) (v1 : Value), Cg B wp w1 → TX B X1 v1 w1 → X1.length + (rowT (L.map (wt W))).length ≤ 900000000 → _ := fun w1 X1 v1 hb ht hx => row_any (c := c3) (E9.cg hb) ht hx hLl (hb.trow hr3) fun x hx => H.out.2.2.2.1 x (H0.out.2.2.2.1 x hx).1 (H0.out.2.2.2.1 x hx).2
      have hcl : ∀ (w1 : World) (X1 : LB) (v1 : Value), Cg B wp w1 → TX B X1 v1 w1 → X1.length + (wt W (.mk kq nq iq rq mq lt)).length ≤ 900000000 → _ := fun w1 X1 v1 hb ht hx => H.out.2.2.2.1 (.mk kq nq iq rq mq lt) (by have h1 := H0.out.2.2.1; have h2 := List.length_pos_iff.2 hne; omega) H0.out.2.2.2.2.1 w1 B X1 v1 _ (E9.cg hb) ht hx (hb.lies hlu)
      rw [← hY] at hrow'
      have c5 := Cg.of_below H.out.1.hB hb
      obtain ⟨q3, hq3⟩ : ∃ q, q = w.heap.size := ⟨_, rfl⟩
      obtain ⟨q5, hq5⟩ : ∃ q, q = w.heap.size + 1 := ⟨_, rfl⟩
      have H5 := Lib.hid (And.intro c5 (And.intro (H.out.2.1.below hb) (And.intro (Nat.le_trans H.out.1.hB hb.size) (And.intro (show WB q3 tp wp by rw [hq3]; exact hwb) (show TB q5 kq nq iq rq mq (.slice aq lt.length cq) wp by rw [hq5]; exact htb)))))
      have HR := Lib.hid (And.intro hrow' hcl)
      have HY := Lib.hid (show X ++ wt W t0 = X ++ (91 :: (Y ++ Z ++ [93])) by rw [hr2, hYZ])
      have HX := Lib.hid hX2
      clear hliT H H0 hne hr1 hr2 hYZ hX2 hl3 hr3 E9 hLl hlu hrow' hcl c5 hown htb hb hB2 hwb hfit hrow hg hpos hY hd HI
      have hz : (kq = 2 ∧ bl nq = NILL ∧ wl W (.mk kq nq iq rq mq lt) = []) ∨ (kq = 2 ∧ bl nq ≠ NILL ∧ wl W (.mk kq nq iq rq mq lt) = 124 :: wt W (.mk kq nq iq rq mq lt)) ∨ (kq ≠ 2 ∧ wl W (.mk kq nq iq rq mq lt) = 124 :: wt W (.mk kq nq iq rq mq lt)) := by
        by_cases h2 : kq = 2
        · by_cases h3 : bl nq = NILL
          · subst h2; exact Or.inl ⟨rfl, h3, wln h3⟩
          · exact Or.inr (Or.inl ⟨h2, h3, wle hp fun h => h3 h.2⟩)
        · exact Or.inr (Or.inr ⟨h2, wle hp fun h => h2 h.1⟩)
      have HH := Lib.hid (And.intro hz hZ)
      clear hz hZ hp
      go_upto_region 5 with fail
      rw [← hq5, ← hq3]
      clear hq3 hq5
      have SC : ∀ w9, Cg B wp w9 → (w9.cell? ⟨q3, 0, none⟩ = some tp ∧ w9.cell? ⟨q3, 1, none⟩ = some (.bool false) ∧ Cg B wp w9) := fun w9 hc => ⟨(H5.out.2.2.2.1.cg hc).cells.1, (H5.out.2.2.2.1.cg hc).cells.2, hc⟩
      have hdr : ∀ w9, Cg B wp w9 → Cg B wp w9.drew := fun w9 hc => hc.below H5.out.2.2.1 (bdr _)
      have hal : ∀ w9 o, Cg B wp w9 → Cg B wp (w9.alloc o) := fun w9 o hc => hc.below H5.out.2.2.1 (ba _ _)
      have hc0 := Cg.refl B wp
      go_region_held3 (fun w9 => w9.cell? ⟨q3, 0, none⟩ = some tp ∧ w9.cell? ⟨q3, 1, none⟩ = some (.bool false) ∧ Cg B wp w9)
        (first | exact SC _ (by assumption) | exact SC _ (hdr _ (by assumption)) | exact SC _ (hal _ _ (by assumption)) | exact SC _ (hal _ _ (hdr _ (by assumption))) | exact SC _ (hdr _ (hal _ _ (by assumption))) | go_keep)
        (first
          | (refine step_byte rfl (.tmp 22) (.tmp 23) rfl rfl (H5.out.2.1.ad _) (sz_ad H5.out.2.2.1 _) 91 wp.heap.size rfl (lit_ad wp _ _) (by have := HX.out; simp; omega) ?_; intro v6 w6 t6 c6; have c7 := (Cg.ad H5.out.2.2.1 _).trans c6)
          | (go_at_call 154; refine (HR.out.1 _ _ _ (by first | assumption | exact hdr _ (by assumption)) (by first | exact t6 | exact t6.d1) (by have := HX.out; simp; omega)).mono ?_; rintro e w7 ⟨v7, rfl, t7, c8⟩; have c9 := Cg.trans (by first | assumption | exact hdr _ (by assumption)) c8))
      have H7 := Lib.hid (And.intro (H5.out.1.trans c9) (And.intro t7 (And.intro (Nat.le_trans H5.out.2.2.1 c9.size) (And.intro (H5.out.2.2.2.1.cg c9) (H5.out.2.2.2.2.cg c9)))))
      have HC := Lib.hid c9
      obtain ⟨y0, y1, y2, y3, y4, y5⟩ := H7.out.2.2.2.2.cells
      obtain ⟨hz, hZ⟩ := HH.out
      clear HH SC hdr hal hc0 H5 c6 c7 c8 c9 t6 t7
      rcases hz with ⟨rfl, hn2, hz⟩ | ⟨rfl, hn2, hz⟩ | ⟨hk2, hz⟩
      · have hnn : nq = ⟨#[91, 93]⟩ := ByteArray.ext (Array.ext' hn2)
        subst hnn
        rw [hz] at hZ
        have HZ := Lib.hid hZ
        clear hZ hz hn2
        go_wp2_with (at_builtin; refine wp_lit rfl (.tmp 41) (.tmp 42) rfl rfl H7.out.2.1 H7.out.2.2.1 93 rfl rfl (by have := HX.out; simp; omega) ?_)
        intro v9 w9 t9 c9
        have H9 := Lib.hid (And.intro (H7.out.1.trans c9) t9)
        clear t9 c9 H7
        go_wp2_with fail
        go_ret
        exact ⟨v9, rfl, by rw [HY.out, HZ.out]; simpa using H9.out.2, H9.out.1⟩
      · have q5n : (nq.toList == [91, 93]) = false := beq_eq_false_iff_ne.2 (fun h => hn2 (by rw [ByteArray.toList_eq] at h; exact h))
        clear hn2
        rw [hz] at hZ
        have HZ := Lib.hid hZ
        have HX : Hid (X.length + Y.length + (wt W (.mk 2 nq iq rq mq lt)).length + 3 ≤ 900000000) := Lib.hid (by have := HX.out; have h2 := congrArg List.length HZ.out; simp only [List.length_cons] at h2; omega)
        clear hZ hz
        go_upto_region 7 with fail
        clear y0 y1 y2 y3 y4 y5
        have SC : ∀ w9, Cg B w7 w9 → (w9.cell? ⟨q3, 0, none⟩ = some tp ∧ w9.cell? ⟨q3, 1, none⟩ = some (.bool false) ∧ w9.cell? ⟨q5, 0, none⟩ = some (.int .i64 2) ∧ w9.cell? ⟨q5, 1, none⟩ = some (.string nq) ∧ w9.cell? ⟨q5, 2, none⟩ = some (.int .i64 iq) ∧ w9.cell? ⟨q5, 3, none⟩ = some (.int .u64 rq) ∧ w9.cell? ⟨q5, 4, none⟩ = some (.int .u64 mq) ∧ w9.cell? ⟨q5, 5, none⟩ = some (.slice aq lt.length cq) ∧ Cg B w7 w9) := fun w9 hc => ⟨(H7.out.2.2.2.1.cg hc).cells.1, (H7.out.2.2.2.1.cg hc).cells.2, (H7.out.2.2.2.2.cg hc).cells.1, (H7.out.2.2.2.2.cg hc).cells.2.1, (H7.out.2.2.2.2.cg hc).cells.2.2.1, (H7.out.2.2.2.2.cg hc).cells.2.2.2.1, (H7.out.2.2.2.2.cg hc).cells.2.2.2.2.1, (H7.out.2.2.2.2.cg hc).cells.2.2.2.2.2, hc⟩
        have hdr : ∀ w9, Cg B w7 w9 → Cg B w7 w9.drew := fun w9 hc => hc.below H7.out.2.2.1 (bdr _)
        have hal : ∀ w9 o, Cg B w7 w9 → Cg B w7 (w9.alloc o) := fun w9 o hc => hc.below H7.out.2.2.1 (ba _ _)
        have hc0 := Cg.refl B w7
        go_region_held3 (fun w9 => w9.cell? ⟨q3, 0, none⟩ = some tp ∧ w9.cell? ⟨q3, 1, none⟩ = some (.bool false) ∧ w9.cell? ⟨q5, 0, none⟩ = some (.int .i64 2) ∧ w9.cell? ⟨q5, 1, none⟩ = some (.string nq) ∧ w9.cell? ⟨q5, 2, none⟩ = some (.int .i64 iq) ∧ w9.cell? ⟨q5, 3, none⟩ = some (.int .u64 rq) ∧ w9.cell? ⟨q5, 4, none⟩ = some (.int .u64 mq) ∧ w9.cell? ⟨q5, 5, none⟩ = some (.slice aq lt.length cq) ∧ Cg B w7 w9)
          (first | exact SC _ (by assumption) | exact SC _ (hdr _ (by assumption)) | exact SC _ (hal _ _ (by assumption)) | exact SC _ (hal _ _ (hdr _ (by assumption))) | exact SC _ (hdr _ (hal _ _ (by assumption))) | go_keep)
          (first
            | (refine step_byte rfl (.tmp 36) (.tmp 37) rfl rfl (H7.out.2.1.ad _) (sz_ad H7.out.2.2.1 _) 124 w7.heap.size rfl (lit_ad w7 _ _) (by have := HX.out; simp; omega) ?_; intro v6 w6 t6 c6; have c7 := (Cg.ad H7.out.2.2.1 _).trans c6)
            | (go_at_call 71; refine (HR.out.2 _ _ _ (HC.out.trans (by first | assumption | exact hdr _ (by assumption))) (by first | exact t6 | exact t6.d1) (by have := HX.out; have := HZ.out; simp; omega)).mono ?_; rintro e w8 ⟨v8, rfl, t8, c8⟩; have c9 := Cg.trans (by first | assumption | exact hdr _ (by assumption)) c8))
        have H8 := Lib.hid (And.intro (H7.out.1.trans c9) (And.intro t8 (Nat.le_trans H7.out.2.2.1 c9.size)))
        clear SC hdr hal hc0 H7 HR HC c6 c7 c8 c9 t6 t8
        go_wp2_with (at_builtin; refine wp_lit rfl (.tmp 41) (.tmp 42) rfl rfl H8.out.2.1 H8.out.2.2 93 rfl rfl (by have := HX.out; simp; omega) ?_)
        intro v9 w9 t9 c9
        have H9 := Lib.hid (And.intro (H8.out.1.trans c9) t9)
        clear t9 c9 H8
        go_wp2_with fail
        go_ret
        exact ⟨v9, rfl, by rw [HY.out, HZ.out]; simpa using H9.out.2, H9.out.1⟩
      · have q5n : (kq == 2) = false := beq_eq_false_iff_ne.2 hk2
        have q5m : decide (kq = 2) = false := decide_eq_false hk2
        have q5k : (kq != 2) = true := by simp [hk2]
        rw [hz] at hZ
        have HZ := Lib.hid hZ
        have HX : Hid (X.length + Y.length + (wt W (.mk kq nq iq rq mq lt)).length + 3 ≤ 900000000) := Lib.hid (by have := HX.out; have h2 := congrArg List.length HZ.out; simp only [List.length_cons] at h2; omega)
        clear hZ hz
        go_upto_region 7 with fail
        clear q5n q5m q5k hk2
        clear y0 y1 y2 y3 y4 y5
        have SC : ∀ w9, Cg B w7 w9 → (w9.cell? ⟨q3, 0, none⟩ = some tp ∧ w9.cell? ⟨q3, 1, none⟩ = some (.bool false) ∧ w9.cell? ⟨q5, 0, none⟩ = some (.int .i64 kq) ∧ w9.cell? ⟨q5, 1, none⟩ = some (.string nq) ∧ w9.cell? ⟨q5, 2, none⟩ = some (.int .i64 iq) ∧ w9.cell? ⟨q5, 3, none⟩ = some (.int .u64 rq) ∧ w9.cell? ⟨q5, 4, none⟩ = some (.int .u64 mq) ∧ w9.cell? ⟨q5, 5, none⟩ = some (.slice aq lt.length cq) ∧ Cg B w7 w9) := fun w9 hc => ⟨(H7.out.2.2.2.1.cg hc).cells.1, (H7.out.2.2.2.1.cg hc).cells.2, (H7.out.2.2.2.2.cg hc).cells.1, (H7.out.2.2.2.2.cg hc).cells.2.1, (H7.out.2.2.2.2.cg hc).cells.2.2.1, (H7.out.2.2.2.2.cg hc).cells.2.2.2.1, (H7.out.2.2.2.2.cg hc).cells.2.2.2.2.1, (H7.out.2.2.2.2.cg hc).cells.2.2.2.2.2, hc⟩
        have hdr : ∀ w9, Cg B w7 w9 → Cg B w7 w9.drew := fun w9 hc => hc.below H7.out.2.2.1 (bdr _)
        have hal : ∀ w9 o, Cg B w7 w9 → Cg B w7 (w9.alloc o) := fun w9 o hc => hc.below H7.out.2.2.1 (ba _ _)
        have hc0 := Cg.refl B w7
        go_region_held3 (fun w9 => w9.cell? ⟨q3, 0, none⟩ = some tp ∧ w9.cell? ⟨q3, 1, none⟩ = some (.bool false) ∧ w9.cell? ⟨q5, 0, none⟩ = some (.int .i64 kq) ∧ w9.cell? ⟨q5, 1, none⟩ = some (.string nq) ∧ w9.cell? ⟨q5, 2, none⟩ = some (.int .i64 iq) ∧ w9.cell? ⟨q5, 3, none⟩ = some (.int .u64 rq) ∧ w9.cell? ⟨q5, 4, none⟩ = some (.int .u64 mq) ∧ w9.cell? ⟨q5, 5, none⟩ = some (.slice aq lt.length cq) ∧ Cg B w7 w9)
          (first | exact SC _ (by assumption) | exact SC _ (hdr _ (by assumption)) | exact SC _ (hal _ _ (by assumption)) | exact SC _ (hal _ _ (hdr _ (by assumption))) | exact SC _ (hdr _ (hal _ _ (by assumption))) | go_keep)
          (first
            | (refine step_byte rfl (.tmp 36) (.tmp 37) rfl rfl (H7.out.2.1.ad _) (sz_ad H7.out.2.2.1 _) 124 w7.heap.size rfl (lit_ad w7 _ _) (by have := HX.out; simp; omega) ?_; intro v6 w6 t6 c6; have c7 := (Cg.ad H7.out.2.2.1 _).trans c6)
            | (go_at_call 71; refine (HR.out.2 _ _ _ (HC.out.trans (by first | assumption | exact hdr _ (by assumption))) (by first | exact t6 | exact t6.d1) (by have := HX.out; have := HZ.out; simp; omega)).mono ?_; rintro e w8 ⟨v8, rfl, t8, c8⟩; have c9 := Cg.trans (by first | assumption | exact hdr _ (by assumption)) c8))
        have H8 := Lib.hid (And.intro (H7.out.1.trans c9) (And.intro t8 (Nat.le_trans H7.out.2.2.1 c9.size)))
        clear SC hdr hal hc0 H7 HR HC c6 c7 c8 c9 t6 t8
        go_wp2_with (at_builtin; refine wp_lit rfl (.tmp 41) (.tmp 42) rfl rfl H8.out.2.1 H8.out.2.2 93 rfl rfl (by have := HX.out; simp; omega) ?_)
        intro v9 w9 t9 c9
        have H9 := Lib.hid (And.intro (H8.out.1.trans c9) t9)
        clear t9 c9 H8
        go_wp2_with fail
        go_ret
        exact ⟨v9, rfl, by rw [HY.out, HZ.out]; simpa using H9.out.2, H9.out.1⟩
end
end Go.Proofs.YtedbcmagjbgbjaaGreatDoor.wr
namespace Go.Proofs.YtedbcmagjbgbjaaGreatDoor.wr
open Go.ChangeShapes Go.WideShapes Go.ChangeAt Go.RowKit
open Go.Proofs.YtedbcmagjbgbjaaGreatDoor.kp Go.Proofs.YtedbcmagjbgbjaaGreatDoor.tm Go.Proofs.YtedbcmagjbgbjaaGreatDoor.lie Go.Proofs.YtedbcmagjbgbjaaGreatDoor.rws Go.Proofs.YtedbcmagjbgbjaaGreatDoor.tk
open Go.Proofs.YtedbcmagjbgbjaaGreatDoor.num (cpx textC_any)
set_option linter.unusedVariables false
section
variable {B B2 : Nat} {W : Ways} {tp : Value} {w w' wp : World} {X S : LB} {v : Value}
theorem appint (i : Int) (hi : inR i) (E : Env B W tp w) (hT : TX B X v w) (hX : X.length ≤ 1000000000) : Calls Tryz.prog 111 #[v, .int .i64 i, .int .i64 10] w (TE B (X ++ Lib.itoa i) w) := by
  refine (Tryz.strconv_AppendInt_10 B X.length i hi.1 hi.2 v (Lib.byteCells X) w hT E.hB (by omega) E.tb).mono ?_
  rintro e w2 ⟨v2, rfl, h1, h2, h3⟩
  refine ⟨v2, rfl, ?_, h2, h3⟩
  unfold TX
  rw [List.length_append, Lib.byteCells_append]
  exact h1
set_option maxRecDepth 100000 in
set_option maxHeartbeats 8000000 in
theorem at_var {n : ByteArray} {i re im : Int} {a : Option Addr} {len c : Nat} (E : Env B W tp w) (hT : TX B X v w) (hX : X.length + (95 :: Lib.itoa i).length ≤ 900000000) (hi : inR i) :
    Calls Tryz.prog 71 #[.agg #[tp, .bool false], v, .agg #[.int .i64 1, .string n, .int .i64 i, .int .u64 re, .int .u64 im, .slice a len c]] w (TE B (X ++ 95 :: Lib.itoa i) w) := by
  have b1 := ba w (.cells #[tp, .bool false] 101)
  have b2 := bt b1 (ba _ (.cells #[.int .i64 1, .string n, .int .i64 i, .int .u64 re, .int .u64 im, (.slice a len c)] 27))
  have wb := (WB.new tp w).below (ba _ (.cells #[.int .i64 1, .string n, .int .i64 i, .int .u64 re, .int .u64 im, (.slice a len c)] 27))
  have tb := TB.new 1 n i re im (.slice a len c) (w.alloc (.cells #[tp, .bool false] 101))
  rw [alloc_size] at tb
  obtain ⟨w1, hw1⟩ : ∃ w1, w1 = (w.alloc (.cells #[tp, .bool false] 101)).alloc (.cells #[.int .i64 1, .string n, .int .i64 i, .int .u64 re, .int .u64 im, (.slice a len c)] 27) := ⟨_, rfl⟩
  rw [← hw1] at b2 wb tb
  obtain ⟨q3, hq3⟩ : ∃ q, q = w.heap.size := ⟨_, rfl⟩
  obtain ⟨q5, hq5⟩ : ∃ q, q = w.heap.size + 1 := ⟨_, rfl⟩
  have H1 := Lib.hid (And.intro (Cg.of_below E.hB b2) (And.intro (hT.below b2) (And.intro (E.below b2).hB (And.intro (show WB q3 tp w1 by rw [hq3]; exact wb) (show TB q5 1 n i re im (.slice a len c) w1 by rw [hq5]; exact tb)))))
  have HE := Lib.hid E
  have HX := Lib.hid hX
  have HQ := Lib.hid (And.intro hw1 (And.intro hq3 hq5))
  have HI : Hid (∀ (w2 : World) (X2 : LB) (v2 : Value), Cg B w w2 → TX B X2 v2 w2 → X2.length ≤ 1000000000 → _) := Lib.hid fun w2 X2 v2 hc ht hx => appint i hi (HE.out.cg hc) ht hx
  clear E hT hX b1 b2 wb tb hw1 hq3 hq5
  go_enter Tryz.func71, Tryz.ntmps71
  go_upto_region 1 with fail
  change Code.wp _ _ _ _ ((w.alloc _).alloc _)
  rw [← HQ.out.1]
  rw [← HQ.out.2.2, ← HQ.out.2.1]
  clear HQ
  obtain ⟨y0, y1, y2, y3, y4, y5⟩ := H1.out.2.2.2.2.cells
  go_upto_region 3 with fail
  clear y0 y1 y2 y3 y4 y5
  have SC : ∀ w9, Cg B w1 w9 → (w9.cell? ⟨q5, 2, none⟩ = some (.int .i64 i) ∧ Cg B w1 w9) := fun w9 hc => ⟨(H1.out.2.2.2.2.cg hc).cells.2.2.1, hc⟩
  have hdr : ∀ w9, Cg B w1 w9 → Cg B w1 w9.drew := fun w9 hc => hc.below H1.out.2.2.1 (bdr _)
  have hal : ∀ w9 o, Cg B w1 w9 → Cg B w1 (w9.alloc o) := fun w9 o hc => hc.below H1.out.2.2.1 (ba _ _)
  have hc0 := Cg.refl B w1
  go_region_held3 (fun w9 => w9.cell? ⟨q5, 2, none⟩ = some (.int .i64 i) ∧ Cg B w1 w9)
    (first | exact SC _ (by assumption) | exact SC _ (hdr _ (by assumption)) | exact SC _ (hal _ _ (by assumption)) | exact SC _ (hal _ _ (hdr _ (by assumption))) | exact SC _ (hdr _ (hal _ _ (by assumption))) | go_keep)
    (first
      | (refine step_byte rfl (.tmp 11) (.tmp 12) rfl rfl (H1.out.2.1.ad _) (sz_ad H1.out.2.2.1 _) 95 w1.heap.size rfl (lit_ad w1 _ _) (by have := HX.out; simp; omega) ?_; intro v6 w6 t6 c6; have c7 := (Cg.ad H1.out.2.2.1 _).trans c6)
      | (go_at_call 111; refine (HI.out _ _ _ (H1.out.1.trans (by first | assumption | exact hdr _ (by assumption))) (by first | exact t6 | exact t6.d1) (by have := HX.out; simp; omega)).mono ?_; rintro e w7 ⟨v7, rfl, t7, c8⟩; have c9 := Cg.trans (by first | assumption | exact hdr _ (by assumption)) c8))
  have H7 := Lib.hid (And.intro (H1.out.1.trans c9) t7)
  clear SC hdr hal hc0 H1 HI c6 c7 c8 c9 t6 t7
  go_wp2_with fail
  go_ret
  exact ⟨v7, rfl, by simpa using H7.out.2, H7.out.1⟩
set_option maxRecDepth 100000 in
set_option maxHeartbeats 8000000 in
theorem at_int {n : ByteArray} {i re im : Int} {a : Option Addr} {len c : Nat} (E : Env B W tp w) (hT : TX B X v w) (hX : X.length + (Lib.itoa i).length ≤ 900000000) (hi : inR i) :
    Calls Tryz.prog 71 #[.agg #[tp, .bool false], v, .agg #[.int .i64 3, .string n, .int .i64 i, .int .u64 re, .int .u64 im, .slice a len c]] w (TE B (X ++ Lib.itoa i) w) := by
  have b1 := ba w (.cells #[tp, .bool false] 101)
  have b2 := bt b1 (ba _ (.cells #[.int .i64 3, .string n, .int .i64 i, .int .u64 re, .int .u64 im, (.slice a len c)] 27))
  have wb := (WB.new tp w).below (ba _ (.cells #[.int .i64 3, .string n, .int .i64 i, .int .u64 re, .int .u64 im, (.slice a len c)] 27))
  have tb := TB.new 3 n i re im (.slice a len c) (w.alloc (.cells #[tp, .bool false] 101))
  rw [alloc_size] at tb
  obtain ⟨w1, hw1⟩ : ∃ w1, w1 = (w.alloc (.cells #[tp, .bool false] 101)).alloc (.cells #[.int .i64 3, .string n, .int .i64 i, .int .u64 re, .int .u64 im, (.slice a len c)] 27) := ⟨_, rfl⟩
  rw [← hw1] at b2 wb tb
  obtain ⟨q3, hq3⟩ : ∃ q, q = w.heap.size := ⟨_, rfl⟩
  obtain ⟨q5, hq5⟩ : ∃ q, q = w.heap.size + 1 := ⟨_, rfl⟩
  have H1 := Lib.hid (And.intro (Cg.of_below E.hB b2) (And.intro (hT.below b2) (And.intro (E.below b2).hB (And.intro (show WB q3 tp w1 by rw [hq3]; exact wb) (show TB q5 3 n i re im (.slice a len c) w1 by rw [hq5]; exact tb)))))
  have HE := Lib.hid E
  have HX := Lib.hid hX
  have HQ := Lib.hid (And.intro hw1 (And.intro hq3 hq5))
  have HI := Lib.hid (appint i hi (HE.out.cg H1.out.1) H1.out.2.1 (by omega))
  clear E hT hX b1 b2 wb tb hw1 hq3 hq5
  go_enter Tryz.func71, Tryz.ntmps71
  go_upto_region 1 with fail
  change Code.wp _ _ _ _ ((w.alloc _).alloc _)
  rw [← HQ.out.1]
  rw [← HQ.out.2.2, ← HQ.out.2.1]
  clear HQ
  obtain ⟨y0, y1, y2, y3, y4, y5⟩ := H1.out.2.2.2.2.cells
  go_wp2_with fail
  refine HI.out.mono ?_; rintro e w7 ⟨v7, rfl, t7, c7⟩
  have H7 := Lib.hid (And.intro (H1.out.1.trans c7) t7)
  clear H1 HI c7 t7 y0 y1 y2 y3 y4 y5
  go_wp2_with fail
  go_ret
  exact ⟨v7, rfl, H7.out.2, H7.out.1⟩
set_option maxRecDepth 100000 in
set_option maxHeartbeats 8000000 in
theorem at_cpx {n : ByteArray} {i re im : Int} {a : Option Addr} {len c : Nat} (E : Env B W tp w) (hT : TX B X v w) (hX : X.length + (cpx re.toNat im.toNat).length ≤ 900000000) (hr : 0 ≤ re ∧ re < 18446744073709551616) (hm : 0 ≤ im ∧ im < 18446744073709551616) :
    Calls Tryz.prog 71 #[.agg #[tp, .bool false], v, .agg #[.int .i64 4, .string n, .int .i64 i, .int .u64 re, .int .u64 im, .slice a len c]] w (TE B (X ++ cpx re.toNat im.toNat) w) := by
  obtain ⟨p, hp⟩ : ∃ p : Nat, re = (p : Int) := ⟨re.toNat, by omega⟩
  obtain ⟨q, hq⟩ : ∃ p : Nat, im = (p : Int) := ⟨im.toNat, by omega⟩
  subst hp hq
  simp only [Int.toNat_natCast] at hX ⊢
  have hl := cpx_len p q
  have b1 := ba w (.cells #[tp, .bool false] 101)
  have b2 := bt b1 (ba _ (.cells #[.int .i64 4, .string n, .int .i64 i, .int .u64 (p : Int), .int .u64 (q : Int), (.slice a len c)] 27))
  have wb := (WB.new tp w).below (ba _ (.cells #[.int .i64 4, .string n, .int .i64 i, .int .u64 (p : Int), .int .u64 (q : Int), (.slice a len c)] 27))
  have tb := TB.new 4 n i (p : Int) (q : Int) (.slice a len c) (w.alloc (.cells #[tp, .bool false] 101))
  rw [alloc_size] at tb
  obtain ⟨w1, hw1⟩ : ∃ w1, w1 = (w.alloc (.cells #[tp, .bool false] 101)).alloc (.cells #[.int .i64 4, .string n, .int .i64 i, .int .u64 (p : Int), .int .u64 (q : Int), (.slice a len c)] 27) := ⟨_, rfl⟩
  rw [← hw1] at b2 wb tb
  obtain ⟨q3, hq3⟩ : ∃ q, q = w.heap.size := ⟨_, rfl⟩
  obtain ⟨q5, hq5⟩ : ∃ q, q = w.heap.size + 1 := ⟨_, rfl⟩
  have H1 := Lib.hid (And.intro (Cg.of_below E.hB b2) (And.intro (hT.below b2) (And.intro (E.below b2).hB (And.intro (show WB q3 tp w1 by rw [hq3]; exact wb) (show TB q5 4 n i (p : Int) (q : Int) (.slice a len c) w1 by rw [hq5]; exact tb)))))
  have HE := Lib.hid E
  have HX := Lib.hid hX
  have HQ := Lib.hid (And.intro hw1 (And.intro hq3 hq5))
  have HI := Lib.hid (fun w9 => textC_any p q w9 (by omega) (by omega))
  clear E hT hX b1 b2 wb tb hw1 hq3 hq5
  go_enter Tryz.func71, Tryz.ntmps71
  go_upto_region 1 with fail
  change Code.wp _ _ _ _ ((w.alloc _).alloc _)
  rw [← HQ.out.1]
  rw [← HQ.out.2.2, ← HQ.out.2.1]
  clear HQ
  obtain ⟨y0, y1, y2, y3, y4, y5⟩ := H1.out.2.2.2.2.cells
  clear hr hm
  go_wp2_with fail
  refine (HI.out _).mono ?_; rintro e w5 ⟨rfl, b5⟩
  have c5 := H1.out.1.below HE.out.hB b5
  have H5 := Lib.hid (And.intro c5 (And.intro (H1.out.2.1.below b5) (Nat.le_trans HE.out.hB c5.size)))
  clear c5 b5 H1 HI y0 y1 y2 y3 y4 y5
  go_wp2_with (at_builtin; refine wp_text rfl (.tmp 25) (.tmp 30) rfl rfl H5.out.2.1 H5.out.2.2 (cpx p q) rfl (by have := HX.out; omega) (by omega) ?_)
  intro v7 w7 t7 c7
  have H7 := Lib.hid (And.intro (H5.out.1.trans c7) t7)
  clear c7 t7 H5
  go_wp2_with fail
  go_ret
  exact ⟨v7, rfl, H7.out.2, H7.out.1⟩
set_option maxRecDepth 100000 in
set_option maxHeartbeats 8000000 in
theorem at_atom {i re im : Int} {a : Option Addr} {len c : Nat} (E : Env B W tp w) (hT : TX B X v w) (hX : X.length + (atT W S).length ≤ 900000000) (hS : S.length ≤ 65000) :
    Calls Tryz.prog 71 #[.agg #[tp, .bool false], v, .agg #[.int .i64 2, .string ⟨S.toArray⟩, .int .i64 i, .int .u64 re, .int .u64 im, .slice a len c]] w (TE B (X ++ atT W S) w) := by
  have b1 := ba w (.cells #[tp, .bool false] 101)
  have b2 := bt b1 (ba _ (.cells #[.int .i64 2, .string ⟨S.toArray⟩, .int .i64 i, .int .u64 re, .int .u64 im, (.slice a len c)] 27))
  have wb := (WB.new tp w).below (ba _ (.cells #[.int .i64 2, .string ⟨S.toArray⟩, .int .i64 i, .int .u64 re, .int .u64 im, (.slice a len c)] 27))
  have tb := TB.new 2 ⟨S.toArray⟩ i re im (.slice a len c) (w.alloc (.cells #[tp, .bool false] 101))
  rw [alloc_size] at tb
  obtain ⟨w1, hw1⟩ : ∃ w1, w1 = (w.alloc (.cells #[tp, .bool false] 101)).alloc (.cells #[.int .i64 2, .string ⟨S.toArray⟩, .int .i64 i, .int .u64 re, .int .u64 im, (.slice a len c)] 27) := ⟨_, rfl⟩
  rw [← hw1] at b2 wb tb
  obtain ⟨q3, hq3⟩ : ∃ q, q = w.heap.size := ⟨_, rfl⟩
  obtain ⟨q5, hq5⟩ : ∃ q, q = w.heap.size + 1 := ⟨_, rfl⟩
  have H1 := Lib.hid (And.intro (Cg.of_below E.hB b2) (And.intro (hT.below b2) (And.intro (E.below b2).hB (And.intro (show WB q3 tp w1 by rw [hq3]; exact wb) (show TB q5 2 ⟨S.toArray⟩ i re im (.slice a len c) w1 by rw [hq5]; exact tb)))))
  have HE := Lib.hid E
  have HX := Lib.hid hX
  have HQ := Lib.hid (And.intro hw1 (And.intro hq3 hq5))
  have HI := Lib.hid (atom_any (HE.out.cg H1.out.1) H1.out.2.1 (by omega) hS)
  clear E hT hX b1 b2 wb tb hw1 hq3 hq5
  go_enter Tryz.func71, Tryz.ntmps71
  go_upto_region 1 with fail
  change Code.wp _ _ _ _ ((w.alloc _).alloc _)
  rw [← HQ.out.1]
  rw [← HQ.out.2.2, ← HQ.out.2.1]
  clear HQ
  obtain ⟨y0, y1, y2, y3, y4, y5⟩ := H1.out.2.2.2.2.cells
  obtain ⟨x0, x1⟩ := H1.out.2.2.2.1.cells
  go_wp2_with fail
  refine HI.out.mono ?_; rintro e w7 ⟨v7, rfl, t7, c7⟩
  have H7 := Lib.hid (And.intro (H1.out.1.trans c7) t7)
  clear H1 HI c7 t7 y0 y1 y2 y3 y4 y5 x0 x1
  go_wp2_with fail
  go_ret
  exact ⟨v7, rfl, H7.out.2, H7.out.1⟩
set_option maxRecDepth 100000 in
set_option maxHeartbeats 8000000 in
theorem at_two {x y : Tm} {i re im : Int} {a : Option Addr} {c : Nat} (E : Env B W tp w) (hT : TX B X v w) (hX : X.length + (compT W S (w2L W [x, y])).length ≤ 900000000) (hS : S.length ≤ 200) (hr : TRow (UX B w) w [x, y] a 0) (hc : ∀ z ∈ [x, y], CT W tp z) (hp : ¬ isP 5 S 2) (hb : W.bt S = true) :
    Calls Tryz.prog 71 #[.agg #[tp, .bool false], v, .agg #[.int .i64 5, .string ⟨S.toArray⟩, .int .i64 i, .int .u64 re, .int .u64 im, (.slice a 2 c)]] w (TE B (X ++ compT W S (w2L W [x, y])) w) := by
  have hP : ∀ w9, Calls Tryz.prog 114 #[.agg #[.int .i64 5, .string ⟨S.toArray⟩, .int .i64 i, .int .u64 re, .int .u64 im, (.slice a 2 c)]] w9 fun e w' => e = .returned (.bool (decide (isP 5 S 2))) ∧ Below w9.heap.size w9 w' := fun w9 => isPair_any 5 ⟨S.toArray⟩ i re im a 2 c w9
  have hF : ∀ w9, Cg B w w9 → Calls Tryz.prog 118 #[.agg #[tp, .bool false], .string ⟨S.toArray⟩] w9 fun e w' => e = .returned (.bool (W.pf S)) ∧ Below w9.heap.size w9 w' := fun w9 hb => front_any (E.cg hb) (S := S) (by omega)
  have hG : ∀ w9, Cg B w w9 → Calls Tryz.prog 116 #[.agg #[tp, .bool false], .string ⟨S.toArray⟩] w9 fun e w' => e = .returned (.bool (W.bt S)) ∧ Below w9.heap.size w9 w' := fun w9 hb => between_any (E.cg hb) (S := S) (by omega)
  have ha : compT W S (w2L W [x, y]) = 40 :: (wt W x ++ 32 :: (S ++ 32 :: (wt W y ++ [41]))) := by
    unfold compT; rw [w2L_len, if_neg (show ¬ isP 5 S [x, y].length from hp), if_pos ⟨rfl, hb⟩]; rfl
  have HA := Lib.hid ha
  have hd : decide (isP 5 S 2) = false := decide_eq_false hp
  rw [hd] at hP
  rw [hb] at hG
  have hX2 : X.length + S.length + (wt W x).length + (wt W y).length + 4 ≤ 900000000 := by have h := hX; rw [ha] at h; simp only [List.length_cons, List.length_append, List.length_nil] at h; omega
  have HP := Lib.hid hP
  have HFG := Lib.hid (And.intro hF hG)
  have HR := Lib.hid (And.intro hr hc)
  clear hP hF hG hr hc hp hb hd ha

  have b1 := ba w (.cells #[tp, .bool false] 101)
  have b2 := bt b1 (ba _ (.cells #[.int .i64 5, .string ⟨S.toArray⟩, .int .i64 i, .int .u64 re, .int .u64 im, (.slice a 2 c)] 27))
  have wb := (WB.new tp w).below (ba _ (.cells #[.int .i64 5, .string ⟨S.toArray⟩, .int .i64 i, .int .u64 re, .int .u64 im, (.slice a 2 c)] 27))
  have tb := TB.new 5 ⟨S.toArray⟩ i re im (.slice a 2 c) (w.alloc (.cells #[tp, .bool false] 101))
  rw [alloc_size] at tb
  obtain ⟨w1, hw1⟩ : ∃ w1, w1 = (w.alloc (.cells #[tp, .bool false] 101)).alloc (.cells #[.int .i64 5, .string ⟨S.toArray⟩, .int .i64 i, .int .u64 re, .int .u64 im, (.slice a 2 c)] 27) := ⟨_, rfl⟩
  rw [← hw1] at b2 wb tb
  obtain ⟨q3, hq3⟩ : ∃ q, q = w.heap.size := ⟨_, rfl⟩
  obtain ⟨q5, hq5⟩ : ∃ q, q = w.heap.size + 1 := ⟨_, rfl⟩
  have H1 := Lib.hid (And.intro (Cg.of_below E.hB b2) (And.intro (hT.below b2) (And.intro (E.below b2).hB (And.intro (show WB q3 tp w1 by rw [hq3]; exact wb) (show TB q5 5 ⟨S.toArray⟩ i re im (.slice a 2 c) w1 by rw [hq5]; exact tb)))))
  have HE := Lib.hid E
  have HX := Lib.hid hX
  have HQ := Lib.hid (And.intro hw1 (And.intro hq3 hq5))
  clear E hT hX b1 b2 wb tb hw1 hq3 hq5
  go_enter Tryz.func71, Tryz.ntmps71
  go_upto_region 1 with fail
  change Code.wp _ _ _ _ ((w.alloc _).alloc _)
  rw [← HQ.out.1]
  rw [← HQ.out.2.2, ← HQ.out.2.1]
  clear HQ
  have BEL := Lib.hid (Below.refl w1.heap.size w1)
  obtain ⟨x0, x1⟩ := H1.out.2.2.2.1.cells
  obtain ⟨y0, y1, y2, y3, y4, y5⟩ := H1.out.2.2.2.2.cells
  go_wp2_with fail
  refine (HP.out _).mono ?_; rintro e u0 ⟨rfl, d0⟩
  have BEL : Hid (Below w1.heap.size w1 u0) := Lib.hid (BEL.out.trans (d0.mono BEL.out.size))
  clear d0 x0 x1 y0 y1 y2 y3 y4 y5
  obtain ⟨x0, x1⟩ := (H1.out.2.2.2.1.below BEL.out).cells
  obtain ⟨y0, y1, y2, y3, y4, y5⟩ := (H1.out.2.2.2.2.below BEL.out).cells
  go_wp2_with fail
  refine (HFG.out.2 _ (H1.out.1.below HE.out.hB BEL.out)).mono ?_; rintro e u1 ⟨rfl, d1⟩
  have BEL : Hid (Below w1.heap.size w1 u1) := Lib.hid (BEL.out.trans (d1.mono BEL.out.size))
  clear d1 x0 x1 y0 y1 y2 y3 y4 y5
  obtain ⟨x0, x1⟩ := (H1.out.2.2.2.1.below BEL.out).cells
  obtain ⟨y0, y1, y2, y3, y4, y5⟩ := (H1.out.2.2.2.2.below BEL.out).cells
  go_wp2_with fail
  have HK := Lib.hid (inbetween_any (i := i) (re := re) (im := im) (c := c) (HE.out.cg (H1.out.1.below HE.out.hB BEL.out)) (H1.out.2.1.below BEL.out) hX2 ((H1.out.1.below HE.out.hB BEL.out).trow HR.out.1) (HR.out.2 x (by simp)) (HR.out.2 y (by simp)))
  refine HK.out.mono ?_; rintro e w7 ⟨v7, rfl, t7, c7⟩
  have H7 := Lib.hid (And.intro ((H1.out.1.below HE.out.hB BEL.out).trans c7) t7)
  clear H1 HK c7 t7 y0 y1 y2 y3 y4 y5 x0 x1 BEL
  go_wp2_with fail
  go_ret
  exact ⟨v7, rfl, by rw [HA.out]; exact H7.out.2, H7.out.1⟩
set_option maxRecDepth 100000 in
set_option maxHeartbeats 8000000 in
theorem at_one {x : Tm} {i re im : Int} {a : Option Addr} {c : Nat} (E : Env B W tp w) (hT : TX B X v w) (hX : X.length + (compT W S (w2L W [x])).length ≤ 900000000) (hS : S.length ≤ 200) (hr : TRow (UX B w) w [x] a 0) (hc : ∀ z ∈ [x], CT W tp z) (hb : W.pf S = true) :
    Calls Tryz.prog 71 #[.agg #[tp, .bool false], v, .agg #[.int .i64 5, .string ⟨S.toArray⟩, .int .i64 i, .int .u64 re, .int .u64 im, (.slice a 1 c)]] w (TE B (X ++ compT W S (w2L W [x])) w) := by
  have hP : ∀ w9, Calls Tryz.prog 114 #[.agg #[.int .i64 5, .string ⟨S.toArray⟩, .int .i64 i, .int .u64 re, .int .u64 im, (.slice a 1 c)]] w9 fun e w' => e = .returned (.bool (decide (isP 5 S 1))) ∧ Below w9.heap.size w9 w' := fun w9 => isPair_any 5 ⟨S.toArray⟩ i re im a 1 c w9
  have hF : ∀ w9, Cg B w w9 → Calls Tryz.prog 118 #[.agg #[tp, .bool false], .string ⟨S.toArray⟩] w9 fun e w' => e = .returned (.bool (W.pf S)) ∧ Below w9.heap.size w9 w' := fun w9 hb => front_any (E.cg hb) (S := S) (by omega)
  have hG : ∀ w9, Cg B w w9 → Calls Tryz.prog 116 #[.agg #[tp, .bool false], .string ⟨S.toArray⟩] w9 fun e w' => e = .returned (.bool (W.bt S)) ∧ Below w9.heap.size w9 w' := fun w9 hb => between_any (E.cg hb) (S := S) (by omega)
  have hp : ¬ isP 5 S 1 := fun h => by have := h.2.2; omega
  have ha : compT W S (w2L W [x]) = 40 :: (S ++ 32 :: (wt W x ++ [41])) := by
    unfold compT; rw [w2L_len, if_neg (show ¬ isP 5 S [x].length from hp), if_neg (fun h => by have := h.1; simp at this), if_pos ⟨rfl, hb⟩]; rfl
  have HA := Lib.hid ha
  have hd : decide (isP 5 S 1) = false := decide_eq_false hp
  rw [hd] at hP
  rw [hb] at hF
  have hX2 : X.length + S.length + (wt W x).length + 3 ≤ 900000000 := by have h := hX; rw [ha] at h; simp only [List.length_cons, List.length_append, List.length_nil] at h; omega
  have HP := Lib.hid hP
  have HFG := Lib.hid (And.intro hF hG)
  have HR := Lib.hid (And.intro hr hc)
  clear hP hF hG hr hc hp hb hd ha

  have b1 := ba w (.cells #[tp, .bool false] 101)
  have b2 := bt b1 (ba _ (.cells #[.int .i64 5, .string ⟨S.toArray⟩, .int .i64 i, .int .u64 re, .int .u64 im, (.slice a 1 c)] 27))
  have wb := (WB.new tp w).below (ba _ (.cells #[.int .i64 5, .string ⟨S.toArray⟩, .int .i64 i, .int .u64 re, .int .u64 im, (.slice a 1 c)] 27))
  have tb := TB.new 5 ⟨S.toArray⟩ i re im (.slice a 1 c) (w.alloc (.cells #[tp, .bool false] 101))
  rw [alloc_size] at tb
  obtain ⟨w1, hw1⟩ : ∃ w1, w1 = (w.alloc (.cells #[tp, .bool false] 101)).alloc (.cells #[.int .i64 5, .string ⟨S.toArray⟩, .int .i64 i, .int .u64 re, .int .u64 im, (.slice a 1 c)] 27) := ⟨_, rfl⟩
  rw [← hw1] at b2 wb tb
  obtain ⟨q3, hq3⟩ : ∃ q, q = w.heap.size := ⟨_, rfl⟩
  obtain ⟨q5, hq5⟩ : ∃ q, q = w.heap.size + 1 := ⟨_, rfl⟩
  have H1 := Lib.hid (And.intro (Cg.of_below E.hB b2) (And.intro (hT.below b2) (And.intro (E.below b2).hB (And.intro (show WB q3 tp w1 by rw [hq3]; exact wb) (show TB q5 5 ⟨S.toArray⟩ i re im (.slice a 1 c) w1 by rw [hq5]; exact tb)))))
  have HE := Lib.hid E
  have HX := Lib.hid hX
  have HQ := Lib.hid (And.intro hw1 (And.intro hq3 hq5))
  clear E hT hX b1 b2 wb tb hw1 hq3 hq5
  go_enter Tryz.func71, Tryz.ntmps71
  go_upto_region 1 with fail
  change Code.wp _ _ _ _ ((w.alloc _).alloc _)
  rw [← HQ.out.1]
  rw [← HQ.out.2.2, ← HQ.out.2.1]
  clear HQ
  have BEL := Lib.hid (Below.refl w1.heap.size w1)
  obtain ⟨x0, x1⟩ := H1.out.2.2.2.1.cells
  obtain ⟨y0, y1, y2, y3, y4, y5⟩ := H1.out.2.2.2.2.cells
  go_wp2_with fail
  refine (HP.out _).mono ?_; rintro e u0 ⟨rfl, d0⟩
  have BEL : Hid (Below w1.heap.size w1 u0) := Lib.hid (BEL.out.trans (d0.mono BEL.out.size))
  clear d0 x0 x1 y0 y1 y2 y3 y4 y5
  obtain ⟨x0, x1⟩ := (H1.out.2.2.2.1.below BEL.out).cells
  obtain ⟨y0, y1, y2, y3, y4, y5⟩ := (H1.out.2.2.2.2.below BEL.out).cells
  go_wp2_with fail
  refine (HFG.out.1 _ (H1.out.1.below HE.out.hB BEL.out)).mono ?_; rintro e u1 ⟨rfl, d1⟩
  have BEL : Hid (Below w1.heap.size w1 u1) := Lib.hid (BEL.out.trans (d1.mono BEL.out.size))
  clear d1 x0 x1 y0 y1 y2 y3 y4 y5
  obtain ⟨x0, x1⟩ := (H1.out.2.2.2.1.below BEL.out).cells
  obtain ⟨y0, y1, y2, y3, y4, y5⟩ := (H1.out.2.2.2.2.below BEL.out).cells
  go_wp2_with fail
  have HK := Lib.hid (infront_any (i := i) (re := re) (im := im) (c := c) (HE.out.cg (H1.out.1.below HE.out.hB BEL.out)) (H1.out.2.1.below BEL.out) hX2 ((H1.out.1.below HE.out.hB BEL.out).trow HR.out.1) (HR.out.2 x (by simp)))
  refine HK.out.mono ?_; rintro e w7 ⟨v7, rfl, t7, c7⟩
  have H7 := Lib.hid (And.intro ((H1.out.1.below HE.out.hB BEL.out).trans c7) t7)
  clear H1 HK c7 t7 y0 y1 y2 y3 y4 y5 x0 x1 BEL
  go_wp2_with fail
  go_ret
  exact ⟨v7, rfl, by rw [HA.out]; exact H7.out.2, H7.out.1⟩
set_option maxRecDepth 100000 in
set_option maxHeartbeats 8000000 in
theorem at_two_no {l : List Tm} {i re im : Int} {a : Option Addr} {c : Nat} (E : Env B W tp w) (hT : TX B X v w) (hX : X.length + (compT W S (w2L W l)).length ≤ 900000000) (hS : S.length ≤ 200) (hl : l.length ≤ 100000) (hr : TRow (UX B w) w l a 0) (hc : ∀ z ∈ l, CT W tp z) (hp : ¬ isP 5 S l.length) (h2 : l.length = 2) (hb : W.bt S = false) :
    Calls Tryz.prog 71 #[.agg #[tp, .bool false], v, .agg #[.int .i64 5, .string ⟨S.toArray⟩, .int .i64 i, .int .u64 re, .int .u64 im, (.slice a l.length c)]] w (TE B (X ++ compT W S (w2L W l)) w) := by
  have hP : ∀ w9, Calls Tryz.prog 114 #[.agg #[.int .i64 5, .string ⟨S.toArray⟩, .int .i64 i, .int .u64 re, .int .u64 im, (.slice a l.length c)]] w9 fun e w' => e = .returned (.bool (decide (isP 5 S l.length))) ∧ Below w9.heap.size w9 w' := fun w9 => isPair_any 5 ⟨S.toArray⟩ i re im a l.length c w9
  have hF : ∀ w9, Cg B w w9 → Calls Tryz.prog 118 #[.agg #[tp, .bool false], .string ⟨S.toArray⟩] w9 fun e w' => e = .returned (.bool (W.pf S)) ∧ Below w9.heap.size w9 w' := fun w9 hb => front_any (E.cg hb) (S := S) (by omega)
  have hG : ∀ w9, Cg B w w9 → Calls Tryz.prog 116 #[.agg #[tp, .bool false], .string ⟨S.toArray⟩] w9 fun e w' => e = .returned (.bool (W.bt S)) ∧ Below w9.heap.size w9 w' := fun w9 hb => between_any (E.cg hb) (S := S) (by omega)
  have ha : compT W S (w2L W l) = fnm S ++ 40 :: (rowT (l.map (wt W)) ++ [41]) := by
    unfold compT; rw [w2L_len, if_neg hp, if_neg (fun h => by rw [hb] at h; cases h.2), if_neg (fun h => by omega), w2L_fst]
  have HA := Lib.hid ha
  have hd : decide (isP 5 S l.length) = false := decide_eq_false hp
  rw [hd] at hP
  rw [hb] at hG
  have q2 : ((l.length : Int) == 2) = true := beq_iff_eq.2 (by omega)
  have q1 : ((l.length : Int) == 1) = false := beq_eq_false_iff_ne.2 (by omega)
  have hX2 : X.length + (fnm S).length + (rowT (l.map (wt W))).length + 2 ≤ 900000000 := by have h := hX; rw [ha] at h; simp only [List.length_cons, List.length_append, List.length_nil] at h; omega
  have HP := Lib.hid hP
  have HFG := Lib.hid (And.intro hF hG)
  have HR := Lib.hid (And.intro hr hc)
  clear hP hF hG hr hc hp hd ha hb h2

  have b1 := ba w (.cells #[tp, .bool false] 101)
  have b2 := bt b1 (ba _ (.cells #[.int .i64 5, .string ⟨S.toArray⟩, .int .i64 i, .int .u64 re, .int .u64 im, (.slice a l.length c)] 27))
  have wb := (WB.new tp w).below (ba _ (.cells #[.int .i64 5, .string ⟨S.toArray⟩, .int .i64 i, .int .u64 re, .int .u64 im, (.slice a l.length c)] 27))
  have tb := TB.new 5 ⟨S.toArray⟩ i re im (.slice a l.length c) (w.alloc (.cells #[tp, .bool false] 101))
  rw [alloc_size] at tb
  obtain ⟨w1, hw1⟩ : ∃ w1, w1 = (w.alloc (.cells #[tp, .bool false] 101)).alloc (.cells #[.int .i64 5, .string ⟨S.toArray⟩, .int .i64 i, .int .u64 re, .int .u64 im, (.slice a l.length c)] 27) := ⟨_, rfl⟩
  rw [← hw1] at b2 wb tb
  obtain ⟨q3, hq3⟩ : ∃ q, q = w.heap.size := ⟨_, rfl⟩
  obtain ⟨q5, hq5⟩ : ∃ q, q = w.heap.size + 1 := ⟨_, rfl⟩
  have H1 := Lib.hid (And.intro (Cg.of_below E.hB b2) (And.intro (hT.below b2) (And.intro (E.below b2).hB (And.intro (show WB q3 tp w1 by rw [hq3]; exact wb) (show TB q5 5 ⟨S.toArray⟩ i re im (.slice a l.length c) w1 by rw [hq5]; exact tb)))))
  have HE := Lib.hid E
  have HX := Lib.hid hX
  have HQ := Lib.hid (And.intro hw1 (And.intro hq3 hq5))
  clear E hT hX b1 b2 wb tb hw1 hq3 hq5
  go_enter Tryz.func71, Tryz.ntmps71
  go_upto_region 1 with fail
  change Code.wp _ _ _ _ ((w.alloc _).alloc _)
  rw [← HQ.out.1]
  rw [← HQ.out.2.2, ← HQ.out.2.1]
  clear HQ
  have BEL := Lib.hid (Below.refl w1.heap.size w1)
  obtain ⟨x0, x1⟩ := H1.out.2.2.2.1.cells
  obtain ⟨y0, y1, y2, y3, y4, y5⟩ := H1.out.2.2.2.2.cells
  go_wp2_with fail
  refine (HP.out _).mono ?_; rintro e u0 ⟨rfl, d0⟩
  have BEL : Hid (Below w1.heap.size w1 u0) := Lib.hid (BEL.out.trans (d0.mono BEL.out.size))
  clear d0 x0 x1 y0 y1 y2 y3 y4 y5
  obtain ⟨x0, x1⟩ := (H1.out.2.2.2.1.below BEL.out).cells
  obtain ⟨y0, y1, y2, y3, y4, y5⟩ := (H1.out.2.2.2.2.below BEL.out).cells
  go_wp2_with fail
  refine (HFG.out.2 _ (H1.out.1.below HE.out.hB BEL.out)).mono ?_; rintro e u1 ⟨rfl, d1⟩
  have BEL : Hid (Below w1.heap.size w1 u1) := Lib.hid (BEL.out.trans (d1.mono BEL.out.size))
  clear d1 x0 x1 y0 y1 y2 y3 y4 y5
  obtain ⟨x0, x1⟩ := (H1.out.2.2.2.1.below BEL.out).cells
  obtain ⟨y0, y1, y2, y3, y4, y5⟩ := (H1.out.2.2.2.2.below BEL.out).cells
  go_wp2_with fail
  have HK := Lib.hid (compound_any (i := i) (re := re) (im := im) (c := c) (HE.out.cg (H1.out.1.below HE.out.hB BEL.out)) (H1.out.2.1.below BEL.out) hX2 (by omega) hl ((H1.out.1.below HE.out.hB BEL.out).trow HR.out.1) HR.out.2)
  refine HK.out.mono ?_; rintro e w7 ⟨v7, rfl, t7, c7⟩
  have H7 := Lib.hid (And.intro ((H1.out.1.below HE.out.hB BEL.out).trans c7) t7)
  clear H1 HK c7 t7 y0 y1 y2 y3 y4 y5 x0 x1 BEL
  go_wp2_with fail
  go_ret
  exact ⟨v7, rfl, by rw [HA.out]; exact H7.out.2, H7.out.1⟩
set_option maxRecDepth 100000 in
set_option maxHeartbeats 8000000 in
theorem at_one_no {l : List Tm} {i re im : Int} {a : Option Addr} {c : Nat} (E : Env B W tp w) (hT : TX B X v w) (hX : X.length + (compT W S (w2L W l)).length ≤ 900000000) (hS : S.length ≤ 200) (hl : l.length ≤ 100000) (hr : TRow (UX B w) w l a 0) (hc : ∀ z ∈ l, CT W tp z) (hp : ¬ isP 5 S l.length) (h2 : l.length = 1) (hb : W.pf S = false) :
    Calls Tryz.prog 71 #[.agg #[tp, .bool false], v, .agg #[.int .i64 5, .string ⟨S.toArray⟩, .int .i64 i, .int .u64 re, .int .u64 im, (.slice a l.length c)]] w (TE B (X ++ compT W S (w2L W l)) w) := by
  have hP : ∀ w9, Calls Tryz.prog 114 #[.agg #[.int .i64 5, .string ⟨S.toArray⟩, .int .i64 i, .int .u64 re, .int .u64 im, (.slice a l.length c)]] w9 fun e w' => e = .returned (.bool (decide (isP 5 S l.length))) ∧ Below w9.heap.size w9 w' := fun w9 => isPair_any 5 ⟨S.toArray⟩ i re im a l.length c w9
  have hF : ∀ w9, Cg B w w9 → Calls Tryz.prog 118 #[.agg #[tp, .bool false], .string ⟨S.toArray⟩] w9 fun e w' => e = .returned (.bool (W.pf S)) ∧ Below w9.heap.size w9 w' := fun w9 hb => front_any (E.cg hb) (S := S) (by omega)
  have hG : ∀ w9, Cg B w w9 → Calls Tryz.prog 116 #[.agg #[tp, .bool false], .string ⟨S.toArray⟩] w9 fun e w' => e = .returned (.bool (W.bt S)) ∧ Below w9.heap.size w9 w' := fun w9 hb => between_any (E.cg hb) (S := S) (by omega)
  have ha : compT W S (w2L W l) = fnm S ++ 40 :: (rowT (l.map (wt W)) ++ [41]) := by
    unfold compT; rw [w2L_len, if_neg hp, if_neg (fun h => by omega), if_neg (fun h => by rw [hb] at h; cases h.2), w2L_fst]
  have HA := Lib.hid ha
  have hd : decide (isP 5 S l.length) = false := decide_eq_false hp
  rw [hd] at hP
  rw [hb] at hF
  have q2 : ((l.length : Int) == 2) = false := beq_eq_false_iff_ne.2 (by omega)
  have q1 : ((l.length : Int) == 1) = true := beq_iff_eq.2 (by omega)
  have hX2 : X.length + (fnm S).length + (rowT (l.map (wt W))).length + 2 ≤ 900000000 := by have h := hX; rw [ha] at h; simp only [List.length_cons, List.length_append, List.length_nil] at h; omega
  have HP := Lib.hid hP
  have HFG := Lib.hid (And.intro hF hG)
  have HR := Lib.hid (And.intro hr hc)
  clear hP hF hG hr hc hp hd ha hb h2

  have b1 := ba w (.cells #[tp, .bool false] 101)
  have b2 := bt b1 (ba _ (.cells #[.int .i64 5, .string ⟨S.toArray⟩, .int .i64 i, .int .u64 re, .int .u64 im, (.slice a l.length c)] 27))
  have wb := (WB.new tp w).below (ba _ (.cells #[.int .i64 5, .string ⟨S.toArray⟩, .int .i64 i, .int .u64 re, .int .u64 im, (.slice a l.length c)] 27))
  have tb := TB.new 5 ⟨S.toArray⟩ i re im (.slice a l.length c) (w.alloc (.cells #[tp, .bool false] 101))
  rw [alloc_size] at tb
  obtain ⟨w1, hw1⟩ : ∃ w1, w1 = (w.alloc (.cells #[tp, .bool false] 101)).alloc (.cells #[.int .i64 5, .string ⟨S.toArray⟩, .int .i64 i, .int .u64 re, .int .u64 im, (.slice a l.length c)] 27) := ⟨_, rfl⟩
  rw [← hw1] at b2 wb tb
  obtain ⟨q3, hq3⟩ : ∃ q, q = w.heap.size := ⟨_, rfl⟩
  obtain ⟨q5, hq5⟩ : ∃ q, q = w.heap.size + 1 := ⟨_, rfl⟩
  have H1 := Lib.hid (And.intro (Cg.of_below E.hB b2) (And.intro (hT.below b2) (And.intro (E.below b2).hB (And.intro (show WB q3 tp w1 by rw [hq3]; exact wb) (show TB q5 5 ⟨S.toArray⟩ i re im (.slice a l.length c) w1 by rw [hq5]; exact tb)))))
  have HE := Lib.hid E
  have HX := Lib.hid hX
  have HQ := Lib.hid (And.intro hw1 (And.intro hq3 hq5))
  clear E hT hX b1 b2 wb tb hw1 hq3 hq5
  go_enter Tryz.func71, Tryz.ntmps71
  go_upto_region 1 with fail
  change Code.wp _ _ _ _ ((w.alloc _).alloc _)
  rw [← HQ.out.1]
  rw [← HQ.out.2.2, ← HQ.out.2.1]
  clear HQ
  have BEL := Lib.hid (Below.refl w1.heap.size w1)
  obtain ⟨x0, x1⟩ := H1.out.2.2.2.1.cells
  obtain ⟨y0, y1, y2, y3, y4, y5⟩ := H1.out.2.2.2.2.cells
  go_wp2_with fail
  refine (HP.out _).mono ?_; rintro e u0 ⟨rfl, d0⟩
  have BEL : Hid (Below w1.heap.size w1 u0) := Lib.hid (BEL.out.trans (d0.mono BEL.out.size))
  clear d0 x0 x1 y0 y1 y2 y3 y4 y5
  obtain ⟨x0, x1⟩ := (H1.out.2.2.2.1.below BEL.out).cells
  obtain ⟨y0, y1, y2, y3, y4, y5⟩ := (H1.out.2.2.2.2.below BEL.out).cells
  go_wp2_with fail
  refine (HFG.out.1 _ (H1.out.1.below HE.out.hB BEL.out)).mono ?_; rintro e u1 ⟨rfl, d1⟩
  have BEL : Hid (Below w1.heap.size w1 u1) := Lib.hid (BEL.out.trans (d1.mono BEL.out.size))
  clear d1 x0 x1 y0 y1 y2 y3 y4 y5
  obtain ⟨x0, x1⟩ := (H1.out.2.2.2.1.below BEL.out).cells
  obtain ⟨y0, y1, y2, y3, y4, y5⟩ := (H1.out.2.2.2.2.below BEL.out).cells
  go_wp2_with fail
  have HK := Lib.hid (compound_any (i := i) (re := re) (im := im) (c := c) (HE.out.cg (H1.out.1.below HE.out.hB BEL.out)) (H1.out.2.1.below BEL.out) hX2 (by omega) hl ((H1.out.1.below HE.out.hB BEL.out).trow HR.out.1) HR.out.2)
  refine HK.out.mono ?_; rintro e w7 ⟨v7, rfl, t7, c7⟩
  have H7 := Lib.hid (And.intro ((H1.out.1.below HE.out.hB BEL.out).trans c7) t7)
  clear H1 HK c7 t7 y0 y1 y2 y3 y4 y5 x0 x1 BEL
  go_wp2_with fail
  go_ret
  exact ⟨v7, rfl, by rw [HA.out]; exact H7.out.2, H7.out.1⟩
set_option maxRecDepth 100000 in
set_option maxHeartbeats 8000000 in
theorem at_more {l : List Tm} {i re im : Int} {a : Option Addr} {c : Nat} (E : Env B W tp w) (hT : TX B X v w) (hX : X.length + (compT W S (w2L W l)).length ≤ 900000000) (hS : S.length ≤ 200) (hl : l.length ≤ 100000) (hr : TRow (UX B w) w l a 0) (hc : ∀ z ∈ l, CT W tp z) (hp : ¬ isP 5 S l.length) (h2 : l.length ≠ 2) (hb : l.length ≠ 1) :
    Calls Tryz.prog 71 #[.agg #[tp, .bool false], v, .agg #[.int .i64 5, .string ⟨S.toArray⟩, .int .i64 i, .int .u64 re, .int .u64 im, (.slice a l.length c)]] w (TE B (X ++ compT W S (w2L W l)) w) := by
  have hP : ∀ w9, Calls Tryz.prog 114 #[.agg #[.int .i64 5, .string ⟨S.toArray⟩, .int .i64 i, .int .u64 re, .int .u64 im, (.slice a l.length c)]] w9 fun e w' => e = .returned (.bool (decide (isP 5 S l.length))) ∧ Below w9.heap.size w9 w' := fun w9 => isPair_any 5 ⟨S.toArray⟩ i re im a l.length c w9
  have hF : ∀ w9, Cg B w w9 → Calls Tryz.prog 118 #[.agg #[tp, .bool false], .string ⟨S.toArray⟩] w9 fun e w' => e = .returned (.bool (W.pf S)) ∧ Below w9.heap.size w9 w' := fun w9 hb => front_any (E.cg hb) (S := S) (by omega)
  have hG : ∀ w9, Cg B w w9 → Calls Tryz.prog 116 #[.agg #[tp, .bool false], .string ⟨S.toArray⟩] w9 fun e w' => e = .returned (.bool (W.bt S)) ∧ Below w9.heap.size w9 w' := fun w9 hb => between_any (E.cg hb) (S := S) (by omega)
  have ha : compT W S (w2L W l) = fnm S ++ 40 :: (rowT (l.map (wt W)) ++ [41]) := by
    unfold compT; rw [w2L_len, if_neg hp, if_neg (fun h => by omega), if_neg (fun h => by omega), w2L_fst]
  have HA := Lib.hid ha
  have hd : decide (isP 5 S l.length) = false := decide_eq_false hp
  rw [hd] at hP
  have q2 : ((l.length : Int) == 2) = false := beq_eq_false_iff_ne.2 (by omega)
  have q1 : ((l.length : Int) == 1) = false := beq_eq_false_iff_ne.2 (by omega)
  have hX2 : X.length + (fnm S).length + (rowT (l.map (wt W))).length + 2 ≤ 900000000 := by have h := hX; rw [ha] at h; simp only [List.length_cons, List.length_append, List.length_nil] at h; omega
  have HP := Lib.hid hP
  have HFG := Lib.hid (And.intro hF hG)
  have HR := Lib.hid (And.intro hr hc)
  clear hP hF hG hr hc hp hd ha hb h2

  have b1 := ba w (.cells #[tp, .bool false] 101)
  have b2 := bt b1 (ba _ (.cells #[.int .i64 5, .string ⟨S.toArray⟩, .int .i64 i, .int .u64 re, .int .u64 im, (.slice a l.length c)] 27))
  have wb := (WB.new tp w).below (ba _ (.cells #[.int .i64 5, .string ⟨S.toArray⟩, .int .i64 i, .int .u64 re, .int .u64 im, (.slice a l.length c)] 27))
  have tb := TB.new 5 ⟨S.toArray⟩ i re im (.slice a l.length c) (w.alloc (.cells #[tp, .bool false] 101))
  rw [alloc_size] at tb
  obtain ⟨w1, hw1⟩ : ∃ w1, w1 = (w.alloc (.cells #[tp, .bool false] 101)).alloc (.cells #[.int .i64 5, .string ⟨S.toArray⟩, .int .i64 i, .int .u64 re, .int .u64 im, (.slice a l.length c)] 27) := ⟨_, rfl⟩
  rw [← hw1] at b2 wb tb
  obtain ⟨q3, hq3⟩ : ∃ q, q = w.heap.size := ⟨_, rfl⟩
  obtain ⟨q5, hq5⟩ : ∃ q, q = w.heap.size + 1 := ⟨_, rfl⟩
  have H1 := Lib.hid (And.intro (Cg.of_below E.hB b2) (And.intro (hT.below b2) (And.intro (E.below b2).hB (And.intro (show WB q3 tp w1 by rw [hq3]; exact wb) (show TB q5 5 ⟨S.toArray⟩ i re im (.slice a l.length c) w1 by rw [hq5]; exact tb)))))
  have HE := Lib.hid E
  have HX := Lib.hid hX
  have HQ := Lib.hid (And.intro hw1 (And.intro hq3 hq5))
  clear E hT hX b1 b2 wb tb hw1 hq3 hq5
  go_enter Tryz.func71, Tryz.ntmps71
  go_upto_region 1 with fail
  change Code.wp _ _ _ _ ((w.alloc _).alloc _)
  rw [← HQ.out.1]
  rw [← HQ.out.2.2, ← HQ.out.2.1]
  clear HQ
  have BEL := Lib.hid (Below.refl w1.heap.size w1)
  obtain ⟨x0, x1⟩ := H1.out.2.2.2.1.cells
  obtain ⟨y0, y1, y2, y3, y4, y5⟩ := H1.out.2.2.2.2.cells
  go_wp2_with fail
  refine (HP.out _).mono ?_; rintro e u0 ⟨rfl, d0⟩
  have BEL : Hid (Below w1.heap.size w1 u0) := Lib.hid (BEL.out.trans (d0.mono BEL.out.size))
  clear d0 x0 x1 y0 y1 y2 y3 y4 y5
  obtain ⟨x0, x1⟩ := (H1.out.2.2.2.1.below BEL.out).cells
  obtain ⟨y0, y1, y2, y3, y4, y5⟩ := (H1.out.2.2.2.2.below BEL.out).cells
  go_wp2_with fail
  have HK := Lib.hid (compound_any (i := i) (re := re) (im := im) (c := c) (HE.out.cg (H1.out.1.below HE.out.hB BEL.out)) (H1.out.2.1.below BEL.out) hX2 (by omega) hl ((H1.out.1.below HE.out.hB BEL.out).trow HR.out.1) HR.out.2)
  refine HK.out.mono ?_; rintro e w7 ⟨v7, rfl, t7, c7⟩
  have H7 := Lib.hid (And.intro ((H1.out.1.below HE.out.hB BEL.out).trans c7) t7)
  clear H1 HK c7 t7 y0 y1 y2 y3 y4 y5 x0 x1 BEL
  go_wp2_with fail
  go_ret
  exact ⟨v7, rfl, by rw [HA.out]; exact H7.out.2, H7.out.1⟩
set_option maxRecDepth 100000 in
set_option maxHeartbeats 8000000 in
theorem at_pair {x y : Tm} {i re im : Int} {a : Option Addr} {c : Nat} (E : Env B W tp w) (hT : TX B X v w) (hX : X.length + (wt W (.mk 5 ⟨S.toArray⟩ i re im [x, y])).length ≤ 900000000) (hs : sound (.mk 5 ⟨S.toArray⟩ i re im [x, y]) = true) (hsz : size (.mk 5 ⟨S.toArray⟩ i re im [x, y]) ≤ 100000)
    (hl : Lies (UX B w) w (.mk 5 ⟨S.toArray⟩ i re im [x, y]) (.agg #[.int .i64 5, .string ⟨S.toArray⟩, .int .i64 i, .int .u64 re, .int .u64 im, .slice a 2 c])) (hc : ∀ x', size x' < size (.mk 5 ⟨S.toArray⟩ i re im [x, y]) → sound x' = true → CT W tp x') (hp : isP 5 S 2) :
    Calls Tryz.prog 71 #[.agg #[tp, .bool false], v, .agg #[.int .i64 5, .string ⟨S.toArray⟩, .int .i64 i, .int .u64 re, .int .u64 im, .slice a 2 c]] w (TE B (X ++ wt W (.mk 5 ⟨S.toArray⟩ i re im [x, y])) w) := by
  have hP : ∀ w9, Calls Tryz.prog 114 #[.agg #[.int .i64 5, .string ⟨S.toArray⟩, .int .i64 i, .int .u64 re, .int .u64 im, .slice a 2 c]] w9 fun e w' => e = .returned (.bool (decide (isP 5 S 2))) ∧ Below w9.heap.size w9 w' := fun w9 => isPair_any 5 ⟨S.toArray⟩ i re im a 2 c w9
  have hd : decide (isP 5 S 2) = true := decide_eq_true hp
  rw [hd] at hP
  have hL : ∀ w9 v9, Cg B w w9 → TX B X v9 w9 → _ := fun w9 v9 hb ht => list_any (n := ⟨S.toArray⟩) (E.cg hb) ht hX hp.2.1 hs hsz (hb.lies hl) hc
  have HP := Lib.hid hP
  have HR := Lib.hid hL
  clear hP hs hsz hl hc hp hd hL
  have b1 := ba w (.cells #[tp, .bool false] 101)
  have b2 := bt b1 (ba _ (.cells #[.int .i64 5, .string ⟨S.toArray⟩, .int .i64 i, .int .u64 re, .int .u64 im, (.slice a 2 c)] 27))
  have wb := (WB.new tp w).below (ba _ (.cells #[.int .i64 5, .string ⟨S.toArray⟩, .int .i64 i, .int .u64 re, .int .u64 im, (.slice a 2 c)] 27))
  have tb := TB.new 5 ⟨S.toArray⟩ i re im (.slice a 2 c) (w.alloc (.cells #[tp, .bool false] 101))
  rw [alloc_size] at tb
  obtain ⟨w1, hw1⟩ : ∃ w1, w1 = (w.alloc (.cells #[tp, .bool false] 101)).alloc (.cells #[.int .i64 5, .string ⟨S.toArray⟩, .int .i64 i, .int .u64 re, .int .u64 im, (.slice a 2 c)] 27) := ⟨_, rfl⟩
  rw [← hw1] at b2 wb tb
  obtain ⟨q3, hq3⟩ : ∃ q, q = w.heap.size := ⟨_, rfl⟩
  obtain ⟨q5, hq5⟩ : ∃ q, q = w.heap.size + 1 := ⟨_, rfl⟩
  have H1 := Lib.hid (And.intro (Cg.of_below E.hB b2) (And.intro (hT.below b2) (And.intro (E.below b2).hB (And.intro (show WB q3 tp w1 by rw [hq3]; exact wb) (show TB q5 5 ⟨S.toArray⟩ i re im (.slice a 2 c) w1 by rw [hq5]; exact tb)))))
  have HE := Lib.hid E
  have HX := Lib.hid hX
  have HQ := Lib.hid (And.intro hw1 (And.intro hq3 hq5))
  clear E hT hX b1 b2 wb tb hw1 hq3 hq5
  go_enter Tryz.func71, Tryz.ntmps71
  go_upto_region 1 with fail
  change Code.wp _ _ _ _ ((w.alloc _).alloc _)
  rw [← HQ.out.1]
  rw [← HQ.out.2.2, ← HQ.out.2.1]
  clear HQ
  have BEL := Lib.hid (Below.refl w1.heap.size w1)
  obtain ⟨x0, x1⟩ := H1.out.2.2.2.1.cells
  obtain ⟨y0, y1, y2, y3, y4, y5⟩ := H1.out.2.2.2.2.cells
  go_wp2_with fail
  refine (HP.out _).mono ?_; rintro e u0 ⟨rfl, d0⟩
  have BEL : Hid (Below w1.heap.size w1 u0) := Lib.hid (BEL.out.trans (d0.mono BEL.out.size))
  clear d0 x0 x1 y0 y1 y2 y3 y4 y5
  obtain ⟨x0, x1⟩ := (H1.out.2.2.2.1.below BEL.out).cells
  obtain ⟨y0, y1, y2, y3, y4, y5⟩ := (H1.out.2.2.2.2.below BEL.out).cells
  go_wp2_with fail
  have HK := Lib.hid (HR.out _ _ (H1.out.1.below HE.out.hB BEL.out) (H1.out.2.1.below BEL.out))
  refine HK.out.mono ?_; rintro e w7 ⟨v7, rfl, t7, c7⟩
  have H7 := Lib.hid (And.intro ((H1.out.1.below HE.out.hB BEL.out).trans c7) t7)
  clear H1 HK c7 t7 y0 y1 y2 y3 y4 y5 x0 x1 BEL
  go_wp2_with fail
  go_ret
  exact ⟨v7, rfl, H7.out.2, H7.out.1⟩
theorem size_mem {x : Tm} : ∀ {l : List Tm}, x ∈ l → size x ≤ sizeL l
  | y :: l, h => by
    rw [sizeL]
    rcases List.mem_cons.1 h with rfl | h
    · omega
    · have := size_mem h; omega
/-- appendTerm writes every term -/
theorem ct_all (W : Ways) (tp : Value) : ∀ (m : Nat) (t : Tm), size t ≤ m → m ≤ 100000 → sound t = true → CT W tp t := by
  intro m
  induction m with
  | zero => intro t h; obtain ⟨_, _, _, _, _, _⟩ := t; rw [size] at h; omega
  | succ m ih =>
    intro t hm hm2 hs w B X v tv E hT hX hl
    have hcs : ∀ x, size x < size t → sound x = true → CT W tp x := fun x hx hsx => ih x (by omega) (by omega) hsx
    obtain ⟨k, n, i, re, im, l⟩ := t
    obtain ⟨S, rfl⟩ : ∃ S : LB, n = ⟨S.toArray⟩ := ⟨bl n, rfl⟩
    have hl0 := hl
    rw [Lies] at hl
    obtain ⟨a, c, rfl, hf, hr⟩ := hl
    rw [wt_mk] at hX ⊢
    rw [show bl ⟨S.toArray⟩ = S from rfl] at hX ⊢
    have hk := sound_kind hs
    rw [show bl ⟨S.toArray⟩ = S from rfl] at hk
    rcases hk with ⟨rfl, h1⟩ | ⟨rfl, h1⟩ | rfl | rfl | ⟨rfl, h1, h2⟩
    · exact at_var E hT hX ⟨hf.i0, hf.i1⟩
    · exact at_atom E hT hX (by omega)
    · exact at_int E hT hX ⟨hf.i0, hf.i1⟩
    · exact at_cpx E hT hX ⟨hf.r0, by have := hf.r1; omega⟩ ⟨hf.m0, by have := hf.m1; omega⟩
    · have hsz : size (.mk 5 ⟨S.toArray⟩ i re im l) = 1 + sizeL l := by rw [size]; simp
      have hlx : ∀ x ∈ l, size x ≤ sizeL l := fun x hx => size_mem hx
      have hc : ∀ x ∈ l, CT W tp x := fun x hx => hcs x (by have := hlx x hx; omega) (sound_args hs rfl x hx)
      have hll : l.length ≤ 100000 := by have := (chk_args (sound_chk hs)).2; omega
      have hX' : X.length + (compT W S (w2L W l)).length ≤ 900000000 := hX
      show Calls Tryz.prog 71 _ w (TE B (X ++ compT W S (w2L W l)) w)
      by_cases hp : isP 5 S l.length
      · obtain ⟨x, y, rfl⟩ := two_of hp.2.2
        exact at_pair E hT hX hs (by omega) hl0 hcs hp
      · by_cases e2 : l.length = 2
        · cases hb : W.bt S with
          | true =>
            obtain ⟨x, y, rfl⟩ := two_of e2
            exact at_two E hT hX' h1 hr hc hp hb
          | false => exact at_two_no E hT hX' h1 hll hr hc hp e2 hb
        · by_cases e1 : l.length = 1
          · cases hb : W.pf S with
            | true =>
              obtain ⟨x, rfl⟩ := one_of e1
              exact at_one E hT hX' h1 hr hc hb
            | false => exact at_one_no E hT hX' h1 hll hr hc hp e1 hb
          · exact at_more E hT hX' h1 hll hr hc hp e2 e1
end
end Go.Proofs.YtedbcmagjbgbjaaGreatDoor.wr
namespace Go.Proofs.YtedbcmagjbgbjaaGreatDoor.wr
open Go.ChangeShapes Go.WideShapes Go.ChangeAt Go.RowKit
open Go.Proofs.YtedbcmagjbgbjaaGreatDoor.kp Go.Proofs.YtedbcmagjbgbjaaGreatDoor.tm Go.Proofs.YtedbcmagjbgbjaaGreatDoor.lie Go.Proofs.YtedbcmagjbgbjaaGreatDoor.rws Go.Proofs.YtedbcmagjbgbjaaGreatDoor.tk
open Go.Proofs.YtedbcmagjbgbjaaGreatDoor.mes (may_any)
set_option linter.unusedVariables false
/-- numbers are in range where a term lies -/
theorem lies_rg {Xs : Nat → Prop} {w : World} : ∀ (t : Tm) (v : Value), Lies Xs w t v → rg t := by
  intro t
  induction t using Tm.ind with
  | h k n i re im l ih =>
    intro v h
    rw [Lies] at h
    obtain ⟨a, c, -, hf, hr⟩ := h
    rw [rg]
    have hl : ∀ (l : List Tm), (∀ x ∈ l, ∀ v, Lies Xs w x v → rg x) → ∀ j, TRow Xs w l a j → rgL l := by
      intro l
      induction l with
      | nil => intro _ _ _; rw [rgL]; trivial
      | cons t r ihr =>
        intro hx j hr
        rw [TRow] at hr
        obtain ⟨⟨b, o, v0, v1, v2, v3, v4, v5, ha, hb, hs, ht⟩, hr⟩ := hr
        rw [rgL]
        exact ⟨hx t (by simp) _ ht, ihr (fun x hx' => hx x (by simp [hx'])) _ hr⟩
    exact ⟨⟨hf.i0, hf.i1⟩, ⟨hf.r0, by have := hf.r1; omega⟩, ⟨hf.m0, by have := hf.m1; omega⟩, hl l (fun x hx => ih x hx) 0 hr⟩
theorem good_size {t : Tm} (h : good t = true) : size t ≤ 2000 := by simp only [good, Bool.and_eq_true, decide_eq_true_eq] at h; exact h.1.1
section
variable {W : Ways} {tp : Value} {w : World}
theorem at_top {t : Tm} {tv : Value} (E : Env w.heap.size W tp w) (hg : good t = true) (hl : Lies No w t tv) {w1 : World} (hb : Below w.heap.size w w1) :
    Calls Tryz.prog 71 #[.agg #[tp, .bool false], .slice none 0 0, tv] w1 (TE w.heap.size (wt W t) w1) := by
  have hs := good_size hg
  have hlen := (w2_len W t (good_sound hg) (lies_rg t tv hl)).1
  have h := ct_all W tp 2000 t hs (by omega) (good_sound hg) w1 w.heap.size [] (.slice none 0 0) tv (E.below hb) (TX.nil _ _) (by simp only [List.length_nil]; omega) ((Cg.of_below (Nat.le_refl _) hb).lies (lies_new hl))
  simpa using h
set_option maxRecDepth 100000 in
set_option maxHeartbeats 4000000 in
theorem text_any {t : Tm} {tv : Value} (E : Env w.heap.size W tp w) (hg : good t = true) (hl : Lies No w t tv) :
    Calls Tryz.prog 52 #[.agg #[tp, .bool false], tv] w fun e w' => e = .returned (.string ⟨(wt W t).toArray⟩) ∧ Below w.heap.size w w' := by
  have hm : ∀ w1, Below w.heap.size w w1 → _ := fun w1 hb => may_any t tv w1 (hl.below hb)
  rw [may_good hg] at hm
  have hat : ∀ w1, Below w.heap.size w w1 → _ := fun w1 hb => at_top E hg hl hb
  have HM := Lib.hid (And.intro hm hat)
  obtain ⟨k, n, i, re, im, l⟩ := t
  rw [Lies] at hl
  obtain ⟨a, c, rfl, hf, hr⟩ := hl
  have b1 := ba w (.cells #[tp, .bool false] 101)
  have b2 := bt b1 (ba _ (.cells #[.int .i64 k, .string n, .int .i64 i, .int .u64 re, .int .u64 im, .slice a l.length c] 27))
  have wb := (WB.new tp w).below (ba _ (.cells #[.int .i64 k, .string n, .int .i64 i, .int .u64 re, .int .u64 im, .slice a l.length c] 27))
  have tb := TB.new k n i re im (.slice a l.length c) (w.alloc (.cells #[tp, .bool false] 101))
  rw [alloc_size] at tb
  have HB := Lib.hid (And.intro b2 (And.intro wb tb))
  obtain ⟨y0, y1, y2, y3, y4, y5⟩ := tb.cells
  clear E hg hm hat hf hr b1 b2 wb tb
  go_enter Tryz.func52, Tryz.ntmps52
  go_wp2_with fail
  refine (HM.out.1 _ HB.out.1).mono ?_; rintro e w3 ⟨rfl, b3⟩
  have H3 := Lib.hid (And.intro (HB.out.1.trans (b3.mono HB.out.1.size)) (And.intro (HB.out.2.1.below b3) (HB.out.2.2.below b3)))
  clear b3 HB y0 y1 y2 y3 y4 y5
  obtain ⟨x0, x1⟩ := H3.out.2.1.cells
  obtain ⟨y0, y1, y2, y3, y4, y5⟩ := H3.out.2.2.cells
  go_wp2_with fail
  refine (HM.out.2 _ H3.out.1).mono ?_; rintro e w4 ⟨v4, rfl, t4, c4⟩
  have hcv := t4.conv
  have H4 := Lib.hid (H3.out.1.trans (c4.bel))
  clear t4 c4 H3 HM x0 x1 y0 y1 y2 y3 y4 y5
  go_wp2_with fail
  go_ret
  exact ⟨rfl, H4.out⟩
set_option maxRecDepth 100000 in
theorem canon_any {t : Tm} {tv : Value} (hv : VR w.heap.size w) (ht : Lib.TabBelow Tryz.prog w.heap.size w "internal/strconv.uint64pow10" .u64 Lib.pow10Tab) (hg : good t = true) (hl : Lies No w t tv) :
    Calls Tryz.prog 29 #[tv] w fun e w' => e = .returned (.string ⟨(wt W0 t).toArray⟩) ∧ Below w.heap.size w w' := by
  have E : Env w.heap.size W0 (.pointer none) w := ⟨Nat.le_refl _, Or.inl ⟨rfl, rfl⟩, hv, ht⟩
  have htx : ∀ w1, Below w.heap.size w w1 → Calls Tryz.prog 52 #[.agg #[.pointer none, .bool false], tv] w1 fun e w' => e = .returned (.string ⟨(wt W0 t).toArray⟩) ∧ Below w1.heap.size w1 w' := fun w1 hb =>
    text_any ⟨Nat.le_refl _, Or.inl ⟨rfl, rfl⟩, vr_more (E.below hb).vr hb.size, Lib.tabBelow_of_tabIs ((E.below hb).tb.here)⟩ hg (hl.below hb)
  have HT := Lib.hid htx
  obtain ⟨k, n, i, re, im, l⟩ := t
  rw [Lies] at hl
  obtain ⟨a, c, rfl, hf, hr⟩ := hl
  clear E hg htx hf hr hv ht
  go_enter Tryz.func29, Tryz.ntmps29
  go_wp2_with fail
  refine (HT.out _ (ba _ _)).mono ?_; rintro e w3 ⟨rfl, b3⟩
  have hb := bt (ba _ _) b3
  clear b3 HT
  go_wp2_with fail
  go_ret
  exact ⟨rfl, hb⟩
set_option maxRecDepth 100000 in
theorem ops_any {t : Tm} {tv : Value} {o : Option Addr} (E : Env w.heap.size W (.pointer o) w) (hg : good t = true) (hl : Lies No w t tv) :
    Calls Tryz.prog 33 #[tv, .pointer o] w fun e w' => e = .returned (.string ⟨(wt W t).toArray⟩) ∧ Below w.heap.size w w' := by
  have htx : ∀ w1, Below w.heap.size w w1 → Calls Tryz.prog 52 #[.agg #[.pointer o, .bool false], tv] w1 fun e w' => e = .returned (.string ⟨(wt W t).toArray⟩) ∧ Below w1.heap.size w1 w' := fun w1 hb => by
    refine text_any ⟨Nat.le_refl _, ?_, vr_more (E.below hb).vr hb.size, Lib.tabBelow_of_tabIs ((E.below hb).tb.here)⟩ hg (hl.below hb)
    rcases (E.below hb).wr with h | ⟨p, F, tl, h1, h2, h3, h⟩
    · exact Or.inl h
    · exact Or.inr ⟨p, F, tl, h1, h2, fun k hk => Nat.lt_of_lt_of_le (h3 k hk) hb.size, h⟩
  have HT := Lib.hid htx
  obtain ⟨k, n, i, re, im, l⟩ := t
  rw [Lies] at hl
  obtain ⟨a, c, rfl, hf, hr⟩ := hl
  clear E hg htx hf hr
  go_enter Tryz.func33, Tryz.ntmps33
  go_wp2_with fail
  refine (HT.out _ (ba _ _)).mono ?_; rintro e w3 ⟨rfl, b3⟩
  have hb := bt (ba _ _) b3
  clear b3 HT
  go_wp2_with fail
  go_ret
  exact ⟨rfl, hb⟩
end
end Go.Proofs.YtedbcmagjbgbjaaGreatDoor.wr
namespace Go.Proofs.YtedbcmagjbgbjaaGreatDoor.wr
open Go.ChangeShapes Go.WideShapes Go.ChangeAt Go.RowKit
open Go.Proofs.YtedbcmagjbgbjaaGreatDoor.kp Go.Proofs.YtedbcmagjbgbjaaGreatDoor.tm Go.Proofs.YtedbcmagjbgbjaaGreatDoor.lie Go.Proofs.YtedbcmagjbgbjaaGreatDoor.tk
open Go.Proofs.YtedbcmagjbgbjaaGreatDoor.lst (lst)
open Go.Proofs.YtedbcmagjbgbjaaGreatDoor.pla (Old Gives plainR)
open Go.Proofs.YtedbcmagjbgbjaaGreatDoor.awk (rAtom_any rComp_any comp_lies atom_lies row_new)
set_option linter.unusedVariables false
/-- the operators of New -/
def WN : Ways := ⟨fun n => opa.is opa.newL ⟨n, 4, 0⟩ && plainB n, fun n => opa.is opa.newL ⟨n, 1, 0⟩ && (decide (n = COM) || plainB n)⟩
def T1 : Tm := comp ⟨#[46]⟩ [atom ⟨#[97]⟩, atom ⟨#[91, 93]⟩]
def T0 : Tm := comp ⟨#[43]⟩ [.mk 3 tm.E 1 0 0 [], comp ⟨#[102]⟩ [T1, atom ⟨#[66]⟩]]
theorem aw0 : wt W0 T0 = [43, 40, 49, 44, 102, 40, 91, 97, 93, 44, 39, 66, 39, 41, 41] := by decide +kernel
theorem aw1 : wt WN T0 = [40, 49, 32, 43, 32, 102, 40, 91, 97, 93, 44, 39, 66, 39, 41, 41] := by decide +kernel
theorem aw2 : plainR (lst [atom ⟨#[97]⟩] (atom ⟨#[91, 93]⟩)) = T1 := by rfl
theorem aw3 : good T0 = true := by rfl
theorem rInt_any (n : Int) (w : World) :
    Calls Tryz.prog 42 #[.int .i64 n] w fun e w' => e = .returned (.agg #[.int .i64 3, .string ⟨#[]⟩, .int .i64 n, .int .u64 0, .int .u64 0, .slice none 0 0]) ∧ Below w.heap.size w w' := by
  go_enter Tryz.func42, Tryz.ntmps42
  go_wp2_with fail
  exact bodyPost_ret (v := .agg #[.int .i64 3, .string ⟨#[]⟩, .int .i64 n, .int .u64 0, .int .u64 0, .slice none 0 0]) (by simp [results, Tryz.results42, go_sem]) rfl ⟨rfl, ba w _⟩
/-- two terms in a new row -/
theorem row_two {w : World} {x y : Tm} {a0 a1 a2 a3 a4 a5 c0 c1 c2 c3 c4 c5 : Value} (hx : Lies No w x (.agg #[a0, a1, a2, a3, a4, a5])) (hy : Lies No w y (.agg #[c0, c1, c2, c3, c4, c5])) :
    TRow No (w.alloc (.cells #[a0, a1, a2, a3, a4, a5, c0, c1, c2, c3, c4, c5] 27)) [x, y] (some ⟨w.heap.size, 0, none⟩) 0 := by
  refine row_new w _ _ fun m hm => ?_
  match m, hm with
  | 0, _ => exact ⟨_, _, _, _, _, _, rfl, rfl, rfl, rfl, rfl, rfl, hx⟩
  | 1, _ => exact ⟨_, _, _, _, _, _, rfl, rfl, rfl, rfl, rfl, rfl, hy⟩
  | m + 2, hm => exact absurd hm (by simp)
theorem row_one {w : World} {x : Tm} {a0 a1 a2 a3 a4 a5 : Value} (hx : Lies No w x (.agg #[a0, a1, a2, a3, a4, a5])) :
    TRow No (w.alloc (.cells #[a0, a1, a2, a3, a4, a5] 27)) [x] (some ⟨w.heap.size, 0, none⟩) 0 := by
  refine row_new w _ _ fun m hm => ?_
  match m, hm with
  | 0, _ => exact ⟨_, _, _, _, _, _, rfl, rfl, rfl, rfl, rfl, rfl, hx⟩
  | m + 1, hm => exact absurd hm (by simp)
theorem int_lies (n : Int) (hn : inR n) (w : World) : Lies No w (.mk 3 tm.E n 0 0 []) (.agg #[.int .i64 3, .string ⟨#[]⟩, .int .i64 n, .int .u64 0, .int .u64 0, .slice none 0 0]) := by
  rw [Lies]
  exact ⟨none, 0, rfl, ⟨by omega, by omega, by decide, hn.1, hn.2, by omega, by omega, by omega, by omega, by simp, by simp⟩, by rw [TRow]; trivial⟩
/-- what New's table and the variables make -/
theorem env_new {w w1 : World} {tab : Nat} {FT : Nat → Prop} (hv : VR w.heap.size w) (ht : Lib.TabBelow Tryz.prog w.heap.size w "internal/strconv.uint64pow10" .u64 Lib.pow10Tab) (hb : Below w.heap.size w w1) (hT : opb.Tb w1 tab FT opa.newL) :
    Env w1.heap.size WN (.pointer (some ⟨tab, 0, none⟩)) w1 :=
  ⟨Nat.le_refl _, Or.inr ⟨tab, FT, opa.newL, rfl, hT, hT.lt, opa.newL_inv.srt, by decide, fun n => ⟨rfl, rfl⟩⟩, hv.up hb, Lib.tabBelow_of_tabIs ((ht.on hb).here)⟩
theorem tab_up {w w1 : World} (ht : Lib.TabBelow Tryz.prog w.heap.size w "internal/strconv.uint64pow10" .u64 Lib.pow10Tab) (hb : Below w.heap.size w w1) : Lib.TabBelow Tryz.prog w1.heap.size w1 "internal/strconv.uint64pow10" .u64 Lib.pow10Tab :=
  Lib.tabBelow_of_tabIs ((ht.on hb).here)
set_option maxRecDepth 100000 in
set_option maxHeartbeats 4000000 in
theorem awake_any (w : World) (hv : VR w.heap.size w) (ht : Lib.TabBelow Tryz.prog w.heap.size w "internal/strconv.uint64pow10" .u64 Lib.pow10Tab) : Calls Tryz.prog 28 #[] w fun e w' => e = .returned (.bool true) ∧ Below w.heap.size w w' := by
  have HV := Lib.hid (And.intro hv ht)
  clear hv ht
  go_enter Tryz.func28, Tryz.ntmps28
  go_wp2_with fail
  refine (rInt_any 1 _).mono ?_; rintro e w1 ⟨rfl, b1⟩
  have B1 := Lib.hid b1
  clear b1
  go_wp2_with fail
  refine (rAtom_any ⟨#[97]⟩ _).mono ?_; rintro e w2 ⟨rfl, b2⟩
  have B2 := Lib.hid (B1.out.trans (b2.mono B1.out.size))
  clear b2 B1
  go_wp2_with fail
  refine (rAtom_any ⟨#[91, 93]⟩ _).mono ?_; rintro e w3 ⟨rfl, b3⟩
  have r3 := (row_one (atom_lies No ⟨#[97]⟩ w2 (by decide))).below b3
  have B3 := Lib.hid (And.intro (B2.out.trans ((bt (ba w2 _) b3).mono B2.out.size)) r3)
  clear b3 r3 B2
  go_wp2_with fail
  refine (rls.rlist_any [atom ⟨#[97]⟩] (atom ⟨#[91, 93]⟩) _ 1 _ w3 B3.out.2 (atom_lies No ⟨#[91, 93]⟩ w3 (by decide)) (by decide)).mono ?_
  rintro e w4 ⟨ka, na, ia, ra, ma, aa, la, ca, rfl, b4, hq⟩
  rw [aw2] at hq
  have B4 := Lib.hid (And.intro (B3.out.1.trans (b4.mono B3.out.1.size)) (show Lies No w4 T1 _ from hq.off fun _ _ h => h.elim))
  clear b4 hq B3
  go_wp2_with fail
  refine (rAtom_any ⟨#[66]⟩ _).mono ?_; rintro e w5 ⟨rfl, b5⟩
  have r5 := row_two (B4.out.2.below b5) (atom_lies No ⟨#[66]⟩ w5 (by decide))
  have B5 := Lib.hid (And.intro (B4.out.1.trans (b5.mono B4.out.1.size)) r5)
  clear b5 r5 B4
  go_wp2_with fail
  refine (rComp_any ⟨#[102]⟩ _ 2 2 _).mono ?_; rintro e w6 ⟨rfl, b6⟩
  have l6 : Lies No w6 (comp ⟨#[102]⟩ [T1, atom ⟨#[66]⟩]) _ := comp_lies (n := ⟨#[102]⟩) (c := 2) (by decide) (by simp) (by simp [maxLen]) (B5.out.2.below b6)
  have r6 := row_two (int_lies 1 ⟨by omega, by omega⟩ w6) l6
  have B6 := Lib.hid (And.intro (B5.out.1.trans ((bt (ba w5 _) b6).mono B5.out.1.size)) r6)
  clear b6 l6 r6 B5
  simp only [List.length_cons, List.length_nil, Nat.zero_add, Nat.reduceAdd] at B6
  go_wp2_with fail
  refine (rComp_any ⟨#[43]⟩ _ 2 2 _).mono ?_; rintro e w7 ⟨rfl, b7⟩
  have l7 : Lies No w7 T0 _ := comp_lies (n := ⟨#[43]⟩) (c := 2) (by decide) (by simp) (by simp [maxLen]) (B6.out.2.below b7)
  have hb7 := B6.out.1.trans ((bt (ba w6 _) b7).mono B6.out.1.size)
  have B7 := Lib.hid (And.intro hb7 l7)
  clear b7 l7 hb7 B6
  simp only [List.length_cons, List.length_nil, Nat.zero_add, Nat.reduceAdd] at B7
  go_upto_region 2 with fail
  have tb := TB.new 5 ⟨#[43]⟩ 0 0 0 (.slice (some ⟨w6.heap.size, 0, none⟩) 2 2) w7
  obtain ⟨wA, hwA⟩ : ∃ wA, wA = w7.alloc (.cells #[.int .i64 5, .string ⟨#[43]⟩, .int .i64 0, .int .u64 0, .int .u64 0, .slice (some ⟨w6.heap.size, 0, none⟩) 2 2] 27) := ⟨_, rfl⟩
  obtain ⟨q, hq⟩ : ∃ q, q = w7.heap.size := ⟨_, rfl⟩
  have hA : Below w7.heap.size w7 wA := by rw [hwA]; exact ba _ _
  rw [← hwA] at tb
  rw [← hq] at tb
  have hAw := B7.out.1.trans (hA.mono B7.out.1.size)
  have hlA := B7.out.2.below hA
  have CAN := Lib.hid (fun (w9 : World) (hb : Below wA.heap.size wA w9) => canon_any (HV.out.1.up (hAw.trans (hb.mono hAw.size))) (tab_up HV.out.2 (hAw.trans (hb.mono hAw.size))) aw3 (hlA.below hb))
  rw [aw0] at CAN
  have OPS := Lib.hid (fun (w9 : World) (tab : Nat) (FT : Nat → Prop) (hb : Below wA.heap.size wA w9) (hT : opb.Tb w9 tab FT opa.newL) => ops_any (env_new HV.out.1 HV.out.2 (hAw.trans (hb.mono hAw.size)) hT) aw3 (hlA.below hb))
  rw [aw1] at OPS
  have HA := Lib.hid (And.intro hAw tb)
  clear tb hAw hlA hA B7
  change Code.wp _ _ _ _ (w7.alloc _)
  rw [← hwA, ← hq]
  clear hwA hq
  have SC : ∀ w9, Below wA.heap.size wA w9 → (w9.cell? ⟨q, 0, none⟩ = some (.int .i64 5) ∧ w9.cell? ⟨q, 1, none⟩ = some (.string ⟨#[43]⟩) ∧ w9.cell? ⟨q, 2, none⟩ = some (.int .i64 0) ∧ w9.cell? ⟨q, 3, none⟩ = some (.int .u64 0) ∧ w9.cell? ⟨q, 4, none⟩ = some (.int .u64 0) ∧ w9.cell? ⟨q, 5, none⟩ = some (.slice (some ⟨w6.heap.size, 0, none⟩) 2 2) ∧ Below wA.heap.size wA w9) := fun w9 hb =>
    have h := (HA.out.2.below hb).cells
    ⟨h.1, h.2.1, h.2.2.1, h.2.2.2.1, h.2.2.2.2.1, h.2.2.2.2.2, hb⟩
  have hdr : ∀ w9, Below wA.heap.size wA w9 → Below wA.heap.size wA w9.drew := fun w9 hb => hb.trans ((bdr w9).mono hb.size)
  have hc0 := Below.refl wA.heap.size wA
  go_region_held3 (fun w9 => w9.cell? ⟨q, 0, none⟩ = some (.int .i64 5) ∧ w9.cell? ⟨q, 1, none⟩ = some (.string ⟨#[43]⟩) ∧ w9.cell? ⟨q, 2, none⟩ = some (.int .i64 0) ∧ w9.cell? ⟨q, 3, none⟩ = some (.int .u64 0) ∧ w9.cell? ⟨q, 4, none⟩ = some (.int .u64 0) ∧ w9.cell? ⟨q, 5, none⟩ = some (.slice (some ⟨w6.heap.size, 0, none⟩) 2 2) ∧ Below wA.heap.size wA w9)
    (first | exact SC _ (by assumption) | exact SC _ (hdr _ (by assumption)) | go_keep)
    (first
      | (go_at_call 29; refine (CAN.out _ (by first | assumption | exact hdr _ (by assumption))).mono ?_; rintro e wX ⟨rfl, bX⟩; have cX := Below.trans (a := wA) (by first | assumption | exact hdr _ (by assumption)) (Below.mono bX (Below.size (by first | assumption | exact hdr _ (by assumption)))))
      | (go_at_call 12; refine (opk.new_any _).mono ?_; rintro e wY ⟨tab, rfl, -, FT, hT, bY, -⟩; have cY := Below.trans (by first | assumption | exact hdr _ (by assumption)) (Below.mono bY (Below.size (by first | assumption | exact hdr _ (by assumption)))))
      | (go_at_call 33; refine (OPS.out _ tab FT (by first | assumption | exact hdr _ (by assumption)) (by first | assumption | exact hT.below (bdr _))).mono ?_; rintro e wZ ⟨rfl, bZ⟩; have cZ := Below.trans (by first | assumption | exact hdr _ (by assumption)) (Below.mono bZ (Below.size (by first | assumption | exact hdr _ (by assumption))))))
  have HF := Lib.hid (HA.out.1.trans (cZ.mono HA.out.1.size))
  clear SC hdr hc0 CAN OPS cX cY cZ hT bX bY bZ
  go_wp2_with fail
  go_ret
  exact ⟨rfl, HF.out⟩
end Go.Proofs.YtedbcmagjbgbjaaGreatDoor.wr
