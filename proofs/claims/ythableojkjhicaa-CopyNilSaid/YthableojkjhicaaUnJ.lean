/- awake of law 8. -/
import Derived.Test.YthableojkjhicaaUnI
import Derived.Test.YthableojkjhicaaOwn6
namespace Go.Proofs.Ythableojkjhicaa.un
open Go.ChangeShapes Go.WideShapes Go.ChangeAt Go.RowKit Go.Maps
open Go.Proofs.Ythableojkjhicaa.kp Go.Proofs.Ythableojkjhicaa.cel Go.Proofs.Ythableojkjhicaa.hp Go.Proofs.Ythableojkjhicaa.ob Go.Proofs.Ythableojkjhicaa.tm Go.Proofs.Ythableojkjhicaa.lie Go.Proofs.Ythableojkjhicaa.sl Go.Proofs.Ythableojkjhicaa.pm Go.Proofs.Ythableojkjhicaa.ppt Go.Proofs.Ythableojkjhicaa.cur Go.Proofs.Ythableojkjhicaa.awk
open Go.Proofs.Ythableojkjhicaa.rpt (putT HB frHB frV)
open Go.Proofs.Ythableojkjhicaa.atm (l0)
open Go.Proofs.Ythableojkjhicaa.pgt (getT GO frGO OT frOT SC6 nv6)
set_option linter.unusedVariables false
abbrev vc (b : Nat) : Value := .agg #[.int .i64 5, .string ⟨#[102]⟩, .int .i64 0, .int .u64 0, .int .u64 0, .slice (some ⟨b, 0, none⟩) 2 2]
/-- what was told stands in its box -/
def SU (W : World) (b : Nat) (k : Int) (nm : ByteArray) (i re im : Int) (s : Value) (wr : World) : Prop := Below W.heap.size W wr ∧ ∃ N, OX t3 b k nm i re im s wr N
section
variable {W wr w' : World} {b : Nat} {k : Int} {nm : ByteArray} {i re im : Int} {s : Value}
theorem SU.below (h : SU W b k nm i re im s wr) (hb : Below wr.heap.size wr w') : SU W b k nm i re im s w' := ⟨h.1.trans (hb.mono h.1.size), h.2.choose, frOX.below h.2.choose_spec hb⟩
theorem SU.drew (h : SU W b k nm i re im s wr) : SU W b k nm i re im s wr.drew := h.below (kp.bdr wr)
theorem SU.c (h : SU W b k nm i re im s wr) : wr.cell? ⟨b, 0, none⟩ = some (.int .i64 k) ∧ wr.cell? ⟨b, 1, none⟩ = some (.string nm) ∧ wr.cell? ⟨b, 2, none⟩ = some (.int .i64 i) ∧ wr.cell? ⟨b, 3, none⟩ = some (.int .u64 re) ∧ wr.cell? ⟨b, 4, none⟩ = some (.int .u64 im) ∧ wr.cell? ⟨b, 5, none⟩ = some s := h.2.choose_spec.six.1
theorem SU.l (h : SU W b k nm i re im s wr) : Lies No wr t3 (nv6 k nm i re im s) := h.2.choose_spec.six.2
theorem SU.bel (h : SU W b k nm i re im s wr) : Below W.heap.size W wr := h.1
/-- the other term, too -/
def SW (W : World) (b : Nat) (k : Int) (nm : ByteArray) (i re im : Int) (s : Value) (x : Nat) (wr : World) : Prop := SU W b k nm i re im s wr ∧ Lies No wr t3 (vc x)
theorem SW.drew {x : Nat} (h : SW W b k nm i re im s x wr) : SW W b k nm i re im s x wr.drew := ⟨h.1.drew, h.2.below (kp.bdr wr)⟩
theorem SW.mk {x : Nat} (h : SU W b k nm i re im s wr) (hx : x = wr.heap.size) (hb : Below (wr.heap.size + 1) (wr.alloc (R2 2 ⟨#[97]⟩ 0 2 ⟨#[98]⟩ 0)) w') : SW W b k nm i re im s x w' := by
  subst hx
  exact ⟨h.below ((kp.ba wr _).trans (hb.mono (Nat.le_succ _))), lies_2 wr id hb (atom_lies No ⟨#[97]⟩ wr (by decide)) (atom_lies No ⟨#[98]⟩ wr (by decide))⟩
end
end Go.Proofs.Ythableojkjhicaa.un
