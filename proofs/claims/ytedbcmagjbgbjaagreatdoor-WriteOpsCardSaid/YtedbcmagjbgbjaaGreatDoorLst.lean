/- Package term: List, Items. -/
import Derived.Test.YtedbcmagjbgbjaaGreatDoorOwn6
import Derived.Test.YtedbcmagjbgbjaaGreatDoorPl
import Derived.Deep.LoopGhost
import Derived.StillTailTactics
namespace Go.Proofs.YtedbcmagjbgbjaaGreatDoor.lst
set_option linter.unusedVariables false
open Go.ChangeShapes Go.WideShapes Go.ChangeAt Go.RowKit
open Go.Proofs.YtedbcmagjbgbjaaGreatDoor.tm Go.Proofs.YtedbcmagjbgbjaaGreatDoor.lie Go.Proofs.YtedbcmagjbgbjaaGreatDoor.kp Go.Proofs.YtedbcmagjbgbjaaGreatDoor.cur Go.Proofs.YtedbcmagjbgbjaaGreatDoor.rws Go.Proofs.YtedbcmagjbgbjaaGreatDoor.pla Go.Proofs.YtedbcmagjbgbjaaGreatDoor.wlk Go.Proofs.YtedbcmagjbgbjaaGreatDoor.pln Go.Proofs.YtedbcmagjbgbjaaGreatDoor.ow6 Go.Proofs.YtedbcmagjbgbjaaGreatDoor.awk
abbrev DOT : ByteArray := ⟨#[46]⟩
abbrev NIL : ByteArray := ⟨#[91, 93]⟩
/-- the list of these items that ends in t -/
def lst : List Tm → Tm → Tm
  | [], t => t
  | x :: r, t => comp DOT [x, lst r t]
/-- a row of terms in a new block, each off X -/
theorem row_newX {X : Nat → Prop} (w : World) (cs : Array Value) (l : List Tm) (hX : ¬ X w.heap.size) (h : ∀ (m : Nat) (hm : m < l.length), ∃ v0 v1 v2 v3 v4 v5, cs[m * 6]? = some v0 ∧ cs[m * 6 + 1]? = some v1 ∧ cs[m * 6 + 2]? = some v2 ∧ cs[m * 6 + 3]? = some v3 ∧ cs[m * 6 + 4]? = some v4 ∧ cs[m * 6 + 5]? = some v5 ∧
    Lies X w l[m] (.agg #[v0, v1, v2, v3, v4, v5])) : TRow X (w.alloc (.cells cs 27)) l (some ⟨w.heap.size, 0, none⟩) 0 := by
  refine TRow.mk l 0 fun m hm => ?_
  obtain ⟨v0, v1, v2, v3, v4, v5, h0, h1, h2, h3, h4, h5, ht⟩ := h m hm
  have e := fun j x (hj : cs[j]? = some x) => alloc_cell w (.cells cs 27) cs 27 x j rfl hj
  refine ⟨w.heap.size, 0, v0, v1, v2, v3, v4, v5, rfl, hX, ?_, ht.below (ba w _)⟩
  simp only [Nat.zero_add]
  exact ⟨e _ _ h0, e _ _ h1, e _ _ h2, e _ _ h3, e _ _ h4, e _ _ h5⟩
/-- a struct stored over another, whole -/
theorem box_set {w : World} {b : Nat} {u0 u1 u2 u3 u4 u5 : Value} (hn : w.heap[b]? = some (.cells #[u0, u1, u2, u3, u4, u5] 27 (0, 0))) (v0 v1 v2 v3 v4 v5 : Value) :
    ∃ W, ((((((w.setCell ⟨b, 0, none⟩ v0).setCell ⟨b, 1, none⟩ v1).setCell ⟨b, 2, none⟩ v2).setCell ⟨b, 3, none⟩ v3).setCell ⟨b, 4, none⟩ v4).setCell ⟨b, 5, none⟩ v5) = W ∧ W.heap[b]? = some (.cells #[v0, v1, v2, v3, v4, v5] 27 (0, 0)) ∧ Keep (fun k => k = b) w W := by
  refine ⟨_, rfl, ?_, keep_set6 w b v0 v1 v2 v3 v4 v5⟩
  have e := fun (w : World) (i : Nat) (cs : Array Value) (v : Value) (hg : w.heap[b]? = some (.cells cs 27 (0, 0))) => heap_setCell_same w b i cs 27 v hg
  have := e _ 5 _ v5 (e _ 4 _ v4 (e _ 3 _ v3 (e _ 2 _ v2 (e _ 1 _ v1 (e w 0 _ v0 hn)))))
  simpa using this
theorem lst_drop {l : List Tm} {m : Nat} (h : m < l.length) (t : Tm) : lst (l.drop m) t = comp DOT [l[m], lst (l.drop (m + 1)) t] := by
  rw [List.drop_eq_getElem_cons h]; rfl
def LRel (b : Nat) (w1 : World) (l : List Tm) (tail : Tm) (g : Nat) (s6 : Value) (wr : World) : Prop :=
  ∃ (k : Nat) (j kq : Int) (nq : ByteArray) (iq rq mq : Int) (aq : Option Addr) (lq cq : Nat), k ≤ l.length ∧ g = k ∧ s6 = .int .i64 j ∧ j = (k : Int) - 1 ∧
    wr.heap[b]? = some (.cells #[.int .i64 kq, .string nq, .int .i64 iq, .int .u64 rq, .int .u64 mq, .slice aq lq cq] 27 (0, 0)) ∧
    Lies (fun q => q = b) wr (lst (l.drop k) tail) (.agg #[.int .i64 kq, .string nq, .int .i64 iq, .int .u64 rq, .int .u64 mq, .slice aq lq cq]) ∧ Below w1.heap.size w1 wr
/-- what Items tells of a list -/
def Told (L : List Tm) (w : World) (e : Ending) (w' : World) : Prop := ∃ a c, e = .returned (.tuple #[.slice a L.length c, .bool true]) ∧ L.length ≤ c ∧ TRow No w' L a 0 ∧ Below w.heap.size w w'
def IRel (b B : Nat) (w : World) (L : List Tm) (g : Nat) (s4 : Value) (wr : World) : Prop :=
  ∃ (k : Nat) (kq : Int) (nq : ByteArray) (iq rq mq : Int) (aq : Option Addr) (lq cq : Nat), k ≤ L.length ∧ g = L.length - k ∧ XOwn (fun q => q = b) B (L.take k) s4 wr ∧
    wr.heap[b]? = some (.cells #[.int .i64 kq, .string nq, .int .i64 iq, .int .u64 rq, .int .u64 mq, .slice aq lq cq] 27 (0, 0)) ∧
    Lies (fun q => q = b ∨ B ≤ q) wr (lst (L.drop k) (atom NIL)) (.agg #[.int .i64 kq, .string nq, .int .i64 iq, .int .u64 rq, .int .u64 mq, .slice aq lq cq]) ∧ Below w.heap.size w wr ∧ B ≤ wr.heap.size
end Go.Proofs.YtedbcmagjbgbjaaGreatDoor.lst
