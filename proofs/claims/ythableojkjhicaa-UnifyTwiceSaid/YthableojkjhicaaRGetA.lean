/- The reference's getter as an object: heap, names, places' numbers, its own block; its function name. The reference's get, where no more is told. Lemmas of get's arms. -/
import Derived.Test.YthableojkjhicaaRPutA
import Derived.Test.YthableojkjhicaaPutM
import Derived.Test.YthableojkjhicaaHeap
import Derived.Test.YthableojkjhicaaPl
import Derived.Deep.DeepCutAuto
import Derived.Deep.CutBlock
import Derived.BigRegion
import Derived.RegionTactic
import Derived.LoopTactic
import Derived.Deep.LoopGhost
namespace Go.Proofs.Ythableojkjhicaa.rgt
set_option linter.unusedVariables false
open Go.ChangeShapes Go.WideShapes Go.ChangeAt Go.RowKit Go.Maps
open Go.Proofs.Ythableojkjhicaa.hp Go.Proofs.Ythableojkjhicaa.cel Go.Proofs.Ythableojkjhicaa.kp Go.Proofs.Ythableojkjhicaa.ob Go.Proofs.Ythableojkjhicaa.pm Go.Proofs.Ythableojkjhicaa.tm Go.Proofs.Ythableojkjhicaa.rpt
theorem lawI : Keyed Try.prog 3 := int_keyed Try.underlying3
theorem zeroI (w : World) : (zeroValue 2).run Try.prog w = .ok (.int .i64 0) w := by kernel_rfl
def VI (D : DataW Unit) (v : List (Int × Int)) : Prop := ∀ i : Int, has D (CK i) = (pm.look v i).isSome ∧ D.atKey (CK i) (.lit (.int .i64 0)) = .lit (.int .i64 ((pm.look v i).getD 0))
theorem VI.nil : VI (.map []) [] := fun i => by simp [has, DataW.atKey, pm.look]
theorem VI.put {D : DataW Unit} {v : List (Int × Int)} {i c : Int} (h : VI D v) (hD : IsMap D) (hi : pm.look v i = none) : VI (D.put (CK i) (.lit (.int .i64 c))) (v ++ [(i, c)]) := by
  intro j
  by_cases e : j = i
  · subst e
    rw [has_put_same hD (by simp [WideAt.IsKeyLit]), atKey_put_same hD (by simp [WideAt.IsKeyLit]), look_new hi]; simp
  · rw [has_put_other (CK_ne e), atKey_put_other (CK_ne e), look_old (fun h => e h.symm)]
    exact h j
/-- D has as many keys as v -/
def VG (mb : Nat) (v : List (Int × Int)) : Ob := fun w N => (∃ D, w.ownsMap Try.prog 3 (plainElem (H := Unit) Try.prog 2) mb v.length D ∧ VI D v ∧ Maps.size D = v.length) ∧ ∀ k, N k ↔ k = mb
theorem mapI_keep {w w' : World} {mb n : Nat} {D : DataW Unit} (h : w.ownsMap Try.prog 3 (plainElem (H := Unit) Try.prog 2) mb n D) (hb : w'.heap[mb]? = w.heap[mb]?) : w'.ownsMap Try.prog 3 (plainElem (H := Unit) Try.prog 2) mb n D := by
  obtain ⟨es, clock, hmb, q⟩ := h
  exact ⟨es, clock, hb.trans hmb, q⟩
theorem frG {mb : Nat} {v : List (Int × Int)} : Fr (VG mb v) where
  lt := by
    rintro w N ⟨⟨D, h, _⟩, f⟩ k hk
    rw [(f k).1 hk]; exact h.lt
  keep := by
    rintro w w' N F ⟨⟨D, h, hv⟩, f⟩ k hd
    exact ⟨⟨D, mapI_keep h (k.block mb h.lt (hd mb ((f mb).2 rfl))), hv⟩, f⟩
/-- the blocks that a getter turns -/
abbrev NG (gb mb : Nat) : Nat → Prop := fun k => k = gb ∨ k = mb
section
variable {w w' : World} {p q mb gb : Nat} {l : List Int} {m : Int} {a : List ByteArray} {g : G} {N : Nat → Prop}
end
end Go.Proofs.Ythableojkjhicaa.rgt
namespace Go.Proofs.Ythableojkjhicaa.rgt
set_option linter.unusedVariables false
open Go.ChangeShapes Go.WideShapes Go.ChangeAt Go.RowKit Go.Maps
open Go.Proofs.Ythableojkjhicaa.hp Go.Proofs.Ythableojkjhicaa.cel Go.Proofs.Ythableojkjhicaa.kp Go.Proofs.Ythableojkjhicaa.ob Go.Proofs.Ythableojkjhicaa.pm Go.Proofs.Ythableojkjhicaa.tm Go.Proofs.Ythableojkjhicaa.rpt Go.Proofs.Ythableojkjhicaa.lie Go.Proofs.Ythableojkjhicaa.cur Go.Proofs.Ythableojkjhicaa.pla Go.Proofs.Ythableojkjhicaa.pln Go.Proofs.Ythableojkjhicaa.wlk
section
variable {w wr w' : World} {p q mb gb : Nat} {l : List Int} {m : Int} {a : List ByteArray} {g g' : G} {N : Nat → Prop} {r : Nat} {c : Int}
theorem zero_lies2 (X : Nat → Prop) (W : World) : Lies X W zero (.agg #[.int .i64 0, .string ⟨#[]⟩, .int .i64 0, .int .u64 0, .int .u64 0, .slice none 0 0]) := zero_lies X W
end
end Go.Proofs.Ythableojkjhicaa.rgt
namespace Go.Proofs.Ythableojkjhicaa.rgt
set_option linter.unusedVariables false
open Go.ChangeShapes Go.WideShapes Go.ChangeAt Go.RowKit Go.Maps
open Go.Proofs.Ythableojkjhicaa.hp Go.Proofs.Ythableojkjhicaa.cel Go.Proofs.Ythableojkjhicaa.kp Go.Proofs.Ythableojkjhicaa.ob Go.Proofs.Ythableojkjhicaa.pm Go.Proofs.Ythableojkjhicaa.tm Go.Proofs.Ythableojkjhicaa.rpt Go.Proofs.Ythableojkjhicaa.lie Go.Proofs.Ythableojkjhicaa.cur Go.Proofs.Ythableojkjhicaa.pla Go.Proofs.Ythableojkjhicaa.pln Go.Proofs.Ythableojkjhicaa.wlk
theorem rInt_any (n : Int) (w : World) :
    Calls Try.prog 74 #[.int .i64 n] w fun e w' => e = .returned (.agg #[.int .i64 3, .string ⟨#[]⟩, .int .i64 n, .int .u64 0, .int .u64 0, .slice none 0 0]) ∧ Below w.heap.size w w' := by
  go_enter Try.func74, Try.ntmps74
  go_wp2_with fail
  exact bodyPost_ret (v := .agg #[.int .i64 3, .string ⟨#[]⟩, .int .i64 n, .int .u64 0, .int .u64 0, .slice none 0 0]) (by simp [results, Try.results74, go_sem]) rfl ⟨rfl, ba w _⟩
theorem int_lies (X : Nat → Prop) (i : Int) (w : World) (h0 : I64 i) : Lies X w (.mk 3 tm.E i 0 0 []) (.agg #[.int .i64 3, .string ⟨#[]⟩, .int .i64 i, .int .u64 0, .int .u64 0, .slice none 0 0]) := by
  rw [Lies]
  exact ⟨none, 0, rfl, ⟨by decide, by decide, by decide, h0.1, h0.2, by decide, by decide, by decide, by decide, Nat.le_refl _, by decide⟩, by rw [TRow]; trivial⟩
theorem cpx_lies (X : Nat → Prop) (re im : Int) (w : World) (hr : W64 re) (hi : W64 im) : Lies X w (.mk 4 tm.E 0 re im []) (.agg #[.int .i64 4, .string ⟨#[]⟩, .int .i64 0, .int .u64 re, .int .u64 im, .slice none 0 0]) := by
  rw [Lies]
  exact ⟨none, 0, rfl, ⟨by decide, by decide, by decide, by decide, by decide, hr.1, by have := hr.2; omega, hi.1, by have := hi.2; omega, Nat.le_refl _, by decide⟩, by rw [TRow]; trivial⟩
theorem sg_i {d : Int} (h : W64 d) : I64 (sg d) := by obtain ⟨h0, h1⟩ := h; unfold sg wrap64 I64; omega
theorem get_succ {l : List Int} {a : List ByteArray} {r : Nat} {c d : Int} {g : G} (he : g.e = 0) (hn : ¬ 2000 ≤ g.n) (hd : d = dr l l.length c) : pm.get l a (r + 1) c g =
      if d % 8 = 0 then (if gb l (d / 8) = true ∧ gv l (d / 8) = d then
          (match pm.look g.v (d / 8) with
            | some k => (var k, ⟨g.n + 1, g.v, 0⟩)
            | none => (var g.v.length, ⟨g.n + 1, g.v ++ [(d / 8, (g.v.length : Int))], 0⟩))
        else (zero, ⟨g.n + 1, g.v, 2⟩))
      else if d % 8 = 2 then (if d / 8 < a.length then (atom (a.getD (d / 8).toNat ByteArray.empty), ⟨g.n + 1, g.v, 0⟩) else (zero, ⟨g.n + 1, g.v, 2⟩))
      else if d % 8 = 3 then (.mk 3 tm.E (sg d) 0 0 [], ⟨g.n + 1, g.v, 0⟩)
      else if d % 8 = 4 then (if gb l (d / 8) = true then (.mk 3 tm.E (wrap64 (gv l (d / 8))) 0 0 [], ⟨g.n + 1, g.v, 0⟩) else (zero, ⟨g.n + 1, g.v, 2⟩))
      else if d % 8 = 5 then (if gb l (d / 8) = true ∧ gb l (d / 8 + 1) = true then (.mk 4 tm.E 0 (gv l (d / 8)) (gv l (d / 8 + 1)) [], ⟨g.n + 1, g.v, 0⟩) else (zero, ⟨g.n + 1, g.v, 2⟩))
      else if d % 8 = 1 ∧ fok l (d / 8) = true then
        (if gv l (d / 8) / 8 / 256 < a.length then
          (match getL (pm.get l a r) l (gv l (d / 8) / 8 % 256).toNat ((d / 8).toNat + 1) ⟨g.n + 1, g.v, 0⟩ with
            | (ts, g2) => (comp (a.getD (gv l (d / 8) / 8 / 256).toNat ByteArray.empty) ts, g2))
          else (zero, ⟨g.n + 1, g.v, 2⟩))
      else (zero, ⟨g.n + 1, g.v, 2⟩) := by
  subst hd
  rw [pm.get, if_pos he, if_neg hn]
  rfl
theorem getD_mem' {a : List ByteArray} {k : Nat} (h : k < a.length) : a.getD k ByteArray.empty ∈ a := by rw [List.getD_eq_getElem?_getD, List.getElem?_eq_getElem h]; exact List.getElem_mem h
end Go.Proofs.Ythableojkjhicaa.rgt
