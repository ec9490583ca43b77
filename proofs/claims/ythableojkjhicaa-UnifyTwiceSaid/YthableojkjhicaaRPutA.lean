/- The reference's heap, names and variables side by side, as one object; its calls. The reference's put of a term that is no compound. The reference's put of a variable. The reference's put of any term that may be. The reference's Put, with a map that is there. -/
import Derived.Test.YthableojkjhicaaPutM
import Derived.Test.YthableojkjhicaaOb
import Derived.Test.YthableojkjhicaaHeap
import Derived.Test.YthableojkjhicaaAtoms
import Derived.Test.YthableojkjhicaaVars
import Derived.Test.YthableojkjhicaaWalk
import Derived.Maps.OwnSet
import Derived.Deep.DeepCutAuto
import Derived.Deep.CutBlock
import Derived.BigRegion
import Derived.RegionTactic
import Derived.Deep.RegionHeld3
import Derived.LoopTactic
import Derived.Deep.LoopGhost
import Derived.Test.YthableojkjhicaaRMay
namespace Go.Proofs.Ythableojkjhicaa.rpt
set_option linter.unusedVariables false
open Go.ChangeShapes Go.WideShapes Go.ChangeAt Go.RowKit Go.Maps
open Go.Proofs.Ythableojkjhicaa.hp Go.Proofs.Ythableojkjhicaa.cel Go.Proofs.Ythableojkjhicaa.kp Go.Proofs.Ythableojkjhicaa.ob Go.Proofs.Ythableojkjhicaa.pm Go.Proofs.Ythableojkjhicaa.tm
open Go.Proofs.Ythableojkjhicaa.atm (nv ne nx)
theorem toA {F : Nat → Prop} {w w' : World} (k : kp.Keep F w w') : atm.Keep F w w' := ⟨k.os, k.tape, k.output, k.size, k.block⟩
theorem toK {F : Nat → Prop} {w w' : World} (k : atm.Keep F w w') : kp.Keep F w w' := ⟨k.os, k.tape, k.output, k.size, k.block⟩
abbrev CK (i : Int) : Lit := .int .i64 i
theorem CK_ne {i j : Int} (h : i ≠ j) : CK i ≠ CK j := fun e => h (by injection e)
theorem law : Keyed Try.prog 2 := int_keyed Try.underlying2
theorem zeroC (w : World) : (zeroValue 23).run Try.prog w = .ok (.int .u64 0) w := by kernel_rfl
/-- D tells each variable's cell -/
def VM (D : DataW Unit) (v : List (Int × Int)) : Prop := ∀ i : Int, has D (CK i) = (pm.look v i).isSome ∧ D.atKey (CK i) (.lit (.int .u64 0)) = .lit (.int .u64 ((pm.look v i).getD 0))
theorem VM.nil : VM (.map []) [] := fun i => by simp [has, DataW.atKey, pm.look]
theorem VM.put {D : DataW Unit} {v : List (Int × Int)} {i c : Int} (h : VM D v) (hD : IsMap D) (hi : pm.look v i = none) : VM (D.put (CK i) (.lit (.int .u64 c))) (v ++ [(i, c)]) := by
  intro j
  by_cases e : j = i
  · subst e
    rw [has_put_same hD (by simp [WideAt.IsKeyLit]), atKey_put_same hD (by simp [WideAt.IsKeyLit]), look_new hi]; simp
  · rw [has_put_other (CK_ne e), atKey_put_other (CK_ne e), look_old (fun h => e h.symm)]
    exact h j
def VO (mb : Nat) (v : List (Int × Int)) : Ob := fun w N => (∃ D, w.ownsMap Try.prog 2 (plainElem (H := Unit) Try.prog 23) mb v.length D ∧ VM D v ∧ Maps.size D = v.length) ∧ ∀ k, N k ↔ k = mb
theorem mapC_keep {w w' : World} {mb n : Nat} {D : DataW Unit} (h : w.ownsMap Try.prog 2 (plainElem (H := Unit) Try.prog 23) mb n D) (hb : w'.heap[mb]? = w.heap[mb]?) : w'.ownsMap Try.prog 2 (plainElem (H := Unit) Try.prog 23) mb n D := by
  obtain ⟨es, clock, hmb, q⟩ := h
  exact ⟨es, clock, hb.trans hmb, q⟩
theorem frV {mb : Nat} {v : List (Int × Int)} : Fr (VO mb v) where
  lt := by
    rintro w N ⟨⟨D, h, _⟩, f⟩ k hk
    rw [(f k).1 hk]; exact h.lt
  keep := by
    rintro w w' N F ⟨⟨D, h, hv⟩, f⟩ k hd
    exact ⟨⟨D, mapC_keep h (k.block mb h.lt (hd mb ((f mb).2 rfl))), hv⟩, f⟩
theorem size_same {w : World} {mb n : Nat} {D D' : DataW Unit} {v v' : List (Int × Int)} {z : Nat} (hD : w.ownsMap Try.prog 2 (plainElem (H := Unit) Try.prog 23) mb n D) (_ : VM D v) (hD' : w.ownsMap Try.prog 2 (plainElem (H := Unit) Try.prog 23) mb n D') (_ : VM D' v') (hz : Maps.size D' = z) : Maps.size D = z := by
  obtain ⟨es, clock, hb, _, _, rfl⟩ := hD
  obtain ⟨es', clock', hb', _, _, rfl⟩ := hD'
  rw [hb] at hb'
  injection hb' with e
  injection e with e _
  subst e
  exact hz
theorem size_new {w : World} {mb n : Nat} {D : DataW Unit} {v : List (Int × Int)} {i c : Int} (hD : w.ownsMap Try.prog 2 (plainElem (H := Unit) Try.prog 23) mb n D) (hv : VM D v) (hi : pm.look v i = none) (hz : Maps.size D = v.length) : Maps.size (D.put (CK i) (.lit (.int .u64 c))) = (v ++ [(i, c)]).length := by
  rw [size_put (hD.tidy law), (hv i).1, hi, hz]
  simp
def HB (T : TypeId) (p : Nat) (l : List Int) (m : Int) : Ob := fun w F => Hp T w p F l m
theorem frHB {T : TypeId} {p : Nat} {l : List Int} {m : Int} : Fr (HB T p l m) := ⟨fun h => Hp.lt h, fun h k d => Hp.keep h k d⟩
section
variable {w w0 wr w' : World} {p q mb : Nat} {m : Int} {s s' : S} {C : Ob} {N K : Nat → Prop}
end
end Go.Proofs.Ythableojkjhicaa.rpt
namespace Go.Proofs.Ythableojkjhicaa.rpt
set_option linter.unusedVariables false
open Go.ChangeShapes Go.WideShapes Go.ChangeAt Go.RowKit Go.Maps
open Go.Proofs.Ythableojkjhicaa.hp Go.Proofs.Ythableojkjhicaa.cel Go.Proofs.Ythableojkjhicaa.kp Go.Proofs.Ythableojkjhicaa.ob Go.Proofs.Ythableojkjhicaa.pm Go.Proofs.Ythableojkjhicaa.tm Go.Proofs.Ythableojkjhicaa.lie
open Go.Proofs.Ythableojkjhicaa.atm (nv ne nx)
theorem sv_w {i : Int} : W64 (sv i) := by unfold sv; split; exact jn_w _ (by decide) (by decide); exact ⟨by decide, by decide⟩
section
variable {p q mb : Nat} {m own : Int} {s : S} {w : World} {N : Nat → Prop} {n : ByteArray} {i re im : Int} {a : Option Addr} {len c : Nat} {l : List Tm}
theorem px_room {l : List Int} {m u : Int} (h : (l.length : Int) < m) : px l m u = l ++ [u] ∧ pv l m = l.length ∧ pe l m = 0 := by unfold px pv pe; rw [if_pos h, if_pos h, if_pos h]; exact ⟨rfl, rfl, rfl⟩
theorem px_none {l : List Int} {m u : Int} (h : ¬ (l.length : Int) < m) : px l m u = l ∧ pv l m = 0 ∧ pe l m = 4 := by unfold px pv pe; rw [if_neg h, if_neg h, if_neg h]; exact ⟨rfl, rfl, rfl⟩
end
end Go.Proofs.Ythableojkjhicaa.rpt
namespace Go.Proofs.Ythableojkjhicaa.rpt
set_option linter.unusedVariables false
open Go.ChangeShapes Go.WideShapes Go.ChangeAt Go.RowKit Go.Maps
open Go.Proofs.Ythableojkjhicaa.hp Go.Proofs.Ythableojkjhicaa.cel Go.Proofs.Ythableojkjhicaa.kp Go.Proofs.Ythableojkjhicaa.ob Go.Proofs.Ythableojkjhicaa.pm Go.Proofs.Ythableojkjhicaa.tm Go.Proofs.Ythableojkjhicaa.lie
open Go.Proofs.Ythableojkjhicaa.atm (nv ne nx)
section
variable {p q mb : Nat} {m own : Int} {s : S} {w : World} {N : Nat → Prop} {n : ByteArray} {i re im : Int} {a : Option Addr} {len c : Nat} {l : List Tm}
abbrev BT (k : Int) (n : ByteArray) (i re im : Int) (a : Option Addr) (len c : Nat) : Obj := .cells #[.int .i64 k, .string n, .int .i64 i, .int .u64 re, .int .u64 im, .slice a len c] 36 (0, 0)
end
end Go.Proofs.Ythableojkjhicaa.rpt
namespace Go.Proofs.Ythableojkjhicaa.rpt
set_option linter.unusedVariables false
open Go.ChangeShapes Go.WideShapes Go.ChangeAt Go.RowKit Go.Maps
open Go.Proofs.Ythableojkjhicaa.hp Go.Proofs.Ythableojkjhicaa.cel Go.Proofs.Ythableojkjhicaa.kp Go.Proofs.Ythableojkjhicaa.ob Go.Proofs.Ythableojkjhicaa.pm Go.Proofs.Ythableojkjhicaa.tm Go.Proofs.Ythableojkjhicaa.lie
open Go.Proofs.Ythableojkjhicaa.atm (nv ne nx)
/-- what the second loop is to make -/
def fin (m : Int) (l : List Tm) (x e : Int) (p : Nat) (s : S) : Int × S := if e = 0 then putL m l p s else (e, s)
/-- arguments, where memory has turned elsewhere -/
theorem row_at {w wr : World} {N K : Nat → Prop} {l : List Tm} {a : Option Addr} (h : TRow N w l a 0) (k : kp.Keep N w wr) (sub : ∀ i, K i → N i ∨ w.heap.size ≤ i) : TRow K wr l a 0 :=
  TRow.keep k (fun b hb hK => (sub b hK).resolve_right (by omega)) l 0 h
theorem more_e (m : Int) : ∀ (n : Nat) (l : List Int), (more m n l).1 = 0 ∨ (more m n l).1 = 4
  | 0, l => Or.inl rfl
  | n + 1, l => by
    unfold more
    split
    · exact more_e m n _
    · exact Or.inr rfl
theorem wr1 {a : Nat} (h : a ≤ 1048576) : wrap64 ((a : Int) + 1) = (a : Int) + 1 := by unfold wrap64; omega
theorem wr2 {a k x : Nat} (hx : x = a + 1 + k) (h : x ≤ 1048576) : wrap64 ((a : Int) + 1 + (k : Int)) = (x : Int) := by unfold wrap64; omega
theorem more_len (m : Int) : ∀ (n : Nat) (l : List Int), (more m n l).1 = 0 → (more m n l).2.length = l.length + n
  | 0, l, _ => rfl
  | n + 1, l, h => by
    unfold more at h ⊢
    split at h
    · rename_i hr
      rw [if_pos hr]
      have := more_len m n _ h
      rw [this]; simp; omega
    · cases h
theorem put_of {m : Int} {l : List Tm} {h1 h2 : List Int} {e9 : Int} {r : Int × S} {P : Int × Int × S} {a : List ByteArray} {v : List (Int × Int)} {at' : Nat} (hm : more m l.length h1 = (e9, h2)) (hr : r = if e9 = 0 then putL m l (at' + 1) ⟨h2, a, v⟩ else (e9, ⟨h2, a, v⟩))
    (hP : P = (match more m l.length h1 with
          | (e, h) => if e = 0 then (match putL m l (at' + 1) ⟨h, a, v⟩ with
              | (e, s') => if e = 0 then (jn 1 at', 0, s') else (0, e, s'))
            else (0, e, ⟨h, a, v⟩))) : P = if r.1 = 0 then (jn 1 at', 0, r.2) else (0, r.1, r.2) := by
  rw [hm] at hP
  dsimp only at hP
  by_cases he : e9 = 0
  · rw [if_pos he] at hP hr
    rw [hP, hr]
  · rw [if_neg he] at hP hr
    rw [hP, hr, if_neg he]
end Go.Proofs.Ythableojkjhicaa.rpt
namespace Go.Proofs.Ythableojkjhicaa.rpt
set_option linter.unusedVariables false
open Go.ChangeShapes Go.WideShapes Go.ChangeAt Go.RowKit Go.Maps
open Go.Proofs.Ythableojkjhicaa.hp Go.Proofs.Ythableojkjhicaa.cel Go.Proofs.Ythableojkjhicaa.kp Go.Proofs.Ythableojkjhicaa.ob Go.Proofs.Ythableojkjhicaa.pm Go.Proofs.Ythableojkjhicaa.tm Go.Proofs.Ythableojkjhicaa.lie Go.Proofs.Ythableojkjhicaa.rmy
theorem put_zero (m : Int) (t : Tm) (own : Int) (s : S) : (put m t own s).2.1 ≠ 0 → (put m t own s).1 = 0 := by
  obtain ⟨k, n, i, re, im, l⟩ := t
  rw [put]
  repeat' split
  all_goals first
    | (intro h; rfl)
    | (intro h; exact absurd rfl h)
theorem qV (w : World) (r : Option Nat) : (binOp .eql 51 (.map r) (.map none)).run Try.prog w = .ok (.bool r.isNone) w := run_eql_map_nil w _ _ _ r Try.underlying51
/-- what Put answers, what there is behind it -/
def putT (m : Int) (t : Tm) (s : S) : Int × Int × S := if may t = 0 then put m t (-1) s else (0, may t, s)
section
variable {p q mb : Nat} {m : Int} {s : S} {w : World} {N : Nat → Prop}
end
end Go.Proofs.Ythableojkjhicaa.rpt
