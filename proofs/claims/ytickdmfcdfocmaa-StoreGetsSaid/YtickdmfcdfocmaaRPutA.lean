/- The reference's heap, names and variables side by side, as one object; its calls. The reference's put of a term that is no compound. The reference's put of a variable. The reference's put of any term that may be. The reference's Put, with a map that is there. -/
import Derived.Test.YtickdmfcdfocmaaPutM
import Derived.Test.YtickdmfcdfocmaaOb
import Derived.Test.YtickdmfcdfocmaaHeap
import Derived.Test.YtickdmfcdfocmaaAtoms
import Derived.Test.YtickdmfcdfocmaaVars
import Derived.Test.YtickdmfcdfocmaaWalk
import Derived.Maps.OwnSet
import Derived.Deep.DeepCutAuto
import Derived.Deep.CutBlock
import Derived.BigRegion
import Derived.RegionTactic
import Derived.Deep.RegionHeld3
import Derived.LoopTactic
import Derived.Deep.LoopGhost
import Derived.Test.YtickdmfcdfocmaaRMay
namespace Go.Proofs.Ytickdmfcdfocmaa.rpt
set_option linter.unusedVariables false
open Go.ChangeShapes Go.WideShapes Go.ChangeAt Go.RowKit Go.Maps
open Go.Proofs.Ytickdmfcdfocmaa.hp Go.Proofs.Ytickdmfcdfocmaa.cel Go.Proofs.Ytickdmfcdfocmaa.kp Go.Proofs.Ytickdmfcdfocmaa.ob Go.Proofs.Ytickdmfcdfocmaa.pm Go.Proofs.Ytickdmfcdfocmaa.tm
open Go.Proofs.Ytickdmfcdfocmaa.atm (nv ne nx Ref RNext)
theorem toA {F : Nat → Prop} {w w' : World} (k : kp.Keep F w w') : atm.Keep F w w' := ⟨k.os, k.tape, k.output, k.size, k.block⟩
theorem toK {F : Nat → Prop} {w w' : World} (k : atm.Keep F w w') : kp.Keep F w w' := ⟨k.os, k.tape, k.output, k.size, k.block⟩
abbrev CK (i : Int) : Lit := .int .i64 i
theorem CK_ne {i j : Int} (h : i ≠ j) : CK i ≠ CK j := fun e => h (by injection e)
theorem law : Keyed Try.prog 2 := int_keyed Try.underlying2
theorem zeroC (w : World) : (zeroValue 25).run Try.prog w = .ok (.int .u64 0) w := by kernel_rfl
/-- D tells each variable's cell -/
def VM (D : DataW Unit) (v : List (Int × Int)) : Prop := ∀ i : Int, has D (CK i) = (pm.look v i).isSome ∧ D.atKey (CK i) (.lit (.int .u64 0)) = .lit (.int .u64 ((pm.look v i).getD 0))
theorem VM.nil : VM (.map []) [] := fun i => by simp [has, DataW.atKey, pm.look]
theorem VM.put {D : DataW Unit} {v : List (Int × Int)} {i c : Int} (h : VM D v) (hD : IsMap D) (hi : pm.look v i = none) : VM (D.put (CK i) (.lit (.int .u64 c))) (v ++ [(i, c)]) := by
  intro j
  by_cases e : j = i
  · subst e
    rw [has_put_same hD (by simp [WideAt.IsKeyLit]), atKey_put_same hD (by simp [WideAt.IsKeyLit]), look_new hi]; simp
  · rw [has_put_other (CK_ne e), atKey_put_other (CK_ne e), look_old (fun h => e h.symm)]
    exact h j
def VO (mb : Nat) (v : List (Int × Int)) : Ob := fun w N => (∃ D, w.ownsMap Try.prog 2 (plainElem (H := Unit) Try.prog 25) mb v.length D ∧ VM D v ∧ Maps.size D = v.length) ∧ ∀ k, N k ↔ k = mb
theorem mapC_keep {w w' : World} {mb n : Nat} {D : DataW Unit} (h : w.ownsMap Try.prog 2 (plainElem (H := Unit) Try.prog 25) mb n D) (hb : w'.heap[mb]? = w.heap[mb]?) : w'.ownsMap Try.prog 2 (plainElem (H := Unit) Try.prog 25) mb n D := by
  obtain ⟨es, clock, hmb, q⟩ := h
  exact ⟨es, clock, hb.trans hmb, q⟩
theorem frV {mb : Nat} {v : List (Int × Int)} : Fr (VO mb v) where
  lt := by
    rintro w N ⟨⟨D, h, _⟩, f⟩ k hk
    rw [(f k).1 hk]; exact h.lt
  keep := by
    rintro w w' N F ⟨⟨D, h, hv⟩, f⟩ k hd
    exact ⟨⟨D, mapC_keep h (k.block mb h.lt (hd mb ((f mb).2 rfl))), hv⟩, f⟩
theorem size_same {w : World} {mb n : Nat} {D D' : DataW Unit} {v v' : List (Int × Int)} {z : Nat} (hD : w.ownsMap Try.prog 2 (plainElem (H := Unit) Try.prog 25) mb n D) (_ : VM D v) (hD' : w.ownsMap Try.prog 2 (plainElem (H := Unit) Try.prog 25) mb n D') (_ : VM D' v') (hz : Maps.size D' = z) : Maps.size D = z := by
  obtain ⟨es, clock, hb, _, _, rfl⟩ := hD
  obtain ⟨es', clock', hb', _, _, rfl⟩ := hD'
  rw [hb] at hb'
  injection hb' with e
  injection e with e _
  subst e
  exact hz
theorem size_new {w : World} {mb n : Nat} {D : DataW Unit} {v : List (Int × Int)} {i c : Int} (hD : w.ownsMap Try.prog 2 (plainElem (H := Unit) Try.prog 25) mb n D) (hv : VM D v) (hi : pm.look v i = none) (hz : Maps.size D = v.length) : Maps.size (D.put (CK i) (.lit (.int .u64 c))) = (v ++ [(i, c)]).length := by
  rw [size_put (hD.tidy law), (hv i).1, hi, hz]
  simp
def HB (T : TypeId) (p : Nat) (l : List Int) (m : Int) : Ob := fun w F => Hp T w p F l m
theorem frHB {T : TypeId} {p : Nat} {l : List Int} {m : Int} : Fr (HB T p l m) := ⟨fun h => Hp.lt h, fun h k d => Hp.keep h k d⟩
def RO (q : Nat) (a : List ByteArray) : Ob := fun w F => Ref w q F a
theorem frR {q : Nat} {a : List ByteArray} : Fr (RO q a) := ⟨fun h => Ref.lt h, fun h k d => Ref.keep h (toA k) d⟩
def PB (p q mb : Nat) (m : Int) (s : S) : Ob := Tim (HB RH p s.h m) (Tim (RO q s.a) (VO mb s.v))
theorem frP {p q mb : Nat} {m : Int} {s : S} : Fr (PB p q mb m s) := frHB.tim (frR.tim frV)
section
variable {w w0 wr w' : World} {p q mb : Nat} {m : Int} {s s' : S} {C : Ob} {N K : Nat → Prop}
/-- behind w0, beside C -/
def XX (w0 : World) (N : Nat → Prop) (p q mb : Nat) (m : Int) (s : S) (C : Ob) (wr : World) : Prop := Nx (Tim (PB p q mb m s) C) w0 N wr
theorem XX.open_ (fC : Fr C) (h : XX w0 N p q mb m s C wr) : ∃ K, PB p q mb m s wr K ∧ (∀ k, K k → N k ∨ w0.heap.size ≤ k) ∧ kp.Keep N w0 wr ∧ ∀ s' w', Nx (PB p q mb m s') wr K w' → XX w0 N p q mb m s' C w' := by
  obtain ⟨K, a, k, sub⟩ := h
  obtain ⟨K2, K3, b2, b3, d, e⟩ := a
  have hlt := fC.lt b3
  refine ⟨K2, b2, fun i hi => sub i ((e i).2 (Or.inl hi)), k, fun s' w' ⟨K', a', k', s3⟩ => ?_⟩
  refine Nx.trans k sub ⟨fun i => K' i ∨ K3 i, ⟨K', K3, a', fC.keep b3 k' (fun i hm hk => d i hk hm), fun i hk hm => ?_, fun _ => Iff.rfl⟩, k'.mono fun i hi => (e i).2 (Or.inl hi), fun i hi => ?_⟩
  · rcases s3 i hk with h | h
    · exact d i h hm
    · have := hlt i hm; omega
  · rcases hi with hi | hi
    · exact (s3 i hi).imp (fun h => (e i).2 (Or.inl h)) id
    · exact Or.inl ((e i).2 (Or.inr hi))
theorem XX.start (h : PB p q mb m s w0 N) (o : Obj) : XX w0 N p q mb m s (Blk w0.heap.size o) (w0.alloc o) := by
  have hlt := frP.lt h
  refine ⟨fun k => N k ∨ k = w0.heap.size, ⟨N, fun k => k = w0.heap.size, frP.below h (kp.ba w0 o), ⟨alloc_at w0 o, fun _ => Iff.rfl⟩, fun k h1 h2 => by have := hlt k h1; omega, fun _ => Iff.rfl⟩, Keep.of_below (kp.ba w0 o), fun k h1 => h1.imp id (fun h => by omega)⟩
theorem XX.drop (h : XX w0 N p q mb m s C wr) : Nx (PB p q mb m s) w0 N wr := by
  obtain ⟨K, ⟨K1, K2, a, b, d, e⟩, k, sub⟩ := h
  exact ⟨K1, a, k, fun i hi => sub i ((e i).2 (Or.inl hi))⟩
theorem XX.box {b : Nat} {o : Obj} (h : XX w0 N p q mb m s (Blk b o) wr) : wr.heap[b]? = some o := by
  obtain ⟨K, ⟨K1, K2, a, b, d, e⟩, k, sub⟩ := h
  exact b.1
theorem XX.cells {b : Nat} {v0 v1 v2 v3 v4 v5 : Value} {t : TypeId} (h : XX w0 N p q mb m s (Blk b (.cells #[v0, v1, v2, v3, v4, v5] t (0, 0))) wr) :
    wr.cell? ⟨b, 0, none⟩ = some v0 ∧ wr.cell? ⟨b, 1, none⟩ = some v1 ∧ wr.cell? ⟨b, 2, none⟩ = some v2 ∧ wr.cell? ⟨b, 3, none⟩ = some v3 ∧ wr.cell? ⟨b, 4, none⟩ = some v4 ∧ wr.cell? ⟨b, 5, none⟩ = some v5 := by
  have := h.box
  refine ⟨?_, ?_, ?_, ?_, ?_, ?_⟩ <;> simp [World.cell?, this]
theorem XX.drew (fC : Fr C) (h : XX w0 N p q mb m s C wr) : XX w0 N p q mb m s C wr.drew := Nx.below (frP.tim fC) h (bdr wr)
theorem XX.below (fC : Fr C) (h : XX w0 N p q mb m s C wr) (b : Below wr.heap.size wr w') : XX w0 N p q mb m s C w' := Nx.below (frP.tim fC) h b
theorem XX.heap (fC : Fr C) (h : XX w0 N p q mb m s C wr) : ∃ F, Hp RH wr p F s.h m ∧ ∀ h' w', hp.Next RH wr p F h' m w' → XX w0 N p q mb m ⟨h', s.a, s.v⟩ C w' := by
  obtain ⟨K, a, _, _, up⟩ := h.open_ fC
  obtain ⟨F, hF, u1⟩ := Tim.at1 (frR.tim frV) a
  exact ⟨F, hF, fun h' w' n => up ⟨h', s.a, s.v⟩ _ (u1 (HB RH p h' m) _ n)⟩
theorem XX.names (fC : Fr C) (h : XX w0 N p q mb m s C wr) : ∃ F, Ref wr q F s.a ∧ ∀ a' w', RNext wr q F a' w' → XX w0 N p q mb m ⟨s.h, a', s.v⟩ C w' := by
  obtain ⟨K, a, _, _, up⟩ := h.open_ fC
  obtain ⟨K2, b, u1⟩ := Tim.at2 frHB a
  obtain ⟨F, hF, u2⟩ := Tim.at1 frV b
  exact ⟨F, hF, fun a' w' ⟨F', hr, k, sub⟩ => up ⟨s.h, a', s.v⟩ _ (u1 _ _ (u2 (RO q a') _ ⟨F', hr, toK k, sub⟩))⟩
theorem XX.vars (fC : Fr C) (h : XX w0 N p q mb m s C wr) : ∃ D, wr.ownsMap Try.prog 2 (plainElem (H := Unit) Try.prog 25) mb s.v.length D ∧ VM D s.v ∧ (∀ v' D' w', w'.ownsMap Try.prog 2 (plainElem (H := Unit) Try.prog 25) mb v'.length D' → VM D' v' → Maps.size D' = v'.length → wr.grownBy w' (some mb) → XX w0 N p q mb m ⟨s.h, s.a, v'⟩ C w') ∧ Maps.size D = s.v.length := by
  obtain ⟨K, a, _, _, up⟩ := h.open_ fC
  obtain ⟨K2, b, u1⟩ := Tim.at2 frHB a
  obtain ⟨F, ⟨⟨D, hD, hv, hz⟩, hF⟩, u2⟩ := Tim.at2 frR b
  refine ⟨D, hD, hv, fun v' D' w' h1 h2 h3 g => up ⟨s.h, s.a, v'⟩ _ (u1 _ _ (u2 (VO mb v') _ ⟨F, ⟨⟨D', h1, h2, h3⟩, hF⟩, Keep.of_grown g fun k e => (hF k).2 (by injection e with e; exact e.symm), fun _ => Or.inl⟩)), hz⟩
theorem xPush (fC : Fr C) (u : Int) (hu : W64 u) (h : XX w0 N p q mb m s C wr) : Calls Try.prog 17 #[.pointer (some ⟨p, 0, none⟩), .int .u64 u] wr fun e w' => e = .returned (.tuple #[.int .i64 (pv s.h m), .int .i64 (pe s.h m)]) ∧ XX w0 N p q mb m ⟨px s.h m u, s.a, s.v⟩ C w' := by
  obtain ⟨F, hF, up⟩ := h.heap fC
  exact (rpush_any hF u hu).mono fun e w' ⟨he, n⟩ => ⟨he, up _ _ n⟩
theorem xNum (fC : Fr C) (n : ByteArray) (hn : n.size ≤ 200) (ha : s.a.length < 4096) (h : XX w0 N p q mb m s C wr) : Calls Try.prog 19 #[.pointer (some ⟨q, 0, none⟩), .string n] wr fun e w' => e = .returned (.tuple #[.int .i64 (nv s.a n), .int .i64 0]) ∧ XX w0 N p q mb m ⟨s.h, nx s.a n, s.v⟩ C w' := by
  obtain ⟨F, hF, up⟩ := h.names fC
  by_cases hi : n ∈ s.a
  · have e1 : nv s.a n = s.a.idxOf n := by unfold nv; rw [if_neg (by omega), if_pos hi]
    have e2 : nx s.a n = s.a := by unfold nx; rw [if_neg (by omega), if_pos hi]
    rw [e1, e2]
    exact (atm.rnum_old hF n hn (by omega) hi).mono fun e w' ⟨he, hw⟩ => ⟨he, hw ▸ h⟩
  · have e1 : nv s.a n = s.a.length := by unfold nv; rw [if_neg (by omega), if_neg hi, if_neg (by omega)]
    have e2 : nx s.a n = s.a ++ [n] := by unfold nx; rw [if_neg (by omega), if_neg hi, if_neg (by omega)]
    rw [e1, e2]
    exact (atm.rnum_new hF n hn hi ha).mono fun e w' ⟨he, nx'⟩ => ⟨he, up _ _ nx'⟩
/-- a place of the heap, to be written -/
theorem XX.place (fC : Fr C) (h : XX w0 N p q mb m s C wr) {k : Nat} (hk : k < s.h.length) : ∃ g c, wr.cell? ⟨p, 0, none⟩ = some (.slice (some ⟨g, 0, none⟩) s.h.length c) ∧ s.h.length ≤ c ∧ wr.cell? ⟨g, k, none⟩ = some (.int .u64 (s.h.getD k 0)) ∧ wr.frozen? ⟨g, k, none⟩ = false ∧ ∀ u, W64 u → XX w0 N p q mb m ⟨s.h.set k u, s.a, s.v⟩ C (wr.setCell ⟨g, k, none⟩ (.int .u64 u)) := by
  obtain ⟨F, hF, up⟩ := h.heap fC
  obtain ⟨g, c, c0, f0, hg, hgp, _, hc, q0, q1, c1, f1⟩ := hF.at_ k hk
  exact ⟨g, c, c0, hc, q0, q1, fun u hu => up _ _ (hp.Next.set_ hF hk c0 u hu)⟩
theorem XX.len (fC : Fr C) (h : XX w0 N p q mb m s C wr) : (s.h.length : Int) ≤ 1048576 ∧ (s.h.length : Int) ≤ m ∧ m ≤ 1048576 ∧ ∀ c ∈ s.h, W64 c := by
  obtain ⟨F, hF, up⟩ := h.heap fC
  exact ⟨hF.len_le, hF.fits, hF.most, hF.wf⟩
end
end Go.Proofs.Ytickdmfcdfocmaa.rpt
namespace Go.Proofs.Ytickdmfcdfocmaa.rpt
set_option linter.unusedVariables false
open Go.ChangeShapes Go.WideShapes Go.ChangeAt Go.RowKit Go.Maps
open Go.Proofs.Ytickdmfcdfocmaa.hp Go.Proofs.Ytickdmfcdfocmaa.cel Go.Proofs.Ytickdmfcdfocmaa.kp Go.Proofs.Ytickdmfcdfocmaa.ob Go.Proofs.Ytickdmfcdfocmaa.pm Go.Proofs.Ytickdmfcdfocmaa.tm Go.Proofs.Ytickdmfcdfocmaa.lie
open Go.Proofs.Ytickdmfcdfocmaa.atm (nv ne nx)
def PutsR (p q mb : Nat) (m : Int) (t : Tm) (own : Int) (s : S) (w : World) (N : Nat → Prop) (e : Ending) (w' : World) : Prop :=
  ∃ c0, e = .returned (.tuple #[.int .u64 c0, .int .i64 (put m t own s).2.1]) ∧ ((put m t own s).2.1 = 0 → c0 = (put m t own s).1) ∧ W64 c0 ∧ Nx (PB p q mb m (put m t own s).2.2) w N w'
theorem PutsR.of {p q mb : Nat} {m : Int} {t : Tm} {own : Int} {s s' : S} {w : World} {N : Nat → Prop} {c0 c e1 : Int} {w' : World} (h : put m t own s = (c, e1, s')) (hc : e1 = 0 → c0 = c) (hw : W64 c0) (hn : Nx (PB p q mb m s') w N w') : PutsR p q mb m t own s w N (.returned (.tuple #[.int .u64 c0, .int .i64 e1])) w' := by
  unfold PutsR; rw [h]; exact ⟨c0, rfl, hc, hw, hn⟩
theorem sv_w {i : Int} : W64 (sv i) := by unfold sv; split; exact jn_w _ (by decide) (by decide); exact ⟨by decide, by decide⟩
section
variable {p q mb : Nat} {m own : Int} {s : S} {w : World} {N : Nat → Prop} {n : ByteArray} {i re im : Int} {a : Option Addr} {len c : Nat} {l : List Tm}
theorem px_room {l : List Int} {m u : Int} (h : (l.length : Int) < m) : px l m u = l ++ [u] ∧ pv l m = l.length ∧ pe l m = 0 := by unfold px pv pe; rw [if_pos h, if_pos h, if_pos h]; exact ⟨rfl, rfl, rfl⟩
theorem px_none {l : List Int} {m u : Int} (h : ¬ (l.length : Int) < m) : px l m u = l ∧ pv l m = 0 ∧ pe l m = 4 := by unfold px pv pe; rw [if_neg h, if_neg h, if_neg h]; exact ⟨rfl, rfl, rfl⟩
end
end Go.Proofs.Ytickdmfcdfocmaa.rpt
namespace Go.Proofs.Ytickdmfcdfocmaa.rpt
set_option linter.unusedVariables false
open Go.ChangeShapes Go.WideShapes Go.ChangeAt Go.RowKit Go.Maps
open Go.Proofs.Ytickdmfcdfocmaa.hp Go.Proofs.Ytickdmfcdfocmaa.cel Go.Proofs.Ytickdmfcdfocmaa.kp Go.Proofs.Ytickdmfcdfocmaa.ob Go.Proofs.Ytickdmfcdfocmaa.pm Go.Proofs.Ytickdmfcdfocmaa.tm Go.Proofs.Ytickdmfcdfocmaa.lie
open Go.Proofs.Ytickdmfcdfocmaa.atm (nv ne nx)
section
variable {p q mb : Nat} {m own : Int} {s : S} {w : World} {N : Nat → Prop} {n : ByteArray} {i re im : Int} {a : Option Addr} {len c : Nat} {l : List Tm}
abbrev BT (k : Int) (n : ByteArray) (i re im : Int) (a : Option Addr) (len c : Nat) : Obj := .cells #[.int .i64 k, .string n, .int .i64 i, .int .u64 re, .int .u64 im, .slice a len c] 41 (0, 0)
/-- the map is written, and read -/
theorem XX.put {b : Nat} {o : Obj} {wr : World} (h : XX w N p q mb m s (Blk b o) wr) {D : DataW Unit} (hD : wr.ownsMap Try.prog 2 (plainElem (H := Unit) Try.prog 25) mb s.v.length D) (hv : VM D s.v) {i c : Int} (hi : pm.look s.v i = none) {w7 : World}
    (hm : w7.ownsMap Try.prog 2 (plainElem (H := Unit) Try.prog 25) mb (s.v.length + 1) (D.put (CK i) (.lit (.int .u64 c)))) (g : wr.grownBy w7 (some mb)) : XX w N p q mb m ⟨s.h, s.a, s.v ++ [(i, c)]⟩ (Blk b o) w7 := by
  obtain ⟨D', hD', hv', up, hz⟩ := h.vars (Fr.blk _ _)
  exact up _ _ w7 (by rw [List.length_append]; exact hm) (hv.put hD.isMap hi) (size_new hD hv hi (size_same hD hv hD' hv' hz)) g
end
end Go.Proofs.Ytickdmfcdfocmaa.rpt
namespace Go.Proofs.Ytickdmfcdfocmaa.rpt
set_option linter.unusedVariables false
open Go.ChangeShapes Go.WideShapes Go.ChangeAt Go.RowKit Go.Maps
open Go.Proofs.Ytickdmfcdfocmaa.hp Go.Proofs.Ytickdmfcdfocmaa.cel Go.Proofs.Ytickdmfcdfocmaa.kp Go.Proofs.Ytickdmfcdfocmaa.ob Go.Proofs.Ytickdmfcdfocmaa.pm Go.Proofs.Ytickdmfcdfocmaa.tm Go.Proofs.Ytickdmfcdfocmaa.lie
open Go.Proofs.Ytickdmfcdfocmaa.atm (nv ne nx)
def L1 (w : World) (N : Nat → Prop) (p q mb : Nat) (m : Int) (C : Ob) (len : Nat) (h1 : List Int) (a : List ByteArray) (v : List (Int × Int)) (g : Nat) (ev iv : Value) (wr : World) : Prop :=
  ∃ (k : Nat) (l' : List Int) (e : Int), k + g = len ∧ iv = .int .i64 k ∧ ev = .int .i64 e ∧ ((e = 0 ∧ more m g l' = more m len h1) ∨ (e = 4 ∧ more m len h1 = (4, l'))) ∧ XX w N p q mb m ⟨l', a, v⟩ C wr
def C1 (w : World) (N : Nat → Prop) (p q mb : Nat) (m : Int) (C : Ob) (len : Nat) (h1 : List Int) (a : List ByteArray) (v : List (Int × Int)) (ev : Value) (wr : World) : Prop :=
  ∃ (l' : List Int) (e : Int), ev = .int .i64 e ∧ more m len h1 = (e, l') ∧ XX w N p q mb m ⟨l', a, v⟩ C wr
/-- what the second loop is to make -/
def fin (m : Int) (l : List Tm) (x e : Int) (p : Nat) (s : S) : Int × S := if e = 0 then putL m l p s else (e, s)
def L2 (w : World) (N : Nat → Prop) (p q mb : Nat) (m : Int) (C : Ob) (l : List Tm) (at' : Nat) (r : Int × S) (g : Nat) (ev iv : Value) (wr : World) : Prop :=
  ∃ (k : Nat) (s' : S) (e : Int), k ≤ l.length ∧ g = l.length - k ∧ iv = .int .i64 k ∧ ev = .int .i64 e ∧ ((e = 0 ∧ putL m (l.drop k) (at' + 1 + k) s' = r ∧ at' + 1 + l.length ≤ s'.h.length ∧ s'.a.length + sizeL (l.drop k) ≤ 4096 ∧ s'.v.length + sizeL (l.drop k) ≤ 900000) ∨ (e ≠ 0 ∧ r = (e, s'))) ∧ XX w N p q mb m s' C wr
def C2 (w : World) (N : Nat → Prop) (p q mb : Nat) (m : Int) (C : Ob) (r : Int × S) (ev : Value) (wr : World) : Prop := ∃ (s' : S) (e : Int), ev = .int .i64 e ∧ r = (e, s') ∧ XX w N p q mb m s' C wr
/-- arguments, where memory has turned elsewhere -/
theorem row_at {w wr : World} {N K : Nat → Prop} {l : List Tm} {a : Option Addr} (h : TRow N w l a 0) (k : kp.Keep N w wr) (sub : ∀ i, K i → N i ∨ w.heap.size ≤ i) : TRow K wr l a 0 :=
  TRow.keep k (fun b hb hK => (sub b hK).resolve_right (by omega)) l 0 h
theorem more_e (m : Int) : ∀ (n : Nat) (l : List Int), (more m n l).1 = 0 ∨ (more m n l).1 = 4
  | 0, l => Or.inl rfl
  | n + 1, l => by
    unfold more
    split
    · exact more_e m n _
    · exact Or.inr rfl
theorem wr1 {a : Nat} (h : a ≤ 1048576) : wrap64 ((a : Int) + 1) = (a : Int) + 1 := by unfold wrap64; omega
theorem wr2 {a k x : Nat} (hx : x = a + 1 + k) (h : x ≤ 1048576) : wrap64 ((a : Int) + 1 + (k : Int)) = (x : Int) := by unfold wrap64; omega
theorem more_len (m : Int) : ∀ (n : Nat) (l : List Int), (more m n l).1 = 0 → (more m n l).2.length = l.length + n
  | 0, l, _ => rfl
  | n + 1, l, h => by
    unfold more at h ⊢
    split at h
    · rename_i hr
      rw [if_pos hr]
      have := more_len m n _ h
      rw [this]; simp; omega
    · cases h
theorem put_of {m : Int} {l : List Tm} {h1 h2 : List Int} {e9 : Int} {r : Int × S} {P : Int × Int × S} {a : List ByteArray} {v : List (Int × Int)} {at' : Nat} (hm : more m l.length h1 = (e9, h2)) (hr : r = if e9 = 0 then putL m l (at' + 1) ⟨h2, a, v⟩ else (e9, ⟨h2, a, v⟩))
    (hP : P = (match more m l.length h1 with
          | (e, h) => if e = 0 then (match putL m l (at' + 1) ⟨h, a, v⟩ with
              | (e, s') => if e = 0 then (jn 1 at', 0, s') else (0, e, s'))
            else (0, e, ⟨h, a, v⟩))) : P = if r.1 = 0 then (jn 1 at', 0, r.2) else (0, r.1, r.2) := by
  rw [hm] at hP
  dsimp only at hP
  by_cases he : e9 = 0
  · rw [if_pos he] at hP hr
    rw [hP, hr]
  · rw [if_neg he] at hP hr
    rw [hP, hr, if_neg he]
end Go.Proofs.Ytickdmfcdfocmaa.rpt
namespace Go.Proofs.Ytickdmfcdfocmaa.rpt
set_option linter.unusedVariables false
open Go.ChangeShapes Go.WideShapes Go.ChangeAt Go.RowKit Go.Maps
open Go.Proofs.Ytickdmfcdfocmaa.hp Go.Proofs.Ytickdmfcdfocmaa.cel Go.Proofs.Ytickdmfcdfocmaa.kp Go.Proofs.Ytickdmfcdfocmaa.ob Go.Proofs.Ytickdmfcdfocmaa.pm Go.Proofs.Ytickdmfcdfocmaa.tm Go.Proofs.Ytickdmfcdfocmaa.lie Go.Proofs.Ytickdmfcdfocmaa.rmy
theorem put_zero (m : Int) (t : Tm) (own : Int) (s : S) : (put m t own s).2.1 ≠ 0 → (put m t own s).1 = 0 := by
  obtain ⟨k, n, i, re, im, l⟩ := t
  rw [put]
  repeat' split
  all_goals first
    | (intro h; rfl)
    | (intro h; exact absurd rfl h)
theorem qV (w : World) (r : Option Nat) : (binOp .eql 113 (.map r) (.map none)).run Try.prog w = .ok (.bool r.isNone) w := run_eql_map_nil w _ _ _ r Try.underlying113
/-- what Put answers, what there is behind it -/
def putT (m : Int) (t : Tm) (s : S) : Int × Int × S := if may t = 0 then put m t (-1) s else (0, may t, s)
section
variable {p q mb : Nat} {m : Int} {s : S} {w : World} {N : Nat → Prop}
end
end Go.Proofs.Ytickdmfcdfocmaa.rpt
