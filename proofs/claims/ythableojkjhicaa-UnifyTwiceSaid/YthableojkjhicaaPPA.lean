/- The heap, names and variables of the project side by side, as one object; the calls upon it. The putter's calls for a node by itself: tagged, place, variable, words, compound, node. What is still to be laid, as a stack: the mathematics; a scope with two labels; the stack in memory. The putter's lay: a row of what is still to be laid, two labels. The project's Put: with a map, without one, of nothing. -/
import Derived.Test.YthableojkjhicaaRPutA
import Derived.Test.YthableojkjhicaaHeap
import Derived.Test.YthableojkjhicaaAtoms
import Derived.Test.YthableojkjhicaaPutM
import Derived.LoopTactic
import Derived.Deep.LoopGhost
import Derived.StillTailTactics
import Derived.Deep.RegionHeld3
import Derived.Test.YthableojkjhicaaRow
import Derived.ScopeJumps
import Derived.Test.YthableojkjhicaaWalk
namespace Go.Proofs.Ythableojkjhicaa.ppt
set_option linter.unusedVariables false
open Go.ChangeShapes Go.WideShapes Go.ChangeAt Go.RowKit Go.Maps
open Go.Proofs.Ythableojkjhicaa.hp Go.Proofs.Ythableojkjhicaa.cel Go.Proofs.Ythableojkjhicaa.kp Go.Proofs.Ythableojkjhicaa.ob Go.Proofs.Ythableojkjhicaa.pm Go.Proofs.Ythableojkjhicaa.tm
open Go.Proofs.Ythableojkjhicaa.atm (nv ne nx Tab)
open Go.Proofs.Ythableojkjhicaa.rpt (toA toK CK CK_ne law zeroC VM VO frV HB frHB mapC_keep)
def PO (q : Nat) (a : List ByteArray) : Ob := fun w F => Tab w q F a
theorem frPO {q : Nat} {a : List ByteArray} : Fr (PO q a) := ⟨fun h => Tab.lt h, fun h k d => Tab.keep h (toA k) d⟩
def PB (p q mb : Nat) (m : Int) (s : S) : Ob := Tim (HB TH p s.h m) (Tim (PO q s.a) (VO mb s.v))
theorem frP {p q mb : Nat} {m : Int} {s : S} : Fr (PB p q mb m s) := frHB.tim (frPO.tim frV)
section
variable {w w0 wr w' : World} {p q mb : Nat} {m : Int} {s s' : S} {C : Ob} {N K : Nat → Prop}
/-- behind w0, beside C -/
def XX (w0 : World) (N : Nat → Prop) (p q mb : Nat) (m : Int) (s : S) (C : Ob) (wr : World) : Prop := Nx (Tim (PB p q mb m s) C) w0 N wr
theorem XX.open_ (fC : Fr C) (h : XX w0 N p q mb m s C wr) : ∃ K, PB p q mb m s wr K ∧ (∀ k, K k → N k ∨ w0.heap.size ≤ k) ∧ kp.Keep N w0 wr ∧ ∀ s' w', Nx (PB p q mb m s') wr K w' → XX w0 N p q mb m s' C w' := by
  obtain ⟨K, a, k, sub⟩ := h
  obtain ⟨K2, K3, b2, b3, d, e⟩ := a
  have hlt := fC.lt b3
  refine ⟨K2, b2, fun i hi => sub i ((e i).2 (Or.inl hi)), k, fun s' w' ⟨K', a', k', s3⟩ => ?_⟩
  refine Nx.trans k sub ⟨fun i => K' i ∨ K3 i, ⟨K', K3, a', fC.keep b3 k' (fun i hm hk => d i hk hm), fun i hk hm => ?_, fun _ => Iff.rfl⟩, k'.mono fun i hi => (e i).2 (Or.inl hi), fun i hi => ?_⟩
  · rcases s3 i hk with h | h
    · exact d i h hm
    · have := hlt i hm; omega
  · rcases hi with hi | hi
    · exact (s3 i hi).imp (fun h => (e i).2 (Or.inl h)) id
    · exact Or.inl ((e i).2 (Or.inr hi))
theorem XX.start (h : PB p q mb m s w0 N) (o : Obj) : XX w0 N p q mb m s (Blk w0.heap.size o) (w0.alloc o) := by
  have hlt := frP.lt h
  refine ⟨fun k => N k ∨ k = w0.heap.size, ⟨N, fun k => k = w0.heap.size, frP.below h (kp.ba w0 o), ⟨alloc_at w0 o, fun _ => Iff.rfl⟩, fun k h1 h2 => by have := hlt k h1; omega, fun _ => Iff.rfl⟩, Keep.of_below (kp.ba w0 o), fun k h1 => h1.imp id (fun h => by omega)⟩
theorem XX.drop (h : XX w0 N p q mb m s C wr) : Nx (PB p q mb m s) w0 N wr := by
  obtain ⟨K, ⟨K1, K2, a, b, d, e⟩, k, sub⟩ := h
  exact ⟨K1, a, k, fun i hi => sub i ((e i).2 (Or.inl hi))⟩
theorem XX.box {b : Nat} {o : Obj} (h : XX w0 N p q mb m s (Blk b o) wr) : wr.heap[b]? = some o := by
  obtain ⟨K, ⟨K1, K2, a, b, d, e⟩, k, sub⟩ := h
  exact b.1
theorem XX.cells {b : Nat} {v0 v1 v2 v3 v4 v5 : Value} {t : TypeId} (h : XX w0 N p q mb m s (Blk b (.cells #[v0, v1, v2, v3, v4, v5] t (0, 0))) wr) :
    wr.cell? ⟨b, 0, none⟩ = some v0 ∧ wr.cell? ⟨b, 1, none⟩ = some v1 ∧ wr.cell? ⟨b, 2, none⟩ = some v2 ∧ wr.cell? ⟨b, 3, none⟩ = some v3 ∧ wr.cell? ⟨b, 4, none⟩ = some v4 ∧ wr.cell? ⟨b, 5, none⟩ = some v5 := by
  have := h.box
  refine ⟨?_, ?_, ?_, ?_, ?_, ?_⟩ <;> simp [World.cell?, this]
theorem XX.drew (fC : Fr C) (h : XX w0 N p q mb m s C wr) : XX w0 N p q mb m s C wr.drew := Nx.below (frP.tim fC) h (bdr wr)
theorem XX.below (fC : Fr C) (h : XX w0 N p q mb m s C wr) (b : Below wr.heap.size wr w') : XX w0 N p q mb m s C w' := Nx.below (frP.tim fC) h b
theorem XX.heap (fC : Fr C) (h : XX w0 N p q mb m s C wr) : ∃ F, Hp TH wr p F s.h m ∧ ∀ h' w', hp.Next TH wr p F h' m w' → XX w0 N p q mb m ⟨h', s.a, s.v⟩ C w' := by
  obtain ⟨K, a, _, _, up⟩ := h.open_ fC
  obtain ⟨F, hF, u1⟩ := Tim.at1 (frPO.tim frV) a
  exact ⟨F, hF, fun h' w' n => up ⟨h', s.a, s.v⟩ _ (u1 (HB TH p h' m) _ n)⟩
theorem XX.names (fC : Fr C) (h : XX w0 N p q mb m s C wr) : ∃ F, Tab wr q F s.a ∧ ∀ a' w', atm.Next wr q F a' w' → XX w0 N p q mb m ⟨s.h, a', s.v⟩ C w' := by
  obtain ⟨K, a, _, _, up⟩ := h.open_ fC
  obtain ⟨K2, b, u1⟩ := Tim.at2 frHB a
  obtain ⟨F, hF, u2⟩ := Tim.at1 frV b
  exact ⟨F, hF, fun a' w' ⟨F', hr, k, sub⟩ => up ⟨s.h, a', s.v⟩ _ (u1 _ _ (u2 (PO q a') _ ⟨F', hr, toK k, sub⟩))⟩
theorem XX.vars (fC : Fr C) (h : XX w0 N p q mb m s C wr) : ∃ D, wr.ownsMap Try.prog 2 (plainElem (H := Unit) Try.prog 23) mb s.v.length D ∧ VM D s.v ∧ (∀ v' D' w', w'.ownsMap Try.prog 2 (plainElem (H := Unit) Try.prog 23) mb v'.length D' → VM D' v' → Maps.size D' = v'.length → wr.grownBy w' (some mb) → XX w0 N p q mb m ⟨s.h, s.a, v'⟩ C w') ∧ Maps.size D = s.v.length := by
  obtain ⟨K, a, _, _, up⟩ := h.open_ fC
  obtain ⟨K2, b, u1⟩ := Tim.at2 frHB a
  obtain ⟨F, ⟨⟨D, hD, hv, hz⟩, hF⟩, u2⟩ := Tim.at2 frPO b
  refine ⟨D, hD, hv, fun v' D' w' h1 h2 h3 g => up ⟨s.h, s.a, v'⟩ _ (u1 _ _ (u2 (VO mb v') _ ⟨F, ⟨⟨D', h1, h2, h3⟩, hF⟩, Keep.of_grown g fun k e => (hF k).2 (by injection e with e; exact e.symm), fun _ => Or.inl⟩)), hz⟩
theorem pPush (fC : Fr C) (u : Int) (hu : W64 u) (h : XX w0 N p q mb m s C wr) : Calls Try.prog 79 #[.pointer (some ⟨p, 0, none⟩), .int .u64 u] wr fun e w' => e = .returned (.tuple #[.int .i64 (pv s.h m), .int .i64 (pe s.h m)]) ∧ XX w0 N p q mb m ⟨px s.h m u, s.a, s.v⟩ C w' := by
  obtain ⟨F, hF, up⟩ := h.heap fC
  exact (push_any hF u hu).mono fun e w' ⟨he, n⟩ => ⟨he, up _ _ n⟩
theorem pVar (fC : Fr C) (h : XX w0 N p q mb m s C wr) : Calls Try.prog 50 #[.pointer (some ⟨p, 0, none⟩)] wr fun e w' => e = .returned (.tuple #[.int .i64 (pv s.h m), .int .i64 (pe s.h m)]) ∧ XX w0 N p q mb m ⟨px s.h m (s.h.length * 8), s.a, s.v⟩ C w' := by
  obtain ⟨F, hF, up⟩ := h.heap fC
  exact (var_any hF).mono fun e w' ⟨he, n⟩ => ⟨he, up _ _ n⟩
theorem pSet (fC : Fr C) (n u : Int) (hu : W64 u) (h : XX w0 N p q mb m s C wr) : Calls Try.prog 61 #[.pointer (some ⟨p, 0, none⟩), .int .i64 n, .int .u64 u] wr fun e w' => e = .returned (.bool (gb s.h n)) ∧ XX w0 N p q mb m ⟨sx s.h n u, s.a, s.v⟩ C w' := by
  obtain ⟨F, hF, up⟩ := h.heap fC
  exact (set_any hF n u hu).mono fun e w' ⟨he, n⟩ => ⟨he, up _ _ n⟩
theorem pLen (fC : Fr C) (h : XX w0 N p q mb m s C wr) : Calls Try.prog 22 #[.pointer (some ⟨p, 0, none⟩)] wr fun e w' => e = .returned (.int .i64 s.h.length) ∧ wr = w' := by
  obtain ⟨F, hF, up⟩ := h.heap fC
  exact len_any hF
theorem pNum (fC : Fr C) (n : ByteArray) (hn : n.size ≤ 200) (h : XX w0 N p q mb m s C wr) : Calls Try.prog 112 #[.pointer (some ⟨q, 0, none⟩), .string n] wr fun e w' => e = .returned (.tuple #[.int .i64 (nv s.a n), .int .i64 (ne s.a n)]) ∧ XX w0 N p q mb m ⟨s.h, nx s.a n, s.v⟩ C w' := by
  obtain ⟨F, hF, up⟩ := h.names fC
  exact (atm.num_any hF n (by unfold maxLen; omega)).mono fun e w' ⟨he, n⟩ => ⟨he, up _ _ n⟩
theorem XX.len (fC : Fr C) (h : XX w0 N p q mb m s C wr) : (s.h.length : Int) ≤ 1048576 ∧ (s.h.length : Int) ≤ m ∧ m ≤ 1048576 ∧ ∀ c ∈ s.h, W64 c := by
  obtain ⟨F, hF, up⟩ := h.heap fC
  exact ⟨hF.len_le, hF.fits, hF.most, hF.wf⟩
/-- the putter -/
def PC (p q mb : Nat) : Obj := .cells #[.pointer (some ⟨p, 0, none⟩), .pointer (some ⟨q, 0, none⟩), .map (some mb)] 90 (0, 0)
def PK (pb p q mb : Nat) (C : Ob) : Ob := Tim (Blk pb (PC p q mb)) C
theorem frPK {pb p q mb : Nat} (fC : Fr C) : Fr (PK pb p q mb C) := (Fr.blk _ _).tim fC
theorem XX.beside (h : XX w0 N p q mb m s C wr) : ∃ K, C wr K := by
  obtain ⟨K, ⟨K1, K2, a, b, d, e⟩, k, sub⟩ := h
  exact ⟨K2, b⟩
theorem XX.putter {pb : Nat} (h : XX w0 N p q mb m s (PK pb p q mb C) wr) : wr.cell? ⟨pb, 0, none⟩ = some (.pointer (some ⟨p, 0, none⟩)) ∧ wr.cell? ⟨pb, 1, none⟩ = some (.pointer (some ⟨q, 0, none⟩)) ∧ wr.cell? ⟨pb, 2, none⟩ = some (.map (some mb)) := by
  obtain ⟨K, K1, K2, a, b, d, e⟩ := h.beside
  have := a.1
  refine ⟨?_, ?_, ?_⟩ <;> simp [World.cell?, this, PC]
/-- one block more -/
theorem XX.alloc (fC : Fr C) (h : XX w0 N p q mb m s C wr) (o : Obj) : XX w0 N p q mb m s (Tim C (Blk wr.heap.size o)) (wr.alloc o) := by
  obtain ⟨K, a, k, sub⟩ := h
  have hlt := (frP.tim fC).lt a
  have hb := kp.ba wr o
  have key : Tim (Tim (PB p q mb m s) C) (Blk wr.heap.size o) (wr.alloc o) (fun i => K i ∨ i = wr.heap.size) :=
    ⟨K, fun i => i = wr.heap.size, (frP.tim fC).below a hb, ⟨alloc_at wr o, fun _ => Iff.rfl⟩, fun i h1 h2 => by have := hlt i h1; omega, fun _ => Iff.rfl⟩
  refine ⟨_, key.right_, k.trans (F' := fun _ => False) (Keep.of_below hb) (fun _ h => h.elim), fun i hi => ?_⟩
  rcases hi with hi | hi
  · exact sub i hi
  · have := k.size; exact Or.inr (by omega)
/-- what stands beside is put away -/
theorem XX.less {D : Ob} (h : XX w0 N p q mb m s (Tim C D) wr) : XX w0 N p q mb m s C wr := by
  obtain ⟨K, ⟨K1, K2, a, ⟨K3, K4, b, c, d2, e2⟩, d, e⟩, k, sub⟩ := h
  exact ⟨fun i => K1 i ∨ K3 i, ⟨K1, K3, a, b, fun i h1 h2 => d i h1 ((e2 i).2 (Or.inl h2)), fun _ => Iff.rfl⟩, k, fun i hi => sub i ((e i).2 (hi.imp id fun h => (e2 i).2 (Or.inl h)))⟩
end
end Go.Proofs.Ythableojkjhicaa.ppt
namespace Go.Proofs.Ythableojkjhicaa.ppt
set_option linter.unusedVariables false
open Go.ChangeShapes Go.WideShapes Go.ChangeAt Go.RowKit Go.Maps
open Go.Proofs.Ythableojkjhicaa.hp Go.Proofs.Ythableojkjhicaa.cel Go.Proofs.Ythableojkjhicaa.kp Go.Proofs.Ythableojkjhicaa.ob Go.Proofs.Ythableojkjhicaa.pm Go.Proofs.Ythableojkjhicaa.tm
open Go.Proofs.Ythableojkjhicaa.atm (nv ne nx Tab)
open Go.Proofs.Ythableojkjhicaa.rpt (toA toK CK CK_ne law zeroC VM VO frV HB frHB mapC_keep px_room px_none more_e)
/-- a node by itself: its cell, an error, what there is then -/
def nodeM (m : Int) : Tm → Int → S → Int × Int × S
  | .mk k n i re im l, own, s =>
    if k = 5 then (if (s.h.length : Int) < m then
        (match more m l.length (s.h ++ [jn 6 (nv s.a n * 256 + l.length)]) with
          | (e, h) => if e = 0 then (jn 1 s.h.length, 0, ⟨h, nx s.a n, s.v⟩) else (0, e, ⟨h, nx s.a n, s.v⟩))
      else (0, 4, ⟨s.h, nx s.a n, s.v⟩))
    else put m (.mk k n i re im []) own s
theorem tagged_any (t n : Int) (w : World) (h0 : 0 ≤ t) (h1 : t ≤ 6) (h2 : 0 ≤ n) (h3 : n < 2305843009213693952) : Calls Try.prog 113 #[.int .i64 t, .int .i64 n] w fun e w' => e = .returned (.int .u64 (jn t n)) ∧ w = w' := by
  have hm := make_any t n w ⟨by omega, by omega⟩ ⟨h2, by omega⟩
  have e1 : mv t n = jn t n := by unfold mv; rw [if_pos ⟨h0, h1, h3⟩]
  have e2 : mo t n = true := decide_eq_true ⟨h0, h1, h3⟩
  have hcv : IntKind.u64.wrap n = n := by rw [IntKind.wrap_u64]; omega
  rw [e1, e2] at hm
  clear e1 e2
  go_enter Try.func113, Try.ntmps113
  go_wp2_with fail
  refine hm.mono ?_; rintro e w' ⟨rfl, rfl⟩
  go_wp2_with fail
  go_ret
  exact ⟨rfl, rfl⟩
theorem place_any (c : Int) (w : World) (h : W64 c) : Calls Try.prog 83 #[.int .u64 c] w fun e w' => e = .returned (.int .i64 (c / 8)) ∧ w = w' := by
  have hv := value_any c w h
  have hcv2 : wrap64 (c / 8) = c / 8 := by obtain ⟨h0, h1⟩ := h; unfold wrap64; omega
  go_enter Try.func83, Try.ntmps83
  go_wp2_with fail
  refine hv.mono ?_; rintro e w' ⟨rfl, rfl⟩
  go_wp2_with fail
  go_ret
  exact ⟨kp.ri hcv2, rfl⟩
section
variable {w w0 wr w' : World} {p q mb pb : Nat} {m : Int} {s s' : S} {C : Ob} {N K : Nat → Prop}
/-- the map is written -/
theorem XX.put (fC : Fr C) {wr : World} (h : XX w0 N p q mb m s C wr) {D : DataW Unit} (hD : wr.ownsMap Try.prog 2 (plainElem (H := Unit) Try.prog 23) mb s.v.length D) (hv : VM D s.v) {i c : Int} (hi : pm.look s.v i = none) {w7 : World}
    (hm : w7.ownsMap Try.prog 2 (plainElem (H := Unit) Try.prog 23) mb (s.v.length + 1) (D.put (CK i) (.lit (.int .u64 c)))) (g : wr.grownBy w7 (some mb)) : XX w0 N p q mb m ⟨s.h, s.a, s.v ++ [(i, c)]⟩ C w7 := by
  obtain ⟨D', hD', hv', up, hz⟩ := h.vars fC
  exact up _ _ w7 (by rw [List.length_append]; exact hm) (hv.put hD.isMap hi) (rpt.size_new hD hv hi (rpt.size_same hD hv hD' hv' hz)) g
/-- what a node's call answers -/
def PutsN (w0 : World) (N : Nat → Prop) (p q mb : Nat) (m : Int) (C : Ob) (r : Int × Int × S) (e : Ending) (w' : World) : Prop :=
  e = .returned (.tuple #[.int .u64 r.1, .int .i64 r.2.1]) ∧ XX w0 N p q mb m r.2.2 C w'
theorem PutsN.of {r : Int × Int × S} {c e1 : Int} {s' : S} (h : r = (c, e1, s')) (hn : XX w0 N p q mb m s' C w') : PutsN w0 N p q mb m C r (.returned (.tuple #[.int .u64 c, .int .i64 e1])) w' := by
  subst h; exact ⟨rfl, hn⟩
set_option maxRecDepth 100000 in
set_option maxHeartbeats 1000000 in
theorem variable_old (fC : Fr C) (n : ByteArray) (i re im own : Int) (h : XX w0 N p q mb m s (PK pb p q mb C) wr) (hi : I64 i) {c0 : Int} (hl : pm.look s.v i = some c0) :
    Calls Try.prog 111 #[.pointer (some ⟨pb, 0, none⟩), .int .i64 i, .int .i64 own] wr (PutsN w0 N p q mb m (PK pb p q mb C) (put m (.mk 1 n i re im []) own s)) := by
  have X1 := Lib.hid h
  have hput := Lib.hid (show put m (.mk 1 n i re im []) own s = (c0, 0, s) by rw [put, if_neg (by decide), if_neg (by decide), if_neg (by decide), if_pos rfl, hl])
  obtain ⟨b0, b1, b2⟩ := h.putter
  obtain ⟨D, hD, hv, up⟩ := h.vars (frPK fC)
  have hkey : keyOf Try.prog 2 (.int .i64 i) = some (CK i) := keyOf_int_mk Try.underlying2 (WalkArith.wf_i64 (by have := hi.1; have := hi.2; omega))
  have hv2 := hv i
  rw [hl] at hv2
  have HD := Lib.hid hD
  have HV := Lib.hid hv2
  clear h hi hD hv up hv2 hl
  go_enter Try.func111, Try.ntmps111
  have hsome : (some c0).isSome = true := rfl
  go_wp2_with (at_lookup; refine wpList_lookup_own_ok_int _ rfl _ _ 51 rfl 2 23 .u64 law Try.underlying51 Try.underlying23 (zeroC _) mb _ D rfl HD.out _ _ rfl hkey ?_; intro c9 hat hwc; rw [HV.out.1, hsome])
  have hc : c9 = c0 := by
    have h2 := HV.out.2
    rw [hat] at h2
    injection h2 with e; injection e with _ e
  subst hc
  clear hat hwc
  go_ret2
  exact PutsN.of hput.out X1.out
set_option maxRecDepth 100000 in
set_option maxHeartbeats 2000000 in
theorem variable_own (fC : Fr C) (n : ByteArray) (i re im own : Int) (h : XX w0 N p q mb m s (PK pb p q mb C) wr) (hi : I64 i) (hl : pm.look s.v i = none) (h0 : 0 ≤ own) (h1 : own < 1048576) (hv9 : s.v.length < 1000000) :
    Calls Try.prog 111 #[.pointer (some ⟨pb, 0, none⟩), .int .i64 i, .int .i64 own] wr (PutsN w0 N p q mb m (PK pb p q mb C) (put m (.mk 1 n i re im []) own s)) := by
  have X1 := Lib.hid h
  have hput := Lib.hid (show put m (.mk 1 n i re im []) own s = (own * 8, 0, ⟨s.h, s.a, s.v ++ [(i, own * 8)]⟩) by rw [put, if_neg (by decide), if_neg (by decide), if_neg (by decide), if_pos rfl, hl]; dsimp only; rw [if_neg (by omega)])
  obtain ⟨b0, b1, b2⟩ := h.putter
  obtain ⟨D, hD, hv, up⟩ := h.vars (frPK fC)
  have hkey : keyOf Try.prog 2 (.int .i64 i) = some (CK i) := keyOf_int_mk Try.underlying2 (WalkArith.wf_i64 (by have := hi.1; have := hi.2; omega))
  have hv2 := hv i
  rw [hl] at hv2
  have HD := Lib.hid hD
  have HV := Lib.hid hv2
  have HVM := Lib.hid hv
  have HL := Lib.hid hl
  have ht := tagged_any 0 own wr (by omega) (by omega) h0 (by omega)
  rw [show jn 0 own = own * 8 by unfold jn; omega] at ht
  have hne : (own == -1) = false := by rw [beq_eq_false_iff_ne]; omega
  have hwf : (Lit.int .u64 (own * 8)).wf = true := WalkArith.wf_u64 (by omega)
  have HW := Lib.hid hwf
  have HK := Lib.hid hkey
  have hnone : (none : Option Int).isSome = false := rfl
  have HV9 := Lib.hid (show s.v.length < maxLen by unfold maxLen; omega)
  clear h hi hD hv up hv2 hl hwf hv9 h0 h1
  go_enter Try.func111, Try.ntmps111
  go_wp2_with (at_lookup; refine wpList_lookup_own_ok_int _ rfl _ _ 51 rfl 2 23 .u64 law Try.underlying51 Try.underlying23 (zeroC _) mb _ D rfl HD.out _ _ rfl hkey ?_; intro c9 hat hwc; rw [HV.out.1, hnone])
  refine ht.mono ?_; rintro e w' ⟨rfl, rfl⟩
  clear hat hwc
  go_wp2_with (at_mapUpdate; refine wpList_mapUpdate_own _ rfl _ _ _ 51 rfl 2 23 law Try.underlying51 _ mb s.v.length D rfl HD.out HV9.out _ _ _ rfl rfl HK.out _ [] (plainElem_int Try.underlying23 HW.out) ?_)
  intro w7 hm7 hg7
  have X7 := Lib.hid (XX.put (frPK fC) X1.out HD.out HVM.out HL.out hm7 hg7)
  clear hm7 hg7
  go_wp2_with fail
  go_ret2
  exact PutsN.of hput.out X7.out
set_option maxRecDepth 100000 in
set_option maxHeartbeats 2000000 in
theorem variable_new (fC : Fr C) (n : ByteArray) (i re im : Int) (h : XX w0 N p q mb m s (PK pb p q mb C) wr) (hi : I64 i) (hl : pm.look s.v i = none) (hv9 : s.v.length < 1000000) :
    Calls Try.prog 111 #[.pointer (some ⟨pb, 0, none⟩), .int .i64 i, .int .i64 (-1)] wr (PutsN w0 N p q mb m (PK pb p q mb C) (put m (.mk 1 n i re im []) (-1) s)) := by
  have X1 := Lib.hid h
  have hput := Lib.hid (show put m (.mk 1 n i re im []) (-1) s = if (s.h.length : Int) < m then ((s.h.length : Int) * 8, 0, ⟨s.h ++ [(s.h.length : Int) * 8], s.a, s.v ++ [(i, (s.h.length : Int) * 8)]⟩) else (0, 4, s) by rw [put, if_neg (by decide), if_neg (by decide), if_neg (by decide), if_pos rfl, hl]; dsimp only; rw [if_pos (by decide)])
  obtain ⟨b0, b1, b2⟩ := h.putter
  obtain ⟨D, hD, hv, up⟩ := h.vars (frPK fC)
  have hkey : keyOf Try.prog 2 (.int .i64 i) = some (CK i) := keyOf_int_mk Try.underlying2 (WalkArith.wf_i64 (by have := hi.1; have := hi.2; omega))
  have hv2 := hv i
  rw [hl] at hv2
  have HD := Lib.hid hD
  have HV := Lib.hid hv2
  have HL := Lib.hid hl
  have HK := Lib.hid hkey
  have hle := (h.len (frPK fC)).1
  have hvar := pVar (frPK fC) h
  have hnone : (none : Option Int).isSome = false := rfl
  have HV9 := Lib.hid (show s.v.length < maxLen by unfold maxLen; omega)
  clear h hi hD hv up hv2 hl hv9
  by_cases hr : (s.h.length : Int) < m
  · obtain ⟨e1, e2, e3⟩ := px_room (u := (s.h.length : Int) * 8) hr
    rw [e1, e2, e3] at hvar
    have HR := Lib.hid hr
    have ht := fun w => tagged_any 0 (s.h.length : Int) w (by omega) (by omega) (by omega) (by omega)
    rw [show jn 0 (s.h.length : Int) = (s.h.length : Int) * 8 by unfold jn; omega] at ht
    have hwf : (Lit.int .u64 ((s.h.length : Int) * 8)).wf = true := WalkArith.wf_u64 (by omega)
    have HW := Lib.hid hwf
    clear e1 e2 e3 hr X1 hwf
    go_enter Try.func111, Try.ntmps111
    go_wp2_with (at_lookup; refine wpList_lookup_own_ok_int _ rfl _ _ 51 rfl 2 23 .u64 law Try.underlying51 Try.underlying23 (zeroC _) mb _ D rfl HD.out _ _ rfl hkey ?_; intro c9 hat hwc; rw [HV.out.1, hnone])
    refine hvar.mono ?_; rintro e w5 ⟨rfl, x5⟩
    have X5 := Lib.hid x5
    clear hvar b0 b1 b2 hat hwc
    obtain ⟨b0, b1, b2⟩ := x5.putter
    obtain ⟨D5, hD5, hv5, _⟩ := x5.vars (frPK fC)
    have HD5 := Lib.hid hD5
    have HV5 := Lib.hid hv5
    clear x5 hD5 hv5
    go_wp2_with fail
    refine (ht _).mono ?_; rintro e w' ⟨rfl, rfl⟩
    go_wp2_with (at_mapUpdate; refine wpList_mapUpdate_own _ rfl _ _ _ 51 rfl 2 23 law Try.underlying51 _ mb s.v.length D5 rfl HD5.out HV9.out _ _ _ rfl rfl HK.out _ [] (plainElem_int Try.underlying23 HW.out) ?_)
    intro w7 hm7 hg7
    have X7 := Lib.hid (XX.put (frPK fC) X5.out HD5.out HV5.out HL.out hm7 hg7)
    clear hm7 hg7
    go_wp2_with fail
    go_ret2
    exact PutsN.of (by rw [hput.out, if_pos HR.out]) X7.out
  · obtain ⟨e1, e2, e3⟩ := px_none (u := (s.h.length : Int) * 8) hr
    rw [e1, e2, e3] at hvar
    have HR := Lib.hid hr
    clear e1 e2 e3 hr X1
    go_enter Try.func111, Try.ntmps111
    go_wp2_with (at_lookup; refine wpList_lookup_own_ok_int _ rfl _ _ 51 rfl 2 23 .u64 law Try.underlying51 Try.underlying23 (zeroC _) mb _ D rfl HD.out _ _ rfl hkey ?_; intro c9 hat hwc; rw [HV.out.1, hnone])
    refine hvar.mono ?_; rintro e w5 ⟨rfl, x5⟩
    have X5 := Lib.hid x5
    clear x5 hvar hat hwc
    go_wp2_with fail
    go_ret2
    exact PutsN.of (c := 0) (s' := s) (by rw [hput.out, if_neg (by have := HR.out; omega)]) X5.out
/-- words pushed one behind the other -/
def wds (m : Int) : List Int → List Int → Int × List Int
  | [], h => (0, h)
  | u :: r, h => if (h.length : Int) < m then wds m r (h ++ [u]) else (4, h)
def LW (w0 : World) (N : Nat → Prop) (p q mb pb : Nat) (m : Int) (C : Ob) (ws : List Int) (s : S) (g : Nat) (iv : Value) (wr : World) : Prop :=
  ∃ (k : Nat) (h' : List Int), k + g = ws.length ∧ iv = .int .i64 k ∧ wds m (ws.drop k) h' = wds m ws s.h ∧ XX w0 N p q mb m ⟨h', s.a, s.v⟩ (PK pb p q mb C) wr
/-- the words' memory -/
def Wo (C : Ob) (g : Nat) (ws : List Int) : Prop := ∀ wr K, C wr K → ∀ k x, ws[k]? = some x → wr.cell? ⟨g, k, none⟩ = some (.int .u64 x)
def CW (w0 : World) (N : Nat → Prop) (p q mb pb : Nat) (m : Int) (C : Ob) (s : S) (h2 : List Int) (wr : World) : Prop := XX w0 N p q mb m ⟨h2, s.a, s.v⟩ (PK pb p q mb C) wr
theorem XX.side (h : XX w0 N p q mb m s (PK pb p q mb C) wr) : ∃ K, C wr K := by
  obtain ⟨K, K1, K2, a, b, d, e⟩ := h.beside
  exact ⟨K2, b⟩
theorem wo_blk {D : Ob} {g : Nat} {ws : List Int} {t : TypeId} : Wo (Tim D (Blk g (.cells (ws.map (Value.int .u64)).toArray t (0, 0)))) g ws := by
  rintro wr K ⟨K1, K2, _, hb, _⟩ k x hx
  have := hb.1
  simp [World.cell?, this, hx]
set_option maxRecDepth 100000 in
set_option maxHeartbeats 2000000 in
theorem words_any (fC : Fr C) (tag : Int) (ht0 : 0 ≤ tag) (ht6 : tag ≤ 6) (ws : List Int) (g : Nat) (hw : Wo C g ws) (hu : ∀ u ∈ ws, W64 u) (h8 : ws.length ≤ 8) (h : XX w0 N p q mb m s (PK pb p q mb C) wr) (R : Int × Int × S) (hR : R = (if (wds m ws s.h).1 = 0 then jn tag s.h.length else 0, (wds m ws s.h).1, ⟨(wds m ws s.h).2, s.a, s.v⟩)) :
    Calls Try.prog 115 #[.pointer (some ⟨pb, 0, none⟩), .int .i64 tag, .slice (some ⟨g, 0, none⟩) ws.length ws.length] wr (PutsN w0 N p q mb m (PK pb p q mb C) R) := by
  have X1 := Lib.hid h
  have HR := Lib.hid hR
  obtain ⟨b0, b1, b2⟩ := h.putter
  have hlen := pLen (frPK fC) h
  have hle := (h.len (frPK fC)).1
  have HU := Lib.hid hu
  have HWO := Lib.hid hw
  have HT := Lib.hid (show 0 ≤ tag ∧ tag ≤ 6 from ⟨ht0, ht6⟩)
  clear h hu hw ht0 ht6 hR
  obtain ⟨z, hz⟩ : ∃ z, z = s.h.length := ⟨_, rfl⟩
  rw [← hz] at hlen hle
  have HZ := Lib.hid hz
  clear hz
  go_enter Try.func115, Try.ntmps115
  go_wp2_with fail
  refine hlen.mono ?_; rintro e w' ⟨rfl, rfl⟩
  clear hlen b0 b1 b2
  go_wp2_with fail
  go_loopg [20] ws.length (LW w0 N p q mb pb m C ws s)
  case atStart => exact ⟨0, s.h, by omega, rfl, rfl, X1.out⟩
  case round =>
    obtain ⟨k9, h', hkg, rfl, hst, x⟩ := hrel
    by_cases hlt : k9 < ws.length
    · obtain ⟨K, cK⟩ := x.side
      obtain ⟨b0, b1, b2⟩ := x.putter
      have hd : ws.drop k9 = ws[k9] :: ws.drop (k9 + 1) := List.drop_eq_getElem_cons hlt
      have hx := HWO.out _ _ cK k9 ws[k9] (List.getElem?_eq_getElem hlt)
      have hu := HU.out ws[k9] (List.getElem_mem hlt)
      rw [hd, wds] at hst
      obtain ⟨g9, rfl⟩ : ∃ g9, gk = g9 + 1 := ⟨gk - 1, by omega⟩
      have hki : (k9 : Int) < (ws.length : Int) := by omega
      have hpush := pPush (frPK fC) ws[k9] hu x
      dsimp only at hpush
      generalize ws[k9] = u at *
      have HS := Lib.hid hst
      have HX := Lib.hid x
      by_cases hr : (h'.length : Int) < m
      · obtain ⟨e1, e2, e3⟩ := px_room (u := u) hr
        rw [e1, e2, e3] at hpush
        have HRR := Lib.hid hr
        clear hst cK hd hu e1 e2 e3 hr x
        go_wp2_with fail
        refine hpush.mono ?_; rintro e w5 ⟨rfl, x5⟩
        have X5 := Lib.hid x5
        clear x5 hpush b0 b1 b2 hx
        go_wp2_with fail
        go_roundg g9
        case measure => omega
        case rel =>
          have h2 := HS.out
          rw [if_pos HRR.out] at h2
          exact ⟨k9 + 1, _, by omega, by go_num, h2, X5.out⟩
      · obtain ⟨e1, e2, e3⟩ := px_none (u := u) hr
        rw [e1, e2, e3] at hpush
        have HRR := Lib.hid hr
        clear hst cK hd hu e1 e2 e3 hr x
        go_wp2_with fail
        refine hpush.mono ?_; rintro e w5 ⟨rfl, x5⟩
        have X5 := Lib.hid x5
        clear x5 hpush b0 b1 b2 hx
        go_wp2_with fail
        go_ret2
        have h2 := HS.out
        rw [if_neg (by have := HRR.out; omega)] at h2
        have hr := HR.out
        rw [← h2] at hr
        exact PutsN.of hr X5.out
    · have hd : ws.drop k9 = [] := List.drop_eq_nil_of_le (by omega)
      rw [hd, wds] at hst
      have HS := Lib.hid hst
      have XW := Lib.hid x
      have hki : ¬ (k9 : Int) < (ws.length : Int) := by omega
      have ht := tagged_any tag (z : Int) wr HT.out.1 HT.out.2 (by omega) (by omega)
      clear hst x hd
      go_wp2_with fail
      refine ht.mono ?_; rintro e w' ⟨rfl, rfl⟩
      go_wp2_with fail
      go_ret2
      have hr := HR.out
      rw [← HS.out, ← HZ.out] at hr
      exact PutsN.of hr XW.out
/-! ### a compound -/
def K1 (w0 : World) (N : Nat → Prop) (p q mb pb : Nat) (m : Int) (C : Ob) (len : Nat) (h1 : List Int) (a : List ByteArray) (v : List (Int × Int)) (g : Nat) (ev iv : Value) (wr : World) : Prop :=
  ∃ (k : Nat) (l' : List Int) (e : Int), k + g = len ∧ iv = .int .i64 k ∧ ev = .int .i64 e ∧ ((e = 0 ∧ more m g l' = more m len h1) ∨ (e = 4 ∧ more m len h1 = (4, l') ∧ ¬ (l'.length : Int) < m)) ∧ XX w0 N p q mb m ⟨l', a, v⟩ (PK pb p q mb C) wr
def K2 (w0 : World) (N : Nat → Prop) (p q mb pb : Nat) (m : Int) (C : Ob) (len : Nat) (h1 : List Int) (a : List ByteArray) (v : List (Int × Int)) (ev : Value) (wr : World) : Prop :=
  ∃ (l' : List Int) (e : Int), ev = .int .i64 e ∧ more m len h1 = (e, l') ∧ XX w0 N p q mb m ⟨l', a, v⟩ (PK pb p q mb C) wr
theorem XX.tcell {b : Nat} {k : Int} {n : ByteArray} {i re im : Int} {a : Option Addr} {len c : Nat} {D : Ob} (h : XX w0 N p q mb m s (PK pb p q mb (Tim D (Blk b (rpt.BT k n i re im a len c)))) wr) :
    wr.cell? ⟨b, 0, none⟩ = some (.int .i64 k) ∧ wr.cell? ⟨b, 1, none⟩ = some (.string n) ∧ wr.cell? ⟨b, 2, none⟩ = some (.int .i64 i) ∧ wr.cell? ⟨b, 3, none⟩ = some (.int .u64 re) ∧ wr.cell? ⟨b, 4, none⟩ = some (.int .u64 im) ∧ wr.cell? ⟨b, 5, none⟩ = some (.slice a len c) := by
  obtain ⟨K, K1, K2, _, hb, _, _⟩ := h.side
  have := hb.1
  refine ⟨?_, ?_, ?_, ?_, ?_, ?_⟩ <;> simp [World.cell?, this]
/-- one block more beside the putter -/
theorem XX.more (fC : Fr C) (h : XX w0 N p q mb m s (PK pb p q mb C) wr) (o : Obj) : XX w0 N p q mb m s (PK pb p q mb (Tim C (Blk wr.heap.size o))) (wr.alloc o) := by
  obtain ⟨K, ⟨K1, K2, a, b, d, e⟩, k, sub⟩ := h.alloc (frPK fC) o
  exact ⟨K, ⟨K1, K2, a, b.right_, d, e⟩, k, sub⟩
theorem XX.back {D : Ob} (h : XX w0 N p q mb m s (PK pb p q mb (Tim C D)) wr) : XX w0 N p q mb m s (PK pb p q mb C) wr := by
  obtain ⟨K, ⟨K1, K2, a, ⟨K3, K4, b, ⟨K5, K6, c, g, d3, e3⟩, d2, e2⟩, d, e⟩, k, sub⟩ := h
  refine ⟨fun i => K1 i ∨ (K3 i ∨ K5 i), ⟨K1, fun i => K3 i ∨ K5 i, a, ⟨K3, K5, b, c, fun i h1 h2 => d2 i h1 ((e3 i).2 (Or.inl h2)), fun _ => Iff.rfl⟩, fun i h1 h2 => d i h1 ((e2 i).2 (h2.imp id fun h => (e3 i).2 (Or.inl h))), fun _ => Iff.rfl⟩, k, fun i hi => sub i ((e i).2 (hi.imp id fun h => (e2 i).2 (h.imp id fun h => (e3 i).2 (Or.inl h))))⟩
set_option maxRecDepth 100000 in
set_option maxHeartbeats 4000000 in
theorem compound_any (fC : Fr C) (n : ByteArray) (i re im : Int) (a : Option Addr) (l : List Tm) (c : Nat) (hn : n.size ≤ 200) (hl1 : 1 ≤ l.length) (hl2 : l.length ≤ 20) (ha : s.a.length < 4096) (h : XX w0 N p q mb m s (PK pb p q mb C) wr) (own : Int) (R : Int × Int × S) (hR : R = nodeM m (.mk 5 n i re im l) own s) :
    Calls Try.prog 116 #[.pointer (some ⟨pb, 0, none⟩), .agg #[.int .i64 5, .string n, .int .i64 i, .int .u64 re, .int .u64 im, .slice a l.length c]] wr (PutsN w0 N p q mb m (PK pb p q mb C) R) := by
  have X1 := Lib.hid (h.more fC (rpt.BT 5 n i re im a l.length c))
  obtain ⟨tb, htb⟩ : ∃ tb, tb = wr.heap.size := ⟨_, rfl⟩
  obtain ⟨Q, hQ⟩ : ∃ Q : Ob, Q = Tim C (Blk tb (rpt.BT 5 n i re im a l.length c)) := ⟨_, rfl⟩
  have fQ := Lib.hid (show Fr Q by rw [hQ]; exact fC.tim (Fr.blk _ _))
  obtain ⟨w1, hw1⟩ : ∃ w1, w1 = wr.alloc (.cells #[.int .i64 5, .string n, .int .i64 i, .int .u64 re, .int .u64 im, .slice a l.length c] 36) := ⟨_, rfl⟩
  rw [← htb, ← hQ, ← hw1] at X1
  obtain ⟨q1, q2, q3, _, _⟩ := name_ok hn ha
  have hnum : ∀ w2, XX w0 N p q mb m s (PK pb p q mb Q) w2 → Calls Try.prog 112 #[.pointer (some ⟨q, 0, none⟩), .string n] w2 fun e w' => e = .returned (.tuple #[.int .i64 (nv s.a n), .int .i64 0]) ∧ XX w0 N p q mb m ⟨s.h, nx s.a n, s.v⟩ (PK pb p q mb Q) w' := fun w2 x => by
    have := pNum (frPK fQ.out) n hn x
    rw [q1] at this; exact this
  have BK := Lib.hid (fun (s' : S) (w' : World) (x : XX w0 N p q mb m s' (PK pb p q mb Q) w') => XX.back (C := C) (show XX w0 N p q mb m s' (PK pb p q mb (Tim C _)) w' from hQ ▸ x))
  have TC := Lib.hid (fun (s' : S) (w' : World) (x : XX w0 N p q mb m s' (PK pb p q mb Q) w') => XX.tcell (D := C) (k := 5) (n := n) (i := i) (re := re) (im := im) (a := a) (len := l.length) (c := c) (b := tb) (show XX w0 N p q mb m s' (PK pb p q mb (Tim C _)) w' from hQ ▸ x))
  have HR := Lib.hid (show R = if (s.h.length : Int) < m then
        (match more m l.length (s.h ++ [jn 6 (nv s.a n * 256 + l.length)]) with
          | (e, h) => if e = 0 then (jn 1 s.h.length, 0, ⟨h, nx s.a n, s.v⟩) else (0, e, ⟨h, nx s.a n, s.v⟩))
      else (0, 4, ⟨s.h, nx s.a n, s.v⟩) by rw [hR, nodeM, if_pos rfl])
  obtain ⟨b0, b1, b2⟩ := X1.out.putter
  obtain ⟨y0, y1, y2, y3, y4, y5⟩ := TC.out _ _ X1.out
  obtain ⟨j, hj⟩ : ∃ j, j = nv s.a n := ⟨_, rfl⟩
  rw [← hj] at hnum q2 q3 HR
  have HJ := Lib.hid hj
  have HH := Lib.hid h
  clear h hR hj hQ fC q1 ha hn
  go_enter Try.func116, Try.ntmps116
  go_wp2_with fail
  rw [← htb, ← hw1]
  have hX1 := X1.out
  have SC : ∀ s' w', XX w0 N p q mb m s' (PK pb p q mb Q) w' → w'.cell? ⟨pb, 1, none⟩ = some (.pointer (some ⟨q, 0, none⟩)) ∧ w'.cell? ⟨tb, 1, none⟩ = some (.string n) := fun s' w' x => ⟨x.putter.2.1, (TC.out _ _ x).2.1⟩
  clear hw1 htb b0 b1 b2 y0 y1 y2 y3 y4 y5
  go_region_held3 (fun w' => w'.cell? ⟨pb, 1, none⟩ = some (.pointer (some ⟨q, 0, none⟩)) ∧ w'.cell? ⟨tb, 1, none⟩ = some (.string n))
    (first | exact SC _ _ (by assumption) | exact SC _ _ (XX.drew (frPK fQ.out) (by assumption)) | go_keep)
    (first | (go_at_call 112; refine (hnum _ ?_).mono ?_; (first | assumption | exact XX.drew (frPK fQ.out) (by assumption)); rintro e w2 ⟨rfl, x2⟩))
  clear SC hnum hX1 X1
  have X2 := Lib.hid x2
  obtain ⟨b0, b1, b2⟩ := x2.putter
  obtain ⟨y0, y1, y2, y3, y4, y5⟩ := TC.out _ _ x2
  have hle := (x2.len (frPK fQ.out)).1
  dsimp only at hle
  have hfun := functor_any j l.length w2 ⟨by omega, by omega⟩ ⟨by omega, by omega⟩
  have e1 : fv j l.length = jn 6 (j * 256 + l.length) := by unfold fv; rw [if_pos ⟨q2, q3, by omega, by omega⟩]
  have e2 : fo j l.length = true := decide_eq_true ⟨q2, q3, by omega, by omega⟩
  rw [e1, e2] at hfun
  have hpush := pPush (frPK fQ.out) (jn 6 (j * 256 + l.length)) (jn_w _ (by decide) (by decide)) x2
  dsimp only at hpush
  clear x2 e1 e2
  go_wp2_with fail
  refine hfun.mono ?_; rintro e w' ⟨rfl, rfl⟩
  go_wp2_with fail
  refine hpush.mono ?_; rintro e w3 ⟨rfl, x3⟩
  clear hfun hpush y0 y1 y2 y3 y4 y5 X2 b0 b1 b2
  obtain ⟨b0, b1, b2⟩ := x3.putter
  obtain ⟨y0, y1, y2, y3, y4, y5⟩ := TC.out _ _ x3
  obtain ⟨P, hP⟩ : ∃ P : Int × List Int, P = (pe s.h m, px s.h m (jn 6 (j * 256 + l.length))) := ⟨_, rfl⟩
  obtain ⟨pz, hpz⟩ : ∃ pz, pz = pv s.h m := ⟨_, rfl⟩
  obtain ⟨e3, h3⟩ := P
  injection hP with he3 hh3
  rw [← he3, ← hpz]
  rw [← hh3] at x3
  have hz : s.h.length < 2305843009213693952 := by omega
  have HZ := Lib.hid (show 0 ≤ pz ∧ pz < 2305843009213693952 by rw [hpz]; unfold pv; split <;> omega)
  have hM : (e3 = 0 ∧ more m l.length h3 = more m l.length (s.h ++ [jn 6 (j * 256 + l.length)]) ∧ (s.h.length : Int) < m ∧ pz = s.h.length) ∨ (e3 = 4 ∧ ¬ (s.h.length : Int) < m ∧ h3 = s.h) := by
    rw [he3, hh3, hpz]; unfold pe px pv
    by_cases hr : (s.h.length : Int) < m
    · rw [if_pos hr, if_pos hr, if_pos hr]; exact Or.inl ⟨rfl, rfl, hr, rfl⟩
    · rw [if_neg hr, if_neg hr, if_neg hr]; exact Or.inr ⟨rfl, hr, rfl⟩
  have HM := Lib.hid hM
  have X3 := Lib.hid x3
  clear x3 he3 hh3 hpz hM
  go_upto_block 0 with fail
  go_cut [7] (fun ev wx => ∃ e9 h9, ev = .int .i64 e9 ∧ ((e3 = 0 ∧ more m l.length h3 = (e9, h9)) ∨ (e3 = 4 ∧ e9 = 4 ∧ h9 = s.h)) ∧ XX w0 N p q mb m ⟨h9, nx s.a n, s.v⟩ (PK pb p q mb Q) wx)
  case first =>
    go_wp2_with fail
    go_loopg [7, 44] l.length (fun (g : Nat) (ev iv : Value) (wx : World) => ∃ (k : Nat) (e9 : Int) (h9 : List Int), k + g = l.length ∧ iv = .int .i64 k ∧ ev = .int .i64 e9 ∧ ((e3 = 0 ∧ e9 = 0 ∧ more m g h9 = more m l.length h3) ∨ (e3 = 0 ∧ e9 = 4 ∧ more m l.length h3 = (4, h9) ∧ ¬ (h9.length : Int) < m) ∨ (e3 = 4 ∧ e9 = 4 ∧ h9 = s.h)) ∧ XX w0 N p q mb m ⟨h9, nx s.a n, s.v⟩ (PK pb p q mb Q) wx)
    case atStart =>
      refine ⟨0, e3, h3, by omega, rfl, rfl, ?_, X3.out⟩
      rcases HM.out with h | h
      · exact Or.inl ⟨h.1, h.1, rfl⟩
      · exact Or.inr (Or.inr ⟨h.1, h.1, h.2.2⟩)
    case round =>
      obtain ⟨k9, e9, h9, hkg, rfl, rfl, hst, x⟩ := hrel
      clear b0 b1 b2 y0 y1 y2 y3 y4 y5
      obtain ⟨b0, b1, b2⟩ := x.putter
      have HST := Lib.hid hst
      have XW := Lib.hid x
      by_cases hlt : k9 < l.length
      · as_aux_lemma =>
        obtain ⟨g9, rfl⟩ : ∃ g9, gk = g9 + 1 := ⟨gk - 1, by omega⟩
        have hki : (k9 : Int) < (l.length : Int) := by omega
        have hvar := pVar (frPK fQ.out) x
        dsimp only at hvar
        clear x hst
        go_wp2_with fail
        refine hvar.mono ?_; rintro e w5 ⟨rfl, x5⟩
        have X5 := Lib.hid x5
        clear x5 hvar b0 b1 b2
        go_wp2_with fail
        go_roundg g9
        case measure => omega
        case rel =>
          refine ⟨k9 + 1, _, _, by omega, by go_num, rfl, ?_, X5.out⟩
          rcases HST.out with ⟨u1, u2, u3⟩ | ⟨u1, u2, u3, u4⟩ | ⟨u1, u2, u3⟩
          · rw [more] at u3
            by_cases hr : (h9.length : Int) < m
            · obtain ⟨v1, v2, v3⟩ := px_room (u := (h9.length : Int) * 8) hr
              rw [if_pos hr] at u3
              rw [v1, v3]
              exact Or.inl ⟨u1, rfl, u3⟩
            · obtain ⟨v1, v2, v3⟩ := px_none (u := (h9.length : Int) * 8) hr
              rw [if_neg hr] at u3
              rw [v1, v3]
              exact Or.inr (Or.inl ⟨u1, rfl, u3.symm, by omega⟩)
          · obtain ⟨v1, v2, v3⟩ := px_none (m := m) (u := (h9.length : Int) * 8) (l := h9) (by omega)
            rw [v1, v3]
            exact Or.inr (Or.inl ⟨u1, rfl, u3, by omega⟩)
          · have hr : ¬ (h9.length : Int) < m := by
              rcases HM.out with h | h
              · omega
              · rw [u3]; have := h.2.1; omega
            obtain ⟨v1, v2, v3⟩ := px_none (u := (h9.length : Int) * 8) hr
            rw [v1, v3]
            exact Or.inr (Or.inr ⟨u1, rfl, u3⟩)
      · as_aux_lemma =>
        obtain rfl : gk = 0 := by omega
        have hki : ¬ (k9 : Int) < (l.length : Int) := by omega
        clear x hst
        go_wp2_with fail
        go_meet
        refine ⟨e9, h9, rfl, ?_, XW.out⟩
        rcases HST.out with ⟨u1, u2, u3⟩ | ⟨u1, u2, u3, u4⟩ | ⟨u1, u2, u3⟩
        · exact Or.inl ⟨u1, by rw [← u3, u2]; rfl⟩
        · exact Or.inl ⟨u1, by rw [u3, u2]⟩
        · exact Or.inr ⟨u1, u2, u3⟩
  case rest =>
    obtain ⟨e9, h9, rfl, hst, x⟩ := hcut
    have HST := Lib.hid hst
    have X9 := Lib.hid (BK.out _ _ x)
    clear x hst b0 b1 b2 y0 y1 y2 y3 y4 y5
    have hr := HR.out
    by_cases he : e9 = 0
    · subst he
      have ht := fun w => tagged_any 1 pz w (by omega) (by omega) HZ.out.1 HZ.out.2
      clear hr
      go_wp2_with fail
      refine (ht _).mono ?_; rintro e w' ⟨rfl, rfl⟩
      go_wp2_with fail
      go_ret2
      have hr := HR.out
      rcases HM.out with ⟨u1, u2, u3, u4⟩ | ⟨u1, u2, u3⟩
      · rcases HST.out with ⟨_, v2⟩ | ⟨v1, _⟩
        · rw [if_pos u3, ← u2, v2] at hr
          dsimp only at hr
          rw [if_pos rfl] at hr
          rw [u4]
          exact PutsN.of hr X9.out
        · omega
      · rcases HST.out with ⟨v1, _⟩ | ⟨_, v2, _⟩ <;> omega
    · have hb : (e9 != 0) = true := by simpa using he
      have HE := Lib.hid he
      clear hr he
      go_wp2_with fail
      go_ret2
      have hr := HR.out
      have he := HE.out
      rcases HM.out with ⟨u1, u2, u3, u4⟩ | ⟨u1, u2, u3⟩
      · rcases HST.out with ⟨_, v2⟩ | ⟨v1, _⟩
        · rw [if_pos u3, ← u2, v2] at hr
          dsimp only at hr
          rw [if_neg he] at hr
          exact PutsN.of hr X9.out
        · omega
      · rcases HST.out with ⟨v1, _⟩ | ⟨_, v2, v3⟩
        · omega
        · rw [if_neg (by omega)] at hr
          have x9 := X9.out
          rw [v3] at x9
          rw [v2]
          exact PutsN.of hr x9
/-! ### a node -/
set_option maxRecDepth 100000 in
set_option maxHeartbeats 4000000 in
theorem node_1 (fC : Fr C) (n : ByteArray) (i re im : Int) (a : Option Addr) (len c : Nat) (l : List Tm) (own : Int) (hi : I64 i) (ho : own = -1 ∨ (0 ≤ own ∧ own < 1048576)) (hv : s.v.length < 1000000) (h : XX w0 N p q mb m s (PK pb p q mb C) wr) (R : Int × Int × S) (hR : R = nodeM m (.mk 1 n i re im l) own s) :
    Calls Try.prog 82 #[.pointer (some ⟨pb, 0, none⟩), .agg #[.int .i64 1, .string n, .int .i64 i, .int .u64 re, .int .u64 im, .slice a len c], .int .i64 own] wr (PutsN w0 N p q mb m (PK pb p q mb C) R) := by
  have hP : R = put m (.mk 1 n i re im []) own s := hR
  have X1 := Lib.hid (h.more fC (rpt.BT 1 n i re im a len c))
  obtain ⟨tb, htb⟩ : ∃ tb, tb = wr.heap.size := ⟨_, rfl⟩
  obtain ⟨Q, hQ⟩ : ∃ Q : Ob, Q = Tim C (Blk tb (rpt.BT 1 n i re im a len c)) := ⟨_, rfl⟩
  have fQ := Lib.hid (show Fr Q by rw [hQ]; exact fC.tim (Fr.blk _ _))
  obtain ⟨w1, hw1⟩ : ∃ w1, w1 = wr.alloc (.cells #[.int .i64 1, .string n, .int .i64 i, .int .u64 re, .int .u64 im, .slice a len c] 36) := ⟨_, rfl⟩
  rw [← htb, ← hQ, ← hw1] at X1
  have BK := Lib.hid (fun (s' : S) (w' : World) (x : XX w0 N p q mb m s' (PK pb p q mb Q) w') => XX.back (C := C) (show XX w0 N p q mb m s' (PK pb p q mb (Tim C _)) w' from hQ ▸ x))
  have TC := Lib.hid (fun (s' : S) (w' : World) (x : XX w0 N p q mb m s' (PK pb p q mb Q) w') => XX.tcell (D := C) (k := 1) (n := n) (i := i) (re := re) (im := im) (a := a) (len := len) (c := c) (b := tb) (show XX w0 N p q mb m s' (PK pb p q mb (Tim C _)) w' from hQ ▸ x))
  obtain ⟨y0, y1, y2, y3, y4, y5⟩ := TC.out _ _ X1.out
  obtain ⟨b0, b1, b2⟩ := X1.out.putter
  have HW := Lib.hid (And.intro htb hw1)
  have hcall : Calls Try.prog 111 #[.pointer (some ⟨pb, 0, none⟩), .int .i64 i, .int .i64 own] w1 (PutsN w0 N p q mb m (PK pb p q mb Q) R) := by
    rw [hP]
    cases e : pm.look s.v i with
    | some c0 => exact variable_old fQ.out n i re im own X1.out hi e
    | none =>
      rcases ho with rfl | ⟨h0, h1⟩
      · exact variable_new fQ.out n i re im X1.out hi e hv
      · exact variable_own fQ.out n i re im own X1.out hi e h0 h1 hv
  clear h hR hP hQ fC ho hv hi htb hw1
  go_enter Try.func82, Try.ntmps82
  go_wp2_with (rw [← HW.out.1, ← HW.out.2])
  refine hcall.mono ?_; rintro e w2 ⟨rfl, x2⟩
  have X2 := Lib.hid (BK.out _ _ x2)
  clear x2 hcall y0 y1 y2 y3 y4 y5 b0 b1 b2
  go_wp2_with fail
  go_ret2
  exact ⟨rfl, X2.out⟩
set_option maxRecDepth 100000 in
set_option maxHeartbeats 4000000 in
theorem node_2 (fC : Fr C) (n : ByteArray) (i re im : Int) (a : Option Addr) (len c : Nat) (l : List Tm) (own : Int) (hn : n.size ≤ 200) (ha : s.a.length < 4096) (h : XX w0 N p q mb m s (PK pb p q mb C) wr) (R : Int × Int × S) (hR : R = nodeM m (.mk 2 n i re im l) own s) :
    Calls Try.prog 82 #[.pointer (some ⟨pb, 0, none⟩), .agg #[.int .i64 2, .string n, .int .i64 i, .int .u64 re, .int .u64 im, .slice a len c], .int .i64 own] wr (PutsN w0 N p q mb m (PK pb p q mb C) R) := by
  have hP : R = put m (.mk 2 n i re im []) own s := hR
  have X1 := Lib.hid (h.more fC (rpt.BT 2 n i re im a len c))
  obtain ⟨tb, htb⟩ : ∃ tb, tb = wr.heap.size := ⟨_, rfl⟩
  obtain ⟨Q, hQ⟩ : ∃ Q : Ob, Q = Tim C (Blk tb (rpt.BT 2 n i re im a len c)) := ⟨_, rfl⟩
  have fQ := Lib.hid (show Fr Q by rw [hQ]; exact fC.tim (Fr.blk _ _))
  obtain ⟨w1, hw1⟩ : ∃ w1, w1 = wr.alloc (.cells #[.int .i64 2, .string n, .int .i64 i, .int .u64 re, .int .u64 im, .slice a len c] 36) := ⟨_, rfl⟩
  rw [← htb, ← hQ, ← hw1] at X1
  have BK := Lib.hid (fun (s' : S) (w' : World) (x : XX w0 N p q mb m s' (PK pb p q mb Q) w') => XX.back (C := C) (show XX w0 N p q mb m s' (PK pb p q mb (Tim C _)) w' from hQ ▸ x))
  have TC := Lib.hid (fun (s' : S) (w' : World) (x : XX w0 N p q mb m s' (PK pb p q mb Q) w') => XX.tcell (D := C) (k := 2) (n := n) (i := i) (re := re) (im := im) (a := a) (len := len) (c := c) (b := tb) (show XX w0 N p q mb m s' (PK pb p q mb (Tim C _)) w' from hQ ▸ x))
  obtain ⟨y0, y1, y2, y3, y4, y5⟩ := TC.out _ _ X1.out
  obtain ⟨b0, b1, b2⟩ := X1.out.putter
  have HW := Lib.hid (And.intro htb hw1)
  obtain ⟨q1, q2, q3, _, _⟩ := name_ok hn ha
  have hput := Lib.hid (show R = (jn 2 (nv s.a n), 0, ⟨s.h, nx s.a n, s.v⟩) by rw [hP, put, if_pos rfl, if_pos q1])
  have hnum : ∀ w2, XX w0 N p q mb m s (PK pb p q mb Q) w2 → Calls Try.prog 112 #[.pointer (some ⟨q, 0, none⟩), .string n] w2 fun e w' => e = .returned (.tuple #[.int .i64 (nv s.a n), .int .i64 0]) ∧ XX w0 N p q mb m ⟨s.h, nx s.a n, s.v⟩ (PK pb p q mb Q) w' := fun w2 x => by
    have := pNum (frPK fQ.out) n hn x
    rw [q1] at this; exact this
  obtain ⟨j, hj⟩ : ∃ j, j = nv s.a n := ⟨_, rfl⟩
  rw [← hj] at hnum q2 q3 hput
  have SC : ∀ s' w', XX w0 N p q mb m s' (PK pb p q mb Q) w' → w'.cell? ⟨pb, 1, none⟩ = some (.pointer (some ⟨q, 0, none⟩)) ∧ w'.cell? ⟨tb, 1, none⟩ = some (.string n) := fun s' w' x => ⟨x.putter.2.1, (TC.out _ _ x).2.1⟩
  have hX1 := X1.out
  have HJ := Lib.hid hj
  have ht := fun w => tagged_any 2 j w (by omega) (by omega) q2 (by omega)
  clear h hR hP hQ fC hn ha htb hw1 hj b0 b1 b2 y1 y2 y3 y4 y5 q1
  go_enter Try.func82, Try.ntmps82
  go_wp2_with (rw [← HW.out.1, ← HW.out.2])
  clear y0
  go_region_held3 (fun w' => w'.cell? ⟨pb, 1, none⟩ = some (.pointer (some ⟨q, 0, none⟩)) ∧ w'.cell? ⟨tb, 1, none⟩ = some (.string n))
    (first | exact SC _ _ (by assumption) | exact SC _ _ (XX.drew (frPK fQ.out) (by assumption)) | go_keep)
    (first | (go_at_call 112; refine (hnum _ ?_).mono ?_; (first | assumption | exact XX.drew (frPK fQ.out) (by assumption)); rintro e w2 ⟨rfl, x2⟩))
  have X2 := Lib.hid (BK.out _ _ x2)
  clear SC hnum hX1 x2
  go_wp2_with fail
  refine (ht _).mono ?_; rintro e w' ⟨rfl, rfl⟩
  go_wp2_with fail
  go_ret2
  exact PutsN.of hput.out X2.out
set_option maxRecDepth 100000 in
set_option maxHeartbeats 4000000 in
theorem node_3 (fC : Fr C) (n : ByteArray) (i re im : Int) (a : Option Addr) (len c : Nat) (l : List Tm) (own : Int) (hi : I64 i) (h : XX w0 N p q mb m s (PK pb p q mb C) wr) (R : Int × Int × S) (hR : R = nodeM m (.mk 3 n i re im l) own s) :
    Calls Try.prog 82 #[.pointer (some ⟨pb, 0, none⟩), .agg #[.int .i64 3, .string n, .int .i64 i, .int .u64 re, .int .u64 im, .slice a len c], .int .i64 own] wr (PutsN w0 N p q mb m (PK pb p q mb C) R) := by
  have hP : R = put m (.mk 3 n i re im []) own s := hR
  have X1 := Lib.hid (h.more fC (rpt.BT 3 n i re im a len c))
  obtain ⟨tb, htb⟩ : ∃ tb, tb = wr.heap.size := ⟨_, rfl⟩
  obtain ⟨Q, hQ⟩ : ∃ Q : Ob, Q = Tim C (Blk tb (rpt.BT 3 n i re im a len c)) := ⟨_, rfl⟩
  have fQ := Lib.hid (show Fr Q by rw [hQ]; exact fC.tim (Fr.blk _ _))
  obtain ⟨w1, hw1⟩ : ∃ w1, w1 = wr.alloc (.cells #[.int .i64 3, .string n, .int .i64 i, .int .u64 re, .int .u64 im, .slice a len c] 36) := ⟨_, rfl⟩
  rw [← htb, ← hQ, ← hw1] at X1
  have BK := Lib.hid (fun (s' : S) (w' : World) (x : XX w0 N p q mb m s' (PK pb p q mb Q) w') => XX.back (C := C) (show XX w0 N p q mb m s' (PK pb p q mb (Tim C _)) w' from hQ ▸ x))
  have TC := Lib.hid (fun (s' : S) (w' : World) (x : XX w0 N p q mb m s' (PK pb p q mb Q) w') => XX.tcell (D := C) (k := 3) (n := n) (i := i) (re := re) (im := im) (a := a) (len := len) (c := c) (b := tb) (show XX w0 N p q mb m s' (PK pb p q mb (Tim C _)) w' from hQ ▸ x))
  obtain ⟨y0, y1, y2, y3, y4, y5⟩ := TC.out _ _ X1.out
  obtain ⟨b0, b1, b2⟩ := X1.out.putter
  have HW := Lib.hid (And.intro htb hw1)
  have hs := fun w => small_any i w hi
  have hwu : W64 (u64 i) := by unfold u64 W64; rw [IntKind.wrap_u64]; omega
  obtain ⟨RW, hRW⟩ : ∃ RW : Int × Int × S, RW = (if (wds m [u64 i] s.h).1 = 0 then jn 4 s.h.length else 0, (wds m [u64 i] s.h).1, ⟨(wds m [u64 i] s.h).2, s.a, s.v⟩) := ⟨_, rfl⟩
  have hwd := words_any (fQ.out.tim (Fr.blk _ _)) 4 (by decide) (by decide) [u64 i] w1.heap.size (wo_blk (D := Q) (t := 22)) (by simpa using hwu) (by simp) (X1.out.more fQ.out _) RW hRW
  have HRW := Lib.hid hRW
  clear hRW
  have H3 := Lib.hid hP
  by_cases hso : so i = true
  · have hput := Lib.hid (show R = (sv i, 0, s) by rw [hP, put, if_neg (by decide), if_pos rfl, if_pos hso])
    rw [hso] at hs
    have X9 := Lib.hid (BK.out _ _ X1.out)
    clear h hR hP hQ fC htb hw1 hi hso H3
    go_enter Try.func82, Try.ntmps82
    go_wp2_with (rw [← HW.out.1, ← HW.out.2])
    refine (hs _).mono ?_; rintro e w' ⟨rfl, rfl⟩
    go_wp2_with fail
    go_ret2
    exact PutsN.of hput.out X9.out
  · have e1 : so i = false := by simpa using hso
    rw [e1] at hs
    have HS := Lib.hid hso
    unfold u64 at hwd
    simp only [List.map_cons, List.map_nil, List.length_singleton] at hwd
    clear h hR hP hQ fC htb hw1 hi hso e1 hwu
    go_enter Try.func82, Try.ntmps82
    go_wp2_with (rw [← HW.out.1, ← HW.out.2])
    refine (hs _).mono ?_; rintro e w' ⟨rfl, rfl⟩
    go_wp2_with fail
    refine hwd.mono ?_; rintro e w2 ⟨rfl, x2⟩
    have X2 := Lib.hid (BK.out _ _ x2.back)
    clear x2 hwd hs y0 y1 y2 y3 y4 y5 b0 b1 b2
    go_wp2_with fail
    go_ret2
    have hR : R = RW := by
      rw [H3.out, HRW.out, put, if_neg (by decide), if_pos rfl, if_neg HS.out]
      simp only [wds]
      by_cases hr : (s.h.length : Int) < m
      · simp only [if_pos hr, if_true]
      · simp only [if_neg hr]; rfl
    rw [hR]
    exact ⟨rfl, X2.out⟩
set_option maxRecDepth 100000 in
set_option maxHeartbeats 4000000 in
theorem node_4 (fC : Fr C) (n : ByteArray) (i re im : Int) (a : Option Addr) (len c : Nat) (l : List Tm) (own : Int) (hr : W64 re) (hi : W64 im) (h : XX w0 N p q mb m s (PK pb p q mb C) wr) (R : Int × Int × S) (hR : R = nodeM m (.mk 4 n i re im l) own s) :
    Calls Try.prog 82 #[.pointer (some ⟨pb, 0, none⟩), .agg #[.int .i64 4, .string n, .int .i64 i, .int .u64 re, .int .u64 im, .slice a len c], .int .i64 own] wr (PutsN w0 N p q mb m (PK pb p q mb C) R) := by
  have hP : R = put m (.mk 4 n i re im []) own s := hR
  have X1 := Lib.hid (h.more fC (rpt.BT 4 n i re im a len c))
  obtain ⟨tb, htb⟩ : ∃ tb, tb = wr.heap.size := ⟨_, rfl⟩
  obtain ⟨Q, hQ⟩ : ∃ Q : Ob, Q = Tim C (Blk tb (rpt.BT 4 n i re im a len c)) := ⟨_, rfl⟩
  have fQ := Lib.hid (show Fr Q by rw [hQ]; exact fC.tim (Fr.blk _ _))
  obtain ⟨w1, hw1⟩ : ∃ w1, w1 = wr.alloc (.cells #[.int .i64 4, .string n, .int .i64 i, .int .u64 re, .int .u64 im, .slice a len c] 36) := ⟨_, rfl⟩
  rw [← htb, ← hQ, ← hw1] at X1
  have BK := Lib.hid (fun (s' : S) (w' : World) (x : XX w0 N p q mb m s' (PK pb p q mb Q) w') => XX.back (C := C) (show XX w0 N p q mb m s' (PK pb p q mb (Tim C _)) w' from hQ ▸ x))
  have TC := Lib.hid (fun (s' : S) (w' : World) (x : XX w0 N p q mb m s' (PK pb p q mb Q) w') => XX.tcell (D := C) (k := 4) (n := n) (i := i) (re := re) (im := im) (a := a) (len := len) (c := c) (b := tb) (show XX w0 N p q mb m s' (PK pb p q mb (Tim C _)) w' from hQ ▸ x))
  obtain ⟨y0, y1, y2, y3, y4, y5⟩ := TC.out _ _ X1.out
  obtain ⟨b0, b1, b2⟩ := X1.out.putter
  have HW := Lib.hid (And.intro htb hw1)
  obtain ⟨RW, hRW⟩ : ∃ RW : Int × Int × S, RW = (if (wds m [re, im] s.h).1 = 0 then jn 5 s.h.length else 0, (wds m [re, im] s.h).1, ⟨(wds m [re, im] s.h).2, s.a, s.v⟩) := ⟨_, rfl⟩
  have hwd := words_any (fQ.out.tim (Fr.blk _ _)) 5 (by decide) (by decide) [re, im] w1.heap.size (wo_blk (D := Q) (t := 22)) (by simpa using ⟨hr, hi⟩) (by simp) (X1.out.more fQ.out _) RW hRW
  have HRW := Lib.hid hRW
  clear hRW
  have H3 := Lib.hid hP
  simp only [List.map_cons, List.map_nil, List.length_cons, List.length_nil] at hwd
  clear h hR hP hQ fC htb hw1 hi hr
  go_enter Try.func82, Try.ntmps82
  go_wp2_with (rw [← HW.out.1, ← HW.out.2])
  refine hwd.mono ?_; rintro e w2 ⟨rfl, x2⟩
  have X2 := Lib.hid (BK.out _ _ x2.back)
  clear x2 hwd y0 y1 y2 y3 y4 y5 b0 b1 b2
  go_wp2_with fail
  go_ret2
  have hR : R = RW := by
    rw [H3.out, HRW.out, put, if_neg (by decide), if_neg (by decide), if_pos rfl]
    have hl : ((s.h ++ [re]).length : Int) = s.h.length + 1 := by simp
    simp only [wds, hl]
    by_cases h1 : (s.h.length : Int) < m
    · simp only [if_pos h1]
      by_cases h2 : (s.h.length : Int) + 1 < m
      · simp only [if_pos h2, if_true]
      · simp only [if_neg h2]; rfl
    · simp only [if_neg h1]; rfl
  rw [hR]
  exact ⟨rfl, X2.out⟩
set_option maxRecDepth 100000 in
set_option maxHeartbeats 4000000 in
theorem node_5 (fC : Fr C) (n : ByteArray) (i re im : Int) (a : Option Addr) (c : Nat) (l : List Tm) (own : Int) (hn : n.size ≤ 200) (ha : s.a.length < 4096) (hl1 : 1 ≤ l.length) (hl2 : l.length ≤ 20) (h : XX w0 N p q mb m s (PK pb p q mb C) wr) (R : Int × Int × S) (hR : R = nodeM m (.mk 5 n i re im l) own s) :
    Calls Try.prog 82 #[.pointer (some ⟨pb, 0, none⟩), .agg #[.int .i64 5, .string n, .int .i64 i, .int .u64 re, .int .u64 im, .slice a l.length c], .int .i64 own] wr (PutsN w0 N p q mb m (PK pb p q mb C) R) := by
  have X1 := Lib.hid (h.more fC (rpt.BT 5 n i re im a l.length c))
  obtain ⟨tb, htb⟩ : ∃ tb, tb = wr.heap.size := ⟨_, rfl⟩
  obtain ⟨Q, hQ⟩ : ∃ Q : Ob, Q = Tim C (Blk tb (rpt.BT 5 n i re im a l.length c)) := ⟨_, rfl⟩
  have fQ := Lib.hid (show Fr Q by rw [hQ]; exact fC.tim (Fr.blk _ _))
  obtain ⟨w1, hw1⟩ : ∃ w1, w1 = wr.alloc (.cells #[.int .i64 5, .string n, .int .i64 i, .int .u64 re, .int .u64 im, .slice a l.length c] 36) := ⟨_, rfl⟩
  rw [← htb, ← hQ, ← hw1] at X1
  have BK := Lib.hid (fun (s' : S) (w' : World) (x : XX w0 N p q mb m s' (PK pb p q mb Q) w') => XX.back (C := C) (show XX w0 N p q mb m s' (PK pb p q mb (Tim C _)) w' from hQ ▸ x))
  have TC := Lib.hid (fun (s' : S) (w' : World) (x : XX w0 N p q mb m s' (PK pb p q mb Q) w') => XX.tcell (D := C) (k := 5) (n := n) (i := i) (re := re) (im := im) (a := a) (len := l.length) (c := c) (b := tb) (show XX w0 N p q mb m s' (PK pb p q mb (Tim C _)) w' from hQ ▸ x))
  obtain ⟨y0, y1, y2, y3, y4, y5⟩ := TC.out _ _ X1.out
  obtain ⟨b0, b1, b2⟩ := X1.out.putter
  have HW := Lib.hid (And.intro htb hw1)
  have hcall := compound_any fQ.out n i re im a l c hn hl1 hl2 ha X1.out own R hR
  clear h hR hQ fC htb hw1 hn ha hl1 hl2
  go_enter Try.func82, Try.ntmps82
  go_wp2_with (rw [← HW.out.1, ← HW.out.2])
  refine hcall.mono ?_; rintro e w2 ⟨rfl, x2⟩
  have X2 := Lib.hid (BK.out _ _ x2)
  clear x2 hcall y0 y1 y2 y3 y4 y5 b0 b1 b2
  go_wp2_with fail
  go_ret2
  exact ⟨rfl, X2.out⟩
/-- any node that may be -/
theorem node_any (fC : Fr C) (t : Tm) (vt : Value) {X : Nat → Prop} {w2 : World} (ht : lie.Lies X w2 t vt) (hs : sound t = true) (own : Int) (ho : own = -1 ∨ (0 ≤ own ∧ own < 1048576)) (hv : s.v.length < 1000000) (ha : s.a.length < 4096) (h : XX w0 N p q mb m s (PK pb p q mb C) wr) :
    Calls Try.prog 82 #[.pointer (some ⟨pb, 0, none⟩), vt, .int .i64 own] wr (PutsN w0 N p q mb m (PK pb p q mb C) (nodeM m t own s)) := by
  obtain ⟨k, n, i, re, im, l⟩ := t
  rw [lie.Lies] at ht
  obtain ⟨a, c, rfl, hf, hr⟩ := ht
  rcases pm.chkk (sound_chk hs) with rfl | ⟨rfl, hn⟩ | rfl | rfl | ⟨rfl, hn, hl1, hl2⟩
  · exact node_1 fC n i re im a l.length c l own ⟨hf.i0, hf.i1⟩ ho hv h _ rfl
  · exact node_2 fC n i re im a l.length c l own hn ha h _ rfl
  · exact node_3 fC n i re im a l.length c l own ⟨hf.i0, hf.i1⟩ h _ rfl
  · exact node_4 fC n i re im a l.length c l own ⟨hf.r0, by have := hf.r1; omega⟩ ⟨hf.m0, by have := hf.m1; omega⟩ h _ rfl
  · exact node_5 fC n i re im a c l own hn ha hl1 hl2 h _ rfl
end
end Go.Proofs.Ythableojkjhicaa.ppt
namespace Go.Proofs.Ythableojkjhicaa.ppt
set_option linter.unusedVariables false
open Go.ChangeShapes Go.WideShapes Go.ChangeAt Go.RowKit Go.Maps
open Go.Proofs.Ythableojkjhicaa.hp Go.Proofs.Ythableojkjhicaa.cel Go.Proofs.Ythableojkjhicaa.kp Go.Proofs.Ythableojkjhicaa.ob Go.Proofs.Ythableojkjhicaa.pm Go.Proofs.Ythableojkjhicaa.tm Go.Proofs.Ythableojkjhicaa.lie
open Go.Proofs.Ythableojkjhicaa.atm (nv ne nx Tab)
/-- a node that is laid but for some arguments: its cell, where it goes, these, the first one's cell -/
abbrev Fm := Int × Int × List Tm × Nat
def fin (m : Int) : List Fm → S → Int × Int × S
  | [], s => (0, 0, s)
  | f :: r, s => match putL m f.2.2.1 f.2.2.2 s with
    | (e, s') => if e = 0 then (if f.2.1 = -1 then (f.1, 0, s') else fin m r ⟨s'.h.set f.2.1.toNat f.1, s'.a, s'.v⟩) else (0, e, s')
def dn (m : Int) (t : Tm) (own : Int) (r : List Fm) (s : S) : Int × Int × S :=
  match put m t own s with
    | (c, e, s') => if e = 0 then (if own = -1 then (c, 0, s') else fin m r ⟨s'.h.set own.toNat c, s'.a, s'.v⟩) else (0, e, s')
def kidsT : Tm → List Tm | .mk k _ _ _ _ l => if k = 5 then l else []
theorem kids5 {n : ByteArray} {i re im : Int} {l : List Tm} : kidsT (.mk 5 n i re im l) = l := by rw [kidsT, if_pos rfl]
theorem kidsN {k : Int} (h : ¬ k = 5) {n : ByteArray} {i re im : Int} {l : List Tm} : kidsT (.mk k n i re im l) = [] := by rw [kidsT, if_neg h]
theorem fin_cons (m : Int) (c own : Int) (l : List Tm) (x : Nat) (r : List Fm) (s : S) : fin m ((c, own, l, x) :: r) s = (match putL m l x s with
    | (e, s') => if e = 0 then (if own = -1 then (c, 0, s') else fin m r ⟨s'.h.set own.toNat c, s'.a, s'.v⟩) else (0, e, s')) := by rw [fin]
theorem dn_nil (m : Int) (t : Tm) (s : S) : dn m t (-1) [] s = put m t (-1) s := by
  unfold dn
  have hz := rpt.put_zero m t (-1) s
  revert hz
  generalize put m t (-1) s = P
  obtain ⟨c, e, s'⟩ := P
  intro hz
  dsimp only at hz ⊢
  by_cases he : e = 0
  · rw [if_pos he, if_pos rfl, he]
  · rw [if_neg he, hz he]
theorem put_leaf (m : Int) {k : Int} (n : ByteArray) (i re im : Int) (l : List Tm) (own : Int) (s : S) (hk : k = 1 ∨ k = 2 ∨ k = 3 ∨ k = 4) : put m (.mk k n i re im l) own s = put m (.mk k n i re im []) own s := by
  rcases hk with rfl | rfl | rfl | rfl
  · rw [put, put]; rfl
  · rw [put, put]; rfl
  · rw [put, put]; rfl
  · rw [put, put]; rfl
theorem dn_step (m : Int) (t : Tm) (own : Int) (r : List Fm) (s : S) (hs : sound t = true) (ha : s.a.length < 4096) (hh : (s.h.length : Int) ≤ 1048576) {c e : Int} {s1 : S} (h : nodeM m t own s = (c, e, s1)) :
    dn m t own r s = if e = 0 then fin m ((c, own, kidsT t, (c / 8).toNat + 1) :: r) s1 else (0, e, s1) := by
  obtain ⟨k, n, i, re, im, l⟩ := t
  have hk := pm.chkk (sound_chk hs)
  by_cases k5 : k = 5
  · subst k5
    obtain ⟨q1, q2, q3, _, _⟩ := name_ok (n := n) (by rcases hk with h | ⟨h, _⟩ | h | h | ⟨_, h, _⟩ <;> first | omega | exact h) ha
    rw [nodeM, if_pos rfl] at h
    unfold dn
    rw [put, if_neg (by decide), if_neg (by decide), if_neg (by decide), if_neg (by decide), if_pos q1]
    by_cases hm : (s.h.length : Int) < m
    · rw [if_pos hm] at h ⊢
      generalize more m l.length (s.h ++ [jn 6 (nv s.a n * 256 + ↑l.length)]) = M at h ⊢
      obtain ⟨e9, h9⟩ := M
      dsimp only at h ⊢
      by_cases he : e9 = 0
      · rw [if_pos he] at h ⊢
        injection h with h1 h2
        injection h2 with h2 h3
        subst h2
        rw [if_pos rfl]
        have hc : (c / 8).toNat = s.h.length := by rw [← h1]; unfold jn; omega
        rw [fin_cons, hc, ← h3, ← h1, kids5]
        generalize putL m l (s.h.length + 1) ⟨h9, nx s.a n, s.v⟩ = Q
        obtain ⟨e8, s8⟩ := Q
        dsimp only
        by_cases h8 : e8 = 0
        · simp only [h8, if_true]
        · simp only [if_neg h8]
      · rw [if_neg he] at h ⊢
        injection h with h1 h2
        injection h2 with h2 h3
        subst h2; subst h3
        simp only [if_neg he]
    · rw [if_neg hm] at h ⊢
      injection h with h1 h2
      injection h2 with h2 h3
      subst h2; subst h3
      simp
  · have hp : put m (.mk k n i re im l) own s = (c, e, s1) := by
      rw [nodeM, if_neg k5] at h
      rw [put_leaf m n i re im l own s (by rcases hk with h | ⟨h, _⟩ | h | h | ⟨h, _⟩ <;> omega)]; exact h
    rw [dn, hp, kidsN k5, fin_cons, putL]
    dsimp only
    by_cases he : e = 0
    · simp only [he, if_true]
    · simp only [if_neg he]
theorem fin_step (m : Int) (c own : Int) (t : Tm) (l : List Tm) (x : Nat) (r : List Fm) (s : S) : fin m ((c, own, t :: l, x) :: r) s = dn m t x ((c, own, l, x + 1) :: r) s := by
  rw [fin_cons, dn, putL]
  generalize put m t x s = P
  obtain ⟨c1, e1, s1⟩ := P
  dsimp only
  by_cases he : e1 = 0
  · simp only [if_pos he, if_neg (show ¬ (x : Int) = -1 by omega), Int.toNat_natCast]
    rw [fin_cons]
  · simp only [if_neg he]
theorem fin_nil (m : Int) (c own : Int) (x : Nat) (r : List Fm) (s : S) : fin m ((c, own, [], x) :: r) s = if own = -1 then (c, 0, s) else fin m r ⟨s.h.set own.toNat c, s.a, s.v⟩ := by
  rw [fin_cons, putL]; dsimp only; rw [if_pos rfl]
/-! ### how much is left -/
def rest : List Fm → Nat | [] => 0 | f :: r => sizeL f.2.2.1 + rest r
def wei : List Fm → Nat | [] => 0 | f :: r => 2 + 4 * sizeL f.2.2.1 + wei r
theorem kids_size (t : Tm) : sizeL (kidsT t) + 1 ≤ size t := by
  obtain ⟨k, n, i, re, im, l⟩ := t
  rw [kidsT]
  by_cases h : k = 5
  · subst h; rw [if_pos rfl, tm.size]; simp; omega
  · rw [if_neg h, sizeL, tm.size]; omega
/-- a stack that may be: the lowest goes nowhere, the others to places that there are -/
def Fok (n : Nat) : List Fm → Prop
  | [] => False
  | [f] => f.2.1 = -1 ∧ W64 f.1 ∧ (∀ t ∈ f.2.2.1, sound t = true) ∧ f.2.2.2 + f.2.2.1.length ≤ n
  | f :: r => (0 ≤ f.2.1 ∧ f.2.1 < n) ∧ W64 f.1 ∧ (∀ t ∈ f.2.2.1, sound t = true) ∧ f.2.2.2 + f.2.2.1.length ≤ n ∧ Fok n r
theorem Fok.mono {n n' : Nat} (h : n ≤ n') : ∀ {l : List Fm}, Fok n l → Fok n' l
  | [], f => f
  | [f], ⟨a, b, c, d⟩ => ⟨a, b, c, by omega⟩
  | f :: g :: r, ⟨a, b, c, d, e⟩ => ⟨⟨a.1, by omega⟩, b, c, by omega, Fok.mono h e⟩
theorem Fok.top {n : Nat} {f : Fm} {r : List Fm} (h : Fok n (f :: r)) : W64 f.1 ∧ (∀ t ∈ f.2.2.1, sound t = true) ∧ f.2.2.2 + f.2.2.1.length ≤ n ∧ ((f.2.1 = -1 ∧ r = []) ∨ ((0 ≤ f.2.1 ∧ f.2.1 < n) ∧ Fok n r)) := by
  cases r with
  | nil => exact ⟨h.2.1, h.2.2.1, h.2.2.2, Or.inl ⟨h.1, rfl⟩⟩
  | cons g r => exact ⟨h.2.1, h.2.2.1, h.2.2.2.1, Or.inr ⟨h.1, h.2.2.2.2⟩⟩
theorem Fok.mk {n : Nat} {f : Fm} {r : List Fm} (h1 : W64 f.1) (h2 : ∀ t ∈ f.2.2.1, sound t = true) (h3 : f.2.2.2 + f.2.2.1.length ≤ n) (h4 : (f.2.1 = -1 ∧ r = []) ∨ ((0 ≤ f.2.1 ∧ f.2.1 < n) ∧ Fok n r)) : Fok n (f :: r) := by
  cases r with
  | nil => exact ⟨h4.elim (fun h => h.1) (fun h => h.2.elim), h1, h2, h3⟩
  | cons g r => exact h4.elim (fun h => by cases h.2) fun h => ⟨h.1, h1, h2, h3, h.2⟩
theorem kids_sound {t : Tm} (h : sound t = true) : ∀ x ∈ kidsT t, sound x = true := by
  obtain ⟨k, n, i, re, im, l⟩ := t
  rw [kidsT]
  by_cases hk : k = 5
  · subst hk; rw [if_pos rfl]; exact sound_args h rfl
  · rw [if_neg hk]; simp
/-- what a node makes: more, and no more than one name, one variable -/
theorem node_grow (m : Int) (t : Tm) (own : Int) (s : S) (hs : sound t = true) (ha : s.a.length < 4096) (hh : (s.h.length : Int) ≤ 1048576) (ho : own = -1 ∨ (0 ≤ own ∧ own < s.h.length)) {c e : Int} {s1 : S} (h : nodeM m t own s = (c, e, s1)) : s.h.length ≤ s1.h.length ∧ s1.a.length ≤ s.a.length + 1 ∧ s1.v.length ≤ s.v.length + 1 ∧ (e = 0 → (c / 8).toNat + 1 + (kidsT t).length ≤ s1.h.length ∨ kidsT t = []) := by
  obtain ⟨k, n, i, re, im, l⟩ := t
  have hk := pm.chkk (sound_chk hs)
  have hnx := nx_gr s.a n
  by_cases k5 : k = 5
  · subst k5
    rw [nodeM, if_pos rfl] at h
    by_cases hm : (s.h.length : Int) < m
    · rw [if_pos hm] at h
      have hl := rpt.more_len m l.length (s.h ++ [jn 6 (nv s.a n * 256 + ↑l.length)])
      have hp := more_pre m l.length (s.h ++ [jn 6 (nv s.a n * 256 + ↑l.length)])
      revert h hl hp
      generalize more m l.length (s.h ++ [jn 6 (nv s.a n * 256 + ↑l.length)]) = M
      obtain ⟨e9, h9⟩ := M
      intro h hl hp
      dsimp only at h hl hp
      have hp1 := hp.1
      simp only [List.length_append, List.length_singleton] at hp1 hl
      by_cases he : e9 = 0
      · rw [if_pos he] at h
        injection h with h1 h2
        injection h2 with h2 h3
        subst h3
        refine ⟨by show _ ≤ h9.length; omega, hnx.2, by show s.v.length ≤ _; omega, fun _ => Or.inl ?_⟩
        have := hl he
        rw [kids5, ← h1]
        show _ ≤ h9.length
        unfold jn; omega
      · rw [if_neg he] at h
        injection h with h1 h2
        injection h2 with h2 h3
        subst h3
        exact ⟨by show _ ≤ h9.length; omega, hnx.2, by show s.v.length ≤ _; omega, fun h => absurd (h2.trans h) he⟩
    · rw [if_neg hm] at h
      injection h with h1 h2
      injection h2 with h2 h3
      subst h3
      exact ⟨Nat.le_refl _, hnx.2, by show s.v.length ≤ _; omega, fun h => by omega⟩
  · have hsz : sound (.mk k n i re im []) = true → Gr (size (.mk k n i re im [])) s (put m (.mk k n i re im []) own s).2.2 := fun hs => put_grow m _ hs own s
    have hp : put m (.mk k n i re im []) own s = (c, e, s1) := by rw [nodeM, if_neg k5] at h; exact h
    have hs' : sound (.mk k n i re im []) = true := by
      have := hs
      rw [tm.sound] at this ⊢
      rw [if_neg k5] at this ⊢
      simpa [tm.soundL, chk, k5] using this
    have hg := hsz hs'
    rw [hp] at hg
    have e1 : size (.mk k n i re im []) = 1 := by rw [tm.size, if_neg k5]
    rw [e1] at hg
    exact ⟨hg.h, hg.a.2, hg.v.2, fun _ => Or.inr (if_neg k5)⟩
/-! ### a scope with two labels -/
def du (J0 J1 : Nat → Act → World → Prop) (n : Nat) (Q : Exit → Act → World → Prop) : Exit → Act → World → Prop
  | .goto l, a, w => ∃ n', n' < n ∧ ((l = 0 ∧ J0 n' a w) ∨ (l = 1 ∧ J1 n' a w))
  | e, a, w => Q e a w
theorem du_le {J0 J1 : Nat → Act → World → Prop} {n n' : Nat} {Q : Exit → Act → World → Prop} (h : n ≤ n') (e : Exit) (a : Act) (w : World) (hd : du J0 J1 n Q e a w) : du J0 J1 n' Q e a w := by
  cases e with
  | goto l => obtain ⟨k, hk, h2⟩ := hd; exact ⟨k, by omega, h2⟩
  | _ => exact hd
theorem wp_scope_fam {P : Program} {a : Act} {w : World} {Q : Exit → Act → World → Prop} {c r0 r1 : Code} (J0 J1 : Nat → Act → World → Prop) (h0 : findLabel c 0 = some r0) (h1 : findLabel c 1 = some r1)
    (p0 : ∀ n a w, J0 n a w → r0.wp P (du J0 J1 n Q) a w) (p1 : ∀ n a w, J1 n a w → r1.wp P (du J0 J1 n Q) a w) (n0 : Nat) (first : c.wp P (du J0 J1 n0 Q) a w) : (Code.scope c).wp P Q a w := by
  intro b k cs
  have g0 : gotoIn 0 (.inScope c :: k) = some (.code r0 :: .inScope c :: k) := by simp [gotoIn, h0]
  have g1 : gotoIn 1 (.inScope c :: k) = some (.code r1 :: .inScope c :: k) := by simp [gotoIn, h1]
  have key : ∀ n a w r, (J0 n a w ∧ r = r0) ∨ (J1 n a w ∧ r = r1) → ∃ e a' w', Q e a' w' ∧ Arrives P (lone (b.at a (.code r :: .inScope c :: k)) cs w) b k cs e a' w' := by
    intro n
    induction n using Nat.strongRecOn with
    | _ n ih =>
      intro a w r hJ
      have hp : r.wp P (du J0 J1 n Q) a w := by
        rcases hJ with ⟨h, rfl⟩ | ⟨h, rfl⟩
        · exact p0 n a w h
        · exact p1 n a w h
      obtain ⟨e, a₁, w₁, hq, harr⟩ := hp b (.inScope c :: k) cs
      cases e with
      | normal => exact ⟨.normal, a₁, w₁, hq, Steps.trans harr (.one step_inScope)⟩
      | exit id => exact ⟨.exit id, a₁, w₁, hq, fun k' hk => harr k' (by simp [exitTo, hk])⟩
      | goto l' =>
        obtain ⟨n', hn', hh⟩ := hq
        rcases hh with ⟨rfl, hJ'⟩ | ⟨rfl, hJ'⟩
        · obtain ⟨e₂, a₂, w₂, hq₂, harr₂⟩ := ih n' hn' a₁ w₁ r0 (Or.inl ⟨hJ', rfl⟩)
          exact ⟨e₂, a₂, w₂, hq₂, .of_steps (harr _ g0) harr₂⟩
        · obtain ⟨e₂, a₂, w₂, hq₂, harr₂⟩ := ih n' hn' a₁ w₁ r1 (Or.inr ⟨hJ', rfl⟩)
          exact ⟨e₂, a₂, w₂, hq₂, .of_steps (harr _ g1) harr₂⟩
      | ret => exact ⟨_, a₁, w₁, hq, harr⟩
      | panic ch => exact ⟨_, a₁, w₁, hq, harr⟩
      | outgrown => exact ⟨_, a₁, w₁, hq, harr⟩
  obtain ⟨e, a₁, w₁, hq, harr⟩ := first b (.inScope c :: k) cs
  cases e with
  | normal => exact ⟨.normal, a₁, w₁, hq, .head step_scope (Steps.trans harr (.one step_inScope))⟩
  | exit id => exact ⟨.exit id, a₁, w₁, hq, fun k' hk => .head step_scope (harr k' (by simp [exitTo, hk]))⟩
  | goto l' =>
    obtain ⟨n', hn', hh⟩ := hq
    rcases hh with ⟨rfl, hJ'⟩ | ⟨rfl, hJ'⟩
    · obtain ⟨e₂, a₂, w₂, hq₂, harr₂⟩ := key n' a₁ w₁ r0 (Or.inl ⟨hJ', rfl⟩)
      exact ⟨e₂, a₂, w₂, hq₂, .of_steps (.head step_scope (harr _ g0)) harr₂⟩
    · obtain ⟨e₂, a₂, w₂, hq₂, harr₂⟩ := key n' a₁ w₁ r1 (Or.inr ⟨hJ', rfl⟩)
      exact ⟨e₂, a₂, w₂, hq₂, .of_steps (.head step_scope (harr _ g1)) harr₂⟩
  | ret => exact ⟨_, a₁, w₁, hq, .of_steps (.one step_scope) harr⟩
  | panic ch => exact ⟨_, a₁, w₁, hq, .of_steps (.one step_scope) harr⟩
  | outgrown => exact ⟨_, a₁, w₁, hq, .of_steps (.one step_scope) harr⟩
theorem wp_scope_du {P : Program} {a : Act} {w : World} {Q : Exit → Act → World → Prop} {c D U : Code} (J0 J1 : Nat → Act → World → Prop) (hd : findLabel c 0 = some (Code.skip.seq D)) (hu : findLabel c 1 = some (Code.skip.seq U))
    (up : ∀ n a w, J1 n a w → U.wp P (du J0 J1 n Q) a w)
    (down : (∀ n a w, J1 n a w → U.wp P (du J0 J1 n Q) a w) → ∀ n a w, J0 n a w → D.wp P (du J0 J1 n Q) a w)
    (first : (∀ n a w, J0 n a w → D.wp P (du J0 J1 n Q) a w) → ∃ n, c.wp P (du J0 J1 n Q) a w) : (Code.scope c).wp P Q a w := by
  have dn := down up
  obtain ⟨n0, fst⟩ := first dn
  refine wp_scope_fam J0 J1 hd hu (fun n a w h => wp_seq (wp_skip (dn n a w h))) (fun n a w h => wp_seq (wp_skip (up n a w h))) n0 fst
end Go.Proofs.Ythableojkjhicaa.ppt
namespace Go.Proofs.Ythableojkjhicaa.ppt
set_option linter.unusedVariables false
open Go.ChangeShapes Go.WideShapes Go.ChangeAt Go.RowKit Go.Maps
open Go.Proofs.Ythableojkjhicaa.hp Go.Proofs.Ythableojkjhicaa.cel Go.Proofs.Ythableojkjhicaa.kp Go.Proofs.Ythableojkjhicaa.ob Go.Proofs.Ythableojkjhicaa.pm Go.Proofs.Ythableojkjhicaa.tm Go.Proofs.Ythableojkjhicaa.lie
open Go.Proofs.Ythableojkjhicaa.atm (nv ne nx Tab)
open Go.Proofs.Ythableojkjhicaa.rpt (CK CK_ne law zeroC VM VO frV)
/-- the stack's cells, the lowest first -/
def Stk (N : Nat → Prop) (w : World) : List Fm → List Value → Prop
  | [], xs => xs = []
  | f :: r, xs => ∃ xs0 a cap, xs = xs0 ++ [.int .u64 f.1, .int .i64 f.2.1, .slice a f.2.2.1.length cap, .int .i64 f.2.2.2] ∧ TRow N w f.2.2.1 a 0 ∧ f.2.2.1.length ≤ cap ∧ cap ≤ maxLen ∧ Stk N w r xs0
theorem Stk.len {N : Nat → Prop} {w : World} : ∀ {l : List Fm} {xs : List Value} (_ : Stk N w l xs), xs.length = l.length * 4
  | [], xs, h => by rw [Stk] at h; subst h; rfl
  | f :: r, xs, h => by
    rw [Stk] at h
    obtain ⟨xs0, a, cap, rfl, _, _, _, h⟩ := h
    have := Stk.len h
    simp only [List.length_append, List.length_cons, List.length_nil, this]; omega
theorem ix_rule {g n c k : Nat} (hk : k < n) (w : World) : (Instr.indexAt 130 (.slice (some ⟨g, 0, none⟩) n c) (.int .i64 (k : Int))).run Try.prog w = .ok (.pointer (some ⟨g, k * 4, none⟩)) w := by
  have he : Try.prog.elem 130 = 133 := by kernel_rfl
  have hz : (sizeOf 133).run Try.prog w = .ok 4 w := by kernel_rfl
  rw [run_indexAt_slice w 130 _ _ _ _ _ (by rw [he]; exact Try.underlying130), if_pos ⟨by omega, by omega⟩, he, hz]
  simp [Result.andThen, Addr.add]
  omega
def SK (tb : Nat) (o : Obj) (v : Value) (n : Nat) (xs : List Value) : Ob := Tim (Blk tb o) (Row 133 4 v n xs)
theorem frSK {tb : Nat} {o : Obj} {v : Value} {n : Nat} {xs : List Value} : Fr (SK tb o v n xs) := (Fr.blk _ _).tim Fr.row
section
variable {w w0 wr w' : World} {p q mb pb tb n : Nat} {m : Int} {s s' : S} {C C' : Ob} {N K : Nat → Prop} {o : Obj} {v : Value} {xs : List Value}
theorem XX.imp (h : XX w0 N p q mb m s C wr) (f : ∀ K, C wr K → C' wr K) : XX w0 N p q mb m s C' wr := by
  obtain ⟨K, a, k, sub⟩ := h
  exact ⟨K, a.map2 f, k, sub⟩
/-- what stands beside, and how it is put back -/
theorem XX.open2 (h : XX w0 N p q mb m s C wr) : ∃ M, C wr M ∧ ∀ C' w', Nx C' wr M w' → XX w0 N p q mb m s C' w' := by
  obtain ⟨K, a, k, sub⟩ := h
  obtain ⟨M, c, up⟩ := Tim.at2 frP a
  exact ⟨M, c, fun C' w' n => Nx.trans k sub (up C' w' n)⟩
theorem XX.stack (h : XX w0 N p q mb m s (PK pb p q mb (SK tb o v n xs)) wr) : ∃ M, Row 133 4 v n xs wr M ∧ ∀ v' n' xs' w', Nx (Row 133 4 v' n' xs') wr M w' → XX w0 N p q mb m s (PK pb p q mb (SK tb o v' n' xs')) w' := by
  obtain ⟨M, c, up⟩ := h.open2
  obtain ⟨M2, c2, up2⟩ := Tim.at2 (Fr.blk _ _) c
  obtain ⟨M3, c3, up3⟩ := Tim.at2 (Fr.blk _ _) c2
  exact ⟨M3, c3, fun v' n' xs' w' nn => up _ _ (up2 _ _ (up3 _ _ nn))⟩
theorem XX.term (h : XX w0 N p q mb m s (PK pb p q mb (SK tb o v n xs)) wr) : wr.heap[tb]? = some o ∧ ∀ o' w', kp.Keep (fun k => k = tb) wr w' → w'.heap[tb]? = some o' → XX w0 N p q mb m s (PK pb p q mb (SK tb o' v n xs)) w' := by
  obtain ⟨M, c, up⟩ := h.open2
  obtain ⟨M2, c2, up2⟩ := Tim.at2 (Fr.blk _ _) c
  obtain ⟨M3, c3, up3⟩ := Tim.at1 Fr.row c2
  exact ⟨c3.1, fun o' w' kk hh => up _ _ (up2 _ _ (up3 _ _ ⟨fun k => k = tb, ⟨hh, fun _ => Iff.rfl⟩, kk.mono fun k e => (c3.2 k).2 e, fun k e => Or.inl ((c3.2 k).2 e)⟩))⟩
theorem XX.six {v0 v1 v2 v3 v4 v5 : Value} {t : TypeId} (h : XX w0 N p q mb m s (PK pb p q mb (SK tb (.cells #[v0, v1, v2, v3, v4, v5] t (0, 0)) v n xs)) wr) :
    wr.cell? ⟨tb, 0, none⟩ = some v0 ∧ wr.cell? ⟨tb, 1, none⟩ = some v1 ∧ wr.cell? ⟨tb, 2, none⟩ = some v2 ∧ wr.cell? ⟨tb, 3, none⟩ = some v3 ∧ wr.cell? ⟨tb, 4, none⟩ = some v4 ∧ wr.cell? ⟨tb, 5, none⟩ = some v5 := by
  have := h.term.1
  refine ⟨?_, ?_, ?_, ?_, ?_, ?_⟩ <;> simp [World.cell?, this]
theorem XX.sixF {cs : Array Value} {t : TypeId} (h : XX w0 N p q mb m s (PK pb p q mb (SK tb (.cells cs t (0, 0)) v n xs)) wr) (j : Nat) : wr.frozen? ⟨tb, j, none⟩ = false := by
  have := h.term.1
  simp [World.frozen?, this]
theorem XX.four {g k c : Nat} {xs0 : List Value} {x0 x1 x2 x3 : Value} (h : XX w0 N p q mb m s (PK pb p q mb (SK tb o (.slice (some ⟨g, 0, none⟩) (k + 1) c) (k + 1) (xs0 ++ [x0, x1, x2, x3]))) wr) (hl : xs0.length = k * 4) :
    (wr.cell? ⟨g, k * 4, none⟩ = some x0 ∧ wr.cell? ⟨g, k * 4 + 1, none⟩ = some x1 ∧ wr.cell? ⟨g, k * 4 + 2, none⟩ = some x2 ∧ wr.cell? ⟨g, k * 4 + 3, none⟩ = some x3) ∧ (∀ j, wr.frozen? ⟨g, j, none⟩ = false) ∧
      (∀ u, XX w0 N p q mb m s (PK pb p q mb (SK tb o (.slice (some ⟨g, 0, none⟩) (k + 1) c) (k + 1) (xs0 ++ [x0, x1, u, x3]))) (wr.setCell ⟨g, k * 4 + 2, none⟩ u)) ∧
      (∀ u, XX w0 N p q mb m s (PK pb p q mb (SK tb o (.slice (some ⟨g, 0, none⟩) (k + 1) c) (k + 1) (xs0 ++ [x0, x1, x2, u]))) (wr.setCell ⟨g, k * 4 + 3, none⟩ u)) ∧
      XX w0 N p q mb m s (PK pb p q mb (SK tb o (.slice (some ⟨g, 0, none⟩) k c) k xs0)) wr ∧ k + 1 ≤ c := by
  obtain ⟨M, ⟨hr, hM⟩, up⟩ := h.stack
  rcases hr.2 with ⟨_, e0⟩ | ⟨g', c', cur, hv, _, hg, hc, _⟩
  · simp at e0
  injection hv with hv1 _ hv3
  injection hv1 with hv1
  injection hv1 with hv1
  subst hv1; subst hv3
  have hat : ∀ j, j < 4 → wr.cell? ⟨g, k * 4 + j, none⟩ = [x0, x1, x2, x3][j]? := fun j hj => by
    rw [hr.cellAt _ (by omega), List.getElem?_append_right (by omega), hl]
    congr 1; omega
  have hu : ∀ j u, j < 4 → XX w0 N p q mb m s (PK pb p q mb (SK tb o (.slice (some ⟨g, 0, none⟩) (k + 1) c) (k + 1) (xs0 ++ [x0, x1, x2, x3].set j u))) (wr.setCell ⟨g, k * 4 + j, none⟩ u) := fun j u hj => by
    refine up _ _ _ _ ⟨M, ⟨?_, hM⟩, kp.Keep.setCell wr ((hM g).2 rfl) u, fun _ => Or.inl⟩
    have := (hr.stored (k * 4 + j) u).1
    rw [List.set_append_right _ _ (by omega), hl, Nat.add_sub_cancel_left] at this
    exact this
  refine ⟨⟨hat 0 (by omega), hat 1 (by omega), hat 2 (by omega), hat 3 (by omega)⟩, hr.frozenAt, fun u => hu 2 u (by omega), fun u => hu 3 u (by omega), ?_, hc⟩
  refine up _ _ _ _ ⟨M, ⟨?_, fun k => by rw [hM k]; rfl⟩, kp.Keep.refl _ _, fun _ => Or.inl⟩
  have := own_cut hr (k := k) (by omega)
  rw [List.take_append_of_le_length (by omega), List.take_of_length_le (by omega)] at this
  exact this
theorem XX.apart {g c n2 : Nat} (h : XX w0 N p q mb m s (PK pb p q mb (SK tb o (.slice (some ⟨g, 0, none⟩) n2 c) n xs)) wr) : g ≠ tb ∧ g ≠ pb ∧ tb ≠ pb := by
  obtain ⟨M, ⟨K1, K2, ⟨_, a⟩, ⟨K3, K4, ⟨_, b⟩, ⟨_, r⟩, d2, e2⟩, d, e⟩, _⟩ := h.open2
  have hg : K4 g := (r g).2 rfl
  have ht : K3 tb := (b tb).2 rfl
  have hp : K1 pb := (a pb).2 rfl
  refine ⟨fun h => d2 g (by rw [h]; exact ht) hg, fun h => d pb hp ((e2 _).2 (Or.inr (h ▸ hg))), fun h => d pb hp ((e2 _).2 (Or.inl (h ▸ ht)))⟩
/-- the slice of a stack that is not empty -/
theorem XX.shape {k : Nat} (h : XX w0 N p q mb m s (PK pb p q mb (SK tb o v (k + 1) xs)) wr) : ∃ g c, v = .slice (some ⟨g, 0, none⟩) (k + 1) c ∧ k + 1 ≤ c := by
  obtain ⟨M, ⟨hr, hM⟩, up⟩ := h.stack
  rcases hr.2 with ⟨_, e0⟩ | ⟨g, c, cur, hv, _, hg, hc, _⟩
  · simp at e0
  · exact ⟨g, c, hv, hc⟩
theorem drew_heap (w : World) : w.drew.heap = w.heap := rfl
theorem six_blk {w : World} {b : Nat} {v0 v1 v2 v3 v4 v5 u0 u1 u2 u3 u4 u5 : Value} {t : TypeId} (h : w.heap[b]? = some (.cells #[u0, u1, u2, u3, u4, u5] t (0, 0))) :
    ((((((w.setCell ⟨b, 0, none⟩ v0).setCell ⟨b, 1, none⟩ v1).setCell ⟨b, 2, none⟩ v2).setCell ⟨b, 3, none⟩ v3).setCell ⟨b, 4, none⟩ v4).setCell ⟨b, 5, none⟩ v5).drew.heap[b]? = some (.cells #[v0, v1, v2, v3, v4, v5] t (0, 0)) := by
  have e := fun (w : World) (i : Nat) (cs : Array Value) (v : Value) (hg : w.heap[b]? = some (.cells cs t (0, 0))) => heap_setCell_same w b i cs t v hg
  have hf := e _ 5 _ v5 (e _ 4 _ v4 (e _ 3 _ v3 (e _ 2 _ v2 (e _ 1 _ v1 (e w 0 _ v0 h)))))
  rw [drew_heap, hf]; simp
theorem infoL : (Try.prog.info? 133).map (fun i => (i.zero, i.size, i.bytes)) = some (some (.agg #[.int .u64 0, .int .i64 0, .slice none 0 0, .int .i64 0]), 4, 48) := by kernel_rfl
theorem cell_four_new (w : World) (x0 x1 x2 x3 : Value) (t : TypeId) : ∀ j u, [x0, x1, x2, x3][j]? = some u → (w.alloc (.cells #[x0, x1, x2, x3] t)).cell? ((⟨w.heap.size, 0, none⟩ : Addr).add j) = some u := by
  intro j u hj
  have h := kp.alloc_at w (.cells #[x0, x1, x2, x3] t)
  have e : (⟨w.heap.size, 0, none⟩ : Addr).add j = ⟨w.heap.size, j, none⟩ := by simp [Addr.add]; omega
  rw [e]
  simp only [World.cell?, h]
  simpa using hj
theorem XX.look_w (fC : Fr C) {i c : Int} (h : XX w0 N p q mb m s C wr) (hi : I64 i) (hl : pm.look s.v i = some c) : W64 c := by
  obtain ⟨D, hD, hv, _⟩ := h.vars fC
  have hkey : keyOf Try.prog 2 (.int .i64 i) = some (CK i) := keyOf_int_mk Try.underlying2 (WalkArith.wf_i64 (by have := hi.1; have := hi.2; omega))
  have hv2 := (hv i).2
  rw [hl] at hv2
  obtain ⟨c8, hlk, hat, hwc⟩ := hD.lookup_int law Try.underlying51 Try.underlying23 (zeroC _) hkey
  rw [hat] at hv2
  injection hv2 with e; injection e with _ e
  rw [← show c8 = c from e]
  exact w64_wf hwc
theorem w64_zero : W64 0 := ⟨by decide, by decide⟩
theorem node_w (m : Int) {k : Int} {n : ByteArray} {i re im : Int} {l : List Tm} (own : Int) (s : S) (hh : (s.h.length : Int) ≤ 1048576) (ho : own = -1 ∨ (0 ≤ own ∧ own < 1048576)) (hv : ∀ c, pm.look s.v i = some c → W64 c) {c e : Int} {s1 : S} (h : nodeM m (.mk k n i re im l) own s = (c, e, s1)) : W64 c := by
  have key : W64 (nodeM m (.mk k n i re im l) own s).1 := by
    rw [nodeM]
    by_cases k5 : k = 5
    · rw [if_pos k5]
      by_cases hm : (s.h.length : Int) < m
      · rw [if_pos hm]
        generalize more m l.length (s.h ++ [jn 6 (nv s.a n * 256 + ↑l.length)]) = M
        obtain ⟨e9, h9⟩ := M
        dsimp only
        by_cases he : e9 = 0
        · rw [if_pos he]; exact jn_w _ (by decide) (by decide)
        · rw [if_neg he]; exact w64_zero
      · rw [if_neg hm]; exact w64_zero
    · rw [if_neg k5, put]
      by_cases k1 : k = 1
      · subst k1
        rw [if_neg (by decide), if_neg (by decide), if_neg (by decide), if_pos rfl]
        cases hl : pm.look s.v i with
        | some c => exact hv c hl
        | none =>
          dsimp only
          split
          · split
            · show W64 ((s.h.length : Int) * 8); exact ⟨by omega, by omega⟩
            · exact w64_zero
          · show W64 (own * 8); rcases ho with h | h <;> exact ⟨by omega, by omega⟩
      · rw [if_neg k1]
        repeat' split
        all_goals first | exact jn_w _ (by decide) (by decide) | exact w64_zero | exact rpt.sv_w
  rw [h] at key; exact key
theorem XX.core {C : Ob} (h : XX w0 N p q mb m s (PK pb p q mb C) wr) : Nx (Tim (PB p q mb m s) (Blk pb (PC p q mb))) w0 N wr := XX.less h
theorem XX.begin (h : Tim (PB p q mb m s) (Blk pb (PC p q mb)) w N) (o : Obj) : XX w N p q mb m s (PK pb p q mb (SK w.heap.size o (.slice none 0 0) 0 [])) (w.alloc o) := by
  have h1 : XX w N p q mb m s (Blk pb (PC p q mb)) w := Nx.same h
  refine (h1.alloc (Fr.blk _ _) o).imp fun K hk => ?_
  exact hk.map2 fun K' hb => ⟨K', fun _ => False, hb, Row.nil _, fun _ _ => id, fun k => by simp⟩
end

def J1 (w : World) (N : Nat → Prop) (p q mb pb tb : Nat) (m : Int) (R : Int × Int × S) (n : Nat) (a' : Act) (w' : World) : Prop :=
  ∃ (f : Fm) (r : List Fm) (xs : List Value) (v : Value) (U : Nat → Value) (s : S) (tk : Int) (tn : ByteArray) (ti tr tm' : Int) (ta : Option Addr) (tl tc : Nat), n = wei (f :: r) + 1 ∧ Fok s.h.length (f :: r) ∧ fin m (f :: r) s = R ∧ Stk N w (f :: r) xs ∧ s.a.length + rest (f :: r) ≤ 4096 ∧ s.v.length + rest (f :: r) ≤ 900000 ∧ (f :: r).length + rest (f :: r) ≤ 5000 ∧
    XX w N p q mb m s (PK pb p q mb (SK tb (rpt.BT tk tn ti tr tm' ta tl tc) v (f :: r).length xs)) w' ∧
    a' = { tmps := (.pointer (some ⟨pb, 0, none⟩) :: U 1 :: U 2 :: .pointer (some ⟨tb, 0, none⟩) :: .int .u64 0 :: .int .i64 0 :: v :: U 7 :: U 8 :: U 9 :: U 10 :: U 11 :: U 12 :: U 13 :: U 14 :: U 15 :: U 16 :: U 17 :: U 18 :: U 19 :: U 20 :: U 21 :: U 22 :: U 23 :: U 24 :: U 25 :: U 26 :: U 27 :: U 28 :: U 29 :: U 30 :: U 31 :: U 32 :: U 33 :: U 34 :: U 35 :: U 36 :: U 37 :: U 38 :: U 39 :: U 40 :: U 41 :: U 42 :: U 43 :: U 44 :: U 45 :: U 46 :: U 47 :: U 48 :: U 49 :: U 50 :: U 51 :: U 52 :: U 53 :: U 54 :: U 55 :: U 56 :: U 57 :: U 58 :: U 59 :: U 60 :: U 61 :: U 62 :: U 63 :: U 64 :: U 65 :: U 66 :: U 67 :: U 68 :: U 69 :: U 70 :: U 71 :: U 72 :: U 73 :: U 74 :: U 75 :: U 76 :: U 77 :: U 78 :: U 79 :: U 80 :: U 81 :: U 82 :: U 83 :: U 84 :: U 85 :: U 86 :: U 87 :: U 88 :: U 89 :: U 90 :: U 91 :: U 92 :: U 93 :: U 94 :: U 95 :: U 96 :: U 97 :: U 98 :: U 99 :: U 100 :: U 101 :: U 102 :: U 103 :: U 104 :: U 105 :: U 106 :: U 107 :: U 108 :: U 109 :: []).toArray, defers := [] }
theorem J1.mk {w : World} {N : Nat → Prop} {p q mb pb tb : Nat} {m : Int} {R : Int × Int × S} {n : Nat} {a' : Act} {w' : World} (f : Fm) (r : List Fm) (xs : List Value) (v : Value) (s : S) (tk : Int) (tn : ByteArray) (ti tr tm' : Int) (ta : Option Addr) (tl tc : Nat) (hn : n = wei (f :: r) + 1) (h1 : Fok s.h.length (f :: r)) (h2 : fin m (f :: r) s = R) (h3 : Stk N w (f :: r) xs) (h4 : s.a.length + rest (f :: r) ≤ 4096) (h5 : s.v.length + rest (f :: r) ≤ 900000) (h6 : (f :: r).length + rest (f :: r) ≤ 5000)
    (h7 : XX w N p q mb m s (PK pb p q mb (SK tb (rpt.BT tk tn ti tr tm' ta tl tc) v (f :: r).length xs)) w')
    (h : a' = { tmps := (.pointer (some ⟨pb, 0, none⟩) :: a'.tmps.getD 1 undef :: a'.tmps.getD 2 undef :: .pointer (some ⟨tb, 0, none⟩) :: .int .u64 0 :: .int .i64 0 :: v :: a'.tmps.getD 7 undef :: a'.tmps.getD 8 undef :: a'.tmps.getD 9 undef :: a'.tmps.getD 10 undef :: a'.tmps.getD 11 undef :: a'.tmps.getD 12 undef :: a'.tmps.getD 13 undef :: a'.tmps.getD 14 undef :: a'.tmps.getD 15 undef :: a'.tmps.getD 16 undef :: a'.tmps.getD 17 undef :: a'.tmps.getD 18 undef :: a'.tmps.getD 19 undef :: a'.tmps.getD 20 undef :: a'.tmps.getD 21 undef :: a'.tmps.getD 22 undef :: a'.tmps.getD 23 undef :: a'.tmps.getD 24 undef :: a'.tmps.getD 25 undef :: a'.tmps.getD 26 undef :: a'.tmps.getD 27 undef :: a'.tmps.getD 28 undef :: a'.tmps.getD 29 undef :: a'.tmps.getD 30 undef :: a'.tmps.getD 31 undef :: a'.tmps.getD 32 undef :: a'.tmps.getD 33 undef :: a'.tmps.getD 34 undef :: a'.tmps.getD 35 undef :: a'.tmps.getD 36 undef :: a'.tmps.getD 37 undef :: a'.tmps.getD 38 undef :: a'.tmps.getD 39 undef :: a'.tmps.getD 40 undef :: a'.tmps.getD 41 undef :: a'.tmps.getD 42 undef :: a'.tmps.getD 43 undef :: a'.tmps.getD 44 undef :: a'.tmps.getD 45 undef :: a'.tmps.getD 46 undef :: a'.tmps.getD 47 undef :: a'.tmps.getD 48 undef :: a'.tmps.getD 49 undef :: a'.tmps.getD 50 undef :: a'.tmps.getD 51 undef :: a'.tmps.getD 52 undef :: a'.tmps.getD 53 undef :: a'.tmps.getD 54 undef :: a'.tmps.getD 55 undef :: a'.tmps.getD 56 undef :: a'.tmps.getD 57 undef :: a'.tmps.getD 58 undef :: a'.tmps.getD 59 undef :: a'.tmps.getD 60 undef :: a'.tmps.getD 61 undef :: a'.tmps.getD 62 undef :: a'.tmps.getD 63 undef :: a'.tmps.getD 64 undef :: a'.tmps.getD 65 undef :: a'.tmps.getD 66 undef :: a'.tmps.getD 67 undef :: a'.tmps.getD 68 undef :: a'.tmps.getD 69 undef :: a'.tmps.getD 70 undef :: a'.tmps.getD 71 undef :: a'.tmps.getD 72 undef :: a'.tmps.getD 73 undef :: a'.tmps.getD 74 undef :: a'.tmps.getD 75 undef :: a'.tmps.getD 76 undef :: a'.tmps.getD 77 undef :: a'.tmps.getD 78 undef :: a'.tmps.getD 79 undef :: a'.tmps.getD 80 undef :: a'.tmps.getD 81 undef :: a'.tmps.getD 82 undef :: a'.tmps.getD 83 undef :: a'.tmps.getD 84 undef :: a'.tmps.getD 85 undef :: a'.tmps.getD 86 undef :: a'.tmps.getD 87 undef :: a'.tmps.getD 88 undef :: a'.tmps.getD 89 undef :: a'.tmps.getD 90 undef :: a'.tmps.getD 91 undef :: a'.tmps.getD 92 undef :: a'.tmps.getD 93 undef :: a'.tmps.getD 94 undef :: a'.tmps.getD 95 undef :: a'.tmps.getD 96 undef :: a'.tmps.getD 97 undef :: a'.tmps.getD 98 undef :: a'.tmps.getD 99 undef :: a'.tmps.getD 100 undef :: a'.tmps.getD 101 undef :: a'.tmps.getD 102 undef :: a'.tmps.getD 103 undef :: a'.tmps.getD 104 undef :: a'.tmps.getD 105 undef :: a'.tmps.getD 106 undef :: a'.tmps.getD 107 undef :: a'.tmps.getD 108 undef :: a'.tmps.getD 109 undef :: []).toArray, defers := [] }) : J1 w N p q mb pb tb m R n a' w' :=
  ⟨f, r, xs, v, fun i => a'.tmps.getD i undef, s, tk, tn, ti, tr, tm', ta, tl, tc, hn, h1, h2, h3, h4, h5, h6, h7, h⟩
def J0 (w : World) (N : Nat → Prop) (p q mb pb tb : Nat) (m : Int) (R : Int × Int × S) (n : Nat) (a' : Act) (w' : World) : Prop :=
  ∃ (t : Tm) (own : Int) (r : List Fm) (xs : List Value) (v : Value) (U : Nat → Value) (s : S) (tk : Int) (tn : ByteArray) (ti tr tm' : Int) (ta : Option Addr) (tl tc : Nat), n = 4 * size t + wei r ∧ ((own = -1 ∧ r = []) ∨ ((0 ≤ own ∧ own < s.h.length) ∧ Fok s.h.length r)) ∧ sound t = true ∧ Lies N w t (.agg #[.int .i64 tk, .string tn, .int .i64 ti, .int .u64 tr, .int .u64 tm', .slice ta tl tc]) ∧ dn m t own r s = R ∧ Stk N w r xs ∧ s.a.length + (size t + rest r) ≤ 4096 ∧ s.v.length + (size t + rest r) ≤ 900000 ∧ r.length + (size t + rest r) ≤ 5000 ∧
    XX w N p q mb m s (PK pb p q mb (SK tb (rpt.BT tk tn ti tr tm' ta tl tc) v r.length xs)) w' ∧
    a' = { tmps := (.pointer (some ⟨pb, 0, none⟩) :: U 1 :: U 2 :: .pointer (some ⟨tb, 0, none⟩) :: .int .u64 0 :: .int .i64 0 :: v :: .int .i64 own :: U 8 :: U 9 :: U 10 :: U 11 :: U 12 :: U 13 :: U 14 :: U 15 :: U 16 :: U 17 :: U 18 :: U 19 :: U 20 :: U 21 :: U 22 :: U 23 :: U 24 :: U 25 :: U 26 :: U 27 :: U 28 :: U 29 :: U 30 :: U 31 :: U 32 :: U 33 :: U 34 :: U 35 :: U 36 :: U 37 :: U 38 :: U 39 :: U 40 :: U 41 :: U 42 :: U 43 :: U 44 :: U 45 :: U 46 :: U 47 :: U 48 :: U 49 :: U 50 :: U 51 :: U 52 :: U 53 :: U 54 :: U 55 :: U 56 :: U 57 :: U 58 :: U 59 :: U 60 :: U 61 :: U 62 :: U 63 :: U 64 :: U 65 :: U 66 :: U 67 :: U 68 :: U 69 :: U 70 :: U 71 :: U 72 :: U 73 :: U 74 :: U 75 :: U 76 :: U 77 :: U 78 :: U 79 :: U 80 :: U 81 :: U 82 :: U 83 :: U 84 :: U 85 :: U 86 :: U 87 :: U 88 :: U 89 :: U 90 :: U 91 :: U 92 :: U 93 :: U 94 :: U 95 :: U 96 :: U 97 :: U 98 :: U 99 :: U 100 :: U 101 :: U 102 :: U 103 :: U 104 :: U 105 :: U 106 :: U 107 :: U 108 :: U 109 :: []).toArray, defers := [] }
theorem J0.mk {w : World} {N : Nat → Prop} {p q mb pb tb : Nat} {m : Int} {R : Int × Int × S} {n : Nat} {a' : Act} {w' : World} (t : Tm) (own : Int) (r : List Fm) (xs : List Value) (v : Value) (s : S) (tk : Int) (tn : ByteArray) (ti tr tm' : Int) (ta : Option Addr) (tl tc : Nat) (hn : n = 4 * size t + wei r) (h0 : (own = -1 ∧ r = []) ∨ ((0 ≤ own ∧ own < s.h.length) ∧ Fok s.h.length r)) (h1 : sound t = true) (h2 : Lies N w t (.agg #[.int .i64 tk, .string tn, .int .i64 ti, .int .u64 tr, .int .u64 tm', .slice ta tl tc])) (h3 : dn m t own r s = R) (h4 : Stk N w r xs) (h5 : s.a.length + (size t + rest r) ≤ 4096) (h6 : s.v.length + (size t + rest r) ≤ 900000) (h7 : r.length + (size t + rest r) ≤ 5000)
    (h8 : XX w N p q mb m s (PK pb p q mb (SK tb (rpt.BT tk tn ti tr tm' ta tl tc) v r.length xs)) w')
    (h : a' = { tmps := (.pointer (some ⟨pb, 0, none⟩) :: a'.tmps.getD 1 undef :: a'.tmps.getD 2 undef :: .pointer (some ⟨tb, 0, none⟩) :: .int .u64 0 :: .int .i64 0 :: v :: .int .i64 own :: a'.tmps.getD 8 undef :: a'.tmps.getD 9 undef :: a'.tmps.getD 10 undef :: a'.tmps.getD 11 undef :: a'.tmps.getD 12 undef :: a'.tmps.getD 13 undef :: a'.tmps.getD 14 undef :: a'.tmps.getD 15 undef :: a'.tmps.getD 16 undef :: a'.tmps.getD 17 undef :: a'.tmps.getD 18 undef :: a'.tmps.getD 19 undef :: a'.tmps.getD 20 undef :: a'.tmps.getD 21 undef :: a'.tmps.getD 22 undef :: a'.tmps.getD 23 undef :: a'.tmps.getD 24 undef :: a'.tmps.getD 25 undef :: a'.tmps.getD 26 undef :: a'.tmps.getD 27 undef :: a'.tmps.getD 28 undef :: a'.tmps.getD 29 undef :: a'.tmps.getD 30 undef :: a'.tmps.getD 31 undef :: a'.tmps.getD 32 undef :: a'.tmps.getD 33 undef :: a'.tmps.getD 34 undef :: a'.tmps.getD 35 undef :: a'.tmps.getD 36 undef :: a'.tmps.getD 37 undef :: a'.tmps.getD 38 undef :: a'.tmps.getD 39 undef :: a'.tmps.getD 40 undef :: a'.tmps.getD 41 undef :: a'.tmps.getD 42 undef :: a'.tmps.getD 43 undef :: a'.tmps.getD 44 undef :: a'.tmps.getD 45 undef :: a'.tmps.getD 46 undef :: a'.tmps.getD 47 undef :: a'.tmps.getD 48 undef :: a'.tmps.getD 49 undef :: a'.tmps.getD 50 undef :: a'.tmps.getD 51 undef :: a'.tmps.getD 52 undef :: a'.tmps.getD 53 undef :: a'.tmps.getD 54 undef :: a'.tmps.getD 55 undef :: a'.tmps.getD 56 undef :: a'.tmps.getD 57 undef :: a'.tmps.getD 58 undef :: a'.tmps.getD 59 undef :: a'.tmps.getD 60 undef :: a'.tmps.getD 61 undef :: a'.tmps.getD 62 undef :: a'.tmps.getD 63 undef :: a'.tmps.getD 64 undef :: a'.tmps.getD 65 undef :: a'.tmps.getD 66 undef :: a'.tmps.getD 67 undef :: a'.tmps.getD 68 undef :: a'.tmps.getD 69 undef :: a'.tmps.getD 70 undef :: a'.tmps.getD 71 undef :: a'.tmps.getD 72 undef :: a'.tmps.getD 73 undef :: a'.tmps.getD 74 undef :: a'.tmps.getD 75 undef :: a'.tmps.getD 76 undef :: a'.tmps.getD 77 undef :: a'.tmps.getD 78 undef :: a'.tmps.getD 79 undef :: a'.tmps.getD 80 undef :: a'.tmps.getD 81 undef :: a'.tmps.getD 82 undef :: a'.tmps.getD 83 undef :: a'.tmps.getD 84 undef :: a'.tmps.getD 85 undef :: a'.tmps.getD 86 undef :: a'.tmps.getD 87 undef :: a'.tmps.getD 88 undef :: a'.tmps.getD 89 undef :: a'.tmps.getD 90 undef :: a'.tmps.getD 91 undef :: a'.tmps.getD 92 undef :: a'.tmps.getD 93 undef :: a'.tmps.getD 94 undef :: a'.tmps.getD 95 undef :: a'.tmps.getD 96 undef :: a'.tmps.getD 97 undef :: a'.tmps.getD 98 undef :: a'.tmps.getD 99 undef :: a'.tmps.getD 100 undef :: a'.tmps.getD 101 undef :: a'.tmps.getD 102 undef :: a'.tmps.getD 103 undef :: a'.tmps.getD 104 undef :: a'.tmps.getD 105 undef :: a'.tmps.getD 106 undef :: a'.tmps.getD 107 undef :: a'.tmps.getD 108 undef :: a'.tmps.getD 109 undef :: []).toArray, defers := [] }) : J0 w N p q mb pb tb m R n a' w' :=
  ⟨t, own, r, xs, v, fun i => a'.tmps.getD i undef, s, tk, tn, ti, tr, tm', ta, tl, tc, hn, h0, h1, h2, h3, h4, h5, h6, h7, h8, h⟩
section
variable {w : World} {p q mb pb : Nat} {m : Int} {s : S} {N : Nat → Prop}
set_option maxRecDepth 100000 in
set_option maxHeartbeats 4000000 in
theorem lay_any (t : Tm) (vt : Value) (h : Tim (PB p q mb m s) (Blk pb (PC p q mb)) w N) (ht : Lies N w t vt) (hs : sound t = true) (ha : s.a.length + size t ≤ 4096) (hv : s.v.length + size t ≤ 900000) (R : Int × Int × S) (hR : put m t (-1) s = R) :
    Calls Try.prog 54 #[.pointer (some ⟨pb, 0, none⟩), vt] w fun e w' => e = .returned (.tuple #[.int .u64 R.1, .int .i64 R.2.1]) ∧ Nx (Tim (PB p q mb m R.2.2) (Blk pb (PC p q mb))) w N w' := by
  have HT := Lib.hid ht
  obtain ⟨T, hT⟩ : ∃ T, T = t := ⟨_, rfl⟩
  rw [← hT] at HT ha hv hs hR
  obtain ⟨k, n, i, re, im, l⟩ := t
  rw [Lies] at ht
  obtain ⟨a, c, rfl, hf, hr⟩ := ht
  have X1 := Lib.hid (XX.begin h (rpt.BT k n i re im a l.length c))
  have HN := Lib.hid (And.intro ha (And.intro hv (And.intro hs (dn_nil m T s ▸ hR))))
  clear h hf hr hT ha hv hs hR
  go_enter Try.func54, Try.ntmps54
  go_wp2_with fail
  obtain ⟨tb, htb⟩ : ∃ tb, tb = w.heap.size := ⟨_, rfl⟩
  rw [← htb] at X1
  have HTB := Lib.hid htb
  clear htb
  refine wp_scope_du (J0 w N p q mb pb tb m R) (J1 w N p q mb pb tb m R) rfl rfl ?_ ?_ ?_
  · rintro n9 a9 w9 ⟨⟨fc, fo, fl, fx⟩, r, xs, v, U, s', tk, tn, ti, tr, tm', ta, tl, tc, hn, hok, hfin, hstk, ha', hv', hd', x, rfl⟩
    obtain ⟨g, cg, rfl, hcg⟩ := x.shape
    rw [Stk] at hstk
    obtain ⟨xs0, a1, cap, rfl, hrow, hcap, hcm, hstk⟩ := hstk
    have hl0 := Stk.len hstk
    obtain ⟨hgt, hgp, htp⟩ := x.apart
    have hgt' : tb ≠ g := fun e => hgt e.symm
    obtain ⟨⟨z0, z1, z2, z3⟩, fz, set2, set3, pop, _⟩ := x.four hl0
    have ix := fun w => ix_rule (g := g) (n := r.length + 1) (c := cg) (k := r.length) (by omega) w
    obtain ⟨b0, b1, b2⟩ := x.putter
    obtain ⟨kw1, kw2, kw3, kw4⟩ := hok.top
    have hlen := (x.len (frPK frSK)).1
    simp only [List.length_cons] at hd'
    have hd9 : r.length + 1 ≤ 5000 := by omega
    dsimp only at *
    cases fl with
    | nil =>
      have HF := Lib.hid (show (if fo = -1 then (fc, 0, s') else fin m r ⟨s'.h.set fo.toNat fc, s'.a, s'.v⟩) = R by rw [← hfin, fin_nil])
      have HX := Lib.hid x
      have HS := Lib.hid (And.intro hn (And.intro hok (And.intro hstk (And.intro ha' (And.intro hv' (And.intro hd' (And.intro hl0 (And.intro hcap (And.intro hcm (And.intro kw1 (And.intro kw2 (And.intro kw3 kw4))))))))))))
      simp only [List.length_nil] at z2
      by_cases hfo : fo = -1
      · subst hfo
        clear hn hok hstk ha' hv' hd' hl0 kw1 kw2 kw3 kw4 hfin x hrow set2 set3 pop hlen hcap hcm
        go_wp2_with fail
        simp only [du]
        change bodyPost _ _ _ Exit.ret _ _
        go_ret2
        have hf := HF.out
        first | rw [if_pos rfl] at hf | rw [if_pos trivial] at hf
        rw [← hf]
        exact ⟨rfl, HX.out.core⟩
      · rcases kw4 with ⟨e, _⟩ | ⟨⟨f0, f1⟩, kok⟩
        · exact absurd e hfo
        have hne : (fo == -1) = false := by rw [beq_eq_false_iff_ne]; exact hfo
        have hset := fun wx (hx : XX w N p q mb m s' (PK pb p q mb (SK tb (rpt.BT tk tn ti tr tm' ta tl tc) (.slice (some ⟨g, 0, none⟩) r.length cg) r.length xs0)) wx) => pSet (frPK frSK) fo fc kw1 hx
        have esx : sx s'.h fo fc = s'.h.set fo.toNat fc := by unfold sx; rw [if_pos ⟨f0, f1⟩]
        rw [esx] at hset
        have HP := Lib.hid (And.intro pop (And.intro kok hfo))
        clear hn hok hstk ha' hv' hd' hl0 kw1 kw2 kw3 hfin x hrow set2 set3 pop hlen hcap hcm f0 f1 kok hfo esx
        go_wp2_with fail
        go_still_tail 12, (by kernel_rfl)
        change wpList _ _ _ _ _ w9.drew
        have h1 := hset w9.drew (HP.out.1.drew (frPK frSK))
        generalize w9.drew = wd at *
        clear hset z0 z1 z2 z3 fz b0 b1 b2
        go_wp2_with fail
        refine h1.mono ?_; rintro e w2 ⟨rfl, x2⟩
        have X2 := Lib.hid x2
        clear x2 h1
        go_wp2_with fail
        go_step3
        obtain ⟨hn, hok, hstk, ha', hv', hd', hl0, hcap, hcm, kw1, kw2, kw3, kw4⟩ := HS.out
        have hf := HF.out
        rw [if_neg HP.out.2.2] at hf
        cases r with
        | nil => exact absurd HP.out.2.1 id
        | cons f' r' =>
          have hr1 : rest ((fc, fo, [], fx) :: f' :: r') = rest (f' :: r') := by show sizeL [] + _ = _; rw [sizeL]; omega
          have hr2 : wei ((fc, fo, [], fx) :: f' :: r') = 2 + wei (f' :: r') := by show 2 + 4 * sizeL [] + _ = _; rw [sizeL]
          rw [hr1] at ha' hv' hd'
          refine ⟨wei (f' :: r') + 1, by omega, Or.inr ⟨rfl, J1.mk f' r' xs0 _ _ _ _ _ _ _ _ _ _ rfl (Fok.mono (by simp) HP.out.2.1) hf hstk ha' hv' (by omega) X2.out rfl⟩⟩
    | cons t l =>
      have HF := Lib.hid (show dn m t fx ((fc, fo, l, fx + 1) :: r) s' = R by rw [← hfin, fin_step])
      obtain ⟨b, o, u0, u1, u2, u3, u4, u5, hbw, hbX, h6, hlt0, hlook⟩ := TRow.look (l := t :: l) hrow (m := 0) (by simp)
      obtain ⟨a2, hT', htail⟩ := wlk.TRow.tail (r := l) hrow hcap
      obtain ⟨K, aK, sub, keepN, upK⟩ := x.open_ (frPK frSK)
      have h6' : Six w9 b o u0 u1 u2 u3 u4 u5 := h6.keep keepN hbX
      have hl1 := hlook cap
      simp only [List.length_cons, Int.natCast_zero] at hl1
      obtain ⟨e0, e1, e2, e3, e4, e5⟩ := h6'
      obtain ⟨y0, y1, y2, y3, y4, y5⟩ := x.six
      have fy := x.sixF
      have fy0 := fy 0
      have fy1 := fy 1
      have fy2 := fy 2
      have fy3 := fy 3
      have fy4 := fy 4
      have fy5 := fy 5
      obtain ⟨k', n', i', re', im', l'⟩ := t
      change Lies _ _ (Tm.mk k' n' i' re' im' l') _ at hlt0
      have hlt1 := hlt0
      rw [Lies] at hlt1
      obtain ⟨al, cl, hv9, hfit, hrl⟩ := hlt1
      simp only [Value.agg.injEq, Array.mk.injEq, List.cons.injEq, and_true] at hv9
      obtain ⟨rfl, rfl, rfl, rfl, rfl, rfl⟩ := hv9
      have HS := Lib.hid (And.intro hn (And.intro hok (And.intro hstk (And.intro ha' (And.intro hv' (And.intro hd' (And.intro hlt0 (And.intro hT' (And.intro hl0 (And.intro hcap (And.intro hcm (And.intro kw1 (And.intro kw2 (And.intro kw3 kw4))))))))))))))
      have hfx : fx ≤ 1048576 := by simp only [List.length_cons] at kw3; omega
      have HX := Lib.hid x
      have hlw : (l.length : Int) + 1 ≤ 9223372036854775807 := by simp only [List.length_cons] at hcap; unfold maxLen at hcm; omega
      simp only [List.length_cons] at z2
      clear hfit hrl hn hok hstk ha' hv' hd' hlt0 hT' hl0 kw1 kw2 kw3 kw4 hfin x fy hrow h6 hbw hbX hlook aK sub keepN upK set2 set3 pop hlen hcap hcm
      go_wp2_with fail
      go_region
      obtain ⟨w1, hw1⟩ : ∃ w1, w1 = ((((((w9.setCell ⟨tb, 0, none⟩ (.int .i64 k')).setCell ⟨tb, 1, none⟩ (.string n')).setCell ⟨tb, 2, none⟩ (.int .i64 i')).setCell ⟨tb, 3, none⟩ (.int .u64 re')).setCell ⟨tb, 4, none⟩ (.int .u64 im')).setCell ⟨tb, 5, none⟩ (.slice al l'.length cl)).drew := ⟨_, rfl⟩
      rw [← hw1]
      have x1 : XX w N p q mb m s' (PK pb p q mb (SK tb (rpt.BT k' n' i' re' im' al l'.length cl) (.slice (some ⟨g, 0, none⟩) (r.length + 1) cg) (r.length + 1) (xs0 ++ [.int .u64 fc, .int .i64 fo, .slice a1 (l.length + 1) cap, .int .i64 fx]))) w1 := by
        obtain ⟨hb, up⟩ := HX.out.term
        refine up _ w1 ?_ (by rw [hw1]; exact six_blk hb)
        rw [hw1]
        exact (wlk.keep_set6 w9 tb _ _ _ _ _ _).trans (F' := fun k => k = tb) (kp.Keep.drew (fun k => k = tb) _) fun _ => Or.inl
      clear hw1 y0 y1 y2 y3 y4 y5 fy0 fy1 fy2 fy3 fy4 fy5 e0 e1 e2 e3 e4 e5 z0 z1 z2 z3 fz b0 b1 b2
      have hl0 := HS.out.2.2.2.2.2.2.2.2.1
      obtain ⟨⟨z0, z1, z2, z3⟩, fz, set2, set3, pop, _⟩ := x1.four hl0
      have fz2 := fz (r.length * 4 + 2)
      have fz3 := fz (r.length * 4 + 3)
      have S2 := Lib.hid set2
      clear fz set2 set3 pop hl0 hl1 x1 hlw hfx hd9
      go_wp2_with fail
      go_step3
      obtain ⟨hn, hok, hstk, ha', hv', hd', hlt0, hT', hl0, hcap, hcm, kw1, kw2, kw3, kw4⟩ := HS.out
      obtain ⟨_, _, _, set3, _⟩ := (S2.out (.slice a2 l.length (cap - 1))).four hl0
      have hfx : fx ≤ 1048576 := by have := (HX.out.len (frPK frSK)).1; simp only [List.length_cons] at kw3; omega
      rw [show wrap64 ((fx : Int) + 1) = ((fx + 1 : Nat) : Int) by clear hn hok hstk ha' hv' hd' hlt0 hT' hl0 hcap hcm kw1 kw2 kw3 kw4 set3; unfold wrap64; omega]
      have hls : (Tm.mk k' n' i' re' im' l' :: l).length = l.length + 1 := rfl
      rw [hls] at hcap kw3
      have hrs : rest ((fc, fo, Tm.mk k' n' i' re' im' l' :: l, fx) :: r) = size (Tm.mk k' n' i' re' im' l') + rest ((fc, fo, l, fx + 1) :: r) := by
        show sizeL (Tm.mk k' n' i' re' im' l' :: l) + rest r = _ + (sizeL l + rest r)
        rw [sizeL]; omega
      have hws : wei ((fc, fo, Tm.mk k' n' i' re' im' l' :: l, fx) :: r) = 4 * size (Tm.mk k' n' i' re' im' l') + wei ((fc, fo, l, fx + 1) :: r) := by
        show 2 + 4 * sizeL (Tm.mk k' n' i' re' im' l' :: l) + wei r = _ + (2 + 4 * sizeL l + wei r)
        rw [sizeL]; omega
      rw [hrs] at ha' hv' hd'
      refine ⟨4 * size (Tm.mk k' n' i' re' im' l') + wei ((fc, fo, l, fx + 1) :: r), by omega, Or.inl ⟨rfl, J0.mk _ _ _ _ _ s' _ _ _ _ _ _ _ _ rfl (Or.inr ⟨⟨by omega, by omega⟩, ?_⟩) (kw2 _ (by simp)) hlt0 HF.out ?_ ha' hv' hd' (set3 _) rfl⟩⟩
      · exact Fok.mk kw1 (fun t ht => kw2 t (by simp [ht])) (by show fx + 1 + l.length ≤ _; omega) kw4
      · rw [Stk]
        exact ⟨xs0, a2, cap - 1, rfl, hT', by show l.length ≤ _; omega, by omega, hstk⟩
  · rintro up n9 a9 w9 ⟨t, own, r, xs, v, U, s', tk, tn, ti, tr, tm', ta, tl, tc, hn, h0, hs, hlies, hdn, hstk, ha', hv', hd', x, rfl⟩
    have UP := Lib.hid up
    have hlen := (x.len (frPK frSK)).1
    have hsz := kids_size t
    have ho : own = -1 ∨ (0 ≤ own ∧ own < s'.h.length) := h0.imp (fun h => h.1) (fun h => h.1)
    have hnode := node_any frSK t _ hlies hs own (ho.imp id fun h => ⟨h.1, by omega⟩) (by omega) (by omega) x
    obtain ⟨cc, ee, s1, hN⟩ : ∃ cc ee s1, nodeM m t own s' = (cc, ee, s1) := ⟨_, _, _, rfl⟩
    rw [hN] at hnode
    have hd := dn_step m t own r s' hs (by omega) hlen hN
    rw [hdn] at hd
    have hg := node_grow m t own s' hs (by omega) hlen ho hN
    have HD := Lib.hid hd
    have HG := Lib.hid hg
    obtain ⟨k', n', i', re', im', l'⟩ := t
    have hlt1 := hlies
    rw [Lies] at hlt1
    obtain ⟨al, cl, hv9, hfit, hrl⟩ := hlt1
    have hcw := node_w m own s' hlen (ho.imp id fun h => ⟨h.1, by omega⟩) (fun c h => x.look_w (frPK frSK) ⟨hfit.i0, hfit.i1⟩ h) hN
    simp only [Value.agg.injEq, Array.mk.injEq, List.cons.injEq, Value.int.injEq, Value.string.injEq, Value.slice.injEq, true_and, and_true] at hv9
    obtain ⟨rfl, rfl, rfl, rfl, rfl, rfl, rfl, rfl⟩ := hv9
    have HS := Lib.hid (And.intro hn (And.intro h0 (And.intro hs (And.intro hstk (And.intro ha' (And.intro hv' (And.intro hd' (And.intro hsz (And.intro hrl (And.intro hfit (And.intro hcw hlen)))))))))))
    obtain ⟨b0, b1, b2⟩ := x.putter
    obtain ⟨y0, y1, y2, y3, y4, y5⟩ := x.six
    clear up hn h0 hs hlies hdn hstk ha' hv' hd' x hsz ho hN hd hg hrl hfit hcw hlen
    go_wp2_with fail
    refine hnode.mono ?_; rintro e w2 ⟨rfl, x2⟩
    dsimp only at x2
    have X2 := Lib.hid x2
    clear hnode y0 y1 y2 y3 y4 y5 b0 b1 b2
    by_cases he : ee = 0
    · subst he
      obtain ⟨M, hR, upR⟩ := x2.stack
      have hR0 := hR.1
      obtain ⟨i0, hi, hz0, hz1, hz2⟩ := info_parts infoL
      have HI := Lib.hid (And.intro hi (And.intro hz0 (And.intro hz1 hz2)))
      have HO := Lib.hid hR0
      have PU := Lib.hid (fun (v' : Value) (w3 : World) (hr3 : w3.ownsRow 0 133 4 v' (r.length + 1) (xs ++ [.int .u64 cc, .int .i64 own, .slice none 0 0, .int .i64 0])) g3 hat => upR _ _ _ _ (Row.push hR (kp.ba w2 (.cells #[.int .u64 cc, .int .i64 own, .slice none 0 0, .int .i64 0] 133)) hr3 g3 hat))
      have hrl : r.length ≤ 5000 := by have := HS.out.2.2.2.2.2.2.1; omega
      clear x2 hR upR hR0 hi hz0 hz1 hz2
      go_wp2_with (at_builtin; refine wpList_append_own_at _ rfl (.tmp 21) (.tmp 25) 130 rfl 0 133 i0 (.agg #[.int .u64 0, .int .i64 0, .slice none 0 0, .int .i64 0]) 4 48 Try.underlying130 HI.out.1 HI.out.2.1 HI.out.2.2.1 HI.out.2.2.2 rfl (by decide) _ _ _ rfl (HO.out.alloc _) ⟨w2.heap.size, 0, none⟩ 1 1 [.int .u64 cc, .int .i64 own, .slice none 0 0, .int .i64 0] rfl rfl (cell_four_new _ _ _ _ _ _) ?c2 ?b1 ?b2 ?b3 ?_)
      case c2 => intro z hz; simp at hz; rcases hz with rfl | rfl | rfl | rfl <;> rfl
      case b1 => unfold maxLen; omega
      case b2 => omega
      case b3 => simp
      intro v' w3 hr3 g3 _ hat
      have x3 := PU.out v' w3 hr3 g3 (by simpa using hat)
      clear hr3 g3 hat PU HO X2
      obtain ⟨g, cg, rfl, hcg⟩ := x3.shape
      obtain ⟨hgt, hgp, htp⟩ := x3.apart
      have hgt' : tb ≠ g := fun e => hgt e.symm
      have hl0 := Stk.len HS.out.2.2.2.1
      obtain ⟨⟨z0, z1, z2, z3⟩, fz, set2, set3, pop, _⟩ := x3.four hl0
      obtain ⟨y0, y1, y2, y3, y4, y5⟩ := x3.six
      have ix := fun w => ix_rule (g := g) (n := r.length + 1) (c := cg) (k := r.length) (by omega) w
      have hfin := HD.out
      first | rw [if_pos rfl] at hfin | rw [if_pos trivial] at hfin
      have HF := Lib.hid hfin
      have X3 := Lib.hid x3
      have S2 := Lib.hid set2
      have fz2 := fz (r.length * 4 + 2)
      have fz3 := fz (r.length * 4 + 3)
      clear fz set2 set3 pop hfin x3 hl0
      by_cases hk : tk = 5
      · subst hk
        rw [kids5] at HF HG
        have hcw : W64 cc := HS.out.2.2.2.2.2.2.2.2.2.2.1
        have hpl := fun w => place_any cc w hcw
        obtain ⟨qn, hq⟩ := Int.eq_ofNat_of_zero_le (show 0 ≤ cc / 8 by obtain ⟨h0, h1⟩ := hcw; omega)
        rw [hq] at hpl HG HF
        rw [Int.toNat_natCast] at HG HF
        have HC := Lib.hid (And.intro hcw hq)
        clear hcw hq
        go_wp2_with fail
        refine (hpl _).mono ?_; rintro e w' ⟨rfl, rfl⟩
        go_wp2_with fail
        refine wp_label ?_
        obtain ⟨hn, h0, hs, hstk, ha', hv', hd', hsz, hrl2, hfit, hcw, hlen⟩ := HS.out
        obtain ⟨g1, g2, g3, g4⟩ := HG.out
        obtain ⟨_, _, _, set3, _⟩ := (S2.out (.slice ta l'.length tc)).four (Stk.len hstk)
        have hq61 : qn < 2305843009213693952 := by have h1 := HC.out.1.2; have h2 := HC.out.2; omega
        rw [show wrap64 ((qn : Int) + 1) = ((qn + 1 : Nat) : Int) by clear hn h0 hs hstk ha' hv' hd' hsz hrl2 hfit hcw hlen g1 g2 g3 g4 set3; unfold wrap64; omega]
        have hl1 : 1 ≤ l'.length := by
          rcases pm.chkk (sound_chk hs) with h | ⟨h, _⟩ | h | h | ⟨_, _, h, _⟩ <;> first | exact h | (exfalso; omega)
        have g5 : qn + 1 + l'.length ≤ s1.h.length := (g4 trivial).resolve_right fun h => by rw [h] at hl1; simp at hl1
        rw [kids5] at hsz
        have hrs : rest ((cc, own, l', qn + 1) :: r) = sizeL l' + rest r := rfl
        have hws : wei ((cc, own, l', qn + 1) :: r) = 2 + 4 * sizeL l' + wei r := rfl
        have hA : s1.a.length + rest ((cc, own, l', qn + 1) :: r) ≤ 4096 := by rw [hrs]; omega
        have hV : s1.v.length + rest ((cc, own, l', qn + 1) :: r) ≤ 900000 := by rw [hrs]; omega
        have hD9 : ((cc, own, l', qn + 1) :: r).length + rest ((cc, own, l', qn + 1) :: r) ≤ 5000 := by rw [hrs, List.length_cons]; omega
        have hle9 : wei ((cc, own, l', qn + 1) :: r) + 1 ≤ n9 := by rw [hws]; omega
        have hok9 : Fok s1.h.length ((cc, own, l', qn + 1) :: r) := Fok.mk hcw (fun x hx => sound_args hs rfl x hx) g5 (h0.imp id fun h => ⟨⟨h.1.1, by show own < (s1.h.length : Int); have := h.1.2; omega⟩, h.2.mono g1⟩)
        have hstk9 : Stk N w ((cc, own, l', qn + 1) :: r) (xs ++ [.int .u64 cc, .int .i64 own, .slice ta l'.length tc, .int .i64 ((qn + 1 : Nat) : Int)]) := by
          rw [Stk]
          exact ⟨xs, ta, tc, rfl, hrl2, hfit.l1, by have := hfit.c1; unfold maxLen; exact this, hstk⟩
        refine (by assumption : ∀ a w, Code.wp Try.prog _ _ a w → _) _ _ ?_
        refine wp_mono (UP.out (wei ((cc, own, l', qn + 1) :: r) + 1) _ _ ?hj1) (fun e a w h => du_le hle9 e a w h)
        case hj1 => exact J1.mk (cc, own, l', qn + 1) r _ _ s1 _ _ _ _ _ _ _ _ rfl hok9 HF.out.symm hstk9 hA hV hD9 (set3 _) rfl
      · have hb : (tk == 5) = false := by rw [beq_eq_false_iff_ne]; exact hk
        rw [kidsN hk] at HF HG
        have HK := Lib.hid hk
        clear hk
        go_wp2_with fail
        refine wp_label ?_
        obtain ⟨hn, h0, hs, hstk, ha', hv', hd', hsz, hrl2, hfit, hcw, hlen⟩ := HS.out
        obtain ⟨g1, g2, g3, g4⟩ := HG.out
        rw [kidsN HK.out] at hsz
        have hrs : rest ((cc, own, [], 0) :: r) = 0 + rest r := by show sizeL [] + _ = _; rw [sizeL]
        have hws : wei ((cc, own, [], 0) :: r) = 2 + wei r := by show 2 + 4 * sizeL [] + _ = _; rw [sizeL]
        have hA : s1.a.length + rest ((cc, own, [], 0) :: r) ≤ 4096 := by rw [hrs]; omega
        have hV : s1.v.length + rest ((cc, own, [], 0) :: r) ≤ 900000 := by rw [hrs]; omega
        have hD9 : ((cc, own, [], 0) :: r).length + rest ((cc, own, [], 0) :: r) ≤ 5000 := by rw [hrs, List.length_cons]; omega
        have hle9 : wei ((cc, own, [], 0) :: r) + 1 ≤ n9 := by rw [hws]; omega
        have hok9 : Fok s1.h.length ((cc, own, [], 0) :: r) := Fok.mk hcw (by simp) (by simp) (h0.imp id fun h => ⟨⟨h.1.1, by show own < (s1.h.length : Int); have := h.1.2; omega⟩, h.2.mono g1⟩)
        have hstk9 : Stk N w ((cc, own, [], 0) :: r) (xs ++ [.int .u64 cc, .int .i64 own, .slice none 0 0, .int .i64 0]) := by
          rw [Stk]
          exact ⟨xs, none, 0, rfl, by rw [TRow]; trivial, by simp, by simp, hstk⟩
        have hf : fin m ((cc, own, [], 0) :: r) s1 = R := by
          have hf := HF.out
          rw [fin_nil] at hf ⊢
          exact hf.symm
        refine (by assumption : ∀ a w, Code.wp Try.prog _ _ a w → _) _ _ ?_
        refine wp_mono (UP.out (wei ((cc, own, [], 0) :: r) + 1) _ _ ?hj2) (fun e a w h => du_le hle9 e a w h)
        case hj2 => exact J1.mk (cc, own, [], 0) r _ _ s1 _ _ _ _ _ _ _ _ rfl hok9 hf hstk9 hA hV hD9 X3.out rfl
    · have HE := Lib.hid he
      have hb : (ee != 0) = true := by simpa using he
      clear he x2
      go_wp2_with fail
      simp only [du]
      change bodyPost _ _ _ Exit.ret _ _
      go_ret2
      have hd := HD.out
      rw [if_neg HE.out] at hd
      rw [hd]
      exact ⟨rfl, X2.out.core⟩
  · intro down
    refine ⟨4 * size T + 1, ?_⟩
    go_wp2_with fail
    refine wp_label ?_
    have x1 := X1.out
    rw [← HTB.out]
    refine (by assumption : ∀ a w, Code.wp Try.prog _ _ a w → _) _ _ ?_
    refine wp_mono (down (4 * size T) _ _ ?hj0) (fun e a w h => du_le (Nat.le_succ _) e a w h)
    case hj0 =>
      obtain ⟨g1, g2, g3, g4⟩ := HN.out
      exact J0.mk T (-1) [] [] _ s _ _ _ _ _ _ _ _ rfl (Or.inl ⟨rfl, rfl⟩) g3 HT.out g4 rfl (by show _ + (size T + 0) ≤ _; omega) (by show _ + (size T + 0) ≤ _; omega) (by show 0 + (size T + 0) ≤ _; omega) x1 rfl
end
end Go.Proofs.Ythableojkjhicaa.ppt
namespace Go.Proofs.Ythableojkjhicaa.ppt
set_option linter.unusedVariables false
open Go.ChangeShapes Go.WideShapes Go.ChangeAt Go.RowKit Go.Maps
open Go.Proofs.Ythableojkjhicaa.hp Go.Proofs.Ythableojkjhicaa.cel Go.Proofs.Ythableojkjhicaa.kp Go.Proofs.Ythableojkjhicaa.ob Go.Proofs.Ythableojkjhicaa.pm Go.Proofs.Ythableojkjhicaa.tm Go.Proofs.Ythableojkjhicaa.lie
open Go.Proofs.Ythableojkjhicaa.atm (nv ne nx Tab)
open Go.Proofs.Ythableojkjhicaa.rpt (CK CK_ne law zeroC VM VO frV putT HB frHB)
theorem qV (w : World) (r : Option Nat) : (binOp .eql 51 (.map r) (.map none)).run Try.prog w = .ok (.bool r.isNone) w := run_eql_map_nil w _ _ _ r Try.underlying51
theorem BT_cells {w : World} {k : Int} {n : ByteArray} {i re im : Int} {a : Option Addr} {len c : Nat} : (w.alloc (rpt.BT k n i re im a len c)).cell? ⟨w.heap.size, 0, none⟩ = some (.int .i64 k) ∧ (w.alloc (rpt.BT k n i re im a len c)).cell? ⟨w.heap.size, 1, none⟩ = some (.string n) ∧ (w.alloc (rpt.BT k n i re im a len c)).cell? ⟨w.heap.size, 2, none⟩ = some (.int .i64 i) ∧ (w.alloc (rpt.BT k n i re im a len c)).cell? ⟨w.heap.size, 3, none⟩ = some (.int .u64 re) ∧ (w.alloc (rpt.BT k n i re im a len c)).cell? ⟨w.heap.size, 4, none⟩ = some (.int .u64 im) ∧ (w.alloc (rpt.BT k n i re im a len c)).cell? ⟨w.heap.size, 5, none⟩ = some (.slice a len c) := by
  have h := kp.alloc_at w (rpt.BT k n i re im a len c)
  refine ⟨?_, ?_, ?_, ?_, ?_, ?_⟩ <;> (simp only [World.cell?, h]; rfl)
section
variable {p q mb : Nat} {m : Int} {s : S} {w wr : World} {N : Nat → Prop}
theorem XX.swap {C D : Ob} {w0 : World} (h : XX w0 N p q mb m s (Tim C D) wr) : XX w0 N p q mb m s (Tim D C) wr := h.imp fun _ a => a.swap
/-- the object and what stands beside, as one to begin with -/
theorem XX.split {C : Ob} (fC : Fr C) {w0 : World} (h : XX w0 N p q mb m s C wr) : ∃ K, Tim (PB p q mb m s) C wr K ∧ kp.Keep N w0 wr ∧ ∀ i, K i → N i ∨ w0.heap.size ≤ i := by
  obtain ⟨K, a, k, sub⟩ := h
  exact ⟨K, a, k, sub⟩
set_option maxRecDepth 100000 in
set_option maxHeartbeats 2000000 in
theorem pPut_any (t : Tm) (vt : Value) (h : PB p q mb m s w N) (ht : Lies N w t vt) (ha : s.a.length + size t ≤ 4096) (hv : s.v.length + size t ≤ 900000) (R : Int × Int × S) (hR : R = putT m t s) :
    Calls Try.prog 19 #[.pointer (some ⟨p, 0, none⟩), .pointer (some ⟨q, 0, none⟩), vt, .map (some mb)] w fun e w' => e = .returned (.tuple #[.int .u64 R.1, .int .i64 R.2.1]) ∧ Nx (PB p q mb m R.2.2) w N w' := by
  have HT := Lib.hid ht
  obtain ⟨T, hT⟩ : ∃ T, T = t := ⟨_, rfl⟩
  rw [← hT] at HT ha hv hR
  obtain ⟨k, n, i, re, im, l⟩ := t
  rw [Lies] at ht
  obtain ⟨a, c, rfl, hf, hr⟩ := ht
  have X1 := Lib.hid (XX.start h (rpt.BT k n i re im a l.length c))
  have HN := Lib.hid (And.intro ha hv)
  have hmay := fun w' (b : Below w.heap.size w w') => mes.may_any T _ w' ((HT.out.off (Y := No) (fun _ _ h => h.elim)).below b)
  have hnil : ∀ w' : World, (binOp .eql 51 (.map (some mb)) (.map none)).run Try.prog w' = .ok (.bool false) w' := fun w' => qV w' (some mb)
  have hb1 := kp.ba w (rpt.BT k n i re im a l.length c)
  clear h hf hr hT ha hv
  by_cases hg : may T = 0
  · have hput := Lib.hid (show R = put m T (-1) s by rw [hR]; unfold putT; rw [if_pos hg])
    have HS := Lib.hid (good_sound ((may_iff T).1 hg))
    rw [hg] at hmay
    clear hg hR
    go_enter Try.func19, Try.ntmps19
    go_wp2_with fail
    refine (hmay _ hb1).mono ?_; rintro e w2 ⟨rfl, hb2⟩
    have x2 := X1.out.below (Fr.blk _ _) hb2
    obtain ⟨y0, y1, y2, y3, y4, y5⟩ := XX.cells x2
    have hs2 : w.heap.size < w2.heap.size := by have := hb2.size; rw [kp.alloc_size] at this; omega
    have x3 : XX w N p q mb m s (Blk w2.heap.size (PC p q mb)) (w2.alloc (PC p q mb)) := (x2.alloc (Fr.blk _ _) (PC p q mb)).swap.less
    obtain ⟨K, aK, kK, subK⟩ := x3.split (Fr.blk _ _)
    have hlay := lay_any T _ aK (Lies.keep kK (Y := K) (fun b hb hK => (subK b hK).resolve_right (by omega)) _ _ HT.out) HS.out HN.out.1 HN.out.2 R hput.out.symm
    have UP := Lib.hid (fun w' (nn : Nx (Tim (PB p q mb m R.2.2) (Blk w2.heap.size (PC p q mb))) (w2.alloc (PC p q mb)) K w') => XX.drop (C := Blk w2.heap.size (PC p q mb)) (Nx.trans kK subK nn))
    unfold PC at hlay
    clear hmay hb1 hb2 x2 X1 x3 aK kK subK
    go_wp2_with fail
    refine hlay.mono ?_; rintro e w5 ⟨rfl, nn⟩
    have X5 := Lib.hid (UP.out _ nn)
    clear hlay nn UP y0 y1 y2 y3 y4 y5
    go_wp2_with fail
    go_ret2
    exact ⟨rfl, X5.out⟩
  · have hput := Lib.hid (show R = (0, may T, s) by rw [hR]; unfold putT; rw [if_neg hg])
    have hb : (may T != 0) = true := by simpa using hg
    clear hg hR
    go_enter Try.func19, Try.ntmps19
    go_wp2_with fail
    refine (hmay _ hb1).mono ?_; rintro e w2 ⟨rfl, hb2⟩
    have X2 := Lib.hid (X1.out.below (Fr.blk _ _) hb2)
    clear hb2 X1 hmay
    go_wp2_with fail
    go_ret2
    rw [hput.out]
    exact ⟨rfl, X2.out.drop⟩
/-- without a map -/
theorem new_map {h0 : List Int} {a0 : List ByteArray} (h : Tim (HB TH p h0 m) (PO q a0) w N) (b : Below w.heap.size w wr) : Nx (PB p q wr.heap.size m ⟨h0, a0, []⟩) w N (wr.alloc (.map #[] 0)) := by
  have h1 := (frHB.tim frPO).below h b
  have hlt := (frHB.tim frPO).lt h
  have hs := b.size
  obtain ⟨K, M, k, mm, d, e⟩ := h1
  refine ⟨fun i => K i ∨ (M i ∨ i = wr.heap.size), ⟨K, fun i => M i ∨ i = wr.heap.size, frHB.below k (kp.ba _ _), ⟨M, fun i => i = wr.heap.size, frPO.below mm (kp.ba _ _), ⟨⟨.map [], World.ownsMap_made wr Try.prog 2 _, VM.nil, rfl⟩, fun _ => Iff.rfl⟩, fun i h1 h2 => ?_, fun _ => Iff.rfl⟩, fun i h1 h2 => ?_, fun _ => Iff.rfl⟩, (Keep.of_below b).trans (Keep.of_below (F := fun _ => False) (kp.ba _ _)) (fun _ h => h.elim), fun i hi => ?_⟩
  · have := hlt i ((e i).2 (Or.inr h1)); omega
  · rcases h2 with h2 | h2
    · exact d i h1 h2
    · have := hlt i ((e i).2 (Or.inl h1)); omega
  · rcases hi with hi | hi | hi
    · exact Or.inl ((e i).2 (Or.inl hi))
    · exact Or.inl ((e i).2 (Or.inr hi))
    · exact Or.inr (by omega)
theorem PB.less {A : World} {w' : World} (h : Nx (PB p q mb m s) A N w') : Nx (Tim (HB TH p s.h m) (PO q s.a)) A N w' := by
  obtain ⟨K', ⟨K, M, a, ⟨K2, M2, b, c, d2, e2⟩, d, e⟩, k, sub⟩ := h
  exact ⟨fun i => K i ∨ K2 i, ⟨K, K2, a, b, fun i h1 h2 => d i h1 ((e2 i).2 (Or.inl h2)), fun _ => Iff.rfl⟩, k, fun i hi => sub i ((e i).2 (hi.imp id fun h => (e2 i).2 (Or.inl h)))⟩
set_option maxRecDepth 100000 in
set_option maxHeartbeats 2000000 in
theorem pPut_new {h0 : List Int} {a0 : List ByteArray} (t : Tm) (vt : Value) (h : Tim (HB TH p h0 m) (PO q a0) w N) (ht : Lies N w t vt) (ha : a0.length + size t ≤ 4096) (R : Int × Int × S) (hR : R = putT m t ⟨h0, a0, []⟩) :
    Calls Try.prog 19 #[.pointer (some ⟨p, 0, none⟩), .pointer (some ⟨q, 0, none⟩), vt, .map none] w fun e w' => e = .returned (.tuple #[.int .u64 R.1, .int .i64 R.2.1]) ∧ Nx (Tim (HB TH p R.2.2.h m) (PO q R.2.2.a)) w N w' := by
  have HT := Lib.hid ht
  obtain ⟨T, hT⟩ : ∃ T, T = t := ⟨_, rfl⟩
  rw [← hT] at HT ha hR
  obtain ⟨k, n, i, re, im, l⟩ := t
  rw [Lies] at ht
  obtain ⟨a, c, rfl, hf, hr⟩ := ht
  have HH := Lib.hid h
  have HN := Lib.hid (show a0.length + size T ≤ 4096 ∧ ([] : List (Int × Int)).length + size T ≤ 900000 by simp; omega)
  have hmay := fun w' (b : Below w.heap.size w w') => mes.may_any T _ w' ((HT.out.off (Y := No) (fun _ _ h => h.elim)).below b)
  have hnil : ∀ w' : World, (binOp .eql 51 (.map none) (.map none)).run Try.prog w' = .ok (.bool true) w' := fun w' => qV w' none
  have hmm := @run_makeMap Try.prog
  have hb1 := kp.ba w (rpt.BT k n i re im a l.length c)
  clear hf hr hT ha h
  by_cases hg : may T = 0
  · have hput := Lib.hid (show R = put m T (-1) ⟨h0, a0, []⟩ by rw [hR]; unfold putT; rw [if_pos hg])
    have HS := Lib.hid (good_sound ((may_iff T).1 hg))
    rw [hg] at hmay
    clear hg hR
    go_enter Try.func19, Try.ntmps19
    go_wp2_with fail
    refine (hmay _ hb1).mono ?_; rintro e w2 ⟨rfl, hb2⟩
    have hbb : Below w.heap.size w w2 := hb1.trans (hb2.mono hb1.size)
    have hc6 := (BT_cells (w := w) (k := k) (n := n) (i := i) (re := re) (im := im) (a := a) (len := l.length) (c := c)) 
    have hcell : ∀ j x, (w.alloc (rpt.BT k n i re im a l.length c)).cell? ⟨w.heap.size, j, none⟩ = some x → w2.cell? ⟨w.heap.size, j, none⟩ = some x := fun j x hx => (hb2.cell (p := ⟨w.heap.size, j, none⟩) (by rw [kp.alloc_size]; exact Nat.lt_succ_self _)).trans hx
    obtain ⟨y0, y1, y2, y3, y4, y5⟩ := hc6
    have y0 := hcell _ _ y0
    have y1 := hcell _ _ y1
    have y2 := hcell _ _ y2
    have y3 := hcell _ _ y3
    have y4 := hcell _ _ y4
    have y5 := hcell _ _ y5
    have x2 : XX w N p q w2.heap.size m ⟨h0, a0, []⟩ Nob (w2.alloc (.map #[] 0)) := by
      obtain ⟨K, a, k, sub⟩ := new_map HH.out hbb
      exact ⟨K, ⟨K, fun _ => False, a, fun _ => id, fun _ _ => id, fun i => by simp⟩, k, sub⟩
    have x3 : XX w N p q w2.heap.size m ⟨h0, a0, []⟩ (Blk (w2.alloc (.map #[] 0)).heap.size (PC p q w2.heap.size)) ((w2.alloc (.map #[] 0)).alloc (PC p q w2.heap.size)) := (x2.alloc Fr.nob (PC p q w2.heap.size)).swap.less
    obtain ⟨K, aK, kK, subK⟩ := x3.split (Fr.blk _ _)
    have hlay := lay_any T _ aK (Lies.keep kK (Y := K) (fun b hb hK => (subK b hK).resolve_right (by omega)) _ _ HT.out) HS.out HN.out.1 HN.out.2 R hput.out.symm
    have hs2 : w.heap.size < w2.heap.size := by have := hb2.size; rw [kp.alloc_size] at this; omega
    rw [kp.alloc_size] at hlay
    have UP := Lib.hid (fun w' (nn : Nx (Tim (PB p q w2.heap.size m R.2.2) (Blk (w2.heap.size + 1) (PC p q w2.heap.size))) ((w2.alloc (.map #[] 0)).alloc (PC p q w2.heap.size)) K w') => PB.less (XX.drop (C := Blk (w2.heap.size + 1) (PC p q w2.heap.size)) (Nx.trans kK subK nn)))
    unfold PC at hlay
    clear hmay hb1 hb2 x2 x3 aK kK subK hbb hcell
    go_wp2_with fail
    refine hlay.mono ?_; rintro e w5 ⟨rfl, nn⟩
    have X5 := Lib.hid (UP.out _ nn)
    clear hlay nn UP y0 y1 y2 y3 y4 y5
    go_wp2_with fail
    go_ret2
    exact ⟨rfl, X5.out⟩
  · have hput := Lib.hid (show R = (0, may T, ⟨h0, a0, []⟩) by rw [hR]; unfold putT; rw [if_neg hg])
    have hb : (may T != 0) = true := by simpa using hg
    clear hg hR
    go_enter Try.func19, Try.ntmps19
    go_wp2_with fail
    refine (hmay _ hb1).mono ?_; rintro e w2 ⟨rfl, hb2⟩
    have X2 := Lib.hid (show Nx (Tim (HB TH p h0 m) (PO q a0)) w N w2 from Nx.below (frHB.tim frPO) (Nx.same HH.out) (hb1.trans (hb2.mono hb1.size)))
    clear hb2 hb1 hmay
    go_wp2_with fail
    go_ret2
    rw [hput.out]
    exact ⟨rfl, X2.out⟩
/-- of no heap, no names -/
theorem pPut_nil1 (q : Option Addr) (v3 : Value) {k : Int} {n : ByteArray} {i re im : Int} {a : Option Addr} {l c : Nat} (w : World) : Calls Try.prog 19 #[.pointer none, .pointer q, .agg #[.int .i64 k, .string n, .int .i64 i, .int .u64 re, .int .u64 im, .slice a l c], v3] w fun e w' => e = .returned (.tuple #[.int .u64 0, .int .i64 1]) ∧ Below w.heap.size w w' := by
  have hb := kp.ba w (rpt.BT k n i re im a l c)
  go_enter Try.func19, Try.ntmps19
  go_wp2_with fail
  go_ret2
  exact ⟨rfl, hb⟩
theorem pPut_nil2 (p : Addr) (v3 : Value) {k : Int} {n : ByteArray} {i re im : Int} {a : Option Addr} {l c : Nat} (w : World) : Calls Try.prog 19 #[.pointer (some p), .pointer none, .agg #[.int .i64 k, .string n, .int .i64 i, .int .u64 re, .int .u64 im, .slice a l c], v3] w fun e w' => e = .returned (.tuple #[.int .u64 0, .int .i64 1]) ∧ Below w.heap.size w w' := by
  have hb := kp.ba w (rpt.BT k n i re im a l c)
  go_enter Try.func19, Try.ntmps19
  go_wp2_with fail
  go_ret2
  exact ⟨rfl, hb⟩
end
end Go.Proofs.Ythableojkjhicaa.ppt
