/- The law CopyShares holds: for every input its Go function returns true and leaves its arguments as they were. No condition beyond the row's own. -/
import Derived.Test.YthableojkjhicaaRows
import Derived.WalkKit
import Derived.ProofKit
import Derived.OpenShut
import Derived.SizedLaws
import Derived.Test.YthableojkjhicaaCpS
import Derived.Test.YthableojkjhicaaRDp
import Derived.Test.YthableojkjhicaaRNo
import Derived.Test.YthableojkjhicaaTOpen
import Derived.Test.YthableojkjhicaaRMay
import Derived.Deep.RegionHeld3
import Derived.Maps.OwnSet
namespace Go.Proofs.Ythableojkjhicaa.copyShares
open Go.ChangeShapes Go.WideShapes Go.ChangeAt Go.RowKit
open Go.ChangeMaps (open_string)
open Go.Maps
open Go.Proofs.Ythableojkjhicaa.hp Go.Proofs.Ythableojkjhicaa.cel Go.Proofs.Ythableojkjhicaa.kp Go.Proofs.Ythableojkjhicaa.ob Go.Proofs.Ythableojkjhicaa.tm Go.Proofs.Ythableojkjhicaa.lie Go.Proofs.Ythableojkjhicaa.s7 Go.Proofs.Ythableojkjhicaa.ppt Go.Proofs.Ythableojkjhicaa.top Go.Proofs.Ythableojkjhicaa.sl Go.Proofs.Ythableojkjhicaa.rmy Go.Proofs.Ythableojkjhicaa.cur Go.Proofs.Ythableojkjhicaa.pm Go.Proofs.Ythableojkjhicaa.rva Go.Proofs.Ythableojkjhicaa.ren Go.Proofs.Ythableojkjhicaa.awk Go.Proofs.Ythableojkjhicaa.cpy
open Go.Proofs.Ythableojkjhicaa.un (Tim.mid mPut_fresh)
open Go.Proofs.Ythableojkjhicaa.rpt (putT HB frHB VO frV VM CK law zeroC)
open Go.Proofs.Ythableojkjhicaa.atm (nv ne nx l0)
open Go.Proofs.Ythableojkjhicaa.pgt (getT GO frGO OT frOT SC6 nv6)
set_option linter.unusedVariables false
theorem own : ownKnob Try.prog.godebug = none := by kernel_rfl
theorem laidOut : laidOutB Try.prog = true := by kernel_rfl
theorem var_ok_ {A : Tm} (g : good A = true) : sameB (rn (rn A)) (rn A) = true := by rw [rn_rn g, sameB_refl]; exact good_rn g
structure BX (w : World) (o : Obj) (wr : World) : Prop where
  bel : Below w.heap.size w wr
  box : wr.heap[w.heap.size]? = some o
theorem BX.mk0 (w : World) (o : Obj) : BX w o (w.alloc o) := ⟨kp.ba w o, kp.alloc_at w o⟩
theorem BX.below {w wr w' : World} {o : Obj} (h : BX w o wr) (hb : Below wr.heap.size wr w') : BX w o w' := ⟨h.bel.trans (hb.mono h.bel.size), (hb.block _ (Array.getElem?_eq_some_iff.1 h.box).1).trans h.box⟩
theorem BX.cells {w wr : World} {v0 v1 v2 v3 v4 v5 : Value} {t : TypeId} (h : BX w (.cells #[v0, v1, v2, v3, v4, v5] t (0, 0)) wr) : wr.cell? ⟨w.heap.size, 0, none⟩ = some v0 ∧ wr.cell? ⟨w.heap.size, 1, none⟩ = some v1 ∧ wr.cell? ⟨w.heap.size, 2, none⟩ = some v2 ∧ wr.cell? ⟨w.heap.size, 3, none⟩ = some v3 ∧ wr.cell? ⟨w.heap.size, 4, none⟩ = some v4 ∧ wr.cell? ⟨w.heap.size, 5, none⟩ = some v5 := by
  have := h.box
  refine ⟨?_, ?_, ?_, ?_, ?_, ?_⟩ <;> simp [World.cell?, this]
theorem len1 {W wr : World} {A B C : Ob} {k : Nat} {h : List Int} {m : Int} (hm : Mine W (Tim (Tim (HB TH k h m) A) C) wr) : Calls Try.prog 22 #[.pointer (some ⟨k, 0, none⟩)] wr fun e w' => e = .returned (.int .i64 h.length) ∧ wr = w' := by
  obtain ⟨N, ⟨K, M, ⟨K1, M1, x, _⟩, _⟩, _⟩ := hm
  exact len_any x
theorem wpList_insert_own {H : Type} {P : Program} (w : World) {ops : Array Oper} {rest : List Oper} {o : Oper} {a : Act} {Q : Exit → Act → World → Prop}
    (hg : o.guard = none) (m x v : Operand) (t : TypeId) (hop : o.op = Op.insert t m x v)
    (k e : TypeId) (K : Keyed P k) (ht : P.underlying t = some (.map k e)) (R : Value → Option (DataW H × List MemPlace)) (b n : Nat) (D : DataW H)
    (hm : a.eval m = .map (some b)) (hown : w.ownsMap P k R b n D) (hn : n < maxLen) (key val : Value) (kl : Lit) (hx : a.eval x = key) (hv : a.eval v = val) (hkey : keyOf P k key = some kl)
    (d : DataW H) (ps : List MemPlace) (hval : R val = some (d, ps))
    (hK : ∀ w', w'.ownsMap P k R b (n + 1) (D.put kl d) → w.grownBy w' (some b) → wpList P ops Q rest (a.put o.dst undef) w') :
    wpList P ops Q (o :: rest) a w := by
  refine wpList_plain hg fun K' hK' => ?_
  obtain ⟨w', hrun, r1, r2⟩ := hown.update K ht hn hkey hval
  unfold Oper.wp
  simp [execOp, hop, hm, hx, hv, hrun, Result.andThen]
  exact hK' _ _ (hK w' r1 r2)
/-- one variable more in the map -/
theorem mOne {W wr : World} {p q mb : Nat} {m : Int} {h : List Int} {a : List ByteArray} {C : Ob} (fC : Fr C) (hm : Mine W (Tim (PB p q mb m ⟨h, a, []⟩) C) wr) : ∃ D, wr.ownsMap Try.prog 2 (plainElem (H := Unit) Try.prog 23) mb 0 D ∧
    ∀ (c : Int) w7, w7.ownsMap Try.prog 2 (plainElem (H := Unit) Try.prog 23) mb 1 (D.put (CK 0) (.lit (.int .u64 c))) → wr.grownBy w7 (some mb) → Mine W (Tim (PB p q mb m ⟨h, a, [(0, c)]⟩) C) w7 := by
  obtain ⟨M, hM, hs, hb, up⟩ := Mine.one fC hm
  obtain ⟨M1, h1, up1⟩ := Tim.at2 frHB hM
  obtain ⟨M2, ⟨⟨D, hD, hv, hz⟩, hF⟩, up2⟩ := Tim.at2 frPO h1
  refine ⟨D, hD, fun c w7 h7 g => up (PB p q mb m ⟨h, a, [(0, c)]⟩) _ (up1 _ _ (up2 (VO mb [(0, c)]) _ ⟨M2, ⟨⟨_, h7, VM.put (v := []) hv hD.isMap rfl, rpt.size_new (v := []) hD hv rfl hz⟩, hF⟩, Keep.of_grown g fun k e => (hF k).2 (by injection e with e; exact e.symm), fun _ => Or.inl⟩))⟩
def R3 : Obj := .cells #[.int .i64 1, .string ⟨#[]⟩, .int .i64 0, .int .u64 0, .int .u64 0, .slice none 0 0, .int .i64 1, .string ⟨#[]⟩, .int .i64 0, .int .u64 0, .int .u64 0, .slice none 0 0, .int .i64 1, .string ⟨#[]⟩, .int .i64 0, .int .u64 0, .int .u64 0, .slice none 0 0] 36 (0, 0)
theorem lies_t3 {X : Nat → Prop} (w0 : World) {w2 : World} (hX : ¬ X w0.heap.size) (hb : Below (w0.heap.size + 1) (w0.alloc R3) w2) : Lies X w2 t3 (.agg #[.int .i64 5, .string ⟨#[102]⟩, .int .i64 0, .int .u64 0, .int .u64 0, .slice (some ⟨w0.heap.size, 0, none⟩) 3 3]) := by
  have hv := pla.var_lies X 0 w0 (by omega) (by omega)
  have hrow := s7.row_newX w0 #[.int .i64 1, .string ⟨#[]⟩, .int .i64 0, .int .u64 0, .int .u64 0, .slice none 0 0, .int .i64 1, .string ⟨#[]⟩, .int .i64 0, .int .u64 0, .int .u64 0, .slice none 0 0, .int .i64 1, .string ⟨#[]⟩, .int .i64 0, .int .u64 0, .int .u64 0, .slice none 0 0] [var 0, var 0, var 0] hX (fun m hm => by
    match m, hm with
    | 0, _ => exact ⟨_, _, _, _, _, _, rfl, rfl, rfl, rfl, rfl, rfl, hv⟩
    | 1, _ => exact ⟨_, _, _, _, _, _, rfl, rfl, rfl, rfl, rfl, rfl, hv⟩
    | 2, _ => exact ⟨_, _, _, _, _, _, rfl, rfl, rfl, rfl, rfl, rfl, hv⟩
    | m + 3, hm => exact absurd hm (by simp))
  exact awk.comp_lies (n := ⟨#[102]⟩) (c := 3) (by decide) (by simp) (by simp [maxLen]) (hrow.below (by rw [kp.alloc_size]; exact hb))
/-- what is known behind the last Get -/
structure SU (w : World) (oA : Obj) (ll : Nat) (h5 : List Int) (b1 : Nat) (sl : Value) (A : Tm) (b o b' o' : Nat) (u0 u1 u2 u3 u4 u5 v0 v1 v2 v3 v4 v5 : Value) (wr : World) : Prop where
  bx : BX w oA wr
  y5 : wr.cell? ⟨b1, 5, none⟩ = some sl
  s1 : Six wr b o u0 u1 u2 u3 u4 u5
  s2 : Six wr b' o' v0 v1 v2 v3 v4 v5
  l1 : Lies No wr A (.agg #[u0, u1, u2, u3, u4, u5])
  l2 : Lies No wr A (.agg #[v0, v1, v2, v3, v4, v5])
  hh : ∃ F, Hp TH wr ll F h5 10000
theorem SU.below {w : World} {oA : Obj} {ll : Nat} {h5 : List Int} {b1 : Nat} {sl : Value} {A : Tm} {b o b' o' : Nat} {u0 u1 u2 u3 u4 u5 v0 v1 v2 v3 v4 v5 : Value} {wr w' : World} (h : SU w oA ll h5 b1 sl A b o b' o' u0 u1 u2 u3 u4 u5 v0 v1 v2 v3 v4 v5 wr) (hb : Below wr.heap.size wr w') : SU w oA ll h5 b1 sl A b o b' o' u0 u1 u2 u3 u4 u5 v0 v1 v2 v3 v4 v5 w' :=
  ⟨h.bx.below hb, (hb.cell (p := ⟨b1, 5, none⟩) (lie.cell_lt h.y5)).trans h.y5, h.s1.keep (X := fun _ => False) (Keep.of_below hb) id, h.s2.keep (X := fun _ => False) (Keep.of_below hb) id, h.l1.below hb, h.l2.below hb, h.hh.choose, Hp.below h.hh.choose_spec hb⟩
theorem SU.drew {w : World} {oA : Obj} {ll : Nat} {h5 : List Int} {b1 : Nat} {sl : Value} {A : Tm} {b o b' o' : Nat} {u0 u1 u2 u3 u4 u5 v0 v1 v2 v3 v4 v5 : Value} {wr : World} (h : SU w oA ll h5 b1 sl A b o b' o' u0 u1 u2 u3 u4 u5 v0 v1 v2 v3 v4 v5 wr) : SU w oA ll h5 b1 sl A b o b' o' u0 u1 u2 u3 u4 u5 v0 v1 v2 v3 v4 v5 wr.drew := h.below (kp.bdr wr)
theorem SU.c {w : World} {ll : Nat} {h5 : List Int} {b1 : Nat} {sl : Value} {A : Tm} {b o b' o' : Nat} {a0 a1 a2 a3 a4 a5 u0 u1 u2 u3 u4 u5 v0 v1 v2 v3 v4 v5 : Value} {t : TypeId} {wr : World} (h : SU w (.cells #[a0, a1, a2, a3, a4, a5] t (0, 0)) ll h5 b1 sl A b o b' o' u0 u1 u2 u3 u4 u5 v0 v1 v2 v3 v4 v5 wr) :
    (wr.cell? ⟨w.heap.size, 0, none⟩ = some a0 ∧ wr.cell? ⟨w.heap.size, 1, none⟩ = some a1 ∧ wr.cell? ⟨w.heap.size, 2, none⟩ = some a2 ∧ wr.cell? ⟨w.heap.size, 3, none⟩ = some a3 ∧ wr.cell? ⟨w.heap.size, 4, none⟩ = some a4 ∧ wr.cell? ⟨w.heap.size, 5, none⟩ = some a5) ∧ wr.cell? ⟨b1, 5, none⟩ = some sl ∧
    (wr.cell? ⟨b, o, none⟩ = some u0 ∧ wr.cell? ⟨b, o + 1, none⟩ = some u1 ∧ wr.cell? ⟨b, o + 2, none⟩ = some u2 ∧ wr.cell? ⟨b, o + 3, none⟩ = some u3 ∧ wr.cell? ⟨b, o + 4, none⟩ = some u4 ∧ wr.cell? ⟨b, o + 5, none⟩ = some u5) ∧
    (wr.cell? ⟨b', o', none⟩ = some v0 ∧ wr.cell? ⟨b', o' + 1, none⟩ = some v1 ∧ wr.cell? ⟨b', o' + 2, none⟩ = some v2 ∧ wr.cell? ⟨b', o' + 3, none⟩ = some v3 ∧ wr.cell? ⟨b', o' + 4, none⟩ = some v4 ∧ wr.cell? ⟨b', o' + 5, none⟩ = some v5) :=
  ⟨h.bx.cells, h.y5, h.s1, h.s2⟩
theorem maths {A : Tm} (ga : good A = true) (ia : ints A) (sa : tm.size A ≤ 300) (ha : tm.height A ≤ 400) :
    ∃ (c : Int) (s1 : S) (d : Int) (u : S) (u5 : S) (g1 : G), Cop A c s1 d u ∧ (∃ M, cp (s1.h ++ [FX s1.a, c, c, c]) (c3 A) (jn 1 s1.h.length) (-1) ⟨[], nx s1.a fN, []⟩ = (1, ⟨u5.h, nx s1.a fN, M⟩)) ∧ Laid ⟨s1.h ++ [FX s1.a, c, c, c], nx s1.a fN, s1.v⟩ (c3 A) (jn 1 s1.h.length) ∧ getT u5.h (nx s1.a fN) [] 1 = (c3 (rn A), g1) ∧ g1.e = 0 ∧ putT 10000 t3 ⟨s1.h, s1.a, [(0, c)]⟩ = (jn 1 s1.h.length, 0, ⟨s1.h ++ [FX s1.a, c, c, c], nx s1.a fN, [(0, c)]⟩) ∧ W64 c ∧ (Sml (nx s1.a fN) ∧ (nx s1.a fN).length ≤ 400) ∧ u5.h.length ≤ 4 + u.h.length ∧ s1.h.length ≤ 901 ∧ u.h.length ≤ 901 := by
  obtain ⟨c, s1, d, u, K⟩ := cop_new ga sa
  have h1 := nd_3 A
  have h2 := ns_le A
  have z1 := K.z1
  have z2 := K.z2
  have a1 := K.a1
  obtain ⟨b, hb, hb1⟩ := nx_pre s1.a fN
  have hnl : (nx s1.a fN).length ≤ 303 := by rw [hb, List.length_append]; omega
  obtain ⟨d1, u5, M, e1, e2, l5, z5⟩ := copy_c3 ga sa K
  have g3 := good_c3 ga sa ha
  have hi : ints (c3 A) := by
    unfold c3 comp
    rw [ints]
    exact ⟨fun h => by simp at h, by simp [intsL, ia]⟩
  obtain ⟨g1, t1, t2⟩ := getT_rn l5 g3 hi (by omega) (by rw [e2]; omega)
  rw [e2, rn_c3 ga sa ha] at t1
  exact ⟨c, s1, d, u, u5, g1, K, ⟨M, e1⟩, laid_c3 K.l1 (by omega), t1, t2, put_t3 _ _ _ (by omega) (by omega), rep_w K.l1 (by omega), ⟨K.m1.nx fN, by omega⟩, by omega, by omega, by omega⟩
set_option maxHeartbeats 16000000 in
set_option maxRecDepth 100000 in
theorem walk (w : World) (v0 : Value) (t0 : Tm) (x0 : Lies No w t0 v0) :
    Calls Try.prog 6 #[v0] w fun e w' => e = .returned (.bool true) ∧ Below w.heap.size w w' := by
  have HA := Lib.hid x0
  obtain ⟨A, hA⟩ : ∃ A, A = t0 := ⟨_, rfl⟩
  rw [← hA] at HA
  have HI := Lib.hid (lies_ints A _ HA.out)
  obtain ⟨k, n, i, re, im, l⟩ := t0
  rw [Lies] at x0
  obtain ⟨aa, ca, rfl, hf, hr⟩ := x0
  clear hf hr hA
  obtain ⟨w2, hw2⟩ : ∃ w2, w2 = w.alloc (rpt.BT k n i re im aa l.length ca) := ⟨_, rfl⟩
  obtain ⟨b0, hb0⟩ : ∃ b0, b0 = w.heap.size := ⟨_, rfl⟩
  have S2 := Lib.hid (show BX w (rpt.BT k n i re im aa l.length ca) w2 by rw [hw2]; exact BX.mk0 w _)
  have HW := Lib.hid (And.intro hw2 hb0)
  clear hw2
  go_enter Try.func6, Try.ntmps6
  go_upto_region 1 with fail
  change Code.wp _ _ _ _ (w.alloc (rpt.BT k n i re im aa l.length ca))
  rw [← HW.out.1]
  obtain ⟨e0, e1, e2, e3, e4, e5⟩ := S2.out.cells
  have hma := rMay_any A _ w2 (HA.out.below S2.out.bel)
  go_cut [30] (fun s wx => ∃ b : Bool, s = .bool b ∧ (b = false → good A = true ∧ tm.size A ≤ 300 ∧ tm.height A ≤ 400) ∧ BX w (rpt.BT k n i re im aa l.length ca) wx)
  case first =>
    by_cases ga : may A = 0
    · rw [ga] at hma
      have GA := Lib.hid ((may_iff A).1 ga)
      clear ga
      go_wp2_with fail
      refine hma.mono ?_; rintro e w3 ⟨rfl, hb⟩
      have S4 := Lib.hid (S2.out.below hb)
      clear hb hma e0 e1 e2 e3 e4 e5 S2
      obtain ⟨e0, e1, e2, e3, e4, e5⟩ := S4.out.cells
      have hna := rno.rnodes_good A _ w3 (HA.out.below S4.out.bel) GA.out
      obtain ⟨sa, hsa⟩ : ∃ sa, sa = tm.size A := ⟨_, rfl⟩
      rw [← hsa] at hna
      have HSA := Lib.hid hsa
      clear hsa
      have hda := fun w' (h : Below w3.heap.size w3 w') => rdp.rDepth_good A _ w' ((HA.out.below S4.out.bel).below h) GA.out
      obtain ⟨da, hdd⟩ : ∃ da, da = tm.height A := ⟨_, rfl⟩
      rw [← hdd] at hda
      have HDA := Lib.hid hdd
      clear hdd
      by_cases na : (300 : Int) < (sa : Int)
      · have d1 : decide ((300 : Int) < (sa : Int)) = true := decide_eq_true na
        clear na hda
        go_wp2_with fail
        refine hna.mono ?_; rintro e w5 ⟨rfl, hb⟩
        have S5 := Lib.hid (S4.out.below hb)
        clear hb hna e0 e1 e2 e3 e4 e5 S4
        go_wp2_with fail
        go_meet
        case rel => exact ⟨_, rfl, fun h => Bool.noConfusion h, S5.out⟩
      · have d0 : decide ((300 : Int) < (sa : Int)) = false := decide_eq_false na
        have HNA := Lib.hid na
        have HD4 := Lib.hid (show decide ((400 : Int) < (da : Int)) = false → ¬ (400 : Int) < (da : Int) from of_decide_eq_false)
        clear na
        go_wp2_with fail
        refine hna.mono ?_; rintro e w6 ⟨rfl, hb⟩
        have S6 := Lib.hid (S4.out.below hb)
        have hdb := hda _ hb
        clear hb hna hda e0 e1 e2 e3 e4 e5
        obtain ⟨e0, e1, e2, e3, e4, e5⟩ := S6.out.cells
        go_wp2_with fail
        refine hdb.mono ?_; rintro e w7 ⟨rfl, hb⟩
        have S7 := Lib.hid (S6.out.below hb)
        clear hb hdb e0 e1 e2 e3 e4 e5
        go_wp2_with fail
        go_meet
        case rel => exact ⟨_, rfl, fun h => ⟨GA.out, by have := HNA.out; rw [HSA.out] at this; omega, by have := HD4.out h; rw [HDA.out] at this; omega⟩, S7.out⟩
    · have hne : (may A != 0) = true := by simpa using ga
      clear ga
      go_wp2_with fail
      refine hma.mono ?_; rintro e w4 ⟨rfl, hb⟩
      have S4 := Lib.hid (S2.out.below hb)
      clear hb hma e0 e1 e2 e3 e4 e5
      go_wp2_with fail
      go_meet
      case rel => exact ⟨_, rfl, fun h => Bool.noConfusion h, S4.out⟩
  case rest =>
    obtain ⟨b, rfl, hb, hS⟩ := hcut
    have S3 := Lib.hid hS
    clear hS hma e0 e1 e2 e3 e4 e5 S2
    obtain ⟨e0, e1, e2, e3, e4, e5⟩ := S3.out.cells
    cases b with
    | true =>
      clear hb
      go_wp2_with fail
      refine (cpy.awake_any _).mono ?_; rintro e w4 ⟨rfl, hb⟩
      have S4 := Lib.hid (S3.out.below hb)
      clear hb
      go_wp2_with fail
      go_ret
      exact ⟨rfl, S4.out.bel⟩
    | false =>
      obtain ⟨ga, sa, ha⟩ := hb rfl
      obtain ⟨c, s1, d, u, u5, g1, K, K2, l2, t1, t2, pt3, wc9, sm, q5, q1, q2⟩ := maths ga HI.out sa ha
      have GA := Lib.hid ga
      have SA := Lib.hid sa
      have HK := Lib.hid K
      have HK2 := Lib.hid (And.intro K2 l2)
      have HG1 := Lib.hid (And.intro t1 t2)
      have HP3 := Lib.hid pt3
      have HWC := Lib.hid (And.intro wc9 sm)
      have HL := Lib.hid (And.intro q5 (And.intro q1 q2))
      have HG3 := Lib.hid (good_c3 ga sa ha)
      clear ga sa ha hb K K2 l2 t1 t2 pt3 wc9 sm q5 q1 q2
      obtain ⟨w3, hw3⟩ : ∃ w3, w3 = wc := ⟨_, rfl⟩
      rw [← hw3] at S3 e0 e1 e2 e3 e4 e5 ⊢
      clear hw3
      go_wp2_with fail
      refine (new_any 10000 w3).mono ?_; rintro e w4 ⟨rfl, made⟩
      rw [show max 0 (min (10000 : Int) 1048576) = 10000 by decide] at made
      have M4 := Lib.hid made
      clear made
      go_wp2_with fail
      refine (atm.new_any w4).mono ?_; rintro e w5 ⟨rfl, made⟩
      have M5 := Lib.hid (Mine.nob (HP.mk_ M4.out made))
      clear made M4
      obtain ⟨p, hp⟩ : ∃ p, p = w3.heap.size := ⟨_, rfl⟩
      obtain ⟨q, hq⟩ : ∃ q, q = w4.heap.size := ⟨_, rfl⟩
      rw [← hp, ← hq] at M5 ⊢
      clear hp hq
      have S5 := Lib.hid (S3.out.below (Mine.bel M5.out))
      clear e0 e1 e2 e3 e4 e5
      obtain ⟨e0, e1, e2, e3, e4, e5⟩ := S5.out.cells
      have hcall := mPut_new Fr.nob M5.out (HA.out.below S3.out.bel) (by have := SA.out; simp [l0]; omega) HK.out.pt
      go_wp2_with fail
      refine hcall.mono ?_; rintro e w6 ⟨rfl, m6⟩
      have M6 := Lib.hid m6
      clear hcall m6 e0 e1 e2 e3 e4 e5 S5
      go_wp2_with fail
      refine (new_any 10000 w6).mono ?_; rintro e w7 ⟨rfl, made⟩
      rw [show max 0 (min (10000 : Int) 1048576) = 10000 by decide] at made
      have M7 := Lib.hid (HB.mk_ (frHP.tim Fr.nob) M6.out made)
      clear made M6
      obtain ⟨kk, hkk⟩ : ∃ kk, kk = w6.heap.size := ⟨_, rfl⟩
      rw [← hkk] at M7 ⊢
      clear hkk
      have m8 : Mine w3 (Tim (ES p kk s1.h 10000 10000 []) (Tim (PO q s1.a) Nob)) w7 := M7.out.imp fun _ t => Tim.right_ ((Tim.rot t).map1 fun _ t => Tim.rot t)
      obtain ⟨M9, hcop⟩ := HK.out.cop
      have hcall := mTermS (frPO.tim Fr.nob) m8 HK.out.l1 (good_sound GA.out) (by have := SA.out; omega) (by have := nd_3 A; have := SA.out; simp; omega) _ _ hcop
      clear m8 M7 hcop
      go_wp2_with fail
      refine hcall.mono ?_; rintro e w9 ⟨rfl, m9⟩
      have hl1 := len1 (A := HB TH p s1.h 10000) (B := Nob) (k := kk) (h := u.h) (m := 10000) (C := Tim (PO q s1.a) Nob) (m9.imp fun _ t => t.map1 fun _ t => t.swap)
      have M9 := Lib.hid (show Mine w3 (Tim (HP p q s1.h 10000 s1.a) (Tim (HB TH kk u.h 10000) Nob)) w9 from m9.imp fun _ t => Tim.mid t)
      clear hcall m9
      go_wp2_with fail
      refine hl1.mono ?_; rintro e w' ⟨rfl, rfl⟩
      clear hl1
      have hmm := @run_makeMap Try.prog
      have M10 := Lib.hid (HP.map_ (frHB.tim Fr.nob) M9.out)
      obtain ⟨mb, hmb⟩ : ∃ mb, mb = w9.heap.size := ⟨_, rfl⟩
      obtain ⟨w10, hw10⟩ : ∃ w10, w10 = w9.alloc (.map #[] 0) := ⟨_, rfl⟩
      rw [← hmb, ← hw10] at M10
      have HW10 := Lib.hid (And.intro hmb hw10)
      obtain ⟨D, hD, hup⟩ := mOne (frHB.tim Fr.nob) M10.out
      have HD := Lib.hid hD
      have HUP := Lib.hid hup
      have hkey : keyOf Try.prog 2 (.int .i64 0) = some (CK 0) := keyOf_int_mk Try.underlying2 (WalkArith.wf_i64 (by omega))
      have HKY := Lib.hid hkey
      have HW9 := Lib.hid (show (Lit.int .u64 c).wf = true from WalkArith.wf_u64 (by obtain ⟨h1, h2⟩ := HWC.out.1; omega))
      clear hmb hw10 hD hup hkey M9
      go_wp2_with (rw [← HW10.out.1, ← HW10.out.2]; refine wpList_insert_own _ rfl _ _ _ 51 rfl 2 23 law Try.underlying51 _ mb 0 D rfl HD.out (by unfold maxLen; omega) _ _ _ rfl rfl HKY.out _ [] (plainElem_int Try.underlying23 HW9.out) ?_)
      intro w11 hm7 hg7
      have M11 := Lib.hid (HUP.out c w11 hm7 hg7)
      clear hm7 hg7 hmm
      go_wp2_with fail
      refine (rVar_any 0 w11).mono ?_; rintro e w12 ⟨rfl, hb⟩
      have M12 := Lib.hid (M11.out.below ((frHB.tim (frPO.tim frV)).tim (frHB.tim Fr.nob)) hb)
      clear hb M11
      go_wp2_with fail
      refine (rVar_any 0 w12).mono ?_; rintro e w13 ⟨rfl, hb⟩
      have M13 := Lib.hid (M12.out.below ((frHB.tim (frPO.tim frV)).tim (frHB.tim Fr.nob)) hb)
      clear hb M12
      go_wp2_with fail
      refine (rVar_any 0 w13).mono ?_; rintro e w14 ⟨rfl, hb⟩
      have M14 := Lib.hid (M13.out.below ((frHB.tim (frPO.tim frV)).tim (frHB.tim Fr.nob)) hb)
      clear hb M13
      obtain ⟨x6, hx6⟩ : ∃ x6, x6 = w14.heap.size := ⟨_, rfl⟩
      obtain ⟨w15, hw15⟩ : ∃ w15, w15 = w14.alloc R3 := ⟨_, rfl⟩
      have HW15 := Lib.hid (And.intro hx6 hw15)
      clear hx6 hw15 HW10 HUP HD HKY
      go_wp2_with fail
      change Calls _ _ _ (w14.alloc R3) _
      rw [← HW15.out.1, ← HW15.out.2]
      refine (rComp_any _ _ _ _ _).mono ?_; rintro e w16 ⟨rfl, hb⟩
      have hb8 : Below (w14.heap.size + 1) (w14.alloc R3) w16 := by rw [HW15.out.2, kp.alloc_size] at hb; exact hb
      have hcall := mPut_fresh (frHB.tim Fr.nob) M14.out hb8 (T := t3) (vt := .agg #[.int .i64 5, .string ⟨#[102]⟩, .int .i64 0, .int .u64 0, .int .u64 0, .slice (some ⟨x6, 0, none⟩) 3 3]) (fun X hX => by rw [HW15.out.1]; exact lies_t3 w14 hX hb8) (by have := HK.out.a1; show s1.a.length + 4 ≤ _; omega) (by show 1 + tm.size t3 ≤ 900000; decide) HP3.out
      clear hb hb8 M14
      go_wp2_with fail
      refine hcall.mono ?_; rintro e w17 ⟨rfl, m⟩
      have M17 := Lib.hid (PB.hp m)
      clear m hcall HW15
      go_wp2_with fail
      refine (new_any 10000 w17).mono ?_; rintro e w18 ⟨rfl, made⟩
      rw [show max 0 (min (10000 : Int) 1048576) = 10000 by decide] at made
      have M18 := Lib.hid (HB.mk_ (frHP.tim (frHB.tim Fr.nob)) M17.out made)
      clear made M17
      obtain ⟨ll, hll⟩ : ∃ ll, ll = w17.heap.size := ⟨_, rfl⟩
      rw [← hll] at M18 ⊢
      clear hll
      have m18 : Mine w3 (Tim (ES p ll (s1.h ++ [FX s1.a, c, c, c]) 10000 10000 []) (Tim (PO q (nx s1.a fN)) (Tim (HB TH kk u.h 10000) Nob))) w18 := M18.out.imp fun _ t => Tim.right_ ((Tim.rot t).map1 fun _ t => Tim.rot t)
      obtain ⟨⟨M19, hcop⟩, hl2⟩ := HK2.out
      have hcall := mTermS (s0 := ⟨s1.h ++ [FX s1.a, c, c, c], nx s1.a fN, s1.v⟩) (frPO.tim (frHB.tim Fr.nob)) m18 hl2 (good_sound HG3.out) (by have := SA.out; show tm.size (c3 A) ≤ _; simp [c3, comp, tm.size, sizeL]; omega) (by have := nd_3 A; have := SA.out; show ((0 : Nat) : Int) + (pm.nd (c3 A) : Int) + 1 ≤ _; simp [c3, comp, pm.nd, ndL]; omega) _ _ hcop
      clear m18 M18 hcop hl2
      go_wp2_with fail
      refine hcall.mono ?_; rintro e w20 ⟨rfl, m⟩
      have M20 := Lib.hid (show Mine w3 (Tim (HP ll q u5.h 10000 (nx s1.a fN)) (Tim (HB TH p (s1.h ++ [FX s1.a, c, c, c]) 10000) (Tim (HB TH kk u.h 10000) Nob))) w20 from m.imp fun _ t => Tim.mid (t.map1 fun _ t => t.swap))
      clear hcall m
      go_wp2_with fail
      have hcall := mGet_new (frHB.tim (frHB.tim Fr.nob)) (c := 1) ⟨by decide, by decide⟩ (by have := HWC.out.2.2; omega) HWC.out.2.1 (by have := HL.out; omega) M20.out HG1.out.1 HG1.out.2
      clear M20
      refine hcall.mono ?_; rintro e w21 ⟨k1, nm1, i1, re1, im1, aa1, sl1, sc1, rfl, m⟩
      obtain ⟨w22, hw22⟩ : ∃ w22, w22 = w21.alloc (.cells #[.int .i64 k1, .string nm1, .int .i64 i1, .int .u64 re1, .int .u64 im1, .slice aa1 sl1 sc1] 36) := ⟨_, rfl⟩
      obtain ⟨b1, hb1⟩ : ∃ b1, b1 = w21.heap.size := ⟨_, rfl⟩
      have HW22 := Lib.hid (And.intro hw22 hb1)
      rw [← hw22, ← hb1] at m
      have M22 := Lib.hid m
      clear hcall m hw22 hb1
      go_upto_region 19 with fail
      rw [← HW22.out.1, ← HW22.out.2]
      clear HW22
      obtain ⟨N1, X1⟩ : ∃ N, OX (c3 (rn A)) b1 k1 nm1 i1 re1 im1 (.slice aa1 sl1 sc1) w22 N := by
        obtain ⟨N, ⟨_, _, _, ⟨_, _, _, h2, _⟩, _⟩, _⟩ := M22.out
        exact ⟨_, h2⟩
      have hhp : ∃ F, Hp TH w22 ll F u5.h 10000 := by
        obtain ⟨N, ⟨_, _, ⟨_, _, h2, _⟩, _⟩, _⟩ := M22.out
        exact ⟨_, h2⟩
      obtain ⟨⟨_, _, _, _, _, x5⟩, la⟩ := X1.six
      unfold c3 comp at la
      rw [Lies] at la
      obtain ⟨ra, rc, hv9, _, hrow⟩ := la
      simp only [nv6, Value.agg.injEq, Array.mk.injEq, List.cons.injEq, Value.int.injEq, Value.string.injEq, Value.slice.injEq, true_and, and_true] at hv9
      obtain ⟨_, _, _, _, _, hs1, hs2, hs3⟩ := hv9
      subst hs1 hs2 hs3
      obtain ⟨rb, ro, u0, u1', u2', u3', u4', u5', _, _, six1, li1, ix1⟩ := TRow.look (l := [rn A, rn A, rn A]) hrow (m := 0) (by simp)
      obtain ⟨rb', ro', v0, v1, v2, v3, v4, v5, _, _, six2, li2, ix2⟩ := TRow.look (l := [rn A, rn A, rn A]) hrow (m := 1) (by simp)
      have ix1 : ∀ w' : World, (Instr.indexAt 34 (.slice aa1 3 sc1) (.int .i64 0)).run Try.prog w' = .ok (.pointer (some ⟨rb, ro, none⟩)) w' := fun w' => ix1 sc1 w'
      have ix2 : ∀ w' : World, (Instr.indexAt 34 (.slice aa1 3 sc1) (.int .i64 1)).run Try.prog w' = .ok (.pointer (some ⟨rb', ro', none⟩)) w' := fun w' => ix2 sc1 w'
      have hS : SU w (rpt.BT k n i re im aa l.length ca) ll u5.h b1 (.slice aa1 ([rn A, rn A, rn A].length) sc1) (rn A) rb ro rb' ro' u0 u1' u2' u3' u4' u5' v0 v1 v2 v3 v4 v5 w22 := ⟨S3.out.below (Mine.bel M22.out), x5, six1, six2, li1, li2, hhp⟩
      rw [show ([rn A, rn A, rn A].length) = 3 from rfl] at hS
      simp only [List.length_cons, List.length_nil] at x5
      have hV : ∀ wX, SU w (rpt.BT k n i re im aa l.length ca) ll u5.h b1 (.slice aa1 3 sc1) (rn A) rb ro rb' ro' u0 u1' u2' u3' u4' u5' v0 v1 v2 v3 v4 v5 wX → Calls Try.prog 21 #[.agg #[u0, u1', u2', u3', u4', u5'], .agg #[.int .i64 k, .string n, .int .i64 i, .int .u64 re, .int .u64 im, .slice aa l.length ca]] wX fun e w' => e = .returned (.bool true) ∧ Below wX.heap.size wX w' := fun wX x => by
        have := rvariant_good _ _ _ _ _ x.l1 (HA.out.below x.bx.bel) (good_rn GA.out) GA.out
        rw [var_ok_ GA.out] at this
        exact this
      have hE : ∀ wX, SU w (rpt.BT k n i re im aa l.length ca) ll u5.h b1 (.slice aa1 3 sc1) (rn A) rb ro rb' ro' u0 u1' u2' u3' u4' u5' v0 v1 v2 v3 v4 v5 wX → Calls Try.prog 28 #[.agg #[u0, u1', u2', u3', u4', u5'], .agg #[v0, v1, v2, v3, v4, v5]] wX fun e w' => e = .returned (.bool true) ∧ Below wX.heap.size wX w' := fun wX x => by
        have := rsm.rsame_any _ _ _ _ _ x.l1 x.l2
        rw [sameB_refl, good_rn GA.out] at this
        exact this
      have hN : ∀ wX, SU w (rpt.BT k n i re im aa l.length ca) ll u5.h b1 (.slice aa1 3 sc1) (rn A) rb ro rb' ro' u0 u1' u2' u3' u4' u5' v0 v1 v2 v3 v4 v5 wX → Calls Try.prog 22 #[.pointer (some ⟨ll, 0, none⟩)] wX fun e w' => e = .returned (.int .i64 (u5.h.length : Int)) ∧ wX = w' := fun wX x => len_any x.hh.choose_spec
      have hlu : 0 ≤ (u.h.length : Int) ∧ (u.h.length : Int) ≤ 901 := by have := HL.out; omega
      obtain ⟨hlu0, hlu1⟩ := hlu
      have hdd : decide ((u5.h.length : Int) ≤ IntKind.i64.wrap ((u.h.length : Int) + 4)) = true := decide_eq_true (by have := HL.out; rw [show IntKind.i64.wrap ((u.h.length : Int) + 4) = (u.h.length : Int) + 4 from by rw [IntKind.wrap_i64]; omega]; omega)
      have HSB := Lib.hid (show ∀ wa wb : World, SU w (rpt.BT k n i re im aa l.length ca) ll u5.h b1 (.slice aa1 3 sc1) (rn A) rb ro rb' ro' u0 u1' u2' u3' u4' u5' v0 v1 v2 v3 v4 v5 wa → Below wa.heap.size wa wb → SU w (rpt.BT k n i re im aa l.length ca) ll u5.h b1 (.slice aa1 3 sc1) (rn A) rb ro rb' ro' u0 u1' u2' u3' u4' u5' v0 v1 v2 v3 v4 v5 wb from fun wa wb h hb => h.below hb)
      have HVV := Lib.hid hV
      have HEE := Lib.hid hE
      have HNN := Lib.hid hN
      obtain ⟨⟨a0, a1, a2, a3, a4, a5⟩, y5, ⟨b0', b1', b2', b3', b4', b5'⟩, ⟨d0, d1, d2, d3, d4, d5⟩⟩ := SU.c hS
      clear X1 x5 hrow six1 six2 li1 li2 hhp hV hE hN M22 hb0
      obtain ⟨z5, hz5⟩ : ∃ z, z = (u5.h.length : Int) := ⟨_, rfl⟩
      obtain ⟨z, hz⟩ : ∃ z, z = (u.h.length : Int) := ⟨_, rfl⟩
      go_region_held3 (fun w' => (w'.cell? ⟨w.heap.size, 0, none⟩ = some (.int .i64 k) ∧ w'.cell? ⟨w.heap.size, 1, none⟩ = some (.string n) ∧ w'.cell? ⟨w.heap.size, 2, none⟩ = some (.int .i64 i) ∧ w'.cell? ⟨w.heap.size, 3, none⟩ = some (.int .u64 re) ∧ w'.cell? ⟨w.heap.size, 4, none⟩ = some (.int .u64 im) ∧ w'.cell? ⟨w.heap.size, 5, none⟩ = some (.slice aa l.length ca)) ∧ w'.cell? ⟨b1, 5, none⟩ = some (.slice aa1 3 sc1) ∧
        (w'.cell? ⟨rb, ro, none⟩ = some u0 ∧ w'.cell? ⟨rb, ro + 1, none⟩ = some u1' ∧ w'.cell? ⟨rb, ro + 2, none⟩ = some u2' ∧ w'.cell? ⟨rb, ro + 3, none⟩ = some u3' ∧ w'.cell? ⟨rb, ro + 4, none⟩ = some u4' ∧ w'.cell? ⟨rb, ro + 5, none⟩ = some u5') ∧
        (w'.cell? ⟨rb', ro', none⟩ = some v0 ∧ w'.cell? ⟨rb', ro' + 1, none⟩ = some v1 ∧ w'.cell? ⟨rb', ro' + 2, none⟩ = some v2 ∧ w'.cell? ⟨rb', ro' + 3, none⟩ = some v3 ∧ w'.cell? ⟨rb', ro' + 4, none⟩ = some v4 ∧ w'.cell? ⟨rb', ro' + 5, none⟩ = some v5))
        (first | exact SU.c (by assumption) | exact SU.c (SU.drew (by assumption)) | go_keep)
        (first
        | (go_at_call 22; refine (HNN.out _ (by first | assumption | exact SU.drew (by assumption))).mono ?_; rintro e wL ⟨rfl, rfl⟩)
        | (go_at_call 21; refine (HVV.out _ (by first | assumption | exact SU.drew (by assumption))).mono ?_; rintro e wV ⟨rfl, hbV⟩; have hSV := HSB.out _ _ (by first | assumption | exact SU.drew (by assumption)) hbV)
        | (go_at_call 28; refine (HEE.out _ (by first | assumption | exact SU.drew (by assumption))).mono ?_; rintro e wS ⟨rfl, hbS⟩; have hSS := HSB.out _ _ (by first | assumption | exact SU.drew (by assumption)) hbS)
        | (go_at_call 15; refine (cpy.awake_any _).mono ?_; rintro e wA ⟨rfl, hbA⟩; have hSA := HSB.out _ _ (by first | assumption | exact SU.drew (by assumption)) hbA))
      all_goals
        go_wp2_with fail
        go_ret
        exact ⟨rfl, hSA.bx.bel⟩
set_option maxRecDepth 100000 in
theorem lifted (os : Os) (started : os.Started) (H : Type) (enc : TypeId × Value → H) :
    ReturnsInHanded {} Try.checked os 6 .any (Rows.copySharesSpec.pre6 enc Try.prog Try.f6 Rows.copySharesRow.domain false) (Rows.copySharesSpec.post enc Try.prog Try.f6 false true false false) := by
  refine returnsInHanded_of_change_sized (C := Try.checked) own started (by kernel_rfl) Try.func6
    (ChangeSpec.witness6 (enc := enc) (C := Try.checked) false ⟨#[], #[.agg #[.int .i64 0, .string ⟨#[]⟩, .int .i64 0, .int .u64 0, .int .u64 0, .slice none 0 0]], []⟩ 8 (by kernel_rfl) (by kernel_rfl) (by kernel_rfl) (by kernel_rfl)) ?_
  intro W base args ds gs before hval0 hW _ hsz0 _
  have hsz : (DataW.weightsEach Try.prog (Try.f6.params.toList ++ Rows.copySharesSpec.plain.varTypes Try.prog) (ds ++ gs)).all (· ≤ reachBytes) = true := hsz0
  clear hsz0
  have hval : ∀ (j : Nat) t v, Try.f6.params[j]? = some t → args[j]? = some v → Value.okWide Try.prog W .any base t v := hval0
  have hW' := hW
  obtain ⟨p, q, hA0, hV, rfl, hfz, hnd⟩ := hW
  have hA : DataW.TrodAll enc Try.prog W 0 (fun _ => true) true Try.f6.params.toList args.toList ds p := hA0
  rw [Try.params6] at hA hval hsz
  obtain ⟨v0, vs0, d0, ds0, p0, q0, hargs, rfl, rfl, h0, r0⟩ := trodAll_cons hA
  obtain ⟨rfl, rfl, rfl⟩ := trodAll_nil r0
  obtain rfl : args = #[v0] := by cases args; simp_all
  obtain ⟨rfl, rfl⟩ := trodVars_none hV
  simp only [List.append_nil] at hW'
  have lt0 : ∀ x ∈ p0, x.block < W.heap.size := fun x hx => by
    have := hW'.lt x (by simp [hx])
    simpa using this
  have k0 := h0
  obtain ⟨t0, x0⟩ := term_arg (by obtain ⟨cs, hcs, _⟩ := okWide_struct Try.underlying36 (hval 0 36 v0 rfl rfl); exact ⟨cs, hcs⟩) h0
  clear hA0 hval0
  refine (walk W v0 t0 x0).mono fun e W' ⟨he, hg⟩ => ?_
  subst he
  have ha := (trodAll_cons_mk (Below.trod laidOut (by kernel_rfl) (of_decide_eq_true (by kernel_rfl)) k0 hg lt0) trodAll_mk0)
  refine ⟨_, rfl, _, _, _, [], _, [], hW', ?_, ha, rfl, hg.frame _, fun h => by cases h⟩
  exact (trodAll_cons_mk (shut_bool Try.underlying4 _) trodAll_mk0)
/-- THE STATEMENT. -/
theorem proved : Rows.CopySharesSaid :=
  OpenClaim.holds_of_wide 6 Try.f6 rfl rfl rfl rfl rfl rfl rfl ⟨rfl, rfl, rfl, rfl, rfl⟩ rfl rfl rfl rfl rfl (by kernel_rfl) Try.func6 (by kernel_rfl)
    (of_decide_eq_true (by kernel_rfl)) (by unfold Func.isWrapper; first | (rw [if_pos (by decide +kernel)]; kernel_rfl) | (rw [if_neg (by decide +kernel)]; exact ⟨rfl, rfl⟩))
    (fun os started H enc _ => lifted os started H enc)
#print axioms proved
end Go.Proofs.Ythableojkjhicaa.copyShares
