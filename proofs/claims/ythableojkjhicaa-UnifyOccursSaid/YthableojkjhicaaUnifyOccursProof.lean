/- The law UnifyOccurs holds: for every input its Go function returns true and leaves its arguments as they were. No condition beyond the row's own. -/
import Derived.Test.YthableojkjhicaaRows
import Derived.WalkKit
import Derived.ProofKit
import Derived.OpenShut
import Derived.SizedLaws
import Derived.Test.YthableojkjhicaaUnO
import Derived.Test.YthableojkjhicaaRNo
import Derived.Test.YthableojkjhicaaTOpen
import Derived.Test.YthableojkjhicaaRMay
import Derived.Deep.DeepCutAuto
import Derived.Deep.CutBlock
import Derived.Deep.LoopGhost
import Derived.Laws.BitsAllLaws
namespace Go.Proofs.Ythableojkjhicaa.unifyOccurs
open Go.ChangeShapes Go.WideShapes Go.ChangeAt Go.RowKit
open Go.ChangeMaps (open_string)
open Go.Proofs.Ythableojkjhicaa.hp Go.Proofs.Ythableojkjhicaa.cel Go.Proofs.Ythableojkjhicaa.kp Go.Proofs.Ythableojkjhicaa.ob Go.Proofs.Ythableojkjhicaa.tm Go.Proofs.Ythableojkjhicaa.lie Go.Proofs.Ythableojkjhicaa.s7 Go.Proofs.Ythableojkjhicaa.ppt Go.Proofs.Ythableojkjhicaa.top Go.Proofs.Ythableojkjhicaa.sl Go.Proofs.Ythableojkjhicaa.rmy Go.Proofs.Ythableojkjhicaa.cur Go.Proofs.Ythableojkjhicaa.pm Go.Proofs.Ythableojkjhicaa.rva Go.Proofs.Ythableojkjhicaa.ren Go.Proofs.Ythableojkjhicaa.un Go.Proofs.Ythableojkjhicaa.rvs Go.Proofs.Ythableojkjhicaa.rrn Go.Proofs.Ythableojkjhicaa.awk Go.Proofs.Ythableojkjhicaa.vrs Go.Proofs.Ythableojkjhicaa.rws Go.Proofs.Ythableojkjhicaa.pla
open Go.Proofs.Ythableojkjhicaa.rpt (putT HB frHB)
open Go.Proofs.Ythableojkjhicaa.atm (l0)
open Go.Proofs.Ythableojkjhicaa.pgt (getT GO frGO OT frOT SC6 nv6)
set_option linter.unusedVariables false
theorem own : ownKnob Try.prog.godebug = none := by kernel_rfl
theorem laidOut : laidOutB Try.prog = true := by kernel_rfl
theorem var_ok_ {A : Tm} (g : good A = true) : sameB (rn (rn A)) (rn A) = true := by rw [rn_rn g, sameB_refl]; exact good_rn g
structure BX (w : World) (o : Obj) (wr : World) : Prop where
  bel : Below w.heap.size w wr
  box : wr.heap[w.heap.size]? = some o
theorem BX.mk0 (w : World) (o : Obj) : BX w o (w.alloc o) := ⟨kp.ba w o, kp.alloc_at w o⟩
theorem BX.below {w wr w' : World} {o : Obj} (h : BX w o wr) (hb : Below wr.heap.size wr w') : BX w o w' := ⟨h.bel.trans (hb.mono h.bel.size), (hb.block _ (Array.getElem?_eq_some_iff.1 h.box).1).trans h.box⟩
theorem BX.set1 {w wr : World} {cs : Array Value} {t : TypeId} (h : BX w (.cells cs t (0, 0)) wr) (j : Nat) (v : Value) : BX w (.cells (cs.setIfInBounds j v) t (0, 0)) (wr.setCell ⟨w.heap.size, j, none⟩ v) :=
  ⟨h.bel.trans ((kp.Keep.setCell (F := fun k => k = w.heap.size) wr (p := ⟨w.heap.size, j, none⟩) rfl _).to_below (fun k e => by omega) h.bel.size), by rw [setCell_eq_setRow _ _ _ _ _ _ _ h.box]; exact setRow_heap _ _ _ _ _ _ h.box⟩
theorem BX.off1 {w wr : World} {o : Obj} (h : BX w o wr) {q : Nat} (hq : w.heap.size < q) (j : Nat) (v : Value) : BX w o (wr.setCell ⟨q, j, none⟩ v) :=
  ⟨h.bel.trans ((kp.Keep.setCell (F := fun k => k = q) wr (p := ⟨q, j, none⟩) rfl _).to_below (fun k e => by omega) h.bel.size), by rw [Below.heap_setCell _ _ _ _ (by simp; omega)]; exact h.box⟩
theorem BX.froz {w wr : World} {cs : Array Value} {t : TypeId} (h : BX w (.cells cs t (0, 0)) wr) (j : Nat) : wr.frozen? ⟨w.heap.size, j, none⟩ = false := by simp [World.frozen?, h.box]
theorem BX.cells {w wr : World} {v0 v1 v2 v3 v4 v5 : Value} {t : TypeId} (h : BX w (.cells #[v0, v1, v2, v3, v4, v5] t (0, 0)) wr) : wr.cell? ⟨w.heap.size, 0, none⟩ = some v0 ∧ wr.cell? ⟨w.heap.size, 1, none⟩ = some v1 ∧ wr.cell? ⟨w.heap.size, 2, none⟩ = some v2 ∧ wr.cell? ⟨w.heap.size, 3, none⟩ = some v3 ∧ wr.cell? ⟨w.heap.size, 4, none⟩ = some v4 ∧ wr.cell? ⟨w.heap.size, 5, none⟩ = some v5 := by
  have := h.box
  refine ⟨?_, ?_, ?_, ?_, ?_, ?_⟩ <;> simp [World.cell?, this]
theorem occ0 {t : Tm} (hg : good t = true) : ∀ n ∈ occ t, 0 ≤ n := by
  intro n hn
  have f := pre_facts t 1
  rw [← f.2.2.1, List.mem_filterMap] at hn
  obtain ⟨x, hx, he⟩ := hn
  have hc := f.2.1.2 (good_sound hg) x hx
  obtain ⟨⟨k, nn, i, re, im, l⟩, d⟩ := x
  simp only [Tm.kind, Tm.int] at he
  by_cases hk : k = 1
  · subst hk
    simp only [if_true, Option.some.injEq] at he
    subst he
    simp only [chk, if_true] at hc
    split at hc
    · omega
    · omega
  · simp [hk] at he
theorem one_size (i : Int) : tm.size (var i) = 1 := by simp [var, tm.size]
def small (l : List Int) : Prop := ∀ x ∈ l, x < 1125899906842624
def ARel (w3 : World) (vs : List Int) (g : Nat) (iv : Value) (wr : World) : Prop := ∃ k : Nat, k ≤ vs.length ∧ g = vs.length - k ∧ iv = .int .i64 k ∧ small (vs.take k) ∧ wr = w3
theorem small_next {vs : List Int} {k : Nat} (h : small (vs.take k)) (hk : k < vs.length) (hx : vs[k] < 1125899906842624) : small (vs.take (k + 1)) := by
  rw [List.take_succ_eq_append_getElem hk]
  intro x hm
  rcases List.mem_append.1 hm with hm | hm
  · exact h x hm
  · simp at hm; subst hm; exact hx
/-- the variable's box -/
def VB (i : Int) : Obj := .cells #[.int .i64 1, .string ⟨#[]⟩, .int .i64 i, .int .u64 0, .int .u64 0, .slice none 0 0] 36 (0, 0)
/-- which variable it is -/
def Pick (T : Tm) (b : Bool) (i : Int) : Prop := 0 ≤ i ∧ I64 i ∧ b = decide (i ∈ occ T)
theorem pick_ix (a : Int) (n : Nat) (h0 : 0 < n) (h : n ≤ 2000) : ∃ q : Nat, q < n ∧ wrap64 ((IntKind.u64.wrap a).tmod (n : Int)) = (q : Int) := by
  have hu : 0 ≤ IntKind.u64.wrap a := by
    show 0 ≤ a % 18446744073709551616
    omega
  have e1 := Int.emod_nonneg (IntKind.u64.wrap a) (show (n : Int) ≠ 0 by omega)
  have e2 := Int.emod_lt_of_pos (IntKind.u64.wrap a) (show (0 : Int) < n by omega)
  refine ⟨((IntKind.u64.wrap a) % (n : Int)).toNat, by omega, ?_⟩
  rw [Int.tmod_eq_emod_of_nonneg hu, Int.toNat_of_nonneg e1]
  generalize (IntKind.u64.wrap a) % (n : Int) = x at e1 e2
  exact w64_i _ ⟨by omega, by omega⟩
set_option maxHeartbeats 16000000 in
set_option maxRecDepth 100000 in
theorem walk (w : World) (v0 : Value) (t0 : Tm) (x0 : Lies No w t0 v0) (a1 : Int) (w1 : (Lit.int .i64 a1).wf = true) :
    Calls Try.prog 10 #[v0, .int .i64 a1] w fun e w' => e = .returned (.bool true) ∧ Below w.heap.size w w' := by
  have HA := Lib.hid x0
  obtain ⟨A, hA⟩ : ∃ A, A = t0 := ⟨_, rfl⟩
  rw [← hA] at HA
  have HI := Lib.hid (lies_ints A _ HA.out)
  obtain ⟨k, n, i, re, im, l⟩ := t0
  have HK := Lib.hid (show A.kind = k by rw [hA]; rfl)
  rw [Lies] at x0
  obtain ⟨aa, ca, rfl, hf, hr⟩ := x0
  clear hf hr hA
  obtain ⟨w2, hw2⟩ : ∃ w2, w2 = w.alloc (rpt.BT k n i re im aa l.length ca) := ⟨_, rfl⟩
  have S2 := Lib.hid (show BX w (rpt.BT k n i re im aa l.length ca) w2 by rw [hw2]; exact BX.mk0 w _)
  have HW := Lib.hid hw2
  have HW1 := Lib.hid w1
  clear hw2 w1
  go_enter Try.func10, Try.ntmps10
  go_upto_region 1 with fail
  change Code.wp _ _ _ _ (w.alloc (rpt.BT k n i re im aa l.length ca))
  rw [← HW.out]
  obtain ⟨e0, e1, e2, e3, e4, e5⟩ := S2.out.cells
  have hma := rMay_any A _ w2 (HA.out.below S2.out.bel)
  go_cut [29] (fun s wx => ∃ b : Bool, s = .bool b ∧ (b = false → good A = true ∧ tm.size A ≤ 200) ∧ BX w (rpt.BT k n i re im aa l.length ca) wx)
  case first =>
    by_cases ga : may A = 0
    · rw [ga] at hma
      have GA := Lib.hid ((may_iff A).1 ga)
      clear ga
      go_wp2_with fail
      refine hma.mono ?_; rintro e w3 ⟨rfl, hb⟩
      have S4 := Lib.hid (S2.out.below hb)
      clear hb hma e0 e1 e2 e3 e4 e5 S2
      obtain ⟨e0, e1, e2, e3, e4, e5⟩ := S4.out.cells
      have hna := rno.rnodes_good A _ w3 (HA.out.below S4.out.bel) GA.out
      obtain ⟨sa, hsa⟩ : ∃ sa, sa = tm.size A := ⟨_, rfl⟩
      rw [← hsa] at hna
      have HSA := Lib.hid hsa
      clear hsa
      have HNA := Lib.hid (show decide ((200 : Int) < (sa : Int)) = false → ¬ (200 : Int) < (sa : Int) from of_decide_eq_false)
      generalize hd1 : decide ((200 : Int) < (sa : Int)) = d1 at *
      go_wp2_with fail
      refine hna.mono ?_; rintro e w6 ⟨rfl, hb⟩
      have S6 := Lib.hid (S4.out.below hb)
      clear hb hna e0 e1 e2 e3 e4 e5 S4
      go_wp2_with fail
      go_meet
      case rel => exact ⟨_, rfl, fun h => ⟨GA.out, by have := HNA.out h; rw [HSA.out] at this; omega⟩, S6.out⟩
    · have hne : (may A != 0) = true := by simpa using ga
      clear ga
      go_wp2_with fail
      refine hma.mono ?_; rintro e w4 ⟨rfl, hb⟩
      have S4 := Lib.hid (S2.out.below hb)
      clear hb hma e0 e1 e2 e3 e4 e5
      go_wp2_with fail
      go_meet
      case rel => exact ⟨_, rfl, fun h => Bool.noConfusion h, S4.out⟩
  case rest =>
    obtain ⟨b, rfl, hb, hS⟩ := hcut
    cases b with
    | true =>
      have S3 := Lib.hid hS
      clear hS hb hma e0 e1 e2 e3 e4 e5
      go_wp2_with fail
      refine (un.awake_any _).mono ?_; rintro e w4 ⟨rfl, hb⟩
      have S4 := Lib.hid (S3.out.below hb)
      clear hb
      go_wp2_with fail
      go_ret
      exact ⟨rfl, S4.out.bel⟩
    | false =>
      have HG := Lib.hid (hb rfl)
      have S3 := Lib.hid hS
      clear hS hb hma e0 e1 e2 e3 e4 e5 S2
      obtain ⟨e0, e1, e2, e3, e4, e5⟩ := S3.out.cells
      go_wp2_with fail
      refine (rVars_any A _ _ (HA.out.below S3.out.bel)).mono ?_
      rintro e w5 ⟨v, rfl, hv, hb⟩
      obtain ⟨vs, hvs⟩ : ∃ vs, vs = vars A := ⟨_, rfl⟩
      rw [← hvs] at hv
      have hvl : vs.length ≤ 2000 := by rw [hvs]; exact (vs_facts HG.out.1).1
      obtain ⟨a2', c2', rfl⟩ := Go.Proofs.Ythableojkjhicaa.kp.shape hv
      have HV := Lib.hid (And.intro hvs hv)
      have S5 := Lib.hid (S3.out.below hb)
      clear hvs hv hb e0 e1 e2 e3 e4 e5 S3
      go_wp2_with fail
      go_loopg [35] vs.length (ARel w5 vs)
      case atStart => exact ⟨0, by omega, by omega, rfl, by simp [small], rfl⟩
      case round =>
        obtain ⟨kk, hk, rfl, rfl, hsm, rfl⟩ := hrel
        by_cases hlt : kk < vs.length
        · obtain ⟨g, hg1, hg2, hg3, hga, hg4⟩ := ints_look HV.out.2 hlt
          have hnx := fun hx => small_next hsm hlt hx
          generalize vs[kk] = x at *
          have HN := Lib.hid hnx
          clear hnx hg2 hg3 hga hsm
          by_cases hx : x ≥ 1125899906842624
          · clear hk
            go_wp2_with fail
            refine (un.awake_any _).mono ?_; rintro e w6 ⟨rfl, hb⟩
            have S6 := Lib.hid (S5.out.below hb)
            clear hb
            go_wp2_with fail
            go_ret
            exact ⟨rfl, S6.out.bel⟩
          · have hx2 := HN.out (by omega)
            have HX2 := Lib.hid hx2
            clear hx2
            go_wp2_with fail
            go_roundg (vs.length - (kk + 1))
            case measure => omega
            case rel => exact ⟨kk + 1, hlt, rfl, by go_num, HX2.out, rfl⟩
        · rw [List.take_of_length_le (by omega)] at hsm
          have HSM := Lib.hid hsm
          have hki : ¬ (kk : Int) < (vs.length : Int) := by omega
          clear hsm hk hlt
          go_wp2_with fail
          refine (rVar_any _ _).mono ?_; rintro e w6 ⟨rfl, hb⟩
          have B6 := Lib.hid hb
          have S6 := Lib.hid (S5.out.below hb)
          clear hb
          go_upto_region 12 with fail
          change Code.wp _ _ _ _ (w6.alloc (VB 1125899906842624))
          obtain ⟨w7, hw7⟩ : ∃ w7, w7 = w6.alloc (VB 1125899906842624) := ⟨_, rfl⟩
          have V7 := Lib.hid (show BX w6 (VB 1125899906842624) w7 by rw [hw7]; exact BX.mk0 w6 _)
          have S7 := Lib.hid (show BX w (rpt.BT k n i re im aa l.length ca) w7 by rw [hw7]; exact S6.out.below (kp.ba w6 _))
          have R7 := Lib.hid (show Below wr.heap.size wr w7 by rw [hw7]; exact kp.bt B6.out (kp.ba w6 _))
          rw [← hw7]
          have HLT := Lib.hid (Array.getElem?_eq_some_iff.1 S6.out.box).1
          clear hw7 B6 S6
          go_upto_region 13 with fail
          go_cut [52] (fun s wx => ∃ b : Bool, s = .bool b ∧ (b = true → 0 < vs.length) ∧ w7 = wx)
          case first =>
            by_cases h0 : vs.length = 0
            · have h0' : decide ((vs.length : Int) > 0) = false := decide_eq_false (by omega)
              go_wp2_with fail
              go_meet
              case rel => exact ⟨_, rfl, fun h => Bool.noConfusion h, rfl⟩
            · have h0' : decide ((vs.length : Int) > 0) = true := decide_eq_true (by omega)
              by_cases h1 : (Int.tmod a1 2 == 0) = true
              · go_wp2_with fail
                go_meet
                case rel => exact ⟨_, rfl, fun _ => by omega, rfl⟩
              · have h1' : (Int.tmod a1 2 == 0) = false := by simpa using h1
                go_wp2_with fail
                go_meet
                case rel => exact ⟨_, rfl, fun _ => by omega, rfl⟩
          case rest =>
            obtain ⟨b, rfl, hb0, rfl⟩ := hcut
            go_upto_if 52 with fail
            go_cut [9] (fun s wx => ∃ b i', s = .bool b ∧ Pick A b i' ∧ BX w (rpt.BT k n i re im aa l.length ca) wx ∧ BX w6 (VB i') wx)
            case first =>
              cases b with
              | false =>
                go_wp2_with fail
                go_meet
                case rel => exact ⟨_, _, rfl, ⟨by decide, ⟨by decide, by decide⟩, by rw [eq_comm, decide_eq_false_iff_not]; intro h; have := HSM.out _ (by rw [HV.out.1]; exact (mem_vars HG.out.1 _).2 h); omega⟩, S7.out, V7.out⟩
              | true =>
                have h0 := hb0 rfl
                clear hb0
                have hrow := vrs.row_keep HV.out.2 (fun q e => R7.out.block q (HV.out.2.lt q e).2)
                obtain ⟨q, hq, hqe⟩ := pick_ix a1 vs.length h0 hvl
                obtain ⟨g, hg1, hg2, hg3, hga, hg4⟩ := ints_look hrow hq
                have hmem : vs[q] ∈ vs := List.getElem_mem hq
                generalize vs[q] = x at hg1 hmem
                have HM := Lib.hid hmem
                clear hmem hrow hg2 hg3 hga hki HK HI
                obtain ⟨y0, y1, y2, y3, y4, y5⟩ := V7.out.cells
                go_wp2_with fail
                refine (rVar_any _ _).mono ?_; rintro e w8 ⟨rfl, hb⟩
                have S8 := Lib.hid (S7.out.below hb)
                have V8 := Lib.hid (V7.out.below hb)
                clear hb y0 y1 y2 y3 y4 y5 hg1 hg4 hqe hq
                obtain ⟨y0, y1, y2, y3, y4, y5⟩ := V8.out.cells
                have z0 := V8.out.froz 0
                have z1 := V8.out.froz 1
                have z2 := V8.out.froz 2
                have z3 := V8.out.froz 3
                have z4 := V8.out.froz 4
                have z5 := V8.out.froz 5
                go_wp2_with fail
                go_meet
                case rel =>
                  have hx := (mem_vars HG.out.1 x).1 (by have := HM.out; rwa [HV.out.1] at this)
                  have hq := HLT.out
                  exact ⟨true, x, rfl, ⟨occ0 HG.out.1 x hx, occ_bound A _ HA.out x hx, (decide_eq_true hx).symm⟩, (((((S8.out.off1 hq 0 _).off1 hq 1 _).off1 hq 2 _).off1 hq 3 _).off1 hq 4 _).off1 hq 5 _, (((((V8.out.set1 0 (.int .i64 1)).set1 1 (.string ⟨#[]⟩)).set1 2 (.int .i64 x)).set1 3 (.int .u64 0)).set1 4 (.int .u64 0)).set1 5 (.slice none 0 0)⟩
            case rest =>
              obtain ⟨b, i', rfl, hp, hS, hV⟩ := hcut
              have S8 := Lib.hid hS
              have V8 := Lib.hid hV
              have HP1 := Lib.hid hp
              clear hp hS hV hb0 hki S7 V7 R7 HSM HV
              obtain ⟨e0, e1, e2, e3, e4, e5⟩ := S8.out.cells
              obtain ⟨f0, f1, f2, f3, f4, f5⟩ := V8.out.cells
              obtain ⟨y, s, hp2, ho⟩ := occurs_all HP1.out.1 HG.out.1 HI.out HG.out.2
              have HO := Lib.hid (And.intro hp2 ho)
              have hla := laid_full (var i') A _ _ wc (var_lies _ i' wc HP1.out.2.1.1 HP1.out.2.1.2) (HA.out.below S8.out.bel) (good_var HP1.out.1) HG.out.1 (by have := HG.out.2; rw [one_size]; omega)
              clear hp2 ho
              go_wp2_with fail
              refine hla.mono ?_; rintro e w9 ⟨p, q, t, x9, y9, s9, rfl, hm, _, s1, q1, q2⟩
              rw [put_var HP1.out.1] at q1
              injection q1 with q1 q3
              injection q3 with _ q3
              subst q1 q3
              rw [HO.out.1] at q2
              injection q2 with q1 q3
              injection q3 with _ q3
              subst q1 q3
              have M9 := Lib.hid hm
              have S9 := Lib.hid (S8.out.below (Mine.bel hm))
              clear hm hla e0 e1 e2 e3 e4 e5 f0 f1 f2 f3 f4 f5
              have hcall := mOcc M9.out 0 y ⟨by decide, by decide⟩ HO.out.2.wy
              rw [HO.out.2.occ, ← HP1.out.2.2] at hcall
              go_wp2_with fail
              refine hcall.mono ?_; rintro e w10 ⟨rfl, hb⟩
              have M10 := Lib.hid (M9.out.below ((frHP).tim (frTRO.tim Fr.nob)) hb)
              have S10 := Lib.hid (S9.out.below hb)
              clear hb hcall M9 S9
              have hun := mUni Fr.nob M10.out (by decide) 0 y ⟨by decide, by decide⟩ HO.out.2.wy
              rw [HO.out.2.e] at hun
              obtain ⟨is, his⟩ : ∃ is, is = (uniT s.h [] 0 y).is := ⟨_, rfl⟩
              obtain ⟨U, hU⟩ : ∃ U, U = uL (uniT s.h [] 0 y) s.h := ⟨_, rfl⟩
              obtain ⟨L, hL⟩ : ∃ L, L = uT (uniT s.h [] 0 y) [] := ⟨_, rfl⟩
              have hgot := HO.out.2.got
              have hul := HO.out.2.hl
              have hii := HO.out.2.is
              rw [← his, ← hU, ← hL] at hun
              rw [← hU] at hgot hul
              rw [← his, HK.out] at hii
              have HU := Lib.hid (And.intro hgot (And.intro hul hii))
              clear hgot hul hii hU hL his
              go_wp2_with fail
              refine hun.mono ?_; rintro e w11 ⟨rfl, hm⟩
              have M11 := Lib.hid hm
              have S11 := Lib.hid (show BX w (rpt.BT k n i re im aa l.length ca) w11 from S8.out.below (Mine.bel hm))
              clear hun hm M10 S10
              obtain ⟨e0, e1, e2, e3, e4, e5⟩ := S11.out.cells
              go_upto_region 19 with fail
              go_cut [108] (fun s wx => s = .bool false ∧ w11 = wx)
              case first =>
                obtain ⟨_, _, hii⟩ := HU.out
                have hbb := HP1.out.2.2
                cases b with
                | false =>
                  have hn : i' ∉ occ A := of_decide_eq_false hbb.symm
                  rw [decide_eq_true (Or.inl hn)] at hii
                  subst hii
                  clear hbb hn
                  go_wp2_with fail
                  go_meet
                  case rel => exact ⟨rfl, rfl⟩
                | true =>
                  have hn : i' ∈ occ A := of_decide_eq_true hbb.symm
                  by_cases k1 : k = 1
                  · rw [decide_eq_true (Or.inr k1)] at hii
                    subst hii k1
                    clear hbb hn
                    go_wp2_with fail
                    go_meet
                    case rel => exact ⟨rfl, rfl⟩
                  · rw [decide_eq_false (by rintro (h | h); exact h hn; exact k1 h)] at hii
                    subst hii
                    have k2 : (k == 1) = false := by rw [beq_eq_false_iff_ne]; exact k1
                    clear hbb hn
                    go_wp2_with fail
                    go_meet
                    case rel => exact ⟨rfl, rfl⟩
              case rest =>
                obtain ⟨rfl, rfl⟩ := hcut
                obtain ⟨g, hg, hg0⟩ := HU.out.1
                have hcall := mGet_new (frTRO.tim Fr.nob) HO.out.2.wy HO.out.2.al HO.out.2.sml (by have := HU.out.2.1; omega) M11.out hg hg0
                clear hg hg0 e0 e1 e2 e3 e4 e5
                go_wp2_with fail
                refine hcall.mono ?_; rintro e w12 ⟨k2, nm2, i2, re2, im2, aa2, sl2, sc2, rfl, m⟩
                obtain ⟨w13, hw13⟩ : ∃ w13, w13 = w12.alloc (.cells #[.int .i64 k2, .string nm2, .int .i64 i2, .int .u64 re2, .int .u64 im2, .slice aa2 sl2 sc2] 36) := ⟨_, rfl⟩
                obtain ⟨b2, hb2⟩ : ∃ b2, b2 = w12.heap.size := ⟨_, rfl⟩
                have HW13 := Lib.hid (And.intro hw13 hb2)
                rw [← hw13, ← hb2] at m
                have M13 := Lib.hid m
                clear hcall m hw13 hb2 M11
                go_upto_region 22 with fail
                rw [← HW13.out.1, ← HW13.out.2]
                have S13 := Lib.hid (show BX w (rpt.BT k n i re im aa l.length ca) w13 from S8.out.below (Mine.bel M13.out))
                obtain ⟨N2, X2⟩ : ∃ N, OX (rn A) b2 k2 nm2 i2 re2 im2 (.slice aa2 sl2 sc2) w13 N := by
                  obtain ⟨N, ⟨_, _, _, ⟨_, _, _, h2, _⟩, _⟩, _⟩ := M13.out
                  exact ⟨_, h2⟩
                obtain ⟨⟨x0, x1, x2, x3, x4, x5⟩, la⟩ := X2.six
                have LA := Lib.hid la
                obtain ⟨e0, e1, e2, e3, e4, e5⟩ := S13.out.cells
                clear X2 la HW13
                go_wp2_with fail
                refine (rvariant_good _ _ _ _ _ LA.out (HA.out.below S13.out.bel) (good_rn HG.out.1) HG.out.1).mono ?_; rintro e w14 ⟨rfl, hb⟩
                rw [var_ok_ HG.out.1]
                have S14 := Lib.hid (S13.out.below hb)
                clear hb e0 e1 e2 e3 e4 e5 x0 x1 x2 x3 x4 x5
                go_wp2_with fail
                refine (un.awake_any _).mono ?_; rintro e w15 ⟨rfl, hb⟩
                have S15 := Lib.hid (S14.out.below hb)
                clear hb
                go_wp2_with fail
                go_ret
                exact ⟨rfl, S15.out.bel⟩
set_option maxRecDepth 100000 in
theorem lifted (os : Os) (started : os.Started) (H : Type) (enc : TypeId × Value → H) :
    ReturnsInHanded {} Try.checked os 10 .any (Rows.unifyOccursSpec.pre6 enc Try.prog Try.f10 Rows.unifyOccursRow.domain false) (Rows.unifyOccursSpec.post enc Try.prog Try.f10 false true false false) := by
  refine returnsInHanded_of_change_sized (C := Try.checked) own started (by kernel_rfl) Try.func10
    (ChangeSpec.witness6 (enc := enc) (C := Try.checked) false ⟨#[], #[.agg #[.int .i64 0, .string ⟨#[]⟩, .int .i64 0, .int .u64 0, .int .u64 0, .slice none 0 0], .int .i64 0], []⟩ 8 (by kernel_rfl) (by kernel_rfl) (by kernel_rfl) (by kernel_rfl)) ?_
  intro W base args ds gs before hval0 hW _ hsz0 _
  have hsz : (DataW.weightsEach Try.prog (Try.f10.params.toList ++ Rows.unifyOccursSpec.plain.varTypes Try.prog) (ds ++ gs)).all (· ≤ reachBytes) = true := hsz0
  clear hsz0
  have hval : ∀ (j : Nat) t v, Try.f10.params[j]? = some t → args[j]? = some v → Value.okWide Try.prog W .any base t v := hval0
  have hW' := hW
  obtain ⟨p, q, hA0, hV, rfl, hfz, hnd⟩ := hW
  have hA : DataW.TrodAll enc Try.prog W 0 (fun _ => true) true Try.f10.params.toList args.toList ds p := hA0
  rw [Try.params10] at hA hval hsz
  obtain ⟨v0, vs0, d0, ds0, p0, q0, hargs, rfl, rfl, h0, r0⟩ := trodAll_cons hA
  obtain ⟨v1, vs1, d1, ds1, p1, q1, rfl, rfl, rfl, h1, r1⟩ := trodAll_cons r0
  obtain ⟨rfl, rfl, rfl⟩ := trodAll_nil r1
  obtain rfl : args = #[v0, v1] := by cases args; simp_all
  obtain ⟨rfl, rfl⟩ := trodVars_none hV
  simp only [List.append_nil] at hW'
  have lt0 : ∀ x ∈ p0, x.block < W.heap.size := fun x hx => by
    have := hW'.lt x (by simp [hx])
    simpa using this
  have k0 := h0
  have lt1 : ∀ x ∈ p1, x.block < W.heap.size := fun x hx => by
    have := hW'.lt x (by simp [hx])
    simpa using this
  have k1 := h1
  obtain ⟨t0, x0⟩ := term_arg (by obtain ⟨cs, hcs, _⟩ := okWide_struct Try.underlying36 (hval 0 36 v0 rfl rfl); exact ⟨cs, hcs⟩) h0
  obtain ⟨a1, rfl, rfl, rfl, w1⟩ := open_int Try.underlying3 (hval 1 3 v1 rfl rfl) h1
  clear hA0 hval0
  refine (walk W v0 t0 x0 a1 w1).mono fun e W' ⟨he, hg⟩ => ?_
  subst he
  have ha := (trodAll_cons_mk (Below.trod laidOut (by kernel_rfl) (of_decide_eq_true (by kernel_rfl)) k0 hg lt0) (trodAll_cons_mk (Below.trod laidOut (by kernel_rfl) (of_decide_eq_true (by kernel_rfl)) k1 hg lt1) trodAll_mk0))
  refine ⟨_, rfl, _, _, _, [], _, [], hW', ?_, ha, rfl, hg.frame _, fun h => by cases h⟩
  exact (trodAll_cons_mk (shut_bool Try.underlying4 _) trodAll_mk0)
/-- THE STATEMENT. -/
theorem proved : Rows.UnifyOccursSaid :=
  OpenClaim.holds_of_wide 10 Try.f10 rfl rfl rfl rfl rfl rfl rfl ⟨rfl, rfl, rfl, rfl, rfl⟩ rfl rfl rfl rfl rfl (by kernel_rfl) Try.func10 (by kernel_rfl)
    (of_decide_eq_true (by kernel_rfl)) (by unfold Func.isWrapper; first | (rw [if_pos (by decide +kernel)]; kernel_rfl) | (rw [if_neg (by decide +kernel)]; exact ⟨rfl, rfl⟩))
    (fun os started H enc _ => lifted os started H enc)
#print axioms proved
end Go.Proofs.Ythableojkjhicaa.unifyOccurs
