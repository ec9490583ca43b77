/- The law CopyTwice holds: for every input its Go function returns true and leaves its arguments as they were. No condition beyond the row's own. -/
import Derived.Test.YthableojkjhicaaRows
import Derived.WalkKit
import Derived.ProofKit
import Derived.OpenShut
import Derived.SizedLaws
import Derived.Test.YthableojkjhicaaCpF
import Derived.Test.YthableojkjhicaaRNo
import Derived.Test.YthableojkjhicaaTOpen
import Derived.Test.YthableojkjhicaaRMay
import Derived.Deep.RegionHeld3
namespace Go.Proofs.Ythableojkjhicaa.copyTwice
open Go.ChangeShapes Go.WideShapes Go.ChangeAt Go.RowKit
open Go.ChangeMaps (open_string)
open Go.Proofs.Ythableojkjhicaa.hp Go.Proofs.Ythableojkjhicaa.cel Go.Proofs.Ythableojkjhicaa.kp Go.Proofs.Ythableojkjhicaa.ob Go.Proofs.Ythableojkjhicaa.tm Go.Proofs.Ythableojkjhicaa.lie Go.Proofs.Ythableojkjhicaa.s7 Go.Proofs.Ythableojkjhicaa.ppt Go.Proofs.Ythableojkjhicaa.top Go.Proofs.Ythableojkjhicaa.sl Go.Proofs.Ythableojkjhicaa.rmy Go.Proofs.Ythableojkjhicaa.cur Go.Proofs.Ythableojkjhicaa.pm Go.Proofs.Ythableojkjhicaa.rva Go.Proofs.Ythableojkjhicaa.ren Go.Proofs.Ythableojkjhicaa.cpy
open Go.Proofs.Ythableojkjhicaa.un (Tim.mid)
open Go.Proofs.Ythableojkjhicaa.rpt (putT HB frHB)
open Go.Proofs.Ythableojkjhicaa.atm (l0)
open Go.Proofs.Ythableojkjhicaa.pgt (getT GO frGO OT frOT SC6 nv6)
set_option linter.unusedVariables false
theorem own : ownKnob Try.prog.godebug = none := by kernel_rfl
theorem laidOut : laidOutB Try.prog = true := by kernel_rfl
theorem var_ok_ {A : Tm} (g : good A = true) : sameB (rn (rn A)) (rn A) = true := by rw [rn_rn g, sameB_refl]; exact good_rn g
structure BX (w : World) (o : Obj) (wr : World) : Prop where
  bel : Below w.heap.size w wr
  box : wr.heap[w.heap.size]? = some o
theorem BX.mk0 (w : World) (o : Obj) : BX w o (w.alloc o) := ⟨kp.ba w o, kp.alloc_at w o⟩
theorem BX.below {w wr w' : World} {o : Obj} (h : BX w o wr) (hb : Below wr.heap.size wr w') : BX w o w' := ⟨h.bel.trans (hb.mono h.bel.size), (hb.block _ (Array.getElem?_eq_some_iff.1 h.box).1).trans h.box⟩
theorem BX.cells {w wr : World} {v0 v1 v2 v3 v4 v5 : Value} {t : TypeId} (h : BX w (.cells #[v0, v1, v2, v3, v4, v5] t (0, 0)) wr) : wr.cell? ⟨w.heap.size, 0, none⟩ = some v0 ∧ wr.cell? ⟨w.heap.size, 1, none⟩ = some v1 ∧ wr.cell? ⟨w.heap.size, 2, none⟩ = some v2 ∧ wr.cell? ⟨w.heap.size, 3, none⟩ = some v3 ∧ wr.cell? ⟨w.heap.size, 4, none⟩ = some v4 ∧ wr.cell? ⟨w.heap.size, 5, none⟩ = some v5 := by
  have := h.box
  refine ⟨?_, ?_, ?_, ?_, ?_, ?_⟩ <;> simp [World.cell?, this]
theorem len1 {W wr : World} {A B C : Ob} {k : Nat} {h : List Int} {m : Int} (hm : Mine W (Tim (Tim (HB TH k h m) A) C) wr) : Calls Try.prog 22 #[.pointer (some ⟨k, 0, none⟩)] wr fun e w' => e = .returned (.int .i64 h.length) ∧ wr = w' := by
  obtain ⟨N, ⟨K, M, ⟨K1, M1, x, _⟩, _⟩, _⟩ := hm
  exact len_any x
theorem maths {A : Tm} (ga : good A = true) (ia : ints A) (sa : tm.size A ≤ 300) :
    ∃ (c : Int) (s1 : S) (d : Int) (u : S) (g : Int) (u2 : S) (o : Int) (u3 : S) (g1 g2 g3 : G), Cop A c s1 d u ∧ (∃ M, cp u.h A d (-1) ⟨[], u.a, []⟩ = (g, ⟨u2.h, u.a, M⟩)) ∧ (∃ M, cp s1.h A c (-1) ⟨s1.h, s1.a, []⟩ = (o, ⟨u3.h, s1.a, M⟩)) ∧ getT u2.h s1.a [] g = (rn A, g1) ∧ g1.e = 0 ∧ getT u3.h s1.a [] c = (rn A, g2) ∧ g2.e = 0 ∧ getT u3.h s1.a [] o = (rn A, g3) ∧ g3.e = 0 ∧ (W64 c ∧ W64 g ∧ W64 o) ∧ u2.h.length = ns A ∧ u3.h.length ≤ 2000 ∧ s1.h.length ≤ 1000 := by
  obtain ⟨c, s1, d, u, K⟩ := cop_new ga sa
  have h1 := nd_3 A
  have h2 := ns_le A
  have z1 := K.z1
  have z2 := K.z2
  have a1 := K.a1
  obtain ⟨g, u2, M2, _, c2, a2, l2, q2, _⟩ := copy_new (m' := 10000) ga K.run2 (by omega) (by omega) (by omega) [] (by simp; omega) (by rw [K.a2]; omega)
  obtain ⟨o, u3, M3, _, c3, a3, l3, q3, x3⟩ := copy_new (m' := 10000) ga K.run (by omega) (by omega) (by simp [l0]; omega) s1.h (by omega) (by omega)
  simp only [List.length_nil, Nat.zero_add] at q2
  have e2 : u2.a = s1.a := a2.trans K.a2
  obtain ⟨g1, e1, f1⟩ := getT_rn l2 ga ia (by omega) (by rw [e2]; omega)
  rw [e2] at e1
  have x4 : Ext NN s1 ⟨u3.h, s1.a, s1.v⟩ := ⟨x3.h, ⟨[], by simp⟩, ⟨[], by simp⟩⟩
  obtain ⟨g2, e4, f2⟩ := getT_rn (K.l1.more x4) ga ia (by show u3.h.length ≤ _; omega) (by show s1.a.length ≤ _; omega)
  obtain ⟨g3, e5, f3⟩ := getT_rn l3 ga ia (by omega) (by rw [a3]; omega)
  rw [a3] at e5
  exact ⟨c, s1, d, u, g, u2, o, u3, g1, g2, g3, K, ⟨M2, c2⟩, ⟨M3, c3⟩, e1, f1, e4, f2, e5, f3, ⟨rep_w K.l1 (by omega), rep_w l2 (by omega), rep_w l3 (by omega)⟩, q2, by omega, by omega⟩
set_option maxHeartbeats 16000000 in
set_option maxRecDepth 100000 in
theorem walk (w : World) (v0 : Value) (t0 : Tm) (x0 : Lies No w t0 v0) :
    Calls Try.prog 5 #[v0] w fun e w' => e = .returned (.bool true) ∧ Below w.heap.size w w' := by
  have HA := Lib.hid x0
  obtain ⟨A, hA⟩ : ∃ A, A = t0 := ⟨_, rfl⟩
  rw [← hA] at HA
  have HI := Lib.hid (lies_ints A _ HA.out)
  obtain ⟨k, n, i, re, im, l⟩ := t0
  rw [Lies] at x0
  obtain ⟨aa, ca, rfl, hf, hr⟩ := x0
  clear hf hr hA
  obtain ⟨w2, hw2⟩ : ∃ w2, w2 = w.alloc (rpt.BT k n i re im aa l.length ca) := ⟨_, rfl⟩
  obtain ⟨b0, hb0⟩ : ∃ b0, b0 = w.heap.size := ⟨_, rfl⟩
  have S2 := Lib.hid (show BX w (rpt.BT k n i re im aa l.length ca) w2 by rw [hw2]; exact BX.mk0 w _)
  have HW := Lib.hid (And.intro hw2 hb0)
  clear hw2
  go_enter Try.func5, Try.ntmps5
  go_upto_region 1 with fail
  change Code.wp _ _ _ _ (w.alloc (rpt.BT k n i re im aa l.length ca))
  rw [← HW.out.1]
  obtain ⟨e0, e1, e2, e3, e4, e5⟩ := S2.out.cells
  have hma := rMay_any A _ w2 (HA.out.below S2.out.bel)
  go_cut [26] (fun s wx => ∃ b : Bool, s = .bool b ∧ (b = false → good A = true ∧ tm.size A ≤ 300) ∧ BX w (rpt.BT k n i re im aa l.length ca) wx)
  case first =>
    by_cases ga : may A = 0
    · rw [ga] at hma
      have GA := Lib.hid ((may_iff A).1 ga)
      clear ga
      go_wp2_with fail
      refine hma.mono ?_; rintro e w3 ⟨rfl, hb⟩
      have S4 := Lib.hid (S2.out.below hb)
      clear hb hma e0 e1 e2 e3 e4 e5 S2
      obtain ⟨e0, e1, e2, e3, e4, e5⟩ := S4.out.cells
      have hna := rno.rnodes_good A _ w3 (HA.out.below S4.out.bel) GA.out
      obtain ⟨sa, hsa⟩ : ∃ sa, sa = tm.size A := ⟨_, rfl⟩
      rw [← hsa] at hna
      have HSA := Lib.hid hsa
      clear hsa
      have HNA := Lib.hid (show decide ((300 : Int) < (sa : Int)) = false → ¬ (300 : Int) < (sa : Int) from of_decide_eq_false)
      generalize hd1 : decide ((300 : Int) < (sa : Int)) = d1 at *
      go_wp2_with fail
      refine hna.mono ?_; rintro e w6 ⟨rfl, hb⟩
      have S6 := Lib.hid (S4.out.below hb)
      clear hb hna e0 e1 e2 e3 e4 e5 S4
      go_wp2_with fail
      go_meet
      case rel => exact ⟨_, rfl, fun h => ⟨GA.out, by have := HNA.out h; rw [HSA.out] at this; omega⟩, S6.out⟩
    · have hne : (may A != 0) = true := by simpa using ga
      clear ga
      go_wp2_with fail
      refine hma.mono ?_; rintro e w4 ⟨rfl, hb⟩
      have S4 := Lib.hid (S2.out.below hb)
      clear hb hma e0 e1 e2 e3 e4 e5
      go_wp2_with fail
      go_meet
      case rel => exact ⟨_, rfl, fun h => Bool.noConfusion h, S4.out⟩
  case rest =>
    obtain ⟨b, rfl, hb, hS⟩ := hcut
    have S3 := Lib.hid hS
    clear hS hma e0 e1 e2 e3 e4 e5 S2
    obtain ⟨e0, e1, e2, e3, e4, e5⟩ := S3.out.cells
    cases b with
    | true =>
      clear hb
      go_wp2_with fail
      refine (cpy.awake_any _).mono ?_; rintro e w4 ⟨rfl, hb⟩
      have S4 := Lib.hid (S3.out.below hb)
      clear hb
      go_wp2_with fail
      go_ret
      exact ⟨rfl, S4.out.bel⟩
    | false =>
      obtain ⟨ga, sa⟩ := hb rfl
      obtain ⟨c, s1, d, u, g, u2, o, u3, g1, g2, g3, K, K2, K3, t1, t2, t3, t4, t5, t6, wcd, q2, lu, ls⟩ := maths ga HI.out sa
      have GA := Lib.hid ga
      have SA := Lib.hid sa
      have HK := Lib.hid K
      have HK2 := Lib.hid K2
      have HK3 := Lib.hid K3
      have HG1 := Lib.hid (And.intro t1 t2)
      have HG2 := Lib.hid (And.intro t3 t4)
      have HG3 := Lib.hid (And.intro t5 t6)
      have HWC := Lib.hid wcd
      have HL := Lib.hid (And.intro q2 (And.intro lu ls))
      clear ga sa hb K K2 K3 t1 t2 t3 t4 t5 t6 wcd q2 lu ls
      obtain ⟨w3, hw3⟩ : ∃ w3, w3 = wc := ⟨_, rfl⟩
      rw [← hw3] at S3 e0 e1 e2 e3 e4 e5 ⊢
      clear hw3
      go_wp2_with fail
      refine (new_any 10000 w3).mono ?_; rintro e w4 ⟨rfl, made⟩
      rw [show max 0 (min (10000 : Int) 1048576) = 10000 by decide] at made
      have M4 := Lib.hid made
      clear made
      go_wp2_with fail
      refine (atm.new_any w4).mono ?_; rintro e w5 ⟨rfl, made⟩
      have M5 := Lib.hid (Mine.nob (HP.mk_ M4.out made))
      clear made M4
      obtain ⟨p, hp⟩ : ∃ p, p = w3.heap.size := ⟨_, rfl⟩
      obtain ⟨q, hq⟩ : ∃ q, q = w4.heap.size := ⟨_, rfl⟩
      rw [← hp, ← hq] at M5 ⊢
      clear hp hq
      have S5 := Lib.hid (S3.out.below (Mine.bel M5.out))
      clear e0 e1 e2 e3 e4 e5
      obtain ⟨e0, e1, e2, e3, e4, e5⟩ := S5.out.cells
      have hcall := mPut_new Fr.nob M5.out (HA.out.below S3.out.bel) (by have := SA.out; simp [l0]; omega) HK.out.pt
      go_wp2_with fail
      refine hcall.mono ?_; rintro e w6 ⟨rfl, m6⟩
      have M6 := Lib.hid m6
      clear hcall m6 e0 e1 e2 e3 e4 e5 S5
      go_wp2_with fail
      refine (new_any 10000 w6).mono ?_; rintro e w7 ⟨rfl, made⟩
      rw [show max 0 (min (10000 : Int) 1048576) = 10000 by decide] at made
      have M7 := Lib.hid (HB.mk_ (frHP.tim Fr.nob) M6.out made)
      clear made M6
      obtain ⟨kk, hkk⟩ : ∃ kk, kk = w6.heap.size := ⟨_, rfl⟩
      rw [← hkk] at M7 ⊢
      clear hkk
      go_wp2_with fail
      refine (new_any 10000 w7).mono ?_; rintro e w8 ⟨rfl, made⟩
      rw [show max 0 (min (10000 : Int) 1048576) = 10000 by decide] at made
      have M8 := Lib.hid (HB.mk_ ((frHP.tim Fr.nob).tim frHB) M7.out made)
      clear made M7
      obtain ⟨ll, hll⟩ : ∃ ll, ll = w7.heap.size := ⟨_, rfl⟩
      rw [← hll] at M8 ⊢
      clear hll
      have m8 : Mine w3 (Tim (ES p kk s1.h 10000 10000 []) (Tim (Tim (PO q s1.a) Nob) (HB TH ll [] 10000))) w8 := M8.out.imp fun _ t => Tim.right_ (t.map1 fun _ t => Tim.right_ ((Tim.rot t).map1 fun _ t => Tim.rot t))
      obtain ⟨M9, hcop⟩ := HK.out.cop
      have hcall := mTermS ((frPO.tim Fr.nob).tim frHB) m8 HK.out.l1 (good_sound GA.out) (by have := SA.out; omega) (by have := nd_3 A; have := SA.out; simp; omega) _ _ hcop
      clear m8 M8 hcop
      go_wp2_with fail
      refine hcall.mono ?_; rintro e w9 ⟨rfl, m9⟩
      have M9 := Lib.hid (show Mine w3 (Tim (ES kk ll u.h 10000 10000 []) (Tim (HB TH p s1.h 10000) (Tim (PO q s1.a) Nob))) w9 from m9.imp fun _ t => Tim.mid ((t.map1 fun _ t => t.swap).map2 fun _ t => t.swap))
      clear hcall m9
      obtain ⟨M10, hcop⟩ := HK2.out
      have hcall := mTermS (frHB.tim (frPO.tim Fr.nob)) M9.out HK.out.l2 (good_sound GA.out) (by have := SA.out; omega) (by have := nd_3 A; have := SA.out; simp; omega) _ _ hcop
      clear hcop M9
      go_wp2_with fail
      refine hcall.mono ?_; rintro e w10 ⟨rfl, m10⟩
      have M10 := Lib.hid (show Mine w3 (Tim (Tim (HB TH ll u2.h 10000) (HB TH kk u.h 10000)) (Tim (HB TH p s1.h 10000) (Tim (PO q s1.a) Nob))) w10 from m10.imp fun _ t => t.map1 fun _ t => t.swap)
      clear hcall m10
      have hl1 := len1 (A := HB TH kk u.h 10000) (B := Nob) M10.out
      have hl2 := len1 (A := HB TH ll u2.h 10000) (B := Nob) (k := kk) (h := u.h) (m := 10000) (C := Tim (HB TH p s1.h 10000) (Tim (PO q s1.a) Nob)) (M10.out.imp fun _ t => t.map1 fun _ t => t.swap)
      have hlen : (u2.h.length : Int) ≤ (u.h.length : Int) := by rw [HK.out.z2, HL.out.1]; exact Int.le_refl _
      have hdd : decide ((u.h.length : Int) < (u2.h.length : Int)) = false := decide_eq_false (by omega)
      go_wp2_with fail
      refine hl1.mono ?_; rintro e w' ⟨rfl, rfl⟩
      go_wp2_with fail
      refine hl2.mono ?_; rintro e w' ⟨rfl, rfl⟩
      clear hl1 hl2
      have M11 := Lib.hid (show Mine w3 (Tim (HP ll q u2.h 10000 s1.a) (Tim (HB TH kk u.h 10000) (Tim Nob (HB TH p s1.h 10000)))) w10 from M10.out.imp fun _ t => Tim.mid (t.map2 fun _ t => Tim.right_ t.swap))
      have hcall := mGet_new (frHB.tim (Fr.nob.tim frHB)) HWC.out.2.1 (by have := HK.out.a1; omega) HK.out.m1 (by have := HL.out; have := ns_le A; have := nd_3 A; have := SA.out; omega) M11.out HG1.out.1 HG1.out.2
      clear M10 M11
      go_wp2_with fail
      refine hcall.mono ?_; rintro e w11 ⟨k1, nm1, i1, re1, im1, aa1, sl1, sc1, rfl, m⟩
      obtain ⟨w12, hw12⟩ : ∃ w12, w12 = w11.alloc (.cells #[.int .i64 k1, .string nm1, .int .i64 i1, .int .u64 re1, .int .u64 im1, .slice aa1 sl1 sc1] 36) := ⟨_, rfl⟩
      obtain ⟨b1, hb1⟩ : ∃ b1, b1 = w11.heap.size := ⟨_, rfl⟩
      have HW12 := Lib.hid (And.intro hw12 hb1)
      rw [← hw12, ← hb1] at m
      obtain ⟨X1, hX1⟩ : ∃ X : Ob, X = OX (rn A) b1 k1 nm1 i1 re1 im1 (.slice aa1 sl1 sc1) := ⟨_, rfl⟩
      rw [← hX1] at m
      have HX1 := Lib.hid hX1
      have fX1 := Lib.hid (show Fr X1 by rw [hX1]; exact frOX)
      have M12 := Lib.hid (show Mine w3 (Tim (HB TH p s1.h 10000) (Tim (Tim (Tim Nob (HB TH kk u.h 10000)) X1) (Tim (HB TH ll u2.h 10000) (PO q s1.a)))) w12 from m.imp fun _ t => Tim.right_ ((t.map2 fun _ t => Tim.right_ (t.map1 fun _ t => Tim.right_ ((Tim.swap t).map1 fun _ t => t.swap))).swap))
      clear hcall m hw12 hb1 hX1
      go_upto_region 13 with fail
      rw [← HW12.out.1, ← HW12.out.2]
      clear HW12
      obtain ⟨M13, hcop⟩ := HK3.out
      have hcall := mTermO (((Fr.nob.tim frHB).tim fX1.out).tim (frHB.tim frPO)) M12.out HK.out.l1 (good_sound GA.out) (by have := SA.out; omega) (by have := nd_3 A; have := SA.out; have := HL.out; omega) _ _ hcop
      clear hcop M12
      go_wp2_with fail
      refine hcall.mono ?_; rintro e w13 ⟨rfl, m⟩
      have M13 := Lib.hid (show Mine w3 (Tim (HP p q u3.h 10000 s1.a) (Tim (HB TH ll u2.h 10000) (Tim (Tim Nob (HB TH kk u.h 10000)) X1))) w13 from m.imp fun _ t => Tim.left_ (t.map2 fun _ t => Tim.right_ ((Tim.swap t).map1 fun _ t => t.swap)))
      clear hcall m
      have hcall := mGet_new (frHB.tim ((Fr.nob.tim frHB).tim fX1.out)) HWC.out.1 (by have := HK.out.a1; omega) HK.out.m1 (by have := HL.out; omega) M13.out HG2.out.1 HG2.out.2
      clear M13
      go_wp2_with fail
      refine hcall.mono ?_; rintro e w14 ⟨k2, nm2, i2, re2, im2, aa2, sl2, sc2, rfl, m⟩
      obtain ⟨w15, hw15⟩ : ∃ w15, w15 = w14.alloc (.cells #[.int .i64 k2, .string nm2, .int .i64 i2, .int .u64 re2, .int .u64 im2, .slice aa2 sl2 sc2] 36) := ⟨_, rfl⟩
      obtain ⟨b2, hb2⟩ : ∃ b2, b2 = w14.heap.size := ⟨_, rfl⟩
      have HW15 := Lib.hid (And.intro hw15 hb2)
      rw [← hw15, ← hb2] at m
      obtain ⟨X2, hX2⟩ : ∃ X : Ob, X = OX (rn A) b2 k2 nm2 i2 re2 im2 (.slice aa2 sl2 sc2) := ⟨_, rfl⟩
      rw [← hX2] at m
      have HX2 := Lib.hid hX2
      have fX2 := Lib.hid (show Fr X2 by rw [hX2]; exact frOX)
      have M15 := Lib.hid m
      clear hcall m hw15 hb2 hX2
      go_upto_region 15 with fail
      rw [← HW15.out.1, ← HW15.out.2]
      clear HW15
      have hcall := mGet_new ((frHB.tim ((Fr.nob.tim frHB).tim fX1.out)).tim fX2.out) HWC.out.2.2 (by have := HK.out.a1; omega) HK.out.m1 (by have := HL.out; omega) M15.out HG3.out.1 HG3.out.2
      clear M15
      go_wp2_with fail
      refine hcall.mono ?_; rintro e w16 ⟨k3, nm3, i3, re3, im3, aa3, sl3, sc3, rfl, m⟩
      obtain ⟨w17, hw17⟩ : ∃ w17, w17 = w16.alloc (.cells #[.int .i64 k3, .string nm3, .int .i64 i3, .int .u64 re3, .int .u64 im3, .slice aa3 sl3 sc3] 36) := ⟨_, rfl⟩
      obtain ⟨b3, hb3⟩ : ∃ b3, b3 = w16.heap.size := ⟨_, rfl⟩
      have HW17 := Lib.hid (And.intro hw17 hb3)
      rw [← hw17, ← hb3] at m
      have M17 := Lib.hid m
      clear hcall m hw17 hb3
      go_upto_region 16 with fail
      rw [← HW17.out.1, ← HW17.out.2]
      clear HW17
      obtain ⟨N1, N2, N3, y1, y2, y3⟩ : ∃ N1 N2 N3, X1 w17 N1 ∧ X2 w17 N2 ∧ OX (rn A) b3 k3 nm3 i3 re3 im3 (.slice aa3 sl3 sc3) w17 N3 := by
        obtain ⟨N, ⟨_, _, _, ⟨_, _, ⟨_, _, ⟨_, _, _, ⟨_, _, _, h1, _⟩, _⟩, h2, _⟩, h3, _⟩, _⟩, _⟩ := M17.out
        exact ⟨_, _, _, h1, h2, h3⟩
      rw [HX1.out] at y1
      rw [HX2.out] at y2
      have S17 := Lib.hid (S3.out.below (Mine.bel M17.out))
      have Y2 := Lib.hid y2
      have Y3 := Lib.hid y3
      obtain ⟨⟨x0, x1, x2, x3, x4, x5⟩, la⟩ := y1.six
      have LA := Lib.hid la
      obtain ⟨e0, e1, e2, e3, e4, e5⟩ := S17.out.cells
      clear y1 y2 y3 la M17
      go_wp2_with fail
      refine (rvariant_good _ _ _ _ _ LA.out (HA.out.below S17.out.bel) (good_rn GA.out) GA.out).mono ?_; rintro e w18 ⟨rfl, hb⟩
      rw [var_ok_ GA.out]
      have S18 := Lib.hid (S17.out.below hb)
      have y2 := frOX.below Y2.out hb
      have Y4 := Lib.hid (frOX.below Y3.out hb)
      clear hb e0 e1 e2 e3 e4 e5 x0 x1 x2 x3 x4 x5 LA Y2 Y3
      obtain ⟨⟨x0, x1, x2, x3, x4, x5⟩, la⟩ := y2.six
      have LA := Lib.hid la
      obtain ⟨e0, e1, e2, e3, e4, e5⟩ := S18.out.cells
      clear y2 la
      go_wp2_with fail
      refine (rvariant_good _ _ _ _ _ LA.out (HA.out.below S18.out.bel) (good_rn GA.out) GA.out).mono ?_; rintro e w19 ⟨rfl, hb⟩
      rw [var_ok_ GA.out]
      have S19 := Lib.hid (S18.out.below hb)
      have y3 := frOX.below Y4.out hb
      clear hb e0 e1 e2 e3 e4 e5 x0 x1 x2 x3 x4 x5 LA Y4
      obtain ⟨⟨x0, x1, x2, x3, x4, x5⟩, la⟩ := y3.six
      have LA := Lib.hid la
      obtain ⟨e0, e1, e2, e3, e4, e5⟩ := S19.out.cells
      clear y3 la
      go_wp2_with fail
      refine (rvariant_good _ _ _ _ _ LA.out (HA.out.below S19.out.bel) (good_rn GA.out) GA.out).mono ?_; rintro e w20 ⟨rfl, hb⟩
      rw [var_ok_ GA.out]
      have S20 := Lib.hid (S19.out.below hb)
      clear hb e0 e1 e2 e3 e4 e5 x0 x1 x2 x3 x4 x5 LA
      go_wp2_with fail
      refine (cpy.awake_any _).mono ?_; rintro e w21 ⟨rfl, hb⟩
      have S21 := Lib.hid (S20.out.below hb)
      clear hb
      go_wp2_with fail
      go_ret
      exact ⟨rfl, S21.out.bel⟩
set_option maxRecDepth 100000 in
theorem lifted (os : Os) (started : os.Started) (H : Type) (enc : TypeId × Value → H) :
    ReturnsInHanded {} Try.checked os 5 .any (Rows.copyTwiceSpec.pre6 enc Try.prog Try.f5 Rows.copyTwiceRow.domain false) (Rows.copyTwiceSpec.post enc Try.prog Try.f5 false true false false) := by
  refine returnsInHanded_of_change_sized (C := Try.checked) own started (by kernel_rfl) Try.func5
    (ChangeSpec.witness6 (enc := enc) (C := Try.checked) false ⟨#[], #[.agg #[.int .i64 0, .string ⟨#[]⟩, .int .i64 0, .int .u64 0, .int .u64 0, .slice none 0 0]], []⟩ 8 (by kernel_rfl) (by kernel_rfl) (by kernel_rfl) (by kernel_rfl)) ?_
  intro W base args ds gs before hval0 hW _ hsz0 _
  have hsz : (DataW.weightsEach Try.prog (Try.f5.params.toList ++ Rows.copyTwiceSpec.plain.varTypes Try.prog) (ds ++ gs)).all (· ≤ reachBytes) = true := hsz0
  clear hsz0
  have hval : ∀ (j : Nat) t v, Try.f5.params[j]? = some t → args[j]? = some v → Value.okWide Try.prog W .any base t v := hval0
  have hW' := hW
  obtain ⟨p, q, hA0, hV, rfl, hfz, hnd⟩ := hW
  have hA : DataW.TrodAll enc Try.prog W 0 (fun _ => true) true Try.f5.params.toList args.toList ds p := hA0
  rw [Try.params5] at hA hval hsz
  obtain ⟨v0, vs0, d0, ds0, p0, q0, hargs, rfl, rfl, h0, r0⟩ := trodAll_cons hA
  obtain ⟨rfl, rfl, rfl⟩ := trodAll_nil r0
  obtain rfl : args = #[v0] := by cases args; simp_all
  obtain ⟨rfl, rfl⟩ := trodVars_none hV
  simp only [List.append_nil] at hW'
  have lt0 : ∀ x ∈ p0, x.block < W.heap.size := fun x hx => by
    have := hW'.lt x (by simp [hx])
    simpa using this
  have k0 := h0
  obtain ⟨t0, x0⟩ := term_arg (by obtain ⟨cs, hcs, _⟩ := okWide_struct Try.underlying36 (hval 0 36 v0 rfl rfl); exact ⟨cs, hcs⟩) h0
  clear hA0 hval0
  refine (walk W v0 t0 x0).mono fun e W' ⟨he, hg⟩ => ?_
  subst he
  have ha := (trodAll_cons_mk (Below.trod laidOut (by kernel_rfl) (of_decide_eq_true (by kernel_rfl)) k0 hg lt0) trodAll_mk0)
  refine ⟨_, rfl, _, _, _, [], _, [], hW', ?_, ha, rfl, hg.frame _, fun h => by cases h⟩
  exact (trodAll_cons_mk (shut_bool Try.underlying4 _) trodAll_mk0)
/-- THE STATEMENT. -/
theorem proved : Rows.CopyTwiceSaid :=
  OpenClaim.holds_of_wide 5 Try.f5 rfl rfl rfl rfl rfl rfl rfl ⟨rfl, rfl, rfl, rfl, rfl⟩ rfl rfl rfl rfl rfl (by kernel_rfl) Try.func5 (by kernel_rfl)
    (of_decide_eq_true (by kernel_rfl)) (by unfold Func.isWrapper; first | (rw [if_pos (by decide +kernel)]; kernel_rfl) | (rw [if_neg (by decide +kernel)]; exact ⟨rfl, rfl⟩))
    (fun os started H enc _ => lifted os started H enc)
#print axioms proved
end Go.Proofs.Ythableojkjhicaa.copyTwice
