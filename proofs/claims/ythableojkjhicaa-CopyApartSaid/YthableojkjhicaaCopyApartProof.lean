/- The law CopyApart holds: for every input its Go function returns true and leaves its arguments as they were. No condition beyond the row's own. -/
import Derived.Test.YthableojkjhicaaRows
import Derived.WalkKit
import Derived.ProofKit
import Derived.OpenShut
import Derived.SizedLaws
import Derived.Test.YthableojkjhicaaCpF
import Derived.Test.YthableojkjhicaaRNo
import Derived.Test.YthableojkjhicaaTOpen
import Derived.Test.YthableojkjhicaaRMay
import Derived.Deep.RegionHeld3
namespace Go.Proofs.Ythableojkjhicaa.copyApart
open Go.ChangeShapes Go.WideShapes Go.ChangeAt Go.RowKit
open Go.ChangeMaps (open_string)
open Go.Proofs.Ythableojkjhicaa.hp Go.Proofs.Ythableojkjhicaa.cel Go.Proofs.Ythableojkjhicaa.kp Go.Proofs.Ythableojkjhicaa.ob Go.Proofs.Ythableojkjhicaa.tm Go.Proofs.Ythableojkjhicaa.lie Go.Proofs.Ythableojkjhicaa.ppt Go.Proofs.Ythableojkjhicaa.top Go.Proofs.Ythableojkjhicaa.sl Go.Proofs.Ythableojkjhicaa.rmy Go.Proofs.Ythableojkjhicaa.cur Go.Proofs.Ythableojkjhicaa.pm Go.Proofs.Ythableojkjhicaa.rva Go.Proofs.Ythableojkjhicaa.ren Go.Proofs.Ythableojkjhicaa.cpy
open Go.Proofs.Ythableojkjhicaa.un (TRO frTRO mUni uL uT uniT TRO.mk_ Tim.mid)
open Go.Proofs.Ythableojkjhicaa.rpt (putT HB frHB)
open Go.Proofs.Ythableojkjhicaa.atm (l0)
open Go.Proofs.Ythableojkjhicaa.pgt (getT GO frGO OT frOT SC6 nv6)
set_option linter.unusedVariables false
theorem own : ownKnob Try.prog.godebug = none := by kernel_rfl
theorem laidOut : laidOutB Try.prog = true := by kernel_rfl
theorem var_ok_ {A : Tm} (g : good A = true) : sameB (rn (rn A)) (rn A) = true := by rw [rn_rn g, sameB_refl]; exact good_rn g
theorem maths {A B : Tm} (ga : good A = true) (gb : good B = true) (ia : ints A) (sa : tm.size A ≤ 300) (sb : tm.size B ≤ 300) :
    ∃ c s1 d u v s3 g1 g2, Cop A c s1 d u ∧ putT 10000 B ⟨u.h, s1.a, []⟩ = (v, 0, s3) ∧ getT u.h s1.a [] d = (rn A, g1) ∧ g1.e = 0 ∧ getT s1.h s3.a [] c = (rn A, g2) ∧ g2.e = 0 ∧ (W64 c ∧ W64 d ∧ W64 v) ∧ (Sml s3.a ∧ s3.a.length ≤ 4096) ∧ u.h.length ≤ 1000 ∧ s1.h.length ≤ 1000 := by
  obtain ⟨c, s1, d, u, K⟩ := cop_new ga sa
  have h1 := nd_3 A
  have h2 := ns_le A
  have h3 := nd_3 B
  have z1 := K.z1
  have z2 := K.z2
  have a1 := K.a1
  obtain ⟨v, s3, p3, _, l3, x3, z3, a3, m3⟩ := put_new (T := B) 10000 u.h s1.a gb (by omega) (by omega)
  have h4 := ns_le B
  obtain ⟨g1, e1, f1⟩ := getT_rn K.l2 ga ia (by omega) (by rw [K.a2]; omega)
  rw [K.a2] at e1
  have x4 : Ext NN s1 ⟨s1.h, s3.a, s1.v⟩ := ⟨⟨Nat.le_refl _, fun _ _ _ => rfl⟩, x3.a, ⟨[], by simp⟩⟩
  obtain ⟨g2, e2, f2⟩ := getT_rn (K.l1.more x4) ga ia (by show s1.h.length ≤ _; omega) (by show s3.a.length ≤ _; omega)
  exact ⟨c, s1, d, u, v, s3, g1, g2, K, p3, e1, f1, e2, f2, ⟨rep_w K.l1 (by omega), rep_w K.l2 (by omega), rep_w l3 (by omega)⟩, ⟨m3 K.m1, by omega⟩, by omega, by omega⟩
set_option maxHeartbeats 16000000 in
set_option maxRecDepth 100000 in
theorem walk (w : World) (v0 : Value) (t0 : Tm) (x0 : Lies No w t0 v0) (v1 : Value) (t1 : Tm) (x1 : Lies No w t1 v1) :
    Calls Try.prog 4 #[v0, v1] w fun e w' => e = .returned (.bool true) ∧ Below w.heap.size w w' := by
  have HA := Lib.hid x0
  have HB_ := Lib.hid x1
  obtain ⟨A, hA⟩ : ∃ A, A = t0 := ⟨_, rfl⟩
  obtain ⟨B, hB⟩ : ∃ B, B = t1 := ⟨_, rfl⟩
  rw [← hA] at HA
  rw [← hB] at HB_
  have HI := Lib.hid (lies_ints A _ HA.out)
  obtain ⟨k, n, i, re, im, l⟩ := t0
  obtain ⟨k', n', i', re', im', l'⟩ := t1
  rw [Lies] at x0 x1
  obtain ⟨aa, ca, rfl, hf, hr⟩ := x0
  obtain ⟨ab, cb, rfl, hf', hr'⟩ := x1
  clear hf hr hf' hr' hA hB
  obtain ⟨w2, hw2⟩ : ∃ w2, w2 = (w.alloc (.cells #[.int .i64 k, .string n, .int .i64 i, .int .u64 re, .int .u64 im, .slice aa l.length ca] 36)).alloc (.cells #[.int .i64 k', .string n', .int .i64 i', .int .u64 re', .int .u64 im', .slice ab l'.length cb] 36) := ⟨_, rfl⟩
  have S2 := Lib.hid (show SV w #[.int .i64 k, .string n, .int .i64 i, .int .u64 re, .int .u64 im, .slice aa l.length ca] #[.int .i64 k', .string n', .int .i64 i', .int .u64 re', .int .u64 im', .slice ab l'.length cb] w2 by rw [hw2]; exact SV.mk0 w _ _)
  have HW := Lib.hid hw2
  clear hw2
  go_enter Try.func4, Try.ntmps4
  go_upto_region 1 with fail
  rw [← HW.out]
  obtain ⟨e0, e1, e2, e3, e4, e5, f0, f1, f2, f3, f4, f5⟩ := S2.out.cells
  have hma := rMay_any A _ w2 (HA.out.below S2.out.bel)
  go_cut [33] (fun s wx => ∃ b : Bool, s = .bool b ∧ (b = false → good A = true ∧ good B = true ∧ tm.size A ≤ 300 ∧ tm.size B ≤ 300) ∧ SV w #[.int .i64 k, .string n, .int .i64 i, .int .u64 re, .int .u64 im, .slice aa l.length ca] #[.int .i64 k', .string n', .int .i64 i', .int .u64 re', .int .u64 im', .slice ab l'.length cb] wx)
  case first =>
    by_cases ga : may A = 0
    · rw [ga] at hma
      have GA := Lib.hid ((may_iff A).1 ga)
      clear ga
      go_wp2_with fail
      refine hma.mono ?_; rintro e w3 ⟨rfl, hb⟩
      have S3 := Lib.hid (S2.out.below hb)
      clear hb hma e0 e1 e2 e3 e4 e5 f0 f1 f2 f3 f4 f5 S2
      obtain ⟨e0, e1, e2, e3, e4, e5, f0, f1, f2, f3, f4, f5⟩ := S3.out.cells
      have hmb := rMay_any B _ w3 (HB_.out.below S3.out.bel)
      by_cases gb : may B = 0
      · rw [gb] at hmb
        have GB := Lib.hid ((may_iff B).1 gb)
        clear gb
        go_wp2_with fail
        refine hmb.mono ?_; rintro e w4 ⟨rfl, hb⟩
        have S4 := Lib.hid (S3.out.below hb)
        clear hb hmb e0 e1 e2 e3 e4 e5 f0 f1 f2 f3 f4 f5 S3
        obtain ⟨e0, e1, e2, e3, e4, e5, f0, f1, f2, f3, f4, f5⟩ := S4.out.cells
        have hna := rno.rnodes_good A _ w4 (HA.out.below S4.out.bel) GA.out
        obtain ⟨sa, hsa⟩ : ∃ sa, sa = tm.size A := ⟨_, rfl⟩
        rw [← hsa] at hna
        have HSA := Lib.hid hsa
        clear hsa
        by_cases na : (300 : Int) < (sa : Int)
        · have d1 : decide ((300 : Int) < (sa : Int)) = true := decide_eq_true na
          clear na
          go_wp2_with fail
          refine hna.mono ?_; rintro e w5 ⟨rfl, hb⟩
          have S5 := Lib.hid (S4.out.below hb)
          clear hb hna e0 e1 e2 e3 e4 e5 f0 f1 f2 f3 f4 f5 S4
          go_wp2_with fail
          go_meet
          case rel => exact ⟨_, rfl, fun h => Bool.noConfusion h, S5.out⟩
        · have d0 : decide ((300 : Int) < (sa : Int)) = false := decide_eq_false na
          have HNA := Lib.hid na
          clear na
          go_wp2_with fail
          refine hna.mono ?_; rintro e w5 ⟨rfl, hb⟩
          have S5 := Lib.hid (S4.out.below hb)
          clear hb hna e0 e1 e2 e3 e4 e5 f0 f1 f2 f3 f4 f5 S4
          obtain ⟨e0, e1, e2, e3, e4, e5, f0, f1, f2, f3, f4, f5⟩ := S5.out.cells
          have hnb := rno.rnodes_good B _ w5 (HB_.out.below S5.out.bel) GB.out
          obtain ⟨sb, hsb⟩ : ∃ sb, sb = tm.size B := ⟨_, rfl⟩
          rw [← hsb] at hnb
          have HSB := Lib.hid hsb
          clear hsb
          have HNB := Lib.hid (show decide ((300 : Int) < (sb : Int)) = false → ¬ (300 : Int) < (sb : Int) from of_decide_eq_false)
          generalize hd1 : decide ((300 : Int) < (sb : Int)) = d1 at *
          go_wp2_with fail
          refine hnb.mono ?_; rintro e w6 ⟨rfl, hb⟩
          have S6 := Lib.hid (S5.out.below hb)
          clear hb hnb e0 e1 e2 e3 e4 e5 f0 f1 f2 f3 f4 f5 S5
          go_wp2_with fail
          go_meet
          case rel => exact ⟨_, rfl, fun h => ⟨GA.out, GB.out, by have := HNA.out; rw [HSA.out] at this; omega, by have := HNB.out h; rw [HSB.out] at this; omega⟩, S6.out⟩
      · have hne : (may B != 0) = true := by simpa using gb
        clear gb
        go_wp2_with fail
        refine hmb.mono ?_; rintro e w5 ⟨rfl, hb⟩
        have S5 := Lib.hid (S3.out.below hb)
        clear hb hmb e0 e1 e2 e3 e4 e5 f0 f1 f2 f3 f4 f5
        go_wp2_with fail
        go_meet
        case rel => exact ⟨_, rfl, fun h => Bool.noConfusion h, S5.out⟩
    · have hne : (may A != 0) = true := by simpa using ga
      clear ga
      go_wp2_with fail
      refine hma.mono ?_; rintro e w4 ⟨rfl, hb⟩
      have S4 := Lib.hid (S2.out.below hb)
      clear hb hma e0 e1 e2 e3 e4 e5 f0 f1 f2 f3 f4 f5
      go_wp2_with fail
      go_meet
      case rel => exact ⟨_, rfl, fun h => Bool.noConfusion h, S4.out⟩
  case rest =>
    obtain ⟨b, rfl, hb, hS⟩ := hcut
    have S3 := Lib.hid hS
    clear hS hma e0 e1 e2 e3 e4 e5 f0 f1 f2 f3 f4 f5 S2
    obtain ⟨e0, e1, e2, e3, e4, e5, f0, f1, f2, f3, f4, f5⟩ := S3.out.cells
    cases b with
    | true =>
      clear hb
      go_wp2_with fail
      refine (cpy.awake_any _).mono ?_; rintro e w4 ⟨rfl, hb⟩
      have S4 := Lib.hid (S3.out.below hb)
      clear hb
      go_wp2_with fail
      go_ret
      exact ⟨rfl, S4.out.bel⟩
    | false =>
      obtain ⟨ga, gb, sa, sb⟩ := hb rfl
      obtain ⟨c, s1, d, u, v, s3, g1, g2, K, p3, e1', f1', e2', f2', wcd, sm, lu, ls⟩ := maths ga gb HI.out sa sb
      have GA := Lib.hid ga
      have SA := Lib.hid (And.intro sa sb)
      have HK := Lib.hid K
      have HP3 := Lib.hid p3
      have HG := Lib.hid (And.intro e1' (And.intro f1' (And.intro e2' (And.intro f2' (And.intro wcd (And.intro sm (And.intro lu ls)))))))
      clear ga gb sa sb hb K p3 e1' f1' e2' f2' wcd sm lu ls
      obtain ⟨w3, hw3⟩ : ∃ w3, w3 = wc := ⟨_, rfl⟩
      rw [← hw3] at S3 e0 e1 e2 e3 e4 e5 f0 f1 f2 f3 f4 f5 ⊢
      clear hw3
      go_wp2_with fail
      refine (new_any 10000 w3).mono ?_; rintro e w4 ⟨rfl, made⟩
      rw [show max 0 (min (10000 : Int) 1048576) = 10000 by decide] at made
      have M4 := Lib.hid made
      clear made
      go_wp2_with fail
      refine (atm.new_any w4).mono ?_; rintro e w5 ⟨rfl, made⟩
      have M5 := Lib.hid (Mine.nob (HP.mk_ M4.out made))
      clear made M4
      obtain ⟨p, hp⟩ : ∃ p, p = w3.heap.size := ⟨_, rfl⟩
      obtain ⟨q, hq⟩ : ∃ q, q = w4.heap.size := ⟨_, rfl⟩
      rw [← hp, ← hq] at M5 ⊢
      clear hp hq
      have S5 := Lib.hid (S3.out.below (Mine.bel M5.out))
      clear e0 e1 e2 e3 e4 e5 f0 f1 f2 f3 f4 f5
      obtain ⟨e0, e1, e2, e3, e4, e5, f0, f1, f2, f3, f4, f5⟩ := S5.out.cells
      have hcall := mPut_new Fr.nob M5.out (HA.out.below S3.out.bel) (by have := SA.out.1; simp [l0]; omega) HK.out.pt
      go_wp2_with fail
      refine hcall.mono ?_; rintro e w6 ⟨rfl, m6⟩
      have M6 := Lib.hid m6
      clear hcall m6 e0 e1 e2 e3 e4 e5 f0 f1 f2 f3 f4 f5 S5
      go_wp2_with fail
      refine (new_any 10000 w6).mono ?_; rintro e w7 ⟨rfl, made⟩
      rw [show max 0 (min (10000 : Int) 1048576) = 10000 by decide] at made
      have M7 := Lib.hid (HB.mk_ (frHP.tim Fr.nob) M6.out made)
      clear made M6
      obtain ⟨kk, hkk⟩ : ∃ kk, kk = w6.heap.size := ⟨_, rfl⟩
      rw [← hkk] at M7 ⊢
      clear hkk
      have m8 : Mine w3 (Tim (ES p kk s1.h 10000 10000 []) (Tim (PO q s1.a) Nob)) w7 := M7.out.imp fun _ t => Tim.right_ ((Tim.rot t).map1 fun _ t => Tim.rot t)
      obtain ⟨M9, hcop⟩ := HK.out.cop
      have hcall := mTermS (frPO.tim Fr.nob) m8 HK.out.l1 (good_sound GA.out) (by have := SA.out.1; omega) (by have := nd_3 A; have := SA.out.1; simp; omega) _ _ hcop
      clear m8 M7 hcop
      go_wp2_with fail
      refine hcall.mono ?_; rintro e w8 ⟨rfl, m9⟩
      have M9 := Lib.hid (show Mine w3 (Tim (HP kk q u.h 10000 s1.a) (Tim (HB TH p s1.h 10000) Nob)) w8 from m9.imp fun _ t => Tim.mid (t.map1 fun _ t => t.swap))
      clear hcall m9
      have hcall := mGet_new (frHB.tim Fr.nob) HG.out.2.2.2.2.1.2.1 (by have := HK.out.a1; omega) HK.out.m1 (by have := HG.out.2.2.2.2.2.2.1; omega) M9.out HG.out.1 HG.out.2.1
      go_wp2_with fail
      refine hcall.mono ?_; rintro e w10 ⟨k1, nm1, i1, re1, im1, aa1, sl1, sc1, rfl, m⟩
      obtain ⟨w11, hw11⟩ : ∃ w11, w11 = w10.alloc (.cells #[.int .i64 k1, .string nm1, .int .i64 i1, .int .u64 re1, .int .u64 im1, .slice aa1 sl1 sc1] 36) := ⟨_, rfl⟩
      obtain ⟨b1, hb1⟩ : ∃ b1, b1 = w10.heap.size := ⟨_, rfl⟩
      have HW11 := Lib.hid (And.intro hw11 hb1)
      rw [← hw11, ← hb1] at m
      have M11 := Lib.hid m
      clear hcall m hw11 hb1 M9
      go_upto_region 10 with fail
      rw [← HW11.out.1, ← HW11.out.2]
      have S11 := Lib.hid (S3.out.below (Mine.bel M11.out))
      obtain ⟨N1, X1⟩ : ∃ N, OX (rn A) b1 k1 nm1 i1 re1 im1 (.slice aa1 sl1 sc1) w11 N := by
        obtain ⟨N, ⟨_, _, _, ⟨_, _, _, h2, _⟩, _⟩, _⟩ := M11.out
        exact ⟨_, h2⟩
      obtain ⟨⟨x0, x1, x2, x3, x4, x5⟩, la⟩ := X1.six
      have LA := Lib.hid la
      obtain ⟨e0, e1, e2, e3, e4, e5, f0, f1, f2, f3, f4, f5⟩ := S11.out.cells
      clear X1 la HW11
      go_wp2_with fail
      refine (rvariant_good _ _ _ _ _ LA.out (HA.out.below S11.out.bel) (good_rn GA.out) GA.out).mono ?_; rintro e w12 ⟨rfl, hb⟩
      rw [var_ok_ GA.out]
      have M12 := Lib.hid (M11.out.below (frHP.tim ((frHB.tim Fr.nob).tim frOX)) hb)
      have S12 := Lib.hid (S11.out.below hb)
      clear hb e0 e1 e2 e3 e4 e5 f0 f1 f2 f3 f4 f5 x0 x1 x2 x3 x4 x5 M11 S11 LA
      have hl1 := mLen M12.out
      have hl2 := mLen (p := p) (q := q) (h := s1.h) (m := 10000) (a := s1.a) (C := Tim (HB TH kk u.h 10000) (Tim Nob (OX (rn A) b1 k1 nm1 i1 re1 im1 (.slice aa1 sl1 sc1)))) (W := w3) (wr := w12) (M12.out.imp fun _ t => ((Tim.mid ((t.map1 fun _ t => t.swap).map2 fun _ t => Tim.right_ t)).map1 fun _ t => t.swap))
      have hlen : (u.h.length : Int) ≤ (s1.h.length : Int) := by rw [HK.out.z1, HK.out.z2]; exact Int.le_refl _
      have hlb : (s1.h.length : Int) ≤ 1000 := by have := HG.out.2.2.2.2.2.2.2; omega
      have hl0 : 0 ≤ (u.h.length : Int) := by omega
      have hl3 : 0 ≤ (s1.h.length : Int) := by omega
      have hdd : decide ((s1.h.length : Int) + 1 < (u.h.length : Int)) = false := decide_eq_false (by omega)
      obtain ⟨f0', _⟩ : ∃ x : Nat, x = 0 := ⟨0, rfl⟩
      obtain ⟨e0, e1, e2, e3, e4, e5, f0, f1, f2, f3, f4, f5⟩ := S12.out.cells
      obtain ⟨la9, hla9⟩ : ∃ x, x = (s1.h.length : Int) := ⟨_, rfl⟩
      obtain ⟨lb9, hlb9⟩ : ∃ x, x = (u.h.length : Int) := ⟨_, rfl⟩
      rw [← hla9, ← hlb9] at *
      clear hla9 hlb9
      go_wp2_with fail
      refine hl1.mono ?_; rintro e w' ⟨rfl, rfl⟩
      go_wp2_with fail
      refine hl2.mono ?_; rintro e w' ⟨rfl, rfl⟩
      go_wp2_with fail
      clear hl1 hl2 hlen hlb hl0 hl3 hdd
      have hcall := mPut_new ((frHB.tim Fr.nob).tim frOX) M12.out (HB_.out.below S3.out.bel) (by have := SA.out.2; have := HK.out.a1; omega) HP3.out
      refine hcall.mono ?_; rintro e w13 ⟨rfl, m⟩
      have M13 := Lib.hid m
      clear hcall m e0 e1 e2 e3 e4 e5 f0 f1 f2 f3 f4 f5 M12 S12
      go_wp2_with fail
      refine (tnew_any w13).mono ?_; rintro e w14 ⟨rfl, hw14⟩
      have M14 := Lib.hid (un.TRO.mk_ (frHP.tim ((frHB.tim Fr.nob).tim frOX)) M13.out)
      rw [← hw14] at M14
      obtain ⟨tr, htr⟩ : ∃ t, t = w13.heap.size := ⟨_, rfl⟩
      rw [← htr] at M14 ⊢
      have M15 := Lib.hid (show Mine w3 (Tim (HP kk q s3.h 10000 s3.a) (Tim (un.TRO tr []) (Tim (Tim (HB TH p s1.h 10000) Nob) (OX (rn A) b1 k1 nm1 i1 re1 im1 (.slice aa1 sl1 sc1))))) w14 from M14.out.imp fun _ t => Tim.right_ (Tim.rot t))
      clear hw14 htr M13 M14
      have hun := un.mUni ((frHB.tim Fr.nob).tim frOX) M15.out (by decide) d v HG.out.2.2.2.2.1.2.1 HG.out.2.2.2.2.1.2.2
      obtain ⟨U9, hU⟩ : ∃ U9, U9 = un.uniT s3.h [] d v := ⟨_, rfl⟩
      rw [← hU] at hun
      clear hU M15
      go_wp2_with fail
      refine hun.mono ?_; rintro e w15 ⟨rfl, m⟩
      have M16 := Lib.hid (show Mine w3 (Tim (HP p q s1.h 10000 s3.a) (Tim (HB TH kk (un.uL U9 s3.h) 10000) (Tim (Tim Nob (OX (rn A) b1 k1 nm1 i1 re1 im1 (.slice aa1 sl1 sc1))) (un.TRO tr (un.uT U9 []))))) w15 from m.imp fun _ t => (Tim.mid ((t.map1 fun _ t => t.swap).map2 fun _ t => Tim.right_ ((t.swap).map1 fun _ t => Tim.right_ t))).map1 fun _ t => t.swap)
      clear hun m
      have hcall := mGet_new (frHB.tim ((Fr.nob.tim frOX).tim un.frTRO)) HG.out.2.2.2.2.1.1 HG.out.2.2.2.2.2.1.2 HG.out.2.2.2.2.2.1.1 (by have := HG.out.2.2.2.2.2.2.2; omega) M16.out HG.out.2.2.1 HG.out.2.2.2.1
      go_wp2_with fail
      refine hcall.mono ?_; rintro e w17 ⟨k2, nm2, i2, re2, im2, aa2, sl2, sc2, rfl, m⟩
      obtain ⟨w18, hw18⟩ : ∃ w18, w18 = w17.alloc (.cells #[.int .i64 k2, .string nm2, .int .i64 i2, .int .u64 re2, .int .u64 im2, .slice aa2 sl2 sc2] 36) := ⟨_, rfl⟩
      obtain ⟨b2, hb2⟩ : ∃ b2, b2 = w17.heap.size := ⟨_, rfl⟩
      have HW18 := Lib.hid (And.intro hw18 hb2)
      rw [← hw18, ← hb2] at m
      have M18 := Lib.hid m
      clear hcall m hw18 hb2 M16
      go_upto_region 15 with fail
      rw [← HW18.out.1, ← HW18.out.2]
      have S18 := Lib.hid (S3.out.below (Mine.bel M18.out))
      obtain ⟨N2, X2⟩ : ∃ N, OX (rn A) b2 k2 nm2 i2 re2 im2 (.slice aa2 sl2 sc2) w18 N := by
        obtain ⟨N, ⟨_, _, _, ⟨_, _, _, h2, _⟩, _⟩, _⟩ := M18.out
        exact ⟨_, h2⟩
      obtain ⟨⟨x0, x1, x2, x3, x4, x5⟩, la⟩ := X2.six
      have LA := Lib.hid la
      obtain ⟨e0, e1, e2, e3, e4, e5, f0, f1, f2, f3, f4, f5⟩ := S18.out.cells
      clear X2 la HW18
      go_wp2_with fail
      refine (rvariant_good _ _ _ _ _ LA.out (HA.out.below S18.out.bel) (good_rn GA.out) GA.out).mono ?_; rintro e w19 ⟨rfl, hb⟩
      rw [var_ok_ GA.out]
      have S19 := Lib.hid (S18.out.below hb)
      clear hb e0 e1 e2 e3 e4 e5 f0 f1 f2 f3 f4 f5 x0 x1 x2 x3 x4 x5
      go_wp2_with fail
      refine (cpy.awake_any _).mono ?_; rintro e w20 ⟨rfl, hb⟩
      have S20 := Lib.hid (S19.out.below hb)
      clear hb
      go_wp2_with fail
      go_ret
      exact ⟨rfl, S20.out.bel⟩
set_option maxRecDepth 100000 in
theorem lifted (os : Os) (started : os.Started) (H : Type) (enc : TypeId × Value → H) :
    ReturnsInHanded {} Try.checked os 4 .any (Rows.copyApartSpec.pre6 enc Try.prog Try.f4 Rows.copyApartRow.domain false) (Rows.copyApartSpec.post enc Try.prog Try.f4 false true false false) := by
  refine returnsInHanded_of_change_sized (C := Try.checked) own started (by kernel_rfl) Try.func4
    (ChangeSpec.witness6 (enc := enc) (C := Try.checked) false ⟨#[], #[.agg #[.int .i64 0, .string ⟨#[]⟩, .int .i64 0, .int .u64 0, .int .u64 0, .slice none 0 0], .agg #[.int .i64 0, .string ⟨#[]⟩, .int .i64 0, .int .u64 0, .int .u64 0, .slice none 0 0]], []⟩ 8 (by kernel_rfl) (by kernel_rfl) (by kernel_rfl) (by kernel_rfl)) ?_
  intro W base args ds gs before hval0 hW _ hsz0 _
  have hsz : (DataW.weightsEach Try.prog (Try.f4.params.toList ++ Rows.copyApartSpec.plain.varTypes Try.prog) (ds ++ gs)).all (· ≤ reachBytes) = true := hsz0
  clear hsz0
  have hval : ∀ (j : Nat) t v, Try.f4.params[j]? = some t → args[j]? = some v → Value.okWide Try.prog W .any base t v := hval0
  have hW' := hW
  obtain ⟨p, q, hA0, hV, rfl, hfz, hnd⟩ := hW
  have hA : DataW.TrodAll enc Try.prog W 0 (fun _ => true) true Try.f4.params.toList args.toList ds p := hA0
  rw [Try.params4] at hA hval hsz
  obtain ⟨v0, vs0, d0, ds0, p0, q0, hargs, rfl, rfl, h0, r0⟩ := trodAll_cons hA
  obtain ⟨v1, vs1, d1, ds1, p1, q1, rfl, rfl, rfl, h1, r1⟩ := trodAll_cons r0
  obtain ⟨rfl, rfl, rfl⟩ := trodAll_nil r1
  obtain rfl : args = #[v0, v1] := by cases args; simp_all
  obtain ⟨rfl, rfl⟩ := trodVars_none hV
  simp only [List.append_nil] at hW'
  have lt0 : ∀ x ∈ p0, x.block < W.heap.size := fun x hx => by
    have := hW'.lt x (by simp [hx])
    simpa using this
  have k0 := h0
  have lt1 : ∀ x ∈ p1, x.block < W.heap.size := fun x hx => by
    have := hW'.lt x (by simp [hx])
    simpa using this
  have k1 := h1
  obtain ⟨t0, x0⟩ := term_arg (by obtain ⟨cs, hcs, _⟩ := okWide_struct Try.underlying36 (hval 0 36 v0 rfl rfl); exact ⟨cs, hcs⟩) h0
  obtain ⟨t1, x1⟩ := term_arg (by obtain ⟨cs, hcs, _⟩ := okWide_struct Try.underlying36 (hval 1 36 v1 rfl rfl); exact ⟨cs, hcs⟩) h1
  clear hA0 hval0
  refine (walk W v0 t0 x0 v1 t1 x1).mono fun e W' ⟨he, hg⟩ => ?_
  subst he
  have ha := (trodAll_cons_mk (Below.trod laidOut (by kernel_rfl) (of_decide_eq_true (by kernel_rfl)) k0 hg lt0) (trodAll_cons_mk (Below.trod laidOut (by kernel_rfl) (of_decide_eq_true (by kernel_rfl)) k1 hg lt1) trodAll_mk0))
  refine ⟨_, rfl, _, _, _, [], _, [], hW', ?_, ha, rfl, hg.frame _, fun h => by cases h⟩
  exact (trodAll_cons_mk (shut_bool Try.underlying4 _) trodAll_mk0)
/-- THE STATEMENT. -/
theorem proved : Rows.CopyApartSaid :=
  OpenClaim.holds_of_wide 4 Try.f4 rfl rfl rfl rfl rfl rfl rfl ⟨rfl, rfl, rfl, rfl, rfl⟩ rfl rfl rfl rfl rfl (by kernel_rfl) Try.func4 (by kernel_rfl)
    (of_decide_eq_true (by kernel_rfl)) (by unfold Func.isWrapper; first | (rw [if_pos (by decide +kernel)]; kernel_rfl) | (rw [if_neg (by decide +kernel)]; exact ⟨rfl, rfl⟩))
    (fun os started H enc _ => lifted os started H enc)
#print axioms proved
end Go.Proofs.Ythableojkjhicaa.copyApart
