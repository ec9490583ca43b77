/- The law StoreTwo holds: for every input its Go function returns true and leaves its arguments as they were. No condition beyond the row's own. -/
import Derived.Test.YtemlhodconlicaaRows
import Derived.WalkKit
import Derived.ProofKit
import Derived.OpenShut
import Derived.SizedLaws
import Derived.Test.YtemlhodconlicaaSLG
import Derived.Test.YtemlhodconlicaaTOpen
import Derived.Test.YtemlhodconlicaaRMay
namespace Go.Proofs.Ytemlhodconlicaa.storeTwo
open Go.ChangeShapes Go.WideShapes Go.ChangeAt Go.RowKit
open Go.ChangeMaps (open_string)
open Go.Proofs.Ytemlhodconlicaa.hp Go.Proofs.Ytemlhodconlicaa.cel Go.Proofs.Ytemlhodconlicaa.kp Go.Proofs.Ytemlhodconlicaa.ob Go.Proofs.Ytemlhodconlicaa.tm Go.Proofs.Ytemlhodconlicaa.lie Go.Proofs.Ytemlhodconlicaa.s7 Go.Proofs.Ytemlhodconlicaa.ppt Go.Proofs.Ytemlhodconlicaa.top Go.Proofs.Ytemlhodconlicaa.sl Go.Proofs.Ytemlhodconlicaa.lgs Go.Proofs.Ytemlhodconlicaa.rmy Go.Proofs.Ytemlhodconlicaa.cur Go.Proofs.Ytemlhodconlicaa.pm Go.Proofs.Ytemlhodconlicaa.rws Go.Proofs.Ytemlhodconlicaa.rva Go.Proofs.Ytemlhodconlicaa.ren
open Go.Proofs.Ytemlhodconlicaa.rpt (putT HB frHB)
open Go.Proofs.Ytemlhodconlicaa.atm (l0)
open Go.Proofs.Ytemlhodconlicaa.pgt (getT GO frGO OT frOT SC6 nv6)
set_option linter.unusedVariables false
theorem own : ownKnob Try.prog.godebug = none := by kernel_rfl
theorem laidOut : laidOutB Try.prog = true := by kernel_rfl
theorem two_row (w : World) {T1 T2 : Tm} {v0 v1 v2 v3 v4 v5 u0 u1 u2 u3 u4 u5 : Value} (h1 : Lies No w T1 (.agg #[v0, v1, v2, v3, v4, v5])) (h2 : Lies No w T2 (.agg #[u0, u1, u2, u3, u4, u5])) : TRow No (w.alloc (.cells #[v0, v1, v2, v3, v4, v5, u0, u1, u2, u3, u4, u5] 41)) [T1, T2] (some ⟨w.heap.size, 0, none⟩) 0 :=
  s7.row_newX w _ [T1, T2] id fun m hm => by
    match m, hm with
    | 0, _ => exact ⟨v0, v1, v2, v3, v4, v5, rfl, rfl, rfl, rfl, rfl, rfl, h1⟩
    | 1, _ => exact ⟨u0, u1, u2, u3, u4, u5, rfl, rfl, rfl, rfl, rfl, rfl, h2⟩
    | m + 2, hm => exact absurd hm (by simp)
theorem size_two {A B : Tm} (h : sizeL [A, B] ≤ 4000) : size A ≤ 4000 ∧ size B ≤ 4000 ∧ size A + size B ≤ 4000 := by simp [sizeL] at h; omega
/-- both are laid, both are told -/
theorem maths {A B : Tm} (ga : good A = true) (gb : good B = true) (ia : ints A) (ib : ints B) (hs : size A + size B ≤ 4000) :
    ∃ c s1 d s2 g1 g2, putT 1048576 A ⟨[], l0, []⟩ = (c, 0, s1) ∧ putT 1048576 B ⟨s1.h, s1.a, []⟩ = (d, 0, s2) ∧ getT s2.h s2.a [] c = (rn A, g1) ∧ g1.e = 0 ∧ getT s2.h s2.a [] d = (rn B, g2) ∧ g2.e = 0 ∧ W64 c ∧ W64 d ∧ s1.a.length + size B ≤ 4096 ∧ s2.a.length ≤ 4096 ∧ Sml s2.a ∧ s2.h.length ≤ 1048576 := by
  obtain ⟨c, s1, e1, l1, x1, k1, h1, a1, m1⟩ := put_laid ⟨[], l0, []⟩ ga (Vs.none _ _) (by simp; omega) (by simp [l0]; omega)
  have hl0 : l0.length = 2 := rfl
  simp only [List.length_nil] at h1
  simp only [hl0] at a1
  obtain ⟨d, s2, e2, l2, x2, k2, h2, a2, m2⟩ := put_laid ⟨s1.h, s1.a, []⟩ gb (Vs.none _ _) (by show (s1.h.length : Int) + _ ≤ _; omega) (by show s1.a.length + _ ≤ _; omega)
  dsimp only at h2 a2
  have x2' : Ext NN s1 ⟨s2.h, s2.a, s1.v⟩ := ⟨x2.h, x2.a, ⟨[], by simp⟩⟩
  have l1' := l1.more x2'
  have hh : s2.h.length ≤ 1048576 := by omega
  have ha : s2.a.length ≤ 4096 := by omega
  obtain ⟨g1, t1, z1⟩ := getT_rn l1' ga ia hh ha
  obtain ⟨g2, t2, z2⟩ := getT_rn l2 gb ib hh ha
  have hw1 := rep_w l1' hh
  exact ⟨c, s1, d, s2, g1, g2, e1, e2, t1, z1, t2, z2, hw1, rep_w l2 hh, by omega, ha, m2 (m1 (by intro x hx; simp [l0] at hx; rcases hx with rfl | rfl <;> decide)), hh⟩
theorem var_ok_ {A : Tm} (g : good A = true) : sameB (rn (rn A)) (rn A) = true := by rw [rn_rn g, sameB_refl]; exact good_rn g
set_option maxHeartbeats 8000000 in
set_option maxRecDepth 100000 in
theorem walk (w : World) (v0 : Value) (t0 : Tm) (x0 : Lies No w t0 v0) (v1 : Value) (t1 : Tm) (x1 : Lies No w t1 v1) :
    Calls Try.prog 5 #[v0, v1] w fun e w' => e = .returned (.bool true) ∧ Below w.heap.size w w' := by
  have HA := Lib.hid x0
  have HB_ := Lib.hid x1
  obtain ⟨A, hA⟩ : ∃ A, A = t0 := ⟨_, rfl⟩
  obtain ⟨B, hB⟩ : ∃ B, B = t1 := ⟨_, rfl⟩
  rw [← hA] at HA
  rw [← hB] at HB_
  have HI := Lib.hid (And.intro (lies_ints A _ HA.out) (lies_ints B _ HB_.out))
  obtain ⟨k, n, i, re, im, l⟩ := t0
  obtain ⟨k', n', i', re', im', l'⟩ := t1
  rw [Lies] at x0 x1
  obtain ⟨aa, ca, rfl, hf, hr⟩ := x0
  obtain ⟨ab, cb, rfl, hf', hr'⟩ := x1
  clear hf hr hf' hr' hA hB
  obtain ⟨w2, hw2⟩ : ∃ w2, w2 = (w.alloc (.cells #[.int .i64 k, .string n, .int .i64 i, .int .u64 re, .int .u64 im, .slice aa l.length ca] 41)).alloc (.cells #[.int .i64 k', .string n', .int .i64 i', .int .u64 re', .int .u64 im', .slice ab l'.length cb] 41) := ⟨_, rfl⟩
  have S2 := Lib.hid (show SV w #[.int .i64 k, .string n, .int .i64 i, .int .u64 re, .int .u64 im, .slice aa l.length ca] #[.int .i64 k', .string n', .int .i64 i', .int .u64 re', .int .u64 im', .slice ab l'.length cb] w2 by rw [hw2]; exact SV.mk0 w _ _)
  have HW := Lib.hid hw2
  clear hw2
  go_enter Try.func5, Try.ntmps5
  go_upto_region 1 with fail
  rw [← HW.out]
  obtain ⟨e0, e1, e2, e3, e4, e5, f0, f1, f2, f3, f4, f5⟩ := S2.out.cells
  go_wp2_with fail
  refine (Light_any [A, B] (some ⟨w2.heap.size, 0, none⟩) 2 _ (two_row w2 (HA.out.below S2.out.bel) (HB_.out.below S2.out.bel)) (by simp)).mono ?_; rintro e w3 ⟨bl, rfl, hsz, hb⟩
  have S3 := Lib.hid ((S2.out.below (ba _ _)).below hb)
  clear hb e0 e1 e2 e3 e4 e5 f0 f1 f2 f3 f4 f5 S2
  obtain ⟨e0, e1, e2, e3, e4, e5, f0, f1, f2, f3, f4, f5⟩ := S3.out.cells
  cases bl with
  | false =>
    clear hsz
    go_wp2_with fail
    refine (s7.awake_any _).mono ?_; rintro e w4 ⟨rfl, hb⟩
    have S4 := Lib.hid (S3.out.below hb)
    clear hb
    go_wp2_with fail
    go_ret
    exact ⟨rfl, S4.out.bel⟩
  | true =>
    have HS := Lib.hid (size_two (hsz rfl))
    clear hsz
    have hma := rMay_any A _ w3 (HA.out.below S3.out.bel)
    by_cases ga : may A = 0
    · rw [ga] at hma
      have GA := Lib.hid ((may_iff A).1 ga)
      clear ga
      go_wp2_with fail
      refine hma.mono ?_; rintro e w4 ⟨rfl, hb⟩
      have S4 := Lib.hid (S3.out.below hb)
      clear hb hma e0 e1 e2 e3 e4 e5 f0 f1 f2 f3 f4 f5 S3
      obtain ⟨e0, e1, e2, e3, e4, e5, f0, f1, f2, f3, f4, f5⟩ := S4.out.cells
      have hmb := rMay_any B _ w4 (HB_.out.below S4.out.bel)
      by_cases gb : may B = 0
      · rw [gb] at hmb
        have GB := Lib.hid ((may_iff B).1 gb)
        obtain ⟨c, s1, d, s2, g1, g2, p1, p2, q1, z1, q2, z2, wc, wd, b1, b2, sm, b3⟩ := maths GA.out GB.out HI.out.1 HI.out.2 HS.out.2.2
        have HP1 := Lib.hid p1
        have HP2 := Lib.hid p2
        have HQ := Lib.hid (And.intro q1 (And.intro z1 (And.intro q2 (And.intro z2 (And.intro wc (And.intro wd (And.intro b1 (And.intro b2 (And.intro sm b3)))))))))
        clear gb p1 p2 q1 z1 q2 z2 wc wd b1 b2 sm b3
        go_wp2_with fail
        refine hmb.mono ?_; rintro e w5 ⟨rfl, hb⟩
        have S5 := Lib.hid (S4.out.below hb)
        clear hb hmb e0 e1 e2 e3 e4 e5 f0 f1 f2 f3 f4 f5 S4
        go_wp2_with fail
        refine (new_any 1048576 w5).mono ?_; rintro e w6 ⟨rfl, made⟩
        rw [show max 0 (min (1048576 : Int) 1048576) = 1048576 by decide] at made
        have M6 := Lib.hid made
        clear made
        go_wp2_with fail
        refine (atm.new_any w6).mono ?_; rintro e w7 ⟨rfl, made⟩
        have M7 := Lib.hid (Mine.nob (HP.mk_ M6.out made))
        clear made M6
        obtain ⟨p, hp⟩ : ∃ p, p = w5.heap.size := ⟨_, rfl⟩
        obtain ⟨q, hq⟩ : ∃ q, q = w6.heap.size := ⟨_, rfl⟩
        rw [← hp, ← hq] at M7 ⊢
        clear hp hq
        have S7 := S5.out.below (Mine.bel M7.out)
        obtain ⟨e0, e1, e2, e3, e4, e5, f0, f1, f2, f3, f4, f5⟩ := S7.cells
        have hcall := mPut_new Fr.nob M7.out (HA.out.below S5.out.bel) (by have := HS.out; simp [l0]; omega) HP1.out
        clear S7
        go_wp2_with fail
        refine hcall.mono ?_; rintro e w8 ⟨rfl, m8⟩
        have M8 := Lib.hid m8
        clear hcall m8 e0 e1 e2 e3 e4 e5 f0 f1 f2 f3 f4 f5 M7
        have S8 := S5.out.below (Mine.bel M8.out)
        obtain ⟨e0, e1, e2, e3, e4, e5, f0, f1, f2, f3, f4, f5⟩ := S8.cells
        have hcall := mPut_new Fr.nob M8.out (HB_.out.below S5.out.bel) HQ.out.2.2.2.2.2.2.1 HP2.out
        clear S8
        go_wp2_with fail
        refine hcall.mono ?_; rintro e w9 ⟨rfl, m9⟩
        have M9 := Lib.hid m9
        clear hcall m9 e0 e1 e2 e3 e4 e5 f0 f1 f2 f3 f4 f5 M8
        obtain ⟨q1, z1, q2, z2, wc, wd, b1, b2, sm, b3⟩ := HQ.out
        have hcall := mGet_new Fr.nob wc b2 sm b3 M9.out q1 z1
        clear q1 z1 q2 z2 wc wd b1 b2 sm b3
        go_wp2_with fail
        refine hcall.mono ?_; rintro e w10 ⟨k1, nm1, i1, re1, im1, aa1, sl1, sc1, rfl, m⟩
        obtain ⟨w11, hw11⟩ : ∃ w11, w11 = w10.alloc (.cells #[.int .i64 k1, .string nm1, .int .i64 i1, .int .u64 re1, .int .u64 im1, .slice aa1 sl1 sc1] 41) := ⟨_, rfl⟩
        obtain ⟨b1, hb1⟩ : ∃ b1, b1 = w10.heap.size := ⟨_, rfl⟩
        have HW11 := Lib.hid (And.intro hw11 hb1)
        rw [← hw11, ← hb1] at m
        have M11 := Lib.hid m
        clear hcall m hw11 hb1 M9
        go_upto_region 9 with fail
        rw [← HW11.out.1, ← HW11.out.2]
        obtain ⟨q1, z1, q2, z2, wc, wd, b1', b2, sm, b3⟩ := HQ.out
        have hcall := mGet_new (Fr.nob.tim frOX) wd b2 sm b3 M11.out q2 z2
        clear q1 z1 q2 z2 wc wd b1' b2 sm b3
        go_wp2_with fail
        refine hcall.mono ?_; rintro e w12 ⟨k2, nm2, i2, re2, im2, aa2, sl2, sc2, rfl, m⟩
        obtain ⟨w13, hw13⟩ : ∃ w13, w13 = w12.alloc (.cells #[.int .i64 k2, .string nm2, .int .i64 i2, .int .u64 re2, .int .u64 im2, .slice aa2 sl2 sc2] 41) := ⟨_, rfl⟩
        obtain ⟨b2, hb2⟩ : ∃ b2, b2 = w12.heap.size := ⟨_, rfl⟩
        have HW13 := Lib.hid (And.intro hw13 hb2)
        rw [← hw13, ← hb2] at m
        have M13 := Lib.hid m
        clear hcall m hw13 hb2 M11 HW11
        go_upto_region 10 with fail
        rw [← HW13.out.1, ← HW13.out.2]
        have S13 := Lib.hid (S5.out.below (Mine.bel M13.out))
        have hX : ∃ N N', OX (rn A) b1 k1 nm1 i1 re1 im1 (.slice aa1 sl1 sc1) w13 N ∧ OX (rn B) b2 k2 nm2 i2 re2 im2 (.slice aa2 sl2 sc2) w13 N' := by
          obtain ⟨N, ⟨_, _, _, ⟨_, _, ⟨_, _, _, h1, _⟩, h2, _⟩, _⟩, _⟩ := M13.out
          exact ⟨_, _, h1, h2⟩
        obtain ⟨N1, N2, X1, X2⟩ := hX
        obtain ⟨⟨x0, x1, x2, x3, x4, x5⟩, la⟩ := X1.six
        have X2' := Lib.hid X2
        have LA := Lib.hid la
        obtain ⟨e0, e1, e2, e3, e4, e5, f0, f1, f2, f3, f4, f5⟩ := S13.out.cells
        clear X1 X2 la
        go_wp2_with fail
        refine (rvariant_good _ _ _ _ _ LA.out (HA.out.below S13.out.bel) (good_rn GA.out) GA.out).mono ?_; rintro e w14 ⟨rfl, hb⟩
        rw [var_ok_ GA.out]
        have S14 := Lib.hid (S13.out.below hb)
        have X14 := frOX.below X2'.out hb
        clear hb e0 e1 e2 e3 e4 e5 f0 f1 f2 f3 f4 f5 x0 x1 x2 x3 x4 x5
        obtain ⟨⟨x0, x1, x2, x3, x4, x5⟩, la⟩ := X14.six
        have LB := Lib.hid la
        obtain ⟨e0, e1, e2, e3, e4, e5, f0, f1, f2, f3, f4, f5⟩ := S14.out.cells
        clear X14 la
        go_wp2_with fail
        refine (rvariant_good _ _ _ _ _ LB.out (HB_.out.below S14.out.bel) (good_rn GB.out) GB.out).mono ?_; rintro e w15 ⟨rfl, hb⟩
        rw [var_ok_ GB.out]
        have S15 := Lib.hid (S14.out.below hb)
        clear hb
        go_wp2_with fail
        refine (s7.awake_any _).mono ?_; rintro e w16 ⟨rfl, hb⟩
        have S16 := Lib.hid (S15.out.below hb)
        clear hb
        go_wp2_with fail
        go_ret
        exact ⟨rfl, S16.out.bel⟩
      · have hne : (may B != 0) = true := by simpa using gb
        clear gb
        go_wp2_with fail
        refine hmb.mono ?_; rintro e w5 ⟨rfl, hb⟩
        have S5 := Lib.hid (S4.out.below hb)
        clear hb hmb e0 e1 e2 e3 e4 e5 f0 f1 f2 f3 f4 f5
        go_wp2_with fail
        refine (s7.awake_any _).mono ?_; rintro e w6 ⟨rfl, hb⟩
        have S6 := Lib.hid (S5.out.below hb)
        clear hb
        go_wp2_with fail
        go_ret
        exact ⟨rfl, S6.out.bel⟩
    · have hne : (may A != 0) = true := by simpa using ga
      clear ga
      go_wp2_with fail
      refine hma.mono ?_; rintro e w4 ⟨rfl, hb⟩
      have S4 := Lib.hid (S3.out.below hb)
      clear hb hma e0 e1 e2 e3 e4 e5 f0 f1 f2 f3 f4 f5
      go_wp2_with fail
      refine (s7.awake_any _).mono ?_; rintro e w6 ⟨rfl, hb⟩
      have S6 := Lib.hid (S4.out.below hb)
      clear hb
      go_wp2_with fail
      go_ret
      exact ⟨rfl, S6.out.bel⟩
set_option maxRecDepth 100000 in
theorem lifted (os : Os) (started : os.Started) (H : Type) (enc : TypeId × Value → H) :
    ReturnsInHanded {} Try.checked os 5 .any (Rows.storeTwoSpec.pre6 enc Try.prog Try.f5 Rows.storeTwoRow.domain false) (Rows.storeTwoSpec.post enc Try.prog Try.f5 false true false false) := by
  refine returnsInHanded_of_change_sized (C := Try.checked) own started (by kernel_rfl) Try.func5
    (ChangeSpec.witness6 (enc := enc) (C := Try.checked) false ⟨#[], #[.agg #[.int .i64 0, .string ⟨#[]⟩, .int .i64 0, .int .u64 0, .int .u64 0, .slice none 0 0], .agg #[.int .i64 0, .string ⟨#[]⟩, .int .i64 0, .int .u64 0, .int .u64 0, .slice none 0 0]], []⟩ 8 (by kernel_rfl) (by kernel_rfl) (by kernel_rfl) (by kernel_rfl)) ?_
  intro W base args ds gs before hval0 hW _ hsz0 _
  have hsz : (DataW.weightsEach Try.prog (Try.f5.params.toList ++ Rows.storeTwoSpec.plain.varTypes Try.prog) (ds ++ gs)).all (· ≤ reachBytes) = true := hsz0
  clear hsz0
  have hval : ∀ (j : Nat) t v, Try.f5.params[j]? = some t → args[j]? = some v → Value.okWide Try.prog W .any base t v := hval0
  have hW' := hW
  obtain ⟨p, q, hA0, hV, rfl, hfz, hnd⟩ := hW
  have hA : DataW.TrodAll enc Try.prog W 0 (fun _ => true) true Try.f5.params.toList args.toList ds p := hA0
  rw [Try.params5] at hA hval hsz
  obtain ⟨v0, vs0, d0, ds0, p0, q0, hargs, rfl, rfl, h0, r0⟩ := trodAll_cons hA
  obtain ⟨v1, vs1, d1, ds1, p1, q1, rfl, rfl, rfl, h1, r1⟩ := trodAll_cons r0
  obtain ⟨rfl, rfl, rfl⟩ := trodAll_nil r1
  obtain rfl : args = #[v0, v1] := by cases args; simp_all
  obtain ⟨rfl, rfl⟩ := trodVars_none hV
  simp only [List.append_nil] at hW'
  have lt0 : ∀ x ∈ p0, x.block < W.heap.size := fun x hx => by
    have := hW'.lt x (by simp [hx])
    simpa using this
  have k0 := h0
  have lt1 : ∀ x ∈ p1, x.block < W.heap.size := fun x hx => by
    have := hW'.lt x (by simp [hx])
    simpa using this
  have k1 := h1
  obtain ⟨t0, x0⟩ := term_arg (by obtain ⟨cs, hcs, _⟩ := okWide_struct Try.underlying41 (hval 0 41 v0 rfl rfl); exact ⟨cs, hcs⟩) h0
  obtain ⟨t1, x1⟩ := term_arg (by obtain ⟨cs, hcs, _⟩ := okWide_struct Try.underlying41 (hval 1 41 v1 rfl rfl); exact ⟨cs, hcs⟩) h1
  clear hA0 hval0
  refine (walk W v0 t0 x0 v1 t1 x1).mono fun e W' ⟨he, hg⟩ => ?_
  subst he
  have ha := (trodAll_cons_mk (Below.trod laidOut (by kernel_rfl) (of_decide_eq_true (by kernel_rfl)) k0 hg lt0) (trodAll_cons_mk (Below.trod laidOut (by kernel_rfl) (of_decide_eq_true (by kernel_rfl)) k1 hg lt1) trodAll_mk0))
  refine ⟨_, rfl, _, _, _, [], _, [], hW', ?_, ha, rfl, hg.frame _, fun h => by cases h⟩
  exact (trodAll_cons_mk (shut_bool Try.underlying4 _) trodAll_mk0)
/-- THE STATEMENT. -/
theorem proved : Rows.StoreTwoSaid :=
  OpenClaim.holds_of_wide 5 Try.f5 rfl rfl rfl rfl rfl rfl rfl ⟨rfl, rfl, rfl, rfl, rfl⟩ rfl rfl rfl rfl rfl (by kernel_rfl) Try.func5 (by kernel_rfl)
    (of_decide_eq_true (by kernel_rfl)) (by unfold Func.isWrapper; first | (rw [if_pos (by decide +kernel)]; kernel_rfl) | (rw [if_neg (by decide +kernel)]; exact ⟨rfl, rfl⟩))
    (fun os started H enc _ => lifted os started H enc)
#print axioms proved
end Go.Proofs.Ytemlhodconlicaa.storeTwo
