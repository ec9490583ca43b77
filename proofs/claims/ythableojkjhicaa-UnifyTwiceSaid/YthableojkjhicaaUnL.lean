/- Law 8's laid: two terms on one heap, a trail. -/
import Derived.Test.YthableojkjhicaaUnJ
import Derived.Test.YthableojkjhicaaUnK
import Derived.Test.YthableojkjhicaaRRn
namespace Go.Proofs.Ythableojkjhicaa.un
open Go.ChangeShapes Go.WideShapes Go.ChangeAt Go.RowKit Go.Maps
open Go.Proofs.Ythableojkjhicaa.kp Go.Proofs.Ythableojkjhicaa.cel Go.Proofs.Ythableojkjhicaa.hp Go.Proofs.Ythableojkjhicaa.ob Go.Proofs.Ythableojkjhicaa.tm Go.Proofs.Ythableojkjhicaa.lie Go.Proofs.Ythableojkjhicaa.sl Go.Proofs.Ythableojkjhicaa.pm Go.Proofs.Ythableojkjhicaa.ppt Go.Proofs.Ythableojkjhicaa.cur Go.Proofs.Ythableojkjhicaa.awk Go.Proofs.Ythableojkjhicaa.rva
open Go.Proofs.Ythableojkjhicaa.rpt (putT HB frHB frV)
open Go.Proofs.Ythableojkjhicaa.atm (l0)
open Go.Proofs.Ythableojkjhicaa.pgt (getT GO frGO OT frOT SC6 nv6)
set_option linter.unusedVariables false
/-- Put of a good term where there is room: m cells -/
theorem put_laid_m {T : Tm} (m : Int) (s : S) (hg : good T = true) (hv : Vs NN s) (hm : (s.h.length : Int) + 3 * tm.size T ≤ m) (hm2 : m ≤ 1048576) (ha : s.a.length + tm.size T ≤ 4096) :
    ∃ c s', putT m T s = (c, 0, s') ∧ Laid s' T c ∧ Ext NN s s' ∧ keys s'.v = (occ T).foldl addv (keys s.v) ∧ s'.h.length ≤ s.h.length + 3 * tm.size T ∧ s'.a.length ≤ s.a.length + tm.size T ∧ (Sml s.a → Sml s'.a) := by
  have hn := nd_size T
  have h0 : may T = 0 := (may_iff T).2 hg
  obtain ⟨c, s', he, ok⟩ := put_ok m T (-1) s NN (good_sound hg) hv (fun _ h => h.elim) (Or.inl (by omega)) (by omega) ha
  have hT : putT m T s = (c, 0, s') := by unfold rpt.putT; rw [if_pos h0]; exact he
  obtain ⟨b, hb, hbl⟩ := ok.a
  refine ⟨c, s', hT, ?_, Ext.of_pre ok.pre ⟨b, hb⟩ ok.v, ok.keys, ?_, by rw [hb, List.length_append]; omega, fun h => ?_⟩
  · rcases ok.rep with ⟨p, _, hp, _⟩ | ⟨h1, h2⟩
    · omega
    · exact ⟨h1, h2⟩
  · rw [ok.len]
    split
    · split
      · have : 1 ≤ tm.size T := by obtain ⟨k, n, i, re, im, l⟩ := T; rw [tm.size]; omega
        omega
      · omega
    · omega
  · have := putT_sml m T s h
    rwa [hT] at this
/-- both are laid -/
structure Both (A B : Tm) (s : S) (x y : Int) : Prop where
  a : Laid s A x
  b : Laid s B y
  sml : Sml s.a
  al : s.a.length ≤ 4096
  hl : s.h.length ≤ 20000
  vl : s.v.length ≤ tm.size A + tm.size B
  ext : True
theorem Both.wx {A B : Tm} {s : S} {x y : Int} (h : Both A B s x y) : W64 x := rep_w h.a (by have := h.hl; omega)
theorem Both.wy {A B : Tm} {s : S} {x y : Int} (h : Both A B s x y) : W64 y := rep_w h.b (by have := h.hl; omega)
theorem addv_fold_len (l : List Int) : ∀ acc : List Int, (l.foldl addv acc).length ≤ acc.length + l.length := by
  induction l with
  | nil => intro acc; simp
  | cons x l ih => intro acc; have := ih (addv acc x); have := addv_len acc x; simp only [List.foldl_cons, List.length_cons]; omega
theorem maths2 {A B : Tm} (ga : good A = true) (gb : good B = true) (hs : tm.size A + tm.size B ≤ 4000) :
    ∃ x s1 y s2, putT 20000 A ⟨[], l0, []⟩ = (x, 0, s1) ∧ putT 20000 B s1 = (y, 0, s2) ∧ Both A B s2 x y ∧ s1.a.length + tm.size B ≤ 4096 ∧ s1.v.length + tm.size B ≤ 900000 := by
  obtain ⟨c, s1, e1, l1, x1, k1, h1, a1, m1⟩ := put_laid_m 20000 ⟨[], l0, []⟩ ga (Vs.none _ _) (by simp; omega) (by omega) (by simp [l0]; omega)
  have hl0 : l0.length = 2 := rfl
  simp only [List.length_nil] at h1
  simp only [hl0] at a1
  obtain ⟨d, s2, e2, l2, x2, k2, h2, a2, m2⟩ := put_laid_m 20000 s1 gb l1.vs (by omega) (by omega) (by omega)
  have v1 : s1.v.length ≤ tm.size A := by
    have := congrArg List.length k1
    have h3 := addv_fold_len (occ A) []
    have h4 := occ_len A
    simp only [keys, List.map_nil, List.length_map, List.length_nil] at this h3
    omega
  have v2 : s2.v.length ≤ tm.size A + tm.size B := by
    have := congrArg List.length k2
    have h3 := addv_fold_len (occ B) (keys s1.v)
    have h4 := occ_len B
    simp only [keys, List.length_map] at this h3
    omega
  exact ⟨c, s1, d, s2, e1, e2, ⟨l1.ext x2 l2.vs, l2, m2 (m1 (by intro x hx; simp [l0] at hx; rcases hx with rfl | rfl <;> decide)), by omega, by omega, v2, trivial⟩, by omega, by omega⟩
set_option maxRecDepth 100000 in
set_option maxHeartbeats 1000000 in
theorem laid_full (A B : Tm) (va vb : Value) (w : World) (ha : Lies No w A va) (hb : Lies No w B vb) (ga : good A = true) (gb : good B = true) (hs : tm.size A + tm.size B ≤ 4000) :
    Calls Try.prog 30 #[va, vb] w fun e w' => ∃ p q t x y s, e = .returned (.tuple #[.pointer (some ⟨p, 0, none⟩), .pointer (some ⟨q, 0, none⟩), .pointer (some ⟨t, 0, none⟩), .int .u64 x, .int .u64 y]) ∧
      Mine w (Tim (HP p q s.h 20000 s.a) (Tim (TRO t []) Nob)) w' ∧ Both A B s x y ∧ ∃ s1, putT 20000 A ⟨[], l0, []⟩ = (x, 0, s1) ∧ putT 20000 B s1 = (y, 0, s) := by
  obtain ⟨x, s1, y, s2, p1, p2, bo, hs1, hs2⟩ := maths2 ga gb hs
  have HM := Lib.hid (And.intro p1 (And.intro p2 (And.intro bo (And.intro hs1 hs2))))
  have HA := Lib.hid ha
  have HB_ := Lib.hid hb
  have HZ := Lib.hid hs
  obtain ⟨T1, hT1⟩ : ∃ T, T = A := ⟨_, rfl⟩
  obtain ⟨T2, hT2⟩ : ∃ T, T = B := ⟨_, rfl⟩
  rw [← hT1] at HA HM HZ
  rw [← hT2] at HB_ HM HZ
  obtain ⟨k, n, i, re, im, l⟩ := A
  obtain ⟨k', n', i', re', im', l'⟩ := B
  rw [Lies] at ha hb
  obtain ⟨aa, ca, rfl, hf, hr⟩ := ha
  obtain ⟨ab, cb, rfl, hf', hr'⟩ := hb
  clear hf hr hf' hr' p1 p2 bo hs1 hs2 ga gb hs
  rw [← hT1, ← hT2]
  clear hT1 hT2
  obtain ⟨w2, hw2⟩ : ∃ w2, w2 = (w.alloc (.cells #[.int .i64 k, .string n, .int .i64 i, .int .u64 re, .int .u64 im, .slice aa l.length ca] 36)).alloc (.cells #[.int .i64 k', .string n', .int .i64 i', .int .u64 re', .int .u64 im', .slice ab l'.length cb] 36) := ⟨_, rfl⟩
  have S2 := Lib.hid (show SV w #[.int .i64 k, .string n, .int .i64 i, .int .u64 re, .int .u64 im, .slice aa l.length ca] #[.int .i64 k', .string n', .int .i64 i', .int .u64 re', .int .u64 im', .slice ab l'.length cb] w2 by rw [hw2]; exact SV.mk0 w _ _)
  have HW := Lib.hid hw2
  clear hw2
  go_enter Try.func30, Try.ntmps30
  go_upto_region 1 with fail
  rw [← HW.out]
  go_wp2_with fail
  refine (new_any 20000 w2).mono ?_; rintro e w3 ⟨rfl, made⟩
  rw [show max 0 (min (20000 : Int) 1048576) = 20000 by decide] at made
  have M3 := Lib.hid made
  clear made
  go_wp2_with fail
  refine (atm.new_any w3).mono ?_; rintro e w4 ⟨rfl, made⟩
  have M4 := Lib.hid (Mine.nob (HP.mk_ M3.out made))
  clear made M3
  obtain ⟨p, hp⟩ : ∃ p, p = w2.heap.size := ⟨_, rfl⟩
  obtain ⟨q, hq⟩ : ∃ q, q = w3.heap.size := ⟨_, rfl⟩
  rw [← hp, ← hq] at M4 ⊢
  clear hp hq
  have hmm := @run_makeMap Try.prog
  go_upto_region 3 with fail
  clear hmm
  have M5 := Lib.hid (HP.map_ Fr.nob M4.out)
  obtain ⟨mb, hmb⟩ : ∃ mb, mb = w4.heap.size := ⟨_, rfl⟩
  obtain ⟨w5, hw5⟩ : ∃ w5, w5 = w4.alloc (.map #[] 0) := ⟨_, rfl⟩
  rw [← hmb, ← hw5] at M5 ⊢
  clear hmb hw5 M4
  have S5 := S2.out.below (Mine.bel M5.out)
  obtain ⟨e0, e1, e2, e3, e4, e5, f0, f1, f2, f3, f4, f5⟩ := S5.cells
  have hcall := mPut_map Fr.nob M5.out (HA.out.below S2.out.bel) (by have := HZ.out; simp [l0]; omega) (by have := HZ.out; simp; omega) HM.out.1
  clear S5
  go_wp2_with fail
  refine hcall.mono ?_; rintro e w6 ⟨rfl, m6⟩
  have M6 := Lib.hid m6
  clear hcall m6 e0 e1 e2 e3 e4 e5 f0 f1 f2 f3 f4 f5 M5
  have S6 := S2.out.below (Mine.bel M6.out)
  obtain ⟨e0, e1, e2, e3, e4, e5, f0, f1, f2, f3, f4, f5⟩ := S6.cells
  have hcall := mPut_map Fr.nob M6.out (HB_.out.below S2.out.bel) HM.out.2.2.2.1 HM.out.2.2.2.2 HM.out.2.1
  clear S6
  go_wp2_with fail
  refine hcall.mono ?_; rintro e w7 ⟨rfl, m7⟩
  have M7 := Lib.hid (PB.hp m7)
  clear hcall m7 e0 e1 e2 e3 e4 e5 f0 f1 f2 f3 f4 f5 M6
  go_wp2_with fail
  refine (tnew_any w7).mono ?_; rintro e w8 ⟨rfl, hw8⟩
  have M8 := Lib.hid (TRO.mk_ (frHP.tim Fr.nob) M7.out)
  rw [← hw8] at M8
  obtain ⟨t, ht⟩ : ∃ t, t = w7.heap.size := ⟨_, rfl⟩
  rw [← ht] at M8 ⊢
  have M9 : Hid (Mine w2 (Tim (HP p q s2.h 20000 s2.a) (Tim (TRO t []) Nob)) w8) := Lib.hid (M8.out.imp fun N t => Tim.right_ (Tim.rot t))
  clear ht hw8 M7 M8
  go_wp2_with fail
  refine bodyPost_ret (v := .tuple #[.pointer (some ⟨p, 0, none⟩), .pointer (some ⟨q, 0, none⟩), .pointer (some ⟨t, 0, none⟩), .int .u64 x, .int .u64 y]) (by simp [results, Try.results30, go_sem]) rfl ?_
  refine ⟨p, q, t, x, y, s2, rfl, ?_, HM.out.2.2.1, s1, HM.out.1, HM.out.2.1⟩
  obtain ⟨N, hN, hb9, hl9⟩ := M9.out
  have hb2 := S2.out.bel
  exact ⟨N, hN, hb2.trans (hb9.mono hb2.size), fun k hk => Nat.le_trans hb2.size (hl9 k hk)⟩
theorem laid_any (A B : Tm) (va vb : Value) (w : World) (ha : Lies No w A va) (hb : Lies No w B vb) (ga : good A = true) (gb : good B = true) (hs : tm.size A + tm.size B ≤ 4000) :
    Calls Try.prog 30 #[va, vb] w fun e w' => ∃ p q t x y s, e = .returned (.tuple #[.pointer (some ⟨p, 0, none⟩), .pointer (some ⟨q, 0, none⟩), .pointer (some ⟨t, 0, none⟩), .int .u64 x, .int .u64 y]) ∧
      Mine w (Tim (HP p q s.h 20000 s.a) (Tim (TRO t []) Nob)) w' ∧ Both A B s x y := by
  refine (laid_full A B va vb w ha hb ga gb hs).mono ?_
  rintro e w' ⟨p, q, t, x, y, s, h1, h2, h3, _⟩
  exact ⟨p, q, t, x, y, s, h1, h2, h3⟩
end Go.Proofs.Ythableojkjhicaa.un
