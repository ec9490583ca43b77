/- The law UnifyTwice holds: for every input its Go function returns true and leaves its arguments as they were. No condition beyond the row's own. -/
import Derived.Test.YthableojkjhicaaRows
import Derived.WalkKit
import Derived.ProofKit
import Derived.OpenShut
import Derived.SizedLaws
import Derived.Test.YthableojkjhicaaUnY
import Derived.Test.YthableojkjhicaaRNo
import Derived.Test.YthableojkjhicaaTOpen
import Derived.Test.YthableojkjhicaaRMay
import Derived.Deep.DeepCutAuto
import Derived.Deep.CutBlock
namespace Go.Proofs.Ythableojkjhicaa.unifyTwice
open Go.ChangeShapes Go.WideShapes Go.ChangeAt Go.RowKit
open Go.ChangeMaps (open_string)
open Go.Proofs.Ythableojkjhicaa.hp Go.Proofs.Ythableojkjhicaa.cel Go.Proofs.Ythableojkjhicaa.kp Go.Proofs.Ythableojkjhicaa.ob Go.Proofs.Ythableojkjhicaa.tm Go.Proofs.Ythableojkjhicaa.lie Go.Proofs.Ythableojkjhicaa.ppt Go.Proofs.Ythableojkjhicaa.top Go.Proofs.Ythableojkjhicaa.sl Go.Proofs.Ythableojkjhicaa.rmy Go.Proofs.Ythableojkjhicaa.cur Go.Proofs.Ythableojkjhicaa.pm Go.Proofs.Ythableojkjhicaa.rva Go.Proofs.Ythableojkjhicaa.un Go.Proofs.Ythableojkjhicaa.unw
set_option linter.unusedVariables false
theorem own : ownKnob Try.prog.godebug = none := by kernel_rfl
theorem laidOut : laidOutB Try.prog = true := by kernel_rfl
theorem mLen {W wr : World} {p q t : Nat} {h : List Int} {m : Int} {a : List ByteArray} {L : List Wr} {C : Ob} (hm : Mine W (Tim (HP p q h m a) (Tim (TRO t L) C)) wr) : Calls Try.prog 33 #[.pointer (some ⟨t, 0, none⟩)] wr fun e w' => e = .returned (.int .i64 L.length) ∧ wr = w' := by
  obtain ⟨N, ⟨_, _, _, ⟨_, _, ht, _⟩, _⟩, _⟩ := hm
  have := tlen_any ht.1
  simpa [hp.pl] using this
set_option maxHeartbeats 16000000 in
set_option maxRecDepth 100000 in
theorem walk (w : World) (v0 : Value) (t0 : Tm) (x0 : Lies No w t0 v0) (v1 : Value) (t1 : Tm) (x1 : Lies No w t1 v1) :
    Calls Try.prog 9 #[v0, v1] w fun e w' => e = .returned (.bool true) ∧ Below w.heap.size w w' := by
  have HA := Lib.hid x0
  have HB_ := Lib.hid x1
  obtain ⟨A, hA⟩ : ∃ A, A = t0 := ⟨_, rfl⟩
  obtain ⟨B, hB⟩ : ∃ B, B = t1 := ⟨_, rfl⟩
  rw [← hA] at HA
  rw [← hB] at HB_
  obtain ⟨k, n, i, re, im, l⟩ := t0
  obtain ⟨k', n', i', re', im', l'⟩ := t1
  rw [Lies] at x0 x1
  obtain ⟨aa, ca, rfl, hf, hr⟩ := x0
  obtain ⟨ab, cb, rfl, hf', hr'⟩ := x1
  have HE := Lib.hid (And.intro hA hB)
  have HI := Lib.hid (And.intro (lies_ints A _ HA.out) (lies_ints B _ HB_.out))
  clear hf hr hf' hr' hA hB
  obtain ⟨w2, hw2⟩ : ∃ w2, w2 = (w.alloc (.cells #[.int .i64 k, .string n, .int .i64 i, .int .u64 re, .int .u64 im, .slice aa l.length ca] 36)).alloc (.cells #[.int .i64 k', .string n', .int .i64 i', .int .u64 re', .int .u64 im', .slice ab l'.length cb] 36) := ⟨_, rfl⟩
  have S2 := Lib.hid (show SV w #[.int .i64 k, .string n, .int .i64 i, .int .u64 re, .int .u64 im, .slice aa l.length ca] #[.int .i64 k', .string n', .int .i64 i', .int .u64 re', .int .u64 im', .slice ab l'.length cb] w2 by rw [hw2]; exact SV.mk0 w _ _)
  have HW := Lib.hid hw2
  clear hw2
  go_enter Try.func9, Try.ntmps9
  go_upto_region 1 with fail
  rw [← HW.out]
  obtain ⟨e0, e1, e2, e3, e4, e5, f0, f1, f2, f3, f4, f5⟩ := S2.out.cells
  have hma := rMay_any A _ w2 (HA.out.below S2.out.bel)
  by_cases ga : may A = 0
  · rw [ga] at hma
    have GA := Lib.hid ((may_iff A).1 ga)
    clear ga
    go_wp2_with fail
    refine hma.mono ?_; rintro e w4 ⟨rfl, hb⟩
    have S4 := Lib.hid (S2.out.below hb)
    clear hb hma e0 e1 e2 e3 e4 e5 f0 f1 f2 f3 f4 f5 S2
    obtain ⟨e0, e1, e2, e3, e4, e5, f0, f1, f2, f3, f4, f5⟩ := S4.out.cells
    have hmb := rMay_any B _ w4 (HB_.out.below S4.out.bel)
    by_cases gb : may B = 0
    · rw [gb] at hmb
      have GB := Lib.hid ((may_iff B).1 gb)
      clear gb
      go_wp2_with fail
      refine hmb.mono ?_; rintro e w5 ⟨rfl, hb⟩
      have S5 := Lib.hid (S4.out.below hb)
      clear hb hmb e0 e1 e2 e3 e4 e5 f0 f1 f2 f3 f4 f5 S4
      obtain ⟨e0, e1, e2, e3, e4, e5, f0, f1, f2, f3, f4, f5⟩ := S5.out.cells
      have hna := rno.rnodes_good A _ w5 (HA.out.below S5.out.bel) GA.out
      obtain ⟨sa, hsa⟩ : ∃ sa, sa = tm.size A := ⟨_, rfl⟩
      obtain ⟨sb, hsb⟩ : ∃ sb, sb = tm.size B := ⟨_, rfl⟩
      have HSZ := Lib.hid (And.intro hsa hsb)
      rw [← hsa] at hna
      clear hsa
      by_cases na : (60 : Int) < (sa : Int)
      · have d1 : decide ((60 : Int) < (sa : Int)) = true := decide_eq_true na
        clear na
        go_wp2_with fail
        refine hna.mono ?_; rintro e w6 ⟨rfl, hb⟩
        have S6 := Lib.hid (S5.out.below hb)
        clear hb hna e0 e1 e2 e3 e4 e5 f0 f1 f2 f3 f4 f5 S5
        go_wp2_with fail
        refine (un.awake_any _).mono ?_; rintro e w7 ⟨rfl, hb⟩
        have S7 := Lib.hid (S6.out.below hb)
        clear hb
        go_wp2_with fail
        go_ret
        exact ⟨rfl, S7.out.bel⟩
      · have d1 : decide ((60 : Int) < (sa : Int)) = false := decide_eq_false na
        have HNA := Lib.hid na
        clear na
        go_wp2_with fail
        refine hna.mono ?_; rintro e w6 ⟨rfl, hb⟩
        have S6 := Lib.hid (S5.out.below hb)
        clear hb hna e0 e1 e2 e3 e4 e5 f0 f1 f2 f3 f4 f5 S5 d1
        obtain ⟨e0, e1, e2, e3, e4, e5, f0, f1, f2, f3, f4, f5⟩ := S6.out.cells
        have hnb := rno.rnodes_good B _ w6 (HB_.out.below S6.out.bel) GB.out
        rw [← hsb] at hnb
        clear hsb
        by_cases nb : (60 : Int) < (sb : Int)
        · have d1 : decide ((60 : Int) < (sb : Int)) = true := decide_eq_true nb
          clear nb
          go_wp2_with fail
          refine hnb.mono ?_; rintro e w7 ⟨rfl, hb⟩
          have S7 := Lib.hid (S6.out.below hb)
          clear hb hnb e0 e1 e2 e3 e4 e5 f0 f1 f2 f3 f4 f5 S6
          go_wp2_with fail
          refine (un.awake_any _).mono ?_; rintro e w8 ⟨rfl, hb⟩
          have S8 := Lib.hid (S7.out.below hb)
          clear hb
          go_wp2_with fail
          go_ret
          exact ⟨rfl, S8.out.bel⟩
        · have d1 : decide ((60 : Int) < (sb : Int)) = false := decide_eq_false nb
          have HNB := Lib.hid nb
          clear nb
          go_wp2_with fail
          refine hnb.mono ?_; rintro e w7 ⟨rfl, hb⟩
          have S7 := Lib.hid (S6.out.below hb)
          clear hb hnb e0 e1 e2 e3 e4 e5 f0 f1 f2 f3 f4 f5 S6 d1
          obtain ⟨e0, e1, e2, e3, e4, e5, f0, f1, f2, f3, f4, f5⟩ := S7.out.cells
          have hla := laid_full A B _ _ w7 (HA.out.below S7.out.bel) (HB_.out.below S7.out.bel) GA.out GB.out (by have := HNA.out; have := HNB.out; have := HSZ.out; omega)
          have d1 : decide ((60 : Int) < (sa : Int)) = false := decide_eq_false (by have := HNA.out; omega)
          have d2 : decide ((60 : Int) < (sb : Int)) = false := decide_eq_false (by have := HNB.out; omega)
          go_wp2_with fail
          refine hla.mono ?_; rintro e w9 ⟨p, q, t, x, y, s, rfl, hm, bo, s1, p1, p2⟩
          obtain ⟨C, gh, tx, ty⟩ := laid_gh GA.out GB.out p1 p2 bo.hl
          have M9 := Lib.hid hm
          have BO := Lib.hid bo
          have HT := Lib.hid (twice_all gh tx ty)
          have S0 := Lib.hid S7.out.bel
          clear d1 d2 hm bo hla e0 e1 e2 e3 e4 e5 f0 f1 f2 f3 f4 f5 p1 p2 gh tx ty S7
          obtain ⟨i1, i2, i3, i4⟩ := self_all BO.out.a (good_sound GA.out) (by have := HNA.out; have := HSZ.out; omega) BO.out.hl []
          have hun := mUni Fr.nob M9.out (by decide) x x BO.out.wx BO.out.wx
          rw [i1, i2, i3, i4] at hun
          clear i1 i2 i3 i4
          go_wp2_with fail
          refine hun.mono ?_; rintro e w10 ⟨rfl, hm⟩
          have M10 := Lib.hid hm
          clear hun hm M9
          have hlen := mLen M10.out
          go_wp2_with fail
          refine hlen.mono ?_; rintro e w' ⟨rfl, rfl⟩
          clear hlen
          have hun := mUni Fr.nob M10.out (by decide) x y BO.out.wx BO.out.wy
          have hll := twice_len s.h x y
          rcases HT.out with ⟨hi, he⟩ | ⟨hi, he, h3⟩
          · rw [show uT (uniT s.h [] x y) [] = [] by unfold uT; rw [if_neg (by rw [hi]; decide)], hi] at hun
            generalize uL (uniT s.h [] x y) s.h = U at *
            generalize (uniT s.h [] x y).e = er at *
            clear hi HT hll
            rcases he with rfl | rfl
            · go_wp2_with fail
              refine hun.mono ?_; rintro e w11 ⟨rfl, hm⟩
              have M11 := Lib.hid hm
              clear hun hm M10
              have hlen := mLen M11.out
              go_wp2_with fail
              refine hlen.mono ?_; rintro e w' ⟨rfl, rfl⟩
              clear hlen
              go_wp2_with fail
              refine (un.awake_any _).mono ?_; rintro e w12 ⟨rfl, hb⟩
              have S12 := Lib.hid (bt (bt S0.out (Mine.bel M11.out)) hb)
              clear hb
              go_wp2_with fail
              go_ret
              exact ⟨rfl, S12.out⟩
            · go_wp2_with fail
              refine hun.mono ?_; rintro e w11 ⟨rfl, hm⟩
              have M11 := Lib.hid hm
              clear hun hm M10
              have hlen := mLen M11.out
              go_wp2_with fail
              refine hlen.mono ?_; rintro e w' ⟨rfl, rfl⟩
              clear hlen
              go_wp2_with fail
              refine (un.awake_any _).mono ?_; rintro e w12 ⟨rfl, hb⟩
              have S12 := Lib.hid (bt (bt S0.out (Mine.bel M11.out)) hb)
              clear hb
              go_wp2_with fail
              go_ret
              exact ⟨rfl, S12.out⟩
          · have hgo := h3 (uniT s.h [] x y).L
            clear h3 HT
            rw [show uT (uniT s.h [] x y) [] = (uniT s.h [] x y).L by unfold uT; rw [if_pos hi], show uL (uniT s.h [] x y) s.h = (uniT s.h [] x y).l by unfold uL; rw [if_pos hi], hi, he] at hun
            generalize (uniT s.h [] x y).l = U at *
            generalize (uniT s.h [] x y).L = L at *
            clear hi he
            have HLL := Lib.hid hll
            have HGO := Lib.hid hgo
            clear hll hgo
            go_wp2_with fail
            refine hun.mono ?_; rintro e w11 ⟨rfl, hm⟩
            have M11 := Lib.hid hm
            clear hun hm M10
            have hlen := mLen M11.out
            go_wp2_with fail
            refine hlen.mono ?_; rintro e w' ⟨rfl, rfl⟩
            clear hlen
            have hun := mUni Fr.nob M11.out (by have := HLL.out; omega) x y BO.out.wx BO.out.wy
            rcases HGO.out with ⟨hi, he⟩ | ⟨hi, he, h4⟩
            · rw [show uT (uniT U L x y) L = L by unfold uT; rw [if_neg (by rw [hi]; decide)], hi, he] at hun
              generalize uL (uniT U L x y) U = U2 at *
              clear hi he HGO
              go_wp2_with fail
              refine hun.mono ?_; rintro e w12 ⟨rfl, hm⟩
              have M12 := Lib.hid hm
              clear hun hm M11
              have hlen := mLen M12.out
              go_wp2_with fail
              refine hlen.mono ?_; rintro e w' ⟨rfl, rfl⟩
              clear hlen
              go_wp2_with fail
              refine (un.awake_any _).mono ?_; rintro e w13 ⟨rfl, hb⟩
              have S13 := Lib.hid (bt (bt S0.out (Mine.bel M12.out)) hb)
              clear hb
              go_wp2_with fail
              go_ret
              exact ⟨rfl, S13.out⟩
            · rw [show uT (uniT U L x y) L = L by unfold uT; rw [if_pos hi]; exact h4, hi, he] at hun
              generalize uL (uniT U L x y) U = U2 at *
              clear hi he h4 HGO
              go_wp2_with fail
              refine hun.mono ?_; rintro e w12 ⟨rfl, hm⟩
              have M12 := Lib.hid hm
              clear hun hm M11
              have hlen := mLen M12.out
              go_wp2_with fail
              refine hlen.mono ?_; rintro e w' ⟨rfl, rfl⟩
              clear hlen
              go_wp2_with fail
              refine (un.awake_any _).mono ?_; rintro e w13 ⟨rfl, hb⟩
              have S13 := Lib.hid (bt (bt S0.out (Mine.bel M12.out)) hb)
              clear hb
              go_wp2_with fail
              go_ret
              exact ⟨rfl, S13.out⟩
    · have hne : (may B != 0) = true := by simpa using gb
      clear gb
      go_wp2_with fail
      refine hmb.mono ?_; rintro e w5 ⟨rfl, hb⟩
      have S5 := Lib.hid (S4.out.below hb)
      clear hb hmb e0 e1 e2 e3 e4 e5 f0 f1 f2 f3 f4 f5
      go_wp2_with fail
      refine (un.awake_any _).mono ?_; rintro e w6 ⟨rfl, hb⟩
      have S6 := Lib.hid (S5.out.below hb)
      clear hb
      go_wp2_with fail
      go_ret
      exact ⟨rfl, S6.out.bel⟩
  · have hne : (may A != 0) = true := by simpa using ga
    clear ga
    go_wp2_with fail
    refine hma.mono ?_; rintro e w4 ⟨rfl, hb⟩
    have S4 := Lib.hid (S2.out.below hb)
    clear hb hma e0 e1 e2 e3 e4 e5 f0 f1 f2 f3 f4 f5
    go_wp2_with fail
    refine (un.awake_any _).mono ?_; rintro e w6 ⟨rfl, hb⟩
    have S6 := Lib.hid (S4.out.below hb)
    clear hb
    go_wp2_with fail
    go_ret
    exact ⟨rfl, S6.out.bel⟩
set_option maxRecDepth 100000 in
theorem lifted (os : Os) (started : os.Started) (H : Type) (enc : TypeId × Value → H) :
    ReturnsInHanded {} Try.checked os 9 .any (Rows.unifyTwiceSpec.pre6 enc Try.prog Try.f9 Rows.unifyTwiceRow.domain false) (Rows.unifyTwiceSpec.post enc Try.prog Try.f9 false true false false) := by
  refine returnsInHanded_of_change_sized (C := Try.checked) own started (by kernel_rfl) Try.func9
    (ChangeSpec.witness6 (enc := enc) (C := Try.checked) false ⟨#[], #[.agg #[.int .i64 0, .string ⟨#[]⟩, .int .i64 0, .int .u64 0, .int .u64 0, .slice none 0 0], .agg #[.int .i64 0, .string ⟨#[]⟩, .int .i64 0, .int .u64 0, .int .u64 0, .slice none 0 0]], []⟩ 8 (by kernel_rfl) (by kernel_rfl) (by kernel_rfl) (by kernel_rfl)) ?_
  intro W base args ds gs before hval0 hW _ hsz0 _
  have hsz : (DataW.weightsEach Try.prog (Try.f9.params.toList ++ Rows.unifyTwiceSpec.plain.varTypes Try.prog) (ds ++ gs)).all (· ≤ reachBytes) = true := hsz0
  clear hsz0
  have hval : ∀ (j : Nat) t v, Try.f9.params[j]? = some t → args[j]? = some v → Value.okWide Try.prog W .any base t v := hval0
  have hW' := hW
  obtain ⟨p, q, hA0, hV, rfl, hfz, hnd⟩ := hW
  have hA : DataW.TrodAll enc Try.prog W 0 (fun _ => true) true Try.f9.params.toList args.toList ds p := hA0
  rw [Try.params9] at hA hval hsz
  obtain ⟨v0, vs0, d0, ds0, p0, q0, hargs, rfl, rfl, h0, r0⟩ := trodAll_cons hA
  obtain ⟨v1, vs1, d1, ds1, p1, q1, rfl, rfl, rfl, h1, r1⟩ := trodAll_cons r0
  obtain ⟨rfl, rfl, rfl⟩ := trodAll_nil r1
  obtain rfl : args = #[v0, v1] := by cases args; simp_all
  obtain ⟨rfl, rfl⟩ := trodVars_none hV
  simp only [List.append_nil] at hW'
  have lt0 : ∀ x ∈ p0, x.block < W.heap.size := fun x hx => by
    have := hW'.lt x (by simp [hx])
    simpa using this
  have k0 := h0
  have lt1 : ∀ x ∈ p1, x.block < W.heap.size := fun x hx => by
    have := hW'.lt x (by simp [hx])
    simpa using this
  have k1 := h1
  obtain ⟨t0, x0⟩ := term_arg (by obtain ⟨cs, hcs, _⟩ := okWide_struct Try.underlying36 (hval 0 36 v0 rfl rfl); exact ⟨cs, hcs⟩) h0
  obtain ⟨t1, x1⟩ := term_arg (by obtain ⟨cs, hcs, _⟩ := okWide_struct Try.underlying36 (hval 1 36 v1 rfl rfl); exact ⟨cs, hcs⟩) h1
  clear hA0 hval0
  refine (walk W v0 t0 x0 v1 t1 x1).mono fun e W' ⟨he, hg⟩ => ?_
  subst he
  have ha := (trodAll_cons_mk (Below.trod laidOut (by kernel_rfl) (of_decide_eq_true (by kernel_rfl)) k0 hg lt0) (trodAll_cons_mk (Below.trod laidOut (by kernel_rfl) (of_decide_eq_true (by kernel_rfl)) k1 hg lt1) trodAll_mk0))
  refine ⟨_, rfl, _, _, _, [], _, [], hW', ?_, ha, rfl, hg.frame _, fun h => by cases h⟩
  exact (trodAll_cons_mk (shut_bool Try.underlying4 _) trodAll_mk0)
/-- THE STATEMENT. -/
theorem proved : Rows.UnifyTwiceSaid :=
  OpenClaim.holds_of_wide 9 Try.f9 rfl rfl rfl rfl rfl rfl rfl ⟨rfl, rfl, rfl, rfl, rfl⟩ rfl rfl rfl rfl rfl (by kernel_rfl) Try.func9 (by kernel_rfl)
    (of_decide_eq_true (by kernel_rfl)) (by unfold Func.isWrapper; first | (rw [if_pos (by decide +kernel)]; kernel_rfl) | (rw [if_neg (by decide +kernel)]; exact ⟨rfl, rfl⟩))
    (fun os started H enc _ => lifted os started H enc)
#print axioms proved
end Go.Proofs.Ythableojkjhicaa.unifyTwice
