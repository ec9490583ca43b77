/- The law UnifyKinds holds: for every input its Go function returns true and leaves its arguments as they were. No condition beyond the row's own. -/
import Derived.Test.YtickdmfcdfocmaaRows
import Derived.WalkKit
import Derived.ProofKit
import Derived.OpenShut
import Derived.SizedLaws
import Derived.Test.YtickdmfcdfocmaaUnL
import Derived.Test.YtickdmfcdfocmaaRNo
import Derived.Test.YtickdmfcdfocmaaTOpen
import Derived.Test.YtickdmfcdfocmaaRMay
import Derived.Deep.DeepCutAuto
import Derived.Deep.CutBlock
namespace Go.Proofs.Ytickdmfcdfocmaa.unifyKinds
open Go.ChangeShapes Go.WideShapes Go.ChangeAt Go.RowKit
open Go.ChangeMaps (open_string)
open Go.Proofs.Ytickdmfcdfocmaa.hp Go.Proofs.Ytickdmfcdfocmaa.cel Go.Proofs.Ytickdmfcdfocmaa.kp Go.Proofs.Ytickdmfcdfocmaa.ob Go.Proofs.Ytickdmfcdfocmaa.tm Go.Proofs.Ytickdmfcdfocmaa.lie Go.Proofs.Ytickdmfcdfocmaa.ppt Go.Proofs.Ytickdmfcdfocmaa.top Go.Proofs.Ytickdmfcdfocmaa.sl Go.Proofs.Ytickdmfcdfocmaa.rmy Go.Proofs.Ytickdmfcdfocmaa.cur Go.Proofs.Ytickdmfcdfocmaa.pm Go.Proofs.Ytickdmfcdfocmaa.rva Go.Proofs.Ytickdmfcdfocmaa.un
set_option linter.unusedVariables false
theorem own : ownKnob Try.prog.godebug = none := by kernel_rfl
theorem laidOut : laidOutB Try.prog = true := by kernel_rfl
theorem tl_eq {x s : ByteArray} : (x.toList == s.toList) = decide (x = s) := by
  by_cases h : x = s
  · subst h; simp
  · rw [atm.tl_ne h]; simp [h]
/-- the law's word: is there no claim -/
def KW (A B : Tm) (b : Bool) : Prop := b = false → Unl A B
theorem like_leaf {k : Int} {n n' : ByteArray} {i re im i' re' im' : Int} {l l' : List Tm} (ga : good (.mk k n i re im l) = true) (gb : good (.mk k n' i' re' im' l') = true) (k1 : k ≠ 1) (k5 : k ≠ 5) (h : sameB (.mk k n i re im l) (.mk k n' i' re' im' l') = false) : Unl (.mk k n i re im l) (.mk k n' i' re' im' l') := by
  refine ⟨k1, k1, ?_⟩
  unfold sameB at h
  rw [ga, gb] at h
  simp only [Bool.true_and, like, decide_true] at h
  have hs : chk (.mk k n i re im l) = 0 := by
    have := good_sound ga
    rw [sound] at this
    simp only [Bool.and_eq_true, decide_eq_true_eq] at this
    exact this.1
  rw [if_neg k1] at h
  by_cases k3 : k = 3
  · rw [if_pos k3] at h
    exact Or.inr (Or.inr (Or.inr (Or.inl ⟨k3, of_decide_eq_false h⟩)))
  rw [if_neg k3] at h
  by_cases k2 : k = 2
  · rw [if_pos k2] at h
    exact Or.inr (Or.inr (Or.inl ⟨k2, of_decide_eq_false h⟩))
  rw [if_neg k2] at h
  by_cases k4 : k = 4
  · rw [if_pos k4] at h
    refine Or.inr (Or.inr (Or.inr (Or.inr ⟨k4, ?_⟩)))
    rintro ⟨rfl, rfl⟩
    simp at h
  · rw [chk, if_neg k1, if_neg k2, if_neg k3, if_neg k4, if_neg k5] at hs
    cases hs
set_option maxHeartbeats 8000000 in
set_option maxRecDepth 100000 in
theorem walk (w : World) (v0 : Value) (t0 : Tm) (x0 : Lies No w t0 v0) (v1 : Value) (t1 : Tm) (x1 : Lies No w t1 v1) :
    Calls Try.prog 10 #[v0, v1] w fun e w' => e = .returned (.bool true) ∧ Below w.heap.size w w' := by
  have HA := Lib.hid x0
  have HB_ := Lib.hid x1
  obtain ⟨A, hA⟩ : ∃ A, A = t0 := ⟨_, rfl⟩
  obtain ⟨B, hB⟩ : ∃ B, B = t1 := ⟨_, rfl⟩
  rw [← hA] at HA
  rw [← hB] at HB_
  obtain ⟨k, n, i, re, im, l⟩ := t0
  obtain ⟨k', n', i', re', im', l'⟩ := t1
  rw [Lies] at x0 x1
  obtain ⟨aa, ca, rfl, hf, hr⟩ := x0
  obtain ⟨ab, cb, rfl, hf', hr'⟩ := x1
  have HE := Lib.hid (And.intro hA hB)
  have HI := Lib.hid (And.intro (lies_ints A _ HA.out) (lies_ints B _ HB_.out))
  clear hf hr hf' hr' hA hB
  obtain ⟨w2, hw2⟩ : ∃ w2, w2 = (w.alloc (.cells #[.int .i64 k, .string n, .int .i64 i, .int .u64 re, .int .u64 im, .slice aa l.length ca] 41)).alloc (.cells #[.int .i64 k', .string n', .int .i64 i', .int .u64 re', .int .u64 im', .slice ab l'.length cb] 41) := ⟨_, rfl⟩
  have S2 := Lib.hid (show SV w #[.int .i64 k, .string n, .int .i64 i, .int .u64 re, .int .u64 im, .slice aa l.length ca] #[.int .i64 k', .string n', .int .i64 i', .int .u64 re', .int .u64 im', .slice ab l'.length cb] w2 by rw [hw2]; exact SV.mk0 w _ _)
  have HW := Lib.hid hw2
  clear hw2
  go_enter Try.func10, Try.ntmps10
  go_upto_region 1 with fail
  rw [← HW.out]
  obtain ⟨e0, e1, e2, e3, e4, e5, f0, f1, f2, f3, f4, f5⟩ := S2.out.cells
  have hma := rMay_any A _ w2 (HA.out.below S2.out.bel)
  by_cases ga : may A = 0
  · rw [ga] at hma
    have GA := Lib.hid ((may_iff A).1 ga)
    clear ga
    go_wp2_with fail
    refine hma.mono ?_; rintro e w4 ⟨rfl, hb⟩
    have S4 := Lib.hid (S2.out.below hb)
    clear hb hma e0 e1 e2 e3 e4 e5 f0 f1 f2 f3 f4 f5 S2
    obtain ⟨e0, e1, e2, e3, e4, e5, f0, f1, f2, f3, f4, f5⟩ := S4.out.cells
    have hmb := rMay_any B _ w4 (HB_.out.below S4.out.bel)
    by_cases gb : may B = 0
    · rw [gb] at hmb
      have GB := Lib.hid ((may_iff B).1 gb)
      clear gb
      go_wp2_with fail
      refine hmb.mono ?_; rintro e w5 ⟨rfl, hb⟩
      have S5 := Lib.hid (S4.out.below hb)
      clear hb hmb e0 e1 e2 e3 e4 e5 f0 f1 f2 f3 f4 f5 S4
      obtain ⟨e0, e1, e2, e3, e4, e5, f0, f1, f2, f3, f4, f5⟩ := S5.out.cells
      have hna := rno.rnodes_good A _ w5 (HA.out.below S5.out.bel) GA.out
      obtain ⟨sa, hsa⟩ : ∃ sa, sa = tm.size A := ⟨_, rfl⟩
      obtain ⟨sb, hsb⟩ : ∃ sb, sb = tm.size B := ⟨_, rfl⟩
      have HSZ := Lib.hid (And.intro hsa hsb)
      rw [← hsa] at hna
      clear hsa
      by_cases na : (60 : Int) < (sa : Int)
      · have d1 : decide ((60 : Int) < (sa : Int)) = true := decide_eq_true na
        clear na
        go_wp2_with fail
        refine hna.mono ?_; rintro e w6 ⟨rfl, hb⟩
        have S6 := Lib.hid (S5.out.below hb)
        clear hb hna e0 e1 e2 e3 e4 e5 f0 f1 f2 f3 f4 f5 S5
        go_wp2_with fail
        refine (un.awake_any _).mono ?_; rintro e w7 ⟨rfl, hb⟩
        have S7 := Lib.hid (S6.out.below hb)
        clear hb
        go_wp2_with fail
        go_ret
        exact ⟨rfl, S7.out.bel⟩
      · have d1 : decide ((60 : Int) < (sa : Int)) = false := decide_eq_false na
        have HNA := Lib.hid na
        clear na
        go_wp2_with fail
        refine hna.mono ?_; rintro e w6 ⟨rfl, hb⟩
        have S6 := Lib.hid (S5.out.below hb)
        clear hb hna e0 e1 e2 e3 e4 e5 f0 f1 f2 f3 f4 f5 S5 d1
        obtain ⟨e0, e1, e2, e3, e4, e5, f0, f1, f2, f3, f4, f5⟩ := S6.out.cells
        have hnb := rno.rnodes_good B _ w6 (HB_.out.below S6.out.bel) GB.out
        rw [← hsb] at hnb
        clear hsb
        by_cases nb : (60 : Int) < (sb : Int)
        · have d1 : decide ((60 : Int) < (sb : Int)) = true := decide_eq_true nb
          clear nb
          go_wp2_with fail
          refine hnb.mono ?_; rintro e w7 ⟨rfl, hb⟩
          have S7 := Lib.hid (S6.out.below hb)
          clear hb hnb e0 e1 e2 e3 e4 e5 f0 f1 f2 f3 f4 f5 S6
          go_wp2_with fail
          refine (un.awake_any _).mono ?_; rintro e w8 ⟨rfl, hb⟩
          have S8 := Lib.hid (S7.out.below hb)
          clear hb
          go_wp2_with fail
          go_ret
          exact ⟨rfl, S8.out.bel⟩
        · have d1 : decide ((60 : Int) < (sb : Int)) = false := decide_eq_false nb
          have HNB := Lib.hid nb
          clear nb
          go_wp2_with fail
          refine hnb.mono ?_; rintro e w7 ⟨rfl, hb⟩
          have S7 := Lib.hid (S6.out.below hb)
          clear hb hnb e0 e1 e2 e3 e4 e5 f0 f1 f2 f3 f4 f5 S6 d1
          obtain ⟨e0, e1, e2, e3, e4, e5, f0, f1, f2, f3, f4, f5⟩ := S7.out.cells
          by_cases kv : k = 1
          · subst kv
            go_wp2_with fail
            refine (un.awake_any _).mono ?_; rintro e w8 ⟨rfl, hb⟩
            have S8 := Lib.hid (S7.out.below hb)
            clear hb
            go_wp2_with fail
            go_ret
            exact ⟨rfl, S8.out.bel⟩
          · have k1 : (k == 1) = false := by rw [beq_eq_false_iff_ne]; exact kv
            have HK := Lib.hid kv
            clear kv
            by_cases kv' : k' = 1
            · subst kv'
              go_wp2_with fail
              refine (un.awake_any _).mono ?_; rintro e w8 ⟨rfl, hb⟩
              have S8 := Lib.hid (S7.out.below hb)
              clear hb
              go_wp2_with fail
              go_ret
              exact ⟨rfl, S8.out.bel⟩
            · have k2 : (k' == 1) = false := by rw [beq_eq_false_iff_ne]; exact kv'
              have HK' := Lib.hid kv'
              clear kv'
              go_upto_region 3 with fail
              clear k1 k2
              obtain ⟨va, hva⟩ : ∃ va, va = (.agg #[.int .i64 k, .string n, .int .i64 i, .int .u64 re, .int .u64 im, .slice aa l.length ca] : Value) := ⟨_, rfl⟩
              obtain ⟨vb, hvb⟩ : ∃ vb, vb = (.agg #[.int .i64 k', .string n', .int .i64 i', .int .u64 re', .int .u64 im', .slice ab l'.length cb] : Value) := ⟨_, rfl⟩
              have HVA := Lib.hid hva
              have HVB := Lib.hid hvb
              clear hva hvb
              go_cut [78] (fun s wx => ∃ b : Bool, s = .bool b ∧ KW A B b ∧ SV w #[.int .i64 k, .string n, .int .i64 i, .int .u64 re, .int .u64 im, .slice aa l.length ca] #[.int .i64 k', .string n', .int .i64 i', .int .u64 re', .int .u64 im', .slice ab l'.length cb] wx)
              case first =>
                by_cases hk : k = k'
                · subst hk
                  by_cases h5 : k = 5
                  · subst h5
                    have tle := @tl_eq n n'
                    by_cases hn : n = n'
                    · rw [decide_eq_true hn] at tle
                      clear hn
                      by_cases hl : l.length = l'.length
                      · have hl1 : ((l.length : Int) == (l'.length : Int)) = true := by rw [beq_iff_eq]; omega
                        have hl2 : (l.length : Int) = (l'.length : Int) := by omega
                        clear hl
                        go_wp2_with fail
                        go_meet
                        case rel => exact ⟨_, rfl, fun h => Bool.noConfusion h, S7.out⟩
                      · have HL := Lib.hid hl
                        have hl1 : ((l.length : Int) == (l'.length : Int)) = false := by rw [beq_eq_false_iff_ne]; omega
                        have hl2 : ¬ (l.length : Int) = (l'.length : Int) := by omega
                        clear hl
                        go_wp2_with fail
                        go_meet
                        case rel => exact ⟨_, rfl, fun _ => by rw [HE.out.1, HE.out.2]; exact ⟨HK.out, HK.out, Or.inr (Or.inl ⟨rfl, Or.inr HL.out⟩)⟩, S7.out⟩
                    · rw [decide_eq_false hn] at tle
                      have HN := Lib.hid hn
                      clear hn
                      go_wp2_with fail
                      go_meet
                      case rel => exact ⟨_, rfl, fun _ => by rw [HE.out.1, HE.out.2]; exact ⟨HK.out, HK.out, Or.inr (Or.inl ⟨rfl, Or.inl HN.out⟩)⟩, S7.out⟩
                  · have hsm := rsm.rsame_any A B _ _ w7 (HA.out.below S7.out.bel) (HB_.out.below S7.out.bel)
                    have h51 : (k == 5) = false := by rw [beq_eq_false_iff_ne]; exact h5
                    cases hsb : sameB A B with
                    | true =>
                      rw [hsb] at hsm
                      clear hsb
                      go_wp2_with fail
                      refine hsm.mono ?_; rintro e w8 ⟨rfl, hb⟩
                      have S8 := Lib.hid (S7.out.below hb)
                      clear hb hsm
                      go_wp2_with fail
                      go_meet
                      case rel => exact ⟨_, rfl, fun h => Bool.noConfusion h, S8.out⟩
                    | false =>
                      rw [hsb] at hsm
                      have HSB := Lib.hid hsb
                      have H5 := Lib.hid h5
                      clear hsb
                      go_wp2_with fail
                      refine hsm.mono ?_; rintro e w8 ⟨rfl, hb⟩
                      have S8 := Lib.hid (S7.out.below hb)
                      clear hb hsm
                      go_wp2_with fail
                      go_meet
                      case rel =>
                        refine ⟨_, rfl, fun _ => ?_, S8.out⟩
                        have g1 := GA.out
                        have g2 := GB.out
                        have h := HSB.out
                        rw [HE.out.1] at g1 h ⊢
                        rw [HE.out.2] at g2 h ⊢
                        exact like_leaf g1 g2 HK.out H5.out h
                · have h51 : (k == k') = false := by rw [beq_eq_false_iff_ne]; exact hk
                  have HKK := Lib.hid hk
                  go_wp2_with fail
                  go_meet
                  case rel => exact ⟨_, rfl, fun _ => by rw [HE.out.1, HE.out.2]; exact ⟨HK.out, HK'.out, Or.inl HKK.out⟩, S7.out⟩
              case rest =>
                obtain ⟨b78, rfl, hkw, hS⟩ := hcut
                have S8 := Lib.hid hS
                have HKW := Lib.hid hkw
                clear hkw hS e0 e1 e2 e3 e4 e5 f0 f1 f2 f3 f4 f5 S7
                cases b78 with
                | true =>
                  go_wp2_with fail
                  refine (un.awake_any _).mono ?_; rintro e w9 ⟨rfl, hb⟩
                  have S9 := Lib.hid (S8.out.below hb)
                  clear hb
                  go_wp2_with fail
                  go_ret
                  exact ⟨rfl, S9.out.bel⟩
                | false =>
                  obtain ⟨e0, e1, e2, e3, e4, e5, f0, f1, f2, f3, f4, f5⟩ := S8.out.cells
                  have hla := laid_any A B _ _ wc (HA.out.below S8.out.bel) (HB_.out.below S8.out.bel) GA.out GB.out (by have := HNA.out; have := HNB.out; have := HSZ.out; omega)
                  go_wp2_with fail
                  refine hla.mono ?_; rintro e w9 ⟨p, q, t, x, y, s, rfl, hm, bo⟩
                  have M9 := Lib.hid hm
                  have BO := Lib.hid bo
                  have S9 := Lib.hid (S8.out.below (Mine.bel hm))
                  clear hm bo hla e0 e1 e2 e3 e4 e5 f0 f1 f2 f3 f4 f5
                  obtain ⟨u1, u2⟩ := uni_unlike BO.out.a BO.out.b GA.out GB.out HI.out.1 HI.out.2 (by have := BO.out.hl; omega) (HKW.out rfl) []
                  have hun := mUni Fr.nob M9.out (by decide) x y BO.out.wx BO.out.wy
                  rw [show uT (uniT s.h [] x y) [] = [] by unfold uT; rw [if_neg (by rw [u1]; decide)], u1, u2] at hun
                  generalize uL (uniT s.h [] x y) s.h = h9 at *
                  clear u1 u2
                  go_wp2_with fail
                  refine hun.mono ?_; rintro e w10 ⟨rfl, hm⟩
                  have S10 := Lib.hid (show Below w.heap.size w w10 from (S8.out.bel).trans ((Mine.bel hm).mono S8.out.bel.size))
                  have htl : ∃ G, Tp w10 t G [] [] := by
                    obtain ⟨N, ⟨_, _, _, ⟨_, _, ht, _⟩, _⟩, _⟩ := hm
                    exact ⟨_, ht.1⟩
                  obtain ⟨G10, hT⟩ := htl
                  have hlen := tlen_any hT
                  clear hun hm hT M9 S9 S8
                  go_wp2_with fail
                  refine hlen.mono ?_; rintro e w' ⟨rfl, rfl⟩
                  go_wp2_with fail
                  refine (un.awake_any _).mono ?_; rintro e w11 ⟨rfl, hb⟩
                  have S11 := Lib.hid (bt S10.out hb)
                  clear hb
                  go_wp2_with fail
                  go_ret
                  exact ⟨rfl, S11.out⟩
    · have hne : (may B != 0) = true := by simpa using gb
      clear gb
      go_wp2_with fail
      refine hmb.mono ?_; rintro e w5 ⟨rfl, hb⟩
      have S5 := Lib.hid (S4.out.below hb)
      clear hb hmb e0 e1 e2 e3 e4 e5 f0 f1 f2 f3 f4 f5
      go_wp2_with fail
      refine (un.awake_any _).mono ?_; rintro e w6 ⟨rfl, hb⟩
      have S6 := Lib.hid (S5.out.below hb)
      clear hb
      go_wp2_with fail
      go_ret
      exact ⟨rfl, S6.out.bel⟩
  · have hne : (may A != 0) = true := by simpa using ga
    clear ga
    go_wp2_with fail
    refine hma.mono ?_; rintro e w4 ⟨rfl, hb⟩
    have S4 := Lib.hid (S2.out.below hb)
    clear hb hma e0 e1 e2 e3 e4 e5 f0 f1 f2 f3 f4 f5
    go_wp2_with fail
    refine (un.awake_any _).mono ?_; rintro e w6 ⟨rfl, hb⟩
    have S6 := Lib.hid (S4.out.below hb)
    clear hb
    go_wp2_with fail
    go_ret
    exact ⟨rfl, S6.out.bel⟩
set_option maxRecDepth 100000 in
theorem lifted (os : Os) (started : os.Started) (H : Type) (enc : TypeId × Value → H) :
    ReturnsInHanded {} Try.checked os 10 .any (Rows.unifyKindsSpec.pre6 enc Try.prog Try.f10 Rows.unifyKindsRow.domain false) (Rows.unifyKindsSpec.post enc Try.prog Try.f10 false true false false) := by
  refine returnsInHanded_of_change_sized (C := Try.checked) own started (by kernel_rfl) Try.func10
    (ChangeSpec.witness6 (enc := enc) (C := Try.checked) false ⟨#[], #[.agg #[.int .i64 0, .string ⟨#[]⟩, .int .i64 0, .int .u64 0, .int .u64 0, .slice none 0 0], .agg #[.int .i64 0, .string ⟨#[]⟩, .int .i64 0, .int .u64 0, .int .u64 0, .slice none 0 0]], []⟩ 8 (by kernel_rfl) (by kernel_rfl) (by kernel_rfl) (by kernel_rfl)) ?_
  intro W base args ds gs before hval0 hW _ hsz0 _
  have hsz : (DataW.weightsEach Try.prog (Try.f10.params.toList ++ Rows.unifyKindsSpec.plain.varTypes Try.prog) (ds ++ gs)).all (· ≤ reachBytes) = true := hsz0
  clear hsz0
  have hval : ∀ (j : Nat) t v, Try.f10.params[j]? = some t → args[j]? = some v → Value.okWide Try.prog W .any base t v := hval0
  have hW' := hW
  obtain ⟨p, q, hA0, hV, rfl, hfz, hnd⟩ := hW
  have hA : DataW.TrodAll enc Try.prog W 0 (fun _ => true) true Try.f10.params.toList args.toList ds p := hA0
  rw [Try.params10] at hA hval hsz
  obtain ⟨v0, vs0, d0, ds0, p0, q0, hargs, rfl, rfl, h0, r0⟩ := trodAll_cons hA
  obtain ⟨v1, vs1, d1, ds1, p1, q1, rfl, rfl, rfl, h1, r1⟩ := trodAll_cons r0
  obtain ⟨rfl, rfl, rfl⟩ := trodAll_nil r1
  obtain rfl : args = #[v0, v1] := by cases args; simp_all
  obtain ⟨rfl, rfl⟩ := trodVars_none hV
  simp only [List.append_nil] at hW'
  have lt0 : ∀ x ∈ p0, x.block < W.heap.size := fun x hx => by
    have := hW'.lt x (by simp [hx])
    simpa using this
  have k0 := h0
  have lt1 : ∀ x ∈ p1, x.block < W.heap.size := fun x hx => by
    have := hW'.lt x (by simp [hx])
    simpa using this
  have k1 := h1
  obtain ⟨t0, x0⟩ := term_arg (by obtain ⟨cs, hcs, _⟩ := okWide_struct Try.underlying41 (hval 0 41 v0 rfl rfl); exact ⟨cs, hcs⟩) h0
  obtain ⟨t1, x1⟩ := term_arg (by obtain ⟨cs, hcs, _⟩ := okWide_struct Try.underlying41 (hval 1 41 v1 rfl rfl); exact ⟨cs, hcs⟩) h1
  clear hA0 hval0
  refine (walk W v0 t0 x0 v1 t1 x1).mono fun e W' ⟨he, hg⟩ => ?_
  subst he
  have ha := (trodAll_cons_mk (Below.trod laidOut (by kernel_rfl) (of_decide_eq_true (by kernel_rfl)) k0 hg lt0) (trodAll_cons_mk (Below.trod laidOut (by kernel_rfl) (of_decide_eq_true (by kernel_rfl)) k1 hg lt1) trodAll_mk0))
  refine ⟨_, rfl, _, _, _, [], _, [], hW', ?_, ha, rfl, hg.frame _, fun h => by cases h⟩
  exact (trodAll_cons_mk (shut_bool Try.underlying4 _) trodAll_mk0)
/-- THE STATEMENT. -/
theorem proved : Rows.UnifyKindsSaid :=
  OpenClaim.holds_of_wide 10 Try.f10 rfl rfl rfl rfl rfl rfl rfl ⟨rfl, rfl, rfl, rfl, rfl⟩ rfl rfl rfl rfl rfl (by kernel_rfl) Try.func10 (by kernel_rfl)
    (of_decide_eq_true (by kernel_rfl)) (by unfold Func.isWrapper; first | (rw [if_pos (by decide +kernel)]; kernel_rfl) | (rw [if_neg (by decide +kernel)]; exact ⟨rfl, rfl⟩))
    (fun os started H enc _ => lifted os started H enc)
#print axioms proved
end Go.Proofs.Ytickdmfcdfocmaa.unifyKinds
