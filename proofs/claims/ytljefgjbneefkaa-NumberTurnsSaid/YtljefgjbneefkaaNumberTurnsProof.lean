/- The law NumberTurns holds: for every input its Go function returns true and leaves its arguments as they were. No condition beyond the row's own. -/
import Derived.Test.YtljefgjbneefkaaRows
import Derived.WalkKit
import Derived.ProofKit
import Derived.OpenShut
import Derived.Test.YtljefgjbneefkaaCpxR
import Derived.Lib.Hide
namespace Go.Proofs.Ytljefgjbneefkaa.numberTurns
open Go.ChangeShapes Go.WideShapes Go.ChangeAt Go.RowKit
set_option linter.unusedVariables false      -- a walk need not use every 'w<i>' (that an integer argument fits its kind)

theorem own : ownKnob Try.prog.godebug = none := by kernel_rfl

/-! ### STEP 1: THE WALK: the Go text returns true. 'Grown w w'': the world has at most new blocks (Derived/RowKit3.lean). Part the cases AHEAD of 'go_enter' where a test parts the walk; take each callee by a contract of your own. -/
open Go.Proofs.Ytljefgjbneefkaa.num Go.Proofs.Ytljefgjbneefkaa.flt
theorem mod_100k (a : Int) : -99999 ≤ a.tmod 100000 ∧ a.tmod 100000 ≤ 99999 := by
  have h := Int.natAbs_tmod a 100000
  have h2 := Nat.mod_lt a.natAbs (y := (100000 : Int).natAbs) (by decide)
  omega
theorem is_zero : Is 0 0 := by
  obtain ⟨l, hl⟩ : ∃ l : Nat, l = 1074 := ⟨_, rfl⟩
  exact ⟨false, 0, l, by rw [hl]; decide +kernel, by simp⟩
theorem is_one : Is 4607182418800017408 1 := ⟨false, 4503599627370496, 52, by decide +kernel, by decide⟩
set_option maxHeartbeats 4000000 in
theorem walk (a0 : Int) (a1 : Int) (a2 : Int) (a3 : Int) (w0 : (Lit.int .i64 a0).wf = true) (w1 : (Lit.int .i64 a1).wf = true) (w2 : (Lit.int .i64 a2).wf = true) (w3 : (Lit.int .i64 a3).wf = true) (w : World) :
    Calls Try.prog 8 #[.int .i64 a0, .int .i64 a1, .int .i64 a2, .int .i64 a3] w fun e w' => e = .returned (.bool true) ∧ Grown w w' := by
  have m0 := mod_100k a0; have m1 := mod_100k a1; have m2 := mod_100k a2; have m3 := mod_100k a3
  clear w0 w1 w2 w3
  go_enter Try.func8, Try.ntmps8
  go_wp2_with fail
  generalize a0.tmod 100000 = p at *
  generalize a1.tmod 100000 = q at *
  generalize a2.tmod 100000 = r at *
  generalize a3.tmod 100000 = s at *
  have HP := Lib.hid (is_ofInt p (by omega)); have HQ := Lib.hid (is_ofInt q (by omega)); have HR := Lib.hid (is_ofInt r (by omega)); have HS := Lib.hid (is_ofInt s (by omega))
  generalize floatOfInt .f64 p = P1 at *
  generalize floatOfInt .f64 q = Q1 at *
  generalize floatOfInt .f64 r = R1 at *
  generalize floatOfInt .f64 s = S1 at *
  refine (subC_any _ _ _ _ _).mono ?_; rintro e w1 ⟨rfl, g1⟩
  have i1 := Lib.hid (av_sub HP.out HR.out (by omega)); have i2 := Lib.hid (av_sub HQ.out HS.out (by omega))
  go_wp2_with fail
  refine (subC_any _ _ _ _ _).mono ?_; rintro e w2 ⟨rfl, g2⟩
  have i3 := Lib.hid (av_sub HR.out HP.out (by omega)); have i4 := Lib.hid (av_sub HS.out HQ.out (by omega))
  generalize av .sub P1 R1 = u1 at *
  generalize av .sub Q1 S1 = u2 at *
  generalize av .sub R1 P1 = u3 at *
  generalize av .sub S1 Q1 = u4 at *
  obtain ⟨x1, hx1, k1⟩ := is_sum u1 u3 _ _ i1.out i3.out (by omega)
  obtain ⟨x2, hx2, k2⟩ := is_sum u2 u4 _ _ i2.out i4.out (by omega)
  have hsum := run_complex_sum (P := Try.prog) w2 .add (Or.inl rfl) 30 .f64 u1 u2 u3 u4 x1 x2 (by
    have f1 : floatBits .add .f64 u1 u3 = some x1 := hx1
    have f2 : floatBits .add .f64 u2 u4 = some x2 := hx2
    simp [cSumBits, f1, f2])
  rw [show p - r + (r - p) = 0 from by omega] at k1
  rw [show q - s + (s - q) = 0 from by omega] at k2
  have o1 := eqo k1 is_zero; have o2 := eqo k2 is_zero
  clear hx1 hx2 k1 k2
  go_wp2_with fail
  clear o1 o2 hsum
  refine (addC_any _ _ _ _ _).mono ?_; rintro e w3 ⟨rfl, g3⟩
  have i5 := av_add HP.out is_zero (by omega); have i6 := av_add HQ.out is_zero (by omega)
  rw [Int.add_zero] at i5 i6
  have o1 := eqo i5 HP.out; have o2 := eqo i6 HQ.out
  clear i5 i6
  go_wp2_with fail
  clear o1 o2
  refine (addC_any _ _ _ _ _).mono ?_; rintro e w4 ⟨rfl, g4⟩
  have j1 := Lib.hid (av_add HP.out HR.out (by omega)); have j2 := Lib.hid (av_add HQ.out HS.out (by omega))
  go_wp2_with fail
  refine (subC_any _ _ _ _ _).mono ?_; rintro e w5 ⟨rfl, g5⟩
  have i5 := av_sub j1.out HR.out (by omega); have i6 := av_sub j2.out HS.out (by omega)
  rw [Int.add_sub_cancel] at i5 i6
  have o1 := eqo i5 HP.out; have o2 := eqo i6 HQ.out
  clear i5 i6
  go_wp2_with fail
  clear o1 o2
  refine (addC_any _ _ _ _ _).mono ?_; rintro e w6 ⟨rfl, g6⟩
  go_wp2_with fail
  refine (addC_any _ _ _ _ _).mono ?_; rintro e w7 ⟨rfl, g7⟩
  have i5 := av_add HR.out HP.out (by omega); have i6 := av_add HS.out HQ.out (by omega)
  rw [Int.add_comm] at i5 i6
  have o1 := eqo j1.out i5; have o2 := eqo j2.out i6
  clear i5 i6
  go_wp2_with fail
  clear o1 o2
  refine (mulC_any _ _ _ _ _).mono ?_; rintro e w8 ⟨rfl, g8⟩
  have i5 := mre_is HP.out HQ.out is_one is_zero (by omega) (by omega) (by omega)
  have i6 := mim_is HP.out HQ.out is_one is_zero (by omega) (by omega) (by omega)
  rw [Int.mul_one, Int.mul_zero, Int.sub_zero] at i5
  rw [Int.mul_one, Int.mul_zero, Int.zero_add] at i6
  have o1 := eqo i5 HP.out; have o2 := eqo i6 HQ.out
  clear i5 i6
  go_wp2_with fail
  clear o1 o2
  refine (raddC_any _ _ _ _ _).mono ?_; rintro e w9 ⟨rfl, g9⟩
  go_wp2_with fail
  refine (addC_any _ _ _ _ _).mono ?_; rintro e w10 ⟨rfl, g10⟩
  go_wp2_with fail
  refine (same_any _ _ _ _ _ rfl rfl).mono ?_; rintro e w' ⟨rfl, rfl⟩
  go_wp2_with fail
  refine (awake_any _).mono ?_; rintro e w' ⟨rfl, rfl⟩
  go_wp2_with fail
  go_ret
  exact ⟨rfl, grown_trans (grown_trans (grown_trans g1 g2) (grown_trans g3 (grown_trans g4 g5))) (grown_trans (grown_trans g6 g7) (grown_trans g8 (grown_trans g9 g10)))⟩

/-! ### THE ROW's STEP: WRITTEN OUT: LEAVE IT -/
set_option maxRecDepth 100000 in
theorem lifted (os : Os) (started : os.Started) (H : Type) (enc : TypeId × Value → H) :
    ReturnsInHanded {} Try.checked os 8 .any (Rows.numberTurnsSpec.pre6 enc Try.prog Try.f8 Rows.numberTurnsRow.domain false) (Rows.numberTurnsSpec.post enc Try.prog Try.f8 false true false false) := by
  refine returnsInHanded_of_change (C := Try.checked) own started (by kernel_rfl) Try.func8
    (ChangeSpec.witness6 (enc := enc) (C := Try.checked) false ⟨#[], #[.int .i64 0, .int .i64 0, .int .i64 0, .int .i64 0], []⟩ 8 (by kernel_rfl) (by kernel_rfl) (by kernel_rfl) (by kernel_rfl)) ?_
  intro W base args ds gs before hval0 hW hcnd _
  have hval : ∀ (j : Nat) t v, Try.f8.params[j]? = some t → args[j]? = some v → Value.okWide Try.prog W .any base t v := hval0
  have hW' := hW
  obtain ⟨p, q, hA0, hV, rfl, hfz, hnd⟩ := hW
  have hA : DataW.TrodAll enc Try.prog W 0 (fun _ => true) true Try.f8.params.toList args.toList ds p := hA0
  rw [Try.params8] at hA hval
  obtain ⟨v0, vs0, d0, ds0, p0, q0, hargs, rfl, rfl, h0, r0⟩ := trodAll_cons hA
  obtain ⟨v1, vs1, d1, ds1, p1, q1, rfl, rfl, rfl, h1, r1⟩ := trodAll_cons r0
  obtain ⟨v2, vs2, d2, ds2, p2, q2, rfl, rfl, rfl, h2, r2⟩ := trodAll_cons r1
  obtain ⟨v3, vs3, d3, ds3, p3, q3, rfl, rfl, rfl, h3, r3⟩ := trodAll_cons r2
  obtain ⟨rfl, rfl, rfl⟩ := trodAll_nil r3
  obtain rfl : args = #[v0, v1, v2, v3] := by cases args; simp_all
  obtain ⟨rfl, rfl⟩ := trodVars_none hV
  obtain ⟨a0, rfl, rfl, rfl, w0⟩ := open_int Try.underlying3 (hval 0 3 v0 rfl rfl) h0
  obtain ⟨a1, rfl, rfl, rfl, w1⟩ := open_int Try.underlying3 (hval 1 3 v1 rfl rfl) h1
  obtain ⟨a2, rfl, rfl, rfl, w2⟩ := open_int Try.underlying3 (hval 2 3 v2 rfl rfl) h2
  obtain ⟨a3, rfl, rfl, rfl, w3⟩ := open_int Try.underlying3 (hval 3 3 v3 rfl rfl) h3
  clear hA0 hval0
  simp only [List.append_nil] at hW'
  refine (walk a0 a1 a2 a3 w0 w1 w2 w3 W).mono fun e W' ⟨he, hg⟩ => ?_
  subst he
  exact ⟨_, rfl, post_of_same (pa := []) (pv := []) hW' (fun _ _ _ => (trodAll_cons_mk (shut_bool Try.underlying4 _) trodAll_mk0)) (fun sp _ => (trodAll_cons_mk (shut_int Try.underlying3 w0) (trodAll_cons_mk (shut_int Try.underlying3 w1) (trodAll_cons_mk (shut_int Try.underlying3 w2) (trodAll_cons_mk (shut_int Try.underlying3 w3) trodAll_mk0))))) (fun _ _ => rfl) rfl
    (hg.frame _) hg.2.1 (ok_one (by kernel_rfl) rfl (okWide_bool_mk Try.underlying4 _))⟩

theorem over : Rows.numberTurnsRow.holds Try.pinned (OpenSpec.ofChange Rows.numberTurnsSpec) :=
  OpenClaim.holds_of_wide 8 Try.f8 rfl rfl rfl rfl rfl rfl rfl ⟨rfl, rfl, rfl, rfl, rfl⟩ rfl rfl rfl rfl rfl (by kernel_rfl) Try.func8 (by kernel_rfl)
    (of_decide_eq_true (by kernel_rfl)) (by unfold Func.isWrapper; first | (rw [if_pos (by decide +kernel)]; kernel_rfl) | (rw [if_neg (by decide +kernel)]; exact ⟨rfl, rfl⟩))
    (fun os started H enc _ => lifted os started H enc)

/-- ████ THE STATEMENT ████ -/
theorem proved : Rows.NumberTurnsSaid :=
  over
#print axioms proved
end Go.Proofs.Ytljefgjbneefkaa.numberTurns
