/- The law NumberWhole holds: for every input its Go function returns true and leaves its arguments as they were. No condition beyond the row's own. -/
import Derived.Test.YtljefgjbneefkaaRows
import Derived.WalkKit
import Derived.ProofKit
import Derived.OpenShut
import Derived.Test.YtljefgjbneefkaaCpxR
import Derived.Lib.Hide
namespace Go.Proofs.Ytljefgjbneefkaa.numberWhole
open Go.ChangeShapes Go.WideShapes Go.ChangeAt Go.RowKit
set_option linter.unusedVariables false      -- a walk need not use every 'w<i>' (that an integer argument fits its kind)

theorem own : ownKnob Try.prog.godebug = none := by kernel_rfl

/-! ### STEP 1: THE WALK: the Go text returns true. 'Grown w w'': the world has at most new blocks (Derived/RowKit3.lean). Part the cases AHEAD of 'go_enter' where a test parts the walk; take each callee by a contract of your own. -/
open Go.Proofs.Ytljefgjbneefkaa.num Go.Proofs.Ytljefgjbneefkaa.flt
theorem mod_10k (a : Int) : -9999 ≤ a.tmod 10000 ∧ a.tmod 10000 ≤ 9999 := by
  have h := Int.natAbs_tmod a 10000
  have h2 := Nat.mod_lt a.natAbs (y := (10000 : Int).natAbs) (by decide)
  omega
theorem mul_10k (a b : Int) (ha : -9999 ≤ a ∧ a ≤ 9999) (hb : -9999 ≤ b ∧ b ≤ 9999) : -100000000 ≤ a * b ∧ a * b ≤ 100000000 := by
  obtain ⟨ha1, ha2⟩ := ha; obtain ⟨hb1, hb2⟩ := hb
  have h1 : 0 ≤ (9999 - a) * (9999 - b) := Int.mul_nonneg (by omega) (by omega)
  have h2 : 0 ≤ (9999 + a) * (9999 - b) := Int.mul_nonneg (by omega) (by omega)
  have h3 : 0 ≤ (9999 - a) * (9999 + b) := Int.mul_nonneg (by omega) (by omega)
  have h4 : 0 ≤ (9999 + a) * (9999 + b) := Int.mul_nonneg (by omega) (by omega)
  simp only [Int.sub_mul, Int.mul_sub, Int.add_mul, Int.mul_add] at h1 h2 h3 h4
  omega
set_option maxHeartbeats 4000000 in
theorem walk (a0 : Int) (a1 : Int) (a2 : Int) (a3 : Int) (w0 : (Lit.int .i64 a0).wf = true) (w1 : (Lit.int .i64 a1).wf = true) (w2 : (Lit.int .i64 a2).wf = true) (w3 : (Lit.int .i64 a3).wf = true) (w : World) :
    Calls Try.prog 4 #[.int .i64 a0, .int .i64 a1, .int .i64 a2, .int .i64 a3] w fun e w' => e = .returned (.bool true) ∧ Grown w w' := by
  have m0 := mod_10k a0; have m1 := mod_10k a1; have m2 := mod_10k a2; have m3 := mod_10k a3
  clear w0 w1 w2 w3
  go_enter Try.func4, Try.ntmps4
  go_wp2_with fail
  generalize a0.tmod 10000 = p at *
  generalize a1.tmod 10000 = q at *
  generalize a2.tmod 10000 = r at *
  generalize a3.tmod 10000 = s at *
  have fp := is_ofInt p (by omega); have fq := is_ofInt q (by omega); have fr := is_ofInt r (by omega); have fs := is_ofInt s (by omega)
  have b1 := mul_10k p r m0 m2; have b2 := mul_10k q s m1 m3; have b3 := mul_10k p s m0 m3; have b4 := mul_10k q r m1 m2
  have HP := Lib.hid fp; have HQ := Lib.hid fq; have HR := Lib.hid fr; have HS := Lib.hid fs
  clear fp fq fr fs
  refine (addC_any _ _ _ _ _).mono ?_; rintro e w1 ⟨rfl, g1⟩
  have i1 := av_add HP.out HR.out (by omega); have i2 := av_add HQ.out HS.out (by omega)
  generalize av .add (floatOfInt .f64 p) (floatOfInt .f64 r) = u1 at *
  generalize av .add (floatOfInt .f64 q) (floatOfInt .f64 s) = u2 at *
  have o1 := eqo i1 (is_ofInt (p + r) (by omega)); have o2 := eqo i2 (is_ofInt (q + s) (by omega))
  clear i1 i2
  go_wp2_with fail
  clear o1 o2
  refine (subC_any _ _ _ _ _).mono ?_; rintro e w2 ⟨rfl, g2⟩
  have i1 := av_sub HP.out HR.out (by omega); have i2 := av_sub HQ.out HS.out (by omega)
  generalize av .sub (floatOfInt .f64 p) (floatOfInt .f64 r) = u3 at *
  generalize av .sub (floatOfInt .f64 q) (floatOfInt .f64 s) = u4 at *
  have o1 := eqo i1 (is_ofInt (p - r) (by omega)); have o2 := eqo i2 (is_ofInt (q - s) (by omega))
  clear i1 i2
  go_wp2_with fail
  clear o1 o2
  refine (mulC_any _ _ _ _ _).mono ?_; rintro e w3 ⟨rfl, g3⟩
  have i1 := mre_is HP.out HQ.out HR.out HS.out (by omega) (by omega) (by omega)
  have i2 := mim_is HP.out HQ.out HR.out HS.out (by omega) (by omega) (by omega)
  generalize mre (floatOfInt .f64 p) (floatOfInt .f64 q) (floatOfInt .f64 r) (floatOfInt .f64 s) = u5 at *
  generalize mim (floatOfInt .f64 p) (floatOfInt .f64 q) (floatOfInt .f64 r) (floatOfInt .f64 s) = u6 at *
  have o1 := eqo i1 (is_ofInt (p * r - q * s) (by omega)); have o2 := eqo i2 (is_ofInt (p * s + q * r) (by omega))
  clear i1 i2
  go_wp2_with fail
  clear o1 o2
  refine (mulC_any _ _ _ _ _).mono ?_; rintro e w4 ⟨rfl, g4⟩
  go_wp2_with fail
  refine (mulC_any _ _ _ _ _).mono ?_; rintro e w5 ⟨rfl, g5⟩
  go_wp2_with fail
  refine (same_any _ _ _ _ _ (mre_comm _ _ _ _) (mim_comm _ _ _ _)).mono ?_; rintro e w' ⟨rfl, rfl⟩
  go_wp2_with fail
  refine (awake_any _).mono ?_; rintro e w' ⟨rfl, rfl⟩
  go_wp2_with fail
  go_ret
  exact ⟨rfl, grown_trans (grown_trans g1 g2) (grown_trans g3 (grown_trans g4 g5))⟩

/-! ### THE ROW's STEP: WRITTEN OUT: LEAVE IT -/
set_option maxRecDepth 100000 in
theorem lifted (os : Os) (started : os.Started) (H : Type) (enc : TypeId × Value → H) :
    ReturnsInHanded {} Try.checked os 4 .any (Rows.numberWholeSpec.pre6 enc Try.prog Try.f4 Rows.numberWholeRow.domain false) (Rows.numberWholeSpec.post enc Try.prog Try.f4 false true false false) := by
  refine returnsInHanded_of_change (C := Try.checked) own started (by kernel_rfl) Try.func4
    (ChangeSpec.witness6 (enc := enc) (C := Try.checked) false ⟨#[], #[.int .i64 0, .int .i64 0, .int .i64 0, .int .i64 0], []⟩ 8 (by kernel_rfl) (by kernel_rfl) (by kernel_rfl) (by kernel_rfl)) ?_
  intro W base args ds gs before hval0 hW hcnd _
  have hval : ∀ (j : Nat) t v, Try.f4.params[j]? = some t → args[j]? = some v → Value.okWide Try.prog W .any base t v := hval0
  have hW' := hW
  obtain ⟨p, q, hA0, hV, rfl, hfz, hnd⟩ := hW
  have hA : DataW.TrodAll enc Try.prog W 0 (fun _ => true) true Try.f4.params.toList args.toList ds p := hA0
  rw [Try.params4] at hA hval
  obtain ⟨v0, vs0, d0, ds0, p0, q0, hargs, rfl, rfl, h0, r0⟩ := trodAll_cons hA
  obtain ⟨v1, vs1, d1, ds1, p1, q1, rfl, rfl, rfl, h1, r1⟩ := trodAll_cons r0
  obtain ⟨v2, vs2, d2, ds2, p2, q2, rfl, rfl, rfl, h2, r2⟩ := trodAll_cons r1
  obtain ⟨v3, vs3, d3, ds3, p3, q3, rfl, rfl, rfl, h3, r3⟩ := trodAll_cons r2
  obtain ⟨rfl, rfl, rfl⟩ := trodAll_nil r3
  obtain rfl : args = #[v0, v1, v2, v3] := by cases args; simp_all
  obtain ⟨rfl, rfl⟩ := trodVars_none hV
  obtain ⟨a0, rfl, rfl, rfl, w0⟩ := open_int Try.underlying3 (hval 0 3 v0 rfl rfl) h0
  obtain ⟨a1, rfl, rfl, rfl, w1⟩ := open_int Try.underlying3 (hval 1 3 v1 rfl rfl) h1
  obtain ⟨a2, rfl, rfl, rfl, w2⟩ := open_int Try.underlying3 (hval 2 3 v2 rfl rfl) h2
  obtain ⟨a3, rfl, rfl, rfl, w3⟩ := open_int Try.underlying3 (hval 3 3 v3 rfl rfl) h3
  clear hA0 hval0
  simp only [List.append_nil] at hW'
  refine (walk a0 a1 a2 a3 w0 w1 w2 w3 W).mono fun e W' ⟨he, hg⟩ => ?_
  subst he
  exact ⟨_, rfl, post_of_same (pa := []) (pv := []) hW' (fun _ _ _ => (trodAll_cons_mk (shut_bool Try.underlying4 _) trodAll_mk0)) (fun sp _ => (trodAll_cons_mk (shut_int Try.underlying3 w0) (trodAll_cons_mk (shut_int Try.underlying3 w1) (trodAll_cons_mk (shut_int Try.underlying3 w2) (trodAll_cons_mk (shut_int Try.underlying3 w3) trodAll_mk0))))) (fun _ _ => rfl) rfl
    (hg.frame _) hg.2.1 (ok_one (by kernel_rfl) rfl (okWide_bool_mk Try.underlying4 _))⟩

theorem over : Rows.numberWholeRow.holds Try.pinned (OpenSpec.ofChange Rows.numberWholeSpec) :=
  OpenClaim.holds_of_wide 4 Try.f4 rfl rfl rfl rfl rfl rfl rfl ⟨rfl, rfl, rfl, rfl, rfl⟩ rfl rfl rfl rfl rfl (by kernel_rfl) Try.func4 (by kernel_rfl)
    (of_decide_eq_true (by kernel_rfl)) (by unfold Func.isWrapper; first | (rw [if_pos (by decide +kernel)]; kernel_rfl) | (rw [if_neg (by decide +kernel)]; exact ⟨rfl, rfl⟩))
    (fun os started H enc _ => lifted os started H enc)

/-- ████ THE STATEMENT ████ -/
theorem proved : Rows.NumberWholeSaid :=
  over
#print axioms proved
end Go.Proofs.Ytljefgjbneefkaa.numberWhole
