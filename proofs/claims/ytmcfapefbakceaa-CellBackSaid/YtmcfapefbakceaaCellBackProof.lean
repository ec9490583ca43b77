/- The law CellBack holds: for every input its Go function returns true and leaves its arguments as they were. No condition beyond the row's own. -/
import Derived.Test.YtmcfapefbakceaaRows
import Derived.WalkKit
import Derived.ProofKit
import Derived.OpenShut
import Derived.Test.YtmcfapefbakceaaCell
import Derived.Test.YtmcfapefbakceaaKit
import Derived.Lib.Hide
namespace Go.Proofs.Ytmcfapefbakceaa.cellBack
open Go.ChangeShapes Go.WideShapes Go.ChangeAt Go.RowKit
set_option linter.unusedVariables false      -- a walk need not use every 'w<i>' (that an integer argument fits its kind)

theorem own : ownKnob Try.prog.godebug = none := by kernel_rfl

/-! ### STEP 1: THE WALK: the Go text returns true. 'Grown w w'': the world has at most new blocks (Derived/RowKit3.lean). Part the cases AHEAD of 'go_enter' where a test parts the walk; take each callee by a contract of your own. -/
open Go.Proofs.Ytmcfapefbakceaa.num Go.Proofs.Ytmcfapefbakceaa.cel
theorem tmod_in (x m : Int) (h : W64 x) (hm : 0 < m) : 0 ≤ x.tmod m ∧ x.tmod m < m := by
  rw [Int.tmod_eq_emod_of_nonneg h.1]
  exact ⟨Int.emod_nonneg _ (by omega), Int.emod_lt_of_pos _ hm⟩
theorem wu (n : Int) : W64 (IntKind.u64.wrap n) := by rw [IntKind.wrap_u64]; exact ⟨by omega, by omega⟩
theorem w_in {n : Int} (h : 0 ≤ n ∧ n < 9223372036854775808) : wrap64 n = n := by unfold wrap64; omega
theorem t_in (a : Int) : 0 ≤ wrap64 ((IntKind.u64.wrap a).tmod 7) ∧ wrap64 ((IntKind.u64.wrap a).tmod 7) < 7 := by
  have h := tmod_in _ 7 (wu a) (by decide); rw [w_in ⟨h.1, by omega⟩]; exact h
theorem a_in (a : Int) : 0 ≤ wrap64 ((IntKind.u64.wrap a).tmod 4096) ∧ wrap64 ((IntKind.u64.wrap a).tmod 4096) < 4096 := by
  have h := tmod_in _ 4096 (wu a) (by decide); rw [w_in ⟨h.1, by omega⟩]; exact h
theorem k_in (a : Int) : 1 ≤ wrap64 (wrap64 ((IntKind.u64.wrap a).tmod 20) + 1) ∧ wrap64 (wrap64 ((IntKind.u64.wrap a).tmod 20) + 1) ≤ 20 := by
  have h := tmod_in _ 20 (wu a) (by decide); rw [w_in ⟨h.1, by omega⟩, w_in ⟨by omega, by omega⟩]; omega
theorem n_in (a : Int) (h : W64 a) : 0 ≤ bits .and .u64 a 2305843009213693951 ∧ bits .and .u64 a 2305843009213693951 < 2305843009213693952 := by
  rw [and61 a h]; omega
theorem i_in (a : Int) : -1152921504606846976 ≤ wrap64 (a * 8) / 8 ∧ wrap64 (a * 8) / 8 < 1152921504606846976 := by unfold wrap64; omega
theorem walk (a0 : Int) (a1 : Int) (a2 : Int) (a3 : Int) (a4 : Int) (w0 : (Lit.int .i64 a0).wf = true) (w1 : (Lit.int .u64 a1).wf = true) (w2 : (Lit.int .i64 a2).wf = true) (w3 : (Lit.int .i64 a3).wf = true) (w4 : (Lit.int .i64 a4).wf = true) (w : World) :
    Calls Try.prog 5 #[.int .i64 a0, .int .u64 a1, .int .i64 a2, .int .i64 a3, .int .i64 a4] w fun e w' => e = .returned (.bool true) ∧ Below w.heap.size w w' := by
  have hT := Lib.hid (t_in a0); have hN := Lib.hid (n_in a1 (w64_wf w1)); have hI := Lib.hid (i_in a2); have hA := Lib.hid (a_in a3); have hK := Lib.hid (k_in a4)
  clear w0 w1 w2 w3 w4
  go_enter Try.func5, Try.ntmps5
  go_wp2_with fail
  generalize wrap64 ((IntKind.u64.wrap a0).tmod 7) = T at *
  generalize bits .and .u64 a1 2305843009213693951 = N at *
  generalize wrap64 (a2 * 8) / 8 = I at *
  generalize wrap64 ((IntKind.u64.wrap a3).tmod 4096) = X at *
  generalize wrap64 (wrap64 ((IntKind.u64.wrap a4).tmod 20) + 1) = K at *
  have e1 := Lib.hid (show mv T N = jn T N from if_pos ⟨hT.out.1, by have := hT.out.2; omega, hN.out.2⟩)
  have e2 := Lib.hid (show mo T N = true from decide_eq_true ⟨hT.out.1, by have := hT.out.2; omega, hN.out.2⟩)
  have e3 := Lib.hid (show sv I = jn 3 I from if_pos hI.out)
  have e4 := Lib.hid (show so I = true from decide_eq_true hI.out)
  have e5 := Lib.hid (show fv X K = jn 6 (X * 256 + K) from if_pos ⟨hA.out.1, hA.out.2, hK.out.1, hK.out.2⟩)
  have e6 := Lib.hid (show fo X K = true from decide_eq_true ⟨hA.out.1, hA.out.2, hK.out.1, hK.out.2⟩)
  have f1 := Lib.hid (show jn T N % 8 = T by have := hT.out; have := hN.out; unfold jn; omega)
  have f2 := Lib.hid (show jn T N / 8 = N by have := hT.out; have := hN.out; unfold jn; omega)
  have f3 := Lib.hid (show sg (jn 3 I) = I by have := hI.out; unfold sg jn wrap64; omega)
  have f4 := Lib.hid (show jn 6 (X * 256 + K) % 8 = 6 by unfold jn; omega)
  have f5 := Lib.hid (show pa (jn 6 (X * 256 + K)) = X by
    have h : jn 6 (X * 256 + K) % 8 = 6 := f4.out
    show (if _ then _ else _) = _; rw [if_pos h]; have := hA.out; have := hK.out; unfold jn; omega)
  have f6 := Lib.hid (show pk (jn 6 (X * 256 + K)) = K by
    have h : jn 6 (X * 256 + K) % 8 = 6 := f4.out
    show (if _ then _ else _) = _; rw [if_pos h]; have := hA.out; have := hK.out; unfold jn; omega)
  have g1 := Lib.hid (jn_w (t := T) N hT.out.1 (by have := hT.out.2; omega))
  have g2 := Lib.hid (jn_w (t := 3) I (by decide) (by decide))
  have g3 := Lib.hid (jn_w (t := 6) (X * 256 + K) (by decide) (by decide))
  refine (make_any T N _ ⟨by have := hT.out; omega, by have := hT.out; omega⟩ ⟨by have := hN.out; omega, by have := hN.out; omega⟩).mono ?_; rintro e w' ⟨rfl, rfl⟩; rw [e1.out, e2.out]
  go_wp2_with fail
  refine (small_any I _ ⟨by have := hI.out; omega, by have := hI.out; omega⟩).mono ?_; rintro e w' ⟨rfl, rfl⟩; rw [e3.out, e4.out]
  go_wp2_with fail
  refine (functor_any X K _ ⟨by have := hA.out; omega, by have := hA.out; omega⟩ ⟨by have := hK.out; omega, by have := hK.out; omega⟩).mono ?_; rintro e w' ⟨rfl, rfl⟩; rw [e5.out, e6.out]
  go_wp2_with fail
  refine (parts_any _ _ g3.out).mono ?_; rintro e w' ⟨rfl, rfl⟩; rw [f5.out, f6.out]
  go_wp2_with fail
  refine (tag_any _ _ g1.out).mono ?_; rintro e w' ⟨rfl, rfl⟩; rw [f1.out]
  go_wp2_with fail
  refine (value_any _ _ g1.out).mono ?_; rintro e w' ⟨rfl, rfl⟩; rw [f2.out]
  go_wp2_with fail
  refine (int_any _ _ g2.out).mono ?_; rintro e w' ⟨rfl, rfl⟩; rw [f3.out]
  go_wp2_with fail
  refine (tag_any _ _ g3.out).mono ?_; rintro e w' ⟨rfl, rfl⟩; rw [f4.out]
  go_wp2_with fail
  refine (awake_any _).mono ?_; rintro e w' ⟨rfl, rfl⟩
  go_wp2_with fail
  go_ret
  exact ⟨rfl, br _⟩

/-! ### THE ROW's STEP: WRITTEN OUT: LEAVE IT -/
set_option maxRecDepth 100000 in
theorem lifted (os : Os) (started : os.Started) (H : Type) (enc : TypeId × Value → H) :
    ReturnsInHanded {} Try.checked os 5 .any (Rows.cellBackSpec.pre6 enc Try.prog Try.f5 Rows.cellBackRow.domain false) (Rows.cellBackSpec.post enc Try.prog Try.f5 false true false false) := by
  refine returnsInHanded_of_change (C := Try.checked) own started (by kernel_rfl) Try.func5
    (ChangeSpec.witness6 (enc := enc) (C := Try.checked) false ⟨#[], #[.int .i64 0, .int .u64 0, .int .i64 0, .int .i64 0, .int .i64 0], []⟩ 8 (by kernel_rfl) (by kernel_rfl) (by kernel_rfl) (by kernel_rfl)) ?_
  intro W base args ds gs before hval0 hW hcnd _
  have hval : ∀ (j : Nat) t v, Try.f5.params[j]? = some t → args[j]? = some v → Value.okWide Try.prog W .any base t v := hval0
  have hW' := hW
  obtain ⟨p, q, hA0, hV, rfl, hfz, hnd⟩ := hW
  have hA : DataW.TrodAll enc Try.prog W 0 (fun _ => true) true Try.f5.params.toList args.toList ds p := hA0
  rw [Try.params5] at hA hval
  obtain ⟨v0, vs0, d0, ds0, p0, q0, hargs, rfl, rfl, h0, r0⟩ := trodAll_cons hA
  obtain ⟨v1, vs1, d1, ds1, p1, q1, rfl, rfl, rfl, h1, r1⟩ := trodAll_cons r0
  obtain ⟨v2, vs2, d2, ds2, p2, q2, rfl, rfl, rfl, h2, r2⟩ := trodAll_cons r1
  obtain ⟨v3, vs3, d3, ds3, p3, q3, rfl, rfl, rfl, h3, r3⟩ := trodAll_cons r2
  obtain ⟨v4, vs4, d4, ds4, p4, q4, rfl, rfl, rfl, h4, r4⟩ := trodAll_cons r3
  obtain ⟨rfl, rfl, rfl⟩ := trodAll_nil r4
  obtain rfl : args = #[v0, v1, v2, v3, v4] := by cases args; simp_all
  obtain ⟨rfl, rfl⟩ := trodVars_none hV
  obtain ⟨a0, rfl, rfl, rfl, w0⟩ := open_int Try.underlying3 (hval 0 3 v0 rfl rfl) h0
  obtain ⟨a1, rfl, rfl, rfl, w1⟩ := open_int Try.underlying22 (hval 1 22 v1 rfl rfl) h1
  obtain ⟨a2, rfl, rfl, rfl, w2⟩ := open_int Try.underlying2 (hval 2 2 v2 rfl rfl) h2
  obtain ⟨a3, rfl, rfl, rfl, w3⟩ := open_int Try.underlying3 (hval 3 3 v3 rfl rfl) h3
  obtain ⟨a4, rfl, rfl, rfl, w4⟩ := open_int Try.underlying3 (hval 4 3 v4 rfl rfl) h4
  clear hA0 hval0
  simp only [List.append_nil] at hW'
  refine (walk a0 a1 a2 a3 a4 w0 w1 w2 w3 w4 W).mono fun e W' ⟨he, hg⟩ => ?_
  subst he
  refine ⟨_, rfl, _, _, _, [], [], [], hW', ?_, ?_, rfl, hg.frame _, fun h => by cases h⟩
  · exact (trodAll_cons_mk (shut_bool Try.underlying4 _) trodAll_mk0)
  · exact (trodAll_cons_mk (shut_int Try.underlying3 w0) (trodAll_cons_mk (shut_int Try.underlying22 w1) (trodAll_cons_mk (shut_int Try.underlying2 w2) (trodAll_cons_mk (shut_int Try.underlying3 w3) (trodAll_cons_mk (shut_int Try.underlying3 w4) trodAll_mk0)))))

theorem over : Rows.cellBackRow.holds Try.pinned (OpenSpec.ofChange Rows.cellBackSpec) :=
  OpenClaim.holds_of_wide 5 Try.f5 rfl rfl rfl rfl rfl rfl rfl ⟨rfl, rfl, rfl, rfl, rfl⟩ rfl rfl rfl rfl rfl (by kernel_rfl) Try.func5 (by kernel_rfl)
    (of_decide_eq_true (by kernel_rfl)) (by unfold Func.isWrapper; first | (rw [if_pos (by decide +kernel)]; kernel_rfl) | (rw [if_neg (by decide +kernel)]; exact ⟨rfl, rfl⟩))
    (fun os started H enc _ => lifted os started H enc)

/-- ████ THE STATEMENT ████ -/
theorem proved : Rows.CellBackSaid :=
  over
#print axioms proved
end Go.Proofs.Ytmcfapefbakceaa.cellBack
