/- The law CellOrder holds: for every input its Go function returns true and leaves its arguments as they were. No condition beyond the row's own. -/
import Derived.Test.YtmcfapefbakceaaRows
import Derived.WalkKit
import Derived.ProofKit
import Derived.OpenShut
import Derived.Test.YtmcfapefbakceaaCell
import Derived.Test.YtmcfapefbakceaaKit
import Derived.Lib.Hide
namespace Go.Proofs.Ytmcfapefbakceaa.cellOrder
open Go.ChangeShapes Go.WideShapes Go.ChangeAt Go.RowKit
set_option linter.unusedVariables false      -- a walk need not use every 'w<i>' (that an integer argument fits its kind)

theorem own : ownKnob Try.prog.godebug = none := by kernel_rfl

/-! ### STEP 1: THE WALK: the Go text returns true. 'Grown w w'': the world has at most new blocks (Derived/RowKit3.lean). Part the cases AHEAD of 'go_enter' where a test parts the walk; take each callee by a contract of your own. -/
open Go.Proofs.Ytmcfapefbakceaa.num Go.Proofs.Ytmcfapefbakceaa.cel
theorem wu (n : Int) : W64 (IntKind.u64.wrap n) := by rw [IntKind.wrap_u64]; exact ⟨by omega, by omega⟩
theorem k_in (a : Int) : 0 ≤ (IntKind.u64.wrap a).tmod 5 ∧ (IntKind.u64.wrap a).tmod 5 < 5 := by
  rw [Int.tmod_eq_emod_of_nonneg (wu a).1]
  exact ⟨Int.emod_nonneg _ (by omega), Int.emod_lt_of_pos _ (by decide)⟩
theorem sm {n : Int} (h : I64 n) : -1152921504606846976 ≤ n / 16 ∧ n / 16 < 1152921504606846976 := by obtain ⟨h0, h1⟩ := h; omega
theorem so_hi {k : Int} (h : 0 ≤ k ∧ k < 5) : so (wrap64 (wrap64 (1152921504606846976 + wrap64 k) - 2)) = decide (k < 2) ∧ I64 (wrap64 (wrap64 (1152921504606846976 + wrap64 k) - 2)) := by
  have e : wrap64 (wrap64 (1152921504606846976 + wrap64 k) - 2) = 1152921504606846974 + k := by unfold wrap64; omega
  rw [e]; refine ⟨?_, by omega, by omega⟩
  unfold so; rw [decide_eq_decide]; omega
theorem so_lo {k : Int} (h : 0 ≤ k ∧ k < 5) : so (wrap64 (wrap64 (-1152921504606846976 + wrap64 k) - 2)) = decide (k ≥ 2) ∧ I64 (wrap64 (wrap64 (-1152921504606846976 + wrap64 k) - 2)) := by
  have e : wrap64 (wrap64 (-1152921504606846976 + wrap64 k) - 2) = -1152921504606846978 + k := by unfold wrap64; omega
  rw [e]; refine ⟨?_, by omega, by omega⟩
  unfold so; rw [decide_eq_decide]; omega
theorem sg_in {n : Int} (h : -1152921504606846976 ≤ n ∧ n < 1152921504606846976) : sg (jn 3 n) = n := by unfold sg jn wrap64; omega
theorem walk (a0 : Int) (a1 : Int) (a2 : Int) (w0 : (Lit.int .i64 a0).wf = true) (w1 : (Lit.int .i64 a1).wf = true) (w2 : (Lit.int .i64 a2).wf = true) (w : World) :
    Calls Try.prog 7 #[.int .i64 a0, .int .i64 a1, .int .i64 a2] w fun e w' => e = .returned (.bool true) ∧ Below w.heap.size w w' := by
  have hn := Lib.hid (i64_wf w0); have hm := Lib.hid (i64_wf w1); have hk := Lib.hid (k_in a2)
  have hN := Lib.hid (sm hn.out); have hM := Lib.hid (sm hm.out)
  clear w0 w1 w2
  go_enter Try.func7, Try.ntmps7
  go_wp2_with fail
  generalize a0 / 16 = N at *
  generalize a1 / 16 = M at *
  have e1 := Lib.hid (show sv N = jn 3 N from if_pos hN.out)
  have e2 := Lib.hid (show so N = true from decide_eq_true hN.out)
  have e3 := Lib.hid (show sv M = jn 3 M from if_pos hM.out)
  have e4 := Lib.hid (show so M = true from decide_eq_true hM.out)
  have f1 := Lib.hid (sg_in hN.out); have f2 := Lib.hid (sg_in hM.out)
  have g1 := Lib.hid (jn_w (t := 3) N (by decide) (by decide))
  have g2 := Lib.hid (jn_w (t := 3) M (by decide) (by decide))
  refine (small_any N _ ⟨by have := hN.out; omega, by have := hN.out; omega⟩).mono ?_; rintro e w' ⟨rfl, rfl⟩; rw [e1.out, e2.out]
  go_wp2_with fail
  refine (small_any M _ ⟨by have := hM.out; omega, by have := hM.out; omega⟩).mono ?_; rintro e w' ⟨rfl, rfl⟩; rw [e3.out, e4.out]
  go_wp2_with fail
  generalize hq : (IntKind.u64.wrap a2).tmod 5 = k at *
  have e5 := Lib.hid (so_hi hk.out); have e6 := Lib.hid (so_lo hk.out)
  refine (small_any _ _ e5.out.2).mono ?_; rintro e w' ⟨rfl, rfl⟩; rw [e5.out.1]
  go_wp2_with fail
  refine (small_any _ _ e6.out.2).mono ?_; rintro e w' ⟨rfl, rfl⟩; rw [e6.out.1]
  go_wp2_with fail
  by_cases hlt : N < M
  all_goals
    refine (int_any _ _ g1.out).mono ?_; rintro e w' ⟨rfl, rfl⟩; rw [f1.out]
    go_wp2_with fail
    refine (int_any _ _ g2.out).mono ?_; rintro e w' ⟨rfl, rfl⟩; rw [f2.out]
    go_wp2_with fail
    refine (awake_any _).mono ?_; rintro e w' ⟨rfl, rfl⟩
    go_wp2_with fail
    go_ret
    exact ⟨rfl, br _⟩

/-! ### THE ROW's STEP: WRITTEN OUT: LEAVE IT -/
set_option maxRecDepth 100000 in
theorem lifted (os : Os) (started : os.Started) (H : Type) (enc : TypeId × Value → H) :
    ReturnsInHanded {} Try.checked os 7 .any (Rows.cellOrderSpec.pre6 enc Try.prog Try.f7 Rows.cellOrderRow.domain false) (Rows.cellOrderSpec.post enc Try.prog Try.f7 false true false false) := by
  refine returnsInHanded_of_change (C := Try.checked) own started (by kernel_rfl) Try.func7
    (ChangeSpec.witness6 (enc := enc) (C := Try.checked) false ⟨#[], #[.int .i64 0, .int .i64 0, .int .i64 0], []⟩ 8 (by kernel_rfl) (by kernel_rfl) (by kernel_rfl) (by kernel_rfl)) ?_
  intro W base args ds gs before hval0 hW hcnd _
  have hval : ∀ (j : Nat) t v, Try.f7.params[j]? = some t → args[j]? = some v → Value.okWide Try.prog W .any base t v := hval0
  have hW' := hW
  obtain ⟨p, q, hA0, hV, rfl, hfz, hnd⟩ := hW
  have hA : DataW.TrodAll enc Try.prog W 0 (fun _ => true) true Try.f7.params.toList args.toList ds p := hA0
  rw [Try.params7] at hA hval
  obtain ⟨v0, vs0, d0, ds0, p0, q0, hargs, rfl, rfl, h0, r0⟩ := trodAll_cons hA
  obtain ⟨v1, vs1, d1, ds1, p1, q1, rfl, rfl, rfl, h1, r1⟩ := trodAll_cons r0
  obtain ⟨v2, vs2, d2, ds2, p2, q2, rfl, rfl, rfl, h2, r2⟩ := trodAll_cons r1
  obtain ⟨rfl, rfl, rfl⟩ := trodAll_nil r2
  obtain rfl : args = #[v0, v1, v2] := by cases args; simp_all
  obtain ⟨rfl, rfl⟩ := trodVars_none hV
  obtain ⟨a0, rfl, rfl, rfl, w0⟩ := open_int Try.underlying2 (hval 0 2 v0 rfl rfl) h0
  obtain ⟨a1, rfl, rfl, rfl, w1⟩ := open_int Try.underlying2 (hval 1 2 v1 rfl rfl) h1
  obtain ⟨a2, rfl, rfl, rfl, w2⟩ := open_int Try.underlying3 (hval 2 3 v2 rfl rfl) h2
  clear hA0 hval0
  simp only [List.append_nil] at hW'
  refine (walk a0 a1 a2 w0 w1 w2 W).mono fun e W' ⟨he, hg⟩ => ?_
  subst he
  refine ⟨_, rfl, _, _, _, [], [], [], hW', ?_, ?_, rfl, hg.frame _, fun h => by cases h⟩
  · exact (trodAll_cons_mk (shut_bool Try.underlying4 _) trodAll_mk0)
  · exact (trodAll_cons_mk (shut_int Try.underlying2 w0) (trodAll_cons_mk (shut_int Try.underlying2 w1) (trodAll_cons_mk (shut_int Try.underlying3 w2) trodAll_mk0)))

theorem over : Rows.cellOrderRow.holds Try.pinned (OpenSpec.ofChange Rows.cellOrderSpec) :=
  OpenClaim.holds_of_wide 7 Try.f7 rfl rfl rfl rfl rfl rfl rfl ⟨rfl, rfl, rfl, rfl, rfl⟩ rfl rfl rfl rfl rfl (by kernel_rfl) Try.func7 (by kernel_rfl)
    (of_decide_eq_true (by kernel_rfl)) (by unfold Func.isWrapper; first | (rw [if_pos (by decide +kernel)]; kernel_rfl) | (rw [if_neg (by decide +kernel)]; exact ⟨rfl, rfl⟩))
    (fun os started H enc _ => lifted os started H enc)

/-- ████ THE STATEMENT ████ -/
theorem proved : Rows.CellOrderSaid :=
  over
#print axioms proved
end Go.Proofs.Ytmcfapefbakceaa.cellOrder
