/- The law CellNumbers holds: for every input its Go function returns true and leaves its arguments as they were. No condition beyond the row's own. -/
import Derived.Test.YtmcfapefbakceaaRows
import Derived.WalkKit
import Derived.ProofKit
import Derived.OpenShut
import Derived.Test.YtmcfapefbakceaaCell
import Derived.Test.YtmcfapefbakceaaKit
import Derived.Lib.Hide
namespace Go.Proofs.Ytmcfapefbakceaa.cellNumbers
open Go.ChangeShapes Go.WideShapes Go.ChangeAt Go.RowKit
set_option linter.unusedVariables false      -- a walk need not use every 'w<i>' (that an integer argument fits its kind)

theorem own : ownKnob Try.prog.godebug = none := by kernel_rfl

/-! ### STEP 1: THE WALK: the Go text returns true. 'Grown w w'': the world has at most new blocks (Derived/RowKit3.lean). Part the cases AHEAD of 'go_enter' where a test parts the walk; take each callee by a contract of your own. -/
open Go.Proofs.Ytmcfapefbakceaa.num Go.Proofs.Ytmcfapefbakceaa.cel
theorem sv_w {n : Int} : W64 (sv n) := by unfold sv; split; exact jn_w _ (by decide) (by decide); exact ⟨by decide, by decide⟩
theorem sv_parts (n : Int) : pa (sv n) = 0 ∧ pk (sv n) = 0 := by
  have h : sv n % 8 ≠ 6 := by unfold sv jn; split <;> omega
  exact ⟨if_neg h, if_neg h⟩
theorem walk (a0 : Int) (a1 : Int) (a2 : Int) (w0 : (Lit.int .i64 a0).wf = true) (w1 : (Lit.int .i64 a1).wf = true) (w2 : (Lit.int .i64 a2).wf = true) (w : World) :
    Calls Try.prog 4 #[.int .i64 a0, .int .i64 a1, .int .i64 a2] w fun e w' => e = .returned (.bool true) ∧ Below w.heap.size w w' := by
  have hn := Lib.hid (i64_wf w0); have ha := Lib.hid (i64_wf w1); have hk := Lib.hid (i64_wf w2)
  have hp := Lib.hid (sv_parts a0)
  clear w0 w1 w2
  by_cases hh : 0 ≤ a1 ∧ a1 < 4096 ∧ 1 ≤ a2 ∧ a2 ≤ 20
  · have e1 := Lib.hid (show fv a1 a2 = jn 6 (a1 * 256 + a2) from if_pos hh)
    have e2 := Lib.hid (show fo a1 a2 = true from decide_eq_true hh)
    obtain ⟨h1, h2, h3, h4⟩ := hh
    go_enter Try.func4, Try.ntmps4
    go_wp2_with fail
    refine (small_any a0 _ hn.out).mono ?_; rintro e w' ⟨rfl, rfl⟩
    go_wp2_with fail
    refine (rsmall_any a0 _ hn.out).mono ?_; rintro e w' ⟨rfl, rfl⟩
    go_wp2_with fail
    refine (functor_any a1 a2 _ ha.out hk.out).mono ?_; rintro e w' ⟨rfl, rfl⟩; rw [e1.out, e2.out]
    go_wp2_with fail
    refine (rfunctor_any a1 a2 _ h1 h2 (by omega) (by omega)).mono ?_; rintro e w' ⟨rfl, rfl⟩
    go_wp2_with fail
    refine (parts_any _ _ sv_w).mono ?_; rintro e w' ⟨rfl, rfl⟩; rw [hp.out.1, hp.out.2]
    go_wp2_with fail
    refine (awake_any _).mono ?_; rintro e w' ⟨rfl, rfl⟩
    go_wp2_with fail
    go_ret
    exact ⟨rfl, br _⟩
  · have e1 := Lib.hid (show fv a1 a2 = 0 from if_neg hh)
    have e2 := Lib.hid (show fo a1 a2 = false from decide_eq_false hh)
    have hc : a1 < 0 ∨ (0 ≤ a1 ∧ 4096 ≤ a1) ∨ (0 ≤ a1 ∧ a1 < 4096 ∧ a2 < 1) ∨ (0 ≤ a1 ∧ a1 < 4096 ∧ 1 ≤ a2 ∧ 20 < a2) := by omega
    clear hh
    rcases hc with h1 | ⟨h1, h2⟩ | ⟨h1, h2, h3⟩ | ⟨h1, h2, h3, h4⟩
    all_goals
      go_enter Try.func4, Try.ntmps4
      go_wp2_with fail
      refine (small_any a0 _ hn.out).mono ?_; rintro e w' ⟨rfl, rfl⟩
      go_wp2_with fail
      refine (rsmall_any a0 _ hn.out).mono ?_; rintro e w' ⟨rfl, rfl⟩
      go_wp2_with fail
      refine (functor_any a1 a2 _ ha.out hk.out).mono ?_; rintro e w' ⟨rfl, rfl⟩; rw [e1.out, e2.out]
      go_wp2_with fail
      refine (parts_any _ _ sv_w).mono ?_; rintro e w' ⟨rfl, rfl⟩; rw [hp.out.1, hp.out.2]
      go_wp2_with fail
      refine (awake_any _).mono ?_; rintro e w' ⟨rfl, rfl⟩
      go_wp2_with fail
      go_ret
      exact ⟨rfl, br _⟩

/-! ### THE ROW's STEP: WRITTEN OUT: LEAVE IT -/
set_option maxRecDepth 100000 in
theorem lifted (os : Os) (started : os.Started) (H : Type) (enc : TypeId × Value → H) :
    ReturnsInHanded {} Try.checked os 4 .any (Rows.cellNumbersSpec.pre6 enc Try.prog Try.f4 Rows.cellNumbersRow.domain false) (Rows.cellNumbersSpec.post enc Try.prog Try.f4 false true false false) := by
  refine returnsInHanded_of_change (C := Try.checked) own started (by kernel_rfl) Try.func4
    (ChangeSpec.witness6 (enc := enc) (C := Try.checked) false ⟨#[], #[.int .i64 0, .int .i64 0, .int .i64 0], []⟩ 8 (by kernel_rfl) (by kernel_rfl) (by kernel_rfl) (by kernel_rfl)) ?_
  intro W base args ds gs before hval0 hW hcnd _
  have hval : ∀ (j : Nat) t v, Try.f4.params[j]? = some t → args[j]? = some v → Value.okWide Try.prog W .any base t v := hval0
  have hW' := hW
  obtain ⟨p, q, hA0, hV, rfl, hfz, hnd⟩ := hW
  have hA : DataW.TrodAll enc Try.prog W 0 (fun _ => true) true Try.f4.params.toList args.toList ds p := hA0
  rw [Try.params4] at hA hval
  obtain ⟨v0, vs0, d0, ds0, p0, q0, hargs, rfl, rfl, h0, r0⟩ := trodAll_cons hA
  obtain ⟨v1, vs1, d1, ds1, p1, q1, rfl, rfl, rfl, h1, r1⟩ := trodAll_cons r0
  obtain ⟨v2, vs2, d2, ds2, p2, q2, rfl, rfl, rfl, h2, r2⟩ := trodAll_cons r1
  obtain ⟨rfl, rfl, rfl⟩ := trodAll_nil r2
  obtain rfl : args = #[v0, v1, v2] := by cases args; simp_all
  obtain ⟨rfl, rfl⟩ := trodVars_none hV
  obtain ⟨a0, rfl, rfl, rfl, w0⟩ := open_int Try.underlying2 (hval 0 2 v0 rfl rfl) h0
  obtain ⟨a1, rfl, rfl, rfl, w1⟩ := open_int Try.underlying3 (hval 1 3 v1 rfl rfl) h1
  obtain ⟨a2, rfl, rfl, rfl, w2⟩ := open_int Try.underlying3 (hval 2 3 v2 rfl rfl) h2
  clear hA0 hval0
  simp only [List.append_nil] at hW'
  refine (walk a0 a1 a2 w0 w1 w2 W).mono fun e W' ⟨he, hg⟩ => ?_
  subst he
  refine ⟨_, rfl, _, _, _, [], [], [], hW', ?_, ?_, rfl, hg.frame _, fun h => by cases h⟩
  · exact (trodAll_cons_mk (shut_bool Try.underlying4 _) trodAll_mk0)
  · exact (trodAll_cons_mk (shut_int Try.underlying2 w0) (trodAll_cons_mk (shut_int Try.underlying3 w1) (trodAll_cons_mk (shut_int Try.underlying3 w2) trodAll_mk0)))

theorem over : Rows.cellNumbersRow.holds Try.pinned (OpenSpec.ofChange Rows.cellNumbersSpec) :=
  OpenClaim.holds_of_wide 4 Try.f4 rfl rfl rfl rfl rfl rfl rfl ⟨rfl, rfl, rfl, rfl, rfl⟩ rfl rfl rfl rfl rfl (by kernel_rfl) Try.func4 (by kernel_rfl)
    (of_decide_eq_true (by kernel_rfl)) (by unfold Func.isWrapper; first | (rw [if_pos (by decide +kernel)]; kernel_rfl) | (rw [if_neg (by decide +kernel)]; exact ⟨rfl, rfl⟩))
    (fun os started H enc _ => lifted os started H enc)

/-- ████ THE STATEMENT ████ -/
theorem proved : Rows.CellNumbersSaid :=
  over
#print axioms proved
end Go.Proofs.Ytmcfapefbakceaa.cellNumbers
