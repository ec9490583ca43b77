/- The law CellApart holds: for every input its Go function returns true and leaves its arguments as they were. No condition beyond the row's own. -/
import Derived.Test.YtmcfapefbakceaaRows
import Derived.WalkKit
import Derived.ProofKit
import Derived.OpenShut
import Derived.Test.YtmcfapefbakceaaCell
import Derived.Test.YtmcfapefbakceaaKit
import Derived.Lib.Hide
namespace Go.Proofs.Ytmcfapefbakceaa.cellApart
open Go.ChangeShapes Go.WideShapes Go.ChangeAt Go.RowKit
set_option linter.unusedVariables false      -- a walk need not use every 'w<i>' (that an integer argument fits its kind)

theorem own : ownKnob Try.prog.godebug = none := by kernel_rfl

/-! ### STEP 1: THE WALK: the Go text returns true. 'Grown w w'': the world has at most new blocks (Derived/RowKit3.lean). Part the cases AHEAD of 'go_enter' where a test parts the walk; take each callee by a contract of your own. -/
open Go.Proofs.Ytmcfapefbakceaa.num Go.Proofs.Ytmcfapefbakceaa.cel
theorem walk (a0 : Int) (a1 : Int) (w0 : (Lit.int .u64 a0).wf = true) (w1 : (Lit.int .u64 a1).wf = true) (w : World) :
    Calls Try.prog 6 #[.int .u64 a0, .int .u64 a1] w fun e w' => e = .returned (.bool true) ∧ Below w.heap.size w w' := by
  have ha := Lib.hid (w64_wf w0); have hb := Lib.hid (w64_wf w1)
  clear w0 w1
  have hd : Hid (0 ≤ a0 % 8 ∧ a0 % 8 < 8 ∧ W64 (a0 / 8)) := Lib.hid (by obtain ⟨h, h'⟩ := ha.out; exact ⟨by omega, by omega, by omega, by omega⟩)
  have hj : Hid (jn (a0 % 8) (a0 / 8) = a0) := Lib.hid (by obtain ⟨h, h'⟩ := ha.out; unfold jn; omega)
  have key : a0 = a1 ∨ (a0 ≠ a1 ∧ a0 % 8 ≠ a1 % 8) ∨ (a0 ≠ a1 ∧ a0 % 8 = a1 % 8 ∧ a0 / 8 ≠ a1 / 8) := by omega
  by_cases h6 : a0 % 8 ≤ 6
  · have e1 : Hid (mv (a0 % 8) (a0 / 8) = a0) := Lib.hid (by
      show (if _ then _ else _) = _
      rw [if_pos ⟨hd.out.1, h6, by obtain ⟨h, h'⟩ := ha.out; omega⟩]; exact hj.out)
    have e2 : Hid (mo (a0 % 8) (a0 / 8) = true) := Lib.hid (decide_eq_true ⟨hd.out.1, h6, by obtain ⟨h, h'⟩ := ha.out; omega⟩)
    rcases key with k0 | ⟨k1, k2⟩ | ⟨k1, k2, k3⟩
    · subst k0
      generalize hp : a0 % 8 = p at *
      generalize hq : a0 / 8 = q at *
      have hp := Lib.hid hp; have hq := Lib.hid hq
      go_enter Try.func6, Try.ntmps6
      go_wp2_with fail
      refine (tag_any _ _ ha.out).mono ?_; rintro e w' ⟨rfl, rfl⟩; rw [hp.out]
      go_wp2_with fail
      refine (tag_any _ _ hb.out).mono ?_; rintro e w' ⟨rfl, rfl⟩; rw [hp.out]
      go_wp2_with fail
      refine (value_any _ _ ha.out).mono ?_; rintro e w' ⟨rfl, rfl⟩; rw [hq.out]
      go_wp2_with fail
      refine (value_any _ _ hb.out).mono ?_; rintro e w' ⟨rfl, rfl⟩; rw [hq.out]
      go_wp2_with fail
      refine (tag_any _ _ ha.out).mono ?_; rintro e w' ⟨rfl, rfl⟩; rw [hp.out]
      go_wp2_with fail
      refine (value_any _ _ ha.out).mono ?_; rintro e w' ⟨rfl, rfl⟩; rw [hq.out]
      go_wp2_with fail
      refine (make_any _ _ _ ⟨by have := hd.out.1; omega, by have := hd.out.2.1; omega⟩ hd.out.2.2).mono ?_; rintro e w' ⟨rfl, rfl⟩; rw [e1.out, e2.out]
      go_wp2_with fail
      refine (tag_any _ _ ha.out).mono ?_; rintro e w' ⟨rfl, rfl⟩; rw [hp.out]
      go_wp2_with fail
      refine (awake_any _).mono ?_; rintro e w' ⟨rfl, rfl⟩
      go_wp2_with fail
      go_ret
      exact ⟨rfl, br _⟩
    · generalize hp : a0 % 8 = p at *
      generalize hq : a0 / 8 = q at *
      generalize hp' : a1 % 8 = p' at *
      generalize hq' : a1 / 8 = q' at *
      have hp := Lib.hid hp; have hq := Lib.hid hq; have hp' := Lib.hid hp'; have hq' := Lib.hid hq'
      go_enter Try.func6, Try.ntmps6
      go_wp2_with fail
      refine (tag_any _ _ ha.out).mono ?_; rintro e w' ⟨rfl, rfl⟩; rw [hp.out]
      go_wp2_with fail
      refine (tag_any _ _ hb.out).mono ?_; rintro e w' ⟨rfl, rfl⟩; rw [hp'.out]
      go_wp2_with fail
      refine (tag_any _ _ ha.out).mono ?_; rintro e w' ⟨rfl, rfl⟩; rw [hp.out]
      go_wp2_with fail
      refine (value_any _ _ ha.out).mono ?_; rintro e w' ⟨rfl, rfl⟩; rw [hq.out]
      go_wp2_with fail
      refine (make_any _ _ _ ⟨by have := hd.out.1; omega, by have := hd.out.2.1; omega⟩ hd.out.2.2).mono ?_; rintro e w' ⟨rfl, rfl⟩; rw [e1.out, e2.out]
      go_wp2_with fail
      refine (tag_any _ _ ha.out).mono ?_; rintro e w' ⟨rfl, rfl⟩; rw [hp.out]
      go_wp2_with fail
      refine (awake_any _).mono ?_; rintro e w' ⟨rfl, rfl⟩
      go_wp2_with fail
      go_ret
      exact ⟨rfl, br _⟩
    · generalize hp : a0 % 8 = p at *
      generalize hq : a0 / 8 = q at *
      generalize hp' : a1 % 8 = p' at *
      generalize hq' : a1 / 8 = q' at *
      have hp := Lib.hid hp; have hq := Lib.hid hq; have hp' := Lib.hid hp'; have hq' := Lib.hid hq'
      subst k2
      have b1 : (a0 == a1) = false := by simpa using k1
      have b2 : (q == q') = false := by simpa using k3
      go_enter Try.func6, Try.ntmps6
      go_wp2_with fail
      refine (tag_any _ _ ha.out).mono ?_; rintro e w' ⟨rfl, rfl⟩; rw [hp.out]
      go_wp2_with fail
      refine (tag_any _ _ hb.out).mono ?_; rintro e w' ⟨rfl, rfl⟩; rw [hp'.out]
      go_wp2_with fail
      refine (value_any _ _ ha.out).mono ?_; rintro e w' ⟨rfl, rfl⟩; rw [hq.out]
      go_wp2_with fail
      refine (value_any _ _ hb.out).mono ?_; rintro e w' ⟨rfl, rfl⟩; rw [hq'.out]
      go_wp2_with fail
      refine (tag_any _ _ ha.out).mono ?_; rintro e w' ⟨rfl, rfl⟩; rw [hp.out]
      go_wp2_with fail
      refine (value_any _ _ ha.out).mono ?_; rintro e w' ⟨rfl, rfl⟩; rw [hq.out]
      go_wp2_with fail
      refine (make_any _ _ _ ⟨by have := hd.out.1; omega, by have := hd.out.2.1; omega⟩ hd.out.2.2).mono ?_; rintro e w' ⟨rfl, rfl⟩; rw [e1.out, e2.out]
      go_wp2_with fail
      refine (tag_any _ _ ha.out).mono ?_; rintro e w' ⟨rfl, rfl⟩; rw [hp.out]
      go_wp2_with fail
      refine (awake_any _).mono ?_; rintro e w' ⟨rfl, rfl⟩
      go_wp2_with fail
      go_ret
      exact ⟨rfl, br _⟩
  · have e1 : Hid (mv (a0 % 8) (a0 / 8) = 0) := Lib.hid (if_neg fun h => h6 h.2.1)
    have e2 : Hid (mo (a0 % 8) (a0 / 8) = false) := Lib.hid (decide_eq_false fun h => h6 h.2.1)
    have h7 : 6 < a0 % 8 := by omega
    clear h6
    rcases key with k0 | ⟨k1, k2⟩ | ⟨k1, k2, k3⟩
    · subst k0
      generalize hp : a0 % 8 = p at *
      generalize hq : a0 / 8 = q at *
      have hp := Lib.hid hp; have hq := Lib.hid hq
      go_enter Try.func6, Try.ntmps6
      go_wp2_with fail
      refine (tag_any _ _ ha.out).mono ?_; rintro e w' ⟨rfl, rfl⟩; rw [hp.out]
      go_wp2_with fail
      refine (tag_any _ _ hb.out).mono ?_; rintro e w' ⟨rfl, rfl⟩; rw [hp.out]
      go_wp2_with fail
      refine (value_any _ _ ha.out).mono ?_; rintro e w' ⟨rfl, rfl⟩; rw [hq.out]
      go_wp2_with fail
      refine (value_any _ _ hb.out).mono ?_; rintro e w' ⟨rfl, rfl⟩; rw [hq.out]
      go_wp2_with fail
      refine (tag_any _ _ ha.out).mono ?_; rintro e w' ⟨rfl, rfl⟩; rw [hp.out]
      go_wp2_with fail
      refine (value_any _ _ ha.out).mono ?_; rintro e w' ⟨rfl, rfl⟩; rw [hq.out]
      go_wp2_with fail
      refine (make_any _ _ _ ⟨by have := hd.out.1; omega, by have := hd.out.2.1; omega⟩ hd.out.2.2).mono ?_; rintro e w' ⟨rfl, rfl⟩; rw [e1.out, e2.out]
      go_wp2_with fail
      refine (tag_any _ _ ha.out).mono ?_; rintro e w' ⟨rfl, rfl⟩; rw [hp.out]
      go_wp2_with fail
      refine (awake_any _).mono ?_; rintro e w' ⟨rfl, rfl⟩
      go_wp2_with fail
      go_ret
      exact ⟨rb (by simp; omega), br _⟩
    · generalize hp : a0 % 8 = p at *
      generalize hq : a0 / 8 = q at *
      generalize hp' : a1 % 8 = p' at *
      generalize hq' : a1 / 8 = q' at *
      have hp := Lib.hid hp; have hq := Lib.hid hq; have hp' := Lib.hid hp'; have hq' := Lib.hid hq'
      go_enter Try.func6, Try.ntmps6
      go_wp2_with fail
      refine (tag_any _ _ ha.out).mono ?_; rintro e w' ⟨rfl, rfl⟩; rw [hp.out]
      go_wp2_with fail
      refine (tag_any _ _ hb.out).mono ?_; rintro e w' ⟨rfl, rfl⟩; rw [hp'.out]
      go_wp2_with fail
      refine (tag_any _ _ ha.out).mono ?_; rintro e w' ⟨rfl, rfl⟩; rw [hp.out]
      go_wp2_with fail
      refine (value_any _ _ ha.out).mono ?_; rintro e w' ⟨rfl, rfl⟩; rw [hq.out]
      go_wp2_with fail
      refine (make_any _ _ _ ⟨by have := hd.out.1; omega, by have := hd.out.2.1; omega⟩ hd.out.2.2).mono ?_; rintro e w' ⟨rfl, rfl⟩; rw [e1.out, e2.out]
      go_wp2_with fail
      refine (tag_any _ _ ha.out).mono ?_; rintro e w' ⟨rfl, rfl⟩; rw [hp.out]
      go_wp2_with fail
      refine (awake_any _).mono ?_; rintro e w' ⟨rfl, rfl⟩
      go_wp2_with fail
      go_ret
      exact ⟨rb (by simp; omega), br _⟩
    · generalize hp : a0 % 8 = p at *
      generalize hq : a0 / 8 = q at *
      generalize hp' : a1 % 8 = p' at *
      generalize hq' : a1 / 8 = q' at *
      have hp := Lib.hid hp; have hq := Lib.hid hq; have hp' := Lib.hid hp'; have hq' := Lib.hid hq'
      subst k2
      have b1 : (a0 == a1) = false := by simpa using k1
      have b2 : (q == q') = false := by simpa using k3
      go_enter Try.func6, Try.ntmps6
      go_wp2_with fail
      refine (tag_any _ _ ha.out).mono ?_; rintro e w' ⟨rfl, rfl⟩; rw [hp.out]
      go_wp2_with fail
      refine (tag_any _ _ hb.out).mono ?_; rintro e w' ⟨rfl, rfl⟩; rw [hp'.out]
      go_wp2_with fail
      refine (value_any _ _ ha.out).mono ?_; rintro e w' ⟨rfl, rfl⟩; rw [hq.out]
      go_wp2_with fail
      refine (value_any _ _ hb.out).mono ?_; rintro e w' ⟨rfl, rfl⟩; rw [hq'.out]
      go_wp2_with fail
      refine (tag_any _ _ ha.out).mono ?_; rintro e w' ⟨rfl, rfl⟩; rw [hp.out]
      go_wp2_with fail
      refine (value_any _ _ ha.out).mono ?_; rintro e w' ⟨rfl, rfl⟩; rw [hq.out]
      go_wp2_with fail
      refine (make_any _ _ _ ⟨by have := hd.out.1; omega, by have := hd.out.2.1; omega⟩ hd.out.2.2).mono ?_; rintro e w' ⟨rfl, rfl⟩; rw [e1.out, e2.out]
      go_wp2_with fail
      refine (tag_any _ _ ha.out).mono ?_; rintro e w' ⟨rfl, rfl⟩; rw [hp.out]
      go_wp2_with fail
      refine (awake_any _).mono ?_; rintro e w' ⟨rfl, rfl⟩
      go_wp2_with fail
      go_ret
      exact ⟨rb (by simp; omega), br _⟩

/-! ### THE ROW's STEP: WRITTEN OUT: LEAVE IT -/
set_option maxRecDepth 100000 in
theorem lifted (os : Os) (started : os.Started) (H : Type) (enc : TypeId × Value → H) :
    ReturnsInHanded {} Try.checked os 6 .any (Rows.cellApartSpec.pre6 enc Try.prog Try.f6 Rows.cellApartRow.domain false) (Rows.cellApartSpec.post enc Try.prog Try.f6 false true false false) := by
  refine returnsInHanded_of_change (C := Try.checked) own started (by kernel_rfl) Try.func6
    (ChangeSpec.witness6 (enc := enc) (C := Try.checked) false ⟨#[], #[.int .u64 0, .int .u64 0], []⟩ 8 (by kernel_rfl) (by kernel_rfl) (by kernel_rfl) (by kernel_rfl)) ?_
  intro W base args ds gs before hval0 hW hcnd _
  have hval : ∀ (j : Nat) t v, Try.f6.params[j]? = some t → args[j]? = some v → Value.okWide Try.prog W .any base t v := hval0
  have hW' := hW
  obtain ⟨p, q, hA0, hV, rfl, hfz, hnd⟩ := hW
  have hA : DataW.TrodAll enc Try.prog W 0 (fun _ => true) true Try.f6.params.toList args.toList ds p := hA0
  rw [Try.params6] at hA hval
  obtain ⟨v0, vs0, d0, ds0, p0, q0, hargs, rfl, rfl, h0, r0⟩ := trodAll_cons hA
  obtain ⟨v1, vs1, d1, ds1, p1, q1, rfl, rfl, rfl, h1, r1⟩ := trodAll_cons r0
  obtain ⟨rfl, rfl, rfl⟩ := trodAll_nil r1
  obtain rfl : args = #[v0, v1] := by cases args; simp_all
  obtain ⟨rfl, rfl⟩ := trodVars_none hV
  obtain ⟨a0, rfl, rfl, rfl, w0⟩ := open_int Try.underlying22 (hval 0 22 v0 rfl rfl) h0
  obtain ⟨a1, rfl, rfl, rfl, w1⟩ := open_int Try.underlying22 (hval 1 22 v1 rfl rfl) h1
  clear hA0 hval0
  simp only [List.append_nil] at hW'
  refine (walk a0 a1 w0 w1 W).mono fun e W' ⟨he, hg⟩ => ?_
  subst he
  refine ⟨_, rfl, _, _, _, [], [], [], hW', ?_, ?_, rfl, hg.frame _, fun h => by cases h⟩
  · exact (trodAll_cons_mk (shut_bool Try.underlying4 _) trodAll_mk0)
  · exact (trodAll_cons_mk (shut_int Try.underlying22 w0) (trodAll_cons_mk (shut_int Try.underlying22 w1) trodAll_mk0))

theorem over : Rows.cellApartRow.holds Try.pinned (OpenSpec.ofChange Rows.cellApartSpec) :=
  OpenClaim.holds_of_wide 6 Try.f6 rfl rfl rfl rfl rfl rfl rfl ⟨rfl, rfl, rfl, rfl, rfl⟩ rfl rfl rfl rfl rfl (by kernel_rfl) Try.func6 (by kernel_rfl)
    (of_decide_eq_true (by kernel_rfl)) (by unfold Func.isWrapper; first | (rw [if_pos (by decide +kernel)]; kernel_rfl) | (rw [if_neg (by decide +kernel)]; exact ⟨rfl, rfl⟩))
    (fun os started H enc _ => lifted os started H enc)

/-- ████ THE STATEMENT ████ -/
theorem proved : Rows.CellApartSaid :=
  over
#print axioms proved
end Go.Proofs.Ytmcfapefbakceaa.cellApart
