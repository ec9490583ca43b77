/- The law NumberOrder holds: for every input its Go function returns true and leaves its arguments as they were. No condition beyond the row's own. -/
import Derived.Test.YtljefgjbneefkaaRows
import Derived.WalkKit
import Derived.ProofKit
import Derived.OpenShut
import Derived.Test.YtljefgjbneefkaaNum
import Derived.Test.YtljefgjbneefkaaHex
import Derived.Test.YtljefgjbneefkaaCmp
import Derived.Lib.Hide
namespace Go.Proofs.Ytljefgjbneefkaa.numberOrder
open Go.ChangeShapes Go.WideShapes Go.ChangeAt Go.RowKit
set_option linter.unusedVariables false      -- a walk need not use every 'w<i>' (that an integer argument fits its kind)

theorem own : ownKnob Try.prog.godebug = none := by kernel_rfl

/-! ### STEP 1: THE WALK: the Go text returns true. 'Grown w w'': the world has at most new blocks (Derived/RowKit3.lean). Part the cases AHEAD of 'go_enter' where a test parts the walk; take each callee by a contract of your own. -/
open Go.Proofs.Ytljefgjbneefkaa.num
theorem wf_u64 {a : Int} (h : (Lit.int .u64 a).wf = true) : ∃ n : Nat, a = n ∧ n < 18446744073709551616 := by
  have e1 : IntKind.u64.min = 0 := by decide
  have e2 : IntKind.u64.max = 18446744073709551615 := by decide
  simp only [Lit.wf, e1, e2, Bool.and_eq_true, decide_eq_true_eq] at h
  exact ⟨a.toNat, by omega, by omega⟩
theorem grown_trans {W w1 w2 : World} (h : Grown W w1) (g : Grown w1 w2) : Grown W w2 :=
  ⟨World.keptBut_trans h.1 (World.keptBut_mono (fun _ f => f.elim) g.1), fun a => (g.2.1 a).trans (h.2.1 a), Nat.le_trans h.2.2 g.2.2⟩
set_option maxHeartbeats 4000000 in
theorem walk (a0 : Int) (a1 : Int) (a2 : Int) (a3 : Int) (a4 : Int) (a5 : Int) (w0 : (Lit.int .u64 a0).wf = true) (w1 : (Lit.int .u64 a1).wf = true) (w2 : (Lit.int .u64 a2).wf = true) (w3 : (Lit.int .u64 a3).wf = true) (w4 : (Lit.int .u64 a4).wf = true) (w5 : (Lit.int .u64 a5).wf = true) (w : World) :
    Calls Try.prog 6 #[.int .u64 a0, .int .u64 a1, .int .u64 a2, .int .u64 a3, .int .u64 a4, .int .u64 a5] w fun e w' => e = .returned (.bool true) ∧ Grown w w' := by
  obtain ⟨a, rfl, ba⟩ := wf_u64 w0
  obtain ⟨b, rfl, bb⟩ := wf_u64 w1
  obtain ⟨c, rfl, bc⟩ := wf_u64 w2
  obtain ⟨d, rfl, bd⟩ := wf_u64 w3
  obtain ⟨p, rfl, bp⟩ := wf_u64 w4
  obtain ⟨q, rfl, bq⟩ := wf_u64 w5
  clear w0 w1 w2 w3 w4 w5
  have HN := Lib.hid (cc_neg a b c d)
  have HT := Lib.hid (cc_trans a b c d p q)
  have HZ := Lib.hid (cc_zero a b c d)
  by_cases h : a = c ∧ b = d
  · obtain ⟨rfl, rfl⟩ := h
    have hz : Hid (cc a b a b = 0) := Lib.hid (HZ.out.2 ⟨rfl, rfl⟩)
    go_enter Try.func6, Try.ntmps6
    go_wp2_with fail
    refine (cc_any a b a b _).mono ?_; rintro e w' ⟨rfl, rfl⟩; rw [hz.out]
    go_wp2_with fail
    refine (cc_any a b p q _).mono ?_; rintro e w' ⟨rfl, rfl⟩
    go_wp2_with fail
    refine (cc_any a b p q _).mono ?_; rintro e w' ⟨rfl, rfl⟩
    go_wp2_with fail
    refine (cc_any a b a b _).mono ?_; rintro e w' ⟨rfl, rfl⟩; rw [hz.out]
    generalize cc a b p q = y at *
    by_cases hy : 0 < y
    all_goals
      go_wp2_with fail
      refine (textC_any a b _ ba bb).mono ?_; rintro e w1 ⟨rfl, g1⟩
      go_wp2_with fail
      refine (textC_any a b _ ba bb).mono ?_; rintro e w2 ⟨rfl, g2⟩
      go_wp2_with fail
      refine (awake_any _).mono ?_; rintro e w' ⟨rfl, rfl⟩
      go_wp2_with fail
      go_ret
      exact ⟨rfl, grown_trans g1 g2⟩
  · have hnz : cc a b c d ≠ 0 := fun e => h (by have := HZ.out.1 e; omega)
    have htx : ¬ (cpx a b = cpx c d) := fun e2 => h (cpx_inj a b c d ba bb bc bd e2)
    have hbd := cc_bd a b c d
    have Htx := Lib.hid htx; clear htx
    have key : ∀ t1 t2 : Bool, ((a : Int) == (c : Int)) = t1 → ((b : Int) == (d : Int)) = t2 → (t1 && t2) = false → Calls Try.prog 6 #[.int .u64 (a : Int), .int .u64 (b : Int), .int .u64 (c : Int), .int .u64 (d : Int), .int .u64 (p : Int), .int .u64 (q : Int)] w fun e w' => e = .returned (.bool true) ∧ Grown w w' := by
      intro t1 t2 h1 h2 h3
      clear h HZ
      go_enter Try.func6, Try.ntmps6
      go_wp2_with fail
      refine (cc_any a b c d _).mono ?_; rintro e w' ⟨rfl, rfl⟩
      go_wp2_with fail
      refine (cc_any c d p q _).mono ?_; rintro e w' ⟨rfl, rfl⟩
      go_wp2_with fail
      refine (cc_any a b p q _).mono ?_; rintro e w' ⟨rfl, rfl⟩
      go_wp2_with fail
      refine (cc_any c d a b _).mono ?_; rintro e w' ⟨rfl, rfl⟩; rw [HN.out]
      generalize cc a b c d = x at *
      generalize cc c d p q = y at *
      generalize cc a b p q = z at *
      have hxz : (x == 0) = false := by simpa using hnz
      cases t1 <;> cases t2 <;> simp at h3
      all_goals by_cases hx : 0 < x
      all_goals by_cases hy : 0 < y
      all_goals by_cases hz : z ≤ 0
      all_goals try (exfalso; have := HT.out (by omega) (by omega); omega)
      all_goals
        go_wp2_with fail
        refine (textC_any a b _ ba bb).mono ?_; rintro e w1 ⟨rfl, g1⟩
        go_wp2_with fail
        refine (textC_any c d _ bc bd).mono ?_; rintro e w2 ⟨rfl, g2⟩
        have htx := Htx.out
        go_wp2_with fail
        refine (awake_any _).mono ?_; rintro e w' ⟨rfl, rfl⟩
        go_wp2_with fail
        go_ret
        exact ⟨ret_bool (by simp [htx]), grown_trans g1 g2⟩
    refine key _ _ rfl rfl ?_
    rw [Bool.and_eq_false_iff]
    by_cases e : a = c
    · right; rw [beq_eq_false_iff_ne]; intro e2; exact h ⟨e, by omega⟩
    · left; rw [beq_eq_false_iff_ne]; omega

/-! ### THE ROW's STEP: WRITTEN OUT: LEAVE IT -/
set_option maxRecDepth 100000 in
theorem lifted (os : Os) (started : os.Started) (H : Type) (enc : TypeId × Value → H) :
    ReturnsInHanded {} Try.checked os 6 .any (Rows.numberOrderSpec.pre6 enc Try.prog Try.f6 Rows.numberOrderRow.domain false) (Rows.numberOrderSpec.post enc Try.prog Try.f6 false true false false) := by
  refine returnsInHanded_of_change (C := Try.checked) own started (by kernel_rfl) Try.func6
    (ChangeSpec.witness6 (enc := enc) (C := Try.checked) false ⟨#[], #[.int .u64 0, .int .u64 0, .int .u64 0, .int .u64 0, .int .u64 0, .int .u64 0], []⟩ 8 (by kernel_rfl) (by kernel_rfl) (by kernel_rfl) (by kernel_rfl)) ?_
  intro W base args ds gs before hval0 hW hcnd _
  have hval : ∀ (j : Nat) t v, Try.f6.params[j]? = some t → args[j]? = some v → Value.okWide Try.prog W .any base t v := hval0
  have hW' := hW
  obtain ⟨p, q, hA0, hV, rfl, hfz, hnd⟩ := hW
  have hA : DataW.TrodAll enc Try.prog W 0 (fun _ => true) true Try.f6.params.toList args.toList ds p := hA0
  rw [Try.params6] at hA hval
  obtain ⟨v0, vs0, d0, ds0, p0, q0, hargs, rfl, rfl, h0, r0⟩ := trodAll_cons hA
  obtain ⟨v1, vs1, d1, ds1, p1, q1, rfl, rfl, rfl, h1, r1⟩ := trodAll_cons r0
  obtain ⟨v2, vs2, d2, ds2, p2, q2, rfl, rfl, rfl, h2, r2⟩ := trodAll_cons r1
  obtain ⟨v3, vs3, d3, ds3, p3, q3, rfl, rfl, rfl, h3, r3⟩ := trodAll_cons r2
  obtain ⟨v4, vs4, d4, ds4, p4, q4, rfl, rfl, rfl, h4, r4⟩ := trodAll_cons r3
  obtain ⟨v5, vs5, d5, ds5, p5, q5, rfl, rfl, rfl, h5, r5⟩ := trodAll_cons r4
  obtain ⟨rfl, rfl, rfl⟩ := trodAll_nil r5
  obtain rfl : args = #[v0, v1, v2, v3, v4, v5] := by cases args; simp_all
  obtain ⟨rfl, rfl⟩ := trodVars_none hV
  obtain ⟨a0, rfl, rfl, rfl, w0⟩ := open_int Try.underlying35 (hval 0 35 v0 rfl rfl) h0
  obtain ⟨a1, rfl, rfl, rfl, w1⟩ := open_int Try.underlying35 (hval 1 35 v1 rfl rfl) h1
  obtain ⟨a2, rfl, rfl, rfl, w2⟩ := open_int Try.underlying35 (hval 2 35 v2 rfl rfl) h2
  obtain ⟨a3, rfl, rfl, rfl, w3⟩ := open_int Try.underlying35 (hval 3 35 v3 rfl rfl) h3
  obtain ⟨a4, rfl, rfl, rfl, w4⟩ := open_int Try.underlying35 (hval 4 35 v4 rfl rfl) h4
  obtain ⟨a5, rfl, rfl, rfl, w5⟩ := open_int Try.underlying35 (hval 5 35 v5 rfl rfl) h5
  clear hA0 hval0
  simp only [List.append_nil] at hW'
  refine (walk a0 a1 a2 a3 a4 a5 w0 w1 w2 w3 w4 w5 W).mono fun e W' ⟨he, hg⟩ => ?_
  subst he
  exact ⟨_, rfl, post_of_same (pa := []) (pv := []) hW' (fun _ _ _ => (trodAll_cons_mk (shut_bool Try.underlying4 _) trodAll_mk0)) (fun sp _ => (trodAll_cons_mk (shut_int Try.underlying35 w0) (trodAll_cons_mk (shut_int Try.underlying35 w1) (trodAll_cons_mk (shut_int Try.underlying35 w2) (trodAll_cons_mk (shut_int Try.underlying35 w3) (trodAll_cons_mk (shut_int Try.underlying35 w4) (trodAll_cons_mk (shut_int Try.underlying35 w5) trodAll_mk0))))))) (fun _ _ => rfl) rfl
    (hg.frame _) hg.2.1 (ok_one (by kernel_rfl) rfl (okWide_bool_mk Try.underlying4 _))⟩

theorem over : Rows.numberOrderRow.holds Try.pinned (OpenSpec.ofChange Rows.numberOrderSpec) :=
  OpenClaim.holds_of_wide 6 Try.f6 rfl rfl rfl rfl rfl rfl rfl ⟨rfl, rfl, rfl, rfl, rfl⟩ rfl rfl rfl rfl rfl (by kernel_rfl) Try.func6 (by kernel_rfl)
    (of_decide_eq_true (by kernel_rfl)) (by unfold Func.isWrapper; first | (rw [if_pos (by decide +kernel)]; kernel_rfl) | (rw [if_neg (by decide +kernel)]; exact ⟨rfl, rfl⟩))
    (fun os started H enc _ => lifted os started H enc)

/-- ████ THE STATEMENT ████ -/
theorem proved : Rows.NumberOrderSaid :=
  over
#print axioms proved
end Go.Proofs.Ytljefgjbneefkaa.numberOrder
