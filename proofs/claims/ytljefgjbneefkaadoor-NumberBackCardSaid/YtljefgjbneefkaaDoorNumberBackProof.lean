/- The law NumberBack holds, as its tied card says: for every input its Go function returns true and leaves its arguments as they were. The listed package-level variables start as the program's text lays them. -/
import Derived.Test.YtljefgjbneefkaaDoorRows
import Derived.Test.YtljefgjbneefkaaDoorCards
import Derived.Test.YtljefgjbneefkaaDoorTie
import Derived.WalkKit
import Derived.ProofKit
import Derived.OpenShut
import Derived.LaidMore
import Derived.LaidLaws
import Derived.SizedLaws
import Derived.MakeChecks
import Derived.SevenTiedAt
import Derived.Stop.Joined
import Derived.Test.YtljefgjbneefkaaDoorRParse
import Derived.Test.YtljefgjbneefkaaDoorHexP
import Derived.Test.YtljefgjbneefkaaDoorDecBack
import Derived.Test.YtljefgjbneefkaaDoorLaid
namespace Go.Proofs.YtljefgjbneefkaaDoor.numberBack
open Go.ChangeShapes Go.WideShapes Go.ChangeAt Go.RowKit
open Go.ChangeMaps (open_string shut_string)
set_option linter.unusedVariables false
theorem own : ownKnob Tryd.prog.godebug = none := by kernel_rfl
abbrev laidL : List (String × DataW Unit) := [("math/bits.deBruijn32tab", Rows.laid_math_bits_deBruijn32tab), ("math/bits.deBruijn64tab", Rows.laid_math_bits_deBruijn64tab), ("internal/strconv.uint64pow10", Rows.laid_internal_strconv_uint64pow10), ("strconv.ErrRange", Rows.laid_strconv_ErrRange), ("strconv.ErrSyntax", Rows.laid_strconv_ErrSyntax)]
theorem door_met (os : Os) (args : Array Value) : laidMetH Tryd.prog laidL ((World.doorLaid Tryd.prog 400 os).forCall (fun _ _ => 0) ⟨#[], args, []⟩).memory :=
  laidMetH_of_parts3 (fuel := 8) (laidMet_of_run' 8 (by kernel_rfl) (by kernel_rfl)) (by kernel_rfl) (by kernel_rfl)
open Go.Proofs.YtljefgjbneefkaaDoor.num
theorem wf_u64 {a : Int} (h : (Lit.int .u64 a).wf = true) : ∃ n : Nat, a = n ∧ n < 18446744073709551616 := by
  have e1 : IntKind.u64.min = 0 := by decide
  have e2 : IntKind.u64.max = 18446744073709551615 := by decide
  simp only [Lit.wf, e1, e2, Bool.and_eq_true, decide_eq_true_eq] at h
  exact ⟨a.toNat, by omega, by omega⟩
theorem back (n : Int) (h : Fits n) : pv (Lib.itoa n) = n ∧ pe (Lib.itoa n) = 0 := by
  obtain ⟨h1, h2⟩ := dec.ok_back n
  unfold pv pe; rw [if_pos h1, if_pos h1, h2]; exact ⟨rv_in h, re_in h⟩
theorem rem_sign (a b : Int) : (0 ≤ a → 0 ≤ a.tmod b) ∧ (a < 0 → a.tmod b ≤ 0) := by
  constructor
  · exact fun h => Int.tmod_nonneg b h
  · intro h
    have := Int.tmod_nonneg b (a := -a) (by omega)
    rw [Int.neg_tmod] at this; omega
theorem rem_lt (a b : Int) (h : b ≠ 0) : (a.tmod b).natAbs < b.natAbs := by
  rw [Int.natAbs_tmod]; exact Nat.mod_lt _ (by omega)
/-- how the parts stand to one another -/
def Key (a b d e r m : Int) : Prop :=
  Fits r ∧
  ((e = 6 ∧ d = 0) ∨ (e = 0 ∧ d * b + r = a)) ∧
  ((r = 0 ∧ m = 0) ∨ (r < 0 ∧ b < 0 ∧ a < 0 ∧ m = r) ∨ (0 < r ∧ 0 < b ∧ 0 ≤ a ∧ m = r) ∨ (r < 0 ∧ 0 < b ∧ a < 0 ∧ m = r + b ∧ 0 < m ∧ m < b) ∨ (0 < r ∧ b < 0 ∧ 0 ≤ a ∧ m = r + b ∧ m < 0 ∧ b < m))
theorem key_of (a b : Int) (ha : Fits a) (h : b ≠ 0) : Key a b (dv a b) (de a b) (qv a b) (mv a b) := by
  have hr := rem_lt a b h
  obtain ⟨s1, s2⟩ := rem_sign a b
  have hd := Int.mul_tdiv_add_tmod a b
  refine ⟨by unfold qv; rw [if_neg h]; exact tmod_fits a b ha, ?_⟩
  constructor
  · unfold dv de qv
    rw [if_neg h, if_neg h, if_neg h]
    by_cases f : Fits (a.tdiv b)
    · right; rw [rv_in f, re_in f]; exact ⟨rfl, by rw [Int.mul_comm]; exact hd⟩
    · left; rw [rv_out f, re_out f]; exact ⟨rfl, rfl⟩
  · unfold qv mv
    rw [if_neg h, if_neg h]
    generalize a.tmod b = r at *
    by_cases h2 : r = 0
    · left; rw [if_pos h2]; exact ⟨h2, rfl⟩
    · rw [if_neg h2]
      by_cases h3 : r < 0
      · rw [if_pos h3]
        by_cases h4 : b < 0
        · rw [if_pos h4]; right; left; omega
        · rw [if_neg h4]; right; right; right; left; omega
      · rw [if_neg h3]
        by_cases h4 : b < 0
        · rw [if_pos h4]; right; right; right; right; omega
        · rw [if_neg h4]; right; right; left; omega
set_option maxHeartbeats 8000000 in
theorem walk (a0 : Int) (w0 : (Lit.int .i64 a0).wf = true) (a1 : Int) (w1 : (Lit.int .i64 a1).wf = true) (a2 : Int) (w2 : (Lit.int .u64 a2).wf = true) (a3 : Int) (w3 : (Lit.int .u64 a3).wf = true) (w : World) (HL : laidMet Tryd.prog laidL w) :
    Calls Tryd.prog 5 #[.int .i64 a0, .int .i64 a1, .int .u64 a2, .int .u64 a3] w fun e w' => e = .returned (.bool true) ∧ Below w.heap.size w w' := by
  have fa := fits_wf w0
  have fb := fits_wf w1
  obtain ⟨p, rfl, bp⟩ := wf_u64 w2
  obtain ⟨q, rfl, bq⟩ := wf_u64 w3
  have HR := range_of (HL.tail.tail.tail)
  have HT := Lib.hid (tab_of (HL.tail.tail))
  obtain ⟨pp, hv⟩ := HR
  have HB := Lib.hid (back a0 fa)
  have HC := Lib.hid (back_cpx p q bp bq)
  have hlen := dec.itoa_len a0 fa
  have HV := Lib.hid hv
  clear hv HL w0 w1 w2 w3
  by_cases h0 : a1 = 0
  · subst h0
    go_enter Tryd.func5, Tryd.ntmps5
    go_wp2_with fail
    refine (text_any a0 _ fa HT.out).mono ?_; rintro e w1 ⟨rfl, b1⟩
    have HV1 := Lib.hid (var_on HV.out b1)
    go_wp2_with fail
    refine (parse_any _ _ (by omega) _ _ HV1.out).mono ?_; rintro e w2 ⟨rfl, b2⟩; rw [HB.out.1, HB.out.2]
    go_wp2_with fail
    refine (textC_any p q _ bp bq).mono ?_; rintro e w3 ⟨rfl, b3⟩
    go_wp2_with fail
    refine (parseC_any _ _ (by simp [cpx, hex16_length])).mono ?_; rintro e w' ⟨rfl, rfl⟩; rw [HC.out.1, HC.out.2.1, HC.out.2.2]
    go_wp2_with fail
    refine (div_any a0 0 _ fa fb).mono ?_; rintro e w' ⟨rfl, rfl⟩
    rw [show dv a0 0 = 0 from rfl, show de a0 0 = 1 from rfl]
    go_wp2_with fail
    refine (rem_any a0 0 _ fa fb).mono ?_; rintro e w' ⟨rfl, rfl⟩
    rw [show qv a0 0 = 0 from rfl, show qe 0 = 1 from rfl]
    go_wp2_with fail
    refine (mod_any a0 0 _ fa fb).mono ?_; rintro e w' ⟨rfl, rfl⟩
    rw [show mv a0 0 = 0 from rfl, show qe 0 = 1 from rfl]
    go_wp2_with fail
    refine (awake_any _).mono ?_; rintro e w' ⟨rfl, rfl⟩
    go_wp2_with fail
    go_ret
    exact ⟨rfl, bt b1 (bt b2 b3)⟩
  · have HK := Lib.hid (key_of a0 a1 fa h0)
    have hq : Hid (qe a1 = 0) := Lib.hid (by simp [qe, h0])
    have z0 : (a1 == 0) = false := by simpa using h0
    clear h0
    obtain ⟨fa1, fa2⟩ := (show -9223372036854775808 ≤ a0 ∧ a0 ≤ 9223372036854775807 from fa)
    obtain ⟨fb1, fb2⟩ := (show -9223372036854775808 ≤ a1 ∧ a1 ≤ 9223372036854775807 from fb)
    go_enter Tryd.func5, Tryd.ntmps5
    go_wp2_with fail
    refine (text_any a0 _ fa HT.out).mono ?_; rintro e w1 ⟨rfl, b1⟩
    have HV1 := Lib.hid (var_on HV.out b1)
    go_wp2_with fail
    refine (parse_any _ _ (by omega) _ _ HV1.out).mono ?_; rintro e w2 ⟨rfl, b2⟩; rw [HB.out.1, HB.out.2]
    go_wp2_with fail
    refine (textC_any p q _ bp bq).mono ?_; rintro e w3 ⟨rfl, b3⟩
    go_wp2_with fail
    refine (parseC_any _ _ (by simp [cpx, hex16_length])).mono ?_; rintro e w' ⟨rfl, rfl⟩; rw [HC.out.1, HC.out.2.1, HC.out.2.2]
    go_wp2_with fail
    refine (div_any a0 a1 _ fa fb).mono ?_; rintro e w' ⟨rfl, rfl⟩
    go_wp2_with fail
    refine (rem_any a0 a1 _ fa fb).mono ?_; rintro e w' ⟨rfl, rfl⟩
    rw [hq.out]
    go_wp2_with fail
    refine (mod_any a0 a1 _ fa fb).mono ?_; rintro e w' ⟨rfl, rfl⟩
    rw [hq.out]
    generalize dv a0 a1 = d at *
    generalize de a0 a1 = e at *
    generalize qv a0 a1 = r at *
    generalize mv a0 a1 = m at *
    have HW := Lib.hid (bt b1 (bt b2 b3))
    clear HT HB HC hlen HV HV1 hq b1 b2 b3
    obtain ⟨⟨r1, r2⟩, kd, km⟩ := HK.out
    clear HK
    have fin : ∀ d : Int, ((e = 6 ∧ d = 0) ∨ (e = 0 ∧ d * a1 + r = a0)) → (e = 6 ∧ d = 0) ∨ (e = 0 ∧ d * a1 = a0 - r) := fun d h => by omega
    replace kd := fin d kd
    clear fin
    rcases kd with ⟨rfl, rfl⟩ | ⟨rfl, hx⟩
    all_goals rcases km with ⟨rfl, rfl⟩ | ⟨k1, k2, k3, rfl⟩ | ⟨k1, k2, k3, rfl⟩ | ⟨k1, k2, k3, k4, k5, k6⟩ | ⟨k1, k2, k3, k4, k5, k6⟩
    all_goals try have f2 : (r != 0) = true := by rw [bne_iff_ne]; omega
    all_goals try have f3 : (m != 0) = true := by rw [bne_iff_ne]; omega
    all_goals try have f4 : (m != r) = true := by rw [bne_iff_ne]; omega
    all_goals try have f5 : (m != r + a1) = false := by rw [k4]; simp
    all_goals try clear k4
    all_goals try have g1 : decide (r < 0) = true := decide_eq_true (by omega)
    all_goals try have g1 : decide (r < 0) = false := decide_eq_false (by omega)
    all_goals try have g2 : decide (a1 < 0) = true := decide_eq_true (by omega)
    all_goals try have g2 : decide (a1 < 0) = false := decide_eq_false (by omega)
    all_goals try have g3 : decide (a0 < 0) = true := decide_eq_true (by omega)
    all_goals try have g3 : decide (a0 < 0) = false := decide_eq_false (by omega)
    all_goals try have g4 : decide (m < 0) = true := decide_eq_true (by omega)
    all_goals try have g4 : decide (m < 0) = false := decide_eq_false (by omega)
    all_goals
      go_wp2_with fail
      refine (awake_any _).mono ?_; rintro e w' ⟨rfl, rfl⟩
      go_wp2_with fail
      go_ret
      exact ⟨rfl, HW.out⟩
set_option maxRecDepth 100000 in
theorem lifted (os : Os) (started : os.Started) (H : Type) (enc : TypeId × Value → H) :
    ReturnsInHanded {} Tryd.checked os 5 .any (fun w args => (Rows.numberBackSpec.pre enc Tryd.prog Tryd.f5 Rows.numberBackRow.domain false w args ∧ laidMetH Tryd.prog laidL w) ∧ sizedMet enc Tryd.prog Tryd.f5 (OpenSpec.ofChange Rows.numberBackSpec) false w args)
      (Rows.numberBackSpec.post enc Tryd.prog Tryd.f5 false true false false) := by
  refine returnsInHanded_of_change_and (C := Tryd.checked) (X := fun w _ => laidMetH Tryd.prog laidL w) (fun _ _ _ hh h => h.of_heap hh) own started (by kernel_rfl) Tryd.func5
    (ChangeSpec.witness_shaped (enc := enc) (C := Tryd.checked) (os := os) (X := fun w _ => laidMetH Tryd.prog laidL w) false (World.doorLaid Tryd.prog 400 os) #[.int .i64 0, .int .i64 0, .int .u64 0, .int .u64 0] 8 rfl (World.shaped_of_RefB (by kernel_rfl) (by kernel_rfl)) (by kernel_rfl) (by kernel_rfl) (by kernel_rfl) (door_met os _)) ?_
  intro W base args ds gs before hval0 hW _ hsz0 hL _
  have hsz : (DataW.weightsEach Tryd.prog (Tryd.f5.params.toList ++ Rows.numberBackSpec.plain.varTypes Tryd.prog) (ds ++ gs)).all (· ≤ reachBytes) = true := hsz0
  clear hsz0
  have hval : ∀ (j : Nat) t v, Tryd.f5.params[j]? = some t → args[j]? = some v → Value.okWide Tryd.prog W .any base t v := hval0
  have hW' := hW
  obtain ⟨p, q, hA0, hV, rfl, hfz, hnd⟩ := hW
  have hA : DataW.TrodAll enc Tryd.prog W 0 (fun _ => true) true Tryd.f5.params.toList args.toList ds p := hA0
  rw [Tryd.params5] at hA hval hsz
  obtain ⟨v0, vs0, d0, ds0, p0, q0, hargs, rfl, rfl, h0, r0⟩ := trodAll_cons hA
  obtain ⟨v1, vs1, d1, ds1, p1, q1, rfl, rfl, rfl, h1, r1⟩ := trodAll_cons r0
  obtain ⟨v2, vs2, d2, ds2, p2, q2, rfl, rfl, rfl, h2, r2⟩ := trodAll_cons r1
  obtain ⟨v3, vs3, d3, ds3, p3, q3, rfl, rfl, rfl, h3, r3⟩ := trodAll_cons r2
  obtain ⟨rfl, rfl, rfl⟩ := trodAll_nil r3
  obtain rfl : args = #[v0, v1, v2, v3] := by cases args; simp_all
  obtain ⟨rfl, rfl⟩ := trodVars_none hV
  obtain ⟨a0, rfl, rfl, rfl, w0⟩ := open_int Tryd.underlying2 (hval 0 2 v0 rfl rfl) h0
  obtain ⟨a1, rfl, rfl, rfl, w1⟩ := open_int Tryd.underlying2 (hval 1 2 v1 rfl rfl) h1
  obtain ⟨a2, rfl, rfl, rfl, w2⟩ := open_int Tryd.underlying28 (hval 2 28 v2 rfl rfl) h2
  obtain ⟨a3, rfl, rfl, rfl, w3⟩ := open_int Tryd.underlying28 (hval 3 28 v3 rfl rfl) h3
  clear hA0 hval0
  simp only [List.append_nil] at hW'

  have HL : laidMet Tryd.prog laidL W := by rw [MakeChecks.laidMetH_plain _ _ _ (by kernel_rfl)] at hL; exact hL
  refine (walk a0 w0 a1 w1 a2 w2 a3 w3 W HL).mono fun e W' ⟨he, hg⟩ => ?_
  subst he
  refine ⟨_, rfl, _, _, _, [], [], [], hW', ?_, ?_, rfl, hg.frame _, fun h => by cases h⟩
  · exact (trodAll_cons_mk (shut_bool Tryd.underlying4 _) trodAll_mk0)
  · exact (trodAll_cons_mk (shut_int Tryd.underlying2 w0) (trodAll_cons_mk (shut_int Tryd.underlying2 w1) (trodAll_cons_mk (shut_int Tryd.underlying28 w2) (trodAll_cons_mk (shut_int Tryd.underlying28 w3) trodAll_mk0))))
theorem holds : Rows.NumberBackSaid :=
  OpenClaim.holds_of_wide 5 Tryd.f5 rfl rfl rfl rfl rfl rfl rfl ⟨rfl, rfl, rfl, rfl, rfl⟩ rfl rfl rfl rfl rfl (by kernel_rfl) Tryd.func5 (by kernel_rfl)
    (of_decide_eq_true (by kernel_rfl)) (by unfold Func.isWrapper; first | (rw [if_pos (by decide +kernel)]; kernel_rfl) | (rw [if_neg (by decide +kernel)]; exact ⟨rfl, rfl⟩))
    (fun os started H enc _ => lifted os started H enc)
/-- THE STATEMENT: the tied card. -/
theorem proved : Rows.NumberBackCardSaid :=
  Claim7.holds_tied_plain_at .later [] [.data, .data, .data, .sentinel, .sentinel] true (true, "fe2879ddbbc048160e2a02d631f399bf6f2ee682aee6eb1bfbbafccdd9af3e7b") true
    holds (fun _ h => by cases h) (by kernel_rfl) (fun _ h => by cases h) numberBack_row_tie rfl ⟨rfl, rfl⟩ (by kernel_rfl) rfl
    (fun f fn hf hfn => by
      obtain rfl : f = 5 := Option.some.inj ((show Tryd.prog.funcNamed "elenchus/elenchuslaw1.NumberBack" = some 5 by kernel_rfl).symm.trans hf) |>.symm
      obtain rfl : fn = Tryd.f5 := (Option.some.inj (Tryd.func5.symm.trans hfn)).symm
      exact ⟨by kernel_rfl, fun j t ht => by
        rw [Tryd.params5] at ht
        have hm : t ∈ [2, 28] := by simpa using Array.mem_of_getElem? ht
        have hall : ([2, 28].all fun u => !(Tryd.prog.wantsStandIn u)) = true := by kernel_rfl
        exact (show Tryd.prog.wantsStandIn t = false by simpa using List.all_eq_true.1 hall t hm)⟩)
    (by kernel_rfl)
#print axioms proved
end Go.Proofs.YtljefgjbneefkaaDoor.numberBack
