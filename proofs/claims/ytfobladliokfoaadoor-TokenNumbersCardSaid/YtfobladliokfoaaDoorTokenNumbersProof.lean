/- The law TokenNumbers holds, as its tied card says: for every input its Go function returns true and leaves its arguments as they were. The listed package-level variables start as the program's text lays them. -/
import Derived.Test.YtfobladliokfoaaDoorRows
import Derived.Test.YtfobladliokfoaaDoorCards
import Derived.Test.YtfobladliokfoaaDoorTie
import Derived.WalkKit
import Derived.ProofKit
import Derived.OpenShut
import Derived.LaidMore
import Derived.LaidLaws
import Derived.SizedLaws
import Derived.MakeChecks
import Derived.SevenTiedAt
import Derived.Stop.Joined
import Derived.Test.YtfobladliokfoaaDoorTkN
import Derived.Test.YtfobladliokfoaaDoorCpxT
namespace Go.Proofs.YtfobladliokfoaaDoor.tokenNumbers
open Go.ChangeShapes Go.WideShapes Go.ChangeAt Go.RowKit
open Go.ChangeMaps (open_string shut_string)
set_option linter.unusedVariables false
theorem own : ownKnob Tryd.prog.godebug = none := by kernel_rfl
abbrev laidL : List (String × DataW Unit) := [("math/bits.deBruijn32tab", Rows.laid_math_bits_deBruijn32tab), ("math/bits.deBruijn64tab", Rows.laid_math_bits_deBruijn64tab), ("internal/strconv.uint64pow10", Rows.laid_internal_strconv_uint64pow10), ("strconv.ErrRange", Rows.laid_strconv_ErrRange), ("strconv.ErrSyntax", Rows.laid_strconv_ErrSyntax)]
theorem door_met (os : Os) (args : Array Value) : laidMetH Tryd.prog laidL ((World.doorLaid Tryd.prog 400 os).forCall (fun _ _ => 0) ⟨#[], args, []⟩).memory :=
  laidMetH_of_parts3 (fuel := 8) (laidMet_of_run' 8 (by kernel_rfl) (by kernel_rfl)) (by kernel_rfl) (by kernel_rfl)
open Go.Proofs.YtfobladliokfoaaDoor.num Go.Proofs.YtfobladliokfoaaDoor.tk Go.Proofs.YtfobladliokfoaaDoor.kp
theorem wf_u64 {a : Int} (h : (Lit.int .u64 a).wf = true) : ∃ n : Nat, a = n ∧ n < 18446744073709551616 := by
  have e1 : IntKind.u64.min = 0 := by decide
  have e2 : IntKind.u64.max = 18446744073709551615 := by decide
  simp only [Lit.wf, e1, e2, Bool.and_eq_true, decide_eq_true_eq] at h
  exact ⟨a.toNat, by omega, by omega⟩
set_option maxRecDepth 100000 in
set_option maxHeartbeats 4000000 in
theorem walk (a0 : Int) (w0 : (Lit.int .i64 a0).wf = true) (a1 : Int) (w1 : (Lit.int .u64 a1).wf = true) (a2 : Int) (w2 : (Lit.int .u64 a2).wf = true) (w : World) (HL : laidMet Tryd.prog laidL w) :
    Calls Tryd.prog 6 #[.int .i64 a0, .int .u64 a1, .int .u64 a2] w fun e w' => e = .returned (.bool true) ∧ Below w.heap.size w w' := by
  have fa := fits_wf w0
  obtain ⟨p, rfl, bp⟩ := wf_u64 w1
  obtain ⟨q, rfl, bq⟩ := wf_u64 w2
  obtain ⟨pp, hv⟩ := range_of (HL.tail.tail.tail)
  have V0 := Lib.hid (VR.start hv)
  have HT := Lib.hid (tab_of (HL.tail.tail))
  have HS := Lib.hid (shift_of (HL.tail))
  clear hv HL w1 w2
  have AW := Lib.hid awake_any
  have hx := rtext_any a0 w fa HT.out
  have A2 := Lib.hid (all_is (cpx p q) (cpx_all p q bp bq) (by simp [cpx, hex16_length]))
  have HC := Lib.hid (fun w h => rtextC_any p q w bp bq h)
  by_cases h0 : 0 ≤ a0
  · have A1 := Lib.hid (all_is (Lib.itoa a0) (num_pos a0 h0 (by unfold Fits at fa; omega)) (by have := dec.itoa_len a0 (by unfold Fits at fa; omega); omega))
    clear bp bq fa w0
    go_enter Tryd.func6, Tryd.ntmps6
    go_wp2_with fail
    refine hx.mono ?_; rintro e w1 ⟨rfl, b1⟩
    have V1 := Lib.hid (V0.out.up b1)
    have S1 := Lib.hid (shift_on HS.out b1)
    have B1 := Lib.hid b1
    clear b1 hx
    go_wp2_with fail
    with_reducible refine Calls.mono (A1.out _ V1.out) ?_; rintro e w2 ⟨⟨v1, rfl, t1⟩, b2⟩
    have V2 := Lib.hid (V1.out.up b2)
    have S2 := Lib.hid (shift_on S1.out b2)
    have B2 := Lib.hid (kp.bt B1.out b2)
    have T1 := Lib.hid t1
    clear b2 t1 A1
    go_wp2_with fail
    refine (HC.out _ S2.out).mono ?_; rintro e w3 ⟨rfl, b3⟩
    have V3 := Lib.hid (V2.out.up b3)
    have T2 := Lib.hid (T1.out.below b3)
    have B3 := Lib.hid (kp.bt B2.out b3)
    clear b3 T1
    go_wp2_with fail
    with_reducible refine Calls.mono (A2.out _ V3.out) ?_; rintro e w4 ⟨⟨v2, rfl, t2⟩, b4⟩
    have V4 := Lib.hid (V3.out.up b4)
    obtain ⟨g1, d1, rfl, -, -, k1⟩ := (T2.out.below b4).at_ (by simp)
    obtain ⟨g2, d2, rfl, -, -, k2⟩ := t2.at_ (by simp)
    have B4 := Lib.hid (kp.bt B3.out b4)
    have haw := AW.out w4 V4.out
    have y0 : w4.cell? ⟨g1, 0, none⟩ = some (.int .i64 4) := k1 0 (by simp)
    have y1 : w4.cell? ⟨g1, 2, none⟩ = some (.int .i64 a0) := k1 2 (by simp)
    have y2 : w4.cell? ⟨g2, 0, none⟩ = some (.int .i64 5) := k2 0 (by simp)
    have y3 : w4.cell? ⟨g2, 3, none⟩ = some (.int .u64 (p : Int)) := k2 3 (by simp)
    have y4 : w4.cell? ⟨g2, 4, none⟩ = some (.int .u64 (q : Int)) := k2 4 (by simp)
    clear k1 k2 t2 b4 T2
    simp only [List.length_cons, List.length_nil, Nat.zero_add, Nat.reduceAdd]
    have i0 := fun w => ixT (g := g1) (n := 1) (c := d1) (k := 0) (by decide) w
    have i1 := fun w => ixT (g := g2) (n := 1) (c := d2) (k := 0) (by decide) w
    go_wp2_with fail
    refine haw.mono ?_; rintro e w5 ⟨rfl, b5⟩
    have B5 := Lib.hid (kp.bt B4.out b5)
    clear b5
    go_wp2_with fail
    go_ret; exact ⟨rfl, B5.out⟩
  · obtain ⟨qq, hneg⟩ := num_neg a0 (by omega) (by unfold Fits at fa; omega)
    have A1 := Lib.hid (all_is (Lib.itoa a0) hneg (by have := dec.itoa_len a0 (by unfold Fits at fa; omega); omega))
    clear bp bq fa w0 hneg
    go_enter Tryd.func6, Tryd.ntmps6
    go_wp2_with fail
    refine hx.mono ?_; rintro e w1 ⟨rfl, b1⟩
    have V1 := Lib.hid (V0.out.up b1)
    have S1 := Lib.hid (shift_on HS.out b1)
    have B1 := Lib.hid b1
    clear b1 hx
    go_wp2_with fail
    with_reducible refine Calls.mono (A1.out _ V1.out) ?_; rintro e w2 ⟨⟨v1, rfl, t1⟩, b2⟩
    have V2 := Lib.hid (V1.out.up b2)
    have S2 := Lib.hid (shift_on S1.out b2)
    have B2 := Lib.hid (kp.bt B1.out b2)
    have T1 := Lib.hid t1
    clear b2 t1 A1
    go_wp2_with fail
    refine (HC.out _ S2.out).mono ?_; rintro e w3 ⟨rfl, b3⟩
    have V3 := Lib.hid (V2.out.up b3)
    have T2 := Lib.hid (T1.out.below b3)
    have B3 := Lib.hid (kp.bt B2.out b3)
    clear b3 T1
    go_wp2_with fail
    with_reducible refine Calls.mono (A2.out _ V3.out) ?_; rintro e w4 ⟨⟨v2, rfl, t2⟩, b4⟩
    have V4 := Lib.hid (V3.out.up b4)
    obtain ⟨g1, d1, rfl, -, -, k1⟩ := (T2.out.below b4).at_ (by simp)
    obtain ⟨g2, d2, rfl, -, -, k2⟩ := t2.at_ (by simp)
    have B4 := Lib.hid (kp.bt B3.out b4)
    have haw := AW.out w4 V4.out
    have y0 : w4.cell? ⟨g1, 0, none⟩ = some (.int .i64 1) := k1 0 (by simp)
    have y1 : w4.cell? ⟨g1, 1, none⟩ = some (.string ⟨#[45]⟩) := k1 1 (by simp)
    have y5 : w4.cell? ⟨g1, 6, none⟩ = some (.int .i64 4) := k1 6 (by simp)
    have y6 : w4.cell? ⟨g1, 8, none⟩ = some (.int .i64 (wrap64 (-a0))) := k1 8 (by simp)
    have y2 : w4.cell? ⟨g2, 0, none⟩ = some (.int .i64 5) := k2 0 (by simp)
    have y3 : w4.cell? ⟨g2, 3, none⟩ = some (.int .u64 (p : Int)) := k2 3 (by simp)
    have y4 : w4.cell? ⟨g2, 4, none⟩ = some (.int .u64 (q : Int)) := k2 4 (by simp)
    clear k1 k2 t2 b4 T2
    simp only [List.length_cons, List.length_nil, Nat.zero_add, Nat.reduceAdd]
    have i0 := fun w => ixT (g := g1) (n := 2) (c := d1) (k := 0) (by decide) w
    have i2 := fun w => ixT (g := g1) (n := 2) (c := d1) (k := 1) (by decide) w
    have i1 := fun w => ixT (g := g2) (n := 1) (c := d2) (k := 0) (by decide) w
    go_wp2_with fail
    refine haw.mono ?_; rintro e w5 ⟨rfl, b5⟩
    have B5 := Lib.hid (kp.bt B4.out b5)
    clear b5
    go_wp2_with fail
    go_ret; exact ⟨rfl, B5.out⟩
set_option maxRecDepth 100000 in
theorem lifted (os : Os) (started : os.Started) (H : Type) (enc : TypeId × Value → H) :
    ReturnsInHanded {} Tryd.checked os 6 .any (fun w args => (Rows.tokenNumbersSpec.pre enc Tryd.prog Tryd.f6 Rows.tokenNumbersRow.domain false w args ∧ laidMetH Tryd.prog laidL w) ∧ sizedMet enc Tryd.prog Tryd.f6 (OpenSpec.ofChange Rows.tokenNumbersSpec) false w args)
      (Rows.tokenNumbersSpec.post enc Tryd.prog Tryd.f6 false true false false) := by
  refine returnsInHanded_of_change_and (C := Tryd.checked) (X := fun w _ => laidMetH Tryd.prog laidL w) (fun _ _ _ hh h => h.of_heap hh) own started (by kernel_rfl) Tryd.func6
    (ChangeSpec.witness_shaped (enc := enc) (C := Tryd.checked) (os := os) (X := fun w _ => laidMetH Tryd.prog laidL w) false (World.doorLaid Tryd.prog 400 os) #[.int .i64 0, .int .u64 0, .int .u64 0] 8 rfl (World.shaped_of_RefB (by kernel_rfl) (by kernel_rfl)) (by kernel_rfl) (by kernel_rfl) (by kernel_rfl) (door_met os _)) ?_
  intro W base args ds gs before hval0 hW _ hsz0 hL _
  have hsz : (DataW.weightsEach Tryd.prog (Tryd.f6.params.toList ++ Rows.tokenNumbersSpec.plain.varTypes Tryd.prog) (ds ++ gs)).all (· ≤ reachBytes) = true := hsz0
  clear hsz0
  have hval : ∀ (j : Nat) t v, Tryd.f6.params[j]? = some t → args[j]? = some v → Value.okWide Tryd.prog W .any base t v := hval0
  have hW' := hW
  obtain ⟨p, q, hA0, hV, rfl, hfz, hnd⟩ := hW
  have hA : DataW.TrodAll enc Tryd.prog W 0 (fun _ => true) true Tryd.f6.params.toList args.toList ds p := hA0
  rw [Tryd.params6] at hA hval hsz
  obtain ⟨v0, vs0, d0, ds0, p0, q0, hargs, rfl, rfl, h0, r0⟩ := trodAll_cons hA
  obtain ⟨v1, vs1, d1, ds1, p1, q1, rfl, rfl, rfl, h1, r1⟩ := trodAll_cons r0
  obtain ⟨v2, vs2, d2, ds2, p2, q2, rfl, rfl, rfl, h2, r2⟩ := trodAll_cons r1
  obtain ⟨rfl, rfl, rfl⟩ := trodAll_nil r2
  obtain rfl : args = #[v0, v1, v2] := by cases args; simp_all
  obtain ⟨rfl, rfl⟩ := trodVars_none hV
  obtain ⟨a0, rfl, rfl, rfl, w0⟩ := open_int Tryd.underlying2 (hval 0 2 v0 rfl rfl) h0
  obtain ⟨a1, rfl, rfl, rfl, w1⟩ := open_int Tryd.underlying22 (hval 1 22 v1 rfl rfl) h1
  obtain ⟨a2, rfl, rfl, rfl, w2⟩ := open_int Tryd.underlying22 (hval 2 22 v2 rfl rfl) h2
  clear hA0 hval0
  simp only [List.append_nil] at hW'

  have HL : laidMet Tryd.prog laidL W := by rw [MakeChecks.laidMetH_plain _ _ _ (by kernel_rfl)] at hL; exact hL
  refine (walk a0 w0 a1 w1 a2 w2 W HL).mono fun e W' ⟨he, hg⟩ => ?_
  subst he
  refine ⟨_, rfl, _, _, _, [], [], [], hW', ?_, ?_, rfl, hg.frame _, fun h => by cases h⟩
  · exact (trodAll_cons_mk (shut_bool Tryd.underlying4 _) trodAll_mk0)
  · exact (trodAll_cons_mk (shut_int Tryd.underlying2 w0) (trodAll_cons_mk (shut_int Tryd.underlying22 w1) (trodAll_cons_mk (shut_int Tryd.underlying22 w2) trodAll_mk0)))
theorem holds : Rows.TokenNumbersSaid :=
  OpenClaim.holds_of_wide 6 Tryd.f6 rfl rfl rfl rfl rfl rfl rfl ⟨rfl, rfl, rfl, rfl, rfl⟩ rfl rfl rfl rfl rfl (by kernel_rfl) Tryd.func6 (by kernel_rfl)
    (of_decide_eq_true (by kernel_rfl)) (by unfold Func.isWrapper; first | (rw [if_pos (by decide +kernel)]; kernel_rfl) | (rw [if_neg (by decide +kernel)]; exact ⟨rfl, rfl⟩))
    (fun os started H enc _ => lifted os started H enc)
/-- THE STATEMENT: the tied card. -/
theorem proved : Rows.TokenNumbersCardSaid :=
  Claim7.holds_tied_plain_at .later [] [.data, .data, .data, .sentinel, .sentinel] true (true, "a69b515a8f321eaead757f0fb19489d5dc92af181670f5b344fa82c7a27d3371") true
    holds (fun _ h => by cases h) (by kernel_rfl) (fun _ h => by cases h) tokenNumbers_row_tie rfl ⟨rfl, rfl⟩ (by kernel_rfl) rfl
    (fun f fn hf hfn => by
      obtain rfl : f = 6 := Option.some.inj ((show Tryd.prog.funcNamed "elenchus/elenchuslaw11.TokenNumbers" = some 6 by kernel_rfl).symm.trans hf) |>.symm
      obtain rfl : fn = Tryd.f6 := (Option.some.inj (Tryd.func6.symm.trans hfn)).symm
      exact ⟨by kernel_rfl, fun j t ht => by
        rw [Tryd.params6] at ht
        have hm : t ∈ [2, 22] := by simpa using Array.mem_of_getElem? ht
        have hall : ([2, 22].all fun u => !(Tryd.prog.wantsStandIn u)) = true := by kernel_rfl
        exact (show Tryd.prog.wantsStandIn t = false by simpa using List.all_eq_true.1 hall t hm)⟩)
    (by kernel_rfl)
#print axioms proved
end Go.Proofs.YtfobladliokfoaaDoor.tokenNumbers
