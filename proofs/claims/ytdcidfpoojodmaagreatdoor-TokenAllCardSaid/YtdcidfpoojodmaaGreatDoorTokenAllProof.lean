/- The law TokenAll holds, as its tied card says: for every input its Go function returns true and leaves its arguments as they were. The listed package-level variables start as the program's text lays them. -/
import Derived.Test.YtdcidfpoojodmaaGreatDoorRows
import Derived.Test.YtdcidfpoojodmaaGreatDoorCards
import Derived.Test.YtdcidfpoojodmaaGreatDoorTie
import Derived.WalkKit
import Derived.ProofKit
import Derived.OpenShut
import Derived.LaidMore
import Derived.LaidLaws
import Derived.SizedLaws
import Derived.MakeChecks
import Derived.SevenTiedAt
import Derived.Stop.Joined
import Derived.Test.YtdcidfpoojodmaaGreatDoorTrM
namespace Go.Proofs.YtdcidfpoojodmaaGreatDoor.tokenAll
open Go.ChangeShapes Go.WideShapes Go.ChangeAt Go.RowKit
open Go.ChangeMaps (open_string shut_string)
set_option linter.unusedVariables false
theorem own : ownKnob Tryz.prog.godebug = none := by kernel_rfl
abbrev laidL : List (String × DataW Unit) := [("math/bits.deBruijn32tab", Rows.laid_math_bits_deBruijn32tab), ("math/bits.deBruijn64tab", Rows.laid_math_bits_deBruijn64tab), ("internal/strconv.uint64pow10", Rows.laid_internal_strconv_uint64pow10), ("strconv.ErrRange", Rows.laid_strconv_ErrRange), ("strconv.ErrSyntax", Rows.laid_strconv_ErrSyntax)]
theorem door_met (os : Os) (args : Array Value) : laidMetH Tryz.prog laidL ((World.doorLaid Tryz.prog 400 os).forCall (fun _ _ => 0) ⟨#[], args, []⟩).memory :=
  laidMetH_of_parts3 (fuel := 8) (laidMet_of_run' 8 (by kernel_rfl) (by kernel_rfl)) (by kernel_rfl) (by kernel_rfl)
open Go.Proofs.YtdcidfpoojodmaaGreatDoor.num Go.Proofs.YtdcidfpoojodmaaGreatDoor.tk Go.Proofs.YtdcidfpoojodmaaGreatDoor.kp Go.Proofs.YtdcidfpoojodmaaGreatDoor.tr
set_option maxRecDepth 100000 in
set_option maxHeartbeats 8000000 in
theorem walk (l0 : List UInt8) (s0 : l0.length ≤ 140737488351232) (w : World) (HL : laidMet Tryz.prog laidL w) :
    Calls Tryz.prog 3 #[.string ⟨l0.toArray⟩] w fun e w' => e = .returned (.bool true) ∧ Below w.heap.size w w' := by
  obtain ⟨pp, hv⟩ := range_of (HL.tail.tail.tail)
  have V0 := Lib.hid (VR.start hv)
  have AW := Lib.hid awake_any
  clear hv HL
  by_cases h3 : l0.length ≤ 3000
  · obtain ⟨ts, q, e, ha⟩ : ∃ ts q e, allT l0 = (ts, q, e) := ⟨_, _, _, rfl⟩
    have hd : decide (3000 < (l0.length : Int)) = false := decide_eq_false (by omega)
    have hA := all_is l0 ha (by omega) w V0.out
    have RA := Lib.hid (fun w => rall_is l0 ha (by omega) w)
    have PL := Lib.hid (plain_any l0 (by omega))
    have RP := Lib.hid (rplain_any l0 (by omega))
    have QU := Lib.hid (quote_any' l0 (by omega))
    have RQ := Lib.hid (rquoteF_any l0 (by omega))
    have HLN := Lib.hid (all_len ha)
    have H3 := Lib.hid h3
    clear ha h3
    obtain ⟨pb, hpb⟩ : ∃ x, plainB l0 = x := ⟨_, rfl⟩
    obtain ⟨qs, hqs⟩ : ∃ x, quoteL l0 = x := ⟨_, rfl⟩
    rw [hpb] at PL RP
    rw [hqs] at QU RQ
    clear hpb hqs
    go_enter Tryz.func3, Tryz.ntmps3
    go_wp2_with fail
    with_reducible refine Calls.mono hA ?_; rintro x w1 ⟨⟨v1, rfl, t1⟩, b1⟩
    have V1 := Lib.hid (V0.out.up b1)
    have B1 := Lib.hid b1
    have T1 := Lib.hid t1
    clear hA b1 t1
    go_wp2_with fail
    with_reducible refine Calls.mono (RA.out _) ?_; rintro x w2 ⟨⟨v2, rfl, t2⟩, b2⟩
    have V2 := Lib.hid (V1.out.up b2)
    have B2 := Lib.hid (kp.bt B1.out b2)
    obtain ⟨a1, c1, rfl⟩ := T1.out.shape
    obtain ⟨a2, c2, rfl⟩ := t2.shape
    have HS := Lib.hid (same_any w2 (T1.out.below b2) t2 (by have := HLN.out; have := H3.out; omega))
    clear t2 b2
    go_wp2_with fail
    rw [show decide True = true from rfl] at HS
    refine HS.out.mono ?_; rintro x w3 ⟨rfl, b3⟩
    have V3 := Lib.hid (V2.out.up b3)
    have B3 := Lib.hid (kp.bt B2.out b3)
    clear b3
    go_wp2_with fail
    refine (PL.out _ V3.out).mono ?_; rintro x w4 ⟨rfl, b4⟩
    have V4 := Lib.hid (V3.out.up b4)
    have B4 := Lib.hid (kp.bt B3.out b4)
    clear b4
    go_wp2_with fail
    refine (RP.out _).mono ?_; rintro x w5 ⟨rfl, b5⟩
    have V5 := Lib.hid (V4.out.up b5)
    have B5 := Lib.hid (kp.bt B4.out b5)
    clear b5
    go_wp2_with fail
    refine (QU.out _ V5.out).mono ?_; rintro x w6 ⟨rfl, b6⟩
    have V6 := Lib.hid (V5.out.up b6)
    have B6 := Lib.hid (kp.bt B5.out b6)
    clear b6
    go_wp2_with fail
    refine (RQ.out _).mono ?_; rintro x w7 ⟨rfl, b7⟩
    have V7 := Lib.hid (V6.out.up b7)
    have B7 := Lib.hid (kp.bt B6.out b7)
    clear b7
    go_wp2_with fail
    refine (AW.out _ V7.out).mono ?_; rintro x w8 ⟨rfl, b8⟩
    have B8 := Lib.hid (kp.bt B7.out b8)
    clear b8
    go_wp2_with fail
    go_ret; exact ⟨rfl, B8.out⟩
  · have haw := AW.out w V0.out
    have hd : decide (3000 < (l0.length : Int)) = true := decide_eq_true (by omega)
    go_enter Tryz.func3, Tryz.ntmps3
    go_wp2_with fail
    refine haw.mono ?_; rintro e w1 ⟨rfl, b⟩
    go_wp2_with fail
    go_ret; exact ⟨rfl, b⟩
set_option maxRecDepth 100000 in
theorem lifted (os : Os) (started : os.Started) (H : Type) (enc : TypeId × Value → H) :
    ReturnsInHanded {} Tryz.checked os 3 .any (fun w args => (Rows.tokenAllSpec.pre enc Tryz.prog Tryz.f3 Rows.tokenAllRow.domain false w args ∧ laidMetH Tryz.prog laidL w) ∧ sizedMet enc Tryz.prog Tryz.f3 (OpenSpec.ofChange Rows.tokenAllSpec) false w args)
      (Rows.tokenAllSpec.post enc Tryz.prog Tryz.f3 false true false false) := by
  refine returnsInHanded_of_change_and (C := Tryz.checked) (X := fun w _ => laidMetH Tryz.prog laidL w) (fun _ _ _ hh h => h.of_heap hh) own started (by kernel_rfl) Tryz.func3
    (ChangeSpec.witness_shaped (enc := enc) (C := Tryz.checked) (os := os) (X := fun w _ => laidMetH Tryz.prog laidL w) false (World.doorLaid Tryz.prog 400 os) #[.string ⟨#[]⟩] 8 rfl (World.shaped_of_RefB (by kernel_rfl) (by kernel_rfl)) (by kernel_rfl) (by kernel_rfl) (by kernel_rfl) (door_met os _)) ?_
  intro W base args ds gs before hval0 hW _ hsz0 hL _
  have hsz : (DataW.weightsEach Tryz.prog (Tryz.f3.params.toList ++ Rows.tokenAllSpec.plain.varTypes Tryz.prog) (ds ++ gs)).all (· ≤ reachBytes) = true := hsz0
  clear hsz0
  have hval : ∀ (j : Nat) t v, Tryz.f3.params[j]? = some t → args[j]? = some v → Value.okWide Tryz.prog W .any base t v := hval0
  have hW' := hW
  obtain ⟨p, q, hA0, hV, rfl, hfz, hnd⟩ := hW
  have hA : DataW.TrodAll enc Tryz.prog W 0 (fun _ => true) true Tryz.f3.params.toList args.toList ds p := hA0
  rw [Tryz.params3] at hA hval hsz
  obtain ⟨v0, vs0, d0, ds0, p0, q0, hargs, rfl, rfl, h0, r0⟩ := trodAll_cons hA
  obtain ⟨rfl, rfl, rfl⟩ := trodAll_nil r0
  obtain rfl : args = #[v0] := by cases args; simp_all
  obtain ⟨rfl, rfl⟩ := trodVars_none hV
  obtain ⟨t0, rfl, rfl, rfl, u0⟩ := open_string Tryz.underlying9 (hval 0 9 v0 rfl rfl) h0
  clear hA0 hval0
  simp only [List.append_nil] at hW'
  have z0 : t0.data.toList.length ≤ 140737488351232 := by
    have h1 := sized_string hsz (j := 0) (t := 9) rfl rfl
    have e3 : reachBytes = 140737488351232 := by decide
    omega
  obtain ⟨l0, rfl⟩ : ∃ l : List UInt8, t0 = ⟨l.toArray⟩ := ⟨t0.data.toList, by cases t0; simp⟩
  have s0 : l0.length ≤ 140737488351232 := by simpa using z0
  have HL : laidMet Tryz.prog laidL W := by rw [MakeChecks.laidMetH_plain _ _ _ (by kernel_rfl)] at hL; exact hL
  refine (walk l0 s0 W HL).mono fun e W' ⟨he, hg⟩ => ?_
  subst he
  refine ⟨_, rfl, _, _, _, [], [], [], hW', ?_, ?_, rfl, hg.frame _, fun h => by cases h⟩
  · exact (trodAll_cons_mk (shut_bool Tryz.underlying4 _) trodAll_mk0)
  · exact (trodAll_cons_mk (shut_string Tryz.underlying9 u0) trodAll_mk0)
theorem holds : Rows.TokenAllSaid :=
  OpenClaim.holds_of_wide 3 Tryz.f3 rfl rfl rfl rfl rfl rfl rfl ⟨rfl, rfl, rfl, rfl, rfl⟩ rfl rfl rfl rfl rfl (by kernel_rfl) Tryz.func3 (by kernel_rfl)
    (of_decide_eq_true (by kernel_rfl)) (by unfold Func.isWrapper; first | (rw [if_pos (by decide +kernel)]; kernel_rfl) | (rw [if_neg (by decide +kernel)]; exact ⟨rfl, rfl⟩))
    (fun os started H enc _ => lifted os started H enc)
/-- THE STATEMENT: the tied card. -/
theorem proved : Rows.TokenAllCardSaid :=
  Claim7.holds_tied_plain_at .later [] [.data, .data, .data, .sentinel, .sentinel] true (true, "c26ce8e46977c1646a4ab145fc18569c696bc779a7e603014d3984b689eeda14") true
    holds (fun _ h => by cases h) (by kernel_rfl) (fun _ h => by cases h) tokenAll_row_tie rfl ⟨rfl, rfl⟩ (by kernel_rfl) rfl
    (fun f fn hf hfn => by
      obtain rfl : f = 3 := Option.some.inj ((show Tryz.prog.funcNamed "elenchus/elenchuslaw11.TokenAll" = some 3 by kernel_rfl).symm.trans hf) |>.symm
      obtain rfl : fn = Tryz.f3 := (Option.some.inj (Tryz.func3.symm.trans hfn)).symm
      exact ⟨by kernel_rfl, fun j t ht => by
        rw [Tryz.params3] at ht
        have hm : t ∈ [9] := by simpa using Array.mem_of_getElem? ht
        have hall : ([9].all fun u => !(Tryz.prog.wantsStandIn u)) = true := by kernel_rfl
        exact (show Tryz.prog.wantsStandIn t = false by simpa using List.all_eq_true.1 hall t hm)⟩)
    (by kernel_rfl)
#print axioms proved
end Go.Proofs.YtdcidfpoojodmaaGreatDoor.tokenAll
