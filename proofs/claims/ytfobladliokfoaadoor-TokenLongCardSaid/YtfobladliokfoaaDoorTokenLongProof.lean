/- The law TokenLong holds, as its tied card says: for every input its Go function returns true and leaves its arguments as they were. The listed package-level variables start as the program's text lays them. -/
import Derived.Test.YtfobladliokfoaaDoorRows
import Derived.Test.YtfobladliokfoaaDoorCards
import Derived.Test.YtfobladliokfoaaDoorTie
import Derived.WalkKit
import Derived.ProofKit
import Derived.OpenShut
import Derived.LaidMore
import Derived.LaidLaws
import Derived.SizedLaws
import Derived.MakeChecks
import Derived.SevenTiedAt
import Derived.Stop.Joined
import Derived.Test.YtfobladliokfoaaDoorTkO
namespace Go.Proofs.YtfobladliokfoaaDoor.tokenLong
open Go.ChangeShapes Go.WideShapes Go.ChangeAt Go.RowKit
open Go.ChangeMaps (open_string shut_string)
set_option linter.unusedVariables false
theorem own : ownKnob Tryd.prog.godebug = none := by kernel_rfl
abbrev laidL : List (String × DataW Unit) := [("math/bits.deBruijn32tab", Rows.laid_math_bits_deBruijn32tab), ("math/bits.deBruijn64tab", Rows.laid_math_bits_deBruijn64tab), ("internal/strconv.uint64pow10", Rows.laid_internal_strconv_uint64pow10), ("strconv.ErrRange", Rows.laid_strconv_ErrRange), ("strconv.ErrSyntax", Rows.laid_strconv_ErrSyntax)]
theorem door_met (os : Os) (args : Array Value) : laidMetH Tryd.prog laidL ((World.doorLaid Tryd.prog 400 os).forCall (fun _ _ => 0) ⟨#[], args, []⟩).memory :=
  laidMetH_of_parts3 (fuel := 8) (laidMet_of_run' 8 (by kernel_rfl) (by kernel_rfl)) (by kernel_rfl) (by kernel_rfl)
open Go.Proofs.YtfobladliokfoaaDoor.num Go.Proofs.YtfobladliokfoaaDoor.tk Go.Proofs.YtfobladliokfoaaDoor.kp
set_option maxRecDepth 100000 in
set_option maxHeartbeats 4000000 in
theorem walk (a0 : Int) (w0 : (Lit.int .i64 a0).wf = true) (a1 : Int) (w1 : (Lit.int .i64 a1).wf = true) (w : World) (HL : laidMet Tryd.prog laidL w) :
    Calls Tryd.prog 3 #[.int .i64 a0, .int .i64 a1] w fun e w' => e = .returned (.bool true) ∧ Below w.heap.size w w' := by
  have u0 := u64_nonneg a0
  obtain ⟨pp, hv⟩ := range_of (HL.tail.tail.tail)
  have V0 := Lib.hid (VR.start hv)
  have AW := Lib.hid awake_any
  clear hv HL
  obtain ⟨m, hm⟩ : ∃ m : Nat, (IntKind.u64.wrap a0).tmod 5 = (m : Int) := ⟨((IntKind.u64.wrap a0).tmod 5).toNat, by rw [Int.tmod_eq_emod_of_nonneg u0]; omega⟩
  have hm5 : m ≤ 4 := by rw [Int.tmod_eq_emod_of_nonneg u0] at hm; omega
  clear u0
  go_enter Tryd.func3, Tryd.ntmps3
  go_upto_if 22 with fail
  go_cut [5] (fun s5 wx => ∃ c : UInt8, (c = 97 ∨ c = 65) ∧ s5 = .int .u8 (c.toNat : Int) ∧ wx = w)
  case first =>
    by_cases hk : (a1.tmod 2 == 0) = true
    · go_wp2_with fail
      go_meet
      case rel => exact ⟨65, Or.inr rfl, rfl, rfl⟩
    · simp only [Bool.not_eq_true] at hk
      go_wp2_with fail
      go_meet
      case rel => exact ⟨97, Or.inl rfl, rfl, rfl⟩
  case rest =>
    obtain ⟨c, hc, rfl, rfl⟩ := hcut
    obtain ⟨n1, hn1⟩ : ∃ n1, n1 = 198 + m := ⟨_, rfl⟩
    obtain ⟨n2, hn2⟩ : ∃ n2, n2 = 65534 + m := ⟨_, rfl⟩
    have e1 : (198 : Int) + (m : Int) = (n1 : Int) := by omega
    have e2 : (65534 : Int) + (m : Int) = (n2 : Int) := by omega
    have hmk1 := mk_any n1 (by omega) wc (.int .u8 (c.toNat : Int))
    have HMK2 := Lib.hid (fun w => mk_any n2 (by omega) w (bv 32))
    obtain ⟨ts1, er1, ha1, hf1, hg1⟩ : ∃ ts1 er1, allT (List.replicate n1 c) = (ts1, 0, er1) ∧ (n1 ≤ 200 → er1 = 0 ∧ ts1.length = 1) ∧ (¬ n1 ≤ 200 → er1 = 3 ∧ ts1.length = 0) := by
      rw [long_name n1 c hc (by omega) (by omega)]
      by_cases h : n1 ≤ 200
      · rw [if_pos h]; exact ⟨_, _, rfl, fun _ => ⟨rfl, rfl⟩, fun h2 => absurd h h2⟩
      · rw [if_neg h]; exact ⟨_, _, rfl, fun h2 => absurd h2 h, fun _ => ⟨rfl, rfl⟩⟩
    obtain ⟨er2, ha2, hf2, hg2⟩ : ∃ er2, allT (List.replicate n2 32) = ([], 0, er2) ∧ (n2 ≤ 65536 → er2 = 0) ∧ (¬ n2 ≤ 65536 → er2 = 3) := by
      rw [long_space n2]
      by_cases h : n2 ≤ 65536
      · rw [if_pos h]; exact ⟨_, rfl, fun _ => rfl, fun h2 => absurd h h2⟩
      · rw [if_neg h]; exact ⟨_, rfl, fun h2 => absurd h2 h, fun _ => rfl⟩
    have HF := Lib.hid (And.intro hf1 (And.intro hg1 (And.intro hf2 hg2)))
    have A1 := all_is (List.replicate n1 c) ha1 (by simp; omega)
    have A2 := all_is (List.replicate n2 32) ha2 (by simp; omega)
    clear ha1 ha2 hf1 hg1 hf2 hg2
    simp only [List.toArray_replicate] at A1 A2
    replace A1 := Lib.hid A1
    replace A2 := Lib.hid A2
    have hn1l : n1 ≤ 300 := by omega
    have hn2l : n2 ≤ 70000 := by omega
    obtain ⟨b1, hb1⟩ : ∃ b1, b1 = wc.heap.size := ⟨_, rfl⟩
    obtain ⟨w1, hw1⟩ : ∃ w1, w1 = wc.alloc (FL n1 0 (.int .u8 (c.toNat : Int))) := ⟨_, rfl⟩
    have NB1 := Lib.hid (show w1.heap[b1]? = some (FL n1 0 (.int .u8 (c.toNat : Int))) by rw [hw1, hb1]; exact alloc_at wc _)
    have HW1 := Lib.hid (And.intro hb1 hw1)
    have HM := Lib.hid (And.intro hn1 hn2)
    clear hm hc hn1 hn2 hb1 hw1
    go_upto_region 6 with fail
    change Code.wp _ _ _ _ (wc.alloc (FL n1 0 (.int .u8 (c.toNat : Int))))
    rw [← HW1.out.1, ← HW1.out.2]
    clear hmk1
    go_wp2_with fail
    go_loopw [28] (fun i wr => RL w1 b1 n1 (.int .u8 (c.toNat : Int)) i wr) (fun i _ => n1 - (intOf i).toNat)
    case atStart => exact ⟨0, by omega, rfl, Nw.same NB1.out⟩
    case round =>
      obtain ⟨k, hk, rfl, NN⟩ := hrel
      by_cases hlt : k < n1
      · obtain ⟨c0, f0⟩ := FL.cell NN.1 hlt
        have NS := Lib.hid (NN.trans (FL.step NN.1 hlt))
        clear NN
        go_wp2_with fail
        go_roundw
        case rel => exact ⟨k + 1, by omega, by go_num, NS.out⟩
        case measure => simp [intOf]; omega
      · obtain rfl : k = n1 := by omega
        have hcv := FL.conv (c := c) NN.1
        rw [List.toArray_replicate] at hcv
        have HNN := Lib.hid NN
        clear NN hlt hk
        have V1 : VR wr.heap.size wr := V0.out.up ((kp.ba wc (FL k 0 (.int .u8 (c.toNat : Int)))).trans ((HW1.out.2 ▸ HNN.out.2 : Keep _ (wc.alloc (FL k 0 (.int .u8 (c.toNat : Int)))) wr).to_below (fun i hi => by rw [hi, HW1.out.1]; exact Nat.le_refl _) (by rw [alloc_size]; omega)))
        have V1' := Lib.hid V1
        have B1 := Lib.hid ((kp.ba wc (FL k 0 (.int .u8 (c.toNat : Int)))).trans ((HW1.out.2 ▸ HNN.out.2 : Keep _ (wc.alloc (FL k 0 (.int .u8 (c.toNat : Int)))) wr).to_below (fun i hi => by rw [hi, HW1.out.1]; exact Nat.le_refl _) (by rw [alloc_size]; omega)))
        clear V1
        go_wp2_with fail
        with_reducible refine Calls.mono (A1.out _ V1'.out) ?_; rintro e w2 ⟨⟨v1, rfl, t1⟩, b2⟩
        have V2 := Lib.hid (V1'.out.up b2)
        have B2 := Lib.hid (kp.bt B1.out b2)
        have T1 := Lib.hid t1
        clear b2 t1 A1 hcv HNN
        obtain ⟨b3, hb3⟩ : ∃ b3, b3 = w2.heap.size := ⟨_, rfl⟩
        obtain ⟨w3, hw3⟩ : ∃ w3, w3 = w2.alloc (FL n2 0 (.int .u8 32)) := ⟨_, rfl⟩
        have NB3 := Lib.hid (show w3.heap[b3]? = some (FL n2 0 (.int .u8 32)) by rw [hw3, hb3]; exact alloc_at w2 _)
        have HW3 := Lib.hid (And.intro hb3 hw3)
        have hmk2 := HMK2.out w2
        clear hb3 hw3
        go_upto_region 13 with fail
        change Code.wp _ _ _ _ (w2.alloc (FL n2 0 (.int .u8 32)))
        rw [← HW3.out.1, ← HW3.out.2]
        clear hmk2
        go_wp2_with fail
        go_loopw [48] (fun i wr => RL w3 b3 n2 (.int .u8 32) i wr) (fun i _ => n2 - (intOf i).toNat)
        case atStart => exact ⟨0, by omega, rfl, Nw.same NB3.out⟩
        case round =>
          obtain ⟨j, hj, rfl, NN⟩ := hrel
          by_cases hlt : j < n2
          · obtain ⟨c0, f0⟩ := FL.cell NN.1 hlt
            have NS := Lib.hid (NN.trans (FL.step NN.1 hlt))
            clear NN
            go_wp2_with fail
            go_roundw
            case rel => exact ⟨j + 1, by omega, by go_num, NS.out⟩
            case measure => simp [intOf]; omega
          · obtain rfl : j = n2 := by omega
            have hcv := FL.conv (c := 32) NN.1
            rw [List.toArray_replicate] at hcv
            have HNN := Lib.hid NN
            clear NN hlt hj
            have B3 := Lib.hid ((kp.ba w2 (FL j 0 (.int .u8 32))).trans ((HW3.out.2 ▸ HNN.out.2 : Keep _ (w2.alloc (FL j 0 (.int .u8 32))) wr).to_below (fun i hi => by rw [hi, HW3.out.1]; exact Nat.le_refl _) (by rw [alloc_size]; omega)))
            have V3 := Lib.hid (V2.out.up B3.out)
            have B4 := Lib.hid (kp.bt B2.out B3.out)
            have T2 := Lib.hid (T1.out.below B3.out)
            clear T1 HNN
            go_wp2_with fail
            with_reducible refine Calls.mono (A2.out _ V3.out) ?_; rintro e w5 ⟨⟨v2, rfl, t2⟩, b5⟩
            have V5 := Lib.hid (V3.out.up b5)
            have B5 := Lib.hid (kp.bt B4.out b5)
            have T5 := Lib.hid (T2.out.below b5)
            obtain ⟨s2, d2, rfl⟩ := t2.shape
            obtain ⟨s1, d1, rfl⟩ := T5.out.shape
            have haw := AW.out w5 V5.out
            clear b5 t2 A2 hcv T2 T5
            by_cases hm2 : m ≤ 2
            · have q1 : k ≤ 200 := by have := HM.out.1; omega
              have q2 : j ≤ 65536 := by have := HM.out.2; omega
              have q3 : (m : Int) ≤ 2 := by omega
              obtain ⟨rfl, hl1⟩ := HF.out.1 q1
              obtain rfl := HF.out.2.2.1 q2
              rw [hl1]
              clear q1 q2 hm2 e1 e2
              go_wp2_with fail
              refine haw.mono ?_; rintro e w6 ⟨rfl, b6⟩
              have B6 := Lib.hid (kp.bt B5.out b6)
              clear b6
              go_wp2_with fail
              go_ret; exact ⟨rfl, B6.out⟩
            · have q1 : ¬ k ≤ 200 := by have := HM.out.1; omega
              have q2 : ¬ j ≤ 65536 := by have := HM.out.2; omega
              have q3 : ¬ (m : Int) ≤ 2 := by omega
              obtain ⟨rfl, hl1⟩ := HF.out.2.1 q1
              obtain rfl := HF.out.2.2.2 q2
              rw [hl1]
              clear q1 q2 hm2 e1 e2
              go_wp2_with fail
              refine haw.mono ?_; rintro e w6 ⟨rfl, b6⟩
              have B6 := Lib.hid (kp.bt B5.out b6)
              clear b6
              go_wp2_with fail
              go_ret; exact ⟨rfl, B6.out⟩
set_option maxRecDepth 100000 in
theorem lifted (os : Os) (started : os.Started) (H : Type) (enc : TypeId × Value → H) :
    ReturnsInHanded {} Tryd.checked os 3 .any (fun w args => (Rows.tokenLongSpec.pre enc Tryd.prog Tryd.f3 Rows.tokenLongRow.domain false w args ∧ laidMetH Tryd.prog laidL w) ∧ sizedMet enc Tryd.prog Tryd.f3 (OpenSpec.ofChange Rows.tokenLongSpec) false w args)
      (Rows.tokenLongSpec.post enc Tryd.prog Tryd.f3 false true false false) := by
  refine returnsInHanded_of_change_and (C := Tryd.checked) (X := fun w _ => laidMetH Tryd.prog laidL w) (fun _ _ _ hh h => h.of_heap hh) own started (by kernel_rfl) Tryd.func3
    (ChangeSpec.witness_shaped (enc := enc) (C := Tryd.checked) (os := os) (X := fun w _ => laidMetH Tryd.prog laidL w) false (World.doorLaid Tryd.prog 400 os) #[.int .i64 0, .int .i64 0] 8 rfl (World.shaped_of_RefB (by kernel_rfl) (by kernel_rfl)) (by kernel_rfl) (by kernel_rfl) (by kernel_rfl) (door_met os _)) ?_
  intro W base args ds gs before hval0 hW _ hsz0 hL _
  have hsz : (DataW.weightsEach Tryd.prog (Tryd.f3.params.toList ++ Rows.tokenLongSpec.plain.varTypes Tryd.prog) (ds ++ gs)).all (· ≤ reachBytes) = true := hsz0
  clear hsz0
  have hval : ∀ (j : Nat) t v, Tryd.f3.params[j]? = some t → args[j]? = some v → Value.okWide Tryd.prog W .any base t v := hval0
  have hW' := hW
  obtain ⟨p, q, hA0, hV, rfl, hfz, hnd⟩ := hW
  have hA : DataW.TrodAll enc Tryd.prog W 0 (fun _ => true) true Tryd.f3.params.toList args.toList ds p := hA0
  rw [Tryd.params3] at hA hval hsz
  obtain ⟨v0, vs0, d0, ds0, p0, q0, hargs, rfl, rfl, h0, r0⟩ := trodAll_cons hA
  obtain ⟨v1, vs1, d1, ds1, p1, q1, rfl, rfl, rfl, h1, r1⟩ := trodAll_cons r0
  obtain ⟨rfl, rfl, rfl⟩ := trodAll_nil r1
  obtain rfl : args = #[v0, v1] := by cases args; simp_all
  obtain ⟨rfl, rfl⟩ := trodVars_none hV
  obtain ⟨a0, rfl, rfl, rfl, w0⟩ := open_int Tryd.underlying3 (hval 0 3 v0 rfl rfl) h0
  obtain ⟨a1, rfl, rfl, rfl, w1⟩ := open_int Tryd.underlying3 (hval 1 3 v1 rfl rfl) h1
  clear hA0 hval0
  simp only [List.append_nil] at hW'

  have HL : laidMet Tryd.prog laidL W := by rw [MakeChecks.laidMetH_plain _ _ _ (by kernel_rfl)] at hL; exact hL
  refine (walk a0 w0 a1 w1 W HL).mono fun e W' ⟨he, hg⟩ => ?_
  subst he
  refine ⟨_, rfl, _, _, _, [], [], [], hW', ?_, ?_, rfl, hg.frame _, fun h => by cases h⟩
  · exact (trodAll_cons_mk (shut_bool Tryd.underlying4 _) trodAll_mk0)
  · exact (trodAll_cons_mk (shut_int Tryd.underlying3 w0) (trodAll_cons_mk (shut_int Tryd.underlying3 w1) trodAll_mk0))
theorem holds : Rows.TokenLongSaid :=
  OpenClaim.holds_of_wide 3 Tryd.f3 rfl rfl rfl rfl rfl rfl rfl ⟨rfl, rfl, rfl, rfl, rfl⟩ rfl rfl rfl rfl rfl (by kernel_rfl) Tryd.func3 (by kernel_rfl)
    (of_decide_eq_true (by kernel_rfl)) (by unfold Func.isWrapper; first | (rw [if_pos (by decide +kernel)]; kernel_rfl) | (rw [if_neg (by decide +kernel)]; exact ⟨rfl, rfl⟩))
    (fun os started H enc _ => lifted os started H enc)
/-- THE STATEMENT: the tied card. -/
theorem proved : Rows.TokenLongCardSaid :=
  Claim7.holds_tied_plain_at .later [] [.data, .data, .data, .sentinel, .sentinel] true (true, "a69b515a8f321eaead757f0fb19489d5dc92af181670f5b344fa82c7a27d3371") true
    holds (fun _ h => by cases h) (by kernel_rfl) (fun _ h => by cases h) tokenLong_row_tie rfl ⟨rfl, rfl⟩ (by kernel_rfl) rfl
    (fun f fn hf hfn => by
      obtain rfl : f = 3 := Option.some.inj ((show Tryd.prog.funcNamed "elenchus/elenchuslaw11.TokenLong" = some 3 by kernel_rfl).symm.trans hf) |>.symm
      obtain rfl : fn = Tryd.f3 := (Option.some.inj (Tryd.func3.symm.trans hfn)).symm
      exact ⟨by kernel_rfl, fun j t ht => by
        rw [Tryd.params3] at ht
        have hm : t ∈ [3] := by simpa using Array.mem_of_getElem? ht
        have hall : ([3].all fun u => !(Tryd.prog.wantsStandIn u)) = true := by kernel_rfl
        exact (show Tryd.prog.wantsStandIn t = false by simpa using List.all_eq_true.1 hall t hm)⟩)
    (by kernel_rfl)
#print axioms proved
end Go.Proofs.YtfobladliokfoaaDoor.tokenLong
