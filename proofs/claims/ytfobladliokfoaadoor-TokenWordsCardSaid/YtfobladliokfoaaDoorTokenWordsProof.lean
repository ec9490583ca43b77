/- The law TokenWords holds, as its tied card says: for every input its Go function returns true and leaves its arguments as they were. The listed package-level variables start as the program's text lays them. -/
import Derived.Test.YtfobladliokfoaaDoorRows
import Derived.Test.YtfobladliokfoaaDoorCards
import Derived.Test.YtfobladliokfoaaDoorTie
import Derived.WalkKit
import Derived.ProofKit
import Derived.OpenShut
import Derived.LaidMore
import Derived.LaidLaws
import Derived.SizedLaws
import Derived.MakeChecks
import Derived.SevenTiedAt
import Derived.Stop.Joined
import Derived.Test.YtfobladliokfoaaDoorTkL
namespace Go.Proofs.YtfobladliokfoaaDoor.tokenWords
open Go.ChangeShapes Go.WideShapes Go.ChangeAt Go.RowKit
open Go.ChangeMaps (open_string shut_string)
set_option linter.unusedVariables false
theorem own : ownKnob Tryd.prog.godebug = none := by kernel_rfl
abbrev laidL : List (String × DataW Unit) := [("math/bits.deBruijn32tab", Rows.laid_math_bits_deBruijn32tab), ("math/bits.deBruijn64tab", Rows.laid_math_bits_deBruijn64tab), ("internal/strconv.uint64pow10", Rows.laid_internal_strconv_uint64pow10), ("strconv.ErrRange", Rows.laid_strconv_ErrRange), ("strconv.ErrSyntax", Rows.laid_strconv_ErrSyntax)]
theorem door_met (os : Os) (args : Array Value) : laidMetH Tryd.prog laidL ((World.doorLaid Tryd.prog 400 os).forCall (fun _ _ => 0) ⟨#[], args, []⟩).memory :=
  laidMetH_of_parts3 (fuel := 8) (laidMet_of_run' 8 (by kernel_rfl) (by kernel_rfl)) (by kernel_rfl) (by kernel_rfl)
open Go.Proofs.YtfobladliokfoaaDoor.num Go.Proofs.YtfobladliokfoaaDoor.tk Go.Proofs.YtfobladliokfoaaDoor.kp
theorem cat_w (x y : List UInt8) : (⟨x.toArray⟩ : ByteArray) ++ ⟨y.toArray⟩ = ⟨(x ++ y).toArray⟩ := by
  apply ByteArray.ext; simp
set_option maxRecDepth 100000 in
set_option maxHeartbeats 4000000 in
theorem walk (l0 : List UInt8) (s0 : l0.length ≤ 140737488351232) (l1 : List UInt8) (s1 : l1.length ≤ 140737488351232) (w : World) (HL : laidMet Tryd.prog laidL w) :
    Calls Tryd.prog 7 #[.string ⟨l0.toArray⟩, .string ⟨l1.toArray⟩] w fun e w' => e = .returned (.bool true) ∧ Below w.heap.size w w' := by
  obtain ⟨pp, hv⟩ := range_of (HL.tail.tail.tail)
  have V0 := Lib.hid (VR.start hv)
  clear hv HL
  have haw := awake_any w V0.out
  by_cases h1 : l0.length ≤ 60
  · by_cases h2 : l1.length ≤ 60
    · have hl0 := lower_any l0 h1 w
      have hl1 := lower_any l1 h2 w
      by_cases hs0 : (l0.all sm && !l0.isEmpty) = true
      · rw [hs0] at hl0
        by_cases hs1 : (l1.all sm && !l1.isEmpty) = true
        · rw [hs1] at hl1
          simp only [Bool.and_eq_true, Bool.not_eq_true', List.isEmpty_eq_false_iff] at hs0 hs1
          obtain ⟨x0, x2, x3, q, h3⟩ := words_call hs0.2 hs1.2 hs0.1 hs1.1 h1 h2
          have AW := Lib.hid awake_any
          have L3 : l0.length ≤ 60 ∧ l1.length ≤ 60 := ⟨h1, h2⟩
          have c1 : (⟨l0.toArray⟩ : ByteArray) ++ ⟨#[32]⟩ ++ ⟨l1.toArray⟩ = ⟨(l0 ++ [32] ++ l1).toArray⟩ := by rw [show (⟨#[32]⟩ : ByteArray) = ⟨[32].toArray⟩ from rfl, cat_w, cat_w]
          have c2 : (⟨l0.toArray⟩ : ByteArray) ++ ⟨l1.toArray⟩ = ⟨(l0 ++ l1).toArray⟩ := by rw [cat_w]
          have c3 : (⟨l0.toArray⟩ : ByteArray) ++ ⟨#[40]⟩ ++ ⟨l1.toArray⟩ ++ ⟨#[41]⟩ = ⟨(l0 ++ [40] ++ l1 ++ [41]).toArray⟩ := by rw [show (⟨#[40]⟩ : ByteArray) = ⟨[40].toArray⟩ from rfl, show (⟨#[41]⟩ : ByteArray) = ⟨[41].toArray⟩ from rfl, cat_w, cat_w, cat_w]
          have A1 := all_is (l0 ++ [32] ++ l1) (words_two hs0.2 hs1.2 hs0.1 hs1.1 h1 h2) (by simp; omega) w V0.out
          rw [← c1] at A1
          have A2 := all_is (l0 ++ l1) (words_one hs0.2 hs0.1 hs1.1 h1 h2) (by simp; omega)
          rw [← c2] at A2
          have A3 := all_is (l0 ++ [40] ++ l1 ++ [41]) h3 (by simp; omega)
          rw [← c3] at A3
          replace A1 := Lib.hid A1
          replace A2 := Lib.hid A2
          replace A3 := Lib.hid A3
          have C2 := Lib.hid c2
          clear L3 c1 c2 c3
          clear hs0 hs1 h3 haw
          go_enter Tryd.func7, Tryd.ntmps7
          go_wp2_with fail
          refine hl0.mono ?_; rintro e w' ⟨rfl, rfl⟩
          go_wp2_with fail
          refine hl1.mono ?_; rintro e w' ⟨rfl, rfl⟩
          go_wp2_with fail
          with_reducible refine Calls.mono A1.out ?_; rintro e w1 ⟨⟨v1, rfl, t1⟩, b1⟩
          have V1 := Lib.hid (V0.out.up b1)
          have T1 := Lib.hid t1
          have B1 := Lib.hid b1
          clear t1 b1 A1
          go_wp2_with fail
          with_reducible refine Calls.mono (A2.out _ V1.out) ?_; rintro e w2 ⟨⟨v2, rfl, t2⟩, b2⟩
          have V2 := Lib.hid (V1.out.up b2)
          have T1b := Lib.hid (T1.out.below b2)
          have T2 := Lib.hid t2
          have B2 := Lib.hid (kp.bt B1.out b2)
          clear t2 b2 A2
          go_wp2_with fail
          with_reducible refine Calls.mono (A3.out _ V2.out) ?_; rintro e w3 ⟨⟨v3, rfl, t3⟩, b3⟩
          have V3 := Lib.hid (V2.out.up b3)
          obtain ⟨g1, d1, rfl, -, -, k1⟩ := (T1b.out.below b3).at_ (by simp)
          obtain ⟨g2, d2, rfl, -, -, k2⟩ := (T2.out.below b3).at_ (by simp)
          obtain ⟨g3, d3, rfl, -, -, k3⟩ := t3.at_ (by simp)
          have B3 := Lib.hid (kp.bt B2.out b3)
          have haw := AW.out w3 V3.out
          have y0 : w3.cell? ⟨g1, 1, none⟩ = some (.string ⟨l0.toArray⟩) := k1 1 (by simp)
          have y1 : w3.cell? ⟨g1, 7, none⟩ = some (.string ⟨l1.toArray⟩) := k1 7 (by simp)
          have y2 : w3.cell? ⟨g2, 1, none⟩ = some (.string (⟨l0.toArray⟩ ++ ⟨l1.toArray⟩)) := by rw [C2.out]; exact k2 1 (by simp)
          have y3 : w3.cell? ⟨g3, 6, none⟩ = some (.int .i64 7) := k3 6 (by simp)
          clear k1 k2 k3 t3 b3 T1 T1b T2
          simp only [List.length_cons, List.length_nil, Nat.zero_add, Nat.reduceAdd]
          have i0 := fun w => ixT (g := g1) (n := 2) (c := d1) (k := 0) (by decide) w
          have i1 := fun w => ixT (g := g1) (n := 2) (c := d1) (k := 1) (by decide) w
          have i2 := fun w => ixT (g := g2) (n := 1) (c := d2) (k := 0) (by decide) w
          have i3 := fun w => ixT (g := g3) (n := 4) (c := d3) (k := 1) (by decide) w
          go_wp2_with fail
          refine haw.mono ?_; rintro e w4 ⟨rfl, b4⟩
          have B4 := Lib.hid (kp.bt B3.out b4)
          clear b4
          go_wp2_with fail
          go_ret; exact ⟨rfl, B4.out⟩
        · simp only [Bool.not_eq_true] at hs1
          rw [hs1] at hl1
          clear hs0 hs1
          go_enter Tryd.func7, Tryd.ntmps7
          go_wp2_with fail
          refine hl0.mono ?_; rintro e w' ⟨rfl, rfl⟩
          go_wp2_with fail
          refine hl1.mono ?_; rintro e w' ⟨rfl, rfl⟩
          go_wp2_with fail
          refine haw.mono ?_; rintro e w1 ⟨rfl, b⟩
          go_wp2_with fail
          go_ret; exact ⟨rfl, b⟩
      · simp only [Bool.not_eq_true] at hs0
        rw [hs0] at hl0
        clear hs0
        go_enter Tryd.func7, Tryd.ntmps7
        go_wp2_with fail
        refine hl0.mono ?_; rintro e w' ⟨rfl, rfl⟩
        go_wp2_with fail
        refine haw.mono ?_; rintro e w1 ⟨rfl, b⟩
        go_wp2_with fail
        go_ret; exact ⟨rfl, b⟩
    · go_enter Tryd.func7, Tryd.ntmps7
      go_wp2_with fail
      refine haw.mono ?_; rintro e w1 ⟨rfl, b⟩
      go_wp2_with fail
      go_ret; exact ⟨rfl, b⟩
  · go_enter Tryd.func7, Tryd.ntmps7
    go_wp2_with fail
    refine haw.mono ?_; rintro e w1 ⟨rfl, b⟩
    go_wp2_with fail
    go_ret; exact ⟨rfl, b⟩
set_option maxRecDepth 100000 in
theorem lifted (os : Os) (started : os.Started) (H : Type) (enc : TypeId × Value → H) :
    ReturnsInHanded {} Tryd.checked os 7 .any (fun w args => (Rows.tokenWordsSpec.pre enc Tryd.prog Tryd.f7 Rows.tokenWordsRow.domain false w args ∧ laidMetH Tryd.prog laidL w) ∧ sizedMet enc Tryd.prog Tryd.f7 (OpenSpec.ofChange Rows.tokenWordsSpec) false w args)
      (Rows.tokenWordsSpec.post enc Tryd.prog Tryd.f7 false true false false) := by
  refine returnsInHanded_of_change_and (C := Tryd.checked) (X := fun w _ => laidMetH Tryd.prog laidL w) (fun _ _ _ hh h => h.of_heap hh) own started (by kernel_rfl) Tryd.func7
    (ChangeSpec.witness_shaped (enc := enc) (C := Tryd.checked) (os := os) (X := fun w _ => laidMetH Tryd.prog laidL w) false (World.doorLaid Tryd.prog 400 os) #[.string ⟨#[]⟩, .string ⟨#[]⟩] 8 rfl (World.shaped_of_RefB (by kernel_rfl) (by kernel_rfl)) (by kernel_rfl) (by kernel_rfl) (by kernel_rfl) (door_met os _)) ?_
  intro W base args ds gs before hval0 hW _ hsz0 hL _
  have hsz : (DataW.weightsEach Tryd.prog (Tryd.f7.params.toList ++ Rows.tokenWordsSpec.plain.varTypes Tryd.prog) (ds ++ gs)).all (· ≤ reachBytes) = true := hsz0
  clear hsz0
  have hval : ∀ (j : Nat) t v, Tryd.f7.params[j]? = some t → args[j]? = some v → Value.okWide Tryd.prog W .any base t v := hval0
  have hW' := hW
  obtain ⟨p, q, hA0, hV, rfl, hfz, hnd⟩ := hW
  have hA : DataW.TrodAll enc Tryd.prog W 0 (fun _ => true) true Tryd.f7.params.toList args.toList ds p := hA0
  rw [Tryd.params7] at hA hval hsz
  obtain ⟨v0, vs0, d0, ds0, p0, q0, hargs, rfl, rfl, h0, r0⟩ := trodAll_cons hA
  obtain ⟨v1, vs1, d1, ds1, p1, q1, rfl, rfl, rfl, h1, r1⟩ := trodAll_cons r0
  obtain ⟨rfl, rfl, rfl⟩ := trodAll_nil r1
  obtain rfl : args = #[v0, v1] := by cases args; simp_all
  obtain ⟨rfl, rfl⟩ := trodVars_none hV
  obtain ⟨t0, rfl, rfl, rfl, u0⟩ := open_string Tryd.underlying9 (hval 0 9 v0 rfl rfl) h0
  obtain ⟨t1, rfl, rfl, rfl, u1⟩ := open_string Tryd.underlying9 (hval 1 9 v1 rfl rfl) h1
  clear hA0 hval0
  simp only [List.append_nil] at hW'
  have z0 : t0.data.toList.length ≤ 140737488351232 := by
    have h1 := sized_string hsz (j := 0) (t := 9) rfl rfl
    have e3 : reachBytes = 140737488351232 := by decide
    omega
  obtain ⟨l0, rfl⟩ : ∃ l : List UInt8, t0 = ⟨l.toArray⟩ := ⟨t0.data.toList, by cases t0; simp⟩
  have s0 : l0.length ≤ 140737488351232 := by simpa using z0
  have z1 : t1.data.toList.length ≤ 140737488351232 := by
    have h1 := sized_string hsz (j := 1) (t := 9) rfl rfl
    have e3 : reachBytes = 140737488351232 := by decide
    omega
  obtain ⟨l1, rfl⟩ : ∃ l : List UInt8, t1 = ⟨l.toArray⟩ := ⟨t1.data.toList, by cases t1; simp⟩
  have s1 : l1.length ≤ 140737488351232 := by simpa using z1
  have HL : laidMet Tryd.prog laidL W := by rw [MakeChecks.laidMetH_plain _ _ _ (by kernel_rfl)] at hL; exact hL
  refine (walk l0 s0 l1 s1 W HL).mono fun e W' ⟨he, hg⟩ => ?_
  subst he
  refine ⟨_, rfl, _, _, _, [], [], [], hW', ?_, ?_, rfl, hg.frame _, fun h => by cases h⟩
  · exact (trodAll_cons_mk (shut_bool Tryd.underlying4 _) trodAll_mk0)
  · exact (trodAll_cons_mk (shut_string Tryd.underlying9 u0) (trodAll_cons_mk (shut_string Tryd.underlying9 u1) trodAll_mk0))
theorem holds : Rows.TokenWordsSaid :=
  OpenClaim.holds_of_wide 7 Tryd.f7 rfl rfl rfl rfl rfl rfl rfl ⟨rfl, rfl, rfl, rfl, rfl⟩ rfl rfl rfl rfl rfl (by kernel_rfl) Tryd.func7 (by kernel_rfl)
    (of_decide_eq_true (by kernel_rfl)) (by unfold Func.isWrapper; first | (rw [if_pos (by decide +kernel)]; kernel_rfl) | (rw [if_neg (by decide +kernel)]; exact ⟨rfl, rfl⟩))
    (fun os started H enc _ => lifted os started H enc)
/-- THE STATEMENT: the tied card. -/
theorem proved : Rows.TokenWordsCardSaid :=
  Claim7.holds_tied_plain_at .later [] [.data, .data, .data, .sentinel, .sentinel] true (true, "a69b515a8f321eaead757f0fb19489d5dc92af181670f5b344fa82c7a27d3371") true
    holds (fun _ h => by cases h) (by kernel_rfl) (fun _ h => by cases h) tokenWords_row_tie rfl ⟨rfl, rfl⟩ (by kernel_rfl) rfl
    (fun f fn hf hfn => by
      obtain rfl : f = 7 := Option.some.inj ((show Tryd.prog.funcNamed "elenchus/elenchuslaw11.TokenWords" = some 7 by kernel_rfl).symm.trans hf) |>.symm
      obtain rfl : fn = Tryd.f7 := (Option.some.inj (Tryd.func7.symm.trans hfn)).symm
      exact ⟨by kernel_rfl, fun j t ht => by
        rw [Tryd.params7] at ht
        have hm : t ∈ [9] := by simpa using Array.mem_of_getElem? ht
        have hall : ([9].all fun u => !(Tryd.prog.wantsStandIn u)) = true := by kernel_rfl
        exact (show Tryd.prog.wantsStandIn t = false by simpa using List.all_eq_true.1 hall t hm)⟩)
    (by kernel_rfl)
#print axioms proved
end Go.Proofs.YtfobladliokfoaaDoor.tokenWords
