/- The law TokenPlaces holds, as its tied card says: for every input its Go function returns true and leaves its arguments as they were. The listed package-level variables start as the program's text lays them. -/
import Derived.Test.YtfobladliokfoaaDoorRows
import Derived.Test.YtfobladliokfoaaDoorCards
import Derived.Test.YtfobladliokfoaaDoorTie
import Derived.WalkKit
import Derived.ProofKit
import Derived.OpenShut
import Derived.LaidMore
import Derived.LaidLaws
import Derived.SizedLaws
import Derived.MakeChecks
import Derived.SevenTiedAt
import Derived.Stop.Joined
import Derived.Test.YtfobladliokfoaaDoorTkP
namespace Go.Proofs.YtfobladliokfoaaDoor.tokenPlaces
open Go.ChangeShapes Go.WideShapes Go.ChangeAt Go.RowKit
open Go.ChangeMaps (open_string shut_string)
set_option linter.unusedVariables false
theorem own : ownKnob Tryd.prog.godebug = none := by kernel_rfl
abbrev laidL : List (String × DataW Unit) := [("math/bits.deBruijn32tab", Rows.laid_math_bits_deBruijn32tab), ("math/bits.deBruijn64tab", Rows.laid_math_bits_deBruijn64tab), ("internal/strconv.uint64pow10", Rows.laid_internal_strconv_uint64pow10), ("strconv.ErrRange", Rows.laid_strconv_ErrRange), ("strconv.ErrSyntax", Rows.laid_strconv_ErrSyntax)]
theorem door_met (os : Os) (args : Array Value) : laidMetH Tryd.prog laidL ((World.doorLaid Tryd.prog 400 os).forCall (fun _ _ => 0) ⟨#[], args, []⟩).memory :=
  laidMetH_of_parts3 (fuel := 8) (laidMet_of_run' 8 (by kernel_rfl) (by kernel_rfl)) (by kernel_rfl) (by kernel_rfl)
open Go.Proofs.YtfobladliokfoaaDoor.num Go.Proofs.YtfobladliokfoaaDoor.tk Go.Proofs.YtfobladliokfoaaDoor.kp
/-- behind k tokens -/
def RP (w0 : World) (S : List UInt8) (ts : List Tk) (g : Nat) (c : Nat) (was i : Value) (wr : World) : Prop :=
  ∃ k : Nat, k ≤ ts.length ∧ i = .int .i64 k ∧ (∃ z : Int, was = .int .i64 z ∧ -1 ≤ z ∧ z ≤ 100000 ∧ ∀ x, ts[k]? = some x → z < x.a) ∧ Below w0.heap.size w0 wr
theorem rest_at {S : List UInt8} {a : Nat} : (⟨S.toArray⟩ : ByteArray).extract a S.length = ⟨(S.drop a).toArray⟩ := by
  rw [ext_any, List.take_length]
theorem pre_at {R t : List UInt8} (h : t <+: R) : (⟨R.toArray⟩ : ByteArray).extract 0 t.length = ⟨t.toArray⟩ := by
  obtain ⟨q, rfl⟩ := h
  rw [ext_any]; simp
set_option maxRecDepth 100000 in
set_option maxHeartbeats 8000000 in
theorem walk (l0 : List UInt8) (s0 : l0.length ≤ 140737488351232) (w : World) (HL : laidMet Tryd.prog laidL w) :
    Calls Tryd.prog 5 #[.string ⟨l0.toArray⟩] w fun e w' => e = .returned (.bool true) ∧ Below w.heap.size w w' := by
  obtain ⟨pp, hv⟩ := range_of (HL.tail.tail.tail)
  have V0 := Lib.hid (VR.start hv)
  clear hv HL
  have haw := awake_any w V0.out
  have AW := Lib.hid awake_any
  by_cases hS : l0.length ≤ 3000
  · obtain ⟨ts, p, e, hall⟩ : ∃ ts p e, allT l0 = (ts, p, e) := ⟨_, _, _, rfl⟩
    obtain ⟨hf1, hf2⟩ := all_fine (by omega) hall
    have A1 := Lib.hid (all_is l0 hall (by omega) w V0.out)
    by_cases he : e = 0
    · subst he
      have HF := Lib.hid (hf1 rfl)
      have HLN := Lib.hid (all_len hall)
      clear hf1 hf2 hall haw
      go_enter Tryd.func5, Tryd.ntmps5
      go_wp2_with fail
      with_reducible refine Calls.mono A1.out ?_; rintro e w1 ⟨⟨v, rfl, t1⟩, b1⟩
      have V1 := Lib.hid (V0.out.up b1)
      have B1 := Lib.hid b1
      have T1 := Lib.hid t1
      obtain ⟨sa, sc, rfl⟩ := t1.shape
      clear b1 t1 A1
      go_wp2_with fail
      go_loopw [6, 41] (fun was i wr => RP w1 l0 ts 0 0 was i wr) (fun _ i _ => ts.length - (intOf i).toNat)
      case atStart => exact ⟨0, by omega, rfl, ⟨-1, rfl, by omega, by omega, fun x _ => by omega⟩, kp.br _⟩
      case round =>
        obtain ⟨k, hk, rfl, ⟨z, rfl, hz1, hz2, hz3⟩, hb⟩ := hrel
        by_cases hlt : k < ts.length
        · obtain ⟨x, hx⟩ : ∃ x, ts[k]? = some x := ⟨_, List.getElem?_eq_getElem hlt⟩
          obtain ⟨g, c, hv, -, -, hlook⟩ := (T1.out.below hb).look (by intro h; rw [h] at hlt; cases hlt)
          injection hv with hv1 _ hv3
          subst hv1 hv3
          obtain ⟨k0, k1, k2, k3, k4, k5⟩ := hlook k x hx
          have ix := fun w => ixT (g := g) (n := ts.length) (c := sc) (k := k) hlt w
          obtain ⟨ha, hbeg, -, hnx⟩ := HF.out.at_ hx
          have hz := hz3 x hx
          have HLT := Lib.hid hlt
          have hkb : (k : Int) < 4000 := by have := HLN.out; omega
          have HX := Lib.hid (And.intro hb (And.intro hnx hx))
          obtain ⟨xk, xt, xn, xre, xim, xa⟩ := x
          dsimp only at *
          clear hb hnx hlook hx hz3
          obtain ⟨R, hR⟩ : ∃ R, l0.drop xa = R := ⟨_, rfl⟩
          have hsl : (⟨l0.toArray⟩ : ByteArray).extract xa l0.length = ⟨R.toArray⟩ := by rw [rest_at, hR]
          unfold Beg at hbeg
          dsimp only at hbeg
          rw [hR] at hbeg
          have HBG := Lib.hid hbeg
          clear hbeg hR
          have hxa : (xa : Int) < 3000 := by omega
          obtain ⟨tb, htb⟩ : ∃ tb, tb = wr.heap.size := ⟨_, rfl⟩
          obtain ⟨w2, hw2⟩ : ∃ w2, w2 = wr.alloc (TO xk xt xn xre xim xa) := ⟨_, rfl⟩
          have hT2 : w2.heap[tb]? = some (TO xk xt xn xre xim xa) := by rw [hw2, htb]; exact alloc_at wr _
          have HB2 := Lib.hid (show Below w1.heap.size w1 w2 by rw [hw2]; exact HX.out.1.trans ((kp.ba wr _).mono HX.out.1.size))
          have HW2 := Lib.hid (And.intro htb hw2)
          obtain ⟨⟨z0, z1, z2, z3, z4, z5⟩, -⟩ := six hT2
          clear hT2 htb hw2
          go_upto_region 10 with fail
          change Code.wp _ _ _ _ (wr.alloc (TO xk xt xn xre xim xa))
          rw [← HW2.out.1, ← HW2.out.2]
          clear k0 k1 k2 k3 k4 k5 ix
          by_cases hk1 : xk = 1
          · obtain rfl := hk1
            obtain ⟨q, hq⟩ := HBG.out.1 (by decide)
            have hpre := pre_at (R := R) (t := xt) ⟨q, hq⟩
            have hrl : xt.length ≤ R.length := by rw [← hq]; simp
            have HQ := Lib.hid hq
            clear hq
            go_wp2_with fail
            go_quiet (fail)
            go_wp2_with fail
            go_roundw
            case rel => exact ⟨k + 1, by have := HLT.out; omega, by go_num, ⟨xa, rfl, by omega, by omega, fun y hy => by have := HX.out.2.1 y hy; omega⟩, HB2.out.trans ((drewN_below _ _).mono HB2.out.size)⟩
            case measure => have := HLT.out; simp [intOf]; omega
          · have hk1' : (xk == 1) = false := by rw [beq_eq_false_iff_ne]; exact hk1
            by_cases hk3 : xk = 3
            · obtain rfl := hk3
              obtain ⟨q, hq⟩ := HBG.out.1 (by decide)
              have hpre := pre_at (R := R) (t := xt) ⟨q, hq⟩
              have hrl : xt.length ≤ R.length := by rw [← hq]; simp
              have HQ := Lib.hid hq
              clear hq
              go_wp2_with fail
              go_quiet (fail)
              go_wp2_with fail
              go_roundw
              case rel => exact ⟨k + 1, by have := HLT.out; omega, by go_num, ⟨xa, rfl, by omega, by omega, fun y hy => by have := HX.out.2.1 y hy; omega⟩, HB2.out.trans ((drewN_below _ _).mono HB2.out.size)⟩
              case measure => have := HLT.out; simp [intOf]; omega
            · have hk3' : (xk == 3) = false := by rw [beq_eq_false_iff_ne]; exact hk3
              by_cases hk6 : xk = 6
              · obtain rfl := hk6
                obtain ⟨q, hq⟩ := HBG.out.1 (by decide)
                have hpre := pre_at (R := R) (t := xt) ⟨q, hq⟩
                have hrl : xt.length ≤ R.length := by rw [← hq]; simp
                have HQ := Lib.hid hq
                clear hq
                go_wp2_with fail
                go_quiet (fail)
                go_wp2_with fail
                go_roundw
                case rel => exact ⟨k + 1, by have := HLT.out; omega, by go_num, ⟨xa, rfl, by omega, by omega, fun y hy => by have := HX.out.2.1 y hy; omega⟩, HB2.out.trans ((drewN_below _ _).mono HB2.out.size)⟩
                case measure => have := HLT.out; simp [intOf]; omega
              · have hk6' : (xk == 6) = false := by rw [beq_eq_false_iff_ne]; exact hk6
                by_cases hk7 : xk = 7
                · obtain rfl := hk7
                  obtain ⟨⟨r, hr⟩, ht⟩ := HBG.out.2.1 rfl
                  subst hr ht
                  have hb0 : ∀ h, (⟨(40 :: r).toArray⟩ : ByteArray)[0]'h = 40 := fun _ => rfl
                  go_wp2_with fail
                  go_roundw
                  case rel => exact ⟨k + 1, by have := HLT.out; omega, by go_num, ⟨xa, rfl, by omega, by omega, fun y hy => by have := HX.out.2.1 y hy; omega⟩, HB2.out⟩
                  case measure => have := HLT.out; simp [intOf]; omega
                · have hk7' : (xk == 7) = false := by rw [beq_eq_false_iff_ne]; exact hk7
                  by_cases hk8 : xk = 8
                  · obtain rfl := hk8
                    obtain ⟨r, hr⟩ := HBG.out.2.2 rfl
                    subst hr
                    have hb0 : ∀ h, (⟨(46 :: r).toArray⟩ : ByteArray)[0]'h = 46 := fun _ => rfl
                    go_wp2_with fail
                    go_roundw
                    case rel => exact ⟨k + 1, by have := HLT.out; omega, by go_num, ⟨xa, rfl, by omega, by omega, fun y hy => by have := HX.out.2.1 y hy; omega⟩, HB2.out⟩
                    case measure => have := HLT.out; simp [intOf]; omega
                  · have hk8' : (xk == 8) = false := by rw [beq_eq_false_iff_ne]; exact hk8
                    clear hk1 hk3 hk6 hk7 hk8
                    go_wp2_with fail
                    go_roundw
                    case rel => exact ⟨k + 1, by have := HLT.out; omega, by go_num, ⟨xa, rfl, by omega, by omega, fun y hy => by have := HX.out.2.1 y hy; omega⟩, HB2.out⟩
                    case measure => have := HLT.out; simp [intOf]; omega
        · obtain rfl : k = ts.length := by omega
          have V2 := Lib.hid (V1.out.up hb)
          have B2 := Lib.hid (kp.bt B1.out hb)
          have haw := AW.out wr V2.out
          clear hb hz3
          go_wp2_with fail
          refine haw.mono ?_; rintro e w3 ⟨rfl, b3⟩
          have B3 := Lib.hid (kp.bt B2.out b3)
          clear b3
          go_wp2_with fail
          go_ret; exact ⟨rfl, B3.out⟩
    · have hp := (hf2 he).1
      obtain rfl := (hf2 he).2
      have hne : (e != 0) = true := by rw [bne_iff_ne]; exact he
      clear hf1 hf2 hall haw he
      have hmx : Hid (((p : Int) < max 1 (l0.length : Int))) := Lib.hid (by omega)
      go_enter Tryd.func5, Tryd.ntmps5
      go_wp2_with fail
      with_reducible refine Calls.mono A1.out ?_; rintro e w1 ⟨⟨v, rfl, t1⟩, b1⟩
      have V1 := Lib.hid (V0.out.up b1)
      have B1 := Lib.hid b1
      obtain ⟨sa, sc, rfl⟩ := t1.shape
      have haw := AW.out w1 V1.out
      clear b1 t1 A1
      simp only [List.length_nil]
      go_wp2_with fail
      refine haw.mono ?_; rintro e w3 ⟨rfl, b3⟩
      have B3 := Lib.hid (kp.bt B1.out b3)
      clear b3
      go_wp2_with fail
      go_ret; exact ⟨rfl, B3.out⟩
  · go_enter Tryd.func5, Tryd.ntmps5
    go_wp2_with fail
    refine haw.mono ?_; rintro e w1 ⟨rfl, b⟩
    go_wp2_with fail
    go_ret; exact ⟨rfl, b⟩
set_option maxRecDepth 100000 in
theorem lifted (os : Os) (started : os.Started) (H : Type) (enc : TypeId × Value → H) :
    ReturnsInHanded {} Tryd.checked os 5 .any (fun w args => (Rows.tokenPlacesSpec.pre enc Tryd.prog Tryd.f5 Rows.tokenPlacesRow.domain false w args ∧ laidMetH Tryd.prog laidL w) ∧ sizedMet enc Tryd.prog Tryd.f5 (OpenSpec.ofChange Rows.tokenPlacesSpec) false w args)
      (Rows.tokenPlacesSpec.post enc Tryd.prog Tryd.f5 false true false false) := by
  refine returnsInHanded_of_change_and (C := Tryd.checked) (X := fun w _ => laidMetH Tryd.prog laidL w) (fun _ _ _ hh h => h.of_heap hh) own started (by kernel_rfl) Tryd.func5
    (ChangeSpec.witness_shaped (enc := enc) (C := Tryd.checked) (os := os) (X := fun w _ => laidMetH Tryd.prog laidL w) false (World.doorLaid Tryd.prog 400 os) #[.string ⟨#[]⟩] 8 rfl (World.shaped_of_RefB (by kernel_rfl) (by kernel_rfl)) (by kernel_rfl) (by kernel_rfl) (by kernel_rfl) (door_met os _)) ?_
  intro W base args ds gs before hval0 hW _ hsz0 hL _
  have hsz : (DataW.weightsEach Tryd.prog (Tryd.f5.params.toList ++ Rows.tokenPlacesSpec.plain.varTypes Tryd.prog) (ds ++ gs)).all (· ≤ reachBytes) = true := hsz0
  clear hsz0
  have hval : ∀ (j : Nat) t v, Tryd.f5.params[j]? = some t → args[j]? = some v → Value.okWide Tryd.prog W .any base t v := hval0
  have hW' := hW
  obtain ⟨p, q, hA0, hV, rfl, hfz, hnd⟩ := hW
  have hA : DataW.TrodAll enc Tryd.prog W 0 (fun _ => true) true Tryd.f5.params.toList args.toList ds p := hA0
  rw [Tryd.params5] at hA hval hsz
  obtain ⟨v0, vs0, d0, ds0, p0, q0, hargs, rfl, rfl, h0, r0⟩ := trodAll_cons hA
  obtain ⟨rfl, rfl, rfl⟩ := trodAll_nil r0
  obtain rfl : args = #[v0] := by cases args; simp_all
  obtain ⟨rfl, rfl⟩ := trodVars_none hV
  obtain ⟨t0, rfl, rfl, rfl, u0⟩ := open_string Tryd.underlying9 (hval 0 9 v0 rfl rfl) h0
  clear hA0 hval0
  simp only [List.append_nil] at hW'
  have z0 : t0.data.toList.length ≤ 140737488351232 := by
    have h1 := sized_string hsz (j := 0) (t := 9) rfl rfl
    have e3 : reachBytes = 140737488351232 := by decide
    omega
  obtain ⟨l0, rfl⟩ : ∃ l : List UInt8, t0 = ⟨l.toArray⟩ := ⟨t0.data.toList, by cases t0; simp⟩
  have s0 : l0.length ≤ 140737488351232 := by simpa using z0
  have HL : laidMet Tryd.prog laidL W := by rw [MakeChecks.laidMetH_plain _ _ _ (by kernel_rfl)] at hL; exact hL
  refine (walk l0 s0 W HL).mono fun e W' ⟨he, hg⟩ => ?_
  subst he
  refine ⟨_, rfl, _, _, _, [], [], [], hW', ?_, ?_, rfl, hg.frame _, fun h => by cases h⟩
  · exact (trodAll_cons_mk (shut_bool Tryd.underlying4 _) trodAll_mk0)
  · exact (trodAll_cons_mk (shut_string Tryd.underlying9 u0) trodAll_mk0)
theorem holds : Rows.TokenPlacesSaid :=
  OpenClaim.holds_of_wide 5 Tryd.f5 rfl rfl rfl rfl rfl rfl rfl ⟨rfl, rfl, rfl, rfl, rfl⟩ rfl rfl rfl rfl rfl (by kernel_rfl) Tryd.func5 (by kernel_rfl)
    (of_decide_eq_true (by kernel_rfl)) (by unfold Func.isWrapper; first | (rw [if_pos (by decide +kernel)]; kernel_rfl) | (rw [if_neg (by decide +kernel)]; exact ⟨rfl, rfl⟩))
    (fun os started H enc _ => lifted os started H enc)
/-- THE STATEMENT: the tied card. -/
theorem proved : Rows.TokenPlacesCardSaid :=
  Claim7.holds_tied_plain_at .later [] [.data, .data, .data, .sentinel, .sentinel] true (true, "a69b515a8f321eaead757f0fb19489d5dc92af181670f5b344fa82c7a27d3371") true
    holds (fun _ h => by cases h) (by kernel_rfl) (fun _ h => by cases h) tokenPlaces_row_tie rfl ⟨rfl, rfl⟩ (by kernel_rfl) rfl
    (fun f fn hf hfn => by
      obtain rfl : f = 5 := Option.some.inj ((show Tryd.prog.funcNamed "elenchus/elenchuslaw11.TokenPlaces" = some 5 by kernel_rfl).symm.trans hf) |>.symm
      obtain rfl : fn = Tryd.f5 := (Option.some.inj (Tryd.func5.symm.trans hfn)).symm
      exact ⟨by kernel_rfl, fun j t ht => by
        rw [Tryd.params5] at ht
        have hm : t ∈ [9] := by simpa using Array.mem_of_getElem? ht
        have hall : ([9].all fun u => !(Tryd.prog.wantsStandIn u)) = true := by kernel_rfl
        exact (show Tryd.prog.wantsStandIn t = false by simpa using List.all_eq_true.1 hall t hm)⟩)
    (by kernel_rfl)
#print axioms proved
end Go.Proofs.YtfobladliokfoaaDoor.tokenPlaces
