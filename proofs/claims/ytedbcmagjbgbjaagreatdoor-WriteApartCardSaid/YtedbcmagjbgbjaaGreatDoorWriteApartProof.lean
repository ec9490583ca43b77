/- The law WriteApart holds, as its tied card says: for every input its Go function returns true and leaves its arguments as they were. The listed package-level variables start as the program's text lays them. -/
import Derived.Test.YtedbcmagjbgbjaaGreatDoorRows
import Derived.Test.YtedbcmagjbgbjaaGreatDoorCards
import Derived.Test.YtedbcmagjbgbjaaGreatDoorTie
import Derived.WalkKit
import Derived.ProofKit
import Derived.OpenShut
import Derived.LaidMore
import Derived.LaidLaws
import Derived.SizedLaws
import Derived.MakeChecks
import Derived.SevenTiedAt
import Derived.Stop.Joined
import Derived.Test.YtedbcmagjbgbjaaGreatDoorTOpen
import Derived.Test.YtedbcmagjbgbjaaGreatDoorWrA
import Derived.Test.YtedbcmagjbgbjaaGreatDoorRSm
import Derived.Test.YtedbcmagjbgbjaaGreatDoorLgt
namespace Go.Proofs.YtedbcmagjbgbjaaGreatDoor.writeApart
open Go.Proofs.YtedbcmagjbgbjaaGreatDoor.tm Go.Proofs.YtedbcmagjbgbjaaGreatDoor.lie Go.Proofs.YtedbcmagjbgbjaaGreatDoor.kp Go.Proofs.YtedbcmagjbgbjaaGreatDoor.top
open Go.ChangeShapes Go.WideShapes Go.ChangeAt Go.RowKit
open Go.ChangeMaps (open_string shut_string)
set_option linter.unusedVariables false
theorem own : ownKnob Tryz.prog.godebug = none := by kernel_rfl
theorem laidOut : laidOutB Tryz.prog = true := by kernel_rfl
abbrev laidL : List (String × DataW Unit) := [("math/bits.deBruijn32tab", Rows.laid_math_bits_deBruijn32tab), ("math/bits.deBruijn64tab", Rows.laid_math_bits_deBruijn64tab), ("internal/strconv.uint64pow10", Rows.laid_internal_strconv_uint64pow10), ("strconv.ErrRange", Rows.laid_strconv_ErrRange), ("strconv.ErrSyntax", Rows.laid_strconv_ErrSyntax)]
theorem door_met (os : Os) (args : Array Value) : laidMetH Tryz.prog laidL ((World.doorLaid Tryz.prog 400 os).forCall (fun _ _ => 0) ⟨#[], args, []⟩).memory :=
  laidMetH_of_parts3 (fuel := 8) (laidMet_of_run' 8 (by kernel_rfl) (by kernel_rfl)) (by kernel_rfl) (by kernel_rfl)
open Go.Proofs.YtedbcmagjbgbjaaGreatDoor.tk Go.Proofs.YtedbcmagjbgbjaaGreatDoor.wr
open Go.Proofs.YtedbcmagjbgbjaaGreatDoor.num (range_of tab_of)
theorem same_wt {a b : Tm} (ha : good a = true) (hb : good b = true) (ra : rg a) (rb : rg b) : sameB a b = decide (wt W0 a = wt W0 b) := by
  unfold sameB
  rw [ha, hb]
  by_cases h : wt W0 a = wt W0 b
  · rw [decide_eq_true h, (wt_iff (good_sound ha) (good_sound hb) ra rb).1 h]; rfl
  · rw [decide_eq_false h]
    cases hl : like a b with
    | true => exact absurd ((wt_iff (good_sound ha) (good_sound hb) ra rb).2 hl) h
    | false => rfl
set_option maxRecDepth 100000 in
set_option maxHeartbeats 8000000 in
theorem walk (w : World) (v0 : Value) (t0 : Tm) (x0 : Lies No w t0 v0) (v1 : Value) (t1 : Tm) (x1 : Lies No w t1 v1) (HL : laidMet Tryz.prog laidL w) :
    Calls Tryz.prog 7 #[v0, v1] w fun e w' => e = .returned (.bool true) ∧ Below w.heap.size w w' := by
  obtain ⟨pp, hv⟩ := range_of (HL.tail.tail.tail)
  have hV := VR.start hv
  have hTb := Lib.tabBelow_of_tabIs (tab_of HL.tail.tail)
  clear hv HL
  obtain ⟨T0, hT0⟩ : ∃ T, T = t0 := ⟨_, rfl⟩
  obtain ⟨T1, hT1⟩ : ∃ T, T = t1 := ⟨_, rfl⟩
  have L0 : Lies No w T0 v0 := by rw [hT0]; exact x0
  have L1 : Lies No w T1 v1 := by rw [hT1]; exact x1
  obtain ⟨k0, n0, i0, r0, m0, l0⟩ := t0
  obtain ⟨k1, n1, i1, r1, m1, l1⟩ := t1
  rw [Lies] at x0 x1
  obtain ⟨a0, c0, rfl, -, -⟩ := x0
  obtain ⟨a1, c1, rfl, -, -⟩ := x1
  clear hT0 hT1
  obtain ⟨w1, hw1⟩ : ∃ w1, w1 = (w.alloc (.cells #[.int .i64 k0, .string n0, .int .i64 i0, .int .u64 r0, .int .u64 m0, .slice a0 l0.length c0] 27)).alloc (.cells #[.int .i64 k1, .string n1, .int .i64 i1, .int .u64 r1, .int .u64 m1, .slice a1 l1.length c1] 27) := ⟨_, rfl⟩
  obtain ⟨q0, hq0⟩ : ∃ q, q = w.heap.size := ⟨_, rfl⟩
  obtain ⟨q1, hq1⟩ : ∃ q, q = w.heap.size + 1 := ⟨_, rfl⟩
  have b1 : Below w.heap.size w w1 := by rw [hw1]; exact bt (ba _ _) (ba _ _)
  have tb0 : TB q0 k0 n0 i0 r0 m0 (.slice a0 l0.length c0) w1 := by rw [hw1, hq0]; exact (TB.new k0 n0 i0 r0 m0 (.slice a0 l0.length c0) w).below (ba _ _)
  have tb1 : TB q1 k1 n1 i1 r1 m1 (.slice a1 l1.length c1) w1 := by
    have := TB.new k1 n1 i1 r1 m1 (.slice a1 l1.length c1) (w.alloc (.cells #[.int .i64 k0, .string n0, .int .i64 i0, .int .u64 r0, .int .u64 m0, .slice a0 l0.length c0] 27))
    rw [alloc_size] at this
    rw [hw1, hq1]; exact this
  have H1 := Lib.hid (And.intro b1 (And.intro tb0 tb1))
  have AWK := Lib.hid (fun (w9 : World) (hb : Below w.heap.size w w9) => awake_any w9 (hV.up hb) (tab_up hTb hb))
  have ROW := Lib.hid (fun (w9 : World) (hb : Below w.heap.size w w9) => row_two (L0.below hb) (L1.below hb))
  have M0 := Lib.hid (fun (w9 : World) (hb : Below w.heap.size w w9) => rmy.rMay_any T0 _ w9 (L0.below hb))
  have M1 := Lib.hid (fun (w9 : World) (hb : Below w.heap.size w w9) => rmy.rMay_any T1 _ w9 (L1.below hb))
  have SM := Lib.hid (fun (w9 : World) (hb : Below w.heap.size w w9) => rsm.rsame_any T0 T1 _ _ w9 (L0.below hb) (L1.below hb))
  have CN := Lib.hid (fun (w9 : World) (hb : Below w.heap.size w w9) (hg : good T0 = true) => canon_any (hV.up hb) (tab_up hTb hb) hg (L0.below hb))
  have CM := Lib.hid (fun (w9 : World) (hb : Below w.heap.size w w9) (hg : good T1 = true) => canon_any (hV.up hb) (tab_up hTb hb) hg (L1.below hb))
  have RG := Lib.hid (And.intro (lies_rg _ _ L0) (lies_rg _ _ L1))
  have HQ := Lib.hid (And.intro hw1 (And.intro hq0 hq1))
  clear hV hTb L0 L1 b1 tb0 tb1 hw1 hq0 hq1
  go_enter Tryz.func7, Tryz.ntmps7
  go_upto_region 1 with fail
  change Code.wp _ _ _ _ ((w.alloc _).alloc _)
  rw [← HQ.out.1]
  rw [← HQ.out.2.2, ← HQ.out.2.1]
  clear HQ
  obtain ⟨y0, y1, y2, y3, y4, y5⟩ := H1.out.2.1.cells
  obtain ⟨z0, z1, z2, z3, z4, z5⟩ := H1.out.2.2.cells
  go_wp2_with fail
  refine (lgt.Light_any [T0, T1] _ 2 _ (ROW.out w1 H1.out.1) (by simp)).mono ?_
  rintro e w2 ⟨b, rfl, b2⟩
  have hb2 := H1.out.1.trans ((bt (ba w1 _) b2).mono H1.out.1.size)
  have H2 := Lib.hid (And.intro hb2 (And.intro (H1.out.2.1.below (bt (ba w1 _) b2)) (H1.out.2.2.below (bt (ba w1 _) b2))))
  clear b2 hb2 H1 y0 y1 y2 y3 y4 y5 z0 z1 z2 z3 z4 z5 ROW
  cases b with
  | false =>
    go_wp2_with fail
    refine (AWK.out _ H2.out.1).mono ?_; rintro e w9 ⟨rfl, b9⟩
    have HF := Lib.hid (H2.out.1.trans (b9.mono H2.out.1.size))
    clear b9 H2
    go_wp2_with fail
    go_ret; exact ⟨rfl, HF.out⟩
  | true =>
    obtain ⟨y0, y1, y2, y3, y4, y5⟩ := H2.out.2.1.cells
    go_wp2_with fail
    refine (M0.out _ H2.out.1).mono ?_; rintro e w3 ⟨rfl, b3⟩
    have H3 := Lib.hid (And.intro (H2.out.1.trans (b3.mono H2.out.1.size)) (And.intro (H2.out.2.1.below b3) (H2.out.2.2.below b3)))
    clear b3 H2 y0 y1 y2 y3 y4 y5
    by_cases h0 : may T0 = 0
    rotate_left
    · have e1 : (may T0 != 0) = true := by rw [bne_iff_ne]; exact h0
      clear h0
      go_wp2_with fail
      refine (AWK.out _ H3.out.1).mono ?_; rintro e w9 ⟨rfl, b9⟩
      have HF := Lib.hid (H3.out.1.trans (b9.mono H3.out.1.size))
      clear b9 H3
      go_wp2_with fail
      go_ret; exact ⟨rfl, HF.out⟩
    rw [h0]
    obtain ⟨z0, z1, z2, z3, z4, z5⟩ := H3.out.2.2.cells
    have G0 := Lib.hid ((may_iff T0).1 h0)
    clear h0
    go_wp2_with fail
    refine (M1.out _ H3.out.1).mono ?_; rintro e w4 ⟨rfl, b4⟩
    have H4 := Lib.hid (And.intro (H3.out.1.trans (b4.mono H3.out.1.size)) (And.intro (H3.out.2.1.below b4) (H3.out.2.2.below b4)))
    clear b4 H3 z0 z1 z2 z3 z4 z5
    by_cases h1 : may T1 = 0
    rotate_left
    · have e1 : (may T1 != 0) = true := by rw [bne_iff_ne]; exact h1
      clear h1
      go_wp2_with fail
      refine (AWK.out _ H4.out.1).mono ?_; rintro e w9 ⟨rfl, b9⟩
      have HF := Lib.hid (H4.out.1.trans (b9.mono H4.out.1.size))
      clear b9 H4
      go_wp2_with fail
      go_ret; exact ⟨rfl, HF.out⟩
    rw [h1]
    have G1 := Lib.hid ((may_iff T1).1 h1)
    clear h1
    have hsame := same_wt G0.out G1.out RG.out.1 RG.out.2
    obtain ⟨A, hA⟩ : ∃ A, A = wt W0 T0 := ⟨_, rfl⟩
    obtain ⟨C, hC⟩ : ∃ C, C = wt W0 T1 := ⟨_, rfl⟩
    have CN2 := fun w9 hb => CN.out w9 hb G0.out
    have CM2 := fun w9 hb => CM.out w9 hb G1.out
    rw [← hA] at CN2 hsame
    rw [← hC] at CM2 hsame
    have SM2 := SM.out
    rw [hsame] at SM2
    have CN3 := Lib.hid CN2
    have CM3 := Lib.hid CM2
    have SM3 := Lib.hid SM2
    clear CN2 CM2 SM2 CN CM SM hsame hA hC G0 G1 RG M0 M1
    go_upto_region 3 with fail
    have SC : ∀ w9, Below w4.heap.size w4 w9 → ((w9.cell? ⟨q0, 0, none⟩ = some (.int .i64 k0) ∧ w9.cell? ⟨q0, 1, none⟩ = some (.string n0) ∧ w9.cell? ⟨q0, 2, none⟩ = some (.int .i64 i0) ∧ w9.cell? ⟨q0, 3, none⟩ = some (.int .u64 r0) ∧ w9.cell? ⟨q0, 4, none⟩ = some (.int .u64 m0) ∧ w9.cell? ⟨q0, 5, none⟩ = some (.slice a0 l0.length c0)) ∧ (w9.cell? ⟨q1, 0, none⟩ = some (.int .i64 k1) ∧ w9.cell? ⟨q1, 1, none⟩ = some (.string n1) ∧ w9.cell? ⟨q1, 2, none⟩ = some (.int .i64 i1) ∧ w9.cell? ⟨q1, 3, none⟩ = some (.int .u64 r1) ∧ w9.cell? ⟨q1, 4, none⟩ = some (.int .u64 m1) ∧ w9.cell? ⟨q1, 5, none⟩ = some (.slice a1 l1.length c1)) ∧ Below w4.heap.size w4 w9) := fun w9 hb => ⟨(H4.out.2.1.below hb).cells, (H4.out.2.2.below hb).cells, hb⟩
    have hdr : ∀ w9, Below w4.heap.size w4 w9 → Below w4.heap.size w4 w9.drew := fun w9 hb => hb.trans ((bdr w9).mono hb.size)
    have hup : ∀ w9, Below w4.heap.size w4 w9 → Below w.heap.size w w9 := fun w9 hb => H4.out.1.trans (hb.mono H4.out.1.size)
    have hch : ∀ w8 w9, Below w4.heap.size w4 w8 → Below w8.heap.size w8 w9 → Below w4.heap.size w4 w9 := fun w8 w9 hb hc => hb.trans (hc.mono hb.size)
    have hc0 := Below.refl w4.heap.size w4
    by_cases hAC : A = C
    · subst hAC
      have eA : (A == A) = true := beq_self_eq_true A
      have SM4 := SM3.out
      rw [decide_eq_true rfl] at SM4
      have SM5 := Lib.hid SM4
      clear SM3 SM4
      go_region_held3 (fun w9 => (w9.cell? ⟨q0, 0, none⟩ = some (.int .i64 k0) ∧ w9.cell? ⟨q0, 1, none⟩ = some (.string n0) ∧ w9.cell? ⟨q0, 2, none⟩ = some (.int .i64 i0) ∧ w9.cell? ⟨q0, 3, none⟩ = some (.int .u64 r0) ∧ w9.cell? ⟨q0, 4, none⟩ = some (.int .u64 m0) ∧ w9.cell? ⟨q0, 5, none⟩ = some (.slice a0 l0.length c0)) ∧ (w9.cell? ⟨q1, 0, none⟩ = some (.int .i64 k1) ∧ w9.cell? ⟨q1, 1, none⟩ = some (.string n1) ∧ w9.cell? ⟨q1, 2, none⟩ = some (.int .i64 i1) ∧ w9.cell? ⟨q1, 3, none⟩ = some (.int .u64 r1) ∧ w9.cell? ⟨q1, 4, none⟩ = some (.int .u64 m1) ∧ w9.cell? ⟨q1, 5, none⟩ = some (.slice a1 l1.length c1)) ∧ Below w4.heap.size w4 w9)
        (first | exact SC _ (by assumption) | exact SC _ (hdr _ (by assumption)) | go_keep)
        (first
          | (go_at_call 29; first | (refine (CN3.out _ (hup _ (by first | assumption | exact hdr _ (by assumption)))).mono ?_; rintro e wX ⟨rfl, bX⟩; have cX := hch _ _ (by first | assumption | exact hdr _ (by assumption)) bX) | (refine (CM3.out _ (hup _ (by first | assumption | exact hdr _ (by assumption)))).mono ?_; rintro e wX ⟨rfl, bX⟩; have cX := hch _ _ (by first | assumption | exact hdr _ (by assumption)) bX))
          | (go_at_call 19; refine (SM5.out _ (hup _ (by first | assumption | exact hdr _ (by assumption)))).mono ?_; rintro e wX ⟨rfl, bX⟩; have cX := hch _ _ (by first | assumption | exact hdr _ (by assumption)) bX)
          | (go_at_call 28; refine (AWK.out _ (hup _ (by first | assumption | exact hdr _ (by assumption)))).mono ?_; rintro e wX ⟨rfl, bX⟩; have cX := hch _ _ (by first | assumption | exact hdr _ (by assumption)) bX))
      clear SC hdr hc0 hch H4 AWK CN3 CM3 SM5
      go_wp2_with fail
      go_ret
      exact ⟨rfl, hup _ (by first | assumption | exact Below.drew (by assumption))⟩
    · have eA : (A == C) = false := beq_eq_false_iff_ne.2 hAC
      have SM4 := SM3.out
      rw [decide_eq_false hAC] at SM4
      have SM5 := Lib.hid SM4
      clear SM3 SM4
      go_region_held3 (fun w9 => (w9.cell? ⟨q0, 0, none⟩ = some (.int .i64 k0) ∧ w9.cell? ⟨q0, 1, none⟩ = some (.string n0) ∧ w9.cell? ⟨q0, 2, none⟩ = some (.int .i64 i0) ∧ w9.cell? ⟨q0, 3, none⟩ = some (.int .u64 r0) ∧ w9.cell? ⟨q0, 4, none⟩ = some (.int .u64 m0) ∧ w9.cell? ⟨q0, 5, none⟩ = some (.slice a0 l0.length c0)) ∧ (w9.cell? ⟨q1, 0, none⟩ = some (.int .i64 k1) ∧ w9.cell? ⟨q1, 1, none⟩ = some (.string n1) ∧ w9.cell? ⟨q1, 2, none⟩ = some (.int .i64 i1) ∧ w9.cell? ⟨q1, 3, none⟩ = some (.int .u64 r1) ∧ w9.cell? ⟨q1, 4, none⟩ = some (.int .u64 m1) ∧ w9.cell? ⟨q1, 5, none⟩ = some (.slice a1 l1.length c1)) ∧ Below w4.heap.size w4 w9)
        (first | exact SC _ (by assumption) | exact SC _ (hdr _ (by assumption)) | go_keep)
        (first
          | (go_at_call 29; first | (refine (CN3.out _ (hup _ (by first | assumption | exact hdr _ (by assumption)))).mono ?_; rintro e wX ⟨rfl, bX⟩; have cX := hch _ _ (by first | assumption | exact hdr _ (by assumption)) bX) | (refine (CM3.out _ (hup _ (by first | assumption | exact hdr _ (by assumption)))).mono ?_; rintro e wX ⟨rfl, bX⟩; have cX := hch _ _ (by first | assumption | exact hdr _ (by assumption)) bX))
          | (go_at_call 19; refine (SM5.out _ (hup _ (by first | assumption | exact hdr _ (by assumption)))).mono ?_; rintro e wX ⟨rfl, bX⟩; have cX := hch _ _ (by first | assumption | exact hdr _ (by assumption)) bX)
          | (go_at_call 28; refine (AWK.out _ (hup _ (by first | assumption | exact hdr _ (by assumption)))).mono ?_; rintro e wX ⟨rfl, bX⟩; have cX := hch _ _ (by first | assumption | exact hdr _ (by assumption)) bX))
      clear SC hdr hc0 hch H4 AWK CN3 CM3 SM5
      go_wp2_with fail
      go_ret
      exact ⟨rfl, hup _ (by first | assumption | exact Below.drew (by assumption))⟩
set_option maxRecDepth 100000 in
theorem lifted (os : Os) (started : os.Started) (H : Type) (enc : TypeId × Value → H) :
    ReturnsInHanded {} Tryz.checked os 7 .any (fun w args => (Rows.writeApartSpec.pre enc Tryz.prog Tryz.f7 Rows.writeApartRow.domain false w args ∧ laidMetH Tryz.prog laidL w) ∧ sizedMet enc Tryz.prog Tryz.f7 (OpenSpec.ofChange Rows.writeApartSpec) false w args)
      (Rows.writeApartSpec.post enc Tryz.prog Tryz.f7 false true false false) := by
  refine returnsInHanded_of_change_and (C := Tryz.checked) (X := fun w _ => laidMetH Tryz.prog laidL w) (fun _ _ _ hh h => h.of_heap hh) own started (by kernel_rfl) Tryz.func7
    (ChangeSpec.witness_shaped (enc := enc) (C := Tryz.checked) (os := os) (X := fun w _ => laidMetH Tryz.prog laidL w) false (World.doorLaid Tryz.prog 400 os) #[.agg #[.int .i64 0, .string ⟨#[]⟩, .int .i64 0, .int .u64 0, .int .u64 0, .slice none 0 0], .agg #[.int .i64 0, .string ⟨#[]⟩, .int .i64 0, .int .u64 0, .int .u64 0, .slice none 0 0]] 8 rfl (World.shaped_of_RefB (by kernel_rfl) (by kernel_rfl)) (by kernel_rfl) (by kernel_rfl) (by kernel_rfl) (door_met os _)) ?_
  intro W base args ds gs before hval0 hW _ hsz0 hL _
  have hsz : (DataW.weightsEach Tryz.prog (Tryz.f7.params.toList ++ Rows.writeApartSpec.plain.varTypes Tryz.prog) (ds ++ gs)).all (· ≤ reachBytes) = true := hsz0
  clear hsz0
  have hval : ∀ (j : Nat) t v, Tryz.f7.params[j]? = some t → args[j]? = some v → Value.okWide Tryz.prog W .any base t v := hval0
  have hW' := hW
  obtain ⟨p, q, hA0, hV, rfl, hfz, hnd⟩ := hW
  have hA : DataW.TrodAll enc Tryz.prog W 0 (fun _ => true) true Tryz.f7.params.toList args.toList ds p := hA0
  rw [Tryz.params7] at hA hval hsz
  obtain ⟨v0, vs0, d0, ds0, p0, q0, hargs, rfl, rfl, h0, r0⟩ := trodAll_cons hA
  obtain ⟨v1, vs1, d1, ds1, p1, q1, rfl, rfl, rfl, h1, r1⟩ := trodAll_cons r0
  obtain ⟨rfl, rfl, rfl⟩ := trodAll_nil r1
  obtain rfl : args = #[v0, v1] := by cases args; simp_all
  obtain ⟨rfl, rfl⟩ := trodVars_none hV
  simp only [List.append_nil] at hW'
  have lt0 : ∀ x ∈ p0, x.block < W.heap.size := fun x hx => by
    have := hW'.lt x (by simp [hx])
    simpa using this
  have k0 := h0
  have lt1 : ∀ x ∈ p1, x.block < W.heap.size := fun x hx => by
    have := hW'.lt x (by simp [hx])
    simpa using this
  have k1 := h1
  obtain ⟨t0, x0⟩ := term_arg (by obtain ⟨cs, hcs, _⟩ := okWide_struct Tryz.underlying27 (hval 0 27 v0 rfl rfl); exact ⟨cs, hcs⟩) h0
  obtain ⟨t1, x1⟩ := term_arg (by obtain ⟨cs, hcs, _⟩ := okWide_struct Tryz.underlying27 (hval 1 27 v1 rfl rfl); exact ⟨cs, hcs⟩) h1
  clear hA0 hval0

  have HL : laidMet Tryz.prog laidL W := by rw [MakeChecks.laidMetH_plain _ _ _ (by kernel_rfl)] at hL; exact hL
  refine (walk W v0 t0 x0 v1 t1 x1 HL).mono fun e W' ⟨he, hg⟩ => ?_
  subst he
  have ha := (trodAll_cons_mk (Below.trod laidOut (by kernel_rfl) (of_decide_eq_true (by kernel_rfl)) k0 hg lt0) (trodAll_cons_mk (Below.trod laidOut (by kernel_rfl) (of_decide_eq_true (by kernel_rfl)) k1 hg lt1) trodAll_mk0))
  refine ⟨_, rfl, _, _, _, [], _, [], hW', ?_, ha, rfl, hg.frame _, fun h => by cases h⟩
  exact (trodAll_cons_mk (shut_bool Tryz.underlying4 _) trodAll_mk0)
theorem holds : Rows.WriteApartSaid :=
  OpenClaim.holds_of_wide 7 Tryz.f7 rfl rfl rfl rfl rfl rfl rfl ⟨rfl, rfl, rfl, rfl, rfl⟩ rfl rfl rfl rfl rfl (by kernel_rfl) Tryz.func7 (by kernel_rfl)
    (of_decide_eq_true (by kernel_rfl)) (by unfold Func.isWrapper; first | (rw [if_pos (by decide +kernel)]; kernel_rfl) | (rw [if_neg (by decide +kernel)]; exact ⟨rfl, rfl⟩))
    (fun os started H enc _ => lifted os started H enc)
/-- THE STATEMENT: the tied card. -/
theorem proved : Rows.WriteApartCardSaid :=
  Claim7.holds_tied_plain_at .later [] [.data, .data, .data, .sentinel, .sentinel] true (true, "db4c560b7b05b555484bdc7e4ea4373fa0315a09f8e93b3cbef9aa63f2928fd1") true
    holds (fun _ h => by cases h) (by kernel_rfl) (fun _ h => by cases h) writeApart_row_tie rfl ⟨rfl, rfl⟩ (by kernel_rfl) rfl
    (fun f fn hf hfn => by
      obtain rfl : f = 7 := Option.some.inj ((show Tryz.prog.funcNamed "elenchus/elenchuslaw14.WriteApart" = some 7 by kernel_rfl).symm.trans hf) |>.symm
      obtain rfl : fn = Tryz.f7 := (Option.some.inj (Tryz.func7.symm.trans hfn)).symm
      exact ⟨by kernel_rfl, fun j t ht => by
        rw [Tryz.params7] at ht
        have hm : t ∈ [27] := by simpa using Array.mem_of_getElem? ht
        have hall : ([27].all fun u => !(Tryz.prog.wantsStandIn u)) = true := by kernel_rfl
        exact (show Tryz.prog.wantsStandIn t = false by simpa using List.all_eq_true.1 hall t hm)⟩)
    (by kernel_rfl)
#print axioms proved
end Go.Proofs.YtedbcmagjbgbjaaGreatDoor.writeApart
