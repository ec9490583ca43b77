/- The law WriteOps holds, as its tied card says: for every input its Go function returns true and leaves its arguments as they were. The listed package-level variables start as the program's text lays them. -/
import Derived.Test.YtedbcmagjbgbjaaGreatDoorRows
import Derived.Test.YtedbcmagjbgbjaaGreatDoorCards
import Derived.Test.YtedbcmagjbgbjaaGreatDoorTie
import Derived.WalkKit
import Derived.ProofKit
import Derived.OpenShut
import Derived.LaidMore
import Derived.LaidLaws
import Derived.SizedLaws
import Derived.MakeChecks
import Derived.SevenTiedAt
import Derived.Stop.Joined
import Derived.Test.YtedbcmagjbgbjaaGreatDoorTOpen
import Derived.Test.YtedbcmagjbgbjaaGreatDoorWrS
import Derived.Test.YtedbcmagjbgbjaaGreatDoorRSm
import Derived.Test.YtedbcmagjbgbjaaGreatDoorLgt
namespace Go.Proofs.YtedbcmagjbgbjaaGreatDoor.writeOps
open Go.Proofs.YtedbcmagjbgbjaaGreatDoor.tm Go.Proofs.YtedbcmagjbgbjaaGreatDoor.lie Go.Proofs.YtedbcmagjbgbjaaGreatDoor.kp Go.Proofs.YtedbcmagjbgbjaaGreatDoor.top
open Go.ChangeShapes Go.WideShapes Go.ChangeAt Go.RowKit
open Go.ChangeMaps (open_string shut_string)
set_option linter.unusedVariables false
theorem own : ownKnob Tryz.prog.godebug = none := by kernel_rfl
theorem laidOut : laidOutB Tryz.prog = true := by kernel_rfl
abbrev laidL : List (String × DataW Unit) := [("math/bits.deBruijn32tab", Rows.laid_math_bits_deBruijn32tab), ("math/bits.deBruijn64tab", Rows.laid_math_bits_deBruijn64tab), ("internal/strconv.uint64pow10", Rows.laid_internal_strconv_uint64pow10), ("strconv.ErrRange", Rows.laid_strconv_ErrRange), ("strconv.ErrSyntax", Rows.laid_strconv_ErrSyntax)]
theorem door_met (os : Os) (args : Array Value) : laidMetH Tryz.prog laidL ((World.doorLaid Tryz.prog 400 os).forCall (fun _ _ => 0) ⟨#[], args, []⟩).memory :=
  laidMetH_of_parts3 (fuel := 8) (laidMet_of_run' 8 (by kernel_rfl) (by kernel_rfl)) (by kernel_rfl) (by kernel_rfl)
open Go.Proofs.YtedbcmagjbgbjaaGreatDoor.tk Go.Proofs.YtedbcmagjbgbjaaGreatDoor.wr
open Go.Proofs.YtedbcmagjbgbjaaGreatDoor.num (range_of tab_of)
/-- what the loop knows -/
def ORel (w : World) (t : Tm) (g : Nat) (s20 : Value) (wr : World) : Prop :=
  ∃ k : Nat, k ≤ opa.newL.length ∧ g = opa.newL.length - k ∧ s20 = .int .i64 (k : Int) ∧ (∀ d ∈ opa.newL.take k, says d.n t = false) ∧ Below w.heap.size w wr
set_option maxRecDepth 100000 in
set_option maxHeartbeats 8000000 in
theorem walk (w : World) (v0 : Value) (t0 : Tm) (x0 : Lies No w t0 v0) (HL : laidMet Tryz.prog laidL w) :
    Calls Tryz.prog 9 #[v0] w fun e w' => e = .returned (.bool true) ∧ Below w.heap.size w w' := by
  obtain ⟨pp, hv⟩ := range_of (HL.tail.tail.tail)
  have hV := VR.start hv
  have hTb := Lib.tabBelow_of_tabIs (tab_of HL.tail.tail)
  clear hv HL
  obtain ⟨T, hT⟩ : ∃ T, T = t0 := ⟨_, rfl⟩
  have L0 : Lies No w T v0 := by rw [hT]; exact x0
  obtain ⟨k0, n0, i0, r0, m0, l0⟩ := t0
  rw [Lies] at x0
  obtain ⟨a0, c0, rfl, -, -⟩ := x0
  clear hT
  obtain ⟨w1, hw1⟩ : ∃ w1, w1 = w.alloc (.cells #[.int .i64 k0, .string n0, .int .i64 i0, .int .u64 r0, .int .u64 m0, .slice a0 l0.length c0] 27) := ⟨_, rfl⟩
  obtain ⟨q0, hq0⟩ : ∃ q, q = w.heap.size := ⟨_, rfl⟩
  have b1 : Below w.heap.size w w1 := by rw [hw1]; exact ba _ _
  have tb0 : TB q0 k0 n0 i0 r0 m0 (.slice a0 l0.length c0) w1 := by rw [hw1, hq0]; exact TB.new k0 n0 i0 r0 m0 (.slice a0 l0.length c0) w
  have H1 := Lib.hid (And.intro b1 tb0)
  have AWK := Lib.hid (fun (w9 : World) (hb : Below w.heap.size w w9) => awake_any w9 (hV.up hb) (tab_up hTb hb))
  have ROW := Lib.hid (fun (w9 : World) (hb : Below w.heap.size w w9) => row_one (L0.below hb))
  have M0 := Lib.hid (fun (w9 : World) (hb : Below w.heap.size w w9) => rmy.rMay_any T _ w9 (L0.below hb))
  have CN := Lib.hid (fun (w9 : World) (hb : Below w.heap.size w w9) (hg : good T = true) => canon_any (hV.up hb) (tab_up hTb hb) hg (L0.below hb))
  have OP := Lib.hid (fun (w9 : World) (tab : Nat) (FT : Nat → Prop) (hb : Below w.heap.size w w9) (hT : opb.Tb w9 tab FT opa.newL) (hg : good T = true) => ops_any (env_new hV hTb hb hT) hg (L0.below hb))
  have HQ := Lib.hid (And.intro hw1 hq0)
  clear hV hTb L0 b1 tb0 hw1 hq0
  go_enter Tryz.func9, Tryz.ntmps9
  go_upto_region 1 with fail
  change Code.wp _ _ _ _ (w.alloc _)
  rw [← HQ.out.1]
  rw [← HQ.out.2]
  clear HQ
  obtain ⟨y0, y1, y2, y3, y4, y5⟩ := H1.out.2.cells
  go_wp2_with fail
  refine (lgt.Light_any [T] _ 1 _ (ROW.out w1 H1.out.1) (by simp)).mono ?_
  rintro e w2 ⟨b, rfl, b2⟩
  have hb2 := H1.out.1.trans ((bt (ba w1 _) b2).mono H1.out.1.size)
  have H2 := Lib.hid (And.intro hb2 (H1.out.2.below (bt (ba w1 _) b2)))
  clear b2 hb2 H1 y0 y1 y2 y3 y4 y5
  cases b with
  | false =>
    go_wp2_with fail
    refine (AWK.out _ H2.out.1).mono ?_; rintro e w9 ⟨rfl, b9⟩
    have HF := Lib.hid (H2.out.1.trans (b9.mono H2.out.1.size))
    clear b9 H2
    go_wp2_with fail
    go_ret; exact ⟨rfl, HF.out⟩
  | true =>
    obtain ⟨y0, y1, y2, y3, y4, y5⟩ := H2.out.2.cells
    go_wp2_with fail
    refine (M0.out _ H2.out.1).mono ?_; rintro e w3 ⟨rfl, b3⟩
    have H3 := Lib.hid (And.intro (H2.out.1.trans (b3.mono H2.out.1.size)) (H2.out.2.below b3))
    clear b3 H2 y0 y1 y2 y3 y4 y5 M0
    by_cases h0 : may T = 0
    rotate_left
    · have e1 : (may T != 0) = true := by rw [bne_iff_ne]; exact h0
      clear h0
      go_wp2_with fail
      refine (AWK.out _ H3.out.1).mono ?_; rintro e w9 ⟨rfl, b9⟩
      have HF := Lib.hid (H3.out.1.trans (b9.mono H3.out.1.size))
      clear b9 H3
      go_wp2_with fail
      go_ret; exact ⟨rfl, HF.out⟩
    rw [h0]
    have G0 := Lib.hid ((may_iff T).1 h0)
    clear h0
    go_wp2_with fail
    refine (opk.new_any _).mono ?_; rintro e w4 ⟨tab, rfl, -, FT, hTT, b4, -⟩
    have H4 := Lib.hid (And.intro (H3.out.1.trans (b4.mono H3.out.1.size)) (And.intro (H3.out.2.below b4) hTT))
    clear b4 hTT H3
    go_wp2_with fail
    refine (opf.all_any w4 H4.out.2.2 (by decide)).mono ?_; rintro e w5 ⟨ar, cr, rfl, hrw, b5, -⟩
    have H5 := Lib.hid (And.intro (H4.out.1.trans (b5.mono H4.out.1.size)) (And.intro (H4.out.2.1.below b5) (And.intro (H4.out.2.2.below b5) hrw)))
    clear b5 hrw H4
    have hlen : opa.newL.length ≤ 1000 := by decide
    obtain ⟨NL, hNL⟩ : ∃ n, n = opa.newL.length := ⟨_, rfl⟩
    rw [← hNL] at hlen ⊢
    have HNL := Lib.hid hNL
    clear hNL
    go_wp2_with fail
    go_loopg [20] NL (ORel w5 T)
    case atStart => exact ⟨0, Nat.zero_le _, by rw [← HNL.out]; omega, rfl, by simp, br w5⟩
    case round =>
      obtain ⟨k, hk, hg, rfl, hno, hb⟩ := hrel
      rw [← HNL.out] at hk hg
      by_cases hlt : k < NL
      · have hlt' : k < opa.newL.length := by rw [← HNL.out]; exact hlt
        obtain ⟨P, rfl, hPl, g0, g1, g2, hix⟩ := (H5.out.2.2.2.below hb).look hlt'
        rw [← HNL.out] at hix
        obtain ⟨D, hD⟩ : ∃ D, D = opa.newL[k] := ⟨_, rfl⟩
        rw [← hD] at g0 g1 g2
        obtain ⟨dn, dk, dp⟩ := D
        have hix' := hix
        have hd : decide ((k : Int) < (NL : Int)) = true := decide_eq_true (by omega)
        have hbA := ba wr (.cells #[.string ⟨dn.toArray⟩, .int .i64 dk, .int .i64 dp] 45)
        have hw9 : Below w.heap.size w (wr.alloc (.cells #[.string ⟨dn.toArray⟩, .int .i64 dk, .int .i64 dp] 45)) := H5.out.1.trans ((hb.mono H5.out.1.size).trans (hbA.mono (Nat.le_trans H5.out.1.size hb.size)))
        have hrow := ROW.out _ hw9
        have hsay := says_any dn (.mk 5 n0 0 0 0 [T]) _ (some ⟨(wr.alloc (.cells #[.string ⟨dn.toArray⟩, .int .i64 dk, .int .i64 dp] 45)).heap.size, 0, none⟩) 1 hrow (by simp [Tm.args])
        simp only [Tm.args, List.length_cons, List.length_nil, Nat.zero_add, saysL, Bool.or_false] at hsay
        have H6 := Lib.hid (And.intro hw9 (And.intro hno (And.intro hb (And.intro hbA (And.intro hsay (H5.out.2.1.below hb))))))
        have HD := Lib.hid hD
        have tbA := (H5.out.2.1.below hb).below hbA
        obtain ⟨y0, y1, y2, y3, y4, y5⟩ := tbA.cells
        clear hix hno hb hbA hw9 hrow hsay tbA hPl hD hk
        go_upto_region 7 with fail
        obtain ⟨wA, hwA⟩ : ∃ wA, wA = wr.alloc (.cells #[.string ⟨dn.toArray⟩, .int .i64 dk, .int .i64 dp] 45) := ⟨_, rfl⟩
        obtain ⟨q9, hq9⟩ : ∃ q, q = wr.heap.size := ⟨_, rfl⟩
        have y6 : wA.cell? ⟨q9, 0, none⟩ = some (.string ⟨dn.toArray⟩) := by rw [hwA, hq9]; exact alloc_cell wr _ #[.string ⟨dn.toArray⟩, .int .i64 dk, .int .i64 dp] 45 _ 0 rfl rfl
        have H7 : Hid (Below w.heap.size w wA ∧ (∀ d ∈ opa.newL.take k, says d.n T = false) ∧ Below w5.heap.size w5 wA ∧ (Calls Tryz.prog 32 #[.string ⟨dn.toArray⟩, .slice (some ⟨wA.heap.size, 0, none⟩) 1 1] (wA.alloc (.cells #[.int .i64 k0, .string n0, .int .i64 i0, .int .u64 r0, .int .u64 m0, .slice a0 l0.length c0] 27)) fun e w' => e = .returned (.bool (says dn T)) ∧ Below (wA.alloc (.cells #[.int .i64 k0, .string n0, .int .i64 i0, .int .u64 r0, .int .u64 m0, .slice a0 l0.length c0] 27)).heap.size (wA.alloc (.cells #[.int .i64 k0, .string n0, .int .i64 i0, .int .u64 r0, .int .u64 m0, .slice a0 l0.length c0] 27)) w')) :=
          Lib.hid (by rw [hwA]; exact ⟨H6.out.1, H6.out.2.1, H6.out.2.2.1.trans (H6.out.2.2.2.1.mono H6.out.2.2.1.size), H6.out.2.2.2.2.1⟩)
        rw [← hwA, ← hq9]
        rw [← hwA] at y0 y1 y2 y3 y4 y5
        clear hwA hq9 H6 g0 g1 g2
        go_wp2_with fail
        refine H7.out.2.2.2.mono ?_
        have htake : ∀ d ∈ opa.newL.take (k + 1), d ∈ opa.newL.take k ∨ d = ⟨dn, dk, dp⟩ := by
          intro d hm
          rw [List.take_succ_eq_append_getElem hlt', List.mem_append, List.mem_singleton] at hm
          rcases hm with hm | hm
          · exact Or.inl hm
          · exact Or.inr (hm.trans HD.out.symm)
        have HT := Lib.hid htake
        clear htake
        cases hs : says dn T with
        | true =>
          rintro e w6 ⟨rfl, b6⟩
          have hb6 := H7.out.1.trans ((bt (ba wA _) b6).mono H7.out.1.size)
          have H8 := Lib.hid hb6
          clear b6 hs hb6 y0 y1 y2 y3 y4 y5 y6
          go_wp2_with fail
          refine (AWK.out _ H8.out).mono ?_; rintro e w9 ⟨rfl, b9⟩
          have HF := Lib.hid (H8.out.trans (b9.mono H8.out.size))
          clear b9
          go_wp2_with fail
          go_ret; exact ⟨rfl, HF.out⟩
        | false =>
          rintro e w6 ⟨rfl, b6⟩
          have hb6 := H7.out.2.2.1.trans ((bt (ba wA _) b6).mono H7.out.2.2.1.size)
          have H8 := Lib.hid (And.intro hb6 hs)
          clear b6 hs hb6 y0 y1 y2 y3 y4 y5 y6
          go_wp2_with fail
          go_roundg (NL - (k + 1))
          case measure => omega
          case rel => exact ⟨k + 1, by omega, by rw [← HNL.out], by first | rfl | go_num, fun d hd => (HT.out d hd).elim (H7.out.2.1 d) (fun e => by rw [e]; exact H8.out.2), H8.out.1⟩
      · have hk' : k = NL := by omega
        subst hk'
        have hd : decide ((k : Int) < (k : Int)) = false := decide_eq_false (by omega)
        have hfree : Free T := by
          rw [HNL.out, List.take_length] at hno
          exact hno
        have hw9 := H5.out.1.trans (hb.mono H5.out.1.size)
        have htx : wt WN T = wt W0 T := by unfold wt; rw [free_text T (good_sound G0.out) hfree]
        obtain ⟨A, hA⟩ : ∃ A, A = wt W0 T := ⟨_, rfl⟩
        have OP2 := fun w9 tab FT hb hT => OP.out w9 tab FT hb hT G0.out
        have CN2 := fun w9 hb => CN.out w9 hb G0.out
        rw [htx, ← hA] at OP2
        rw [← hA] at CN2
        have OP3 := Lib.hid OP2
        have CN3 := Lib.hid CN2
        have H6 := Lib.hid (And.intro hw9 (And.intro (H5.out.2.1.below hb) (H5.out.2.2.1.below hb)))
        clear OP2 CN2 OP CN htx hA hfree hno hb hw9 H5 hk hg HNL
        go_upto_region 10 with fail
        have SC : ∀ w9, Below wr.heap.size wr w9 → ((w9.cell? ⟨q0, 0, none⟩ = some (.int .i64 k0) ∧ w9.cell? ⟨q0, 1, none⟩ = some (.string n0) ∧ w9.cell? ⟨q0, 2, none⟩ = some (.int .i64 i0) ∧ w9.cell? ⟨q0, 3, none⟩ = some (.int .u64 r0) ∧ w9.cell? ⟨q0, 4, none⟩ = some (.int .u64 m0) ∧ w9.cell? ⟨q0, 5, none⟩ = some (.slice a0 l0.length c0)) ∧ Below wr.heap.size wr w9) := fun w9 hb => ⟨(H6.out.2.1.below hb).cells, hb⟩
        have hdr : ∀ w9, Below wr.heap.size wr w9 → Below wr.heap.size wr w9.drew := fun w9 hb => hb.trans ((bdr w9).mono hb.size)
        have hup : ∀ w9, Below wr.heap.size wr w9 → Below w.heap.size w w9 := fun w9 hb => H6.out.1.trans (hb.mono H6.out.1.size)
        have hch : ∀ w8 w9, Below wr.heap.size wr w8 → Below w8.heap.size w8 w9 → Below wr.heap.size wr w9 := fun w8 w9 hb hc => hb.trans (hc.mono hb.size)
        have hc0 := Below.refl wr.heap.size wr
        have eA : (A == A) = true := beq_self_eq_true A
        go_region_held3 (fun w9 => (w9.cell? ⟨q0, 0, none⟩ = some (.int .i64 k0) ∧ w9.cell? ⟨q0, 1, none⟩ = some (.string n0) ∧ w9.cell? ⟨q0, 2, none⟩ = some (.int .i64 i0) ∧ w9.cell? ⟨q0, 3, none⟩ = some (.int .u64 r0) ∧ w9.cell? ⟨q0, 4, none⟩ = some (.int .u64 m0) ∧ w9.cell? ⟨q0, 5, none⟩ = some (.slice a0 l0.length c0)) ∧ Below wr.heap.size wr w9)
          (first | exact SC _ (by assumption) | exact SC _ (hdr _ (by assumption)) | go_keep)
          (first
            | (go_at_call 33; refine (OP3.out _ tab FT (hup _ (by first | assumption | exact hdr _ (by assumption))) (H6.out.2.2.below (by first | assumption | exact hdr _ (by assumption)))).mono ?_; rintro e wX ⟨rfl, bX⟩; have cX := hch _ _ (by first | assumption | exact hdr _ (by assumption)) bX)
            | (go_at_call 29; refine (CN3.out _ (hup _ (by first | assumption | exact hdr _ (by assumption)))).mono ?_; rintro e wX ⟨rfl, bX⟩; have cX := hch _ _ (by first | assumption | exact hdr _ (by assumption)) bX)
            | (go_at_call 28; refine (AWK.out _ (hup _ (by first | assumption | exact hdr _ (by assumption)))).mono ?_; rintro e wX ⟨rfl, bX⟩; have cX := hch _ _ (by first | assumption | exact hdr _ (by assumption)) bX))
        clear SC hdr hc0 hch H6 AWK CN3 OP3
        go_wp2_with fail
        go_ret
        exact ⟨rfl, hup _ (by first | assumption | exact Below.drew (by assumption))⟩
set_option maxRecDepth 100000 in
theorem lifted (os : Os) (started : os.Started) (H : Type) (enc : TypeId × Value → H) :
    ReturnsInHanded {} Tryz.checked os 9 .any (fun w args => (Rows.writeOpsSpec.pre enc Tryz.prog Tryz.f9 Rows.writeOpsRow.domain false w args ∧ laidMetH Tryz.prog laidL w) ∧ sizedMet enc Tryz.prog Tryz.f9 (OpenSpec.ofChange Rows.writeOpsSpec) false w args)
      (Rows.writeOpsSpec.post enc Tryz.prog Tryz.f9 false true false false) := by
  refine returnsInHanded_of_change_and (C := Tryz.checked) (X := fun w _ => laidMetH Tryz.prog laidL w) (fun _ _ _ hh h => h.of_heap hh) own started (by kernel_rfl) Tryz.func9
    (ChangeSpec.witness_shaped (enc := enc) (C := Tryz.checked) (os := os) (X := fun w _ => laidMetH Tryz.prog laidL w) false (World.doorLaid Tryz.prog 400 os) #[.agg #[.int .i64 0, .string ⟨#[]⟩, .int .i64 0, .int .u64 0, .int .u64 0, .slice none 0 0]] 8 rfl (World.shaped_of_RefB (by kernel_rfl) (by kernel_rfl)) (by kernel_rfl) (by kernel_rfl) (by kernel_rfl) (door_met os _)) ?_
  intro W base args ds gs before hval0 hW _ hsz0 hL _
  have hsz : (DataW.weightsEach Tryz.prog (Tryz.f9.params.toList ++ Rows.writeOpsSpec.plain.varTypes Tryz.prog) (ds ++ gs)).all (· ≤ reachBytes) = true := hsz0
  clear hsz0
  have hval : ∀ (j : Nat) t v, Tryz.f9.params[j]? = some t → args[j]? = some v → Value.okWide Tryz.prog W .any base t v := hval0
  have hW' := hW
  obtain ⟨p, q, hA0, hV, rfl, hfz, hnd⟩ := hW
  have hA : DataW.TrodAll enc Tryz.prog W 0 (fun _ => true) true Tryz.f9.params.toList args.toList ds p := hA0
  rw [Tryz.params9] at hA hval hsz
  obtain ⟨v0, vs0, d0, ds0, p0, q0, hargs, rfl, rfl, h0, r0⟩ := trodAll_cons hA
  obtain ⟨rfl, rfl, rfl⟩ := trodAll_nil r0
  obtain rfl : args = #[v0] := by cases args; simp_all
  obtain ⟨rfl, rfl⟩ := trodVars_none hV
  simp only [List.append_nil] at hW'
  have lt0 : ∀ x ∈ p0, x.block < W.heap.size := fun x hx => by
    have := hW'.lt x (by simp [hx])
    simpa using this
  have k0 := h0
  obtain ⟨t0, x0⟩ := term_arg (by obtain ⟨cs, hcs, _⟩ := okWide_struct Tryz.underlying27 (hval 0 27 v0 rfl rfl); exact ⟨cs, hcs⟩) h0
  clear hA0 hval0

  have HL : laidMet Tryz.prog laidL W := by rw [MakeChecks.laidMetH_plain _ _ _ (by kernel_rfl)] at hL; exact hL
  refine (walk W v0 t0 x0 HL).mono fun e W' ⟨he, hg⟩ => ?_
  subst he
  have ha := (trodAll_cons_mk (Below.trod laidOut (by kernel_rfl) (of_decide_eq_true (by kernel_rfl)) k0 hg lt0) trodAll_mk0)
  refine ⟨_, rfl, _, _, _, [], _, [], hW', ?_, ha, rfl, hg.frame _, fun h => by cases h⟩
  exact (trodAll_cons_mk (shut_bool Tryz.underlying4 _) trodAll_mk0)
theorem holds : Rows.WriteOpsSaid :=
  OpenClaim.holds_of_wide 9 Tryz.f9 rfl rfl rfl rfl rfl rfl rfl ⟨rfl, rfl, rfl, rfl, rfl⟩ rfl rfl rfl rfl rfl (by kernel_rfl) Tryz.func9 (by kernel_rfl)
    (of_decide_eq_true (by kernel_rfl)) (by unfold Func.isWrapper; first | (rw [if_pos (by decide +kernel)]; kernel_rfl) | (rw [if_neg (by decide +kernel)]; exact ⟨rfl, rfl⟩))
    (fun os started H enc _ => lifted os started H enc)
/-- THE STATEMENT: the tied card. -/
theorem proved : Rows.WriteOpsCardSaid :=
  Claim7.holds_tied_plain_at .later [] [.data, .data, .data, .sentinel, .sentinel] true (true, "db4c560b7b05b555484bdc7e4ea4373fa0315a09f8e93b3cbef9aa63f2928fd1") true
    holds (fun _ h => by cases h) (by kernel_rfl) (fun _ h => by cases h) writeOps_row_tie rfl ⟨rfl, rfl⟩ (by kernel_rfl) rfl
    (fun f fn hf hfn => by
      obtain rfl : f = 9 := Option.some.inj ((show Tryz.prog.funcNamed "elenchus/elenchuslaw14.WriteOps" = some 9 by kernel_rfl).symm.trans hf) |>.symm
      obtain rfl : fn = Tryz.f9 := (Option.some.inj (Tryz.func9.symm.trans hfn)).symm
      exact ⟨by kernel_rfl, fun j t ht => by
        rw [Tryz.params9] at ht
        have hm : t ∈ [27] := by simpa using Array.mem_of_getElem? ht
        have hall : ([27].all fun u => !(Tryz.prog.wantsStandIn u)) = true := by kernel_rfl
        exact (show Tryz.prog.wantsStandIn t = false by simpa using List.all_eq_true.1 hall t hm)⟩)
    (by kernel_rfl)
#print axioms proved
end Go.Proofs.YtedbcmagjbgbjaaGreatDoor.writeOps
