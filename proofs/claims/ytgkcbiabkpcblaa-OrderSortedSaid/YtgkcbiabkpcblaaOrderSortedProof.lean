/- The law OrderSorted holds: for every input its Go function returns true and leaves its arguments as they were. No condition beyond the row's own. -/
import Derived.Test.YtgkcbiabkpcblaaRows
import Derived.WalkKit
import Derived.ProofKit
import Derived.OpenShut
import Derived.SizedLaws
import Derived.Test.YtgkcbiabkpcblaaTOpen
import Derived.Test.YtgkcbiabkpcblaaLgt
import Derived.Test.YtgkcbiabkpcblaaOrW
import Derived.Test.YtgkcbiabkpcblaaOrK
import Derived.Deep.QuietTactic
import Derived.BigQuiet
import Derived.StillTailTactics
import Derived.Deep.LoopGhost
namespace Go.Proofs.Ytgkcbiabkpcblaa.orderSorted
open Go.ChangeShapes Go.WideShapes Go.ChangeAt Go.RowKit
open Go.ChangeMaps (open_string)
open Go.Proofs.Ytgkcbiabkpcblaa.tm Go.Proofs.Ytgkcbiabkpcblaa.lie Go.Proofs.Ytgkcbiabkpcblaa.kp Go.Proofs.Ytgkcbiabkpcblaa.top
set_option linter.unusedVariables false
theorem own : ownKnob Try.prog.godebug = none := by kernel_rfl
theorem laidOut : laidOutB Try.prog = true := by kernel_rfl
open Go.Proofs.Ytgkcbiabkpcblaa.tm Go.Proofs.Ytgkcbiabkpcblaa.lie Go.Proofs.Ytgkcbiabkpcblaa.kp Go.Proofs.Ytgkcbiabkpcblaa.mes Go.Proofs.Ytgkcbiabkpcblaa.vrs Go.Proofs.Ytgkcbiabkpcblaa.awk Go.Proofs.Ytgkcbiabkpcblaa.lgt Go.Proofs.Ytgkcbiabkpcblaa.cur Go.Proofs.Ytgkcbiabkpcblaa.rws Go.Proofs.Ytgkcbiabkpcblaa.sme Go.Proofs.Ytgkcbiabkpcblaa.pla Go.Proofs.Ytgkcbiabkpcblaa.rmy Go.Proofs.Ytgkcbiabkpcblaa.rsm Go.Proofs.Ytgkcbiabkpcblaa.odm Go.Proofs.Ytgkcbiabkpcblaa.odc Go.Proofs.Ytgkcbiabkpcblaa.odd Go.Proofs.Ytgkcbiabkpcblaa.odw Go.Proofs.Ytgkcbiabkpcblaa.ods Go.Proofs.Ytgkcbiabkpcblaa.odi Go.Proofs.Ytgkcbiabkpcblaa.odj Go.Proofs.Ytgkcbiabkpcblaa.odk
def R1 (w : World) (l : List Tm) (g : Nat) (s3 s19 : Value) (wr : World) : Prop := ∃ k : Nat, k ≤ l.length ∧ g = l.length - k ∧ s19 = .int .i64 k ∧ s3 = .int .i64 (((l.take k).filter good).length : Nat) ∧ Below w.heap.size w wr
def R2 (w : World) (N : Nat) (g : Nat) (s33 : Value) (wr : World) : Prop := ∃ k : Nat, k ≤ N ∧ g = N - k ∧ s33 = .int .i64 k ∧ Below w.heap.size w wr
theorem cnt {l : List Tm} {k : Nat} (hk : k < l.length) : ((l.take (k + 1)).filter good).length = ((l.take k).filter good).length + (if good l[k] = true then 1 else 0) := by
  rw [List.take_succ_eq_append_getElem hk, List.filter_append, List.length_append]
  cases h : good l[k] <;> simp [h]
theorem sort_idem {l M : List Tm} (h : SortR l M) : SortR M M := ⟨by rw [G_of_pl h.pl], h.2⟩
theorem set_of {l M N : List Tm} (h : SortR l M) (k : SetR M N) : SetR l N := ⟨fun x => by rw [k.1 x, G_of_pl h.pl, h.1.mem_iff], k.2⟩
theorem good_of {M : List Tm} (h : ∀ x ∈ M, Pl x) : ∀ x ∈ M, good x = true := fun x hx => (h x hx).1
set_option linter.unusedSimpArgs false in
set_option maxRecDepth 100000 in
set_option maxHeartbeats 16000000 in
theorem walk (w : World) (a0 : Option Addr) (n0 c0 : Nat) (l0 : List Tm) (e0 : l0.length = n0) (x0 : TRow No w l0 a0 0) (m0 : n0 ≤ c0) (y0 : c0 ≤ maxLen) (z0 : n0 * 72 ≤ 140737488351232) :
    Calls Try.prog 9 #[.slice a0 n0 c0] w fun e w' => e = .returned (.bool true) ∧ Below w.heap.size w w' := by
  have HX0 := Lib.hid x0
  have HE := Lib.hid e0
  clear x0 m0 y0 z0
  by_cases h30 : 30 < n0
  · have h30' : decide ((n0 : Int) > 30) = true := by simp; omega
    clear h30
    go_enter Try.func9, Try.ntmps9
    go_wp2_with fail
    refine (awake_any _).mono ?_; rintro e w2 ⟨rfl, hb⟩
    have HB := Lib.hid hb
    clear hb
    go_wp2_with fail
    go_ret
    exact ⟨rfl, HB.out⟩
  have h30' : decide ((n0 : Int) > 30) = false := by simp; omega
  have hn0 : n0 ≤ 30 := by omega
  clear h30
  go_enter Try.func9, Try.ntmps9
  go_wp2_with fail
  have hlg := Light_any l0 a0 c0 w HX0.out (by have := HE.out; omega)
  rw [HE.out] at hlg
  refine hlg.mono ?_
  rintro e w2 ⟨b, rfl, hb⟩
  have HB2 := Lib.hid hb
  clear hb hlg
  cases b
  · go_wp2_with fail
    refine (awake_any _).mono ?_; rintro e w3 ⟨rfl, hb⟩
    have HB3 := Lib.hid (bt HB2.out hb)
    clear hb
    go_wp2_with fail
    go_ret
    exact ⟨rfl, HB3.out⟩
  go_wp2_with fail
  go_loopg [3, 19] n0 (R1 w l0)
  case atStart => exact ⟨0, by omega, HE.out.symm, rfl, by simp, HB2.out⟩
  case round =>
    obtain ⟨kk, hk, rfl, rfl, rfl, hb⟩ := hrel
    by_cases hlt : kk < l0.length
    · have hltn : kk < n0 := by have := HE.out; omega
      obtain ⟨b1, o1, v0, v1, v2, v3, v4, v5, hbl, _, h6, hlx, hix⟩ := HX0.out.look hlt
      have h6' := h6.keep (X := No) (Keep.of_below hb) id
      have hix' := hix c0
      rw [HE.out] at hix'
      obtain ⟨kp, np, ip, rp, mp, lp, ap, cp, hv, _⟩ := lies_form hlx
      obtain ⟨rfl, rfl, rfl, rfl, rfl, rfl⟩ := hv
      obtain ⟨e0', e1, e2, e3, e4, e5⟩ := h6'
      have HX := Lib.hid (And.intro (hlx.below hb) hb)
      have HC := Lib.hid (cnt hlt)
      have hfl : ((l0.take kk).filter good).length ≤ 30 := by
        have h2 := List.length_filter_le good (l0.take kk)
        rw [List.length_take] at h2
        have := HE.out; omega
      obtain ⟨C, hC⟩ : ∃ C, C = ((l0.take kk).filter good).length := ⟨_, rfl⟩
      rw [← hC] at hfl HC ⊢
      have HCC := Lib.hid hC
      clear h6 hlx hix hb hC
      cases hg : good l0[kk]
      · have q : (may l0[kk] == 0) = false := by rw [beq_eq_false_iff_ne]; have := may_nogood hg; omega
        have HG := Lib.hid hg
        clear hg
        go_wp2_with fail
        refine (rMay_any _ _ _ (HX.out.1.below (ba _ _))).mono ?_
        rintro e w4 ⟨rfl, hb4⟩
        have HB4 := Lib.hid (bt (ba _ _) hb4)
        clear hb4 e0' e1 e2 e3 e4 e5
        go_wp2_with fail
        go_roundg (l0.length - (kk + 1))
        case measure => omega
        case rel => exact ⟨kk + 1, hlt, rfl, by go_num, by rw [HC.out, HG.out]; rfl, HX.out.2.trans (HB4.out.mono HX.out.2.size)⟩
      · have q : (may l0[kk] == 0) = true := by rw [beq_iff_eq]; exact may_good hg
        have HG := Lib.hid hg
        clear hg
        go_wp2_with fail
        refine (rMay_any _ _ _ (HX.out.1.below (ba _ _))).mono ?_
        rintro e w4 ⟨rfl, hb4⟩
        have HB4 := Lib.hid (bt (ba _ _) hb4)
        clear hb4 e0' e1 e2 e3 e4 e5
        go_wp2_with fail
        go_roundg (l0.length - (kk + 1))
        case measure => omega
        case rel => exact ⟨kk + 1, hlt, rfl, by go_num, by rw [HC.out, HG.out]; go_num, HX.out.2.trans (HB4.out.mono HX.out.2.size)⟩
    · have hkk : kk = n0 := by have := HE.out; omega
      subst hkk
      obtain ⟨C, hC⟩ : ∃ C, C = ((l0.take kk).filter good).length := ⟨_, rfl⟩
      rw [← hC]
      have HCC := Lib.hid hC
      have HB3 := Lib.hid hb
      clear hC hb hlt
      go_wp2_with fail
      have hso := sort_any l0 a0 c0 wr (HX0.out.below HB3.out) (by have := HE.out; omega)
      rw [HE.out] at hso
      refine hso.mono ?_
      rintro e w4 ⟨M, a, c, hM, rfl, hMc, hcm, hT, hb4⟩
      have HB4 := Lib.hid (HB3.out.trans (hb4.mono HB3.out.size))
      have hMl : M.length = C := by
        rw [hM.1.length_eq, HCC.out]
        unfold G
        rw [List.length_map, List.take_of_length_le (by have := HE.out; omega)]
      have HM := Lib.hid (And.intro hM (And.intro hT hMl))
      have hC30 : C ≤ 30 := by
        rw [HCC.out]
        have h2 := List.length_filter_le good (l0.take kk)
        rw [List.length_take] at h2
        omega
      rw [hMl] at hMc ⊢
      clear hb4 hM hT hMl hso hMc hcm
      go_wp2_with fail
      go_loopg [33] C (R2 w4 C)
      case atStart => exact ⟨0, by omega, by omega, rfl, br _⟩
      case round =>
        obtain ⟨i, hi, rfl, rfl, hb⟩ := hrel
        have HB5 := Lib.hid hb
        clear hb
        by_cases hlt : i < C
        · go_upto_region 14 with fail
          go_cut [34, 50] from 36 to 49 (fun s34 s50 wx => s50 = .bool false ∧ Below w4.heap.size w4 wx)
          case first =>
            by_cases hi0 : 0 < i
            · have hM1 : i < M.length := by have := HM.out.2.2; omega
              have hM2 : i - 1 < M.length := by omega
              obtain ⟨b1, o1, v0, v1, v2, v3, v4, v5, hbl, _, h6, hlx, hix⟩ := HM.out.2.1.look hM1
              obtain ⟨b2, o2, u0, u1, u2, u3, u4, u5, hbl2, _, h62, hlx2, hix2⟩ := HM.out.2.1.look hM2
              have h6' := h6.keep (X := No) (Keep.of_below HB5.out) id
              have h62' := h62.keep (X := No) (Keep.of_below HB5.out) id
              have hix' := hix c
              have hix2' := hix2 c
              have ek : ((i - 1 : Nat) : Int) = (i : Int) - 1 := by omega
              rw [HM.out.2.2] at hix' hix2'
              rw [ek] at hix2'
              have hwr : IntKind.i64.wrap ((i : Int) - 1) = (i : Int) - 1 := by rw [IntKind.wrap_i64]; omega
              have hle : ordR M[i - 1] M[i] ≤ 0 := by
                have g1 := (HM.out.1.pl _ (List.getElem_mem hM1)).1
                have g2 := (HM.out.1.pl _ (List.getElem_mem hM2)).1
                unfold ordR; rw [if_pos g2, if_pos g1]
                exact List.pairwise_iff_getElem.1 HM.out.1.2 (i - 1) i hM2 hM1 (by omega)
              obtain ⟨x, hx⟩ : ∃ x, ordR M[i - 1] M[i] = x := ⟨_, rfl⟩
              rw [hx] at hle
              have q : decide (x > 0) = false := by simp; omega
              obtain ⟨kq, nq, iq, req, imq, lq, aq, cq, hv, _⟩ := lies_form hlx
              obtain ⟨rfl, rfl, rfl, rfl, rfl, rfl⟩ := hv
              obtain ⟨kp, np, ip, rp, mp, lp, ap, cp, hv, _⟩ := lies_form hlx2
              obtain ⟨rfl, rfl, rfl, rfl, rfl, rfl⟩ := hv
              obtain ⟨e0', e1, e2, e3, e4, e5⟩ := h6'
              obtain ⟨f0, f1, f2, f3, f4, f5⟩ := h62'
              have HX := Lib.hid (And.intro (hlx.below HB5.out) (And.intro (hlx2.below HB5.out) hx))
              clear h6 h62 hlx hlx2 hix hix2 ek hx
              go_wp2_with fail
              go_still_tail 12, (by kernel_rfl)
              change wpList _ _ _ _ _ wr.drew
              obtain ⟨wd, hwd⟩ : ∃ wd, wd = wr.drew := ⟨_, rfl⟩
              have HD := Lib.hid (show Below wr.heap.size wr wd by rw [hwd]; exact bdr wr)
              rw [← hwd]
              clear hwd e0' e1 e2 e3 e4 e5 f0 f1 f2 f3 f4 f5
              go_wp2_with fail
              refine (order_any _ _ _ _ _ (HX.out.2.1.below HD.out) (HX.out.1.below HD.out)).mono ?_
              rintro e w6 ⟨rfl, hb6⟩
              rw [HX.out.2.2]
              have HB6 := Lib.hid ((HB5.out.trans (HD.out.mono HB5.out.size)).trans (hb6.mono (by have := HB5.out.size; have := HD.out.size; omega)))
              clear hb6
              go_wp2_with fail
              go_meet
              exact ⟨rfl, HB6.out⟩
            · have hi0' : i = 0 := by omega
              have q0 : decide ((i : Int) > 0) = false := by simp; omega
              have q1 : decide (0 < i) = false := by simp; omega
              have HI0 := Lib.hid hi0'
              clear hi0'
              go_wp2_with fail
              go_quiet (fail)
              go_wp2_with fail
              go_meet
              exact ⟨rfl, HB5.out.trans ((Go.Proofs.Ytgkcbiabkpcblaa.odb.below_drewN _ _).mono HB5.out.size)⟩
          case rest =>
            obtain ⟨rfl, hbx⟩ := hcut
            have HBX := Lib.hid hbx
            clear hbx
            go_wp2_with fail
            go_roundg (C - (i + 1))
            case measure => omega
            case rel => exact ⟨i + 1, by omega, rfl, by go_num, HBX.out⟩
        · have HBW := Lib.hid (HB4.out.trans (HB5.out.mono HB4.out.size))
          have hiC : i = C := by omega
          clear hlt
          go_wp2_with fail
          have hso := sort_any M a c wr (HM.out.2.1.below HB5.out) (by have := HM.out.2.2; omega)
          rw [HM.out.2.2] at hso
          refine hso.mono ?_
          rintro e w6 ⟨M2, a2, c2, hM2, rfl, _, _, hT2, hb6⟩
          have hME : M2 = M := hM2.uniq (sort_idem HM.out.1)
          subst hME
          have HB6 := Lib.hid (And.intro (HBW.out.trans (hb6.mono HBW.out.size)) (HB5.out.trans (hb6.mono HB5.out.size)))
          have HT2 := Lib.hid hT2
          rw [HM.out.2.2]
          clear hM2 hT2 hb6 hso
          go_wp2_with fail
          have hsm := rsameT_any M2 a2 a c2 c w6 HT2.out (HM.out.2.1.below HB6.out.2) (by have := HM.out.2.2; omega) (good_of HM.out.1.pl)
          rw [HM.out.2.2] at hsm
          refine hsm.mono ?_
          rintro e w7 ⟨rfl, hb7⟩
          have HB7 := Lib.hid (And.intro (HB6.out.1.trans (hb7.mono HB6.out.1.size)) (HB6.out.2.trans (hb7.mono HB6.out.2.size)))
          clear hb7 hsm
          go_wp2_with fail
          have hs1 := set_any M2 a c w7 (HM.out.2.1.below HB7.out.2) (by have := HM.out.2.2; omega)
          rw [HM.out.2.2] at hs1
          refine hs1.mono ?_
          rintro e w8 ⟨N, a3, c3, hN, rfl, _, _, hT3, hb8⟩
          have HB8 := Lib.hid (HB7.out.1.trans (hb8.mono HB7.out.1.size))
          have HN := Lib.hid (And.intro (set_of HM.out.1 hN) hT3)
          have hNl : N.length ≤ M2.length := nodup_le hN.2 (fun x hx => good_sound (hN.pl x hx).1) fun x hx => by have := (hN.1 x).1 hx; rwa [G_of_pl HM.out.1.pl] at this
          have HNL := Lib.hid hNl
          clear hN hT3 hb8 hs1 hNl
          go_wp2_with fail
          have hs2 := set_any l0 a0 c0 w8 (HX0.out.below HB8.out) (by have := HE.out; omega)
          rw [HE.out] at hs2
          refine hs2.mono ?_
          rintro e w9 ⟨N2, a4, c4, hN2, rfl, _, _, hT4, hb9⟩
          have hNE : N2 = N := hN2.uniq HN.out.1
          subst hNE
          have HB9 := Lib.hid (HB8.out.trans (hb9.mono HB8.out.size))
          have HT4 := Lib.hid (And.intro hT4 (HN.out.2.below hb9))
          clear hN2 hT4 hb9 hs2
          go_wp2_with fail
          refine (rsameT_any N2 a3 a4 c3 c4 w9 HT4.out.2 HT4.out.1 (by have := HM.out.2.2; have := HNL.out; omega) (good_of HN.out.1.pl)).mono ?_
          rintro e w10 ⟨rfl, hb10⟩
          have HB10 := Lib.hid (HB9.out.trans (hb10.mono HB9.out.size))
          clear hb10
          go_wp2_with fail
          refine (awake_any _).mono ?_; rintro e w11 ⟨rfl, hb⟩
          have HB11 := Lib.hid (HB10.out.trans (hb.mono HB10.out.size))
          clear hb
          go_wp2_with fail
          go_ret
          exact ⟨rfl, HB11.out⟩
set_option maxRecDepth 100000 in
theorem lifted (os : Os) (started : os.Started) (H : Type) (enc : TypeId × Value → H) :
    ReturnsInHanded {} Try.checked os 9 .any (Rows.orderSortedSpec.pre6 enc Try.prog Try.f9 Rows.orderSortedRow.domain false) (Rows.orderSortedSpec.post enc Try.prog Try.f9 false true false false) := by
  refine returnsInHanded_of_change_sized (C := Try.checked) own started (by kernel_rfl) Try.func9
    (ChangeSpec.witness6 (enc := enc) (C := Try.checked) false ⟨#[], #[.slice none 0 0], []⟩ 8 (by kernel_rfl) (by kernel_rfl) (by kernel_rfl) (by kernel_rfl)) ?_
  intro W base args ds gs before hval0 hW _ hsz0 _
  have hsz : (DataW.weightsEach Try.prog (Try.f9.params.toList ++ Rows.orderSortedSpec.plain.varTypes Try.prog) (ds ++ gs)).all (· ≤ reachBytes) = true := hsz0
  clear hsz0
  have hval : ∀ (j : Nat) t v, Try.f9.params[j]? = some t → args[j]? = some v → Value.okWide Try.prog W .any base t v := hval0
  have hW' := hW
  obtain ⟨p, q, hA0, hV, rfl, hfz, hnd⟩ := hW
  have hA : DataW.TrodAll enc Try.prog W 0 (fun _ => true) true Try.f9.params.toList args.toList ds p := hA0
  rw [Try.params9] at hA hval hsz
  obtain ⟨v0, vs0, d0, ds0, p0, q0, hargs, rfl, rfl, h0, r0⟩ := trodAll_cons hA
  obtain ⟨rfl, rfl, rfl⟩ := trodAll_nil r0
  obtain rfl : args = #[v0] := by cases args; simp_all
  obtain ⟨rfl, rfl⟩ := trodVars_none hV
  simp only [List.append_nil] at hW'
  have lt0 : ∀ x ∈ p0, x.block < W.heap.size := fun x hx => by
    have := hW'.lt x (by simp [hx])
    simpa using this
  have k0 := h0
  obtain ⟨a0, n0, c0, rfl⟩ := okWide_slice Try.underlying23 (hval 0 23 v0 rfl rfl)
  obtain ⟨l0, g0, x0, m0, y0, z0⟩ := slice_arg h0 (fun x y e => sized_slice hsz (j := 0) (t := 23) (e := 25) rfl (by rw [← e]; rfl) Try.underlying23)
  clear hA0 hval0
  refine (walk W a0 n0 c0 l0 g0 x0 m0 y0 z0).mono fun e W' ⟨he, hg⟩ => ?_
  subst he
  have ha := (trodAll_cons_mk (Below.trod laidOut (by kernel_rfl) (of_decide_eq_true (by kernel_rfl)) k0 hg lt0) trodAll_mk0)
  refine ⟨_, rfl, _, _, _, [], _, [], hW', ?_, ha, rfl, hg.frame _, fun h => by cases h⟩
  exact (trodAll_cons_mk (shut_bool Try.underlying4 _) trodAll_mk0)
/-- THE STATEMENT. -/
theorem proved : Rows.OrderSortedSaid :=
  OpenClaim.holds_of_wide 9 Try.f9 rfl rfl rfl rfl rfl rfl rfl ⟨rfl, rfl, rfl, rfl, rfl⟩ rfl rfl rfl rfl rfl (by kernel_rfl) Try.func9 (by kernel_rfl)
    (of_decide_eq_true (by kernel_rfl)) (by unfold Func.isWrapper; first | (rw [if_pos (by decide +kernel)]; kernel_rfl) | (rw [if_neg (by decide +kernel)]; exact ⟨rfl, rfl⟩))
    (fun os started H enc _ => lifted os started H enc)
#print axioms proved
end Go.Proofs.Ytgkcbiabkpcblaa.orderSorted
