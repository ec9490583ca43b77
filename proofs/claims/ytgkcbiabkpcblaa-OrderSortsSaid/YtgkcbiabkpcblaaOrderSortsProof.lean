/- The law OrderSorts holds: for every input its Go function returns true and leaves its arguments as they were. No condition beyond the row's own. -/
import Derived.Test.YtgkcbiabkpcblaaRows
import Derived.WalkKit
import Derived.ProofKit
import Derived.OpenShut
import Derived.SizedLaws
import Derived.Test.YtgkcbiabkpcblaaTOpen
import Derived.Test.YtgkcbiabkpcblaaLgt
import Derived.Test.YtgkcbiabkpcblaaOrW
import Derived.Test.YtgkcbiabkpcblaaOrK
import Derived.Test.YtgkcbiabkpcblaaOrL
import Derived.Deep.QuietTactic
import Derived.BigQuiet
import Derived.StillTailTactics
import Derived.Deep.LoopGhost
namespace Go.Proofs.Ytgkcbiabkpcblaa.orderSorts
open Go.ChangeShapes Go.WideShapes Go.ChangeAt Go.RowKit
open Go.ChangeMaps (open_string)
open Go.Proofs.Ytgkcbiabkpcblaa.tm Go.Proofs.Ytgkcbiabkpcblaa.lie Go.Proofs.Ytgkcbiabkpcblaa.kp Go.Proofs.Ytgkcbiabkpcblaa.top
set_option linter.unusedVariables false
theorem own : ownKnob Try.prog.godebug = none := by kernel_rfl
theorem laidOut : laidOutB Try.prog = true := by kernel_rfl
open Go.Proofs.Ytgkcbiabkpcblaa.tm Go.Proofs.Ytgkcbiabkpcblaa.lie Go.Proofs.Ytgkcbiabkpcblaa.kp Go.Proofs.Ytgkcbiabkpcblaa.mes Go.Proofs.Ytgkcbiabkpcblaa.vrs Go.Proofs.Ytgkcbiabkpcblaa.awk Go.Proofs.Ytgkcbiabkpcblaa.lgt Go.Proofs.Ytgkcbiabkpcblaa.cur Go.Proofs.Ytgkcbiabkpcblaa.rws Go.Proofs.Ytgkcbiabkpcblaa.sme Go.Proofs.Ytgkcbiabkpcblaa.pla Go.Proofs.Ytgkcbiabkpcblaa.rmy Go.Proofs.Ytgkcbiabkpcblaa.rsm Go.Proofs.Ytgkcbiabkpcblaa.odm Go.Proofs.Ytgkcbiabkpcblaa.odc Go.Proofs.Ytgkcbiabkpcblaa.odd Go.Proofs.Ytgkcbiabkpcblaa.odw Go.Proofs.Ytgkcbiabkpcblaa.ods Go.Proofs.Ytgkcbiabkpcblaa.odi Go.Proofs.Ytgkcbiabkpcblaa.odj Go.Proofs.Ytgkcbiabkpcblaa.odk Go.Proofs.Ytgkcbiabkpcblaa.odl
set_option linter.unusedSimpArgs false in
set_option maxRecDepth 100000 in
set_option maxHeartbeats 16000000 in
theorem walk (w : World) (a0 : Option Addr) (n0 c0 : Nat) (l0 : List Tm) (e0 : l0.length = n0) (x0 : TRow No w l0 a0 0) (m0 : n0 ≤ c0) (y0 : c0 ≤ maxLen) (z0 : n0 * 72 ≤ 140737488351232) :
    Calls Try.prog 4 #[.slice a0 n0 c0] w fun e w' => e = .returned (.bool true) ∧ Below w.heap.size w w' := by
  have HX0 := Lib.hid x0
  have HE := Lib.hid e0
  clear x0 m0 y0 z0
  by_cases h30 : 40 < n0
  · have h30' : decide ((n0 : Int) > 40) = true := by simp; omega
    clear h30
    go_enter Try.func4, Try.ntmps4
    go_wp2_with fail
    refine (awake_any _).mono ?_; rintro e w2 ⟨rfl, hb⟩
    have HB := Lib.hid hb
    clear hb
    go_wp2_with fail
    go_ret
    exact ⟨rfl, HB.out⟩
  have h30' : decide ((n0 : Int) > 40) = false := by simp; omega
  have hn0 : n0 ≤ 40 := by omega
  clear h30
  go_enter Try.func4, Try.ntmps4
  go_wp2_with fail
  have hlg := Light_any l0 a0 c0 w HX0.out (by have := HE.out; omega)
  rw [HE.out] at hlg
  refine hlg.mono ?_
  rintro e w2 ⟨b, rfl, hb⟩
  have HB2 := Lib.hid hb
  clear hb hlg
  cases b
  · go_wp2_with fail
    refine (awake_any _).mono ?_; rintro e w3 ⟨rfl, hb⟩
    have HB3 := Lib.hid (bt HB2.out hb)
    clear hb
    go_wp2_with fail
    go_ret
    exact ⟨rfl, HB3.out⟩
  go_wp2_with fail
  have hso := sort_any l0 a0 c0 w2 (HX0.out.below HB2.out) (by have := HE.out; omega)
  rw [HE.out] at hso
  refine hso.mono ?_
  rintro e w3 ⟨M, a, c, hM, rfl, _, _, hT, hb3⟩
  have HB3 := Lib.hid (HB2.out.trans (hb3.mono HB2.out.size))
  have HM := Lib.hid (And.intro hM hT)
  have hMl : M.length ≤ 40 := by
    have h1 := hM.1.length_eq
    have h2 := List.length_filter_le good l0
    unfold G at h1
    rw [List.length_map] at h1
    have := HE.out; omega
  clear hb3 hM hT hso
  go_wp2_with fail
  have hrs := rsort_any false l0 a0 c0 w3 (HX0.out.below HB3.out) (by have := HE.out; omega)
  rw [HE.out] at hrs
  refine hrs.mono ?_
  rintro e w4 ⟨M2, a2, c2, hM2, rfl, _, _, hT2, hb4⟩
  have hME : M2 = M := (show SortR l0 M2 by simpa [RS] using hM2).uniq HM.out.1
  subst hME
  have HB4 := Lib.hid (HB3.out.trans (hb4.mono HB3.out.size))
  have HT2 := Lib.hid (And.intro (HM.out.2.below hb4) hT2)
  clear hM2 hT2 hb4 hrs
  go_wp2_with fail
  refine (rsameT_any M2 a a2 c c2 w4 HT2.out.1 HT2.out.2 (by omega) (fun x hx => (HM.out.1.pl x hx).1)).mono ?_
  rintro e w5 ⟨rfl, hb5⟩
  have HB5 := Lib.hid (HB4.out.trans (hb5.mono HB4.out.size))
  clear hb5
  go_wp2_with fail
  have hss := set_any l0 a0 c0 w5 (HX0.out.below HB5.out) (by have := HE.out; omega)
  rw [HE.out] at hss
  refine hss.mono ?_
  rintro e w6 ⟨N, a3, c3, hN, rfl, _, _, hT3, hb6⟩
  have HB6 := Lib.hid (HB5.out.trans (hb6.mono HB5.out.size))
  have HN := Lib.hid (And.intro hN hT3)
  have hNl : N.length ≤ 40 := by
    obtain h1 := nodup_le hN.2 (fun x hx => good_sound (hN.pl x hx).1) (N := G l0) fun x hx => (hN.1 x).1 hx
    have h2 := List.length_filter_le good l0
    unfold G at h1
    rw [List.length_map] at h1
    have := HE.out; omega
  clear hN hT3 hb6 hss
  go_wp2_with fail
  have hrs := rsort_any true l0 a0 c0 w6 (HX0.out.below HB6.out) (by have := HE.out; omega)
  rw [HE.out] at hrs
  refine hrs.mono ?_
  rintro e w7 ⟨N2, a4, c4, hN2, rfl, _, _, hT4, hb7⟩
  have hNE : N2 = N := (show SetR l0 N2 by simpa [RS] using hN2).uniq HN.out.1
  subst hNE
  have HB7 := Lib.hid (HB6.out.trans (hb7.mono HB6.out.size))
  have HT4 := Lib.hid (And.intro (HN.out.2.below hb7) hT4)
  clear hN2 hT4 hb7 hrs
  go_wp2_with fail
  refine (rsameT_any N2 a3 a4 c3 c4 w7 HT4.out.1 HT4.out.2 (by omega) (fun x hx => (HN.out.1.pl x hx).1)).mono ?_
  rintro e w8 ⟨rfl, hb8⟩
  have HB8 := Lib.hid (HB7.out.trans (hb8.mono HB7.out.size))
  clear hb8
  go_wp2_with fail
  refine (awake_any _).mono ?_; rintro e w9 ⟨rfl, hb⟩
  have HB9 := Lib.hid (HB8.out.trans (hb.mono HB8.out.size))
  clear hb
  go_wp2_with fail
  go_ret
  exact ⟨rfl, HB9.out⟩
set_option maxRecDepth 100000 in
theorem lifted (os : Os) (started : os.Started) (H : Type) (enc : TypeId × Value → H) :
    ReturnsInHanded {} Try.checked os 4 .any (Rows.orderSortsSpec.pre6 enc Try.prog Try.f4 Rows.orderSortsRow.domain false) (Rows.orderSortsSpec.post enc Try.prog Try.f4 false true false false) := by
  refine returnsInHanded_of_change_sized (C := Try.checked) own started (by kernel_rfl) Try.func4
    (ChangeSpec.witness6 (enc := enc) (C := Try.checked) false ⟨#[], #[.slice none 0 0], []⟩ 8 (by kernel_rfl) (by kernel_rfl) (by kernel_rfl) (by kernel_rfl)) ?_
  intro W base args ds gs before hval0 hW _ hsz0 _
  have hsz : (DataW.weightsEach Try.prog (Try.f4.params.toList ++ Rows.orderSortsSpec.plain.varTypes Try.prog) (ds ++ gs)).all (· ≤ reachBytes) = true := hsz0
  clear hsz0
  have hval : ∀ (j : Nat) t v, Try.f4.params[j]? = some t → args[j]? = some v → Value.okWide Try.prog W .any base t v := hval0
  have hW' := hW
  obtain ⟨p, q, hA0, hV, rfl, hfz, hnd⟩ := hW
  have hA : DataW.TrodAll enc Try.prog W 0 (fun _ => true) true Try.f4.params.toList args.toList ds p := hA0
  rw [Try.params4] at hA hval hsz
  obtain ⟨v0, vs0, d0, ds0, p0, q0, hargs, rfl, rfl, h0, r0⟩ := trodAll_cons hA
  obtain ⟨rfl, rfl, rfl⟩ := trodAll_nil r0
  obtain rfl : args = #[v0] := by cases args; simp_all
  obtain ⟨rfl, rfl⟩ := trodVars_none hV
  simp only [List.append_nil] at hW'
  have lt0 : ∀ x ∈ p0, x.block < W.heap.size := fun x hx => by
    have := hW'.lt x (by simp [hx])
    simpa using this
  have k0 := h0
  obtain ⟨a0, n0, c0, rfl⟩ := okWide_slice Try.underlying23 (hval 0 23 v0 rfl rfl)
  obtain ⟨l0, g0, x0, m0, y0, z0⟩ := slice_arg h0 (fun x y e => sized_slice hsz (j := 0) (t := 23) (e := 25) rfl (by rw [← e]; rfl) Try.underlying23)
  clear hA0 hval0
  refine (walk W a0 n0 c0 l0 g0 x0 m0 y0 z0).mono fun e W' ⟨he, hg⟩ => ?_
  subst he
  have ha := (trodAll_cons_mk (Below.trod laidOut (by kernel_rfl) (of_decide_eq_true (by kernel_rfl)) k0 hg lt0) trodAll_mk0)
  refine ⟨_, rfl, _, _, _, [], _, [], hW', ?_, ha, rfl, hg.frame _, fun h => by cases h⟩
  exact (trodAll_cons_mk (shut_bool Try.underlying4 _) trodAll_mk0)
/-- THE STATEMENT. -/
theorem proved : Rows.OrderSortsSaid :=
  OpenClaim.holds_of_wide 4 Try.f4 rfl rfl rfl rfl rfl rfl rfl ⟨rfl, rfl, rfl, rfl, rfl⟩ rfl rfl rfl rfl rfl (by kernel_rfl) Try.func4 (by kernel_rfl)
    (of_decide_eq_true (by kernel_rfl)) (by unfold Func.isWrapper; first | (rw [if_pos (by decide +kernel)]; kernel_rfl) | (rw [if_neg (by decide +kernel)]; exact ⟨rfl, rfl⟩))
    (fun os started H enc _ => lifted os started H enc)
#print axioms proved
end Go.Proofs.Ytgkcbiabkpcblaa.orderSorts
