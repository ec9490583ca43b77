/- The law HeapRoom holds: for every input its Go function returns true and leaves its arguments as they were. No condition beyond the row's own. -/
import Derived.Test.YthcfbolakjgfgaaRows
import Derived.WalkKit
import Derived.ProofKit
import Derived.OpenShut
import Derived.SizedLaws
import Derived.Test.YthcfbolakjgfgaaHeap
import Derived.Test.YthcfbolakjgfgaaH5
import Derived.Test.YthcfbolakjgfgaaInts
import Derived.LoopTactic
namespace Go.Proofs.Ythcfbolakjgfgaa.heapRoom
open Go.ChangeShapes Go.WideShapes Go.ChangeAt Go.RowKit
open Go.ChangeMaps (open_string)
open Go.Proofs.Ythcfbolakjgfgaa.arg
open Go.Proofs.Ythcfbolakjgfgaa.hp Go.Proofs.Ythcfbolakjgfgaa.cel Go.Proofs.Ythcfbolakjgfgaa.kp
set_option linter.unusedVariables false
theorem own : ownKnob Try.prog.godebug = none := by kernel_rfl
theorem laidOut : laidOutB Try.prog = true := by kernel_rfl
/-- as many variables as there are -/
def rv : Nat → List Int
  | 0 => []
  | n + 1 => rv n ++ [(n : Int) * 8]
theorem rv_len : ∀ n, (rv n).length = n
  | 0 => rfl
  | n + 1 => by rw [rv, List.length_append, rv_len n]; rfl
def R (W : World) (p M : Nat) (i : Value) (wr : World) : Prop := ∃ k : Nat, k ≤ M + 3 ∧ i = .int .i64 k ∧ Own TH W p (rv (min k M)) M wr
theorem m_in (a : Int) : 0 ≤ wrap64 ((IntKind.u64.wrap a).tmod 300) ∧ wrap64 ((IntKind.u64.wrap a).tmod 300) < 300 := by
  rw [IntKind.wrap_u64, Int.tmod_eq_emod_of_nonneg (by omega)]; unfold wrap64; omega
theorem walk (w : World) (a0 : Int) (w0 : (Lit.int .i64 a0).wf = true) :
    Calls Try.prog 6 #[.int .i64 a0] w fun e w' => e = .returned (.bool true) ∧ Below w.heap.size w w' := by
  have hM := Lib.hid (m_in a0)
  clear w0
  go_enter Try.func6, Try.ntmps6
  go_wp2_with fail
  generalize wrap64 ((IntKind.u64.wrap a0).tmod 300) = Z at *
  obtain ⟨M, rfl⟩ := Int.eq_ofNat_of_zero_le hM.out.1
  have hm : M < 300 := by have := hM.out.2; omega
  clear hM
  refine (new_any M w).mono ?_; rintro e w1 ⟨rfl, made⟩
  rw [show max 0 (min (M : Int) 1048576) = M by omega] at made
  have OW := Lib.hid (Own.made (br w) made)
  clear made
  obtain ⟨p, hp⟩ : ∃ p, p = w.heap.size := ⟨_, rfl⟩
  rw [← hp] at OW ⊢
  clear hp
  go_wp2_with fail
  go_loopw [17] (fun i wr => R w p M i wr) (fun i _ => M + 3 - (intOf i).toNat)
  case atStart => exact ⟨0, by omega, rfl, by rw [Nat.zero_min]; exact OW.out⟩
  case round =>
    obtain ⟨k, hk, rfl, F, hh, b, f⟩ := hrel
    have HB := Lib.hid b
    have HF := Lib.hid f
    have hl : (rv (min k M)).length = min k M := rv_len _
    by_cases hlt : k < M + 3
    · by_cases hm' : k < M
      · have e0 : min k M = k := by omega
        have e1 : pv (rv (min k M)) M = k := by unfold pv; rw [if_pos (by omega), hl, e0]
        have e2 : pe (rv (min k M)) M = 0 := by unfold pe; rw [if_pos (by omega)]
        have e3 : px (rv (min k M)) M ((rv (min k M)).length * 8) = rv (min (k + 1) M) := by
          unfold px; rw [if_pos (by omega), hl, e0, show min (k + 1) M = k + 1 by omega]; rfl
        have hv := var_any hh
        rw [e1, e2, e3] at hv
        clear e0 e1 e2 e3 hl hh b f
        go_wp2_with fail
        refine hv.mono ?_; rintro e w2 ⟨rfl, nx⟩
        have O2 := Lib.hid (Own.step HB.out HF.out nx)
        clear nx
        go_wp2_with fail
        go_roundw
        case rel => exact ⟨k + 1, by omega, by go_num, O2.out⟩
        case measure => simp [intOf]; omega
      · have e1 : pv (rv (min k M)) M = 0 := by unfold pv; rw [if_neg (by omega)]
        have e2 : pe (rv (min k M)) M = 4 := by unfold pe; rw [if_neg (by omega)]
        have e3 : px (rv (min k M)) M ((rv (min k M)).length * 8) = rv (min (k + 1) M) := by
          unfold px; rw [if_neg (by omega), show min (k + 1) M = min k M by omega]
        have hv := var_any hh
        rw [e1, e2, e3] at hv
        clear e1 e2 e3 hl hh b f
        go_wp2_with fail
        refine hv.mono ?_; rintro e w2 ⟨rfl, nx⟩
        have O2 := Lib.hid (Own.step HB.out HF.out nx)
        clear nx
        go_wp2_with fail
        go_roundw
        case rel => exact ⟨k + 1, by omega, by go_num, O2.out⟩
        case measure => simp [intOf]; omega
    · have ek : min k M = M := by omega
      rw [ek] at hh hl
      by_cases h0 : M = 0
      · subst h0
        have hc := cut_any hh 1
        rw [show cb (rv 0) 1 = false by decide, show cx (rv 0) 1 = rv 0 by decide] at hc
        clear hh b f hl ek
        go_wp2_with fail
        refine hc.mono ?_; rintro e w2 ⟨rfl, nx⟩
        have O2 := Lib.hid (Own.step HB.out HF.out nx)
        clear nx
        go_wp2_with fail
        refine (awake_any _).mono ?_; rintro e w3 ⟨rfl, b3⟩
        go_wp2_with fail
        go_ret
        obtain ⟨_, _, b2, _⟩ := O2.out
        exact ⟨rfl, b2.trans (b3.mono b2.size)⟩
      · have hp := push_any hh 0 ⟨by omega, by omega⟩
        rw [show pe (rv M) M = 4 by unfold pe; rw [if_neg (by omega)], show px (rv M) M 0 = rv M by unfold px; rw [if_neg (by omega)]] at hp
        have HL := Lib.hid hl
        have d0 : decide ((M : Int) = 0) = false := by simpa using h0
        have d1 : ((M : Int) == 0) = false := by simpa using h0
        have hM1 : 1 ≤ M := by omega
        clear hh b f hl ek
        go_wp2_with fail
        refine hp.mono ?_; rintro e w2 ⟨rfl, nx⟩
        obtain ⟨G, h2, b2, g2⟩ := Own.step HB.out HF.out nx
        have B2 := Lib.hid b2
        have G2 := Lib.hid g2
        have hc := cut_any h2 ((M : Int) - 1)
        rw [show cb (rv M) ((M : Int) - 1) = true from decide_eq_true ⟨by omega, by rw [HL.out]; omega⟩, show cx (rv M) ((M : Int) - 1) = (rv M).take (M - 1) by unfold cx; rw [if_pos ⟨by omega, by rw [HL.out]; omega⟩]; congr 1; omega] at hc
        clear nx h2 b2 g2
        go_wp2_with fail
        refine hc.mono ?_; rintro e w3 ⟨rfl, nx⟩
        obtain ⟨G3, h3, b3, g3⟩ := Own.step B2.out G2.out nx
        have B3 := Lib.hid b3
        have hq := len_any h3
        rw [show (((rv M).take (M - 1)).length : Int) = (M : Int) - 1 by rw [List.length_take, HL.out]; omega] at hq
        clear nx h3 b3 g3
        go_wp2_with fail
        refine hq.mono ?_; rintro e w' ⟨rfl, rfl⟩
        go_wp2_with fail
        refine (awake_any _).mono ?_; rintro e w4 ⟨rfl, b4⟩
        go_wp2_with fail
        go_ret
        exact ⟨rfl, B3.out.trans (b4.mono B3.out.size)⟩
set_option maxRecDepth 100000 in
theorem lifted (os : Os) (started : os.Started) (H : Type) (enc : TypeId × Value → H) :
    ReturnsInHanded {} Try.checked os 6 .any (Rows.heapRoomSpec.pre6 enc Try.prog Try.f6 Rows.heapRoomRow.domain false) (Rows.heapRoomSpec.post enc Try.prog Try.f6 false true false false) := by
  refine returnsInHanded_of_change_sized (C := Try.checked) own started (by kernel_rfl) Try.func6
    (ChangeSpec.witness6 (enc := enc) (C := Try.checked) false ⟨#[], #[.int .i64 0], []⟩ 8 (by kernel_rfl) (by kernel_rfl) (by kernel_rfl) (by kernel_rfl)) ?_
  intro W base args ds gs before hval0 hW _ hsz0 _
  have hsz : (DataW.weightsEach Try.prog (Try.f6.params.toList ++ Rows.heapRoomSpec.plain.varTypes Try.prog) (ds ++ gs)).all (· ≤ reachBytes) = true := hsz0
  clear hsz0
  have hval : ∀ (j : Nat) t v, Try.f6.params[j]? = some t → args[j]? = some v → Value.okWide Try.prog W .any base t v := hval0
  have hW' := hW
  obtain ⟨p, q, hA0, hV, rfl, hfz, hnd⟩ := hW
  have hA : DataW.TrodAll enc Try.prog W 0 (fun _ => true) true Try.f6.params.toList args.toList ds p := hA0
  rw [Try.params6] at hA hval hsz
  obtain ⟨v0, vs0, d0, ds0, p0, q0, hargs, rfl, rfl, h0, r0⟩ := trodAll_cons hA
  obtain ⟨rfl, rfl, rfl⟩ := trodAll_nil r0
  obtain rfl : args = #[v0] := by cases args; simp_all
  obtain ⟨rfl, rfl⟩ := trodVars_none hV
  simp only [List.append_nil] at hW'
  have lt0 : ∀ x ∈ p0, x.block < W.heap.size := fun x hx => by
    have := hW'.lt x (by simp [hx])
    simpa using this
  have k0 := h0
  obtain ⟨a0, rfl, rfl, rfl, w0⟩ := open_int Try.underlying3 (hval 0 3 v0 rfl rfl) h0
  clear hA0 hval0
  refine (walk W a0 w0).mono fun e W' ⟨he, hg⟩ => ?_
  subst he
  have ha := (trodAll_cons_mk (Below.trod laidOut (by kernel_rfl) (of_decide_eq_true (by kernel_rfl)) k0 hg lt0) trodAll_mk0)
  refine ⟨_, rfl, _, _, _, [], _, [], hW', ?_, ha, rfl, hg.frame _, fun h => by cases h⟩
  exact (trodAll_cons_mk (shut_bool Try.underlying4 _) trodAll_mk0)
/-- THE STATEMENT. -/
theorem proved : Rows.HeapRoomSaid :=
  OpenClaim.holds_of_wide 6 Try.f6 rfl rfl rfl rfl rfl rfl rfl ⟨rfl, rfl, rfl, rfl, rfl⟩ rfl rfl rfl rfl rfl (by kernel_rfl) Try.func6 (by kernel_rfl)
    (of_decide_eq_true (by kernel_rfl)) (by unfold Func.isWrapper; first | (rw [if_pos (by decide +kernel)]; kernel_rfl) | (rw [if_neg (by decide +kernel)]; exact ⟨rfl, rfl⟩))
    (fun os started H enc _ => lifted os started H enc)
#print axioms proved
end Go.Proofs.Ythcfbolakjgfgaa.heapRoom
