/- The law OpsMany holds: for every input its Go function returns true and leaves its arguments as they were. No condition beyond the row's own. -/
import Derived.Test.YtnpdipmkikakcaaRows
import Derived.WalkKit
import Derived.ProofKit
import Derived.OpenShut
import Derived.SizedLaws
import Derived.Test.YtnpdipmkikakcaaOpP
import Derived.Laws.IdiomStrings
namespace Go.Proofs.Ytnpdipmkikakcaa.opsMany
open Go.ChangeShapes Go.WideShapes Go.ChangeAt Go.RowKit
open Go.ChangeMaps (open_string)
set_option linter.unusedVariables false
theorem own : ownKnob Try.prog.godebug = none := by kernel_rfl
theorem laidOut : laidOutB Try.prog = true := by kernel_rfl
open Go.Proofs.Ytnpdipmkikakcaa.kp Go.Proofs.Ytnpdipmkikakcaa.opa Go.Proofs.Ytnpdipmkikakcaa.opb Go.Proofs.Ytnpdipmkikakcaa.opc Go.Proofs.Ytnpdipmkikakcaa.opd Go.Proofs.Ytnpdipmkikakcaa.ope Go.Proofs.Ytnpdipmkikakcaa.opf Go.Proofs.Ytnpdipmkikakcaa.opg Go.Proofs.Ytnpdipmkikakcaa.oph Go.Proofs.Ytnpdipmkikakcaa.opi Go.Proofs.Ytnpdipmkikakcaa.opj Go.Proofs.Ytnpdipmkikakcaa.opk Go.Proofs.Ytnpdipmkikakcaa.opl Go.Proofs.Ytnpdipmkikakcaa.opm Go.Proofs.Ytnpdipmkikakcaa.opn Go.Proofs.Ytnpdipmkikakcaa.opp
theorem tm20 (a : Int) : ∃ r : Nat, r < 20 ∧ (IntKind.u64.wrap a).tmod 20 = (r : Int) := by
  have h : 0 ≤ IntKind.u64.wrap a := by rw [IntKind.wrap_u64]; omega
  rw [Int.tmod_eq_emod_of_nonneg h]
  exact ⟨(IntKind.u64.wrap a % 20).toNat, by omega, by omega⟩
theorem conv_nm (w : World) (k : Nat) (hk : k < 80) : (convert 41 9 (.slice (some ⟨w.heap.size, 0, none⟩) 3 3)).run Try.prog (w.alloc (.cells #[.int .u8 97, .int .u8 (97 + (k : Int) / 26), .int .u8 (97 + (k : Int) % 26)] 5)) = .ok (.string ⟨(nm k).n.toArray⟩) (w.alloc (.cells #[.int .u8 97, .int .u8 (97 + (k : Int) / 26), .int .u8 (97 + (k : Int) % 26)] 5)) := by
  refine run_convert_bytes_back (P := Try.prog) _ 41 9 5 ⟨w.heap.size, 0, none⟩ 3 (nm k).n Try.underlying41 Try.underlying5 Try.underlying9 fun j hj => ?_
  have hj3 : j < 3 := hj
  have h := kp.alloc_at w (.cells #[.int .u8 97, .int .u8 (97 + (k : Int) / 26), .int .u8 (97 + (k : Int) % 26)] 5)
  rw [add0]
  simp only [World.cell?, h]
  have e1 : ((UInt8.ofNat (97 + k / 26)).toNat : Int) = 97 + (k : Int) / 26 := by rw [UInt8.toNat_ofNat']; omega
  have e2 : ((UInt8.ofNat (97 + k % 26)).toNat : Int) = 97 + (k : Int) % 26 := by rw [UInt8.toNat_ofNat']; omega
  match j, hj3 with
  | 0, _ => rfl
  | 1, _ => show some (Value.int .u8 (97 + (k : Int) / 26)) = some (Value.int .u8 ((UInt8.ofNat (97 + k / 26)).toNat : Int)); rw [e1]
  | 2, _ => show some (Value.int .u8 (97 + (k : Int) % 26)) = some (Value.int .u8 ((UInt8.ofNat (97 + k % 26)).toNat : Int)); rw [e2]
def PM (w : World) (p r : Nat) (g : Nat) (s : Value) (wr : World) : Prop :=
  ∃ k : Nat, k ≤ 60 + r ∧ g = 60 + r - k ∧ s = .int .i64 k ∧ Own w p (M (min k 70)) wr
set_option maxRecDepth 100000 in
set_option maxHeartbeats 8000000 in
theorem walk (w : World) (a0 : Int) (w0 : (Lit.int .i64 a0).wf = true) :
    Calls Try.prog 4 #[.int .i64 a0] w fun e w' => e = .returned (.bool true) ∧ Below w.heap.size w w' := by
  have HL : Hid (newL.length = 30) := Lib.hid newL_len
  go_enter Try.func4, Try.ntmps4
  go_wp2_with fail
  refine (new_any _).mono ?_
  rintro e w1 ⟨p, rfl, hp, F, ht, hb, hF⟩
  have H1 := Lib.hid (And.intro ht (And.intro hb hF))
  clear ht hb hF hp
  go_wp2_with fail
  refine (all_any _ H1.out.1 (by have := HL.out; omega)).mono ?_
  rintro e w2 ⟨a2, c2, rfl, hr2, hb2, _⟩
  have H2 : Hid (Own w p newL w2) := Lib.hid ⟨F, H1.out.1.below hb2, H1.out.2.1.trans (hb2.mono H1.out.2.1.size), H1.out.2.2⟩
  rw [HL.out]
  clear hr2 hb2
  obtain ⟨r, hr20, hrt⟩ := tm20 a0
  have hw1 : wrap64 (r : Int) = (r : Int) := by unfold wrap64; omega
  have hw2 : wrap64 (60 + (r : Int)) = 60 + (r : Int) := by unfold wrap64; omega
  go_wp2_with fail
  clear hrt hw1 hw2
  go_loopg [25] (60 + r) (PM w p r)
  case atStart => exact ⟨0, by omega, by omega, rfl, H2.out⟩
  case round =>
    obtain ⟨k, hk, rfl, rfl, F', ht, hb, hF⟩ := hrel
    have HH := Lib.hid (And.intro ht (And.intro hb hF))
    clear ht hb hF
    by_cases hlt : k < 60 + r
    · have hk80 : k < 80 := by omega
      have hcv := conv_nm wr k hk80
      obtain ⟨hE, hS⟩ := M_step hk80
      have HE := Lib.hid (And.intro hE hS)
      clear hE hS
      go_wp2_with fail
      have hbx := ba wr (.cells #[.int .u8 97, .int .u8 (97 + (k : Int) / 26), .int .u8 (97 + (k : Int) % 26)] 5)
      refine (set_any (nm k) _ (HH.out.1.below hbx) (M_inv _ (by omega)).1).mono ?_
      rintro e w5 ⟨rfl, hN⟩
      have H5 := Lib.hid (Own.step (HH.out.2.1.trans (hbx.mono HH.out.2.1.size)) HH.out.2.2 hN)
      rw [HE.out.1]
      clear hbx hN hcv
      by_cases h70 : k < 70
      · rw [if_pos h70]
        have hd : decide ((30 : Int) + k < 100) = true := decide_eq_true (by omega)
        go_wp2_with fail
        go_roundg (60 + r - (k + 1))
        case measure => omega
        case rel => exact ⟨k + 1, by omega, rfl, by go_num, by rw [← HE.out.2]; exact H5.out⟩
      · rw [if_neg h70]
        have hd : decide ((30 : Int) + k < 100) = false := decide_eq_false (by omega)
        go_wp2_with fail
        go_roundg (60 + r - (k + 1))
        case measure => omega
        case rel => exact ⟨k + 1, by omega, rfl, by go_num, by rw [← HE.out.2]; exact H5.out⟩
    · have hkr : k = 60 + r := by omega
      subst hkr
      have HM := Lib.hid (M_last (k := min (60 + r) 70) (by omega))
      have HI := Lib.hid (M_inv (min (60 + r) 70) (by omega)).1
      generalize hq : min (60 + r) 70 = q at HM HI HH
      have HQ := Lib.hid hq
      clear hlt hq
      go_wp2_with fail
      refine (set_any oIs9 _ HH.out.1 HI.out).mono ?_
      rintro e w5 ⟨rfl, hN⟩
      have H5 := Lib.hid (Own.step HH.out.2.1 HH.out.2.2 hN)
      rw [HM.out.1]
      rw [HM.out.2.1] at H5
      clear hN
      go_wp2_with fail
      obtain ⟨F5, ht5, hb5, hF5⟩ := H5.out
      refine (infix_any [105, 115] _ ht5 HM.out.2.2.1.srt (by have := HM.out.2.2.1.len; omega)).mono ?_
      rintro e w6 ⟨rfl, hb6⟩
      rw [HM.out.2.2.2.1, HM.out.2.2.2.2.1]
      simp only [oIs9, D.v]
      have H6 := Lib.hid (And.intro (ht5.below hb6) (And.intro (hb5.trans (hb6.mono hb5.size)) hF5))
      clear ht5 hb5 hF5 hb6
      go_wp2_with fail
      have hx6 := alloc_at w6 (.cells oIs9.cs.toArray 32)
      have hbx := ba w6 (.cells oIs9.cs.toArray 32)
      refine (set_any oMod0 _ (H6.out.1.below hbx) HM.out.2.2.1).mono ?_
      rintro e w7 ⟨rfl, hN⟩
      have hk7 := Keep.to_below hN.choose_spec.2.1 H6.out.2.2 (Nat.le_trans H6.out.2.1.size hbx.size)
      have hx7 : w7.heap[w6.heap.size]? = some (.cells oIs9.cs.toArray 32 (0, 0)) := (hN.choose_spec.2.1.block _ (by simp) (fun hf => by have := H6.out.1.lt _ hf; omega)).trans hx6
      have H7 := Lib.hid (Own.step (H6.out.2.1.trans (hbx.mono H6.out.2.1.size)) H6.out.2.2 hN)
      rw [HM.out.2.2.2.2.2.1]
      have HX7 := Lib.hid hx7
      clear hbx hN hx6 hk7 hx7
      go_wp2_with fail
      obtain ⟨F7, ht7, hb7, hF7⟩ := H7.out
      refine (infix_any [109, 111, 100] _ ht7 HM.out.2.2.2.2.2.2.1.srt (by have := HM.out.2.2.2.2.2.2.1.len; omega)).mono ?_
      rintro e w8 ⟨rfl, hb8⟩
      rw [HM.out.2.2.2.2.2.2.2.1]
      generalize gd (setL (ins (M q) oIs9) oMod0) ⟨[109, 111, 100], 1, 0⟩ = v
      simp only [D.v]
      have H8 := Lib.hid (And.intro (ht7.below hb8) (hb7.trans (hb8.mono hb7.size)))
      have hx8 := (hb8.block _ (Array.getElem?_eq_some_iff.1 HX7.out).1).trans HX7.out
      obtain ⟨z0, z1, z2, _⟩ := box_cells hx8
      have hzl := (Array.getElem?_eq_some_iff.1 hx8).1
      simp only [oIs9] at z0 z1 z2
      clear ht7 hb7 hF7 hb8 hx8
      obtain ⟨L, hL⟩ : ∃ L, L = setL (ins (M q) oIs9) oMod0 := ⟨_, rfl⟩
      have HL8 := Lib.hid (And.intro hL HM.out.2.2.2.2.2.2.2.2)
      rw [← hL] at H8 HL8
      clear hL
      go_wp2_with fail
      have HB9 := Lib.hid (ba w8 (.cells v.cs.toArray 32))
      refine (all_any _ (H8.out.1.below HB9.out) (by have := HL8.out.2; have := HQ.out; omega)).mono ?_
      rintro e w9 ⟨a9, c9, rfl, hr9, hb9, _⟩
      have H9 := Lib.hid ((H8.out.2.trans (HB9.out.mono H8.out.2.size)).trans (hb9.mono (Nat.le_trans H8.out.2.size HB9.out.size)))
      clear hr9 hb9
      have hmin : min (30 + (60 + (r : Int))) 100 = (30 + q : Nat) := by have := HQ.out; omega
      have hLq : (L.length : Int) = 30 + (q : Int) - 1 := by have := HL8.out.2; omega
      go_wp2_with fail
      refine (awake_any _).mono ?_
      rintro e w10 ⟨rfl, hb10⟩
      have H10 := Lib.hid (H9.out.trans (hb10.mono H9.out.size))
      clear hb10
      go_wp2_with fail
      go_ret
      exact ⟨rfl, H10.out⟩
set_option maxRecDepth 100000 in
theorem lifted (os : Os) (started : os.Started) (H : Type) (enc : TypeId × Value → H) :
    ReturnsInHanded {} Try.checked os 4 .any (Rows.opsManySpec.pre6 enc Try.prog Try.f4 Rows.opsManyRow.domain false) (Rows.opsManySpec.post enc Try.prog Try.f4 false true false false) := by
  refine returnsInHanded_of_change_sized (C := Try.checked) own started (by kernel_rfl) Try.func4
    (ChangeSpec.witness6 (enc := enc) (C := Try.checked) false ⟨#[], #[.int .i64 0], []⟩ 8 (by kernel_rfl) (by kernel_rfl) (by kernel_rfl) (by kernel_rfl)) ?_
  intro W base args ds gs before hval0 hW _ hsz0 _
  have hsz : (DataW.weightsEach Try.prog (Try.f4.params.toList ++ Rows.opsManySpec.plain.varTypes Try.prog) (ds ++ gs)).all (· ≤ reachBytes) = true := hsz0
  clear hsz0
  have hval : ∀ (j : Nat) t v, Try.f4.params[j]? = some t → args[j]? = some v → Value.okWide Try.prog W .any base t v := hval0
  have hW' := hW
  obtain ⟨p, q, hA0, hV, rfl, hfz, hnd⟩ := hW
  have hA : DataW.TrodAll enc Try.prog W 0 (fun _ => true) true Try.f4.params.toList args.toList ds p := hA0
  rw [Try.params4] at hA hval hsz
  obtain ⟨v0, vs0, d0, ds0, p0, q0, hargs, rfl, rfl, h0, r0⟩ := trodAll_cons hA
  obtain ⟨rfl, rfl, rfl⟩ := trodAll_nil r0
  obtain rfl : args = #[v0] := by cases args; simp_all
  obtain ⟨rfl, rfl⟩ := trodVars_none hV
  simp only [List.append_nil] at hW'
  have lt0 : ∀ x ∈ p0, x.block < W.heap.size := fun x hx => by
    have := hW'.lt x (by simp [hx])
    simpa using this
  have k0 := h0
  obtain ⟨a0, rfl, rfl, rfl, w0⟩ := open_int Try.underlying3 (hval 0 3 v0 rfl rfl) h0
  clear hA0 hval0
  refine (walk W a0 w0).mono fun e W' ⟨he, hg⟩ => ?_
  subst he
  have ha := (trodAll_cons_mk (Below.trod laidOut (by kernel_rfl) (of_decide_eq_true (by kernel_rfl)) k0 hg lt0) trodAll_mk0)
  refine ⟨_, rfl, _, _, _, [], _, [], hW', ?_, ha, rfl, hg.frame _, fun h => by cases h⟩
  exact (trodAll_cons_mk (shut_bool Try.underlying4 _) trodAll_mk0)
/-- THE STATEMENT. -/
theorem proved : Rows.OpsManySaid :=
  OpenClaim.holds_of_wide 4 Try.f4 rfl rfl rfl rfl rfl rfl rfl ⟨rfl, rfl, rfl, rfl, rfl⟩ rfl rfl rfl rfl rfl (by kernel_rfl) Try.func4 (by kernel_rfl)
    (of_decide_eq_true (by kernel_rfl)) (by unfold Func.isWrapper; first | (rw [if_pos (by decide +kernel)]; kernel_rfl) | (rw [if_neg (by decide +kernel)]; exact ⟨rfl, rfl⟩))
    (fun os started H enc _ => lifted os started H enc)
#print axioms proved
end Go.Proofs.Ytnpdipmkikakcaa.opsMany
