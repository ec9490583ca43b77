/- The law OpsPlay holds: for every input its Go function returns true and leaves its arguments as they were. No condition beyond the row's own. -/
import Derived.Test.YtnpdipmkikakcaaRows
import Derived.WalkKit
import Derived.ProofKit
import Derived.OpenShut
import Derived.SizedLaws
import Derived.Test.YtnpdipmkikakcaaOpX
namespace Go.Proofs.Ytnpdipmkikakcaa.opsPlay
open Go.ChangeShapes Go.WideShapes Go.ChangeAt Go.RowKit
open Go.ChangeMaps (open_string)
set_option linter.unusedVariables false
theorem own : ownKnob Try.prog.godebug = none := by kernel_rfl
theorem laidOut : laidOutB Try.prog = true := by kernel_rfl
open Go.Proofs.Ytnpdipmkikakcaa.kp Go.Proofs.Ytnpdipmkikakcaa.opa Go.Proofs.Ytnpdipmkikakcaa.opb Go.Proofs.Ytnpdipmkikakcaa.opb2 Go.Proofs.Ytnpdipmkikakcaa.opc Go.Proofs.Ytnpdipmkikakcaa.opd Go.Proofs.Ytnpdipmkikakcaa.ope Go.Proofs.Ytnpdipmkikakcaa.opf Go.Proofs.Ytnpdipmkikakcaa.opg Go.Proofs.Ytnpdipmkikakcaa.oph Go.Proofs.Ytnpdipmkikakcaa.opi Go.Proofs.Ytnpdipmkikakcaa.opj Go.Proofs.Ytnpdipmkikakcaa.opk Go.Proofs.Ytnpdipmkikakcaa.opl Go.Proofs.Ytnpdipmkikakcaa.opm Go.Proofs.Ytnpdipmkikakcaa.opn Go.Proofs.Ytnpdipmkikakcaa.opv Go.Proofs.Ytnpdipmkikakcaa.opw Go.Proofs.Ytnpdipmkikakcaa.opx
def PL2 (w : World) (p q n : Nat) (g : Nat) (s : Value) (wr : World) : Prop :=
  ∃ (k : Nat) (l : List D), k ≤ n ∧ k ≤ 60 ∧ g = n - k ∧ s = .int .i64 k ∧ Inv l ∧ W2 w p q l l wr
set_option maxRecDepth 100000 in
set_option maxHeartbeats 8000000 in
theorem walk (w : World) (a0 : Option Addr) (n0 c0 : Nat) (t0 : List opa.D) (x0 : opm.ORow w a0 n0 t0) (s1 : ByteArray) (z1 : s1.size ≤ 140737488351232) :
    Calls Try.prog 3 #[.slice a0 n0 c0, .string s1] w fun e w' => e = .returned (.bool true) ∧ Below w.heap.size w w' := by
  have H0 := Lib.hid x0
  have HN : Hid (n0 ≤ 4398046511101) := Lib.hid (by have := x0.reach; omega)
  have HLN : Hid (newL.length ≤ 1000) := Lib.hid (by rw [newL_len]; decide)
  have AW := Lib.hid awake_any
  obtain ⟨nm, rfl⟩ : ∃ nm : List UInt8, s1 = ⟨nm.toArray⟩ := ⟨s1.data.toList, by cases s1; simp⟩
  clear x0
  go_enter Try.func3, Try.ntmps3
  go_wp2_with fail
  refine (new_any _).mono ?_
  rintro e w1 ⟨p, rfl, hp, hm⟩
  have HM := Lib.hid hm
  clear hp hm
  go_wp2_with fail
  refine (rnew_any _).mono ?_
  rintro e w2 ⟨q, rfl, hm2⟩
  have H2 := Lib.hid (W2.new HM.out hm2)
  clear hm2
  obtain ⟨G, hG⟩ := H2.out.rtb
  obtain ⟨F, hF⟩ := H2.out.tb
  obtain ⟨b, cb', f0, g0, hrw⟩ := hG.open_
  have HR := Lib.hid hrw
  have HF := Lib.hid hF
  have OT := Lib.hid (show ∀ w', Below w2.heap.size w2 w' → w'.cell? ⟨q, 0, none⟩ = some (.slice b newL.length cb') from fun w' hb => ((Keep.of_below (F := fun _ => False) hb).cell (World.block_lt_of_cell? w2 _ f0) id).trans f0)
  have b0 : Below w2.heap.size w2 w2 := br w2
  clear hG hF hrw g0
  go_upto_region 2 with fail
  go_region_held3 (fun w' => w'.cell? ⟨q, 0, none⟩ = some (.slice b newL.length cb'))
    (first | exact OT.out _ (by assumption) | exact OT.out _ (bt (by assumption) (bdr _)) | go_keep)
    (first
      | (go_at_call 12; refine (all_any _ (HF.out.below (by first | assumption | exact bt (by assumption) (bdr _))) HLN.out).mono ?_; rintro e wA ⟨aA, cA, rfl, hrA, hbA, _⟩; have bA := bt (show Below w2.heap.size w2 _ by first | assumption | exact bt (by assumption) (bdr _)) hbA; clear hbA)
      | (go_at_call 11; refine (same_true _ (hrA.below (by first | exact br _ | exact bdr _)) (HR.out.below (by first | assumption | exact bt (by assumption) (bdr _))) HLN.out).mono ?_; rintro e wN ⟨rfl, hbN⟩; have bN := bt (show Below w2.heap.size w2 _ by first | assumption | exact bt (by assumption) (bdr _)) hbN; clear hbN))
  have H3 := Lib.hid (H2.out.below bN)
  clear bN bA b0 f0 hrA
  go_wp2_with fail
  go_loopg [33] n0 (PL2 w p q n0)
  case atStart => exact ⟨0, newL, by omega, by omega, by omega, rfl, newL_inv, H3.out⟩
  case round =>
    obtain ⟨k, l, hk, hk60, rfl, rfl, hI, hW⟩ := hrel
    by_cases hlt : k < n0
    · obtain ⟨ob, oo, hbl, e0, e1, e2, hix⟩ := (row_below H0.out hW.bel).look hlt
      have hix' := hix c0
      obtain ⟨x, hx⟩ : ∃ x, x = t0.getD k opm.d0 := ⟨_, rfl⟩
      rw [← hx] at e0 e1 e2
      obtain ⟨xn, xk, xp⟩ := x
      simp only [] at e0 e1 e2
      have HH := Lib.hid (And.intro hI hW)
      clear hix hI hW hx
      by_cases h60 : k < 60
      · have hd : decide (60 ≤ (k : Int)) = false := decide_eq_false (by omega)
        have hbx := ba wr (.cells (D.cs ⟨xn, xk, xp⟩).toArray 32)
        have hbA := alloc_at wr (.cells (D.cs ⟨xn, xk, xp⟩).toArray 32)
        obtain ⟨y0, y1, y2, _⟩ := box_cells hbA
        have H4 := Lib.hid (HH.out.2.below hbx)
        simp only [D.cs] at y0 y1 y2
        clear hbx hbA
        go_upto_region 8 with fail
        have hw3 := W3.mk' (⟨xn, xk, xp⟩ : D) HH.out.2
        simp only [D.cs] at hw3
        clear e0 e1 e2 hix' y0 y1 y2 hd
        go_region_held3 (fun w' => w'.cell? ⟨wr.heap.size, 0, none⟩ = some (.string ⟨xn.toArray⟩) ∧ w'.cell? ⟨wr.heap.size, 1, none⟩ = some (.int .i64 xk) ∧ w'.cell? ⟨wr.heap.size, 2, none⟩ = some (.int .i64 xp))
          (first | exact W3.cells (bx := wr.heap.size) (x := ⟨xn, xk, xp⟩) (by assumption) | exact W3.cells (bx := wr.heap.size) (x := ⟨xn, xk, xp⟩) (W3.below (by assumption) (bdr _)) | go_keep)
          (first
            | (go_at_call 13; refine (W3.set (bx := wr.heap.size) (x := ⟨xn, xk, xp⟩) ⟨xn, xk, xp⟩ (by first | assumption | exact W3.below (by assumption) (bdr _)) HH.out.1).mono ?_; rintro e wA ⟨rfl, hA⟩)
            | (go_at_call 14; refine (W3.rset (bx := wr.heap.size) (x := ⟨xn, xk, xp⟩) ⟨xn, xk, xp⟩ (by first | assumption | exact W3.below (by assumption) (bdr _)) HH.out.1).mono ?_; rintro e wN ⟨rfl, hN⟩))
        have H5 := Lib.hid (show W2 w p q (setL l ⟨xn, xk, xp⟩) (setL l ⟨xn, xk, xp⟩) wN from hN.two)
        clear hN hA hw3
        go_wp2_with fail
        go_roundg (n0 - (k + 1))
        case measure => omega
        case rel => exact ⟨k + 1, _, hlt, by omega, rfl, by first | rw [show wrap64 ((k : Int) + 1) = ((k + 1 : Nat) : Int) by unfold wrap64; omega] | go_num, HH.out.1.setL _, H5.out⟩
      · have hd : decide (60 ≤ (k : Int)) = true := decide_eq_true (by omega)
        have hw3 := W3.mk' (⟨xn, xk, xp⟩ : D) HH.out.2
        go_upto_region 11 with fail
        obtain ⟨wq, hwq⟩ : ∃ wq, wq = wr.alloc (Obj.cells #[.string ⟨xn.toArray⟩, .int .i64 xk, .int .i64 xp] 32) := ⟨_, rfl⟩
        have HQ : Hid (Inv l ∧ W2 w p q l l wq) := Lib.hid ⟨HH.out.1, by rw [hwq]; exact hw3.two⟩
        rw [← hwq]
        clear hwq hw3 e0 e1 e2 hix' hd
        have HL : Hid (l.length ≤ 100) := Lib.hid HQ.out.1.len
        obtain ⟨An, Ak, Ap, hA⟩ : ∃ an ak ap, gd l ⟨nm, 4, 0⟩ = ⟨an, ak, ap⟩ := ⟨_, _, _, rfl⟩
        obtain ⟨iA, hiA⟩ : ∃ i, is l ⟨nm, 4, 0⟩ = i := ⟨_, rfl⟩
        obtain ⟨Bn, Bk, Bp, hB⟩ : ∃ an ak ap, gd l ⟨nm, 1, 0⟩ = ⟨an, ak, ap⟩ := ⟨_, _, _, rfl⟩
        obtain ⟨iB, hiB⟩ : ∃ i, is l ⟨nm, 1, 0⟩ = i := ⟨_, rfl⟩
        have C1 := Lib.hid (show ∀ W F, Tb W p F l → Calls Try.prog 15 #[.pointer (some ⟨p, 0, none⟩), .string ⟨nm.toArray⟩] W (fun e w' => e = .returned (.tuple #[.agg #[.string ⟨An.toArray⟩, .int .i64 Ak, .int .i64 Ap], .bool iA]) ∧ Below W.heap.size W w') from fun W F h => by
          have := prefix_any nm W h HQ.out.1.srt (by have := HL.out; omega)
          rw [hA, hiA] at this; exact this)
        have C2 := Lib.hid (show ∀ W F, RTb W q F l → Calls Try.prog 16 #[.pointer (some ⟨q, 0, none⟩), .string ⟨nm.toArray⟩, .bool true] W (fun e w' => e = .returned (.tuple #[.agg #[.string ⟨An.toArray⟩, .int .i64 Ak, .int .i64 Ap], .bool iA]) ∧ Below W.heap.size W w') from fun W F h => by
          have := rfind_any nm 4 true (by decide) W h HQ.out.1.srt (by have := HL.out; omega)
          rw [hA, hiA] at this; exact this)
        have C3 := Lib.hid (show ∀ W F, Tb W p F l → Calls Try.prog 17 #[.pointer (some ⟨p, 0, none⟩), .string ⟨nm.toArray⟩] W (fun e w' => e = .returned (.tuple #[.agg #[.string ⟨Bn.toArray⟩, .int .i64 Bk, .int .i64 Bp], .bool iB]) ∧ Below W.heap.size W w') from fun W F h => by
          have := infix_any nm W h HQ.out.1.srt (by have := HL.out; omega)
          rw [hB, hiB] at this; exact this)
        have C4 := Lib.hid (show ∀ W F, RTb W q F l → Calls Try.prog 16 #[.pointer (some ⟨q, 0, none⟩), .string ⟨nm.toArray⟩, .bool false] W (fun e w' => e = .returned (.tuple #[.agg #[.string ⟨Bn.toArray⟩, .int .i64 Bk, .int .i64 Bp], .bool iB]) ∧ Below W.heap.size W w') from fun W F h => by
          have := rfind_any nm 1 false (by decide) W h HQ.out.1.srt (by have := HL.out; omega)
          rw [hB, hiB] at this; exact this)
        clear hA hiA hB hiB
        go_wp2_with fail
        obtain ⟨F0, hF0⟩ := (HQ.out.2).tb
        refine (C1.out _ _ hF0).mono ?_
        rintro e wa ⟨rfl, hb0⟩
        have HW0 := Lib.hid (W2.below (HQ.out.2) hb0)
        have hba0 := ba wa (.cells #[.string ⟨An.toArray⟩, .int .i64 Ak, .int .i64 Ap] 32)
        have hwac := alloc_at wa (.cells #[.string ⟨An.toArray⟩, .int .i64 Ak, .int .i64 Ap] 32)
        have HX0 := Lib.hid (W2.below HW0.out hba0)
        clear hb0 hba0 hF0
        go_wp2_with fail
        obtain ⟨F1, hF1⟩ := (HX0.out).rtb
        refine (C2.out _ _ hF1).mono ?_
        rintro e wb ⟨rfl, hb1⟩
        have HW1 := Lib.hid (W2.below (HX0.out) hb1)
        have hwa1 := nb hwac hb1
        clear hwac
        have hba1 := ba wb (.cells #[.string ⟨An.toArray⟩, .int .i64 Ak, .int .i64 Ap] 32)
        have hwac := nb hwa1 hba1
        clear hwa1
        have hwbc := alloc_at wb (.cells #[.string ⟨An.toArray⟩, .int .i64 Ak, .int .i64 Ap] 32)
        have HX1 := Lib.hid (W2.below HW1.out hba1)
        clear hb1 hba1 hF1
        go_wp2_with fail
        obtain ⟨F2, hF2⟩ := (HX1.out).tb
        refine (C3.out _ _ hF2).mono ?_
        rintro e wc ⟨rfl, hb2⟩
        have HW2 := Lib.hid (W2.below (HX1.out) hb2)
        have hwa2 := nb hwac hb2
        clear hwac
        have hwb2 := nb hwbc hb2
        clear hwbc
        have hba2 := ba wc (.cells #[.string ⟨Bn.toArray⟩, .int .i64 Bk, .int .i64 Bp] 32)
        have hwac := nb hwa2 hba2
        clear hwa2
        have hwbc := nb hwb2 hba2
        clear hwb2
        have hwcc := alloc_at wc (.cells #[.string ⟨Bn.toArray⟩, .int .i64 Bk, .int .i64 Bp] 32)
        have HX2 := Lib.hid (W2.below HW2.out hba2)
        clear hb2 hba2 hF2
        go_wp2_with fail
        obtain ⟨F3, hF3⟩ := (HX2.out).rtb
        refine (C4.out _ _ hF3).mono ?_
        rintro e wd ⟨rfl, hb3⟩
        have HW3 := Lib.hid (W2.below (HX2.out) hb3)
        have hwa3 := nb hwac hb3
        clear hwac
        have hwb3 := nb hwbc hb3
        clear hwbc
        have hwc3 := nb hwcc hb3
        clear hwcc
        have hba3 := ba wd (.cells #[.string ⟨Bn.toArray⟩, .int .i64 Bk, .int .i64 Bp] 32)
        have hwac := nb hwa3 hba3
        clear hwa3
        have hwbc := nb hwb3 hba3
        clear hwb3
        have hwcc := nb hwc3 hba3
        clear hwc3
        have hwdc := alloc_at wd (.cells #[.string ⟨Bn.toArray⟩, .int .i64 Bk, .int .i64 Bp] 32)
        have HX3 := Lib.hid (W2.below HW3.out hba3)
        clear hb3 hba3 hF3
        go_upto_region 15 with fail
        have HB3 := Lib.hid (And.intro hwac (And.intro hwbc (And.intro hwcc hwdc)))
        clear hwac hwbc hwcc hwdc
        obtain ⟨wz, hwz⟩ : ∃ wz, wz = wd.alloc (.cells #[.string ⟨Bn.toArray⟩, .int .i64 Bk, .int .i64 Bp] 32) := ⟨_, rfl⟩
        rw [← hwz] at HB3 HX3 ⊢
        clear hwz
        obtain ⟨Fz, hFz⟩ := HX3.out.tb
        obtain ⟨Gz, hGz⟩ := HX3.out.rtb
        obtain ⟨b5, c5, f5, _, hr5⟩ := hGz.open_
        have HT := Lib.hid (And.intro hFz hr5)
        obtain ⟨k0, k1, k2, _⟩ := box_cells (o := ⟨An, Ak, Ap⟩) HB3.out.1
        obtain ⟨k3, k4, k5, _⟩ := box_cells (o := ⟨An, Ak, Ap⟩) HB3.out.2.1
        obtain ⟨k6, k7, k8, _⟩ := box_cells (o := ⟨Bn, Bk, Bp⟩) HB3.out.2.2.1
        obtain ⟨k9, k10, k11, _⟩ := box_cells (o := ⟨Bn, Bk, Bp⟩) HB3.out.2.2.2
        have hcl : Cl wz [(q, 0, .slice b5 l.length c5), (wa.heap.size, 0, .string ⟨An.toArray⟩), (wa.heap.size, 1, .int .i64 Ak), (wa.heap.size, 2, .int .i64 Ap), (wb.heap.size, 0, .string ⟨An.toArray⟩), (wb.heap.size, 1, .int .i64 Ak), (wb.heap.size, 2, .int .i64 Ap), (wc.heap.size, 0, .string ⟨Bn.toArray⟩), (wc.heap.size, 1, .int .i64 Bk), (wc.heap.size, 2, .int .i64 Bp), (wd.heap.size, 0, .string ⟨Bn.toArray⟩), (wd.heap.size, 1, .int .i64 Bk), (wd.heap.size, 2, .int .i64 Bp)] wz := ⟨by simp [f5, k0, k1, k2, k3, k4, k5, k6, k7, k8, k9, k10, k11], br _⟩
        have ed1 := eqD An Ak Ap
        have ed2 := eqD Bn Bk Bp
        clear f5 hr5 hFz hGz k0 k1 k2 k3 k4 k5 k6 k7 k8 k9 k10 k11
        go_region_held3 (fun w' => w'.cell? ⟨q, 0, none⟩ = some (.slice b5 l.length c5) ∧ w'.cell? ⟨wa.heap.size, 0, none⟩ = some (.string ⟨An.toArray⟩) ∧ w'.cell? ⟨wa.heap.size, 1, none⟩ = some (.int .i64 Ak) ∧ w'.cell? ⟨wa.heap.size, 2, none⟩ = some (.int .i64 Ap) ∧ w'.cell? ⟨wb.heap.size, 0, none⟩ = some (.string ⟨An.toArray⟩) ∧ w'.cell? ⟨wb.heap.size, 1, none⟩ = some (.int .i64 Ak) ∧ w'.cell? ⟨wb.heap.size, 2, none⟩ = some (.int .i64 Ap) ∧ w'.cell? ⟨wc.heap.size, 0, none⟩ = some (.string ⟨Bn.toArray⟩) ∧ w'.cell? ⟨wc.heap.size, 1, none⟩ = some (.int .i64 Bk) ∧ w'.cell? ⟨wc.heap.size, 2, none⟩ = some (.int .i64 Bp) ∧ w'.cell? ⟨wd.heap.size, 0, none⟩ = some (.string ⟨Bn.toArray⟩) ∧ w'.cell? ⟨wd.heap.size, 1, none⟩ = some (.int .i64 Bk) ∧ w'.cell? ⟨wd.heap.size, 2, none⟩ = some (.int .i64 Bp))
          (first | exact c13 (by assumption) | exact c13 (Cl.drew (by assumption)) | go_keep)
          (first
            | (go_at_call 12; refine (all_any _ (HT.out.1.below (Cl.bel (by first | assumption | exact Cl.drew (by assumption)))) (by have := HL.out; omega)).mono ?_; rintro e wA ⟨aA, cA, rfl, hrA, hbA, _⟩; have hCA := Cl.below (by first | assumption | exact Cl.drew (by assumption)) hbA; clear hbA)
            | (go_at_call 11; refine (same_true _ (hrA.below (by first | exact br _ | exact bdr _)) (HT.out.2.below (Cl.bel (by first | assumption | exact Cl.drew (by assumption)))) (by have := HL.out; omega)).mono ?_; rintro e wS ⟨rfl, hbS⟩; have hCS := Cl.below (by first | assumption | exact Cl.drew (by assumption)) hbS; clear hbS)
            | (go_at_call 18; refine (AW.out _).mono ?_; rintro e wN ⟨rfl, hbN⟩; have hCN := Cl.below (by first | assumption | exact Cl.drew (by assumption)) hbN; clear hbN))
        go_wp2_with fail
        go_ret
        exact ⟨rfl, HX3.out.bel.trans ((Cl.bel hCN).mono HX3.out.bel.size)⟩
    · have hd : decide ((k : Int) < n0) = false := decide_eq_false (by omega)
      go_upto_region 11 with fail
      obtain ⟨wq, hwq⟩ : ∃ wq, wq = wr := ⟨_, rfl⟩
      have HQ : Hid (Inv l ∧ W2 w p q l l wq) := Lib.hid ⟨hI, by rw [hwq]; exact hW⟩
      rw [← hwq]
      clear hwq hI hW hd
      have HL : Hid (l.length ≤ 100) := Lib.hid HQ.out.1.len
      obtain ⟨An, Ak, Ap, hA⟩ : ∃ an ak ap, gd l ⟨nm, 4, 0⟩ = ⟨an, ak, ap⟩ := ⟨_, _, _, rfl⟩
      obtain ⟨iA, hiA⟩ : ∃ i, is l ⟨nm, 4, 0⟩ = i := ⟨_, rfl⟩
      obtain ⟨Bn, Bk, Bp, hB⟩ : ∃ an ak ap, gd l ⟨nm, 1, 0⟩ = ⟨an, ak, ap⟩ := ⟨_, _, _, rfl⟩
      obtain ⟨iB, hiB⟩ : ∃ i, is l ⟨nm, 1, 0⟩ = i := ⟨_, rfl⟩
      have C1 := Lib.hid (show ∀ W F, Tb W p F l → Calls Try.prog 15 #[.pointer (some ⟨p, 0, none⟩), .string ⟨nm.toArray⟩] W (fun e w' => e = .returned (.tuple #[.agg #[.string ⟨An.toArray⟩, .int .i64 Ak, .int .i64 Ap], .bool iA]) ∧ Below W.heap.size W w') from fun W F h => by
        have := prefix_any nm W h HQ.out.1.srt (by have := HL.out; omega)
        rw [hA, hiA] at this; exact this)
      have C2 := Lib.hid (show ∀ W F, RTb W q F l → Calls Try.prog 16 #[.pointer (some ⟨q, 0, none⟩), .string ⟨nm.toArray⟩, .bool true] W (fun e w' => e = .returned (.tuple #[.agg #[.string ⟨An.toArray⟩, .int .i64 Ak, .int .i64 Ap], .bool iA]) ∧ Below W.heap.size W w') from fun W F h => by
        have := rfind_any nm 4 true (by decide) W h HQ.out.1.srt (by have := HL.out; omega)
        rw [hA, hiA] at this; exact this)
      have C3 := Lib.hid (show ∀ W F, Tb W p F l → Calls Try.prog 17 #[.pointer (some ⟨p, 0, none⟩), .string ⟨nm.toArray⟩] W (fun e w' => e = .returned (.tuple #[.agg #[.string ⟨Bn.toArray⟩, .int .i64 Bk, .int .i64 Bp], .bool iB]) ∧ Below W.heap.size W w') from fun W F h => by
        have := infix_any nm W h HQ.out.1.srt (by have := HL.out; omega)
        rw [hB, hiB] at this; exact this)
      have C4 := Lib.hid (show ∀ W F, RTb W q F l → Calls Try.prog 16 #[.pointer (some ⟨q, 0, none⟩), .string ⟨nm.toArray⟩, .bool false] W (fun e w' => e = .returned (.tuple #[.agg #[.string ⟨Bn.toArray⟩, .int .i64 Bk, .int .i64 Bp], .bool iB]) ∧ Below W.heap.size W w') from fun W F h => by
        have := rfind_any nm 1 false (by decide) W h HQ.out.1.srt (by have := HL.out; omega)
        rw [hB, hiB] at this; exact this)
      clear hA hiA hB hiB
      go_wp2_with fail
      obtain ⟨F0, hF0⟩ := (HQ.out.2).tb
      refine (C1.out _ _ hF0).mono ?_
      rintro e wa ⟨rfl, hb0⟩
      have HW0 := Lib.hid (W2.below (HQ.out.2) hb0)
      have hba0 := ba wa (.cells #[.string ⟨An.toArray⟩, .int .i64 Ak, .int .i64 Ap] 32)
      have hwac := alloc_at wa (.cells #[.string ⟨An.toArray⟩, .int .i64 Ak, .int .i64 Ap] 32)
      have HX0 := Lib.hid (W2.below HW0.out hba0)
      clear hb0 hba0 hF0
      go_wp2_with fail
      obtain ⟨F1, hF1⟩ := (HX0.out).rtb
      refine (C2.out _ _ hF1).mono ?_
      rintro e wb ⟨rfl, hb1⟩
      have HW1 := Lib.hid (W2.below (HX0.out) hb1)
      have hwa1 := nb hwac hb1
      clear hwac
      have hba1 := ba wb (.cells #[.string ⟨An.toArray⟩, .int .i64 Ak, .int .i64 Ap] 32)
      have hwac := nb hwa1 hba1
      clear hwa1
      have hwbc := alloc_at wb (.cells #[.string ⟨An.toArray⟩, .int .i64 Ak, .int .i64 Ap] 32)
      have HX1 := Lib.hid (W2.below HW1.out hba1)
      clear hb1 hba1 hF1
      go_wp2_with fail
      obtain ⟨F2, hF2⟩ := (HX1.out).tb
      refine (C3.out _ _ hF2).mono ?_
      rintro e wc ⟨rfl, hb2⟩
      have HW2 := Lib.hid (W2.below (HX1.out) hb2)
      have hwa2 := nb hwac hb2
      clear hwac
      have hwb2 := nb hwbc hb2
      clear hwbc
      have hba2 := ba wc (.cells #[.string ⟨Bn.toArray⟩, .int .i64 Bk, .int .i64 Bp] 32)
      have hwac := nb hwa2 hba2
      clear hwa2
      have hwbc := nb hwb2 hba2
      clear hwb2
      have hwcc := alloc_at wc (.cells #[.string ⟨Bn.toArray⟩, .int .i64 Bk, .int .i64 Bp] 32)
      have HX2 := Lib.hid (W2.below HW2.out hba2)
      clear hb2 hba2 hF2
      go_wp2_with fail
      obtain ⟨F3, hF3⟩ := (HX2.out).rtb
      refine (C4.out _ _ hF3).mono ?_
      rintro e wd ⟨rfl, hb3⟩
      have HW3 := Lib.hid (W2.below (HX2.out) hb3)
      have hwa3 := nb hwac hb3
      clear hwac
      have hwb3 := nb hwbc hb3
      clear hwbc
      have hwc3 := nb hwcc hb3
      clear hwcc
      have hba3 := ba wd (.cells #[.string ⟨Bn.toArray⟩, .int .i64 Bk, .int .i64 Bp] 32)
      have hwac := nb hwa3 hba3
      clear hwa3
      have hwbc := nb hwb3 hba3
      clear hwb3
      have hwcc := nb hwc3 hba3
      clear hwc3
      have hwdc := alloc_at wd (.cells #[.string ⟨Bn.toArray⟩, .int .i64 Bk, .int .i64 Bp] 32)
      have HX3 := Lib.hid (W2.below HW3.out hba3)
      clear hb3 hba3 hF3
      go_upto_region 15 with fail
      have HB3 := Lib.hid (And.intro hwac (And.intro hwbc (And.intro hwcc hwdc)))
      clear hwac hwbc hwcc hwdc
      obtain ⟨wz, hwz⟩ : ∃ wz, wz = wd.alloc (.cells #[.string ⟨Bn.toArray⟩, .int .i64 Bk, .int .i64 Bp] 32) := ⟨_, rfl⟩
      rw [← hwz] at HB3 HX3 ⊢
      clear hwz
      obtain ⟨Fz, hFz⟩ := HX3.out.tb
      obtain ⟨Gz, hGz⟩ := HX3.out.rtb
      obtain ⟨b5, c5, f5, _, hr5⟩ := hGz.open_
      have HT := Lib.hid (And.intro hFz hr5)
      obtain ⟨k0, k1, k2, _⟩ := box_cells (o := ⟨An, Ak, Ap⟩) HB3.out.1
      obtain ⟨k3, k4, k5, _⟩ := box_cells (o := ⟨An, Ak, Ap⟩) HB3.out.2.1
      obtain ⟨k6, k7, k8, _⟩ := box_cells (o := ⟨Bn, Bk, Bp⟩) HB3.out.2.2.1
      obtain ⟨k9, k10, k11, _⟩ := box_cells (o := ⟨Bn, Bk, Bp⟩) HB3.out.2.2.2
      have hcl : Cl wz [(q, 0, .slice b5 l.length c5), (wa.heap.size, 0, .string ⟨An.toArray⟩), (wa.heap.size, 1, .int .i64 Ak), (wa.heap.size, 2, .int .i64 Ap), (wb.heap.size, 0, .string ⟨An.toArray⟩), (wb.heap.size, 1, .int .i64 Ak), (wb.heap.size, 2, .int .i64 Ap), (wc.heap.size, 0, .string ⟨Bn.toArray⟩), (wc.heap.size, 1, .int .i64 Bk), (wc.heap.size, 2, .int .i64 Bp), (wd.heap.size, 0, .string ⟨Bn.toArray⟩), (wd.heap.size, 1, .int .i64 Bk), (wd.heap.size, 2, .int .i64 Bp)] wz := ⟨by simp [f5, k0, k1, k2, k3, k4, k5, k6, k7, k8, k9, k10, k11], br _⟩
      have ed1 := eqD An Ak Ap
      have ed2 := eqD Bn Bk Bp
      clear f5 hr5 hFz hGz k0 k1 k2 k3 k4 k5 k6 k7 k8 k9 k10 k11
      go_region_held3 (fun w' => w'.cell? ⟨q, 0, none⟩ = some (.slice b5 l.length c5) ∧ w'.cell? ⟨wa.heap.size, 0, none⟩ = some (.string ⟨An.toArray⟩) ∧ w'.cell? ⟨wa.heap.size, 1, none⟩ = some (.int .i64 Ak) ∧ w'.cell? ⟨wa.heap.size, 2, none⟩ = some (.int .i64 Ap) ∧ w'.cell? ⟨wb.heap.size, 0, none⟩ = some (.string ⟨An.toArray⟩) ∧ w'.cell? ⟨wb.heap.size, 1, none⟩ = some (.int .i64 Ak) ∧ w'.cell? ⟨wb.heap.size, 2, none⟩ = some (.int .i64 Ap) ∧ w'.cell? ⟨wc.heap.size, 0, none⟩ = some (.string ⟨Bn.toArray⟩) ∧ w'.cell? ⟨wc.heap.size, 1, none⟩ = some (.int .i64 Bk) ∧ w'.cell? ⟨wc.heap.size, 2, none⟩ = some (.int .i64 Bp) ∧ w'.cell? ⟨wd.heap.size, 0, none⟩ = some (.string ⟨Bn.toArray⟩) ∧ w'.cell? ⟨wd.heap.size, 1, none⟩ = some (.int .i64 Bk) ∧ w'.cell? ⟨wd.heap.size, 2, none⟩ = some (.int .i64 Bp))
        (first | exact c13 (by assumption) | exact c13 (Cl.drew (by assumption)) | go_keep)
        (first
          | (go_at_call 12; refine (all_any _ (HT.out.1.below (Cl.bel (by first | assumption | exact Cl.drew (by assumption)))) (by have := HL.out; omega)).mono ?_; rintro e wA ⟨aA, cA, rfl, hrA, hbA, _⟩; have hCA := Cl.below (by first | assumption | exact Cl.drew (by assumption)) hbA; clear hbA)
          | (go_at_call 11; refine (same_true _ (hrA.below (by first | exact br _ | exact bdr _)) (HT.out.2.below (Cl.bel (by first | assumption | exact Cl.drew (by assumption)))) (by have := HL.out; omega)).mono ?_; rintro e wS ⟨rfl, hbS⟩; have hCS := Cl.below (by first | assumption | exact Cl.drew (by assumption)) hbS; clear hbS)
          | (go_at_call 18; refine (AW.out _).mono ?_; rintro e wN ⟨rfl, hbN⟩; have hCN := Cl.below (by first | assumption | exact Cl.drew (by assumption)) hbN; clear hbN))
      go_wp2_with fail
      go_ret
      exact ⟨rfl, HX3.out.bel.trans ((Cl.bel hCN).mono HX3.out.bel.size)⟩
set_option maxRecDepth 100000 in
theorem lifted (os : Os) (started : os.Started) (H : Type) (enc : TypeId × Value → H) :
    ReturnsInHanded {} Try.checked os 3 .any (Rows.opsPlaySpec.pre6 enc Try.prog Try.f3 Rows.opsPlayRow.domain false) (Rows.opsPlaySpec.post enc Try.prog Try.f3 false true false false) := by
  refine returnsInHanded_of_change_sized (C := Try.checked) own started (by kernel_rfl) Try.func3
    (ChangeSpec.witness6 (enc := enc) (C := Try.checked) false ⟨#[], #[.slice none 0 0, .string ⟨#[]⟩], []⟩ 8 (by kernel_rfl) (by kernel_rfl) (by kernel_rfl) (by kernel_rfl)) ?_
  intro W base args ds gs before hval0 hW _ hsz0 _
  have hsz : (DataW.weightsEach Try.prog (Try.f3.params.toList ++ Rows.opsPlaySpec.plain.varTypes Try.prog) (ds ++ gs)).all (· ≤ reachBytes) = true := hsz0
  clear hsz0
  have hval : ∀ (j : Nat) t v, Try.f3.params[j]? = some t → args[j]? = some v → Value.okWide Try.prog W .any base t v := hval0
  have hW' := hW
  obtain ⟨p, q, hA0, hV, rfl, hfz, hnd⟩ := hW
  have hA : DataW.TrodAll enc Try.prog W 0 (fun _ => true) true Try.f3.params.toList args.toList ds p := hA0
  rw [Try.params3] at hA hval hsz
  obtain ⟨v0, vs0, d0, ds0, p0, q0, hargs, rfl, rfl, h0, r0⟩ := trodAll_cons hA
  obtain ⟨v1, vs1, d1, ds1, p1, q1, rfl, rfl, rfl, h1, r1⟩ := trodAll_cons r0
  obtain ⟨rfl, rfl, rfl⟩ := trodAll_nil r1
  obtain rfl : args = #[v0, v1] := by cases args; simp_all
  obtain ⟨rfl, rfl⟩ := trodVars_none hV
  simp only [List.append_nil] at hW'
  have lt0 : ∀ x ∈ p0, x.block < W.heap.size := fun x hx => by
    have := hW'.lt x (by simp [hx])
    simpa using this
  have k0 := h0
  have lt1 : ∀ x ∈ p1, x.block < W.heap.size := fun x hx => by
    have := hW'.lt x (by simp [hx])
    simpa using this
  have k1 := h1
  obtain ⟨a0, n0, c0, rfl⟩ := okWide_slice Try.underlying22 (hval 0 22 v0 rfl rfl)
  obtain ⟨t0, x0⟩ := h0.elim fun fuel hf => opm.ops_open hf (lt0) (fun x y e => sized_slice hsz (j := 0) (t := 22) (e := 32) rfl (by rw [← e]; rfl) Try.underlying22)
  obtain ⟨s1, rfl, rfl, rfl, u1⟩ := open_string Try.underlying9 (hval 1 9 v1 rfl rfl) h1
  have z1 : s1.size ≤ 140737488351232 := by
    have g1 := sized_string hsz (j := 1) (t := 9) rfl rfl
    have e3 : reachBytes = 140737488351232 := by decide
    have e4 : s1.data.toList.length = s1.size := rfl
    omega
  clear hA0 hval0
  refine (walk W a0 n0 c0 t0 x0 s1 z1).mono fun e W' ⟨he, hg⟩ => ?_
  subst he
  have ha := (trodAll_cons_mk (Below.trod laidOut (by kernel_rfl) (of_decide_eq_true (by kernel_rfl)) k0 hg lt0) (trodAll_cons_mk (Below.trod laidOut (by kernel_rfl) (of_decide_eq_true (by kernel_rfl)) k1 hg lt1) trodAll_mk0))
  refine ⟨_, rfl, _, _, _, [], _, [], hW', ?_, ha, rfl, hg.frame _, fun h => by cases h⟩
  exact (trodAll_cons_mk (shut_bool Try.underlying4 _) trodAll_mk0)
/-- THE STATEMENT. -/
theorem proved : Rows.OpsPlaySaid :=
  OpenClaim.holds_of_wide 3 Try.f3 rfl rfl rfl rfl rfl rfl rfl ⟨rfl, rfl, rfl, rfl, rfl⟩ rfl rfl rfl rfl rfl (by kernel_rfl) Try.func3 (by kernel_rfl)
    (of_decide_eq_true (by kernel_rfl)) (by unfold Func.isWrapper; first | (rw [if_pos (by decide +kernel)]; kernel_rfl) | (rw [if_neg (by decide +kernel)]; exact ⟨rfl, rfl⟩))
    (fun os started H enc _ => lifted os started H enc)
#print axioms proved
end Go.Proofs.Ytnpdipmkikakcaa.opsPlay
