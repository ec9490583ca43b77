/- The reference: a text as a complex number. -/
import Derived.Test.YtdcidfpoojodmaaGreatDoorHexP
namespace Go.Proofs.YtdcidfpoojodmaaGreatDoor.num
open Go.ChangeShapes Go.WideShapes Go.ChangeAt Go.RowKit
set_option linter.unusedVariables false
set_option maxHeartbeats 2000000 in
theorem unhex_any (l : List UInt8) (w : World) (hl : l.length ≤ 16) :
    Calls Tryz.prog 61 #[.string ⟨l.toArray⟩] w fun e w' => e = .returned (.tuple #[.int .u64 (pw l : Nat), .bool (l.all isH)]) ∧ w = w' := by
  go_enter Tryz.func61, Tryz.ntmps61; go_wp2_with fail
  go_loop [4, 9] (fun v i => ∃ k : Nat, k ≤ l.length ∧ i = .int .i64 k ∧ (l.take k).all isH = true ∧ v = .int .u64 ((hvF 0 (l.take k) : Nat) : Int)) (fun _ i => l.length - (intOf i).toNat)
  case atStart => exact ⟨0, by omega, rfl, rfl, rfl⟩
  case round =>
    obtain ⟨k, hk, rfl, hall, rfl⟩ := hrel
    have HA := Lib.hid hall; clear hall
    by_cases hlt : k < l.length
    · obtain ⟨x, hx1⟩ : ∃ x, l[k] = x := ⟨_, rfl⟩
      have HT := allH_take l k hlt HA.out
      have HN := allH_no l k hlt
      have HS := hvF_snoc l k hlt
      rw [hx1] at HT HN HS
      replace HT := Lib.hid HT
      replace HN := Lib.hid HN
      replace HS := Lib.hid HS
      have gk : ∀ h, (⟨l.toArray⟩ : ByteArray)[k]'h = x := fun _ => hx1
      have hb := hvF_lt l k
      have hp : 16 ^ k ≤ 16 ^ 15 := Nat.pow_le_pow_right (by omega) (by omega)
      rw [show (16 : Nat) ^ 15 = 1152921504606846976 from by decide] at hp
      replace hb : hvF 0 (l.take k) < 1152921504606846976 := by omega
      clear hx1 hp
      generalize hvF 0 (l.take k) = v at *
      by_cases c1 : 48 ≤ x.toNat ∧ x.toNat ≤ 57
      · obtain ⟨c1, c2⟩ := c1
        obtain ⟨d, hd⟩ : ∃ d : Nat, x.toNat = d + 48 := ⟨x.toNat - 48, by omega⟩
        have hv : Hid (hx x = d) := Lib.hid (by unfold hx; rw [if_pos ⟨c1, c2⟩]; omega)
        have hz : Hid (isH x = true) := Lib.hid (by unfold isH; rw [hv.out]; exact decide_eq_true (by omega))
        have ho := or16 v d hb (by omega)
        have hd2 : (x.toNat : Int) - 48 = d := by omega
        have HD := Lib.hid hd
        clear hd
        go_wp2_with fail
        go_round
        case rel => exact ⟨k + 1, by omega, by go_num, by rw [HT.out]; exact hz.out, by rw [HS.out, hv.out]; simp⟩
        case measure => simp [intOf]; omega
      · by_cases c2 : 97 ≤ x.toNat ∧ x.toNat ≤ 102
        · obtain ⟨c2, c3⟩ := c2
          obtain ⟨d, hd⟩ : ∃ d : Nat, x.toNat = d + 87 := ⟨x.toNat - 87, by omega⟩
          have hv : Hid (hx x = d) := Lib.hid (by unfold hx; rw [if_neg c1, if_pos ⟨c2, c3⟩]; omega)
          have hz : Hid (isH x = true) := Lib.hid (by unfold isH; rw [hv.out]; exact decide_eq_true (by omega))
          have ho := or16 v d hb (by omega)
          have hd2 : (x.toNat : Int) - 97 + 10 = d := by omega
          have c4 : 57 < x.toNat := by omega
          have HD := Lib.hid hd
          clear hd c1
          go_wp2_with fail
          go_round
          case rel => exact ⟨k + 1, by omega, by go_num, by rw [HT.out]; exact hz.out, by rw [HS.out, hv.out]; simp⟩
          case measure => simp [intOf]; omega
        · have hv : Hid (hx x = -1) := Lib.hid (by unfold hx; rw [if_neg c1, if_neg c2])
          have hz : Hid (isH x = false) := Lib.hid (by unfold isH; rw [hv.out]; rfl)
          have e1 : Hid (pw l = 0 ∧ l.all isH = false) := Lib.hid ⟨by unfold pw; rw [HN.out hz.out]; rfl, HN.out hz.out⟩
          have g : x.toNat < 48 ∨ (57 < x.toNat ∧ x.toNat < 97) ∨ 102 < x.toNat := by omega
          clear c1 c2
          rcases g with g | ⟨g, g2⟩ | g
          all_goals
            go_wp2_with fail
            go_ret2; exact ⟨by rw [e1.out.1, e1.out.2]; rfl, rfl⟩
    · have ht : Hid (l.take k = l) := Lib.hid (List.take_of_length_le (by omega))
      have e1 : Hid (pw l = hvF 0 (l.take k) ∧ l.all isH = true) := Lib.hid (by have := HA.out; rw [ht.out] at this ⊢; exact ⟨by unfold pw; rw [if_pos this], this⟩)
      go_wp2_with fail
      go_ret2; exact ⟨by rw [e1.out.1, e1.out.2]; rfl, rfl⟩
set_option maxHeartbeats 1000000 in
theorem rparseC_go (l : List UInt8) (w : World) (hl : l.length = 34) (hp : l.take 2 = [48, 99]) :
    Calls Tryz.prog 50 #[.string ⟨l.toArray⟩] w fun e w' => e = .returned (.tuple #[.int .u64 (cv1 l : Nat), .int .u64 (cv2 l : Nat), .int .i64 (cve l)]) ∧ w = w' := by
  have hx := ext_any
  obtain ⟨t1, ht1⟩ : ∃ t, (p1 l).all isH = t := ⟨_, rfl⟩
  obtain ⟨t2, ht2⟩ : ∃ t, (p2 l).all isH = t := ⟨_, rfl⟩
  have hv : okc l = (t1 && t2) := by unfold okc; rw [ht1, ht2]
  have HV := Lib.hid hv; have H1 := Lib.hid ht1; have H2 := Lib.hid ht2
  clear hv ht1 ht2
  have q1 : Hid (List.drop 2 (List.take 18 l) = p1 l) := Lib.hid (by rw [List.drop_take]; rfl)
  have q2 : Hid (List.drop 18 (List.take 34 l) = p2 l) := Lib.hid (by
    have e : List.take 34 l = l := List.take_of_length_le (by omega)
    rw [e]; rfl)
  go_enter Tryz.func50, Tryz.ntmps50; go_wp2_with fail
  rw [q1.out]
  refine (unhex_any (p1 l) _ (p1_len l)).mono ?_; rintro e w' ⟨rfl, rfl⟩
  rw [H1.out]
  go_wp2_with fail
  rw [q2.out]
  refine (unhex_any (p2 l) _ (p2_len l hl)).mono ?_; rintro e w' ⟨rfl, rfl⟩
  rw [H2.out]
  have e1 : Hid (cv1 l = (if (t1 && t2) = true then pw (p1 l) else 0) ∧ cv2 l = (if (t1 && t2) = true then pw (p2 l) else 0) ∧ cve l = (if (t1 && t2) = true then 0 else 2)) := Lib.hid (by unfold cv1 cv2 cve; rw [HV.out]; exact ⟨rfl, rfl, rfl⟩)
  clear HV H1 H2 hp
  cases t1 <;> cases t2
  all_goals
    go_wp2_with fail
    go_ret3
    exact ⟨ret_c3 e1.out.1.symm e1.out.2.1.symm e1.out.2.2.symm, rfl⟩
theorem rparseC_any (l : List UInt8) (w : World) (hm : l.length ≤ 281474976710656) :
    Calls Tryz.prog 50 #[.string ⟨l.toArray⟩] w fun e w' => e = .returned (.tuple #[.int .u64 (dv1 l : Nat), .int .u64 (dv2 l : Nat), .int .i64 (dve l)]) ∧ w = w' := by
  by_cases h : l.length = 34
  · by_cases hp : l.take 2 = [48, 99]
    · have hc : isC l = true := by simp [isC, h, hp]
      refine (rparseC_go l w h hp).mono ?_
      rintro e w' ⟨rfl, rfl⟩
      exact ⟨ret_c3 (by unfold dv1; rw [if_pos hc]) (by unfold dv2; rw [if_pos hc]) (by unfold dve; rw [if_pos hc]), rfl⟩
    · have hc : ¬ isC l = true := by simp [isC, hp]
      have e1 : Hid (dv1 l = 0 ∧ dv2 l = 0 ∧ dve l = 2) := Lib.hid (by unfold dv1 dv2 dve; rw [if_neg hc, if_neg hc, if_neg hc]; exact ⟨rfl, rfl, rfl⟩)
      have hx := ext_any
      have hp2 : (!List.take 2 l == [48, 99]) = true := by simpa using hp
      clear hc
      go_enter Tryz.func50, Tryz.ntmps50; go_wp2_with fail
      go_ret3
      exact ⟨ret_c3 e1.out.1.symm e1.out.2.1.symm e1.out.2.2.symm, rfl⟩
  · have hc : ¬ isC l = true := by simp [isC, h]
    have e1 : Hid (dv1 l = 0 ∧ dv2 l = 0 ∧ dve l = 2) := Lib.hid (by unfold dv1 dv2 dve; rw [if_neg hc, if_neg hc, if_neg hc]; exact ⟨rfl, rfl, rfl⟩)
    have hb : ((l.length : Int) != 34) = true := by rw [bne_iff_ne]; omega
    clear hc h
    go_enter Tryz.func50, Tryz.ntmps50; go_wp2_with fail
    go_ret3
    exact ⟨ret_c3 e1.out.1.symm e1.out.2.1.symm e1.out.2.2.symm, rfl⟩
end Go.Proofs.YtdcidfpoojodmaaGreatDoor.num
