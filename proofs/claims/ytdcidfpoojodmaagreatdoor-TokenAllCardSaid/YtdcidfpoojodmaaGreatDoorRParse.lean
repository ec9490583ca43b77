/- The contract of the page's own reading of decimals. -/
import Derived.Test.YtdcidfpoojodmaaGreatDoorParse
namespace Go.Proofs.YtdcidfpoojodmaaGreatDoor.num
open Go.ChangeShapes Go.WideShapes Go.ChangeAt Go.RowKit
open Go.Proofs.YtdcidfpoojodmaaGreatDoor.dec
set_option linter.unusedVariables false
theorem bad_eq {l : List UInt8} (h : ok l = false) : Hid (pv l = 0 ∧ pe l = 2) := Lib.hid (by unfold pv pe; rw [h]; exact ⟨rfl, rfl⟩)
theorem in_eq {l : List UInt8} (h : ok l = true) (n : Int) (hn : num l = n) (hf : Fits n) : Hid (pv l = n ∧ pe l = 0) := Lib.hid (by unfold pv pe; rw [if_pos h, if_pos h, hn]; exact ⟨rv_in hf, re_in hf⟩)
theorem out_eq {l : List UInt8} (h : ok l = true) (n : Int) (hn : num l = n) (hf : ¬ Fits n) : Hid (pv l = 0 ∧ pe l = 6) := Lib.hid (by unfold pv pe; rw [if_pos h, if_pos h, hn]; exact ⟨rv_out hf, re_out hf⟩)
theorem big_val (x : UInt8) (r : List UInt8) (h : 49 ≤ x.toNat) (hr : 19 ≤ r.length) : 10000000000000000000 ≤ val 0 (x :: r) := by
  have h1 := val_ge r (0 * 10 + (x.toNat - 48))
  rw [val_cons]
  have h2 : 10 ^ 19 ≤ 10 ^ r.length := Nat.pow_le_pow_right (by omega) hr
  have h3 : 1 * 10 ^ r.length ≤ (0 * 10 + (x.toNat - 48)) * 10 ^ r.length := Nat.mul_le_mul_right _ (by omega)
  rw [show (10 : Nat) ^ 19 = 10000000000000000000 from by decide] at h2
  omega
theorem val_19 (d : List UInt8) (k : Nat) (hk : k ≤ 18) (h : (d.take k).all isD = true) : val 0 (d.take k) < 1000000000000000000 := by
  have h1 := val_lt _ h 0
  have h2 : (d.take k).length ≤ 18 := by rw [List.length_take]; omega
  have h3 : 10 ^ (d.take k).length ≤ 10 ^ 18 := Nat.pow_le_pow_right (by omega) h2
  rw [show (10 : Nat) ^ 18 = 1000000000000000000 from by decide] at h3
  omega
theorem all_pre (d : List UInt8) (k : Nat) (h : d.all isD = true) : (d.take k).all isD = true := by
  rw [List.all_eq_true] at h ⊢
  exact fun x hx => h x (List.mem_of_mem_take hx)
theorem isD_at (d : List UInt8) (k : Nat) (hk : k < d.length) (h : d.all isD = true) : 48 ≤ d[k].toNat ∧ d[k].toNat ≤ 57 := by
  rw [List.all_eq_true] at h
  have := h d[k] (List.getElem_mem hk)
  simpa [isD] using this
theorem val_snoc (d : List UInt8) (k : Nat) (hk : k < d.length) : val 0 (d.take (k + 1)) = val 0 (d.take k) * 10 + (d[k].toNat - 48) := by
  rw [List.take_succ_eq_append_getElem hk, val_append]
theorem ext1 (c : UInt8) (t : List UInt8) : (⟨(c :: t).toArray⟩ : ByteArray).extract 1 (t.length + 1) = ⟨t.toArray⟩ := by
  apply ByteArray.ext
  rw [ByteArray.data_extract]
  simp
set_option maxHeartbeats 4000000 in
theorem rparse_neg (c x : UInt8) (r : List UInt8) (w : World) (hl : r.length ≤ 281474976710656) (h45 : c.toNat = 45) (hz : x.toNat ≠ 48) :
    Calls Tryz.prog 51 #[.string ⟨(c :: x :: r).toArray⟩] w fun e w' => e = .returned (.tuple #[.int .i64 (pv (c :: x :: r)), .int .i64 (pe (c :: x :: r))]) ∧ w = w' := by
  have g0 : ∀ h, (⟨(c :: x :: r).toArray⟩ : ByteArray)[0]'h = c := fun _ => rfl
  have g1 : ∀ h, (⟨(x :: r).toArray⟩ : ByteArray)[0]'h = x := fun _ => rfl
  have hx : (⟨(c :: x :: r).toArray⟩ : ByteArray).extract 1 (r.length + 1 + 1) = ⟨(x :: r).toArray⟩ := ext1 c (x :: r)
  have i45 : ((c.toNat : Int) == 45) = true := by rw [h45]; rfl
  have n45 : ((c.toNat : Int) != 45) = false := by rw [h45]; rfl
  have Hb : Hid (bd (c :: x :: r) = x :: r) := Lib.hid (by simp [bd, h45])
  have hneg : Hid (neg (c :: x :: r) = true) := Lib.hid (by rw [eq45 c h45]; rfl)
  have x48 : ((x.toNat : Int) == 48) = false := by rw [beq_eq_false_iff_ne]; omega
  have hf : Hid (ok (c :: x :: r) = (x :: r).all isD) := Lib.hid (ok_go2 _ r x Hb.out (fun e => absurd e hz))
  have hbig : Hid (19 < (x :: r).length → (x :: r).all isD = true → ¬ Fits (num (c :: x :: r))) := Lib.hid (by
    intro q z
    have h1 : 49 ≤ x.toNat := by have := isD_at (x :: r) 0 (by simp) z; simp at this; omega
    have := big_val x r h1 (by simp at q; omega)
    unfold num Fits; rw [Hb.out, if_pos hneg.out]; omega)
  have hlen : (x :: r).length = r.length + 1 := rfl
  clear h45 hz
  go_enter Tryz.func51, Tryz.ntmps51; go_wp2_with fail
  generalize hdd : x :: r = d at *
  have HD := Lib.hid hdd; clear hdd g1 hx x48
  have hl1 : d.length ≤ (r.length + 1) := Nat.le_of_eq hlen
  have hl2 : (r.length + 1) ≤ d.length := Nat.le_of_eq hlen.symm
  clear hlen
  go_loop [32] (fun i => ∃ k : Nat, k ≤ (r.length + 1) ∧ i = .int .i64 k ∧ (d.take k).all isD = true) (fun i => (r.length + 1) - (intOf i).toNat)
  case atStart => exact ⟨0, by omega, rfl, rfl⟩
  case round =>
    obtain ⟨k, hk, rfl, hall⟩ := hrel
    have HA := Lib.hid hall; clear hall
    by_cases hlt : k < (r.length + 1)
    · have hkd : k < d.length := by omega
      obtain ⟨x, hx⟩ : ∃ x, d[k] = x := ⟨_, rfl⟩
      have HT := all_take d k hkd HA.out
      have HN := all_no d k hkd
      rw [hx] at HT HN
      replace HT := Lib.hid HT
      replace HN := Lib.hid HN
      have gk : ∀ h, (⟨d.toArray⟩ : ByteArray)[k]'h = x := fun _ => hx
      clear hx
      by_cases x1 : x.toNat < 48
      · have hi : Hid (isD x = false) := Lib.hid (by simp [isD]; omega)
        have e1 := bad_eq (hf.out.trans (HN.out hi.out))
        go_wp2_with fail
        go_ret2; exact ⟨pair (by rw [HD.out]; exact e1.out.1.symm) (by rw [HD.out]; exact e1.out.2.symm), rfl⟩
      · by_cases x2 : 57 < x.toNat
        · have hi : Hid (isD x = false) := Lib.hid (by simp [isD]; omega)
          have e1 := bad_eq (hf.out.trans (HN.out hi.out))
          go_wp2_with fail
          go_ret2; exact ⟨pair (by rw [HD.out]; exact e1.out.1.symm) (by rw [HD.out]; exact e1.out.2.symm), rfl⟩
        · have hi : Hid (isD x = true) := Lib.hid (by simp [isD]; omega)
          go_wp2_with fail
          go_round
          case rel => exact ⟨k + 1, by omega, by go_num, by rw [HT.out]; exact hi.out⟩
          case measure => first | (simp [intOf]; done) | (simp [intOf]; omega)
    · have ht : Hid (d.all isD = true) := Lib.hid (by have := HA.out; rwa [List.take_of_length_le (by omega)] at this)
      have hok := hf.out.trans ht.out
      replace hok := Lib.hid hok
      by_cases h19 : 19 < (r.length + 1)
      · have e1 := out_eq hok.out _ rfl (hbig.out (by omega) ht.out)
        go_wp2_with fail
        go_ret2; exact ⟨pair (by rw [HD.out]; exact e1.out.1.symm) (by rw [HD.out]; exact e1.out.2.symm), rfl⟩
      · go_wp2_with fail
        go_loop [6, 51] (fun v i => ∃ k : Nat, k ≤ (r.length + 1) ∧ i = .int .i64 k ∧ v = .int .u64 ((val 0 (d.take k) : Nat) : Int)) (fun _ i => (r.length + 1) - (intOf i).toNat)
        case atStart => exact ⟨0, by omega, rfl, rfl⟩
        case round =>
          obtain ⟨k, hk, rfl, rfl⟩ := hrel
          by_cases hlt : k < (r.length + 1)
          · have hkd : k < d.length := by omega
            have hs := val_snoc d k hkd
            have h18 := val_19 d k (by omega) (all_pre d k ht.out)
            obtain ⟨x1, x2⟩ := isD_at d k hkd ht.out
            obtain ⟨x, hx⟩ : ∃ x, d[k] = x := ⟨_, rfl⟩
            rw [hx] at hs x1 x2
            have gk : ∀ h, (⟨d.toArray⟩ : ByteArray)[k]'h = x := fun _ => hx
            clear hx
            have HS := Lib.hid hs; clear hs
            generalize val 0 (List.take k d) = v at *
            go_wp2_with fail
            go_round
            case rel => exact ⟨k + 1, by omega, by go_num, by rw [HS.out]; go_num⟩
            case measure => first | (simp [intOf]; done) | (simp [intOf]; omega)
          · obtain rfl : k = (r.length + 1) := by omega
            have hv : Hid (val 0 d = val 0 (d.take ((r.length + 1)))) := Lib.hid (by rw [List.take_of_length_le (by omega)])
            have hb19 : val 0 (d.take ((r.length + 1))) < 18446744073709551616 := by
              rw [← hv.out]
              have h1 := val_lt d ht.out 0
              have h3 : 10 ^ d.length ≤ 10 ^ 19 := Nat.pow_le_pow_right (by omega) (by omega)
              rw [show (10 : Nat) ^ 19 = 10000000000000000000 from by decide] at h3
              omega
            generalize val 0 (List.take ((r.length + 1)) d) = v at *
            have hnum : Hid (num (c :: d) = -(v : Int)) := Lib.hid (by rw [← hv.out]; unfold num; rw [Hb.out, if_pos hneg.out])
            by_cases hv2 : (v : Int) ≤ 9223372036854775808
            · have e1 := in_eq hok.out _ hnum.out ⟨by omega, by omega⟩
              go_wp2_with fail
              go_ret2; exact ⟨pair (by rw [HD.out, e1.out.1]; simp [wrap64, IntKind.wrap, IntKind.signed, IntKind.bits]; omega) (by rw [HD.out]; exact e1.out.2.symm), rfl⟩
            · have e1 := out_eq hok.out _ hnum.out (by unfold Fits; omega)
              go_wp2_with fail
              go_ret2; exact ⟨pair (by rw [HD.out]; exact e1.out.1.symm) (by rw [HD.out]; exact e1.out.2.symm), rfl⟩
set_option maxHeartbeats 4000000 in
theorem rparse_pos (x : UInt8) (r : List UInt8) (w : World) (hl : r.length ≤ 281474976710656) (h45 : x.toNat ≠ 45) (hz : x.toNat = 48 → r = []) :
    Calls Tryz.prog 51 #[.string ⟨(x :: r).toArray⟩] w fun e w' => e = .returned (.tuple #[.int .i64 (pv (x :: r)), .int .i64 (pe (x :: r))]) ∧ w = w' := by
  have g0 : ∀ h, (⟨(x :: r).toArray⟩ : ByteArray)[0]'h = x := fun _ => rfl
  have i45 : ((x.toNat : Int) == 45) = false := by rw [beq_eq_false_iff_ne]; omega
  have n45 : ((x.toNat : Int) != 45) = true := by rw [bne_iff_ne]; omega
  have Hb : Hid (bd (x :: r) = x :: r) := Lib.hid (by simp [bd, h45])
  have hneg : Hid (¬ neg (x :: r) = true) := Lib.hid (by
    intro q; simp [neg] at q; exact h45 (by rw [q]; rfl))
  have hf : Hid (ok (x :: r) = (x :: r).all isD) := Lib.hid (ok_go2 _ r x Hb.out (fun e => by rw [eq48 x e, hz e]))
  have hbig : Hid (19 < (x :: r).length → (x :: r).all isD = true → ¬ Fits (num (x :: r))) := Lib.hid (by
    intro q z
    have h1 : 49 ≤ x.toNat := by
      have := isD_at (x :: r) 0 (by simp) z
      simp at this
      rcases Nat.lt_or_ge x.toNat 49 with u | u
      · have := hz (by omega); subst this; simp at q
      · exact u
    have := big_val x r h1 (by simp at q; omega)
    unfold num Fits; rw [Hb.out, if_neg hneg.out]; omega)
  have hlen : (x :: r).length = r.length + 1 := rfl
  have key : ∀ t : Bool, ((x.toNat : Int) == 48) = t → (t = true → ((x :: r) != [48]) = false) → Calls Tryz.prog 51 #[.string ⟨(x :: r).toArray⟩] w fun e w' => e = .returned (.tuple #[.int .i64 (pv (x :: r)), .int .i64 (pe (x :: r))]) ∧ w = w' := by
   intro t ht1 ht2
   clear h45 hz
   have hr48 : t = true → x :: r = [48] := fun q => by have := ht2 q; simpa using this
   cases t
   · clear ht2 hr48
     go_enter Tryz.func51, Tryz.ntmps51; go_wp2_with fail
     generalize hdd : x :: r = d at *
     have HD := Lib.hid hdd; clear hdd ht1
     have hl1 : d.length ≤ (r.length + 1) := Nat.le_of_eq hlen
     have hl2 : (r.length + 1) ≤ d.length := Nat.le_of_eq hlen.symm
     clear hlen
     go_loop [32] (fun i => ∃ k : Nat, k ≤ (r.length + 1) ∧ i = .int .i64 k ∧ (d.take k).all isD = true) (fun i => (r.length + 1) - (intOf i).toNat)
     case atStart => exact ⟨0, by omega, rfl, rfl⟩
     case round =>
       obtain ⟨k, hk, rfl, hall⟩ := hrel
       have HA := Lib.hid hall; clear hall
       by_cases hlt : k < (r.length + 1)
       · have hkd : k < d.length := by omega
         obtain ⟨x, hx⟩ : ∃ x, d[k] = x := ⟨_, rfl⟩
         have HT := all_take d k hkd HA.out
         have HN := all_no d k hkd
         rw [hx] at HT HN
         replace HT := Lib.hid HT
         replace HN := Lib.hid HN
         have gk : ∀ h, (⟨d.toArray⟩ : ByteArray)[k]'h = x := fun _ => hx
         clear hx
         by_cases x1 : x.toNat < 48
         · have hi : Hid (isD x = false) := Lib.hid (by simp [isD]; omega)
           have e1 := bad_eq (hf.out.trans (HN.out hi.out))
           go_wp2_with fail
           go_ret2; exact ⟨pair (by rw [HD.out]; exact e1.out.1.symm) (by rw [HD.out]; exact e1.out.2.symm), rfl⟩
         · by_cases x2 : 57 < x.toNat
           · have hi : Hid (isD x = false) := Lib.hid (by simp [isD]; omega)
             have e1 := bad_eq (hf.out.trans (HN.out hi.out))
             go_wp2_with fail
             go_ret2; exact ⟨pair (by rw [HD.out]; exact e1.out.1.symm) (by rw [HD.out]; exact e1.out.2.symm), rfl⟩
           · have hi : Hid (isD x = true) := Lib.hid (by simp [isD]; omega)
             go_wp2_with fail
             go_round
             case rel => exact ⟨k + 1, by omega, by go_num, by rw [HT.out]; exact hi.out⟩
             case measure => first | (simp [intOf]; done) | (simp [intOf]; omega)
       · have ht : Hid (d.all isD = true) := Lib.hid (by have := HA.out; rwa [List.take_of_length_le (by omega)] at this)
         have hok := hf.out.trans ht.out
         replace hok := Lib.hid hok
         by_cases h19 : 19 < (r.length + 1)
         · have e1 := out_eq hok.out _ rfl (hbig.out (by omega) ht.out)
           go_wp2_with fail
           go_ret2; exact ⟨pair (by rw [HD.out]; exact e1.out.1.symm) (by rw [HD.out]; exact e1.out.2.symm), rfl⟩
         · go_wp2_with fail
           go_loop [6, 51] (fun v i => ∃ k : Nat, k ≤ (r.length + 1) ∧ i = .int .i64 k ∧ v = .int .u64 ((val 0 (d.take k) : Nat) : Int)) (fun _ i => (r.length + 1) - (intOf i).toNat)
           case atStart => exact ⟨0, by omega, rfl, rfl⟩
           case round =>
             obtain ⟨k, hk, rfl, rfl⟩ := hrel
             by_cases hlt : k < (r.length + 1)
             · have hkd : k < d.length := by omega
               have hs := val_snoc d k hkd
               have h18 := val_19 d k (by omega) (all_pre d k ht.out)
               obtain ⟨x1, x2⟩ := isD_at d k hkd ht.out
               obtain ⟨x, hx⟩ : ∃ x, d[k] = x := ⟨_, rfl⟩
               rw [hx] at hs x1 x2
               have gk : ∀ h, (⟨d.toArray⟩ : ByteArray)[k]'h = x := fun _ => hx
               clear hx
               have HS := Lib.hid hs; clear hs
               generalize val 0 (List.take k d) = v at *
               go_wp2_with fail
               go_round
               case rel => exact ⟨k + 1, by omega, by go_num, by rw [HS.out]; go_num⟩
               case measure => first | (simp [intOf]; done) | (simp [intOf]; omega)
             · obtain rfl : k = (r.length + 1) := by omega
               have hv : Hid (val 0 d = val 0 (d.take ((r.length + 1)))) := Lib.hid (by rw [List.take_of_length_le (by omega)])
               have hb19 : val 0 (d.take ((r.length + 1))) < 18446744073709551616 := by
                 rw [← hv.out]
                 have h1 := val_lt d ht.out 0
                 have h3 : 10 ^ d.length ≤ 10 ^ 19 := Nat.pow_le_pow_right (by omega) (by omega)
                 rw [show (10 : Nat) ^ 19 = 10000000000000000000 from by decide] at h3
                 omega
               generalize val 0 (List.take ((r.length + 1)) d) = v at *
               have hnum : Hid (num d = (v : Int)) := Lib.hid (by rw [← hv.out]; unfold num; rw [Hb.out, if_neg hneg.out])
               obtain ⟨a, ha⟩ : ∃ a : Int, a = (v : Int) := ⟨_, rfl⟩
               rw [← ha] at hnum ⊢
               have a0 : 0 ≤ a := by omega
               have a1 : a < 18446744073709551616 := by omega
               clear ha hv hb19
               by_cases hv2 : a < 9223372036854775808
               · have e1 := in_eq hok.out _ hnum.out ⟨by omega, by omega⟩
                 go_wp2_with fail
                 go_ret2; exact ⟨pair (by rw [HD.out, e1.out.1]) (by rw [HD.out]; exact e1.out.2.symm), rfl⟩
               · have e1 := out_eq hok.out _ hnum.out (by unfold Fits; omega)
                 go_wp2_with fail
                 go_ret2; exact ⟨pair (by rw [HD.out]; exact e1.out.1.symm) (by rw [HD.out]; exact e1.out.2.symm), rfl⟩

   · have hq := hr48 rfl
     clear ht2 hr48
     simp only [List.cons.injEq] at hq
     obtain ⟨rfl, rfl⟩ := hq
     clear ht1 hlen
     go_enter Tryz.func51, Tryz.ntmps51; go_wp2_with fail
     generalize hdd : ([48] : List UInt8) = d at *
     have hlen : d.length = 1 := by rw [← hdd]; rfl
     have HD := Lib.hid hdd; clear hdd
     have hl1 : d.length ≤ 1 := Nat.le_of_eq hlen
     have hl2 : 1 ≤ d.length := Nat.le_of_eq hlen.symm
     clear hlen
     go_loop [32] (fun i => ∃ k : Nat, k ≤ 1 ∧ i = .int .i64 k ∧ (d.take k).all isD = true) (fun i => 1 - (intOf i).toNat)
     case atStart => exact ⟨0, by omega, rfl, rfl⟩
     case round =>
       obtain ⟨k, hk, rfl, hall⟩ := hrel
       have HA := Lib.hid hall; clear hall
       by_cases hlt : k < 1
       · have hkd : k < d.length := by omega
         obtain ⟨x, hx⟩ : ∃ x, d[k] = x := ⟨_, rfl⟩
         have HT := all_take d k hkd HA.out
         have HN := all_no d k hkd
         rw [hx] at HT HN
         replace HT := Lib.hid HT
         replace HN := Lib.hid HN
         have gk : ∀ h, (⟨d.toArray⟩ : ByteArray)[k]'h = x := fun _ => hx
         clear hx
         by_cases x1 : x.toNat < 48
         · have hi : Hid (isD x = false) := Lib.hid (by simp [isD]; omega)
           have e1 := bad_eq (hf.out.trans (HN.out hi.out))
           go_wp2_with fail
           go_ret2; exact ⟨pair (by rw [HD.out]; exact e1.out.1.symm) (by rw [HD.out]; exact e1.out.2.symm), rfl⟩
         · by_cases x2 : 57 < x.toNat
           · have hi : Hid (isD x = false) := Lib.hid (by simp [isD]; omega)
             have e1 := bad_eq (hf.out.trans (HN.out hi.out))
             go_wp2_with fail
             go_ret2; exact ⟨pair (by rw [HD.out]; exact e1.out.1.symm) (by rw [HD.out]; exact e1.out.2.symm), rfl⟩
           · have hi : Hid (isD x = true) := Lib.hid (by simp [isD]; omega)
             go_wp2_with fail
             go_round
             case rel => exact ⟨k + 1, by omega, by go_num, by rw [HT.out]; exact hi.out⟩
             case measure => first | (simp [intOf]; done) | (simp [intOf]; omega)
       · have ht : Hid (d.all isD = true) := Lib.hid (by have := HA.out; rwa [List.take_of_length_le (by omega)] at this)
         have hok := hf.out.trans ht.out
         replace hok := Lib.hid hok
         by_cases h19 : 19 < 1
         · exact absurd h19 (by omega)
         · go_wp2_with fail
           go_loop [6, 51] (fun v i => ∃ k : Nat, k ≤ 1 ∧ i = .int .i64 k ∧ v = .int .u64 ((val 0 (d.take k) : Nat) : Int)) (fun _ i => 1 - (intOf i).toNat)
           case atStart => exact ⟨0, by omega, rfl, rfl⟩
           case round =>
             obtain ⟨k, hk, rfl, rfl⟩ := hrel
             by_cases hlt : k < 1
             · have hkd : k < d.length := by omega
               have hs := val_snoc d k hkd
               have h18 := val_19 d k (by omega) (all_pre d k ht.out)
               obtain ⟨x1, x2⟩ := isD_at d k hkd ht.out
               obtain ⟨x, hx⟩ : ∃ x, d[k] = x := ⟨_, rfl⟩
               rw [hx] at hs x1 x2
               have gk : ∀ h, (⟨d.toArray⟩ : ByteArray)[k]'h = x := fun _ => hx
               clear hx
               have HS := Lib.hid hs; clear hs
               generalize val 0 (List.take k d) = v at *
               go_wp2_with fail
               go_round
               case rel => exact ⟨k + 1, by omega, by go_num, by rw [HS.out]; go_num⟩
               case measure => first | (simp [intOf]; done) | (simp [intOf]; omega)
             · obtain rfl : k = 1 := by omega
               have hv : Hid (val 0 d = val 0 (d.take (1))) := Lib.hid (by rw [List.take_of_length_le (by omega)])
               have hb19 : val 0 (d.take (1)) < 18446744073709551616 := by
                 rw [← hv.out]
                 have h1 := val_lt d ht.out 0
                 have h3 : 10 ^ d.length ≤ 10 ^ 19 := Nat.pow_le_pow_right (by omega) (by omega)
                 rw [show (10 : Nat) ^ 19 = 10000000000000000000 from by decide] at h3
                 omega
               generalize val 0 (List.take (1) d) = v at *
               have hnum : Hid (num d = (v : Int)) := Lib.hid (by rw [← hv.out]; unfold num; rw [Hb.out, if_neg hneg.out])
               obtain ⟨a, ha⟩ : ∃ a : Int, a = (v : Int) := ⟨_, rfl⟩
               rw [← ha] at hnum ⊢
               have a0 : 0 ≤ a := by omega
               have a1 : a < 18446744073709551616 := by omega
               clear ha hv hb19
               by_cases hv2 : a < 9223372036854775808
               · have e1 := in_eq hok.out _ hnum.out ⟨by omega, by omega⟩
                 go_wp2_with fail
                 go_ret2; exact ⟨pair (by rw [HD.out, e1.out.1]) (by rw [HD.out]; exact e1.out.2.symm), rfl⟩
               · have e1 := out_eq hok.out _ hnum.out (by unfold Fits; omega)
                 go_wp2_with fail
                 go_ret2; exact ⟨pair (by rw [HD.out]; exact e1.out.1.symm) (by rw [HD.out]; exact e1.out.2.symm), rfl⟩

  refine key _ rfl (fun q => ?_)
  have := beq_iff_eq.1 q
  have h1 : x.toNat = 48 := by omega
  rw [eq48 x h1, hz h1]; rfl
theorem rparse_any (l : List UInt8) (w : World) (hl : l.length ≤ 281474976710656) :
    Calls Tryz.prog 51 #[.string ⟨l.toArray⟩] w fun e w' => e = .returned (.tuple #[.int .i64 (pv l), .int .i64 (pe l)]) ∧ w = w' := by
  cases l with
  | nil =>
    have e1 := bad_eq (l := []) rfl
    go_enter Tryz.func51, Tryz.ntmps51; go_wp2_with fail
    go_ret2; exact ⟨pair e1.out.1.symm e1.out.2.symm, rfl⟩
  | cons c t =>
    have g0 : ∀ h, (⟨(c :: t).toArray⟩ : ByteArray)[0]'h = c := fun _ => rfl
    by_cases h45 : c.toNat = 45
    · have i45 : ((c.toNat : Int) == 45) = true := by rw [h45]; rfl
      have Hb : Hid (bd (c :: t) = t) := Lib.hid (by simp [bd, h45])
      cases t with
      | nil =>
        have e1 := bad_eq (ok_nil _ Hb.out)
        have hx : (⟨[c].toArray⟩ : ByteArray).extract 1 1 = ⟨#[]⟩ := ext1 c []
        clear h45
        go_enter Tryz.func51, Tryz.ntmps51; go_wp2_with fail
        go_ret2; exact ⟨pair e1.out.1.symm e1.out.2.symm, rfl⟩
      | cons x r =>
        by_cases hz : x.toNat = 48
        · have e1 := bad_eq (ok_z2 _ r x Hb.out hz (by simp))
          have x48 : ((x.toNat : Int) == 48) = true := by rw [hz]; rfl
          have g1 : ∀ h, (⟨(x :: r).toArray⟩ : ByteArray)[0]'h = x := fun _ => rfl
          have hx : (⟨(c :: x :: r).toArray⟩ : ByteArray).extract 1 (r.length + 1 + 1) = ⟨(x :: r).toArray⟩ := ext1 c (x :: r)
          have ne : ((c :: x :: r) != [48]) = true := by simp
          clear h45 hz
          go_enter Tryz.func51, Tryz.ntmps51; go_wp2_with fail
          go_ret2; exact ⟨pair e1.out.1.symm e1.out.2.symm, rfl⟩
        · exact rparse_neg c x r w (by simp at hl; omega) h45 hz
    · by_cases hz : c.toNat = 48 → t = []
      · exact rparse_pos c t w (by simp at hl; omega) h45 hz
      · have hz1 : c.toNat = 48 := Classical.byContradiction fun e => hz (fun q => absurd q e)
        have hz2 : t ≠ [] := fun e => hz (fun _ => e)
        have Hb : bd (c :: t) = c :: t := by simp [bd, h45]
        have ne0 : c :: t ≠ [48] := by intro e; simp at e; exact hz2 e.2
        have e1 := bad_eq (ok_z2 _ t c Hb hz1 ne0)
        have x48 : ((c.toNat : Int) == 48) = true := by rw [hz1]; rfl
        have i45 : ((c.toNat : Int) == 45) = false := by rw [hz1]; rfl
        have ne : ((c :: t) != [48]) = true := by rw [bne_iff_ne]; exact ne0
        have te : (!t.isEmpty) = true := by cases t with | nil => exact absurd rfl hz2 | cons => rfl
        clear h45 hz hz1 hz2 Hb ne0
        go_enter Tryz.func51, Tryz.ntmps51; go_wp2_with fail
        go_ret2; exact ⟨pair e1.out.1.symm e1.out.2.symm, rfl⟩
end Go.Proofs.YtdcidfpoojodmaaGreatDoor.num
