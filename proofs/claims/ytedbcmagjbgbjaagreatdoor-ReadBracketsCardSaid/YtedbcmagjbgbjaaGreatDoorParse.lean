/- The contracts of texts as numbers. -/
import Derived.Test.YtedbcmagjbgbjaaGreatDoorKit
import Derived.Test.YtedbcmagjbgbjaaGreatDoorDec
import Derived.Test.YtedbcmagjbgbjaaGreatDoorShelf
import Derived.LoopTactic
import Derived.Outline
import Derived.Lib.AtoiErrMem
import Derived.Lib.AppendIntMem
import Derived.Test.YtedbcmagjbgbjaaGreatDoorNum
namespace Go.Proofs.YtedbcmagjbgbjaaGreatDoor.num
open Go.ChangeShapes Go.WideShapes Go.ChangeAt Go.RowKit
open Go.Proofs.YtedbcmagjbgbjaaGreatDoor.dec
set_option linter.unusedVariables false
theorem trim_bd (l : List UInt8) : Lib.trimPrefix l [45] = bd l := by
  cases l with
  | nil => rfl
  | cons c r =>
    have e : (c == (45 : UInt8)) = decide (c.toNat = 45) := by
      rw [Bool.eq_iff_iff, beq_iff_eq, decide_eq_true_eq]
      exact ⟨fun e => by rw [e]; rfl, fun e => UInt8.toNat_inj.1 e⟩
    by_cases h : c.toNat = 45
    · have : c = 45 := UInt8.toNat_inj.1 h
      subst this
      simp [Lib.trimPrefix, Lib.hasPrefix, bd]
    ·       simp [Lib.trimPrefix, Lib.hasPrefix, bd, h]; exact fun e => h (by rw [← e]; rfl)
theorem byte_at (d : List UInt8) (k : Nat) (hk : k < d.length) (h : k < (⟨d.toArray⟩ : ByteArray).size) : (⟨d.toArray⟩ : ByteArray)[k]'h = d[k] := rfl
set_option maxHeartbeats 1000000 in
theorem isDec_any (l : List UInt8) (w : World) (hl : l.length ≤ 9223372036854775806) :
    Calls Tryz.prog 161 #[.string ⟨l.toArray⟩] w fun e w' => e = .returned (.bool (ok l)) ∧ w = w' := by
  have hb : (bd l).length ≤ 9223372036854775806 := by cases l with
    | nil => simp [bd]
    | cons c r => simp only [bd]; split <;> simp at * <;> omega
  go_enter Tryz.func161, Tryz.ntmps161; go_wp2_with fail
  refine (Tryz.strings_TrimPrefix _ _ _).mono ?_; rintro e w' ⟨rfl, hw⟩; subst hw
  simp only [trim_bd]
  have Hd : ∃ d, Hid (bd l = d) := ⟨_, Lib.hid rfl⟩
  obtain ⟨d, Hd⟩ := Hd
  rw [Hd.out] at hb ⊢
  by_cases hL : l = [45, 48]
  · have hf : Hid (ok l = false) := Lib.hid (by rw [hL]; decide)
    have hd1 : d = [48] := by rw [← Hd.out, hL]; rfl
    subst hd1
    subst hL
    go_wp2_with fail; go_ret; exact ⟨rb hf.out.symm, rfl⟩
  have hLb : (l == [45, 48]) = false := by simpa using hL
  have HL := Lib.hid hL
  cases d with
  | nil =>
    have hf : Hid (ok l = false) := Lib.hid (ok_nil l Hd.out)
    go_wp2_with fail; go_ret; exact ⟨rb hf.out.symm, rfl⟩
  | cons c r =>
    have hlen : (c :: r).length = r.length + 1 := rfl
    have g0 : ∀ h, (⟨(c :: r).toArray⟩ : ByteArray)[0]'h = c := fun _ => rfl
    by_cases hz : 1 < (c :: r).length ∧ c.toNat = 48
    · have hf : Hid (ok l = false) := Lib.hid (ok_z l r c Hd.out hz.2 (by rintro rfl; simp at hz))
      have h1 := hz.1
      have h2 : ((c.toNat : Int) == 48) = true := by rw [hz.2]; rfl
      clear hz
      go_wp2_with fail
      go_ret; exact ⟨rb hf.out.symm, rfl⟩
    · have hf : Hid (ok l = (c :: r).all isD) := Lib.hid (ok_go l r c Hd.out hL (fun e => by cases r with | nil => rfl | cons => exact absurd ⟨by simp, e⟩ hz))
      have hz2 : (1 < (c :: r).length → ((c.toNat : Int) == 48) = false) := fun q => by rw [beq_eq_false_iff_ne]; intro e; exact hz ⟨q, by omega⟩
      clear hz
      by_cases hq : 1 < (c :: r).length
      · have h3 := hz2 hq
        clear hz2
        go_wp2_with fail
        clear g0 h3 hLb hL hq
        have hl1 : (c :: r).length ≤ r.length + 1 := Nat.le_of_eq hlen
        have hl2 : r.length + 1 ≤ (c :: r).length := Nat.le_of_eq hlen.symm
        generalize hdd : c :: r = d at *
        have HD := Lib.hid hdd; clear hdd hlen
        go_loop [25] (fun i => ∃ k : Nat, k ≤ r.length + 1 ∧ i = .int .i64 k ∧ (d.take k).all isD = true) (fun i => r.length + 1 - (intOf i).toNat)
        case atStart => exact ⟨0, by omega, rfl, rfl⟩
        case round =>
          obtain ⟨k, hk, rfl, hall⟩ := hrel
          have HA := Lib.hid hall; clear hall
          by_cases hlt : k < r.length + 1
          · have hkd : k < d.length := by omega
            obtain ⟨x, hx⟩ : ∃ x, d[k] = x := ⟨_, rfl⟩
            have HT := all_take d k hkd HA.out
            have HN := all_no d k hkd
            rw [hx] at HT HN
            replace HT := Lib.hid HT
            replace HN := Lib.hid HN
            have gk : ∀ h, (⟨d.toArray⟩ : ByteArray)[k]'h = x := fun _ => hx
            clear hx
            by_cases x1 : x.toNat < 48
            · have hi : Hid (isD x = false) := Lib.hid (by simp [isD]; omega)
              go_wp2_with fail
              go_ret; exact ⟨rb (by rw [hf.out, HN.out hi.out]), rfl⟩
            · by_cases x2 : 57 < x.toNat
              · have hi : Hid (isD x = false) := Lib.hid (by simp [isD]; omega)
                go_wp2_with fail
                go_ret; exact ⟨rb (by rw [hf.out, HN.out hi.out]), rfl⟩
              · have hi : Hid (isD x = true) := Lib.hid (by simp [isD]; omega)
                go_wp2_with fail
                go_round
                case rel => exact ⟨k + 1, by omega, by go_num, by rw [HT.out]; exact hi.out⟩
                case measure => simp [intOf]; omega
          · have ht : Hid (d.all isD = true) := Lib.hid (by have := HA.out; rwa [List.take_of_length_le (by omega)] at this)
            go_wp2_with fail
            go_ret; exact ⟨rb (by rw [hf.out, ht.out]), rfl⟩
      · clear hz2
        go_wp2_with fail
        clear g0 hLb hL hq
        have hl1 : (c :: r).length ≤ r.length + 1 := Nat.le_of_eq hlen
        have hl2 : r.length + 1 ≤ (c :: r).length := Nat.le_of_eq hlen.symm
        generalize hdd : c :: r = d at *
        have HD := Lib.hid hdd; clear hdd hlen
        go_loop [25] (fun i => ∃ k : Nat, k ≤ r.length + 1 ∧ i = .int .i64 k ∧ (d.take k).all isD = true) (fun i => r.length + 1 - (intOf i).toNat)
        case atStart => exact ⟨0, by omega, rfl, rfl⟩
        case round =>
          obtain ⟨k, hk, rfl, hall⟩ := hrel
          have HA := Lib.hid hall; clear hall
          by_cases hlt : k < r.length + 1
          · have hkd : k < d.length := by omega
            obtain ⟨x, hx⟩ : ∃ x, d[k] = x := ⟨_, rfl⟩
            have HT := all_take d k hkd HA.out
            have HN := all_no d k hkd
            rw [hx] at HT HN
            replace HT := Lib.hid HT
            replace HN := Lib.hid HN
            have gk : ∀ h, (⟨d.toArray⟩ : ByteArray)[k]'h = x := fun _ => hx
            clear hx
            by_cases x1 : x.toNat < 48
            · have hi : Hid (isD x = false) := Lib.hid (by simp [isD]; omega)
              go_wp2_with fail
              go_ret; exact ⟨rb (by rw [hf.out, HN.out hi.out]), rfl⟩
            · by_cases x2 : 57 < x.toNat
              · have hi : Hid (isD x = false) := Lib.hid (by simp [isD]; omega)
                go_wp2_with fail
                go_ret; exact ⟨rb (by rw [hf.out, HN.out hi.out]), rfl⟩
              · have hi : Hid (isD x = true) := Lib.hid (by simp [isD]; omega)
                go_wp2_with fail
                go_round
                case rel => exact ⟨k + 1, by omega, by go_num, by rw [HT.out]; exact hi.out⟩
                case measure => simp [intOf]; omega
          · have ht : Hid (d.all isD = true) := Lib.hid (by have := HA.out; rwa [List.take_of_length_le (by omega)] at this)
            go_wp2_with fail
            go_ret; exact ⟨rb (by rw [hf.out, ht.out]), rfl⟩

/-- what Parse tells -/
def pv (l : List UInt8) : Int := if ok l = true then rv (num l) else 0
def pe (l : List UInt8) : Int := if ok l = true then re (num l) else 2
theorem parse_any (l : List UInt8) (w : World) (hl : l.length ≤ 281474976710656) (tp : TypeId) (p : Value) (hvar : w.var? Tryz.prog "strconv.ErrRange" = some #[.iface tp p]) :
    Calls Tryz.prog 124 #[.string ⟨l.toArray⟩] w fun e w' => e = .returned (.tuple #[.int .i64 (pv l), .int .i64 (pe l)]) ∧ Below w.heap.size w w' := by
  by_cases ho : ok l = true
  · by_cases hr : -9223372036854775808 ≤ num l ∧ num l ≤ 9223372036854775807
    · have e1 : Hid (pv l = num l ∧ pe l = 0) := Lib.hid (by unfold pv pe; rw [if_pos ho, if_pos ho]; exact ⟨rv_in hr, re_in hr⟩)
      have hp : Hid (Lib.parseIntB 64 (⟨l.toArray⟩ : ByteArray).data.toList = .ok (num l)) := Lib.hid (by rw [show (⟨l.toArray⟩ : ByteArray).data.toList = l from rfl, parse_ok l ho, if_pos hr])
      replace ho := Lib.hid ho
      replace hr := Lib.hid hr
      go_enter Tryz.func124, Tryz.ntmps124; go_wp2_with fail
      refine (isDec_any l _ (by omega)).mono ?_; rintro e w' ⟨rfl, rfl⟩; rw [ho.out]
      go_wp2_with fail
      refine (Tryz.strconv_ParseInt_10_at64_ok _ (by show l.toArray.size ≤ _; rw [List.size_toArray]; omega) (num l) hp.out _).mono ?_
      rintro e w' ⟨rfl, hw⟩
      have hb : Below w.heap.size w w' := by
        rcases hw with rfl | ⟨t, rfl⟩
        · exact br _
        · exact Lib.bytesWorld_below _ _ _
      clear hw
      go_wp2_with fail
      go_ret2; exact ⟨pair e1.out.1.symm e1.out.2.symm, hb⟩
    · have e1 : Hid (pv l = 0 ∧ pe l = 6) := Lib.hid (by unfold pv pe; rw [if_pos ho, if_pos ho]; exact ⟨rv_out hr, re_out hr⟩)
      have hp : Hid (Lib.parseIntB 64 (⟨l.toArray⟩ : ByteArray).data.toList = .range) := Lib.hid (by rw [show (⟨l.toArray⟩ : ByteArray).data.toList = l from rfl, parse_ok l ho, if_neg hr])
      replace ho := Lib.hid ho
      replace hr := Lib.hid hr
      have HV := Lib.hid hvar; clear hvar
      go_enter Tryz.func124, Tryz.ntmps124; go_wp2_with fail
      refine (isDec_any l _ (by omega)).mono ?_; rintro e w' ⟨rfl, rfl⟩; rw [ho.out]
      go_wp2_with fail
      refine (Tryz.strconv_ParseInt_10_at64_range_var _ (by show l.toArray.size ≤ _; rw [List.size_toArray]; exact hl) hp.out tp p _ HV.out).mono ?_
      rintro e w' ⟨N, rfl, -, -, hb⟩
      go_wp2_with fail
      go_ret2; exact ⟨pair e1.out.1.symm e1.out.2.symm, hb⟩
  · have hof : ok l = false := by simpa using ho
    have e1 : Hid (pv l = 0 ∧ pe l = 2) := Lib.hid (by unfold pv pe; rw [if_neg ho, if_neg ho]; exact ⟨rfl, rfl⟩)
    replace hof := Lib.hid hof
    clear ho hvar
    go_enter Tryz.func124, Tryz.ntmps124; go_wp2_with fail
    refine (isDec_any l _ (by omega)).mono ?_; rintro e w' ⟨rfl, rfl⟩; rw [hof.out]
    go_wp2_with fail
    go_ret2; exact ⟨pair e1.out.1.symm e1.out.2.symm, br _⟩
theorem ret_str {x y : List UInt8} (h : x = y) : Ending.returned (.string ⟨x.toArray⟩) = .returned (.string ⟨y.toArray⟩) := by rw [h]
end Go.Proofs.YtedbcmagjbgbjaaGreatDoor.num
