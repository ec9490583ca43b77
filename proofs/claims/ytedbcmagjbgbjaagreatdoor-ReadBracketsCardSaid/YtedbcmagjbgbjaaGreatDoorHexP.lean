/- The contracts of reading words' texts back. -/
import Derived.Test.YtedbcmagjbgbjaaGreatDoorHex
import Derived.Test.YtedbcmagjbgbjaaGreatDoorShelf
import Derived.Laws.Bits64b
import Derived.Outline
namespace Go.Proofs.YtedbcmagjbgbjaaGreatDoor.num
open Go.ChangeShapes Go.WideShapes Go.ChangeAt Go.RowKit
set_option linter.unusedVariables false
/-- a digit's value, or -1 -/
def hx (c : UInt8) : Int := if 48 ≤ c.toNat ∧ c.toNat ≤ 57 then (c.toNat : Int) - 48 else if 97 ≤ c.toNat ∧ c.toNat ≤ 102 then (c.toNat : Int) - 87 else -1
def isH (c : UInt8) : Bool := decide (0 ≤ hx c)
def hvF (acc : Nat) (l : List UInt8) : Nat := l.foldl (fun a c => a * 16 + (hx c).toNat) acc
/-- the word of a text of digits; 0 of another -/
def pw (l : List UInt8) : Nat := if l.all isH = true then hvF 0 l else 0
theorem hx_lt (c : UInt8) : hx c ≤ 15 := by unfold hx; (repeat' split) <;> omega
theorem index_hx : ∀ n : Fin 256, Lib.indexByte [48, 49, 50, 51, 52, 53, 54, 55, 56, 57, 97, 98, 99, 100, 101, 102] (UInt8.ofNat n.val) = hx (UInt8.ofNat n.val) := by decide +kernel
theorem index_hx' (c : UInt8) : Lib.indexByte [48, 49, 50, 51, 52, 53, 54, 55, 56, 57, 97, 98, 99, 100, 101, 102] c = hx c := by
  have h := index_hx ⟨c.toNat, c.toNat_lt⟩
  simpa using h
theorem index_w (x : UInt8) : Lib.indexByte ({ data := #[48, 49, 50, 51, 52, 53, 54, 55, 56, 57, 97, 98, 99, 100, 101, 102] } : ByteArray).data.toList ((x.toNat : Int)).toNat.toUInt8 = hx x := by
  have := index_hx' x
  simpa using this
theorem hx_hdig : ∀ d : Fin 16, hx (hdig d.val) = (d.val : Int) := by decide +kernel
theorem hx_hexAt (n i : Nat) : hx (hexAt n i) = ((n / 16 ^ (15 - i) % 16 : Nat) : Int) := hx_hdig ⟨n / 16 ^ (15 - i) % 16, Nat.mod_lt _ (by omega)⟩
theorem hvF_snoc (l : List UInt8) (k : Nat) (hk : k < l.length) : hvF 0 (l.take (k + 1)) = hvF 0 (l.take k) * 16 + (hx l[k]).toNat := by
  simp only [hvF]; rw [List.take_succ_eq_append_getElem hk, List.foldl_append]; rfl
theorem allH_take (d : List UInt8) (k : Nat) (hk : k < d.length) (h : (d.take k).all isH = true) : (d.take (k + 1)).all isH = isH d[k] := by
  rw [List.take_succ_eq_append_getElem hk, List.all_append, h]; simp
theorem allH_no (d : List UInt8) (k : Nat) (hk : k < d.length) (h : isH d[k] = false) : d.all isH = false := by
  rw [List.all_eq_false]; exact ⟨d[k], List.getElem_mem hk, by simp [h]⟩
theorem hvF_lt (l : List UInt8) (k : Nat) : hvF 0 (l.take k) < 16 ^ k := by
  induction k with
  | zero => simp [hvF]
  | succ k ih =>
    by_cases hk : k < l.length
    · rw [hvF_snoc l k hk, Nat.pow_succ]
      have := hx_lt l[k]
      omega
    · rw [List.take_of_length_le (by omega)]
      rw [List.take_of_length_le (by omega)] at ih
      exact Nat.lt_of_lt_of_le ih (Nat.pow_le_pow_right (by omega) (by omega))
theorem hex16_at (n k : Nat) (hk : k < 16) (h : k < (hex16 n).length) : (hex16 n)[k] = hexAt n k := by simp [hex16]
theorem hvF_hex16 (n : Nat) (hn : n < 18446744073709551616) : ∀ k, k ≤ 16 → hvF 0 ((hex16 n).take k) = n / 16 ^ (16 - k) := by
  intro k
  induction k with
  | zero => intro _; rw [show (16 : Nat) ^ (16 - 0) = 18446744073709551616 from by decide, Nat.div_eq_of_lt hn]; simp [hvF]
  | succ k ih =>
    intro hk
    have hl : k < (hex16 n).length := by rw [hex16_length]; omega
    rw [hvF_snoc _ k hl, ih (by omega), hex16_at n k (by omega) hl, hx_hexAt]
    have e1 : 16 - k = (15 - k) + 1 := by omega
    have e2 : 16 - (k + 1) = 15 - k := by omega
    rw [e1, e2, Nat.pow_succ, ← Nat.div_div_eq_div_mul]
    generalize n / 16 ^ (15 - k) = m
    omega
theorem isH_hexAt (n i : Nat) : isH (hexAt n i) = true := by unfold isH; rw [hx_hexAt]; exact decide_eq_true (Int.natCast_nonneg _)
theorem allH_hex16 (n : Nat) : (hex16 n).all isH = true := by
  rw [List.all_eq_true]; intro x hx
  simp only [hex16, List.mem_map] at hx
  obtain ⟨i, _, rfl⟩ := hx
  exact isH_hexAt n i
theorem pw_hex16 (n : Nat) (hn : n < 18446744073709551616) : pw (hex16 n) = n := by
  have h := hvF_hex16 n hn 16 (Nat.le_refl _)
  rw [List.take_of_length_le (by rw [hex16_length]; omega)] at h
  unfold pw; rw [if_pos (allH_hex16 n), h]; simp
theorem pw_lt (l : List UInt8) (hl : l.length ≤ 16) : pw l < 18446744073709551616 := by
  unfold pw
  split
  · have h := hvF_lt l 16
    rw [List.take_of_length_le hl, show (16 : Nat) ^ 16 = 18446744073709551616 from by decide] at h
    exact h
  · omega
theorem or16 (a d : Nat) (ha : a < 1152921504606846976) (hd : d < 16) : bits BinOp.or IntKind.u64 ((a : Int) * 16) (d : Int) = ((a * 16 + d : Nat) : Int) := by
  have h1 := bits_or_u64_nat (a * 16) d (by omega) (by omega)
  have h2 := Nat.shiftLeft_add_eq_or_of_lt (i := 4) (b := d) (by omega) a
  rw [Nat.shiftLeft_eq, show (2 : Nat) ^ 4 = 16 from rfl] at h2
  rw [← h2] at h1
  rw [← h1]; simp
set_option maxHeartbeats 1000000 in
theorem parseWord_any (l : List UInt8) (w : World) (hl : l.length ≤ 16) :
    Calls Tryz.prog 160 #[.string ⟨l.toArray⟩] w fun e w' => e = .returned (.tuple #[.int .u64 (pw l : Nat), .bool (l.all isH)]) ∧ w = w' := by
  go_enter Tryz.func160, Tryz.ntmps160; go_wp2_with fail
  go_loop [4, 9] (fun v i => ∃ k : Nat, k ≤ l.length ∧ i = .int .i64 k ∧ (l.take k).all isH = true ∧ v = .int .u64 ((hvF 0 (l.take k) : Nat) : Int)) (fun _ i => l.length - (intOf i).toNat)
  case atStart => exact ⟨0, by omega, rfl, rfl, rfl⟩
  case round =>
    obtain ⟨k, hk, rfl, hall, rfl⟩ := hrel
    have HA := Lib.hid hall; clear hall
    by_cases hlt : k < l.length
    · obtain ⟨x, hx1⟩ : ∃ x, l[k] = x := ⟨_, rfl⟩
      have HT := allH_take l k hlt HA.out
      have HN := allH_no l k hlt
      have HS := hvF_snoc l k hlt
      rw [hx1] at HT HN HS
      replace HT := Lib.hid HT
      replace HN := Lib.hid HN
      replace HS := Lib.hid HS
      have gk : ∀ h, (⟨l.toArray⟩ : ByteArray)[k]'h = x := fun _ => hx1
      have hb := hvF_lt l k
      have hp : 16 ^ k ≤ 16 ^ 15 := Nat.pow_le_pow_right (by omega) (by omega)
      rw [show (16 : Nat) ^ 15 = 1152921504606846976 from by decide] at hp
      replace hb : hvF 0 (l.take k) < 1152921504606846976 := by omega
      clear hx1 hp
      generalize hvF 0 (l.take k) = v at *
      by_cases hneg : hx x < 0
      · have hz : Hid (isH x = false) := Lib.hid (by unfold isH; simp; omega)
        have e1 : Hid (pw l = 0 ∧ l.all isH = false) := Lib.hid ⟨by unfold pw; rw [HN.out hz.out]; rfl, HN.out hz.out⟩
        go_wp2_with fail
        refine (Tryz.strings_IndexByte _ _ _).mono ?_; rintro e w' ⟨rfl, hw⟩; subst hw
        rw [index_w]
        go_wp2_with fail
        go_ret2; exact ⟨by rw [e1.out.1, e1.out.2]; rfl, rfl⟩
      · obtain ⟨d, hd⟩ : ∃ d : Nat, hx x = d := ⟨(hx x).toNat, by omega⟩
        have h16 := hx_lt x
        have hz : Hid (isH x = true) := Lib.hid (by unfold isH; simp; omega)
        rw [hd] at HS h16
        have hd15 : d < 16 := by omega
        have ho := or16 v d hb hd15
        have HD := Lib.hid hd
        clear hd hneg h16
        go_wp2_with fail
        refine (Tryz.strings_IndexByte _ _ _).mono ?_; rintro e w' ⟨rfl, hw⟩; subst hw
        rw [index_w, HD.out]
        go_wp2_with fail
        go_round
        case rel => exact ⟨k + 1, by omega, by go_num, by rw [HT.out]; exact hz.out, by rw [HS.out]; simp⟩
        case measure => simp [intOf]; omega
    · have ht : Hid (l.take k = l) := Lib.hid (List.take_of_length_le (by omega))
      have e1 : Hid (pw l = hvF 0 (l.take k) ∧ l.all isH = true) := Lib.hid (by have := HA.out; rw [ht.out] at this ⊢; exact ⟨by unfold pw; rw [if_pos this], this⟩)
      go_wp2_with fail
      go_ret2; exact ⟨by rw [e1.out.1, e1.out.2]; rfl, rfl⟩
theorem ext_any (m : List UInt8) (i j : Nat) : (⟨m.toArray⟩ : ByteArray).extract i j = ⟨((m.take j).drop i).toArray⟩ := by
  apply ByteArray.ext
  rw [ByteArray.data_extract]
  simp [List.drop_take]
/-- is it the text of a complex number? -/
def p1 (l : List UInt8) : List UInt8 := (l.drop 2).take 16
def p2 (l : List UInt8) : List UInt8 := l.drop 18
def okc (l : List UInt8) : Bool := (p1 l).all isH && (p2 l).all isH
theorem hasP (l : List UInt8) : Lib.hasPrefix l [48, 99] = decide (l.take 2 = [48, 99]) := by
  match l with
  | [] => rfl
  | [a] => by_cases h : a = 48 <;> simp [Lib.hasPrefix, List.isPrefixOf]
  | a :: b :: r =>
    rw [Bool.eq_iff_iff, decide_eq_true_eq]
    simp [Lib.hasPrefix, List.isPrefixOf]
    constructor <;> (rintro ⟨h1, h2⟩; exact ⟨h1.symm, h2.symm⟩)
theorem p1_len (l : List UInt8) : (p1 l).length ≤ 16 := by unfold p1; rw [List.length_take]; omega
theorem p2_len (l : List UInt8) (h : l.length = 34) : (p2 l).length ≤ 16 := by unfold p2; rw [List.length_drop]; omega
theorem c_p1 (l : List UInt8) (h : l.length = 34) : List.take 16 (List.drop 2 (List.take 34 l)) = p1 l := by
  have e : List.take 34 l = l := List.take_of_length_le (by omega)
  rw [e]; rfl
theorem c_p2 (l : List UInt8) (h : l.length = 34) : List.drop 16 (List.take 32 (List.drop 2 (List.take 34 l))) = p2 l := by
  have e : List.take 34 l = l := List.take_of_length_le (by omega)
  have e2 : List.take 32 (List.drop 2 l) = List.drop 2 l := List.take_of_length_le (by rw [List.length_drop]; omega)
  rw [e, e2, List.drop_drop]; rfl
theorem ret_c3 {a a' b b' : Nat} {c c' : Int} (h1 : a = a') (h2 : b = b') (h3 : c = c') : Ending.returned (.tuple #[.int .u64 (a : Nat), .int .u64 (b : Nat), .int .i64 c]) = .returned (.tuple #[.int .u64 (a' : Nat), .int .u64 (b' : Nat), .int .i64 c']) := by rw [h1, h2, h3]
/-- what ParseC tells -/
def cv1 (l : List UInt8) : Nat := if okc l = true then pw (p1 l) else 0
def cv2 (l : List UInt8) : Nat := if okc l = true then pw (p2 l) else 0
def cve (l : List UInt8) : Int := if okc l = true then 0 else 2
set_option maxHeartbeats 1000000 in
theorem parseC_go (l : List UInt8) (w : World) (hl : l.length = 34) (hp : l.take 2 = [48, 99]) :
    Calls Tryz.prog 123 #[.string ⟨l.toArray⟩] w fun e w' => e = .returned (.tuple #[.int .u64 (cv1 l : Nat), .int .u64 (cv2 l : Nat), .int .i64 (cve l)]) ∧ w = w' := by
  have hx := ext_any
  have hP : Lib.hasPrefix l [48, 99] = true := by rw [hasP, hp]; rfl
  have hp0 := Lib.hid hp; clear hp
  obtain ⟨t1, ht1⟩ : ∃ t, (p1 l).all isH = t := ⟨_, rfl⟩
  obtain ⟨t2, ht2⟩ : ∃ t, (p2 l).all isH = t := ⟨_, rfl⟩
  have hv : okc l = (t1 && t2) := by unfold okc; rw [ht1, ht2]
  have HV := Lib.hid hv; have H1 := Lib.hid ht1; have H2 := Lib.hid ht2
  clear hv ht1 ht2
  go_enter Tryz.func123, Tryz.ntmps123; go_wp2_with fail
  refine (Tryz.strings_HasPrefix _ _ _).mono ?_; rintro e w' ⟨rfl, hw⟩; subst hw
  rw [show (⟨#[48, 99]⟩ : ByteArray).data.toList = [48, 99] from rfl]
  go_wp2_with fail
  rw [c_p1 l hl]
  refine (parseWord_any (p1 l) _ (p1_len l)).mono ?_; rintro e w' ⟨rfl, rfl⟩
  rw [H1.out]
  go_wp2_with fail
  rw [c_p2 l hl]
  refine (parseWord_any (p2 l) _ (p2_len l hl)).mono ?_; rintro e w' ⟨rfl, rfl⟩
  rw [H2.out]
  have e1 : Hid (cv1 l = (if (t1 && t2) = true then pw (p1 l) else 0) ∧ cv2 l = (if (t1 && t2) = true then pw (p2 l) else 0) ∧ cve l = (if (t1 && t2) = true then 0 else 2)) := Lib.hid (by unfold cv1 cv2 cve; rw [HV.out]; exact ⟨rfl, rfl, rfl⟩)
  clear HV H1 H2
  cases t1 <;> cases t2
  all_goals
    go_wp2_with fail
    go_ret3
    exact ⟨ret_c3 e1.out.1.symm e1.out.2.1.symm e1.out.2.2.symm, rfl⟩
/-- what ParseC tells of any text -/
def isC (l : List UInt8) : Bool := decide (l.length = 34) && decide (l.take 2 = [48, 99])
def dv1 (l : List UInt8) : Nat := if isC l = true then cv1 l else 0
def dv2 (l : List UInt8) : Nat := if isC l = true then cv2 l else 0
def dve (l : List UInt8) : Int := if isC l = true then cve l else 2
theorem parseC_any (l : List UInt8) (w : World) (hm : l.length ≤ 281474976710656) :
    Calls Tryz.prog 123 #[.string ⟨l.toArray⟩] w fun e w' => e = .returned (.tuple #[.int .u64 (dv1 l : Nat), .int .u64 (dv2 l : Nat), .int .i64 (dve l)]) ∧ w = w' := by
  by_cases h : l.length = 34
  · by_cases hp : l.take 2 = [48, 99]
    · have hc : isC l = true := by simp [isC, h, hp]
      refine (parseC_go l w h hp).mono ?_
      rintro e w' ⟨rfl, rfl⟩
      exact ⟨ret_c3 (by unfold dv1; rw [if_pos hc]) (by unfold dv2; rw [if_pos hc]) (by unfold dve; rw [if_pos hc]), rfl⟩
    · have hc : ¬ isC l = true := by simp [isC, hp]
      have e1 : Hid (dv1 l = 0 ∧ dv2 l = 0 ∧ dve l = 2) := Lib.hid (by unfold dv1 dv2 dve; rw [if_neg hc, if_neg hc, if_neg hc]; exact ⟨rfl, rfl, rfl⟩)
      have hP : Lib.hasPrefix l [48, 99] = false := by rw [hasP]; simp [hp]
      clear hc hp
      go_enter Tryz.func123, Tryz.ntmps123; go_wp2_with fail
      refine (Tryz.strings_HasPrefix _ _ _).mono ?_; rintro e w' ⟨rfl, hw⟩; subst hw
      rw [show (⟨#[48, 99]⟩ : ByteArray).data.toList = [48, 99] from rfl]
      go_wp2_with fail
      go_ret3
      exact ⟨ret_c3 e1.out.1.symm e1.out.2.1.symm e1.out.2.2.symm, rfl⟩
  · have hc : ¬ isC l = true := by simp [isC, h]
    have e1 : Hid (dv1 l = 0 ∧ dv2 l = 0 ∧ dve l = 2) := Lib.hid (by unfold dv1 dv2 dve; rw [if_neg hc, if_neg hc, if_neg hc]; exact ⟨rfl, rfl, rfl⟩)
    have hb : ((l.length : Int) != 34) = true := by rw [bne_iff_ne]; omega
    clear hc h
    go_enter Tryz.func123, Tryz.ntmps123; go_wp2_with fail
    go_ret3
    exact ⟨ret_c3 e1.out.1.symm e1.out.2.1.symm e1.out.2.2.symm, rfl⟩
theorem isC_cpx (p q : Nat) : isC (cpx p q) = true := by simp [isC, cpx, hex16_length]
theorem p1_cpx (p q : Nat) : p1 (cpx p q) = hex16 p := by
  unfold p1 cpx
  rw [List.append_assoc, List.drop_left' (by rfl), List.take_left' (hex16_length p)]
theorem p2_cpx (p q : Nat) : p2 (cpx p q) = hex16 q := by
  unfold p2 cpx
  rw [List.drop_left' (by simp [hex16_length])]
theorem back_cpx (p q : Nat) (hp : p < 18446744073709551616) (hq : q < 18446744073709551616) : dv1 (cpx p q) = p ∧ dv2 (cpx p q) = q ∧ dve (cpx p q) = 0 := by
  have h : okc (cpx p q) = true := by unfold okc; rw [p1_cpx, p2_cpx, allH_hex16, allH_hex16]; rfl
  unfold dv1 dv2 dve cv1 cv2 cve
  rw [if_pos (isC_cpx p q), if_pos (isC_cpx p q), if_pos (isC_cpx p q), if_pos h, if_pos h, if_pos h, p1_cpx, p2_cpx, pw_hex16 p hp, pw_hex16 q hq]
  exact ⟨rfl, rfl, rfl⟩
end Go.Proofs.YtedbcmagjbgbjaaGreatDoor.num
