/- The contract of the library's text of base 16, and of the page's own word's text. -/
import Derived.Test.YtfobladliokfoaaDoorHex
import Derived.Test.YtfobladliokfoaaDoorLaid
namespace Go.Proofs.YtfobladliokfoaaDoor.num
open Go.ChangeShapes Go.WideShapes Go.ChangeAt Go.RowKit
set_option linter.unusedVariables false
/-- the fifteenth cell of the library's table of shifts -/
def Shift (w : World) : Prop := w.cell? ⟨3, 15, none⟩ = some (.int .u8 4)
theorem shift_of {r : List (String × DataW Unit)} {W : World} (h : laidMet Tryd.prog (("math/bits.deBruijn64tab", Rows.laid_math_bits_deBruijn64tab) :: r) W) : Shift W := by
  have e : (Rows.laid_math_bits_deBruijn64tab : DataW Unit) = Lib.tabData .u8 [0, 1, 56, 2, 57, 49, 28, 3, 61, 58, 42, 50, 38, 29, 17, 4, 62, 47, 59, 36, 45, 43, 51, 22, 53, 39, 33, 30, 24, 18, 12, 5, 63, 55, 48, 27, 60, 41, 37, 16, 46, 35, 44, 21, 52, 32, 23, 11, 54, 26, 40, 15, 34, 20, 31, 10, 25, 14, 19, 9, 13, 8, 7, 6] := by rfl
  rw [e] at h
  have := Lib.tabIs_of_head (g := 3) (t := 89) (e := 5) (n := 64) (by kernel_rfl) (by kernel_rfl) Tryd.underlying89 Tryd.underlying5 (by kernel_rfl) (by kernel_rfl) h
  exact this.cell (g := 3) (by kernel_rfl) 15 (by decide)
theorem shift_on {w w' : World} (h : Shift w) (hb : Below w.heap.size w w') : Shift w' := by
  have hlt : 3 < w.heap.size := by
    rcases Nat.lt_or_ge 3 w.heap.size with q | q
    · exact q
    · unfold Shift World.cell? at h; simp [Array.getElem?_eq_none q] at h
  unfold Shift at *
  rw [hb.cell (p := ⟨3, 15, none⟩) hlt]; exact h
theorem tz64_any (w : World) (h : Shift w) : Calls Tryd.prog 60 #[.int .u64 16] w fun e w' => e = .returned (.int .i64 4) ∧ w = w' := by
  unfold Shift at h
  have h1 : bits BinOp.and IntKind.u64 16 (IntKind.u64.wrap (-16)) = 16 := by decide +kernel
  have h2 : IntKind.u64.wrap (16 * 285870213051353865) = 4573923408821661840 := by decide +kernel
  go_enter Tryd.func60, Tryd.ntmps60; go_wp2_with fail
  go_ret; exact ⟨rfl, rfl⟩
theorem tz_any (w : World) (h : Shift w) : Calls Tryd.prog 53 #[.int .u64 16] w fun e w' => e = .returned (.int .i64 4) ∧ w = w' := by
  go_enter Tryd.func53, Tryd.ntmps53; go_wp2_with fail
  refine (tz64_any _ h).mono ?_; rintro e w' ⟨rfl, rfl⟩
  go_wp2_with fail
  go_ret; exact ⟨rfl, rfl⟩
theorem pow2_any (w : World) : Calls Tryd.prog 52 #[.int .i64 16] w fun e w' => e = .returned (.bool true) ∧ w = w' := by
  have h1 : bits BinOp.and IntKind.i64 16 15 = 0 := by decide +kernel
  go_enter Tryd.func52, Tryd.ntmps52; go_wp2_with fail
  go_ret; exact ⟨rfl, rfl⟩
def cells65 (n k : Nat) : List Value := (List.range 65).map fun j => if 65 - k ≤ j then .int .u8 ((hexAt n (j - 49)).toNat : Int) else .int .u8 0
theorem cells65_get (n k j : Nat) (hj : j < 65) : (cells65 n k)[j]? = some (if 65 - k ≤ j then .int .u8 ((hexAt n (j - 49)).toNat : Int) else .int .u8 0) := by
  simp [cells65, List.getElem?_range hj]
theorem cells65_set (n k : Nat) (hk : k < 16) : (cells65 n k).set (64 - k) (.int .u8 ((hexAt n (15 - k)).toNat : Int)) = cells65 n (k + 1) := by
  apply List.ext_getElem?
  intro j
  by_cases hj : j < 65
  · rw [List.getElem?_set, cells65_get n k j hj, cells65_get n (k + 1) j hj]
    by_cases e : 64 - k = j
    · subst e
      rw [if_pos rfl, if_pos (by simp [cells65]; omega), if_pos (by omega), show 64 - k - 49 = 15 - k from by omega]
    · rw [if_neg e]
      by_cases c : 65 - k ≤ j
      · rw [if_pos c, if_pos (by omega)]
      · rw [if_neg c, if_neg (by omega)]
  · rw [List.getElem?_eq_none (by simp [cells65]; omega), List.getElem?_eq_none (by simp [cells65]; omega)]
theorem hex16_at' (n k : Nat) (hk : k < 16) (h : k < (hex16 n).length) : (hex16 n)[k] = hexAt n k := by simp [hex16]
theorem digit36 (d : Nat) (h : d < 16) (h' : d < (⟨#[48, 49, 50, 51, 52, 53, 54, 55, 56, 57, 97, 98, 99, 100, 101, 102, 103, 104, 105, 106, 107, 108, 109, 110, 111, 112, 113, 114, 115, 116, 117, 118, 119, 120, 121, 122]⟩ : ByteArray).size) : ((⟨#[48, 49, 50, 51, 52, 53, 54, 55, 56, 57, 97, 98, 99, 100, 101, 102, 103, 104, 105, 106, 107, 108, 109, 110, 111, 112, 113, 114, 115, 116, 117, 118, 119, 120, 121, 122]⟩ : ByteArray))[d]'h' = hdig d := by
  match d, h with
  | 0, _ | 1, _ | 2, _ | 3, _ | 4, _ | 5, _ | 6, _ | 7, _ | 8, _ | 9, _ | 10, _ | 11, _ | 12, _ | 13, _ | 14, _ | 15, _ => rfl
  | n + 16, h => exact absurd h (by omega)
theorem slice65 (b j : Nat) (hj : j ≤ 64) (w' : World) : (Instr.sliceAt 75 (.pointer (some ⟨b, 0, none⟩)) (some (.int .i64 (j : Int))) none none).run Tryd.prog w' = .ok (.slice (some ⟨b, j, none⟩) (65 - j) (65 - j)) w' := by
  have e1 : (Tryd.prog).arrayLen 75 = 65 := by kernel_rfl
  have e2 : (sizeOf ((Tryd.prog).elem 75)).run Tryd.prog w' = .ok 1 w' := by kernel_rfl
  rw [run_sliceAt_array_l w' 75 ⟨b, 0, none⟩ Tryd.underlying75 .i64 (j : Int) (by omega) (by rw [e1]; omega), e2]
  simp only [Result.andThen, slicedAt, e1, Int.toNat_natCast]
  rw [if_neg (by omega)]
  have e3 : (⟨b, 0, none⟩ : Addr).add (j * 1) = ⟨b, j, none⟩ := by rw [Nat.mul_one]; simp [Addr.add]; omega
  rw [e3]
/-- how the text ends -/
def FB (n : Nat) (w : World) (e : Ending) (w' : World) : Prop := ∃ k, k ≤ 15 ∧ n / 16 ^ k < 16 ∧ e = .returned (.tuple #[.slice none 0 0, .string ⟨((hex16 n).drop (15 - k)).toArray⟩]) ∧ Below w.heap.size w w'
theorem ret_t {x y : List UInt8} (h : x = y) : Ending.returned (.tuple #[.slice none 0 0, .string ⟨x.toArray⟩]) = .returned (.tuple #[.slice none 0 0, .string ⟨y.toArray⟩]) := by rw [h]
set_option maxRecDepth 100000 in
set_option maxHeartbeats 1000000 in
theorem fmtBits_any (n : Nat) (w : World) (hn : n < 18446744073709551616) (h : Shift w) :
    Calls Tryd.prog 41 #[.slice none 0 0, .int .u64 (n : Int), .int .i64 16, .bool false, .bool false] w (FB n w) := by
  go_enter Tryd.func41, Tryd.ntmps41; go_wp2_with fail
  have h1 : Shift (w.alloc (.cells (cells65 n 0).toArray 75)) := shift_on h (ba _ _)
  refine (pow2_any _).mono ?_; rintro e w' ⟨rfl, rfl⟩
  go_wp2_with fail
  refine (tz_any _ h1).mono ?_; rintro e w' ⟨rfl, rfl⟩
  go_wp2_with fail
  go_loopw [1, 13] (fun u i wr => ∃ k j : Nat, k + j = 64 ∧ k ≤ 15 ∧ i = .int .i64 ((j : Int) + 1) ∧ u = .int .u64 ((n / 16 ^ k : Nat) : Int) ∧ wr = w.alloc (.cells (cells65 n k).toArray 75)) (fun _ i _ => (intOf i).toNat)
  case atStart => exact ⟨0, 64, by omega, by omega, rfl, by simp, rfl⟩
  case round =>
    obtain ⟨k, j, hkj, hk, rfl, rfl, rfl⟩ := hrel
    have HKJ := Lib.hid hkj
    have hj1 : j ≤ 64 := by omega
    have hj2 : 49 ≤ j := by omega
    have hdk : n / 16 ^ 15 < 16 := by
      rw [Nat.div_lt_iff_lt_mul (by decide)]; rw [show (16 : Nat) * 16 ^ 15 = 18446744073709551616 from by decide]; exact hn
    have e1 : Hid (hexAt n (15 - k) = hdig (n / 16 ^ k % 16)) := Lib.hid (by unfold hexAt; rw [show 15 - (15 - k) = k from by omega])
    have e2 : Hid (n / 16 ^ (k + 1) = n / 16 ^ k / 16) := Lib.hid (by rw [Nat.pow_succ, Nat.div_div_eq_div_mul])
    have hm : n / 16 ^ k ≤ n := Nat.div_le_self _ _
    have e3 : Hid (k = 15 → n / 16 ^ k < 16) := Lib.hid (fun e => by rw [e]; exact hdk)
    generalize hmm : n / 16 ^ k = m at *
    have HM := Lib.hid hmm; clear hmm hdk
    have hb := and15 m (by omega)
    have hd16 : m % 16 < 16 := Nat.mod_lt _ (by omega)
    have hmd : m < 16 → m % 16 = m := Nat.mod_eq_of_lt
    generalize m % 16 = d at *
    have hdg := Lib.hid (digit36 d hd16)
    have hc := cells65_get n k j (by omega)
    rw [if_neg (by omega)] at hc
    have hs := Lib.hid (cells65_set n k (by omega))
    rw [show 64 - k = j from by omega] at hs
    clear hkj
    by_cases hlt : 16 ≤ m
    · have hk15 : k ≤ 14 := by
        rcases Nat.lt_or_ge k 15 with q | q
        · omega
        · have := e3.out (by omega); omega
      clear hmd
      go_wp2_with fail
      go_roundw
      case rel => exact ⟨k + 1, j - 1, by have := HKJ.out; omega, by omega, by first | (congr 1; done) | (congr 1; omega), by rw [e2.out]; first | rfl | simp, by rw [← hs.out, e1.out, hdg.out]⟩
      case measure => first | (simp [intOf]; done) | (simp [intOf]; omega)
    · have hdm := hmd (by omega)
      subst hdm
      have hsl := slice65 w.heap.size j hj1
      have hlen : ((hex16 n).drop (15 - k)).length = 65 - j := by have := HKJ.out; rw [List.length_drop, hex16_length]; omega
      have hconv := run_convert_bytes_back (P := Tryd.prog) (w.alloc (.cells (cells65 n (k + 1)).toArray 75)) 23 9 5 ⟨w.heap.size, j, none⟩ (65 - j) ((hex16 n).drop (15 - k)) Tryd.underlying23 Tryd.underlying5 Tryd.underlying9
        (fun i hi => by
          have h1 := HKJ.out
          have hi' : i < 65 - j := by rw [hlen] at hi; exact hi
          rw [show (⟨w.heap.size, j, none⟩ : Addr).add i = ⟨w.heap.size, j + i, none⟩ from by unfold Addr.add; split <;> simp_all, World.cell?_alloc_at _ _ _ _ rfl, List.getElem?_toArray, cells65_get n (k + 1) (j + i) (by omega), if_pos (by omega)]
          rw [List.getElem_drop, hex16_at' n (15 - k + i) (by omega)]
          rw [show j + i - 49 = 15 - k + i from by omega])
      rw [hlen] at hconv
      have HC := Lib.hid hconv
      have hfin : Hid (n / 16 ^ k < 16) := Lib.hid (by rw [HM.out]; exact hd16)
      clear hconv hlen hmd hb hlt hm
      go_wp2_with fail
      rw [hdg.out, ← e1.out, hs.out, HC.out]
      go_wp2_with fail
      go_ret2
      exact ⟨k, by omega, hfin.out, rfl, ba _ _⟩
/-- how a text of base 16 ends -/
def FU (n : Nat) (w : World) (e : Ending) (w' : World) : Prop := ∃ k, k ≤ 15 ∧ n / 16 ^ k < 16 ∧ e = .returned (.string ⟨((hex16 n).drop (15 - k)).toArray⟩) ∧ Below w.heap.size w w'
theorem ifmtUint_any (n : Nat) (w : World) (hn : n < 18446744073709551616) (h : Shift w) :
    Calls Tryd.prog 42 #[.int .u64 (n : Int), .int .i64 16] w (FU n w) := by
  go_enter Tryd.func42, Tryd.ntmps42; go_wp2_with fail
  refine (fmtBits_any n _ hn h).mono ?_; rintro e w' ⟨k, hk, hd, rfl, hb⟩
  go_wp2_with fail
  go_ret
  exact ⟨k, hk, hd, rfl, hb⟩
theorem fmtUint_any (n : Nat) (w : World) (hn : n < 18446744073709551616) (h : Shift w) :
    Calls Tryd.prog 32 #[.int .u64 (n : Int), .int .i64 16] w (FU n w) := by
  go_enter Tryd.func32, Tryd.ntmps32; go_wp2_with fail
  refine (ifmtUint_any n _ hn h).mono ?_; rintro e w' ⟨k, hk, hd, rfl, hb⟩
  go_wp2_with fail
  go_ret
  exact ⟨k, hk, hd, rfl, hb⟩
theorem lead (n k i : Nat) (h : n / 16 ^ k < 16) (hk : k ≤ 15) (hi : i < 15 - k) : hexAt n i = 48 := by
  have h1 : n / 16 ^ (15 - i) = 0 := by
    rw [show 15 - i = k + (1 + (14 - k - i)) from by omega, Nat.pow_add, ← Nat.div_div_eq_div_mul, Nat.pow_add, ← Nat.div_div_eq_div_mul, Nat.pow_one, Nat.div_eq_of_lt h, Nat.zero_div]
  unfold hexAt; rw [h1]; rfl
theorem drop_lead (n k j : Nat) (h : n / 16 ^ k < 16) (hk : k ≤ 15) (hj : j < 15 - k) : (hex16 n).drop j = 48 :: (hex16 n).drop (j + 1) := by
  have hl : j < (hex16 n).length := by rw [hex16_length]; omega
  rw [List.drop_eq_getElem_cons hl, hex16_at' n j (by omega), lead n k j h hk hj]
set_option maxHeartbeats 1000000 in
theorem rhex_any (n : Nat) (w : World) (hn : n < 18446744073709551616) (h : Shift w) :
    Calls Tryd.prog 16 #[.int .u64 (n : Int)] w fun e w' => e = .returned (.string ⟨(hex16 n).toArray⟩) ∧ Below w.heap.size w w' := by
  go_enter Tryd.func16, Tryd.ntmps16; go_wp2_with fail
  refine (fmtUint_any n _ hn h).mono ?_; rintro e w1 ⟨k, hk, hd, rfl, hb⟩
  have HD := Lib.hid hd; clear hd h
  obtain ⟨m0, hm0⟩ : ∃ m, m = (hex16 n).drop (15 - k) := ⟨_, rfl⟩
  have hl0 : m0.length + (15 - k) = 16 := by rw [hm0, List.length_drop, hex16_length]; omega
  rw [← hm0]
  have HM := Lib.hid hm0; clear hm0
  go_wp2_with fail
  go_loop [3] (fun s => ∃ (m : List UInt8) (j : Nat), s = .string ⟨m.toArray⟩ ∧ j ≤ 15 - k ∧ m.length + j = 16 ∧ Hid (m = (hex16 n).drop j)) (fun s => match s with | .string b => 16 - b.size | _ => 0)
  case atStart => exact ⟨m0, 15 - k, rfl, Nat.le_refl _, hl0, HM⟩
  case round =>
    obtain ⟨m, j, rfl, hj, hlen, HJ⟩ := hrel
    have h1 : m.length ≤ 16 - j := by omega
    have h2 : 16 - j ≤ m.length := by omega
    have HLEN := Lib.hid hlen
    clear hlen
    by_cases hj0 : j = 0
    · subst hj0
      have hm : Hid (m = hex16 n) := Lib.hid (by rw [HJ.out]; rfl)
      go_wp2_with fail
      go_ret; exact ⟨by rw [hm.out]; rfl, hb⟩
    · have hj1 : 0 < j := by omega
      have HN : Hid (48 :: m = (hex16 n).drop (j - 1)) := Lib.hid (by rw [HJ.out, drop_lead n k (j - 1) HD.out hk (by omega), show j - 1 + 1 = j from by omega])
      clear hj0
      go_wp2_with fail
      go_round
      case rel => exact ⟨48 :: m, j - 1, congrArg Value.string (ByteArray.ext (by simp)), by omega, by have := HLEN.out; simp; omega, HN⟩
      case measure =>
        show 16 - ((⟨#[48]⟩ : ByteArray) ++ ⟨m.toArray⟩).size < 16 - (⟨m.toArray⟩ : ByteArray).size
        have e1 : (⟨m.toArray⟩ : ByteArray).size = m.length := List.size_toArray
        rw [ByteArray.size_append, e1]
        have e2 : (⟨#[48]⟩ : ByteArray).size = 1 := rfl
        have := HLEN.out
        omega
end Go.Proofs.YtfobladliokfoaaDoor.num
