/- The contracts of the texts of words: sixteen digits of base 16. -/
import Derived.Test.YtedbcmagjbgbjaaGreatDoorKit
import Derived.WalkKit
import Derived.ProofKit
import Derived.OpenShut
import Derived.Lib.Hide
import Derived.LoopTactic
import Derived.Laws.NewBlocks
import Derived.Laws.IdiomStrings
import Derived.Laws.Bits64b
import Derived.Outline
namespace Go.Proofs.YtedbcmagjbgbjaaGreatDoor.num
open Go.ChangeShapes Go.WideShapes Go.ChangeAt Go.RowKit
set_option linter.unusedVariables false

/-- a digit of base 16 -/
def hdig (d : Nat) : UInt8 := if d < 10 then UInt8.ofNat (48 + d) else UInt8.ofNat (87 + d)
def hexAt (n i : Nat) : UInt8 := hdig (n / 16 ^ (15 - i) % 16)
def hex16 (n : Nat) : List UInt8 := (List.range 16).map (hexAt n)
def cellsAt (n k : Nat) : List Value := (List.range 16).map fun j => if 16 - k ≤ j then .int .u8 ((hexAt n j).toNat : Int) else .int .u8 0

theorem and15 (m : Nat) (h : m < 18446744073709551616) : bits BinOp.and IntKind.u64 (m : Int) 15 = ((m % 16 : Nat) : Int) := by
  have h1 := bits_and_u64_nat m 15 h (by decide)
  have h2 := Nat.and_two_pow_sub_one_eq_mod m 4
  rw [show (2 : Nat) ^ 4 - 1 = 15 from rfl, show (2 : Nat) ^ 4 = 16 from rfl] at h2
  rw [h2] at h1
  exact h1
theorem digit_of (d : Nat) (h : d < 16) (h' : d < (⟨#[48, 49, 50, 51, 52, 53, 54, 55, 56, 57, 97, 98, 99, 100, 101, 102]⟩ : ByteArray).size) : ((⟨#[48, 49, 50, 51, 52, 53, 54, 55, 56, 57, 97, 98, 99, 100, 101, 102]⟩ : ByteArray))[d]'h' = hdig d := by
  match d, h with
  | 0, _ | 1, _ | 2, _ | 3, _ | 4, _ | 5, _ | 6, _ | 7, _ | 8, _ | 9, _ | 10, _ | 11, _ | 12, _ | 13, _ | 14, _ | 15, _ => rfl
  | n + 16, h => exact absurd h (by omega)
theorem cellsAt_get (n k j : Nat) (hj : j < 16) : (cellsAt n k)[j]? = some (if 16 - k ≤ j then .int .u8 ((hexAt n j).toNat : Int) else .int .u8 0) := by
  simp [cellsAt, List.getElem?_range hj]
theorem cellsAt_set (n k : Nat) (hk : k < 16) : (cellsAt n k).set (15 - k) (.int .u8 ((hexAt n (15 - k)).toNat : Int)) = cellsAt n (k + 1) := by
  apply List.ext_getElem?
  intro j
  by_cases hj : j < 16
  · rw [List.getElem?_set, cellsAt_get n k j hj, cellsAt_get n (k + 1) j hj]
    by_cases e : 15 - k = j
    · subst e
      rw [if_pos rfl, if_pos (by simp [cellsAt]; omega), if_pos (by omega)]
    · rw [if_neg e]
      by_cases c : 16 - k ≤ j
      · rw [if_pos c, if_pos (by omega)]
      · rw [if_neg c, if_neg (by omega)]
  · rw [List.getElem?_eq_none (by simp [cellsAt]; omega), List.getElem?_eq_none (by simp [cellsAt]; omega)]
theorem cellsAt_full (n : Nat) : cellsAt n 16 = (hex16 n).map fun b => .int .u8 (b.toNat : Int) := by
  simp [cellsAt, hex16]
theorem hex16_length (n : Nat) : (hex16 n).length = 16 := by simp [hex16]

theorem wordText_any (n : Nat) (w : World) (hn : n < 18446744073709551616) :
    Calls Tryz.prog 152 #[.int .u64 (n : Int)] w fun e w' => e = .returned (.string ⟨(hex16 n).toArray⟩) ∧ w' = w.alloc (.cells (cellsAt n 16).toArray 198) := by
  go_enter Tryz.func152, Tryz.ntmps152
  go_wp2
  go_loopw [0, 5] (fun x i wr => ∃ k : Nat, k ≤ 16 ∧ i = .int .i64 k ∧ x = .int .u64 ((n / 16 ^ k : Nat) : Int) ∧ wr = w.alloc (.cells (cellsAt n k).toArray 198)) (fun _ i _ => 16 - (intOf i).toNat)
  case atStart => exact ⟨0, by omega, rfl, by simp, rfl⟩
  case round =>
    obtain ⟨k, hk, rfl, rfl, rfl⟩ := hrel
    by_cases hlt : k < 16
    · have e1 : Hid (hexAt n (15 - k) = hdig (n / 16 ^ k % 16)) := Lib.hid (by unfold hexAt; rw [show 15 - (15 - k) = k from by omega])
      have e2 : Hid (n / 16 ^ (k + 1) = n / 16 ^ k / 16) := Lib.hid (by rw [Nat.pow_succ, Nat.div_div_eq_div_mul])
      have hm : n / 16 ^ k ≤ n := Nat.div_le_self _ _
      generalize n / 16 ^ k = m at *
      have hb := and15 m (by omega)
      have hd16 : m % 16 < 16 := Nat.mod_lt _ (by omega)
      generalize m % 16 = d at *
      have hdg := Lib.hid (digit_of d hd16)
      have hc := cellsAt_get n k (15 - k) (by omega)
      rw [if_neg (by omega)] at hc
      go_wp2
      go_roundw
      case rel => exact ⟨k + 1, by omega, by go_num, by rw [e2.out]; simp, by rw [← cellsAt_set n k hlt, e1.out, hdg.out]⟩
      case measure => simp [intOf]; omega
    · obtain rfl : k = 16 := by omega
      have hconv := run_convert_bytes_back (P := Tryz.prog) (w.alloc (.cells (cellsAt n 16).toArray 198)) 123 9 5 ⟨w.heap.size, 0, none⟩ 16 (hex16 n) Tryz.underlying123 Tryz.underlying5 Tryz.underlying9
        (fun j hj => by
          have hj' : j < 16 := by rw [hex16_length] at hj; exact hj
          rw [show (⟨w.heap.size, 0, none⟩ : Addr).add j = ⟨w.heap.size, j, none⟩ from by simp [Addr.add]; omega, World.cell?_alloc_at _ _ _ _ rfl, List.getElem?_toArray, cellsAt_full, List.getElem?_map, List.getElem?_eq_getElem hj]; rfl)
      rw [hex16_length] at hconv
      go_wp2
      go_ret
      exact ⟨rfl, rfl⟩

/-- the text of two words -/
def cpx (p q : Nat) : List UInt8 := [48, 99] ++ hex16 p ++ hex16 q
theorem textC_any (p q : Nat) (w : World) (hp : p < 18446744073709551616) (hq : q < 18446744073709551616) :
    Calls Tryz.prog 112 #[.int .u64 (p : Int), .int .u64 (q : Int)] w fun e w' => e = .returned (.string ⟨(cpx p q).toArray⟩) ∧ Below w.heap.size w w' := by
  have lp := hex16_length p
  have lq := hex16_length q
  go_enter Tryz.func112, Tryz.ntmps112
  go_wp2_with fail
  refine (wordText_any p _ hp).mono ?_; rintro e w' ⟨rfl, rfl⟩
  go_wp2_with fail
  refine (wordText_any q _ hq).mono ?_; rintro e w' ⟨rfl, rfl⟩
  go_wp2_with fail
  go_ret
  exact ⟨congrArg (fun s => Ending.returned (.string s)) (ByteArray.ext (by simp [cpx])), bt (ba _ _) (ba _ _)⟩
theorem hdig_inj : ∀ a b : Fin 16, hdig a.val = hdig b.val → a = b := by decide
theorem hexAt_inj (p q : Nat) (i : Nat) (h : hexAt p i = hexAt q i) : p / 16 ^ (15 - i) % 16 = q / 16 ^ (15 - i) % 16 := by
  have := hdig_inj ⟨p / 16 ^ (15 - i) % 16, Nat.mod_lt _ (by omega)⟩ ⟨q / 16 ^ (15 - i) % 16, Nat.mod_lt _ (by omega)⟩ h
  exact congrArg Fin.val this
theorem low_eq (p q : Nat) : ∀ k, (∀ j < k, p / 16 ^ j % 16 = q / 16 ^ j % 16) → p % 16 ^ k = q % 16 ^ k := by
  intro k
  induction k with
  | zero => intro _; simp [Nat.mod_one]
  | succ k ih =>
    intro h
    rw [Nat.pow_succ, Nat.mod_mul, Nat.mod_mul, ih (fun j hj => h j (by omega)), h k (by omega)]
theorem hex16_inj (p q : Nat) (hp : p < 18446744073709551616) (hq : q < 18446744073709551616) (h : hex16 p = hex16 q) : p = q := by
  have hk : ∀ i < 16, hexAt p i = hexAt q i := by
    intro i hi
    have h1 : (hex16 p)[i]? = (hex16 q)[i]? := by rw [h]
    simpa [hex16, List.getElem?_range hi] using h1
  have := low_eq p q 16 (fun j hj => by
    have := hexAt_inj p q (15 - j) (hk (15 - j) (by omega))
    rwa [show 15 - (15 - j) = j from by omega] at this)
  rw [show (16 : Nat) ^ 16 = 18446744073709551616 from by decide] at this
  rwa [Nat.mod_eq_of_lt hp, Nat.mod_eq_of_lt hq] at this
theorem cpx_inj (p q r s : Nat) (hp : p < 18446744073709551616) (hq : q < 18446744073709551616) (hr : r < 18446744073709551616) (hs : s < 18446744073709551616) (h : cpx p q = cpx r s) : p = r ∧ q = s := by
  unfold cpx at h
  have h1 := List.append_inj h (by simp [hex16_length])
  have h2 := List.append_inj h1.1 rfl
  exact ⟨hex16_inj p r hp hr h2.2, hex16_inj q s hq hs h1.2⟩
end Go.Proofs.YtedbcmagjbgbjaaGreatDoor.num
