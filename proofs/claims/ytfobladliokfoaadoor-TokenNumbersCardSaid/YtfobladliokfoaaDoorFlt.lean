/- Whole numbers as floats of 64 bits: small ones are exact, and so are their sums, differences and products. Imports no translation. -/
import Derived.Laws.ComplexArith
import Derived.Lib.Hide
namespace Go.Proofs.YtfobladliokfoaaDoor.flt
open Ieee

theorem cut_exact (s : Bool) (N d : Nat) (h : 0 < N) : Toward.even.cut s (N * 2 ^ d) d = N := by
  have h1 : d ≤ (N * 2 ^ d).log2 := by
    rw [Nat.le_log2 (by have := Nat.two_pow_pos d; exact Nat.ne_of_gt (Nat.mul_pos h this))]
    exact Nat.le_mul_of_pos_left _ h
  have h2 : min d ((N * 2 ^ d).log2 + 2) = d := Nat.min_eq_left (by omega)
  have h3 := Nat.two_pow_pos d
  unfold Toward.cut
  simp only [h2, Nat.one_shiftLeft, Nat.mul_div_cancel _ h3, Nat.mul_mod_left]
  have e1 : decide (2 ^ d < 2 * 0) = false := by simp
  have e2 : (2 ^ d == 2 * 0) = false := by simp
  rw [e1, e2]; simp

theorem read_word (s : Bool) (r : Nat) (h1 : 4503599627370496 ≤ r) (h2 : r < 9218868437227405312) :
    double.read (double.word s r) = .number s (4503599627370496 + r % 4503599627370496) (-1074 + ((r / 4503599627370496 - 1 : Nat) : Int)) := by
  have w1 : double.signWeight = 9223372036854775808 := by decide
  have w2 : double.binade = 4503599627370496 := by decide
  have w3 : double.infRung = 9218868437227405312 := by decide
  have w4 : double.leastPlace = -1074 := by decide
  have e1 : double.word s r / 9223372036854775808 % 2 = s.toNat := by unfold Format.word; rw [w1]; cases s <;> simp <;> omega
  have e2 : double.word s r % 9223372036854775808 = r := by unfold Format.word; rw [w1]; cases s <;> simp <;> omega
  unfold Format.read
  simp only [w1, w2, w3, w4, e1, e2]
  rw [if_neg (by omega), if_pos (by omega)]
  cases s <;> rfl
theorem read_zero (s : Bool) : double.read (double.word s 0) = .number s 0 (-1074) := by cases s <;> decide +kernel

theorem log2_mul_pow (n k : Nat) (h : 0 < n) : (n * 2 ^ k).log2 = n.log2 + k := by
  rw [Nat.log2_eq_iff (by have := Nat.two_pow_pos k; exact Nat.ne_of_gt (Nat.mul_pos h this))]
  have h1 := Nat.log2_self_le (Nat.ne_of_gt h)
  have h2 := Nat.lt_log2_self (n := n)
  constructor
  · rw [Nat.pow_add]; exact Nat.mul_le_mul_right _ h1
  · rw [show n.log2 + k + 1 = (n.log2 + 1) + k from by omega, Nat.pow_add]; exact Nat.mul_lt_mul_of_pos_right h2 (Nat.two_pow_pos k)

/-- what is written of a small whole number is read as it, its place not above 0 -/
theorem nearest_is (s : Bool) (n k : Nat) (hn : n < 9007199254740992) :
    ∃ l : Nat, double.read (double.nearest s (n * 2 ^ k) (-(k : Int))) = .number s (n * 2 ^ l) (-(l : Int)) := by
  by_cases h0 : n = 0
  · subst h0
    obtain ⟨l, hl⟩ : ∃ l : Nat, l = 1074 := ⟨_, rfl⟩
    refine ⟨l, ?_⟩
    unfold Format.nearest
    rw [Nat.zero_mul, if_pos rfl, read_zero, Nat.zero_mul, hl]; rfl
  have hp : 0 < n := Nat.pos_of_ne_zero h0
  have hL : n.log2 < 53 := (Nat.log2_lt h0).2 hn
  obtain ⟨l, hl⟩ : ∃ l, n.log2 + l = 52 := ⟨52 - n.log2, by omega⟩
  have hm : n * 2 ^ k ≠ 0 := by have := Nat.two_pow_pos k; exact Nat.ne_of_gt (Nat.mul_pos hp this)
  have hkept : Toward.even.cut s ((n * 2 ^ k) <<< (-(k : Int) - -(l : Int)).toNat) (-(l : Int) - -(k : Int)).toNat = n * 2 ^ l := by
    by_cases c : k ≤ l
    · rw [show (-(l : Int) - -(k : Int)).toNat = 0 from by omega, show (-(k : Int) - -(l : Int)).toNat = l - k from by omega, Nat.shiftLeft_eq, Nat.mul_assoc, ← Nat.pow_add, show k + (l - k) = l from by omega]
      have := cut_exact s (n * 2 ^ l) 0 (Nat.mul_pos hp (Nat.two_pow_pos l))
      simpa using this
    · rw [show (-(l : Int) - -(k : Int)).toNat = k - l from by omega, show (-(k : Int) - -(l : Int)).toNat = 0 from by omega, Nat.shiftLeft_zero, show n * 2 ^ k = n * 2 ^ l * 2 ^ (k - l) from by rw [Nat.mul_assoc, ← Nat.pow_add, show l + (k - l) = k from by omega]]
      exact cut_exact s _ _ (Nat.mul_pos hp (Nat.two_pow_pos l))
  have hlow : 4503599627370496 ≤ n * 2 ^ l := by
    have h1 := Nat.log2_self_le h0
    have h2 : 2 ^ n.log2 * 2 ^ l = 4503599627370496 := by rw [← Nat.pow_add, hl]
    rw [← h2]; exact Nat.mul_le_mul_right _ h1
  have hhigh : n * 2 ^ l < 9007199254740992 := by
    have h1 := Nat.lt_log2_self (n := n)
    have h2 : 2 ^ (n.log2 + 1) * 2 ^ l = 9007199254740992 := by rw [← Nat.pow_add, show n.log2 + 1 + l = 53 from by omega]
    rw [← h2]; exact Nat.mul_lt_mul_of_pos_right h1 (Nat.two_pow_pos l)
  have w2 : double.binade = 4503599627370496 := by decide
  have w3 : double.infRung = 9218868437227405312 := by decide
  have w4 : double.leastPlace = -1074 := by decide
  have w5 : double.fractionBits = 52 := rfl
  have hlast : max (-(k : Int) + ((n * 2 ^ k).log2 : Int) - (52 : Nat)) (-1074) = -(l : Int) := by
    rw [log2_mul_pow n k hp]; omega
  refine ⟨l, ?_⟩
  unfold Format.nearest
  rw [if_neg hm]
  simp only [w2, w3, w4, w5, hlast, hkept]
  generalize n * 2 ^ l = m at *
  rw [show (-(l : Int) - -1074).toNat = 1074 - l from by omega, Nat.min_eq_left (by omega), read_word s _ (by omega) (by omega)]
  congr 1
  · omega
  · omega

/-- the word x stands for the whole number n -/
def Is (x : Nat) (n : Int) : Prop := ∃ (s : Bool) (m l : Nat), double.read x = .number s m (-(l : Int)) ∧ (if s then -(m : Int) else (m : Int)) = n * ((2 ^ l : Nat) : Int)

theorem signed_eq (s : Bool) (m u : Nat) : signed s m u = (if s then -(m : Int) else (m : Int)) * ((2 ^ u : Nat) : Int) := by
  unfold signed; rw [Nat.shiftLeft_eq]; cases s <;> simp [Int.neg_mul]
theorem is_write (s : Bool) (N : Nat) (n : Int) (k : Nat) (hN : N = n.natAbs * 2 ^ k) (hs : n ≠ 0 → s = decide (n < 0)) (hn : n.natAbs < 9007199254740992) : Is (double.write (.number s N (-(k : Int)))) n := by
  subst hN
  obtain ⟨l, hl⟩ := nearest_is s n.natAbs k hn
  refine ⟨s, n.natAbs * 2 ^ l, l, hl, ?_⟩
  by_cases h0 : n = 0
  · subst h0; cases s <;> simp
  · rw [hs h0]
    by_cases hneg : n < 0
    · rw [if_pos (by simpa using hneg), Int.natCast_mul, ← Int.neg_mul]; congr 1; omega
    · rw [if_neg (by simpa using hneg), Int.natCast_mul]; congr 1; omega
theorem is_ofInt (n : Int) (hn : n.natAbs < 9007199254740992) : Is (floatOfInt .f64 n) n :=
  is_write (n < 0) n.natAbs n 0 (by simp) (fun _ => rfl) hn

theorem sum_total (a b : Int) (s t : Bool) (m n i j : Nat) (h1 : (if s then -(m : Int) else (m : Int)) = a * ((2 ^ i : Nat) : Int)) (h2 : (if t then -(n : Int) else (n : Int)) = b * ((2 ^ j : Nat) : Int)) :
    ∃ k : Nat, min (-(i : Int)) (-(j : Int)) = -(k : Int) ∧ signed s m (-(i : Int) - min (-(i : Int)) (-(j : Int))).toNat = a * ((2 ^ k : Nat) : Int) ∧ signed t n (-(j : Int) - min (-(i : Int)) (-(j : Int))).toNat = b * ((2 ^ k : Nat) : Int) := by
  refine ⟨max i j, by omega, ?_, ?_⟩
  · rw [signed_eq, h1, show (-(i : Int) - min (-(i : Int)) (-(j : Int))).toNat = max i j - i from by omega, Int.mul_assoc, ← Int.natCast_mul, ← Nat.pow_add, show i + (max i j - i) = max i j from by omega]
  · rw [signed_eq, h2, show (-(j : Int) - min (-(i : Int)) (-(j : Int))).toNat = max i j - j from by omega, Int.mul_assoc, ← Int.natCast_mul, ← Nat.pow_add, show j + (max i j - j) = max i j from by omega]
theorem pow_pos (k : Nat) : (0 : Int) < ((2 ^ k : Nat) : Int) := by have := Nat.two_pow_pos k; omega
theorem natAbs_mul_pow (c : Int) (k : Nat) : (c * ((2 ^ k : Nat) : Int)).natAbs = c.natAbs * 2 ^ k := by rw [Int.natAbs_mul]; rfl
theorem neg_mul_pow (c : Int) (k : Nat) : (c * ((2 ^ k : Nat) : Int) < 0) ↔ c < 0 := by
  have := pow_pos k
  constructor
  · intro h; rcases Int.lt_or_le c 0 with g | g
    · exact g
    · have := Int.mul_nonneg g (Int.le_of_lt this); omega
  · intro h; exact Int.mul_neg_of_neg_of_pos h this
theorem zero_mul_pow (c : Int) (k : Nat) : (c * ((2 ^ k : Nat) : Int) = 0) ↔ c = 0 := by
  have := pow_pos k
  rw [Int.mul_eq_zero]; omega

theorem is_sum (x y : Nat) (a b : Int) (hx : Is x a) (hy : Is y b) (hn : (a + b).natAbs < 9007199254740992) : ∃ r, double.add x y = some r ∧ Is r (a + b) := by
  obtain ⟨s, m, i, h1, e1⟩ := hx
  obtain ⟨t, n, j, h2, e2⟩ := hy
  obtain ⟨k, hk, t1, t2⟩ := sum_total a b s t m n i j e1 e2
  refine ⟨_, by unfold Format.add; rw [h1, h2]; simp only [Datum.sum, Option.map_some]; rw [t1, t2, ← Int.add_mul, hk], ?_⟩
  refine is_write _ _ (a + b) k (natAbs_mul_pow _ _) (fun h => ?_) hn
  rw [if_neg (by rw [zero_mul_pow]; exact h)]
  simp only [neg_mul_pow]
theorem is_sub (x y : Nat) (a b : Int) (hx : Is x a) (hy : Is y b) (hn : (a - b).natAbs < 9007199254740992) : ∃ r, double.sub x y = some r ∧ Is r (a - b) := by
  obtain ⟨s, m, i, h1, e1⟩ := hx
  obtain ⟨t, n, j, h2, e2⟩ := hy
  have e3 : (if (!t) then -(n : Int) else (n : Int)) = (-b) * ((2 ^ j : Nat) : Int) := by rw [Int.neg_mul, ← e2]; cases t <;> simp
  obtain ⟨k, hk, t1, t2⟩ := sum_total a (-b) s (!t) m n i j e1 e3
  refine ⟨_, by unfold Format.sub; rw [h1, h2]; simp only [Datum.sum, Datum.opposite, Option.map_some]; rw [t1, t2, ← Int.add_mul, hk, ← Int.sub_eq_add_neg], ?_⟩
  refine is_write _ _ (a - b) k (natAbs_mul_pow _ _) (fun h => ?_) hn
  rw [if_neg (by rw [zero_mul_pow]; exact h)]
  simp only [neg_mul_pow]
theorem is_mul (x y : Nat) (a b : Int) (hx : Is x a) (hy : Is y b) (hn : (a * b).natAbs < 9007199254740992) : ∃ r, double.mul x y = some r ∧ Is r (a * b) := by
  obtain ⟨s, m, i, h1, e1⟩ := hx
  obtain ⟨t, n, j, h2, e2⟩ := hy
  refine ⟨_, by unfold Format.mul; rw [h1, h2]; simp only [Datum.product, Option.map_some]; rw [show -(i : Int) + -(j : Int) = -((i + j : Nat) : Int) from by omega], ?_⟩
  have em : (m : Int).natAbs = a.natAbs * 2 ^ i := by rw [← natAbs_mul_pow, ← e1]; cases s <;> simp
  have en : (n : Int).natAbs = b.natAbs * 2 ^ j := by rw [← natAbs_mul_pow, ← e2]; cases t <;> simp
  simp only [Int.natAbs_natCast] at em en
  refine is_write _ _ (a * b) (i + j) ?_ (fun h => ?_) hn
  · rw [em, en, Int.natAbs_mul, Nat.pow_add, Nat.mul_mul_mul_comm]
  · have ha : a ≠ 0 := fun e => h (by rw [e, Int.zero_mul])
    have hb : b ≠ 0 := fun e => h (by rw [e, Int.mul_zero])
    have sa : s = decide (a < 0) := by
      have p := neg_mul_pow a i; rw [← e1] at p
      have z := zero_mul_pow a i; rw [← e1] at z
      cases s <;> simp at p z ⊢ <;> omega
    have sb : t = decide (b < 0) := by
      have p := neg_mul_pow b j; rw [← e2] at p
      have z := zero_mul_pow b j; rw [← e2] at z
      cases t <;> simp at p z ⊢ <;> omega
    rw [sa, sb]
    rcases Int.lt_or_gt_of_ne ha with u | u <;> rcases Int.lt_or_gt_of_ne hb with v | v
    · have := Int.mul_pos_of_neg_of_neg u v; simp [u, v]; omega
    · have := Int.mul_neg_of_neg_of_pos u v; have nv : ¬ b < 0 := by omega
      simp [u, nv, this]
    · have := Int.mul_neg_of_pos_of_neg u v; have nu : ¬ a < 0 := by omega
      simp [nu, v, this]
    · have := Int.mul_pos u v; have nu : ¬ a < 0 := by omega
      have nv : ¬ b < 0 := by omega
      simp [nu, nv]; omega
theorem is_order (x y : Nat) (a b : Int) (hx : Is x a) (hy : Is y b) : double.order x y = some (compare a b) := by
  obtain ⟨s, m, i, h1, e1⟩ := hx
  obtain ⟨t, n, j, h2, e2⟩ := hy
  obtain ⟨k, hk, t1, t2⟩ := sum_total a b s t m n i j e1 e2
  unfold Format.order
  rw [h1, h2]
  simp only [Datum.order]
  rw [t1, t2]
  congr 1
  have hp := pow_pos k
  rcases Int.lt_trichotomy a b with h | h | h
  · have := Int.mul_lt_mul_of_pos_right h hp
    rw [Int.compare_eq_lt.2 h, Int.compare_eq_lt.2 this]
  · subst h; simp
  · have := Int.mul_lt_mul_of_pos_right h hp
    rw [Int.compare_eq_gt.2 h, Int.compare_eq_gt.2 this]
/-- of two words that stand for whole numbers '==' tells whether these are the same -/
theorem is_eq (x y : Nat) (a b : Int) (hx : Is x a) (hy : Is y b) (h : a = b) : (double.order x y == some .eq) = true := by
  rw [is_order x y a b hx hy, h]; simp
/-- what is no NaN is its own equal -/
theorem mul_comm (x y : Nat) : double.mul x y = double.mul y x := by
  unfold Format.mul
  congr 1
  cases double.read x <;> cases double.read y <;> simp [Datum.product, Bool.xor_comm, Nat.mul_comm, Int.add_comm]
theorem add_comm (x y : Nat) : double.add x y = double.add y x := by
  unfold Format.add
  congr 1
  cases double.read x <;> cases double.read y <;> simp [Datum.sum, Bool.and_comm, Int.min_comm, Int.add_comm]
  · split <;> split <;> simp_all
end Go.Proofs.YtfobladliokfoaaDoor.flt
