/- Decimals as lists of bytes: their form, their value. Imports no translation. -/
import Derived.Lib.ParseIntB
import Derived.Lib.ItoaNum
import Derived.Lib.Hide
namespace Go.Proofs.YtedbcmagjbgbjaaGreatDoor.dec
def isD (c : UInt8) : Bool := decide (48 ≤ c.toNat) && decide (c.toNat ≤ 57)
/-- what stands behind a sign -/
def bd : List UInt8 → List UInt8
  | [] => []
  | c :: r => if c.toNat = 45 then r else c :: r
/-- is it a decimal? -/
def ok (l : List UInt8) : Bool := !(bd l).isEmpty && !((bd l).head? == some 48 && l != [48]) && (bd l).all isD
def val (acc : Nat) (l : List UInt8) : Nat := l.foldl (fun a c => a * 10 + (c.toNat - 48)) acc
def neg (l : List UInt8) : Bool := l.head? == some 45
/-- the number that a decimal spells -/
def num (l : List UInt8) : Int := if neg l then -(val 0 (bd l) : Int) else (val 0 (bd l) : Int)

theorem val_le (l : List UInt8) : ∀ acc, acc ≤ val acc l := by
  induction l with
  | nil => intro acc; exact Nat.le_refl _
  | cons c r ih => intro acc; have := ih (acc * 10 + (c.toNat - 48)); simp only [val, List.foldl_cons] at *; omega
theorem val_cons (acc : Nat) (c : UInt8) (r : List UInt8) : val acc (c :: r) = val (acc * 10 + (c.toNat - 48)) r := by simp only [val, List.foldl_cons]
theorem val_append (acc : Nat) (l : List UInt8) (c : UInt8) : val acc (l ++ [c]) = val acc l * 10 + (c.toNat - 48) := by simp [val]
theorem step_lt (acc d p v : Nat) (hd : d ≤ 9) (h : v < (acc * 10 + d + 1) * p) : v < (acc + 1) * (p * 10) := by
  have h2 : (acc * 10 + d + 1) * p ≤ ((acc + 1) * 10) * p := Nat.mul_le_mul_right p (by omega)
  have h3 : ((acc + 1) * 10) * p = (acc + 1) * (p * 10) := by rw [Nat.mul_assoc, Nat.mul_comm 10]
  omega
theorem val_lt (l : List UInt8) (h : l.all isD = true) : ∀ acc, val acc l < (acc + 1) * 10 ^ l.length := by
  induction l with
  | nil => intro acc; rw [List.length_nil, Nat.pow_zero, Nat.mul_one]; exact Nat.lt_succ_self _
  | cons c r ih =>
    intro acc
    rw [List.all_cons, Bool.and_eq_true] at h
    have h1 : 48 ≤ c.toNat ∧ c.toNat ≤ 57 := by have := h.1; simpa [isD] using this
    have h2 := ih h.2 (acc * 10 + (c.toNat - 48))
    rw [val_cons, List.length_cons, Nat.pow_succ]
    exact step_lt acc (c.toNat - 48) _ _ (by omega) h2
theorem val_ge (l : List UInt8) : ∀ acc, acc * 10 ^ l.length ≤ val acc l := by
  induction l with
  | nil => intro acc; rw [List.length_nil, Nat.pow_zero, Nat.mul_one]; exact Nat.le_refl _
  | cons c r ih =>
    intro acc
    have h1 := ih (acc * 10 + (c.toNat - 48))
    rw [val_cons, List.length_cons, Nat.pow_succ]
    generalize 10 ^ r.length = p at *
    have h2 : acc * 10 * p ≤ (acc * 10 + (c.toNat - 48)) * p := Nat.mul_le_mul_right _ (by omega)
    have h3 : acc * 10 * p = acc * (p * 10) := by rw [Nat.mul_assoc, Nat.mul_comm 10]
    omega
theorem parseM_digits (M : Nat) (hM : M = 18446744073709551615) (l : List UInt8) (h : l.all isD = true) : ∀ acc, Lib.parseUintM M acc l = if acc ≤ M ∧ val acc l ≤ M then .ok (val acc l) else if l = [] then .ok acc else .range := by
  induction l with
  | nil => intro acc; simp [Lib.parseUintM, val]
  | cons c r ih =>
    intro acc
    simp only [List.all_cons, Bool.and_eq_true, isD, decide_eq_true_eq] at h
    have hv := val_le r (acc * 10 + (c.toNat - 48))
    rw [Lib.parseUintM, if_pos h.1, ih (by simpa [isD] using h.2), val_cons]
    by_cases h1 : 1844674407370955162 ≤ acc
    · rw [if_pos h1, if_neg (by omega), if_neg (by simp)]
    · rw [if_neg h1]
      by_cases h2 : M < acc * 10 + (c.toNat - 48)
      · rw [if_pos h2, if_neg (by omega), if_neg (by simp)]
      · rw [if_neg h2]
        by_cases h3 : val (acc * 10 + (c.toNat - 48)) r ≤ M
        · rw [if_pos ⟨by omega, h3⟩, if_pos ⟨by omega, h3⟩]
        · rw [if_neg (fun z => h3 z.2), if_neg (show ¬ (acc ≤ M ∧ val (acc * 10 + (c.toNat - 48)) r ≤ M) from fun z => h3 z.2)]
          cases r with
          | nil => exact absurd (show val (acc * 10 + (c.toNat - 48)) [] ≤ M from by show acc * 10 + (c.toNat - 48) ≤ M; omega) h3
          | cons => rw [if_neg (by simp), if_neg (by simp)]
/-- what strconv.ParseInt makes of a decimal: its number, or that it is out of range -/
theorem parse_ok (l : List UInt8) (h : ok l = true) : Lib.parseIntB 64 l = if -9223372036854775808 ≤ num l ∧ num l ≤ 9223372036854775807 then .ok (num l) else .range := by
  simp only [ok, Bool.and_eq_true, Bool.not_eq_true'] at h
  obtain ⟨⟨h1, h2⟩, h3⟩ := h
  cases l with
  | nil => simp [bd] at h1
  | cons c r =>
    have hc43 : ¬ c.toNat = 43 := by
      intro e
      have : ¬ c.toNat = 45 := by omega
      simp [bd, this, isD] at h3
      omega
    have e1 : (if c.toNat = 43 ∨ c.toNat = 45 then r else c :: r) = bd (c :: r) := by
      simp [bd, hc43]
    have e2 : neg (c :: r) = decide (c.toNat = 45) := by
      have : (c == (45 : UInt8)) = decide (c.toNat = 45) := by
        rw [Bool.eq_iff_iff, beq_iff_eq, decide_eq_true_eq]
        exact ⟨fun e => by rw [e]; rfl, fun e => UInt8.toNat_inj.1 e⟩
      simp only [neg, List.head?_cons]
      rw [← this]; rfl
    have hne : bd (c :: r) ≠ [] := by intro e; rw [e] at h1; simp at h1
    have hp : Lib.parseUintB 64 (bd (c :: r)) = if val 0 (bd (c :: r)) ≤ 18446744073709551615 then .ok (val 0 (bd (c :: r))) else .range := by
      unfold Lib.parseUintB
      rw [if_neg hne, parseM_digits (2 ^ 64 - 1) (by decide) _ h3]
      rw [show (2 : Nat) ^ 64 - 1 = 18446744073709551615 from by decide, if_neg hne]
      by_cases q : val 0 (bd (c :: r)) ≤ 18446744073709551615
      · rw [if_pos ⟨by omega, q⟩, if_pos q]
      · rw [if_neg (fun z => q z.2), if_neg q]
    unfold Lib.parseIntB num
    simp only [e1, e2, hp]
    rw [show (2 : Nat) ^ (64 - 1) = 9223372036854775808 from by decide]
    generalize val 0 (bd (c :: r)) = v
    by_cases q : v ≤ 18446744073709551615
    · rw [if_pos q]
      by_cases hn : c.toNat = 45
      · simp only [hn, decide_true, not_true_eq_false, false_and, if_false, true_and, if_true]
        by_cases z : 9223372036854775808 < v
        · rw [if_pos z, if_neg (by omega)]
        · rw [if_neg z, if_pos (by omega)]
      · simp only [hn, decide_false, not_false_eq_true, true_and, false_and, if_false]
        by_cases z : 9223372036854775808 ≤ v
        · rw [if_pos z, if_neg (by simp; omega)]
        · rw [if_neg z, if_pos (by simp; omega)]; simp
    · rw [if_neg q]
      by_cases hn : c.toNat = 45
      · simp only [hn, decide_true, if_true]; rw [if_neg (by omega)]
      · simp only [hn, decide_false]; rw [if_neg (by simp; omega)]
theorem eq48 (c : UInt8) (h : c.toNat = 48) : c = 48 := UInt8.toNat_inj.1 h
theorem eq45 (c : UInt8) (h : c.toNat = 45) : c = 45 := UInt8.toNat_inj.1 h
theorem ok_nil (l : List UInt8) (h : bd l = []) : ok l = false := by simp [ok, h]
theorem bd_of (l r : List UInt8) (c : UInt8) (h : bd l = c :: r) : l = c :: r ∨ l = 45 :: c :: r := by
  cases l with
  | nil => simp [bd] at h
  | cons x t =>
    simp only [bd] at h
    split at h
    · right; rename_i e; rw [eq45 x e, h]
    · left; exact h
theorem ok_z (l r : List UInt8) (c : UInt8) (h : bd l = c :: r) (hc : c.toNat = 48) (hr : r ≠ []) : ok l = false := by
  have h1 : (l != [48]) = true := by
    rw [bne_iff_ne]; intro e; rw [e] at h; simp [bd] at h; exact hr h.2
  simp [ok, h, eq48 c hc, h1]
theorem ok_go (l r : List UInt8) (c : UInt8) (h : bd l = c :: r) (hl : l ≠ [45, 48]) (hz : c.toNat = 48 → r = []) : ok l = (c :: r).all isD := by
  have h1 : ((bd l).head? == some 48 && l != [48]) = false := by
    rw [h, Bool.and_eq_false_iff]
    by_cases e : c.toNat = 48
    · right
      have := hz e
      subst this
      have := eq48 c e
      subst this
      rcases bd_of l [] 48 h with q | q
      · rw [q]; rfl
      · exact absurd q hl
    · left
      simp only [List.head?_cons]
      rw [beq_eq_false_iff_ne]
      intro q
      simp at q
      rw [q] at e; exact e rfl
  unfold ok; rw [h1, h]; simp
theorem ok_go2 (l r : List UInt8) (c : UInt8) (h : bd l = c :: r) (hz : c.toNat = 48 → l = [48]) : ok l = (c :: r).all isD := by
  refine ok_go l r c h ?_ ?_
  · rintro rfl
    simp [bd] at h
    have := hz (by rw [← h.1]; rfl)
    simp at this
  · intro e
    have := hz e
    subst this
    simp [bd] at h
    first | exact h.2 | exact h.2.symm
theorem ok_z2 (l r : List UInt8) (c : UInt8) (h : bd l = c :: r) (hc : c.toNat = 48) (hl : l ≠ [48]) : ok l = false := by
  have h1 : (l != [48]) = true := by rw [bne_iff_ne]; exact hl
  simp [ok, h, eq48 c hc, h1]
/-- the first k are digits -/
theorem all_take (d : List UInt8) (k : Nat) (hk : k < d.length) (h : (d.take k).all isD = true) : (d.take (k + 1)).all isD = isD d[k] := by
  rw [List.take_succ_eq_append_getElem hk, List.all_append, h]; simp
theorem all_no (d : List UInt8) (k : Nat) (hk : k < d.length) (h : isD d[k] = false) : d.all isD = false := by
  rw [List.all_eq_false]; exact ⟨d[k], List.getElem_mem hk, by simp [h]⟩
end Go.Proofs.YtedbcmagjbgbjaaGreatDoor.dec
