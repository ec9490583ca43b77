/- A number's decimal is read back as the number. Imports no translation. -/
import Derived.Test.YtedbcmagjbgbjaaGreatDoorDec
namespace Go.Proofs.YtedbcmagjbgbjaaGreatDoor.dec
theorem dig_toNat (k : Nat) (h : k < 10) : (UInt8.ofNat (48 + k)).toNat = 48 + k := by rw [UInt8.toNat_ofNat']; omega
theorem dd_small (u : Nat) (h : u < 10) : Lib.decDigits u = [UInt8.ofNat (48 + u)] := by rw [Lib.decDigits, dif_pos h]
theorem dd_big (u : Nat) (h : ¬ u < 10) : Lib.decDigits u = Lib.decDigits (u / 10) ++ [UInt8.ofNat (48 + u % 10)] := by rw [Lib.decDigits, dif_neg h]
theorem dd_all (u : Nat) : (Lib.decDigits u).all isD = true := by
  induction u using Nat.strongRecOn with
  | ind u ih =>
    by_cases h : u < 10
    · rw [dd_small u h]; simp [isD]; omega
    · rw [dd_big u h, List.all_append, ih (u / 10) (by omega)]
      simp [isD]; omega
theorem dd_val (u : Nat) : val 0 (Lib.decDigits u) = u := by
  induction u using Nat.strongRecOn with
  | ind u ih =>
    by_cases h : u < 10
    · rw [dd_small u h]; simp only [val, List.foldl_cons, List.foldl_nil]; rw [dig_toNat u h]; omega
    · rw [dd_big u h, val_append, ih (u / 10) (by omega), dig_toNat (u % 10) (Nat.mod_lt _ (by omega))]; omega
theorem dd_head (u : Nat) : ∃ c r, Lib.decDigits u = c :: r ∧ (c.toNat = 48 → u = 0) := by
  induction u using Nat.strongRecOn with
  | ind u ih =>
    by_cases h : u < 10
    · rw [dd_small u h]; exact ⟨_, [], rfl, fun e => by rw [dig_toNat u h] at e; omega⟩
    · obtain ⟨c, r, hr, hc⟩ := ih (u / 10) (by omega)
      rw [dd_big u h, hr]
      exact ⟨c, r ++ [UInt8.ofNat (48 + u % 10)], rfl, fun e => by have := hc e; omega⟩
theorem dd_bd (u : Nat) : bd (Lib.decDigits u) = Lib.decDigits u := by
  obtain ⟨c, r, hr, _⟩ := dd_head u
  have h := dd_all u
  rw [hr] at h ⊢
  have h1 : 48 ≤ c.toNat := by
    rw [List.all_cons, Bool.and_eq_true] at h
    have := h.1; simp [isD] at this; omega
  simp only [bd]; rw [if_neg (by omega)]
theorem ok_back (n : Int) : ok (Lib.itoa n) = true ∧ num (Lib.itoa n) = n := by
  unfold Lib.itoa
  by_cases h : n < 0
  · rw [if_pos h]
    have hb : bd (45 :: Lib.decDigits n.natAbs) = Lib.decDigits n.natAbs := by simp [bd]
    obtain ⟨c, r, hr, hc⟩ := dd_head n.natAbs
    have hne : ¬ c.toNat = 48 := fun e => by have := hc e; omega
    constructor
    · rw [ok_go2 _ r c (by rw [hb, hr]) (fun e => absurd e hne), ← hr]; exact dd_all _
    · unfold num
      rw [if_pos (by rfl), hb, dd_val]; omega
  · rw [if_neg h]
    obtain ⟨c, r, hr, hc⟩ := dd_head n.toNat
    have hneg : ¬ neg (Lib.decDigits n.toNat) = true := by
      have h1 := dd_all n.toNat
      rw [hr] at h1 ⊢
      rw [List.all_cons, Bool.and_eq_true] at h1
      intro e
      simp [neg] at e
      rw [e] at h1; simp [isD] at h1
    constructor
    · rw [ok_go2 _ r c (by rw [dd_bd, hr]) (fun e => by have := hc e; rw [this, dd_small 0 (by omega)]; rfl), ← hr]; exact dd_all _
    · unfold num
      rw [if_neg hneg, dd_bd, dd_val]; omega
theorem itoa_len (n : Int) (h : -9223372036854775808 ≤ n ∧ n ≤ 9223372036854775807) : (Lib.itoa n).length ≤ 20 := by
  have hd : ∀ u : Nat, u < 10000000000000000000 → (Lib.decDigits u).length ≤ 19 := by
    intro u hu
    have key : ∀ k, ∀ u : Nat, u < 10 ^ (k + 1) → (Lib.decDigits u).length ≤ k + 1 := by
      intro k
      induction k with
      | zero => intro u hu; rw [dd_small u (by omega)]; simp
      | succ k ih =>
        intro u hu
        by_cases h : u < 10
        · rw [dd_small u h]; simp
        · rw [dd_big u h, List.length_append]
          have := ih (u / 10) (by rw [Nat.pow_succ] at hu; omega)
          simp; omega
    exact key 18 u (by rw [show (10 : Nat) ^ (18 + 1) = 10000000000000000000 from by decide]; exact hu)
  unfold Lib.itoa
  split
  · have := hd n.natAbs (by omega); simp; omega
  · have := hd n.toNat (by omega); omega
end Go.Proofs.YtedbcmagjbgbjaaGreatDoor.dec
