/- The reference's quoted. -/
import Derived.Test.YtdcidfpoojodmaaGreatDoorTrA
namespace Go.Proofs.YtdcidfpoojodmaaGreatDoor.tr
open Go.ChangeShapes Go.WideShapes Go.ChangeAt Go.RowKit Go.Maps
open Go.Proofs.YtdcidfpoojodmaaGreatDoor.kp Go.Proofs.YtdcidfpoojodmaaGreatDoor.num Go.Proofs.YtdcidfpoojodmaaGreatDoor.dec Go.Proofs.YtdcidfpoojodmaaGreatDoor.tk
set_option linter.unusedVariables false
set_option linter.unusedSimpArgs false
theorem cat_l (a b : List UInt8) : (⟨a.toArray⟩ : ByteArray) ++ ⟨b.toArray⟩ = ⟨(a ++ b).toArray⟩ := by
  apply ByteArray.ext; simp
theorem qb_le (l : List UInt8) : (l.flatMap qb).length ≤ 2 * l.length := by
  induction l with
  | nil => simp
  | cons c r ih =>
    have : (qb c).length ≤ 2 := by
      unfold qb
      by_cases h1 : c = 92
      · simp [h1]
      · by_cases h2 : c = 10
        · simp [h2]
        · by_cases h3 : c = 39 <;> simp [h1, h2, h3]
    simp only [List.flatMap_cons, List.length_append, List.length_cons]; omega
def RQ (w : World) (S : List UInt8) (g : Nat) (s3 s7 : Value) (wr : World) : Prop :=
  ∃ k : Nat, k ≤ S.length ∧ g = S.length - k ∧ s3 = .string ⟨(39 :: (S.take k).flatMap qb).toArray⟩ ∧ s7 = .int .i64 k ∧ w = wr
theorem qb_next {S : List UInt8} {k : Nat} (hk : k < S.length) : 39 :: (S.take (k + 1)).flatMap qb = (39 :: (S.take k).flatMap qb) ++ qb S[k] := by
  rw [List.take_succ_eq_append_getElem hk, List.flatMap_append]; simp
set_option maxRecDepth 100000 in
set_option maxHeartbeats 8000000 in
theorem quoted_any (S : List UInt8) (hS : S.length ≤ 70000) (w : World) : Calls Tryz.prog 17 #[.string ⟨S.toArray⟩] w fun e w' => e = .returned (.string ⟨(39 :: (S.flatMap qb ++ [39])).toArray⟩) ∧ w = w' := by
  go_enter Tryz.func17, Tryz.ntmps17
  go_wp2_with fail
  go_loopg [3, 7] S.length (RQ w S)
  case atStart => exact ⟨0, by omega, by omega, rfl, rfl, rfl⟩
  case round =>
    obtain ⟨k, hk, rfl, rfl, rfl, rfl⟩ := hrel
    have hal0 : (39 :: (S.take k).flatMap qb).length ≤ 140001 := by
      have := qb_le (S.take k); rw [List.length_take] at this; simp only [List.length_cons]; omega
    generalize ha : 39 :: (S.take k).flatMap qb = acc at hal0
    by_cases hlt : k < S.length
    · have hd : decide ((k : Int) < S.length) = true := decide_eq_true (by omega)
      obtain ⟨c, hc⟩ : ∃ c, c = S[k] := ⟨_, rfl⟩
      have hb : ∀ h, (⟨S.toArray⟩ : ByteArray)[k]'h = c := fun h => by rw [hc]; show (S.toArray)[k]'_ = _; simp
      have hx : (⟨S.toArray⟩ : ByteArray).extract k (k + 1) = ⟨[c].toArray⟩ := by
        rw [ext_any, List.take_succ_eq_append_getElem hlt, List.drop_append_of_le_length (by simp; omega), hc]
        simp
      have HQ : Hid (39 :: (S.take (k + 1)).flatMap qb = acc ++ qb c) := Lib.hid (by rw [qb_next hlt, ha, hc])
      have hsl : ∀ w', Sem.run Tryz.prog (Instr.slice 9 (.string ⟨S.toArray⟩) (some (.int .i64 (k : Int))) (some (.int .i64 ((k : Int) + 1))) none) w' = .ok (.string ⟨[c].toArray⟩) w' := by
        intro w'
        have hz : (⟨S.toArray⟩ : ByteArray).size = S.length := rfl
        have e := run_slice_string (P := Tryz.prog) w' 9 ⟨S.toArray⟩ .i64 .i64 (k : Int) ((k : Int) + 1) Tryz.underlying9 (by omega) (by omega) (by rw [hz]; omega)
        rw [show ((k : Int) + 1).toNat = k + 1 by omega, show (k : Int).toNat = k by omega, hx] at e
        exact e
      have b1 : ((c.toNat : Int) == 92) = decide (c = 92) := beq_byte c 92 92 rfl
      have b2 : ((c.toNat : Int) == 10) = decide (c = 10) := beq_byte c 10 10 rfl
      have b3 : ((c.toNat : Int) == 39) = decide (c = 39) := beq_byte c 39 39 rfl
      have d1 := cat_l acc [92, 92]
      have d2 := cat_l acc [92, 110]
      have d3 := cat_l acc [92, 39]
      have d4 := cat_l acc [c]
      have key : (c = 92 ∧ qb c = [92, 92]) ∨ (c ≠ 92 ∧ c = 10 ∧ qb c = [92, 110]) ∨ (c ≠ 92 ∧ c ≠ 10 ∧ c = 39 ∧ qb c = [92, 39]) ∨ (c ≠ 92 ∧ c ≠ 10 ∧ c ≠ 39 ∧ qb c = [c]) := by
        unfold qb
        by_cases h1 : c = 92
        · exact Or.inl ⟨h1, by rw [if_pos h1]⟩
        · by_cases h2 : c = 10
          · exact Or.inr (Or.inl ⟨h1, h2, by rw [if_neg h1, if_pos h2]⟩)
          · by_cases h3 : c = 39
            · exact Or.inr (Or.inr (Or.inl ⟨h1, h2, h3, by rw [if_neg h1, if_neg h2, if_pos h3]⟩))
            · exact Or.inr (Or.inr (Or.inr ⟨h1, h2, h3, by rw [if_neg h1, if_neg h2, if_neg h3]⟩))
      clear hc ha
      rcases key with ⟨h1, hq⟩ | ⟨h1, h2, hq⟩ | ⟨h1, h2, h3, hq⟩ | ⟨h1, h2, h3, hq⟩
      all_goals
        rw [hq] at HQ
        first | simp only [h1, h2, h3, decide_true, decide_false] at b1 b2 b3 | simp only [h1, h2, decide_true, decide_false] at b1 b2 b3 | simp only [h1, decide_true, decide_false] at b1 b2 b3
        clear hq
        go_wp2_with fail
        go_roundg (S.length - (k + 1))
        case measure => omega
        case rel => exact ⟨k + 1, hlt, rfl, by rw [HQ.out], by first | rw [show wrap64 ((k : Int) + 1) = ((k + 1 : Nat) : Int) by unfold wrap64; omega] | rfl | simp, rfl⟩
    · have hkl : k = S.length := by omega
      subst hkl
      rw [List.take_length] at ha
      have hd : decide ((S.length : Int) < S.length) = false := by simp
      have d1 := cat_l acc [39]
      have HA : Hid (39 :: (S.flatMap qb ++ [39]) = acc ++ [39]) := Lib.hid (by rw [← ha]; simp)
      clear ha
      go_wp2_with fail
      go_ret
      exact ⟨by rw [HA.out]; rfl, rfl⟩
end Go.Proofs.YtdcidfpoojodmaaGreatDoor.tr
