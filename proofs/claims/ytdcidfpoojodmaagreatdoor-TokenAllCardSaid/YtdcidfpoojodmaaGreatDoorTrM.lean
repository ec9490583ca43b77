/- The reference's Plain and Quote. -/
import Derived.Test.YtdcidfpoojodmaaGreatDoorTrL
import Derived.Test.YtdcidfpoojodmaaGreatDoorTrE
import Derived.Test.YtdcidfpoojodmaaGreatDoorTkX
import Derived.Test.YtdcidfpoojodmaaGreatDoorTrD
import Derived.Test.YtdcidfpoojodmaaGreatDoorTkP
namespace Go.Proofs.YtdcidfpoojodmaaGreatDoor.tr
open Go.ChangeShapes Go.WideShapes Go.ChangeAt Go.RowKit Go.Maps
open Go.Proofs.YtdcidfpoojodmaaGreatDoor.kp Go.Proofs.YtdcidfpoojodmaaGreatDoor.num Go.Proofs.YtdcidfpoojodmaaGreatDoor.dec Go.Proofs.YtdcidfpoojodmaaGreatDoor.tk
set_option linter.unusedVariables false
theorem rall_is (S : List UInt8) {ts : List Tk} {q : Nat} {e : Int} (ha : allT S = (ts, q, e)) (hS : S.length ≤ 140737488351232) (w : World) :
    Calls Tryz.prog 6 #[.string ⟨S.toArray⟩] w fun x w' => (∃ v, x = .returned (.tuple #[v, .int .i64 (q : Int), .int .i64 e]) ∧ Toks w.heap.size w' v ts) ∧ Below w.heap.size w w' := by
  have h := rall_any S hS w
  unfold AllEnd at h
  rw [ha] at h
  exact h
set_option maxRecDepth 100000 in
set_option maxHeartbeats 4000000 in
theorem rplain_any (S : List UInt8) (hS : S.length ≤ 65000) (w : World) :
    Calls Tryz.prog 9 #[.string ⟨S.toArray⟩] w fun e w' => e = .returned (.bool (plainB S)) ∧ Below w.heap.size w w' := by
  by_cases h0 : S = [91, 93]
  · subst h0
    have hp : plainB [91, 93] = true := rfl
    rw [hp]
    go_enter Tryz.func9, Tryz.ntmps9
    go_wp2_with fail
    go_ret; exact ⟨rfl, kp.br w⟩
  · have hne : (S == [91, 93]) = false := beq_eq_false_iff_ne.2 h0
    obtain ⟨ts, q, e, ha⟩ : ∃ ts q e, allT (S ++ [32]) = (ts, q, e) := ⟨_, _, _, rfl⟩
    have hA := rall_is (S ++ [32]) ha (by simp; omega) w
    have c1 : (⟨S.toArray⟩ : ByteArray) ++ ⟨#[32]⟩ = ⟨(S ++ [32]).toArray⟩ := by rw [show (⟨#[32]⟩ : ByteArray) = ⟨[32].toArray⟩ from rfl, catX]
    rw [← c1] at hA
    clear c1
    have hp : plainB S = (match ((ts, q, e) : List Tk × Nat × Int) with
      | ([x], _, e) => decide (e = 0) && (decide (x.k = 1) && decide (x.t = S))
      | _ => false) := by
      show (if S = [91, 93] then true else match allT (S ++ [32]) with
        | ([x], _, e) => decide (e = 0) && (decide (x.k = 1) && decide (x.t = S))
        | _ => false) = _
      rw [if_neg h0, ha]
    generalize plainB S = P at hp ⊢
    have HP := Lib.hid (And.intro hp h0)
    clear hp h0 ha
    go_enter Tryz.func9, Tryz.ntmps9
    go_wp2_with fail
    with_reducible refine Calls.mono hA ?_; rintro x w1 ⟨⟨v1, rfl, t1⟩, b1⟩
    clear hA
    by_cases he : e = 0
    · subst he
      cases ts with
      | nil =>
        obtain ⟨a, c, rfl⟩ := t1.shape
        simp only [List.length_nil]
        go_wp2_with fail
        go_ret; exact ⟨by rw [HP.out.1]; rfl, b1⟩
      | cons x ts =>
        cases ts with
        | cons y ts =>
          obtain ⟨a, c, rfl⟩ := t1.shape
          have hd : decide ((((x :: y :: ts).length : Nat) : Int) = 1) = false := decide_eq_false (by simp only [List.length_cons]; omega)
          go_wp2_with fail
          go_ret; exact ⟨by rw [HP.out.1]; rfl, b1⟩
        | nil =>
          obtain ⟨g, c, rfl, -, -, k1⟩ := t1.at_ (by simp)
          have y0 : w1.cell? ⟨g, 0, none⟩ = some (.int .i64 x.k) := k1 0 (by simp)
          have y1 : w1.cell? ⟨g, 1, none⟩ = some (.string ⟨x.t.toArray⟩) := k1 1 (by simp)
          have i0 := fun w => ixT (g := g) (n := 1) (c := c) (k := 0) (by decide) w
          clear k1 t1
          simp only [List.length_cons, List.length_nil, Nat.zero_add]
          by_cases hk : x.k = 1
          · have hte := tl_dec x.t S.toArray S (by simp)
            have hdk : decide (x.k = 1) = true := decide_eq_true hk
            rw [hk] at y0
            go_wp2_with fail
            go_ret; refine ⟨?_, b1⟩
            rw [HP.out.1]
            simp [hk]
            by_cases h : x.t = S <;> simp [h]
          · have hdk : decide (x.k = 1) = false := decide_eq_false hk
            go_wp2_with fail
            go_ret; refine ⟨?_, b1⟩
            rw [HP.out.1]
            simp [hk]
    · have hd : decide (e = 0) = false := decide_eq_false he
      go_wp2_with fail
      go_ret; refine ⟨?_, b1⟩
      rw [HP.out.1]
      split
      · rename_i h; cases h; rw [hd]; rfl
      · rfl
set_option maxRecDepth 100000 in
set_option maxHeartbeats 4000000 in
theorem rquoteF_any (S : List UInt8) (hS : S.length ≤ 65000) (w : World) :
    Calls Tryz.prog 11 #[.string ⟨S.toArray⟩] w fun e w' => e = .returned (.string ⟨(quoteL S).toArray⟩) ∧ Below w.heap.size w w' := by
  have hp := rplain_any S hS w
  cases hb : plainB S with
  | true =>
    rw [hb] at hp
    have hq : quoteL S = S := by unfold quoteL; rw [if_pos hb]
    rw [hq]
    clear hb hq
    go_enter Tryz.func11, Tryz.ntmps11
    go_wp2_with fail
    refine hp.mono ?_; rintro e w1 ⟨rfl, b1⟩
    go_wp2_with fail
    go_ret; exact ⟨rfl, b1⟩
  | false =>
    rw [hb] at hp
    have hq : quoteL S = 39 :: (S.flatMap qb ++ [39]) := by unfold quoteL; rw [if_neg (by rw [hb]; simp)]
    rw [hq]
    have hqd := Lib.hid (fun w => quoted_any S (by omega) w)
    clear hb hq
    go_enter Tryz.func11, Tryz.ntmps11
    go_wp2_with fail
    refine hp.mono ?_; rintro e w1 ⟨rfl, b1⟩
    have B1 := Lib.hid b1
    clear b1
    go_wp2_with fail
    refine (hqd.out _).mono ?_; rintro e w2 ⟨rfl, rfl⟩
    go_wp2_with fail
    go_ret; exact ⟨rfl, B1.out⟩
end Go.Proofs.YtdcidfpoojodmaaGreatDoor.tr
