/- token.Plain and token.Quote walk. -/
import Derived.Test.YtedbcmagjbgbjaaGreatDoorTkW
import Derived.Test.YtedbcmagjbgbjaaGreatDoorTkY
namespace Go.Proofs.YtedbcmagjbgbjaaGreatDoor.tk
open Go.ChangeShapes Go.WideShapes Go.ChangeAt Go.RowKit Go.Maps
open Go.Proofs.YtedbcmagjbgbjaaGreatDoor.kp Go.Proofs.YtedbcmagjbgbjaaGreatDoor.num Go.Proofs.YtedbcmagjbgbjaaGreatDoor.dec Go.Proofs.YtedbcmagjbgbjaaGreatDoor.onc
set_option linter.unusedVariables false
theorem catX (x y : List UInt8) : (⟨x.toArray⟩ : ByteArray) ++ ⟨y.toArray⟩ = ⟨(x ++ y).toArray⟩ := by
  apply ByteArray.ext; simp
set_option maxRecDepth 100000 in
set_option maxHeartbeats 4000000 in
theorem plain_any (S : List UInt8) (hS : S.length ≤ 65000) (w : World) (hv : VR w.heap.size w) :
    Calls Tryz.prog 155 #[.string ⟨S.toArray⟩] w fun e w' => e = .returned (.bool (plainB S)) ∧ Below w.heap.size w w' := by
  by_cases h0 : S = [91, 93]
  · subst h0
    have hp : plainB [91, 93] = true := rfl
    rw [hp]
    go_enter Tryz.func155, Tryz.ntmps155
    go_wp2_with fail
    go_ret; exact ⟨rfl, kp.br w⟩
  · have hne : (S == [91, 93]) = false := beq_eq_false_iff_ne.2 h0
    obtain ⟨ts, q, e, ha⟩ : ∃ ts q e, allT (S ++ [32]) = (ts, q, e) := ⟨_, _, _, rfl⟩
    have hA := all_is (S ++ [32]) ha (by simp; omega) w hv
    have c1 : (⟨S.toArray⟩ : ByteArray) ++ ⟨#[32]⟩ = ⟨(S ++ [32]).toArray⟩ := by rw [show (⟨#[32]⟩ : ByteArray) = ⟨[32].toArray⟩ from rfl, catX]
    rw [← c1] at hA
    clear c1
    have hp : plainB S = (match ((ts, q, e) : List Tk × Nat × Int) with
      | ([x], _, e) => decide (e = 0) && (decide (x.k = 1) && decide (x.t = S))
      | _ => false) := by
      show (if S = [91, 93] then true else match allT (S ++ [32]) with
        | ([x], _, e) => decide (e = 0) && (decide (x.k = 1) && decide (x.t = S))
        | _ => false) = _
      rw [if_neg h0, ha]
    generalize plainB S = P at hp ⊢
    have HP := Lib.hid (And.intro hp h0)
    clear hp h0 ha
    go_enter Tryz.func155, Tryz.ntmps155
    go_wp2_with fail
    with_reducible refine Calls.mono hA ?_; rintro x w1 ⟨⟨v1, rfl, t1⟩, b1⟩
    clear hA
    by_cases he : e = 0
    · subst he
      cases ts with
      | nil =>
        obtain ⟨a, c, rfl⟩ := t1.shape
        simp only [List.length_nil]
        go_wp2_with fail
        go_ret; exact ⟨by rw [HP.out.1]; rfl, b1⟩
      | cons x ts =>
        cases ts with
        | cons y ts =>
          obtain ⟨a, c, rfl⟩ := t1.shape
          have hd : decide ((((x :: y :: ts).length : Nat) : Int) = 1) = false := decide_eq_false (by simp only [List.length_cons]; omega)
          go_wp2_with fail
          go_ret; exact ⟨by rw [HP.out.1]; rfl, b1⟩
        | nil =>
          obtain ⟨g, c, rfl, -, -, k1⟩ := t1.at_ (by simp)
          have y0 : w1.cell? ⟨g, 0, none⟩ = some (.int .i64 x.k) := k1 0 (by simp)
          have y1 : w1.cell? ⟨g, 1, none⟩ = some (.string ⟨x.t.toArray⟩) := k1 1 (by simp)
          have i0 := fun w => ixT (g := g) (n := 1) (c := c) (k := 0) (by decide) w
          clear k1 t1
          simp only [List.length_cons, List.length_nil, Nat.zero_add]
          by_cases hk : x.k = 1
          · have hte := tl_dec x.t S.toArray S (by simp)
            have hdk : decide (x.k = 1) = true := decide_eq_true hk
            rw [hk] at y0
            go_wp2_with fail
            go_ret; refine ⟨?_, b1⟩
            rw [HP.out.1]
            simp [hk]
            by_cases h : x.t = S <;> simp [h]
          · have hdk : decide (x.k = 1) = false := decide_eq_false hk
            go_wp2_with fail
            go_ret; refine ⟨?_, b1⟩
            rw [HP.out.1]
            simp [hk]
    · have hd : decide (e = 0) = false := decide_eq_false he
      go_wp2_with fail
      go_ret; refine ⟨?_, b1⟩
      rw [HP.out.1]
      split
      · rename_i h; cases h; rw [hd]; rfl
      · rfl
set_option maxRecDepth 100000 in
set_option maxHeartbeats 4000000 in
theorem quote_any' (S : List UInt8) (hS : S.length ≤ 65000) (w : World) (hv : VR w.heap.size w) :
    Calls Tryz.prog 176 #[.string ⟨S.toArray⟩] w fun e w' => e = .returned (.string ⟨(quoteL S).toArray⟩) ∧ Below w.heap.size w w' := by
  have hp := plain_any S hS w hv
  cases hb : plainB S with
  | true =>
    rw [hb] at hp
    have hq : quoteL S = S := by unfold quoteL; rw [if_pos hb]
    rw [hq]
    clear hb hq
    go_enter Tryz.func176, Tryz.ntmps176
    go_wp2_with fail
    refine hp.mono ?_; rintro e w1 ⟨rfl, b1⟩
    go_wp2_with fail
    go_ret; exact ⟨rfl, b1⟩
  | false =>
    rw [hb] at hp
    have hq : quoteL S = 39 :: (S.flatMap qb ++ [39]) := by unfold quoteL; rw [if_neg (by rw [hb]; simp)]
    rw [hq]
    obtain ⟨T, hT⟩ : ∃ T, T = S.flatMap qb := ⟨_, rfl⟩
    have hTl : T.length ≤ 130000 := by rw [hT]; have := qbs_len S; omega
    rw [← hT]
    have HT := Lib.hid hT
    clear hT
    have c1 : (⟨#[39]⟩ : ByteArray) ++ ⟨T.toArray⟩ ++ ⟨#[39]⟩ = ⟨(39 :: (T ++ [39])).toArray⟩ := by rw [show (⟨#[39]⟩ : ByteArray) = ⟨[39].toArray⟩ from rfl, catX, catX]; rfl
    have HC := Lib.hid c1
    clear hb hq c1
    go_enter Tryz.func176, Tryz.ntmps176
    go_wp2_with fail
    refine hp.mono ?_; rintro e w1 ⟨rfl, b1⟩
    have B1 := Lib.hid b1
    clear b1
    go_wp2_with fail
    have hn := newReplacer_any (w := w1.alloc (.cells #[.string ⟨#[92]⟩, .string ⟨#[92, 92]⟩, .string ⟨#[10]⟩, .string ⟨#[92, 110]⟩, .string ⟨#[39]⟩, .string ⟨#[92, 39]⟩] 9)) (r := w1.heap.size) (World.news_of_block (heap_alloc_new w1 _))
    refine hn.mono ?_; rintro e w2 ⟨b, og, cap, row, rfl, hb, hon, hle, b2⟩
    have B2 := Lib.hid (B1.out.trans (((kp.ba w1 _).trans (b2.mono (by rw [alloc_size]; omega))).mono B1.out.size))
    have hr := replace_any S (by omega) hb hon
    rw [← HT.out] at hr
    have hbl : w.heap.size ≤ b := by have := B1.out.size; rw [alloc_size] at hle; omega
    have HB := Lib.hid hbl
    clear hn hb hon hle b2 hbl
    go_wp2_with fail
    refine hr.mono ?_; rintro e w3 ⟨rfl, k3⟩
    have B3 : Below w.heap.size w w3 := B2.out.trans (k3.to_below (fun i hi => by rw [hi]; exact HB.out) B2.out.size)
    clear k3 hr
    go_wp2_with fail
    go_ret
    exact ⟨by rw [← HC.out]; rfl, B3⟩
end Go.Proofs.YtedbcmagjbgbjaaGreatDoor.tk
