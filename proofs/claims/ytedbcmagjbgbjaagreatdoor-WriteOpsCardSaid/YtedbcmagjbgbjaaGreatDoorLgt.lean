/- The reference's Light: some answer, and nothing old has turned. -/
import Derived.Test.YtedbcmagjbgbjaaGreatDoorPl
namespace Go.Proofs.YtedbcmagjbgbjaaGreatDoor.lgt
set_option linter.unusedVariables false
open Go.ChangeShapes Go.WideShapes Go.ChangeAt Go.RowKit
open Go.Proofs.YtedbcmagjbgbjaaGreatDoor.tm Go.Proofs.YtedbcmagjbgbjaaGreatDoor.lie Go.Proofs.YtedbcmagjbgbjaaGreatDoor.kp Go.Proofs.YtedbcmagjbgbjaaGreatDoor.wlk Go.Proofs.YtedbcmagjbgbjaaGreatDoor.cur Go.Proofs.YtedbcmagjbgbjaaGreatDoor.rws Go.Proofs.YtedbcmagjbgbjaaGreatDoor.pln
def Lt (w : World) (e : Ending) (w' : World) : Prop := ∃ r : Int, e = .returned (.int .i64 r) ∧ -1 ≤ r ∧ r ≤ 4000 ∧ Below w.heap.size w w'
def LRel (w : World) (n g : Nat) (s2 s32 : Value) (wr : World) : Prop := ∃ (k : Nat) (r : Int), k ≤ n ∧ g = n - k ∧ s32 = .int .i64 k ∧ s2 = .int .i64 r ∧ 0 ≤ r ∧ r ≤ 4000 ∧ Below w.heap.size w wr
set_option maxRecDepth 100000 in
set_option maxHeartbeats 1000000 in
theorem light_any (t : Tm) : ∀ (v : Value) (d left : Int) (w : World), Lies No w t v → 0 ≤ d → d ≤ 1000 → -1 ≤ left → left ≤ 4000 → Calls Tryz.prog 51 #[v, .int .i64 d, .int .i64 left] w (Lt w) := by
  induction t using Tm.ind with
  | h k n i re im l ih =>
    intro v d left w ht hd0 hd1 hl0 hl1
    have IH := Lib.hid ih
    have HT := Lib.hid ht
    rw [Lies] at ht
    obtain ⟨a, c, rfl, hf, hr⟩ := ht
    have HR := Lib.hid (And.intro hf hr)
    clear hf hr ih
    by_cases g1 : left < 1
    · go_enter Tryz.func51, Tryz.ntmps51
      go_wp2_with fail
      go_ret
      exact ⟨-1, rfl, by omega, by omega, ba w _⟩
    by_cases g2 : d > 700
    · go_enter Tryz.func51, Tryz.ntmps51
      go_wp2_with fail
      go_ret
      exact ⟨-1, rfl, by omega, by omega, ba w _⟩
    by_cases g3 : n.size > 400
    · have g3' : decide (((n.size : Nat) : Int) > 400) = true := by simp; omega
      go_enter Tryz.func51, Tryz.ntmps51
      go_wp2_with fail
      go_ret
      exact ⟨-1, rfl, by omega, by omega, ba w _⟩
    have g3' : decide (((n.size : Nat) : Int) > 400) = false := by simp; omega
    by_cases g4 : l.length > 60
    · have g4' : decide (((l.length : Nat) : Int) > 60) = true := by simp; omega
      go_enter Tryz.func51, Tryz.ntmps51
      go_wp2_with fail
      go_ret
      exact ⟨-1, rfl, by omega, by omega, ba w _⟩
    have g4' : decide (((l.length : Nat) : Int) > 60) = false := by simp; omega
    go_enter Tryz.func51, Tryz.ntmps51
    go_wp2_with fail
    go_loopg [2, 32] l.length (LRel w l.length)
    case atStart => exact ⟨0, left - 1, by omega, by omega, rfl, rfl, by omega, by omega, ba w _⟩
    case round =>
      obtain ⟨kk, r, hk, rfl, rfl, rfl, hr0, hr1, hb⟩ := hrel
      by_cases hlt : kk < l.length
      · obtain ⟨b, o, v0, v1, v2, v3, v4, v5, hbl, _, h6, hlx, hix⟩ := HR.out.2.look hlt
        have h6' := h6.keep (X := No) (Keep.of_below hb) id
        have hix' := hix c
        obtain ⟨kq, nq, iq, req, imq, lq, aq, cq, hv, _⟩ := lies_form hlx
        obtain ⟨rfl, rfl, rfl, rfl, rfl, rfl⟩ := hv
        obtain ⟨e0, e1, e2, e3, e4, e5⟩ := h6'
        have HX := Lib.hid (And.intro hlx (And.intro hb (IH.out _ (List.getElem_mem hlt))))
        clear h6 hlx hix hb
        go_wp2_with fail
        refine (HX.out.2.2 _ _ _ _ ((HX.out.1.below HX.out.2.1).below (ba _ _)) (by omega) (by omega) (by omega) (by omega)).mono ?_
        rintro e w3 ⟨r', rfl, q0, q1, hb3⟩
        have H3 := Lib.hid (HX.out.2.1.trans ((bt (ba wr _) hb3).mono HX.out.2.1.size))
        clear hb3 e0 e1 e2 e3 e4 e5
        by_cases hr' : r' < 0
        · go_wp2_with fail
          go_ret
          exact ⟨-1, rfl, by omega, by omega, H3.out⟩
        · go_wp2_with fail
          go_roundg (l.length - (kk + 1))
          case measure => omega
          case rel => exact ⟨kk + 1, r', hlt, rfl, by go_num, rfl, by omega, q1, H3.out⟩
      · have HB := Lib.hid hb
        clear hb
        go_wp2_with fail
        go_ret
        exact ⟨r, rfl, by omega, hr1, HB.out⟩
def LB (w : World) (e : Ending) (w' : World) : Prop := ∃ b : Bool, e = .returned (.bool b) ∧ Below w.heap.size w w'
def LRel2 (w : World) (n g : Nat) (s3 s8 : Value) (wr : World) : Prop := ∃ (k : Nat) (r : Int), k ≤ n ∧ g = n - k ∧ s8 = .int .i64 k ∧ s3 = .int .i64 r ∧ 0 ≤ r ∧ r ≤ 4000 ∧ Below w.heap.size w wr
set_option maxRecDepth 100000 in
set_option maxHeartbeats 1000000 in
theorem Light_any (l : List Tm) (a : Option Addr) (c : Nat) (w : World) (hr : TRow No w l a 0) (hl : l.length ≤ 1000000000) : Calls Tryz.prog 26 #[.slice a l.length c] w (LB w) := by
  have HR := Lib.hid hr
  clear hr
  go_enter Tryz.func26, Tryz.ntmps26
  go_wp2_with fail
  go_loopg [3, 8] l.length (LRel2 w l.length)
  case atStart => exact ⟨0, 4000, by omega, by omega, rfl, rfl, by omega, by omega, br w⟩
  case round =>
    obtain ⟨kk, r, hk, rfl, rfl, rfl, hr0, hr1, hb⟩ := hrel
    by_cases hlt : kk < l.length
    · obtain ⟨b, o, v0, v1, v2, v3, v4, v5, hbl, _, h6, hlx, hix⟩ := HR.out.look hlt
      have h6' := h6.keep (X := No) (Keep.of_below hb) id
      have hix' := hix c
      obtain ⟨kq, nq, iq, req, imq, lq, aq, cq, hv, _⟩ := lies_form hlx
      obtain ⟨rfl, rfl, rfl, rfl, rfl, rfl⟩ := hv
      obtain ⟨e0, e1, e2, e3, e4, e5⟩ := h6'
      have HX := Lib.hid (And.intro hlx hb)
      clear h6 hlx hix hb
      go_wp2_with fail
      refine (light_any _ _ _ _ _ ((HX.out.1.below HX.out.2).below (ba _ _)) (by omega) (by omega) (by omega) (by omega)).mono ?_
      rintro e w3 ⟨r', rfl, q0, q1, hb3⟩
      have H3 := Lib.hid (HX.out.2.trans ((bt (ba wr _) hb3).mono HX.out.2.size))
      clear hb3 e0 e1 e2 e3 e4 e5
      by_cases h100 : 100 ≤ kk
      · go_wp2_with fail
        go_ret
        exact ⟨false, rfl, H3.out⟩
      · by_cases hr' : r' < 0
        · go_wp2_with fail
          go_ret
          exact ⟨false, rfl, H3.out⟩
        · go_wp2_with fail
          go_roundg (l.length - (kk + 1))
          case measure => omega
          case rel => exact ⟨kk + 1, r', hlt, rfl, by go_num, rfl, by omega, q1, H3.out⟩
    · have HB := Lib.hid hb
      clear hb
      go_wp2_with fail
      go_ret
      exact ⟨true, rfl, HB.out⟩
end Go.Proofs.YtedbcmagjbgbjaaGreatDoor.lgt
