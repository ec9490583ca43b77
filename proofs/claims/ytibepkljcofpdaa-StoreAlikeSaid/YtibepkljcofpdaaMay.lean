/- Package term: what is asked of one node. -/
import Derived.Test.YtibepkljcofpdaaLie
import Derived.WalkKit
import Derived.Lib.SmallJoins
namespace Go.Proofs.Ytibepkljcofpdaa.may
open Go.ChangeShapes Go.WideShapes Go.ChangeAt Go.RowKit
open Go.Proofs.Ytibepkljcofpdaa.tm Go.Proofs.Ytibepkljcofpdaa.lie Go.Proofs.Ytibepkljcofpdaa.kp
def nmv (n : ByteArray) : Int := if 200 < n.size then 3 else 0
theorem mayName_any (n : ByteArray) (w : World) (hn : n.size ≤ 9223372036854775807) :
    Calls Try.prog 94 #[.string n] w fun e w' => e = .returned (.int .i64 (nmv n)) ∧ w = w' := by
  by_cases h : 200 < n.size
  · have hd : decide (((n.size : Nat) : Int) > 200) = true := by simp; omega
    go_enter Try.func94, Try.ntmps94
    go_wp2_with fail
    go_ret
    exact ⟨ri (by rw [nmv, if_pos h]), rfl⟩
  · go_enter Try.func94, Try.ntmps94
    go_wp2_with fail
    go_ret
    exact ⟨ri (by rw [nmv, if_neg h]), rfl⟩
def chkv (k : Int) (n : ByteArray) (i : Int) (len : Nat) : Int :=
  if k = 1 then (if i < 0 then 1 else 0) else if k = 2 then nmv n else if k = 3 then 0 else if k = 4 then 0
    else if k = 5 then (if len = 0 then 1 else if 20 < len then 3 else nmv n) else 1
set_option maxHeartbeats 1000000 in
theorem mayNode_any (k : Int) (n : ByteArray) (i re im : Int) (a : Option Addr) (len c : Nat) (w : World) (f : Fit k n i re im len c) :
    Calls Try.prog 80 #[.agg #[.int .i64 k, .string n, .int .i64 i, .int .u64 re, .int .u64 im, .slice a len c]] w fun e w' => e = .returned (.int .i64 (chkv k n i len)) ∧ Below w.heap.size w w' := by
  obtain ⟨k0, k1, n1, i0, i1, r0, r1, m0, m1, l1, c1⟩ := f
  by_cases h1 : k = 1
  · subst h1
    by_cases hi : i < 0
    all_goals
      go_enter Try.func80, Try.ntmps80
      go_wp2_with fail
      go_ret
      exact ⟨ri (by simp [chkv]; omega), ba _ _⟩
  by_cases h2 : k = 2
  · subst h2
    go_enter Try.func80, Try.ntmps80
    go_wp2_with fail
    refine (mayName_any n _ n1).mono ?_
    rintro e w' ⟨rfl, rfl⟩
    go_wp2_with fail
    go_ret
    exact ⟨ri (by simp [chkv]), ba _ _⟩
  by_cases h3 : k = 3
  · subst h3
    go_enter Try.func80, Try.ntmps80
    go_wp2_with fail
    go_ret
    exact ⟨ri (by simp [chkv]), ba _ _⟩
  by_cases h4 : k = 4
  · subst h4
    go_enter Try.func80, Try.ntmps80
    go_wp2_with fail
    go_ret
    exact ⟨ri (by simp [chkv]), ba _ _⟩
  by_cases h5 : k = 5
  · subst h5
    by_cases g0 : len = 0
    · subst g0
      go_enter Try.func80, Try.ntmps80
      go_wp2_with fail
      go_ret
      exact ⟨ri (by simp [chkv]), ba _ _⟩
    have g0' : ((len : Int) == 0) = false := by rw [beq_eq_false_iff_ne]; omega
    by_cases g1 : 20 < len
    · go_enter Try.func80, Try.ntmps80
      go_wp2_with fail
      go_ret
      exact ⟨ri (by simp [chkv, g0, g1]), ba _ _⟩
    · go_enter Try.func80, Try.ntmps80
      go_wp2_with fail
      refine (mayName_any n _ n1).mono ?_
      rintro e w' ⟨rfl, rfl⟩
      go_wp2_with fail
      go_ret
      exact ⟨ri (by simp [chkv, g0]; intro _; omega), ba _ _⟩
  have e1 : (k == 1) = false := by rw [beq_eq_false_iff_ne]; exact h1
  have e2 : (k == 2) = false := by rw [beq_eq_false_iff_ne]; exact h2
  have e3 : (k == 3) = false := by rw [beq_eq_false_iff_ne]; exact h3
  have e4 : (k == 4) = false := by rw [beq_eq_false_iff_ne]; exact h4
  have e5 : (k == 5) = false := by rw [beq_eq_false_iff_ne]; exact h5
  have H : Hid _ := Lib.hid (And.intro h1 (And.intro h2 (And.intro h3 (And.intro h4 h5))))
  clear h1 h2 h3 h4 h5
  go_enter Try.func80, Try.ntmps80
  go_wp2_with fail
  go_ret
  obtain ⟨h1, h2, h3, h4, h5⟩ := H.out
  exact ⟨ri (by simp [chkv, h1, h2, h3, h4, h5]), ba _ _⟩
theorem chkv_chk (k : Int) (n : ByteArray) (i re im : Int) (l : List Tm) : chkv k n i l.length = chk (.mk k n i re im l) := by simp only [chkv, chk, nmv]
end Go.Proofs.Ytibepkljcofpdaa.may
