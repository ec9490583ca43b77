/- What the laws of heaps share: ref, awake. -/
import Derived.Test.YthcfbolakjgfgaaHeap
namespace Go.Proofs.Ythcfbolakjgfgaa.hp
open Go.ChangeShapes Go.WideShapes Go.ChangeAt Go.RowKit Go.Maps
open Go.Proofs.Ythcfbolakjgfgaa.kp Go.Proofs.Ythcfbolakjgfgaa.cel
set_option linter.unusedVariables false
theorem ref_any (n : Int) (w : World) (h0 : 0 ≤ n) (h1 : n ≤ 1048576) : Calls Try.prog 23 #[.int .i64 n] w fun e w' => e = .returned (.int .u64 (n * 8)) ∧ w = w' := by
  have hm := rmake_any 0 n w (by omega) (by omega) ⟨by omega, by omega⟩
  rw [show jn 0 n = n * 8 by unfold jn; omega] at hm
  go_enter Try.func23, Try.ntmps23; go_wp2_with fail
  refine hm.mono ?_; rintro e w' ⟨rfl, rfl⟩
  go_wp2_with fail
  go_ret
  exact ⟨rfl, rfl⟩
theorem awake_any (w : World) : Calls Try.prog 22 #[] w fun e w' => e = .returned (.bool true) ∧ Below w.heap.size w w' := by
  go_enter Try.func22, Try.ntmps22
  go_wp2_with fail
  refine (new_any 9 w).mono ?_; rintro e w1 ⟨rfl, F, h1, b1, s1⟩
  rw [show max 0 (min 9 1048576) = (9 : Int) by decide] at h1
  have B1 := Lib.hid b1; have S1 := Lib.hid s1
  have hv := var_any h1
  rw [show pv [] 9 = 0 by decide, show pe [] 9 = 0 by decide, show px [] 9 (([] : List Int).length * 8) = [0] by decide] at hv
  clear h1 b1 s1
  go_wp2_with fail
  refine hv.mono ?_; rintro e w2 ⟨rfl, F2, h2, k2, s2⟩
  have K2 := Lib.hid k2; have S2 := Lib.hid s2
  have hp := push_any h2 0 ⟨by omega, by omega⟩
  rw [show pv [0] 9 = 1 by decide, show pe [0] 9 = 0 by decide, show px [0] 9 0 = [0, 0] by decide] at hp
  clear h2 k2 s2
  go_wp2_with fail
  refine (ref_any 0 _ (by omega) (by omega)).mono ?_; rintro e w' ⟨rfl, rfl⟩
  go_wp2_with fail
  refine hp.mono ?_; rintro e w3 ⟨rfl, F3, h3, k3, s3⟩
  have K3 := Lib.hid k3; have S3 := Lib.hid s3
  have hd := deref_any h3 8 ⟨by omega, by omega⟩
  rw [show dr [0, 0] ([0, 0] : List Int).length 8 = 0 by decide] at hd
  clear h3 k3 s3
  go_wp2_with fail
  refine (ref_any 1 _ (by omega) (by omega)).mono ?_; rintro e w' ⟨rfl, rfl⟩
  go_wp2_with fail
  refine hd.mono ?_; rintro e w' ⟨rfl, rfl⟩
  go_wp2_with fail
  refine (ref_any 0 _ (by omega) (by omega)).mono ?_; rintro e w' ⟨rfl, rfl⟩
  go_wp2_with fail
  go_ret
  have z1 := B1.out.size
  have z2 := K2.out.size
  have q2 : ∀ i, F2 i → w.heap.size ≤ i := fun i hi => (S2.out i hi).elim (S1.out i) (by omega)
  exact ⟨rfl, (B1.out.trans (K2.out.to_below S1.out z1)).trans (K3.out.to_below q2 (by omega))⟩
end Go.Proofs.Ythcfbolakjgfgaa.hp
