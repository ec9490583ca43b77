/- The contracts of the page's own calls on complex numbers. -/
import Derived.Test.YtljefgjbneefkaaCpx
namespace Go.Proofs.Ytljefgjbneefkaa.num
open Go.ChangeShapes Go.WideShapes Go.ChangeAt Go.RowKit
set_option linter.unusedVariables false
theorem clean_any (b : Nat) (w : World) : Calls Try.prog 36 #[.float .f64 b] w fun e w' => e = .returned (.float .f64 (cl1 b)) ∧ w = w' := by
  have h1 := run_frombits
  obtain ⟨t, ht⟩ : ∃ t, (Ieee.double.order b b == some .eq) = t := ⟨_, rfl⟩
  have Ht := Lib.hid ht
  have ht2 : (FloatKind.f64.format.order b b != some .eq) = !t := by rw [← ht]; rfl
  clear ht
  cases t
  · go_enter Try.func36, Try.ntmps36; go_wp2_with fail; go_ret; exact ⟨ret_f64 (by simp [cl1, Ht.out, nan64]), rfl⟩
  · go_enter Try.func36, Try.ntmps36; go_wp2_with fail; go_ret; exact ⟨ret_f64 (by simp [cl1, Ht.out]), rfl⟩
theorem raddC_any (p q r s : Nat) (w : World) :
    Calls Try.prog 28 #[.complex .f64 p q, .complex .f64 r s] w fun e w' => e = .returned (.complex .f64 (av .add p r) (av .add q s)) ∧ Grown w w' := by
  go_enter Try.func28, Try.ntmps28; go_wp2_with fail
  obtain ⟨u, w1, hr, g1, n1⟩ := float_run (P := Try.prog) .add (Or.inl rfl) 31 p r w
  rw [hr]; clear hr; go_wp2_with fail
  refine (clean_any u _).mono ?_; rintro e w' ⟨rfl, rfl⟩
  go_wp2_with fail
  obtain ⟨v, w2, hr, g2, n2⟩ := float_run (P := Try.prog) .add (Or.inl rfl) 31 q s w1
  rw [hr]; clear hr; go_wp2_with fail
  refine (clean_any v _).mono ?_; rintro e w' ⟨rfl, rfl⟩
  go_wp2_with fail; go_ret; exact ⟨ret_c (cl_nf n1) (cl_nf n2), grown_trans g1 g2⟩
theorem rwords_any (p q : Nat) (w : World) : Calls Try.prog 33 #[.complex .f64 p q] w fun e w' => e = .returned (.tuple #[.int .u64 (p : Int), .int .u64 (q : Int)]) ∧ w = w' := by
  have h1 := run_bits
  go_enter Try.func33, Try.ntmps33; go_wp2_with fail; go_ret2; exact ⟨rfl, rfl⟩
theorem same_any (p q r s : Nat) (w : World) (h1 : p = r) (h2 : q = s) : Calls Try.prog 25 #[.complex .f64 p q, .complex .f64 r s] w fun e w' => e = .returned (.bool true) ∧ w = w' := by
  subst h1 h2
  go_enter Try.func25, Try.ntmps25; go_wp2_with fail
  refine (rwords_any p q _).mono ?_; rintro e w' ⟨rfl, rfl⟩; go_wp2_with fail
  refine (rwords_any p q _).mono ?_; rintro e w' ⟨rfl, rfl⟩; go_wp2_with fail
  go_ret; exact ⟨rfl, rfl⟩
end Go.Proofs.Ytljefgjbneefkaa.num
