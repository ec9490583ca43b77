/- The contracts of the page's own calls on complex numbers. -/
import Derived.Test.YtljefgjbneefkaaDoorCpx
namespace Go.Proofs.YtljefgjbneefkaaDoor.num
open Go.ChangeShapes Go.WideShapes Go.ChangeAt Go.RowKit
set_option linter.unusedVariables false
theorem clean_any (b : Nat) (w : World) : Calls Tryd.prog 40 #[.float .f64 b] w fun e w' => e = .returned (.float .f64 (cl1 b)) ∧ w = w' := by
  have h1 := run_frombits
  obtain ⟨t, ht⟩ : ∃ t, (Ieee.double.order b b == some .eq) = t := ⟨_, rfl⟩
  have Ht := Lib.hid ht
  have ht2 : (FloatKind.f64.format.order b b != some .eq) = !t := by rw [← ht]; rfl
  clear ht
  cases t
  · go_enter Tryd.func40, Tryd.ntmps40; go_wp2_with fail; go_ret; exact ⟨ret_f64 (by simp [cl1, Ht.out, nan64]), rfl⟩
  · go_enter Tryd.func40, Tryd.ntmps40; go_wp2_with fail; go_ret; exact ⟨ret_f64 (by simp [cl1, Ht.out]), rfl⟩
theorem raddC_any (p q r s : Nat) (w : World) :
    Calls Tryd.prog 18 #[.complex .f64 p q, .complex .f64 r s] w fun e w' => e = .returned (.complex .f64 (av .add p r) (av .add q s)) ∧ Below w.heap.size w w' := by
  go_enter Tryd.func18, Tryd.ntmps18; go_wp2_with fail
  obtain ⟨u, w1, hr, g1, n1⟩ := float_run (P := Tryd.prog) .add (Or.inl rfl) 48 p r w
  rw [hr]; clear hr; go_wp2_with fail
  refine (clean_any u _).mono ?_; rintro e w' ⟨rfl, rfl⟩
  go_wp2_with fail
  obtain ⟨v, w2, hr, g2, n2⟩ := float_run (P := Tryd.prog) .add (Or.inl rfl) 48 q s w1
  rw [hr]; clear hr; go_wp2_with fail
  refine (clean_any v _).mono ?_; rintro e w' ⟨rfl, rfl⟩
  go_wp2_with fail; go_ret; exact ⟨ret_c (cl_nf n1) (cl_nf n2), bt g1 g2⟩
theorem rwords_any (p q : Nat) (w : World) : Calls Tryd.prog 38 #[.complex .f64 p q] w fun e w' => e = .returned (.tuple #[.int .u64 (p : Int), .int .u64 (q : Int)]) ∧ w = w' := by
  have h1 := run_bits
  go_enter Tryd.func38, Tryd.ntmps38; go_wp2_with fail; go_ret2; exact ⟨rfl, rfl⟩
theorem same_any (p q r s : Nat) (w : World) (h1 : p = r) (h2 : q = s) : Calls Tryd.prog 15 #[.complex .f64 p q, .complex .f64 r s] w fun e w' => e = .returned (.bool true) ∧ w = w' := by
  subst h1 h2
  go_enter Tryd.func15, Tryd.ntmps15; go_wp2_with fail
  refine (rwords_any p q _).mono ?_; rintro e w' ⟨rfl, rfl⟩; go_wp2_with fail
  refine (rwords_any p q _).mono ?_; rintro e w' ⟨rfl, rfl⟩; go_wp2_with fail
  go_ret; exact ⟨rfl, rfl⟩

theorem rsubC_any (p q r s : Nat) (w : World) :
    Calls Tryd.prog 20 #[.complex .f64 p q, .complex .f64 r s] w fun e w' => e = .returned (.complex .f64 (av .sub p r) (av .sub q s)) ∧ Below w.heap.size w w' := by
  go_enter Tryd.func20, Tryd.ntmps20; go_wp2_with fail
  obtain ⟨u, w1, hr, g1, n1⟩ := float_run (P := Tryd.prog) .sub (Or.inr (Or.inl rfl)) 48 p r w
  rw [hr]; clear hr; go_wp2_with fail
  refine (clean_any u _).mono ?_; rintro e w' ⟨rfl, rfl⟩
  go_wp2_with fail
  obtain ⟨v, w2, hr, g2, n2⟩ := float_run (P := Tryd.prog) .sub (Or.inr (Or.inl rfl)) 48 q s w1
  rw [hr]; clear hr; go_wp2_with fail
  refine (clean_any v _).mono ?_; rintro e w' ⟨rfl, rfl⟩
  go_wp2_with fail; go_ret; exact ⟨ret_c (cl_nf n1) (cl_nf n2), bt g1 g2⟩
theorem rmulC_any (p q r s : Nat) (w : World) :
    Calls Tryd.prog 22 #[.complex .f64 p q, .complex .f64 r s] w fun e w' => e = .returned (.complex .f64 (mre p q r s) (mim p q r s)) ∧ Below w.heap.size w w' := by
  go_enter Tryd.func22, Tryd.ntmps22; go_wp2_with fail
  obtain ⟨u1, w1, hr, g1, n1⟩ := float_run (P := Tryd.prog) .mul (Or.inr (Or.inr rfl)) 48 p r w
  rw [hr]; clear hr; go_wp2_with fail
  obtain ⟨u2, w2, hr, g2, n2⟩ := float_run (P := Tryd.prog) .mul (Or.inr (Or.inr rfl)) 48 q s w1
  rw [hr]; clear hr; go_wp2_with fail
  obtain ⟨u, w3, hr, g3, n3⟩ := float_run (P := Tryd.prog) .sub (Or.inr (Or.inl rfl)) 48 u1 u2 w2
  rw [hr]; clear hr; go_wp2_with fail
  refine (clean_any u _).mono ?_; rintro e w' ⟨rfl, rfl⟩
  go_wp2_with fail
  obtain ⟨v1, w4, hr, g4, m1⟩ := float_run (P := Tryd.prog) .mul (Or.inr (Or.inr rfl)) 48 p s w3
  rw [hr]; clear hr; go_wp2_with fail
  obtain ⟨v2, w5, hr, g5, m2⟩ := float_run (P := Tryd.prog) .mul (Or.inr (Or.inr rfl)) 48 q r w4
  rw [hr]; clear hr; go_wp2_with fail
  obtain ⟨v, w6, hr, g6, m3⟩ := float_run (P := Tryd.prog) .add (Or.inl rfl) 48 v1 v2 w5
  rw [hr]; clear hr; go_wp2_with fail
  refine (clean_any v _).mono ?_; rintro e w' ⟨rfl, rfl⟩
  go_wp2_with fail; go_ret
  exact ⟨ret_c (cl_nf (nf_on2 .sub (Or.inr rfl) n1 n2 n3)) (cl_nf (nf_on2 .add (Or.inl rfl) m1 m2 m3)), bt (bt (bt g1 g2) (bt g3 g4)) (bt g5 g6)⟩
theorem ret_bool2 {x y : Bool} (h : x = y) : Ending.returned (.bool x) = .returned (.bool y) := by rw [h]
end Go.Proofs.YtljefgjbneefkaaDoor.num
