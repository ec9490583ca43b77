/- The reference's Nodes of a good term. -/
import Derived.Test.YthableojkjhicaaRMay
namespace Go.Proofs.Ythableojkjhicaa.rno
set_option linter.unusedVariables false
open Go.ChangeShapes Go.WideShapes Go.ChangeAt Go.RowKit
open Go.Proofs.Ythableojkjhicaa.tm Go.Proofs.Ythableojkjhicaa.lie Go.Proofs.Ythableojkjhicaa.kp Go.Proofs.Ythableojkjhicaa.cur Go.Proofs.Ythableojkjhicaa.pln Go.Proofs.Ythableojkjhicaa.pla Go.Proofs.Ythableojkjhicaa.wlk Go.Proofs.Ythableojkjhicaa.vrs Go.Proofs.Ythableojkjhicaa.rmy
/-- Nodes of a good term -/
theorem rnodes_good (t : Tm) (v : Value) (w : World) (ht : Lies No w t v) (hg : good t = true) : Calls Try.prog 17 #[v] w fun e w' => e = .returned (.int .i64 (size t)) ∧ Below w.heap.size w w' := by
  have HG := Lib.hid hg
  have HE := Lib.hid (rst_may t)
  have HN := Lib.hid (rst_nodes t)
  obtain ⟨T, hT⟩ : ∃ T, T = t := ⟨_, rfl⟩
  rw [← hT] at HG HE HN ⊢
  have HT := Lib.hid (show Lies No w T v from hT ▸ ht)
  obtain ⟨k, n, i, re, im, l⟩ := t
  rw [Lies] at ht
  obtain ⟨a, c, rfl, hf, hr⟩ := ht
  clear hf hr hg hT
  go_enter Try.func17, Try.ntmps17
  go_wp2_with fail
  refine (rmay_any _ _ (w.heap.size + 1) 1 0 0 _ ((((HT.out.off (Y := fun k => k = w.heap.size + 1) fun b h1 h2 => by omega)).below (ba _ _)).below (ba _ _)) ?_ (by omega) (by omega) (fun _ => by omega) (by omega)).mono ?_
  · have := alloc_at (w.alloc (.cells #[.int .i64 k, .string n, .int .i64 i, .int .u64 re, .int .u64 im, .slice a l.length c] 36)) (WO 0 0)
    rwa [alloc_size] at this
  rintro e w1 ⟨rfl, hk, hp⟩
  obtain ⟨q0, q1, q2, q3, _⟩ := at_p hp
  rw [HE.out, may_good HG.out] at q1
  have hN : ((pre 1 T).foldl rst (0, 0)).1 = size T := by
    have := HN.out
    rw [HE.out, may_good HG.out, if_pos rfl, nodes_good HG.out] at this
    exact this
  rw [hN] at q0
  have HB := Lib.hid ((bt (ba w _) (ba _ _)).trans (hk.to_below (fun i h => by subst h; omega) (by simp only [alloc_size]; omega)))
  clear hk hp hN
  go_wp2_with fail
  go_ret
  exact ⟨rfl, HB.out⟩
end Go.Proofs.Ythableojkjhicaa.rno
