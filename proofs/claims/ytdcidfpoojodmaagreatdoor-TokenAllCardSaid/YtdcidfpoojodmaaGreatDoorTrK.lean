/- The reference's one: signs. -/
import Derived.Test.YtdcidfpoojodmaaGreatDoorTrI
namespace Go.Proofs.YtdcidfpoojodmaaGreatDoor.tr
open Go.ChangeShapes Go.WideShapes Go.ChangeAt Go.RowKit Go.Maps
open Go.Proofs.YtdcidfpoojodmaaGreatDoor.kp Go.Proofs.YtdcidfpoojodmaaGreatDoor.num Go.Proofs.YtdcidfpoojodmaaGreatDoor.dec Go.Proofs.YtdcidfpoojodmaaGreatDoor.tk
set_option linter.unusedVariables false
set_option linter.unusedSimpArgs false
theorem nmx {K F : World → Prop} {w : World} (hk : K w) (h : ∀ w', K w' → F w') : F w := h w hk
section
variable {w w' w0 : World} {p : Nat} {S r : List UInt8} {c : UInt8} {row : Value} {b : Bool} {ts : List Tk} {a : Nat} {la : Int × List UInt8}
set_option maxRecDepth 100000 in
set_option maxHeartbeats 8000000 in
theorem one_ga (h : LS p w0 (SN S (c :: r) row 0 b) row ts w) (hp : p < w0.heap.size) (hz : w0.heap.size ≤ p + 1) (hl : ts.length ≤ 65537) (hs : c :: r <:+ S) (hS : S.length ≤ 65537) (ha : S.length - (c :: r).length = a) (hg : sg c = true) (hne : c :: r.takeWhile sg ≠ [46]) :
    Calls Tryz.prog 14 #[.pointer (some ⟨p, 0, none⟩)] w (OE p w0 S b ts a (tok la c r)) := by
  obtain ⟨i, e0, e1, hi, hb⟩ := suf_at hs
  have hai : a = i := by rw [← ha, e0]
  subst hai
  obtain ⟨⟨c0, c1, c2, c3, -⟩, f1, -, f3, -⟩ := five' h.1
  rw [e0] at c1
  have hlt := Nw.lt h.1
  have hlt2 := hlt
  have hw1 : wrap64 ((a : Int) + 1) = ((a + 1 : Nat) : Int) := by unfold wrap64; omega
  have H0 := Lib.hid (And.intro h (And.intro hp (And.intro hz (And.intro hl hs))))
  have hup := fun w => rupper_any c w
  have hsm := fun w => rlower_any c w
  have hdg := fun w => rdigit_any c w
  have hsg := fun w => rsign_any c w
  have hru := Lib.hid (fun s => run_any s h.1 hs hS)
  have SET1 : Hid (∀ W : World, W.heap[p]? = some (SN S (c :: r) row 0 b) → Nw p (SN S r row 0 b) W (W.setCell ⟨p, 1, none⟩ (.int .i64 ((a : Int) + 1)))) := Lib.hid fun W hW => by
    show Nw p (.cells #[.string ⟨S.toArray⟩, .int .i64 ((S.length - r.length : Nat) : Int), row, .int .i64 0, .bool b] 39 (0, 0)) W _
    rw [e1]; exact Nw.set hW 1 _
  have bl := b_sg c
  simp only [hg, Bool.not_true, Bool.false_or, Bool.and_eq_true, Bool.not_eq_true', decide_eq_false_iff_not] at bl
  obtain ⟨hm, hu, hd, hgr, h95, hlo⟩ := bl
  have HTK : Hid (tok la c r = if c :: r.takeWhile sg = [46] ∧ stops (r.dropWhile sg) = true then .ok 8 [] 0 0 0 (r.dropWhile sg) else txt 1 (c :: r.takeWhile sg) (r.dropWhile sg)) := Lib.hid (by
    unfold tk.tok; rw [if_neg (by rw [hm]; decide), if_neg (by rw [hgr]; simp [h95]), if_neg (by rw [hd]; decide), if_pos hg])
  have hl2 := hlo
  simp only [lonely, Bool.or_eq_false_iff, decide_eq_false_iff_not] at hl2
  obtain ⟨n39, n33, n59, n40, n41, n91, n93, n44, n124⟩ := hl2
  have B39 : Hid (((c.toNat : Int) == 39) = false) := Lib.hid ((beq_byte c 39 39 rfl).trans (decide_eq_false n39))
  have B33 : Hid (((c.toNat : Int) == 33) = false) := Lib.hid ((beq_byte c 33 33 rfl).trans (decide_eq_false n33))
  have B59 : Hid (((c.toNat : Int) == 59) = false) := Lib.hid ((beq_byte c 59 59 rfl).trans (decide_eq_false n59))
  have B40 : Hid (((c.toNat : Int) == 40) = false) := Lib.hid ((beq_byte c 40 40 rfl).trans (decide_eq_false n40))
  have B41 : Hid (((c.toNat : Int) == 41) = false) := Lib.hid ((beq_byte c 41 41 rfl).trans (decide_eq_false n41))
  have B91 : Hid (((c.toNat : Int) == 91) = false) := Lib.hid ((beq_byte c 91 91 rfl).trans (decide_eq_false n91))
  have B93 : Hid (((c.toNat : Int) == 93) = false) := Lib.hid ((beq_byte c 93 93 rfl).trans (decide_eq_false n93))
  have B44 : Hid (((c.toNat : Int) == 44) = false) := Lib.hid ((beq_byte c 44 44 rfl).trans (decide_eq_false n44))
  have B124 : Hid (((c.toNat : Int) == 124) = false) := Lib.hid ((beq_byte c 124 124 rfl).trans (decide_eq_false n124))
  have htw := tw_cons (r := r) sg hg
  have hql : (c :: r.takeWhile sg).length ≤ 65537 := by
    have h1 := hs.length_le
    have h2 := (List.takeWhile_prefix (p := sg) (l := r)).length_le
    simp only [List.length_cons] at h1 ⊢; omega
  have hrs : r.dropWhile sg <:+ S := (drop_suf _ _).trans (suf_tail hs)
  obtain ⟨q, hq⟩ : ∃ q, c :: r.takeWhile sg = q := ⟨_, rfl⟩
  obtain ⟨rest, hrest⟩ : ∃ rest, r.dropWhile sg = rest := ⟨_, rfl⟩
  rw [hq, hrest] at HTK htw
  rw [hq] at hql hne
  rw [hrest] at hrs
  have HTW := Lib.hid (And.intro htw (And.intro hql hrs))
  clear hlo n39 n33 n59 n40 n41 n91 n93 n44 n124 hru h hp hz hl e0 e1 c2 c3 f1 f3 ha SET1 hgr h95 hq hrest htw hql hrs
  have hqe : ((⟨q.toArray⟩ : ByteArray).toList == ({ data := #[46] } : ByteArray).toList) = false := (tl_dec q _ [46] rfl).trans (decide_eq_false hne)
  have hqe2 : (q == [46]) = false := by rw [beq_eq_false_iff_ne]; exact hne
  have HNE := Lib.hid hne
  clear hne
  go_enter Tryz.func14, Tryz.ntmps14
  go_wp2_with fail
  refine (hup _).mono ?_; rintro e w' ⟨rfl, rfl⟩
  rw [hu]
  go_wp2_with fail
  refine (hsm _).mono ?_; rintro e w' ⟨rfl, rfl⟩
  rw [hm]
  go_wp2_with fail
  refine (hdg _).mono ?_; rintro e w' ⟨rfl, rfl⟩
  rw [hd]
  have b39 := B39.out
  have b33 := B33.out
  have b59 := B59.out
  have b40 := B40.out
  have b41 := B41.out
  have b91 := B91.out
  have b93 := B93.out
  have b44 := B44.out
  have b124 := B124.out
  go_wp2_with fail
  go_quiet (fail)
  go_wp2_with fail
  refine (hsg _).mono ?_; rintro e w2 ⟨rfl, Bw2⟩
  rw [hg]
  have L2 := (H0.out.1.turn (Nw.drewN H0.out.1.1 nq)).below Bw2
  have hrun := run_any true L2.1 H0.out.2.2.2.2 hS
  have ef : fs true = sg := rfl
  rw [ef, HTW.out.1.1, HTW.out.1.2] at hrun
  have HL2 := Lib.hid L2
  clear L2 Bw2 c0 c1 hs
  go_wp2_with fail
  refine hrun.mono ?_; rintro e w3 ⟨rfl, N3⟩
  have L3 := Lib.hid (HL2.out.turn N3)
  clear N3 hrun
  obtain ⟨⟨c0, c1, -⟩, -⟩ := five' L3.out.1
  obtain ⟨j, hj⟩ : ∃ j, S.length - rest.length = j := ⟨_, rfl⟩
  rw [hj] at c1
  have hcl : Cl w3 [(p, 0, .string ⟨S.toArray⟩), (p, 1, .int .i64 (j : Int))] w3 := ⟨by simp [c0, c1], kp.br _⟩
  clear hj
  go_upto_region 25 with fail
  refine wp_region_noPanic ?_
  refine wp_region_held_drew (S := (fun w' => w'.cell? ⟨p, 0, none⟩ = some (.string ⟨S.toArray⟩) ∧ w'.cell? ⟨p, 1, none⟩ = some (.int .i64 (j : Int)))) (by kernel_rfl) ?_ (fun hHeld => ?_)
  · (try dsimp only); first | exact Cl.c2 (by assumption) | exact Cl.c2 (Cl.drew (by assumption)) | go_keep
  refine wpAnyH_take (i := 0) (v := ?_) rfl (by kernel_rfl) (by kernel_rfl) (by kernel_rfl) (fun _ _ _ h => h) (Or.inl ⟨by rfl, ?_⟩) (by assumption) ?_
  rotate_left
  · (intro w hSw; (try dsimp only at hSw); go_simp; first | done | with_reducible rfl)
  try simp only [Act.put, List.getElem_toArray, List.getElem_cons_zero, List.getElem_cons_succ, List.setIfInBounds_toArray, List.set_cons_zero, List.set_cons_succ]
  refine wpAnyH_take (i := 1) (v := ?_) rfl (by kernel_rfl) (by kernel_rfl) (by kernel_rfl) (fun _ _ _ h => h) (Or.inl ⟨by rfl, ?_⟩) (by assumption) ?_
  rotate_left
  · (intro w hSw; (try dsimp only at hSw); go_simp; first | done | with_reducible rfl)
  try simp only [Act.put, List.getElem_toArray, List.getElem_cons_zero, List.getElem_cons_succ, List.setIfInBounds_toArray, List.set_cons_zero, List.set_cons_succ]
  refine wpAnyH_take (i := 2) (v := ?_) rfl (by kernel_rfl) (by kernel_rfl) (by kernel_rfl) (fun _ _ _ h => h) (Or.inl ⟨by rfl, ?_⟩) (by assumption) ?_
  rotate_left
  · (intro w hSw; (try dsimp only at hSw); go_simp; first | done | with_reducible rfl)
  try simp only [Act.put, List.getElem_toArray, List.getElem_cons_zero, List.getElem_cons_succ, List.setIfInBounds_toArray, List.set_cons_zero, List.set_cons_succ]
  refine wpAnyH_take (i := 3) rfl (by kernel_rfl) (by kernel_rfl) (by kernel_rfl) (fun _ _ _ h => h) (Or.inr ⟨by rfl, rfl⟩) (by assumption) ?_
  try simp only [Act.put, List.getElem_toArray, List.getElem_cons_zero, List.getElem_cons_succ, List.setIfInBounds_toArray, List.set_cons_zero, List.set_cons_succ]
  refine wpAnyH_take (i := 4) rfl (by kernel_rfl) (by kernel_rfl) (by kernel_rfl) (fun _ _ _ h => h) (Or.inr ⟨by rfl, rfl⟩) (by assumption) ?_
  try simp only [Act.put, List.getElem_toArray, List.getElem_cons_zero, List.getElem_cons_succ, List.setIfInBounds_toArray, List.set_cons_zero, List.set_cons_succ]
  refine wpAnyH_take (i := 5) rfl (by kernel_rfl) (by kernel_rfl) (by kernel_rfl) (fun _ _ _ h => h) (Or.inr ⟨by rfl, rfl⟩) (by assumption) ?_
  try simp only [Act.put, List.getElem_toArray, List.getElem_cons_zero, List.getElem_cons_succ, List.setIfInBounds_toArray, List.set_cons_zero, List.set_cons_succ]
  refine wpAnyH_take (i := 6) rfl (by kernel_rfl) (by kernel_rfl) (by kernel_rfl) (fun _ _ _ h => h) (Or.inr ⟨by rfl, rfl⟩) (by assumption) ?_
  try simp only [Act.put, List.getElem_toArray, List.getElem_cons_zero, List.getElem_cons_succ, List.setIfInBounds_toArray, List.set_cons_zero, List.set_cons_succ]
  refine wpAnyH_take (i := 7) rfl (by kernel_rfl) (by kernel_rfl) (by kernel_rfl) (fun _ _ _ h => h) (Or.inr ⟨by rfl, rfl⟩) (by assumption) ?_
  try simp only [Act.put, List.getElem_toArray, List.getElem_cons_zero, List.getElem_cons_succ, List.setIfInBounds_toArray, List.set_cons_zero, List.set_cons_succ]
  refine wpAnyH_take (i := 8) rfl (by kernel_rfl) (by kernel_rfl) (by kernel_rfl) (fun _ _ _ h => h) (Or.inr ⟨by rfl, rfl⟩) (by assumption) ?_
  try simp only [Act.put, List.getElem_toArray, List.getElem_cons_zero, List.getElem_cons_succ, List.setIfInBounds_toArray, List.set_cons_zero, List.set_cons_succ]
  refine wpAnyH_take (i := 9) rfl (by kernel_rfl) (by kernel_rfl) (by kernel_rfl) (fun _ _ _ h => h) (Or.inr ⟨by rfl, rfl⟩) (by assumption) ?_
  try simp only [Act.put, List.getElem_toArray, List.getElem_cons_zero, List.getElem_cons_succ, List.setIfInBounds_toArray, List.set_cons_zero, List.set_cons_succ]
  refine wpAnyH_take (i := 10) rfl (by kernel_rfl) (by kernel_rfl) (by kernel_rfl) (fun _ _ _ h => h) (Or.inr ⟨by rfl, rfl⟩) (by assumption) ?_
  try simp only [Act.put, List.getElem_toArray, List.getElem_cons_zero, List.getElem_cons_succ, List.setIfInBounds_toArray, List.set_cons_zero, List.set_cons_succ]
  refine wpAnyH_take (i := 11) rfl (by kernel_rfl) (by kernel_rfl) (by kernel_rfl) (fun _ _ _ h => h) (Or.inr ⟨by rfl, rfl⟩) (by assumption) ?_
  try simp only [Act.put, List.getElem_toArray, List.getElem_cons_zero, List.getElem_cons_succ, List.setIfInBounds_toArray, List.set_cons_zero, List.set_cons_succ]
  refine wpAnyH_take (i := 12) rfl (by kernel_rfl) (by kernel_rfl) (by kernel_rfl) (fun _ _ _ h => h) (Or.inr ⟨by rfl, rfl⟩) (by assumption) ?_
  try simp only [Act.put, List.getElem_toArray, List.getElem_cons_zero, List.getElem_cons_succ, List.setIfInBounds_toArray, List.set_cons_zero, List.set_cons_succ]
  refine wpAnyH_take (i := 13) rfl (by kernel_rfl) (by kernel_rfl) (by kernel_rfl) (fun _ _ _ h => h) (Or.inr ⟨by rfl, rfl⟩) (by assumption) ?_
  try simp only [Act.put, List.getElem_toArray, List.getElem_cons_zero, List.getElem_cons_succ, List.setIfInBounds_toArray, List.set_cons_zero, List.set_cons_succ]
  refine wpAnyH_take (i := 14) rfl (by kernel_rfl) (by kernel_rfl) (by kernel_rfl) (fun _ _ _ h => h) (Or.inr ⟨by rfl, rfl⟩) (by assumption) ?_
  try simp only [Act.put, List.getElem_toArray, List.getElem_cons_zero, List.getElem_cons_succ, List.setIfInBounds_toArray, List.set_cons_zero, List.set_cons_succ]
  refine wpAnyH_take (i := 15) rfl (by kernel_rfl) (by kernel_rfl) (by kernel_rfl) (fun _ _ _ h => h) (Or.inr ⟨by rfl, rfl⟩) (by assumption) ?_
  try simp only [Act.put, List.getElem_toArray, List.getElem_cons_zero, List.getElem_cons_succ, List.setIfInBounds_toArray, List.set_cons_zero, List.set_cons_succ]
  refine wpAnyH_take (i := 16) rfl (by kernel_rfl) (by kernel_rfl) (by kernel_rfl) (fun _ _ _ h => h) (Or.inr ⟨by rfl, rfl⟩) (by assumption) ?_
  try simp only [Act.put, List.getElem_toArray, List.getElem_cons_zero, List.getElem_cons_succ, List.setIfInBounds_toArray, List.set_cons_zero, List.set_cons_succ]
  refine wpAnyH_take (i := 17) rfl (by kernel_rfl) (by kernel_rfl) (by kernel_rfl) (fun _ _ _ h => h) (Or.inr ⟨by rfl, rfl⟩) (by assumption) ?_
  try simp only [Act.put, List.getElem_toArray, List.getElem_cons_zero, List.getElem_cons_succ, List.setIfInBounds_toArray, List.set_cons_zero, List.set_cons_succ]
  refine wpAnyH_take (i := 18) rfl (by kernel_rfl) (by kernel_rfl) (by kernel_rfl) (fun _ _ _ h => h) (Or.inr ⟨by rfl, rfl⟩) (by assumption) ?_
  try simp only [Act.put, List.getElem_toArray, List.getElem_cons_zero, List.getElem_cons_succ, List.setIfInBounds_toArray, List.set_cons_zero, List.set_cons_succ]
  refine wpAnyH_take (i := 19) rfl (by kernel_rfl) (by kernel_rfl) (by kernel_rfl) (fun _ _ _ h => h) (Or.inr ⟨by rfl, rfl⟩) (by assumption) ?_
  try simp only [Act.put, List.getElem_toArray, List.getElem_cons_zero, List.getElem_cons_succ, List.setIfInBounds_toArray, List.set_cons_zero, List.set_cons_succ]
  refine wpAnyH_take (i := 20) rfl (by kernel_rfl) (by kernel_rfl) (by kernel_rfl) (fun _ _ _ h => h) (Or.inr ⟨by rfl, rfl⟩) (by assumption) ?_
  try simp only [Act.put, List.getElem_toArray, List.getElem_cons_zero, List.getElem_cons_succ, List.setIfInBounds_toArray, List.set_cons_zero, List.set_cons_succ]
  refine wpAnyH_take (i := 21) rfl (by kernel_rfl) (by kernel_rfl) (by kernel_rfl) (fun _ _ _ h => h) (Or.inr ⟨by rfl, rfl⟩) (by assumption) ?_
  try simp only [Act.put, List.getElem_toArray, List.getElem_cons_zero, List.getElem_cons_succ, List.setIfInBounds_toArray, List.set_cons_zero, List.set_cons_succ]
  refine wpAnyH_take (i := 22) rfl (by kernel_rfl) (by kernel_rfl) (by kernel_rfl) (fun _ _ _ h => h) (Or.inr ⟨by rfl, rfl⟩) (by assumption) ?_
  try simp only [Act.put, List.getElem_toArray, List.getElem_cons_zero, List.getElem_cons_succ, List.setIfInBounds_toArray, List.set_cons_zero, List.set_cons_succ]
  refine wpAnyH_take (i := 23) rfl (by kernel_rfl) (by kernel_rfl) (by kernel_rfl) (fun _ _ _ h => h) (Or.inr ⟨by rfl, rfl⟩) (by assumption) ?_
  try simp only [Act.put, List.getElem_toArray, List.getElem_cons_zero, List.getElem_cons_succ, List.setIfInBounds_toArray, List.set_cons_zero, List.set_cons_succ]
  refine wpAnyH_take (i := 24) rfl (by kernel_rfl) (by kernel_rfl) (by kernel_rfl) (fun _ _ _ h => h) (Or.inr ⟨by rfl, rfl⟩) (by assumption) ?_
  try simp only [Act.put, List.getElem_toArray, List.getElem_cons_zero, List.getElem_cons_succ, List.setIfInBounds_toArray, List.set_cons_zero, List.set_cons_succ]
  refine wpAnyH_take (i := 25) rfl (by kernel_rfl) (by kernel_rfl) (by kernel_rfl) (fun _ _ _ h => h) (Or.inr ⟨by rfl, rfl⟩) (by assumption) ?_
  try simp only [Act.put, List.getElem_toArray, List.getElem_cons_zero, List.getElem_cons_succ, List.setIfInBounds_toArray, List.set_cons_zero, List.set_cons_succ]
  refine wpAnyH_take (i := 26) rfl (by kernel_rfl) (by kernel_rfl) (by kernel_rfl) (fun _ _ _ h => h) (Or.inr ⟨by rfl, rfl⟩) (by assumption) ?_
  try simp only [Act.put, List.getElem_toArray, List.getElem_cons_zero, List.getElem_cons_succ, List.setIfInBounds_toArray, List.set_cons_zero, List.set_cons_succ]
  refine wpAnyH_take (i := 27) rfl (by kernel_rfl) (by kernel_rfl) (by kernel_rfl) (fun _ _ _ h => h) (Or.inr ⟨by rfl, rfl⟩) (by assumption) ?_
  try simp only [Act.put, List.getElem_toArray, List.getElem_cons_zero, List.getElem_cons_succ, List.setIfInBounds_toArray, List.set_cons_zero, List.set_cons_succ]
  refine wpAnyH_take (i := 28) rfl (by kernel_rfl) (by kernel_rfl) (by kernel_rfl) (fun _ _ _ h => h) (Or.inr ⟨by rfl, rfl⟩) (by assumption) ?_
  try simp only [Act.put, List.getElem_toArray, List.getElem_cons_zero, List.getElem_cons_succ, List.setIfInBounds_toArray, List.set_cons_zero, List.set_cons_succ]
  refine wpAnyH_take (i := 29) rfl (by kernel_rfl) (by kernel_rfl) (by kernel_rfl) (fun _ _ _ h => h) (Or.inr ⟨by rfl, rfl⟩) (by assumption) ?_
  try simp only [Act.put, List.getElem_toArray, List.getElem_cons_zero, List.getElem_cons_succ, List.setIfInBounds_toArray, List.set_cons_zero, List.set_cons_succ]
  refine wpAnyH_take (i := 30) rfl (by kernel_rfl) (by kernel_rfl) (by kernel_rfl) (fun _ _ _ h => h) (Or.inr ⟨by rfl, rfl⟩) (by assumption) ?_
  try simp only [Act.put, List.getElem_toArray, List.getElem_cons_zero, List.getElem_cons_succ, List.setIfInBounds_toArray, List.set_cons_zero, List.set_cons_succ]
  refine wpAnyH_take (i := 31) rfl (by kernel_rfl) (by kernel_rfl) (by kernel_rfl) (fun _ _ _ h => h) (Or.inr ⟨by rfl, rfl⟩) (by assumption) ?_
  try simp only [Act.put, List.getElem_toArray, List.getElem_cons_zero, List.getElem_cons_succ, List.setIfInBounds_toArray, List.set_cons_zero, List.set_cons_succ]
  refine wpAnyH_take (i := 32) rfl (by kernel_rfl) (by kernel_rfl) (by kernel_rfl) (fun _ _ _ h => h) (Or.inr ⟨by rfl, rfl⟩) (by assumption) ?_
  try simp only [Act.put, List.getElem_toArray, List.getElem_cons_zero, List.getElem_cons_succ, List.setIfInBounds_toArray, List.set_cons_zero, List.set_cons_succ]
  refine wpAnyH_take (i := 33) rfl (by kernel_rfl) (by kernel_rfl) (by kernel_rfl) (fun _ _ _ h => h) (Or.inr ⟨by rfl, rfl⟩) (by assumption) ?_
  try simp only [Act.put, List.getElem_toArray, List.getElem_cons_zero, List.getElem_cons_succ, List.setIfInBounds_toArray, List.set_cons_zero, List.set_cons_succ]
  refine wpAnyH_take (i := 34) rfl (by kernel_rfl) (by kernel_rfl) (by kernel_rfl) (fun _ _ _ h => h) (Or.inr ⟨by rfl, rfl⟩) (by assumption) ?_
  try simp only [Act.put, List.getElem_toArray, List.getElem_cons_zero, List.getElem_cons_succ, List.setIfInBounds_toArray, List.set_cons_zero, List.set_cons_succ]
  refine wpAnyH_take (i := 35) rfl (by kernel_rfl) (by kernel_rfl) (by kernel_rfl) (fun _ _ _ h => h) (Or.inr ⟨by rfl, rfl⟩) (by assumption) ?_
  try simp only [Act.put, List.getElem_toArray, List.getElem_cons_zero, List.getElem_cons_succ, List.setIfInBounds_toArray, List.set_cons_zero, List.set_cons_succ]
  refine wpAnyH_take (i := 36) rfl (by kernel_rfl) (by kernel_rfl) (by kernel_rfl) (fun _ _ _ h => h) (Or.inr ⟨by rfl, rfl⟩) (by assumption) ?_
  try simp only [Act.put, List.getElem_toArray, List.getElem_cons_zero, List.getElem_cons_succ, List.setIfInBounds_toArray, List.set_cons_zero, List.set_cons_succ]
  refine wpAnyH_take (i := 37) (v := ?_) rfl (by kernel_rfl) (by kernel_rfl) (by kernel_rfl) (fun _ _ _ h => h) (Or.inl ⟨by rfl, ?_⟩) (by assumption) ?_
  rotate_left
  · (intro w hSw; (try dsimp only at hSw); go_simp; first | done | with_reducible rfl)
  try simp only [Act.put, List.getElem_toArray, List.getElem_cons_zero, List.getElem_cons_succ, List.setIfInBounds_toArray, List.set_cons_zero, List.set_cons_succ]
  refine wpAnyH_done (by kernel_rfl) ?_ _
  refine NoPanic.normal ?_
  refine nmx (F := Exit.then _ _ Exit.normal _) (K := LS p w0 _ _ _) (by first | exact L3.out.below (Cl.bel hCN) | exact L3.out.below (kp.bdr _)) (fun wB XB => ?_)
  have HB := Lib.hid XB
  clear XB
  clear c0 c1 hcl
  have HP := Lib.hid (name_any 1 q a HB.out H0.out.2.1 H0.out.2.2.1 (by have := H0.out.2.2.2.1; omega) (by have := HTW.out.2.1; omega))
  go_wp2_with fail
  refine HP.out.mono ?_
  rintro e w' ⟨rfl, hr⟩
  have HR := Lib.hid hr
  clear hr
  go_wp2_with fail
  exact ⟨rfl, .tuple #[], results_none rfl _ _ _, rfl, by rw [HTK.out, if_neg (fun h => HNE.out h.1)]; exact (oe_txt HR.out).2⟩
set_option maxRecDepth 100000 in
set_option maxHeartbeats 8000000 in
theorem one_gb (h : LS p w0 (SN S (c :: r) row 0 b) row ts w) (hp : p < w0.heap.size) (hz : w0.heap.size ≤ p + 1) (hl : ts.length ≤ 65537) (hs : c :: r <:+ S) (hS : S.length ≤ 65537) (ha : S.length - (c :: r).length = a) (hg : sg c = true) (hdot : c :: r.takeWhile sg = [46]) (hr0 : r.dropWhile sg = []) :
    Calls Tryz.prog 14 #[.pointer (some ⟨p, 0, none⟩)] w (OE p w0 S b ts a (tok la c r)) := by
  obtain ⟨i, e0, e1, hi, hb⟩ := suf_at hs
  have hai : a = i := by rw [← ha, e0]
  subst hai
  obtain ⟨⟨c0, c1, c2, c3, -⟩, f1, -, f3, -⟩ := five' h.1
  rw [e0] at c1
  have hlt := Nw.lt h.1
  have hlt2 := hlt
  have hw1 : wrap64 ((a : Int) + 1) = ((a + 1 : Nat) : Int) := by unfold wrap64; omega
  have H0 := Lib.hid (And.intro h (And.intro hp (And.intro hz (And.intro hl hs))))
  have hup := fun w => rupper_any c w
  have hsm := fun w => rlower_any c w
  have hdg := fun w => rdigit_any c w
  have hsg := fun w => rsign_any c w
  have hru := Lib.hid (fun s => run_any s h.1 hs hS)
  have SET1 : Hid (∀ W : World, W.heap[p]? = some (SN S (c :: r) row 0 b) → Nw p (SN S r row 0 b) W (W.setCell ⟨p, 1, none⟩ (.int .i64 ((a : Int) + 1)))) := Lib.hid fun W hW => by
    show Nw p (.cells #[.string ⟨S.toArray⟩, .int .i64 ((S.length - r.length : Nat) : Int), row, .int .i64 0, .bool b] 39 (0, 0)) W _
    rw [e1]; exact Nw.set hW 1 _
  have bl := b_sg c
  simp only [hg, Bool.not_true, Bool.false_or, Bool.and_eq_true, Bool.not_eq_true', decide_eq_false_iff_not] at bl
  obtain ⟨hm, hu, hd, hgr, h95, hlo⟩ := bl
  have HTK : Hid (tok la c r = if c :: r.takeWhile sg = [46] ∧ stops (r.dropWhile sg) = true then .ok 8 [] 0 0 0 (r.dropWhile sg) else txt 1 (c :: r.takeWhile sg) (r.dropWhile sg)) := Lib.hid (by
    unfold tk.tok; rw [if_neg (by rw [hm]; decide), if_neg (by rw [hgr]; simp [h95]), if_neg (by rw [hd]; decide), if_pos hg])
  have hl2 := hlo
  simp only [lonely, Bool.or_eq_false_iff, decide_eq_false_iff_not] at hl2
  obtain ⟨n39, n33, n59, n40, n41, n91, n93, n44, n124⟩ := hl2
  have B39 : Hid (((c.toNat : Int) == 39) = false) := Lib.hid ((beq_byte c 39 39 rfl).trans (decide_eq_false n39))
  have B33 : Hid (((c.toNat : Int) == 33) = false) := Lib.hid ((beq_byte c 33 33 rfl).trans (decide_eq_false n33))
  have B59 : Hid (((c.toNat : Int) == 59) = false) := Lib.hid ((beq_byte c 59 59 rfl).trans (decide_eq_false n59))
  have B40 : Hid (((c.toNat : Int) == 40) = false) := Lib.hid ((beq_byte c 40 40 rfl).trans (decide_eq_false n40))
  have B41 : Hid (((c.toNat : Int) == 41) = false) := Lib.hid ((beq_byte c 41 41 rfl).trans (decide_eq_false n41))
  have B91 : Hid (((c.toNat : Int) == 91) = false) := Lib.hid ((beq_byte c 91 91 rfl).trans (decide_eq_false n91))
  have B93 : Hid (((c.toNat : Int) == 93) = false) := Lib.hid ((beq_byte c 93 93 rfl).trans (decide_eq_false n93))
  have B44 : Hid (((c.toNat : Int) == 44) = false) := Lib.hid ((beq_byte c 44 44 rfl).trans (decide_eq_false n44))
  have B124 : Hid (((c.toNat : Int) == 124) = false) := Lib.hid ((beq_byte c 124 124 rfl).trans (decide_eq_false n124))
  have htw := tw_cons (r := r) sg hg
  have hql : (c :: r.takeWhile sg).length ≤ 65537 := by
    have h1 := hs.length_le
    have h2 := (List.takeWhile_prefix (p := sg) (l := r)).length_le
    simp only [List.length_cons] at h1 ⊢; omega
  have hrs : r.dropWhile sg <:+ S := (drop_suf _ _).trans (suf_tail hs)
  obtain ⟨q, hq⟩ : ∃ q, c :: r.takeWhile sg = q := ⟨_, rfl⟩
  obtain ⟨rest, hrest⟩ : ∃ rest, r.dropWhile sg = rest := ⟨_, rfl⟩
  rw [hq, hrest] at HTK htw
  rw [hq] at hql hdot
  rw [hrest] at hrs hr0
  have HTW := Lib.hid (And.intro htw (And.intro hql hrs))
  clear hlo n39 n33 n59 n40 n41 n91 n93 n44 n124 hru h hp hz hl e0 e1 c2 c3 f1 f3 ha SET1 hgr h95 hq hrest htw hql hrs
  have HST : Hid (stops rest = true) := Lib.hid (by rw [hr0]; rfl)
  subst hdot
  subst hr0
  go_enter Tryz.func14, Tryz.ntmps14
  go_wp2_with fail
  refine (hup _).mono ?_; rintro e w' ⟨rfl, rfl⟩
  rw [hu]
  go_wp2_with fail
  refine (hsm _).mono ?_; rintro e w' ⟨rfl, rfl⟩
  rw [hm]
  go_wp2_with fail
  refine (hdg _).mono ?_; rintro e w' ⟨rfl, rfl⟩
  rw [hd]
  have b39 := B39.out
  have b33 := B33.out
  have b59 := B59.out
  have b40 := B40.out
  have b41 := B41.out
  have b91 := B91.out
  have b93 := B93.out
  have b44 := B44.out
  have b124 := B124.out
  go_wp2_with fail
  go_quiet (fail)
  go_wp2_with fail
  refine (hsg _).mono ?_; rintro e w2 ⟨rfl, Bw2⟩
  rw [hg]
  have L2 := (H0.out.1.turn (Nw.drewN H0.out.1.1 nq)).below Bw2
  have hrun : Calls Tryz.prog 35 #[.pointer (some ⟨p, 0, none⟩), .bool true] w2 fun e w' => e = .returned (.string ⟨#[46]⟩) ∧ Nw p (SN S [] row 0 b) w2 w' := by
    have hrun := run_any true L2.1 H0.out.2.2.2.2 hS
    have ef : fs true = sg := rfl
    rw [ef, HTW.out.1.1, HTW.out.1.2] at hrun
    exact hrun
  have HL2 := Lib.hid L2
  clear L2 Bw2 c0 c1 hs
  go_wp2_with fail
  refine hrun.mono ?_; rintro e w3 ⟨rfl, N3⟩
  have L3 := Lib.hid (HL2.out.turn N3)
  clear N3 hrun
  obtain ⟨⟨c0, c1, -⟩, -⟩ := five' L3.out.1
  have e2 : S.length - ([] : List UInt8).length = S.length := by simp
  rw [e2] at c1
  obtain ⟨j, hj⟩ : ∃ j, S.length = j := ⟨_, rfl⟩
  have hjj : ((j : Int) == (S.length : Int)) = true := by rw [hj]; simp
  rw [hj] at c1
  have hcl : Cl w3 [(p, 0, .string ⟨S.toArray⟩), (p, 1, .int .i64 (j : Int))] w3 := ⟨by simp [c0, c1], kp.br _⟩
  clear hj e2
  go_upto_region 25 with fail
  refine wp_region_noPanic ?_
  refine wp_region_held_drew (S := (fun w' => w'.cell? ⟨p, 0, none⟩ = some (.string ⟨S.toArray⟩) ∧ w'.cell? ⟨p, 1, none⟩ = some (.int .i64 (j : Int)))) (by kernel_rfl) ?_ (fun hHeld => ?_)
  · (try dsimp only); first | exact Cl.c2 (by assumption) | exact Cl.c2 (Cl.drew (by assumption)) | go_keep
  refine wpAnyH_take (i := 0) (v := ?_) rfl (by kernel_rfl) (by kernel_rfl) (by kernel_rfl) (fun _ _ _ h => h) (Or.inl ⟨by rfl, ?_⟩) (by assumption) ?_
  rotate_left
  · (intro w hSw; (try dsimp only at hSw); go_simp; first | done | with_reducible rfl)
  try simp only [Act.put, List.getElem_toArray, List.getElem_cons_zero, List.getElem_cons_succ, List.setIfInBounds_toArray, List.set_cons_zero, List.set_cons_succ]
  refine wpAnyH_take (i := 1) (v := ?_) rfl (by kernel_rfl) (by kernel_rfl) (by kernel_rfl) (fun _ _ _ h => h) (Or.inl ⟨by rfl, ?_⟩) (by assumption) ?_
  rotate_left
  · (intro w hSw; (try dsimp only at hSw); go_simp; first | done | with_reducible rfl)
  try simp only [Act.put, List.getElem_toArray, List.getElem_cons_zero, List.getElem_cons_succ, List.setIfInBounds_toArray, List.set_cons_zero, List.set_cons_succ]
  refine wpAnyH_take (i := 2) (v := ?_) rfl (by kernel_rfl) (by kernel_rfl) (by kernel_rfl) (fun _ _ _ h => h) (Or.inl ⟨by rfl, ?_⟩) (by assumption) ?_
  rotate_left
  · (intro w hSw; (try dsimp only at hSw); go_simp; first | done | with_reducible rfl)
  try simp only [Act.put, List.getElem_toArray, List.getElem_cons_zero, List.getElem_cons_succ, List.setIfInBounds_toArray, List.set_cons_zero, List.set_cons_succ]
  refine wpAnyH_take (i := 3) (v := ?_) rfl (by kernel_rfl) (by kernel_rfl) (by kernel_rfl) (fun _ _ _ h => h) (Or.inl ⟨by rfl, ?_⟩) (by assumption) ?_
  rotate_left
  · (intro w hSw; (try dsimp only at hSw); go_simp; first | done | with_reducible rfl)
  try simp only [Act.put, List.getElem_toArray, List.getElem_cons_zero, List.getElem_cons_succ, List.setIfInBounds_toArray, List.set_cons_zero, List.set_cons_succ]
  refine wpAnyH_take (i := 4) (v := ?_) rfl (by kernel_rfl) (by kernel_rfl) (by kernel_rfl) (fun _ _ _ h => h) (Or.inl ⟨by rfl, ?_⟩) (by assumption) ?_
  rotate_left
  · (intro w hSw; (try dsimp only at hSw); go_simp; first | done | with_reducible rfl)
  try simp only [Act.put, List.getElem_toArray, List.getElem_cons_zero, List.getElem_cons_succ, List.setIfInBounds_toArray, List.set_cons_zero, List.set_cons_succ]
  refine wpAnyH_take (i := 5) (v := ?_) rfl (by kernel_rfl) (by kernel_rfl) (by kernel_rfl) (fun _ _ _ h => h) (Or.inl ⟨by rfl, ?_⟩) (by assumption) ?_
  rotate_left
  · (intro w hSw; (try dsimp only at hSw); go_simp; first | done | with_reducible rfl)
  try simp only [Act.put, List.getElem_toArray, List.getElem_cons_zero, List.getElem_cons_succ, List.setIfInBounds_toArray, List.set_cons_zero, List.set_cons_succ]
  refine wpAnyH_take (i := 6) (v := ?_) rfl (by kernel_rfl) (by kernel_rfl) (by kernel_rfl) (fun _ _ _ h => h) (Or.inl ⟨by rfl, ?_⟩) (by assumption) ?_
  rotate_left
  · (intro w hSw; (try dsimp only at hSw); go_simp; first | done | with_reducible rfl)
  try simp only [Act.put, List.getElem_toArray, List.getElem_cons_zero, List.getElem_cons_succ, List.setIfInBounds_toArray, List.set_cons_zero, List.set_cons_succ]
  refine wpAnyH_take (i := 7) (v := ?_) rfl (by kernel_rfl) (by kernel_rfl) (by kernel_rfl) (fun _ _ _ h => h) (Or.inl ⟨by rfl, ?_⟩) (by assumption) ?_
  rotate_left
  · (intro w hSw; (try dsimp only at hSw); go_simp; first | done | with_reducible rfl)
  try simp only [Act.put, List.getElem_toArray, List.getElem_cons_zero, List.getElem_cons_succ, List.setIfInBounds_toArray, List.set_cons_zero, List.set_cons_succ]
  refine wpAnyH_take (i := 8) (v := ?_) rfl (by kernel_rfl) (by kernel_rfl) (by kernel_rfl) (fun _ _ _ h => h) (Or.inl ⟨by rfl, ?_⟩) (by assumption) ?_
  rotate_left
  · (intro w hSw; (try dsimp only at hSw); go_simp; first | done | with_reducible rfl)
  try simp only [Act.put, List.getElem_toArray, List.getElem_cons_zero, List.getElem_cons_succ, List.setIfInBounds_toArray, List.set_cons_zero, List.set_cons_succ]
  refine wpAnyH_take (i := 9) (v := ?_) rfl (by kernel_rfl) (by kernel_rfl) (by kernel_rfl) (fun _ _ _ h => h) (Or.inl ⟨by rfl, ?_⟩) (by assumption) ?_
  rotate_left
  · (intro w hSw; (try dsimp only at hSw); go_simp; first | done | with_reducible rfl)
  try simp only [Act.put, List.getElem_toArray, List.getElem_cons_zero, List.getElem_cons_succ, List.setIfInBounds_toArray, List.set_cons_zero, List.set_cons_succ]
  refine wpAnyH_take (i := 10) (v := ?_) rfl (by kernel_rfl) (by kernel_rfl) (by kernel_rfl) (fun _ _ _ h => h) (Or.inl ⟨by rfl, ?_⟩) (by assumption) ?_
  rotate_left
  · (intro w hSw; (try dsimp only at hSw); go_simp; first | done | with_reducible rfl)
  try simp only [Act.put, List.getElem_toArray, List.getElem_cons_zero, List.getElem_cons_succ, List.setIfInBounds_toArray, List.set_cons_zero, List.set_cons_succ]
  refine wpAnyH_take (i := 11) (v := ?_) rfl (by kernel_rfl) (by kernel_rfl) (by kernel_rfl) (fun _ _ _ h => h) (Or.inl ⟨by rfl, ?_⟩) (by assumption) ?_
  rotate_left
  · (intro w hSw; (try dsimp only at hSw); go_simp; first | done | with_reducible rfl)
  try simp only [Act.put, List.getElem_toArray, List.getElem_cons_zero, List.getElem_cons_succ, List.setIfInBounds_toArray, List.set_cons_zero, List.set_cons_succ]
  refine wpAnyH_take (i := 12) (v := ?_) rfl (by kernel_rfl) (by kernel_rfl) (by kernel_rfl) (fun _ _ _ h => h) (Or.inl ⟨by rfl, ?_⟩) (by assumption) ?_
  rotate_left
  · (intro w hSw; (try dsimp only at hSw); go_simp; first | done | with_reducible rfl)
  try simp only [Act.put, List.getElem_toArray, List.getElem_cons_zero, List.getElem_cons_succ, List.setIfInBounds_toArray, List.set_cons_zero, List.set_cons_succ]
  refine wpAnyH_take (i := 13) (v := ?_) rfl (by kernel_rfl) (by kernel_rfl) (by kernel_rfl) (fun _ _ _ h => h) (Or.inl ⟨by rfl, ?_⟩) (by assumption) ?_
  rotate_left
  · (intro w hSw; (try dsimp only at hSw); go_simp; first | done | with_reducible rfl)
  try simp only [Act.put, List.getElem_toArray, List.getElem_cons_zero, List.getElem_cons_succ, List.setIfInBounds_toArray, List.set_cons_zero, List.set_cons_succ]
  refine wpAnyH_take (i := 14) rfl (by kernel_rfl) (by kernel_rfl) (by kernel_rfl) (fun _ _ _ h => h) (Or.inr ⟨by rfl, rfl⟩) (by assumption) ?_
  try simp only [Act.put, List.getElem_toArray, List.getElem_cons_zero, List.getElem_cons_succ, List.setIfInBounds_toArray, List.set_cons_zero, List.set_cons_succ]
  refine wpAnyH_take (i := 15) rfl (by kernel_rfl) (by kernel_rfl) (by kernel_rfl) (fun _ _ _ h => h) (Or.inr ⟨by rfl, rfl⟩) (by assumption) ?_
  try simp only [Act.put, List.getElem_toArray, List.getElem_cons_zero, List.getElem_cons_succ, List.setIfInBounds_toArray, List.set_cons_zero, List.set_cons_succ]
  refine wpAnyH_take (i := 16) rfl (by kernel_rfl) (by kernel_rfl) (by kernel_rfl) (fun _ _ _ h => h) (Or.inr ⟨by rfl, rfl⟩) (by assumption) ?_
  try simp only [Act.put, List.getElem_toArray, List.getElem_cons_zero, List.getElem_cons_succ, List.setIfInBounds_toArray, List.set_cons_zero, List.set_cons_succ]
  refine wpAnyH_take (i := 17) rfl (by kernel_rfl) (by kernel_rfl) (by kernel_rfl) (fun _ _ _ h => h) (Or.inr ⟨by rfl, rfl⟩) (by assumption) ?_
  try simp only [Act.put, List.getElem_toArray, List.getElem_cons_zero, List.getElem_cons_succ, List.setIfInBounds_toArray, List.set_cons_zero, List.set_cons_succ]
  refine wpAnyH_take (i := 18) rfl (by kernel_rfl) (by kernel_rfl) (by kernel_rfl) (fun _ _ _ h => h) (Or.inr ⟨by rfl, rfl⟩) (by assumption) ?_
  try simp only [Act.put, List.getElem_toArray, List.getElem_cons_zero, List.getElem_cons_succ, List.setIfInBounds_toArray, List.set_cons_zero, List.set_cons_succ]
  refine wpAnyH_take (i := 19) rfl (by kernel_rfl) (by kernel_rfl) (by kernel_rfl) (fun _ _ _ h => h) (Or.inr ⟨by rfl, rfl⟩) (by assumption) ?_
  try simp only [Act.put, List.getElem_toArray, List.getElem_cons_zero, List.getElem_cons_succ, List.setIfInBounds_toArray, List.set_cons_zero, List.set_cons_succ]
  refine wpAnyH_take (i := 20) rfl (by kernel_rfl) (by kernel_rfl) (by kernel_rfl) (fun _ _ _ h => h) (Or.inr ⟨by rfl, rfl⟩) (by assumption) ?_
  try simp only [Act.put, List.getElem_toArray, List.getElem_cons_zero, List.getElem_cons_succ, List.setIfInBounds_toArray, List.set_cons_zero, List.set_cons_succ]
  refine wpAnyH_take (i := 21) rfl (by kernel_rfl) (by kernel_rfl) (by kernel_rfl) (fun _ _ _ h => h) (Or.inr ⟨by rfl, rfl⟩) (by assumption) ?_
  try simp only [Act.put, List.getElem_toArray, List.getElem_cons_zero, List.getElem_cons_succ, List.setIfInBounds_toArray, List.set_cons_zero, List.set_cons_succ]
  refine wpAnyH_take (i := 22) rfl (by kernel_rfl) (by kernel_rfl) (by kernel_rfl) (fun _ _ _ h => h) (Or.inr ⟨by rfl, rfl⟩) (by assumption) ?_
  try simp only [Act.put, List.getElem_toArray, List.getElem_cons_zero, List.getElem_cons_succ, List.setIfInBounds_toArray, List.set_cons_zero, List.set_cons_succ]
  refine wpAnyH_take (i := 23) rfl (by kernel_rfl) (by kernel_rfl) (by kernel_rfl) (fun _ _ _ h => h) (Or.inr ⟨by rfl, rfl⟩) (by assumption) ?_
  try simp only [Act.put, List.getElem_toArray, List.getElem_cons_zero, List.getElem_cons_succ, List.setIfInBounds_toArray, List.set_cons_zero, List.set_cons_succ]
  refine wpAnyH_take (i := 24) (v := ?_) rfl (by kernel_rfl) (by kernel_rfl) (by kernel_rfl) (fun _ _ _ h => h) (Or.inl ⟨by rfl, ?_⟩) (by assumption) ?_
  rotate_left
  · (intro w hSw; (try dsimp only at hSw); go_simp; first | done | with_reducible rfl)
  try simp only [Act.put, List.getElem_toArray, List.getElem_cons_zero, List.getElem_cons_succ, List.setIfInBounds_toArray, List.set_cons_zero, List.set_cons_succ]
  refine wpAnyH_take (i := 25) (v := ?_) rfl (by kernel_rfl) (by kernel_rfl) (by kernel_rfl) (fun _ _ _ h => h) (Or.inl ⟨by rfl, ?_⟩) (by assumption) ?_
  rotate_left
  · (intro w hSw; (try dsimp only at hSw); go_simp; first | done | with_reducible rfl)
  try simp only [Act.put, List.getElem_toArray, List.getElem_cons_zero, List.getElem_cons_succ, List.setIfInBounds_toArray, List.set_cons_zero, List.set_cons_succ]
  refine wpAnyH_take (i := 26) rfl (by kernel_rfl) (by kernel_rfl) (by kernel_rfl) (fun _ _ _ h => h) (Or.inr ⟨by rfl, rfl⟩) (by assumption) ?_
  try simp only [Act.put, List.getElem_toArray, List.getElem_cons_zero, List.getElem_cons_succ, List.setIfInBounds_toArray, List.set_cons_zero, List.set_cons_succ]
  refine wpAnyH_take (i := 27) rfl (by kernel_rfl) (by kernel_rfl) (by kernel_rfl) (fun _ _ _ h => h) (Or.inr ⟨by rfl, rfl⟩) (by assumption) ?_
  try simp only [Act.put, List.getElem_toArray, List.getElem_cons_zero, List.getElem_cons_succ, List.setIfInBounds_toArray, List.set_cons_zero, List.set_cons_succ]
  refine wpAnyH_take (i := 28) rfl (by kernel_rfl) (by kernel_rfl) (by kernel_rfl) (fun _ _ _ h => h) (Or.inr ⟨by rfl, rfl⟩) (by assumption) ?_
  try simp only [Act.put, List.getElem_toArray, List.getElem_cons_zero, List.getElem_cons_succ, List.setIfInBounds_toArray, List.set_cons_zero, List.set_cons_succ]
  refine wpAnyH_take (i := 29) rfl (by kernel_rfl) (by kernel_rfl) (by kernel_rfl) (fun _ _ _ h => h) (Or.inr ⟨by rfl, rfl⟩) (by assumption) ?_
  try simp only [Act.put, List.getElem_toArray, List.getElem_cons_zero, List.getElem_cons_succ, List.setIfInBounds_toArray, List.set_cons_zero, List.set_cons_succ]
  refine wpAnyH_take (i := 30) rfl (by kernel_rfl) (by kernel_rfl) (by kernel_rfl) (fun _ _ _ h => h) (Or.inr ⟨by rfl, rfl⟩) (by assumption) ?_
  try simp only [Act.put, List.getElem_toArray, List.getElem_cons_zero, List.getElem_cons_succ, List.setIfInBounds_toArray, List.set_cons_zero, List.set_cons_succ]
  refine wpAnyH_take (i := 31) rfl (by kernel_rfl) (by kernel_rfl) (by kernel_rfl) (fun _ _ _ h => h) (Or.inr ⟨by rfl, rfl⟩) (by assumption) ?_
  try simp only [Act.put, List.getElem_toArray, List.getElem_cons_zero, List.getElem_cons_succ, List.setIfInBounds_toArray, List.set_cons_zero, List.set_cons_succ]
  refine wpAnyH_take (i := 32) rfl (by kernel_rfl) (by kernel_rfl) (by kernel_rfl) (fun _ _ _ h => h) (Or.inr ⟨by rfl, rfl⟩) (by assumption) ?_
  try simp only [Act.put, List.getElem_toArray, List.getElem_cons_zero, List.getElem_cons_succ, List.setIfInBounds_toArray, List.set_cons_zero, List.set_cons_succ]
  refine wpAnyH_take (i := 33) rfl (by kernel_rfl) (by kernel_rfl) (by kernel_rfl) (fun _ _ _ h => h) (Or.inr ⟨by rfl, rfl⟩) (by assumption) ?_
  try simp only [Act.put, List.getElem_toArray, List.getElem_cons_zero, List.getElem_cons_succ, List.setIfInBounds_toArray, List.set_cons_zero, List.set_cons_succ]
  refine wpAnyH_take (i := 34) rfl (by kernel_rfl) (by kernel_rfl) (by kernel_rfl) (fun _ _ _ h => h) (Or.inr ⟨by rfl, rfl⟩) (by assumption) ?_
  try simp only [Act.put, List.getElem_toArray, List.getElem_cons_zero, List.getElem_cons_succ, List.setIfInBounds_toArray, List.set_cons_zero, List.set_cons_succ]
  refine wpAnyH_take (i := 35) rfl (by kernel_rfl) (by kernel_rfl) (by kernel_rfl) (fun _ _ _ h => h) (Or.inr ⟨by rfl, rfl⟩) (by assumption) ?_
  try simp only [Act.put, List.getElem_toArray, List.getElem_cons_zero, List.getElem_cons_succ, List.setIfInBounds_toArray, List.set_cons_zero, List.set_cons_succ]
  refine wpAnyH_take (i := 36) (v := ?_) rfl (by kernel_rfl) (by kernel_rfl) (by kernel_rfl) (fun _ _ _ h => h) (Or.inl ⟨by rfl, ?_⟩) (by assumption) ?_
  rotate_left
  · (intro w hSw; (try dsimp only at hSw); go_simp; first | done | with_reducible rfl)
  try simp only [Act.put, List.getElem_toArray, List.getElem_cons_zero, List.getElem_cons_succ, List.setIfInBounds_toArray, List.set_cons_zero, List.set_cons_succ]
  refine wpAnyH_take (i := 37) (v := ?_) rfl (by kernel_rfl) (by kernel_rfl) (by kernel_rfl) (fun _ _ _ h => h) (Or.inl ⟨by rfl, ?_⟩) (by assumption) ?_
  rotate_left
  · (intro w hSw; (try dsimp only at hSw); go_simp; first | done | with_reducible rfl)
  try simp only [Act.put, List.getElem_toArray, List.getElem_cons_zero, List.getElem_cons_succ, List.setIfInBounds_toArray, List.set_cons_zero, List.set_cons_succ]
  refine wpAnyH_done (by kernel_rfl) ?_ _
  refine NoPanic.normal ?_
  refine nmx (F := Exit.then _ _ Exit.normal _) (K := LS p w0 _ _ _) (by first | exact L3.out.below (Cl.bel hCN) | exact L3.out.below (kp.bdr _)) (fun wB XB => ?_)
  have HB := Lib.hid XB
  clear XB
  clear c0 c1 hcl
  have HP := Lib.hid (put_any ⟨8, [], 0, 0, 0, a⟩ HB.out H0.out.2.1 H0.out.2.2.1 (by have := H0.out.2.2.2.1; omega))
  go_wp2_with fail
  refine HP.out.mono ?_
  rintro e w' ⟨rfl, hr⟩
  have HR := Lib.hid hr
  clear hr
  go_wp2_with fail
  exact ⟨rfl, .tuple #[], results_none rfl _ _ _, rfl, by rw [HTK.out, if_pos ⟨by simp, HST.out⟩]; exact HR.out⟩
set_option maxRecDepth 100000 in
set_option maxHeartbeats 8000000 in
theorem one_gc (h : LS p w0 (SN S (c :: r) row 0 b) row ts w) (hp : p < w0.heap.size) (hz : w0.heap.size ≤ p + 1) (hl : ts.length ≤ 65537) (hs : c :: r <:+ S) (hS : S.length ≤ 65537) (ha : S.length - (c :: r).length = a) (hg : sg c = true) (hdot : c :: r.takeWhile sg = [46]) {d : UInt8} {r2 : List UInt8} (hr0 : r.dropWhile sg = d :: r2) (hbd : mem blankL d = true) :
    Calls Tryz.prog 14 #[.pointer (some ⟨p, 0, none⟩)] w (OE p w0 S b ts a (tok la c r)) := by
  obtain ⟨i, e0, e1, hi, hb⟩ := suf_at hs
  have hai : a = i := by rw [← ha, e0]
  subst hai
  obtain ⟨⟨c0, c1, c2, c3, -⟩, f1, -, f3, -⟩ := five' h.1
  rw [e0] at c1
  have hlt := Nw.lt h.1
  have hlt2 := hlt
  have hw1 : wrap64 ((a : Int) + 1) = ((a + 1 : Nat) : Int) := by unfold wrap64; omega
  have H0 := Lib.hid (And.intro h (And.intro hp (And.intro hz (And.intro hl hs))))
  have hup := fun w => rupper_any c w
  have hsm := fun w => rlower_any c w
  have hdg := fun w => rdigit_any c w
  have hsg := fun w => rsign_any c w
  have hru := Lib.hid (fun s => run_any s h.1 hs hS)
  have SET1 : Hid (∀ W : World, W.heap[p]? = some (SN S (c :: r) row 0 b) → Nw p (SN S r row 0 b) W (W.setCell ⟨p, 1, none⟩ (.int .i64 ((a : Int) + 1)))) := Lib.hid fun W hW => by
    show Nw p (.cells #[.string ⟨S.toArray⟩, .int .i64 ((S.length - r.length : Nat) : Int), row, .int .i64 0, .bool b] 39 (0, 0)) W _
    rw [e1]; exact Nw.set hW 1 _
  have bl := b_sg c
  simp only [hg, Bool.not_true, Bool.false_or, Bool.and_eq_true, Bool.not_eq_true', decide_eq_false_iff_not] at bl
  obtain ⟨hm, hu, hd, hgr, h95, hlo⟩ := bl
  have HTK : Hid (tok la c r = if c :: r.takeWhile sg = [46] ∧ stops (r.dropWhile sg) = true then .ok 8 [] 0 0 0 (r.dropWhile sg) else txt 1 (c :: r.takeWhile sg) (r.dropWhile sg)) := Lib.hid (by
    unfold tk.tok; rw [if_neg (by rw [hm]; decide), if_neg (by rw [hgr]; simp [h95]), if_neg (by rw [hd]; decide), if_pos hg])
  have hl2 := hlo
  simp only [lonely, Bool.or_eq_false_iff, decide_eq_false_iff_not] at hl2
  obtain ⟨n39, n33, n59, n40, n41, n91, n93, n44, n124⟩ := hl2
  have B39 : Hid (((c.toNat : Int) == 39) = false) := Lib.hid ((beq_byte c 39 39 rfl).trans (decide_eq_false n39))
  have B33 : Hid (((c.toNat : Int) == 33) = false) := Lib.hid ((beq_byte c 33 33 rfl).trans (decide_eq_false n33))
  have B59 : Hid (((c.toNat : Int) == 59) = false) := Lib.hid ((beq_byte c 59 59 rfl).trans (decide_eq_false n59))
  have B40 : Hid (((c.toNat : Int) == 40) = false) := Lib.hid ((beq_byte c 40 40 rfl).trans (decide_eq_false n40))
  have B41 : Hid (((c.toNat : Int) == 41) = false) := Lib.hid ((beq_byte c 41 41 rfl).trans (decide_eq_false n41))
  have B91 : Hid (((c.toNat : Int) == 91) = false) := Lib.hid ((beq_byte c 91 91 rfl).trans (decide_eq_false n91))
  have B93 : Hid (((c.toNat : Int) == 93) = false) := Lib.hid ((beq_byte c 93 93 rfl).trans (decide_eq_false n93))
  have B44 : Hid (((c.toNat : Int) == 44) = false) := Lib.hid ((beq_byte c 44 44 rfl).trans (decide_eq_false n44))
  have B124 : Hid (((c.toNat : Int) == 124) = false) := Lib.hid ((beq_byte c 124 124 rfl).trans (decide_eq_false n124))
  have htw := tw_cons (r := r) sg hg
  have hql : (c :: r.takeWhile sg).length ≤ 65537 := by
    have h1 := hs.length_le
    have h2 := (List.takeWhile_prefix (p := sg) (l := r)).length_le
    simp only [List.length_cons] at h1 ⊢; omega
  have hrs : r.dropWhile sg <:+ S := (drop_suf _ _).trans (suf_tail hs)
  obtain ⟨q, hq⟩ : ∃ q, c :: r.takeWhile sg = q := ⟨_, rfl⟩
  obtain ⟨rest, hrest⟩ : ∃ rest, r.dropWhile sg = rest := ⟨_, rfl⟩
  rw [hq, hrest] at HTK htw
  rw [hq] at hql hdot
  rw [hrest] at hrs hr0
  have HTW := Lib.hid (And.intro htw (And.intro hql hrs))
  clear hlo n39 n33 n59 n40 n41 n91 n93 n44 n124 hru h hp hz hl e0 e1 c2 c3 f1 f3 ha SET1 hgr h95 hq hrest htw hql hrs
  have HST : Hid (stops rest = true) := Lib.hid (by rw [hr0]; simp [stops, hbd])
  subst hdot
  subst hr0
  obtain ⟨j, ej, -, hj, hbj⟩ := suf_at HTW.out.2.2
  have HV : Hid (mem blankL d = true) := Lib.hid hbd
  clear hbd
  have hjn : ((j : Int) == (S.length : Int)) = false := by simp; omega
  go_enter Tryz.func14, Tryz.ntmps14
  go_wp2_with fail
  refine (hup _).mono ?_; rintro e w' ⟨rfl, rfl⟩
  rw [hu]
  go_wp2_with fail
  refine (hsm _).mono ?_; rintro e w' ⟨rfl, rfl⟩
  rw [hm]
  go_wp2_with fail
  refine (hdg _).mono ?_; rintro e w' ⟨rfl, rfl⟩
  rw [hd]
  have b39 := B39.out
  have b33 := B33.out
  have b59 := B59.out
  have b40 := B40.out
  have b41 := B41.out
  have b91 := B91.out
  have b93 := B93.out
  have b44 := B44.out
  have b124 := B124.out
  go_wp2_with fail
  go_quiet (fail)
  go_wp2_with fail
  refine (hsg _).mono ?_; rintro e w2 ⟨rfl, Bw2⟩
  rw [hg]
  have L2 := (H0.out.1.turn (Nw.drewN H0.out.1.1 nq)).below Bw2
  have hrun : Calls Tryz.prog 35 #[.pointer (some ⟨p, 0, none⟩), .bool true] w2 fun e w' => e = .returned (.string ⟨#[46]⟩) ∧ Nw p (SN S (d :: r2) row 0 b) w2 w' := by
    have hrun := run_any true L2.1 H0.out.2.2.2.2 hS
    have ef : fs true = sg := rfl
    rw [ef, HTW.out.1.1, HTW.out.1.2] at hrun
    exact hrun
  have HL2 := Lib.hid L2
  clear L2 Bw2 c0 c1 hs
  go_wp2_with fail
  refine hrun.mono ?_; rintro e w3 ⟨rfl, N3⟩
  have L3 := Lib.hid (HL2.out.turn N3)
  clear N3 hrun
  obtain ⟨⟨c0, c1, -⟩, -⟩ := five' L3.out.1
  rw [ej] at c1
  have hcl : Cl w3 [(p, 0, .string ⟨S.toArray⟩), (p, 1, .int .i64 (j : Int))] w3 := ⟨by simp [c0, c1], kp.br _⟩
  go_upto_region 25 with fail
  refine wp_region_noPanic ?_
  refine wp_region_held_drew (S := (fun w' => w'.cell? ⟨p, 0, none⟩ = some (.string ⟨S.toArray⟩) ∧ w'.cell? ⟨p, 1, none⟩ = some (.int .i64 (j : Int)))) (by kernel_rfl) ?_ (fun hHeld => ?_)
  · (try dsimp only); first | exact Cl.c2 (by assumption) | exact Cl.c2 (Cl.drew (by assumption)) | go_keep
  refine wpAnyH_take (i := 0) (v := ?_) rfl (by kernel_rfl) (by kernel_rfl) (by kernel_rfl) (fun _ _ _ h => h) (Or.inl ⟨by rfl, ?_⟩) (by assumption) ?_
  rotate_left
  · (intro w hSw; (try dsimp only at hSw); go_simp; first | done | with_reducible rfl)
  try simp only [Act.put, List.getElem_toArray, List.getElem_cons_zero, List.getElem_cons_succ, List.setIfInBounds_toArray, List.set_cons_zero, List.set_cons_succ]
  refine wpAnyH_take (i := 1) (v := ?_) rfl (by kernel_rfl) (by kernel_rfl) (by kernel_rfl) (fun _ _ _ h => h) (Or.inl ⟨by rfl, ?_⟩) (by assumption) ?_
  rotate_left
  · (intro w hSw; (try dsimp only at hSw); go_simp; first | done | with_reducible rfl)
  try simp only [Act.put, List.getElem_toArray, List.getElem_cons_zero, List.getElem_cons_succ, List.setIfInBounds_toArray, List.set_cons_zero, List.set_cons_succ]
  refine wpAnyH_take (i := 2) (v := ?_) rfl (by kernel_rfl) (by kernel_rfl) (by kernel_rfl) (fun _ _ _ h => h) (Or.inl ⟨by rfl, ?_⟩) (by assumption) ?_
  rotate_left
  · (intro w hSw; (try dsimp only at hSw); go_simp; first | done | with_reducible rfl)
  try simp only [Act.put, List.getElem_toArray, List.getElem_cons_zero, List.getElem_cons_succ, List.setIfInBounds_toArray, List.set_cons_zero, List.set_cons_succ]
  refine wpAnyH_take (i := 3) (v := ?_) rfl (by kernel_rfl) (by kernel_rfl) (by kernel_rfl) (fun _ _ _ h => h) (Or.inl ⟨by rfl, ?_⟩) (by assumption) ?_
  rotate_left
  · (intro w hSw; (try dsimp only at hSw); go_simp; first | done | with_reducible rfl)
  try simp only [Act.put, List.getElem_toArray, List.getElem_cons_zero, List.getElem_cons_succ, List.setIfInBounds_toArray, List.set_cons_zero, List.set_cons_succ]
  refine wpAnyH_take (i := 4) (v := ?_) rfl (by kernel_rfl) (by kernel_rfl) (by kernel_rfl) (fun _ _ _ h => h) (Or.inl ⟨by rfl, ?_⟩) (by assumption) ?_
  rotate_left
  · (intro w hSw; (try dsimp only at hSw); go_simp; first | done | with_reducible rfl)
  try simp only [Act.put, List.getElem_toArray, List.getElem_cons_zero, List.getElem_cons_succ, List.setIfInBounds_toArray, List.set_cons_zero, List.set_cons_succ]
  refine wpAnyH_take (i := 5) (v := ?_) rfl (by kernel_rfl) (by kernel_rfl) (by kernel_rfl) (fun _ _ _ h => h) (Or.inl ⟨by rfl, ?_⟩) (by assumption) ?_
  rotate_left
  · (intro w hSw; (try dsimp only at hSw); go_simp; first | done | with_reducible rfl)
  try simp only [Act.put, List.getElem_toArray, List.getElem_cons_zero, List.getElem_cons_succ, List.setIfInBounds_toArray, List.set_cons_zero, List.set_cons_succ]
  refine wpAnyH_take (i := 6) (v := ?_) rfl (by kernel_rfl) (by kernel_rfl) (by kernel_rfl) (fun _ _ _ h => h) (Or.inl ⟨by rfl, ?_⟩) (by assumption) ?_
  rotate_left
  · (intro w hSw; (try dsimp only at hSw); go_simp; first | done | with_reducible rfl)
  try simp only [Act.put, List.getElem_toArray, List.getElem_cons_zero, List.getElem_cons_succ, List.setIfInBounds_toArray, List.set_cons_zero, List.set_cons_succ]
  refine wpAnyH_take (i := 7) (v := ?_) rfl (by kernel_rfl) (by kernel_rfl) (by kernel_rfl) (fun _ _ _ h => h) (Or.inl ⟨by rfl, ?_⟩) (by assumption) ?_
  rotate_left
  · (intro w hSw; (try dsimp only at hSw); go_simp; first | done | with_reducible rfl)
  try simp only [Act.put, List.getElem_toArray, List.getElem_cons_zero, List.getElem_cons_succ, List.setIfInBounds_toArray, List.set_cons_zero, List.set_cons_succ]
  refine wpAnyH_take (i := 8) (v := ?_) rfl (by kernel_rfl) (by kernel_rfl) (by kernel_rfl) (fun _ _ _ h => h) (Or.inl ⟨by rfl, ?_⟩) (by assumption) ?_
  rotate_left
  · (intro w hSw; (try dsimp only at hSw); go_simp; first | done | with_reducible rfl)
  try simp only [Act.put, List.getElem_toArray, List.getElem_cons_zero, List.getElem_cons_succ, List.setIfInBounds_toArray, List.set_cons_zero, List.set_cons_succ]
  refine wpAnyH_take (i := 9) (v := ?_) rfl (by kernel_rfl) (by kernel_rfl) (by kernel_rfl) (fun _ _ _ h => h) (Or.inl ⟨by rfl, ?_⟩) (by assumption) ?_
  rotate_left
  · (intro w hSw; (try dsimp only at hSw); go_simp; first | done | with_reducible rfl)
  try simp only [Act.put, List.getElem_toArray, List.getElem_cons_zero, List.getElem_cons_succ, List.setIfInBounds_toArray, List.set_cons_zero, List.set_cons_succ]
  refine wpAnyH_take (i := 10) (v := ?_) rfl (by kernel_rfl) (by kernel_rfl) (by kernel_rfl) (fun _ _ _ h => h) (Or.inl ⟨by rfl, ?_⟩) (by assumption) ?_
  rotate_left
  · (intro w hSw; (try dsimp only at hSw); go_simp; first | done | with_reducible rfl)
  try simp only [Act.put, List.getElem_toArray, List.getElem_cons_zero, List.getElem_cons_succ, List.setIfInBounds_toArray, List.set_cons_zero, List.set_cons_succ]
  refine wpAnyH_take (i := 11) (v := ?_) rfl (by kernel_rfl) (by kernel_rfl) (by kernel_rfl) (fun _ _ _ h => h) (Or.inl ⟨by rfl, ?_⟩) (by assumption) ?_
  rotate_left
  · (intro w hSw; (try dsimp only at hSw); go_simp; first | done | with_reducible rfl)
  try simp only [Act.put, List.getElem_toArray, List.getElem_cons_zero, List.getElem_cons_succ, List.setIfInBounds_toArray, List.set_cons_zero, List.set_cons_succ]
  refine wpAnyH_take (i := 12) (v := ?_) rfl (by kernel_rfl) (by kernel_rfl) (by kernel_rfl) (fun _ _ _ h => h) (Or.inl ⟨by rfl, ?_⟩) (by assumption) ?_
  rotate_left
  · (intro w hSw; (try dsimp only at hSw); go_simp; first | done | with_reducible rfl)
  try simp only [Act.put, List.getElem_toArray, List.getElem_cons_zero, List.getElem_cons_succ, List.setIfInBounds_toArray, List.set_cons_zero, List.set_cons_succ]
  refine wpAnyH_take (i := 13) (v := ?_) rfl (by kernel_rfl) (by kernel_rfl) (by kernel_rfl) (fun _ _ _ h => h) (Or.inl ⟨by rfl, ?_⟩) (by assumption) ?_
  rotate_left
  · (intro w hSw; (try dsimp only at hSw); go_simp; first | done | with_reducible rfl)
  try simp only [Act.put, List.getElem_toArray, List.getElem_cons_zero, List.getElem_cons_succ, List.setIfInBounds_toArray, List.set_cons_zero, List.set_cons_succ]
  refine wpAnyH_take (i := 14) (v := ?_) rfl (by kernel_rfl) (by kernel_rfl) (by kernel_rfl) (fun _ _ _ h => h) (Or.inl ⟨by rfl, ?_⟩) (by assumption) ?_
  rotate_left
  · (intro w hSw; (try dsimp only at hSw); go_simp; first | done | with_reducible rfl)
  try simp only [Act.put, List.getElem_toArray, List.getElem_cons_zero, List.getElem_cons_succ, List.setIfInBounds_toArray, List.set_cons_zero, List.set_cons_succ]
  refine wpAnyH_take (i := 15) (v := ?_) rfl (by kernel_rfl) (by kernel_rfl) (by kernel_rfl) (fun _ _ _ h => h) (Or.inl ⟨by rfl, ?_⟩) (by assumption) ?_
  rotate_left
  · (intro w hSw; (try dsimp only at hSw); go_simp; first | done | with_reducible rfl)
  try simp only [Act.put, List.getElem_toArray, List.getElem_cons_zero, List.getElem_cons_succ, List.setIfInBounds_toArray, List.set_cons_zero, List.set_cons_succ]
  refine wpAnyH_take (i := 16) (v := ?_) rfl (by kernel_rfl) (by kernel_rfl) (by kernel_rfl) (fun _ _ _ h => h) (Or.inl ⟨by rfl, ?_⟩) (by assumption) ?_
  rotate_left
  · (intro w hSw; (try dsimp only at hSw); go_simp; first | done | with_reducible rfl)
  try simp only [Act.put, List.getElem_toArray, List.getElem_cons_zero, List.getElem_cons_succ, List.setIfInBounds_toArray, List.set_cons_zero, List.set_cons_succ]
  refine wpAnyH_take (i := 17) (v := ?_) rfl (by kernel_rfl) (by kernel_rfl) (by kernel_rfl) (fun _ _ _ h => h) (Or.inl ⟨by rfl, ?_⟩) (by assumption) ?_
  rotate_left
  · (intro w hSw; (try dsimp only at hSw); go_simp; first | done | with_reducible rfl)
  try simp only [Act.put, List.getElem_toArray, List.getElem_cons_zero, List.getElem_cons_succ, List.setIfInBounds_toArray, List.set_cons_zero, List.set_cons_succ]
  refine wpAnyH_take (i := 18) (v := ?_) rfl (by kernel_rfl) (by kernel_rfl) (by kernel_rfl) (fun _ _ _ h => h) (Or.inl ⟨by rfl, ?_⟩) (by assumption) ?_
  rotate_left
  · (intro w hSw; (try dsimp only at hSw); go_simp; first | done | with_reducible rfl)
  try simp only [Act.put, List.getElem_toArray, List.getElem_cons_zero, List.getElem_cons_succ, List.setIfInBounds_toArray, List.set_cons_zero, List.set_cons_succ]
  refine wpAnyH_take (i := 19) (v := ?_) rfl (by kernel_rfl) (by kernel_rfl) (by kernel_rfl) (fun _ _ _ h => h) (Or.inl ⟨by rfl, ?_⟩) (by assumption) ?_
  rotate_left
  · (intro w hSw; (try dsimp only at hSw); go_simp; first | done | with_reducible rfl)
  try simp only [Act.put, List.getElem_toArray, List.getElem_cons_zero, List.getElem_cons_succ, List.setIfInBounds_toArray, List.set_cons_zero, List.set_cons_succ]
  refine wpAnyH_take (i := 20) (v := ?_) rfl (by kernel_rfl) (by kernel_rfl) (by kernel_rfl) (fun _ _ _ h => h) (Or.inl ⟨by rfl, ?_⟩) (by assumption) ?_
  rotate_left
  · (intro w hSw; (try dsimp only at hSw); go_simp; first | done | with_reducible rfl)
  try simp only [Act.put, List.getElem_toArray, List.getElem_cons_zero, List.getElem_cons_succ, List.setIfInBounds_toArray, List.set_cons_zero, List.set_cons_succ]
  refine wpAnyH_take (i := 21) (v := ?_) rfl (by kernel_rfl) (by kernel_rfl) (by kernel_rfl) (fun _ _ _ h => h) (Or.inl ⟨by rfl, ?_⟩) (by assumption) ?_
  rotate_left
  · (intro w hSw; (try dsimp only at hSw); go_simp; first | done | with_reducible rfl)
  try simp only [Act.put, List.getElem_toArray, List.getElem_cons_zero, List.getElem_cons_succ, List.setIfInBounds_toArray, List.set_cons_zero, List.set_cons_succ]
  refine wpAnyH_take (i := 22) (v := ?_) rfl (by kernel_rfl) (by kernel_rfl) (by kernel_rfl) (fun _ _ _ h => h) (Or.inl ⟨by rfl, ?_⟩) (by assumption) ?_
  rotate_left
  · (intro w hSw; (try dsimp only at hSw); go_simp; first | done | with_reducible rfl)
  try simp only [Act.put, List.getElem_toArray, List.getElem_cons_zero, List.getElem_cons_succ, List.setIfInBounds_toArray, List.set_cons_zero, List.set_cons_succ]
  refine wpAnyH_ready (rs := [23]) (by kernel_rfl) (by simp) ?_
  refine AllReadyH.cons rfl (fun K hK => ?_) AllReadyH.nil
  go_simp
  refine (rwhite_any d _).mono ?_
  rintro e wN ⟨rfl, hbN⟩
  subst hbN
  rw [HV.out]
  have hCN := (by first | assumption | exact Cl.drew (by assumption) : Cl w3 [(p, 0, .string ⟨S.toArray⟩), (p, 1, .int .i64 (j : Int))] _)
  go_wp2_with fail
  refine hK.out _ _ ?_ (fun hHeld => ?_)
  · (try dsimp only); first | exact Cl.c2 (by assumption) | exact Cl.c2 (Cl.drew (by assumption)) | go_keep
  clear hK K
  try simp only [Act.put, List.getElem_toArray, List.getElem_cons_zero, List.getElem_cons_succ, List.setIfInBounds_toArray, List.set_cons_zero, List.set_cons_succ]
  refine wpAnyH_take (i := 24) (v := ?_) rfl (by kernel_rfl) (by kernel_rfl) (by kernel_rfl) (fun _ _ _ h => h) (Or.inl ⟨by rfl, ?_⟩) (by assumption) ?_
  rotate_left
  · (intro w hSw; (try dsimp only at hSw); go_simp; first | done | with_reducible rfl)
  try simp only [Act.put, List.getElem_toArray, List.getElem_cons_zero, List.getElem_cons_succ, List.setIfInBounds_toArray, List.set_cons_zero, List.set_cons_succ]
  refine wpAnyH_take (i := 25) (v := ?_) rfl (by kernel_rfl) (by kernel_rfl) (by kernel_rfl) (fun _ _ _ h => h) (Or.inl ⟨by rfl, ?_⟩) (by assumption) ?_
  rotate_left
  · (intro w hSw; (try dsimp only at hSw); go_simp; first | done | with_reducible rfl)
  try simp only [Act.put, List.getElem_toArray, List.getElem_cons_zero, List.getElem_cons_succ, List.setIfInBounds_toArray, List.set_cons_zero, List.set_cons_succ]
  refine wpAnyH_take (i := 26) rfl (by kernel_rfl) (by kernel_rfl) (by kernel_rfl) (fun _ _ _ h => h) (Or.inr ⟨by rfl, rfl⟩) (by assumption) ?_
  try simp only [Act.put, List.getElem_toArray, List.getElem_cons_zero, List.getElem_cons_succ, List.setIfInBounds_toArray, List.set_cons_zero, List.set_cons_succ]
  refine wpAnyH_take (i := 27) rfl (by kernel_rfl) (by kernel_rfl) (by kernel_rfl) (fun _ _ _ h => h) (Or.inr ⟨by rfl, rfl⟩) (by assumption) ?_
  try simp only [Act.put, List.getElem_toArray, List.getElem_cons_zero, List.getElem_cons_succ, List.setIfInBounds_toArray, List.set_cons_zero, List.set_cons_succ]
  refine wpAnyH_take (i := 28) rfl (by kernel_rfl) (by kernel_rfl) (by kernel_rfl) (fun _ _ _ h => h) (Or.inr ⟨by rfl, rfl⟩) (by assumption) ?_
  try simp only [Act.put, List.getElem_toArray, List.getElem_cons_zero, List.getElem_cons_succ, List.setIfInBounds_toArray, List.set_cons_zero, List.set_cons_succ]
  refine wpAnyH_take (i := 29) rfl (by kernel_rfl) (by kernel_rfl) (by kernel_rfl) (fun _ _ _ h => h) (Or.inr ⟨by rfl, rfl⟩) (by assumption) ?_
  try simp only [Act.put, List.getElem_toArray, List.getElem_cons_zero, List.getElem_cons_succ, List.setIfInBounds_toArray, List.set_cons_zero, List.set_cons_succ]
  refine wpAnyH_take (i := 30) rfl (by kernel_rfl) (by kernel_rfl) (by kernel_rfl) (fun _ _ _ h => h) (Or.inr ⟨by rfl, rfl⟩) (by assumption) ?_
  try simp only [Act.put, List.getElem_toArray, List.getElem_cons_zero, List.getElem_cons_succ, List.setIfInBounds_toArray, List.set_cons_zero, List.set_cons_succ]
  refine wpAnyH_take (i := 31) rfl (by kernel_rfl) (by kernel_rfl) (by kernel_rfl) (fun _ _ _ h => h) (Or.inr ⟨by rfl, rfl⟩) (by assumption) ?_
  try simp only [Act.put, List.getElem_toArray, List.getElem_cons_zero, List.getElem_cons_succ, List.setIfInBounds_toArray, List.set_cons_zero, List.set_cons_succ]
  refine wpAnyH_take (i := 32) rfl (by kernel_rfl) (by kernel_rfl) (by kernel_rfl) (fun _ _ _ h => h) (Or.inr ⟨by rfl, rfl⟩) (by assumption) ?_
  try simp only [Act.put, List.getElem_toArray, List.getElem_cons_zero, List.getElem_cons_succ, List.setIfInBounds_toArray, List.set_cons_zero, List.set_cons_succ]
  refine wpAnyH_take (i := 33) rfl (by kernel_rfl) (by kernel_rfl) (by kernel_rfl) (fun _ _ _ h => h) (Or.inr ⟨by rfl, rfl⟩) (by assumption) ?_
  try simp only [Act.put, List.getElem_toArray, List.getElem_cons_zero, List.getElem_cons_succ, List.setIfInBounds_toArray, List.set_cons_zero, List.set_cons_succ]
  refine wpAnyH_take (i := 34) rfl (by kernel_rfl) (by kernel_rfl) (by kernel_rfl) (fun _ _ _ h => h) (Or.inr ⟨by rfl, rfl⟩) (by assumption) ?_
  try simp only [Act.put, List.getElem_toArray, List.getElem_cons_zero, List.getElem_cons_succ, List.setIfInBounds_toArray, List.set_cons_zero, List.set_cons_succ]
  refine wpAnyH_take (i := 35) rfl (by kernel_rfl) (by kernel_rfl) (by kernel_rfl) (fun _ _ _ h => h) (Or.inr ⟨by rfl, rfl⟩) (by assumption) ?_
  try simp only [Act.put, List.getElem_toArray, List.getElem_cons_zero, List.getElem_cons_succ, List.setIfInBounds_toArray, List.set_cons_zero, List.set_cons_succ]
  refine wpAnyH_take (i := 36) (v := ?_) rfl (by kernel_rfl) (by kernel_rfl) (by kernel_rfl) (fun _ _ _ h => h) (Or.inl ⟨by rfl, ?_⟩) (by assumption) ?_
  rotate_left
  · (intro w hSw; (try dsimp only at hSw); go_simp; first | done | with_reducible rfl)
  try simp only [Act.put, List.getElem_toArray, List.getElem_cons_zero, List.getElem_cons_succ, List.setIfInBounds_toArray, List.set_cons_zero, List.set_cons_succ]
  refine wpAnyH_take (i := 37) (v := ?_) rfl (by kernel_rfl) (by kernel_rfl) (by kernel_rfl) (fun _ _ _ h => h) (Or.inl ⟨by rfl, ?_⟩) (by assumption) ?_
  rotate_left
  · (intro w hSw; (try dsimp only at hSw); go_simp; first | done | with_reducible rfl)
  try simp only [Act.put, List.getElem_toArray, List.getElem_cons_zero, List.getElem_cons_succ, List.setIfInBounds_toArray, List.set_cons_zero, List.set_cons_succ]
  refine wpAnyH_done (by kernel_rfl) ?_ _
  refine NoPanic.normal ?_
  refine nmx (F := Exit.then _ _ Exit.normal _) (K := LS p w0 _ _ _) (by first | exact L3.out.below (Cl.bel hCN) | exact L3.out.below (kp.bdr _)) (fun wB XB => ?_)
  have HB := Lib.hid XB
  clear XB
  clear c0 c1 hcl
  have HP := Lib.hid (put_any ⟨8, [], 0, 0, 0, a⟩ HB.out H0.out.2.1 H0.out.2.2.1 (by have := H0.out.2.2.2.1; omega))
  go_wp2_with fail
  refine HP.out.mono ?_
  rintro e w' ⟨rfl, hr⟩
  have HR := Lib.hid hr
  clear hr
  go_wp2_with fail
  exact ⟨rfl, .tuple #[], results_none rfl _ _ _, rfl, by rw [HTK.out, if_pos ⟨by simp, HST.out⟩]; exact HR.out⟩
set_option maxRecDepth 100000 in
set_option maxHeartbeats 8000000 in
theorem one_gd (h : LS p w0 (SN S (c :: r) row 0 b) row ts w) (hp : p < w0.heap.size) (hz : w0.heap.size ≤ p + 1) (hl : ts.length ≤ 65537) (hs : c :: r <:+ S) (hS : S.length ≤ 65537) (ha : S.length - (c :: r).length = a) (hg : sg c = true) (hdot : c :: r.takeWhile sg = [46]) {d : UInt8} {r2 : List UInt8} (hr0 : r.dropWhile sg = d :: r2) (hbd : mem blankL d = false) (hd37 : d = 37) :
    Calls Tryz.prog 14 #[.pointer (some ⟨p, 0, none⟩)] w (OE p w0 S b ts a (tok la c r)) := by
  obtain ⟨i, e0, e1, hi, hb⟩ := suf_at hs
  have hai : a = i := by rw [← ha, e0]
  subst hai
  obtain ⟨⟨c0, c1, c2, c3, -⟩, f1, -, f3, -⟩ := five' h.1
  rw [e0] at c1
  have hlt := Nw.lt h.1
  have hlt2 := hlt
  have hw1 : wrap64 ((a : Int) + 1) = ((a + 1 : Nat) : Int) := by unfold wrap64; omega
  have H0 := Lib.hid (And.intro h (And.intro hp (And.intro hz (And.intro hl hs))))
  have hup := fun w => rupper_any c w
  have hsm := fun w => rlower_any c w
  have hdg := fun w => rdigit_any c w
  have hsg := fun w => rsign_any c w
  have hru := Lib.hid (fun s => run_any s h.1 hs hS)
  have SET1 : Hid (∀ W : World, W.heap[p]? = some (SN S (c :: r) row 0 b) → Nw p (SN S r row 0 b) W (W.setCell ⟨p, 1, none⟩ (.int .i64 ((a : Int) + 1)))) := Lib.hid fun W hW => by
    show Nw p (.cells #[.string ⟨S.toArray⟩, .int .i64 ((S.length - r.length : Nat) : Int), row, .int .i64 0, .bool b] 39 (0, 0)) W _
    rw [e1]; exact Nw.set hW 1 _
  have bl := b_sg c
  simp only [hg, Bool.not_true, Bool.false_or, Bool.and_eq_true, Bool.not_eq_true', decide_eq_false_iff_not] at bl
  obtain ⟨hm, hu, hd, hgr, h95, hlo⟩ := bl
  have HTK : Hid (tok la c r = if c :: r.takeWhile sg = [46] ∧ stops (r.dropWhile sg) = true then .ok 8 [] 0 0 0 (r.dropWhile sg) else txt 1 (c :: r.takeWhile sg) (r.dropWhile sg)) := Lib.hid (by
    unfold tk.tok; rw [if_neg (by rw [hm]; decide), if_neg (by rw [hgr]; simp [h95]), if_neg (by rw [hd]; decide), if_pos hg])
  have hl2 := hlo
  simp only [lonely, Bool.or_eq_false_iff, decide_eq_false_iff_not] at hl2
  obtain ⟨n39, n33, n59, n40, n41, n91, n93, n44, n124⟩ := hl2
  have B39 : Hid (((c.toNat : Int) == 39) = false) := Lib.hid ((beq_byte c 39 39 rfl).trans (decide_eq_false n39))
  have B33 : Hid (((c.toNat : Int) == 33) = false) := Lib.hid ((beq_byte c 33 33 rfl).trans (decide_eq_false n33))
  have B59 : Hid (((c.toNat : Int) == 59) = false) := Lib.hid ((beq_byte c 59 59 rfl).trans (decide_eq_false n59))
  have B40 : Hid (((c.toNat : Int) == 40) = false) := Lib.hid ((beq_byte c 40 40 rfl).trans (decide_eq_false n40))
  have B41 : Hid (((c.toNat : Int) == 41) = false) := Lib.hid ((beq_byte c 41 41 rfl).trans (decide_eq_false n41))
  have B91 : Hid (((c.toNat : Int) == 91) = false) := Lib.hid ((beq_byte c 91 91 rfl).trans (decide_eq_false n91))
  have B93 : Hid (((c.toNat : Int) == 93) = false) := Lib.hid ((beq_byte c 93 93 rfl).trans (decide_eq_false n93))
  have B44 : Hid (((c.toNat : Int) == 44) = false) := Lib.hid ((beq_byte c 44 44 rfl).trans (decide_eq_false n44))
  have B124 : Hid (((c.toNat : Int) == 124) = false) := Lib.hid ((beq_byte c 124 124 rfl).trans (decide_eq_false n124))
  have htw := tw_cons (r := r) sg hg
  have hql : (c :: r.takeWhile sg).length ≤ 65537 := by
    have h1 := hs.length_le
    have h2 := (List.takeWhile_prefix (p := sg) (l := r)).length_le
    simp only [List.length_cons] at h1 ⊢; omega
  have hrs : r.dropWhile sg <:+ S := (drop_suf _ _).trans (suf_tail hs)
  obtain ⟨q, hq⟩ : ∃ q, c :: r.takeWhile sg = q := ⟨_, rfl⟩
  obtain ⟨rest, hrest⟩ : ∃ rest, r.dropWhile sg = rest := ⟨_, rfl⟩
  rw [hq, hrest] at HTK htw
  rw [hq] at hql hdot
  rw [hrest] at hrs hr0
  have HTW := Lib.hid (And.intro htw (And.intro hql hrs))
  clear hlo n39 n33 n59 n40 n41 n91 n93 n44 n124 hru h hp hz hl e0 e1 c2 c3 f1 f3 ha SET1 hgr h95 hq hrest htw hql hrs
  have HST : Hid (stops rest = true) := Lib.hid (by rw [hr0]; simp [stops, hd37])
  have h37 : ((d.toNat : Int) == 37) = true := by rw [hd37]; rfl
  clear hd37
  subst hdot
  subst hr0
  obtain ⟨j, ej, -, hj, hbj⟩ := suf_at HTW.out.2.2
  have HV : Hid (mem blankL d = false) := Lib.hid hbd
  clear hbd
  have hjn : ((j : Int) == (S.length : Int)) = false := by simp; omega
  have H37 := Lib.hid h37
  clear h37
  go_enter Tryz.func14, Tryz.ntmps14
  go_wp2_with fail
  refine (hup _).mono ?_; rintro e w' ⟨rfl, rfl⟩
  rw [hu]
  go_wp2_with fail
  refine (hsm _).mono ?_; rintro e w' ⟨rfl, rfl⟩
  rw [hm]
  go_wp2_with fail
  refine (hdg _).mono ?_; rintro e w' ⟨rfl, rfl⟩
  rw [hd]
  have b39 := B39.out
  have b33 := B33.out
  have b59 := B59.out
  have b40 := B40.out
  have b41 := B41.out
  have b91 := B91.out
  have b93 := B93.out
  have b44 := B44.out
  have b124 := B124.out
  go_wp2_with fail
  go_quiet (fail)
  go_wp2_with fail
  refine (hsg _).mono ?_; rintro e w2 ⟨rfl, Bw2⟩
  rw [hg]
  have L2 := (H0.out.1.turn (Nw.drewN H0.out.1.1 nq)).below Bw2
  have hrun : Calls Tryz.prog 35 #[.pointer (some ⟨p, 0, none⟩), .bool true] w2 fun e w' => e = .returned (.string ⟨#[46]⟩) ∧ Nw p (SN S (d :: r2) row 0 b) w2 w' := by
    have hrun := run_any true L2.1 H0.out.2.2.2.2 hS
    have ef : fs true = sg := rfl
    rw [ef, HTW.out.1.1, HTW.out.1.2] at hrun
    exact hrun
  have HL2 := Lib.hid L2
  clear L2 Bw2 c0 c1 hs
  go_wp2_with fail
  refine hrun.mono ?_; rintro e w3 ⟨rfl, N3⟩
  have L3 := Lib.hid (HL2.out.turn N3)
  clear N3 hrun
  obtain ⟨⟨c0, c1, -⟩, -⟩ := five' L3.out.1
  rw [ej] at c1
  have hcl : Cl w3 [(p, 0, .string ⟨S.toArray⟩), (p, 1, .int .i64 (j : Int))] w3 := ⟨by simp [c0, c1], kp.br _⟩
  go_upto_region 25 with fail
  have h37 := H37.out
  refine wp_region_noPanic ?_
  refine wp_region_held_drew (S := (fun w' => w'.cell? ⟨p, 0, none⟩ = some (.string ⟨S.toArray⟩) ∧ w'.cell? ⟨p, 1, none⟩ = some (.int .i64 (j : Int)))) (by kernel_rfl) ?_ (fun hHeld => ?_)
  · (try dsimp only); first | exact Cl.c2 (by assumption) | exact Cl.c2 (Cl.drew (by assumption)) | go_keep
  refine wpAnyH_take (i := 0) (v := ?_) rfl (by kernel_rfl) (by kernel_rfl) (by kernel_rfl) (fun _ _ _ h => h) (Or.inl ⟨by rfl, ?_⟩) (by assumption) ?_
  rotate_left
  · (intro w hSw; (try dsimp only at hSw); go_simp; first | done | with_reducible rfl)
  try simp only [Act.put, List.getElem_toArray, List.getElem_cons_zero, List.getElem_cons_succ, List.setIfInBounds_toArray, List.set_cons_zero, List.set_cons_succ]
  refine wpAnyH_take (i := 1) (v := ?_) rfl (by kernel_rfl) (by kernel_rfl) (by kernel_rfl) (fun _ _ _ h => h) (Or.inl ⟨by rfl, ?_⟩) (by assumption) ?_
  rotate_left
  · (intro w hSw; (try dsimp only at hSw); go_simp; first | done | with_reducible rfl)
  try simp only [Act.put, List.getElem_toArray, List.getElem_cons_zero, List.getElem_cons_succ, List.setIfInBounds_toArray, List.set_cons_zero, List.set_cons_succ]
  refine wpAnyH_take (i := 2) (v := ?_) rfl (by kernel_rfl) (by kernel_rfl) (by kernel_rfl) (fun _ _ _ h => h) (Or.inl ⟨by rfl, ?_⟩) (by assumption) ?_
  rotate_left
  · (intro w hSw; (try dsimp only at hSw); go_simp; first | done | with_reducible rfl)
  try simp only [Act.put, List.getElem_toArray, List.getElem_cons_zero, List.getElem_cons_succ, List.setIfInBounds_toArray, List.set_cons_zero, List.set_cons_succ]
  refine wpAnyH_take (i := 3) (v := ?_) rfl (by kernel_rfl) (by kernel_rfl) (by kernel_rfl) (fun _ _ _ h => h) (Or.inl ⟨by rfl, ?_⟩) (by assumption) ?_
  rotate_left
  · (intro w hSw; (try dsimp only at hSw); go_simp; first | done | with_reducible rfl)
  try simp only [Act.put, List.getElem_toArray, List.getElem_cons_zero, List.getElem_cons_succ, List.setIfInBounds_toArray, List.set_cons_zero, List.set_cons_succ]
  refine wpAnyH_take (i := 4) (v := ?_) rfl (by kernel_rfl) (by kernel_rfl) (by kernel_rfl) (fun _ _ _ h => h) (Or.inl ⟨by rfl, ?_⟩) (by assumption) ?_
  rotate_left
  · (intro w hSw; (try dsimp only at hSw); go_simp; first | done | with_reducible rfl)
  try simp only [Act.put, List.getElem_toArray, List.getElem_cons_zero, List.getElem_cons_succ, List.setIfInBounds_toArray, List.set_cons_zero, List.set_cons_succ]
  refine wpAnyH_take (i := 5) (v := ?_) rfl (by kernel_rfl) (by kernel_rfl) (by kernel_rfl) (fun _ _ _ h => h) (Or.inl ⟨by rfl, ?_⟩) (by assumption) ?_
  rotate_left
  · (intro w hSw; (try dsimp only at hSw); go_simp; first | done | with_reducible rfl)
  try simp only [Act.put, List.getElem_toArray, List.getElem_cons_zero, List.getElem_cons_succ, List.setIfInBounds_toArray, List.set_cons_zero, List.set_cons_succ]
  refine wpAnyH_take (i := 6) (v := ?_) rfl (by kernel_rfl) (by kernel_rfl) (by kernel_rfl) (fun _ _ _ h => h) (Or.inl ⟨by rfl, ?_⟩) (by assumption) ?_
  rotate_left
  · (intro w hSw; (try dsimp only at hSw); go_simp; first | done | with_reducible rfl)
  try simp only [Act.put, List.getElem_toArray, List.getElem_cons_zero, List.getElem_cons_succ, List.setIfInBounds_toArray, List.set_cons_zero, List.set_cons_succ]
  refine wpAnyH_take (i := 7) (v := ?_) rfl (by kernel_rfl) (by kernel_rfl) (by kernel_rfl) (fun _ _ _ h => h) (Or.inl ⟨by rfl, ?_⟩) (by assumption) ?_
  rotate_left
  · (intro w hSw; (try dsimp only at hSw); go_simp; first | done | with_reducible rfl)
  try simp only [Act.put, List.getElem_toArray, List.getElem_cons_zero, List.getElem_cons_succ, List.setIfInBounds_toArray, List.set_cons_zero, List.set_cons_succ]
  refine wpAnyH_take (i := 8) (v := ?_) rfl (by kernel_rfl) (by kernel_rfl) (by kernel_rfl) (fun _ _ _ h => h) (Or.inl ⟨by rfl, ?_⟩) (by assumption) ?_
  rotate_left
  · (intro w hSw; (try dsimp only at hSw); go_simp; first | done | with_reducible rfl)
  try simp only [Act.put, List.getElem_toArray, List.getElem_cons_zero, List.getElem_cons_succ, List.setIfInBounds_toArray, List.set_cons_zero, List.set_cons_succ]
  refine wpAnyH_take (i := 9) (v := ?_) rfl (by kernel_rfl) (by kernel_rfl) (by kernel_rfl) (fun _ _ _ h => h) (Or.inl ⟨by rfl, ?_⟩) (by assumption) ?_
  rotate_left
  · (intro w hSw; (try dsimp only at hSw); go_simp; first | done | with_reducible rfl)
  try simp only [Act.put, List.getElem_toArray, List.getElem_cons_zero, List.getElem_cons_succ, List.setIfInBounds_toArray, List.set_cons_zero, List.set_cons_succ]
  refine wpAnyH_take (i := 10) (v := ?_) rfl (by kernel_rfl) (by kernel_rfl) (by kernel_rfl) (fun _ _ _ h => h) (Or.inl ⟨by rfl, ?_⟩) (by assumption) ?_
  rotate_left
  · (intro w hSw; (try dsimp only at hSw); go_simp; first | done | with_reducible rfl)
  try simp only [Act.put, List.getElem_toArray, List.getElem_cons_zero, List.getElem_cons_succ, List.setIfInBounds_toArray, List.set_cons_zero, List.set_cons_succ]
  refine wpAnyH_take (i := 11) (v := ?_) rfl (by kernel_rfl) (by kernel_rfl) (by kernel_rfl) (fun _ _ _ h => h) (Or.inl ⟨by rfl, ?_⟩) (by assumption) ?_
  rotate_left
  · (intro w hSw; (try dsimp only at hSw); go_simp; first | done | with_reducible rfl)
  try simp only [Act.put, List.getElem_toArray, List.getElem_cons_zero, List.getElem_cons_succ, List.setIfInBounds_toArray, List.set_cons_zero, List.set_cons_succ]
  refine wpAnyH_take (i := 12) (v := ?_) rfl (by kernel_rfl) (by kernel_rfl) (by kernel_rfl) (fun _ _ _ h => h) (Or.inl ⟨by rfl, ?_⟩) (by assumption) ?_
  rotate_left
  · (intro w hSw; (try dsimp only at hSw); go_simp; first | done | with_reducible rfl)
  try simp only [Act.put, List.getElem_toArray, List.getElem_cons_zero, List.getElem_cons_succ, List.setIfInBounds_toArray, List.set_cons_zero, List.set_cons_succ]
  refine wpAnyH_take (i := 13) (v := ?_) rfl (by kernel_rfl) (by kernel_rfl) (by kernel_rfl) (fun _ _ _ h => h) (Or.inl ⟨by rfl, ?_⟩) (by assumption) ?_
  rotate_left
  · (intro w hSw; (try dsimp only at hSw); go_simp; first | done | with_reducible rfl)
  try simp only [Act.put, List.getElem_toArray, List.getElem_cons_zero, List.getElem_cons_succ, List.setIfInBounds_toArray, List.set_cons_zero, List.set_cons_succ]
  refine wpAnyH_take (i := 14) (v := ?_) rfl (by kernel_rfl) (by kernel_rfl) (by kernel_rfl) (fun _ _ _ h => h) (Or.inl ⟨by rfl, ?_⟩) (by assumption) ?_
  rotate_left
  · (intro w hSw; (try dsimp only at hSw); go_simp; first | done | with_reducible rfl)
  try simp only [Act.put, List.getElem_toArray, List.getElem_cons_zero, List.getElem_cons_succ, List.setIfInBounds_toArray, List.set_cons_zero, List.set_cons_succ]
  refine wpAnyH_take (i := 15) (v := ?_) rfl (by kernel_rfl) (by kernel_rfl) (by kernel_rfl) (fun _ _ _ h => h) (Or.inl ⟨by rfl, ?_⟩) (by assumption) ?_
  rotate_left
  · (intro w hSw; (try dsimp only at hSw); go_simp; first | done | with_reducible rfl)
  try simp only [Act.put, List.getElem_toArray, List.getElem_cons_zero, List.getElem_cons_succ, List.setIfInBounds_toArray, List.set_cons_zero, List.set_cons_succ]
  refine wpAnyH_take (i := 16) (v := ?_) rfl (by kernel_rfl) (by kernel_rfl) (by kernel_rfl) (fun _ _ _ h => h) (Or.inl ⟨by rfl, ?_⟩) (by assumption) ?_
  rotate_left
  · (intro w hSw; (try dsimp only at hSw); go_simp; first | done | with_reducible rfl)
  try simp only [Act.put, List.getElem_toArray, List.getElem_cons_zero, List.getElem_cons_succ, List.setIfInBounds_toArray, List.set_cons_zero, List.set_cons_succ]
  refine wpAnyH_take (i := 17) (v := ?_) rfl (by kernel_rfl) (by kernel_rfl) (by kernel_rfl) (fun _ _ _ h => h) (Or.inl ⟨by rfl, ?_⟩) (by assumption) ?_
  rotate_left
  · (intro w hSw; (try dsimp only at hSw); go_simp; first | done | with_reducible rfl)
  try simp only [Act.put, List.getElem_toArray, List.getElem_cons_zero, List.getElem_cons_succ, List.setIfInBounds_toArray, List.set_cons_zero, List.set_cons_succ]
  refine wpAnyH_take (i := 18) (v := ?_) rfl (by kernel_rfl) (by kernel_rfl) (by kernel_rfl) (fun _ _ _ h => h) (Or.inl ⟨by rfl, ?_⟩) (by assumption) ?_
  rotate_left
  · (intro w hSw; (try dsimp only at hSw); go_simp; first | done | with_reducible rfl)
  try simp only [Act.put, List.getElem_toArray, List.getElem_cons_zero, List.getElem_cons_succ, List.setIfInBounds_toArray, List.set_cons_zero, List.set_cons_succ]
  refine wpAnyH_take (i := 19) (v := ?_) rfl (by kernel_rfl) (by kernel_rfl) (by kernel_rfl) (fun _ _ _ h => h) (Or.inl ⟨by rfl, ?_⟩) (by assumption) ?_
  rotate_left
  · (intro w hSw; (try dsimp only at hSw); go_simp; first | done | with_reducible rfl)
  try simp only [Act.put, List.getElem_toArray, List.getElem_cons_zero, List.getElem_cons_succ, List.setIfInBounds_toArray, List.set_cons_zero, List.set_cons_succ]
  refine wpAnyH_take (i := 20) (v := ?_) rfl (by kernel_rfl) (by kernel_rfl) (by kernel_rfl) (fun _ _ _ h => h) (Or.inl ⟨by rfl, ?_⟩) (by assumption) ?_
  rotate_left
  · (intro w hSw; (try dsimp only at hSw); go_simp; first | done | with_reducible rfl)
  try simp only [Act.put, List.getElem_toArray, List.getElem_cons_zero, List.getElem_cons_succ, List.setIfInBounds_toArray, List.set_cons_zero, List.set_cons_succ]
  refine wpAnyH_take (i := 21) (v := ?_) rfl (by kernel_rfl) (by kernel_rfl) (by kernel_rfl) (fun _ _ _ h => h) (Or.inl ⟨by rfl, ?_⟩) (by assumption) ?_
  rotate_left
  · (intro w hSw; (try dsimp only at hSw); go_simp; first | done | with_reducible rfl)
  try simp only [Act.put, List.getElem_toArray, List.getElem_cons_zero, List.getElem_cons_succ, List.setIfInBounds_toArray, List.set_cons_zero, List.set_cons_succ]
  refine wpAnyH_take (i := 22) (v := ?_) rfl (by kernel_rfl) (by kernel_rfl) (by kernel_rfl) (fun _ _ _ h => h) (Or.inl ⟨by rfl, ?_⟩) (by assumption) ?_
  rotate_left
  · (intro w hSw; (try dsimp only at hSw); go_simp; first | done | with_reducible rfl)
  try simp only [Act.put, List.getElem_toArray, List.getElem_cons_zero, List.getElem_cons_succ, List.setIfInBounds_toArray, List.set_cons_zero, List.set_cons_succ]
  refine wpAnyH_ready (rs := [23]) (by kernel_rfl) (by simp) ?_
  refine AllReadyH.cons rfl (fun K hK => ?_) AllReadyH.nil
  go_simp
  refine (rwhite_any d _).mono ?_
  rintro e wN ⟨rfl, hbN⟩
  subst hbN
  rw [HV.out]
  have hCN := (by first | assumption | exact Cl.drew (by assumption) : Cl w3 [(p, 0, .string ⟨S.toArray⟩), (p, 1, .int .i64 (j : Int))] _)
  go_wp2_with fail
  refine hK.out _ _ ?_ (fun hHeld => ?_)
  · (try dsimp only); first | exact Cl.c2 (by assumption) | exact Cl.c2 (Cl.drew (by assumption)) | go_keep
  clear hK K
  try simp only [Act.put, List.getElem_toArray, List.getElem_cons_zero, List.getElem_cons_succ, List.setIfInBounds_toArray, List.set_cons_zero, List.set_cons_succ]
  refine wpAnyH_take (i := 24) (v := ?_) rfl (by kernel_rfl) (by kernel_rfl) (by kernel_rfl) (fun _ _ _ h => h) (Or.inl ⟨by rfl, ?_⟩) (by assumption) ?_
  rotate_left
  · (intro w hSw; (try dsimp only at hSw); go_simp; first | done | with_reducible rfl)
  try simp only [Act.put, List.getElem_toArray, List.getElem_cons_zero, List.getElem_cons_succ, List.setIfInBounds_toArray, List.set_cons_zero, List.set_cons_succ]
  refine wpAnyH_take (i := 25) (v := ?_) rfl (by kernel_rfl) (by kernel_rfl) (by kernel_rfl) (fun _ _ _ h => h) (Or.inl ⟨by rfl, ?_⟩) (by assumption) ?_
  rotate_left
  · (intro w hSw; (try dsimp only at hSw); go_simp; first | done | with_reducible rfl)
  try simp only [Act.put, List.getElem_toArray, List.getElem_cons_zero, List.getElem_cons_succ, List.setIfInBounds_toArray, List.set_cons_zero, List.set_cons_succ]
  refine wpAnyH_take (i := 26) (v := ?_) rfl (by kernel_rfl) (by kernel_rfl) (by kernel_rfl) (fun _ _ _ h => h) (Or.inl ⟨by rfl, ?_⟩) (by assumption) ?_
  rotate_left
  · (intro w hSw; (try dsimp only at hSw); go_simp; first | done | with_reducible rfl)
  try simp only [Act.put, List.getElem_toArray, List.getElem_cons_zero, List.getElem_cons_succ, List.setIfInBounds_toArray, List.set_cons_zero, List.set_cons_succ]
  refine wpAnyH_take (i := 27) (v := ?_) rfl (by kernel_rfl) (by kernel_rfl) (by kernel_rfl) (fun _ _ _ h => h) (Or.inl ⟨by rfl, ?_⟩) (by assumption) ?_
  rotate_left
  · (intro w hSw; (try dsimp only at hSw); go_simp; first | done | with_reducible rfl)
  try simp only [Act.put, List.getElem_toArray, List.getElem_cons_zero, List.getElem_cons_succ, List.setIfInBounds_toArray, List.set_cons_zero, List.set_cons_succ]
  refine wpAnyH_take (i := 28) (v := ?_) rfl (by kernel_rfl) (by kernel_rfl) (by kernel_rfl) (fun _ _ _ h => h) (Or.inl ⟨by rfl, ?_⟩) (by assumption) ?_
  rotate_left
  · (intro w hSw; (try dsimp only at hSw); go_simp; first | done | with_reducible rfl)
  try simp only [Act.put, List.getElem_toArray, List.getElem_cons_zero, List.getElem_cons_succ, List.setIfInBounds_toArray, List.set_cons_zero, List.set_cons_succ]
  refine wpAnyH_take (i := 29) (v := ?_) rfl (by kernel_rfl) (by kernel_rfl) (by kernel_rfl) (fun _ _ _ h => h) (Or.inl ⟨by rfl, ?_⟩) (by assumption) ?_
  rotate_left
  · (intro w hSw; (try dsimp only at hSw); go_simp; first | done | with_reducible rfl)
  try simp only [Act.put, List.getElem_toArray, List.getElem_cons_zero, List.getElem_cons_succ, List.setIfInBounds_toArray, List.set_cons_zero, List.set_cons_succ]
  refine wpAnyH_take (i := 30) (v := ?_) rfl (by kernel_rfl) (by kernel_rfl) (by kernel_rfl) (fun _ _ _ h => h) (Or.inl ⟨by rfl, ?_⟩) (by assumption) ?_
  rotate_left
  · (intro w hSw; (try dsimp only at hSw); go_simp; first | done | with_reducible rfl)
  try simp only [Act.put, List.getElem_toArray, List.getElem_cons_zero, List.getElem_cons_succ, List.setIfInBounds_toArray, List.set_cons_zero, List.set_cons_succ]
  refine wpAnyH_take (i := 31) (v := ?_) rfl (by kernel_rfl) (by kernel_rfl) (by kernel_rfl) (fun _ _ _ h => h) (Or.inl ⟨by rfl, ?_⟩) (by assumption) ?_
  rotate_left
  · (intro w hSw; (try dsimp only at hSw); go_simp; first | done | with_reducible rfl)
  try simp only [Act.put, List.getElem_toArray, List.getElem_cons_zero, List.getElem_cons_succ, List.setIfInBounds_toArray, List.set_cons_zero, List.set_cons_succ]
  refine wpAnyH_take (i := 32) (v := ?_) rfl (by kernel_rfl) (by kernel_rfl) (by kernel_rfl) (fun _ _ _ h => h) (Or.inl ⟨by rfl, ?_⟩) (by assumption) ?_
  rotate_left
  · (intro w hSw; (try dsimp only at hSw); go_simp; first | done | with_reducible rfl)
  try simp only [Act.put, List.getElem_toArray, List.getElem_cons_zero, List.getElem_cons_succ, List.setIfInBounds_toArray, List.set_cons_zero, List.set_cons_succ]
  refine wpAnyH_take (i := 33) (v := ?_) rfl (by kernel_rfl) (by kernel_rfl) (by kernel_rfl) (fun _ _ _ h => h) (Or.inl ⟨by rfl, ?_⟩) (by assumption) ?_
  rotate_left
  · (intro w hSw; (try dsimp only at hSw); go_simp; first | done | with_reducible rfl)
  try simp only [Act.put, List.getElem_toArray, List.getElem_cons_zero, List.getElem_cons_succ, List.setIfInBounds_toArray, List.set_cons_zero, List.set_cons_succ]
  refine wpAnyH_take (i := 34) (v := ?_) rfl (by kernel_rfl) (by kernel_rfl) (by kernel_rfl) (fun _ _ _ h => h) (Or.inl ⟨by rfl, ?_⟩) (by assumption) ?_
  rotate_left
  · (intro w hSw; (try dsimp only at hSw); go_simp; first | done | with_reducible rfl)
  try simp only [Act.put, List.getElem_toArray, List.getElem_cons_zero, List.getElem_cons_succ, List.setIfInBounds_toArray, List.set_cons_zero, List.set_cons_succ]
  refine wpAnyH_take (i := 35) (v := ?_) rfl (by kernel_rfl) (by kernel_rfl) (by kernel_rfl) (fun _ _ _ h => h) (Or.inl ⟨by rfl, ?_⟩) (by assumption) ?_
  rotate_left
  · (intro w hSw; (try dsimp only at hSw); go_simp; first | done | with_reducible rfl)
  try simp only [Act.put, List.getElem_toArray, List.getElem_cons_zero, List.getElem_cons_succ, List.setIfInBounds_toArray, List.set_cons_zero, List.set_cons_succ]
  refine wpAnyH_take (i := 36) (v := ?_) rfl (by kernel_rfl) (by kernel_rfl) (by kernel_rfl) (fun _ _ _ h => h) (Or.inl ⟨by rfl, ?_⟩) (by assumption) ?_
  rotate_left
  · (intro w hSw; (try dsimp only at hSw); go_simp; first | done | with_reducible rfl)
  try simp only [Act.put, List.getElem_toArray, List.getElem_cons_zero, List.getElem_cons_succ, List.setIfInBounds_toArray, List.set_cons_zero, List.set_cons_succ]
  refine wpAnyH_take (i := 37) (v := ?_) rfl (by kernel_rfl) (by kernel_rfl) (by kernel_rfl) (fun _ _ _ h => h) (Or.inl ⟨by rfl, ?_⟩) (by assumption) ?_
  rotate_left
  · (intro w hSw; (try dsimp only at hSw); go_simp; first | done | with_reducible rfl)
  try simp only [Act.put, List.getElem_toArray, List.getElem_cons_zero, List.getElem_cons_succ, List.setIfInBounds_toArray, List.set_cons_zero, List.set_cons_succ]
  refine wpAnyH_done (by kernel_rfl) ?_ _
  refine NoPanic.normal ?_
  refine nmx (F := Exit.then _ _ Exit.normal _) (K := LS p w0 _ _ _) (by first | exact L3.out.below (Cl.bel hCN) | exact L3.out.below (kp.bdr _)) (fun wB XB => ?_)
  have HB := Lib.hid XB
  clear XB
  clear c0 c1 hcl
  have HP := Lib.hid (put_any ⟨8, [], 0, 0, 0, a⟩ HB.out H0.out.2.1 H0.out.2.2.1 (by have := H0.out.2.2.2.1; omega))
  go_wp2_with fail
  refine HP.out.mono ?_
  rintro e w' ⟨rfl, hr⟩
  have HR := Lib.hid hr
  clear hr
  go_wp2_with fail
  exact ⟨rfl, .tuple #[], results_none rfl _ _ _, rfl, by rw [HTK.out, if_pos ⟨by simp, HST.out⟩]; exact HR.out⟩
set_option maxRecDepth 100000 in
set_option maxHeartbeats 8000000 in
theorem one_ge (h : LS p w0 (SN S (c :: r) row 0 b) row ts w) (hp : p < w0.heap.size) (hz : w0.heap.size ≤ p + 1) (hl : ts.length ≤ 65537) (hs : c :: r <:+ S) (hS : S.length ≤ 65537) (ha : S.length - (c :: r).length = a) (hg : sg c = true) (hdot : c :: r.takeWhile sg = [46]) {d : UInt8} {r2 : List UInt8} (hr0 : r.dropWhile sg = d :: r2) (hbd : mem blankL d = false) (hd37 : d ≠ 37) :
    Calls Tryz.prog 14 #[.pointer (some ⟨p, 0, none⟩)] w (OE p w0 S b ts a (tok la c r)) := by
  obtain ⟨i, e0, e1, hi, hb⟩ := suf_at hs
  have hai : a = i := by rw [← ha, e0]
  subst hai
  obtain ⟨⟨c0, c1, c2, c3, -⟩, f1, -, f3, -⟩ := five' h.1
  rw [e0] at c1
  have hlt := Nw.lt h.1
  have hlt2 := hlt
  have hw1 : wrap64 ((a : Int) + 1) = ((a + 1 : Nat) : Int) := by unfold wrap64; omega
  have H0 := Lib.hid (And.intro h (And.intro hp (And.intro hz (And.intro hl hs))))
  have hup := fun w => rupper_any c w
  have hsm := fun w => rlower_any c w
  have hdg := fun w => rdigit_any c w
  have hsg := fun w => rsign_any c w
  have hru := Lib.hid (fun s => run_any s h.1 hs hS)
  have SET1 : Hid (∀ W : World, W.heap[p]? = some (SN S (c :: r) row 0 b) → Nw p (SN S r row 0 b) W (W.setCell ⟨p, 1, none⟩ (.int .i64 ((a : Int) + 1)))) := Lib.hid fun W hW => by
    show Nw p (.cells #[.string ⟨S.toArray⟩, .int .i64 ((S.length - r.length : Nat) : Int), row, .int .i64 0, .bool b] 39 (0, 0)) W _
    rw [e1]; exact Nw.set hW 1 _
  have bl := b_sg c
  simp only [hg, Bool.not_true, Bool.false_or, Bool.and_eq_true, Bool.not_eq_true', decide_eq_false_iff_not] at bl
  obtain ⟨hm, hu, hd, hgr, h95, hlo⟩ := bl
  have HTK : Hid (tok la c r = if c :: r.takeWhile sg = [46] ∧ stops (r.dropWhile sg) = true then .ok 8 [] 0 0 0 (r.dropWhile sg) else txt 1 (c :: r.takeWhile sg) (r.dropWhile sg)) := Lib.hid (by
    unfold tk.tok; rw [if_neg (by rw [hm]; decide), if_neg (by rw [hgr]; simp [h95]), if_neg (by rw [hd]; decide), if_pos hg])
  have hl2 := hlo
  simp only [lonely, Bool.or_eq_false_iff, decide_eq_false_iff_not] at hl2
  obtain ⟨n39, n33, n59, n40, n41, n91, n93, n44, n124⟩ := hl2
  have B39 : Hid (((c.toNat : Int) == 39) = false) := Lib.hid ((beq_byte c 39 39 rfl).trans (decide_eq_false n39))
  have B33 : Hid (((c.toNat : Int) == 33) = false) := Lib.hid ((beq_byte c 33 33 rfl).trans (decide_eq_false n33))
  have B59 : Hid (((c.toNat : Int) == 59) = false) := Lib.hid ((beq_byte c 59 59 rfl).trans (decide_eq_false n59))
  have B40 : Hid (((c.toNat : Int) == 40) = false) := Lib.hid ((beq_byte c 40 40 rfl).trans (decide_eq_false n40))
  have B41 : Hid (((c.toNat : Int) == 41) = false) := Lib.hid ((beq_byte c 41 41 rfl).trans (decide_eq_false n41))
  have B91 : Hid (((c.toNat : Int) == 91) = false) := Lib.hid ((beq_byte c 91 91 rfl).trans (decide_eq_false n91))
  have B93 : Hid (((c.toNat : Int) == 93) = false) := Lib.hid ((beq_byte c 93 93 rfl).trans (decide_eq_false n93))
  have B44 : Hid (((c.toNat : Int) == 44) = false) := Lib.hid ((beq_byte c 44 44 rfl).trans (decide_eq_false n44))
  have B124 : Hid (((c.toNat : Int) == 124) = false) := Lib.hid ((beq_byte c 124 124 rfl).trans (decide_eq_false n124))
  have htw := tw_cons (r := r) sg hg
  have hql : (c :: r.takeWhile sg).length ≤ 65537 := by
    have h1 := hs.length_le
    have h2 := (List.takeWhile_prefix (p := sg) (l := r)).length_le
    simp only [List.length_cons] at h1 ⊢; omega
  have hrs : r.dropWhile sg <:+ S := (drop_suf _ _).trans (suf_tail hs)
  obtain ⟨q, hq⟩ : ∃ q, c :: r.takeWhile sg = q := ⟨_, rfl⟩
  obtain ⟨rest, hrest⟩ : ∃ rest, r.dropWhile sg = rest := ⟨_, rfl⟩
  rw [hq, hrest] at HTK htw
  rw [hq] at hql hdot
  rw [hrest] at hrs hr0
  have HTW := Lib.hid (And.intro htw (And.intro hql hrs))
  clear hlo n39 n33 n59 n40 n41 n91 n93 n44 n124 hru h hp hz hl e0 e1 c2 c3 f1 f3 ha SET1 hgr h95 hq hrest htw hql hrs
  have HST : Hid (stops rest = false) := Lib.hid (by rw [hr0]; simp [stops, hbd, hd37])
  have h37 : ((d.toNat : Int) == 37) = false := (beq_byte d 37 37 rfl).trans (decide_eq_false hd37)
  clear hd37
  subst hdot
  subst hr0
  obtain ⟨j, ej, -, hj, hbj⟩ := suf_at HTW.out.2.2
  have HV : Hid (mem blankL d = false) := Lib.hid hbd
  clear hbd
  have hjn : ((j : Int) == (S.length : Int)) = false := by simp; omega
  have H37 := Lib.hid h37
  clear h37
  go_enter Tryz.func14, Tryz.ntmps14
  go_wp2_with fail
  refine (hup _).mono ?_; rintro e w' ⟨rfl, rfl⟩
  rw [hu]
  go_wp2_with fail
  refine (hsm _).mono ?_; rintro e w' ⟨rfl, rfl⟩
  rw [hm]
  go_wp2_with fail
  refine (hdg _).mono ?_; rintro e w' ⟨rfl, rfl⟩
  rw [hd]
  have b39 := B39.out
  have b33 := B33.out
  have b59 := B59.out
  have b40 := B40.out
  have b41 := B41.out
  have b91 := B91.out
  have b93 := B93.out
  have b44 := B44.out
  have b124 := B124.out
  go_wp2_with fail
  go_quiet (fail)
  go_wp2_with fail
  refine (hsg _).mono ?_; rintro e w2 ⟨rfl, Bw2⟩
  rw [hg]
  have L2 := (H0.out.1.turn (Nw.drewN H0.out.1.1 nq)).below Bw2
  have hrun : Calls Tryz.prog 35 #[.pointer (some ⟨p, 0, none⟩), .bool true] w2 fun e w' => e = .returned (.string ⟨#[46]⟩) ∧ Nw p (SN S (d :: r2) row 0 b) w2 w' := by
    have hrun := run_any true L2.1 H0.out.2.2.2.2 hS
    have ef : fs true = sg := rfl
    rw [ef, HTW.out.1.1, HTW.out.1.2] at hrun
    exact hrun
  have HL2 := Lib.hid L2
  clear L2 Bw2 c0 c1 hs
  go_wp2_with fail
  refine hrun.mono ?_; rintro e w3 ⟨rfl, N3⟩
  have L3 := Lib.hid (HL2.out.turn N3)
  clear N3 hrun
  obtain ⟨⟨c0, c1, -⟩, -⟩ := five' L3.out.1
  rw [ej] at c1
  have hcl : Cl w3 [(p, 0, .string ⟨S.toArray⟩), (p, 1, .int .i64 (j : Int))] w3 := ⟨by simp [c0, c1], kp.br _⟩
  go_upto_region 25 with fail
  have h37 := H37.out
  refine wp_region_noPanic ?_
  refine wp_region_held_drew (S := (fun w' => w'.cell? ⟨p, 0, none⟩ = some (.string ⟨S.toArray⟩) ∧ w'.cell? ⟨p, 1, none⟩ = some (.int .i64 (j : Int)))) (by kernel_rfl) ?_ (fun hHeld => ?_)
  · (try dsimp only); first | exact Cl.c2 (by assumption) | exact Cl.c2 (Cl.drew (by assumption)) | go_keep
  refine wpAnyH_take (i := 0) (v := ?_) rfl (by kernel_rfl) (by kernel_rfl) (by kernel_rfl) (fun _ _ _ h => h) (Or.inl ⟨by rfl, ?_⟩) (by assumption) ?_
  rotate_left
  · (intro w hSw; (try dsimp only at hSw); go_simp; first | done | with_reducible rfl)
  try simp only [Act.put, List.getElem_toArray, List.getElem_cons_zero, List.getElem_cons_succ, List.setIfInBounds_toArray, List.set_cons_zero, List.set_cons_succ]
  refine wpAnyH_take (i := 1) (v := ?_) rfl (by kernel_rfl) (by kernel_rfl) (by kernel_rfl) (fun _ _ _ h => h) (Or.inl ⟨by rfl, ?_⟩) (by assumption) ?_
  rotate_left
  · (intro w hSw; (try dsimp only at hSw); go_simp; first | done | with_reducible rfl)
  try simp only [Act.put, List.getElem_toArray, List.getElem_cons_zero, List.getElem_cons_succ, List.setIfInBounds_toArray, List.set_cons_zero, List.set_cons_succ]
  refine wpAnyH_take (i := 2) (v := ?_) rfl (by kernel_rfl) (by kernel_rfl) (by kernel_rfl) (fun _ _ _ h => h) (Or.inl ⟨by rfl, ?_⟩) (by assumption) ?_
  rotate_left
  · (intro w hSw; (try dsimp only at hSw); go_simp; first | done | with_reducible rfl)
  try simp only [Act.put, List.getElem_toArray, List.getElem_cons_zero, List.getElem_cons_succ, List.setIfInBounds_toArray, List.set_cons_zero, List.set_cons_succ]
  refine wpAnyH_take (i := 3) (v := ?_) rfl (by kernel_rfl) (by kernel_rfl) (by kernel_rfl) (fun _ _ _ h => h) (Or.inl ⟨by rfl, ?_⟩) (by assumption) ?_
  rotate_left
  · (intro w hSw; (try dsimp only at hSw); go_simp; first | done | with_reducible rfl)
  try simp only [Act.put, List.getElem_toArray, List.getElem_cons_zero, List.getElem_cons_succ, List.setIfInBounds_toArray, List.set_cons_zero, List.set_cons_succ]
  refine wpAnyH_take (i := 4) (v := ?_) rfl (by kernel_rfl) (by kernel_rfl) (by kernel_rfl) (fun _ _ _ h => h) (Or.inl ⟨by rfl, ?_⟩) (by assumption) ?_
  rotate_left
  · (intro w hSw; (try dsimp only at hSw); go_simp; first | done | with_reducible rfl)
  try simp only [Act.put, List.getElem_toArray, List.getElem_cons_zero, List.getElem_cons_succ, List.setIfInBounds_toArray, List.set_cons_zero, List.set_cons_succ]
  refine wpAnyH_take (i := 5) (v := ?_) rfl (by kernel_rfl) (by kernel_rfl) (by kernel_rfl) (fun _ _ _ h => h) (Or.inl ⟨by rfl, ?_⟩) (by assumption) ?_
  rotate_left
  · (intro w hSw; (try dsimp only at hSw); go_simp; first | done | with_reducible rfl)
  try simp only [Act.put, List.getElem_toArray, List.getElem_cons_zero, List.getElem_cons_succ, List.setIfInBounds_toArray, List.set_cons_zero, List.set_cons_succ]
  refine wpAnyH_take (i := 6) (v := ?_) rfl (by kernel_rfl) (by kernel_rfl) (by kernel_rfl) (fun _ _ _ h => h) (Or.inl ⟨by rfl, ?_⟩) (by assumption) ?_
  rotate_left
  · (intro w hSw; (try dsimp only at hSw); go_simp; first | done | with_reducible rfl)
  try simp only [Act.put, List.getElem_toArray, List.getElem_cons_zero, List.getElem_cons_succ, List.setIfInBounds_toArray, List.set_cons_zero, List.set_cons_succ]
  refine wpAnyH_take (i := 7) (v := ?_) rfl (by kernel_rfl) (by kernel_rfl) (by kernel_rfl) (fun _ _ _ h => h) (Or.inl ⟨by rfl, ?_⟩) (by assumption) ?_
  rotate_left
  · (intro w hSw; (try dsimp only at hSw); go_simp; first | done | with_reducible rfl)
  try simp only [Act.put, List.getElem_toArray, List.getElem_cons_zero, List.getElem_cons_succ, List.setIfInBounds_toArray, List.set_cons_zero, List.set_cons_succ]
  refine wpAnyH_take (i := 8) (v := ?_) rfl (by kernel_rfl) (by kernel_rfl) (by kernel_rfl) (fun _ _ _ h => h) (Or.inl ⟨by rfl, ?_⟩) (by assumption) ?_
  rotate_left
  · (intro w hSw; (try dsimp only at hSw); go_simp; first | done | with_reducible rfl)
  try simp only [Act.put, List.getElem_toArray, List.getElem_cons_zero, List.getElem_cons_succ, List.setIfInBounds_toArray, List.set_cons_zero, List.set_cons_succ]
  refine wpAnyH_take (i := 9) (v := ?_) rfl (by kernel_rfl) (by kernel_rfl) (by kernel_rfl) (fun _ _ _ h => h) (Or.inl ⟨by rfl, ?_⟩) (by assumption) ?_
  rotate_left
  · (intro w hSw; (try dsimp only at hSw); go_simp; first | done | with_reducible rfl)
  try simp only [Act.put, List.getElem_toArray, List.getElem_cons_zero, List.getElem_cons_succ, List.setIfInBounds_toArray, List.set_cons_zero, List.set_cons_succ]
  refine wpAnyH_take (i := 10) (v := ?_) rfl (by kernel_rfl) (by kernel_rfl) (by kernel_rfl) (fun _ _ _ h => h) (Or.inl ⟨by rfl, ?_⟩) (by assumption) ?_
  rotate_left
  · (intro w hSw; (try dsimp only at hSw); go_simp; first | done | with_reducible rfl)
  try simp only [Act.put, List.getElem_toArray, List.getElem_cons_zero, List.getElem_cons_succ, List.setIfInBounds_toArray, List.set_cons_zero, List.set_cons_succ]
  refine wpAnyH_take (i := 11) (v := ?_) rfl (by kernel_rfl) (by kernel_rfl) (by kernel_rfl) (fun _ _ _ h => h) (Or.inl ⟨by rfl, ?_⟩) (by assumption) ?_
  rotate_left
  · (intro w hSw; (try dsimp only at hSw); go_simp; first | done | with_reducible rfl)
  try simp only [Act.put, List.getElem_toArray, List.getElem_cons_zero, List.getElem_cons_succ, List.setIfInBounds_toArray, List.set_cons_zero, List.set_cons_succ]
  refine wpAnyH_take (i := 12) (v := ?_) rfl (by kernel_rfl) (by kernel_rfl) (by kernel_rfl) (fun _ _ _ h => h) (Or.inl ⟨by rfl, ?_⟩) (by assumption) ?_
  rotate_left
  · (intro w hSw; (try dsimp only at hSw); go_simp; first | done | with_reducible rfl)
  try simp only [Act.put, List.getElem_toArray, List.getElem_cons_zero, List.getElem_cons_succ, List.setIfInBounds_toArray, List.set_cons_zero, List.set_cons_succ]
  refine wpAnyH_take (i := 13) (v := ?_) rfl (by kernel_rfl) (by kernel_rfl) (by kernel_rfl) (fun _ _ _ h => h) (Or.inl ⟨by rfl, ?_⟩) (by assumption) ?_
  rotate_left
  · (intro w hSw; (try dsimp only at hSw); go_simp; first | done | with_reducible rfl)
  try simp only [Act.put, List.getElem_toArray, List.getElem_cons_zero, List.getElem_cons_succ, List.setIfInBounds_toArray, List.set_cons_zero, List.set_cons_succ]
  refine wpAnyH_take (i := 14) (v := ?_) rfl (by kernel_rfl) (by kernel_rfl) (by kernel_rfl) (fun _ _ _ h => h) (Or.inl ⟨by rfl, ?_⟩) (by assumption) ?_
  rotate_left
  · (intro w hSw; (try dsimp only at hSw); go_simp; first | done | with_reducible rfl)
  try simp only [Act.put, List.getElem_toArray, List.getElem_cons_zero, List.getElem_cons_succ, List.setIfInBounds_toArray, List.set_cons_zero, List.set_cons_succ]
  refine wpAnyH_take (i := 15) (v := ?_) rfl (by kernel_rfl) (by kernel_rfl) (by kernel_rfl) (fun _ _ _ h => h) (Or.inl ⟨by rfl, ?_⟩) (by assumption) ?_
  rotate_left
  · (intro w hSw; (try dsimp only at hSw); go_simp; first | done | with_reducible rfl)
  try simp only [Act.put, List.getElem_toArray, List.getElem_cons_zero, List.getElem_cons_succ, List.setIfInBounds_toArray, List.set_cons_zero, List.set_cons_succ]
  refine wpAnyH_take (i := 16) (v := ?_) rfl (by kernel_rfl) (by kernel_rfl) (by kernel_rfl) (fun _ _ _ h => h) (Or.inl ⟨by rfl, ?_⟩) (by assumption) ?_
  rotate_left
  · (intro w hSw; (try dsimp only at hSw); go_simp; first | done | with_reducible rfl)
  try simp only [Act.put, List.getElem_toArray, List.getElem_cons_zero, List.getElem_cons_succ, List.setIfInBounds_toArray, List.set_cons_zero, List.set_cons_succ]
  refine wpAnyH_take (i := 17) (v := ?_) rfl (by kernel_rfl) (by kernel_rfl) (by kernel_rfl) (fun _ _ _ h => h) (Or.inl ⟨by rfl, ?_⟩) (by assumption) ?_
  rotate_left
  · (intro w hSw; (try dsimp only at hSw); go_simp; first | done | with_reducible rfl)
  try simp only [Act.put, List.getElem_toArray, List.getElem_cons_zero, List.getElem_cons_succ, List.setIfInBounds_toArray, List.set_cons_zero, List.set_cons_succ]
  refine wpAnyH_take (i := 18) (v := ?_) rfl (by kernel_rfl) (by kernel_rfl) (by kernel_rfl) (fun _ _ _ h => h) (Or.inl ⟨by rfl, ?_⟩) (by assumption) ?_
  rotate_left
  · (intro w hSw; (try dsimp only at hSw); go_simp; first | done | with_reducible rfl)
  try simp only [Act.put, List.getElem_toArray, List.getElem_cons_zero, List.getElem_cons_succ, List.setIfInBounds_toArray, List.set_cons_zero, List.set_cons_succ]
  refine wpAnyH_take (i := 19) (v := ?_) rfl (by kernel_rfl) (by kernel_rfl) (by kernel_rfl) (fun _ _ _ h => h) (Or.inl ⟨by rfl, ?_⟩) (by assumption) ?_
  rotate_left
  · (intro w hSw; (try dsimp only at hSw); go_simp; first | done | with_reducible rfl)
  try simp only [Act.put, List.getElem_toArray, List.getElem_cons_zero, List.getElem_cons_succ, List.setIfInBounds_toArray, List.set_cons_zero, List.set_cons_succ]
  refine wpAnyH_take (i := 20) (v := ?_) rfl (by kernel_rfl) (by kernel_rfl) (by kernel_rfl) (fun _ _ _ h => h) (Or.inl ⟨by rfl, ?_⟩) (by assumption) ?_
  rotate_left
  · (intro w hSw; (try dsimp only at hSw); go_simp; first | done | with_reducible rfl)
  try simp only [Act.put, List.getElem_toArray, List.getElem_cons_zero, List.getElem_cons_succ, List.setIfInBounds_toArray, List.set_cons_zero, List.set_cons_succ]
  refine wpAnyH_take (i := 21) (v := ?_) rfl (by kernel_rfl) (by kernel_rfl) (by kernel_rfl) (fun _ _ _ h => h) (Or.inl ⟨by rfl, ?_⟩) (by assumption) ?_
  rotate_left
  · (intro w hSw; (try dsimp only at hSw); go_simp; first | done | with_reducible rfl)
  try simp only [Act.put, List.getElem_toArray, List.getElem_cons_zero, List.getElem_cons_succ, List.setIfInBounds_toArray, List.set_cons_zero, List.set_cons_succ]
  refine wpAnyH_take (i := 22) (v := ?_) rfl (by kernel_rfl) (by kernel_rfl) (by kernel_rfl) (fun _ _ _ h => h) (Or.inl ⟨by rfl, ?_⟩) (by assumption) ?_
  rotate_left
  · (intro w hSw; (try dsimp only at hSw); go_simp; first | done | with_reducible rfl)
  try simp only [Act.put, List.getElem_toArray, List.getElem_cons_zero, List.getElem_cons_succ, List.setIfInBounds_toArray, List.set_cons_zero, List.set_cons_succ]
  refine wpAnyH_ready (rs := [23]) (by kernel_rfl) (by simp) ?_
  refine AllReadyH.cons rfl (fun K hK => ?_) AllReadyH.nil
  go_simp
  refine (rwhite_any d _).mono ?_
  rintro e wN ⟨rfl, hbN⟩
  subst hbN
  rw [HV.out]
  have hCN := (by first | assumption | exact Cl.drew (by assumption) : Cl w3 [(p, 0, .string ⟨S.toArray⟩), (p, 1, .int .i64 (j : Int))] _)
  go_wp2_with fail
  refine hK.out _ _ ?_ (fun hHeld => ?_)
  · (try dsimp only); first | exact Cl.c2 (by assumption) | exact Cl.c2 (Cl.drew (by assumption)) | go_keep
  clear hK K
  try simp only [Act.put, List.getElem_toArray, List.getElem_cons_zero, List.getElem_cons_succ, List.setIfInBounds_toArray, List.set_cons_zero, List.set_cons_succ]
  refine wpAnyH_take (i := 24) (v := ?_) rfl (by kernel_rfl) (by kernel_rfl) (by kernel_rfl) (fun _ _ _ h => h) (Or.inl ⟨by rfl, ?_⟩) (by assumption) ?_
  rotate_left
  · (intro w hSw; (try dsimp only at hSw); go_simp; first | done | with_reducible rfl)
  try simp only [Act.put, List.getElem_toArray, List.getElem_cons_zero, List.getElem_cons_succ, List.setIfInBounds_toArray, List.set_cons_zero, List.set_cons_succ]
  refine wpAnyH_take (i := 25) (v := ?_) rfl (by kernel_rfl) (by kernel_rfl) (by kernel_rfl) (fun _ _ _ h => h) (Or.inl ⟨by rfl, ?_⟩) (by assumption) ?_
  rotate_left
  · (intro w hSw; (try dsimp only at hSw); go_simp; first | done | with_reducible rfl)
  try simp only [Act.put, List.getElem_toArray, List.getElem_cons_zero, List.getElem_cons_succ, List.setIfInBounds_toArray, List.set_cons_zero, List.set_cons_succ]
  refine wpAnyH_take (i := 26) (v := ?_) rfl (by kernel_rfl) (by kernel_rfl) (by kernel_rfl) (fun _ _ _ h => h) (Or.inl ⟨by rfl, ?_⟩) (by assumption) ?_
  rotate_left
  · (intro w hSw; (try dsimp only at hSw); go_simp; first | done | with_reducible rfl)
  try simp only [Act.put, List.getElem_toArray, List.getElem_cons_zero, List.getElem_cons_succ, List.setIfInBounds_toArray, List.set_cons_zero, List.set_cons_succ]
  refine wpAnyH_take (i := 27) (v := ?_) rfl (by kernel_rfl) (by kernel_rfl) (by kernel_rfl) (fun _ _ _ h => h) (Or.inl ⟨by rfl, ?_⟩) (by assumption) ?_
  rotate_left
  · (intro w hSw; (try dsimp only at hSw); go_simp; first | done | with_reducible rfl)
  try simp only [Act.put, List.getElem_toArray, List.getElem_cons_zero, List.getElem_cons_succ, List.setIfInBounds_toArray, List.set_cons_zero, List.set_cons_succ]
  refine wpAnyH_take (i := 28) (v := ?_) rfl (by kernel_rfl) (by kernel_rfl) (by kernel_rfl) (fun _ _ _ h => h) (Or.inl ⟨by rfl, ?_⟩) (by assumption) ?_
  rotate_left
  · (intro w hSw; (try dsimp only at hSw); go_simp; first | done | with_reducible rfl)
  try simp only [Act.put, List.getElem_toArray, List.getElem_cons_zero, List.getElem_cons_succ, List.setIfInBounds_toArray, List.set_cons_zero, List.set_cons_succ]
  refine wpAnyH_take (i := 29) (v := ?_) rfl (by kernel_rfl) (by kernel_rfl) (by kernel_rfl) (fun _ _ _ h => h) (Or.inl ⟨by rfl, ?_⟩) (by assumption) ?_
  rotate_left
  · (intro w hSw; (try dsimp only at hSw); go_simp; first | done | with_reducible rfl)
  try simp only [Act.put, List.getElem_toArray, List.getElem_cons_zero, List.getElem_cons_succ, List.setIfInBounds_toArray, List.set_cons_zero, List.set_cons_succ]
  refine wpAnyH_take (i := 30) (v := ?_) rfl (by kernel_rfl) (by kernel_rfl) (by kernel_rfl) (fun _ _ _ h => h) (Or.inl ⟨by rfl, ?_⟩) (by assumption) ?_
  rotate_left
  · (intro w hSw; (try dsimp only at hSw); go_simp; first | done | with_reducible rfl)
  try simp only [Act.put, List.getElem_toArray, List.getElem_cons_zero, List.getElem_cons_succ, List.setIfInBounds_toArray, List.set_cons_zero, List.set_cons_succ]
  refine wpAnyH_take (i := 31) (v := ?_) rfl (by kernel_rfl) (by kernel_rfl) (by kernel_rfl) (fun _ _ _ h => h) (Or.inl ⟨by rfl, ?_⟩) (by assumption) ?_
  rotate_left
  · (intro w hSw; (try dsimp only at hSw); go_simp; first | done | with_reducible rfl)
  try simp only [Act.put, List.getElem_toArray, List.getElem_cons_zero, List.getElem_cons_succ, List.setIfInBounds_toArray, List.set_cons_zero, List.set_cons_succ]
  refine wpAnyH_take (i := 32) (v := ?_) rfl (by kernel_rfl) (by kernel_rfl) (by kernel_rfl) (fun _ _ _ h => h) (Or.inl ⟨by rfl, ?_⟩) (by assumption) ?_
  rotate_left
  · (intro w hSw; (try dsimp only at hSw); go_simp; first | done | with_reducible rfl)
  try simp only [Act.put, List.getElem_toArray, List.getElem_cons_zero, List.getElem_cons_succ, List.setIfInBounds_toArray, List.set_cons_zero, List.set_cons_succ]
  refine wpAnyH_take (i := 33) (v := ?_) rfl (by kernel_rfl) (by kernel_rfl) (by kernel_rfl) (fun _ _ _ h => h) (Or.inl ⟨by rfl, ?_⟩) (by assumption) ?_
  rotate_left
  · (intro w hSw; (try dsimp only at hSw); go_simp; first | done | with_reducible rfl)
  try simp only [Act.put, List.getElem_toArray, List.getElem_cons_zero, List.getElem_cons_succ, List.setIfInBounds_toArray, List.set_cons_zero, List.set_cons_succ]
  refine wpAnyH_take (i := 34) (v := ?_) rfl (by kernel_rfl) (by kernel_rfl) (by kernel_rfl) (fun _ _ _ h => h) (Or.inl ⟨by rfl, ?_⟩) (by assumption) ?_
  rotate_left
  · (intro w hSw; (try dsimp only at hSw); go_simp; first | done | with_reducible rfl)
  try simp only [Act.put, List.getElem_toArray, List.getElem_cons_zero, List.getElem_cons_succ, List.setIfInBounds_toArray, List.set_cons_zero, List.set_cons_succ]
  refine wpAnyH_take (i := 35) (v := ?_) rfl (by kernel_rfl) (by kernel_rfl) (by kernel_rfl) (fun _ _ _ h => h) (Or.inl ⟨by rfl, ?_⟩) (by assumption) ?_
  rotate_left
  · (intro w hSw; (try dsimp only at hSw); go_simp; first | done | with_reducible rfl)
  try simp only [Act.put, List.getElem_toArray, List.getElem_cons_zero, List.getElem_cons_succ, List.setIfInBounds_toArray, List.set_cons_zero, List.set_cons_succ]
  refine wpAnyH_take (i := 36) (v := ?_) rfl (by kernel_rfl) (by kernel_rfl) (by kernel_rfl) (fun _ _ _ h => h) (Or.inl ⟨by rfl, ?_⟩) (by assumption) ?_
  rotate_left
  · (intro w hSw; (try dsimp only at hSw); go_simp; first | done | with_reducible rfl)
  try simp only [Act.put, List.getElem_toArray, List.getElem_cons_zero, List.getElem_cons_succ, List.setIfInBounds_toArray, List.set_cons_zero, List.set_cons_succ]
  refine wpAnyH_take (i := 37) (v := ?_) rfl (by kernel_rfl) (by kernel_rfl) (by kernel_rfl) (fun _ _ _ h => h) (Or.inl ⟨by rfl, ?_⟩) (by assumption) ?_
  rotate_left
  · (intro w hSw; (try dsimp only at hSw); go_simp; first | done | with_reducible rfl)
  try simp only [Act.put, List.getElem_toArray, List.getElem_cons_zero, List.getElem_cons_succ, List.setIfInBounds_toArray, List.set_cons_zero, List.set_cons_succ]
  refine wpAnyH_done (by kernel_rfl) ?_ _
  refine NoPanic.normal ?_
  refine nmx (F := Exit.then _ _ Exit.normal _) (K := LS p w0 _ _ _) (by first | exact L3.out.below (Cl.bel hCN) | exact L3.out.below (kp.bdr _)) (fun wB XB => ?_)
  have HB := Lib.hid XB
  clear XB
  clear c0 c1 hcl
  have HP := Lib.hid (name_any 1 [46] a HB.out H0.out.2.1 H0.out.2.2.1 (by have := H0.out.2.2.2.1; omega) (by decide))
  go_wp2_with fail
  refine HP.out.mono ?_
  rintro e w' ⟨rfl, hr⟩
  have HR := Lib.hid hr
  clear hr
  go_wp2_with fail
  exact ⟨rfl, .tuple #[], results_none rfl _ _ _, rfl, by rw [HTK.out, if_neg (fun h => by have h2 := h.2; rw [HST.out] at h2; exact absurd h2 (by decide))]; exact (oe_txt HR.out).2⟩
end
end Go.Proofs.YtdcidfpoojodmaaGreatDoor.tr
