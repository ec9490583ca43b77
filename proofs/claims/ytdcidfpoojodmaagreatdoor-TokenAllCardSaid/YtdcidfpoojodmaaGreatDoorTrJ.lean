/- The reference's one: brackets and signs. -/
import Derived.Test.YtdcidfpoojodmaaGreatDoorTrI
namespace Go.Proofs.YtdcidfpoojodmaaGreatDoor.tr
open Go.ChangeShapes Go.WideShapes Go.ChangeAt Go.RowKit Go.Maps
open Go.Proofs.YtdcidfpoojodmaaGreatDoor.kp Go.Proofs.YtdcidfpoojodmaaGreatDoor.num Go.Proofs.YtdcidfpoojodmaaGreatDoor.dec Go.Proofs.YtdcidfpoojodmaaGreatDoor.tk
set_option linter.unusedVariables false
set_option linter.unusedSimpArgs false
section
variable {w w' w0 : World} {p : Nat} {S r : List UInt8} {c : UInt8} {row : Value} {b : Bool} {ts : List Tk} {a : Nat} {la : Int × List UInt8}
set_option maxRecDepth 100000 in
set_option maxHeartbeats 8000000 in
theorem one_p3 (h : LS p w0 (SN S (c :: r) row 0 b) row ts w) (hp : p < w0.heap.size) (hz : w0.heap.size ≤ p + 1) (hl : ts.length ≤ 65537) (hs : c :: r <:+ S) (hS : S.length ≤ 65537) (ha : S.length - (c :: r).length = a) (hc : c = 41 ∨ c = 91 ∨ c = 93 ∨ c = 44 ∨ c = 124) :
    Calls Tryz.prog 14 #[.pointer (some ⟨p, 0, none⟩)] w (OE p w0 S b ts a (tok la c r)) := by
  obtain ⟨i, e0, e1, hi, hb⟩ := suf_at hs
  have hai : a = i := by rw [← ha, e0]
  subst hai
  obtain ⟨⟨c0, c1, c2, c3, -⟩, f1, -, f3, -⟩ := five' h.1
  rw [e0] at c1
  have hlt := Nw.lt h.1
  have hlt2 := hlt
  have hw1 : wrap64 ((a : Int) + 1) = ((a + 1 : Nat) : Int) := by unfold wrap64; omega
  have H0 := Lib.hid (And.intro h (And.intro hp (And.intro hz (And.intro hl hs))))
  have hup := fun w => rupper_any c w
  have hsm := fun w => rlower_any c w
  have hdg := fun w => rdigit_any c w
  have hsg := fun w => rsign_any c w
  have hru := Lib.hid (fun s => run_any s h.1 hs hS)
  have SET1 : Hid (∀ W : World, W.heap[p]? = some (SN S (c :: r) row 0 b) → Nw p (SN S r row 0 b) W (W.setCell ⟨p, 1, none⟩ (.int .i64 ((a : Int) + 1)))) := Lib.hid fun W hW => by
    show Nw p (.cells #[.string ⟨S.toArray⟩, .int .i64 ((S.length - r.length : Nat) : Int), row, .int .i64 0, .bool b] 39 (0, 0)) W _
    rw [e1]; exact Nw.set hW 1 _
  obtain ⟨sa, sc, rfl⟩ := kp.shape h.2.1
  have hlo : lonely c = true := by rcases hc with h | h | h | h | h <;> rw [h] <;> rfl
  have bl := b_lo c
  simp only [hlo, Bool.not_true, Bool.false_or, Bool.and_eq_true, Bool.not_eq_true', decide_eq_false_iff_not] at bl
  obtain ⟨hm, hu, hd, hg, h95, hng⟩ := bl
  have n39 : c ≠ 39 := by rcases hc with h | h | h | h | h <;> rw [h] <;> decide
  have n33 : c ≠ 33 := by rcases hc with h | h | h | h | h <;> rw [h] <;> decide
  have n59 : c ≠ 59 := by rcases hc with h | h | h | h | h <;> rw [h] <;> decide
  have n40 : c ≠ 40 := by rcases hc with h | h | h | h | h <;> rw [h] <;> decide
  have hpu : (decide (c = 40) || (decide (c = 41) || (decide (c = 91) || (decide (c = 93) || (decide (c = 44) || decide (c = 124)))))) = true := by rcases hc with h | h | h | h | h <;> rw [h] <;> rfl
  have hno : ¬(c = 40 ∧ (la.1 = 1 ∨ la.1 = 2)) := fun h => n40 h.1
  have HTK : Hid (tok la c r = .ok 6 [c] 0 0 0 r) := Lib.hid (by
    unfold tk.tok
    rw [if_neg (by rw [hm]; decide), if_neg (by rw [hg]; simp [h95]), if_neg (by rw [hd]; decide), if_neg (by rw [hng]; decide)]
    rw [if_neg (by have := b_solo c; rw [beq_iff_eq] at this; rw [this]; simp [n33, n59]), if_pos (by have := b_punct c; rw [beq_iff_eq] at this; rw [this]; exact hpu), if_neg hno]; rfl)
  have B39 : Hid (((c.toNat : Int) == 39) = false) := Lib.hid ((beq_byte c 39 39 rfl).trans (decide_eq_false n39))
  have B33 : Hid (((c.toNat : Int) == 33) = false) := Lib.hid ((beq_byte c 33 33 rfl).trans (decide_eq_false n33))
  have B59 : Hid (((c.toNat : Int) == 59) = false) := Lib.hid ((beq_byte c 59 59 rfl).trans (decide_eq_false n59))
  have B40 : Hid (((c.toNat : Int) == 40) = false) := Lib.hid ((beq_byte c 40 40 rfl).trans (decide_eq_false n40))
  have hsl := fun w' => one_sl hs ha w' hS
  have HQ : Hid ((((c.toNat : Int) == 41) = true) ∨ (((c.toNat : Int) == 41) = false ∧ ((c.toNat : Int) == 91) = true) ∨ (((c.toNat : Int) == 41) = false ∧ ((c.toNat : Int) == 91) = false ∧ ((c.toNat : Int) == 93) = true) ∨ (((c.toNat : Int) == 41) = false ∧ ((c.toNat : Int) == 91) = false ∧ ((c.toNat : Int) == 93) = false ∧ ((c.toNat : Int) == 44) = true) ∨ (((c.toNat : Int) == 41) = false ∧ ((c.toNat : Int) == 91) = false ∧ ((c.toNat : Int) == 93) = false ∧ ((c.toNat : Int) == 44) = false ∧ ((c.toNat : Int) == 124) = true)) := Lib.hid (by
    rcases hc with h | h | h | h | h
    · exact Or.inl (by rw [h]; rfl)
    · exact Or.inr (Or.inl (by rw [h]; exact ⟨rfl, rfl⟩))
    · exact Or.inr (Or.inr (Or.inl (by rw [h]; exact ⟨rfl, rfl, rfl⟩)))
    · exact Or.inr (Or.inr (Or.inr (Or.inl (by rw [h]; exact ⟨rfl, rfl, rfl, rfl⟩))))
    · exact Or.inr (Or.inr (Or.inr (Or.inr (by rw [h]; exact ⟨rfl, rfl, rfl, rfl, rfl⟩)))))
  obtain ⟨⟨-, -, -, -, c4⟩, -⟩ := five' h.1
  clear hlo hru h hp hz hl hs e1 c3 f3 hsg hg h95 hng hc n39 n33 n59 n40 hpu hno ha
  go_enter Tryz.func14, Tryz.ntmps14
  go_wp2_with fail
  refine (hup _).mono ?_; rintro e w' ⟨rfl, rfl⟩
  rw [hu]
  go_wp2_with fail
  refine (hsm _).mono ?_; rintro e w' ⟨rfl, rfl⟩
  rw [hm]
  go_wp2_with fail
  refine (hdg _).mono ?_; rintro e w' ⟨rfl, rfl⟩
  rw [hd]
  have b39 := B39.out
  have b33 := B33.out
  have b59 := B59.out
  have b40 := B40.out
  go_wp2_with fail
  go_quiet (fail)
  go_upto_region 20 with fail
  refine nmw (K := LS p w0 _ _ _) (H0.out.1.turn (Nw.drewN H0.out.1.1 _)) (fun wB XB => ?_)
  have HB := Lib.hid XB
  clear XB c0 c1 c2 c4 f1
  obtain ⟨⟨c0, c1, -⟩, f1, -⟩ := five' HB.out.1
  rw [e0] at c1
  have hlt := Nw.lt HB.out.1
  have HP := Lib.hid (put_any ⟨6, [c], 0, 0, 0, a⟩ (HB.out.turn (SET1.out _ HB.out.1)) H0.out.2.1 H0.out.2.2.1 (by have := H0.out.2.2.2.1; omega))
  clear e0
  rcases HQ.out with q1 | ⟨q1, q2⟩ | ⟨q1, q2, q3⟩ | ⟨q1, q2, q3, q4⟩ | ⟨q1, q2, q3, q4, q5⟩
  all_goals
    go_wp2_with fail
    refine HP.out.mono ?_
    rintro e w' ⟨rfl, hr⟩
    have HR := Lib.hid hr
    clear hr
    go_wp2_with fail
    exact ⟨rfl, .tuple #[], results_none rfl _ _ _, rfl, by rw [HTK.out]; exact HR.out⟩
set_option maxRecDepth 100000 in
set_option maxHeartbeats 8000000 in
theorem one_p20 (h : LS p w0 (SN S (c :: r) row 0 b) row ts w) (hp : p < w0.heap.size) (hz : w0.heap.size ≤ p + 1) (hl : ts.length ≤ 65537) (hs : c :: r <:+ S) (hS : S.length ≤ 65537) (ha : S.length - (c :: r).length = a) (hc : c = 40) (hop : opn ts b = (decide (la.1 = 1) || decide (la.1 = 2))) (hof : opn ts b = false) (ha0 : ts ≠ [] → 0 < a) (hne : ts = []) :
    Calls Tryz.prog 14 #[.pointer (some ⟨p, 0, none⟩)] w (OE p w0 S b ts a (tok la c r)) := by
  obtain ⟨i, e0, e1, hi, hb⟩ := suf_at hs
  have hai : a = i := by rw [← ha, e0]
  subst hai
  obtain ⟨⟨c0, c1, c2, c3, -⟩, f1, -, f3, -⟩ := five' h.1
  rw [e0] at c1
  have hlt := Nw.lt h.1
  have hlt2 := hlt
  have hw1 : wrap64 ((a : Int) + 1) = ((a + 1 : Nat) : Int) := by unfold wrap64; omega
  have H0 := Lib.hid (And.intro h (And.intro hp (And.intro hz (And.intro hl hs))))
  have hup := fun w => rupper_any c w
  have hsm := fun w => rlower_any c w
  have hdg := fun w => rdigit_any c w
  have hsg := fun w => rsign_any c w
  have hru := Lib.hid (fun s => run_any s h.1 hs hS)
  have SET1 : Hid (∀ W : World, W.heap[p]? = some (SN S (c :: r) row 0 b) → Nw p (SN S r row 0 b) W (W.setCell ⟨p, 1, none⟩ (.int .i64 ((a : Int) + 1)))) := Lib.hid fun W hW => by
    show Nw p (.cells #[.string ⟨S.toArray⟩, .int .i64 ((S.length - r.length : Nat) : Int), row, .int .i64 0, .bool b] 39 (0, 0)) W _
    rw [e1]; exact Nw.set hW 1 _
  have hlo : lonely c = true := by rw [hc]; rfl
  have bl := b_lo c
  simp only [hlo, Bool.not_true, Bool.false_or, Bool.and_eq_true, Bool.not_eq_true', decide_eq_false_iff_not] at bl
  obtain ⟨hm, hu, hd, hg, h95, hng⟩ := bl
  have n39 : c ≠ 39 := by rw [hc]; decide
  have n33 : c ≠ 33 := by rw [hc]; decide
  have n59 : c ≠ 59 := by rw [hc]; decide
  have hpu : (decide (c = 40) || (decide (c = 41) || (decide (c = 91) || (decide (c = 93) || (decide (c = 44) || decide (c = 124)))))) = true := by rw [hc]; rfl
  have hno : ¬(c = 40 ∧ (la.1 = 1 ∨ la.1 = 2)) := fun h => by
    have h2 := hop.symm.trans hof
    simp only [Bool.or_eq_false_iff, decide_eq_false_iff_not] at h2
    rcases h.2 with h3 | h3
    · exact h2.1 h3
    · exact h2.2 h3
  have HTK : Hid (tok la c r = .ok 6 [c] 0 0 0 r) := Lib.hid (by
    unfold tk.tok
    rw [if_neg (by rw [hm]; decide), if_neg (by rw [hg]; simp [h95]), if_neg (by rw [hd]; decide), if_neg (by rw [hng]; decide)]
    rw [if_neg (by have := b_solo c; rw [beq_iff_eq] at this; rw [this]; simp [n33, n59]), if_pos (by have := b_punct c; rw [beq_iff_eq] at this; rw [this]; exact hpu), if_neg hno]; rfl)
  have B39 : Hid (((c.toNat : Int) == 39) = false) := Lib.hid ((beq_byte c 39 39 rfl).trans (decide_eq_false n39))
  have B33 : Hid (((c.toNat : Int) == 33) = false) := Lib.hid ((beq_byte c 33 33 rfl).trans (decide_eq_false n33))
  have B59 : Hid (((c.toNat : Int) == 59) = false) := Lib.hid ((beq_byte c 59 59 rfl).trans (decide_eq_false n59))
  have B40 : Hid (((c.toNat : Int) == 40) = true) := Lib.hid (by rw [hc]; rfl)
  have hsl := fun w' => one_sl hs ha w' hS
  obtain ⟨⟨-, -, -, -, c4⟩, -⟩ := five' h.1
  clear hno hop
  subst hne
  obtain ⟨sa, sc, rfl⟩ := kp.shape h.2.1
  clear hlo hru h hp hz hl hs e1 c3 f3 hsg hg h95 hng hc n39 n33 n59 hpu ha hof ha0
  go_enter Tryz.func14, Tryz.ntmps14
  go_wp2_with fail
  refine (hup _).mono ?_; rintro e w' ⟨rfl, rfl⟩
  rw [hu]
  go_wp2_with fail
  refine (hsm _).mono ?_; rintro e w' ⟨rfl, rfl⟩
  rw [hm]
  go_wp2_with fail
  refine (hdg _).mono ?_; rintro e w' ⟨rfl, rfl⟩
  rw [hd]
  have b39 := B39.out
  have b33 := B33.out
  have b59 := B59.out
  have b40 := B40.out
  go_wp2_with fail
  go_quiet (fail)
  go_upto_region 20 with fail
  refine nmw (K := LS p w0 _ _ _) (H0.out.1.turn (Nw.drewN H0.out.1.1 _)) (fun wB XB => ?_)
  have HB := Lib.hid XB
  clear XB c0 c1 c2 c4 f1
  obtain ⟨⟨c0, c1, -⟩, f1, -⟩ := five' HB.out.1
  rw [e0] at c1
  have hlt := Nw.lt HB.out.1
  have HP := Lib.hid (put_any ⟨6, [c], 0, 0, 0, a⟩ (HB.out.turn (SET1.out _ HB.out.1)) H0.out.2.1 H0.out.2.2.1 (by have := H0.out.2.2.2.1; omega))
  clear e0
  go_wp2_with fail
  refine HP.out.mono ?_
  rintro e w' ⟨rfl, hr⟩
  have HR := Lib.hid hr
  clear hr
  go_wp2_with fail
  exact ⟨rfl, .tuple #[], results_none rfl _ _ _, rfl, by rw [HTK.out]; exact HR.out⟩
set_option maxRecDepth 100000 in
set_option maxHeartbeats 8000000 in
theorem one_p21 (h : LS p w0 (SN S (c :: r) row 0 b) row ts w) (hp : p < w0.heap.size) (hz : w0.heap.size ≤ p + 1) (hl : ts.length ≤ 65537) (hs : c :: r <:+ S) (hS : S.length ≤ 65537) (ha : S.length - (c :: r).length = a) (hc : c = 40) (hop : opn ts b = (decide (la.1 = 1) || decide (la.1 = 2))) (hof : opn ts b = false) (hne : ts ≠ []) (hb1 : b = true) (ha0 : ts ≠ [] → 0 < a) (hk9 : ts.getLast?.map Tk.k = some 1) :
    Calls Tryz.prog 14 #[.pointer (some ⟨p, 0, none⟩)] w (OE p w0 S b ts a (tok la c r)) := by
  obtain ⟨i, e0, e1, hi, hb⟩ := suf_at hs
  have hai : a = i := by rw [← ha, e0]
  subst hai
  obtain ⟨⟨c0, c1, c2, c3, -⟩, f1, -, f3, -⟩ := five' h.1
  rw [e0] at c1
  have hlt := Nw.lt h.1
  have hlt2 := hlt
  have hw1 : wrap64 ((a : Int) + 1) = ((a + 1 : Nat) : Int) := by unfold wrap64; omega
  have H0 := Lib.hid (And.intro h (And.intro hp (And.intro hz (And.intro hl hs))))
  have hup := fun w => rupper_any c w
  have hsm := fun w => rlower_any c w
  have hdg := fun w => rdigit_any c w
  have hsg := fun w => rsign_any c w
  have hru := Lib.hid (fun s => run_any s h.1 hs hS)
  have SET1 : Hid (∀ W : World, W.heap[p]? = some (SN S (c :: r) row 0 b) → Nw p (SN S r row 0 b) W (W.setCell ⟨p, 1, none⟩ (.int .i64 ((a : Int) + 1)))) := Lib.hid fun W hW => by
    show Nw p (.cells #[.string ⟨S.toArray⟩, .int .i64 ((S.length - r.length : Nat) : Int), row, .int .i64 0, .bool b] 39 (0, 0)) W _
    rw [e1]; exact Nw.set hW 1 _
  obtain ⟨sa, sc, rfl⟩ := kp.shape h.2.1
  have hlo : lonely c = true := by rw [hc]; rfl
  have bl := b_lo c
  simp only [hlo, Bool.not_true, Bool.false_or, Bool.and_eq_true, Bool.not_eq_true', decide_eq_false_iff_not] at bl
  obtain ⟨hm, hu, hd, hg, h95, hng⟩ := bl
  have n39 : c ≠ 39 := by rw [hc]; decide
  have n33 : c ≠ 33 := by rw [hc]; decide
  have n59 : c ≠ 59 := by rw [hc]; decide
  have hpu : (decide (c = 40) || (decide (c = 41) || (decide (c = 91) || (decide (c = 93) || (decide (c = 44) || decide (c = 124)))))) = true := by rw [hc]; rfl
  have hno : ¬(c = 40 ∧ (la.1 = 1 ∨ la.1 = 2)) := fun h => by
    have h2 := hop.symm.trans hof
    simp only [Bool.or_eq_false_iff, decide_eq_false_iff_not] at h2
    rcases h.2 with h3 | h3
    · exact h2.1 h3
    · exact h2.2 h3
  have HTK : Hid (tok la c r = .ok 6 [c] 0 0 0 r) := Lib.hid (by
    unfold tk.tok
    rw [if_neg (by rw [hm]; decide), if_neg (by rw [hg]; simp [h95]), if_neg (by rw [hd]; decide), if_neg (by rw [hng]; decide)]
    rw [if_neg (by have := b_solo c; rw [beq_iff_eq] at this; rw [this]; simp [n33, n59]), if_pos (by have := b_punct c; rw [beq_iff_eq] at this; rw [this]; exact hpu), if_neg hno]; rfl)
  have B39 : Hid (((c.toNat : Int) == 39) = false) := Lib.hid ((beq_byte c 39 39 rfl).trans (decide_eq_false n39))
  have B33 : Hid (((c.toNat : Int) == 33) = false) := Lib.hid ((beq_byte c 33 33 rfl).trans (decide_eq_false n33))
  have B59 : Hid (((c.toNat : Int) == 59) = false) := Lib.hid ((beq_byte c 59 59 rfl).trans (decide_eq_false n59))
  have B40 : Hid (((c.toNat : Int) == 40) = true) := Lib.hid (by rw [hc]; rfl)
  have hsl := fun w' => one_sl hs ha w' hS
  obtain ⟨⟨-, -, -, -, c4⟩, -⟩ := five' h.1
  clear hno hop
  obtain ⟨ts', x, rfl⟩ : ∃ ts' x, ts = ts' ++ [x] := ⟨ts.dropLast, ts.getLast hne, (List.dropLast_concat_getLast hne).symm⟩
  obtain ⟨n, hn⟩ : ∃ n, ts'.length = n := ⟨_, rfl⟩
  have hln : (ts' ++ [x]).length = n + 1 := by simp [hn]
  have hget : (ts' ++ [x])[n]? = some x := by rw [← hn]; simp
  have hwn : wrap64 (n : Int) = (n : Int) := by unfold wrap64; omega
  obtain ⟨g, cc, hv, hgl, -, hk⟩ := h.2.1.look (by simp)
  rw [hln] at hv
  have hx6 := hk n x hget
  have hix := fun w => ixT (g := g) (c := cc) (k := n) (n := n + 1) (by omega) w
  obtain ⟨t0, -⟩ := hx6
  cases hv
  rw [hln] at c2
  have hi0 : decide (0 < (n : Int) + 1) = true := decide_eq_true (Int.lt_add_one_of_le (Int.natCast_nonneg n))
  have hap : decide (0 < (a : Int)) = true := decide_eq_true (Int.natCast_pos.2 (ha0 (by simp)))
  have hap2 : decide (0 < a) = true := decide_eq_true (ha0 (by simp))
  obtain ⟨k, t, nn, re, im, ax⟩ := x
  dsimp only at t0
  subst hb1
  have hkk : k = 1 := by simpa using hk9
  subst hkk
  have HL := Lib.hid hln
  clear hlo hru h hp hz hl hs e1 c3 f3 hsg hg h95 hng hc n39 n33 n59 hpu ha hof ha0 hne hget hn hk hln hk9
  go_enter Tryz.func14, Tryz.ntmps14
  go_wp2_with fail
  refine (hup _).mono ?_; rintro e w' ⟨rfl, rfl⟩
  rw [hu]
  go_wp2_with fail
  refine (hsm _).mono ?_; rintro e w' ⟨rfl, rfl⟩
  rw [hm]
  go_wp2_with fail
  refine (hdg _).mono ?_; rintro e w' ⟨rfl, rfl⟩
  rw [hd]
  have b39 := B39.out
  have b33 := B33.out
  have b59 := B59.out
  have b40 := B40.out
  go_wp2_with fail
  go_quiet (fail)
  go_upto_region 20 with fail
  refine nmw (K := LS p w0 _ _ _) (H0.out.1.turn (Nw.drewN H0.out.1.1 _)) (fun wB XB => ?_)
  have HB := Lib.hid XB
  clear XB c0 c1 c2 c4 f1
  obtain ⟨⟨c0, c1, -⟩, f1, -⟩ := five' HB.out.1
  rw [e0] at c1
  have hlt := Nw.lt HB.out.1
  have HP := Lib.hid (put_any ⟨6, [c], 0, 0, 0, a⟩ (HB.out.turn (SET1.out _ HB.out.1)) H0.out.2.1 H0.out.2.2.1 (by have := H0.out.2.2.2.1; omega))
  clear e0
  go_wp2_with fail
  refine HP.out.mono ?_
  rintro e w' ⟨rfl, hr⟩
  have HR := Lib.hid hr
  clear hr
  go_wp2_with fail
  exact ⟨rfl, .tuple #[], results_none rfl _ _ _, rfl, by rw [HTK.out]; exact HR.out⟩
set_option maxRecDepth 100000 in
set_option maxHeartbeats 8000000 in
theorem one_p22 (h : LS p w0 (SN S (c :: r) row 0 b) row ts w) (hp : p < w0.heap.size) (hz : w0.heap.size ≤ p + 1) (hl : ts.length ≤ 65537) (hs : c :: r <:+ S) (hS : S.length ≤ 65537) (ha : S.length - (c :: r).length = a) (hc : c = 40) (hop : opn ts b = (decide (la.1 = 1) || decide (la.1 = 2))) (hof : opn ts b = false) (hne : ts ≠ []) (hb1 : b = true) (ha0 : ts ≠ [] → 0 < a) (hk9 : ts.getLast?.map Tk.k = some 2) :
    Calls Tryz.prog 14 #[.pointer (some ⟨p, 0, none⟩)] w (OE p w0 S b ts a (tok la c r)) := by
  obtain ⟨i, e0, e1, hi, hb⟩ := suf_at hs
  have hai : a = i := by rw [← ha, e0]
  subst hai
  obtain ⟨⟨c0, c1, c2, c3, -⟩, f1, -, f3, -⟩ := five' h.1
  rw [e0] at c1
  have hlt := Nw.lt h.1
  have hlt2 := hlt
  have hw1 : wrap64 ((a : Int) + 1) = ((a + 1 : Nat) : Int) := by unfold wrap64; omega
  have H0 := Lib.hid (And.intro h (And.intro hp (And.intro hz (And.intro hl hs))))
  have hup := fun w => rupper_any c w
  have hsm := fun w => rlower_any c w
  have hdg := fun w => rdigit_any c w
  have hsg := fun w => rsign_any c w
  have hru := Lib.hid (fun s => run_any s h.1 hs hS)
  have SET1 : Hid (∀ W : World, W.heap[p]? = some (SN S (c :: r) row 0 b) → Nw p (SN S r row 0 b) W (W.setCell ⟨p, 1, none⟩ (.int .i64 ((a : Int) + 1)))) := Lib.hid fun W hW => by
    show Nw p (.cells #[.string ⟨S.toArray⟩, .int .i64 ((S.length - r.length : Nat) : Int), row, .int .i64 0, .bool b] 39 (0, 0)) W _
    rw [e1]; exact Nw.set hW 1 _
  obtain ⟨sa, sc, rfl⟩ := kp.shape h.2.1
  have hlo : lonely c = true := by rw [hc]; rfl
  have bl := b_lo c
  simp only [hlo, Bool.not_true, Bool.false_or, Bool.and_eq_true, Bool.not_eq_true', decide_eq_false_iff_not] at bl
  obtain ⟨hm, hu, hd, hg, h95, hng⟩ := bl
  have n39 : c ≠ 39 := by rw [hc]; decide
  have n33 : c ≠ 33 := by rw [hc]; decide
  have n59 : c ≠ 59 := by rw [hc]; decide
  have hpu : (decide (c = 40) || (decide (c = 41) || (decide (c = 91) || (decide (c = 93) || (decide (c = 44) || decide (c = 124)))))) = true := by rw [hc]; rfl
  have hno : ¬(c = 40 ∧ (la.1 = 1 ∨ la.1 = 2)) := fun h => by
    have h2 := hop.symm.trans hof
    simp only [Bool.or_eq_false_iff, decide_eq_false_iff_not] at h2
    rcases h.2 with h3 | h3
    · exact h2.1 h3
    · exact h2.2 h3
  have HTK : Hid (tok la c r = .ok 6 [c] 0 0 0 r) := Lib.hid (by
    unfold tk.tok
    rw [if_neg (by rw [hm]; decide), if_neg (by rw [hg]; simp [h95]), if_neg (by rw [hd]; decide), if_neg (by rw [hng]; decide)]
    rw [if_neg (by have := b_solo c; rw [beq_iff_eq] at this; rw [this]; simp [n33, n59]), if_pos (by have := b_punct c; rw [beq_iff_eq] at this; rw [this]; exact hpu), if_neg hno]; rfl)
  have B39 : Hid (((c.toNat : Int) == 39) = false) := Lib.hid ((beq_byte c 39 39 rfl).trans (decide_eq_false n39))
  have B33 : Hid (((c.toNat : Int) == 33) = false) := Lib.hid ((beq_byte c 33 33 rfl).trans (decide_eq_false n33))
  have B59 : Hid (((c.toNat : Int) == 59) = false) := Lib.hid ((beq_byte c 59 59 rfl).trans (decide_eq_false n59))
  have B40 : Hid (((c.toNat : Int) == 40) = true) := Lib.hid (by rw [hc]; rfl)
  have hsl := fun w' => one_sl hs ha w' hS
  obtain ⟨⟨-, -, -, -, c4⟩, -⟩ := five' h.1
  clear hno hop
  obtain ⟨ts', x, rfl⟩ : ∃ ts' x, ts = ts' ++ [x] := ⟨ts.dropLast, ts.getLast hne, (List.dropLast_concat_getLast hne).symm⟩
  obtain ⟨n, hn⟩ : ∃ n, ts'.length = n := ⟨_, rfl⟩
  have hln : (ts' ++ [x]).length = n + 1 := by simp [hn]
  have hget : (ts' ++ [x])[n]? = some x := by rw [← hn]; simp
  have hwn : wrap64 (n : Int) = (n : Int) := by unfold wrap64; omega
  obtain ⟨g, cc, hv, hgl, -, hk⟩ := h.2.1.look (by simp)
  rw [hln] at hv
  have hx6 := hk n x hget
  have hix := fun w => ixT (g := g) (c := cc) (k := n) (n := n + 1) (by omega) w
  obtain ⟨t0, -⟩ := hx6
  cases hv
  rw [hln] at c2
  have hi0 : decide (0 < (n : Int) + 1) = true := decide_eq_true (Int.lt_add_one_of_le (Int.natCast_nonneg n))
  have hap : decide (0 < (a : Int)) = true := decide_eq_true (Int.natCast_pos.2 (ha0 (by simp)))
  have hap2 : decide (0 < a) = true := decide_eq_true (ha0 (by simp))
  obtain ⟨k, t, nn, re, im, ax⟩ := x
  dsimp only at t0
  subst hb1
  have hkk : k = 2 := by simpa using hk9
  subst hkk
  have HL := Lib.hid hln
  clear hlo hru h hp hz hl hs e1 c3 f3 hsg hg h95 hng hc n39 n33 n59 hpu ha hof ha0 hne hget hn hk hln hk9
  go_enter Tryz.func14, Tryz.ntmps14
  go_wp2_with fail
  refine (hup _).mono ?_; rintro e w' ⟨rfl, rfl⟩
  rw [hu]
  go_wp2_with fail
  refine (hsm _).mono ?_; rintro e w' ⟨rfl, rfl⟩
  rw [hm]
  go_wp2_with fail
  refine (hdg _).mono ?_; rintro e w' ⟨rfl, rfl⟩
  rw [hd]
  have b39 := B39.out
  have b33 := B33.out
  have b59 := B59.out
  have b40 := B40.out
  go_wp2_with fail
  go_quiet (fail)
  go_upto_region 20 with fail
  refine nmw (K := LS p w0 _ _ _) (H0.out.1.turn (Nw.drewN H0.out.1.1 _)) (fun wB XB => ?_)
  have HB := Lib.hid XB
  clear XB c0 c1 c2 c4 f1
  obtain ⟨⟨c0, c1, -⟩, f1, -⟩ := five' HB.out.1
  rw [e0] at c1
  have hlt := Nw.lt HB.out.1
  have HP := Lib.hid (put_any ⟨6, [c], 0, 0, 0, a⟩ (HB.out.turn (SET1.out _ HB.out.1)) H0.out.2.1 H0.out.2.2.1 (by have := H0.out.2.2.2.1; omega))
  clear e0
  go_wp2_with fail
  refine HP.out.mono ?_
  rintro e w' ⟨rfl, hr⟩
  have HR := Lib.hid hr
  clear hr
  go_wp2_with fail
  exact ⟨rfl, .tuple #[], results_none rfl _ _ _, rfl, by rw [HTK.out]; exact HR.out⟩
set_option maxRecDepth 100000 in
set_option maxHeartbeats 8000000 in
theorem one_p23 (h : LS p w0 (SN S (c :: r) row 0 b) row ts w) (hp : p < w0.heap.size) (hz : w0.heap.size ≤ p + 1) (hl : ts.length ≤ 65537) (hs : c :: r <:+ S) (hS : S.length ≤ 65537) (ha : S.length - (c :: r).length = a) (hc : c = 40) (hop : opn ts b = (decide (la.1 = 1) || decide (la.1 = 2))) (hof : opn ts b = false) (hne : ts ≠ []) (ha0 : ts ≠ [] → 0 < a) (hk9 : ts.getLast?.map Tk.k ≠ some 1 ∧ ts.getLast?.map Tk.k ≠ some 2) :
    Calls Tryz.prog 14 #[.pointer (some ⟨p, 0, none⟩)] w (OE p w0 S b ts a (tok la c r)) := by
  obtain ⟨i, e0, e1, hi, hb⟩ := suf_at hs
  have hai : a = i := by rw [← ha, e0]
  subst hai
  obtain ⟨⟨c0, c1, c2, c3, -⟩, f1, -, f3, -⟩ := five' h.1
  rw [e0] at c1
  have hlt := Nw.lt h.1
  have hlt2 := hlt
  have hw1 : wrap64 ((a : Int) + 1) = ((a + 1 : Nat) : Int) := by unfold wrap64; omega
  have H0 := Lib.hid (And.intro h (And.intro hp (And.intro hz (And.intro hl hs))))
  have hup := fun w => rupper_any c w
  have hsm := fun w => rlower_any c w
  have hdg := fun w => rdigit_any c w
  have hsg := fun w => rsign_any c w
  have hru := Lib.hid (fun s => run_any s h.1 hs hS)
  have SET1 : Hid (∀ W : World, W.heap[p]? = some (SN S (c :: r) row 0 b) → Nw p (SN S r row 0 b) W (W.setCell ⟨p, 1, none⟩ (.int .i64 ((a : Int) + 1)))) := Lib.hid fun W hW => by
    show Nw p (.cells #[.string ⟨S.toArray⟩, .int .i64 ((S.length - r.length : Nat) : Int), row, .int .i64 0, .bool b] 39 (0, 0)) W _
    rw [e1]; exact Nw.set hW 1 _
  obtain ⟨sa, sc, rfl⟩ := kp.shape h.2.1
  have hlo : lonely c = true := by rw [hc]; rfl
  have bl := b_lo c
  simp only [hlo, Bool.not_true, Bool.false_or, Bool.and_eq_true, Bool.not_eq_true', decide_eq_false_iff_not] at bl
  obtain ⟨hm, hu, hd, hg, h95, hng⟩ := bl
  have n39 : c ≠ 39 := by rw [hc]; decide
  have n33 : c ≠ 33 := by rw [hc]; decide
  have n59 : c ≠ 59 := by rw [hc]; decide
  have hpu : (decide (c = 40) || (decide (c = 41) || (decide (c = 91) || (decide (c = 93) || (decide (c = 44) || decide (c = 124)))))) = true := by rw [hc]; rfl
  have hno : ¬(c = 40 ∧ (la.1 = 1 ∨ la.1 = 2)) := fun h => by
    have h2 := hop.symm.trans hof
    simp only [Bool.or_eq_false_iff, decide_eq_false_iff_not] at h2
    rcases h.2 with h3 | h3
    · exact h2.1 h3
    · exact h2.2 h3
  have HTK : Hid (tok la c r = .ok 6 [c] 0 0 0 r) := Lib.hid (by
    unfold tk.tok
    rw [if_neg (by rw [hm]; decide), if_neg (by rw [hg]; simp [h95]), if_neg (by rw [hd]; decide), if_neg (by rw [hng]; decide)]
    rw [if_neg (by have := b_solo c; rw [beq_iff_eq] at this; rw [this]; simp [n33, n59]), if_pos (by have := b_punct c; rw [beq_iff_eq] at this; rw [this]; exact hpu), if_neg hno]; rfl)
  have B39 : Hid (((c.toNat : Int) == 39) = false) := Lib.hid ((beq_byte c 39 39 rfl).trans (decide_eq_false n39))
  have B33 : Hid (((c.toNat : Int) == 33) = false) := Lib.hid ((beq_byte c 33 33 rfl).trans (decide_eq_false n33))
  have B59 : Hid (((c.toNat : Int) == 59) = false) := Lib.hid ((beq_byte c 59 59 rfl).trans (decide_eq_false n59))
  have B40 : Hid (((c.toNat : Int) == 40) = true) := Lib.hid (by rw [hc]; rfl)
  have hsl := fun w' => one_sl hs ha w' hS
  obtain ⟨⟨-, -, -, -, c4⟩, -⟩ := five' h.1
  clear hno hop
  obtain ⟨ts', x, rfl⟩ : ∃ ts' x, ts = ts' ++ [x] := ⟨ts.dropLast, ts.getLast hne, (List.dropLast_concat_getLast hne).symm⟩
  obtain ⟨n, hn⟩ : ∃ n, ts'.length = n := ⟨_, rfl⟩
  have hln : (ts' ++ [x]).length = n + 1 := by simp [hn]
  have hget : (ts' ++ [x])[n]? = some x := by rw [← hn]; simp
  have hwn : wrap64 (n : Int) = (n : Int) := by unfold wrap64; omega
  obtain ⟨g, cc, hv, hgl, -, hk⟩ := h.2.1.look (by simp)
  rw [hln] at hv
  have hx6 := hk n x hget
  have hix := fun w => ixT (g := g) (c := cc) (k := n) (n := n + 1) (by omega) w
  obtain ⟨t0, -⟩ := hx6
  cases hv
  rw [hln] at c2
  have hi0 : decide (0 < (n : Int) + 1) = true := decide_eq_true (Int.lt_add_one_of_le (Int.natCast_nonneg n))
  have hap : decide (0 < (a : Int)) = true := decide_eq_true (Int.natCast_pos.2 (ha0 (by simp)))
  have hap2 : decide (0 < a) = true := decide_eq_true (ha0 (by simp))
  obtain ⟨k, t, nn, re, im, ax⟩ := x
  dsimp only at t0
  have k1 : (k == 1) = false := by have := hk9.1; simpa using this
  have k2 : (k == 2) = false := by have := hk9.2; simpa using this
  have HL := Lib.hid hln
  clear hlo hru h hp hz hl hs e1 c3 f3 hsg hg h95 hng hc n39 n33 n59 hpu ha hof ha0 hne hget hn hk hln hk9
  go_enter Tryz.func14, Tryz.ntmps14
  go_wp2_with fail
  refine (hup _).mono ?_; rintro e w' ⟨rfl, rfl⟩
  rw [hu]
  go_wp2_with fail
  refine (hsm _).mono ?_; rintro e w' ⟨rfl, rfl⟩
  rw [hm]
  go_wp2_with fail
  refine (hdg _).mono ?_; rintro e w' ⟨rfl, rfl⟩
  rw [hd]
  have b39 := B39.out
  have b33 := B33.out
  have b59 := B59.out
  have b40 := B40.out
  go_wp2_with fail
  go_quiet (fail)
  go_upto_region 20 with fail
  refine nmw (K := LS p w0 _ _ _) (H0.out.1.turn (Nw.drewN H0.out.1.1 _)) (fun wB XB => ?_)
  have HB := Lib.hid XB
  clear XB c0 c1 c2 c4 f1
  obtain ⟨⟨c0, c1, -⟩, f1, -⟩ := five' HB.out.1
  rw [e0] at c1
  have hlt := Nw.lt HB.out.1
  have HP := Lib.hid (put_any ⟨6, [c], 0, 0, 0, a⟩ (HB.out.turn (SET1.out _ HB.out.1)) H0.out.2.1 H0.out.2.2.1 (by have := H0.out.2.2.2.1; omega))
  clear e0
  go_wp2_with fail
  refine HP.out.mono ?_
  rintro e w' ⟨rfl, hr⟩
  have HR := Lib.hid hr
  clear hr
  go_wp2_with fail
  exact ⟨rfl, .tuple #[], results_none rfl _ _ _, rfl, by rw [HTK.out]; exact HR.out⟩
set_option maxRecDepth 100000 in
set_option maxHeartbeats 8000000 in
theorem one_p11 (h : LS p w0 (SN S (c :: r) row 0 b) row ts w) (hp : p < w0.heap.size) (hz : w0.heap.size ≤ p + 1) (hl : ts.length ≤ 65537) (hs : c :: r <:+ S) (hS : S.length ≤ 65537) (ha : S.length - (c :: r).length = a) (hc : c = 40) (hop : opn ts b = (decide (la.1 = 1) || decide (la.1 = 2))) (hof : opn ts b = true) (ha0 : ts ≠ [] → 0 < a) (hk9 : ts.getLast?.map Tk.k = some 1) :
    Calls Tryz.prog 14 #[.pointer (some ⟨p, 0, none⟩)] w (OE p w0 S b ts a (tok la c r)) := by
  obtain ⟨i, e0, e1, hi, hb⟩ := suf_at hs
  have hai : a = i := by rw [← ha, e0]
  subst hai
  obtain ⟨⟨c0, c1, c2, c3, -⟩, f1, -, f3, -⟩ := five' h.1
  rw [e0] at c1
  have hlt := Nw.lt h.1
  have hlt2 := hlt
  have hw1 : wrap64 ((a : Int) + 1) = ((a + 1 : Nat) : Int) := by unfold wrap64; omega
  have H0 := Lib.hid (And.intro h (And.intro hp (And.intro hz (And.intro hl hs))))
  have hup := fun w => rupper_any c w
  have hsm := fun w => rlower_any c w
  have hdg := fun w => rdigit_any c w
  have hsg := fun w => rsign_any c w
  have hru := Lib.hid (fun s => run_any s h.1 hs hS)
  have SET1 : Hid (∀ W : World, W.heap[p]? = some (SN S (c :: r) row 0 b) → Nw p (SN S r row 0 b) W (W.setCell ⟨p, 1, none⟩ (.int .i64 ((a : Int) + 1)))) := Lib.hid fun W hW => by
    show Nw p (.cells #[.string ⟨S.toArray⟩, .int .i64 ((S.length - r.length : Nat) : Int), row, .int .i64 0, .bool b] 39 (0, 0)) W _
    rw [e1]; exact Nw.set hW 1 _
  obtain ⟨sa, sc, rfl⟩ := kp.shape h.2.1
  have hlo : lonely c = true := by rw [hc]; rfl
  have bl := b_lo c
  simp only [hlo, Bool.not_true, Bool.false_or, Bool.and_eq_true, Bool.not_eq_true', decide_eq_false_iff_not] at bl
  obtain ⟨hm, hu, hd, hg, h95, hng⟩ := bl
  have n39 : c ≠ 39 := by rw [hc]; decide
  have n33 : c ≠ 33 := by rw [hc]; decide
  have n59 : c ≠ 59 := by rw [hc]; decide
  have hpu : (decide (c = 40) || (decide (c = 41) || (decide (c = 91) || (decide (c = 93) || (decide (c = 44) || decide (c = 124)))))) = true := by rw [hc]; rfl
  have HTK : Hid (tok la c r = .ok 7 [] 0 0 0 r) := Lib.hid (by
    unfold tk.tok
    rw [if_neg (by rw [hm]; decide), if_neg (by rw [hg]; simp [h95]), if_neg (by rw [hd]; decide), if_neg (by rw [hng]; decide)]
    rw [if_neg (by have := b_solo c; rw [beq_iff_eq] at this; rw [this]; simp [n33, n59]), if_pos (by have := b_punct c; rw [beq_iff_eq] at this; rw [this]; exact hpu), if_pos ⟨hc, by have := hop.symm.trans hof; simpa using this⟩])
  have B39 : Hid (((c.toNat : Int) == 39) = false) := Lib.hid ((beq_byte c 39 39 rfl).trans (decide_eq_false n39))
  have B33 : Hid (((c.toNat : Int) == 33) = false) := Lib.hid ((beq_byte c 33 33 rfl).trans (decide_eq_false n33))
  have B59 : Hid (((c.toNat : Int) == 59) = false) := Lib.hid ((beq_byte c 59 59 rfl).trans (decide_eq_false n59))
  have B40 : Hid (((c.toNat : Int) == 40) = true) := Lib.hid (by rw [hc]; rfl)
  have hsl := fun w' => one_sl hs ha w' hS
  obtain ⟨⟨-, -, -, -, c4⟩, -⟩ := five' h.1
  have hne : ts ≠ [] := by rintro rfl; cases hof
  obtain ⟨ts', x, rfl⟩ : ∃ ts' x, ts = ts' ++ [x] := ⟨ts.dropLast, ts.getLast hne, (List.dropLast_concat_getLast hne).symm⟩
  obtain ⟨n, hn⟩ : ∃ n, ts'.length = n := ⟨_, rfl⟩
  have hln : (ts' ++ [x]).length = n + 1 := by simp [hn]
  have hget : (ts' ++ [x])[n]? = some x := by rw [← hn]; simp
  have hwn : wrap64 (n : Int) = (n : Int) := by unfold wrap64; omega
  obtain ⟨g, cc, hv, hgl, -, hk⟩ := h.2.1.look (by simp)
  rw [hln] at hv
  have hx6 := hk n x hget
  have hix := fun w => ixT (g := g) (c := cc) (k := n) (n := n + 1) (by omega) w
  obtain ⟨t0, -⟩ := hx6
  cases hv
  rw [hln] at c2
  have hi0 : decide (0 < (n : Int) + 1) = true := decide_eq_true (Int.lt_add_one_of_le (Int.natCast_nonneg n))
  have hof2 : ((decide (x.k = 1) || decide (x.k = 2)) && !b) = true := by simpa [opn] using hof
  have hap : decide (0 < (a : Int)) = true := decide_eq_true (Int.natCast_pos.2 (ha0 (by simp)))
  have hap2 : decide (0 < a) = true := decide_eq_true (ha0 (by simp))
  obtain ⟨k, t, nn, re, im, ax⟩ := x
  dsimp only at t0 hof2
  rw [Bool.and_eq_true, Bool.not_eq_true'] at hof2
  obtain ⟨hof2, rfl⟩ := hof2
  have hkk : k = 1 := by have := hk9; simpa using this
  subst hkk
  have HL := Lib.hid hln
  clear hlo hru h hp hz hl hs e1 c3 f3 hsg hg h95 hng hc n39 n33 n59 hpu ha hof ha0 hof2 hne hget hn hk hln hop hk9
  go_enter Tryz.func14, Tryz.ntmps14
  go_wp2_with fail
  refine (hup _).mono ?_; rintro e w' ⟨rfl, rfl⟩
  rw [hu]
  go_wp2_with fail
  refine (hsm _).mono ?_; rintro e w' ⟨rfl, rfl⟩
  rw [hm]
  go_wp2_with fail
  refine (hdg _).mono ?_; rintro e w' ⟨rfl, rfl⟩
  rw [hd]
  have b39 := B39.out
  have b33 := B33.out
  have b59 := B59.out
  have b40 := B40.out
  go_wp2_with fail
  go_quiet (fail)
  go_upto_region 18 with fail
  refine nmw (K := LS p w0 _ _ _) (H0.out.1.turn (Nw.drewN H0.out.1.1 _)) (fun wB XB => ?_)
  have HB := Lib.hid XB
  clear XB c0 c1 c2 c4 f1 t0
  obtain ⟨⟨c0, c1, -⟩, f1, -⟩ := five' HB.out.1
  rw [e0] at c1
  have hlt := Nw.lt HB.out.1
  have HP := Lib.hid (put_any ⟨7, [], 0, 0, 0, a⟩ (HB.out.turn (SET1.out _ HB.out.1)) H0.out.2.1 H0.out.2.2.1 (by have := H0.out.2.2.2.1; omega))
  clear e0
  go_wp2_with fail
  refine HP.out.mono ?_
  rintro e w' ⟨rfl, hr⟩
  have HR := Lib.hid hr
  clear hr
  go_wp2_with fail
  exact ⟨rfl, .tuple #[], results_none rfl _ _ _, rfl, by rw [HTK.out]; exact HR.out⟩
set_option maxRecDepth 100000 in
set_option maxHeartbeats 8000000 in
theorem one_p12 (h : LS p w0 (SN S (c :: r) row 0 b) row ts w) (hp : p < w0.heap.size) (hz : w0.heap.size ≤ p + 1) (hl : ts.length ≤ 65537) (hs : c :: r <:+ S) (hS : S.length ≤ 65537) (ha : S.length - (c :: r).length = a) (hc : c = 40) (hop : opn ts b = (decide (la.1 = 1) || decide (la.1 = 2))) (hof : opn ts b = true) (ha0 : ts ≠ [] → 0 < a) (hk9 : ts.getLast?.map Tk.k = some 2) :
    Calls Tryz.prog 14 #[.pointer (some ⟨p, 0, none⟩)] w (OE p w0 S b ts a (tok la c r)) := by
  obtain ⟨i, e0, e1, hi, hb⟩ := suf_at hs
  have hai : a = i := by rw [← ha, e0]
  subst hai
  obtain ⟨⟨c0, c1, c2, c3, -⟩, f1, -, f3, -⟩ := five' h.1
  rw [e0] at c1
  have hlt := Nw.lt h.1
  have hlt2 := hlt
  have hw1 : wrap64 ((a : Int) + 1) = ((a + 1 : Nat) : Int) := by unfold wrap64; omega
  have H0 := Lib.hid (And.intro h (And.intro hp (And.intro hz (And.intro hl hs))))
  have hup := fun w => rupper_any c w
  have hsm := fun w => rlower_any c w
  have hdg := fun w => rdigit_any c w
  have hsg := fun w => rsign_any c w
  have hru := Lib.hid (fun s => run_any s h.1 hs hS)
  have SET1 : Hid (∀ W : World, W.heap[p]? = some (SN S (c :: r) row 0 b) → Nw p (SN S r row 0 b) W (W.setCell ⟨p, 1, none⟩ (.int .i64 ((a : Int) + 1)))) := Lib.hid fun W hW => by
    show Nw p (.cells #[.string ⟨S.toArray⟩, .int .i64 ((S.length - r.length : Nat) : Int), row, .int .i64 0, .bool b] 39 (0, 0)) W _
    rw [e1]; exact Nw.set hW 1 _
  obtain ⟨sa, sc, rfl⟩ := kp.shape h.2.1
  have hlo : lonely c = true := by rw [hc]; rfl
  have bl := b_lo c
  simp only [hlo, Bool.not_true, Bool.false_or, Bool.and_eq_true, Bool.not_eq_true', decide_eq_false_iff_not] at bl
  obtain ⟨hm, hu, hd, hg, h95, hng⟩ := bl
  have n39 : c ≠ 39 := by rw [hc]; decide
  have n33 : c ≠ 33 := by rw [hc]; decide
  have n59 : c ≠ 59 := by rw [hc]; decide
  have hpu : (decide (c = 40) || (decide (c = 41) || (decide (c = 91) || (decide (c = 93) || (decide (c = 44) || decide (c = 124)))))) = true := by rw [hc]; rfl
  have HTK : Hid (tok la c r = .ok 7 [] 0 0 0 r) := Lib.hid (by
    unfold tk.tok
    rw [if_neg (by rw [hm]; decide), if_neg (by rw [hg]; simp [h95]), if_neg (by rw [hd]; decide), if_neg (by rw [hng]; decide)]
    rw [if_neg (by have := b_solo c; rw [beq_iff_eq] at this; rw [this]; simp [n33, n59]), if_pos (by have := b_punct c; rw [beq_iff_eq] at this; rw [this]; exact hpu), if_pos ⟨hc, by have := hop.symm.trans hof; simpa using this⟩])
  have B39 : Hid (((c.toNat : Int) == 39) = false) := Lib.hid ((beq_byte c 39 39 rfl).trans (decide_eq_false n39))
  have B33 : Hid (((c.toNat : Int) == 33) = false) := Lib.hid ((beq_byte c 33 33 rfl).trans (decide_eq_false n33))
  have B59 : Hid (((c.toNat : Int) == 59) = false) := Lib.hid ((beq_byte c 59 59 rfl).trans (decide_eq_false n59))
  have B40 : Hid (((c.toNat : Int) == 40) = true) := Lib.hid (by rw [hc]; rfl)
  have hsl := fun w' => one_sl hs ha w' hS
  obtain ⟨⟨-, -, -, -, c4⟩, -⟩ := five' h.1
  have hne : ts ≠ [] := by rintro rfl; cases hof
  obtain ⟨ts', x, rfl⟩ : ∃ ts' x, ts = ts' ++ [x] := ⟨ts.dropLast, ts.getLast hne, (List.dropLast_concat_getLast hne).symm⟩
  obtain ⟨n, hn⟩ : ∃ n, ts'.length = n := ⟨_, rfl⟩
  have hln : (ts' ++ [x]).length = n + 1 := by simp [hn]
  have hget : (ts' ++ [x])[n]? = some x := by rw [← hn]; simp
  have hwn : wrap64 (n : Int) = (n : Int) := by unfold wrap64; omega
  obtain ⟨g, cc, hv, hgl, -, hk⟩ := h.2.1.look (by simp)
  rw [hln] at hv
  have hx6 := hk n x hget
  have hix := fun w => ixT (g := g) (c := cc) (k := n) (n := n + 1) (by omega) w
  obtain ⟨t0, -⟩ := hx6
  cases hv
  rw [hln] at c2
  have hi0 : decide (0 < (n : Int) + 1) = true := decide_eq_true (Int.lt_add_one_of_le (Int.natCast_nonneg n))
  have hof2 : ((decide (x.k = 1) || decide (x.k = 2)) && !b) = true := by simpa [opn] using hof
  have hap : decide (0 < (a : Int)) = true := decide_eq_true (Int.natCast_pos.2 (ha0 (by simp)))
  have hap2 : decide (0 < a) = true := decide_eq_true (ha0 (by simp))
  obtain ⟨k, t, nn, re, im, ax⟩ := x
  dsimp only at t0 hof2
  rw [Bool.and_eq_true, Bool.not_eq_true'] at hof2
  obtain ⟨hof2, rfl⟩ := hof2
  have hkk : k = 2 := by have := hk9; simpa using this
  subst hkk
  have HL := Lib.hid hln
  clear hlo hru h hp hz hl hs e1 c3 f3 hsg hg h95 hng hc n39 n33 n59 hpu ha hof ha0 hof2 hne hget hn hk hln hop hk9
  go_enter Tryz.func14, Tryz.ntmps14
  go_wp2_with fail
  refine (hup _).mono ?_; rintro e w' ⟨rfl, rfl⟩
  rw [hu]
  go_wp2_with fail
  refine (hsm _).mono ?_; rintro e w' ⟨rfl, rfl⟩
  rw [hm]
  go_wp2_with fail
  refine (hdg _).mono ?_; rintro e w' ⟨rfl, rfl⟩
  rw [hd]
  have b39 := B39.out
  have b33 := B33.out
  have b59 := B59.out
  have b40 := B40.out
  go_wp2_with fail
  go_quiet (fail)
  go_upto_region 18 with fail
  refine nmw (K := LS p w0 _ _ _) (H0.out.1.turn (Nw.drewN H0.out.1.1 _)) (fun wB XB => ?_)
  have HB := Lib.hid XB
  clear XB c0 c1 c2 c4 f1 t0
  obtain ⟨⟨c0, c1, -⟩, f1, -⟩ := five' HB.out.1
  rw [e0] at c1
  have hlt := Nw.lt HB.out.1
  have HP := Lib.hid (put_any ⟨7, [], 0, 0, 0, a⟩ (HB.out.turn (SET1.out _ HB.out.1)) H0.out.2.1 H0.out.2.2.1 (by have := H0.out.2.2.2.1; omega))
  clear e0
  go_wp2_with fail
  refine HP.out.mono ?_
  rintro e w' ⟨rfl, hr⟩
  have HR := Lib.hid hr
  clear hr
  go_wp2_with fail
  exact ⟨rfl, .tuple #[], results_none rfl _ _ _, rfl, by rw [HTK.out]; exact HR.out⟩
end
end Go.Proofs.YtdcidfpoojodmaaGreatDoor.tr
