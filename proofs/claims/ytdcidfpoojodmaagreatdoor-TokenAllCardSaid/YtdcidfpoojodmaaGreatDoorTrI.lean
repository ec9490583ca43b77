/- The reference's one. -/
import Derived.Test.YtdcidfpoojodmaaGreatDoorTrG
import Derived.Test.YtdcidfpoojodmaaGreatDoorTrH
namespace Go.Proofs.YtdcidfpoojodmaaGreatDoor.tr
open Go.ChangeShapes Go.WideShapes Go.ChangeAt Go.RowKit Go.Maps
open Go.Proofs.YtdcidfpoojodmaaGreatDoor.kp Go.Proofs.YtdcidfpoojodmaaGreatDoor.num Go.Proofs.YtdcidfpoojodmaaGreatDoor.dec Go.Proofs.YtdcidfpoojodmaaGreatDoor.tk
set_option linter.unusedVariables false
set_option linter.unusedSimpArgs false
def lonely (c : UInt8) : Bool := decide (c = 39) || (decide (c = 33) || (decide (c = 59) || (decide (c = 40) || (decide (c = 41) || (decide (c = 91) || (decide (c = 93) || (decide (c = 44) || decide (c = 124))))))))
theorem byte_all (f : UInt8 → Bool) (h : ∀ n : Fin 256, f (UInt8.ofNat n.val) = true) (c : UInt8) : f c = true := by
  have := h ⟨c.toNat, c.toNat_lt⟩
  simpa using this
theorem b_up (c : UInt8) : (!up c || (!sm c && ((gr c || decide (c = 95)) && wd c))) = true := byte_all (fun c => !up c || (!sm c && ((gr c || decide (c = 95)) && wd c))) (by decide +kernel) c
theorem b_sm (c : UInt8) : (!sm c || (!up c && wd c)) = true := byte_all (fun c => !sm c || (!up c && wd c)) (by decide +kernel) c
theorem b_dg (c : UInt8) : (!dg c || (!sm c && (!up c && (!gr c && (!decide (c = 95) && wd c))))) = true := byte_all (fun c => !dg c || (!sm c && (!up c && (!gr c && (!decide (c = 95) && wd c))))) (by decide +kernel) c
theorem b_lo (c : UInt8) : (!lonely c || (!sm c && (!up c && (!dg c && (!gr c && (!decide (c = 95) && !sg c)))))) = true := byte_all (fun c => !lonely c || (!sm c && (!up c && (!dg c && (!gr c && (!decide (c = 95) && !sg c)))))) (by decide +kernel) c
theorem b_sg (c : UInt8) : (!sg c || (!sm c && (!up c && (!dg c && (!gr c && (!decide (c = 95) && !lonely c)))))) = true := byte_all (fun c => !sg c || (!sm c && (!up c && (!dg c && (!gr c && (!decide (c = 95) && !lonely c)))))) (by decide +kernel) c
theorem b_solo (c : UInt8) : (mem soloL c == (decide (c = 33) || decide (c = 59))) = true := byte_all (fun c => mem soloL c == (decide (c = 33) || decide (c = 59))) (by decide +kernel) c
theorem b_punct (c : UInt8) : (mem punctL c == (decide (c = 40) || (decide (c = 41) || (decide (c = 91) || (decide (c = 93) || (decide (c = 44) || decide (c = 124))))))) = true := byte_all (fun c => mem punctL c == (decide (c = 40) || (decide (c = 41) || (decide (c = 91) || (decide (c = 93) || (decide (c = 44) || decide (c = 124))))))) (by decide +kernel) c
theorem b_rest (c : UInt8) : (up c || (sm c || (dg c || (lonely c || sg c))) || !(gr c || decide (c = 95))) = true := byte_all (fun c => up c || (sm c || (dg c || (lonely c || sg c))) || !(gr c || decide (c = 95))) (by decide +kernel) c
def opn (ts : List Tk) (b : Bool) : Bool := match ts.getLast? with
  | none => false
  | some x => (decide (x.k = 1) || decide (x.k = 2)) && !b
def OE (p : Nat) (w0 : World) (S : List UInt8) (b : Bool) (ts : List Tk) (a : Nat) (T : TR) (e : Ending) (w' : World) : Prop := e = .returned (.tuple #[]) ∧ match T with
  | .er n => n ≠ 0 ∧ ∃ l' row' ts', LS p w0 (SN S l' row' n b) row' ts' w'
  | .ok k t n re im rest => ∃ row', LS p w0 (SN S rest row' 0 b) row' (ts ++ [⟨k, t, n, re, im, a⟩]) w'
section
variable {w w' w0 : World} {p : Nat} {S r : List UInt8} {c : UInt8} {row : Value} {b : Bool} {ts : List Tk} {a : Nat} {la : Int × List UInt8}
theorem oe_txt {k : Int} {t rest : List UInt8} (h : ∃ row', LS p w0 (SN S rest row' (if t.length ≤ 200 then 0 else 3) b) row' (ts ++ [⟨k, t, 0, 0, 0, a⟩]) w') : OE p w0 S b ts a (txt k t rest) (.returned (.tuple #[])) w' := by
  refine ⟨rfl, ?_⟩
  unfold txt
  by_cases h2 : t.length ≤ 200
  · rw [if_pos h2] at h ⊢; exact h
  · rw [if_neg h2] at h ⊢
    obtain ⟨row', h⟩ := h
    exact ⟨by decide, _, _, _, h⟩
theorem tw_cons (f : UInt8 → Bool) (h : f c = true) : (c :: r).takeWhile f = c :: r.takeWhile f ∧ (c :: r).dropWhile f = r.dropWhile f := by simp [h]
theorem one_sl {i : Nat} (hs : c :: r <:+ S) (hi : S.length - (c :: r).length = i) (w' : World) (hS : S.length ≤ 65537) : Sem.run Tryz.prog (Instr.slice 9 (.string ⟨S.toArray⟩) (some (.int .i64 (i : Int))) (some (.int .i64 ((i : Int) + 1))) none) w' = .ok (.string ⟨[c].toArray⟩) w' := by
  have hz : (⟨S.toArray⟩ : ByteArray).size = S.length := rfl
  have hle := hs.length_le
  simp only [List.length_cons] at hi hle
  have e := run_slice_string (P := Tryz.prog) w' 9 ⟨S.toArray⟩ .i64 .i64 (i : Int) ((i : Int) + 1) Tryz.underlying9 (by omega) (by omega) (by rw [hz]; omega)
  obtain ⟨i', j', ei, ej, hij, hjS', hqx⟩ := piece_at (q := [c]) (l := r) hs
  simp only [List.length_append, List.length_cons, List.length_nil] at ei
  have E1 : i' = i := by omega
  have E2 : j' = i + 1 := by omega
  rw [show ((i : Int) + 1).toNat = i + 1 by omega, show (i : Int).toNat = i by omega, ext_any, ← E1, ← show j' = i' + 1 by omega, hqx] at e
  rw [E1] at e; exact e
set_option maxRecDepth 100000 in
set_option maxHeartbeats 8000000 in
theorem one_up (h : LS p w0 (SN S (c :: r) row 0 b) row ts w) (hp : p < w0.heap.size) (hz : w0.heap.size ≤ p + 1) (hl : ts.length ≤ 65537) (hs : c :: r <:+ S) (hS : S.length ≤ 65537) (ha : S.length - (c :: r).length = a) (hu : up c = true) :
    Calls Tryz.prog 14 #[.pointer (some ⟨p, 0, none⟩)] w (OE p w0 S b ts a (tok la c r)) := by
  obtain ⟨i, e0, e1, hi, hb⟩ := suf_at hs
  have hai : a = i := by rw [← ha, e0]
  subst hai
  obtain ⟨⟨c0, c1, c2, c3, -⟩, f1, -, f3, -⟩ := five' h.1
  rw [e0] at c1
  have hlt := Nw.lt h.1
  have hlt2 := hlt
  have hw1 : wrap64 ((a : Int) + 1) = ((a + 1 : Nat) : Int) := by unfold wrap64; omega
  have H0 := Lib.hid (And.intro h (And.intro hp (And.intro hz (And.intro hl hs))))
  have hup := fun w => rupper_any c w
  have hsm := fun w => rlower_any c w
  have hdg := fun w => rdigit_any c w
  have hsg := fun w => rsign_any c w
  have hru := Lib.hid (fun s => run_any s h.1 hs hS)
  have SET1 : Hid (∀ W : World, W.heap[p]? = some (SN S (c :: r) row 0 b) → Nw p (SN S r row 0 b) W (W.setCell ⟨p, 1, none⟩ (.int .i64 ((a : Int) + 1)))) := Lib.hid fun W hW => by
    show Nw p (.cells #[.string ⟨S.toArray⟩, .int .i64 ((S.length - r.length : Nat) : Int), row, .int .i64 0, .bool b] 39 (0, 0)) W _
    rw [e1]; exact Nw.set hW 1 _
  have HTK : Hid (tok la c r = txt 3 (c :: r.takeWhile wd) (r.dropWhile wd)) := Lib.hid (by
    have bu := b_up c
    simp only [hu, Bool.not_true, Bool.false_or, Bool.and_eq_true, Bool.not_eq_true', Bool.or_eq_true, decide_eq_true_eq] at bu
    unfold tk.tok; rw [if_neg (by rw [bu.1]; decide), if_pos bu.2.1])
  have bu := b_up c
  simp only [hu, Bool.not_true, Bool.false_or, Bool.and_eq_true, Bool.not_eq_true'] at bu
  have hwd := bu.2.2
  clear bu hsm hdg hsg
  have htw := tw_cons (r := r) wd hwd
  have hrun := hru.out false
  have ef : fs false = wd := rfl
  rw [ef, htw.1, htw.2] at hrun
  have HT := Lib.hid htw
  clear htw hru ef h hp hz hl hs ha e0 e1 c2 c3 f1 f3 SET1
  go_enter Tryz.func14, Tryz.ntmps14
  go_wp2_with fail
  refine (hup _).mono ?_; rintro e w' ⟨rfl, rfl⟩
  rw [hu]
  go_wp2_with fail
  refine hrun.mono ?_; rintro e w1 ⟨rfl, N1⟩
  have L1 := H0.out.1.turn N1
  have HN := Lib.hid (name_any 3 (c :: r.takeWhile wd) a L1 H0.out.2.1 H0.out.2.2.1 (by have := H0.out.2.2.2.1; omega) (by have h1 := H0.out.2.2.2.2.length_le; have h2 := (List.takeWhile_prefix (p := wd) (l := r)).length_le; simp only [List.length_cons] at h1 ⊢; omega))
  clear N1 L1
  go_wp2_with fail
  refine HN.out.mono ?_
  rintro e w' ⟨rfl, hr⟩
  have HR := Lib.hid hr
  clear hr
  go_wp2_with fail
  exact ⟨rfl, .tuple #[], results_none rfl _ _ _, rfl, by rw [HTK.out]; exact (oe_txt HR.out).2⟩
set_option maxRecDepth 100000 in
set_option maxHeartbeats 8000000 in
theorem one_sm (h : LS p w0 (SN S (c :: r) row 0 b) row ts w) (hp : p < w0.heap.size) (hz : w0.heap.size ≤ p + 1) (hl : ts.length ≤ 65537) (hs : c :: r <:+ S) (hS : S.length ≤ 65537) (ha : S.length - (c :: r).length = a) (hm : sm c = true) :
    Calls Tryz.prog 14 #[.pointer (some ⟨p, 0, none⟩)] w (OE p w0 S b ts a (tok la c r)) := by
  obtain ⟨i, e0, e1, hi, hb⟩ := suf_at hs
  have hai : a = i := by rw [← ha, e0]
  subst hai
  obtain ⟨⟨c0, c1, c2, c3, -⟩, f1, -, f3, -⟩ := five' h.1
  rw [e0] at c1
  have hlt := Nw.lt h.1
  have hlt2 := hlt
  have hw1 : wrap64 ((a : Int) + 1) = ((a + 1 : Nat) : Int) := by unfold wrap64; omega
  have H0 := Lib.hid (And.intro h (And.intro hp (And.intro hz (And.intro hl hs))))
  have hup := fun w => rupper_any c w
  have hsm := fun w => rlower_any c w
  have hdg := fun w => rdigit_any c w
  have hsg := fun w => rsign_any c w
  have hru := Lib.hid (fun s => run_any s h.1 hs hS)
  have SET1 : Hid (∀ W : World, W.heap[p]? = some (SN S (c :: r) row 0 b) → Nw p (SN S r row 0 b) W (W.setCell ⟨p, 1, none⟩ (.int .i64 ((a : Int) + 1)))) := Lib.hid fun W hW => by
    show Nw p (.cells #[.string ⟨S.toArray⟩, .int .i64 ((S.length - r.length : Nat) : Int), row, .int .i64 0, .bool b] 39 (0, 0)) W _
    rw [e1]; exact Nw.set hW 1 _
  have HTK : Hid (tok la c r = txt 1 (c :: r.takeWhile wd) (r.dropWhile wd)) := Lib.hid (by
    unfold tk.tok; rw [if_pos hm])
  have bu := b_sm c
  simp only [hm, Bool.not_true, Bool.false_or, Bool.and_eq_true, Bool.not_eq_true'] at bu
  have hwd := bu.2
  have hu := bu.1
  clear bu hdg hsg
  have htw := tw_cons (r := r) wd hwd
  have hrun := hru.out false
  have ef : fs false = wd := rfl
  rw [ef, htw.1, htw.2] at hrun
  have HT := Lib.hid htw
  clear htw hru ef h hp hz hl hs ha e0 e1 c2 c3 f1 f3 SET1
  go_enter Tryz.func14, Tryz.ntmps14
  go_wp2_with fail
  refine (hup _).mono ?_; rintro e w' ⟨rfl, rfl⟩
  rw [hu]
  go_wp2_with fail
  refine (hsm _).mono ?_; rintro e w' ⟨rfl, rfl⟩
  rw [hm]
  go_wp2_with fail
  refine hrun.mono ?_; rintro e w1 ⟨rfl, N1⟩
  have L1 := H0.out.1.turn N1
  have HN := Lib.hid (name_any 1 (c :: r.takeWhile wd) a L1 H0.out.2.1 H0.out.2.2.1 (by have := H0.out.2.2.2.1; omega) (by have h1 := H0.out.2.2.2.2.length_le; have h2 := (List.takeWhile_prefix (p := wd) (l := r)).length_le; simp only [List.length_cons] at h1 ⊢; omega))
  clear N1 L1
  go_wp2_with fail
  refine HN.out.mono ?_
  rintro e w' ⟨rfl, hr⟩
  have HR := Lib.hid hr
  clear hr
  go_wp2_with fail
  exact ⟨rfl, .tuple #[], results_none rfl _ _ _, rfl, by rw [HTK.out]; exact (oe_txt HR.out).2⟩
theorem c0_pe {q : List UInt8} (h : c0 q = true) (h0 : dve q ≠ 0) : dve q = pe q ∧ pe q ≠ 0 ∧ q ≠ leastL := by
  simp only [c0, Bool.and_eq_true, decide_eq_true_eq] at h
  match q, h with
  | x :: y :: z, ⟨_, h2⟩ =>
    simp only [List.take_succ_cons, List.take_zero, List.cons.injEq, and_true] at h2
    obtain ⟨rfl, rfl⟩ := h2
    have hok : ok (48 :: 99 :: z) = false := by
      have hb : bd (48 :: 99 :: z) = 48 :: 99 :: z := rfl
      simp [ok, hb, isD]
    have hpe : pe (48 :: 99 :: z) = 2 := by unfold pe; rw [hok]; rfl
    have hdv : dve (48 :: 99 :: z) = 2 := by
      unfold dve cve at *
      split
      · split
        · rename_i h1 h2; rw [if_pos h1, if_pos h2] at h0; exact absurd rfl h0
        · rfl
      · rfl
    exact ⟨by rw [hpe, hdv], by rw [hpe]; decide, by simp [leastL]⟩
theorem not_c0 {q : List UInt8} (h : c0 q = false) : dve q ≠ 0 := by
  have : isC q = false := by
    rw [isC]
    simp only [c0, Bool.and_eq_false_iff, decide_eq_false_iff_not] at h ⊢
    rcases h with h | h
    · exact Or.inl (by omega)
    · exact Or.inr h
  simp [dve, this]
theorem num_oe {q rest : List UInt8} (h : LS p w0 (SN S (c :: r) row 0 b) row ts w) (hp : p < w0.heap.size) (hz : w0.heap.size ≤ p + 1) (hl : ts.length ≤ 70000) (hs : c :: r <:+ S) (hS : S.length ≤ 65537)
    (hq : (c :: r).takeWhile wd = q) (hr : (c :: r).dropWhile wd = rest) (ha : S.length - (c :: r).length = a) (hla : lastc ts a = (decide (la.1 = 1) && decide (la.2 = [45]))) :
    Calls Tryz.prog 38 #[.pointer (some ⟨p, 0, none⟩), .int .i64 (a : Int)] w (OE p w0 S b ts a (nmb la q rest)) := by
  by_cases hc : c0 q = true
  · refine (number_c h hp hz hl hs hS hq hr hc a).mono ?_
    rintro e w' ⟨rfl, row', hL⟩
    refine ⟨rfl, ?_⟩
    unfold nmb
    by_cases h0 : dve q = 0
    · rw [if_pos h0]; rw [h0] at hL; exact ⟨row', hL⟩
    · obtain ⟨k1, k2, k3⟩ := c0_pe hc h0
      rw [if_neg h0, if_neg (fun h => k3 h.1), if_neg k2]
      rw [k1] at hL
      exact ⟨k2, _, _, _, hL⟩
  · have hc' : c0 q = false := by simpa using hc
    have h0 := not_c0 hc'
    by_cases hql : q = leastL
    · subst hql
      refine (number_least h hp hz hl hs hS hq hr a ha).mono ?_
      rintro e w' ⟨rfl, row', hL⟩
      refine ⟨rfl, ?_⟩
      unfold nmb
      rw [if_neg h0]
      by_cases hx : lastc ts a = true
      · rw [if_pos hx, if_pos hx] at hL
        rw [hla, Bool.and_eq_true, decide_eq_true_eq, decide_eq_true_eq] at hx
        rw [if_pos ⟨rfl, hx⟩]; exact ⟨row', hL⟩
      · rw [if_neg hx, if_neg hx] at hL
        rw [hla, Bool.and_eq_true, decide_eq_true_eq, decide_eq_true_eq] at hx
        rw [if_neg (fun h => hx h.2)]
        by_cases hp0 : pe leastL = 0
        · rw [if_pos hp0]; rw [hp0] at hL; exact ⟨row', hL⟩
        · rw [if_neg hp0]; exact ⟨hp0, _, _, _, hL⟩
    · refine (number_dec h hp hz hl hs hS hq hr hc' hql a ha).mono ?_
      rintro e w' ⟨rfl, row', hL⟩
      refine ⟨rfl, ?_⟩
      unfold nmb
      rw [if_neg h0, if_neg (fun h => hql h.1)]
      by_cases hp0 : pe q = 0
      · rw [if_pos hp0]; rw [hp0] at hL; exact ⟨row', hL⟩
      · rw [if_neg hp0]; exact ⟨hp0, _, _, _, hL⟩
set_option maxRecDepth 100000 in
set_option maxHeartbeats 8000000 in
theorem one_dg (h : LS p w0 (SN S (c :: r) row 0 b) row ts w) (hp : p < w0.heap.size) (hz : w0.heap.size ≤ p + 1) (hl : ts.length ≤ 65537) (hs : c :: r <:+ S) (hS : S.length ≤ 65537) (ha : S.length - (c :: r).length = a) (hla : lastc ts a = (decide (la.1 = 1) && decide (la.2 = [45]))) (hd : dg c = true) :
    Calls Tryz.prog 14 #[.pointer (some ⟨p, 0, none⟩)] w (OE p w0 S b ts a (tok la c r)) := by
  obtain ⟨i, e0, e1, hi, hb⟩ := suf_at hs
  have hai : a = i := by rw [← ha, e0]
  subst hai
  obtain ⟨⟨c0, c1, c2, c3, -⟩, f1, -, f3, -⟩ := five' h.1
  rw [e0] at c1
  have hlt := Nw.lt h.1
  have hlt2 := hlt
  have hw1 : wrap64 ((a : Int) + 1) = ((a + 1 : Nat) : Int) := by unfold wrap64; omega
  have H0 := Lib.hid (And.intro h (And.intro hp (And.intro hz (And.intro hl hs))))
  have hup := fun w => rupper_any c w
  have hsm := fun w => rlower_any c w
  have hdg := fun w => rdigit_any c w
  have hsg := fun w => rsign_any c w
  have hru := Lib.hid (fun s => run_any s h.1 hs hS)
  have SET1 : Hid (∀ W : World, W.heap[p]? = some (SN S (c :: r) row 0 b) → Nw p (SN S r row 0 b) W (W.setCell ⟨p, 1, none⟩ (.int .i64 ((a : Int) + 1)))) := Lib.hid fun W hW => by
    show Nw p (.cells #[.string ⟨S.toArray⟩, .int .i64 ((S.length - r.length : Nat) : Int), row, .int .i64 0, .bool b] 39 (0, 0)) W _
    rw [e1]; exact Nw.set hW 1 _
  have bu := b_dg c
  simp only [hd, Bool.not_true, Bool.false_or, Bool.and_eq_true, Bool.not_eq_true', decide_eq_false_iff_not] at bu
  obtain ⟨hm, hu, hg, h95, hwd⟩ := bu
  have HTK : Hid (tok la c r = nmb la (c :: r.takeWhile wd) (r.dropWhile wd)) := Lib.hid (by unfold tk.tok; rw [if_neg (by rw [hm]; decide), if_neg (by rw [hg]; simp [h95]), if_pos hd])
  have htw := tw_cons (r := r) wd hwd
  have HNU : Hid (Calls Tryz.prog 38 #[.pointer (some ⟨p, 0, none⟩), .int .i64 (a : Int)] w (OE p w0 S b ts a (tok la c r))) := Lib.hid (by rw [HTK.out]; exact num_oe h hp hz (by omega) hs hS htw.1 htw.2 ha hla)
  clear htw hru h hp hz hl hs ha e0 e1 c2 c3 f1 f3 SET1 hsg hg h95 hwd hla
  go_enter Tryz.func14, Tryz.ntmps14
  go_wp2_with fail
  refine (hup _).mono ?_; rintro e w' ⟨rfl, rfl⟩
  rw [hu]
  go_wp2_with fail
  refine (hsm _).mono ?_; rintro e w' ⟨rfl, rfl⟩
  rw [hm]
  go_wp2_with fail
  refine (hdg _).mono ?_; rintro e w' ⟨rfl, rfl⟩
  rw [hd]
  go_wp2_with fail
  refine HNU.out.mono ?_
  rintro e w' ⟨rfl, hr⟩
  have HR := Lib.hid hr
  clear hr
  go_wp2_with fail
  exact ⟨rfl, .tuple #[], results_none rfl _ _ _, rfl, HR.out⟩
set_option maxRecDepth 100000 in
set_option maxHeartbeats 8000000 in
theorem one_q (h : LS p w0 (SN S (c :: r) row 0 b) row ts w) (hp : p < w0.heap.size) (hz : w0.heap.size ≤ p + 1) (hl : ts.length ≤ 65537) (hs : c :: r <:+ S) (hS : S.length ≤ 65537) (ha : S.length - (c :: r).length = a) (hc : c = 39) :
    Calls Tryz.prog 14 #[.pointer (some ⟨p, 0, none⟩)] w (OE p w0 S b ts a (tok la c r)) := by
  obtain ⟨i, e0, e1, hi, hb⟩ := suf_at hs
  have hai : a = i := by rw [← ha, e0]
  subst hai
  obtain ⟨⟨c0, c1, c2, c3, -⟩, f1, -, f3, -⟩ := five' h.1
  rw [e0] at c1
  have hlt := Nw.lt h.1
  have hlt2 := hlt
  have hw1 : wrap64 ((a : Int) + 1) = ((a + 1 : Nat) : Int) := by unfold wrap64; omega
  have H0 := Lib.hid (And.intro h (And.intro hp (And.intro hz (And.intro hl hs))))
  have hup := fun w => rupper_any c w
  have hsm := fun w => rlower_any c w
  have hdg := fun w => rdigit_any c w
  have hsg := fun w => rsign_any c w
  have hru := Lib.hid (fun s => run_any s h.1 hs hS)
  have SET1 : Hid (∀ W : World, W.heap[p]? = some (SN S (c :: r) row 0 b) → Nw p (SN S r row 0 b) W (W.setCell ⟨p, 1, none⟩ (.int .i64 ((a : Int) + 1)))) := Lib.hid fun W hW => by
    show Nw p (.cells #[.string ⟨S.toArray⟩, .int .i64 ((S.length - r.length : Nat) : Int), row, .int .i64 0, .bool b] 39 (0, 0)) W _
    rw [e1]; exact Nw.set hW 1 _
  have hlo : lonely c = true := by rw [hc]; rfl
  have bl := b_lo c
  simp only [hlo, Bool.not_true, Bool.false_or, Bool.and_eq_true, Bool.not_eq_true', decide_eq_false_iff_not] at bl
  obtain ⟨hm, hu, hd, hg, h95, hng⟩ := bl
  have HTK : Hid (tok la c r = match qt r with | none => .er 2 | some x => txt 2 x.1 x.2) := Lib.hid (by
    unfold tk.tok
    rw [if_neg (by rw [hm]; decide), if_neg (by rw [hg]; simp [h95]), if_neg (by rw [hd]; decide), if_neg (by rw [hng]; decide)]
    rw [hc, if_neg (by decide), if_neg (by decide), if_pos rfl]; cases qt r <;> rfl)
  obtain ⟨R, hR⟩ : ∃ R, qt r = R := ⟨_, rfl⟩
  have HQU := Lib.hid (rquote_any h.1 hs hS R hR)
  have HC := Lib.hid hc
  rw [hR] at HTK
  have HQS := Lib.hid (fun x (hx : qt r = some x) => qt_suf _ r (Nat.le_refl _) x hx)
  rw [hR] at HQS
  clear hlo hru h hp hz hl hs e0 e1 c2 c3 f1 f3 SET1 hsg hg h95 hng hc hR
  go_enter Tryz.func14, Tryz.ntmps14
  go_wp2_with fail
  refine (hup _).mono ?_; rintro e w' ⟨rfl, rfl⟩
  rw [hu]
  go_wp2_with fail
  refine (hsm _).mono ?_; rintro e w' ⟨rfl, rfl⟩
  rw [hm]
  go_wp2_with fail
  refine (hdg _).mono ?_; rintro e w' ⟨rfl, rfl⟩
  rw [hd]
  have b39 : ((c.toNat : Int) == 39) = true := by rw [HC.out]; rfl
  go_wp2_with fail
  refine HQU.out.mono ?_; rintro e w1 ⟨rfl, l', hl', hlx, N1⟩
  have L1 := H0.out.1.turn N1
  cases R with
  | none =>
    obtain ⟨⟨-, -, -, c3, -⟩, -, -, f3, -⟩ := five' L1.1
    have hlt := Nw.lt L1.1
    have HE := Lib.hid (ls_err L1 2)
    clear N1 L1 c0 c1 hl' hlx
    go_wp2_with fail
    exact ⟨rfl, .tuple #[], results_none rfl _ _ _, rfl, by rw [HTK.out]; exact ⟨by decide, _, _, _, HE.out⟩⟩
  | some x =>
    have hx := hlx x rfl
    subst hx
    have HN := Lib.hid (name_any 2 x.1 a L1 H0.out.2.1 H0.out.2.2.1 (by have := H0.out.2.2.2.1; omega) (by have h1 := H0.out.2.2.2.2.length_le; have h2 := (HQS.out x rfl).2; simp only [List.length_cons] at h1; omega))
    clear N1 L1 c0 c1 hl' hlx
    go_wp2_with fail
    refine HN.out.mono ?_
    rintro e w' ⟨rfl, hr⟩
    have HR := Lib.hid hr
    clear hr
    go_wp2_with fail
    exact ⟨rfl, .tuple #[], results_none rfl _ _ _, rfl, by rw [HTK.out]; exact (oe_txt HR.out).2⟩
set_option maxRecDepth 100000 in
set_option maxHeartbeats 8000000 in
theorem one_s (h : LS p w0 (SN S (c :: r) row 0 b) row ts w) (hp : p < w0.heap.size) (hz : w0.heap.size ≤ p + 1) (hl : ts.length ≤ 65537) (hs : c :: r <:+ S) (hS : S.length ≤ 65537) (ha : S.length - (c :: r).length = a) (hc : c = 33 ∨ c = 59) :
    Calls Tryz.prog 14 #[.pointer (some ⟨p, 0, none⟩)] w (OE p w0 S b ts a (tok la c r)) := by
  obtain ⟨i, e0, e1, hi, hb⟩ := suf_at hs
  have hai : a = i := by rw [← ha, e0]
  subst hai
  obtain ⟨⟨c0, c1, c2, c3, -⟩, f1, -, f3, -⟩ := five' h.1
  rw [e0] at c1
  have hlt := Nw.lt h.1
  have hlt2 := hlt
  have hw1 : wrap64 ((a : Int) + 1) = ((a + 1 : Nat) : Int) := by unfold wrap64; omega
  have H0 := Lib.hid (And.intro h (And.intro hp (And.intro hz (And.intro hl hs))))
  have hup := fun w => rupper_any c w
  have hsm := fun w => rlower_any c w
  have hdg := fun w => rdigit_any c w
  have hsg := fun w => rsign_any c w
  have hru := Lib.hid (fun s => run_any s h.1 hs hS)
  have SET1 : Hid (∀ W : World, W.heap[p]? = some (SN S (c :: r) row 0 b) → Nw p (SN S r row 0 b) W (W.setCell ⟨p, 1, none⟩ (.int .i64 ((a : Int) + 1)))) := Lib.hid fun W hW => by
    show Nw p (.cells #[.string ⟨S.toArray⟩, .int .i64 ((S.length - r.length : Nat) : Int), row, .int .i64 0, .bool b] 39 (0, 0)) W _
    rw [e1]; exact Nw.set hW 1 _
  have hlo : lonely c = true := by rcases hc with h | h <;> rw [h] <;> rfl
  have bl := b_lo c
  simp only [hlo, Bool.not_true, Bool.false_or, Bool.and_eq_true, Bool.not_eq_true', decide_eq_false_iff_not] at bl
  obtain ⟨hm, hu, hd, hg, h95, hng⟩ := bl
  have HTK : Hid (tok la c r = txt 1 [c] r) := Lib.hid (by
    unfold tk.tok
    rw [if_neg (by rw [hm]; decide), if_neg (by rw [hg]; simp [h95]), if_neg (by rw [hd]; decide), if_neg (by rw [hng]; decide)]
    rw [if_pos (by have := b_solo c; rw [beq_iff_eq] at this; rw [this]; rcases hc with h | h <;> rw [h] <;> rfl)])
  have n39 : c ≠ 39 := by rcases hc with h | h <;> rw [h] <;> decide
  have hsl := fun w' => one_sl hs ha w' hS
  have H9 := h.turn (SET1.out _ h.1)
  have HN := Lib.hid (name_any 1 [c] a H9 hp hz (by omega) (by simp))
  have HC : Hid ((((c.toNat : Int) == 33) = true) ∨ ((((c.toNat : Int) == 33) = false) ∧ (((c.toNat : Int) == 59) = true))) := Lib.hid (by rcases hc with h | h; exact Or.inl (by rw [h]; rfl); exact Or.inr ⟨by rw [h]; rfl, by rw [h]; rfl⟩)
  have B39 : Hid (((c.toNat : Int) == 39) = false) := Lib.hid ((beq_byte c 39 39 rfl).trans (decide_eq_false n39))
  clear hlo hru h hp hz hl hs e0 e1 c2 c3 f3 hsg hg h95 hng hc n39 H9 ha
  go_enter Tryz.func14, Tryz.ntmps14
  go_wp2_with fail
  refine (hup _).mono ?_; rintro e w' ⟨rfl, rfl⟩
  rw [hu]
  go_wp2_with fail
  refine (hsm _).mono ?_; rintro e w' ⟨rfl, rfl⟩
  rw [hm]
  go_wp2_with fail
  refine (hdg _).mono ?_; rintro e w' ⟨rfl, rfl⟩
  rw [hd]
  have b39 := B39.out
  rcases HC.out with hx | ⟨hx, hy⟩
  all_goals
    go_wp2_with fail
    refine HN.out.mono ?_
    rintro e w' ⟨rfl, hr⟩
    have HR := Lib.hid hr
    clear hr
    go_wp2_with fail
    exact ⟨rfl, .tuple #[], results_none rfl _ _ _, rfl, by rw [HTK.out]; exact (oe_txt HR.out).2⟩
set_option maxRecDepth 100000 in
set_option maxHeartbeats 8000000 in
theorem one_x (h : LS p w0 (SN S (c :: r) row 0 b) row ts w) (hp : p < w0.heap.size) (hz : w0.heap.size ≤ p + 1) (hl : ts.length ≤ 65537) (hs : c :: r <:+ S) (hS : S.length ≤ 65537) (ha : S.length - (c :: r).length = a) (hu : up c = false) (hm : sm c = false) (hd : dg c = false) (hlo : lonely c = false) (hg : sg c = false) :
    Calls Tryz.prog 14 #[.pointer (some ⟨p, 0, none⟩)] w (OE p w0 S b ts a (tok la c r)) := by
  obtain ⟨i, e0, e1, hi, hb⟩ := suf_at hs
  have hai : a = i := by rw [← ha, e0]
  subst hai
  obtain ⟨⟨c0, c1, c2, c3, -⟩, f1, -, f3, -⟩ := five' h.1
  rw [e0] at c1
  have hlt := Nw.lt h.1
  have hlt2 := hlt
  have hw1 : wrap64 ((a : Int) + 1) = ((a + 1 : Nat) : Int) := by unfold wrap64; omega
  have H0 := Lib.hid (And.intro h (And.intro hp (And.intro hz (And.intro hl hs))))
  have hup := fun w => rupper_any c w
  have hsm := fun w => rlower_any c w
  have hdg := fun w => rdigit_any c w
  have hsg := fun w => rsign_any c w
  have hru := Lib.hid (fun s => run_any s h.1 hs hS)
  have SET1 : Hid (∀ W : World, W.heap[p]? = some (SN S (c :: r) row 0 b) → Nw p (SN S r row 0 b) W (W.setCell ⟨p, 1, none⟩ (.int .i64 ((a : Int) + 1)))) := Lib.hid fun W hW => by
    show Nw p (.cells #[.string ⟨S.toArray⟩, .int .i64 ((S.length - r.length : Nat) : Int), row, .int .i64 0, .bool b] 39 (0, 0)) W _
    rw [e1]; exact Nw.set hW 1 _
  have HTK : Hid (tok la c r = .er 2) := Lib.hid (by
    have b1 := b_rest c
    rw [hu, hm, hd, hlo, hg] at b1
    simp only [Bool.or_self, Bool.false_or, Bool.not_eq_true', Bool.or_eq_false_iff, decide_eq_false_iff_not] at b1
    have hl2 := hlo
    simp only [lonely, Bool.or_eq_false_iff, decide_eq_false_iff_not] at hl2
    obtain ⟨n39, n33, n59, n40, n41, n91, n93, n44, n124⟩ := hl2
    unfold tk.tok
    rw [if_neg (by rw [hm]; decide), if_neg (by rw [b1.1]; simp [b1.2]), if_neg (by rw [hd]; decide), if_neg (by rw [hg]; decide)]
    rw [if_neg (by have := b_solo c; rw [beq_iff_eq] at this; rw [this]; simp [n33, n59]), if_neg (by have := b_punct c; rw [beq_iff_eq] at this; rw [this]; simp [n40, n41, n91, n93, n44, n124]), if_neg n39])
  have hl2 := hlo
  simp only [lonely, Bool.or_eq_false_iff, decide_eq_false_iff_not] at hl2
  obtain ⟨n39, n33, n59, n40, n41, n91, n93, n44, n124⟩ := hl2
  have B39 : Hid (((c.toNat : Int) == 39) = false) := Lib.hid ((beq_byte c 39 39 rfl).trans (decide_eq_false n39))
  have B33 : Hid (((c.toNat : Int) == 33) = false) := Lib.hid ((beq_byte c 33 33 rfl).trans (decide_eq_false n33))
  have B59 : Hid (((c.toNat : Int) == 59) = false) := Lib.hid ((beq_byte c 59 59 rfl).trans (decide_eq_false n59))
  have B40 : Hid (((c.toNat : Int) == 40) = false) := Lib.hid ((beq_byte c 40 40 rfl).trans (decide_eq_false n40))
  have B41 : Hid (((c.toNat : Int) == 41) = false) := Lib.hid ((beq_byte c 41 41 rfl).trans (decide_eq_false n41))
  have B91 : Hid (((c.toNat : Int) == 91) = false) := Lib.hid ((beq_byte c 91 91 rfl).trans (decide_eq_false n91))
  have B93 : Hid (((c.toNat : Int) == 93) = false) := Lib.hid ((beq_byte c 93 93 rfl).trans (decide_eq_false n93))
  have B44 : Hid (((c.toNat : Int) == 44) = false) := Lib.hid ((beq_byte c 44 44 rfl).trans (decide_eq_false n44))
  have B124 : Hid (((c.toNat : Int) == 124) = false) := Lib.hid ((beq_byte c 124 124 rfl).trans (decide_eq_false n124))
  clear hlo n39 n33 n59 n40 n41 n91 n93 n44 n124 hru h hp hz hl hs e0 e1 c2 f1 ha SET1
  go_enter Tryz.func14, Tryz.ntmps14
  go_wp2_with fail
  refine (hup _).mono ?_; rintro e w' ⟨rfl, rfl⟩
  rw [hu]
  go_wp2_with fail
  refine (hsm _).mono ?_; rintro e w' ⟨rfl, rfl⟩
  rw [hm]
  go_wp2_with fail
  refine (hdg _).mono ?_; rintro e w' ⟨rfl, rfl⟩
  rw [hd]
  have b39 := B39.out
  have b33 := B33.out
  have b59 := B59.out
  have b40 := B40.out
  have b41 := B41.out
  have b91 := B91.out
  have b93 := B93.out
  have b44 := B44.out
  have b124 := B124.out
  go_wp2_with fail
  go_quiet (fail)
  go_wp2_with fail
  refine (hsg _).mono ?_; rintro e w2 ⟨rfl, B2⟩
  rw [hg]
  have L2 := (H0.out.1.turn (Nw.drewN H0.out.1.1 nq)).below B2
  obtain ⟨⟨-, -, -, c3', -⟩, -, -, f3', -⟩ := five' L2.1
  have hlt' := Nw.lt L2.1
  have HE := Lib.hid (ls_err L2 2)
  clear L2 B2 c3 f3 c0 c1
  go_wp2_with fail
  exact ⟨rfl, .tuple #[], results_none rfl _ _ _, rfl, by rw [HTK.out]; exact ⟨by decide, _, _, _, HE.out⟩⟩
end
end Go.Proofs.YtdcidfpoojodmaaGreatDoor.tr
