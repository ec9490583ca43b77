/- The reference's number. -/
import Derived.Test.YtdcidfpoojodmaaGreatDoorTrC
import Derived.Test.YtdcidfpoojodmaaGreatDoorTkG
import Derived.Test.YtdcidfpoojodmaaGreatDoorRpC
import Derived.Test.YtdcidfpoojodmaaGreatDoorRParse
namespace Go.Proofs.YtdcidfpoojodmaaGreatDoor.tr
open Go.ChangeShapes Go.WideShapes Go.ChangeAt Go.RowKit Go.Maps
open Go.Proofs.YtdcidfpoojodmaaGreatDoor.kp Go.Proofs.YtdcidfpoojodmaaGreatDoor.num Go.Proofs.YtdcidfpoojodmaaGreatDoor.dec Go.Proofs.YtdcidfpoojodmaaGreatDoor.tk
set_option linter.unusedVariables false
set_option linter.unusedSimpArgs false
def c0 (q : List UInt8) : Bool := decide (1 < q.length) && decide (q.take 2 = [48, 99])
/-- was the last token a minus just ahead of that place? -/
def lastc (ts : List Tk) (a : Nat) : Bool := match ts.getLast? with
  | none => false
  | some x => decide (x.k = 1) && (decide (x.t = [45]) && decide (x.a + 1 = a))
section
variable {w w' w0 : World} {p : Nat} {S l q rest : List UInt8} {row : Value} {b : Bool} {ts : List Tk}
def NF (p : Nat) (w0 : World) (S rest : List UInt8) (b : Bool) (ts : List Tk) (er : Int) (x : Tk) (e : Ending) (w' : World) : Prop :=
  e = .returned (.tuple #[]) ∧ ∃ row', LS p w0 (SN S rest row' er b) row' (ts ++ [x]) w'
theorem ls_err (h : LS p w0 (SN S l row 0 b) row ts w) (n : Int) : LS p w0 (SN S l row n b) row ts (w.setCell ⟨p, 3, none⟩ (.int .i64 n)) :=
  h.turn (by simpa using Nw.set h.1 3 (.int .i64 n))
set_option maxRecDepth 100000 in
set_option maxHeartbeats 8000000 in
theorem number_c (h : LS p w0 (SN S l row 0 b) row ts w) (hp : p < w0.heap.size) (hz : w0.heap.size ≤ p + 1) (hl : ts.length ≤ 70000) (hs : l <:+ S) (hS : S.length ≤ 65537)
    (hq : l.takeWhile wd = q) (hr : l.dropWhile wd = rest) (hc : c0 q = true) (a : Nat) :
    Calls Tryz.prog 38 #[.pointer (some ⟨p, 0, none⟩), .int .i64 (a : Int)] w (NF p w0 S rest b ts (dve q) ⟨5, [], 0, dv1 q, dv2 q, a⟩) := by
  have hql : q.length ≤ 65537 := by
    have h1 := hs.length_le
    have h2 := (List.takeWhile_prefix (p := wd) (l := l)).length_le
    rw [hq] at h2; omega
  have hrun := run_any false h.1 hs hS
  have ef : fs false = wd := rfl
  rw [ef, hq, hr] at hrun
  obtain ⟨⟨c0', c1, -⟩, -⟩ := five' h.1
  simp only [c0, Bool.and_eq_true, decide_eq_true_eq] at hc
  have hd : decide (1 < (q.length : Int)) = true := decide_eq_true (by omega)
  have ht : (List.take 2 q == [48, 99]) = true := by rw [hc.2]; rfl
  have hsl : ∀ w', Sem.run Tryz.prog (Instr.slice 9 (.string ⟨q.toArray⟩) none (some (.int .i64 2)) none) w' = .ok (.string ⟨(List.take 2 q).toArray⟩) w' := by
    intro w'
    have e := run_slice_string_h (P := Tryz.prog) (w := w') (t := 9) (s := ⟨q.toArray⟩) Tryz.underlying9 .i64 2 (by omega) (by show (2 : Int) ≤ (q.length : Int); omega)
    rw [e]
    show Result.ok (Value.string ((⟨q.toArray⟩ : ByteArray).extract 0 2)) w' = _
    rw [ext_any]; rfl
  have hx := ext_any
  have hpc := fun w => rparseC_any q w (by omega)
  have H0 := Lib.hid (And.intro h (And.intro hp (And.intro hz hl)))
  obtain ⟨x1, hx1⟩ : ∃ x, dv1 q = x := ⟨_, rfl⟩
  obtain ⟨x2, hx2⟩ : ∃ x, dv2 q = x := ⟨_, rfl⟩
  obtain ⟨x3, hx3⟩ : ∃ x, dve q = x := ⟨_, rfl⟩
  simp only [hx1, hx2, hx3] at hpc ⊢
  clear h hp hz hl hs hq hr hc hx1 hx2 hx3
  go_enter Tryz.func38, Tryz.ntmps38
  go_wp2_with fail
  refine hrun.mono ?_; rintro e w1 ⟨rfl, N1⟩
  have L1 := H0.out.1.turn N1
  have hlt := Nw.lt L1.1
  obtain ⟨⟨-, -, -, c3, -⟩, -, -, f3, -⟩ := five' L1.1
  have HP := Lib.hid (put_any ⟨5, [], 0, x1, x2, a⟩ (ls_err L1 x3) H0.out.2.1 H0.out.2.2.1 H0.out.2.2.2)
  clear N1 L1 c0' c1
  go_wp2_with fail
  refine (hpc _).mono ?_; rintro e w' ⟨rfl, rfl⟩
  go_wp2_with fail
  refine HP.out.mono ?_
  rintro e w' ⟨rfl, hr⟩
  have HR := Lib.hid hr
  clear hr
  go_wp2_with fail
  exact ⟨rfl, .tuple #[], results_none rfl _ _ _, rfl, HR.out⟩
set_option maxRecDepth 100000 in
set_option maxHeartbeats 8000000 in
theorem number_dec (h : LS p w0 (SN S l row 0 b) row ts w) (hp : p < w0.heap.size) (hz : w0.heap.size ≤ p + 1) (hl : ts.length ≤ 70000) (hs : l <:+ S) (hS : S.length ≤ 65537)
    (hq : l.takeWhile wd = q) (hr : l.dropWhile wd = rest) (hc : c0 q = false) (hlq : q ≠ leastL) (a : Nat) (hat : S.length - l.length = a) :
    Calls Tryz.prog 38 #[.pointer (some ⟨p, 0, none⟩), .int .i64 (a : Int)] w (NF p w0 S rest b ts (pe q) ⟨4, [], pv q, 0, 0, a⟩) := by
  have hql : q.length ≤ 65537 := by
    have h1 := hs.length_le
    have h2 := (List.takeWhile_prefix (p := wd) (l := l)).length_le
    rw [hq] at h2; omega
  have hrun := run_any false h.1 hs hS
  have ef : fs false = wd := rfl
  rw [ef, hq, hr] at hrun
  obtain ⟨⟨c0', c1, -⟩, -⟩ := five' h.1
  rw [hat] at c1
  have hx := ext_any
  have hpc := fun w => rparse_any q w (by omega)
  have H0 := Lib.hid (And.intro h (And.intro hp (And.intro hz hl)))
  have hqe : ((⟨q.toArray⟩ : ByteArray).toList == ({ data := #[57, 50, 50, 51, 51, 55, 50, 48, 51, 54, 56, 53, 52, 55, 55, 53, 56, 48, 56] } : ByteArray).toList) = false := (tl_dec q _ leastL rfl).trans (decide_eq_false hlq)
  obtain ⟨x1, hx1⟩ : ∃ x, pv q = x := ⟨_, rfl⟩
  obtain ⟨x3, hx3⟩ : ∃ x, pe q = x := ⟨_, rfl⟩
  simp only [hx1, hx3] at hpc ⊢
  obtain ⟨sa, sc, rfl⟩ := kp.shape h.2.1
  have hc' : (decide (1 < (q.length : Int)) = false) ∨ (decide (1 < (q.length : Int)) = true ∧ (List.take 2 q == [48, 99]) = false) := by
    simp only [c0, Bool.and_eq_false_iff, decide_eq_false_iff_not] at hc
    by_cases h1 : 1 < q.length
    · refine Or.inr ⟨decide_eq_true (by omega), ?_⟩
      rcases hc with hc | hc
      · exact absurd h1 hc
      · simpa using hc
    · exact Or.inl (decide_eq_false (by omega))
  have hsl : 1 < q.length → ∀ w', Sem.run Tryz.prog (Instr.slice 9 (.string ⟨q.toArray⟩) none (some (.int .i64 2)) none) w' = .ok (.string ⟨(List.take 2 q).toArray⟩) w' := by
    intro h1 w'
    have e := run_slice_string_h (P := Tryz.prog) (w := w') (t := 9) (s := ⟨q.toArray⟩) Tryz.underlying9 .i64 2 (by omega) (by show (2 : Int) ≤ (q.length : Int); omega)
    rw [e]
    show Result.ok (Value.string ((⟨q.toArray⟩ : ByteArray).extract 0 2)) w' = _
    rw [ext_any]; rfl
  unfold leastL at hlq
  clear h hp hz hl hs hq hr hc hx1 hx3 hat
  rcases hc' with hd | ⟨hd, ht⟩
  rotate_left
  have hsl := hsl (by have := of_decide_eq_true hd; omega)
  rotate_left
  clear hsl
  all_goals
    go_enter Tryz.func38, Tryz.ntmps38
    go_wp2_with fail
    refine hrun.mono ?_; rintro e w1 ⟨rfl, N1⟩
    have L1 := H0.out.1.turn N1
    have hlt := Nw.lt L1.1
    obtain ⟨⟨-, -, c2, c3, -⟩, -, -, f3, -⟩ := five' L1.1
    have HP := Lib.hid (put_any ⟨4, [], x1, 0, 0, a⟩ (ls_err L1 x3) H0.out.2.1 H0.out.2.2.1 H0.out.2.2.2)
    clear N1 L1 c0' c1
    go_wp2_with fail
    refine (hpc _).mono ?_; rintro e w' ⟨rfl, rfl⟩
    go_wp2_with fail
    refine HP.out.mono ?_
    rintro e w' ⟨rfl, hr⟩
    have HR := Lib.hid hr
    clear hr
    go_wp2_with fail
    exact ⟨rfl, .tuple #[], results_none rfl _ _ _, rfl, HR.out⟩
set_option maxRecDepth 100000 in
set_option maxHeartbeats 8000000 in
theorem number_least (h : LS p w0 (SN S l row 0 b) row ts w) (hp : p < w0.heap.size) (hz : w0.heap.size ≤ p + 1) (hl : ts.length ≤ 70000) (hs : l <:+ S) (hS : S.length ≤ 65537)
    (hq : l.takeWhile wd = leastL) (hr : l.dropWhile wd = rest) (a : Nat) (hat : S.length - l.length = a) :
    Calls Tryz.prog 38 #[.pointer (some ⟨p, 0, none⟩), .int .i64 (a : Int)] w (NF p w0 S rest b ts (if lastc ts a = true then 0 else pe leastL) ⟨4, [], if lastc ts a = true then -9223372036854775808 else pv leastL, 0, 0, a⟩) := by
  have hrun : Calls Tryz.prog 35 #[.pointer (some ⟨p, 0, none⟩), .bool false] w fun e w' => e = .returned (.string ⟨#[57, 50, 50, 51, 51, 55, 50, 48, 51, 54, 56, 53, 52, 55, 55, 53, 56, 48, 56]⟩) ∧ Nw p (SN S rest row 0 b) w w' := by
    have hrun := run_any false h.1 hs hS
    have ef : fs false = wd := rfl
    rw [ef, hq, hr] at hrun
    exact hrun
  obtain ⟨⟨c0', c1, -⟩, -⟩ := five' h.1
  rw [hat] at c1
  have haS : a ≤ 65537 := by omega
  have hpc : ∀ w, Calls Tryz.prog 51 #[.string ⟨#[57, 50, 50, 51, 51, 55, 50, 48, 51, 54, 56, 53, 52, 55, 55, 53, 56, 48, 56]⟩] w fun e w' => e = .returned (.tuple #[.int .i64 (pv leastL), .int .i64 (pe leastL)]) ∧ w = w' := fun w => rparse_any leastL w (by decide)
  have H0 := Lib.hid (And.intro h (And.intro hp (And.intro hz hl)))
  obtain ⟨x1, hx1⟩ : ∃ x, pv leastL = x := ⟨_, rfl⟩
  obtain ⟨x3, hx3⟩ : ∃ x, pe leastL = x := ⟨_, rfl⟩
  have hsl : ∀ w', Sem.run Tryz.prog (Instr.slice 9 (.string ⟨#[57, 50, 50, 51, 51, 55, 50, 48, 51, 54, 56, 53, 52, 55, 55, 53, 56, 48, 56]⟩) none (some (.int .i64 2)) none) w' = .ok (.string ⟨#[57, 50]⟩) w' := fun w' => by kernel_rfl
  simp only [hx1, hx3] at hpc ⊢
  clear hx1 hx3 hq hr hat hp hz hs hS
  have h2 := h.2.1
  obtain ⟨sa, sc, rfl⟩ := kp.shape h.2.1
  clear h
  by_cases hne : ts = []
  · subst hne
    have hlc : lastc [] a = false := rfl
    rw [if_neg (by rw [hlc]; decide), if_neg (by rw [hlc]; decide)]
    clear hlc h2
    go_enter Tryz.func38, Tryz.ntmps38
    go_wp2_with fail
    refine hrun.mono ?_; rintro e w1 ⟨rfl, N1⟩
    have L1 := H0.out.1.turn N1
    have hlt := Nw.lt L1.1
    obtain ⟨⟨-, -, c2, c3, -⟩, -, -, f3, -⟩ := five' L1.1
    have HP := Lib.hid (put_any ⟨4, [], x1, 0, 0, a⟩ (ls_err L1 x3) H0.out.2.1 H0.out.2.2.1 H0.out.2.2.2)
    clear N1 L1 c0' c1
    go_wp2_with fail
    refine (hpc _).mono ?_; rintro e w' ⟨rfl, rfl⟩
    go_wp2_with fail
    refine HP.out.mono ?_
    rintro e w' ⟨rfl, hr⟩
    have HR := Lib.hid hr
    clear hr
    go_wp2_with fail
    exact ⟨rfl, .tuple #[], results_none rfl _ _ _, rfl, HR.out⟩
  · obtain ⟨ts', x, rfl⟩ : ∃ ts' x, ts = ts' ++ [x] := ⟨ts.dropLast, ts.getLast hne, (List.dropLast_concat_getLast hne).symm⟩
    have hlc : lastc (ts' ++ [x]) a = (decide (x.k = 1) && (decide (x.t = [45]) && decide (x.a + 1 = a))) := by simp [lastc]
    rw [hlc]
    obtain ⟨n, hn⟩ : ∃ n, ts'.length = n := ⟨_, rfl⟩
    have hln : (ts' ++ [x]).length = n + 1 := by simp [hn]
    have hget : (ts' ++ [x])[n]? = some x := by rw [← hn]; simp
    have hi : decide (0 < (n : Int) + 1) = true := decide_eq_true (by omega)
    have hwn : wrap64 (n : Int) = (n : Int) := by unfold wrap64; have : (ts' ++ [x]).length ≤ 70000 := hl; omega
    have hwa : wrap64 ((a : Int) - 1) = (a : Int) - 1 := by unfold wrap64; omega
    have FIN : ∀ w1, Nw p (SN S rest (.slice sa (ts' ++ [x]).length sc) 0 b) w w1 → ∃ g c, Value.slice sa (n + 1) sc = .slice (some ⟨g, 0, none⟩) (n + 1) c ∧ Tok6 w1 g (n * 6) x ∧ ∀ w, (Instr.indexAt 23 (.slice (some ⟨g, 0, none⟩) (n + 1) c) (.int .i64 (n : Int))).run Tryz.prog w = .ok (.pointer (some ⟨g, n * 6, none⟩)) w := by
      intro w1 N1
      have L1 := H0.out.1.turn N1
      obtain ⟨g, c, hv, hg, hB, hk⟩ := L1.2.1.look (by simp)
      rw [hln] at hv
      exact ⟨g, c, hv, hk n x hget, fun w => ixT (by omega) w⟩
    have HF := Lib.hid FIN
    have HL := Lib.hid hln
    clear FIN hne h2 hlc hget hln hn
    obtain ⟨k, t, nn, re, im, ax⟩ := x
    dsimp only
    have split : (k = 1 ∧ t = [45] ∧ ax + 1 = a) ∨ (¬ k = 1) ∨ (k = 1 ∧ ¬ t = [45]) ∨ (k = 1 ∧ t = [45] ∧ ¬ ax + 1 = a) := by
      by_cases h1 : k = 1
      · by_cases h2 : t = [45]
        · by_cases h3 : ax + 1 = a
          · exact Or.inl ⟨h1, h2, h3⟩
          · exact Or.inr (Or.inr (Or.inr ⟨h1, h2, h3⟩))
        · exact Or.inr (Or.inr (Or.inl ⟨h1, h2⟩))
      · exact Or.inr (Or.inl h1)
    rcases split with ⟨rfl, rfl, h3⟩ | h1 | ⟨rfl, h2⟩ | ⟨rfl, rfl, h3⟩
    · rw [if_pos (by simp [h3]), if_pos (by simp [h3])]
      have k3 : ((ax : Int) == (a : Int) - 1) = true := by simp; omega
      go_enter Tryz.func38, Tryz.ntmps38
      go_wp2_with fail
      refine hrun.mono ?_; rintro e w1 ⟨rfl, N1⟩
      have L1 := H0.out.1.turn N1
      have hlt := Nw.lt L1.1
      obtain ⟨⟨-, -, c2, -⟩, -⟩ := five' L1.1
      have HP := Lib.hid (put_any ⟨4, [], -9223372036854775808, 0, 0, a⟩ L1 H0.out.2.1 H0.out.2.2.1 H0.out.2.2.2)
      obtain ⟨g, c, hv, ⟨t0, t1, t2, t3, t4, t5⟩, hix⟩ := HF.out w1 N1
      rw [HL.out] at c2
      cases hv
      clear N1 L1 c0' c1 t2 t3 t4
      go_wp2_with fail
      refine HP.out.mono ?_
      rintro e w' ⟨rfl, hr⟩
      have HR := Lib.hid hr
      clear hr
      go_wp2_with fail
      exact ⟨rfl, .tuple #[], results_none rfl _ _ _, rfl, HR.out⟩
    · rw [if_neg (by simp [h1]), if_neg (by simp [h1])]
      have k1 : (k == 1) = false := by simpa using h1
      go_enter Tryz.func38, Tryz.ntmps38
      go_wp2_with fail
      refine hrun.mono ?_; rintro e w1 ⟨rfl, N1⟩
      have L1 := H0.out.1.turn N1
      have hlt := Nw.lt L1.1
      obtain ⟨⟨-, -, c2, c3, -⟩, -, -, f3, -⟩ := five' L1.1
      have HP := Lib.hid (put_any ⟨4, [], x1, 0, 0, a⟩ (ls_err L1 x3) H0.out.2.1 H0.out.2.2.1 H0.out.2.2.2)
      obtain ⟨g, c, hv, ⟨t0, t1, t2, t3, t4, t5⟩, hix⟩ := HF.out w1 N1
      rw [HL.out] at c2
      cases hv
      clear N1 L1 c0' c1 t2 t3 t4
      go_wp2_with fail
      refine (hpc _).mono ?_; rintro e w' ⟨rfl, rfl⟩
      go_wp2_with fail
      refine HP.out.mono ?_
      rintro e w' ⟨rfl, hr⟩
      have HR := Lib.hid hr
      clear hr
      go_wp2_with fail
      exact ⟨rfl, .tuple #[], results_none rfl _ _ _, rfl, HR.out⟩
    · rw [if_neg (by simp [h2]), if_neg (by simp [h2])]
      have k2 : ((⟨t.toArray⟩ : ByteArray).toList == ({ data := #[45] } : ByteArray).toList) = false := (tl_dec t _ [45] rfl).trans (decide_eq_false h2)
      go_enter Tryz.func38, Tryz.ntmps38
      go_wp2_with fail
      refine hrun.mono ?_; rintro e w1 ⟨rfl, N1⟩
      have L1 := H0.out.1.turn N1
      have hlt := Nw.lt L1.1
      obtain ⟨⟨-, -, c2, c3, -⟩, -, -, f3, -⟩ := five' L1.1
      have HP := Lib.hid (put_any ⟨4, [], x1, 0, 0, a⟩ (ls_err L1 x3) H0.out.2.1 H0.out.2.2.1 H0.out.2.2.2)
      obtain ⟨g, c, hv, ⟨t0, t1, t2, t3, t4, t5⟩, hix⟩ := HF.out w1 N1
      rw [HL.out] at c2
      cases hv
      clear N1 L1 c0' c1 t2 t3 t4
      go_wp2_with fail
      refine (hpc _).mono ?_; rintro e w' ⟨rfl, rfl⟩
      go_wp2_with fail
      refine HP.out.mono ?_
      rintro e w' ⟨rfl, hr⟩
      have HR := Lib.hid hr
      clear hr
      go_wp2_with fail
      exact ⟨rfl, .tuple #[], results_none rfl _ _ _, rfl, HR.out⟩
    · rw [if_neg (by simp [h3]), if_neg (by simp [h3])]
      have k3 : ((ax : Int) == (a : Int) - 1) = false := by simp; omega
      go_enter Tryz.func38, Tryz.ntmps38
      go_wp2_with fail
      refine hrun.mono ?_; rintro e w1 ⟨rfl, N1⟩
      have L1 := H0.out.1.turn N1
      have hlt := Nw.lt L1.1
      obtain ⟨⟨-, -, c2, c3, -⟩, -, -, f3, -⟩ := five' L1.1
      have HP := Lib.hid (put_any ⟨4, [], x1, 0, 0, a⟩ (ls_err L1 x3) H0.out.2.1 H0.out.2.2.1 H0.out.2.2.2)
      obtain ⟨g, c, hv, ⟨t0, t1, t2, t3, t4, t5⟩, hix⟩ := HF.out w1 N1
      rw [HL.out] at c2
      cases hv
      clear N1 L1 c0' c1 t2 t3 t4
      go_wp2_with fail
      refine (hpc _).mono ?_; rintro e w' ⟨rfl, rfl⟩
      go_wp2_with fail
      refine HP.out.mono ?_
      rintro e w' ⟨rfl, hr⟩
      have HR := Lib.hid hr
      clear hr
      go_wp2_with fail
      exact ⟨rfl, .tuple #[], results_none rfl _ _ _, rfl, HR.out⟩
end
end Go.Proofs.YtdcidfpoojodmaaGreatDoor.tr
