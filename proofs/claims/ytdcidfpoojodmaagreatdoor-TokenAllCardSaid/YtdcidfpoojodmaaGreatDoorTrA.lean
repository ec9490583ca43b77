/- The reference's sorts of bytes (law 11's TokenAll). -/
import Derived.Test.YtdcidfpoojodmaaGreatDoorTkB
import Derived.Lib.SmallJoins
namespace Go.Proofs.YtdcidfpoojodmaaGreatDoor.tr
open Go.ChangeShapes Go.WideShapes Go.ChangeAt Go.RowKit Go.Maps
open Go.Proofs.YtdcidfpoojodmaaGreatDoor.kp Go.Proofs.YtdcidfpoojodmaaGreatDoor.num Go.Proofs.YtdcidfpoojodmaaGreatDoor.dec Go.Proofs.YtdcidfpoojodmaaGreatDoor.tk
set_option linter.unusedVariables false
theorem rlower_any (c : UInt8) (w : World) : Calls Tryz.prog 36 #[.int .u8 c.toNat] w fun e w' => e = .returned (.bool (sm c)) ∧ w = w' := by
  by_cases h1 : 97 ≤ c.toNat
  · have e : Hid (sm c = decide ((c.toNat : Int) ≤ 122)) := Lib.hid (by unfold sm; rw [decide_eq_true h1, Bool.true_and, Bool.eq_iff_iff]; simp only [decide_eq_true_eq]; omega)
    have g : decide (97 ≤ (c.toNat : Int)) = true := decide_eq_true (by omega)
    go_enter Tryz.func36, Tryz.ntmps36; go_wp2_with fail
    go_ret; exact ⟨kp.rb e.out.symm, rfl⟩
  · have e : Hid (sm c = false) := Lib.hid (by simp [sm, h1])
    have g : decide (97 ≤ (c.toNat : Int)) = false := decide_eq_false (by omega)
    go_enter Tryz.func36, Tryz.ntmps36; go_wp2_with fail
    go_ret; exact ⟨kp.rb e.out.symm, rfl⟩
theorem rdigit_any (c : UInt8) (w : World) : Calls Tryz.prog 37 #[.int .u8 c.toNat] w fun e w' => e = .returned (.bool (dg c)) ∧ w = w' := by
  by_cases h1 : 48 ≤ c.toNat
  · have e : Hid (dg c = decide ((c.toNat : Int) ≤ 57)) := Lib.hid (by unfold dg; rw [decide_eq_true h1, Bool.true_and, Bool.eq_iff_iff]; simp only [decide_eq_true_eq]; omega)
    have g : decide (48 ≤ (c.toNat : Int)) = true := decide_eq_true (by omega)
    go_enter Tryz.func37, Tryz.ntmps37; go_wp2_with fail
    go_ret; exact ⟨kp.rb e.out.symm, rfl⟩
  · have e : Hid (dg c = false) := Lib.hid (by simp [dg, h1])
    have g : decide (48 ≤ (c.toNat : Int)) = false := decide_eq_false (by omega)
    go_enter Tryz.func37, Tryz.ntmps37; go_wp2_with fail
    go_ret; exact ⟨kp.rb e.out.symm, rfl⟩
def up (c : UInt8) : Bool := gr c || decide (c = 95)
theorem rupper_any (c : UInt8) (w : World) : Calls Tryz.prog 33 #[.int .u8 c.toNat] w fun e w' => e = .returned (.bool (up c)) ∧ w = w' := by
  have b := beq_byte c 95 95 rfl
  by_cases h1 : 65 ≤ c.toNat
  · have g : decide (65 ≤ (c.toNat : Int)) = true := decide_eq_true (by omega)
    by_cases h2 : c.toNat ≤ 90
    · have g2 : decide ((c.toNat : Int) ≤ 90) = true := decide_eq_true (by omega)
      have e : Hid (up c = true) := Lib.hid (by simp [up, gr, h1, h2])
      go_enter Tryz.func33, Tryz.ntmps33; go_wp2_with fail
      go_ret; exact ⟨kp.rb e.out.symm, rfl⟩
    · have g2 : decide ((c.toNat : Int) ≤ 90) = false := decide_eq_false (by omega)
      have e : Hid (up c = ((c.toNat : Int) == 95)) := Lib.hid (by rw [show ((c.toNat : Int) == 95) = decide (c = 95) from b]; simp [up, gr, h1, h2])
      clear b
      go_enter Tryz.func33, Tryz.ntmps33; go_wp2_with fail
      go_ret; exact ⟨kp.rb e.out.symm, rfl⟩
  · have g : decide (65 ≤ (c.toNat : Int)) = false := decide_eq_false (by omega)
    have e : Hid (up c = ((c.toNat : Int) == 95)) := Lib.hid (by rw [show ((c.toNat : Int) == 95) = decide (c = 95) from b]; simp [up, gr, h1])
    clear b
    go_enter Tryz.func33, Tryz.ntmps33; go_wp2_with fail
    go_ret; exact ⟨kp.rb e.out.symm, rfl⟩
theorem wd_up (c : UInt8) : wd c = (sm c || (up c || dg c)) := by
  have : decide (c.toNat = 95) = decide (c = 95) := by rw [Bool.eq_iff_iff]; simp only [decide_eq_true_eq, ← UInt8.toNat_inj]; exact Iff.rfl
  unfold wd up; rw [this]
  cases sm c <;> cases gr c <;> cases dg c <;> cases decide (c = 95) <;> rfl
theorem rword_any (c : UInt8) (w : World) : Calls Tryz.prog 49 #[.int .u8 c.toNat] w fun e w' => e = .returned (.bool (wd c)) ∧ w = w' := by
  have hs := rlower_any c w
  have hg := rupper_any c w
  have hd := rdigit_any c w
  have E := Lib.hid (wd_up c)
  generalize sm c = x at *
  generalize up c = y at *
  generalize dg c = z at *
  cases x
  · cases y
    · go_enter Tryz.func49, Tryz.ntmps49; go_wp2_with fail
      refine hs.mono ?_; rintro e w' ⟨rfl, rfl⟩
      go_wp2_with fail
      refine hg.mono ?_; rintro e w' ⟨rfl, rfl⟩
      go_wp2_with fail
      refine hd.mono ?_; rintro e w' ⟨rfl, rfl⟩
      go_wp2_with fail
      go_ret; exact ⟨kp.rb (E.out.trans (by simp)).symm, rfl⟩
    · go_enter Tryz.func49, Tryz.ntmps49; go_wp2_with fail
      refine hs.mono ?_; rintro e w' ⟨rfl, rfl⟩
      go_wp2_with fail
      refine hg.mono ?_; rintro e w' ⟨rfl, rfl⟩
      go_wp2_with fail
      go_ret; exact ⟨kp.rb (E.out.trans (by simp)).symm, rfl⟩
  · go_enter Tryz.func49, Tryz.ntmps49; go_wp2_with fail
    refine hs.mono ?_; rintro e w' ⟨rfl, rfl⟩
    go_wp2_with fail
    go_ret; exact ⟨kp.rb (E.out.trans (by simp)).symm, rfl⟩
theorem mem_cons (x : UInt8) (s : List UInt8) (c : UInt8) : mem (x :: s) c = (decide (c = x) || mem s c) := by
  have hg := Lib.indexByte_ge s c
  unfold mem
  by_cases h : c = x
  · subst h; simp [Lib.indexByte]
  · have h' : ¬ x = c := fun e => h e.symm
    rw [Bool.eq_iff_iff]
    simp only [Lib.indexByte, h, h', if_false, decide_eq_true_eq, decide_false, Bool.false_or, beq_iff_eq]
    split <;> omega
theorem mem_nil (c : UInt8) : mem [] c = false := by simp [mem, Lib.indexByte]
theorem mem_blank (c : UInt8) : mem blankL c = (decide (c = 32) || (decide (c = 9) || (decide (c = 10) || decide (c = 13)))) := by
  unfold blankL; simp only [mem_cons, mem_nil, Bool.or_false]
theorem mem_in (s : List UInt8) (c : UInt8) : mem s c = decide (c ∈ s) := by
  induction s with
  | nil => rw [mem_nil]; simp
  | cons x s ih => rw [mem_cons, ih]; simp
def byts (s : List UInt8) : List Value := s.map fun b => .int .u8 b.toNat
theorem byts_at {w : World} {g k : Nat} {s : List UInt8} {fr : Nat × Nat} (h : w.heap[g]? = some (.cells (byts s).toArray 5 fr)) (hk : k < s.length) : w.cell? ⟨g, k, none⟩ = some (.int .u8 s[k].toNat) := by
  simp only [World.cell?, h, byts]
  simp [hk]
theorem elB : Tryz.prog.elem 75 = 5 := by kernel_rfl
theorem szB (w : World) : (sizeOf 5).run Tryz.prog w = .ok 1 w := by kernel_rfl
theorem byts_ix (g k n : Nat) (hk : k < n) (w : World) : (Instr.indexAt 75 (.slice (some ⟨g, 0, none⟩) n n) (.int .i64 (k : Int))).run Tryz.prog w = .ok (.pointer (some ⟨g, k, none⟩)) w := by
  rw [run_indexAt_slice w 75 _ _ _ _ _ (by rw [elB]; exact Tryz.underlying75), if_pos ⟨by omega, by omega⟩, elB, szB]
  simp only [Result.andThen]
  rcases k with _ | k <;> simp [Addr.add]
theorem signs_lit : (byts signL).toArray = #[.int .u8 43, .int .u8 45, .int .u8 42, .int .u8 47, .int .u8 92, .int .u8 94, .int .u8 60, .int .u8 62, .int .u8 61, .int .u8 126, .int .u8 58, .int .u8 46, .int .u8 63, .int .u8 64, .int .u8 35, .int .u8 38, .int .u8 36] := by rfl
def RG (w0 : World) (g0 : Nat) (c : UInt8) (g : Nat) (s : Value) (wr : World) : Prop :=
  ∃ k : Nat, k ≤ 17 ∧ g = 17 - k ∧ s = .int .i64 k ∧ (∀ m (h : m < signL.length), m < k → c ≠ signL[m]) ∧ wr.heap[g0]? = some (.cells (byts signL).toArray 5 (17, 18)) ∧ Below w0.heap.size w0 wr
set_option maxRecDepth 100000 in
set_option maxHeartbeats 8000000 in
theorem rsign_any (c : UInt8) (w : World) : Calls Tryz.prog 41 #[.int .u8 c.toNat] w fun e w' => e = .returned (.bool (sg c)) ∧ Below w.heap.size w w' := by
  have hx0 := kp.alloc_at w (.cells (byts signL).toArray 5 (17, 18))
  have hb0 := kp.ba w (.cells (byts signL).toArray 5 (17, 18))
  have H0 := Lib.hid (And.intro hx0 hb0)
  clear hx0 hb0
  have hcv := Lib.run_convert_bytes_const (P := Tryz.prog) w 75 5 (byts signL).toArray 17 17 Tryz.underlying75 Tryz.underlying5
  rw [signs_lit] at hcv
  simp only [List.size_toArray, List.length_cons, List.length_nil, Nat.reduceAdd] at hcv
  go_enter Tryz.func41, Tryz.ntmps41
  go_wp2_with fail
  go_loopg [8] 17 (RG w w.heap.size c)
  case atStart => exact ⟨0, by omega, by omega, rfl, fun m h hm => by omega, by rw [signs_lit]; have := H0.out.1; rwa [signs_lit] at this, by have := H0.out.2; rwa [signs_lit] at this⟩
  case round =>
    obtain ⟨k, hk, rfl, rfl, hno, hx, hb⟩ := hrel
    by_cases hlt : k < 17
    · have hk0 : k < signL.length := hlt
      have e0 := byts_at hx hk0
      have hix := byts_ix w.heap.size k 17 hlt
      have hd : decide ((k : Int) < 17) = true := decide_eq_true (by omega)
      have HX := Lib.hid (And.intro hno (And.intro hx hb))
      obtain ⟨x, hxx⟩ : ∃ x, x = signL[k] := ⟨_, rfl⟩
      rw [← hxx] at e0
      clear hno hx hb
      have hb : ((x.toNat : Int) == (c.toNat : Int)) = decide (c = x) := by
        rw [Bool.eq_iff_iff]; simp [← UInt8.toNat_inj]; omega
      by_cases hc : c = x
      · have E : Hid (sg c = true) := Lib.hid (by unfold sg; rw [mem_in, hc, hxx]; exact decide_eq_true (List.getElem_mem _))
        rw [decide_eq_true hc] at hb
        clear hc hxx
        go_wp2_with fail
        go_ret; exact ⟨kp.rb E.out.symm, HX.out.2.2⟩
      · have HC : Hid (c ≠ signL[k]) := Lib.hid (by rw [← hxx]; exact hc)
        rw [decide_eq_false hc] at hb
        clear hc hxx
        go_wp2_with fail
        go_roundg (17 - (k + 1))
        case measure => omega
        case rel =>
          refine ⟨k + 1, hlt, rfl, by go_num, fun m h hm => ?_, HX.out.2.1, HX.out.2.2⟩
          by_cases e : m = k
          · subst e; exact HC.out
          · exact HX.out.1 m h (by omega)
    · have hk17 : k = 17 := by omega
      subst hk17
      have E : Hid (sg c = false) := Lib.hid (by
        unfold sg; rw [mem_in]; refine decide_eq_false fun hm => ?_
        obtain ⟨m, h, e⟩ := List.getElem_of_mem hm
        exact hno m h (by have : signL.length = 17 := rfl; omega) e.symm)
      have HX := Lib.hid hb
      clear hno hx hb
      go_wp2_with fail
      go_ret; exact ⟨kp.rb E.out.symm, HX.out⟩
theorem rwhite_any (c : UInt8) (w : World) : Calls Tryz.prog 32 #[.int .u8 c.toNat] w fun e w' => e = .returned (.bool (mem blankL c)) ∧ w = w' := by
  have b1 : ((c.toNat : Int) == 32) = decide (c = 32) := beq_byte c 32 32 rfl
  have b2 : ((c.toNat : Int) == 9) = decide (c = 9) := beq_byte c 9 9 rfl
  have b3 : ((c.toNat : Int) == 10) = decide (c = 10) := beq_byte c 10 10 rfl
  have b4 : ((c.toNat : Int) == 13) = decide (c = 13) := beq_byte c 13 13 rfl
  have E := Lib.hid (mem_blank c)
  generalize decide (c = 32) = x1 at *
  generalize decide (c = 9) = x2 at *
  generalize decide (c = 10) = x3 at *
  generalize decide (c = 13) = x4 at *
  cases x1
  · cases x2
    · cases x3
      · go_enter Tryz.func32, Tryz.ntmps32; go_wp2_with fail
        go_ret; exact ⟨kp.rb (E.out.trans (by simp)).symm, rfl⟩
      · go_enter Tryz.func32, Tryz.ntmps32; go_wp2_with fail
        go_ret; exact ⟨kp.rb (E.out.trans (by simp)).symm, rfl⟩
    · go_enter Tryz.func32, Tryz.ntmps32; go_wp2_with fail
      go_ret; exact ⟨kp.rb (E.out.trans (by simp)).symm, rfl⟩
  · go_enter Tryz.func32, Tryz.ntmps32; go_wp2_with fail
    go_ret; exact ⟨kp.rb (E.out.trans (by simp)).symm, rfl⟩
end Go.Proofs.YtdcidfpoojodmaaGreatDoor.tr
