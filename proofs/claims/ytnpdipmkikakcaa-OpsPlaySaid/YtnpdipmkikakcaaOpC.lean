/- Package ops: place, compare, isOp, find; slices.BinarySearchFunc. -/
import Derived.Test.YtnpdipmkikakcaaOpB
import Derived.Test.YtnpdipmkikakcaaShelf
import Derived.StillTailTactics
import Derived.Deep.LoopGhost
import Derived.Deep.RegionHeld3
import Derived.Deep.QuietTactic
import Derived.BigQuiet
namespace Go.Proofs.Ytnpdipmkikakcaa.opc
open Go.ChangeShapes Go.WideShapes Go.ChangeAt Go.RowKit
open Go.Proofs.Ytnpdipmkikakcaa.kp Go.Proofs.Ytnpdipmkikakcaa.opa Go.Proofs.Ytnpdipmkikakcaa.opb
set_option linter.unusedVariables false
theorem rI {x y : Int} (h : x = y) : Ending.returned (.int .i64 x) = .returned (.int .i64 y) := by rw [h]
theorem place_any (k : Int) (w : World) : Calls Try.prog 43 #[.int .i64 k] w fun e w' => e = .returned (.int .i64 (pl k)) ∧ w = w' := by
  by_cases h : k = 4
  · subst h; go_enter Try.func43, Try.ntmps43; go_wp2; go_ret; exact ⟨rI (by decide), rfl⟩
  · have e1 : (k == 4) = false := by rw [beq_eq_false_iff_ne]; exact h
    by_cases g : k = 5
    · subst g; go_enter Try.func43, Try.ntmps43; go_wp2; go_ret; exact ⟨rI (by decide), rfl⟩
    · have e2 : (k == 5) = false := by rw [beq_eq_false_iff_ne]; exact g
      go_enter Try.func43, Try.ntmps43; go_wp2; go_ret; exact ⟨rI (by simp [pl, fr, h, g]), rfl⟩
theorem nan_int (x : Int) (w : World) : Calls Try.prog 46 #[.int .i64 x] w fun e w' => e = .returned (.bool false) ∧ w = w' := by
  have e1 : (x != x) = false := by simp
  go_enter Try.func46, Try.ntmps46; go_wp2; go_ret; exact ⟨rb (by simp), rfl⟩
theorem cw_lt {a b : Int} (h : a < b) : cw a b = -1 := by unfold cw; rw [if_pos h]
theorem cw_gt {a b : Int} (h : b < a) : cw a b = 1 := by unfold cw; rw [if_neg (by omega), if_pos h]
theorem cw_eq {a b : Int} (h : b ≤ a) (g : a ≤ b) : cw a b = 0 := by unfold cw; rw [if_neg (by omega), if_neg (by omega)]
theorem cmp_int (a b : Int) (w : World) : Calls Try.prog 42 #[.int .i64 a, .int .i64 b] w fun e w' => e = .returned (.int .i64 (cw a b)) ∧ w = w' := by
  go_enter Try.func42, Try.ntmps42
  go_wp2_with fail
  refine (nan_int _ _).mono ?_; rintro e w' ⟨rfl, rfl⟩
  go_wp2_with fail
  refine (nan_int _ _).mono ?_; rintro e w' ⟨rfl, rfl⟩
  by_cases h : a < b
  · go_wp2_with fail; go_ret; exact ⟨rI (cw_lt h).symm, rfl⟩
  · by_cases g : b < a
    · go_wp2_with fail; go_ret; exact ⟨rI (cw_gt g).symm, rfl⟩
    · go_wp2_with fail; go_ret; exact ⟨rI (cw_eq h g).symm, rfl⟩
def orI (x y : Int) : Int := if x = 0 then y else x
def ORel (x y : Int) (w : World) (g : Nat) (s8 : Value) (wr : World) : Prop := ∃ k : Nat, k ≤ 2 ∧ g = 2 - k ∧ s8 = .int .i64 k ∧ (0 < k → x = 0) ∧ (1 < k → y = 0) ∧ wr = w
/-- cmp.Or of two -/
theorem or_any (x y : Int) (P : Nat) (w : World) (h0 : w.cell? ⟨P, 0, none⟩ = some (.int .i64 x)) (h1 : w.cell? ⟨P, 1, none⟩ = some (.int .i64 y)) : Calls Try.prog 40 #[.slice (some ⟨P, 0, none⟩) 2 2] w fun e w' => e = .returned (.int .i64 (orI x y)) ∧ w = w' := by
  go_enter Try.func40, Try.ntmps40
  go_wp2_with fail
  go_loopg [8] 2 (ORel x y w)
  case atStart => exact ⟨0, by omega, by omega, rfl, by omega, by omega, rfl⟩
  case round =>
    obtain ⟨k, hk, rfl, rfl, hx, hy, rfl⟩ := hrel
    by_cases h : k = 0
    · subst h
      by_cases hz : x = 0
      · subst hz
        have i0 : ∀ w, (Instr.indexAt 68 (.slice (some ⟨P, 0, none⟩) 2 2) (.int .i64 0)).run Try.prog w = .ok (.pointer (some ⟨P, 0, none⟩)) w := fun w => by kernel_rfl
        go_wp2_with fail
        go_roundg 1
        case measure => omega
        case rel => exact ⟨1, by omega, by omega, by go_num, by simp, by omega, rfl⟩
      · have e : (x != 0) = true := by rw [bne_iff_ne]; exact hz
        have i0 : ∀ w, (Instr.indexAt 68 (.slice (some ⟨P, 0, none⟩) 2 2) (.int .i64 0)).run Try.prog w = .ok (.pointer (some ⟨P, 0, none⟩)) w := fun w => by kernel_rfl
        go_wp2_with fail
        go_ret
        exact ⟨rI (by simp [orI, hz]), rfl⟩
    · by_cases h2 : k = 1
      · subst h2
        by_cases hz : y = 0
        · subst hz
          have i0 : ∀ w, (Instr.indexAt 68 (.slice (some ⟨P, 0, none⟩) 2 2) (.int .i64 1)).run Try.prog w = .ok (.pointer (some ⟨P, 1, none⟩)) w := fun w => by kernel_rfl
          go_wp2_with fail
          go_roundg 0
          case measure => omega
          case rel => exact ⟨2, by omega, by omega, by go_num, fun _ => hx (by omega), by simp, rfl⟩
        · have e : (y != 0) = true := by rw [bne_iff_ne]; exact hz
          have hx0 := Lib.hid (hx (by omega))
          clear hx hy
          have i0 : ∀ w, (Instr.indexAt 68 (.slice (some ⟨P, 0, none⟩) 2 2) (.int .i64 1)).run Try.prog w = .ok (.pointer (some ⟨P, 1, none⟩)) w := fun w => by kernel_rfl
          go_wp2_with fail
          go_ret
          exact ⟨rI (by simp [orI, hx0.out]), rfl⟩
      · have : k = 2 := by omega
        subst this
        have hx0 := Lib.hid (And.intro (hx (by omega)) (hy (by omega)))
        clear hx hy
        go_wp2_with fail
        go_ret
        exact ⟨rI (by simp [orI, hx0.out.1, hx0.out.2]), rfl⟩
theorem scmp_any (a b : List UInt8) (w : World) : Calls Try.prog 41 #[.string ⟨a.toArray⟩, .string ⟨b.toArray⟩] w fun e w' => e = .returned (.int .i64 (cb a b)) ∧ w = w' := by
  refine (Try.strings_Compare _ _ w).mono ?_
  rintro e w' ⟨rfl, rfl⟩
  exact ⟨rfl, rfl⟩
/-- two boxes -/
structure T2 (w : World) (x y : D) (wN : World) : Prop where
  a : wN.heap[w.heap.size]? = some (.cells x.cs.toArray 32 (0, 0))
  b : wN.heap[w.heap.size + 1]? = some (.cells y.cs.toArray 32 (0, 0))
  bel : Below w.heap.size w wN
theorem T2.below {w : World} {x y : D} {w1 w2 : World} (h : T2 w x y w1) (hb : Below w1.heap.size w1 w2) : T2 w x y w2 :=
  ⟨(hb.block _ (Array.getElem?_eq_some_iff.1 h.a).1).trans h.a, (hb.block _ (Array.getElem?_eq_some_iff.1 h.b).1).trans h.b, h.bel.trans (hb.mono h.bel.size)⟩
theorem T2.mk' (w : World) (x y : D) : T2 w x y ((w.alloc (.cells x.cs.toArray 32)).alloc (.cells y.cs.toArray 32)) := by
  refine ⟨?_, ?_, bt (ba _ _) (ba _ _)⟩
  · exact ((ba (w.alloc (.cells x.cs.toArray 32)) _).block _ (by simp)).trans (alloc_at _ _)
  · have := alloc_at (w.alloc (.cells x.cs.toArray 32)) (.cells y.cs.toArray 32)
    rwa [alloc_size] at this
theorem T2.cells {w : World} {x y : D} {wN : World} (h : T2 w x y wN) : wN.cell? ⟨w.heap.size, 0, none⟩ = some (.string ⟨x.n.toArray⟩) ∧ wN.cell? ⟨w.heap.size, 1, none⟩ = some (.int .i64 x.k) ∧
    wN.cell? ⟨w.heap.size + 1, 0, none⟩ = some (.string ⟨y.n.toArray⟩) ∧ wN.cell? ⟨w.heap.size + 1, 1, none⟩ = some (.int .i64 y.k) := by
  refine ⟨?_, ?_, ?_, ?_⟩ <;> simp [World.cell?, h.a, h.b, D.cs]
set_option maxRecDepth 100000 in
set_option maxHeartbeats 4000000 in
theorem compare_any (x y : D) (w : World) : Calls Try.prog 36 #[x.v, y.v] w fun e w' => e = .returned (.int .i64 (cd x y)) ∧ Below w.heap.size w w' := by
  have hS0 := T2.mk' w x y
  obtain ⟨n, k, p⟩ := x
  obtain ⟨n', k', p'⟩ := y
  obtain ⟨e0, e1, e2, e3⟩ := hS0.cells
  simp only [D.cs, D.v] at hS0 e0 e1 e2 e3 ⊢
  go_enter Try.func36, Try.ntmps36
  go_wp2_with fail
  generalize hw0 : ((w.alloc (.cells #[.string ⟨n.toArray⟩, .int .i64 k, .int .i64 p] 32)).alloc (.cells #[.string ⟨n'.toArray⟩, .int .i64 k', .int .i64 p'] 32)) = w0 at e0 e1 e2 e3 ⊢
  have hS := Lib.hid hS0
  rw [hw0] at hS0
  clear hw0 hS
  go_region_held3 (fun w' => w'.cell? ⟨w.heap.size, 0, none⟩ = some (.string ⟨n.toArray⟩) ∧ w'.cell? ⟨w.heap.size, 1, none⟩ = some (.int .i64 k) ∧ w'.cell? ⟨w.heap.size + 1, 0, none⟩ = some (.string ⟨n'.toArray⟩) ∧ w'.cell? ⟨w.heap.size + 1, 1, none⟩ = some (.int .i64 k'))
    (first | (exact (T2.cells (by assumption))) | (exact T2.cells (T2.below (by assumption) (bdr _))) | (exact T2.cells (T2.below (by assumption) (ba _ _))) | go_keep)
    (first
      | (go_at_call 41; refine (scmp_any _ _ _).mono ?_; rintro e wN ⟨rfl, rfl⟩)
      | (go_at_call 43; refine (place_any _ _).mono ?_; rintro e wN ⟨rfl, rfl⟩)
      | (go_at_call 42; refine (cmp_int _ _ _).mono ?_; rintro e wN ⟨rfl, rfl⟩)
      | (go_at_call 40; refine (or_any _ _ _ _ (by exact kp.alloc_cell _ _ _ _ _ 0 rfl rfl) (by exact kp.alloc_cell _ _ _ _ _ 1 rfl rfl)).mono ?_; rintro e wN ⟨rfl, rfl⟩))
  have HB : Hid (Below w.heap.size w (w0.alloc (.cells #[.int .i64 (cb n n'), .int .i64 (cw (pl k) (pl k'))] 3)).drew) := Lib.hid (hS0.bel.trans (((ba w0 _).drew).mono hS0.bel.size))
  clear hS0 e0 e1 e2 e3
  go_wp2_with fail
  go_ret
  refine ⟨rI ?_, HB.out⟩
  unfold orI cd
  rfl
theorem tl_list (l : List UInt8) : (⟨l.toArray⟩ : ByteArray).toList = l := by rw [ByteArray.toList_eq]
theorem tl_beq (l m : List UInt8) : ((⟨l.toArray⟩ : ByteArray).toList == (⟨m.toArray⟩ : ByteArray).toList) = decide (l = m) := by rw [tl_list, tl_list]; by_cases h : l = m <;> simp [h]
set_option maxRecDepth 100000 in
set_option maxHeartbeats 4000000 in
theorem isOp_any (x : D) (w : World) : Calls Try.prog 27 #[x.v] w fun e w' => e = .returned (.bool (isOp x)) ∧ Below w.heap.size w w' := by
  obtain ⟨n, k, p⟩ := x
  simp only [D.v]
  have HB := Lib.hid (ba w (.cells #[.string ⟨n.toArray⟩, .int .i64 k, .int .i64 p] 32))
  have ex : Hid (isOp ⟨n, k, p⟩ = (!(decide (n = []) || decide (n = [44]) || decide (n = [124]) || decide (n = [91, 93])) && decide (1 ≤ k ∧ k ≤ 5 ∧ 0 ≤ p ∧ p ≤ 1200 ∧ n.length ≤ 200))) := Lib.hid rfl
  by_cases h0 : n = []
  · subst h0
    clear ex
    go_enter Try.func27, Try.ntmps27; go_wp2; go_ret; exact ⟨rb (by simp [isOp]), HB.out⟩
  by_cases h1 : n = [44]
  · subst h1
    clear ex h0
    go_enter Try.func27, Try.ntmps27; go_wp2; go_ret; exact ⟨rb (by simp [isOp]), HB.out⟩
  by_cases h2 : n = [124]
  · subst h2
    clear ex h0 h1
    go_enter Try.func27, Try.ntmps27; go_wp2; go_ret; exact ⟨rb (by simp [isOp]), HB.out⟩
  by_cases h3 : n = [91, 93]
  · subst h3
    clear ex h0 h1 h2
    go_enter Try.func27, Try.ntmps27; go_wp2; go_ret; exact ⟨rb (by simp [isOp]), HB.out⟩
  have he : n.isEmpty = false := by cases n <;> simp_all
  have t1 : (n == [44]) = false := by rw [beq_eq_false_iff_ne]; exact h1
  have t2 : (n == [124]) = false := by rw [beq_eq_false_iff_ne]; exact h2
  have t3 : (n == [91, 93]) = false := by rw [beq_eq_false_iff_ne]; exact h3
  have ev : Hid (isOp ⟨n, k, p⟩ = (decide (1 ≤ k) && (decide (k ≤ 5) && (decide (0 ≤ p) && (decide (p ≤ 1200) && decide (n.length ≤ 200)))))) := Lib.hid (by rw [ex.out]; simp [h0, h1, h2, h3])
  clear ex h0 h1 h2 h3
  by_cases q1 : 1 ≤ k
  · by_cases q2 : k ≤ 5
    · by_cases q3 : 0 ≤ p
      · by_cases q4 : p ≤ 1200
        · have e : Hid (isOp ⟨n, k, p⟩ = decide (n.length ≤ 200)) := Lib.hid (by rw [ev.out]; simp [q1, q2, q3, q4])
          clear ev
          by_cases q5 : n.length ≤ 200
          · have e' : Hid (isOp ⟨n, k, p⟩ = true) := Lib.hid (by rw [e.out]; simp [q5])
            clear e
            go_enter Try.func27, Try.ntmps27; go_wp2; go_ret; exact ⟨rb (by rw [e'.out]; simp; omega), HB.out⟩
          · have e' : Hid (isOp ⟨n, k, p⟩ = false) := Lib.hid (by rw [e.out]; simp [q5])
            clear e
            go_enter Try.func27, Try.ntmps27; go_wp2; go_ret; exact ⟨rb (by rw [e'.out]; simp; omega), HB.out⟩
        · have e : Hid (isOp ⟨n, k, p⟩ = false) := Lib.hid (by rw [ev.out]; simp [q4])
          clear ev
          go_enter Try.func27, Try.ntmps27; go_wp2; go_ret; exact ⟨rb (by rw [e.out]), HB.out⟩
      · have e : Hid (isOp ⟨n, k, p⟩ = false) := Lib.hid (by rw [ev.out]; simp [q3])
        clear ev
        go_enter Try.func27, Try.ntmps27; go_wp2; go_ret; exact ⟨rb (by rw [e.out]), HB.out⟩
    · have e : Hid (isOp ⟨n, k, p⟩ = false) := Lib.hid (by rw [ev.out]; simp [q2])
      clear ev
      go_enter Try.func27, Try.ntmps27; go_wp2; go_ret; exact ⟨rb (by rw [e.out]), HB.out⟩
  · have e : Hid (isOp ⟨n, k, p⟩ = false) := Lib.hid (by rw [ev.out]; simp [q1])
    clear ev
    go_enter Try.func27, Try.ntmps27; go_wp2; go_ret; exact ⟨rb (by rw [e.out]), HB.out⟩
end Go.Proofs.Ytnpdipmkikakcaa.opc
