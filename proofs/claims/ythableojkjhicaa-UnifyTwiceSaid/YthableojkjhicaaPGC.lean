/- The getter of the project: a node. The getter of the project: any node; how Get goes on by nodes. -/
import Derived.Test.YthableojkjhicaaPGA
import Derived.RegionTactic
import Derived.BigQuiet
import Derived.Test.YthableojkjhicaaHeap
import Derived.Test.YthableojkjhicaaPutM
namespace Go.Proofs.Ythableojkjhicaa.pgt
set_option linter.unusedVariables false
open Go.ChangeShapes Go.WideShapes Go.ChangeAt Go.RowKit Go.Maps
open Go.Proofs.Ythableojkjhicaa.hp Go.Proofs.Ythableojkjhicaa.cel Go.Proofs.Ythableojkjhicaa.kp Go.Proofs.Ythableojkjhicaa.ob Go.Proofs.Ythableojkjhicaa.pm Go.Proofs.Ythableojkjhicaa.tm Go.Proofs.Ythableojkjhicaa.lie Go.Proofs.Ythableojkjhicaa.cur Go.Proofs.Ythableojkjhicaa.pla Go.Proofs.Ythableojkjhicaa.pln Go.Proofs.Ythableojkjhicaa.wlk
open Go.Proofs.Ythableojkjhicaa.ppt (PO frPO)
open Go.Proofs.Ythableojkjhicaa.rpt (HB frHB CK CK_ne)
open Go.Proofs.Ythableojkjhicaa.rgt (VG frG VI lawI zeroI)
open Go.Proofs.Ythableojkjhicaa.atm (Tab nm nb)
section
variable {A B : Ob} {w0 wr w' : World} {N : Nat → Prop}
theorem Nx.fst_ (h : Nx (Tim A B) w0 N wr) : Nx A w0 N wr := by
  obtain ⟨K, ⟨K1, M1, a, b, d, e⟩, k0, s⟩ := h
  exact ⟨K1, a, k0, fun i hi => s i ((e i).2 (Or.inl hi))⟩
theorem Nx.swp (f : Fr A) (h : Nx (Tim A B) w0 N wr) : Nx (Tim B A) w0 N wr := Nx.imp_ h fun _ => Tim.swap
/-- a block's cell turns -/
theorem Nx.put {r j : Nat} {cs : Array Value} {t : TypeId} {u : Value} (f : Fr A) (h : Nx (Tim A (Blk r (.cells cs t (0, 0)))) w0 N wr) : Nx (Tim A (Blk r (.cells (cs.setIfInBounds j u) t (0, 0)))) w0 N (wr.setCell ⟨r, j, none⟩ u) := by
  obtain ⟨K, ⟨K1, M1, a, b, d, e⟩, k0, s⟩ := h
  have k : kp.Keep (fun q => q = r) wr (wr.setCell ⟨r, j, none⟩ u) := Keep.setCell (F := fun k => k = r) (p := ⟨r, j, none⟩) wr rfl u
  refine ⟨K, ⟨K1, M1, f.keep a k fun i hi e' => d i hi ((b.2 i).2 e'), ⟨heap_setCell_same wr r j cs t u b.1, b.2⟩, d, e⟩, k0.trans k fun i hi => s i ((e i).2 (Or.inr ((b.2 i).2 hi))), s⟩
abbrev SC6 (t : TypeId) (v0 v1 v2 v3 v4 v5 : Value) : Obj := .cells #[v0, v1, v2, v3, v4, v5] t (0, 0)
/-- all six cells turn -/
theorem Nx.six {r : Nat} {t : TypeId} {u0 u1 u2 u3 u4 u5 : Value} (v0 v1 v2 v3 v4 v5 : Value) (f : Fr A) (h : Nx (Tim A (Blk r (SC6 t u0 u1 u2 u3 u4 u5))) w0 N wr) : ∃ W,
    ((((((wr.setCell ⟨r, 0, none⟩ v0).setCell ⟨r, 1, none⟩ v1).setCell ⟨r, 2, none⟩ v2).setCell ⟨r, 3, none⟩ v3).setCell ⟨r, 4, none⟩ v4).setCell ⟨r, 5, none⟩ v5) = W ∧ Nx (Tim A (Blk r (SC6 t v0 v1 v2 v3 v4 v5))) w0 N W :=
  ⟨_, rfl, Nx.put (j := 5) f (Nx.put (j := 4) f (Nx.put (j := 3) f (Nx.put (j := 2) f (Nx.put (j := 1) f (Nx.put (j := 0) f h)))))⟩
end
section
variable {p q mb gb : Nat} {l : List Int} {m : Int} {a : List ByteArray} {v v' : List (Int × Int)} {C : Ob} {w0 w wr w' : World} {N : Nat → Prop}
/-- a node's six cells -/
abbrev nv6 (k : Int) (n : ByteArray) (i re im : Int) (s : Value) : Value := .agg #[.int .i64 k, .string n, .int .i64 i, .int .u64 re, .int .u64 im, s]
/-- what node answers: a node, the next place, whether there is one -/
def TellsN (v : Value) (f : Int) (b : Bool) (B : Ob) (w0 : World) (N : Nat → Prop) (e : Ending) (w' : World) : Prop := e = .returned (.tuple #[v, .int .i64 f, .bool b]) ∧ Nx B w0 N w'
set_option maxRecDepth 100000 in
set_option maxHeartbeats 4000000 in
theorem gnode_3 (fC : Fr C) (c : Int) (hc : W64 c) (h : Nx (PG p q mb gb l m a v C) w0 N wr) (ht : c % 8 = 3) :
    Calls Try.prog 84 #[.pointer (some ⟨gb, 0, none⟩), .int .u64 c] wr (TellsN (nv6 3 ⟨#[]⟩ (sg c) 0 0 (.slice none 0 0)) 0 true (PG p q mb gb l m a v C) w0 N) := by
  have X1 := Lib.hid (Nx.alloc (frPG fC) h ZT)
  obtain ⟨r0, hr0⟩ : ∃ r0, r0 = wr.heap.size := ⟨_, rfl⟩
  obtain ⟨w1, hw1⟩ : ∃ w1, w1 = wr.alloc ZT := ⟨_, rfl⟩
  have HW := Lib.hid (And.intro hr0 hw1)
  rw [← hr0, ← hw1] at X1
  have f2 := Lib.hid ((frPG (p := p) (q := q) (mb := mb) (gb := gb) (l := l) (m := m) (a := a) (v := v) fC).tim (Fr.blk r0 ZT))
  have X3 := Lib.hid (Nx.alloc f2.out X1.out ZT)
  obtain ⟨r1, hr1⟩ : ∃ r1, r1 = w1.heap.size := ⟨_, rfl⟩
  obtain ⟨w3, hw3⟩ : ∃ w3, w3 = w1.alloc ZT := ⟨_, rfl⟩
  have HW3 := Lib.hid (And.intro hr1 hw3)
  rw [← hr1, ← hw3] at X3
  obtain ⟨⟨z0, z1, z2, z3, z4, z5⟩, y0, y1, y2, y3, y4, y5⟩ := blk_facts (Nx.box X3.out)
  have htag := fun w => tag_any c w hc
  rw [ht] at htag
  have hint := fun w => int_any c w hc
  generalize sg c = x at *
  clear hr0 hw1 hr1 hw3 h hc ht
  go_enter Try.func84, Try.ntmps84
  go_upto_region 1 with fail
  change Code.wp _ _ _ _ (wr.alloc ZT)
  rw [← HW.out.1, ← HW.out.2]
  go_upto_region 2 with fail
  change Code.wp _ _ _ _ (w1.alloc ZT)
  rw [← HW3.out.1, ← HW3.out.2]
  go_wp2_with fail
  refine (htag _).mono ?_; rintro e w' ⟨rfl, rfl⟩
  go_wp2_with fail
  refine (hint _).mono ?_; rintro e w' ⟨rfl, rfl⟩
  go_upto_region 22 with fail
  obtain ⟨w4, hw4, x4⟩ := Nx.six (.int .i64 3) (.string ⟨#[]⟩) (.int .i64 x) (.int .u64 0) (.int .u64 0) (.slice none 0 0) f2.out X3.out
  rw [hw4]
  clear hw4 z0 z1 z2 z3 z4 z5 y0 y1 y2 y3 y4 y5
  have X4 := Lib.hid (Nx.imp_ x4 fun _ => Tim.rot)
  obtain ⟨⟨z0, z1, z2, z3, z4, z5⟩, y0, y1, y2, y3, y4, y5⟩ := blk_facts (Nx.box x4)
  obtain ⟨⟨t0, t1, t2, t3, t4, t5⟩, u0, u1, u2, u3, u4, u5⟩ := blk_facts (Nx.box X4.out)
  obtain ⟨w5, hw5, x5⟩ := Nx.six (.int .i64 3) (.string ⟨#[]⟩) (.int .i64 x) (.int .u64 0) (.int .u64 0) (.slice none 0 0) ((frPG fC).tim (Fr.blk _ _)) X4.out
  have X5 := Lib.hid x5
  obtain ⟨⟨e0, e1, e2, e3, e4, e5⟩, _⟩ := blk_facts (Nx.box x5)
  clear x4 x5
  go_wp2_with fail

  exact bodyPost_ret (v := .tuple #[.agg #[.int .i64 3, .string ⟨#[]⟩, .int .i64 x, .int .u64 0, .int .u64 0, .slice none 0 0], .int .i64 0, .bool true]) (by simp [results, Try.results84, go_sem, e0, e1, e2, e3, e4, e5]) rfl ⟨rfl, Nx.fst_ (Nx.fst_ X5.out)⟩
set_option maxRecDepth 100000 in
set_option maxHeartbeats 4000000 in
theorem gnode_6 (fC : Fr C) (c : Int) (hc : W64 c) (h : Nx (PG p q mb gb l m a v C) w0 N wr) (ht0 : c % 8 ≠ 0) (ht1 : c % 8 ≠ 1) (ht2 : c % 8 ≠ 2) (ht3 : c % 8 ≠ 3) (ht4 : c % 8 ≠ 4) (ht5 : c % 8 ≠ 5) :
    Calls Try.prog 84 #[.pointer (some ⟨gb, 0, none⟩), .int .u64 c] wr (TellsN zv 0 false (PG p q mb gb l m a v C) w0 N) := by
  have X1 := Lib.hid (Nx.alloc (frPG fC) h ZT)
  obtain ⟨r0, hr0⟩ : ∃ r0, r0 = wr.heap.size := ⟨_, rfl⟩
  obtain ⟨w1, hw1⟩ : ∃ w1, w1 = wr.alloc ZT := ⟨_, rfl⟩
  have HW := Lib.hid (And.intro hr0 hw1)
  rw [← hr0, ← hw1] at X1
  have f2 := Lib.hid ((frPG (p := p) (q := q) (mb := mb) (gb := gb) (l := l) (m := m) (a := a) (v := v) fC).tim (Fr.blk r0 ZT))
  have X3 := Lib.hid (Nx.alloc f2.out X1.out ZT)
  obtain ⟨r1, hr1⟩ : ∃ r1, r1 = w1.heap.size := ⟨_, rfl⟩
  obtain ⟨w3, hw3⟩ : ∃ w3, w3 = w1.alloc ZT := ⟨_, rfl⟩
  have HW3 := Lib.hid (And.intro hr1 hw3)
  rw [← hr1, ← hw3] at X3
  obtain ⟨⟨z0, z1, z2, z3, z4, z5⟩, y0, y1, y2, y3, y4, y5⟩ := blk_facts (Nx.box X3.out)
  have htag := fun w => tag_any c w hc
  
  have d0 : (c % 8 == 0) = false := beq_eq_false_iff_ne.2 ht0
  have d1 : (c % 8 == 1) = false := beq_eq_false_iff_ne.2 ht1
  have d2 : (c % 8 == 2) = false := beq_eq_false_iff_ne.2 ht2
  have d3 : (c % 8 == 3) = false := beq_eq_false_iff_ne.2 ht3
  have d4 : (c % 8 == 4) = false := beq_eq_false_iff_ne.2 ht4
  have d5 : (c % 8 == 5) = false := beq_eq_false_iff_ne.2 ht5
  generalize c % 8 = x at *
  clear hr0 hw1 hr1 hw3 h hc ht0 ht1 ht2 ht3 ht4 ht5
  go_enter Try.func84, Try.ntmps84
  go_upto_region 1 with fail
  change Code.wp _ _ _ _ (wr.alloc ZT)
  rw [← HW.out.1, ← HW.out.2]
  go_upto_region 2 with fail
  change Code.wp _ _ _ _ (w1.alloc ZT)
  rw [← HW3.out.1, ← HW3.out.2]
  go_wp2_with fail
  refine (htag _).mono ?_; rintro e w' ⟨rfl, rfl⟩
  go_upto_region 22 with fail
  have x4 := X3.out
  clear z0 z1 z2 z3 z4 z5 y0 y1 y2 y3 y4 y5
  have X4 := Lib.hid (Nx.imp_ x4 fun _ => Tim.rot)
  obtain ⟨⟨z0, z1, z2, z3, z4, z5⟩, y0, y1, y2, y3, y4, y5⟩ := blk_facts (Nx.box x4)
  obtain ⟨⟨t0, t1, t2, t3, t4, t5⟩, u0, u1, u2, u3, u4, u5⟩ := blk_facts (Nx.box X4.out)
  obtain ⟨w5, hw5, x5⟩ := Nx.six (.int .i64 0) (.string ⟨#[]⟩) (.int .i64 0) (.int .u64 0) (.int .u64 0) (.slice none 0 0) ((frPG fC).tim (Fr.blk _ _)) X4.out
  have X5 := Lib.hid x5
  obtain ⟨⟨e0, e1, e2, e3, e4, e5⟩, _⟩ := blk_facts (Nx.box x5)
  clear x4 x5
  go_wp2_with fail

  exact bodyPost_ret (v := .tuple #[.agg #[.int .i64 0, .string ⟨#[]⟩, .int .i64 0, .int .u64 0, .int .u64 0, .slice none 0 0], .int .i64 0, .bool false]) (by simp [results, Try.results84, go_sem, e0, e1, e2, e3, e4, e5]) rfl ⟨rfl, Nx.fst_ (Nx.fst_ X5.out)⟩
set_option maxRecDepth 100000 in
set_option maxHeartbeats 4000000 in
theorem gnode_0b (fC : Fr C) (c : Int) (hc : W64 c) (h : Nx (PG p q mb gb l m a v C) w0 N wr) (ht : c % 8 = 0) (hb : ¬ (hp.gb l (c / 8) = true ∧ gv l (c / 8) = c)) :
    Calls Try.prog 84 #[.pointer (some ⟨gb, 0, none⟩), .int .u64 c] wr (TellsN (.agg #[.int .i64 0, .string ⟨#[]⟩, .int .i64 0, .int .u64 0, .int .u64 0, .slice none 0 0]) 0 false (PG p q mb gb l m a (v) C) w0 N) := by
  have X1 := Lib.hid (Nx.alloc (frPG fC) h ZT)
  obtain ⟨r0, hr0⟩ : ∃ r0, r0 = wr.heap.size := ⟨_, rfl⟩
  obtain ⟨w1, hw1⟩ : ∃ w1, w1 = wr.alloc ZT := ⟨_, rfl⟩
  have HW := Lib.hid (And.intro hr0 hw1)
  rw [← hr0, ← hw1] at X1
  have f2 := Lib.hid ((frPG (p := p) (q := q) (mb := mb) (gb := gb) (l := l) (m := m) (a := a) (v := v) fC).tim (Fr.blk r0 ZT))
  have X3 := Lib.hid (Nx.alloc f2.out X1.out ZT)
  obtain ⟨r1, hr1⟩ : ∃ r1, r1 = w1.heap.size := ⟨_, rfl⟩
  obtain ⟨w3, hw3⟩ : ∃ w3, w3 = w1.alloc ZT := ⟨_, rfl⟩
  have HW3 := Lib.hid (And.intro hr1 hw3)
  rw [← hr1, ← hw3] at X3
  obtain ⟨⟨z0, z1, z2, z3, z4, z5⟩, y0, y1, y2, y3, y4, y5⟩ := blk_facts (Nx.box X3.out)
  have htag := fun w => tag_any c w hc
  rw [ht] at htag
  have X0 : Nx (PG p q mb gb l m a v (Tim C (Tim (Blk r0 ZT) (Blk r1 ZT)))) w0 N w3 := Nx.imp_ X3.out fun _ h => Tim.right_ (Tim.right_ h)
  have hcall := gvar_bad (fC.tim ((Fr.blk _ _).tim (Fr.blk _ _))) c hc X0 hb
  clear X0
  clear hr0 hw1 hr1 hw3 h hc ht hb
  go_enter Try.func84, Try.ntmps84
  go_upto_region 1 with fail
  change Code.wp _ _ _ _ (wr.alloc ZT)
  rw [← HW.out.1, ← HW.out.2]
  go_upto_region 2 with fail
  change Code.wp _ _ _ _ (w1.alloc ZT)
  rw [← HW3.out.1, ← HW3.out.2]
  go_wp2_with fail
  refine (htag _).mono ?_; rintro e w' ⟨rfl, rfl⟩
  go_wp2_with fail
  refine hcall.mono ?_; rintro e w9 ⟨rfl, x9⟩
  have X9 := Lib.hid (Nx.imp_ x9 fun _ h => Tim.lft (Tim.lft h))
  clear x9 hcall z0 z1 z2 z3 z4 z5 y0 y1 y2 y3 y4 y5
  obtain ⟨⟨z0, z1, z2, z3, z4, z5⟩, y0, y1, y2, y3, y4, y5⟩ := blk_facts (Nx.box X9.out)
  go_upto_region 22 with fail
  obtain ⟨w4, hw4, x4⟩ := Nx.six (.int .i64 0) (.string ⟨#[]⟩) (.int .i64 0) (.int .u64 0) (.int .u64 0) (.slice none 0 0) ((frPG fC).tim (Fr.blk _ _)) X9.out
  rw [hw4]
  clear hw4 z0 z1 z2 z3 z4 z5 y0 y1 y2 y3 y4 y5
  have X4 := Lib.hid (Nx.imp_ x4 fun _ => Tim.rot)
  obtain ⟨⟨z0, z1, z2, z3, z4, z5⟩, y0, y1, y2, y3, y4, y5⟩ := blk_facts (Nx.box x4)
  obtain ⟨⟨t0, t1, t2, t3, t4, t5⟩, u0, u1, u2, u3, u4, u5⟩ := blk_facts (Nx.box X4.out)
  obtain ⟨w5, hw5, x5⟩ := Nx.six (.int .i64 0) (.string ⟨#[]⟩) (.int .i64 0) (.int .u64 0) (.int .u64 0) (.slice none 0 0) ((frPG fC).tim (Fr.blk _ _)) X4.out
  have X5 := Lib.hid x5
  obtain ⟨⟨e0, e1, e2, e3, e4, e5⟩, _⟩ := blk_facts (Nx.box x5)
  clear x4 x5
  go_wp2_with fail

  exact bodyPost_ret (v := .tuple #[.agg #[.int .i64 0, .string ⟨#[]⟩, .int .i64 0, .int .u64 0, .int .u64 0, .slice none 0 0], .int .i64 0, .bool false]) (by simp [results, Try.results84, go_sem, e0, e1, e2, e3, e4, e5]) rfl ⟨rfl, Nx.fst_ (Nx.fst_ X5.out)⟩
set_option maxRecDepth 100000 in
set_option maxHeartbeats 4000000 in
theorem gnode_0o (fC : Fr C) (c : Int) (hc : W64 c) (h : Nx (PG p q mb gb l m a v C) w0 N wr) (ht : c % 8 = 0) (hb1 : hp.gb l (c / 8) = true) (hb2 : gv l (c / 8) = c) {k : Int} (hl : pm.look v (c / 8) = some k) :
    Calls Try.prog 84 #[.pointer (some ⟨gb, 0, none⟩), .int .u64 c] wr (TellsN (.agg #[.int .i64 1, .string ⟨#[]⟩, .int .i64 k, .int .u64 0, .int .u64 0, .slice none 0 0]) 0 true (PG p q mb gb l m a (v) C) w0 N) := by
  have X1 := Lib.hid (Nx.alloc (frPG fC) h ZT)
  obtain ⟨r0, hr0⟩ : ∃ r0, r0 = wr.heap.size := ⟨_, rfl⟩
  obtain ⟨w1, hw1⟩ : ∃ w1, w1 = wr.alloc ZT := ⟨_, rfl⟩
  have HW := Lib.hid (And.intro hr0 hw1)
  rw [← hr0, ← hw1] at X1
  have f2 := Lib.hid ((frPG (p := p) (q := q) (mb := mb) (gb := gb) (l := l) (m := m) (a := a) (v := v) fC).tim (Fr.blk r0 ZT))
  have X3 := Lib.hid (Nx.alloc f2.out X1.out ZT)
  obtain ⟨r1, hr1⟩ : ∃ r1, r1 = w1.heap.size := ⟨_, rfl⟩
  obtain ⟨w3, hw3⟩ : ∃ w3, w3 = w1.alloc ZT := ⟨_, rfl⟩
  have HW3 := Lib.hid (And.intro hr1 hw3)
  rw [← hr1, ← hw3] at X3
  obtain ⟨⟨z0, z1, z2, z3, z4, z5⟩, y0, y1, y2, y3, y4, y5⟩ := blk_facts (Nx.box X3.out)
  have htag := fun w => tag_any c w hc
  rw [ht] at htag
  have X0 : Nx (PG p q mb gb l m a v (Tim C (Tim (Blk r0 ZT) (Blk r1 ZT)))) w0 N w3 := Nx.imp_ X3.out fun _ h => Tim.right_ (Tim.right_ h)
  have hcall := gvar_old (fC.tim ((Fr.blk _ _).tim (Fr.blk _ _))) c hc X0 hb1 hb2 hl
  clear X0
  clear hr0 hw1 hr1 hw3 h hc ht hb1 hb2 hl
  go_enter Try.func84, Try.ntmps84
  go_upto_region 1 with fail
  change Code.wp _ _ _ _ (wr.alloc ZT)
  rw [← HW.out.1, ← HW.out.2]
  go_upto_region 2 with fail
  change Code.wp _ _ _ _ (w1.alloc ZT)
  rw [← HW3.out.1, ← HW3.out.2]
  go_wp2_with fail
  refine (htag _).mono ?_; rintro e w' ⟨rfl, rfl⟩
  go_wp2_with fail
  refine hcall.mono ?_; rintro e w9 ⟨rfl, x9⟩
  have X9 := Lib.hid (Nx.imp_ x9 fun _ h => Tim.lft (Tim.lft h))
  clear x9 hcall z0 z1 z2 z3 z4 z5 y0 y1 y2 y3 y4 y5
  obtain ⟨⟨z0, z1, z2, z3, z4, z5⟩, y0, y1, y2, y3, y4, y5⟩ := blk_facts (Nx.box X9.out)
  go_upto_region 22 with fail
  obtain ⟨w4, hw4, x4⟩ := Nx.six (.int .i64 1) (.string ⟨#[]⟩) (.int .i64 k) (.int .u64 0) (.int .u64 0) (.slice none 0 0) ((frPG fC).tim (Fr.blk _ _)) X9.out
  rw [hw4]
  clear hw4 z0 z1 z2 z3 z4 z5 y0 y1 y2 y3 y4 y5
  have X4 := Lib.hid (Nx.imp_ x4 fun _ => Tim.rot)
  obtain ⟨⟨z0, z1, z2, z3, z4, z5⟩, y0, y1, y2, y3, y4, y5⟩ := blk_facts (Nx.box x4)
  obtain ⟨⟨t0, t1, t2, t3, t4, t5⟩, u0, u1, u2, u3, u4, u5⟩ := blk_facts (Nx.box X4.out)
  obtain ⟨w5, hw5, x5⟩ := Nx.six (.int .i64 1) (.string ⟨#[]⟩) (.int .i64 k) (.int .u64 0) (.int .u64 0) (.slice none 0 0) ((frPG fC).tim (Fr.blk _ _)) X4.out
  have X5 := Lib.hid x5
  obtain ⟨⟨e0, e1, e2, e3, e4, e5⟩, _⟩ := blk_facts (Nx.box x5)
  clear x4 x5
  go_wp2_with fail

  exact bodyPost_ret (v := .tuple #[.agg #[.int .i64 1, .string ⟨#[]⟩, .int .i64 k, .int .u64 0, .int .u64 0, .slice none 0 0], .int .i64 0, .bool true]) (by simp [results, Try.results84, go_sem, e0, e1, e2, e3, e4, e5]) rfl ⟨rfl, Nx.fst_ (Nx.fst_ X5.out)⟩
set_option maxRecDepth 100000 in
set_option maxHeartbeats 4000000 in
theorem gnode_0n (fC : Fr C) (c : Int) (hc : W64 c) (h : Nx (PG p q mb gb l m a v C) w0 N wr) (ht : c % 8 = 0) (hb1 : hp.gb l (c / 8) = true) (hb2 : gv l (c / 8) = c) (hl : pm.look v (c / 8) = none) (hv9 : v.length < 1000000) :
    Calls Try.prog 84 #[.pointer (some ⟨gb, 0, none⟩), .int .u64 c] wr (TellsN (.agg #[.int .i64 1, .string ⟨#[]⟩, .int .i64 v.length, .int .u64 0, .int .u64 0, .slice none 0 0]) 0 true (PG p q mb gb l m a (v ++ [(c / 8, (v.length : Int))]) C) w0 N) := by
  have X1 := Lib.hid (Nx.alloc (frPG fC) h ZT)
  obtain ⟨r0, hr0⟩ : ∃ r0, r0 = wr.heap.size := ⟨_, rfl⟩
  obtain ⟨w1, hw1⟩ : ∃ w1, w1 = wr.alloc ZT := ⟨_, rfl⟩
  have HW := Lib.hid (And.intro hr0 hw1)
  rw [← hr0, ← hw1] at X1
  have f2 := Lib.hid ((frPG (p := p) (q := q) (mb := mb) (gb := gb) (l := l) (m := m) (a := a) (v := v) fC).tim (Fr.blk r0 ZT))
  have X3 := Lib.hid (Nx.alloc f2.out X1.out ZT)
  obtain ⟨r1, hr1⟩ : ∃ r1, r1 = w1.heap.size := ⟨_, rfl⟩
  obtain ⟨w3, hw3⟩ : ∃ w3, w3 = w1.alloc ZT := ⟨_, rfl⟩
  have HW3 := Lib.hid (And.intro hr1 hw3)
  rw [← hr1, ← hw3] at X3
  obtain ⟨⟨z0, z1, z2, z3, z4, z5⟩, y0, y1, y2, y3, y4, y5⟩ := blk_facts (Nx.box X3.out)
  have htag := fun w => tag_any c w hc
  rw [ht] at htag
  have X0 : Nx (PG p q mb gb l m a v (Tim C (Tim (Blk r0 ZT) (Blk r1 ZT)))) w0 N w3 := Nx.imp_ X3.out fun _ h => Tim.right_ (Tim.right_ h)
  have hcall := gvar_new (fC.tim ((Fr.blk _ _).tim (Fr.blk _ _))) c hc X0 hb1 hb2 hl hv9
  clear X0
  clear hr0 hw1 hr1 hw3 h hc ht hb1 hb2 hl hv9
  go_enter Try.func84, Try.ntmps84
  go_upto_region 1 with fail
  change Code.wp _ _ _ _ (wr.alloc ZT)
  rw [← HW.out.1, ← HW.out.2]
  go_upto_region 2 with fail
  change Code.wp _ _ _ _ (w1.alloc ZT)
  rw [← HW3.out.1, ← HW3.out.2]
  go_wp2_with fail
  refine (htag _).mono ?_; rintro e w' ⟨rfl, rfl⟩
  go_wp2_with fail
  refine hcall.mono ?_; rintro e w9 ⟨rfl, x9⟩
  have X9 := Lib.hid (Nx.imp_ x9 fun _ h => Tim.lft (Tim.lft h))
  clear x9 hcall z0 z1 z2 z3 z4 z5 y0 y1 y2 y3 y4 y5
  obtain ⟨⟨z0, z1, z2, z3, z4, z5⟩, y0, y1, y2, y3, y4, y5⟩ := blk_facts (Nx.box X9.out)
  go_upto_region 22 with fail
  obtain ⟨w4, hw4, x4⟩ := Nx.six (.int .i64 1) (.string ⟨#[]⟩) (.int .i64 v.length) (.int .u64 0) (.int .u64 0) (.slice none 0 0) ((frPG fC).tim (Fr.blk _ _)) X9.out
  rw [hw4]
  clear hw4 z0 z1 z2 z3 z4 z5 y0 y1 y2 y3 y4 y5
  have X4 := Lib.hid (Nx.imp_ x4 fun _ => Tim.rot)
  obtain ⟨⟨z0, z1, z2, z3, z4, z5⟩, y0, y1, y2, y3, y4, y5⟩ := blk_facts (Nx.box x4)
  obtain ⟨⟨t0, t1, t2, t3, t4, t5⟩, u0, u1, u2, u3, u4, u5⟩ := blk_facts (Nx.box X4.out)
  obtain ⟨w5, hw5, x5⟩ := Nx.six (.int .i64 1) (.string ⟨#[]⟩) (.int .i64 v.length) (.int .u64 0) (.int .u64 0) (.slice none 0 0) ((frPG fC).tim (Fr.blk _ _)) X4.out
  have X5 := Lib.hid x5
  obtain ⟨⟨e0, e1, e2, e3, e4, e5⟩, _⟩ := blk_facts (Nx.box x5)
  clear x4 x5
  go_wp2_with fail

  exact bodyPost_ret (v := .tuple #[.agg #[.int .i64 1, .string ⟨#[]⟩, .int .i64 v.length, .int .u64 0, .int .u64 0, .slice none 0 0], .int .i64 0, .bool true]) (by simp [results, Try.results84, go_sem, e0, e1, e2, e3, e4, e5]) rfl ⟨rfl, Nx.fst_ (Nx.fst_ X5.out)⟩
set_option maxRecDepth 100000 in
set_option maxHeartbeats 4000000 in
theorem gnode_1f (fC : Fr C) (c : Int) (hc : W64 c) (h : Nx (PG p q mb gb l m a v C) w0 N wr) (ht : c % 8 = 1) (hb : fo (pa (gv l (c / 8))) (pk (gv l (c / 8))) = false) :
    Calls Try.prog 84 #[.pointer (some ⟨gb, 0, none⟩), .int .u64 c] wr (TellsN zv (c / 8 + 1) false (PG p q mb gb l m a v C) w0 N) := by
  have X1 := Lib.hid (Nx.alloc (frPG fC) h ZT)
  obtain ⟨r0, hr0⟩ : ∃ r0, r0 = wr.heap.size := ⟨_, rfl⟩
  obtain ⟨w1, hw1⟩ : ∃ w1, w1 = wr.alloc ZT := ⟨_, rfl⟩
  have HW := Lib.hid (And.intro hr0 hw1)
  rw [← hr0, ← hw1] at X1
  have f2 := Lib.hid ((frPG (p := p) (q := q) (mb := mb) (gb := gb) (l := l) (m := m) (a := a) (v := v) fC).tim (Fr.blk r0 ZT))
  have X3 := Lib.hid (Nx.alloc f2.out X1.out ZT)
  obtain ⟨r1, hr1⟩ : ∃ r1, r1 = w1.heap.size := ⟨_, rfl⟩
  obtain ⟨w3, hw3⟩ : ∃ w3, w3 = w1.alloc ZT := ⟨_, rfl⟩
  have HW3 := Lib.hid (And.intro hr1 hw3)
  rw [← hr1, ← hw3] at X3
  obtain ⟨⟨z0, z1, z2, z3, z4, z5⟩, y0, y1, y2, y3, y4, y5⟩ := blk_facts (Nx.box X3.out)
  have htag := fun w => tag_any c w hc
  rw [ht] at htag
  have X0 : Nx (PG p q mb gb l m a v (Tim C (Tim (Blk r0 ZT) (Blk r1 ZT)))) w0 N w3 := Nx.imp_ X3.out fun _ h => Tim.right_ (Tim.right_ h)
  have hpl := fun w => ppt.place_any c w hc
  have hr : 0 ≤ c / 8 ∧ c / 8 < 2305843009213693952 := by obtain ⟨h0, h1⟩ := hc; omega
  have hcall := gcomp_1 (fC.tim ((Fr.blk _ _).tim (Fr.blk _ _))) (c / 8) hr X0 hb
  clear X0
  generalize c / 8 = qc at *
  clear hr0 hw1 hr1 hw3 h hc ht hb
  go_enter Try.func84, Try.ntmps84
  go_upto_region 1 with fail
  change Code.wp _ _ _ _ (wr.alloc ZT)
  rw [← HW.out.1, ← HW.out.2]
  go_upto_region 2 with fail
  change Code.wp _ _ _ _ (w1.alloc ZT)
  rw [← HW3.out.1, ← HW3.out.2]
  go_wp2_with fail
  refine (htag _).mono ?_; rintro e w' ⟨rfl, rfl⟩
  go_wp2_with fail
  refine (hpl _).mono ?_; rintro e w' ⟨rfl, rfl⟩
  go_wp2_with fail
  refine hcall.mono ?_; rintro e w9 ⟨rfl, x9⟩
  have X9 := Lib.hid (Nx.imp_ x9 fun _ h => Tim.lft (Tim.lft h))
  clear x9 hcall z0 z1 z2 z3 z4 z5 y0 y1 y2 y3 y4 y5
  obtain ⟨⟨z0, z1, z2, z3, z4, z5⟩, y0, y1, y2, y3, y4, y5⟩ := blk_facts (Nx.box X9.out)
  go_wp2_with fail
  refine (hpl _).mono ?_; rintro e w' ⟨rfl, rfl⟩
  clear hpl
  go_upto_region 22 with fail
  obtain ⟨w4, hw4, x4⟩ := Nx.six (.int .i64 0) (.string ⟨#[]⟩) (.int .i64 0) (.int .u64 0) (.int .u64 0) (.slice none 0 0) ((frPG fC).tim (Fr.blk _ _)) X9.out
  rw [hw4]
  clear hw4 z0 z1 z2 z3 z4 z5 y0 y1 y2 y3 y4 y5
  have X4 := Lib.hid (Nx.imp_ x4 fun _ => Tim.rot)
  obtain ⟨⟨z0, z1, z2, z3, z4, z5⟩, y0, y1, y2, y3, y4, y5⟩ := blk_facts (Nx.box x4)
  obtain ⟨⟨t0, t1, t2, t3, t4, t5⟩, u0, u1, u2, u3, u4, u5⟩ := blk_facts (Nx.box X4.out)
  obtain ⟨w5, hw5, x5⟩ := Nx.six (.int .i64 0) (.string ⟨#[]⟩) (.int .i64 0) (.int .u64 0) (.int .u64 0) (.slice none 0 0) ((frPG fC).tim (Fr.blk _ _)) X4.out
  have X5 := Lib.hid x5
  obtain ⟨⟨e0, e1, e2, e3, e4, e5⟩, _⟩ := blk_facts (Nx.box x5)
  clear x4 x5
  go_wp2_with fail

  exact bodyPost_ret (v := .tuple #[.agg #[.int .i64 0, .string ⟨#[]⟩, .int .i64 0, .int .u64 0, .int .u64 0, .slice none 0 0], .int .i64 (qc + 1), .bool false]) (by simp [results, Try.results84, go_sem, e0, e1, e2, e3, e4, e5]) rfl ⟨rfl, Nx.fst_ (Nx.fst_ X5.out)⟩
set_option maxRecDepth 100000 in
set_option maxHeartbeats 4000000 in
theorem gnode_1n (fC : Fr C) (c : Int) (hc : W64 c) (h : Nx (PG p q mb gb l m a v C) w0 N wr) (ht : c % 8 = 1) (hb : fo (pa (gv l (c / 8))) (pk (gv l (c / 8))) = true) (hn : nb a (pa (gv l (c / 8))) = false ∨ (nb a (pa (gv l (c / 8))) = true ∧ hp.gb l (c / 8 + pk (gv l (c / 8))) = false)) :
    Calls Try.prog 84 #[.pointer (some ⟨gb, 0, none⟩), .int .u64 c] wr (TellsN zv (c / 8 + 1) false (PG p q mb gb l m a v C) w0 N) := by
  have X1 := Lib.hid (Nx.alloc (frPG fC) h ZT)
  obtain ⟨r0, hr0⟩ : ∃ r0, r0 = wr.heap.size := ⟨_, rfl⟩
  obtain ⟨w1, hw1⟩ : ∃ w1, w1 = wr.alloc ZT := ⟨_, rfl⟩
  have HW := Lib.hid (And.intro hr0 hw1)
  rw [← hr0, ← hw1] at X1
  have f2 := Lib.hid ((frPG (p := p) (q := q) (mb := mb) (gb := gb) (l := l) (m := m) (a := a) (v := v) fC).tim (Fr.blk r0 ZT))
  have X3 := Lib.hid (Nx.alloc f2.out X1.out ZT)
  obtain ⟨r1, hr1⟩ : ∃ r1, r1 = w1.heap.size := ⟨_, rfl⟩
  obtain ⟨w3, hw3⟩ : ∃ w3, w3 = w1.alloc ZT := ⟨_, rfl⟩
  have HW3 := Lib.hid (And.intro hr1 hw3)
  rw [← hr1, ← hw3] at X3
  obtain ⟨⟨z0, z1, z2, z3, z4, z5⟩, y0, y1, y2, y3, y4, y5⟩ := blk_facts (Nx.box X3.out)
  have htag := fun w => tag_any c w hc
  rw [ht] at htag
  have X0 : Nx (PG p q mb gb l m a v (Tim C (Tim (Blk r0 ZT) (Blk r1 ZT)))) w0 N w3 := Nx.imp_ X3.out fun _ h => Tim.right_ (Tim.right_ h)
  have hpl := fun w => ppt.place_any c w hc
  have hr : 0 ≤ c / 8 ∧ c / 8 < 2305843009213693952 := by obtain ⟨h0, h1⟩ := hc; omega
  have hcall := gcomp_2 (fC.tim ((Fr.blk _ _).tim (Fr.blk _ _))) (c / 8) hr X0 hb hn
  clear X0
  generalize c / 8 = qc at *
  clear hr0 hw1 hr1 hw3 h hc ht hb hn
  go_enter Try.func84, Try.ntmps84
  go_upto_region 1 with fail
  change Code.wp _ _ _ _ (wr.alloc ZT)
  rw [← HW.out.1, ← HW.out.2]
  go_upto_region 2 with fail
  change Code.wp _ _ _ _ (w1.alloc ZT)
  rw [← HW3.out.1, ← HW3.out.2]
  go_wp2_with fail
  refine (htag _).mono ?_; rintro e w' ⟨rfl, rfl⟩
  go_wp2_with fail
  refine (hpl _).mono ?_; rintro e w' ⟨rfl, rfl⟩
  go_wp2_with fail
  refine hcall.mono ?_; rintro e w9 ⟨rfl, x9⟩
  have X9 := Lib.hid (Nx.imp_ x9 fun _ h => Tim.lft (Tim.lft h))
  clear x9 hcall z0 z1 z2 z3 z4 z5 y0 y1 y2 y3 y4 y5
  obtain ⟨⟨z0, z1, z2, z3, z4, z5⟩, y0, y1, y2, y3, y4, y5⟩ := blk_facts (Nx.box X9.out)
  go_wp2_with fail
  refine (hpl _).mono ?_; rintro e w' ⟨rfl, rfl⟩
  clear hpl
  go_upto_region 22 with fail
  obtain ⟨w4, hw4, x4⟩ := Nx.six (.int .i64 0) (.string ⟨#[]⟩) (.int .i64 0) (.int .u64 0) (.int .u64 0) (.slice none 0 0) ((frPG fC).tim (Fr.blk _ _)) X9.out
  rw [hw4]
  clear hw4 z0 z1 z2 z3 z4 z5 y0 y1 y2 y3 y4 y5
  have X4 := Lib.hid (Nx.imp_ x4 fun _ => Tim.rot)
  obtain ⟨⟨z0, z1, z2, z3, z4, z5⟩, y0, y1, y2, y3, y4, y5⟩ := blk_facts (Nx.box x4)
  obtain ⟨⟨t0, t1, t2, t3, t4, t5⟩, u0, u1, u2, u3, u4, u5⟩ := blk_facts (Nx.box X4.out)
  obtain ⟨w5, hw5, x5⟩ := Nx.six (.int .i64 0) (.string ⟨#[]⟩) (.int .i64 0) (.int .u64 0) (.int .u64 0) (.slice none 0 0) ((frPG fC).tim (Fr.blk _ _)) X4.out
  have X5 := Lib.hid x5
  obtain ⟨⟨e0, e1, e2, e3, e4, e5⟩, _⟩ := blk_facts (Nx.box x5)
  clear x4 x5
  go_wp2_with fail

  exact bodyPost_ret (v := .tuple #[.agg #[.int .i64 0, .string ⟨#[]⟩, .int .i64 0, .int .u64 0, .int .u64 0, .slice none 0 0], .int .i64 (qc + 1), .bool false]) (by simp [results, Try.results84, go_sem, e0, e1, e2, e3, e4, e5]) rfl ⟨rfl, Nx.fst_ (Nx.fst_ X5.out)⟩
set_option maxRecDepth 100000 in
set_option maxHeartbeats 4000000 in
theorem gnode_1o (fC : Fr C) (c : Int) (hc : W64 c) (h : Nx (PG p q mb gb l m a v C) w0 N wr) (ht : c % 8 = 1) (hb : fo (pa (gv l (c / 8))) (pk (gv l (c / 8))) = true) (hn1 : nb a (pa (gv l (c / 8))) = true) (hn2 : hp.gb l (c / 8 + pk (gv l (c / 8))) = true) {k : Nat} (hkk : pk (gv l (c / 8)) = k) :
    Calls Try.prog 84 #[.pointer (some ⟨gb, 0, none⟩), .int .u64 c] wr (fun e w' => ∃ b, e = .returned (.tuple #[cv (nm a (pa (gv l (c / 8)))) b k, .int .i64 (c / 8 + 1), .bool true]) ∧ Nx (Tim (PG p q mb gb l m a v C) (Blk b (.cells (MC k) 36))) w0 N w') := by
  have X1 := Lib.hid (Nx.alloc (frPG fC) h ZT)
  obtain ⟨r0, hr0⟩ : ∃ r0, r0 = wr.heap.size := ⟨_, rfl⟩
  obtain ⟨w1, hw1⟩ : ∃ w1, w1 = wr.alloc ZT := ⟨_, rfl⟩
  have HW := Lib.hid (And.intro hr0 hw1)
  rw [← hr0, ← hw1] at X1
  have f2 := Lib.hid ((frPG (p := p) (q := q) (mb := mb) (gb := gb) (l := l) (m := m) (a := a) (v := v) fC).tim (Fr.blk r0 ZT))
  have X3 := Lib.hid (Nx.alloc f2.out X1.out ZT)
  obtain ⟨r1, hr1⟩ : ∃ r1, r1 = w1.heap.size := ⟨_, rfl⟩
  obtain ⟨w3, hw3⟩ : ∃ w3, w3 = w1.alloc ZT := ⟨_, rfl⟩
  have HW3 := Lib.hid (And.intro hr1 hw3)
  rw [← hr1, ← hw3] at X3
  obtain ⟨⟨z0, z1, z2, z3, z4, z5⟩, y0, y1, y2, y3, y4, y5⟩ := blk_facts (Nx.box X3.out)
  have htag := fun w => tag_any c w hc
  rw [ht] at htag
  have X0 : Nx (PG p q mb gb l m a v (Tim C (Tim (Blk r0 ZT) (Blk r1 ZT)))) w0 N w3 := Nx.imp_ X3.out fun _ h => Tim.right_ (Tim.right_ h)
  have hpl := fun w => ppt.place_any c w hc
  have hr : 0 ≤ c / 8 ∧ c / 8 < 2305843009213693952 := by obtain ⟨h0, h1⟩ := hc; omega
  have hcall := gcomp_3 (fC.tim ((Fr.blk _ _).tim (Fr.blk _ _))) (c / 8) hr X0 hb hn1 hn2 hkk
  clear X0
  have HN : ∃ x, x = nm a (pa (gv l (c / 8))) := ⟨_, rfl⟩
  obtain ⟨x, hx⟩ := HN
  rw [← hx] at hcall ⊢
  clear hx
  generalize c / 8 = qc at *
  clear hr0 hw1 hr1 hw3 h hc ht hb hn1 hn2 hkk
  go_enter Try.func84, Try.ntmps84
  go_upto_region 1 with fail
  change Code.wp _ _ _ _ (wr.alloc ZT)
  rw [← HW.out.1, ← HW.out.2]
  go_upto_region 2 with fail
  change Code.wp _ _ _ _ (w1.alloc ZT)
  rw [← HW3.out.1, ← HW3.out.2]
  go_wp2_with fail
  refine (htag _).mono ?_; rintro e w' ⟨rfl, rfl⟩
  go_wp2_with fail
  refine (hpl _).mono ?_; rintro e w' ⟨rfl, rfl⟩
  go_wp2_with fail
  refine hcall.mono ?_; rintro e w9 ⟨bk, rfl, x9⟩
  have X9 := Lib.hid (Nx.imp_ (Nx.imp_ x9 fun _ h => Tim.map1 (fun _ h => Tim.lft (Tim.lft h)) h) fun _ h => Tim.map1 (fun _ h => Tim.rot h) (Tim.rot h))
  clear x9 hcall z0 z1 z2 z3 z4 z5 y0 y1 y2 y3 y4 y5
  obtain ⟨⟨z0, z1, z2, z3, z4, z5⟩, y0, y1, y2, y3, y4, y5⟩ := blk_facts (Nx.box X9.out)
  go_wp2_with fail
  refine (hpl _).mono ?_; rintro e w' ⟨rfl, rfl⟩
  clear hpl
  go_upto_region 22 with fail
  obtain ⟨w4, hw4, x4⟩ := Nx.six (.int .i64 5) (.string x) (.int .i64 0) (.int .u64 0) (.int .u64 0) (.slice (some ⟨bk, 0, none⟩) k k) (((frPG fC).tim (Fr.blk _ _)).tim (Fr.blk _ _)) X9.out
  rw [hw4]
  clear hw4 z0 z1 z2 z3 z4 z5 y0 y1 y2 y3 y4 y5
  have X4 := Lib.hid (Nx.imp_ x4 fun _ => Tim.rot)
  obtain ⟨⟨z0, z1, z2, z3, z4, z5⟩, y0, y1, y2, y3, y4, y5⟩ := blk_facts (Nx.box x4)
  obtain ⟨⟨t0, t1, t2, t3, t4, t5⟩, u0, u1, u2, u3, u4, u5⟩ := blk_facts (Nx.box X4.out)
  obtain ⟨w5, hw5, x5⟩ := Nx.six (.int .i64 5) (.string x) (.int .i64 0) (.int .u64 0) (.int .u64 0) (.slice (some ⟨bk, 0, none⟩) k k) (((frPG fC).tim (Fr.blk _ _)).tim (Fr.blk _ _)) X4.out
  have X5 := Lib.hid x5
  obtain ⟨⟨e0, e1, e2, e3, e4, e5⟩, _⟩ := blk_facts (Nx.box x5)
  clear x4 x5
  go_wp2_with fail

  exact bodyPost_ret (v := .tuple #[.agg #[.int .i64 5, .string x, .int .i64 0, .int .u64 0, .int .u64 0, .slice (some ⟨bk, 0, none⟩) k k], .int .i64 (qc + 1), .bool true]) (by simp [results, Try.results84, go_sem, e0, e1, e2, e3, e4, e5]) rfl ⟨bk, rfl, Nx.fst_ (Nx.fst_ X5.out)⟩
set_option maxRecDepth 100000 in
set_option maxHeartbeats 4000000 in
theorem gnode_4 (fC : Fr C) (c : Int) (hc : W64 c) (h : Nx (PG p q mb gb l m a v C) w0 N wr) (ht : c % 8 = 4) :
    Calls Try.prog 84 #[.pointer (some ⟨gb, 0, none⟩), .int .u64 c] wr (TellsN (nv6 3 ⟨#[]⟩ (wrap64 (gv l (c / 8))) 0 0 (.slice none 0 0)) 0 (hp.gb l (c / 8)) (PG p q mb gb l m a v C) w0 N) := by
  have X1 := Lib.hid (Nx.alloc (frPG fC) h ZT)
  obtain ⟨r0, hr0⟩ : ∃ r0, r0 = wr.heap.size := ⟨_, rfl⟩
  obtain ⟨w1, hw1⟩ : ∃ w1, w1 = wr.alloc ZT := ⟨_, rfl⟩
  have HW := Lib.hid (And.intro hr0 hw1)
  rw [← hr0, ← hw1] at X1
  have f2 := Lib.hid ((frPG (p := p) (q := q) (mb := mb) (gb := gb) (l := l) (m := m) (a := a) (v := v) fC).tim (Fr.blk r0 ZT))
  have X3 := Lib.hid (Nx.alloc f2.out X1.out ZT)
  obtain ⟨r1, hr1⟩ : ∃ r1, r1 = w1.heap.size := ⟨_, rfl⟩
  obtain ⟨w3, hw3⟩ : ∃ w3, w3 = w1.alloc ZT := ⟨_, rfl⟩
  have HW3 := Lib.hid (And.intro hr1 hw3)
  rw [← hr1, ← hw3] at X3
  obtain ⟨⟨z0, z1, z2, z3, z4, z5⟩, y0, y1, y2, y3, y4, y5⟩ := blk_facts (Nx.box X3.out)
  have htag := fun w => tag_any c w hc
  rw [ht] at htag
  have hpl := fun w => ppt.place_any c w hc
  generalize c / 8 = qc at *
  have x4 : Nx (Tim (Tim (PG p q mb gb l m a v C) (Blk r0 ZT)) (Blk r1 (SC6 36 (.int .i64 3) (.string ⟨#[]⟩) (.int .i64 0) (.int .u64 0) (.int .u64 0) (.slice none 0 0)))) w0 N (w3.setCell ⟨r1, 0, none⟩ (.int .i64 3)) := Nx.put (j := 0) f2.out X3.out
  obtain ⟨w4, hw4⟩ : ∃ w4, w4 = w3.setCell ⟨r1, 0, none⟩ (.int .i64 3) := ⟨_, rfl⟩
  rw [← hw4] at x4
  have HW4 := Lib.hid hw4
  obtain ⟨F, hH⟩ := PG.heap (Nx.fst_ (Nx.fst_ x4))
  have hg := fun n => Lib.hid (get_any (hH.drewN n) qc)
  have hp2 := fun n => Lib.hid (hpl (w4.drewN n))
  have X4 := Lib.hid x4
  clear hH x4 hpl
  generalize gv l qc = x at *
  generalize hp.gb l qc = ok at *
  clear hr0 hw1 hr1 hw3 h hc ht hw4
  go_enter Try.func84, Try.ntmps84
  go_upto_region 1 with fail
  change Code.wp _ _ _ _ (wr.alloc ZT)
  rw [← HW.out.1, ← HW.out.2]
  go_upto_region 2 with fail
  change Code.wp _ _ _ _ (w1.alloc ZT)
  rw [← HW3.out.1, ← HW3.out.2]
  go_wp2_with fail
  refine (htag _).mono ?_; rintro e w' ⟨rfl, rfl⟩
  go_upto_region 15 with fail
  rw [← HW4.out]
  clear z0 z1 z2 z3 z4 z5 y0 y1 y2 y3 y4 y5
  obtain ⟨⟨z0, z1, z2, z3, z4, z5⟩, y0, y1, y2, y3, y4, y5⟩ := blk_facts (Nx.box X4.out)
  obtain ⟨b0, b1, b2⟩ := PG.cells (Nx.fst_ (Nx.fst_ X4.out))
  go_quiet ((first | (go_at_call 83; exact hp.quiet_left (hp2 _).out) | (go_at_call 85; exact hp.quiet_left (hg _).out)))
  obtain ⟨w5, hw5⟩ : ∃ w5, w5 = w4.drewN nq := ⟨_, rfl⟩
  have X5 := Lib.hid (Nx.step (f2.out.tim (Fr.blk _ _)) X4.out (drewN_below w4 nq))
  rw [← hw5] at X5 ⊢
  clear hw5 hp2 hg z0 z1 z2 z3 z4 z5 y0 y1 y2 y3 y4 y5 b0 b1 b2
  obtain ⟨⟨z0, z1, z2, z3, z4, z5⟩, y0, y1, y2, y3, y4, y5⟩ := blk_facts (Nx.box X5.out)
  go_upto_region 22 with fail
  have x6 : Nx (Tim (Tim (PG p q mb gb l m a v C) (Blk r0 ZT)) (Blk r1 (SC6 36 (.int .i64 3) (.string ⟨#[]⟩) (.int .i64 (wrap64 x)) (.int .u64 0) (.int .u64 0) (.slice none 0 0)))) w0 N (w5.setCell ⟨r1, 2, none⟩ (.int .i64 (wrap64 x))) := Nx.put (j := 2) f2.out X5.out
  clear z0 z1 z2 z3 z4 z5 y0 y1 y2 y3 y4 y5
  obtain ⟨w6, hw6⟩ : ∃ w6, w6 = w5.setCell ⟨r1, 2, none⟩ (.int .i64 (wrap64 x)) := ⟨_, rfl⟩
  rw [← hw6] at x6 ⊢
  clear hw6
  have X4 := Lib.hid (Nx.imp_ x6 fun _ => Tim.rot)
  obtain ⟨⟨z0, z1, z2, z3, z4, z5⟩, y0, y1, y2, y3, y4, y5⟩ := blk_facts (Nx.box x6)
  obtain ⟨⟨t0, t1, t2, t3, t4, t5⟩, u0, u1, u2, u3, u4, u5⟩ := blk_facts (Nx.box X4.out)
  obtain ⟨w5, hw5, x5⟩ := Nx.six (.int .i64 3) (.string ⟨#[]⟩) (.int .i64 (wrap64 x)) (.int .u64 0) (.int .u64 0) (.slice none 0 0) ((frPG fC).tim (Fr.blk _ _)) X4.out
  have X5 := Lib.hid x5
  obtain ⟨⟨e0, e1, e2, e3, e4, e5⟩, _⟩ := blk_facts (Nx.box x5)
  clear x6 x5
  go_wp2_with fail

  exact bodyPost_ret (v := .tuple #[.agg #[.int .i64 3, .string ⟨#[]⟩, .int .i64 (wrap64 x), .int .u64 0, .int .u64 0, .slice none 0 0], .int .i64 0, .bool ok]) (by simp [results, Try.results84, go_sem, e0, e1, e2, e3, e4, e5]) rfl ⟨rfl, Nx.fst_ (Nx.fst_ X5.out)⟩
set_option maxRecDepth 100000 in
set_option maxHeartbeats 4000000 in
theorem gnode_5 (fC : Fr C) (c : Int) (hc : W64 c) (h : Nx (PG p q mb gb l m a v C) w0 N wr) (ht : c % 8 = 5) :
    Calls Try.prog 84 #[.pointer (some ⟨gb, 0, none⟩), .int .u64 c] wr (TellsN (nv6 4 ⟨#[]⟩ 0 (gv l (c / 8)) (gv l (c / 8 + 1)) (.slice none 0 0)) 0 (hp.gb l (c / 8 + 1)) (PG p q mb gb l m a v C) w0 N) := by
  have X1 := Lib.hid (Nx.alloc (frPG fC) h ZT)
  obtain ⟨r0, hr0⟩ : ∃ r0, r0 = wr.heap.size := ⟨_, rfl⟩
  obtain ⟨w1, hw1⟩ : ∃ w1, w1 = wr.alloc ZT := ⟨_, rfl⟩
  have HW := Lib.hid (And.intro hr0 hw1)
  rw [← hr0, ← hw1] at X1
  have f2 := Lib.hid ((frPG (p := p) (q := q) (mb := mb) (gb := gb) (l := l) (m := m) (a := a) (v := v) fC).tim (Fr.blk r0 ZT))
  have X3 := Lib.hid (Nx.alloc f2.out X1.out ZT)
  obtain ⟨r1, hr1⟩ : ∃ r1, r1 = w1.heap.size := ⟨_, rfl⟩
  obtain ⟨w3, hw3⟩ : ∃ w3, w3 = w1.alloc ZT := ⟨_, rfl⟩
  have HW3 := Lib.hid (And.intro hr1 hw3)
  rw [← hr1, ← hw3] at X3
  obtain ⟨⟨z0, z1, z2, z3, z4, z5⟩, y0, y1, y2, y3, y4, y5⟩ := blk_facts (Nx.box X3.out)
  have htag := fun w => tag_any c w hc
  rw [ht] at htag
  have hpl := fun w => ppt.place_any c w hc
  have hr : 0 ≤ c / 8 ∧ c / 8 < 2305843009213693952 := by obtain ⟨h0, h1⟩ := hc; omega
  generalize c / 8 = qc at *
  have x4 : Nx (Tim (Tim (PG p q mb gb l m a v C) (Blk r0 ZT)) (Blk r1 (SC6 36 (.int .i64 4) (.string ⟨#[]⟩) (.int .i64 0) (.int .u64 0) (.int .u64 0) (.slice none 0 0)))) w0 N (w3.setCell ⟨r1, 0, none⟩ (.int .i64 4)) := Nx.put (j := 0) f2.out X3.out
  obtain ⟨w4, hw4⟩ : ∃ w4, w4 = w3.setCell ⟨r1, 0, none⟩ (.int .i64 4) := ⟨_, rfl⟩
  rw [← hw4] at x4
  have HW4 := Lib.hid hw4
  obtain ⟨F, hH⟩ := PG.heap (Nx.fst_ (Nx.fst_ x4))
  have hg := fun n => Lib.hid (get_any (hH.drewN n) qc)
  have hg2 := fun w (x : Nx (Tim (Tim (PG p q mb gb l m a v C) (Blk r0 ZT)) (Blk r1 (SC6 36 (.int .i64 4) (.string ⟨#[]⟩) (.int .i64 0) (.int .u64 0) (.int .u64 0) (.slice none 0 0)))) w0 N w) n => Lib.hid (get_any ((PG.heap (Nx.fst_ (Nx.fst_ x))).choose_spec.drewN n) (qc + 1))
  have hp2 := fun w n => Lib.hid (hpl (World.drewN w n))
  have X4 := Lib.hid x4
  clear hH x4 hpl
  generalize gv l qc = x at *
  generalize hp.gb l qc = ok1 at *
  generalize gv l (qc + 1) = x2 at *
  generalize hp.gb l (qc + 1) = ok at *
  clear hr0 hw1 hr1 hw3 h hc ht hw4
  go_enter Try.func84, Try.ntmps84
  go_upto_region 1 with fail
  change Code.wp _ _ _ _ (wr.alloc ZT)
  rw [← HW.out.1, ← HW.out.2]
  go_upto_region 2 with fail
  change Code.wp _ _ _ _ (w1.alloc ZT)
  rw [← HW3.out.1, ← HW3.out.2]
  go_wp2_with fail
  refine (htag _).mono ?_; rintro e w' ⟨rfl, rfl⟩
  go_upto_region 19 with fail
  rw [← HW4.out]
  clear z0 z1 z2 z3 z4 z5 y0 y1 y2 y3 y4 y5
  obtain ⟨⟨z0, z1, z2, z3, z4, z5⟩, y0, y1, y2, y3, y4, y5⟩ := blk_facts (Nx.box X4.out)
  obtain ⟨b0, b1, b2⟩ := PG.cells (Nx.fst_ (Nx.fst_ X4.out))
  go_quiet ((first | (go_at_call 83; exact hp.quiet_left (hp2 _ _).out) | (go_at_call 85; exact hp.quiet_left (hg _).out)))
  obtain ⟨w5, hw5⟩ : ∃ w5, w5 = w4.drewN nq := ⟨_, rfl⟩
  have X5 := Lib.hid (Nx.step (f2.out.tim (Fr.blk _ _)) X4.out (drewN_below w4 nq))
  rw [← hw5] at X5 ⊢
  have hg3 := hg2 _ X5.out
  clear hw5 hg hg2 z0 z1 z2 z3 z4 z5 y0 y1 y2 y3 y4 y5 b0 b1 b2
  obtain ⟨⟨z0, z1, z2, z3, z4, z5⟩, y0, y1, y2, y3, y4, y5⟩ := blk_facts (Nx.box X5.out)
  obtain ⟨b0, b1, b2⟩ := PG.cells (Nx.fst_ (Nx.fst_ X5.out))
  go_upto_region 20 with fail
  go_quiet ((first | (go_at_call 83; exact hp.quiet_left (hp2 _ _).out) | (go_at_call 85; exact hp.quiet_left (hg3 _).out)))
  obtain ⟨w6, hw6⟩ : ∃ w6, w6 = w5.drewN nq := ⟨_, rfl⟩
  have X6 := Lib.hid (Nx.step (f2.out.tim (Fr.blk _ _)) X5.out (drewN_below w5 nq))
  rw [← hw6] at X6 ⊢
  clear hw6 hg3 hp2 z0 z1 z2 z3 z4 z5 y0 y1 y2 y3 y4 y5 b0 b1 b2
  obtain ⟨⟨z0, z1, z2, z3, z4, z5⟩, y0, y1, y2, y3, y4, y5⟩ := blk_facts (Nx.box X6.out)
  go_upto_region 22 with fail
  have x7 : Nx (Tim (Tim (PG p q mb gb l m a v C) (Blk r0 ZT)) (Blk r1 (SC6 36 (.int .i64 4) (.string ⟨#[]⟩) (.int .i64 0) (.int .u64 x) (.int .u64 x2) (.slice none 0 0)))) w0 N ((w6.setCell ⟨r1, 3, none⟩ (.int .u64 x)).setCell ⟨r1, 4, none⟩ (.int .u64 x2)) := Nx.put (j := 4) f2.out (Nx.put (j := 3) f2.out X6.out)
  obtain ⟨w7, hw7⟩ : ∃ w7, w7 = (w6.setCell ⟨r1, 3, none⟩ (.int .u64 x)).setCell ⟨r1, 4, none⟩ (.int .u64 x2) := ⟨_, rfl⟩
  rw [← hw7] at x7 ⊢
  clear hw7 z0 z1 z2 z3 z4 z5 y0 y1 y2 y3 y4 y5
  have X4 := Lib.hid (Nx.imp_ x7 fun _ => Tim.rot)
  obtain ⟨⟨z0, z1, z2, z3, z4, z5⟩, y0, y1, y2, y3, y4, y5⟩ := blk_facts (Nx.box x7)
  obtain ⟨⟨t0, t1, t2, t3, t4, t5⟩, u0, u1, u2, u3, u4, u5⟩ := blk_facts (Nx.box X4.out)
  obtain ⟨w5, hw5, x5⟩ := Nx.six (.int .i64 4) (.string ⟨#[]⟩) (.int .i64 0) (.int .u64 x) (.int .u64 x2) (.slice none 0 0) ((frPG fC).tim (Fr.blk _ _)) X4.out
  have X5 := Lib.hid x5
  obtain ⟨⟨e0, e1, e2, e3, e4, e5⟩, _⟩ := blk_facts (Nx.box x5)
  clear x7 x5
  go_wp2_with fail

  exact bodyPost_ret (v := .tuple #[.agg #[.int .i64 4, .string ⟨#[]⟩, .int .i64 0, .int .u64 x, .int .u64 x2, .slice none 0 0], .int .i64 0, .bool ok]) (by simp [results, Try.results84, go_sem, e0, e1, e2, e3, e4, e5]) rfl ⟨rfl, Nx.fst_ (Nx.fst_ X5.out)⟩
set_option maxRecDepth 100000 in
set_option maxHeartbeats 4000000 in
theorem gnode_2 (fC : Fr C) (c : Int) (hc : W64 c) (h : Nx (PG p q mb gb l m a v C) w0 N wr) (ht : c % 8 = 2) :
    Calls Try.prog 84 #[.pointer (some ⟨gb, 0, none⟩), .int .u64 c] wr (TellsN (nv6 2 (nm a (c / 8)) 0 0 0 (.slice none 0 0)) 0 (nb a (c / 8)) (PG p q mb gb l m a v C) w0 N) := by
  have X1 := Lib.hid (Nx.alloc (frPG fC) h ZT)
  obtain ⟨r0, hr0⟩ : ∃ r0, r0 = wr.heap.size := ⟨_, rfl⟩
  obtain ⟨w1, hw1⟩ : ∃ w1, w1 = wr.alloc ZT := ⟨_, rfl⟩
  have HW := Lib.hid (And.intro hr0 hw1)
  rw [← hr0, ← hw1] at X1
  have f2 := Lib.hid ((frPG (p := p) (q := q) (mb := mb) (gb := gb) (l := l) (m := m) (a := a) (v := v) fC).tim (Fr.blk r0 ZT))
  have X3 := Lib.hid (Nx.alloc f2.out X1.out ZT)
  obtain ⟨r1, hr1⟩ : ∃ r1, r1 = w1.heap.size := ⟨_, rfl⟩
  obtain ⟨w3, hw3⟩ : ∃ w3, w3 = w1.alloc ZT := ⟨_, rfl⟩
  have HW3 := Lib.hid (And.intro hr1 hw3)
  rw [← hr1, ← hw3] at X3
  obtain ⟨⟨z0, z1, z2, z3, z4, z5⟩, y0, y1, y2, y3, y4, y5⟩ := blk_facts (Nx.box X3.out)
  have htag := fun w => tag_any c w hc
  rw [ht] at htag
  have hpl := fun w => ppt.place_any c w hc
  generalize c / 8 = qc at *
  have x4 : Nx (Tim (Tim (PG p q mb gb l m a v C) (Blk r0 ZT)) (Blk r1 (SC6 36 (.int .i64 2) (.string ⟨#[]⟩) (.int .i64 0) (.int .u64 0) (.int .u64 0) (.slice none 0 0)))) w0 N (w3.setCell ⟨r1, 0, none⟩ (.int .i64 2)) := Nx.put (j := 0) f2.out X3.out
  obtain ⟨w4, hw4⟩ : ∃ w4, w4 = w3.setCell ⟨r1, 0, none⟩ (.int .i64 2) := ⟨_, rfl⟩
  rw [← hw4] at x4
  have HW4 := Lib.hid hw4
  obtain ⟨QQ, hQQ⟩ : ∃ QQ : World → Prop, QQ = fun w => ∃ s9, Nx (Tim (Tim (PG p q mb gb l m a v C) (Blk r0 ZT)) (Blk r1 (SC6 36 (.int .i64 2) (.string s9) (.int .i64 0) (.int .u64 0) (.int .u64 0) (.slice none 0 0)))) w0 N w := ⟨_, rfl⟩
  have hname : ∀ w2, QQ w2 → Calls Try.prog 119 #[.pointer (some ⟨q, 0, none⟩), .int .i64 qc] w2 fun e w' => e = .returned (.tuple #[.string (nm a qc), .bool (nb a qc)]) ∧ QQ w' := fun w2 x => by
    have x9 := x
    subst hQQ
    obtain ⟨s9, x9⟩ := x9
    obtain ⟨F, hT⟩ := PG.names (Nx.fst_ (Nx.fst_ x9))
    exact (atm.name_any hT qc).mono fun e w' ⟨h1, h2⟩ => ⟨h1, h2 ▸ x⟩
  have hplace : ∀ w2, QQ w2 → Calls Try.prog 83 #[.int .u64 c] w2 fun e w' => e = .returned (.int .i64 qc) ∧ QQ w' := fun w2 x => (hpl w2).mono fun e w' ⟨h1, h2⟩ => ⟨h1, h2 ▸ x⟩
  have hdrew : ∀ w2, QQ w2 → QQ w2.drew := fun w2 x => by
    subst hQQ
    obtain ⟨s9, x9⟩ := x
    exact ⟨s9, Nx.step (f2.out.tim (Fr.blk _ _)) x9 (bdr w2)⟩
  have hset : ∀ w2 y, QQ w2 → QQ (w2.setCell ⟨r1, 1, none⟩ (.string y)) := fun w2 y x => by
    subst hQQ
    obtain ⟨s9, x9⟩ := x
    exact ⟨y, Nx.put (j := 1) f2.out x9⟩
  have hfin : ∀ w2 y, QQ w2 → Nx (Tim (Tim (PG p q mb gb l m a v C) (Blk r0 ZT)) (Blk r1 (SC6 36 (.int .i64 2) (.string y) (.int .i64 0) (.int .u64 0) (.int .u64 0) (.slice none 0 0)))) w0 N (w2.setCell ⟨r1, 1, none⟩ (.string y)) := fun w2 y x => by
    subst hQQ
    obtain ⟨s9, x9⟩ := x
    exact Nx.put (j := 1) f2.out x9
  have HFIN := Lib.hid hfin
  obtain ⟨U, hU⟩ : ∃ U : World → Value, U = fun w' => (w'.cell? ⟨r1, 1, none⟩).getD (.bool false) := ⟨_, rfl⟩
  have SC : ∀ w', QQ w' → w'.cell? ⟨gb, 1, none⟩ = some (.pointer (some ⟨q, 0, none⟩)) ∧ w'.cell? ⟨r1, 1, none⟩ = some (U w') ∧ w'.frozen? ⟨r1, 1, none⟩ = false := fun w' x => by
    subst hQQ
    obtain ⟨s9, x⟩ := x
    obtain ⟨⟨z0, z1, z2, z3, z4, z5⟩, y0, y1, y2, y3, y4, y5⟩ := blk_facts (Nx.box x)
    exact ⟨(PG.cells (Nx.fst_ (Nx.fst_ x))).2.1, by rw [hU]; simp only [z1]; rfl, y1⟩
  have QE := Lib.hid hQQ
  have hX4 : QQ w4 := by rw [hQQ]; exact ⟨_, x4⟩
  clear x4 hpl hQQ hfin hU
  generalize nm a qc = x at *
  generalize nb a qc = ok at *
  clear hr0 hw1 hr1 hw3 h hc ht hw4
  go_enter Try.func84, Try.ntmps84
  go_upto_region 1 with fail
  change Code.wp _ _ _ _ (wr.alloc ZT)
  rw [← HW.out.1, ← HW.out.2]
  go_upto_region 2 with fail
  change Code.wp _ _ _ _ (w1.alloc ZT)
  rw [← HW3.out.1, ← HW3.out.2]
  go_wp2_with fail
  refine (htag _).mono ?_; rintro e w' ⟨rfl, rfl⟩
  go_upto_region 10 with fail
  rw [← HW4.out]
  clear z0 z1 z2 z3 z4 z5 y0 y1 y2 y3 y4 y5 X3 X1
  go_region_held3 (fun w' => w'.cell? ⟨gb, 1, none⟩ = some (.pointer (some ⟨q, 0, none⟩)) ∧ w'.cell? ⟨r1, 1, none⟩ = some (U w') ∧ w'.frozen? ⟨r1, 1, none⟩ = false)
    (first | exact SC _ (by assumption) | exact SC _ (hdrew _ (by assumption)) | exact SC _ (hset _ _ (by assumption)) | exact SC _ (hset _ _ (hdrew _ (by assumption))) | go_keep)
    (first | (go_at_call 119; refine (hname _ ?_).mono ?_; (first | assumption | exact hdrew _ (by assumption)); rintro e w2 ⟨rfl, x2⟩) | (go_at_call 83; refine (hplace _ ?_).mono ?_; (first | assumption | exact hdrew _ (by assumption)); rintro e w2 ⟨rfl, x2⟩))
  have x6 := HFIN.out w2 x (by assumption)
  obtain ⟨w6, hw6⟩ : ∃ w6, w6 = w2.setCell ⟨r1, 1, none⟩ (.string x) := ⟨_, rfl⟩
  rw [← hw6] at x6 ⊢
  clear hw6 HFIN SC hset hdrew hplace hname hX4 QE HW4
  go_upto_region 22 with fail
  have X4 := Lib.hid (Nx.imp_ x6 fun _ => Tim.rot)
  obtain ⟨⟨z0, z1, z2, z3, z4, z5⟩, y0, y1, y2, y3, y4, y5⟩ := blk_facts (Nx.box x6)
  obtain ⟨⟨t0, t1, t2, t3, t4, t5⟩, u0, u1, u2, u3, u4, u5⟩ := blk_facts (Nx.box X4.out)
  obtain ⟨w5, hw5, x5⟩ := Nx.six (.int .i64 2) (.string x) (.int .i64 0) (.int .u64 0) (.int .u64 0) (.slice none 0 0) ((frPG fC).tim (Fr.blk _ _)) X4.out
  have X5 := Lib.hid x5
  obtain ⟨⟨e0, e1, e2, e3, e4, e5⟩, _⟩ := blk_facts (Nx.box x5)
  clear x6 x5
  go_wp2_with fail

  exact bodyPost_ret (v := .tuple #[.agg #[.int .i64 2, .string x, .int .i64 0, .int .u64 0, .int .u64 0, .slice none 0 0], .int .i64 0, .bool ok]) (by simp [results, Try.results84, go_sem, e0, e1, e2, e3, e4, e5]) rfl ⟨rfl, Nx.fst_ (Nx.fst_ X5.out)⟩
end
end Go.Proofs.Ythableojkjhicaa.pgt
namespace Go.Proofs.Ythableojkjhicaa.pgt
set_option linter.unusedVariables false
open Go.ChangeShapes Go.WideShapes Go.ChangeAt Go.RowKit Go.Maps
open Go.Proofs.Ythableojkjhicaa.hp Go.Proofs.Ythableojkjhicaa.cel Go.Proofs.Ythableojkjhicaa.kp Go.Proofs.Ythableojkjhicaa.ob Go.Proofs.Ythableojkjhicaa.pm Go.Proofs.Ythableojkjhicaa.tm Go.Proofs.Ythableojkjhicaa.lie Go.Proofs.Ythableojkjhicaa.cur Go.Proofs.Ythableojkjhicaa.pla Go.Proofs.Ythableojkjhicaa.pln Go.Proofs.Ythableojkjhicaa.wlk
open Go.Proofs.Ythableojkjhicaa.rgt (VG frG VI lawI zeroI)
open Go.Proofs.Ythableojkjhicaa.atm (Tab nm nb)
inductive Nd where
  | bad
  | leaf (t : Tm) (v : List (Int × Int))
  | comp (n : ByteArray) (k : Nat) (p : Nat)
/-- the node of a cell that is followed no further -/
def nod (l : List Int) (a : List ByteArray) (v : List (Int × Int)) (c : Int) : Nd :=
  if c % 8 = 0 then (if hp.gb l (c / 8) = true ∧ gv l (c / 8) = c then (match pm.look v (c / 8) with
    | some k => .leaf (var k) v
    | none => .leaf (var v.length) (v ++ [(c / 8, (v.length : Int))])) else .bad)
  else if c % 8 = 2 then (if c / 8 < a.length then .leaf (atom (a.getD (c / 8).toNat ByteArray.empty)) v else .bad)
  else if c % 8 = 3 then .leaf (.mk 3 E (sg c) 0 0 []) v
  else if c % 8 = 4 then (if hp.gb l (c / 8) = true then .leaf (.mk 3 E (wrap64 (gv l (c / 8))) 0 0 []) v else .bad)
  else if c % 8 = 5 then (if hp.gb l (c / 8) = true ∧ hp.gb l (c / 8 + 1) = true then .leaf (.mk 4 E 0 (gv l (c / 8)) (gv l (c / 8 + 1)) []) v else .bad)
  else if c % 8 = 1 ∧ fok l (c / 8) = true then (if gv l (c / 8) / 8 / 256 < a.length then
    .comp (a.getD (gv l (c / 8) / 8 / 256).toNat ByteArray.empty) (gv l (c / 8) / 8 % 256).toNat ((c / 8).toNat + 1) else .bad)
  else .bad
theorem get_nod (l : List Int) (a : List ByteArray) (r : Nat) (c : Int) (g : G) (he : g.e = 0) (hn : g.n < 2000) :
    pm.get l a (r + 1) c g = match nod l a g.v (dr l l.length c) with
      | .bad => (zero, ⟨g.n + 1, g.v, 2⟩)
      | .leaf t v => (t, ⟨g.n + 1, v, 0⟩)
      | .comp n k p => match getL (pm.get l a r) l k p ⟨g.n + 1, g.v, 0⟩ with
        | (ts, g2) => (comp n ts, g2) := by
  rw [pm.get, if_pos he, if_neg (by omega)]
  unfold nod
  generalize dr l l.length c = x
  by_cases h0 : x % 8 = 0
  · simp only [if_pos h0]
    by_cases h : hp.gb l (x / 8) = true ∧ gv l (x / 8) = x
    · simp only [if_pos h]
      cases pm.look g.v (x / 8) <;> rfl
    · simp only [if_neg h]
  simp only [if_neg h0]
  by_cases h2 : x % 8 = 2
  · simp only [if_pos h2]
    by_cases h : x / 8 < a.length
    · simp only [if_pos h]
    · simp only [if_neg h]
  simp only [if_neg h2]
  by_cases h3 : x % 8 = 3
  · simp only [if_pos h3]
  simp only [if_neg h3]
  by_cases h4 : x % 8 = 4
  · simp only [if_pos h4]
    by_cases h : hp.gb l (x / 8) = true
    · simp only [if_pos h]
    · simp only [if_neg h]
  simp only [if_neg h4]
  by_cases h5 : x % 8 = 5
  · simp only [if_pos h5]
    by_cases h : hp.gb l (x / 8) = true ∧ hp.gb l (x / 8 + 1) = true
    · simp only [if_pos h]
    · simp only [if_neg h]
  simp only [if_neg h5]
  by_cases h1 : x % 8 = 1 ∧ fok l (x / 8) = true
  · simp only [if_pos h1]
    by_cases h : gv l (x / 8) / 8 / 256 < a.length
    · simp only [if_pos h]
    · simp only [if_neg h]
  · simp only [if_neg h1]
/-- the numbers that have been given -/
def VOK (v : List (Int × Int)) : Prop := ∀ x k, pm.look v x = some k → 0 ≤ k ∧ k < v.length
theorem VOK.nil : VOK [] := fun x k h => by simp [pm.look] at h
theorem VOK.add {v : List (Int × Int)} (h : VOK v) {x : Int} (hx : pm.look v x = none) : VOK (v ++ [(x, (v.length : Int))]) := by
  intro y k hk
  rw [List.length_append, List.length_singleton]
  by_cases e : x = y
  · subst e
    rw [look_new hx] at hk
    injection hk with hk
    omega
  · rw [look_old e] at hk
    have := h y k hk
    omega
section
variable {p q mb gb : Nat} {l : List Int} {m : Int} {a : List ByteArray} {v v' : List (Int × Int)} {C : Ob} {w0 w wr w' : World} {N : Nat → Prop}
/-- what node answers -/
def NodeP (n9 : Nd) (p q mb gb : Nat) (l : List Int) (m : Int) (a : List ByteArray) (v : List (Int × Int)) (C : Ob) (w0 : World) (N : Nat → Prop) (e : Ending) (w' : World) : Prop :=
  match n9 with
  | .bad => ∃ k n i re im f, e = .returned (.tuple #[nv6 k n i re im (.slice none 0 0), .int .i64 f, .bool false]) ∧ Nx (PG p q mb gb l m a v C) w0 N w'
  | .leaf t v1 => ∃ k n i re im, t = .mk k n i re im [] ∧ k ≠ 5 ∧ Fit k n i re im 0 0 ∧ VOK v1 ∧ v1.length ≤ v.length + 1 ∧ e = .returned (.tuple #[nv6 k n i re im (.slice none 0 0), .int .i64 0, .bool true]) ∧ Nx (PG p q mb gb l m a v1 C) w0 N w'
  | .comp n k f => ∃ b, 1 ≤ k ∧ k ≤ 20 ∧ Fit 5 n 0 0 0 k k ∧ f + k ≤ 1048576 ∧ e = .returned (.tuple #[cv n b k, .int .i64 f, .bool true]) ∧ Nx (Tim (PG p q mb gb l m a v C) (Blk b (.cells (MC k) 36))) w0 N w'
theorem fit_of {k i re im : Int} {n : ByteArray} {len : Nat} (hk : I64 k) (hn : n.size ≤ 9223372036854775807) (hi : I64 i) (hr : W64 re) (hm : W64 im) (hl : len ≤ 1000) : Fit k n i re im len len :=
  ⟨hk.1, hk.2, hn, hi.1, hi.2, hr.1, by have := hr.2; omega, hm.1, by have := hm.2; omega, Nat.le_refl _, by omega⟩
theorem sg_i {c : Int} : I64 (sg c) := by unfold sg I64 wrap64; omega
theorem wr_i {c : Int} : I64 (wrap64 c) := by unfold I64 wrap64; omega
theorem w0_ : W64 0 := ⟨by omega, by omega⟩
theorem getD_size {a : List ByteArray} (ha : ∀ x ∈ a, x.size ≤ 1000000) (n : Nat) : (a.getD n ByteArray.empty).size ≤ 9223372036854775807 := by
  rw [List.getD_eq_getElem?_getD]
  cases h : a[n]? with
  | none => simp
  | some x => have := ha x (List.mem_of_getElem? h); simp only [Option.getD_some]; omega
theorem node_any (fC : Fr C) (c : Int) (hc : W64 c) (ha : a.length ≤ 4096) (ha2 : ∀ x ∈ a, x.size ≤ 1000000) (hv : VOK v) (hv9 : v.length < 1000000) (hl : (l.length : Int) ≤ 1048576) (h : Nx (PG p q mb gb l m a v C) w0 N wr) :
    Calls Try.prog 84 #[.pointer (some ⟨gb, 0, none⟩), .int .u64 c] wr (NodeP (nod l a v c) p q mb gb l m a v C w0 N) := by
  have hz : (⟨#[]⟩ : ByteArray).size ≤ 9223372036854775807 := by decide
  have hE : E = (⟨#[]⟩ : ByteArray) := rfl
  have hc0 : 0 ≤ c / 8 := by obtain ⟨h0, h1⟩ := hc; omega
  unfold nod
  by_cases h0 : c % 8 = 0
  · rw [if_pos h0]
    by_cases hb : hp.gb l (c / 8) = true ∧ gv l (c / 8) = c
    · rw [if_pos hb]
      cases hlk : pm.look v (c / 8) with
      | some k =>
        have := hv _ _ hlk
        exact (gnode_0o fC c hc h h0 hb.1 hb.2 hlk).mono fun e w' ⟨h1, h2⟩ => ⟨1, ⟨#[]⟩, k, 0, 0, rfl, by decide, fit_of ⟨by decide, by decide⟩ hz ⟨by omega, by omega⟩ w0_ w0_ (by omega), hv, by omega, h1, h2⟩
      | none => exact (gnode_0n fC c hc h h0 hb.1 hb.2 hlk hv9).mono fun e w' ⟨h1, h2⟩ => ⟨1, ⟨#[]⟩, v.length, 0, 0, rfl, by decide, fit_of ⟨by decide, by decide⟩ hz ⟨by omega, by omega⟩ w0_ w0_ (by omega), hv.add hlk, by simp, h1, h2⟩
    · rw [if_neg hb]
      exact (gnode_0b fC c hc h h0 hb).mono fun e w' ⟨h1, h2⟩ => ⟨_, _, _, _, _, _, h1, h2⟩
  rw [if_neg h0]
  by_cases h2 : c % 8 = 2
  · rw [if_pos h2]
    by_cases hb : c / 8 < a.length
    · rw [if_pos hb]
      have e1 : nm a (c / 8) = a.getD (c / 8).toNat ByteArray.empty := by unfold nm; rw [if_pos ⟨hc0, hb⟩]
      have e2 : nb a (c / 8) = true := decide_eq_true ⟨hc0, hb⟩
      have hh := gnode_2 fC c hc h h2
      rw [e1, e2] at hh
      exact hh.mono fun e w' ⟨h1, h2⟩ => ⟨2, _, 0, 0, 0, rfl, by decide, fit_of ⟨by decide, by decide⟩ (getD_size ha2 _) ⟨by decide, by decide⟩ w0_ w0_ (by omega), hv, by omega, h1, h2⟩
    · rw [if_neg hb]
      have e2 : nb a (c / 8) = false := decide_eq_false fun h => hb h.2
      have hh := gnode_2 fC c hc h h2
      rw [e2] at hh
      exact hh.mono fun e w' ⟨h1, h2⟩ => ⟨_, _, _, _, _, _, h1, h2⟩
  rw [if_neg h2]
  by_cases h3 : c % 8 = 3
  · rw [if_pos h3]
    exact (gnode_3 fC c hc h h3).mono fun e w' ⟨h1, h2⟩ => ⟨3, _, _, 0, 0, rfl, by decide, fit_of ⟨by decide, by decide⟩ hz sg_i w0_ w0_ (by omega), hv, by omega, h1, h2⟩
  rw [if_neg h3]
  by_cases h4 : c % 8 = 4
  · rw [if_pos h4]
    have hh := gnode_4 fC c hc h h4
    by_cases hb : hp.gb l (c / 8) = true
    · rw [if_pos hb]
      rw [hb] at hh
      exact hh.mono fun e w' ⟨h1, h2⟩ => ⟨3, _, _, 0, 0, rfl, by decide, fit_of ⟨by decide, by decide⟩ hz wr_i w0_ w0_ (by omega), hv, by omega, h1, h2⟩
    · rw [if_neg hb]
      rw [show hp.gb l (c / 8) = false by simpa using hb] at hh
      exact hh.mono fun e w' ⟨h1, h2⟩ => ⟨_, _, _, _, _, _, h1, h2⟩
  rw [if_neg h4]
  by_cases h5 : c % 8 = 5
  · rw [if_pos h5]
    have hh := gnode_5 fC c hc h h5
    have hw := PG.wf h
    by_cases hb : hp.gb l (c / 8 + 1) = true
    · have hb1 : hp.gb l (c / 8) = true := by
        have := of_decide_eq_true hb
        exact decide_eq_true ⟨hc0, by omega⟩
      rw [if_pos ⟨hb1, hb⟩]
      rw [hb] at hh
      exact hh.mono fun e w' ⟨h1, h2⟩ => ⟨4, _, 0, _, _, rfl, by decide, fit_of ⟨by decide, by decide⟩ hz ⟨by decide, by decide⟩ (hw _) (hw _) (by omega), hv, by omega, h1, h2⟩
    · rw [if_neg fun h => hb h.2]
      rw [show hp.gb l (c / 8 + 1) = false by simpa using hb] at hh
      exact hh.mono fun e w' ⟨h1, h2⟩ => ⟨_, _, _, _, _, _, h1, h2⟩
  rw [if_neg h5]
  by_cases h1 : c % 8 = 1
  · have hw := PG.wf h (c / 8)
    obtain ⟨hw0, hw1⟩ := hw
    by_cases hf : fo (pa (gv l (c / 8))) (pk (gv l (c / 8))) = true
    · have hf' := of_decide_eq_true hf
      have h6 : gv l (c / 8) % 8 = 6 := by
        apply Classical.byContradiction
        intro hn
        rw [show pk (gv l (c / 8)) = 0 by unfold pk; rw [if_neg hn]] at hf'
        omega
      have ep : pa (gv l (c / 8)) = gv l (c / 8) / 8 / 256 := by unfold pa; rw [if_pos h6]
      have ek : pk (gv l (c / 8)) = gv l (c / 8) / 8 % 256 := by unfold pk; rw [if_pos h6]
      have hgb : hp.gb l (c / 8) = true := by
        apply Classical.byContradiction
        intro hn
        have : gv l (c / 8) = 0 := by unfold gv; rw [if_neg fun h => hn (decide_eq_true h)]
        omega
      by_cases hx : nb a (pa (gv l (c / 8))) = true
      · by_cases hy : hp.gb l (c / 8 + pk (gv l (c / 8))) = true
        · have hx' := of_decide_eq_true hx
          have hy' := of_decide_eq_true hy
          have hok : fok l (c / 8) = true := by unfold fok; rw [hgb, ← ek, hy]; simp [h6]; omega
          rw [if_pos ⟨h1, hok⟩, if_pos (by rw [← ep]; exact hx'.2)]
          have hh := gnode_1o fC c hc h h1 hf hx hy (k := (gv l (c / 8) / 8 % 256).toNat) (by rw [ek]; omega)
          have e1 : nm a (pa (gv l (c / 8))) = a.getD (gv l (c / 8) / 8 / 256).toNat ByteArray.empty := by unfold nm; rw [if_pos hx', ep]
          rw [e1] at hh
          rw [ek] at hf' hy'
          refine hh.mono fun e w' ⟨b, h1, h2⟩ => ⟨b, by omega, by omega, fit_of ⟨by decide, by decide⟩ (getD_size ha2 _) ⟨by decide, by decide⟩ w0_ w0_ (by omega), by omega, ?_, h2⟩
          rw [h1, show (((c / 8).toNat + 1 : Nat) : Int) = c / 8 + 1 by omega]
        · have hok : ¬ (c % 8 = 1 ∧ fok l (c / 8) = true) := by
            rintro ⟨_, hk⟩
            unfold fok at hk
            simp only [Bool.and_eq_true] at hk
            exact hy (by rw [ek]; exact hk.2)
          rw [if_neg hok]
          exact (gnode_1n fC c hc h h1 hf (Or.inr ⟨hx, by simpa using hy⟩)).mono fun e w' ⟨h1, h2⟩ => ⟨_, _, _, _, _, _, h1, h2⟩
      · have hh := gnode_1n fC c hc h h1 hf (Or.inl (by simpa using hx))
        have hx2 : ¬ gv l (c / 8) / 8 / 256 < a.length := fun hn => hx (decide_eq_true ⟨by omega, by rw [ep]; exact hn⟩)
        by_cases hok : c % 8 = 1 ∧ fok l (c / 8) = true
        · rw [if_pos hok, if_neg hx2]
          exact hh.mono fun e w' ⟨h1, h2⟩ => ⟨_, _, _, _, _, _, h1, h2⟩
        · rw [if_neg hok]
          exact hh.mono fun e w' ⟨h1, h2⟩ => ⟨_, _, _, _, _, _, h1, h2⟩
    · have hh := gnode_1f fC c hc h h1 (by simpa using hf)
      by_cases hok : c % 8 = 1 ∧ fok l (c / 8) = true
      · rw [if_pos hok]
        have hk := hok.2
        unfold fok at hk
        simp only [Bool.and_eq_true, decide_eq_true_eq] at hk
        obtain ⟨⟨⟨⟨k1, k2⟩, k3⟩, k4⟩, k5⟩ := hk
        have hx2 : ¬ gv l (c / 8) / 8 / 256 < a.length := fun hn => hf (decide_eq_true ⟨by unfold pa; rw [if_pos k2]; omega, by unfold pa; rw [if_pos k2]; omega, by unfold pk; rw [if_pos k2]; omega, by unfold pk; rw [if_pos k2]; omega⟩)
        rw [if_neg hx2]
        exact hh.mono fun e w' ⟨h1, h2⟩ => ⟨_, _, _, _, _, _, h1, h2⟩
      · rw [if_neg hok]
        exact hh.mono fun e w' ⟨h1, h2⟩ => ⟨_, _, _, _, _, _, h1, h2⟩
  rw [if_neg fun h => h1 h.1]
  exact (gnode_6 fC c hc h h0 h1 h2 h3 h4 h5).mono fun e w' ⟨h1, h2⟩ => ⟨_, _, _, _, _, _, h1, h2⟩
end
end Go.Proofs.Ythableojkjhicaa.pgt
