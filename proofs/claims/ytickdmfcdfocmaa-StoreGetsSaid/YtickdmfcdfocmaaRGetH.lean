/- The reference's Get: what it tells. Heaps and names of both kinds side by side. -/
import Derived.Test.YtickdmfcdfocmaaRGetF
import Derived.Test.YtickdmfcdfocmaaPGE
import Derived.Test.YtickdmfcdfocmaaSLG
namespace Go.Proofs.Ytickdmfcdfocmaa.rgh
set_option linter.unusedVariables false
open Go.ChangeShapes Go.WideShapes Go.ChangeAt Go.RowKit Go.Maps
open Go.Proofs.Ytickdmfcdfocmaa.hp Go.Proofs.Ytickdmfcdfocmaa.cel Go.Proofs.Ytickdmfcdfocmaa.kp Go.Proofs.Ytickdmfcdfocmaa.ob Go.Proofs.Ytickdmfcdfocmaa.pm Go.Proofs.Ytickdmfcdfocmaa.tm Go.Proofs.Ytickdmfcdfocmaa.lie Go.Proofs.Ytickdmfcdfocmaa.cur Go.Proofs.Ytickdmfcdfocmaa.pla Go.Proofs.Ytickdmfcdfocmaa.pln Go.Proofs.Ytickdmfcdfocmaa.wlk Go.Proofs.Ytickdmfcdfocmaa.rgt
open Go.Proofs.Ytickdmfcdfocmaa.rpt (HB frHB RO frR)
open Go.Proofs.Ytickdmfcdfocmaa.pgt (SC6 nv6 zv Nx.alloc Nx.imp_ Nx.box Nx.res Nx.fst_ new_map qG VOK VOK.nil)
section
variable {w w' wr w0 : World} {p q mb gb : Nat} {l : List Int} {m : Int} {a : List ByteArray} {N : Nat → Prop} {C : Ob}
/-- the getter's call, beside what stands -/
theorem get_beside (fC : Fr C) (h : Nx (Tim (GB p q mb gb l m a ⟨0, [], 0⟩) C) w0 N wr) (ha : a.length ≤ 4096) (hn : ∀ x ∈ a, x.size ≤ 9223372036854775807) (c : Int) (hc : W64 c) (R : Tm × G) (hR : pm.get l a 500 c ⟨0, [], 0⟩ = R) :
    Calls Try.prog 63 #[.pointer (some ⟨gb, 0, none⟩), .int .u64 c, .int .i64 1] wr fun e w' => ∃ t' k nn i re im aa len cc, e = .returned (nv6 k nn i re im (.slice aa len cc)) ∧ Lies (Old wr) w' t' (nv6 k nn i re im (.slice aa len cc)) ∧ (R.2.e = 0 → t' = R.1) ∧ Nx (Tim (GB p q mb gb l m a R.2) C) w0 N w' := by
  obtain ⟨K, t, kk, sub⟩ := h
  obtain ⟨M, g, up⟩ := Tim.at1 fC t
  refine (rget_any p q mb gb l m a ha hn 500 c ⟨0, [], 0⟩ wr M 1 (Nat.le_refl _) g hc ⟨VOK.nil, Nat.le_refl _, by decide, fun _ => by decide⟩ (by decide)).mono ?_
  rintro e w2 ⟨t', k, nn, i, re, im, aa, len, cc, he, hl, hz, hg, hk⟩
  rw [hR] at hz hg
  refine ⟨t', k, nn, i, re, im, aa, len, cc, he, hl, hz, Nx.trans kk sub (up _ _ ⟨M, hg, hk.mono fun j hj => ?_, fun _ => Or.inl⟩)⟩
  obtain ⟨K1, M1, h1, ⟨K2, M2, h2, ⟨K3, M3, h3, h4, d3, e3⟩, d2, e2⟩, d1, e1⟩ := g
  rcases hj with rfl | rfl
  · exact (e1 _).2 (Or.inr ((e2 _).2 (Or.inr ((e3 _).2 (Or.inr ((h4.2 _).2 rfl))))))
  · exact (e1 _).2 (Or.inr ((e2 _).2 (Or.inr ((e3 _).2 (Or.inl ((h3.2 _).2 rfl))))))
/-- what Get answers -/
def RGetP (R : Tm × G) (A : Ob) (w0 : World) (N : Nat → Prop) (e : Ending) (w' : World) : Prop :=
  (R.2.e = 0 ∧ ∃ k nm i re im aa sl sc, e = .returned (.tuple #[nv6 k nm i re im (.slice aa sl sc), .int .i64 0]) ∧ Lies (Old w0) w' R.1 (nv6 k nm i re im (.slice aa sl sc)) ∧ Nx A w0 N w') ∨
  (R.2.e ≠ 0 ∧ e = .returned (.tuple #[zv, .int .i64 R.2.e]) ∧ Nx A w0 N w')
set_option maxRecDepth 100000 in
set_option maxHeartbeats 2000000 in
theorem rGet_new (c : Int) (hc : W64 c) (ha : a.length ≤ 4096) (hn : ∀ x ∈ a, x.size ≤ 9223372036854775807) (h : Tim (HB RH p l m) (RO q a) w N) (R : Tm × G) (hR : pm.get l a 500 c ⟨0, [], 0⟩ = R) :
    Calls Try.prog 21 #[.pointer (some ⟨p, 0, none⟩), .pointer (some ⟨q, 0, none⟩), .int .u64 c, .map none] w (RGetP R (Tim (HB RH p l m) (RO q a)) w N) := by
  have X1 := Lib.hid (Nx.alloc (frHB.tim frR) (Nx.same h) ZT)
  obtain ⟨r0, hr0⟩ : ∃ r0, r0 = w.heap.size := ⟨_, rfl⟩
  obtain ⟨w1, hw1⟩ : ∃ w1, w1 = w.alloc ZT := ⟨_, rfl⟩
  have HW := Lib.hid (And.intro hr0 hw1)
  rw [← hr0, ← hw1] at X1
  have hnil : ∀ w' : World, (binOp .eql 71 (.map none) (.map none)).run Try.prog w' = .ok (.bool true) w' := fun w' => qG w' none
  have hmm := @run_makeMap Try.prog
  have X2 := Lib.hid (new_map ((frHB.tim frR).tim (Fr.blk r0 ZT)) X1.out)
  obtain ⟨mb, hmb⟩ : ∃ mb, mb = w1.heap.size := ⟨_, rfl⟩
  obtain ⟨w2, hw2⟩ : ∃ w2, w2 = w1.alloc (.map #[] 0) := ⟨_, rfl⟩
  have HW2 := Lib.hid (And.intro hmb hw2)
  rw [← hmb, ← hw2] at X2
  have X3 := Lib.hid (Nx.alloc (((frHB.tim frR).tim (Fr.blk r0 ZT)).tim frG) X2.out (BG p q mb (0 : Nat) 0))
  obtain ⟨gb, hgb⟩ : ∃ gb, gb = w2.heap.size := ⟨_, rfl⟩
  obtain ⟨w3, hw3⟩ : ∃ w3, w3 = w2.alloc (BG p q mb (0 : Nat) 0) := ⟨_, rfl⟩
  have HW3 := Lib.hid (And.intro hgb hw3)
  rw [← hgb, ← hw3] at X3
  have X4 : Hid (Nx (Tim (GB p q mb gb l m a ⟨0, [], 0⟩) (Blk r0 ZT)) w N w3) := Lib.hid (Nx.imp_ X3.out fun K t => by
    have t2 : Tim (Tim (Tim (Tim (HB RH p l m) (RO q a)) (VG mb [])) (Blk gb (BG p q mb (0 : Nat) 0))) (Blk r0 ZT) w3 K := Tim.rot (Tim.map1 (fun K t => Tim.rot t) t)
    exact t2.map1 fun K t => Tim.right_ (Tim.right_ t) |>.map2 fun K t => t)
  have hcall := get_beside (Fr.blk r0 ZT) X4.out ha hn c hc R hR
  clear h hR hc ha hn hr0 hw1 hmb hw2 hgb hw3
  go_enter Try.func21, Try.ntmps21
  go_upto_region 1 with fail
  change Code.wp _ _ _ _ (w.alloc ZT)
  rw [← HW.out.1, ← HW.out.2]
  go_upto_region 3 with fail
  rw [← HW2.out.1, ← HW2.out.2]
  clear hnil hmm
  go_upto_region 4 with fail
  change Code.wp _ _ _ _ (w2.alloc (BG p q mb (0 : Nat) 0))
  rw [← HW3.out.1, ← HW3.out.2]
  go_wp2_with fail
  refine hcall.mono ?_; rintro e w4 ⟨t', k, nn, i, re, im, aa, len, cc, rfl, hl, hz, nx⟩
  have hres := (Nx.box nx)
  obtain ⟨w5, hw5⟩ : ∃ w5, w5 = w4.alloc (SC6 41 (.int .i64 k) (.string nn) (.int .i64 i) (.int .u64 re) (.int .u64 im) (.slice aa len cc)) := ⟨_, rfl⟩
  obtain ⟨tb, htb⟩ : ∃ tb, tb = w4.heap.size := ⟨_, rfl⟩
  have B5 : Below w4.heap.size w4 w5 := by rw [hw5]; exact ba w4 _
  have x5 := Nx.below ((frGB).tim (Fr.blk r0 ZT)) nx B5
  have hblk := show w5.heap[tb]? = some (SC6 41 (.int .i64 k) (.string nn) (.int .i64 i) (.int .u64 re) (.int .u64 im) (.slice aa len cc)) by rw [htb, hw5]; exact alloc_at w4 _
  have hg5 : w5.heap[gb]? = some (BG p q mb R.2.n R.2.e) := by
    obtain ⟨K, ⟨_, _, g, _⟩, _⟩ := x5
    exact g.blk
  have HL := Lib.hid (And.intro (hl.below B5) hz)
  have HS := Lib.hid (show w.heap.size + 1 ≤ w3.heap.size ∧ r0 = w.heap.size from ⟨by rw [HW3.out.2, alloc_size, HW2.out.2, alloc_size, HW.out.2, alloc_size]; omega, HW.out.1⟩)
  have X5 := Lib.hid x5
  have HW5 := Lib.hid (And.intro htb hw5)
  have c4 : w5.cell? ⟨gb, 4, none⟩ = some (.int .i64 R.2.e) := by simp [World.cell?, hg5]
  obtain ⟨⟨t0, t1, t2, t3, t4, t5⟩, _⟩ := blk_facts hblk
  clear hcall nx hres B5 x5 hblk hg5 hl hz htb hw5
  go_upto_region 5 with fail
  change Code.wp _ _ _ _ (w4.alloc (SC6 41 (.int .i64 k) (.string nn) (.int .i64 i) (.int .u64 re) (.int .u64 im) (.slice aa len cc)))
  rw [← HW5.out.1, ← HW5.out.2]
  obtain ⟨⟨z0, z1, z2, z3, z4, z5⟩, f0, f1, f2, f3, f4, f5⟩ := blk_facts (Nx.box X5.out)
  by_cases he : R.2.e = 0
  · have HE := Lib.hid he
    rw [he] at c4
    clear he
    go_wp2_with fail
    obtain ⟨W, hW, e0, e1, e2, e3, e4, e5, k6⟩ := res_fin (Nx.box X5.out) (.int .i64 k) (.string nn) (.int .i64 i) (.int .u64 re) (.int .u64 im) (.slice aa len cc)
    rw [hW]
    refine bodyPost_ret (v := .tuple #[nv6 k nn i re im (.slice aa len cc), .int .i64 0]) (by simp [results, Try.results21, go_sem, e0, e1, e2, e3, e4, e5]) rfl (Or.inl ⟨HE.out, k, nn, i, re, im, aa, len, cc, rfl, ?_, ?_⟩)
    · rw [← HL.out.2 HE.out]
      exact Lies.keep (X := Old w3) (Y := Old w) (k6.mono fun i h => by have := HS.out; show i < w3.heap.size; omega) (fun q _ h => by have := HS.out; show q < w3.heap.size; have : q < w.heap.size := h; omega) _ _ HL.out.1
    · exact Nx.fst_ (Nx.imp_ (Nx.res frGB X5.out k6) fun K t => pgt.Tim.lft t)
  · have hne : (R.2.e == 0) = false := by rw [beq_eq_false_iff_ne]; exact he
    have HE := Lib.hid he
    obtain ⟨re9, hre⟩ : ∃ re9, re9 = R.2.e := ⟨_, rfl⟩
    rw [← hre] at c4 hne
    have HRE := Lib.hid hre
    clear he hre
    have q1 : ¬ gb = r0 := by rw [HW3.out.1, HW.out.1, HW2.out.2, alloc_size, HW.out.2, alloc_size]; omega
    have q2 : ¬ r0 = gb := fun e => q1 e.symm
    go_upto_region 6 with fail
    go_region
    go_wp2_with fail
    obtain ⟨W, hW, e0, e1, e2, e3, e4, e5, k6⟩ := res_fin (Nx.box X5.out) (.int .i64 0) (.string ⟨#[]⟩) (.int .i64 0) (.int .u64 0) (.int .u64 0) (.slice none 0 0)
    rw [hW]
    have g0 : W.drew.cell? ⟨r0, 0, none⟩ = some (.int .i64 0) := e0
    have g1 : W.drew.cell? ⟨r0, 1, none⟩ = some (.string ⟨#[]⟩) := e1
    have g2 : W.drew.cell? ⟨r0, 2, none⟩ = some (.int .i64 0) := e2
    have g3 : W.drew.cell? ⟨r0, 3, none⟩ = some (.int .u64 0) := e3
    have g4 : W.drew.cell? ⟨r0, 4, none⟩ = some (.int .u64 0) := e4
    have g5 : W.drew.cell? ⟨r0, 5, none⟩ = some (.slice none 0 0) := e5
    refine bodyPost_ret (v := .tuple #[zv, .int .i64 re9]) (by simp [results, Try.results21, go_sem, g0, g1, g2, g3, g4, g5]) rfl (Or.inr ⟨HE.out, by rw [HRE.out], ?_⟩)
    exact Nx.below (frHB.tim frR) (Nx.fst_ (Nx.imp_ (Nx.res frGB X5.out k6) fun K t => pgt.Tim.lft t)) (bdr W)
end
end Go.Proofs.Ytickdmfcdfocmaa.rgh
