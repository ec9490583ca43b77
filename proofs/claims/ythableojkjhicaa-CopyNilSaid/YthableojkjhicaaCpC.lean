/- Package copy: node, what a cell stands for is laid but for its arguments. -/
import Derived.Test.YthableojkjhicaaCpB
namespace Go.Proofs.Ythableojkjhicaa.cpy
open Go.ChangeShapes Go.WideShapes Go.ChangeAt Go.RowKit Go.Maps
open Go.Proofs.Ythableojkjhicaa.kp Go.Proofs.Ythableojkjhicaa.cel Go.Proofs.Ythableojkjhicaa.hp Go.Proofs.Ythableojkjhicaa.ob Go.Proofs.Ythableojkjhicaa.tm Go.Proofs.Ythableojkjhicaa.pm
open Go.Proofs.Ythableojkjhicaa.rpt (HB frHB zeroC)
open Go.Proofs.Ythableojkjhicaa.un (five fin5)
set_option linter.unusedVariables false
abbrev LV (c at_ f t k : Int) : Value := .agg #[.int .u64 c, .int .i64 at_, .int .i64 f, .int .i64 t, .int .i64 k]
abbrev LO (c at_ f t k : Int) : Obj := .cells #[.int .u64 c, .int .i64 at_, .int .i64 f, .int .i64 t, .int .i64 k] 118 (0, 0)
section
variable {E : List Int → Ob} {l : List Int} {m : Int} {b : Nat} {p q mb pb r : Nat} {e : Int} {s s' : S} {n n' : Int} {C C' D : Ob} {w w0 wr w' : World} {N K : Nat → Prop} {o o' : Obj}
theorem XC.turn (v : Env p q l m b E) (fC : Fr C) (h : XC w0 N E p q mb pb e s n (Tim C (Blk r o)) wr) (k : kp.Keep (fun i => i = r) wr w') (hb : w'.heap[r]? = some o') : XC w0 N E p q mb pb e s n (Tim C (Blk r o')) w' := by
  obtain ⟨M, t, up⟩ := h.open2 v
  obtain ⟨M2, bb, up2⟩ := Tim.at2 fC t
  exact up _ _ (up2 (Blk r o') w' ⟨M2, ⟨hb, bb.2⟩, k.mono fun i hi => (bb.2 i).2 hi, fun _ => Or.inl⟩)
theorem XC.back (h : XC w0 N E p q mb pb e s n (Tim C D) wr) : XC w0 N E p q mb pb e s n C wr := by
  obtain ⟨K, ⟨K1, K2, a, ⟨K3, K4, c, d, dd, ee⟩, d2, e2⟩, k, sub⟩ := h
  exact ⟨fun i => K1 i ∨ K3 i, ⟨K1, K3, a, c, fun i h1 h2 => d2 i h1 ((ee i).2 (Or.inl h2)), fun _ => Iff.rfl⟩, k, fun i hi => sub i ((e2 i).2 (hi.imp id fun h => (ee i).2 (Or.inl h)))⟩
theorem XC.box (h : XC w0 N E p q mb pb e s n (Tim C (Blk r o)) wr) : wr.heap[r]? = some o := by
  obtain ⟨K, ⟨K1, K2, a, ⟨K3, K4, c, d, dd, ee⟩, d2, e2⟩, k, sub⟩ := h
  exact d.1
theorem XC.visit (v : Env p q l m b E) (fC : Fr C) (h : XC w0 N E p q mb pb e s n C wr) (n2 : Int) : XC w0 N E p q mb pb e s n2 C (wr.setCell ⟨pb, 4, none⟩ (.int .i64 n2)) := by
  obtain ⟨hb, up⟩ := h.blk v fC
  refine up n2 _ (Keep.setCell (F := fun i => i = pb) wr (p := ⟨pb, 4, none⟩) rfl _) ?_
  have := heap_setCell_same wr pb 4 _ _ (.int .i64 n2) hb
  simpa using this
theorem fin3 {u0 u1 u2 u3 u4 : Value} {t : TypeId} (h : w.heap[r]? = some (.cells #[u0, u1, u2, u3, u4] t (0, 0))) (v2 v3 v4 : Value) : ∃ W,
    (((w.setCell ⟨r, 2, none⟩ v2).setCell ⟨r, 3, none⟩ v3).setCell ⟨r, 4, none⟩ v4) = W ∧ W.heap[r]? = some (.cells #[u0, u1, v2, v3, v4] t (0, 0)) ∧ kp.Keep (fun k => k = r) w W := by
  have e := fun (w : World) (i : Nat) (cs : Array Value) (v : Value) (hg : w.heap[r]? = some (.cells cs t (0, 0))) => heap_setCell_same w r i cs t v hg
  have hf := e _ 4 _ v4 (e _ 3 _ v3 (e _ 2 _ v2 h))
  have kk (w : World) (o : Nat) (u : Value) : kp.Keep (fun k => k = r) w (w.setCell ⟨r, o, none⟩ u) := Keep.setCell (F := fun k => k = r) w rfl u
  refine ⟨_, rfl, ?_, ((kk _ _ _).trans (kk _ _ _) fun _ => Or.inl).trans (kk _ _ _) fun _ => Or.inl⟩
  simpa using hf
/-- what size tells, whatever stands beside -/
def SzAt (w0 : World) (N : Nat → Prop) (E : List Int → Ob) (p q mb pb : Nat) (l : List Int) (s : S) (c k : Int) : Prop :=
  ∀ (C : Ob) (n : Int) (w : World), Fr C → XC w0 N E p q mb pb (l.length : Int) s n C w → Calls Try.prog 103 #[.pointer (some ⟨pb, 0, none⟩), .int .u64 c] w fun e w' => e = .returned (.tuple #[.int .i64 k, .bool true]) ∧ w = w'
def FsAt (w0 : World) (N : Nat → Prop) (E : List Int → Ob) (p q mb pb : Nat) (l : List Int) (s : S) (c k own d : Int) (T : List Int) : Prop :=
  ∀ (C : Ob) (n : Int) (w : World), Fr C → XC w0 N E p q mb pb (l.length : Int) s n C w → Calls Try.prog 104 #[.pointer (some ⟨pb, 0, none⟩), .int .u64 c, .int .i64 k, .int .i64 own] w fun e w' => e = .returned (.tuple #[.int .u64 d, .int .i64 0]) ∧ XC w0 N E p q mb pb (l.length : Int) ⟨T, s.a, s.v⟩ n C w'
/-- what node answers -/
def NdP (w0 : World) (N : Nat → Prop) (E : List Int → Ob) (p q mb pb : Nat) (l : List Int) (s2 : S) (n : Int) (C : Ob) (vl : Value) (e : Ending) (w' : World) : Prop :=
  e = .returned (.tuple #[vl, .int .i64 0]) ∧ XC w0 N E p q mb pb (l.length : Int) s2 (n + 1) C w'
set_option maxRecDepth 100000 in
set_option maxHeartbeats 4000000 in
theorem cnode_leaf (v : Env p q l m b E) (fC : Fr C) (h : XC w0 N E p q mb pb (l.length : Int) s n C wr) (c own : Int) (hc : W64 c) (he : Ends1 l c) (hs : SzAt w0 N E p q mb pb l s c 0) (hn : 0 ≤ n ∧ n < 100000) :
    Calls Try.prog 76 #[.pointer (some ⟨pb, 0, none⟩), .int .u64 c, .int .i64 own] wr (NdP w0 N E p q mb pb l s n C (LV c own 0 0 0)) := by
  obtain ⟨r0, hr0⟩ : ∃ r0, r0 = wr.heap.size := ⟨_, rfl⟩
  obtain ⟨w1, hw1⟩ : ∃ w1, w1 = wr.alloc (LO 0 0 0 0 0) := ⟨_, rfl⟩
  have x1 := h.alloc v fC (LO 0 0 0 0 0)
  rw [← hr0, ← hw1] at x1
  have HW := Lib.hid (And.intro hr0 hw1)
  have f1 := fC.tim (Fr.blk r0 (LO 0 0 0 0 0))
  have hd := cderef_ok v f1 x1 c hc he
  have hz := hs _ _ _ f1 x1
  obtain ⟨⟨c0, c1, c2, c3, c4⟩, f4⟩ := x1.five v f1
  have x2 := x1.visit v f1 (n + 1)
  obtain ⟨w2, hw2⟩ : ∃ w2, w2 = w1.setCell ⟨pb, 4, none⟩ (.int .i64 (n + 1)) := ⟨_, rfl⟩
  rw [← hw2] at x2
  have X2 := Lib.hid x2
  have HV := Lib.hid v
  have HFC := Lib.hid fC
  obtain ⟨⟨d0, d1, d2, d3, d4⟩, _⟩ := x2.five v f1
  obtain ⟨⟨z0, z1, z2, z3, z4⟩, y0, y1, y2, y3, y4⟩ := five x2.box
  have HW2 := Lib.hid hw2
  have hn1 : n + 1 ≤ 100000 := by omega
  have hn0 : 0 ≤ n := hn.1
  clear h hr0 hw1 x1 f1 hw2 x2 hs he hc v fC hn
  go_enter Try.func76, Try.ntmps76
  go_upto_region 1 with fail
  change Code.wp _ _ _ _ (wr.alloc (LO 0 0 0 0 0))
  rw [← HW.out.1, ← HW.out.2]
  go_wp2_with fail
  refine hd.mono ?_; rintro e w' ⟨rfl, rfl⟩
  go_wp2_with fail
  refine hz.mono ?_; rintro e w' ⟨rfl, rfl⟩
  clear hd hz
  go_upto_region 6 with fail
  rw [← HW2.out]
  clear c0 c1 c2 c3 c4 f4
  go_wp2_with fail
  obtain ⟨W, hW, hz, kk⟩ := fin5 X2.out.box (.int .u64 c) (.int .i64 own) (.int .i64 0) (.int .i64 0) (.int .i64 0)
  obtain ⟨⟨e0, e1, e2, e3, e4⟩, _⟩ := five hz
  rw [hW]
  refine bodyPost_ret (v := .tuple #[LV c own 0 0 0, .int .i64 0]) (by simp [results, Try.results76, go_sem, e0, e1, e2, e3, e4]) rfl ⟨rfl, (X2.out.turn HV.out HFC.out kk hz).back⟩
set_option maxRecDepth 100000 in
set_option maxHeartbeats 4000000 in
theorem cnode_met (v : Env p q l m b E) (fC : Fr C) (h : XC w0 N E p q mb pb (l.length : Int) s n C wr) (c own k d : Int) (hc : W64 c) (he : Ends1 l c) (hs : SzAt w0 N E p q mb pb l s c k) (hk : 1 ≤ k ∧ k ≤ 21) (hl : pm.look s.v c = some d) (hn : 0 ≤ n ∧ n < 100000) :
    Calls Try.prog 76 #[.pointer (some ⟨pb, 0, none⟩), .int .u64 c, .int .i64 own] wr (NdP w0 N E p q mb pb l s n C (LV d own 0 0 0)) := by
  obtain ⟨r0, hr0⟩ : ∃ r0, r0 = wr.heap.size := ⟨_, rfl⟩
  obtain ⟨w1, hw1⟩ : ∃ w1, w1 = wr.alloc (LO 0 0 0 0 0) := ⟨_, rfl⟩
  have x1 := h.alloc v fC (LO 0 0 0 0 0)
  rw [← hr0, ← hw1] at x1
  have HW := Lib.hid (And.intro hr0 hw1)
  have f1 := fC.tim (Fr.blk r0 (LO 0 0 0 0 0))
  have hd := cderef_ok v f1 x1 c hc he
  have hz := hs _ _ _ f1 x1
  obtain ⟨⟨c0, c1, c2, c3, c4⟩, f4⟩ := x1.five v f1
  have x2 := x1.visit v f1 (n + 1)
  obtain ⟨w2, hw2⟩ : ∃ w2, w2 = w1.setCell ⟨pb, 4, none⟩ (.int .i64 (n + 1)) := ⟨_, rfl⟩
  rw [← hw2] at x2
  have X2 := Lib.hid x2
  have HV := Lib.hid v
  have HFC := Lib.hid fC
  obtain ⟨⟨d0, d1, d2, d3, d4⟩, _⟩ := x2.five v f1
  obtain ⟨⟨z0, z1, z2, z3, z4⟩, y0, y1, y2, y3, y4⟩ := five x2.box
  have HW2 := Lib.hid hw2
  have hn1 : n + 1 ≤ 100000 := by omega
  have hn0 : 0 ≤ n := hn.1
  have hk0 : (k == 0) = false := by rw [beq_eq_false_iff_ne]; omega
  obtain ⟨D, hD, hvm, _, _⟩ := x2.vars v f1
  have hkey : keyOf Try.prog 23 (.int .u64 c) = some (CU c) := keyOf_int_mk Try.underlying23 (WalkArith.wf_u64 (by obtain ⟨h1, h2⟩ := hc; omega))
  have hv2 := hvm c
  rw [hl] at hv2
  have HD := Lib.hid hD
  have HVM := Lib.hid hv2
  have hsome : (some d).isSome = true := rfl
  clear h hr0 hw1 x1 f1 hw2 x2 hs he hc v fC hn hk hl hD hvm hv2
  go_enter Try.func76, Try.ntmps76
  go_upto_region 1 with fail
  change Code.wp _ _ _ _ (wr.alloc (LO 0 0 0 0 0))
  rw [← HW.out.1, ← HW.out.2]
  go_wp2_with fail
  refine hd.mono ?_; rintro e w' ⟨rfl, rfl⟩
  go_wp2_with fail
  refine hz.mono ?_; rintro e w' ⟨rfl, rfl⟩
  clear hd hz
  go_upto_region 6 with fail
  rw [← HW2.out]
  clear c0 c1 c2 c3 c4 f4
  go_wp2_with (at_lookup; refine wpList_lookup_own_ok_int _ rfl _ _ 113 rfl 23 23 .u64 lawU Try.underlying113 Try.underlying23 (zeroC _) mb _ D rfl HD.out _ _ rfl hkey ?_; intro c9 hat hwc; rw [HVM.out.1, hsome])
  have hc9 : c9 = d := by
    have h2 := HVM.out.2
    rw [hat] at h2
    injection h2 with e; injection e with _ e
  subst hc9
  clear hat hwc
  go_wp2_with fail
  obtain ⟨W, hW, hz, kk⟩ := fin5 X2.out.box (.int .u64 c9) (.int .i64 own) (.int .i64 0) (.int .i64 0) (.int .i64 0)
  obtain ⟨⟨e0, e1, e2, e3, e4⟩, _⟩ := five hz
  rw [hW]
  refine bodyPost_ret (v := .tuple #[LV c9 own 0 0 0, .int .i64 0]) (by simp [results, Try.results76, go_sem, e0, e1, e2, e3, e4]) rfl ⟨rfl, (X2.out.turn HV.out HFC.out kk hz).back⟩
set_option maxRecDepth 100000 in
set_option maxHeartbeats 4000000 in
theorem cnode_new (v : Env p q l m b E) (fC : Fr C) (h : XC w0 N E p q mb pb (l.length : Int) s n C wr) (c own k d : Int) (T : List Int) (hc : W64 c) (hdw : W64 d) (he : Ends1 l c) (hs : SzAt w0 N E p q mb pb l s c k) (hf : FsAt w0 N E p q mb pb l s c k own d T) (hk : 1 ≤ k ∧ k ≤ 21) (h1 : c % 8 ≠ 1) (hl : pm.look s.v c = none) (hlen : s.v.length < 1000000) (hn : 0 ≤ n ∧ n < 100000) :
    Calls Try.prog 76 #[.pointer (some ⟨pb, 0, none⟩), .int .u64 c, .int .i64 own] wr (NdP w0 N E p q mb pb l ⟨T, s.a, s.v ++ [(c, d)]⟩ n C (LV d own 0 0 0)) := by
  obtain ⟨r0, hr0⟩ : ∃ r0, r0 = wr.heap.size := ⟨_, rfl⟩
  obtain ⟨w1, hw1⟩ : ∃ w1, w1 = wr.alloc (LO 0 0 0 0 0) := ⟨_, rfl⟩
  have x1 := h.alloc v fC (LO 0 0 0 0 0)
  rw [← hr0, ← hw1] at x1
  have HW := Lib.hid (And.intro hr0 hw1)
  have f1 := fC.tim (Fr.blk r0 (LO 0 0 0 0 0))
  have hd := cderef_ok v f1 x1 c hc he
  have hz := hs _ _ _ f1 x1
  obtain ⟨⟨c0, c1, c2, c3, c4⟩, f4⟩ := x1.five v f1
  have x2 := x1.visit v f1 (n + 1)
  obtain ⟨w2, hw2⟩ : ∃ w2, w2 = w1.setCell ⟨pb, 4, none⟩ (.int .i64 (n + 1)) := ⟨_, rfl⟩
  rw [← hw2] at x2
  have X2 := Lib.hid x2
  have HV := Lib.hid v
  have HFC := Lib.hid fC
  obtain ⟨⟨d0, d1, d2, d3, d4⟩, _⟩ := x2.five v f1
  obtain ⟨⟨z0, z1, z2, z3, z4⟩, y0, y1, y2, y3, y4⟩ := five x2.box
  have HW2 := Lib.hid hw2
  have hn1 : n + 1 ≤ 100000 := by omega
  have hn0 : 0 ≤ n := hn.1
  have hk0 : (k == 0) = false := by rw [beq_eq_false_iff_ne]; omega
  obtain ⟨D, hD, hvm, _, _⟩ := x2.vars v f1
  have hkey : keyOf Try.prog 23 (.int .u64 c) = some (CU c) := keyOf_int_mk Try.underlying23 (WalkArith.wf_u64 (by obtain ⟨h1, h2⟩ := hc; omega))
  have hv2 := hvm c
  rw [hl] at hv2
  have HL := Lib.hid hl
  have hff := hf _ _ _ f1 x2
  have htag := fun w => tag_any c w hc
  have ht1 : (c % 8 == 1) = false := by rw [beq_eq_false_iff_ne]; exact h1
  have HW9 := Lib.hid (show (Lit.int .u64 d).wf = true from WalkArith.wf_u64 (by obtain ⟨h1, h2⟩ := hdw; omega))
  have HKY := Lib.hid hkey
  have HLN := Lib.hid (show s.v.length < maxLen by unfold maxLen; omega)
  have HD := Lib.hid hD
  have HVM := Lib.hid hv2
  have hnone : (none : Option Int).isSome = false := rfl
  clear h hr0 hw1 x1 f1 hw2 x2 hs he hc v fC hn hk hl hD hvm hv2 hf h1 hdw hlen
  generalize c % 8 = tg at *
  go_enter Try.func76, Try.ntmps76
  go_upto_region 1 with fail
  change Code.wp _ _ _ _ (wr.alloc (LO 0 0 0 0 0))
  rw [← HW.out.1, ← HW.out.2]
  go_wp2_with fail
  refine hd.mono ?_; rintro e w' ⟨rfl, rfl⟩
  go_wp2_with fail
  refine hz.mono ?_; rintro e w' ⟨rfl, rfl⟩
  clear hd hz
  go_upto_region 6 with fail
  rw [← HW2.out]
  clear c0 c1 c2 c3 c4 f4
  go_wp2_with (at_lookup; refine wpList_lookup_own_ok_int _ rfl _ _ 113 rfl 23 23 .u64 lawU Try.underlying113 Try.underlying23 (zeroC _) mb _ D rfl HD.out _ _ rfl hkey ?_; intro c9 hat hwc; rw [HVM.out.1, hnone])
  clear hat hwc
  refine hff.mono ?_; rintro e w5 ⟨rfl, x5⟩
  have f1 := HFC.out.tim (Fr.blk r0 (LO 0 0 0 0 0))
  have X5 := Lib.hid x5
  clear hff d0 d1 d2 d3 d4 z0 z1 z2 z3 z4 y0 y1 y2 y3 y4
  obtain ⟨⟨d0, d1, d2, d3, d4⟩, _⟩ := x5.five HV.out f1
  obtain ⟨D5, hD5, hv5, _, _⟩ := x5.vars HV.out f1
  have HD5 := Lib.hid hD5
  have HV5 := Lib.hid hv5
  clear x5 hD5 hv5 f1
  go_wp2_with (at_mapUpdate; refine wpList_mapUpdate_own _ rfl _ _ _ 113 rfl 23 23 lawU Try.underlying113 _ mb s.v.length D5 rfl HD5.out HLN.out _ _ _ rfl rfl HKY.out _ [] (plainElem_int Try.underlying23 HW9.out) ?_)
  intro w7 hm7 hg7
  have X7 := Lib.hid (XC.put HV.out (HFC.out.tim (Fr.blk r0 (LO 0 0 0 0 0))) X5.out HD5.out HV5.out HL.out hm7 hg7)
  clear hm7 hg7 d0 d1 d2 d3 d4
  obtain ⟨r1, hr1⟩ : ∃ r1, r1 = w7.heap.size := ⟨_, rfl⟩
  obtain ⟨w8, hw8⟩ : ∃ w8, w8 = w7.alloc (LO d own 0 0 0) := ⟨_, rfl⟩
  have x8 := X7.out.alloc HV.out (HFC.out.tim (Fr.blk r0 (LO 0 0 0 0 0))) (LO d own 0 0 0)
  rw [← hr1, ← hw8] at x8
  have X8 := Lib.hid x8
  have HW8 := Lib.hid (And.intro hr1 hw8)
  obtain ⟨⟨a0, a1, a2, a3, a4⟩, j0, j1, j2, j3, j4⟩ := five x8.box
  obtain ⟨⟨z0, z1, z2, z3, z4⟩, y0, y1, y2, y3, y4⟩ := five x8.back.box
  clear hr1 hw8 x8
  go_upto_region 18 with fail
  rw [← HW8.out.1]
  change Code.wp _ _ _ _ (w7.alloc (LO d own 0 0 0))
  rw [← HW8.out.2]
  go_wp2_with fail
  refine (htag _).mono ?_; rintro e w' ⟨rfl, rfl⟩
  go_wp2_with fail
  obtain ⟨W, hW, hz, kk⟩ := fin5 X8.out.back.box (.int .u64 d) (.int .i64 own) (.int .i64 0) (.int .i64 0) (.int .i64 0)
  obtain ⟨⟨e0, e1, e2, e3, e4⟩, _⟩ := five hz
  rw [hW]
  refine bodyPost_ret (v := .tuple #[LV d own 0 0 0, .int .i64 0]) (by simp [results, Try.results76, go_sem, e0, e1, e2, e3, e4]) rfl ⟨rfl, (X8.out.back.turn HV.out HFC.out kk hz).back⟩
set_option maxRecDepth 100000 in
set_option maxHeartbeats 4000000 in
theorem cnode_comp (v : Env p q l m b E) (fC : Fr C) (h : XC w0 N E p q mb pb (l.length : Int) s n C wr) (c own k d : Int) (T : List Int) (hc : W64 c) (hdw : W64 d) (he : Ends1 l c) (hs : SzAt w0 N E p q mb pb l s c k) (hf : FsAt w0 N E p q mb pb l s c k own d T) (hk : 1 ≤ k ∧ k ≤ 21) (h1 : c % 8 = 1) (hl : pm.look s.v c = none) (hlen : s.v.length < 1000000) (hn : 0 ≤ n ∧ n < 100000) :
    Calls Try.prog 76 #[.pointer (some ⟨pb, 0, none⟩), .int .u64 c, .int .i64 own] wr (NdP w0 N E p q mb pb l ⟨T, s.a, s.v ++ [(c, d)]⟩ n C (LV d own (c / 8 + 1) (d / 8 + 1) (k - 1))) := by
  obtain ⟨r0, hr0⟩ : ∃ r0, r0 = wr.heap.size := ⟨_, rfl⟩
  obtain ⟨w1, hw1⟩ : ∃ w1, w1 = wr.alloc (LO 0 0 0 0 0) := ⟨_, rfl⟩
  have x1 := h.alloc v fC (LO 0 0 0 0 0)
  rw [← hr0, ← hw1] at x1
  have HW := Lib.hid (And.intro hr0 hw1)
  have f1 := fC.tim (Fr.blk r0 (LO 0 0 0 0 0))
  have hd := cderef_ok v f1 x1 c hc he
  have hz := hs _ _ _ f1 x1
  obtain ⟨⟨c0, c1, c2, c3, c4⟩, f4⟩ := x1.five v f1
  have x2 := x1.visit v f1 (n + 1)
  obtain ⟨w2, hw2⟩ : ∃ w2, w2 = w1.setCell ⟨pb, 4, none⟩ (.int .i64 (n + 1)) := ⟨_, rfl⟩
  rw [← hw2] at x2
  have X2 := Lib.hid x2
  have HV := Lib.hid v
  have HFC := Lib.hid fC
  obtain ⟨⟨d0, d1, d2, d3, d4⟩, _⟩ := x2.five v f1
  obtain ⟨⟨z0, z1, z2, z3, z4⟩, y0, y1, y2, y3, y4⟩ := five x2.box
  have HW2 := Lib.hid hw2
  have hn1 : n + 1 ≤ 100000 := by omega
  have hn0 : 0 ≤ n := hn.1
  have hk0 : (k == 0) = false := by rw [beq_eq_false_iff_ne]; omega
  obtain ⟨D, hD, hvm, _, _⟩ := x2.vars v f1
  have hkey : keyOf Try.prog 23 (.int .u64 c) = some (CU c) := keyOf_int_mk Try.underlying23 (WalkArith.wf_u64 (by obtain ⟨h1, h2⟩ := hc; omega))
  have hv2 := hvm c
  rw [hl] at hv2
  have HL := Lib.hid hl
  have hff := hf _ _ _ f1 x2
  have htag := fun w => tag_any c w hc
  have ht1 : (c % 8 == 1) = true := by rw [h1]; rfl
  have hpl := fun w => cplace_any c w hc
  have hpl2 := fun w => cplace_any d w hdw
  have hq1 : 0 ≤ c / 8 ∧ c / 8 < 2305843009213693952 := by obtain ⟨h0, h1⟩ := hc; omega
  have hq2 : 0 ≤ d / 8 ∧ d / 8 < 2305843009213693952 := by obtain ⟨h0, h1⟩ := hdw; omega
  obtain ⟨hq1a, hq1b⟩ := hq1
  obtain ⟨hq2a, hq2b⟩ := hq2
  obtain ⟨hka, hkb⟩ := hk
  have HW9 := Lib.hid (show (Lit.int .u64 d).wf = true from WalkArith.wf_u64 (by obtain ⟨h1, h2⟩ := hdw; omega))
  have HKY := Lib.hid hkey
  have HLN := Lib.hid (show s.v.length < maxLen by unfold maxLen; omega)
  have HD := Lib.hid hD
  have HVM := Lib.hid hv2
  have hnone : (none : Option Int).isSome = false := rfl
  clear h hr0 hw1 x1 f1 hw2 x2 hs he hc v fC hn hl hD hvm hv2 hf h1 hdw hlen
  generalize c % 8 = tg at *
  generalize c / 8 = cq at *
  generalize d / 8 = dq at *
  go_enter Try.func76, Try.ntmps76
  go_upto_region 1 with fail
  change Code.wp _ _ _ _ (wr.alloc (LO 0 0 0 0 0))
  rw [← HW.out.1, ← HW.out.2]
  go_wp2_with fail
  refine hd.mono ?_; rintro e w' ⟨rfl, rfl⟩
  go_wp2_with fail
  refine hz.mono ?_; rintro e w' ⟨rfl, rfl⟩
  clear hd hz
  go_upto_region 6 with fail
  rw [← HW2.out]
  clear c0 c1 c2 c3 c4 f4
  go_wp2_with (at_lookup; refine wpList_lookup_own_ok_int _ rfl _ _ 113 rfl 23 23 .u64 lawU Try.underlying113 Try.underlying23 (zeroC _) mb _ D rfl HD.out _ _ rfl hkey ?_; intro c9 hat hwc; rw [HVM.out.1, hnone])
  clear hat hwc
  refine hff.mono ?_; rintro e w5 ⟨rfl, x5⟩
  have f1 := HFC.out.tim (Fr.blk r0 (LO 0 0 0 0 0))
  have X5 := Lib.hid x5
  clear hff d0 d1 d2 d3 d4 z0 z1 z2 z3 z4 y0 y1 y2 y3 y4
  obtain ⟨⟨d0, d1, d2, d3, d4⟩, _⟩ := x5.five HV.out f1
  obtain ⟨D5, hD5, hv5, _, _⟩ := x5.vars HV.out f1
  have HD5 := Lib.hid hD5
  have HV5 := Lib.hid hv5
  clear x5 hD5 hv5 f1
  go_wp2_with (at_mapUpdate; refine wpList_mapUpdate_own _ rfl _ _ _ 113 rfl 23 23 lawU Try.underlying113 _ mb s.v.length D5 rfl HD5.out HLN.out _ _ _ rfl rfl HKY.out _ [] (plainElem_int Try.underlying23 HW9.out) ?_)
  intro w7 hm7 hg7
  have X7 := Lib.hid (XC.put HV.out (HFC.out.tim (Fr.blk r0 (LO 0 0 0 0 0))) X5.out HD5.out HV5.out HL.out hm7 hg7)
  clear hm7 hg7 d0 d1 d2 d3 d4
  obtain ⟨r1, hr1⟩ : ∃ r1, r1 = w7.heap.size := ⟨_, rfl⟩
  obtain ⟨w8, hw8⟩ : ∃ w8, w8 = w7.alloc (LO d own 0 0 0) := ⟨_, rfl⟩
  have x8 := X7.out.alloc HV.out (HFC.out.tim (Fr.blk r0 (LO 0 0 0 0 0))) (LO d own 0 0 0)
  rw [← hr1, ← hw8] at x8
  have X8 := Lib.hid x8
  have HW8 := Lib.hid (And.intro hr1 hw8)
  obtain ⟨⟨a0, a1, a2, a3, a4⟩, j0, j1, j2, j3, j4⟩ := five x8.box
  obtain ⟨⟨z0, z1, z2, z3, z4⟩, y0, y1, y2, y3, y4⟩ := five x8.back.box
  clear hr1 hw8 x8
  go_upto_region 18 with fail
  rw [← HW8.out.1]
  change Code.wp _ _ _ _ (w7.alloc (LO d own 0 0 0))
  rw [← HW8.out.2]
  go_wp2_with fail
  refine (htag _).mono ?_; rintro e w' ⟨rfl, rfl⟩
  go_wp2_with fail
  refine (hpl _).mono ?_; rintro e w' ⟨rfl, rfl⟩
  go_wp2_with fail
  refine (hpl2 _).mono ?_; rintro e w' ⟨rfl, rfl⟩
  go_upto_region 20 with fail
  clear a0 a1 a2 a3 a4 j0 j1 j2 j3 j4 z0 z1 z2 z3 z4 y0 y1 y2 y3 y4
  obtain ⟨w9, hw9, hz9, kk9⟩ := fin3 X8.out.box (.int .i64 (cq + 1)) (.int .i64 (dq + 1)) (.int .i64 (k - 1))
  have X9 := Lib.hid (X8.out.turn HV.out (HFC.out.tim (Fr.blk r0 (LO 0 0 0 0 0))) kk9 hz9)
  rw [hw9]
  clear hw9 hz9 kk9
  obtain ⟨⟨a0, a1, a2, a3, a4⟩, j0, j1, j2, j3, j4⟩ := five X9.out.box
  obtain ⟨⟨z0, z1, z2, z3, z4⟩, y0, y1, y2, y3, y4⟩ := five X9.out.back.box
  go_wp2_with fail
  obtain ⟨W, hW, hz, kk⟩ := fin5 X9.out.back.box (.int .u64 d) (.int .i64 own) (.int .i64 (cq + 1)) (.int .i64 (dq + 1)) (.int .i64 (k - 1))
  obtain ⟨⟨e0, e1, e2, e3, e4⟩, _⟩ := five hz
  rw [hW]
  refine bodyPost_ret (v := .tuple #[LV d own (cq + 1) (dq + 1) (k - 1), .int .i64 0]) (by simp [results, Try.results76, go_sem, e0, e1, e2, e3, e4]) rfl ⟨rfl, (X9.out.back.turn HV.out HFC.out kk hz).back⟩
end
end Go.Proofs.Ythableojkjhicaa.cpy
