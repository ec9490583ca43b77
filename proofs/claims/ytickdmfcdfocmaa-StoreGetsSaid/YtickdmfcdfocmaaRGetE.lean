/- The reference's get of a variable. -/
import Derived.Test.YtickdmfcdfocmaaRGetA
import Derived.Test.YtickdmfcdfocmaaPGC
namespace Go.Proofs.Ytickdmfcdfocmaa.rgt
set_option linter.unusedVariables false
open Go.ChangeShapes Go.WideShapes Go.ChangeAt Go.RowKit Go.Maps
open Go.Proofs.Ytickdmfcdfocmaa.hp Go.Proofs.Ytickdmfcdfocmaa.cel Go.Proofs.Ytickdmfcdfocmaa.kp Go.Proofs.Ytickdmfcdfocmaa.ob Go.Proofs.Ytickdmfcdfocmaa.pm Go.Proofs.Ytickdmfcdfocmaa.tm Go.Proofs.Ytickdmfcdfocmaa.rpt Go.Proofs.Ytickdmfcdfocmaa.lie Go.Proofs.Ytickdmfcdfocmaa.cur Go.Proofs.Ytickdmfcdfocmaa.pla Go.Proofs.Ytickdmfcdfocmaa.pln Go.Proofs.Ytickdmfcdfocmaa.wlk
theorem GB.vars {w : World} {p q mb gb : Nat} {l : List Int} {m : Int} {a : List ByteArray} {g : G} {N : Nat → Prop} (h : GB p q mb gb l m a g w N) : ∃ D, w.ownsMap Try.prog 3 (plainElem (H := Unit) Try.prog 2) mb g.v.length D ∧ VI D g.v ∧ Maps.size D = g.v.length ∧
    ∀ v' D' w', w'.ownsMap Try.prog 3 (plainElem (H := Unit) Try.prog 2) mb v'.length D' → VI D' v' → Maps.size D' = v'.length → w.grownBy w' (some mb) → GB p q mb gb l m a ⟨g.n, v', g.e⟩ w' N ∧ kp.Keep (NG gb mb) w w' := by
  obtain ⟨K1, M1, h1, ⟨K2, M2, h2, ⟨K3, M3, ⟨⟨D, hD, hv, hz⟩, hF⟩, h4, d3, e3⟩, d2, e2⟩, d1, e1⟩ := h
  have m3 : K3 mb := (hF mb).2 rfl
  have m2 : M2 mb := (e3 mb).2 (Or.inl m3)
  have m1 : M1 mb := (e2 mb).2 (Or.inr m2)
  refine ⟨D, hD, hv, hz, fun v' D' w' a b c gr => ?_⟩
  have k : kp.Keep (fun k => k = mb) w w' := Keep.of_grown gr fun k e => by injection e with e; exact e.symm
  refine ⟨⟨K1, M1, frHB.keep h1 k (fun i hi e => d1 i hi (e ▸ m1)), ⟨K2, M2, frR.keep h2 k (fun i hi e => d2 i hi (e ▸ m2)), ⟨K3, M3, ⟨⟨D', a, b, c⟩, hF⟩, (Fr.blk _ _).keep h4 k (fun i hi e => d3 i (e ▸ m3) hi), d3, e3⟩, d2, e2⟩, d1, e1⟩, k.mono fun i hi => Or.inr hi⟩
theorem gv_at {w : World} {p : Nat} {F : Nat → Prop} {l : List Int} {m : Int} (h : Hp RH w p F l m) (q : Int) (hg : Go.Proofs.Ytickdmfcdfocmaa.hp.gb l q = true) : ∃ gg kk cp, q = (kk : Nat) ∧ w.cell? ⟨p, 0, none⟩ = some (.slice (some ⟨gg, 0, none⟩) l.length cp) ∧ l.length ≤ cp ∧ kk < l.length ∧ w.cell? ⟨gg, kk, none⟩ = some (.int .u64 (gv l q)) := by
  obtain ⟨gg, kk, cp, hk, d0, hlt, hc⟩ := at_slice h q hg
  refine ⟨gg, kk, cp, hk, d0, ?_, hlt, hc⟩
  obtain ⟨_, cp2, d2, _, _, _, _, hc2, _⟩ := h.at_ kk hlt
  rw [d0] at d2; injection d2 with d2; injection d2 with _ _ d2; omega
set_option maxRecDepth 100000 in
set_option maxHeartbeats 4000000 in
theorem rget_0b (p q mb gb : Nat) (l : List Int) (m : Int) (a : List ByteArray) (r : Nat) (c : Int) (g : G) (w : World) (N : Nat → Prop) (h : GB p q mb gb l m a g w N) (hc : W64 c) (hr : r + 1 ≤ 500) (he : g.e = 0) (hl : ¬ 2000 ≤ g.n) (t5 : dr l l.length c % 8 = 0) (hb : ¬ (Go.Proofs.Ytickdmfcdfocmaa.hp.gb l (dr l l.length c / 8) = true ∧ gv l (dr l l.length c / 8) = dr l l.length c)) :
    Calls Try.prog 63 #[.pointer (some ⟨gb, 0, none⟩), .int .u64 c, .int .i64 (501 - ((r + 1 : Nat) : Int))] w (GetsR p q mb gb l m a (r + 1) c g w N) := by
  obtain ⟨w1, hw1⟩ : ∃ w1, w1 = w.alloc ZT := ⟨_, rfl⟩
  have X1 := Lib.hid (show GX p q mb gb l m a g w N w1 by rw [hw1]; exact GX.start h)
  have HW1 := Lib.hid hw1
  have HE := Lib.hid he
  obtain ⟨F, hp⟩ := h.heap
  have hllen := hp.len_le
  have HWF := Lib.hid hp.wf
  have HD := Lib.hid (dr_w hp.wf l.length c hc)
  obtain ⟨d, hd⟩ : ∃ d, d = dr l l.length c := ⟨_, rfl⟩
  rw [← hd] at HD t5 hb
  have HDD := Lib.hid hd
  have HGET := Lib.hid (get_succ (r := r) (a := a) he hl hd)
  have HC := Lib.hid hc
  have h1 : ¬ 2000 < (g.n : Int) + 1 := by omega
  have h2 : ¬ 500 < 501 - ((r + 1 : Nat) : Int) := by omega
  clear h he hw1 hp hd hc
  go_enter Try.func63, Try.ntmps63
  go_upto_region 1 with fail
  change Code.wp _ _ _ _ (w.alloc ZT)
  rw [← HW1.out]
  obtain ⟨⟨c0, c1, c2, c3, c4⟩, f3, f4⟩ := X1.out.gb.cells
  rw [HE.out] at c4
  go_upto_region 4 with fail
  obtain ⟨w2, hw2⟩ : ∃ w2, w2 = w1.setCell ⟨gb, 3, none⟩ (.int .i64 ((g.n : Int) + 1)) := ⟨_, rfl⟩
  have X2 := Lib.hid (show GX p q mb gb l m a ⟨g.n + 1, g.v, g.e⟩ w N w2 by rw [hw2]; exact X1.out.setN (g.n + 1))
  rw [← hw2]
  clear hw2 c0 c1 c2 c3 c4 f3 f4 X1
  obtain ⟨⟨c0, c1, c2, c3, c4⟩, f3, f4⟩ := X2.out.gb.cells
  dsimp only at c3 c4
  rw [HE.out] at c4
  obtain ⟨F2, hp2⟩ := X2.out.gb.heap
  have hdr := rderef_any hp2 c HC.out
  rw [← HDD.out] at hdr
  go_wp2_with fail
  refine hdr.mono ?_; rintro e w3 ⟨rfl, nd, hw3⟩
  have X3 := Lib.hid (show GX p q mb gb l m a ⟨g.n + 1, g.v, g.e⟩ w N w3 by rw [hw3]; exact X2.out.below (drewN_below w2 nd))
  clear hw3 hdr hp2 c0 c1 c2 c3 c4 f3 f4 X2
  obtain ⟨⟨c0, c1, c2, c3, c4⟩, f3, f4⟩ := X3.out.gb.cells
  dsimp only at c3 c4
  rw [HE.out] at c4
  go_wp2_with fail
  refine (rvalue_any d _ HD.out).mono ?_; rintro e w' ⟨rfl, rfl⟩
  go_wp2_with fail
  refine (rtag_any d _ HD.out).mono ?_; rintro e w' ⟨rfl, rfl⟩
  have X4 : Hid (GX p q mb gb l m a ⟨g.n + 1, g.v, 0⟩ w N w3) := by have := X3.out; rw [HE.out] at this; exact Lib.hid this
  clear X3
  have hq : 0 ≤ d / 8 ∧ d / 8 < 2305843009213693952 := by have := HD.out.1; have := HD.out.2; omega
  obtain ⟨F4, hp4⟩ := X4.out.gb.heap
  have hin := rin_any hp4 (d / 8) hq.1
  have hget := Lib.hid (show pm.get l a (r + 1) c g = (zero, ⟨g.n + 1, g.v, 2⟩) by rw [HGET.out, if_pos t5, if_neg hb])
  by_cases hg : Go.Proofs.Ytickdmfcdfocmaa.hp.gb l (d / 8) = true
  · as_aux_lemma =>
    have hne : gv l (d / 8) ≠ d := fun e => hb ⟨hg, e⟩
    obtain ⟨gg, kk, cp, hk8, d0, hcap, hklt, hcell⟩ := gv_at hp4 (d / 8) hg
    rw [hg] at hin
    rw [t5]
    rw [hk8] at hin hcell hne ⊢
    generalize gv l (kk : Int) = x at *
    have hne2 : (x != d) = true := by simpa using hne
    clear t5 h1 h2 hr hl hllen hq hg hk8 hp4 hb hne
    go_wp2_with fail
    refine hin.mono ?_; rintro e w4 ⟨rfl, rfl⟩
    go_upto_region 13 with fail
    obtain ⟨w9, hw9⟩ : ∃ w9, w9 = w3.setCell ⟨gb, 4, none⟩ (.int .i64 2) := ⟨_, rfl⟩
    have X9 := Lib.hid (show GX p q mb gb l m a ⟨g.n + 1, g.v, 2⟩ w N w9 by rw [hw9]; exact X4.out.setE 2)
    rw [← hw9]
    clear hw9 c0 c1 c2 c3 c4 f3 f4
    obtain ⟨⟨z0, z1, z2, z3, z4, z5⟩, y0, y1, y2, y3, y4, y5⟩ := blk_facts X9.out.zt
    go_wp2_with fail
    obtain ⟨W, hW, e0, e1, e2, e3, e4, e5, k6⟩ := res_fin X9.out.zt (.int .i64 0) (.string ⟨#[]⟩) (.int .i64 0) (.int .u64 0) (.int .u64 0) (.slice none 0 0)
    rw [hW]
    exact bodyPost_ret (v := .agg #[.int .i64 0, .string ⟨#[]⟩, .int .i64 0, .int .u64 0, .int .u64 0, (.slice none 0 0)]) (by simp [results, Try.results63, go_sem, e0, e1, e2, e3, e4, e5]) rfl (X9.out.fin (.int .i64 0) (.string ⟨#[]⟩) (.int .i64 0) (.int .u64 0) (.int .u64 0) (.slice none 0 0) k6 (by rw [hget.out]) (zero_lies2 _ _) (fun h => absurd h (show ¬ (2 : Int) = 0 by decide)))
  · as_aux_lemma =>
    simp only [Bool.not_eq_true] at hg
    rw [hg] at hin
    rw [t5]
    clear t5 h1 h2 hr hl hllen hq hg hp4 hb
    go_wp2_with fail
    refine hin.mono ?_; rintro e w4 ⟨rfl, rfl⟩
    go_upto_region 13 with fail
    obtain ⟨w9, hw9⟩ : ∃ w9, w9 = w3.setCell ⟨gb, 4, none⟩ (.int .i64 2) := ⟨_, rfl⟩
    have X9 := Lib.hid (show GX p q mb gb l m a ⟨g.n + 1, g.v, 2⟩ w N w9 by rw [hw9]; exact X4.out.setE 2)
    rw [← hw9]
    clear hw9 c0 c1 c2 c3 c4 f3 f4
    obtain ⟨⟨z0, z1, z2, z3, z4, z5⟩, y0, y1, y2, y3, y4, y5⟩ := blk_facts X9.out.zt
    go_wp2_with fail
    obtain ⟨W, hW, e0, e1, e2, e3, e4, e5, k6⟩ := res_fin X9.out.zt (.int .i64 0) (.string ⟨#[]⟩) (.int .i64 0) (.int .u64 0) (.int .u64 0) (.slice none 0 0)
    rw [hW]
    exact bodyPost_ret (v := .agg #[.int .i64 0, .string ⟨#[]⟩, .int .i64 0, .int .u64 0, .int .u64 0, (.slice none 0 0)]) (by simp [results, Try.results63, go_sem, e0, e1, e2, e3, e4, e5]) rfl (X9.out.fin (.int .i64 0) (.string ⟨#[]⟩) (.int .i64 0) (.int .u64 0) (.int .u64 0) (.slice none 0 0) k6 (by rw [hget.out]) (zero_lies2 _ _) (fun h => absurd h (show ¬ (2 : Int) = 0 by decide)))
set_option maxRecDepth 100000 in
set_option maxHeartbeats 4000000 in
theorem rget_0o (p q mb gb : Nat) (l : List Int) (m : Int) (a : List ByteArray) (r : Nat) (c : Int) (g : G) (w : World) (N : Nat → Prop) (h : GB p q mb gb l m a g w N) (hc : W64 c) (hr : r + 1 ≤ 500) (he : g.e = 0) (hl : ¬ 2000 ≤ g.n) (t5 : dr l l.length c % 8 = 0) (hb : Go.Proofs.Ytickdmfcdfocmaa.hp.gb l (dr l l.length c / 8) = true ∧ gv l (dr l l.length c / 8) = dr l l.length c) (k : Int) (hL : pm.look g.v (dr l l.length c / 8) = some k) (hk0 : 0 ≤ k) (hk1 : k ≤ 9223372036854775807) :
    Calls Try.prog 63 #[.pointer (some ⟨gb, 0, none⟩), .int .u64 c, .int .i64 (501 - ((r + 1 : Nat) : Int))] w (GetsR p q mb gb l m a (r + 1) c g w N) := by
  obtain ⟨w1, hw1⟩ : ∃ w1, w1 = w.alloc ZT := ⟨_, rfl⟩
  have X1 := Lib.hid (show GX p q mb gb l m a g w N w1 by rw [hw1]; exact GX.start h)
  have HW1 := Lib.hid hw1
  have HE := Lib.hid he
  obtain ⟨F, hp⟩ := h.heap
  have hllen := hp.len_le
  have HWF := Lib.hid hp.wf
  have HD := Lib.hid (dr_w hp.wf l.length c hc)
  obtain ⟨d, hd⟩ : ∃ d, d = dr l l.length c := ⟨_, rfl⟩
  rw [← hd] at HD t5 hb hL
  have HDD := Lib.hid hd
  have HGET := Lib.hid (get_succ (r := r) (a := a) he hl hd)
  have HC := Lib.hid hc
  have h1 : ¬ 2000 < (g.n : Int) + 1 := by omega
  have h2 : ¬ 500 < 501 - ((r + 1 : Nat) : Int) := by omega
  clear h he hw1 hp hd hc
  go_enter Try.func63, Try.ntmps63
  go_upto_region 1 with fail
  change Code.wp _ _ _ _ (w.alloc ZT)
  rw [← HW1.out]
  obtain ⟨⟨c0, c1, c2, c3, c4⟩, f3, f4⟩ := X1.out.gb.cells
  rw [HE.out] at c4
  go_upto_region 4 with fail
  obtain ⟨w2, hw2⟩ : ∃ w2, w2 = w1.setCell ⟨gb, 3, none⟩ (.int .i64 ((g.n : Int) + 1)) := ⟨_, rfl⟩
  have X2 := Lib.hid (show GX p q mb gb l m a ⟨g.n + 1, g.v, g.e⟩ w N w2 by rw [hw2]; exact X1.out.setN (g.n + 1))
  rw [← hw2]
  clear hw2 c0 c1 c2 c3 c4 f3 f4 X1
  obtain ⟨⟨c0, c1, c2, c3, c4⟩, f3, f4⟩ := X2.out.gb.cells
  dsimp only at c3 c4
  rw [HE.out] at c4
  obtain ⟨F2, hp2⟩ := X2.out.gb.heap
  have hdr := rderef_any hp2 c HC.out
  rw [← HDD.out] at hdr
  go_wp2_with fail
  refine hdr.mono ?_; rintro e w3 ⟨rfl, nd, hw3⟩
  have X3 := Lib.hid (show GX p q mb gb l m a ⟨g.n + 1, g.v, g.e⟩ w N w3 by rw [hw3]; exact X2.out.below (drewN_below w2 nd))
  clear hw3 hdr hp2 c0 c1 c2 c3 c4 f3 f4 X2
  obtain ⟨⟨c0, c1, c2, c3, c4⟩, f3, f4⟩ := X3.out.gb.cells
  dsimp only at c3 c4
  rw [HE.out] at c4
  go_wp2_with fail
  refine (rvalue_any d _ HD.out).mono ?_; rintro e w' ⟨rfl, rfl⟩
  go_wp2_with fail
  refine (rtag_any d _ HD.out).mono ?_; rintro e w' ⟨rfl, rfl⟩
  have X4 : Hid (GX p q mb gb l m a ⟨g.n + 1, g.v, 0⟩ w N w3) := by have := X3.out; rw [HE.out] at this; exact Lib.hid this
  clear X3
  have hq : 0 ≤ d / 8 ∧ d / 8 < 2305843009213693952 := by have := HD.out.1; have := HD.out.2; omega
  obtain ⟨F4, hp4⟩ := X4.out.gb.heap
  have hin := rin_any hp4 (d / 8) hq.1
  have hget := Lib.hid (show pm.get l a (r + 1) c g = (var k, ⟨g.n + 1, g.v, 0⟩) by rw [HGET.out, if_pos t5, if_pos hb, hL])
  obtain ⟨gg, kk, cp, hk8, d0, hcap, hklt, hcell⟩ := gv_at hp4 (d / 8) hb.1
  rw [hb.1] at hin
  rw [hb.2] at hcell
  rw [t5]
  obtain ⟨D, hDD, hVI, hz, up⟩ := X4.out.gb.vars
  rw [hk8] at hin hL ⊢
  have hkb : (kk : Int) < 1048576 := by omega
  have hkey : keyOf Try.prog 3 (.int .i64 (kk : Int)) = some (CK (kk : Int)) := keyOf_int_mk Try.underlying3 (WalkArith.wf_i64 (by omega))
  have hv2 := hVI (kk : Int)
  dsimp only at hv2
  rw [hL] at hv2
  have HOM := Lib.hid hDD
  have HV2 := Lib.hid hv2
  have hsome : (some k).isSome = true := rfl
  have HK := Lib.hid (And.intro hk0 hk1)
  have hwk := Go.Proofs.Ytickdmfcdfocmaa.cel.w64_i (kk : Int) ⟨by omega, by omega⟩
  clear t5 h1 h2 hr hl hllen hq hk8 hp4 hb hDD hVI hz up hv2 hL hk0 hk1
  go_wp2_with fail
  refine hin.mono ?_; rintro e w4 ⟨rfl, rfl⟩
  go_wp2_with (at_lookup; refine wpList_lookup_own_ok_int _ rfl _ _ 71 rfl 3 2 .i64 lawI Try.underlying71 Try.underlying2 (zeroI _) mb _ D rfl HOM.out _ _ rfl hkey ?_; intro c9 hat hwc; rw [HV2.out.1, hsome])
  have hcc : c9 = k := by
    have h2 := HV2.out.2
    rw [hat] at h2
    injection h2 with e; injection e with _ e
  subst hcc
  refine (Go.Proofs.Ytickdmfcdfocmaa.awk.rVar_any c9 _).mono ?_; rintro e w5 ⟨rfl, hb5⟩
  have X5 := Lib.hid (X4.out.below hb5)
  clear hb5 hin c0 c1 c2 c3 c4 f3 f4
  obtain ⟨⟨z0, z1, z2, z3, z4, z5⟩, y0, y1, y2, y3, y4, y5⟩ := blk_facts X5.out.zt
  go_wp2_with fail
  obtain ⟨W, hW, e0, e1, e2, e3, e4, e5, k6⟩ := res_fin X5.out.zt (.int .i64 1) (.string ⟨#[]⟩) (.int .i64 c9) (.int .u64 0) (.int .u64 0) (.slice none 0 0)
  rw [hW]
  exact bodyPost_ret (v := .agg #[.int .i64 1, .string ⟨#[]⟩, .int .i64 c9, .int .u64 0, .int .u64 0, (.slice none 0 0)]) (by simp [results, Try.results63, go_sem, e0, e1, e2, e3, e4, e5]) rfl (X5.out.fin (.int .i64 1) (.string ⟨#[]⟩) (.int .i64 c9) (.int .u64 0) (.int .u64 0) (.slice none 0 0) k6 (by rw [hget.out]) (Go.Proofs.Ytickdmfcdfocmaa.pla.var_lies _ _ _ (by have := HK.out; omega) (by have := HK.out; omega)) (fun _ => by rw [hget.out]))
set_option maxRecDepth 100000 in
set_option maxHeartbeats 4000000 in
theorem rget_0n (p q mb gb : Nat) (l : List Int) (m : Int) (a : List ByteArray) (r : Nat) (c : Int) (g : G) (w : World) (N : Nat → Prop) (h : GB p q mb gb l m a g w N) (hc : W64 c) (hr : r + 1 ≤ 500) (he : g.e = 0) (hl : ¬ 2000 ≤ g.n) (t5 : dr l l.length c % 8 = 0) (hb : Go.Proofs.Ytickdmfcdfocmaa.hp.gb l (dr l l.length c / 8) = true ∧ gv l (dr l l.length c / 8) = dr l l.length c) (hL : pm.look g.v (dr l l.length c / 8) = none) (hv9 : g.v.length < 1000000) :
    Calls Try.prog 63 #[.pointer (some ⟨gb, 0, none⟩), .int .u64 c, .int .i64 (501 - ((r + 1 : Nat) : Int))] w (GetsR p q mb gb l m a (r + 1) c g w N) := by
  obtain ⟨w1, hw1⟩ : ∃ w1, w1 = w.alloc ZT := ⟨_, rfl⟩
  have X1 := Lib.hid (show GX p q mb gb l m a g w N w1 by rw [hw1]; exact GX.start h)
  have HW1 := Lib.hid hw1
  have HE := Lib.hid he
  obtain ⟨F, hp⟩ := h.heap
  have hllen := hp.len_le
  have HWF := Lib.hid hp.wf
  have HD := Lib.hid (dr_w hp.wf l.length c hc)
  obtain ⟨d, hd⟩ : ∃ d, d = dr l l.length c := ⟨_, rfl⟩
  rw [← hd] at HD t5 hb hL
  have HDD := Lib.hid hd
  have HGET := Lib.hid (get_succ (r := r) (a := a) he hl hd)
  have HC := Lib.hid hc
  have h1 : ¬ 2000 < (g.n : Int) + 1 := by omega
  have h2 : ¬ 500 < 501 - ((r + 1 : Nat) : Int) := by omega
  clear h he hw1 hp hd hc
  go_enter Try.func63, Try.ntmps63
  go_upto_region 1 with fail
  change Code.wp _ _ _ _ (w.alloc ZT)
  rw [← HW1.out]
  obtain ⟨⟨c0, c1, c2, c3, c4⟩, f3, f4⟩ := X1.out.gb.cells
  rw [HE.out] at c4
  go_upto_region 4 with fail
  obtain ⟨w2, hw2⟩ : ∃ w2, w2 = w1.setCell ⟨gb, 3, none⟩ (.int .i64 ((g.n : Int) + 1)) := ⟨_, rfl⟩
  have X2 := Lib.hid (show GX p q mb gb l m a ⟨g.n + 1, g.v, g.e⟩ w N w2 by rw [hw2]; exact X1.out.setN (g.n + 1))
  rw [← hw2]
  clear hw2 c0 c1 c2 c3 c4 f3 f4 X1
  obtain ⟨⟨c0, c1, c2, c3, c4⟩, f3, f4⟩ := X2.out.gb.cells
  dsimp only at c3 c4
  rw [HE.out] at c4
  obtain ⟨F2, hp2⟩ := X2.out.gb.heap
  have hdr := rderef_any hp2 c HC.out
  rw [← HDD.out] at hdr
  go_wp2_with fail
  refine hdr.mono ?_; rintro e w3 ⟨rfl, nd, hw3⟩
  have X3 := Lib.hid (show GX p q mb gb l m a ⟨g.n + 1, g.v, g.e⟩ w N w3 by rw [hw3]; exact X2.out.below (drewN_below w2 nd))
  clear hw3 hdr hp2 c0 c1 c2 c3 c4 f3 f4 X2
  obtain ⟨⟨c0, c1, c2, c3, c4⟩, f3, f4⟩ := X3.out.gb.cells
  dsimp only at c3 c4
  rw [HE.out] at c4
  go_wp2_with fail
  refine (rvalue_any d _ HD.out).mono ?_; rintro e w' ⟨rfl, rfl⟩
  go_wp2_with fail
  refine (rtag_any d _ HD.out).mono ?_; rintro e w' ⟨rfl, rfl⟩
  have X4 : Hid (GX p q mb gb l m a ⟨g.n + 1, g.v, 0⟩ w N w3) := by have := X3.out; rw [HE.out] at this; exact Lib.hid this
  clear X3
  have hq : 0 ≤ d / 8 ∧ d / 8 < 2305843009213693952 := by have := HD.out.1; have := HD.out.2; omega
  obtain ⟨F4, hp4⟩ := X4.out.gb.heap
  have hin := rin_any hp4 (d / 8) hq.1
  have hget := Lib.hid (show pm.get l a (r + 1) c g = (var g.v.length, ⟨g.n + 1, g.v ++ [(d / 8, (g.v.length : Int))], 0⟩) by rw [HGET.out, if_pos t5, if_pos hb, hL])
  obtain ⟨gg, kk, cp, hk8, d0, hcap, hklt, hcell⟩ := gv_at hp4 (d / 8) hb.1
  rw [hb.1] at hin
  rw [hb.2] at hcell
  rw [t5]
  obtain ⟨D, hDD, hVI, hz, up⟩ := X4.out.gb.vars
  rw [hk8] at hin hL hget ⊢
  have hkb : (kk : Int) < 1048576 := by omega
  have hkey : keyOf Try.prog 3 (.int .i64 (kk : Int)) = some (CK (kk : Int)) := keyOf_int_mk Try.underlying3 (WalkArith.wf_i64 (by omega))
  have hv2 := hVI (kk : Int)
  dsimp only at hv2
  rw [hL] at hv2
  have HOM := Lib.hid hDD
  have HV2 := Lib.hid hv2
  have hsome : (none : Option Int).isSome = false := rfl
  have HV1 := Lib.hid hVI
  have HZ := Lib.hid hz
  have HL := Lib.hid hL
  have HUP := Lib.hid up
  have hlen := hDD.len Try.underlying71 3
  rw [hz] at hlen
  dsimp only at hlen
  have HW9 := Lib.hid (show (Lit.int .i64 (g.v.length : Int)).wf = true from WalkArith.wf_i64 (by omega))
  have HV9 := Lib.hid (show g.v.length < maxLen by unfold maxLen; omega)
  have HVN := Lib.hid hv9
  have HK := Lib.hid hkey
  have hwk := Go.Proofs.Ytickdmfcdfocmaa.cel.w64_i (kk : Int) ⟨by omega, by omega⟩
  clear t5 h1 h2 hr hl hllen hq hk8 hp4 hb hDD hVI hz up hv2 hL hv9
  go_wp2_with fail
  refine hin.mono ?_; rintro e w4 ⟨rfl, rfl⟩
  go_wp2_with (first | (at_lookup; refine wpList_lookup_own_ok_int _ rfl _ _ 71 rfl 3 2 .i64 lawI Try.underlying71 Try.underlying2 (zeroI _) mb _ D rfl HOM.out _ _ rfl hkey ?_; intro c9 hat hwc; rw [HV2.out.1, hsome]; clear hat hwc) | (at_mapUpdate; refine wpList_mapUpdate_own _ rfl _ _ _ 71 rfl 3 2 lawI Try.underlying71 _ mb g.v.length D rfl HOM.out HV9.out _ _ _ rfl rfl HK.out _ [] (plainElem_int Try.underlying2 HW9.out) ?_; intro w7 hm7 hg7; have X7 := Lib.hid (X4.out.step (HUP.out (g.v ++ [((kk : Int), (g.v.length : Int))]) _ w7 (by rw [List.length_append]; exact hm7) (HV1.out.put HOM.out.isMap HL.out) (by rw [size_put (HOM.out.tidy lawI), (HV1.out _).1, HL.out, HZ.out]; simp) hg7).1 (HUP.out (g.v ++ [((kk : Int), (g.v.length : Int))]) _ w7 (by rw [List.length_append]; exact hm7) (HV1.out.put HOM.out.isMap HL.out) (by rw [size_put (HOM.out.tidy lawI), (HV1.out _).1, HL.out, HZ.out]; simp) hg7).2); clear hm7 hg7 hin hcell d0 c0 c1 c2 c3 c4 f3 f4))
  refine (Go.Proofs.Ytickdmfcdfocmaa.awk.rVar_any _ _).mono ?_; rintro e w5 ⟨rfl, hb5⟩
  have X5 := Lib.hid (X7.out.below hb5)
  clear hb5
  obtain ⟨⟨z0, z1, z2, z3, z4, z5⟩, y0, y1, y2, y3, y4, y5⟩ := blk_facts X5.out.zt
  go_wp2_with fail
  obtain ⟨W, hW, e0, e1, e2, e3, e4, e5, k6⟩ := res_fin X5.out.zt (.int .i64 1) (.string ⟨#[]⟩) (.int .i64 (g.v.length : Int)) (.int .u64 0) (.int .u64 0) (.slice none 0 0)
  rw [hW]
  exact bodyPost_ret (v := .agg #[.int .i64 1, .string ⟨#[]⟩, .int .i64 (g.v.length : Int), .int .u64 0, .int .u64 0, (.slice none 0 0)]) (by simp [results, Try.results63, go_sem, e0, e1, e2, e3, e4, e5]) rfl (X5.out.fin (.int .i64 1) (.string ⟨#[]⟩) (.int .i64 (g.v.length : Int)) (.int .u64 0) (.int .u64 0) (.slice none 0 0) k6 (by rw [hget.out]) (Go.Proofs.Ytickdmfcdfocmaa.pla.var_lies _ _ _ (by omega) (by have := HVN.out; omega)) (fun _ => by rw [hget.out]))
end Go.Proofs.Ytickdmfcdfocmaa.rgt
