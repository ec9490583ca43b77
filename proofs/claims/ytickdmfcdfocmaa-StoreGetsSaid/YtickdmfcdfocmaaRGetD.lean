/- The reference's get of a complex number. -/
import Derived.Test.YtickdmfcdfocmaaRGetA
import Derived.StillTailTactics
namespace Go.Proofs.Ytickdmfcdfocmaa.rgt
set_option linter.unusedVariables false
open Go.ChangeShapes Go.WideShapes Go.ChangeAt Go.RowKit Go.Maps
open Go.Proofs.Ytickdmfcdfocmaa.hp Go.Proofs.Ytickdmfcdfocmaa.cel Go.Proofs.Ytickdmfcdfocmaa.kp Go.Proofs.Ytickdmfcdfocmaa.ob Go.Proofs.Ytickdmfcdfocmaa.pm Go.Proofs.Ytickdmfcdfocmaa.tm Go.Proofs.Ytickdmfcdfocmaa.rpt Go.Proofs.Ytickdmfcdfocmaa.lie Go.Proofs.Ytickdmfcdfocmaa.cur Go.Proofs.Ytickdmfcdfocmaa.pla Go.Proofs.Ytickdmfcdfocmaa.pln Go.Proofs.Ytickdmfcdfocmaa.wlk
set_option maxRecDepth 100000 in
set_option maxHeartbeats 4000000 in
theorem rget_5 (p q mb gb : Nat) (l : List Int) (m : Int) (a : List ByteArray) (r : Nat) (c : Int) (g : G) (w : World) (N : Nat → Prop) (h : GB p q mb gb l m a g w N) (hc : W64 c) (hr : r + 1 ≤ 500) (he : g.e = 0) (hl : ¬ 2000 ≤ g.n) (t5 : dr l l.length c % 8 = 5) :
    Calls Try.prog 63 #[.pointer (some ⟨gb, 0, none⟩), .int .u64 c, .int .i64 (501 - ((r + 1 : Nat) : Int))] w (GetsR p q mb gb l m a (r + 1) c g w N) := by
  obtain ⟨w1, hw1⟩ : ∃ w1, w1 = w.alloc ZT := ⟨_, rfl⟩
  have X1 := Lib.hid (show GX p q mb gb l m a g w N w1 by rw [hw1]; exact GX.start h)
  have HW1 := Lib.hid hw1
  have HE := Lib.hid he
  obtain ⟨F, hp⟩ := h.heap
  have hllen := hp.len_le
  have HWF := Lib.hid hp.wf
  have HD := Lib.hid (dr_w hp.wf l.length c hc)
  obtain ⟨d, hd⟩ : ∃ d, d = dr l l.length c := ⟨_, rfl⟩
  rw [← hd] at HD t5
  have HDD := Lib.hid hd
  have HGET := Lib.hid (get_succ (r := r) (a := a) he hl hd)
  have HC := Lib.hid hc
  have h1 : ¬ 2000 < (g.n : Int) + 1 := by omega
  have h2 : ¬ 500 < 501 - ((r + 1 : Nat) : Int) := by omega
  clear h he hw1 hp hd hc
  go_enter Try.func63, Try.ntmps63
  go_upto_region 1 with fail
  change Code.wp _ _ _ _ (w.alloc ZT)
  rw [← HW1.out]
  obtain ⟨⟨c0, c1, c2, c3, c4⟩, f3, f4⟩ := X1.out.gb.cells
  rw [HE.out] at c4
  go_upto_region 4 with fail
  obtain ⟨w2, hw2⟩ : ∃ w2, w2 = w1.setCell ⟨gb, 3, none⟩ (.int .i64 ((g.n : Int) + 1)) := ⟨_, rfl⟩
  have X2 := Lib.hid (show GX p q mb gb l m a ⟨g.n + 1, g.v, g.e⟩ w N w2 by rw [hw2]; exact X1.out.setN (g.n + 1))
  rw [← hw2]
  clear hw2 c0 c1 c2 c3 c4 f3 f4 X1
  obtain ⟨⟨c0, c1, c2, c3, c4⟩, f3, f4⟩ := X2.out.gb.cells
  dsimp only at c3 c4
  rw [HE.out] at c4
  obtain ⟨F2, hp2⟩ := X2.out.gb.heap
  have hdr := rderef_any hp2 c HC.out
  rw [← HDD.out] at hdr
  go_wp2_with fail
  refine hdr.mono ?_; rintro e w3 ⟨rfl, nd, hw3⟩
  have X3 := Lib.hid (show GX p q mb gb l m a ⟨g.n + 1, g.v, g.e⟩ w N w3 by rw [hw3]; exact X2.out.below (drewN_below w2 nd))
  clear hw3 hdr hp2 c0 c1 c2 c3 c4 f3 f4 X2
  obtain ⟨⟨c0, c1, c2, c3, c4⟩, f3, f4⟩ := X3.out.gb.cells
  dsimp only at c3 c4
  rw [HE.out] at c4
  go_wp2_with fail
  refine (rvalue_any d _ HD.out).mono ?_; rintro e w' ⟨rfl, rfl⟩
  go_wp2_with fail
  refine (rtag_any d _ HD.out).mono ?_; rintro e w' ⟨rfl, rfl⟩
  have X4 : Hid (GX p q mb gb l m a ⟨g.n + 1, g.v, 0⟩ w N w3) := by have := X3.out; rw [HE.out] at this; exact Lib.hid this
  clear X3
  have hq : 0 ≤ d / 8 ∧ d / 8 < 2305843009213693952 := by have := HD.out.1; have := HD.out.2; omega
  obtain ⟨F4, hp4⟩ := X4.out.gb.heap
  have hin := rin_any hp4 (d / 8) hq.1
  have hin2 := rin_any hp4 (d / 8 + 1) (by omega)
  have hwr : IntKind.u64.wrap (d / 8 + 1) = d / 8 + 1 := by rw [IntKind.wrap_u64]; omega
  by_cases hg : Go.Proofs.Ytickdmfcdfocmaa.hp.gb l (d / 8) = true
  · by_cases hg2 : Go.Proofs.Ytickdmfcdfocmaa.hp.gb l (d / 8 + 1) = true
    · as_aux_lemma =>
      have hget := Lib.hid (show pm.get l a (r + 1) c g = (.mk 4 tm.E 0 (gv l (d / 8)) (gv l (d / 8 + 1)) [], ⟨g.n + 1, g.v, 0⟩) by rw [HGET.out, if_neg (by omega), if_neg (by omega), if_neg (by omega), if_neg (by omega), if_pos t5, if_pos ⟨hg, hg2⟩])
      have hw1 := Lib.hid (gv_w hp4.wf (d / 8))
      have hw2 := Lib.hid (gv_w hp4.wf (d / 8 + 1))
      obtain ⟨gg, kk, cp, hk8, d0, hklt, hcell⟩ := at_slice hp4 (d / 8) hg
      obtain ⟨gg2, kk2, cp2, hk82, d02, hklt2, hcell2⟩ := at_slice hp4 (d / 8 + 1) hg2
      rw [d0] at d02
      injection d02 with d02; injection d02 with d02 _ _; injection d02 with d02; injection d02 with d02 _ _
      subst d02
      have hkk : kk2 = kk + 1 := by omega
      subst hkk
      rw [hg] at hin
      rw [hg2] at hin2
      rw [t5]
      rw [hk8] at hin hin2 hcell hget hw1 hw2 hcell2 hwr ⊢
      have hcap : l.length ≤ cp := by
        obtain ⟨_, cp3, d2, _, _, _, _, hc2, _⟩ := hp4.at_ kk hklt
        rw [d0] at d2; injection d2 with d2; injection d2 with _ _ d2; omega
      generalize gv l (kk : Int) = x at *
      generalize gv l ((kk : Int) + 1) = y at *
      clear t5 h1 h2 hr hl hllen hq hg hg2 hk8 hk82 hp4
      go_wp2_with fail
      refine hin.mono ?_; rintro e w4 ⟨rfl, rfl⟩
      go_wp2_with fail
      refine hin2.mono ?_; rintro e w4 ⟨rfl, rfl⟩
      go_upto_region 28 with fail
      have hk2i : (kk : Int) + 1 < (l.length : Int) := by omega
      have hk1i : (kk : Int) < (l.length : Int) := by omega
      have hk0i : (0 : Int) ≤ (kk : Int) + 1 := by omega
      go_still_tail 22, (by kernel_rfl)
      change wpList _ _ _ _ _ w3.drew
      obtain ⟨wd, hwd⟩ : ∃ wd, wd = w3.drew := ⟨_, rfl⟩
      have X5 := Lib.hid (show GX p q mb gb l m a ⟨g.n + 1, g.v, 0⟩ w N wd by rw [hwd]; exact X4.out.below (Go.Proofs.Ytickdmfcdfocmaa.kp.bdr w3))
      rw [← hwd]
      clear hwd hin hin2 hcell hcell2 d0 c0 c1 c2 c3 c4 f3 f4
      obtain ⟨⟨z0, z1, z2, z3, z4, z5⟩, y0, y1, y2, y3, y4, y5⟩ := blk_facts X5.out.zt
      go_wp2_with fail
      obtain ⟨W, hW, e0, e1, e2, e3, e4, e5, k6⟩ := res_fin X5.out.zt (.int .i64 4) (.string ⟨#[]⟩) (.int .i64 0) (.int .u64 x) (.int .u64 y) (.slice none 0 0)
      rw [hW]
      exact bodyPost_ret (v := .agg #[.int .i64 4, .string ⟨#[]⟩, .int .i64 0, .int .u64 x, .int .u64 y, .slice none 0 0]) (by simp [results, Try.results63, go_sem, e0, e1, e2, e3, e4, e5]) rfl (X5.out.fin (.int .i64 4) (.string ⟨#[]⟩) (.int .i64 0) (.int .u64 x) (.int .u64 y) (.slice none 0 0) k6 (by rw [hget.out]) (cpx_lies _ _ _ _ hw1.out hw2.out) (fun _ => by rw [hget.out]))
    · as_aux_lemma =>
      have hget := Lib.hid (show pm.get l a (r + 1) c g = (zero, ⟨g.n + 1, g.v, 2⟩) by rw [HGET.out, if_neg (by omega), if_neg (by omega), if_neg (by omega), if_neg (by omega), if_pos t5, if_neg (fun x => hg2 x.2)])
      simp only [Bool.not_eq_true] at hg2
      rw [hg] at hin
      rw [hg2] at hin2
      rw [t5]
      clear t5 h1 h2 hr hl hllen hq hg hp4 hg2
      go_wp2_with fail
      refine hin.mono ?_; rintro e w4 ⟨rfl, rfl⟩
      go_wp2_with fail
      refine hin2.mono ?_; rintro e w4 ⟨rfl, rfl⟩
      go_upto_region 39 with fail
      obtain ⟨w9, hw9⟩ : ∃ w9, w9 = w3.setCell ⟨gb, 4, none⟩ (.int .i64 2) := ⟨_, rfl⟩
      have X9 := Lib.hid (show GX p q mb gb l m a ⟨g.n + 1, g.v, 2⟩ w N w9 by rw [hw9]; exact X4.out.setE 2)
      rw [← hw9]
      clear hw9 c0 c1 c2 c3 c4 f3 f4
      obtain ⟨⟨z0, z1, z2, z3, z4, z5⟩, y0, y1, y2, y3, y4, y5⟩ := blk_facts X9.out.zt
      go_wp2_with fail
      obtain ⟨W, hW, e0, e1, e2, e3, e4, e5, k6⟩ := res_fin X9.out.zt (.int .i64 0) (.string ⟨#[]⟩) (.int .i64 0) (.int .u64 0) (.int .u64 0) (.slice none 0 0)
      rw [hW]
      exact bodyPost_ret (v := .agg #[.int .i64 0, .string ⟨#[]⟩, .int .i64 0, .int .u64 0, .int .u64 0, .slice none 0 0]) (by simp [results, Try.results63, go_sem, e0, e1, e2, e3, e4, e5]) rfl (X9.out.fin (.int .i64 0) (.string ⟨#[]⟩) (.int .i64 0) (.int .u64 0) (.int .u64 0) (.slice none 0 0) k6 (by rw [hget.out]) (zero_lies2 _ _) (fun h => absurd h (show ¬ (2 : Int) = 0 by decide)))
  · as_aux_lemma =>
    have hget := Lib.hid (show pm.get l a (r + 1) c g = (zero, ⟨g.n + 1, g.v, 2⟩) by rw [HGET.out, if_neg (by omega), if_neg (by omega), if_neg (by omega), if_neg (by omega), if_pos t5, if_neg (fun x => hg x.1)])
    simp only [Bool.not_eq_true] at hg
    rw [hg] at hin
    rw [t5]
    clear t5 h1 h2 hr hl hllen hq hg hp4 hin2
    go_wp2_with fail
    refine hin.mono ?_; rintro e w4 ⟨rfl, rfl⟩
    go_upto_region 39 with fail
    obtain ⟨w9, hw9⟩ : ∃ w9, w9 = w3.setCell ⟨gb, 4, none⟩ (.int .i64 2) := ⟨_, rfl⟩
    have X9 := Lib.hid (show GX p q mb gb l m a ⟨g.n + 1, g.v, 2⟩ w N w9 by rw [hw9]; exact X4.out.setE 2)
    rw [← hw9]
    clear hw9 c0 c1 c2 c3 c4 f3 f4
    obtain ⟨⟨z0, z1, z2, z3, z4, z5⟩, y0, y1, y2, y3, y4, y5⟩ := blk_facts X9.out.zt
    go_wp2_with fail
    obtain ⟨W, hW, e0, e1, e2, e3, e4, e5, k6⟩ := res_fin X9.out.zt (.int .i64 0) (.string ⟨#[]⟩) (.int .i64 0) (.int .u64 0) (.int .u64 0) (.slice none 0 0)
    rw [hW]
    exact bodyPost_ret (v := .agg #[.int .i64 0, .string ⟨#[]⟩, .int .i64 0, .int .u64 0, .int .u64 0, .slice none 0 0]) (by simp [results, Try.results63, go_sem, e0, e1, e2, e3, e4, e5]) rfl (X9.out.fin (.int .i64 0) (.string ⟨#[]⟩) (.int .i64 0) (.int .u64 0) (.int .u64 0) (.slice none 0 0) k6 (by rw [hget.out]) (zero_lies2 _ _) (fun h => absurd h (show ¬ (2 : Int) = 0 by decide)))
end Go.Proofs.Ytickdmfcdfocmaa.rgt
