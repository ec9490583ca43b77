/- The reference's get of any cell. -/
import Derived.Test.YtickdmfcdfocmaaRGetA
import Derived.LoopTactic
import Derived.Deep.LoopGhost
namespace Go.Proofs.Ytickdmfcdfocmaa.rgt
set_option linter.unusedVariables false
open Go.ChangeShapes Go.WideShapes Go.ChangeAt Go.RowKit Go.Maps
open Go.Proofs.Ytickdmfcdfocmaa.hp Go.Proofs.Ytickdmfcdfocmaa.cel Go.Proofs.Ytickdmfcdfocmaa.kp Go.Proofs.Ytickdmfcdfocmaa.ob Go.Proofs.Ytickdmfcdfocmaa.pm Go.Proofs.Ytickdmfcdfocmaa.tm Go.Proofs.Ytickdmfcdfocmaa.rpt Go.Proofs.Ytickdmfcdfocmaa.lie Go.Proofs.Ytickdmfcdfocmaa.cur Go.Proofs.Ytickdmfcdfocmaa.pla Go.Proofs.Ytickdmfcdfocmaa.pln Go.Proofs.Ytickdmfcdfocmaa.wlk
set_option maxRecDepth 100000 in
set_option maxHeartbeats 4000000 in
theorem rget_leaf (p q mb gb : Nat) (l : List Int) (m : Int) (a : List ByteArray) (ha : a.length ≤ 4096) (hnames : ∀ x ∈ a, x.size ≤ 9223372036854775807) (r : Nat) (c : Int) (g : G) (w : World) (N : Nat → Prop) (h : GB p q mb gb l m a g w N) (hc : W64 c) (hr : r + 1 ≤ 500) (he : g.e = 0) (hl : ¬ 2000 ≤ g.n) (u0 : dr l l.length c % 8 ≠ 0) (u1 : dr l l.length c % 8 ≠ 1) (u5 : dr l l.length c % 8 ≠ 5) :
    Calls Try.prog 63 #[.pointer (some ⟨gb, 0, none⟩), .int .u64 c, .int .i64 (501 - ((r + 1 : Nat) : Int))] w (GetsR p q mb gb l m a (r + 1) c g w N) := by
  obtain ⟨w1, hw1⟩ : ∃ w1, w1 = w.alloc ZT := ⟨_, rfl⟩
  have X1 := Lib.hid (show GX p q mb gb l m a g w N w1 by rw [hw1]; exact GX.start h)
  have HW1 := Lib.hid hw1
  have HE := Lib.hid he
  obtain ⟨F, hp⟩ := h.heap
  have hllen := hp.len_le
  have HWF := Lib.hid hp.wf
  have HD := Lib.hid (dr_w hp.wf l.length c hc)
  obtain ⟨d, hd⟩ : ∃ d, d = dr l l.length c := ⟨_, rfl⟩
  rw [← hd] at HD u0 u1 u5
  have HDD := Lib.hid hd
  have HGET := Lib.hid (get_succ (r := r) (a := a) he hl hd)
  have HC := Lib.hid hc
  have h1 : ¬ 2000 < (g.n : Int) + 1 := by omega
  have h2 : ¬ 500 < 501 - ((r + 1 : Nat) : Int) := by omega
  clear h he hw1 hp hd hc
  go_enter Try.func63, Try.ntmps63
  go_upto_region 1 with fail
  change Code.wp _ _ _ _ (w.alloc ZT)
  rw [← HW1.out]
  obtain ⟨⟨c0, c1, c2, c3, c4⟩, f3, f4⟩ := X1.out.gb.cells
  rw [HE.out] at c4
  go_upto_region 4 with fail
  obtain ⟨w2, hw2⟩ : ∃ w2, w2 = w1.setCell ⟨gb, 3, none⟩ (.int .i64 ((g.n : Int) + 1)) := ⟨_, rfl⟩
  have X2 := Lib.hid (show GX p q mb gb l m a ⟨g.n + 1, g.v, g.e⟩ w N w2 by rw [hw2]; exact X1.out.setN (g.n + 1))
  rw [← hw2]
  clear hw2 c0 c1 c2 c3 c4 f3 f4 X1
  obtain ⟨⟨c0, c1, c2, c3, c4⟩, f3, f4⟩ := X2.out.gb.cells
  dsimp only at c3 c4
  rw [HE.out] at c4
  obtain ⟨F2, hp2⟩ := X2.out.gb.heap
  have hdr := rderef_any hp2 c HC.out
  rw [← HDD.out] at hdr
  go_wp2_with fail
  refine hdr.mono ?_; rintro e w3 ⟨rfl, nd, hw3⟩
  have X3 := Lib.hid (show GX p q mb gb l m a ⟨g.n + 1, g.v, g.e⟩ w N w3 by rw [hw3]; exact X2.out.below (drewN_below w2 nd))
  clear hw3 hdr hp2 c0 c1 c2 c3 c4 f3 f4 X2
  obtain ⟨⟨c0, c1, c2, c3, c4⟩, f3, f4⟩ := X3.out.gb.cells
  dsimp only at c3 c4
  rw [HE.out] at c4
  go_wp2_with fail
  refine (rvalue_any d _ HD.out).mono ?_; rintro e w' ⟨rfl, rfl⟩
  go_wp2_with fail
  refine (rtag_any d _ HD.out).mono ?_; rintro e w' ⟨rfl, rfl⟩
  have X4 : Hid (GX p q mb gb l m a ⟨g.n + 1, g.v, 0⟩ w N w3) := by have := X3.out; rw [HE.out] at this; exact Lib.hid this
  clear X3
  by_cases t3 : d % 8 = 3
  · as_aux_lemma =>
    have hget := Lib.hid (show pm.get l a (r + 1) c g = (.mk 3 tm.E (sg d) 0 0 [], ⟨g.n + 1, g.v, 0⟩) by rw [HGET.out, if_neg (by omega), if_neg (by omega), if_pos t3])
    rw [t3]
    clear t3 h1 h2 hr hl hllen u0 u1 u5
    go_wp2_with fail
    refine (rint_any d _ HD.out).mono ?_; rintro e w' ⟨rfl, rfl⟩
    go_wp2_with fail
    refine (rInt_any _ _).mono ?_; rintro e w5 ⟨rfl, hb5⟩
    have X5 := Lib.hid (X4.out.below hb5)
    clear hb5 c0 c1 c2 c3 c4 f3 f4
    obtain ⟨⟨z0, z1, z2, z3, z4, z5⟩, y0, y1, y2, y3, y4, y5⟩ := blk_facts X5.out.zt
    go_wp2_with fail
    obtain ⟨W, hW, e0, e1, e2, e3, e4, e5, k6⟩ := res_fin X5.out.zt (.int .i64 3) (.string ⟨#[]⟩) (.int .i64 (sg d)) (.int .u64 0) (.int .u64 0) (.slice none 0 0)
    rw [hW]
    exact bodyPost_ret (v := .agg #[.int .i64 3, .string ⟨#[]⟩, .int .i64 (sg d), .int .u64 0, .int .u64 0, .slice none 0 0]) (by simp [results, Try.results63, go_sem, e0, e1, e2, e3, e4, e5]) rfl (X5.out.fin (.int .i64 3) (.string ⟨#[]⟩) (.int .i64 (sg d)) (.int .u64 0) (.int .u64 0) (.slice none 0 0) k6 (by rw [hget.out]) (int_lies _ _ _ (sg_i HD.out)) (fun _ => by rw [hget.out]))
  by_cases t2 : d % 8 = 2
  · have hq : 0 ≤ d / 8 ∧ d / 8 < 2305843009213693952 := by have := HD.out.1; have := HD.out.2; omega
    have hnm := rname_any X4.out.gb (d / 8) hq.1 hq.2 (by omega)
    by_cases hlt : d / 8 < (a.length : Int)
    · as_aux_lemma =>
      have hget := Lib.hid (show pm.get l a (r + 1) c g = (atom (a.getD (d / 8).toNat ByteArray.empty), ⟨g.n + 1, g.v, 0⟩) by rw [HGET.out, if_neg (by omega), if_pos t2, if_pos hlt])
      rw [if_pos hlt, if_pos hlt] at hnm
      have HNS := Lib.hid (hnames (a.getD (d / 8).toNat ByteArray.empty) (getD_mem' (by omega)))
      rw [t2]
      generalize a.getD (d / 8).toNat ByteArray.empty = sN at *
      clear t2 h1 h2 hr hl hllen u0 u1 u5 t3 hq hlt ha hnames
      go_wp2_with fail
      refine hnm.mono ?_; rintro e w4 ⟨rfl, hgb, hk4⟩
      have X5 := Lib.hid (X4.out.step hgb hk4)
      clear hnm hgb hk4 c0 c1 c2 c3 c4 f3 f4
      go_wp2_with fail
      refine (Go.Proofs.Ytickdmfcdfocmaa.awk.rAtom_any sN _).mono ?_; rintro e w5 ⟨rfl, hb5⟩
      have X6 := Lib.hid (X5.out.below hb5)
      clear hb5
      obtain ⟨⟨z0, z1, z2, z3, z4, z5⟩, y0, y1, y2, y3, y4, y5⟩ := blk_facts X6.out.zt
      go_wp2_with fail
      obtain ⟨W, hW, e0, e1, e2, e3, e4, e5, k6⟩ := res_fin X6.out.zt (.int .i64 2) (.string sN) (.int .i64 0) (.int .u64 0) (.int .u64 0) (.slice none 0 0)
      rw [hW]
      exact bodyPost_ret (v := .agg #[.int .i64 2, .string sN, .int .i64 0, .int .u64 0, .int .u64 0, .slice none 0 0]) (by simp [results, Try.results63, go_sem, e0, e1, e2, e3, e4, e5]) rfl (X6.out.fin (.int .i64 2) (.string sN) (.int .i64 0) (.int .u64 0) (.int .u64 0) (.slice none 0 0) k6 (by rw [hget.out]) (Go.Proofs.Ytickdmfcdfocmaa.awk.atom_lies _ _ _ HNS.out) (fun _ => by rw [hget.out]))
    · as_aux_lemma =>
      have hget := Lib.hid (show pm.get l a (r + 1) c g = (zero, ⟨g.n + 1, g.v, 2⟩) by rw [HGET.out, if_neg (by omega), if_pos t2, if_neg hlt])
      rw [if_neg hlt, if_neg hlt] at hnm
      rw [t2]
      clear t2 h1 h2 hr hl hllen u0 u1 u5 t3 hq hlt ha hnames
      go_wp2_with fail
      refine hnm.mono ?_; rintro e w4 ⟨rfl, hgb, hk4⟩
      have X5 := Lib.hid (X4.out.step hgb hk4)
      clear hnm hgb hk4 c0 c1 c2 c3 c4 f3 f4
      go_wp2_with fail
      refine (Go.Proofs.Ytickdmfcdfocmaa.awk.rAtom_any ⟨#[]⟩ _).mono ?_; rintro e w5 ⟨rfl, hb5⟩
      have X6 := Lib.hid (X5.out.below hb5)
      clear hb5
      obtain ⟨⟨z0, z1, z2, z3, z4, z5⟩, y0, y1, y2, y3, y4, y5⟩ := blk_facts X6.out.zt
      go_wp2_with fail
      obtain ⟨W, hW, e0, e1, e2, e3, e4, e5, k6⟩ := res_fin X6.out.zt (.int .i64 2) (.string ⟨#[]⟩) (.int .i64 0) (.int .u64 0) (.int .u64 0) (.slice none 0 0)
      rw [hW]
      exact bodyPost_ret (v := .agg #[.int .i64 2, .string ⟨#[]⟩, .int .i64 0, .int .u64 0, .int .u64 0, .slice none 0 0]) (by simp [results, Try.results63, go_sem, e0, e1, e2, e3, e4, e5]) rfl (X6.out.fin (.int .i64 2) (.string ⟨#[]⟩) (.int .i64 0) (.int .u64 0) (.int .u64 0) (.slice none 0 0) k6 (by rw [hget.out]) (Go.Proofs.Ytickdmfcdfocmaa.awk.atom_lies _ _ _ (by decide)) (fun h => absurd h (show ¬ (2 : Int) = 0 by decide)))
  by_cases t67 : d % 8 = 6 ∨ d % 8 = 7
  · as_aux_lemma =>
    have hget := Lib.hid (show pm.get l a (r + 1) c g = (zero, ⟨g.n + 1, g.v, 2⟩) by rw [HGET.out, if_neg (by omega), if_neg (by omega), if_neg (by omega), if_neg (by omega), if_neg (by omega), if_neg (by omega)])
    obtain ⟨T, hT⟩ : ∃ T, T = d % 8 := ⟨_, rfl⟩
    rw [← hT]
    have q0 : (T == 0) = false := by simp; omega
    have q1 : (T == 1) = false := by simp; omega
    have q2 : (T == 2) = false := by simp; omega
    have q3 : (T == 3) = false := by simp; omega
    have q4 : (T == 4) = false := by simp; omega
    have q5 : (T == 5) = false := by simp; omega
    clear t67 t2 t3 h1 h2 hr hl hllen u0 u1 u5 hT ha hnames
    go_upto_region 39 with fail
    obtain ⟨w9, hw9⟩ : ∃ w9, w9 = w3.setCell ⟨gb, 4, none⟩ (.int .i64 2) := ⟨_, rfl⟩
    have X9 := Lib.hid (show GX p q mb gb l m a ⟨g.n + 1, g.v, 2⟩ w N w9 by rw [hw9]; exact X4.out.setE 2)
    rw [← hw9]
    clear hw9 c0 c1 c2 c3 c4 f3 f4
    obtain ⟨⟨z0, z1, z2, z3, z4, z5⟩, y0, y1, y2, y3, y4, y5⟩ := blk_facts X9.out.zt
    go_wp2_with fail
    obtain ⟨W, hW, e0, e1, e2, e3, e4, e5, k6⟩ := res_fin X9.out.zt (.int .i64 0) (.string ⟨#[]⟩) (.int .i64 0) (.int .u64 0) (.int .u64 0) (.slice none 0 0)
    rw [hW]
    exact bodyPost_ret (v := .agg #[.int .i64 0, .string ⟨#[]⟩, .int .i64 0, .int .u64 0, .int .u64 0, .slice none 0 0]) (by simp [results, Try.results63, go_sem, e0, e1, e2, e3, e4, e5]) rfl (X9.out.fin (.int .i64 0) (.string ⟨#[]⟩) (.int .i64 0) (.int .u64 0) (.int .u64 0) (.slice none 0 0) k6 (by rw [hget.out]) (zero_lies2 _ _) (fun h => absurd h (show ¬ (2 : Int) = 0 by decide)))
  by_cases t4 : d % 8 = 4
  · have hq : 0 ≤ d / 8 ∧ d / 8 < 2305843009213693952 := by have := HD.out.1; have := HD.out.2; omega
    obtain ⟨F4, hp4⟩ := X4.out.gb.heap
    have hin := rin_any hp4 (d / 8) hq.1
    by_cases hg : Go.Proofs.Ytickdmfcdfocmaa.hp.gb l (d / 8) = true
    · as_aux_lemma =>
      have hget := Lib.hid (show pm.get l a (r + 1) c g = (.mk 3 tm.E (wrap64 (gv l (d / 8))) 0 0 [], ⟨g.n + 1, g.v, 0⟩) by rw [HGET.out, if_neg (by omega), if_neg (by omega), if_neg (by omega), if_pos t4, if_pos hg])
      obtain ⟨gg, kk, cp, hk8, d0, hklt, hcell⟩ := at_slice hp4 (d / 8) hg
      rw [hg] at hin
      rw [t4]
      rw [hk8] at hin hcell hget ⊢
      have hcap : l.length ≤ cp := by
        obtain ⟨_, cp2, d2, _, _, _, _, hc2, _⟩ := hp4.at_ kk hklt
        rw [d0] at d2; injection d2 with d2; injection d2 with _ _ d2; omega
      generalize gv l (kk : Int) = x at *
      clear t4 h1 h2 hr hl hllen u0 u1 u5 t3 hq ha hnames hg hk8 hp4 t2 t67
      go_wp2_with fail
      refine hin.mono ?_; rintro e w4 ⟨rfl, rfl⟩
      go_wp2_with fail
      refine (rInt_any _ _).mono ?_; rintro e w5 ⟨rfl, hb5⟩
      have X5 := Lib.hid (X4.out.below hb5)
      clear hb5 hin c0 c1 c2 c3 c4 f3 f4
      obtain ⟨⟨z0, z1, z2, z3, z4, z5⟩, y0, y1, y2, y3, y4, y5⟩ := blk_facts X5.out.zt
      go_wp2_with fail
      obtain ⟨W, hW, e0, e1, e2, e3, e4, e5, k6⟩ := res_fin X5.out.zt (.int .i64 3) (.string ⟨#[]⟩) (.int .i64 (wrap64 x)) (.int .u64 0) (.int .u64 0) (.slice none 0 0)
      rw [hW]
      exact bodyPost_ret (v := .agg #[.int .i64 3, .string ⟨#[]⟩, .int .i64 (wrap64 x), .int .u64 0, .int .u64 0, .slice none 0 0]) (by simp [results, Try.results63, go_sem, e0, e1, e2, e3, e4, e5]) rfl (X5.out.fin (.int .i64 3) (.string ⟨#[]⟩) (.int .i64 (wrap64 x)) (.int .u64 0) (.int .u64 0) (.slice none 0 0) k6 (by rw [hget.out]) (int_lies _ _ _ (by unfold I64 wrap64; omega)) (fun _ => by rw [hget.out]))
    · as_aux_lemma =>
      have hget := Lib.hid (show pm.get l a (r + 1) c g = (zero, ⟨g.n + 1, g.v, 2⟩) by rw [HGET.out, if_neg (by omega), if_neg (by omega), if_neg (by omega), if_pos t4, if_neg hg])
      simp only [Bool.not_eq_true] at hg
      rw [hg] at hin
      rw [t4]
      clear t4 h1 h2 hr hl hllen u0 u1 u5 t3 hq ha hnames hg hp4 t2 t67
      go_wp2_with fail
      refine hin.mono ?_; rintro e w4 ⟨rfl, rfl⟩
      go_upto_region 39 with fail
      obtain ⟨w9, hw9⟩ : ∃ w9, w9 = w3.setCell ⟨gb, 4, none⟩ (.int .i64 2) := ⟨_, rfl⟩
      have X9 := Lib.hid (show GX p q mb gb l m a ⟨g.n + 1, g.v, 2⟩ w N w9 by rw [hw9]; exact X4.out.setE 2)
      rw [← hw9]
      clear hw9 c0 c1 c2 c3 c4 f3 f4
      obtain ⟨⟨z0, z1, z2, z3, z4, z5⟩, y0, y1, y2, y3, y4, y5⟩ := blk_facts X9.out.zt
      go_wp2_with fail
      obtain ⟨W, hW, e0, e1, e2, e3, e4, e5, k6⟩ := res_fin X9.out.zt (.int .i64 0) (.string ⟨#[]⟩) (.int .i64 0) (.int .u64 0) (.int .u64 0) (.slice none 0 0)
      rw [hW]
      exact bodyPost_ret (v := .agg #[.int .i64 0, .string ⟨#[]⟩, .int .i64 0, .int .u64 0, .int .u64 0, .slice none 0 0]) (by simp [results, Try.results63, go_sem, e0, e1, e2, e3, e4, e5]) rfl (X9.out.fin (.int .i64 0) (.string ⟨#[]⟩) (.int .i64 0) (.int .u64 0) (.int .u64 0) (.slice none 0 0) k6 (by rw [hget.out]) (zero_lies2 _ _) (fun h => absurd h (show ¬ (2 : Int) = 0 by decide)))
  exfalso; omega
end Go.Proofs.Ytickdmfcdfocmaa.rgt
