/- The reference's Items, SameTerms. -/
import Derived.Test.YtjgkgceigbimoaaItm
namespace Go.Proofs.Ytjgkgceigbimoaa.itm
set_option linter.unusedVariables false
open Go.ChangeShapes Go.WideShapes Go.ChangeAt Go.RowKit
open Go.Proofs.Ytjgkgceigbimoaa.tm Go.Proofs.Ytjgkgceigbimoaa.lie Go.Proofs.Ytjgkgceigbimoaa.kp Go.Proofs.Ytjgkgceigbimoaa.cur Go.Proofs.Ytjgkgceigbimoaa.rws Go.Proofs.Ytjgkgceigbimoaa.pla Go.Proofs.Ytjgkgceigbimoaa.wlk Go.Proofs.Ytjgkgceigbimoaa.pln Go.Proofs.Ytjgkgceigbimoaa.ow6 Go.Proofs.Ytjgkgceigbimoaa.awk Go.Proofs.Ytjgkgceigbimoaa.lst Go.Proofs.Ytjgkgceigbimoaa.rcn Go.Proofs.Ytjgkgceigbimoaa.rsm Go.Proofs.Ytjgkgceigbimoaa.rpl Go.Proofs.Ytjgkgceigbimoaa.sme Go.Proofs.Ytjgkgceigbimoaa.rmy
theorem ritems_bad (t : Tm) (L : List Tm) (v : Value) (w : World) (ht : Lies No w t v) (hg : good t = false) : Calls Try.prog 9 #[v] w (ToldI [] zero w) := by
  have hne : (may t != 0) = true := by rw [bne_iff_ne]; have := may_nogood hg; omega
  have HT := Lib.hid ht
  obtain ⟨k, n, i, re, im, l⟩ := t
  rw [Lies] at ht
  obtain ⟨a, c, rfl, hf, hr⟩ := ht
  clear hf hr hg
  go_enter Try.func9, Try.ntmps9
  go_wp2_with fail
  refine (rMay_any _ _ _ (HT.out.below (ba _ _))).mono ?_
  rintro e w1 ⟨rfl, hb⟩
  have HB := Lib.hid (bt (ba _ _) hb)
  clear hb
  go_wp2_with fail
  go_ret2
  exact ⟨HB.out, Or.inr ⟨nilB_no (by simp [zero, Tm.kind]), rfl⟩⟩
def KRel (b B : Nat) (w : World) (L : List Tm) (E : Tm) (g : Nat) (s4 : Value) (wr : World) : Prop :=
  ∃ (D R : List Tm) (cur : Tm) (kq : Int) (nq : ByteArray) (iq rq mq : Int) (aq : Option Addr) (lq cq : Nat), D ++ R = L ∧ g = R.length ∧ XOwn (fun q => q = b) B (D.map plain) s4 wr ∧ Sp cur R E ∧
    wr.heap[b]? = some (.cells #[.int .i64 kq, .string nq, .int .i64 iq, .int .u64 rq, .int .u64 mq, .slice aq lq cq] 25 (0, 0)) ∧
    Lies (fun q => q = b ∨ B ≤ q) wr cur (.agg #[.int .i64 kq, .string nq, .int .i64 iq, .int .u64 rq, .int .u64 mq, .slice aq lq cq]) ∧ Below w.heap.size w wr ∧ B ≤ wr.heap.size ∧ good cur = true
theorem good_pair {n : ByteArray} {i re im : Int} {x r : Tm} (hg : good (.mk 5 n i re im [x, r]) = true) : good x = true ∧ good r = true := by
  simp only [good, size, height, sound, sizeL, heightL, soundL, if_true, Bool.and_eq_true, decide_eq_true_eq] at hg
  obtain ⟨⟨h1, h2⟩, _, h3, h4, _⟩ := hg
  constructor <;> simp only [good, Bool.and_eq_true, decide_eq_true_eq]
  · exact ⟨⟨by omega, by omega⟩, h3⟩
  · exact ⟨⟨by omega, by omega⟩, h4⟩
set_option maxRecDepth 100000 in
set_option maxHeartbeats 2000000 in
theorem ritems_good (t : Tm) (L : List Tm) (E : Tm) (v : Value) (w : World) (ht : Lies No w t v) (hg : good t = true) (hp : Sp t L E) (hL : L.length ≤ 2000) : Calls Try.prog 9 #[v] w (ToldI (L.map plain) E w) := by
  obtain ⟨T, hT⟩ : ∃ T, T = t := ⟨_, rfl⟩
  have HT := Lib.hid (show Lies No w T v from hT ▸ ht)
  have HP := Lib.hid (show Sp T L E from hT ▸ hp)
  have HG := Lib.hid (show good T = true from hT ▸ hg)
  obtain ⟨k, n, i, re, im, l⟩ := t
  rw [Lies] at ht
  obtain ⟨a, c, rfl, hf, hr⟩ := ht
  obtain ⟨ij, hi1, hi2, hi3, hi4⟩ := info_t
  have HI := Lib.hid (And.intro hi1 (And.intro hi2 (And.intro hi3 hi4)))
  clear hf hr hT hp hg hi1 hi2 hi3 hi4
  go_enter Try.func9, Try.ntmps9
  go_wp2_with fail
  refine (rmay_ok HG.out _ _ (HT.out.below (ba _ _))).mono ?_
  rintro e w2 ⟨rfl, hb2⟩
  have hs2 := hb2.size
  have hx2 := (hb2.block w.heap.size (by rw [alloc_size]; omega)).trans (alloc_at w _)
  have hlt2 := (Array.getElem?_eq_some_iff.1 hx2).1
  have HB := Lib.hid (And.intro (bt (ba _ _) hb2) (And.intro ((HT.out.below (ba _ _)).below hb2) hx2))
  have HTW := Lib.hid (show Lies (fun q => q = w.heap.size ∨ w2.heap.size ≤ q) w2 T (.agg #[.int .i64 k, .string n, .int .i64 i, .int .u64 re, .int .u64 im, .slice a l.length c]) from
    (((HT.out.off (Y := fun q => w.heap.size ≤ q) fun b h1 h2 => absurd h1 (by omega)).below (ba _ _)).below hb2).off fun q _ h => by rcases h with h | h <;> omega)
  clear hb2 hx2
  go_wp2_with fail
  go_loopg [4] L.length (KRel w.heap.size w2.heap.size w L E)
  case atStart => exact ⟨[], L, T, k, n, i, re, im, a, l.length, c, rfl, rfl, XOwn.nil _ _ _, HP.out, HB.out.2.2, HTW.out, HB.out.1, Nat.le_refl _, HG.out⟩
  case round =>
    obtain ⟨D, R, cur, kq, nq, iq, rq, mq, aq, lq, cq, hDR, hgk, hown, hsp, hbox, hli, hb, hB, hgc⟩ := hrel
    have hcons := cons_any cur _ wr (hli.off (Y := No) fun _ _ h => h.elim)
    have hnil := fun w => nil_any (w := w) cur (.agg #[.int .i64 kq, .string nq, .int .i64 iq, .int .u64 rq, .int .u64 mq, .slice aq lq cq])
    obtain ⟨⟨e0, e1, e2, e3, e4, e5⟩, _⟩ := blk_facts hbox
    have hlt1 : w.heap.size < w2.heap.size := hlt2
    cases hsp with
    | step i' re' im' x0 r0 R' _ hsp =>
      rw [show consB (.mk 5 DOT i' re' im' [x0, r0]) = true from (consB_iff _).2 ⟨rfl, rfl, rfl⟩] at hcons
      obtain ⟨gx, gr⟩ := good_pair hgc
      rw [Lies] at hli
      obtain ⟨a1, c1, hv, _, hrow⟩ := hli
      simp only [Value.agg.injEq, Array.mk.injEq, List.cons.injEq, Value.int.injEq, Value.string.injEq, Value.slice.injEq, and_true, true_and] at hv
      obtain ⟨rfl, rfl, rfl, rfl, rfl, rfl, rfl, rfl⟩ := hv
      obtain ⟨b1, o1, v0, v1, v2, v3, v4, v5, _, hx1, h6, hlx, hix⟩ := hrow.look (m := 0) (by simp)
      obtain ⟨b2, o2, u0, u1, u2, u3, u4, u5, _, hx2, h62, hlx2, hix2⟩ := hrow.look (m := 1) (by simp)
      have hix' := hix cq
      have hix2' := hix2 cq
      simp only [List.length_cons, List.length_nil, List.getElem_cons_zero, List.getElem_cons_succ, Int.natCast_zero, Int.natCast_one, Nat.zero_add, Nat.reduceAdd] at hix' hix2' hlx hlx2
      obtain ⟨kp, np, ip, rp, mp, lp, ap, cp, hv, _⟩ := lies_form hlx
      obtain ⟨rfl, rfl, rfl, rfl, rfl, rfl⟩ := hv
      obtain ⟨kz, nz, iz, rz, mz, lz, az, cz, hv, _⟩ := lies_form hlx2
      obtain ⟨rfl, rfl, rfl, rfl, rfl, rfl⟩ := hv
      obtain ⟨a3, c3, rfl, hl3, hc3, _⟩ := hown.row (Y := No) fun _ h => h.elim
      obtain ⟨kk, hkk⟩ : ∃ kk, kk = (D.map plain).length := ⟨_, rfl⟩
      rw [← hkk] at hown hl3 ⊢
      have hk9 : kk ≤ 2000 := by have := congrArg List.length hDR; rw [List.length_append] at this; rw [List.length_map] at hkk; omega
      have HKK := Lib.hid hkk
      have hnb2 : b2 < w2.heap.size := by have : ¬ (b2 = w.heap.size ∨ w2.heap.size ≤ b2) := hx2; omega
      have hnb1 : b1 < w2.heap.size := by have : ¬ (b1 = w.heap.size ∨ w2.heap.size ≤ b1) := hx1; omega
      have HX := Lib.hid (And.intro hown (And.intro hbox (And.intro hlx (And.intro hlx2 (And.intro hb (And.intro hB (And.intro hsp (And.intro hDR (And.intro gx (And.intro gr (And.intro h6 h62)))))))))))
      clear hown hbox hlx hlx2 hb hB hsp hDR gx gr h6 h62 hrow hx1 hx2 hix hix2 hl3 hc3 hkk hgc hnil
      go_wp2_with fail
      refine hcons.mono ?_
      rintro e w4 ⟨rfl, hb4⟩
      clear hcons e0 e1 e2 e3 e4 e5
      have hs4 := hb4.size
      have hB4 := HX.out.2.2.2.2.2.1
      have hbox4 := (hb4.block w.heap.size (by omega)).trans HX.out.2.1
      have hown4 := HX.out.1.below hb4
      have h64 := HX.out.2.2.2.2.2.2.2.2.2.2.1.keep (X := No) (Keep.of_below hb4) id
      obtain ⟨⟨e0, e1, e2, e3, e4, e5⟩, _⟩ := blk_facts hbox4
      obtain ⟨g0, g1, g2, g3, g4, g5⟩ := h64
      have H4 := Lib.hid (And.intro hb4 (And.intro hbox4 hown4))
      clear hb4 hbox4 hown4
      go_wp2_with fail
      refine (rplain_any x0 _ _ ((HX.out.2.2.1.below H4.out.1).off (Y := No) fun _ _ h => h.elim) (good_sound HX.out.2.2.2.2.2.2.2.2.1)).mono ?_
      rintro e w5 ⟨ky, ny, iy, ry, my, ay, ly, cy, rfl, hb5, hq⟩
      have hs5 := hb5.size
      have hbox5 := (hb5.block w.heap.size (by omega)).trans H4.out.2.1
      have hown5 := H4.out.2.2.below hb5
      obtain ⟨xs, ho, hx⟩ := hown5.ex
      rw [← HKK.out] at ho
      have hown5' := hown5
      obtain ⟨⟨e0', e1', e2', e3', e4', e5'⟩, _⟩ := blk_facts hbox5
      have H5 := Lib.hid (And.intro hb5 (And.intro hq (And.intro hbox5 (And.intro ho hx))))
      have hB5 : w2.heap.size ≤ w5.heap.size := by omega
      clear hb5 hq hbox5 hown5 hown5' ho hx e0 e1 e2 e3 e4 e5 g0 g1 g2 g3 g4 g5
      go_wp2_with (at_builtin; refine wpList_append_lies _ rfl (.tmp 10) (.tmp 16) 22 rfl w2.heap.size 25 ij ZV 6 72 Try.underlying22 HI.out.1 HI.out.2.1 HI.out.2.2.1 HI.out.2.2.2 rfl (by decide) _ kk xs rfl (row6_keep H5.out.2.2.2.1 fun q e => (ba _ _).block q (H5.out.2.2.2.1.lt q e).2) ⟨w5.heap.size, 0, none⟩ 1 1 [.int .i64 ky, .string ny, .int .i64 iy, .int .u64 ry, .int .u64 my, .slice ay ly cy] rfl rfl (news6 _ _ _ _ _ _ _ _) ?ac1 (by omega) ?ac2 ?ac3 ?ac4 _ rfl ?_)
      case ac1 => intro u hu; simp only [List.mem_cons, List.not_mem_nil, or_false] at hu; rcases hu with rfl | rfl | rfl | rfl | rfl | rfl <;> rfl
      case ac2 => unfold maxLen; omega
      case ac3 => omega
      case ac4 => rw [alloc_size]; omega
      intro g' c' w9 ho9 hg9 ha9 hl9
      have hlen : (D.map plain).length = kk := HKK.out.symm
      have hadd := XOwn.add (Z := fun q => q = w.heap.size) (t := plain x0) H5.out.2.2.2.2 (by rw [hlen]; exact H5.out.2.2.2.1) (H5.out.2.1.off fun q hq e => by
        show q < w4.heap.size
        rcases e with e | e
        · omega
        · obtain ⟨ys, hy, _⟩ := HX.out.1.ex
          have := (hy.lt q e).2; omega) (by rw [hlen]; exact ho9) hg9 (ha9.imp id fun e => by omega)
      have hkp := hadd.2
      have hno : ∀ q, q < w2.heap.size → ¬ (Value.slice a3 kk c3).ownBlock = some q := fun q hq e => by have := (H5.out.2.2.2.1.lt q e).1; omega
      have hbox9 := (hkp.block w.heap.size (by omega) (hno _ hlt1)).trans H5.out.2.2.1
      have h625 := (HX.out.2.2.2.2.2.2.2.2.2.2.2.keep (X := No) (Keep.of_below H4.out.1) id).keep (X := No) (Keep.of_below H5.out.1) id
      obtain ⟨f0, f1, f2, f3, f4, f5⟩ := h625
      have hbl2 : b2 < w5.heap.size := by omega
      have q0 := (hkp.cell (o := o2) hbl2 (hno _ hnb2)).trans f0
      have q1 := (hkp.cell (o := o2 + 1) hbl2 (hno _ hnb2)).trans f1
      have q2 := (hkp.cell (o := o2 + 2) hbl2 (hno _ hnb2)).trans f2
      have q3 := (hkp.cell (o := o2 + 3) hbl2 (hno _ hnb2)).trans f3
      have q4 := (hkp.cell (o := o2 + 4) hbl2 (hno _ hnb2)).trans f4
      have q5 := (hkp.cell (o := o2 + 5) hbl2 (hno _ hnb2)).trans f5
      rw [List.length_append, hlen, List.length_singleton] at hadd
      have H9 := Lib.hid (And.intro hadd.1 (And.intro hbox9 hkp))
      obtain ⟨⟨z0, z1, z2, z3, z4, z5⟩, y0, y1, y2, y3, y4, y5⟩ := blk_facts hbox9
      clear ho9 hg9 ha9 hl9 hadd hkp hno hbox9 e0' e1' e2' e3' e4' e5' f0 f1 f2 f3 f4 f5
      go_wp2_with fail
      obtain ⟨W9, hW9, hboxW, k6⟩ := box_set H9.out.2.1 (.int .i64 kz) (.string nz) (.int .i64 iz) (.int .u64 rz) (.int .u64 mz) (.slice az lz cz)
      rw [hW9]
      go_roundg R'.length
      case measure => rw [hgk]; simp
      case rel =>
        have hs9 := H9.out.2.2.size
        have hli2 : Lies (fun q => q = w.heap.size ∨ w2.heap.size ≤ q) w5 r0 (.agg #[.int .i64 kz, .string nz, .int .i64 iz, .int .u64 rz, .int .u64 mz, .slice az lz cz]) := (HX.out.2.2.2.1.below H4.out.1).below H5.out.1
        refine ⟨D ++ [x0], R', r0, kz, nz, iz, rz, mz, az, lz, cz, by rw [List.append_assoc]; exact HX.out.2.2.2.2.2.2.2.1, rfl, ?_, HX.out.2.2.2.2.2.2.1, hboxW, ?_, ?_, ?_, HX.out.2.2.2.2.2.2.2.2.2.1⟩
        · rw [List.map_append]
          exact H9.out.1.keep k6 (fun q h => ⟨h, by subst h; exact hlt1⟩)
        · exact Lies.keep (k6.mono (G := fun q => q = w.heap.size ∨ w2.heap.size ≤ q) fun q h => Or.inl h) (fun _ _ => id) _ _ (Lies.keep (H9.out.2.2.mono (G := fun q => q = w.heap.size ∨ w2.heap.size ≤ q) fun q h => Or.inr (H5.out.2.2.2.1.lt q h).1) (fun _ _ => id) _ _ hli2)
        · have hbb := (HX.out.2.2.2.2.1.trans (H4.out.1.mono HX.out.2.2.2.2.1.size)).trans (H5.out.1.mono (by have := HX.out.2.2.2.2.1.size; omega))
          exact (hbb.trans (H9.out.2.2.to_below (fun q h => by have := (H5.out.2.2.2.1.lt q h).1; omega) hbb.size)).trans (k6.to_below (fun q h => by subst h; omega) (by have := hbb.size; omega))
        · have := k6.size; omega
    | stop _ hc =>
      have hD : D = L := by simpa using hDR
      subst hD
      rw [hc] at hcons
      have HL := Lib.hid (hli.off (Y := No) fun _ _ h => h.elim)
      obtain ⟨a3, c3, rfl, h1, h2, hrow⟩ := hown.row (Y := No) fun _ h => h.elim
      have HX := Lib.hid (And.intro hown (And.intro hbox (And.intro hb (And.intro hB h1))))
      clear hown hbox hb hB h1 h2 hrow hgk hDR hli hgc
      go_wp2_with fail
      refine hcons.mono ?_
      rintro e w4 ⟨rfl, hb4⟩
      have hbox4 := (hb4.block w.heap.size (by have := HX.out.2.2.2.1; omega)).trans HX.out.2.1
      obtain ⟨⟨z0, z1, z2, z3, z4, z5⟩, _⟩ := blk_facts hbox4
      have H4 := Lib.hid hb4
      have hn4 := hnil w4 (HL.out.below hb4)
      clear hbox4 hb4 hcons hnil e0 e1 e2 e3 e4 e5
      cases hnb : nilB E with
      | true =>
        rw [hnb] at hn4
        go_wp2_with fail
        refine hn4.mono ?_
        rintro e w5 ⟨rfl, hb5⟩
        have H5 := Lib.hid hb5
        clear hb5 hn4 z0 z1 z2 z3 z4 z5
        go_wp2_with fail
        go_ret2
        obtain ⟨a9, c9, hv9, h19, _, hrow9⟩ := ((HX.out.1.below H4.out).below H5.out).row (Y := No) fun _ h => h.elim
        injection hv9 with q1 _ q3
        subst q1; subst q3
        exact ⟨(HX.out.2.2.1.trans (H4.out.mono HX.out.2.2.1.size)).trans (H5.out.mono (by have := HX.out.2.2.1.size; have := H4.out.size; omega)), Or.inl ⟨hnb, a3, c3, by rw [List.length_map]; rfl, h19, hrow9⟩⟩
      | false =>
        rw [hnb] at hn4
        go_wp2_with fail
        refine hn4.mono ?_
        rintro e w5 ⟨rfl, hb5⟩
        have H5 := Lib.hid hb5
        clear hb5 hn4 z0 z1 z2 z3 z4 z5
        go_wp2_with fail
        go_ret2
        exact ⟨(HX.out.2.2.1.trans (H4.out.mono HX.out.2.2.1.size)).trans (H5.out.mono (by have := HX.out.2.2.1.size; have := H4.out.size; omega)), Or.inr ⟨hnb, rfl⟩⟩
def SRel (W : World) (N : Nat) (g : Nat) (i : Value) (wr : World) : Prop := ∃ k : Nat, k ≤ N ∧ g = N - k ∧ i = .int .i64 k ∧ Below W.heap.size W wr
set_option maxRecDepth 100000 in
set_option maxHeartbeats 1000000 in
theorem rsameT_any (L : List Tm) (a a' : Option Addr) (c c' : Nat) (w : World) (hr : TRow No w L a 0) (hr' : TRow No w L a' 0) (hL : L.length ≤ 2000) (hgd : ∀ x ∈ L, good x = true) : Calls Try.prog 13 #[.slice a L.length c, .slice a' L.length c'] w fun e w' => e = .returned (.bool true) ∧ Below w.heap.size w w' := by
  have HR := Lib.hid (And.intro hr (And.intro hr' hgd))
  obtain ⟨N, hN⟩ : ∃ N, N = L.length := ⟨_, rfl⟩
  have HN := Lib.hid hN
  rw [← hN] at hL ⊢
  clear hr hr' hgd hN
  go_enter Try.func13, Try.ntmps13
  go_wp2_with fail
  go_loopg [5, 13] N (fun g _ i wr => SRel w N g i wr)
  case atStart => exact ⟨0, by omega, by omega, rfl, br _⟩
  case round =>
    obtain ⟨kk, hk, hgk, rfl, hb⟩ := hrel
    by_cases hlt : kk < N
    · have hlt' : kk < L.length := by rw [← HN.out]; exact hlt
      obtain ⟨b1, o1, v0, v1, v2, v3, v4, v5, _, _, h6, hlx, hix⟩ := HR.out.1.look hlt'
      obtain ⟨b2, o2, u0, u1, u2, u3, u4, u5, _, _, h62, hlx2, hix2⟩ := HR.out.2.1.look hlt'
      have h6' := h6.keep (X := No) (Keep.of_below hb) id
      have h62' := h62.keep (X := No) (Keep.of_below hb) id
      have hix' := hix c
      have hix2' := hix2 c'
      rw [← HN.out] at hix' hix2'
      obtain ⟨kq, nq, iq, req, imq, lq, aq, cq, hv, _⟩ := lies_form hlx
      obtain ⟨rfl, rfl, rfl, rfl, rfl, rfl⟩ := hv
      obtain ⟨kp, np, ip, rp, mp, lp, ap, cp, hv, _⟩ := lies_form hlx2
      obtain ⟨rfl, rfl, rfl, rfl, rfl, rfl⟩ := hv
      obtain ⟨e0, e1, e2, e3, e4, e5⟩ := h6'
      obtain ⟨f0, f1, f2, f3, f4, f5⟩ := h62'
      have hgx := HR.out.2.2 _ (List.getElem_mem hlt')
      have hkd : (L[kk]).kind ≠ 0 := by
        have := Go.Proofs.Ytjgkgceigbimoaa.tm.chk_kind (sound_chk (good_sound hgx)); omega
      have hsm : sameB L[kk] L[kk] = true := by rw [sameB_refl]; exact hgx
      have HX := Lib.hid (And.intro (hlx.below hb) (And.intro (hlx2.below hb) (And.intro hb (And.intro hsm hkd))))
      clear h6 h62 hlx hlx2 hix hix2 hb hgx hsm hkd
      go_wp2_with fail
      go_still_tail 8, (by kernel_rfl)
      change wpList _ _ _ _ _ wr.drew
      obtain ⟨wd, hwd⟩ : ∃ wd, wd = wr.drew := ⟨_, rfl⟩
      have hd : ∀ p, wr.cell? p = wd.cell? p := by intro p; rw [hwd]; rfl
      have hbd : Below wr.heap.size wr wd := by rw [hwd]; exact bdr wr
      have HD := Lib.hid hbd
      rw [← hwd]
      rw [hd] at e0 e1 e2 e3 e4 e5 f0 f1 f2 f3 f4 f5
      clear hwd hd hbd
      go_wp2_with fail
      refine (requal_k _ _ _ _ _ (HX.out.1.below HD.out) (HX.out.2.1.below HD.out) HX.out.2.2.2.2 HX.out.2.2.2.2).mono ?_
      rintro e w7 ⟨rfl, hb7⟩
      rw [HX.out.2.2.2.1]
      have HB7 := Lib.hid ((HX.out.2.2.1.trans (HD.out.mono HX.out.2.2.1.size)).trans (hb7.mono (by have := HD.out.size; have := HX.out.2.2.1.size; omega)))
      clear hb7 e0 e1 e2 e3 e4 e5 f0 f1 f2 f3 f4 f5
      go_wp2_with fail
      go_roundg (N - (kk + 1))
      case measure => omega
      case rel => exact ⟨kk + 1, by omega, rfl, by go_num, HB7.out⟩
    · have HB := Lib.hid hb
      clear hb
      go_wp2_with fail
      go_ret
      exact ⟨rfl, HB.out⟩
end Go.Proofs.Ytjgkgceigbimoaa.itm
