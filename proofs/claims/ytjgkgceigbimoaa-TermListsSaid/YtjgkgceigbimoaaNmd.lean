/- The reference's plainOne, named. -/
import Derived.Test.YtjgkgceigbimoaaRSm
import Derived.Test.YtjgkgceigbimoaaRen
import Derived.Test.YtjgkgceigbimoaaRm
namespace Go.Proofs.Ytjgkgceigbimoaa.nmd
set_option linter.unusedVariables false
open Go.ChangeShapes Go.WideShapes Go.ChangeAt Go.RowKit Go.Maps
open Go.Proofs.Ytjgkgceigbimoaa.tm Go.Proofs.Ytjgkgceigbimoaa.lie Go.Proofs.Ytjgkgceigbimoaa.kp Go.Proofs.Ytjgkgceigbimoaa.cur Go.Proofs.Ytjgkgceigbimoaa.pln Go.Proofs.Ytjgkgceigbimoaa.pla Go.Proofs.Ytjgkgceigbimoaa.wlk Go.Proofs.Ytjgkgceigbimoaa.ow6 Go.Proofs.Ytjgkgceigbimoaa.rws Go.Proofs.Ytjgkgceigbimoaa.rsm Go.Proofs.Ytjgkgceigbimoaa.rpl Go.Proofs.Ytjgkgceigbimoaa.ren Go.Proofs.Ytjgkgceigbimoaa.vrs Go.Proofs.Ytjgkgceigbimoaa.awk Go.Proofs.Ytjgkgceigbimoaa.sme
/-- plain of a compound without arguments -/
theorem rplain_nil (n : ByteArray) (i re im : Int) (w : World) (hn : n.size ≤ 9223372036854775807) : Calls Try.prog 32 #[.agg #[.int .i64 5, .string n, .int .i64 i, .int .u64 re, .int .u64 im, .slice none 0 0]] w fun e w' => e = .returned (.agg #[.int .i64 5, .string n, .int .i64 0, .int .u64 0, .int .u64 0, .slice none 0 0]) ∧ Below w.heap.size w w' := by
  go_enter Try.func32, Try.ntmps32
  go_wp2_with fail
  obtain ⟨w1, hw1⟩ : ∃ w1, w1 = (((w.alloc (.cells #[.int .i64 5, .string n, .int .i64 i, .int .u64 re, .int .u64 im, .slice none 0 0] 25)).alloc ZT).alloc (.cells #[.int .i64 5, .string n, .int .i64 0, .int .u64 0, .int .u64 0, .slice none 0 0] 25)) := ⟨_, rfl⟩
  rw [← hw1]
  have hb1 : Below w.heap.size w w1 := by rw [hw1]; exact bt (bt (ba _ _) (ba _ _)) (ba _ _)
  have hz : w1.heap[w.heap.size + 1]? = some ZT := by
    have h := alloc_at (w.alloc (.cells #[.int .i64 5, .string n, .int .i64 i, .int .u64 re, .int .u64 im, .slice none 0 0] 25)) ZT
    rw [alloc_size] at h
    rw [hw1, (ba _ _).block _ (by simp only [alloc_size]; omega)]; exact h
  have hx : w1.heap[w.heap.size + 1 + 1]? = some (.cells #[.int .i64 5, .string n, .int .i64 0, .int .u64 0, .int .u64 0, .slice none 0 0] 25 (0, 0)) := by
    have h := alloc_at ((w.alloc (.cells #[.int .i64 5, .string n, .int .i64 i, .int .u64 re, .int .u64 im, .slice none 0 0] 25)).alloc ZT) (.cells #[.int .i64 5, .string n, .int .i64 0, .int .u64 0, .int .u64 0, .slice none 0 0] 25)
    rw [alloc_size, alloc_size] at h
    rw [hw1]; exact h
  have HB := Lib.hid (And.intro hb1 (And.intro hz hx))
  clear hw1 hb1 hz hx
  go_loopg [38] 0 (fun (g : Nat) (s38 : Value) (wr : World) => s38 = .int .i64 0 ∧ wr = w1)
  case atStart => exact ⟨rfl, rfl⟩
  case round =>
    obtain ⟨rfl, rfl⟩ := hrel
    obtain ⟨⟨e0, e1, e2, e3, e4, e5⟩, _⟩ := blk_facts HB.out.2.2
    obtain ⟨⟨z0, z1, z2, z3, z4, z5⟩, y0, y1, y2, y3, y4, y5⟩ := blk_facts HB.out.2.1
    go_wp2_with fail
    obtain ⟨W, hW, e0, e1, e2, e3, e4, e5, k6⟩ := res_fin HB.out.2.1 (.int .i64 5) (.string n) (.int .i64 0) (.int .u64 0) (.int .u64 0) (.slice none 0 0)
    rw [hW]
    have hlt := (Array.getElem?_eq_some_iff.1 HB.out.2.1).1
    exact bodyPost_ret (v := .agg #[.int .i64 5, .string n, .int .i64 0, .int .u64 0, .int .u64 0, .slice none 0 0]) (by simp [results, Try.results32, go_sem, e0, e1, e2, e3, e4, e5]) rfl ⟨rfl, HB.out.1.trans (k6.to_below (fun i h => by subst h; omega) (by omega))⟩
theorem plainOne_5 (n : ByteArray) (i re im : Int) (a : Option Addr) (len c : Nat) (w : World) (hn : n.size ≤ 9223372036854775807) : Calls Try.prog 50 #[.agg #[.int .i64 5, .string n, .int .i64 i, .int .u64 re, .int .u64 im, .slice a len c]] w fun e w' => e = .returned (.agg #[.int .i64 5, .string n, .int .i64 0, .int .u64 0, .int .u64 0, .slice none 0 0]) ∧ Below w.heap.size w w' := by
  go_enter Try.func50, Try.ntmps50
  go_wp2_with fail
  refine (rplain_nil _ _ _ _ _ hn).mono ?_
  rintro e w1 ⟨rfl, hb⟩
  obtain ⟨_, hz, hlt, hb⟩ := two_at hb
  have HB := Lib.hid (And.intro hb hz)
  obtain ⟨⟨z0, z1, z2, z3, z4, z5⟩, y0, y1, y2, y3, y4, y5⟩ := blk_facts hz
  clear hb hz
  go_wp2_with fail
  obtain ⟨W, hW, e0, e1, e2, e3, e4, e5, k6⟩ := res_fin HB.out.2 (.int .i64 5) (.string n) (.int .i64 0) (.int .u64 0) (.int .u64 0) (.slice none 0 0)
  rw [hW]
  exact bodyPost_ret (v := .agg #[.int .i64 5, .string n, .int .i64 0, .int .u64 0, .int .u64 0, .slice none 0 0]) (by simp [results, Try.results50, go_sem, e0, e1, e2, e3, e4, e5]) rfl ⟨rfl, HB.out.1.trans (k6.to_below (fun i h => by subst h; omega) (by omega))⟩
theorem plainOne_leaf (k : Int) (n : ByteArray) (i re im : Int) (l : List Tm) (a : Option Addr) (c : Nat) (w : World) (hf : Fit k n i re im l.length c) (hk : k = 2 ∨ k = 3 ∨ k = 4) (hs : sound (.mk k n i re im l) = true) :
    Calls Try.prog 50 #[.agg #[.int .i64 k, .string n, .int .i64 i, .int .u64 re, .int .u64 im, .slice a l.length c]] w (Gives (Old w) (plain (.mk k n i re im l)) w) := by
  have hs0 : sound (.mk k n i re im []) = true := by
    have h5 : k ≠ 5 := by omega
    have hc := sound_chk hs
    simp only [sound, Bool.and_eq_true, decide_eq_true_eq, if_neg h5, and_true]
    simp only [chk] at hc ⊢
    rcases hk with rfl | rfl | rfl
    · simpa using hc
    · simp
    · simp
  have hp : plain (.mk k n i re im l) = plain (.mk k n i re im []) := by
    rcases hk with rfl | rfl | rfl <;> simp [plain, sub]
  have hl : ∀ W, Lies No W (.mk k n i re im []) (.agg #[.int .i64 k, .string n, .int .i64 i, .int .u64 re, .int .u64 im, .slice none 0 0]) := fun W => by
    rw [Lies]
    exact ⟨none, 0, rfl, ⟨hf.k0, hf.k1, hf.n1, hf.i0, hf.i1, hf.r0, hf.r1, hf.m0, hf.m1, by simp, by simp⟩, by rw [TRow]; trivial⟩
  rw [hp]
  have HS := Lib.hid (And.intro hs0 hl)
  clear hs hs0 hp hl hk hf
  go_enter Try.func50, Try.ntmps50
  go_wp2_with fail
  refine (rplain_any _ _ _ (HS.out.2 _) HS.out.1).mono ?_
  rintro e w1 ⟨kq, nq, iq, req, imq, aq, lq, cq, rfl, hb, hq⟩
  obtain ⟨_, hz, hlt, hb0⟩ := two_at hb
  have HB := Lib.hid (And.intro hb0 (And.intro hz hq))
  obtain ⟨⟨z0, z1, z2, z3, z4, z5⟩, y0, y1, y2, y3, y4, y5⟩ := blk_facts hz
  clear hb hz hb0 hq
  go_wp2_with fail
  obtain ⟨W, hW, e0, e1, e2, e3, e4, e5, k6⟩ := res_fin HB.out.2.1 (.int .i64 kq) (.string nq) (.int .i64 iq) (.int .u64 req) (.int .u64 imq) (.slice aq lq cq)
  rw [hW]
  refine bodyPost_ret (v := .agg #[.int .i64 kq, .string nq, .int .i64 iq, .int .u64 req, .int .u64 imq, .slice aq lq cq]) (by simp [results, Try.results50, go_sem, e0, e1, e2, e3, e4, e5]) rfl ⟨_, _, _, _, _, _, _, _, rfl, HB.out.1.trans (k6.to_below (fun i h => by subst h; omega) (by omega)), ?_⟩
  refine Lies.keep (X := fun q => q < w.heap.size + 1 + 1) (Y := Old w) (k6.mono fun i h => by subst h; omega) (fun b _ h => by have : b < w.heap.size := h; omega) _ _ (HB.out.2.2.off fun q _ h => ?_)
  show q < _
  simp only [alloc_size]
  exact h
theorem map_keep64 {w w' : World} {mb n : Nat} {D : DataW Unit} (h : w.ownsMap Try.prog 2 (plainElem (H := Unit) Try.prog 2) mb n D) (hb : w'.heap[mb]? = w.heap[mb]?) : w'.ownsMap Try.prog 2 (plainElem (H := Unit) Try.prog 2) mb n D := by
  obtain ⟨es, clock, hmb, q⟩ := h
  exact ⟨es, clock, hb.trans hmb, q⟩
theorem zero64 (w : World) : (zeroValue 2).run Try.prog w = .ok (.int .i64 0) w := by kernel_rfl
set_option linter.unusedSimpArgs false in
set_option maxRecDepth 100000 in
set_option maxHeartbeats 1000000 in
theorem named_any (w0 : World) (mb m : Nat) (D : DataW Unit) (vs : List Int) (hm : w0.ownsMap Try.prog 2 (plainElem (H := Unit) Try.prog 2) mb m D) (hD : Idx0 D vs) (hvs : vs.length ≤ 2000) (t : Tm) : ∀ (v : Value) (w : World), Below w0.heap.size w0 w → Lies No w t v → sound t = true → Calls Try.prog 52 #[v, .map (some mb)] w (Gives (Old w) (sub (fun n => var (ix0 vs n)) t) w) := by
  have HM := Lib.hid (And.intro hm hD)
  clear hm hD
  induction t using Tm.ind with
  | h k n i re im l ih =>
    intro v w hw0 ht hs
    have IH := Lib.hid ih
    have HT := Lib.hid ht
    have hc := Go.Proofs.Ytjgkgceigbimoaa.tm.chk_kind (sound_chk hs)
    have HS := Lib.hid (And.intro hs hw0)
    rw [Lies] at ht
    obtain ⟨a, c, rfl, hf, hr⟩ := ht
    have HR := Lib.hid (And.intro hf hr)
    clear hf hr ih hs hw0
    simp only [Tm.kind] at hc
    by_cases h1 : k = 1
    · subst h1
      clear hc
      have HE : Hid (sub (fun n => var (ix0 vs n)) (.mk 1 n i re im l) = var (ix0 vs i)) := Lib.hid (by simp [sub])
      rw [HE.out]
      have hkey : keyOf Try.prog 2 (.int .i64 i) = some (CK i) := keyOf_int_mk Try.underlying2 (WalkArith.wf_i64 (by have := HR.out.1.i0; have := HR.out.1.i1; omega))
      have hb2 := HS.out.2.trans ((bt (ba w (.cells #[.int .i64 1, .string n, .int .i64 i, .int .u64 re, .int .u64 im, .slice a l.length c] 25)) (ba _ ZT)).mono HS.out.2.size)
      have hm2 := map_keep64 HM.out.1 (hb2.block _ HM.out.1.lt)
      obtain ⟨cl, hlk, hat, hwc⟩ := hm2.lookup_int law Try.underlying66 Try.underlying2 (zero64 _) hkey
      have hcl2 : cl = ix0 vs i := by
        have := HM.out.2 i
        rw [hat] at this
        injection this with e; injection e
      subst hcl2
      have hrg := ix0_range vs i
      have HRG := Lib.hid hrg
      clear hb2 hm2 hat hwc hkey hrg
      go_enter Try.func52, Try.ntmps52
      go_wp2_with fail
      refine (rVar_any _ _).mono ?_
      rintro e w2 ⟨rfl, hb⟩
      obtain ⟨_, hz, hlt, hb⟩ := two_at hb
      have HB := Lib.hid (And.intro hb hz)
      obtain ⟨⟨z0, z1, z2, z3, z4, z5⟩, y0, y1, y2, y3, y4, y5⟩ := blk_facts hz
      clear hb hz hlk
      go_wp2_with fail
      obtain ⟨W, hW, e0, e1, e2, e3, e4, e5, k6⟩ := res_fin HB.out.2 (.int .i64 1) (.string ⟨#[]⟩) (.int .i64 (ix0 vs i)) (.int .u64 0) (.int .u64 0) (.slice none 0 0)
      rw [hW]
      exact bodyPost_ret (v := .agg #[.int .i64 1, .string ⟨#[]⟩, .int .i64 (ix0 vs i), .int .u64 0, .int .u64 0, .slice none 0 0]) (by simp [results, Try.results52, go_sem, e0, e1, e2, e3, e4, e5]) rfl ⟨_, _, _, _, _, _, _, _, rfl, HB.out.1.trans (k6.to_below (fun i h => by subst h; omega) (by omega)), var_lies _ _ _ (by have := HRG.out; omega) (by have := HRG.out; omega)⟩
    have q1 : (k == 1) = false := by rw [beq_eq_false_iff_ne]; exact h1
    by_cases h5 : k = 5
    · subst h5
      clear hc h1
      have hlen := sound_args HS.out.1 rfl
      have hl20 : l.length ≤ 20 := by have := sound_chk HS.out.1; simp only [chk] at this; simp at this; omega
      obtain ⟨ij, hi1, hi2, hi3, hi4⟩ := info_t
      have HI := Lib.hid (And.intro hi1 (And.intro hi2 (And.intro hi3 hi4)))
      have HC := Lib.hid hlen
      clear hlen hi1 hi2 hi3 hi4
      go_enter Try.func52, Try.ntmps52
      go_wp2_with fail
      refine (plainOne_5 _ _ _ _ _ _ _ _ HR.out.1.n1).mono ?_
      rintro e w1 ⟨rfl, hb⟩
      obtain ⟨hx1, hz1, hlt1, hb1⟩ := two_at hb
      have hs1 : w.heap.size + 1 + 1 ≤ w1.heap.size := by have := hb.size; simp only [alloc_size] at this; exact this
      obtain ⟨w3, hw3⟩ : ∃ w3, w3 = w1.alloc (.cells #[.int .i64 5, .string n, .int .i64 0, .int .u64 0, .int .u64 0, .slice none 0 0] 25) := ⟨_, rfl⟩
      have hb3 : Below w1.heap.size w1 w3 := by rw [hw3]; exact ba _ _
      have hat3 : w3.heap[w1.heap.size]? = some (.cells #[.int .i64 5, .string n, .int .i64 0, .int .u64 0, .int .u64 0, .slice none 0 0] 25 (0, 0)) := by rw [hw3]; exact alloc_at _ _
      obtain ⟨⟨x0, x1, x2, x3, x4, x5⟩, _⟩ := blk_facts ((hb3.block _ (show w.heap.size < w1.heap.size by omega)).trans hx1)
      obtain ⟨⟨p0, p1, p2, p3, p4, p5⟩, _⟩ := blk_facts hat3
      have HW1 := Lib.hid (And.intro hb1 (And.intro hs1 (And.intro hz1 (And.intro hb3 hat3))))
      clear hb hz1 hb1 hx1 hb3 hat3
      go_upto_region 4 with fail
      rw [← hw3]
      clear hw3
      go_wp2_with fail
      go_loopg [24] l.length (GRel 5 n (sub (fun n => var (ix0 vs n))) l w1.heap.size w1)
      case atStart => exact ⟨0, _, by omega, by omega, rfl, by simpa using XOwn.nil _ _ _, HW1.out.2.2.2.2, HW1.out.2.2.2.1, Nat.le_refl _, by omega⟩
      case round =>
        obtain ⟨kk, s, hk, rfl, rfl, hg⟩ := hrel
        have hbw : Below w.heap.size w wr := HW1.out.1.trans (hg.bel.mono HW1.out.1.size)
        by_cases hlt : kk < l.length
        · obtain ⟨b, o, v0, v1, v2, v3, v4, v5, hbl, _, h6, hlx, hix⟩ := HR.out.2.look hlt
          have h6' := h6.keep (X := No) (Keep.of_below hbw) id
          have hix' := hix c
          obtain ⟨kq, nq, iq, req, imq, lq, aq, cq, hv, _⟩ := lies_form hlx
          obtain ⟨rfl, rfl, rfl, rfl, rfl, rfl⟩ := hv
          obtain ⟨e0, e1, e2, e3, e4, e5⟩ := h6'
          have hmem := List.getElem_mem hlt
          have hbd := bt (ba wr (.cells #[.int .i64 kq, .string nq, .int .i64 iq, .int .u64 req, .int .u64 imq, .slice aq lq cq] 25)) (bdr _)
          have HX := Lib.hid (And.intro (hlx.below hbw) (And.intro hg (And.intro (IH.out _ hmem) (And.intro (HC.out _ hmem) (HS.out.2.trans ((hbw.trans (hbd.mono hbw.size)).mono HS.out.2.size))))))
          clear h6 hlx hix hg hbw
          go_wp2_with fail
          have hg0 := HX.out.2.1.below hbd
          have hw0 : (wr.alloc (.cells #[.int .i64 kq, .string nq, .int .i64 iq, .int .u64 req, .int .u64 imq, .slice aq lq cq] 25)).drew.heap[wr.heap.size]? = some (.cells #[.int .i64 kq, .string nq, .int .i64 iq, .int .u64 req, .int .u64 imq, .slice aq lq cq] 25 (0, 0)) := alloc_at wr _
          have hl0 := HX.out.1.below hbd
          have HG := Lib.hid (And.intro hg0 (And.intro hw0 hl0))
          obtain ⟨⟨x0, x1, x2, x3, x4, x5⟩, _⟩ := blk_facts hw0
          obtain ⟨⟨_, _, _, _, _, y5⟩, _⟩ := blk_facts hg0.box
          clear hg0 hw0 hl0 hbd e0 e1 e2 e3 e4 e5
          go_region_law (first
            | (go_simp; go_at_call 52; refine (HX.out.2.2.1 _ _ ?_ ?_ ?_).mono ?_; exact HX.out.2.2.2.2; exact HG.out.2.2; exact HX.out.2.2.2.1; rintro e w3 ⟨ka, na, ia, ra, ma, aa, la, cc, rfl, hb3, hq⟩; have HP := Lib.hid (HG.out.1.pre (br _) hb3 (hq.off fun i h0 h1 => h1.2)); obtain ⟨⟨_, _, _, _, _, y5⟩, _⟩ := blk_facts HP.out.1.box; obtain ⟨⟨_, _, _, _, _, y6⟩, _⟩ := blk_facts (HP.out.1.below (ba w3 (.cells #[.int .i64 ka, .string na, .int .i64 ia, .int .u64 ra, .int .u64 ma, .slice aa la cc] 25))).box; obtain ⟨xs, ho, hx⟩ := HP.out.1.own.ex; have HO := Lib.hid (And.intro ho hx); clear hb3 hq ho hx; try dsimp only)
            | (refine step_append_lies _ rfl (.tmp 29) (.tmp 33) 22 rfl (w1.heap.size + 1) 25 ij ZV 6 72 Try.underlying22 HI.out.1 HI.out.2.1 HI.out.2.2.1 HI.out.2.2.2 rfl (by decide) s ((l.take kk).map (sub (fun n => var (ix0 vs n)))).length xs (by simp [Act.eval, Act.put]) (row6_keep HO.out.1 fun q e => (ba _ _).block q (HO.out.1.lt q e).2) ⟨w3.heap.size, 0, none⟩ 1 1 [.int .i64 ka, .string na, .int .i64 ia, .int .u64 ra, .int .u64 ma, .slice aa la cc] (by simp [Act.eval, Act.put]) rfl (news6 _ _ _ _ _ _ _ _) (by intro u hu; simp only [List.mem_cons, List.not_mem_nil, or_false] at hu; rcases hu with rfl | rfl | rfl | rfl | rfl | rfl <;> rfl) (by omega) (by unfold maxLen; simp; omega) (by simp; omega) (by rw [alloc_size]; have := HP.out.1.lt; omega) _ rfl ?_; intro g' c' w9 ho9 hg9 ha9 hl9; have HF := Lib.hid (HP.out.1.post HO.out.2 HO.out.1 HP.out.2 ho9 hg9 ha9); obtain ⟨z1, z2⟩ := HF.out.1; clear ho9 hg9 ha9 hl9))
          all_goals
            go_wp2_with fail
            go_roundg (l.length - (kk + 1))
            case measure => omega
            case rel =>
              have hgr := HF.out.2
              rw [map_next hlt, map_len hk] at hgr
              exact ⟨kk + 1, _, hlt, rfl, by go_num, hgr⟩
        · have hkv : kk = l.length := by omega
          subst hkv
          obtain ⟨a2, c2, rfl, hll⟩ := hg.lies HR.out.1.n1
          have hL : ((l.take l.length).map (sub (fun n => var (ix0 vs n)))).length = l.length := by simp
          rw [hL] at hll hg
          have hz := (hg.bel.block _ hlt1).trans HW1.out.2.2.1
          obtain ⟨⟨e0, e1, e2, e3, e4, e5⟩, _⟩ := blk_facts hg.box
          obtain ⟨⟨z0, z1, z2, z3, z4, z5⟩, y0, y1, y2, y3, y4, y5⟩ := blk_facts hz
          have HZ := Lib.hid (And.intro hbw (And.intro hz (And.intro hll hg)))
          clear hbw hz hll hg
          go_wp2_with fail
          obtain ⟨W, hW, e0, e1, e2, e3, e4, e5, k6⟩ := res_fin HZ.out.2.1 (.int .i64 5) (.string n) (.int .i64 0) (.int .u64 0) (.int .u64 0) (.slice a2 l.length c2)
          rw [hW]
          have hlt2 : w.heap.size + 1 < wr.heap.size := (Array.getElem?_eq_some_iff.1 HZ.out.2.1).1
          refine bodyPost_ret (v := .agg #[.int .i64 5, .string n, .int .i64 0, .int .u64 0, .int .u64 0, .slice a2 l.length c2]) (by simp [results, Try.results52, go_sem, e0, e1, e2, e3, e4, e5]) rfl ⟨_, _, _, _, _, _, _, _, rfl, HZ.out.1.trans (k6.to_below (fun i h => by subst h; omega) (by omega)), ?_⟩
          have hp : sub (fun n => var (ix0 vs n)) (.mk 5 n i re im l) = comp n ((l.take l.length).map (sub (fun n => var (ix0 vs n)))) := by
            rw [List.take_length]; simp only [sub, subL_map]; simp [comp]
          rw [hp]
          exact Lies.keep (X := Zb 0 w1.heap.size) (Y := Old w) (k6.mono fun i h => by subst h; exact ⟨by omega, by omega⟩) (fun b _ h => ⟨by omega, by have : b < w.heap.size := h; omega⟩) _ _ HZ.out.2.2.1
    have q5 : (k == 5) = false := by rw [beq_eq_false_iff_ne]; exact h5
    have hk3 : k = 2 ∨ k = 3 ∨ k = 4 := by omega
    have HE : Hid (sub (fun n => var (ix0 vs n)) (.mk k n i re im l) = plain (.mk k n i re im l)) := Lib.hid (by
      simp [plain, sub, h1, h5])
    rw [HE.out]
    have HK := Lib.hid hk3
    have hke : ∀ (kq : Int) (nq : ByteArray) (iq rq mq : Int) (aq : Option Addr) (lq cq : Nat) (W : World), Lies (Old ((w.alloc (.cells #[.int .i64 k, .string n, .int .i64 i, .int .u64 re, .int .u64 im, .slice a l.length c] 25)).alloc ZT)) W (plain (.mk k n i re im l)) (.agg #[.int .i64 kq, .string nq, .int .i64 iq, .int .u64 rq, .int .u64 mq, .slice aq lq cq]) → kq = k := fun kq nq iq rq mq aq lq cq W h => by
      have h2 := kind_of h
      rw [plain_kind] at h2
      exact h2.symm
    have HKE := Lib.hid hke
    clear hc h1 h5 hk3 hke
    go_enter Try.func52, Try.ntmps52
    go_wp2_with fail
    refine (plainOne_leaf k n i re im l a c _ HR.out.1 HK.out HS.out.1).mono ?_
    rintro e w2 ⟨kq, nq, iq, req, imq, aq, lq, cq, rfl, hb2, hq⟩
    have hkk := HKE.out _ _ _ _ _ _ _ _ _ hq
    subst hkk
    obtain ⟨hx, hz, hlt, hb⟩ := two_at hb2
    obtain ⟨w3, hw3⟩ : ∃ w3, w3 = w2.alloc (.cells #[.int .i64 kq, .string nq, .int .i64 iq, .int .u64 req, .int .u64 imq, .slice aq lq cq] 25) := ⟨_, rfl⟩
    have hbx : Below w2.heap.size w2 w3 := by rw [hw3]; exact ba _ _
    have hat3 : w3.heap[w2.heap.size]? = some (.cells #[.int .i64 kq, .string nq, .int .i64 iq, .int .u64 req, .int .u64 imq, .slice aq lq cq] 25 (0, 0)) := by rw [hw3]; exact alloc_at _ _
    have hz2 := (hbx.block _ hlt).trans hz
    have HQ := Lib.hid (And.intro (hb.trans (hbx.mono hb.size)) (And.intro hz2 (hq.below hbx)))
    have hx2 := (hbx.block _ (show w.heap.size < w2.heap.size by omega)).trans hx
    obtain ⟨⟨x0, x1, x2, x3, x4, x5⟩, _⟩ := blk_facts hx
    obtain ⟨⟨p0, p1, p2, p3, p4, p5⟩, _⟩ := blk_facts hx2
    obtain ⟨⟨q0, q1, q2, q3, q4, q5⟩, _⟩ := blk_facts hat3
    obtain ⟨⟨z0, z1, z2, z3, z4, z5⟩, y0, y1, y2, y3, y4, y5⟩ := blk_facts hz2
    clear hb2 hq hb hz hz2 hx hx2 hbx hat3
    go_upto_region 4 with fail
    rw [← hw3]
    clear hw3
    go_wp2_with fail
    obtain ⟨W, hW, e0, e1, e2, e3, e4, e5, k6⟩ := res_fin HQ.out.2.1 (.int .i64 kq) (.string nq) (.int .i64 iq) (.int .u64 req) (.int .u64 imq) (.slice aq lq cq)
    rw [hW]
    refine bodyPost_ret (v := .agg #[.int .i64 kq, .string nq, .int .i64 iq, .int .u64 req, .int .u64 imq, .slice aq lq cq]) (by simp [results, Try.results52, go_sem, e0, e1, e2, e3, e4, e5]) rfl ⟨_, _, _, _, _, _, _, _, rfl, HQ.out.1.trans (k6.to_below (fun i h => by subst h; omega) (by have := HQ.out.1.size; omega)), ?_⟩
    exact Lies.keep (X := Old ((w.alloc (.cells #[.int .i64 kq, .string n, .int .i64 i, .int .u64 re, .int .u64 im, .slice a l.length c] 25)).alloc ZT)) (Y := Old w) (k6.mono fun i h => by subst h; show _ < _; rw [alloc_size, alloc_size]; omega) (fun b _ h => by show b < _; rw [alloc_size, alloc_size]; have : b < w.heap.size := h; omega) _ _ HQ.out.2.2
end Go.Proofs.Ytjgkgceigbimoaa.nmd
