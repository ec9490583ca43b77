/- The law's Map, with one function for variables. StoreAlike's function: a variable's number and so much more. -/
import Derived.Test.YtibepkljcofpdaaRSm
import Derived.Test.YtibepkljcofpdaaVm
namespace Go.Proofs.Ytibepkljcofpdaa.mp3
set_option linter.unusedVariables false
open Go.ChangeShapes Go.WideShapes Go.ChangeAt Go.RowKit
open Go.Proofs.Ytibepkljcofpdaa.tm Go.Proofs.Ytibepkljcofpdaa.lie Go.Proofs.Ytibepkljcofpdaa.kp Go.Proofs.Ytibepkljcofpdaa.cur Go.Proofs.Ytibepkljcofpdaa.pln Go.Proofs.Ytibepkljcofpdaa.pla Go.Proofs.Ytibepkljcofpdaa.wlk Go.Proofs.Ytibepkljcofpdaa.ow6 Go.Proofs.Ytibepkljcofpdaa.rws Go.Proofs.Ytibepkljcofpdaa.rsm Go.Proofs.Ytibepkljcofpdaa.rpl Go.Proofs.Ytibepkljcofpdaa.ren
/-- what the function tells -/
def At (w0 : World) (f : Int → Int) (ca : Addr) : Prop := ∀ (n : Int) (w : World), Below w0.heap.size w0 w → -9223372036854775808 ≤ n → n ≤ 9223372036854775807 →
  (Calls Try.prog 37 #[.int .i64 n, .pointer (some ca)] w fun e w' => e = .returned (.agg #[.int .i64 1, .string ⟨#[]⟩, .int .i64 (f n), .int .u64 0, .int .u64 0, .slice none 0 0]) ∧ Below w.heap.size w w') ∧ -9223372036854775808 ≤ f n ∧ f n ≤ 9223372036854775807
set_option linter.unusedSimpArgs false in
set_option maxRecDepth 100000 in
set_option maxHeartbeats 1000000 in
theorem map_any (w0 : World) (f : Int → Int) (ca : Addr) (hat : At w0 f ca) (t : Tm) : ∀ (v : Value) (w : World), Below w0.heap.size w0 w → Lies No w t v → sound t = true → Calls Try.prog 36 #[v, .func (.func 37) #[] #[.pointer (some ca)]] w (Gives (Old w) (sub (fun n => var (f n)) t) w) := by
  have HAT := Lib.hid hat
  clear hat
  induction t using Tm.ind with
  | h k n i re im l ih =>
    intro v w hw0 ht hs
    have IH := Lib.hid ih
    have HT := Lib.hid ht
    have hc := Go.Proofs.Ytibepkljcofpdaa.tm.chk_kind (sound_chk hs)
    have HS := Lib.hid (And.intro hs hw0)
    rw [Lies] at ht
    obtain ⟨a, c, rfl, hf, hr⟩ := ht
    have HR := Lib.hid (And.intro hf hr)
    clear hf hr ih hs hw0
    simp only [Tm.kind] at hc
    by_cases h1 : k = 1
    · subst h1
      clear hc
      have HE : Hid (sub (fun n => var (f n)) (.mk 1 n i re im l) = var (f i)) := Lib.hid (by simp [sub])
      rw [HE.out]
      go_enter Try.func36, Try.ntmps36
      go_wp2_with fail
      have hat := HAT.out i ((w.alloc (.cells #[.int .i64 1, .string n, .int .i64 i, .int .u64 re, .int .u64 im, .slice a l.length c] 36)).alloc ZT) (HS.out.2.trans ((bt (ba _ _) (ba _ _)).mono HS.out.2.size)) HR.out.1.i0 HR.out.1.i1
      refine hat.1.mono ?_
      rintro e w2 ⟨rfl, hb⟩
      obtain ⟨_, hz, hlt, hb⟩ := two_at hb
      have HB := Lib.hid (And.intro hb (And.intro hz hat.2))
      obtain ⟨⟨z0, z1, z2, z3, z4, z5⟩, y0, y1, y2, y3, y4, y5⟩ := blk_facts hz
      clear hb hz hat
      go_wp2_with fail
      obtain ⟨W, hW, e0, e1, e2, e3, e4, e5, k6⟩ := res_fin HB.out.2.1 (.int .i64 1) (.string ⟨#[]⟩) (.int .i64 (f i)) (.int .u64 0) (.int .u64 0) (.slice none 0 0)
      rw [hW]
      exact bodyPost_ret (v := .agg #[.int .i64 1, .string ⟨#[]⟩, .int .i64 (f i), .int .u64 0, .int .u64 0, .slice none 0 0]) (by simp [results, Try.results36, go_sem, e0, e1, e2, e3, e4, e5]) rfl ⟨_, _, _, _, _, _, _, _, rfl, HB.out.1.trans (k6.to_below (fun i h => by subst h; omega) (by omega)), var_lies _ _ _ HB.out.2.2.1 HB.out.2.2.2⟩
    have q1 : (k == 1) = false := by rw [beq_eq_false_iff_ne]; exact h1
    by_cases h5 : k = 5
    · subst h5
      clear hc h1
      have hlen := sound_args HS.out.1 rfl
      have hl20 : l.length ≤ 20 := by have := sound_chk HS.out.1; simp only [chk] at this; simp at this; omega
      obtain ⟨ij, hi1, hi2, hi3, hi4⟩ := info_t
      have HI := Lib.hid (And.intro hi1 (And.intro hi2 (And.intro hi3 hi4)))
      have HC := Lib.hid hlen
      clear hlen hi1 hi2 hi3 hi4
      obtain ⟨w1, hw1⟩ : ∃ w1, w1 = (w.alloc (.cells #[.int .i64 5, .string n, .int .i64 i, .int .u64 re, .int .u64 im, .slice a l.length c] 36)).alloc ZT := ⟨_, rfl⟩
      have hb1 : Below w.heap.size w w1 := by rw [hw1]; exact bt (ba _ _) (ba _ _)
      have hs1 : w1.heap.size = w.heap.size + 1 + 1 := by rw [hw1, alloc_size, alloc_size]
      have hz1 : w1.heap[w.heap.size + 1]? = some ZT := by
        have := alloc_at (w.alloc (.cells #[.int .i64 5, .string n, .int .i64 i, .int .u64 re, .int .u64 im, .slice a l.length c] 36)) ZT
        rw [alloc_size] at this
        rw [hw1]; exact this
      have HW1 := Lib.hid (And.intro hw1 (And.intro hb1 (And.intro hs1 hz1)))
      clear hw1 hb1 hs1 hz1
      go_enter Try.func36, Try.ntmps36
      go_wp2_with fail
      go_loopg [28] l.length (GRel 5 n (sub (fun n => var (f n))) l (w.heap.size + 1 + 1) w1)
      case atStart =>
        rw [← HW1.out.1]
        refine ⟨0, _, by omega, by omega, rfl, by simpa using XOwn.nil _ _ _, ?_, ba _ _, by rw [HW1.out.2.2.1]; omega, by omega⟩
        have := alloc_at w1 (.cells #[.int .i64 5, .string n, .int .i64 0, .int .u64 0, .int .u64 0, .slice none 0 0] 36)
        rw [HW1.out.2.2.1] at this
        exact this
      case round =>
        obtain ⟨kk, s, hk, rfl, rfl, hg⟩ := hrel
        have hbw : Below w.heap.size w wr := HW1.out.2.1.trans (hg.bel.mono HW1.out.2.1.size)
        by_cases hlt : kk < l.length
        · obtain ⟨b, o, v0, v1, v2, v3, v4, v5, hbl, _, h6, hlx, hix⟩ := HR.out.2.look hlt
          have h6' := h6.keep (X := No) (Keep.of_below hbw) id
          have hix' := hix c
          obtain ⟨kq, nq, iq, req, imq, lq, aq, cq, hv, _⟩ := lies_form hlx
          obtain ⟨rfl, rfl, rfl, rfl, rfl, rfl⟩ := hv
          obtain ⟨e0, e1, e2, e3, e4, e5⟩ := h6'
          have hmem := List.getElem_mem hlt
          have hbd := bt (ba wr (.cells #[.int .i64 kq, .string nq, .int .i64 iq, .int .u64 req, .int .u64 imq, .slice aq lq cq] 36)) (bdr _)
          have HX := Lib.hid (And.intro (hlx.below hbw) (And.intro hg (And.intro (IH.out _ hmem) (And.intro (HC.out _ hmem) (HS.out.2.trans ((hbw.trans (hbd.mono hbw.size)).mono HS.out.2.size))))))
          clear h6 hlx hix hg hbw
          go_wp2_with fail
          have hg0 := HX.out.2.1.below hbd
          have hw0 : (wr.alloc (.cells #[.int .i64 kq, .string nq, .int .i64 iq, .int .u64 req, .int .u64 imq, .slice aq lq cq] 36)).drew.heap[wr.heap.size]? = some (.cells #[.int .i64 kq, .string nq, .int .i64 iq, .int .u64 req, .int .u64 imq, .slice aq lq cq] 36 (0, 0)) := alloc_at wr _
          have hl0 := HX.out.1.below hbd
          have HG := Lib.hid (And.intro hg0 (And.intro hw0 hl0))
          obtain ⟨⟨x0, x1, x2, x3, x4, x5⟩, _⟩ := blk_facts hw0
          obtain ⟨⟨_, _, _, _, _, y5⟩, _⟩ := blk_facts hg0.box
          clear hg0 hw0 hl0 hbd e0 e1 e2 e3 e4 e5
          go_region_law (first
            | (go_simp; go_at_call 36; refine (HX.out.2.2.1 _ _ ?_ ?_ ?_).mono ?_; exact HX.out.2.2.2.2; exact HG.out.2.2; exact HX.out.2.2.2.1; rintro e w3 ⟨ka, na, ia, ra, ma, aa, la, cc, rfl, hb3, hq⟩; have HP := Lib.hid (HG.out.1.pre (br _) hb3 (hq.off fun i h0 h1 => h1.2)); obtain ⟨⟨_, _, _, _, _, y5⟩, _⟩ := blk_facts HP.out.1.box; obtain ⟨⟨_, _, _, _, _, y6⟩, _⟩ := blk_facts (HP.out.1.below (ba w3 (.cells #[.int .i64 ka, .string na, .int .i64 ia, .int .u64 ra, .int .u64 ma, .slice aa la cc] 36))).box; obtain ⟨xs, ho, hx⟩ := HP.out.1.own.ex; have HO := Lib.hid (And.intro ho hx); clear hb3 hq ho hx; try dsimp only)
            | (refine step_append_lies _ rfl (.tmp 33) (.tmp 37) 22 rfl (w.heap.size + 1 + 1 + 1) 36 ij ZV 6 72 Try.underlying22 HI.out.1 HI.out.2.1 HI.out.2.2.1 HI.out.2.2.2 rfl (by decide) s ((l.take kk).map (sub (fun n => var (f n)))).length xs (by simp [Act.eval, Act.put]) (row6_keep HO.out.1 fun q e => (ba _ _).block q (HO.out.1.lt q e).2) ⟨w3.heap.size, 0, none⟩ 1 1 [.int .i64 ka, .string na, .int .i64 ia, .int .u64 ra, .int .u64 ma, .slice aa la cc] (by simp [Act.eval, Act.put]) rfl (news6 _ _ _ _ _ _ _ _) (by intro u hu; simp only [List.mem_cons, List.not_mem_nil, or_false] at hu; rcases hu with rfl | rfl | rfl | rfl | rfl | rfl <;> rfl) (by omega) (by unfold maxLen; simp; omega) (by simp; omega) (by rw [alloc_size]; have := HP.out.1.lt; omega) _ rfl ?_; intro g' c' w9 ho9 hg9 ha9 hl9; have HF := Lib.hid (HP.out.1.post HO.out.2 HO.out.1 HP.out.2 ho9 hg9 ha9); obtain ⟨z1, z2⟩ := HF.out.1; clear ho9 hg9 ha9 hl9))
          all_goals
            go_wp2_with fail
            go_roundg (l.length - (kk + 1))
            case measure => omega
            case rel =>
              have hgr := HF.out.2
              rw [map_next hlt, map_len hk] at hgr
              exact ⟨kk + 1, _, hlt, rfl, by go_num, hgr⟩
        · have hkv : kk = l.length := by omega
          subst hkv
          obtain ⟨a2, c2, rfl, hll⟩ := hg.lies HR.out.1.n1
          have hL : ((l.take l.length).map (sub (fun n => var (f n)))).length = l.length := by simp
          rw [hL] at hll hg
          have hz := (hg.bel.block _ (by rw [HW1.out.2.2.1]; omega)).trans HW1.out.2.2.2
          obtain ⟨⟨e0, e1, e2, e3, e4, e5⟩, _⟩ := blk_facts hg.box
          obtain ⟨⟨z0, z1, z2, z3, z4, z5⟩, y0, y1, y2, y3, y4, y5⟩ := blk_facts hz
          have HZ := Lib.hid (And.intro hbw (And.intro hz (And.intro hll hg)))
          clear hbw hz hll hg
          go_wp2_with fail
          obtain ⟨W, hW, e0, e1, e2, e3, e4, e5, k6⟩ := res_fin HZ.out.2.1 (.int .i64 5) (.string n) (.int .i64 0) (.int .u64 0) (.int .u64 0) (.slice a2 l.length c2)
          rw [hW]
          have hlt1 : w.heap.size + 1 < wr.heap.size := (Array.getElem?_eq_some_iff.1 HZ.out.2.1).1
          refine bodyPost_ret (v := .agg #[.int .i64 5, .string n, .int .i64 0, .int .u64 0, .int .u64 0, .slice a2 l.length c2]) (by simp [results, Try.results36, go_sem, e0, e1, e2, e3, e4, e5]) rfl ⟨_, _, _, _, _, _, _, _, rfl, HZ.out.1.trans (k6.to_below (fun i h => by subst h; omega) (by omega)), ?_⟩
          have hp : sub (fun n => var (f n)) (.mk 5 n i re im l) = comp n ((l.take l.length).map (sub (fun n => var (f n)))) := by
            rw [List.take_length]; simp only [sub, subL_map]; simp [comp]
          rw [hp]
          exact Lies.keep (X := Zb 0 (w.heap.size + 1 + 1)) (Y := Old w) (k6.mono fun i h => by subst h; exact ⟨by omega, by omega⟩) (fun b _ h => ⟨by omega, by have : b < w.heap.size := h; omega⟩) _ _ HZ.out.2.2.1
    have q5 : (k != 5) = true := by rw [bne_iff_ne]; exact h5
    have hgood : good (.mk k n i re im l) = true := by
      simp only [good, size, height, HS.out.1, Bool.and_true, if_neg h5]
      decide
    have HE : Hid (sub (fun n => var (f n)) (.mk k n i re im l) = plainR (.mk k n i re im l)) := Lib.hid (by
      unfold plainR; rw [if_pos hgood]
      simp [plain, sub, h1, h5])
    rw [HE.out]
    clear hc h1 h5 hgood
    go_enter Try.func36, Try.ntmps36
    go_wp2_with fail
    refine (rPlain_any _ _ _ ((HT.out.below (ba _ _)).below (ba _ _))).mono ?_
    rintro e w2 ⟨kq, nq, iq, req, imq, aq, lq, cq, rfl, hb2, hq⟩
    have hq' := hq
    obtain ⟨_, hz, hlt, hb⟩ := two_at hb2
    have HQ := Lib.hid (And.intro hb (And.intro hz hq))
    obtain ⟨⟨z0, z1, z2, z3, z4, z5⟩, y0, y1, y2, y3, y4, y5⟩ := blk_facts hz
    clear hb2 hq hq' hb hz
    go_wp2_with fail
    obtain ⟨W, hW, e0, e1, e2, e3, e4, e5, k6⟩ := res_fin HQ.out.2.1 (.int .i64 kq) (.string nq) (.int .i64 iq) (.int .u64 req) (.int .u64 imq) (.slice aq lq cq)
    rw [hW]
    refine bodyPost_ret (v := .agg #[.int .i64 kq, .string nq, .int .i64 iq, .int .u64 req, .int .u64 imq, .slice aq lq cq]) (by simp [results, Try.results36, go_sem, e0, e1, e2, e3, e4, e5]) rfl ⟨_, _, _, _, _, _, _, _, rfl, HQ.out.1.trans (k6.to_below (fun i h => by subst h; omega) (by omega)), ?_⟩
    exact Lies.keep (X := Old ((w.alloc (.cells #[.int .i64 k, .string n, .int .i64 i, .int .u64 re, .int .u64 im, .slice a l.length c] 36)).alloc ZT)) (Y := Old w) (k6.mono fun i h => by subst h; show _ < _; rw [alloc_size, alloc_size]; omega) (fun b _ h => by show b < _; rw [alloc_size, alloc_size]; have : b < w.heap.size := h; omega) _ _ HQ.out.2.2
end Go.Proofs.Ytibepkljcofpdaa.mp3
namespace Go.Proofs.Ytibepkljcofpdaa.sh
set_option linter.unusedVariables false
open Go.ChangeShapes Go.WideShapes Go.ChangeAt Go.RowKit
open Go.Proofs.Ytibepkljcofpdaa.tm Go.Proofs.Ytibepkljcofpdaa.lie Go.Proofs.Ytibepkljcofpdaa.kp Go.Proofs.Ytibepkljcofpdaa.cur Go.Proofs.Ytibepkljcofpdaa.wlk Go.Proofs.Ytibepkljcofpdaa.pln Go.Proofs.Ytibepkljcofpdaa.pla Go.Proofs.Ytibepkljcofpdaa.awk
def fs (b n : Int) : Int := wrap64 (n + b)
theorem fs_range (b n : Int) : -9223372036854775808 ≤ fs b n ∧ fs b n ≤ 9223372036854775807 := by unfold fs wrap64; omega
theorem fs_eq {b n : Int} (h0 : 0 ≤ b) (h1 : b < 1048576) (h2 : 0 ≤ n) (h3 : n ≤ 1099511627776) : fs b n = n + b := by unfold fs wrap64; omega
theorem at3 (w0 : World) (ca : Nat) (b : Int) (hc : w0.cell? ⟨ca, 0, none⟩ = some (.int .i64 b)) : mp3.At w0 (fs b) ⟨ca, 0, none⟩ := by
  intro n w hb h0 h1
  have hcl := cell_lt hc
  have hc1 := (hb.cell (p := ⟨ca, 0, none⟩) hcl).trans hc
  have hcl1 : ca < w.heap.size := cell_lt hc1
  have hc2 := ((ba w ZT).cell (p := ⟨ca, 0, none⟩) hcl1).trans hc1
  have HF : Hid (wrap64 (n + b) = fs b n) := Lib.hid rfl
  refine ⟨?_, (fs_range b n).1, (fs_range b n).2⟩
  clear hb hc hc1 hcl hcl1 h0 h1
  go_enter Try.func37, Try.ntmps37
  go_wp2_with fail
  rw [HF.out]
  refine (rVar_any _ _).mono ?_
  rintro e w1 ⟨rfl, hb⟩
  have hz : w1.heap[w.heap.size]? = some ZT := (hb.block _ (by rw [alloc_size]; omega)).trans (alloc_at w ZT)
  obtain ⟨⟨z0, z1, z2, z3, z4, z5⟩, y0, y1, y2, y3, y4, y5⟩ := blk_facts hz
  have HB := Lib.hid (And.intro hb hz)
  clear hb hz hc2
  go_wp2_with fail
  obtain ⟨W, hW, e0, e1, e2, e3, e4, e5, k6⟩ := res_fin HB.out.2 (.int .i64 1) (.string ⟨#[]⟩) (.int .i64 (fs b n)) (.int .u64 0) (.int .u64 0) (.slice none 0 0)
  rw [hW]
  exact bodyPost_ret (v := .agg #[.int .i64 1, .string ⟨#[]⟩, .int .i64 (fs b n), .int .u64 0, .int .u64 0, .slice none 0 0]) (by simp [results, Try.results37, go_sem, e0, e1, e2, e3, e4, e5]) rfl ⟨rfl, (bt (ba w _) HB.out.1).trans (k6.to_below (fun i h => by subst h; omega) (by have := HB.out.1.size; rw [alloc_size] at this; omega))⟩
end Go.Proofs.Ytibepkljcofpdaa.sh
