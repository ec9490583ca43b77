/- The reference's plain. -/
import Derived.Test.YtibepkljcofpdaaOwn7
import Derived.Deep.RegionLaw
import Derived.Deep.LoopGhost
namespace Go.Proofs.Ytibepkljcofpdaa.rpl
set_option linter.unusedVariables false
open Go.ChangeShapes Go.WideShapes Go.ChangeAt Go.RowKit
open Go.Proofs.Ytibepkljcofpdaa.tm Go.Proofs.Ytibepkljcofpdaa.lie Go.Proofs.Ytibepkljcofpdaa.kp Go.Proofs.Ytibepkljcofpdaa.cur Go.Proofs.Ytibepkljcofpdaa.pln Go.Proofs.Ytibepkljcofpdaa.pla Go.Proofs.Ytibepkljcofpdaa.wlk Go.Proofs.Ytibepkljcofpdaa.ow6 Go.Proofs.Ytibepkljcofpdaa.rws
def GRel (k : Int) (n : ByteArray) (f : Tm → Tm) (l : List Tm) (b : Nat) (w : World) (g : Nat) (s38 : Value) (wr : World) : Prop :=
  ∃ (kk : Nat) (s : Value), kk ≤ l.length ∧ g = l.length - kk ∧ s38 = .int .i64 kk ∧ Grow 0 b k n ((l.take kk).map f) s w wr
set_option linter.unusedSimpArgs false in
set_option maxRecDepth 100000 in
set_option maxHeartbeats 1000000 in
theorem rplain_any (t : Tm) : ∀ (v : Value) (w : World), Lies No w t v → sound t = true → Calls Try.prog 77 #[v] w (Gives (Old w) (plain t) w) := by
  induction t using Tm.ind with
  | h k n i re im l ih =>
    intro v w ht hs
    have IH := Lib.hid ih
    have HT := Lib.hid ht
    have hc := Go.Proofs.Ytibepkljcofpdaa.tm.chk_kind (sound_chk hs)
    have HS := Lib.hid hs
    rw [Lies] at ht
    obtain ⟨a, c, rfl, hf, hr⟩ := ht
    have HR := Lib.hid (And.intro hf hr)
    clear hf hr ih hs
    simp only [Tm.kind] at hc
    rcases hc with rfl | rfl | rfl | rfl | rfl
    · have hl : ∀ w', Lies (Old w) w' (plain (.mk 1 n i re im l)) (.agg #[.int .i64 1, .string ⟨#[]⟩, .int .i64 i, .int .u64 0, .int .u64 0, .slice none 0 0]) := fun w' => var_lies _ _ _ HR.out.1.i0 HR.out.1.i1
      have HLi := Lib.hid hl
      clear hl
      go_enter Try.func77, Try.ntmps77
      go_wp2_with fail
      exact bodyPost_ret (v := .agg #[.int .i64 1, .string ⟨#[]⟩, .int .i64 i, .int .u64 0, .int .u64 0, .slice none 0 0]) (by simp [results, Try.results77, go_sem]) rfl ⟨_, _, _, _, _, _, _, _, rfl, bt (bt (ba _ _) (ba _ _)) (ba _ _), HLi.out _⟩
    · have hl : ∀ w', Lies (Old w) w' (plain (.mk 2 n i re im l)) (.agg #[.int .i64 2, .string n, .int .i64 0, .int .u64 0, .int .u64 0, .slice none 0 0]) := fun w' => lies_2 _ _ _ _ _ _ _ _ _ HR.out.1
      have HLi := Lib.hid hl
      clear hl
      go_enter Try.func77, Try.ntmps77
      go_wp2_with fail
      exact bodyPost_ret (v := .agg #[.int .i64 2, .string n, .int .i64 0, .int .u64 0, .int .u64 0, .slice none 0 0]) (by simp [results, Try.results77, go_sem]) rfl ⟨_, _, _, _, _, _, _, _, rfl, bt (bt (ba _ _) (ba _ _)) (ba _ _), HLi.out _⟩
    · have hl : ∀ w', Lies (Old w) w' (plain (.mk 3 n i re im l)) (.agg #[.int .i64 3, .string ⟨#[]⟩, .int .i64 i, .int .u64 0, .int .u64 0, .slice none 0 0]) := fun w' => lies_3 _ _ _ _ _ _ _ _ _ HR.out.1
      have HLi := Lib.hid hl
      clear hl
      go_enter Try.func77, Try.ntmps77
      go_wp2_with fail
      exact bodyPost_ret (v := .agg #[.int .i64 3, .string ⟨#[]⟩, .int .i64 i, .int .u64 0, .int .u64 0, .slice none 0 0]) (by simp [results, Try.results77, go_sem]) rfl ⟨_, _, _, _, _, _, _, _, rfl, bt (bt (ba _ _) (ba _ _)) (ba _ _), HLi.out _⟩
    · have hl : ∀ w', Lies (Old w) w' (plain (.mk 4 n i re im l)) (.agg #[.int .i64 4, .string ⟨#[]⟩, .int .i64 0, .int .u64 re, .int .u64 im, .slice none 0 0]) := fun w' => lies_4 _ _ _ _ _ _ _ _ _ HR.out.1
      have HLi := Lib.hid hl
      clear hl
      go_enter Try.func77, Try.ntmps77
      go_wp2_with fail
      go_region
      go_wp2_with fail
      exact bodyPost_ret (v := .agg #[.int .i64 4, .string ⟨#[]⟩, .int .i64 0, .int .u64 re, .int .u64 im, .slice none 0 0]) (by simp [results, Try.results77, go_sem]) rfl ⟨_, _, _, _, _, _, _, _, rfl, bt (bt (bt (ba _ _) (ba _ _)) (ba _ _)) (bdr _), HLi.out _⟩
    · have hlen := sound_args HS.out rfl
      have hl20 : l.length ≤ 20 := by have := sound_chk HS.out; simp only [chk] at this; simp at this; omega
      obtain ⟨ij, hi1, hi2, hi3, hi4⟩ := info_t
      have HI := Lib.hid (And.intro hi1 (And.intro hi2 (And.intro hi3 hi4)))
      have HC := Lib.hid hlen
      clear hlen hi1 hi2 hi3 hi4
      obtain ⟨w1, hw1⟩ : ∃ w1, w1 = (w.alloc (.cells #[.int .i64 5, .string n, .int .i64 i, .int .u64 re, .int .u64 im, .slice a l.length c] 36)).alloc ZT := ⟨_, rfl⟩
      have hb1 : Below w.heap.size w w1 := by rw [hw1]; exact bt (ba _ _) (ba _ _)
      have hs1 : w1.heap.size = w.heap.size + 1 + 1 := by rw [hw1, alloc_size, alloc_size]
      have hz1 : w1.heap[w.heap.size + 1]? = some ZT := by
        have := alloc_at (w.alloc (.cells #[.int .i64 5, .string n, .int .i64 i, .int .u64 re, .int .u64 im, .slice a l.length c] 36)) ZT
        rw [alloc_size] at this
        rw [hw1]; exact this
      have HW1 := Lib.hid (And.intro hw1 (And.intro hb1 (And.intro hs1 hz1)))
      clear hw1 hb1 hs1 hz1
      go_enter Try.func77, Try.ntmps77
      go_wp2_with fail
      go_loopg [38] l.length (GRel 5 n plain l (w.heap.size + 1 + 1) w1)
      case atStart =>
        rw [← HW1.out.1]
        refine ⟨0, _, by omega, by omega, rfl, by simpa using XOwn.nil _ _ _, ?_, ba _ _, by rw [HW1.out.2.2.1]; omega, by omega⟩
        have := alloc_at w1 (.cells #[.int .i64 5, .string n, .int .i64 0, .int .u64 0, .int .u64 0, .slice none 0 0] 36)
        rw [HW1.out.2.2.1] at this
        exact this
      case round =>
        obtain ⟨kk, s, hk, rfl, rfl, hg⟩ := hrel
        have hbw : Below w.heap.size w wr := HW1.out.2.1.trans (hg.bel.mono HW1.out.2.1.size)
        by_cases hlt : kk < l.length
        · obtain ⟨b, o, v0, v1, v2, v3, v4, v5, hbl, _, h6, hlx, hix⟩ := HR.out.2.look hlt
          have h6' := h6.keep (X := No) (Keep.of_below hbw) id
          have hix' := hix c
          obtain ⟨kq, nq, iq, req, imq, lq, aq, cq, hv, _⟩ := lies_form hlx
          obtain ⟨rfl, rfl, rfl, rfl, rfl, rfl⟩ := hv
          obtain ⟨e0, e1, e2, e3, e4, e5⟩ := h6'
          have hmem := List.getElem_mem hlt
          have HX := Lib.hid (And.intro (hlx.below hbw) (And.intro hg (And.intro (IH.out _ hmem) (HC.out _ hmem))))
          clear h6 hlx hix hg hbw
          go_wp2_with fail
          have hg0 := HX.out.2.1.below (bt (ba wr (.cells #[.int .i64 kq, .string nq, .int .i64 iq, .int .u64 req, .int .u64 imq, .slice aq lq cq] 36)) (bdr _))
          have hw0 : (wr.alloc (.cells #[.int .i64 kq, .string nq, .int .i64 iq, .int .u64 req, .int .u64 imq, .slice aq lq cq] 36)).drew.heap[wr.heap.size]? = some (.cells #[.int .i64 kq, .string nq, .int .i64 iq, .int .u64 req, .int .u64 imq, .slice aq lq cq] 36 (0, 0)) := alloc_at wr _
          have hl0 := HX.out.1.below (bt (ba wr (.cells #[.int .i64 kq, .string nq, .int .i64 iq, .int .u64 req, .int .u64 imq, .slice aq lq cq] 36)) (bdr _))
          have HG := Lib.hid (And.intro hg0 (And.intro hw0 hl0))
          obtain ⟨⟨x0, x1, x2, x3, x4, x5⟩, _⟩ := blk_facts hw0
          obtain ⟨⟨_, _, _, _, _, y5⟩, _⟩ := blk_facts hg0.box
          clear hg0 hw0 hl0 e0 e1 e2 e3 e4 e5
          go_region_law (first
            | (go_simp; go_at_call 77; refine (HX.out.2.2.1 _ _ ?_ ?_).mono ?_; exact HG.out.2.2; exact HX.out.2.2.2; rintro e w3 ⟨ka, na, ia, ra, ma, aa, la, cc, rfl, hb3, hq⟩; have HP := Lib.hid (HG.out.1.pre (br _) hb3 (hq.off fun i h0 h1 => h1.2)); obtain ⟨⟨_, _, _, _, _, y5⟩, _⟩ := blk_facts HP.out.1.box; obtain ⟨⟨_, _, _, _, _, y6⟩, _⟩ := blk_facts (HP.out.1.below (ba w3 (.cells #[.int .i64 ka, .string na, .int .i64 ia, .int .u64 ra, .int .u64 ma, .slice aa la cc] 36))).box; obtain ⟨xs, ho, hx⟩ := HP.out.1.own.ex; have HO := Lib.hid (And.intro ho hx); clear hb3 hq ho hx; try dsimp only)
            | (refine step_append_lies _ rfl (.tmp 43) (.tmp 46) 22 rfl (w.heap.size + 1 + 1 + 1) 36 ij ZV 6 72 Try.underlying22 HI.out.1 HI.out.2.1 HI.out.2.2.1 HI.out.2.2.2 rfl (by decide) s ((l.take kk).map plain).length xs (by simp [Act.eval, Act.put]) (row6_keep HO.out.1 fun q e => (ba _ _).block q (HO.out.1.lt q e).2) ⟨w3.heap.size, 0, none⟩ 1 1 [.int .i64 ka, .string na, .int .i64 ia, .int .u64 ra, .int .u64 ma, .slice aa la cc] (by simp [Act.eval, Act.put]) rfl (news6 _ _ _ _ _ _ _ _) (by intro u hu; simp only [List.mem_cons, List.not_mem_nil, or_false] at hu; rcases hu with rfl | rfl | rfl | rfl | rfl | rfl <;> rfl) (by omega) (by unfold maxLen; simp; omega) (by simp; omega) (by rw [alloc_size]; have := HP.out.1.lt; omega) _ rfl ?_; intro g' c' w9 ho9 hg9 ha9 hl9; have HF := Lib.hid (HP.out.1.post HO.out.2 HO.out.1 HP.out.2 ho9 hg9 ha9); obtain ⟨z1, z2⟩ := HF.out.1; clear ho9 hg9 ha9 hl9))
          all_goals
            go_wp2_with fail
            go_roundg (l.length - (kk + 1))
            case measure => omega
            case rel =>
              have hgr := HF.out.2
              rw [map_next hlt, map_len hk] at hgr
              exact ⟨kk + 1, _, hlt, rfl, by go_num, hgr⟩
        · have hkv : kk = l.length := by omega
          subst hkv
          obtain ⟨a2, c2, rfl, hll⟩ := hg.lies HR.out.1.n1
          have hL : ((l.take l.length).map plain).length = l.length := by simp
          rw [hL] at hll hg
          have hz := (hg.bel.block _ (by rw [HW1.out.2.2.1]; omega)).trans HW1.out.2.2.2
          obtain ⟨⟨e0, e1, e2, e3, e4, e5⟩, _⟩ := blk_facts hg.box
          obtain ⟨⟨z0, z1, z2, z3, z4, z5⟩, y0, y1, y2, y3, y4, y5⟩ := blk_facts hz
          have HZ := Lib.hid (And.intro hbw (And.intro hz (And.intro hll hg)))
          clear hbw hz hll hg
          go_wp2_with fail
          obtain ⟨W, hW, e0, e1, e2, e3, e4, e5, k6⟩ := res_fin HZ.out.2.1 (.int .i64 5) (.string n) (.int .i64 0) (.int .u64 0) (.int .u64 0) (.slice a2 l.length c2)
          rw [hW]
          have hlt1 : w.heap.size + 1 < wr.heap.size := (Array.getElem?_eq_some_iff.1 HZ.out.2.1).1
          refine bodyPost_ret (v := .agg #[.int .i64 5, .string n, .int .i64 0, .int .u64 0, .int .u64 0, .slice a2 l.length c2]) (by simp [results, Try.results77, go_sem, e0, e1, e2, e3, e4, e5]) rfl ⟨_, _, _, _, _, _, _, _, rfl, HZ.out.1.trans (k6.to_below (fun i h => by subst h; omega) (by omega)), ?_⟩
          have hp : plain (.mk 5 n i re im l) = comp n ((l.take l.length).map plain) := by
            rw [List.take_length]; unfold plain; simp only [sub, subL_map]; simp [comp]
          rw [hp]
          exact Lies.keep (X := Zb 0 (w.heap.size + 1 + 1)) (Y := Old w) (k6.mono fun i h => by subst h; exact ⟨by omega, by omega⟩) (fun b _ h => ⟨by omega, by have : b < w.heap.size := h; omega⟩) _ _ HZ.out.2.2.1
end Go.Proofs.Ytibepkljcofpdaa.rpl
