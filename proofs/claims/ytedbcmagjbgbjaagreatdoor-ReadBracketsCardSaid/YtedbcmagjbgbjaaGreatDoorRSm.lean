/- The reference's plain. The reference's Like, Same, Plain. The reference's Same, Plain, Equal. -/
import Derived.Test.YtedbcmagjbgbjaaGreatDoorOwn6
import Derived.Deep.RegionLaw
import Derived.Deep.LoopGhost
import Derived.Test.YtedbcmagjbgbjaaGreatDoorSame
import Derived.Test.YtedbcmagjbgbjaaGreatDoorRMay
import Derived.StillTailTactics
import Derived.Test.YtedbcmagjbgbjaaGreatDoorRm
namespace Go.Proofs.YtedbcmagjbgbjaaGreatDoor.rpl
set_option linter.unusedVariables false
open Go.ChangeShapes Go.WideShapes Go.ChangeAt Go.RowKit
open Go.Proofs.YtedbcmagjbgbjaaGreatDoor.tm Go.Proofs.YtedbcmagjbgbjaaGreatDoor.lie Go.Proofs.YtedbcmagjbgbjaaGreatDoor.kp Go.Proofs.YtedbcmagjbgbjaaGreatDoor.cur Go.Proofs.YtedbcmagjbgbjaaGreatDoor.pln Go.Proofs.YtedbcmagjbgbjaaGreatDoor.pla Go.Proofs.YtedbcmagjbgbjaaGreatDoor.wlk Go.Proofs.YtedbcmagjbgbjaaGreatDoor.ow6 Go.Proofs.YtedbcmagjbgbjaaGreatDoor.rws
def GRel (k : Int) (n : ByteArray) (f : Tm → Tm) (l : List Tm) (b : Nat) (w : World) (g : Nat) (s38 : Value) (wr : World) : Prop :=
  ∃ (kk : Nat) (s : Value), kk ≤ l.length ∧ g = l.length - kk ∧ s38 = .int .i64 kk ∧ Grow 0 b k n ((l.take kk).map f) s w wr
set_option linter.unusedSimpArgs false in
set_option maxRecDepth 100000 in
set_option maxHeartbeats 1000000 in
theorem rplain_any (t : Tm) : ∀ (v : Value) (w : World), Lies No w t v → sound t = true → Calls Tryz.prog 53 #[v] w (Gives (Old w) (plain t) w) := by
  induction t using Tm.ind with
  | h k n i re im l ih =>
    intro v w ht hs
    have IH := Lib.hid ih
    have HT := Lib.hid ht
    have hc := Go.Proofs.YtedbcmagjbgbjaaGreatDoor.tm.chk_kind (sound_chk hs)
    have HS := Lib.hid hs
    rw [Lies] at ht
    obtain ⟨a, c, rfl, hf, hr⟩ := ht
    have HR := Lib.hid (And.intro hf hr)
    clear hf hr ih hs
    simp only [Tm.kind] at hc
    rcases hc with rfl | rfl | rfl | rfl | rfl
    · have hl : ∀ w', Lies (Old w) w' (plain (.mk 1 n i re im l)) (.agg #[.int .i64 1, .string ⟨#[]⟩, .int .i64 i, .int .u64 0, .int .u64 0, .slice none 0 0]) := fun w' => var_lies _ _ _ HR.out.1.i0 HR.out.1.i1
      have HLi := Lib.hid hl
      clear hl
      go_enter Tryz.func53, Tryz.ntmps53
      go_wp2_with fail
      exact bodyPost_ret (v := .agg #[.int .i64 1, .string ⟨#[]⟩, .int .i64 i, .int .u64 0, .int .u64 0, .slice none 0 0]) (by simp [results, Tryz.results53, go_sem]) rfl ⟨_, _, _, _, _, _, _, _, rfl, bt (bt (ba _ _) (ba _ _)) (ba _ _), HLi.out _⟩
    · have hl : ∀ w', Lies (Old w) w' (plain (.mk 2 n i re im l)) (.agg #[.int .i64 2, .string n, .int .i64 0, .int .u64 0, .int .u64 0, .slice none 0 0]) := fun w' => lies_2 _ _ _ _ _ _ _ _ _ HR.out.1
      have HLi := Lib.hid hl
      clear hl
      go_enter Tryz.func53, Tryz.ntmps53
      go_wp2_with fail
      exact bodyPost_ret (v := .agg #[.int .i64 2, .string n, .int .i64 0, .int .u64 0, .int .u64 0, .slice none 0 0]) (by simp [results, Tryz.results53, go_sem]) rfl ⟨_, _, _, _, _, _, _, _, rfl, bt (bt (ba _ _) (ba _ _)) (ba _ _), HLi.out _⟩
    · have hl : ∀ w', Lies (Old w) w' (plain (.mk 3 n i re im l)) (.agg #[.int .i64 3, .string ⟨#[]⟩, .int .i64 i, .int .u64 0, .int .u64 0, .slice none 0 0]) := fun w' => lies_3 _ _ _ _ _ _ _ _ _ HR.out.1
      have HLi := Lib.hid hl
      clear hl
      go_enter Tryz.func53, Tryz.ntmps53
      go_wp2_with fail
      exact bodyPost_ret (v := .agg #[.int .i64 3, .string ⟨#[]⟩, .int .i64 i, .int .u64 0, .int .u64 0, .slice none 0 0]) (by simp [results, Tryz.results53, go_sem]) rfl ⟨_, _, _, _, _, _, _, _, rfl, bt (bt (ba _ _) (ba _ _)) (ba _ _), HLi.out _⟩
    · have hl : ∀ w', Lies (Old w) w' (plain (.mk 4 n i re im l)) (.agg #[.int .i64 4, .string ⟨#[]⟩, .int .i64 0, .int .u64 re, .int .u64 im, .slice none 0 0]) := fun w' => lies_4 _ _ _ _ _ _ _ _ _ HR.out.1
      have HLi := Lib.hid hl
      clear hl
      go_enter Tryz.func53, Tryz.ntmps53
      go_wp2_with fail
      go_region
      go_wp2_with fail
      exact bodyPost_ret (v := .agg #[.int .i64 4, .string ⟨#[]⟩, .int .i64 0, .int .u64 re, .int .u64 im, .slice none 0 0]) (by simp [results, Tryz.results53, go_sem]) rfl ⟨_, _, _, _, _, _, _, _, rfl, bt (bt (bt (ba _ _) (ba _ _)) (ba _ _)) (bdr _), HLi.out _⟩
    · have hlen := sound_args HS.out rfl
      have hl20 : l.length ≤ 20 := by have := sound_chk HS.out; simp only [chk] at this; simp at this; omega
      obtain ⟨ij, hi1, hi2, hi3, hi4⟩ := info_t
      have HI := Lib.hid (And.intro hi1 (And.intro hi2 (And.intro hi3 hi4)))
      have HC := Lib.hid hlen
      clear hlen hi1 hi2 hi3 hi4
      obtain ⟨w1, hw1⟩ : ∃ w1, w1 = (w.alloc (.cells #[.int .i64 5, .string n, .int .i64 i, .int .u64 re, .int .u64 im, .slice a l.length c] 27)).alloc ZT := ⟨_, rfl⟩
      have hb1 : Below w.heap.size w w1 := by rw [hw1]; exact bt (ba _ _) (ba _ _)
      have hs1 : w1.heap.size = w.heap.size + 1 + 1 := by rw [hw1, alloc_size, alloc_size]
      have hz1 : w1.heap[w.heap.size + 1]? = some ZT := by
        have := alloc_at (w.alloc (.cells #[.int .i64 5, .string n, .int .i64 i, .int .u64 re, .int .u64 im, .slice a l.length c] 27)) ZT
        rw [alloc_size] at this
        rw [hw1]; exact this
      have HW1 := Lib.hid (And.intro hw1 (And.intro hb1 (And.intro hs1 hz1)))
      clear hw1 hb1 hs1 hz1
      go_enter Tryz.func53, Tryz.ntmps53
      go_wp2_with fail
      go_loopg [38] l.length (GRel 5 n plain l (w.heap.size + 1 + 1) w1)
      case atStart =>
        rw [← HW1.out.1]
        refine ⟨0, _, by omega, by omega, rfl, by simpa using XOwn.nil _ _ _, ?_, ba _ _, by rw [HW1.out.2.2.1]; omega, by omega⟩
        have := alloc_at w1 (.cells #[.int .i64 5, .string n, .int .i64 0, .int .u64 0, .int .u64 0, .slice none 0 0] 27)
        rw [HW1.out.2.2.1] at this
        exact this
      case round =>
        obtain ⟨kk, s, hk, rfl, rfl, hg⟩ := hrel
        have hbw : Below w.heap.size w wr := HW1.out.2.1.trans (hg.bel.mono HW1.out.2.1.size)
        by_cases hlt : kk < l.length
        · obtain ⟨b, o, v0, v1, v2, v3, v4, v5, hbl, _, h6, hlx, hix⟩ := HR.out.2.look hlt
          have h6' := h6.keep (X := No) (Keep.of_below hbw) id
          have hix' := hix c
          obtain ⟨kq, nq, iq, req, imq, lq, aq, cq, hv, _⟩ := lies_form hlx
          obtain ⟨rfl, rfl, rfl, rfl, rfl, rfl⟩ := hv
          obtain ⟨e0, e1, e2, e3, e4, e5⟩ := h6'
          have hmem := List.getElem_mem hlt
          have HX := Lib.hid (And.intro (hlx.below hbw) (And.intro hg (And.intro (IH.out _ hmem) (HC.out _ hmem))))
          clear h6 hlx hix hg hbw
          go_wp2_with fail
          have hg0 := HX.out.2.1.below (bt (ba wr (.cells #[.int .i64 kq, .string nq, .int .i64 iq, .int .u64 req, .int .u64 imq, .slice aq lq cq] 27)) (bdr _))
          have hw0 : (wr.alloc (.cells #[.int .i64 kq, .string nq, .int .i64 iq, .int .u64 req, .int .u64 imq, .slice aq lq cq] 27)).drew.heap[wr.heap.size]? = some (.cells #[.int .i64 kq, .string nq, .int .i64 iq, .int .u64 req, .int .u64 imq, .slice aq lq cq] 27 (0, 0)) := alloc_at wr _
          have hl0 := HX.out.1.below (bt (ba wr (.cells #[.int .i64 kq, .string nq, .int .i64 iq, .int .u64 req, .int .u64 imq, .slice aq lq cq] 27)) (bdr _))
          have HG := Lib.hid (And.intro hg0 (And.intro hw0 hl0))
          obtain ⟨⟨x0, x1, x2, x3, x4, x5⟩, _⟩ := blk_facts hw0
          obtain ⟨⟨_, _, _, _, _, y5⟩, _⟩ := blk_facts hg0.box
          clear hg0 hw0 hl0 e0 e1 e2 e3 e4 e5
          go_region_law (first
            | (go_simp; go_at_call 53; refine (HX.out.2.2.1 _ _ ?_ ?_).mono ?_; exact HG.out.2.2; exact HX.out.2.2.2; rintro e w3 ⟨ka, na, ia, ra, ma, aa, la, cc, rfl, hb3, hq⟩; have HP := Lib.hid (HG.out.1.pre (br _) hb3 (hq.off fun i h0 h1 => h1.2)); obtain ⟨⟨_, _, _, _, _, y5⟩, _⟩ := blk_facts HP.out.1.box; obtain ⟨⟨_, _, _, _, _, y6⟩, _⟩ := blk_facts (HP.out.1.below (ba w3 (.cells #[.int .i64 ka, .string na, .int .i64 ia, .int .u64 ra, .int .u64 ma, .slice aa la cc] 27))).box; obtain ⟨xs, ho, hx⟩ := HP.out.1.own.ex; have HO := Lib.hid (And.intro ho hx); clear hb3 hq ho hx; try dsimp only)
            | (refine step_append_lies _ rfl (.tmp 43) (.tmp 46) 25 rfl (w.heap.size + 1 + 1 + 1) 27 ij ZV 6 72 Tryz.underlying25 HI.out.1 HI.out.2.1 HI.out.2.2.1 HI.out.2.2.2 rfl (by decide) s ((l.take kk).map plain).length xs (by simp [Act.eval, Act.put]) (row6_keep HO.out.1 fun q e => (ba _ _).block q (HO.out.1.lt q e).2) ⟨w3.heap.size, 0, none⟩ 1 1 [.int .i64 ka, .string na, .int .i64 ia, .int .u64 ra, .int .u64 ma, .slice aa la cc] (by simp [Act.eval, Act.put]) rfl (news6 _ _ _ _ _ _ _ _) (by intro u hu; simp only [List.mem_cons, List.not_mem_nil, or_false] at hu; rcases hu with rfl | rfl | rfl | rfl | rfl | rfl <;> rfl) (by omega) (by unfold maxLen; simp; omega) (by simp; omega) (by rw [alloc_size]; have := HP.out.1.lt; omega) _ rfl ?_; intro g' c' w9 ho9 hg9 ha9 hl9; have HF := Lib.hid (HP.out.1.post HO.out.2 HO.out.1 HP.out.2 ho9 hg9 ha9); obtain ⟨z1, z2⟩ := HF.out.1; clear ho9 hg9 ha9 hl9))
          all_goals
            go_wp2_with fail
            go_roundg (l.length - (kk + 1))
            case measure => omega
            case rel =>
              have hgr := HF.out.2
              rw [map_next hlt, map_len hk] at hgr
              exact ⟨kk + 1, _, hlt, rfl, by go_num, hgr⟩
        · have hkv : kk = l.length := by omega
          subst hkv
          obtain ⟨a2, c2, rfl, hll⟩ := hg.lies HR.out.1.n1
          have hL : ((l.take l.length).map plain).length = l.length := by simp
          rw [hL] at hll hg
          have hz := (hg.bel.block _ (by rw [HW1.out.2.2.1]; omega)).trans HW1.out.2.2.2
          obtain ⟨⟨e0, e1, e2, e3, e4, e5⟩, _⟩ := blk_facts hg.box
          obtain ⟨⟨z0, z1, z2, z3, z4, z5⟩, y0, y1, y2, y3, y4, y5⟩ := blk_facts hz
          have HZ := Lib.hid (And.intro hbw (And.intro hz (And.intro hll hg)))
          clear hbw hz hll hg
          go_wp2_with fail
          obtain ⟨W, hW, e0, e1, e2, e3, e4, e5, k6⟩ := res_fin HZ.out.2.1 (.int .i64 5) (.string n) (.int .i64 0) (.int .u64 0) (.int .u64 0) (.slice a2 l.length c2)
          rw [hW]
          have hlt1 : w.heap.size + 1 < wr.heap.size := (Array.getElem?_eq_some_iff.1 HZ.out.2.1).1
          refine bodyPost_ret (v := .agg #[.int .i64 5, .string n, .int .i64 0, .int .u64 0, .int .u64 0, .slice a2 l.length c2]) (by simp [results, Tryz.results53, go_sem, e0, e1, e2, e3, e4, e5]) rfl ⟨_, _, _, _, _, _, _, _, rfl, HZ.out.1.trans (k6.to_below (fun i h => by subst h; omega) (by omega)), ?_⟩
          have hp : plain (.mk 5 n i re im l) = comp n ((l.take l.length).map plain) := by
            rw [List.take_length]; unfold plain; simp only [sub, subL_map]; simp [comp]
          rw [hp]
          exact Lies.keep (X := Zb 0 (w.heap.size + 1 + 1)) (Y := Old w) (k6.mono fun i h => by subst h; exact ⟨by omega, by omega⟩) (fun b _ h => ⟨by omega, by have : b < w.heap.size := h; omega⟩) _ _ HZ.out.2.2.1
end Go.Proofs.YtedbcmagjbgbjaaGreatDoor.rpl
namespace Go.Proofs.YtedbcmagjbgbjaaGreatDoor.rlk
set_option linter.unusedVariables false
open Go.ChangeShapes Go.WideShapes Go.ChangeAt Go.RowKit
open Go.Proofs.YtedbcmagjbgbjaaGreatDoor.tm Go.Proofs.YtedbcmagjbgbjaaGreatDoor.lie Go.Proofs.YtedbcmagjbgbjaaGreatDoor.kp Go.Proofs.YtedbcmagjbgbjaaGreatDoor.cur Go.Proofs.YtedbcmagjbgbjaaGreatDoor.rws Go.Proofs.YtedbcmagjbgbjaaGreatDoor.sme
theorem likeL_at : ∀ {l l' : List Tm}, likeL l l' = true → ∀ (k : Nat) (h : k < l.length) (h' : k < l'.length), like l[k] l'[k] = true
  | [], _, _, k, h, _ => by simp at h
  | _ :: _, [], h, _, _, _ => by simp [likeL] at h
  | a :: l, b :: l', h, 0, _, _ => by simp only [likeL, Bool.and_eq_true] at h; exact h.1
  | a :: l, b :: l', h, k + 1, hk, hk' => by
    simp only [likeL, Bool.and_eq_true] at h
    exact likeL_at h.2 k (by simpa using hk) (by simpa using hk')
theorem likeL_of : ∀ {l l' : List Tm}, l.length = l'.length → (∀ (k : Nat) (h : k < l.length) (h' : k < l'.length), like l[k] l'[k] = true) → likeL l l' = true
  | [], [], _, _ => rfl
  | [], _ :: _, h, _ => by simp at h
  | _ :: _, [], h, _ => by simp at h
  | a :: l, b :: l', h, hk => by
    simp only [likeL, Bool.and_eq_true]
    exact ⟨hk 0 (by simp) (by simp), likeL_of (by simpa using h) fun k h h' => hk (k + 1) (by simpa using h) (by simpa using h')⟩
def LkRel (w : World) (a b : Tm) (va vb : Value) (oa ob : Obj) (l l' : List Tm) (g : Nat) (s59 : Value) (wr : World) : Prop :=
  ∃ k : Nat, k ≤ l.length ∧ g = l.length - k ∧ s59 = .int .i64 k ∧ Know w a b va vb oa ob wr ∧ ∀ (m : Nat) (h : m < l.length) (h' : m < l'.length), m < k → like l[m] l'[m] = true
set_option maxRecDepth 100000 in
set_option maxHeartbeats 1000000 in
theorem rlike_any (a : Tm) : ∀ (b : Tm) (va vb : Value) (w : World), Lies No w a va → Lies No w b vb → sound a = true → sound b = true → Calls Tryz.prog 45 #[va, vb] w fun e w' => e = .returned (.bool (like a b)) ∧ Below w.heap.size w w' := by
  induction a using Tm.ind with
  | h k n i re im l ih =>
    intro b va vb w ha hb hsa hsb
    obtain ⟨A, hA⟩ : ∃ A, A = Tm.mk k n i re im l := ⟨_, rfl⟩
    obtain ⟨B, hB⟩ : ∃ B, B = b := ⟨_, rfl⟩
    obtain ⟨k', n', i', re', im', l'⟩ := b
    have hk0 := Go.Proofs.YtedbcmagjbgbjaaGreatDoor.tm.chk_kind (sound_chk hsa)
    simp only [Tm.kind] at hk0
    have IH := Lib.hid ih
    have HL := Lib.hid (And.intro (show Lies (fun k => w.heap.size ≤ k) w A va from hA ▸ (ha.off fun b h1 h2 => absurd h1 (by omega))) (show Lies (fun k => w.heap.size ≤ k) w B vb from hB ▸ (hb.off fun b h1 h2 => absurd h1 (by omega))))
    have HS := Lib.hid (And.intro hsa hsb)
    rw [Lies] at ha hb
    obtain ⟨aa, c, rfl, hf, hr⟩ := ha
    obtain ⟨ab, c', rfl, hf', hr'⟩ := hb
    have HR := Lib.hid (And.intro hr hr')
    have HX : Know w A B (.agg #[.int .i64 k, .string n, .int .i64 i, .int .u64 re, .int .u64 im, .slice aa l.length c]) (.agg #[.int .i64 k', .string n', .int .i64 i', .int .u64 re', .int .u64 im', .slice ab l'.length c']) (.cells #[.int .i64 k, .string n, .int .i64 i, .int .u64 re, .int .u64 im, .slice aa l.length c] 27) (.cells #[.int .i64 k', .string n', .int .i64 i', .int .u64 re', .int .u64 im', .slice ab l'.length c'] 27) ((w.alloc (.cells #[.int .i64 k, .string n, .int .i64 i, .int .u64 re, .int .u64 im, .slice aa l.length c] 27)).alloc (.cells #[.int .i64 k', .string n', .int .i64 i', .int .u64 re', .int .u64 im', .slice ab l'.length c'] 27)) := by
      obtain ⟨h1, h2, h3⟩ := two_box (br _)
      exact ⟨h1, h2, h3, HL.out.1.below h3, HL.out.2.below h3⟩
    have LL := Lib.hid HX
    clear HX hf hf' hr hr' hsa hsb ih hA hB
    by_cases hk : k = k'
    · subst hk
      by_cases h13 : k = 1 ∨ k = 3
      · have HV : Hid (like (.mk k n i re im l) (.mk k n' i' re' im' l') = decide (i = i')) := Lib.hid (by rcases h13 with rfl | rfl <;> simp [like])
        rw [HV.out]
        clear hk0
        rcases h13 with rfl | rfl
        all_goals
          go_enter Tryz.func45, Tryz.ntmps45
          go_wp2_with fail
          go_ret
          exact ⟨rb (bd _ _), LL.out.2.2.1⟩
      by_cases h2 : k = 2
      · subst h2
        have HV : Hid (like (.mk 2 n i re im l) (.mk 2 n' i' re' im' l') = decide (n = n')) := Lib.hid (by simp [like])
        rw [HV.out]
        clear hk0 h13
        by_cases hn : n = n'
        · subst hn
          go_enter Tryz.func45, Tryz.ntmps45
          go_wp2_with fail
          go_ret
          exact ⟨rb (by simp), LL.out.2.2.1⟩
        · have q := tl_ne hn
          have HN := Lib.hid hn
          clear hn
          go_enter Tryz.func45, Tryz.ntmps45
          go_wp2_with fail
          go_ret
          exact ⟨rb (by simp [HN.out]), LL.out.2.2.1⟩
      by_cases h4 : k = 4
      · subst h4
        have HV : Hid (like (.mk 4 n i re im l) (.mk 4 n' i' re' im' l') = (decide (re = re') && decide (im = im'))) := Lib.hid (by simp [like])
        rw [HV.out]
        clear hk0 h13 h2
        by_cases hr : re = re'
        · subst hr
          go_enter Tryz.func45, Tryz.ntmps45
          go_wp2_with fail
          go_ret
          exact ⟨rb (by simp [bd]), LL.out.2.2.1⟩
        · have q : (re == re') = false := by rw [beq_eq_false_iff_ne]; exact hr
          have HN := Lib.hid hr
          clear hr
          go_enter Tryz.func45, Tryz.ntmps45
          go_wp2_with fail
          go_ret
          exact ⟨rb (by simp [HN.out]), LL.out.2.2.1⟩
      have h5 : k = 5 := by omega
      subst h5
      clear hk0 h13 h2 h4
      have HV : Hid (like (.mk 5 n i re im l) (.mk 5 n' i' re' im' l') = (decide (n = n') && likeL l l')) := Lib.hid (by simp [like])
      rw [HV.out]
      by_cases hn : n = n'
      · subst hn
        by_cases hl : l.length = l'.length
        · have hl20 : l.length ≤ 20 := by have := sound_chk HS.out.1; simp only [chk] at this; simp at this; omega
          rw [← hl] at LL
          have HLL := Lib.hid hl
          clear hl
          go_enter Tryz.func45, Tryz.ntmps45
          rw [← HLL.out]
          go_wp2_with fail
          go_loopg [59] l.length (LkRel w A B (.agg #[.int .i64 5, .string n, .int .i64 i, .int .u64 re, .int .u64 im, .slice aa l.length c]) (.agg #[.int .i64 5, .string n, .int .i64 i', .int .u64 re', .int .u64 im', .slice ab l.length c']) (.cells #[.int .i64 5, .string n, .int .i64 i, .int .u64 re, .int .u64 im, .slice aa l.length c] 27) (.cells #[.int .i64 5, .string n, .int .i64 i', .int .u64 re', .int .u64 im', .slice ab l.length c'] 27) l l')
          case atStart => exact ⟨0, by omega, by omega, rfl, LL.out, fun m _ _ h => by omega⟩
          case round =>
            obtain ⟨kk, hk, rfl, rfl, hK, hall⟩ := hrel
            have HLLo := HLL.out
            by_cases hlt : kk < l.length
            · have hlt' : kk < l'.length := HLL.out ▸ hlt
              obtain ⟨b1, o1, v0, v1, v2, v3, v4, v5, hbl, _, h6, hlx, hix⟩ := HR.out.1.look hlt
              obtain ⟨b2, o2, u0, u1, u2, u3, u4, u5, hbl2, _, h62, hlx2, hix2⟩ := HR.out.2.look hlt'
              have h6' := h6.keep (X := No) (Keep.of_below hK.2.2.1) id
              have h62' := h62.keep (X := No) (Keep.of_below hK.2.2.1) id
              have hix' := hix c
              have hix2' := hix2 c'
              rw [← HLLo] at hix2'
              obtain ⟨kq, nq, iq, req, imq, lq, aq, cq, hv, _⟩ := lies_form hlx
              obtain ⟨rfl, rfl, rfl, rfl, rfl, rfl⟩ := hv
              obtain ⟨kp, np, ip, rp, mp, lp, ap, cp, hv, _⟩ := lies_form hlx2
              obtain ⟨rfl, rfl, rfl, rfl, rfl, rfl⟩ := hv
              obtain ⟨e0, e1, e2, e3, e4, e5⟩ := h6'
              obtain ⟨f0, f1, f2, f3, f4, f5⟩ := h62'
              obtain ⟨⟨_, _, _, _, _, x5⟩, _⟩ := blk_facts hK.1
              obtain ⟨⟨_, _, _, _, _, y5⟩, _⟩ := blk_facts hK.2.1
              have hmem := List.getElem_mem hlt
              have hmem2 := List.getElem_mem hlt'
              have HXX := Lib.hid (And.intro (hlx.below hK.2.2.1) (And.intro (hlx2.below hK.2.2.1) (And.intro hK (And.intro hall (And.intro (IH.out _ hmem) (And.intro (sound_args HS.out.1 rfl _ hmem) (sound_args HS.out.2 rfl _ hmem2)))))))
              clear h6 h62 hlx hlx2 hix hix2 hK hall HLLo hmem hmem2
              go_wp2_with fail
              go_still_tail 10, (by kernel_rfl)
              change wpList _ _ _ _ _ wr.drew
              obtain ⟨wd, hwd⟩ : ∃ wd, wd = wr.drew := ⟨_, rfl⟩
              have hd : ∀ p, wr.cell? p = wd.cell? p := by intro p; rw [hwd]; rfl
              have hbd : Below wr.heap.size wr wd := by rw [hwd]; exact bdr wr
              have HD := Lib.hid hbd
              rw [← hwd]
              rw [hd] at e0 e1 e2 e3 e4 e5 f0 f1 f2 f3 f4 f5 x5 y5
              clear hwd hd hbd
              go_wp2_with fail
              refine (HXX.out.2.2.2.2.1 _ _ _ _ (HXX.out.1.below HD.out) (HXX.out.2.1.below HD.out) HXX.out.2.2.2.2.2.1 HXX.out.2.2.2.2.2.2).mono ?_
              rintro e w4 ⟨rfl, hb4⟩
              have HK4 := Lib.hid ((HXX.out.2.2.1.below HD.out).below hb4)
              clear hb4 e0 e1 e2 e3 e4 e5 f0 f1 f2 f3 f4 f5 x5 y5
              cases hlk : like l[kk] l'[kk]
              · have HLK := Lib.hid hlk
                go_wp2_with fail
                go_ret
                refine ⟨rb ?_, HK4.out.2.2.1⟩
                cases h : likeL l l'
                · simp
                · have := likeL_at h kk hlt hlt'
                  rw [HLK.out] at this; cases this
              · have HLK := Lib.hid hlk
                go_wp2_with fail
                go_roundg (l.length - (kk + 1))
                case measure => omega
                case rel =>
                  refine ⟨kk + 1, hlt, rfl, by go_num, HK4.out, fun m h h' hm => ?_⟩
                  by_cases e : m = kk
                  · subst e; exact HLK.out
                  · exact HXX.out.2.2.2.1 m h h' (by omega)
            · have HXX := Lib.hid (And.intro hK hall)
              clear hK hall
              go_wp2_with fail
              go_ret
              refine ⟨rb ?_, HXX.out.1.2.2.1⟩
              rw [likeL_of HLL.out fun m h h' => HXX.out.2 m h h' (by omega)]
              simp
        · have HN := Lib.hid hl
          have q : ((l.length : Int) != l'.length) = true := by rw [bne_iff_ne]; omega
          clear hl
          go_enter Tryz.func45, Tryz.ntmps45
          go_wp2_with fail
          go_ret
          refine ⟨rb ?_, LL.out.2.2.1⟩
          cases h : likeL l l'
          · simp
          · exact absurd (likeL_len h) HN.out
      · have q := tl_ne hn
        have q2 : (n.toList != n'.toList) = true := by rw [bne, q]; rfl
        have HN := Lib.hid hn
        clear hn
        go_enter Tryz.func45, Tryz.ntmps45
        go_wp2_with fail
        go_ret
        exact ⟨rb (by simp [HN.out]), LL.out.2.2.1⟩
    · have HV : Hid (like (.mk k n i re im l) (.mk k' n' i' re' im' l') = false) := Lib.hid (by simp [like, hk])
      have hk' : (k != k') = true := by rw [bne_iff_ne]; exact hk
      rw [HV.out]
      clear hk hk0
      go_enter Tryz.func45, Tryz.ntmps45
      go_wp2_with fail
      go_ret
      exact ⟨rfl, LL.out.2.2.1⟩
end Go.Proofs.YtedbcmagjbgbjaaGreatDoor.rlk
namespace Go.Proofs.YtedbcmagjbgbjaaGreatDoor.rsm
set_option linter.unusedVariables false
open Go.ChangeShapes Go.WideShapes Go.ChangeAt Go.RowKit
open Go.Proofs.YtedbcmagjbgbjaaGreatDoor.tm Go.Proofs.YtedbcmagjbgbjaaGreatDoor.lie Go.Proofs.YtedbcmagjbgbjaaGreatDoor.kp Go.Proofs.YtedbcmagjbgbjaaGreatDoor.cur Go.Proofs.YtedbcmagjbgbjaaGreatDoor.rws Go.Proofs.YtedbcmagjbgbjaaGreatDoor.sme Go.Proofs.YtedbcmagjbgbjaaGreatDoor.rlk Go.Proofs.YtedbcmagjbgbjaaGreatDoor.rmy Go.Proofs.YtedbcmagjbgbjaaGreatDoor.pla Go.Proofs.YtedbcmagjbgbjaaGreatDoor.wlk Go.Proofs.YtedbcmagjbgbjaaGreatDoor.pln Go.Proofs.YtedbcmagjbgbjaaGreatDoor.rpl Go.Proofs.YtedbcmagjbgbjaaGreatDoor.vrs
theorem rmay_ok {t : Tm} (hg : good t = true) (v : Value) (w : World) (ht : Lies No w t v) : Calls Tryz.prog 27 #[v] w fun e w' => e = .returned (.int .i64 0) ∧ Below w.heap.size w w' := by
  have := rMay_any t v w ht
  rwa [may_good hg] at this
set_option maxHeartbeats 1000000 in
theorem rsame_any (a b : Tm) (va vb : Value) (w : World) (ha : Lies No w a va) (hb : Lies No w b vb) : Calls Tryz.prog 19 #[va, vb] w fun e w' => e = .returned (.bool (sameB a b)) ∧ Below w.heap.size w w' := by
  have ha0 : Lies (fun k => w.heap.size ≤ k) w a va := ha.off fun b h1 h2 => absurd h1 (by omega)
  have hb0 : Lies (fun k => w.heap.size ≤ k) w b vb := hb.off fun b h1 h2 => absurd h1 (by omega)
  obtain ⟨A, hA⟩ : ∃ A, A = a := ⟨_, rfl⟩
  obtain ⟨B, hB⟩ : ∃ B, B = b := ⟨_, rfl⟩
  obtain ⟨k, n, i, re, im, l⟩ := a
  obtain ⟨k', n', i', re', im', l'⟩ := b
  rw [← hA, ← hB]
  have HA := Lib.hid (show Lies No w A va from hA ▸ ha)
  have HB := Lib.hid (show Lies No w B vb from hB ▸ hb)
  rw [← hA] at ha0; rw [← hB] at hb0
  have HL := Lib.hid (And.intro ha0 hb0)
  rw [Lies] at ha hb
  obtain ⟨aa, c, rfl, hf, hr⟩ := ha
  obtain ⟨ab, c', rfl, hf', hr'⟩ := hb
  clear hf hr hf' hr' hA hB ha0 hb0
  have HX : ∀ w1, Below ((w.alloc (.cells #[.int .i64 k, .string n, .int .i64 i, .int .u64 re, .int .u64 im, .slice aa l.length c] 27)).alloc (.cells #[.int .i64 k', .string n', .int .i64 i', .int .u64 re', .int .u64 im', .slice ab l'.length c'] 27)).heap.size ((w.alloc (.cells #[.int .i64 k, .string n, .int .i64 i, .int .u64 re, .int .u64 im, .slice aa l.length c] 27)).alloc (.cells #[.int .i64 k', .string n', .int .i64 i', .int .u64 re', .int .u64 im', .slice ab l'.length c'] 27)) w1 →
      Know w A B (.agg #[.int .i64 k, .string n, .int .i64 i, .int .u64 re, .int .u64 im, .slice aa l.length c]) (.agg #[.int .i64 k', .string n', .int .i64 i', .int .u64 re', .int .u64 im', .slice ab l'.length c']) (.cells #[.int .i64 k, .string n, .int .i64 i, .int .u64 re, .int .u64 im, .slice aa l.length c] 27) (.cells #[.int .i64 k', .string n', .int .i64 i', .int .u64 re', .int .u64 im', .slice ab l'.length c'] 27) w1 := by
    intro w1 h
    obtain ⟨h1, h2, h3⟩ := two_box h
    exact ⟨h1, h2, h3, HL.out.1.below h3, HL.out.2.below h3⟩
  have HXH := Lib.hid HX
  clear HX
  cases hga : good A
  · have HS : Hid (sameB A B = false) := Lib.hid (by simp [sameB, hga])
    have hne : (may A == 0) = false := by rw [beq_eq_false_iff_ne]; have := may_nogood hga; omega
    rw [HS.out]
    clear hga
    go_enter Tryz.func19, Tryz.ntmps19
    go_wp2_with fail
    refine (rMay_any _ _ _ ((HA.out.below (ba _ _)).below (ba _ _))).mono ?_
    rintro e w1 ⟨rfl, hb⟩
    have HK := Lib.hid (HXH.out _ hb)
    clear hb
    go_wp2_with fail
    go_ret
    exact ⟨rfl, HK.out.2.2.1⟩
  cases hgb : good B
  · have HS : Hid (sameB A B = false) := Lib.hid (by simp [sameB, hgb])
    have hne : (may B == 0) = false := by rw [beq_eq_false_iff_ne]; have := may_nogood hgb; omega
    rw [HS.out]
    have HG := Lib.hid hga
    clear hga hgb
    go_enter Tryz.func19, Tryz.ntmps19
    go_wp2_with fail
    refine (rmay_ok HG.out _ _ ((HA.out.below (ba _ _)).below (ba _ _))).mono ?_
    rintro e w1 ⟨rfl, hb⟩
    have HK := Lib.hid (HXH.out _ hb)
    obtain ⟨⟨e0, e1, e2, e3, e4, e5⟩, _⟩ := blk_facts HK.out.2.1
    clear hb
    go_wp2_with fail
    refine (rMay_any _ _ _ (HK.out.2.2.2.2.off fun _ _ h => h.elim)).mono ?_
    rintro e w2 ⟨rfl, hb⟩
    have HK2 := Lib.hid (HK.out.below hb)
    clear hb
    go_wp2_with fail
    go_ret
    exact ⟨rfl, HK2.out.2.2.1⟩
  have HG := Lib.hid (And.intro hga hgb)
  have HS : Hid (sameB A B = like A B) := Lib.hid (by simp [sameB, hga, hgb])
  rw [HS.out]
  clear hga hgb
  go_enter Tryz.func19, Tryz.ntmps19
  go_wp2_with fail
  refine (rmay_ok HG.out.1 _ _ ((HA.out.below (ba _ _)).below (ba _ _))).mono ?_
  rintro e w1 ⟨rfl, hb⟩
  have HK := Lib.hid (HXH.out _ hb)
  obtain ⟨⟨e0, e1, e2, e3, e4, e5⟩, _⟩ := blk_facts HK.out.2.1
  clear hb
  go_wp2_with fail
  refine (rmay_ok HG.out.2 _ _ (HK.out.2.2.2.2.off fun _ _ h => h.elim)).mono ?_
  rintro e w2 ⟨rfl, hb⟩
  have HK2 := Lib.hid (HK.out.below hb)
  clear hb e0 e1 e2 e3 e4 e5
  obtain ⟨⟨e0, e1, e2, e3, e4, e5⟩, _⟩ := blk_facts HK2.out.1
  obtain ⟨⟨f0, f1, f2, f3, f4, f5⟩, _⟩ := blk_facts HK2.out.2.1
  go_wp2_with fail
  refine (rlike_any _ _ _ _ _ (HK2.out.2.2.2.1.off fun _ _ h => h.elim) (HK2.out.2.2.2.2.off fun _ _ h => h.elim) (good_sound HG.out.1) (good_sound HG.out.2)).mono ?_
  rintro e w3 ⟨rfl, hb⟩
  have HK3 := Lib.hid (HK2.out.below hb)
  clear hb e0 e1 e2 e3 e4 e5 f0 f1 f2 f3 f4 f5
  go_wp2_with fail
  go_ret
  exact ⟨rfl, HK3.out.2.2.1⟩
theorem requal_zero (va vb : Value) (w : World) (ha : Lies No w zero va) (hb : Lies No w zero vb) : Calls Tryz.prog 15 #[va, vb] w fun e w' => e = .returned (.bool true) ∧ Below w.heap.size w w' := by
  rw [zero, Lies] at ha hb
  obtain ⟨aa, c, rfl, hf, hr⟩ := ha
  obtain ⟨ab, c', rfl, hf', hr'⟩ := hb
  clear hf hr hf' hr'
  go_enter Tryz.func15, Tryz.ntmps15
  go_wp2_with fail
  go_ret
  exact ⟨rfl, bt (ba _ _) (ba _ _)⟩
theorem requal_k (a b : Tm) (va vb : Value) (w : World) (ha : Lies No w a va) (hb : Lies No w b vb) (hka : a.kind ≠ 0) (hkb : b.kind ≠ 0) : Calls Tryz.prog 15 #[va, vb] w fun e w' => e = .returned (.bool (sameB a b)) ∧ Below w.heap.size w w' := by
  obtain ⟨A, hA⟩ : ∃ A, A = a := ⟨_, rfl⟩
  obtain ⟨B, hB⟩ : ∃ B, B = b := ⟨_, rfl⟩
  obtain ⟨k, n, i, re, im, l⟩ := a
  obtain ⟨k', n', i', re', im', l'⟩ := b
  simp only [Tm.kind] at hka hkb
  rw [← hA, ← hB]
  have HA := Lib.hid (show Lies No w A va from hA ▸ ha)
  have HB := Lib.hid (show Lies No w B vb from hB ▸ hb)
  rw [Lies] at ha hb
  obtain ⟨aa, c, rfl, hf, hr⟩ := ha
  obtain ⟨ab, c', rfl, hf', hr'⟩ := hb
  clear hf hr hf' hr' hA hB
  have q1 : (k == 0) = false := by rw [beq_eq_false_iff_ne]; exact hka
  have q2 : (k' == 0) = false := by rw [beq_eq_false_iff_ne]; exact hkb
  clear hka hkb
  go_enter Tryz.func15, Tryz.ntmps15
  go_wp2_with fail
  refine (rsame_any _ _ _ _ _ ((HA.out.below (ba _ _)).below (ba _ _)) ((HB.out.below (ba _ _)).below (ba _ _))).mono ?_
  rintro e w1 ⟨rfl, hb⟩
  have HB1 := Lib.hid (bt (bt (ba _ _) (ba _ _)) hb)
  clear hb
  go_wp2_with fail
  go_ret
  exact ⟨rfl, HB1.out⟩
theorem plain_kind (t : Tm) : (plain t).kind = t.kind := by
  obtain ⟨k, n, i, re, im, l⟩ := t
  by_cases h1 : k = 1
  · subst h1; simp [plain, sub, var, Tm.kind]
  by_cases h2 : k = 2
  · subst h2; simp [plain, sub, Tm.kind]
  by_cases h3 : k = 3
  · subst h3; simp [plain, sub, Tm.kind]
  by_cases h4 : k = 4
  · subst h4; simp [plain, sub, Tm.kind]
  by_cases h5 : k = 5
  · subst h5; simp [plain, sub, Tm.kind]
  · simp [plain, sub, Tm.kind, h1, h2, h3, h4, h5]
/-- Equal of two plain copies of one term -/
theorem requal_plain (t : Tm) (va vb : Value) (w : World) (ha : Lies No w (plainR t) va) (hb : Lies No w (plainR t) vb) : Calls Tryz.prog 15 #[va, vb] w fun e w' => e = .returned (.bool true) ∧ Below w.heap.size w w' := by
  cases hg : good t
  · have e : plainR t = zero := by unfold plainR; rw [hg]; rfl
    rw [e] at ha hb
    exact requal_zero va vb w ha hb
  · have e : plainR t = plain t := by unfold plainR; rw [if_pos hg]
    rw [e] at ha hb
    have hk : (plain t).kind ≠ 0 := by
      rw [plain_kind]
      have := Go.Proofs.YtedbcmagjbgbjaaGreatDoor.tm.chk_kind (sound_chk (good_sound hg))
      omega
    have h := requal_k _ _ va vb w ha hb hk hk
    rwa [sameB_refl, good_plain hg (good_sound hg)] at h
end Go.Proofs.YtedbcmagjbgbjaaGreatDoor.rsm
