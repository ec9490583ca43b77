/- The reference's Like, Same, Plain. -/
import Derived.Test.YtibepkljcofpdaaRPl
import Derived.Test.YtibepkljcofpdaaSame
import Derived.Test.YtibepkljcofpdaaRMay
import Derived.StillTailTactics
namespace Go.Proofs.Ytibepkljcofpdaa.rlk
set_option linter.unusedVariables false
open Go.ChangeShapes Go.WideShapes Go.ChangeAt Go.RowKit
open Go.Proofs.Ytibepkljcofpdaa.tm Go.Proofs.Ytibepkljcofpdaa.lie Go.Proofs.Ytibepkljcofpdaa.kp Go.Proofs.Ytibepkljcofpdaa.cur Go.Proofs.Ytibepkljcofpdaa.rws Go.Proofs.Ytibepkljcofpdaa.sme
theorem likeL_at : ∀ {l l' : List Tm}, likeL l l' = true → ∀ (k : Nat) (h : k < l.length) (h' : k < l'.length), like l[k] l'[k] = true
  | [], _, _, k, h, _ => by simp at h
  | _ :: _, [], h, _, _, _ => by simp [likeL] at h
  | a :: l, b :: l', h, 0, _, _ => by simp only [likeL, Bool.and_eq_true] at h; exact h.1
  | a :: l, b :: l', h, k + 1, hk, hk' => by
    simp only [likeL, Bool.and_eq_true] at h
    exact likeL_at h.2 k (by simpa using hk) (by simpa using hk')
theorem likeL_of : ∀ {l l' : List Tm}, l.length = l'.length → (∀ (k : Nat) (h : k < l.length) (h' : k < l'.length), like l[k] l'[k] = true) → likeL l l' = true
  | [], [], _, _ => rfl
  | [], _ :: _, h, _ => by simp at h
  | _ :: _, [], h, _ => by simp at h
  | a :: l, b :: l', h, hk => by
    simp only [likeL, Bool.and_eq_true]
    exact ⟨hk 0 (by simp) (by simp), likeL_of (by simpa using h) fun k h h' => hk (k + 1) (by simpa using h) (by simpa using h')⟩
def LkRel (w : World) (a b : Tm) (va vb : Value) (oa ob : Obj) (l l' : List Tm) (g : Nat) (s59 : Value) (wr : World) : Prop :=
  ∃ k : Nat, k ≤ l.length ∧ g = l.length - k ∧ s59 = .int .i64 k ∧ Know w a b va vb oa ob wr ∧ ∀ (m : Nat) (h : m < l.length) (h' : m < l'.length), m < k → like l[m] l'[m] = true
set_option maxRecDepth 100000 in
set_option maxHeartbeats 1000000 in
theorem rlike_any (a : Tm) : ∀ (b : Tm) (va vb : Value) (w : World), Lies No w a va → Lies No w b vb → sound a = true → sound b = true → Calls Try.prog 54 #[va, vb] w fun e w' => e = .returned (.bool (like a b)) ∧ Below w.heap.size w w' := by
  induction a using Tm.ind with
  | h k n i re im l ih =>
    intro b va vb w ha hb hsa hsb
    obtain ⟨A, hA⟩ : ∃ A, A = Tm.mk k n i re im l := ⟨_, rfl⟩
    obtain ⟨B, hB⟩ : ∃ B, B = b := ⟨_, rfl⟩
    obtain ⟨k', n', i', re', im', l'⟩ := b
    have hk0 := Go.Proofs.Ytibepkljcofpdaa.tm.chk_kind (sound_chk hsa)
    simp only [Tm.kind] at hk0
    have IH := Lib.hid ih
    have HL := Lib.hid (And.intro (show Lies (fun k => w.heap.size ≤ k) w A va from hA ▸ (ha.off fun b h1 h2 => absurd h1 (by omega))) (show Lies (fun k => w.heap.size ≤ k) w B vb from hB ▸ (hb.off fun b h1 h2 => absurd h1 (by omega))))
    have HS := Lib.hid (And.intro hsa hsb)
    rw [Lies] at ha hb
    obtain ⟨aa, c, rfl, hf, hr⟩ := ha
    obtain ⟨ab, c', rfl, hf', hr'⟩ := hb
    have HR := Lib.hid (And.intro hr hr')
    have HX : Know w A B (.agg #[.int .i64 k, .string n, .int .i64 i, .int .u64 re, .int .u64 im, .slice aa l.length c]) (.agg #[.int .i64 k', .string n', .int .i64 i', .int .u64 re', .int .u64 im', .slice ab l'.length c']) (.cells #[.int .i64 k, .string n, .int .i64 i, .int .u64 re, .int .u64 im, .slice aa l.length c] 36) (.cells #[.int .i64 k', .string n', .int .i64 i', .int .u64 re', .int .u64 im', .slice ab l'.length c'] 36) ((w.alloc (.cells #[.int .i64 k, .string n, .int .i64 i, .int .u64 re, .int .u64 im, .slice aa l.length c] 36)).alloc (.cells #[.int .i64 k', .string n', .int .i64 i', .int .u64 re', .int .u64 im', .slice ab l'.length c'] 36)) := by
      obtain ⟨h1, h2, h3⟩ := two_box (br _)
      exact ⟨h1, h2, h3, HL.out.1.below h3, HL.out.2.below h3⟩
    have LL := Lib.hid HX
    clear HX hf hf' hr hr' hsa hsb ih hA hB
    by_cases hk : k = k'
    · subst hk
      by_cases h13 : k = 1 ∨ k = 3
      · have HV : Hid (like (.mk k n i re im l) (.mk k n' i' re' im' l') = decide (i = i')) := Lib.hid (by rcases h13 with rfl | rfl <;> simp [like])
        rw [HV.out]
        clear hk0
        rcases h13 with rfl | rfl
        all_goals
          go_enter Try.func54, Try.ntmps54
          go_wp2_with fail
          go_ret
          exact ⟨rb (bd _ _), LL.out.2.2.1⟩
      by_cases h2 : k = 2
      · subst h2
        have HV : Hid (like (.mk 2 n i re im l) (.mk 2 n' i' re' im' l') = decide (n = n')) := Lib.hid (by simp [like])
        rw [HV.out]
        clear hk0 h13
        by_cases hn : n = n'
        · subst hn
          go_enter Try.func54, Try.ntmps54
          go_wp2_with fail
          go_ret
          exact ⟨rb (by simp), LL.out.2.2.1⟩
        · have q := tl_ne hn
          have HN := Lib.hid hn
          clear hn
          go_enter Try.func54, Try.ntmps54
          go_wp2_with fail
          go_ret
          exact ⟨rb (by simp [HN.out]), LL.out.2.2.1⟩
      by_cases h4 : k = 4
      · subst h4
        have HV : Hid (like (.mk 4 n i re im l) (.mk 4 n' i' re' im' l') = (decide (re = re') && decide (im = im'))) := Lib.hid (by simp [like])
        rw [HV.out]
        clear hk0 h13 h2
        by_cases hr : re = re'
        · subst hr
          go_enter Try.func54, Try.ntmps54
          go_wp2_with fail
          go_ret
          exact ⟨rb (by simp [bd]), LL.out.2.2.1⟩
        · have q : (re == re') = false := by rw [beq_eq_false_iff_ne]; exact hr
          have HN := Lib.hid hr
          clear hr
          go_enter Try.func54, Try.ntmps54
          go_wp2_with fail
          go_ret
          exact ⟨rb (by simp [HN.out]), LL.out.2.2.1⟩
      have h5 : k = 5 := by omega
      subst h5
      clear hk0 h13 h2 h4
      have HV : Hid (like (.mk 5 n i re im l) (.mk 5 n' i' re' im' l') = (decide (n = n') && likeL l l')) := Lib.hid (by simp [like])
      rw [HV.out]
      by_cases hn : n = n'
      · subst hn
        by_cases hl : l.length = l'.length
        · have hl20 : l.length ≤ 20 := by have := sound_chk HS.out.1; simp only [chk] at this; simp at this; omega
          rw [← hl] at LL
          have HLL := Lib.hid hl
          clear hl
          go_enter Try.func54, Try.ntmps54
          rw [← HLL.out]
          go_wp2_with fail
          go_loopg [59] l.length (LkRel w A B (.agg #[.int .i64 5, .string n, .int .i64 i, .int .u64 re, .int .u64 im, .slice aa l.length c]) (.agg #[.int .i64 5, .string n, .int .i64 i', .int .u64 re', .int .u64 im', .slice ab l.length c']) (.cells #[.int .i64 5, .string n, .int .i64 i, .int .u64 re, .int .u64 im, .slice aa l.length c] 36) (.cells #[.int .i64 5, .string n, .int .i64 i', .int .u64 re', .int .u64 im', .slice ab l.length c'] 36) l l')
          case atStart => exact ⟨0, by omega, by omega, rfl, LL.out, fun m _ _ h => by omega⟩
          case round =>
            obtain ⟨kk, hk, rfl, rfl, hK, hall⟩ := hrel
            have HLLo := HLL.out
            by_cases hlt : kk < l.length
            · have hlt' : kk < l'.length := HLL.out ▸ hlt
              obtain ⟨b1, o1, v0, v1, v2, v3, v4, v5, hbl, _, h6, hlx, hix⟩ := HR.out.1.look hlt
              obtain ⟨b2, o2, u0, u1, u2, u3, u4, u5, hbl2, _, h62, hlx2, hix2⟩ := HR.out.2.look hlt'
              have h6' := h6.keep (X := No) (Keep.of_below hK.2.2.1) id
              have h62' := h62.keep (X := No) (Keep.of_below hK.2.2.1) id
              have hix' := hix c
              have hix2' := hix2 c'
              rw [← HLLo] at hix2'
              obtain ⟨kq, nq, iq, req, imq, lq, aq, cq, hv, _⟩ := lies_form hlx
              obtain ⟨rfl, rfl, rfl, rfl, rfl, rfl⟩ := hv
              obtain ⟨kp, np, ip, rp, mp, lp, ap, cp, hv, _⟩ := lies_form hlx2
              obtain ⟨rfl, rfl, rfl, rfl, rfl, rfl⟩ := hv
              obtain ⟨e0, e1, e2, e3, e4, e5⟩ := h6'
              obtain ⟨f0, f1, f2, f3, f4, f5⟩ := h62'
              obtain ⟨⟨_, _, _, _, _, x5⟩, _⟩ := blk_facts hK.1
              obtain ⟨⟨_, _, _, _, _, y5⟩, _⟩ := blk_facts hK.2.1
              have hmem := List.getElem_mem hlt
              have hmem2 := List.getElem_mem hlt'
              have HXX := Lib.hid (And.intro (hlx.below hK.2.2.1) (And.intro (hlx2.below hK.2.2.1) (And.intro hK (And.intro hall (And.intro (IH.out _ hmem) (And.intro (sound_args HS.out.1 rfl _ hmem) (sound_args HS.out.2 rfl _ hmem2)))))))
              clear h6 h62 hlx hlx2 hix hix2 hK hall HLLo hmem hmem2
              go_wp2_with fail
              go_still_tail 10, (by kernel_rfl)
              change wpList _ _ _ _ _ wr.drew
              obtain ⟨wd, hwd⟩ : ∃ wd, wd = wr.drew := ⟨_, rfl⟩
              have hd : ∀ p, wr.cell? p = wd.cell? p := by intro p; rw [hwd]; rfl
              have hbd : Below wr.heap.size wr wd := by rw [hwd]; exact bdr wr
              have HD := Lib.hid hbd
              rw [← hwd]
              rw [hd] at e0 e1 e2 e3 e4 e5 f0 f1 f2 f3 f4 f5 x5 y5
              clear hwd hd hbd
              go_wp2_with fail
              refine (HXX.out.2.2.2.2.1 _ _ _ _ (HXX.out.1.below HD.out) (HXX.out.2.1.below HD.out) HXX.out.2.2.2.2.2.1 HXX.out.2.2.2.2.2.2).mono ?_
              rintro e w4 ⟨rfl, hb4⟩
              have HK4 := Lib.hid ((HXX.out.2.2.1.below HD.out).below hb4)
              clear hb4 e0 e1 e2 e3 e4 e5 f0 f1 f2 f3 f4 f5 x5 y5
              cases hlk : like l[kk] l'[kk]
              · have HLK := Lib.hid hlk
                go_wp2_with fail
                go_ret
                refine ⟨rb ?_, HK4.out.2.2.1⟩
                cases h : likeL l l'
                · simp
                · have := likeL_at h kk hlt hlt'
                  rw [HLK.out] at this; cases this
              · have HLK := Lib.hid hlk
                go_wp2_with fail
                go_roundg (l.length - (kk + 1))
                case measure => omega
                case rel =>
                  refine ⟨kk + 1, hlt, rfl, by go_num, HK4.out, fun m h h' hm => ?_⟩
                  by_cases e : m = kk
                  · subst e; exact HLK.out
                  · exact HXX.out.2.2.2.1 m h h' (by omega)
            · have HXX := Lib.hid (And.intro hK hall)
              clear hK hall
              go_wp2_with fail
              go_ret
              refine ⟨rb ?_, HXX.out.1.2.2.1⟩
              rw [likeL_of HLL.out fun m h h' => HXX.out.2 m h h' (by omega)]
              simp
        · have HN := Lib.hid hl
          have q : ((l.length : Int) != l'.length) = true := by rw [bne_iff_ne]; omega
          clear hl
          go_enter Try.func54, Try.ntmps54
          go_wp2_with fail
          go_ret
          refine ⟨rb ?_, LL.out.2.2.1⟩
          cases h : likeL l l'
          · simp
          · exact absurd (likeL_len h) HN.out
      · have q := tl_ne hn
        have q2 : (n.toList != n'.toList) = true := by rw [bne, q]; rfl
        have HN := Lib.hid hn
        clear hn
        go_enter Try.func54, Try.ntmps54
        go_wp2_with fail
        go_ret
        exact ⟨rb (by simp [HN.out]), LL.out.2.2.1⟩
    · have HV : Hid (like (.mk k n i re im l) (.mk k' n' i' re' im' l') = false) := Lib.hid (by simp [like, hk])
      have hk' : (k != k') = true := by rw [bne_iff_ne]; exact hk
      rw [HV.out]
      clear hk hk0
      go_enter Try.func54, Try.ntmps54
      go_wp2_with fail
      go_ret
      exact ⟨rfl, LL.out.2.2.1⟩
end Go.Proofs.Ytibepkljcofpdaa.rlk
