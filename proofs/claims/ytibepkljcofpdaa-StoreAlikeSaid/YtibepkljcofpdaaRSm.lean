/- The reference's Same, Plain, Equal. -/
import Derived.Test.YtibepkljcofpdaaRLk
import Derived.Test.YtibepkljcofpdaaRm
namespace Go.Proofs.Ytibepkljcofpdaa.rsm
set_option linter.unusedVariables false
open Go.ChangeShapes Go.WideShapes Go.ChangeAt Go.RowKit
open Go.Proofs.Ytibepkljcofpdaa.tm Go.Proofs.Ytibepkljcofpdaa.lie Go.Proofs.Ytibepkljcofpdaa.kp Go.Proofs.Ytibepkljcofpdaa.cur Go.Proofs.Ytibepkljcofpdaa.rws Go.Proofs.Ytibepkljcofpdaa.sme Go.Proofs.Ytibepkljcofpdaa.rlk Go.Proofs.Ytibepkljcofpdaa.rmy Go.Proofs.Ytibepkljcofpdaa.pla Go.Proofs.Ytibepkljcofpdaa.wlk Go.Proofs.Ytibepkljcofpdaa.pln Go.Proofs.Ytibepkljcofpdaa.rpl Go.Proofs.Ytibepkljcofpdaa.vrs
theorem rPlain_any (t : Tm) (v : Value) (w : World) (ht : Lies No w t v) : Calls Try.prog 57 #[v] w (Gives (Old w) (plainR t) w) := by
  obtain ⟨T, hT⟩ : ∃ T, T = t := ⟨_, rfl⟩
  have HT := Lib.hid ht
  cases hg : good t
  · have hne : (may t != 0) = true := by rw [bne_iff_ne]; have := may_nogood hg; omega
    have HP : Hid (plainR t = zero) := Lib.hid (by unfold plainR; rw [hg]; rfl)
    rw [HP.out]
    clear hg hT
    obtain ⟨k, n, i, re, im, l⟩ := t
    rw [Lies] at ht
    obtain ⟨a, c, rfl, hf, hr⟩ := ht
    clear hf hr
    go_enter Try.func57, Try.ntmps57
    go_wp2_with fail
    refine (rMay_any _ _ _ ((HT.out.below (ba _ _)).below (ba _ _))).mono ?_
    rintro e w1 ⟨rfl, hb⟩
    obtain ⟨_, hz, hlt, hb⟩ := two_at hb
    have HB := Lib.hid (And.intro hb hz)
    obtain ⟨⟨z0, z1, z2, z3, z4, z5⟩, y0, y1, y2, y3, y4, y5⟩ := blk_facts hz
    clear hb hz
    go_wp2_with fail
    obtain ⟨W, hW, e0, e1, e2, e3, e4, e5, k6⟩ := res_fin HB.out.2 (.int .i64 0) (.string ⟨#[]⟩) (.int .i64 0) (.int .u64 0) (.int .u64 0) (.slice none 0 0)
    rw [hW]
    exact bodyPost_ret (v := ZV) (by simp [results, Try.results57, go_sem, e0, e1, e2, e3, e4, e5]) rfl ⟨_, _, _, _, _, _, _, _, rfl, HB.out.1.trans (k6.to_below (fun i h => by subst h; omega) (by omega)), zero_lies _ _⟩
  · have hne : may t = 0 := may_good hg
    have HP : Hid (plainR t = plain t) := Lib.hid (by unfold plainR; rw [if_pos hg])
    have HS := Lib.hid (good_sound hg)
    rw [HP.out]
    have HM := Lib.hid hne
    clear hg hT hne
    obtain ⟨k, n, i, re, im, l⟩ := t
    rw [Lies] at ht
    obtain ⟨a, c, rfl, hf, hr⟩ := ht
    clear hf hr
    go_enter Try.func57, Try.ntmps57
    go_wp2_with fail
    refine (rMay_any _ _ _ ((HT.out.below (ba _ _)).below (ba _ _))).mono ?_
    rintro e w1 ⟨rfl, hb⟩
    rw [HM.out]
    obtain ⟨hx, hz, hlt, hb⟩ := two_at hb
    have HB := Lib.hid (And.intro hb hz)
    obtain ⟨⟨x0, x1, x2, x3, x4, x5⟩, _⟩ := blk_facts hx
    clear hb hz hx
    go_wp2_with fail
    refine (rplain_any _ _ _ (HT.out.below HB.out.1) HS.out).mono ?_
    rintro e w2 ⟨kq, nq, iq, req, imq, aq, lq, cq, rfl, hb2, hq⟩
    have hz2 := (hb2.block _ hlt).trans HB.out.2
    have HQ := Lib.hid (And.intro hb2 (And.intro hq hz2))
    obtain ⟨⟨z0, z1, z2, z3, z4, z5⟩, y0, y1, y2, y3, y4, y5⟩ := blk_facts hz2
    clear hb2 hq hz2 x0 x1 x2 x3 x4 x5
    go_wp2_with fail
    obtain ⟨W, hW, e0, e1, e2, e3, e4, e5, k6⟩ := res_fin HQ.out.2.2 (.int .i64 kq) (.string nq) (.int .i64 iq) (.int .u64 req) (.int .u64 imq) (.slice aq lq cq)
    rw [hW]
    have hs1 := HB.out.1.size
    have hs2 := HQ.out.1.size
    refine bodyPost_ret (v := .agg #[.int .i64 kq, .string nq, .int .i64 iq, .int .u64 req, .int .u64 imq, .slice aq lq cq]) (by simp [results, Try.results57, go_sem, e0, e1, e2, e3, e4, e5]) rfl ⟨_, _, _, _, _, _, _, _, rfl, (HB.out.1.trans (HQ.out.1.mono hs1)).trans (k6.to_below (fun i h => by subst h; omega) (by omega)), ?_⟩
    exact Lies.keep (Y := Old w) (k6.mono (G := Old w1) fun i h => by subst h; exact hlt) (fun b _ h => Nat.lt_of_lt_of_le h hs1) _ _ HQ.out.2.1
theorem rmay_ok {t : Tm} (hg : good t = true) (v : Value) (w : World) (ht : Lies No w t v) : Calls Try.prog 28 #[v] w fun e w' => e = .returned (.int .i64 0) ∧ Below w.heap.size w w' := by
  have := rMay_any t v w ht
  rwa [may_good hg] at this
set_option maxHeartbeats 1000000 in
theorem rsame_any (a b : Tm) (va vb : Value) (w : World) (ha : Lies No w a va) (hb : Lies No w b vb) : Calls Try.prog 30 #[va, vb] w fun e w' => e = .returned (.bool (sameB a b)) ∧ Below w.heap.size w w' := by
  have ha0 : Lies (fun k => w.heap.size ≤ k) w a va := ha.off fun b h1 h2 => absurd h1 (by omega)
  have hb0 : Lies (fun k => w.heap.size ≤ k) w b vb := hb.off fun b h1 h2 => absurd h1 (by omega)
  obtain ⟨A, hA⟩ : ∃ A, A = a := ⟨_, rfl⟩
  obtain ⟨B, hB⟩ : ∃ B, B = b := ⟨_, rfl⟩
  obtain ⟨k, n, i, re, im, l⟩ := a
  obtain ⟨k', n', i', re', im', l'⟩ := b
  rw [← hA, ← hB]
  have HA := Lib.hid (show Lies No w A va from hA ▸ ha)
  have HB := Lib.hid (show Lies No w B vb from hB ▸ hb)
  rw [← hA] at ha0; rw [← hB] at hb0
  have HL := Lib.hid (And.intro ha0 hb0)
  rw [Lies] at ha hb
  obtain ⟨aa, c, rfl, hf, hr⟩ := ha
  obtain ⟨ab, c', rfl, hf', hr'⟩ := hb
  clear hf hr hf' hr' hA hB ha0 hb0
  have HX : ∀ w1, Below ((w.alloc (.cells #[.int .i64 k, .string n, .int .i64 i, .int .u64 re, .int .u64 im, .slice aa l.length c] 36)).alloc (.cells #[.int .i64 k', .string n', .int .i64 i', .int .u64 re', .int .u64 im', .slice ab l'.length c'] 36)).heap.size ((w.alloc (.cells #[.int .i64 k, .string n, .int .i64 i, .int .u64 re, .int .u64 im, .slice aa l.length c] 36)).alloc (.cells #[.int .i64 k', .string n', .int .i64 i', .int .u64 re', .int .u64 im', .slice ab l'.length c'] 36)) w1 →
      Know w A B (.agg #[.int .i64 k, .string n, .int .i64 i, .int .u64 re, .int .u64 im, .slice aa l.length c]) (.agg #[.int .i64 k', .string n', .int .i64 i', .int .u64 re', .int .u64 im', .slice ab l'.length c']) (.cells #[.int .i64 k, .string n, .int .i64 i, .int .u64 re, .int .u64 im, .slice aa l.length c] 36) (.cells #[.int .i64 k', .string n', .int .i64 i', .int .u64 re', .int .u64 im', .slice ab l'.length c'] 36) w1 := by
    intro w1 h
    obtain ⟨h1, h2, h3⟩ := two_box h
    exact ⟨h1, h2, h3, HL.out.1.below h3, HL.out.2.below h3⟩
  have HXH := Lib.hid HX
  clear HX
  cases hga : good A
  · have HS : Hid (sameB A B = false) := Lib.hid (by simp [sameB, hga])
    have hne : (may A == 0) = false := by rw [beq_eq_false_iff_ne]; have := may_nogood hga; omega
    rw [HS.out]
    clear hga
    go_enter Try.func30, Try.ntmps30
    go_wp2_with fail
    refine (rMay_any _ _ _ ((HA.out.below (ba _ _)).below (ba _ _))).mono ?_
    rintro e w1 ⟨rfl, hb⟩
    have HK := Lib.hid (HXH.out _ hb)
    clear hb
    go_wp2_with fail
    go_ret
    exact ⟨rfl, HK.out.2.2.1⟩
  cases hgb : good B
  · have HS : Hid (sameB A B = false) := Lib.hid (by simp [sameB, hgb])
    have hne : (may B == 0) = false := by rw [beq_eq_false_iff_ne]; have := may_nogood hgb; omega
    rw [HS.out]
    have HG := Lib.hid hga
    clear hga hgb
    go_enter Try.func30, Try.ntmps30
    go_wp2_with fail
    refine (rmay_ok HG.out _ _ ((HA.out.below (ba _ _)).below (ba _ _))).mono ?_
    rintro e w1 ⟨rfl, hb⟩
    have HK := Lib.hid (HXH.out _ hb)
    obtain ⟨⟨e0, e1, e2, e3, e4, e5⟩, _⟩ := blk_facts HK.out.2.1
    clear hb
    go_wp2_with fail
    refine (rMay_any _ _ _ (HK.out.2.2.2.2.off fun _ _ h => h.elim)).mono ?_
    rintro e w2 ⟨rfl, hb⟩
    have HK2 := Lib.hid (HK.out.below hb)
    clear hb
    go_wp2_with fail
    go_ret
    exact ⟨rfl, HK2.out.2.2.1⟩
  have HG := Lib.hid (And.intro hga hgb)
  have HS : Hid (sameB A B = like A B) := Lib.hid (by simp [sameB, hga, hgb])
  rw [HS.out]
  clear hga hgb
  go_enter Try.func30, Try.ntmps30
  go_wp2_with fail
  refine (rmay_ok HG.out.1 _ _ ((HA.out.below (ba _ _)).below (ba _ _))).mono ?_
  rintro e w1 ⟨rfl, hb⟩
  have HK := Lib.hid (HXH.out _ hb)
  obtain ⟨⟨e0, e1, e2, e3, e4, e5⟩, _⟩ := blk_facts HK.out.2.1
  clear hb
  go_wp2_with fail
  refine (rmay_ok HG.out.2 _ _ (HK.out.2.2.2.2.off fun _ _ h => h.elim)).mono ?_
  rintro e w2 ⟨rfl, hb⟩
  have HK2 := Lib.hid (HK.out.below hb)
  clear hb e0 e1 e2 e3 e4 e5
  obtain ⟨⟨e0, e1, e2, e3, e4, e5⟩, _⟩ := blk_facts HK2.out.1
  obtain ⟨⟨f0, f1, f2, f3, f4, f5⟩, _⟩ := blk_facts HK2.out.2.1
  go_wp2_with fail
  refine (rlike_any _ _ _ _ _ (HK2.out.2.2.2.1.off fun _ _ h => h.elim) (HK2.out.2.2.2.2.off fun _ _ h => h.elim) (good_sound HG.out.1) (good_sound HG.out.2)).mono ?_
  rintro e w3 ⟨rfl, hb⟩
  have HK3 := Lib.hid (HK2.out.below hb)
  clear hb e0 e1 e2 e3 e4 e5 f0 f1 f2 f3 f4 f5
  go_wp2_with fail
  go_ret
  exact ⟨rfl, HK3.out.2.2.1⟩
theorem requal_zero (va vb : Value) (w : World) (ha : Lies No w zero va) (hb : Lies No w zero vb) : Calls Try.prog 26 #[va, vb] w fun e w' => e = .returned (.bool true) ∧ Below w.heap.size w w' := by
  rw [zero, Lies] at ha hb
  obtain ⟨aa, c, rfl, hf, hr⟩ := ha
  obtain ⟨ab, c', rfl, hf', hr'⟩ := hb
  clear hf hr hf' hr'
  go_enter Try.func26, Try.ntmps26
  go_wp2_with fail
  go_ret
  exact ⟨rfl, bt (ba _ _) (ba _ _)⟩
theorem requal_k (a b : Tm) (va vb : Value) (w : World) (ha : Lies No w a va) (hb : Lies No w b vb) (hka : a.kind ≠ 0) (hkb : b.kind ≠ 0) : Calls Try.prog 26 #[va, vb] w fun e w' => e = .returned (.bool (sameB a b)) ∧ Below w.heap.size w w' := by
  obtain ⟨A, hA⟩ : ∃ A, A = a := ⟨_, rfl⟩
  obtain ⟨B, hB⟩ : ∃ B, B = b := ⟨_, rfl⟩
  obtain ⟨k, n, i, re, im, l⟩ := a
  obtain ⟨k', n', i', re', im', l'⟩ := b
  simp only [Tm.kind] at hka hkb
  rw [← hA, ← hB]
  have HA := Lib.hid (show Lies No w A va from hA ▸ ha)
  have HB := Lib.hid (show Lies No w B vb from hB ▸ hb)
  rw [Lies] at ha hb
  obtain ⟨aa, c, rfl, hf, hr⟩ := ha
  obtain ⟨ab, c', rfl, hf', hr'⟩ := hb
  clear hf hr hf' hr' hA hB
  have q1 : (k == 0) = false := by rw [beq_eq_false_iff_ne]; exact hka
  have q2 : (k' == 0) = false := by rw [beq_eq_false_iff_ne]; exact hkb
  clear hka hkb
  go_enter Try.func26, Try.ntmps26
  go_wp2_with fail
  refine (rsame_any _ _ _ _ _ ((HA.out.below (ba _ _)).below (ba _ _)) ((HB.out.below (ba _ _)).below (ba _ _))).mono ?_
  rintro e w1 ⟨rfl, hb⟩
  have HB1 := Lib.hid (bt (bt (ba _ _) (ba _ _)) hb)
  clear hb
  go_wp2_with fail
  go_ret
  exact ⟨rfl, HB1.out⟩
theorem plain_kind (t : Tm) : (plain t).kind = t.kind := by
  obtain ⟨k, n, i, re, im, l⟩ := t
  by_cases h1 : k = 1
  · subst h1; simp [plain, sub, var, Tm.kind]
  by_cases h2 : k = 2
  · subst h2; simp [plain, sub, Tm.kind]
  by_cases h3 : k = 3
  · subst h3; simp [plain, sub, Tm.kind]
  by_cases h4 : k = 4
  · subst h4; simp [plain, sub, Tm.kind]
  by_cases h5 : k = 5
  · subst h5; simp [plain, sub, Tm.kind]
  · simp [plain, sub, Tm.kind, h1, h2, h3, h4, h5]
/-- Equal of two plain copies of one term -/
theorem requal_plain (t : Tm) (va vb : Value) (w : World) (ha : Lies No w (plainR t) va) (hb : Lies No w (plainR t) vb) : Calls Try.prog 26 #[va, vb] w fun e w' => e = .returned (.bool true) ∧ Below w.heap.size w w' := by
  cases hg : good t
  · have e : plainR t = zero := by unfold plainR; rw [hg]; rfl
    rw [e] at ha hb
    exact requal_zero va vb w ha hb
  · have e : plainR t = plain t := by unfold plainR; rw [if_pos hg]
    rw [e] at ha hb
    have hk : (plain t).kind ≠ 0 := by
      rw [plain_kind]
      have := Go.Proofs.Ytibepkljcofpdaa.tm.chk_kind (sound_chk (good_sound hg))
      omega
    have h := requal_k _ _ va vb w ha hb hk hk
    rwa [sameB_refl, good_plain hg (good_sound hg)] at h
end Go.Proofs.Ytibepkljcofpdaa.rsm
