/- The reference's Order; Compare on both sides; order.equal. -/
import Derived.Test.YtgkcbiabkpcblaaOrB
import Derived.Deep.RegionHeld3
import Derived.StillTailTactics
import Derived.Deep.LoopGhost
namespace Go.Proofs.Ytgkcbiabkpcblaa.odc
open Go.ChangeShapes Go.WideShapes Go.ChangeAt Go.RowKit
set_option linter.unusedVariables false
open Go.Proofs.Ytgkcbiabkpcblaa.tm Go.Proofs.Ytgkcbiabkpcblaa.lie Go.Proofs.Ytgkcbiabkpcblaa.kp Go.Proofs.Ytgkcbiabkpcblaa.cur Go.Proofs.Ytgkcbiabkpcblaa.rws Go.Proofs.Ytgkcbiabkpcblaa.sme Go.Proofs.Ytgkcbiabkpcblaa.odm Go.Proofs.Ytgkcbiabkpcblaa.oda Go.Proofs.Ytgkcbiabkpcblaa.odb Go.Proofs.Ytgkcbiabkpcblaa.pla Go.Proofs.Ytgkcbiabkpcblaa.wlk Go.Proofs.Ytgkcbiabkpcblaa.rmy Go.Proofs.Ytgkcbiabkpcblaa.rsm
open Go.Proofs.Ytgkcbiabkpcblaa.num (cw cc cc_any cw_zero cc_zero)
def RP (a : Tm) : Prop := ∀ (b : Tm) (va vb : Value) (w : World), Lies No w a va → Lies No w b vb → sound a = true → sound b = true → Calls Try.prog 26 #[va, vb] w fun e w' => e = .returned (.int .i64 (ord a b)) ∧ Below w.heap.size w w'
theorem rrank_any (k : Int) (v1 v2 v3 v4 v5 : Value) (w : World) : Calls Try.prog 47 #[.agg #[.int .i64 k, v1, v2, v3, v4, v5]] w fun e w' => e = .returned (.int .i64 (rk k - 1)) ∧ Below w.heap.size w w' := by
  by_cases h1 : k = 1
  · subst h1; go_enter Try.func47, Try.ntmps47; go_wp2; go_ret; exact ⟨rI (by simp [rk]), ba _ _⟩
  by_cases h2 : k = 4
  · subst h2; go_enter Try.func47, Try.ntmps47; go_wp2; go_ret; exact ⟨rI (by simp [rk]), ba _ _⟩
  by_cases h3 : k = 3
  · subst h3; go_enter Try.func47, Try.ntmps47; go_wp2; go_ret; exact ⟨rI (by simp [rk]), ba _ _⟩
  by_cases h4 : k = 2
  · subst h4; go_enter Try.func47, Try.ntmps47; go_wp2; go_ret; exact ⟨rI (by simp [rk]), ba _ _⟩
  have e1 : (k == 1) = false := by rw [beq_eq_false_iff_ne]; exact h1
  have e2 : (k == 4) = false := by rw [beq_eq_false_iff_ne]; exact h2
  have e3 : (k == 3) = false := by rw [beq_eq_false_iff_ne]; exact h3
  have e4 : (k == 2) = false := by rw [beq_eq_false_iff_ne]; exact h4
  go_enter Try.func47, Try.ntmps47; go_wp2; go_ret; exact ⟨rI (by simp [rk, h1, h2, h3, h4]), ba _ _⟩
theorem cw_rk (k k' : Int) : cw (rk k - 1) (rk k' - 1) = cw (rk k) (rk k') := by
  unfold cw; (repeat' split) <;> omega
/-- the two boxes that a call lays first, and nothing old turned -/
def TB (w : World) (va vb : Array Value) (wr : World) : Prop := wr.heap[w.heap.size]? = some (.cells va 25 (0, 0)) ∧ wr.heap[w.heap.size + 1]? = some (.cells vb 25 (0, 0)) ∧ Below w.heap.size w wr
theorem TB.below {w wr w' : World} {va vb : Array Value} (h : TB w va vb wr) (hb : Below wr.heap.size wr w') : TB w va vb w' :=
  ⟨(hb.block _ (Array.getElem?_eq_some_iff.1 h.1).1).trans h.1, (hb.block _ (Array.getElem?_eq_some_iff.1 h.2.1).1).trans h.2.1, h.2.2.trans (hb.mono h.2.2.size)⟩
theorem TB.mk (w : World) (va vb : Array Value) : TB w va vb ((w.alloc (.cells va 25)).alloc (.cells vb 25)) := two_box (br _)
theorem TB.cells {w w' : World} {v0 v1 v2 v3 v4 v5 u0 u1 u2 u3 u4 u5 : Value} (h : TB w #[v0, v1, v2, v3, v4, v5] #[u0, u1, u2, u3, u4, u5] w') : w'.cell? ⟨w.heap.size, 0, none⟩ = some v0 ∧ w'.cell? ⟨w.heap.size, 1, none⟩ = some v1 ∧ w'.cell? ⟨w.heap.size, 2, none⟩ = some v2 ∧ w'.cell? ⟨w.heap.size, 3, none⟩ = some v3 ∧ w'.cell? ⟨w.heap.size, 4, none⟩ = some v4 ∧ w'.cell? ⟨w.heap.size, 5, none⟩ = some v5 ∧ w'.cell? ⟨w.heap.size + 1, 0, none⟩ = some u0 ∧ w'.cell? ⟨w.heap.size + 1, 1, none⟩ = some u1 ∧ w'.cell? ⟨w.heap.size + 1, 2, none⟩ = some u2 ∧ w'.cell? ⟨w.heap.size + 1, 3, none⟩ = some u3 ∧ w'.cell? ⟨w.heap.size + 1, 4, none⟩ = some u4 ∧ w'.cell? ⟨w.heap.size + 1, 5, none⟩ = some u5 := by
  obtain ⟨⟨e0, e1, e2, e3, e4, e5⟩, _⟩ := blk_facts h.1
  obtain ⟨⟨f0, f1, f2, f3, f4, f5⟩, _⟩ := blk_facts h.2.1
  exact ⟨e0, e1, e2, e3, e4, e5, f0, f1, f2, f3, f4, f5⟩
def ORel (w : World) (va vb : Array Value) (l l' : List Tm) (g : Nat) (s67 : Value) (wr : World) : Prop :=
  ∃ k : Nat, k ≤ l.length ∧ g = l.length - k ∧ s67 = .int .i64 k ∧ TB w va vb wr ∧ ordL l l' = ordL (l.drop k) (l'.drop k)
set_option maxRecDepth 100000 in
set_option maxHeartbeats 4000000 in
theorem rorder_any (t : Tm) : RP t := by
  induction t using Tm.ind with
  | h k n i re im l ih =>
    intro b va vb w ha hb hsa hsb
    obtain ⟨k', n', i', re', im', l'⟩ := b
    have hk0 := Go.Proofs.Ytgkcbiabkpcblaa.tm.chk_kind (sound_chk hsa)
    simp only [Tm.kind] at hk0
    rw [Lies] at ha hb
    obtain ⟨a, c, rfl, hf, hr⟩ := ha
    obtain ⟨a', c', rfl, hf', hr'⟩ := hb
    have HR := Lib.hid (And.intro hr hr')
    have IH := Lib.hid ih
    have HS := Lib.hid (And.intro hsa hsb)
    clear hf hf' hr hr' hsa hsb ih
    have hS0 := TB.mk w #[.int .i64 k, .string n, .int .i64 i, .int .u64 re, .int .u64 im, .slice a l.length c] #[.int .i64 k', .string n', .int .i64 i', .int .u64 re', .int .u64 im', .slice a' l'.length c']
    obtain ⟨e0, e1, e2, e3, e4, e5, f0, f1, f2, f3, f4, f5⟩ := hS0.cells
    have HK := Lib.hid hk0
    clear hk0
    go_enter Try.func26, Try.ntmps26
    go_wp2_with fail
    generalize hw0 : ((w.alloc (.cells #[.int .i64 k, .string n, .int .i64 i, .int .u64 re, .int .u64 im, .slice a l.length c] 25)).alloc (.cells #[.int .i64 k', .string n', .int .i64 i', .int .u64 re', .int .u64 im', .slice a' l'.length c'] 25)) = w0 at hS0 e0 e1 e2 e3 e4 e5 f0 f1 f2 f3 f4 f5 ⊢
    clear hw0
    go_region_held3 (fun w' => w'.cell? ⟨w.heap.size, 0, none⟩ = some (.int .i64 k) ∧ w'.cell? ⟨w.heap.size, 1, none⟩ = some (.string n) ∧ w'.cell? ⟨w.heap.size, 2, none⟩ = some (.int .i64 i) ∧ w'.cell? ⟨w.heap.size, 3, none⟩ = some (.int .u64 re) ∧ w'.cell? ⟨w.heap.size, 4, none⟩ = some (.int .u64 im) ∧ w'.cell? ⟨w.heap.size, 5, none⟩ = some (.slice a l.length c) ∧ w'.cell? ⟨w.heap.size + 1, 0, none⟩ = some (.int .i64 k') ∧ w'.cell? ⟨w.heap.size + 1, 1, none⟩ = some (.string n') ∧ w'.cell? ⟨w.heap.size + 1, 2, none⟩ = some (.int .i64 i') ∧ w'.cell? ⟨w.heap.size + 1, 3, none⟩ = some (.int .u64 re') ∧ w'.cell? ⟨w.heap.size + 1, 4, none⟩ = some (.int .u64 im') ∧ w'.cell? ⟨w.heap.size + 1, 5, none⟩ = some (.slice a' l'.length c'))
      (first | (exact (TB.cells (by assumption))) | (exact TB.cells (TB.below (by assumption) (bdr _))) | go_keep)
      (first
        | (go_at_call 47; refine (rrank_any _ _ _ _ _ _ _).mono ?_; rintro e wN ⟨rfl, hbN⟩; have hSN := TB.below (by (first | assumption | exact TB.below (by assumption) (bdr _))) hbN; clear hbN)
        | (go_at_call 46; refine (rcmp_any _ _ _).mono ?_; rintro e wN ⟨rfl, rfl⟩))
    have hSQ := (by assumption : TB w #[.int .i64 k, .string n, .int .i64 i, .int .u64 re, .int .u64 im, .slice a l.length c] #[.int .i64 k', .string n', .int .i64 i', .int .u64 re', .int .u64 im', .slice a' l'.length c'] _)
    obtain ⟨e0, e1, e2, e3, e4, e5, f0, f1, f2, f3, f4, f5⟩ := hSQ.cells
    have HSQ := Lib.hid hSQ
    clear hSQ
    have hk0 := HK.out
    have hk1 := Go.Proofs.Ytgkcbiabkpcblaa.tm.chk_kind (sound_chk HS.out.2)
    simp only [Tm.kind] at hk1
    by_cases hk : k = k'
    · subst hk
      clear hk1
      have q0 : (cw (rk k - 1) (rk k - 1) != 0) = false := by rw [bne_eq_false_iff_eq, cw_zero]
      rcases hk0 with rfl | rfl | rfl | rfl | rfl
      · have HV : Hid (ord (.mk 1 n i re im l) (.mk 1 n' i' re' im' l') = cw i i') := Lib.hid (by rw [ord]; simp)
        go_wp2_with fail
        refine (rcmp_any _ _ _).mono ?_
        rintro e w4 ⟨rfl, rfl⟩
        go_wp2_with fail
        go_ret
        exact ⟨rI HV.out.symm, HSQ.out.2.2⟩
      · have HV : Hid (ord (.mk 2 n i re im l) (.mk 2 n' i' re' im' l') = sc n n') := Lib.hid (by rw [ord]; simp)
        go_wp2_with fail
        refine (rtext_any _ _ _).mono ?_
        rintro e w4 ⟨rfl, rfl⟩
        go_wp2_with fail
        go_ret
        exact ⟨rI HV.out.symm, HSQ.out.2.2⟩
      · have HV : Hid (ord (.mk 3 n i re im l) (.mk 3 n' i' re' im' l') = cw i i') := Lib.hid (by rw [ord]; simp)
        go_wp2_with fail
        refine (rcmp_any _ _ _).mono ?_
        rintro e w4 ⟨rfl, rfl⟩
        go_wp2_with fail
        go_ret
        exact ⟨rI HV.out.symm, HSQ.out.2.2⟩
      · have HV : Hid (ord (.mk 4 n i re im l) (.mk 4 n' i' re' im' l') = cc re im re' im') := Lib.hid (by rw [ord]; simp)
        go_wp2_with fail
        refine (rcc_any _ _ _ _ _).mono ?_
        rintro e w4 ⟨rfl, rfl⟩
        go_wp2_with fail
        go_ret
        exact ⟨rI HV.out.symm, HSQ.out.2.2⟩
      · have hl20 : l.length ≤ 20 := by have := sound_chk HS.out.1; simp only [chk] at this; simp at this; omega
        have hl20' : l'.length ≤ 20 := by have := sound_chk HS.out.2; simp only [chk] at this; simp at this; omega
        by_cases hl : l.length = l'.length
        · have q1 : (cw (l.length : Int) l'.length != 0) = false := by rw [bne_eq_false_iff_eq, cw_zero]; omega
          have HL := Lib.hid hl
          clear hl
          by_cases hn : n = n'
          · subst hn
            have q2 : (sc n n != 0) = false := by rw [bne_eq_false_iff_eq, sc_zero]
            have HV : Hid (ord (.mk 5 n i re im l) (.mk 5 n i' re' im' l') = ordL l l') := Lib.hid (by rw [ord]; simp [HL.out])
            go_wp2_with fail
            refine (rcmp_any _ _ _).mono ?_
            rintro e w4 ⟨rfl, rfl⟩
            go_wp2_with fail
            refine (rtext_any _ _ _).mono ?_
            rintro e w4 ⟨rfl, rfl⟩
            go_wp2_with fail
            have LL := Lib.hid HSQ.out
            go_loopg [67] l.length (ORel w #[.int .i64 5, .string n, .int .i64 i, .int .u64 re, .int .u64 im, .slice a l.length c] #[.int .i64 5, .string n, .int .i64 i', .int .u64 re', .int .u64 im', .slice a' l'.length c'] l l')
            case atStart => exact ⟨0, by omega, by omega, rfl, LL.out, rfl⟩
            case round =>
              obtain ⟨kk, hk, rfl, rfl, hK, he⟩ := hrel
              have HE := Lib.hid he
              have HLLo := HL.out
              by_cases hlt : kk < l.length
              · have hlt' : kk < l'.length := HL.out ▸ hlt
                obtain ⟨b1, o1, v0, v1, v2, v3, v4, v5, hbl, _, h6, hlx, hix⟩ := HR.out.1.look hlt
                obtain ⟨b2, o2, u0, u1, u2, u3, u4, u5, hbl2, _, h62, hlx2, hix2⟩ := HR.out.2.look hlt'
                have h6' := h6.keep (X := No) (Keep.of_below hK.2.2) id
                have h62' := h62.keep (X := No) (Keep.of_below hK.2.2) id
                have hix' := hix c
                have hix2' := hix2 c'
                obtain ⟨kq, nq, iq, req, imq, lq, aq, cq, hv, _⟩ := lies_form hlx
                obtain ⟨rfl, rfl, rfl, rfl, rfl, rfl⟩ := hv
                obtain ⟨kp, np, ip, rp, mp, lp, ap, cp, hv, _⟩ := lies_form hlx2
                obtain ⟨rfl, rfl, rfl, rfl, rfl, rfl⟩ := hv
                obtain ⟨e0, e1, e2, e3, e4, e5⟩ := h6'
                obtain ⟨f0, f1, f2, f3, f4, f5⟩ := h62'
                obtain ⟨_, _, _, _, _, x5, _, _, _, _, _, y5⟩ := hK.cells
                have hmem := List.getElem_mem hlt
                have hmem2 := List.getElem_mem hlt'
                have HD := Lib.hid (ordL_drop hlt hlt')
                have HXX := Lib.hid (And.intro (hlx.below hK.2.2) (And.intro (hlx2.below hK.2.2) (And.intro hK (And.intro (IH.out _ hmem) (And.intro (sound_args HS.out.1 rfl _ hmem) (sound_args HS.out.2 rfl _ hmem2))))))
                clear h6 h62 hlx hlx2 hix hix2 hK he HLLo hmem hmem2
                go_wp2_with fail
                go_still_tail 10, (by kernel_rfl)
                change wpList _ _ _ _ _ wr.drew
                obtain ⟨wd, hwd⟩ : ∃ wd, wd = wr.drew := ⟨_, rfl⟩
                have hd : ∀ p, wr.cell? p = wd.cell? p := by intro p; rw [hwd]; rfl
                have hbd : Below wr.heap.size wr wd := by rw [hwd]; exact bdr wr
                have HD2 := Lib.hid hbd
                rw [← hwd]
                rw [hd] at e0 e1 e2 e3 e4 e5 f0 f1 f2 f3 f4 f5 x5 y5
                clear hwd hd hbd
                go_wp2_with fail
                refine (HXX.out.2.2.2.1 _ _ _ _ (HXX.out.1.below HD2.out) (HXX.out.2.1.below HD2.out) HXX.out.2.2.2.2.1 HXX.out.2.2.2.2.2).mono ?_
                rintro e w4 ⟨rfl, hb4⟩
                have HK4 := Lib.hid ((HXX.out.2.2.1.below HD2.out).below hb4)
                clear hb4 e0 e1 e2 e3 e4 e5 f0 f1 f2 f3 f4 f5 x5 y5
                by_cases hz : ord l[kk] l'[kk] = 0
                · have HZ := Lib.hid hz
                  have q : (ord l[kk] l'[kk] != 0) = false := by rw [bne_eq_false_iff_eq]; exact hz
                  clear hz
                  go_wp2_with fail
                  go_roundg (l.length - (kk + 1))
                  case measure => omega
                  case rel => exact ⟨kk + 1, hlt, rfl, by go_num, HK4.out, by rw [HE.out, HD.out, if_pos HZ.out]⟩
                · have HZ := Lib.hid hz
                  have q : (ord l[kk] l'[kk] != 0) = true := by rw [bne_iff_ne]; exact hz
                  clear hz
                  go_wp2_with fail
                  go_ret
                  exact ⟨rI (by rw [HV.out, HE.out, HD.out, if_neg HZ.out]), HK4.out.2.2⟩
              · have HB := Lib.hid hK
                have hkk : kk = l.length := by omega
                clear hK he
                go_wp2_with fail
                go_ret
                refine ⟨rI ?_, HB.out.2.2⟩
                rw [HV.out, HE.out, List.drop_of_length_le (by omega), List.drop_of_length_le (by omega)]
                rfl
          · have q2 : (sc n n' != 0) = true := by rw [bne_iff_ne, Ne, sc_zero]; exact hn
            have HV : Hid (ord (.mk 5 n i re im l) (.mk 5 n' i' re' im' l') = sc n n') := Lib.hid (by rw [ord]; simp [HL.out, hn])
            clear hn
            go_wp2_with fail
            refine (rcmp_any _ _ _).mono ?_
            rintro e w4 ⟨rfl, rfl⟩
            go_wp2_with fail
            refine (rtext_any _ _ _).mono ?_
            rintro e w4 ⟨rfl, rfl⟩
            go_wp2_with fail
            go_ret
            exact ⟨rI HV.out.symm, HSQ.out.2.2⟩
        · have q1 : (cw (l.length : Int) l'.length != 0) = true := by rw [bne_iff_ne, Ne, cw_zero]; omega
          have HV : Hid (ord (.mk 5 n i re im l) (.mk 5 n' i' re' im' l') = cw l.length l'.length) := Lib.hid (by rw [ord]; simp [hl])
          clear hl
          go_wp2_with fail
          refine (rcmp_any _ _ _).mono ?_
          rintro e w4 ⟨rfl, rfl⟩
          go_wp2_with fail
          go_ret
          exact ⟨rI HV.out.symm, HSQ.out.2.2⟩
    · have HV : Hid (ord (.mk k n i re im l) (.mk k' n' i' re' im' l') = cw (rk k) (rk k')) := Lib.hid (by rw [ord]; simp [hk])
      have q0 : (cw (rk k - 1) (rk k' - 1) != 0) = true := by rw [bne_iff_ne, Ne, cw_zero]; exact fun e => hk (rk_inj hk0 hk1 (by omega))
      clear hk hk0 hk1
      go_wp2_with fail
      go_ret
      exact ⟨rI ((cw_rk k k').trans HV.out.symm), HSQ.out.2.2⟩
end Go.Proofs.Ytgkcbiabkpcblaa.odc
