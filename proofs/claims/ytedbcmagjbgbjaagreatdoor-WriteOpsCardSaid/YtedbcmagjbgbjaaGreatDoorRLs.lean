/- The reference's List. -/
import Derived.Test.YtedbcmagjbgbjaaGreatDoorRCn
namespace Go.Proofs.YtedbcmagjbgbjaaGreatDoor.rls
set_option linter.unusedVariables false
open Go.ChangeShapes Go.WideShapes Go.ChangeAt Go.RowKit
open Go.Proofs.YtedbcmagjbgbjaaGreatDoor.tm Go.Proofs.YtedbcmagjbgbjaaGreatDoor.lie Go.Proofs.YtedbcmagjbgbjaaGreatDoor.kp Go.Proofs.YtedbcmagjbgbjaaGreatDoor.cur Go.Proofs.YtedbcmagjbgbjaaGreatDoor.rws Go.Proofs.YtedbcmagjbgbjaaGreatDoor.pla Go.Proofs.YtedbcmagjbgbjaaGreatDoor.wlk Go.Proofs.YtedbcmagjbgbjaaGreatDoor.pln Go.Proofs.YtedbcmagjbgbjaaGreatDoor.ow6 Go.Proofs.YtedbcmagjbgbjaaGreatDoor.awk Go.Proofs.YtedbcmagjbgbjaaGreatDoor.lst Go.Proofs.YtedbcmagjbgbjaaGreatDoor.rmy Go.Proofs.YtedbcmagjbgbjaaGreatDoor.rsm Go.Proofs.YtedbcmagjbgbjaaGreatDoor.rpl
theorem lst_all {T : Tm} : ∀ {l : List Tm}, good (lst l T) = true → ∀ x ∈ l, good x = true
  | [], _ => by simp
  | x :: r, h => by
    have hg := h
    simp only [lst, comp, good, size, height, sound, sizeL, heightL, soundL, if_true, Bool.and_eq_true, decide_eq_true_eq] at h
    obtain ⟨⟨h1, h2⟩, _, h3, h4, _⟩ := h
    intro y hy
    rcases List.mem_cons.1 hy with rfl | hy
    · simp only [good, Bool.and_eq_true, decide_eq_true_eq]
      exact ⟨⟨by omega, by omega⟩, h3⟩
    · refine lst_all (l := r) (T := T) ?_ y hy
      simp only [good, Bool.and_eq_true, decide_eq_true_eq]
      exact ⟨⟨by omega, by omega⟩, h4⟩
set_option maxRecDepth 100000 in
set_option maxHeartbeats 1000000 in
theorem rlist_any (l : List Tm) (tail : Tm) (a : Option Addr) (c : Nat) (v : Value) (w : World) (hr : TRow No w l a 0) (ht : Lies No w tail v) (hl : l.length < 500) : Calls Tryz.prog 30 #[.slice a l.length c, v] w (Gives (Old w) (plainR (lst l tail)) w) := by
  obtain ⟨T, hT⟩ : ∃ T, T = tail := ⟨_, rfl⟩
  obtain ⟨k, n, i, re, im, tl⟩ := tail
  rw [← hT]
  have HT := Lib.hid (show Lies (fun q => w.heap.size ≤ q) w T v from hT ▸ (ht.off fun b h1 h2 => absurd h1 (by omega)))
  have HR := Lib.hid hr
  rw [Lies] at ht
  obtain ⟨at', ct, rfl, hf, hr'⟩ := ht
  clear hf hr' hr hT
  obtain ⟨w1, hw1⟩ : ∃ w1, w1 = (w.alloc (.cells #[.int .i64 k, .string n, .int .i64 i, .int .u64 re, .int .u64 im, .slice at' tl.length ct] 27)).alloc ZT := ⟨_, rfl⟩
  have hb1 : Below w.heap.size w w1 := by rw [hw1]; exact bt (ba _ _) (ba _ _)
  have hs1 : w1.heap.size = w.heap.size + 1 + 1 := by rw [hw1, alloc_size, alloc_size]
  have hz1 : w1.heap[w.heap.size + 1]? = some ZT := by
    have := alloc_at (w.alloc (.cells #[.int .i64 k, .string n, .int .i64 i, .int .u64 re, .int .u64 im, .slice at' tl.length ct] 27)) ZT
    rw [alloc_size] at this
    rw [hw1]; exact this
  have HW1 := Lib.hid (And.intro hw1 (And.intro hb1 (And.intro hs1 hz1)))
  clear hw1 hb1 hs1 hz1
  go_enter Tryz.func30, Tryz.ntmps30
  go_wp2_with fail
  go_loopg [6] l.length (LRel (w.heap.size + 1 + 1) w1 l T)
  case atStart =>
    rw [← HW1.out.1]
    refine ⟨l.length, _, k, n, i, re, im, at', tl.length, ct, Nat.le_refl _, rfl, rfl, by omega, ?_, ?_, ba _ _⟩
    · have := alloc_at w1 (.cells #[.int .i64 k, .string n, .int .i64 i, .int .u64 re, .int .u64 im, .slice at' tl.length ct] 27)
      rw [HW1.out.2.2.1] at this
      exact this
    · rw [List.drop_length]
      exact ((HT.out.below HW1.out.2.1).below (ba _ _)).off fun q _ h => by subst h; omega
  case round =>
    obtain ⟨kk, j, kq, nq, iq, rq, mq, aq, lq, cq, hk, hgk, rfl, hj, hbox, hli, hb⟩ := hrel
    have hbw : Below w.heap.size w wr := HW1.out.2.1.trans (hb.mono HW1.out.2.1.size)
    cases kk with
    | zero =>
      have hj' : j = -1 := by omega
      subst hj'
      have hz := (hb.block _ (by rw [HW1.out.2.2.1]; omega)).trans HW1.out.2.2.2
      have HX := Lib.hid (And.intro hbox (And.intro hli (And.intro hbw (And.intro hz hb))))
      obtain ⟨⟨e0, e1, e2, e3, e4, e5⟩, _⟩ := blk_facts hbox
      clear hbox hli hbw hz hb hj
      have hl20 : decide ((l.length : Int) > 2000) = false := by simp; omega
      rw [List.drop_zero] at HX
      obtain ⟨Q, hQ⟩ : ∃ Q, Q = lst l T := ⟨_, rfl⟩
      rw [← hQ] at HX ⊢
      have hlt1 : w.heap.size + 1 < wr.heap.size := (Array.getElem?_eq_some_iff.1 HX.out.2.2.2.1).1
      cases hg : good Q
      · have hne : (may Q != 0) = true := by rw [bne_iff_ne]; have := may_nogood hg; omega
        have hne3 : (may (lst l T) != 0) = true := by rw [← hQ]; exact hne
        have HP : Hid (plainR Q = zero) := Lib.hid (by unfold plainR; rw [hg]; rfl)
        rw [HP.out]
        clear hg
        go_wp2_with fail
        refine (rMay_any _ _ _ (HX.out.2.1.off fun _ _ h => h.elim)).mono ?_
        rintro e w4 ⟨rfl, hb4⟩
        have hz4 := (hb4.block _ hlt1).trans HX.out.2.2.2.1
        have HQ := Lib.hid (And.intro hb4 hz4)
        obtain ⟨⟨z0, z1, z2, z3, z4, z5⟩, y0, y1, y2, y3, y4, y5⟩ := blk_facts hz4
        clear hb4 hz4 e0 e1 e2 e3 e4 e5
        go_wp2_with fail
        obtain ⟨W, hW, e0, e1, e2, e3, e4, e5, k6⟩ := res_fin HQ.out.2 (.int .i64 0) (.string ⟨#[]⟩) (.int .i64 0) (.int .u64 0) (.int .u64 0) (.slice none 0 0)
        rw [hW]
        have hs1 := HX.out.2.2.1.size
        have hs4 := HQ.out.1.size
        exact bodyPost_ret (v := ZV) (by simp [results, Tryz.results30, go_sem, e0, e1, e2, e3, e4, e5]) rfl ⟨_, _, _, _, _, _, _, _, rfl, (HX.out.2.2.1.trans (HQ.out.1.mono hs1)).trans (k6.to_below (fun i h => by subst h; omega) (by omega)), (by first | exact zero_lies _ _ | (rw [← hQ, HP.out]; exact zero_lies _ _))⟩
      · have HG := Lib.hid (And.intro hg (show ∀ x ∈ l, good x = true from lst_all (T := T) (by rw [← hQ]; exact hg)))
        have HP : Hid (plainR Q = plain Q) := Lib.hid (by unfold plainR; rw [if_pos hg])
        rw [HP.out]
        clear hg
        go_wp2_with fail
        refine (rmay_ok HG.out.1 _ _ (HX.out.2.1.off fun _ _ h => h.elim)).mono ?_
        rintro e w4 ⟨rfl, hb4⟩
        have H4 := Lib.hid hb4
        clear hb4 e0 e1 e2 e3 e4 e5
        go_wp2_with fail
        obtain ⟨wo, hwo⟩ : ∃ wo, wo = wr := ⟨_, rfl⟩
        subst hwo
        go_loopg [35] l.length (fun (g : Nat) (s35 : Value) (wq : World) => ∃ k : Nat, k ≤ l.length ∧ g = l.length - k ∧ s35 = .int .i64 k ∧ Below w4.heap.size w4 wq)
        case atStart => exact ⟨0, by omega, by omega, rfl, br _⟩
        case round =>
          obtain ⟨kk, hk, rfl, rfl, hbq⟩ := hrel
          have hs1 := HX.out.2.2.1.size
          have hbq2 : Below wo.heap.size wo wr := H4.out.trans (hbq.mono H4.out.size)
          by_cases hlt : kk < l.length
          · obtain ⟨b1, o1, v0, v1, v2, v3, v4, v5, _, _, h6, hlx, hix⟩ := HR.out.look hlt
            have hbw := HX.out.2.2.1.trans (hbq2.mono hs1)
            have h6' := h6.keep (X := No) (Keep.of_below hbw) id
            have hix' := hix c
            obtain ⟨kp, np, ip, rp, mp, lp, ap, cp, hv, _⟩ := lies_form hlx
            obtain ⟨rfl, rfl, rfl, rfl, rfl, rfl⟩ := hv
            obtain ⟨e0, e1, e2, e3, e4, e5⟩ := h6'
            have HE := Lib.hid (And.intro ((hlx.off (Y := No) fun _ _ h => h.elim).below hbw) (And.intro hbq (HG.out.2 _ (List.getElem_mem hlt))))
            clear h6 hlx hix hbq hbq2 hbw
            go_wp2_with fail
            refine (rmay_ok HE.out.2.2 _ _ (HE.out.1.below (ba _ _))).mono ?_
            rintro e w5 ⟨rfl, hb5⟩
            have H5 := Lib.hid (HE.out.2.1.trans ((bt (ba _ _) hb5).mono HE.out.2.1.size))
            clear hb5 e0 e1 e2 e3 e4 e5
            go_wp2_with fail
            go_roundg (l.length - (kk + 1))
            case measure => omega
            case rel => exact ⟨kk + 1, hlt, rfl, by go_num, H5.out⟩
          · have hbx := (hbq2.block _ (Array.getElem?_eq_some_iff.1 HX.out.1).1).trans HX.out.1
            have hz := (hbq2.block _ hlt1).trans HX.out.2.2.2.1
            have HE := Lib.hid (And.intro hbq2 (And.intro hz (HX.out.2.1.below hbq2)))
            obtain ⟨⟨e0, e1, e2, e3, e4, e5⟩, _⟩ := blk_facts hbx
            have hlt3 := (Array.getElem?_eq_some_iff.1 hz).1
            clear hbx hz hbq hbq2
            go_wp2_with fail
            refine (rplain_any _ _ _ (HE.out.2.2.off fun _ _ h => h.elim) (good_sound HG.out.1)).mono ?_
            rintro e w5 ⟨ka, na, ia, ra, ma, aa, la, ca, rfl, hb5, hq⟩
            have hz5 := (hb5.block _ hlt3).trans HE.out.2.1
            have H5 := Lib.hid (And.intro hb5 (And.intro hq hz5))
            obtain ⟨⟨z0, z1, z2, z3, z4, z5⟩, y0, y1, y2, y3, y4, y5⟩ := blk_facts hz5
            clear hb5 hq hz5 e0 e1 e2 e3 e4 e5
            go_wp2_with fail
            obtain ⟨W, hW, e0, e1, e2, e3, e4, e5, k6⟩ := res_fin H5.out.2.2 (.int .i64 ka) (.string na) (.int .i64 ia) (.int .u64 ra) (.int .u64 ma) (.slice aa la ca)
            rw [hW]
            have hs4 := HE.out.1.size
            have hs5 := H5.out.1.size
            refine bodyPost_ret (v := .agg #[.int .i64 ka, .string na, .int .i64 ia, .int .u64 ra, .int .u64 ma, .slice aa la ca]) (by simp [results, Tryz.results30, go_sem, e0, e1, e2, e3, e4, e5]) rfl ⟨_, _, _, _, _, _, _, _, rfl, ((HX.out.2.2.1.trans (HE.out.1.mono hs1)).trans (H5.out.1.mono (by omega))).trans (k6.to_below (fun i h => by subst h; omega) (by omega)), ?_⟩
            have hfin := Lies.keep (Y := Old w) (k6.mono (G := Old _) fun i h => by subst h; exact hlt3) (fun b _ h => by have h' : b < w.heap.size := h; show b < _; omega) _ _ H5.out.2.1
            first | exact hfin | (rw [← hQ, HP.out]; exact hfin)
    | succ m =>
      have hj' : j = (m : Int) := by omega
      subst hj'
      have hlt : m < l.length := by omega
      obtain ⟨b1, o1, v0, v1, v2, v3, v4, v5, hbl, _, h6, hlx, hix⟩ := HR.out.look hlt
      have h6' := h6.keep (X := No) (Keep.of_below hbw) id
      have hix' := hix c
      have hbl := cell_lt h6.1
      obtain ⟨kp, np, ip, rp, mp, lp, ap, cp, hv, _⟩ := lies_form hlx
      obtain ⟨rfl, rfl, rfl, rfl, rfl, rfl⟩ := hv
      obtain ⟨e0, e1, e2, e3, e4, e5⟩ := h6'
      obtain ⟨⟨f0, f1, f2, f3, f4, f5⟩, _⟩ := blk_facts hbox
      have hlt5 : w.heap.size + 1 + 1 < wr.heap.size := (Array.getElem?_eq_some_iff.1 hbox).1
      obtain ⟨W2, hW2⟩ : ∃ W2, W2 = wr.drew.alloc (.cells #[.int .i64 kp, .string np, .int .i64 ip, .int .u64 rp, .int .u64 mp, .slice ap lp cp, .int .i64 kq, .string nq, .int .i64 iq, .int .u64 rq, .int .u64 mq, .slice aq lq cq] 27) := ⟨_, rfl⟩
      have hb2 : Below wr.heap.size wr W2 := by rw [hW2]; exact bt (bdr wr) (ba _ _)
      have hbox2 : W2.heap[w.heap.size + 1 + 1]? = _ := (hb2.block _ hlt5).trans hbox
      obtain ⟨⟨p0, p1, p2, p3, p4, p5⟩, y0, y1, y2, y3, y4, y5⟩ := blk_facts hbox2
      have hlo : Lies (fun q => q = w.heap.size + 1 + 1) w l[m] (.agg #[.int .i64 kp, .string np, .int .i64 ip, .int .u64 rp, .int .u64 mp, .slice ap lp cp]) := hlx.off fun b hb e => by subst e; omega
      have HX := Lib.hid (And.intro hbox (And.intro hli (And.intro hbw (And.intro (hlo.below hbw) hb))))
      clear hbox hli hbw h6 hlx hlo hix hb hj hbl hb2 hbox2
      rw [hW2] at p0 p1 p2 p3 p4 p5 y0 y1 y2 y3 y4 y5
      clear hW2
      go_wp2_with fail
      go_still_tail 5, (by kernel_rfl)
      change wpList _ _ _ _ _ wr.drew
      go_wp2_with fail
      refine (rComp_any _ _ _ _ _).mono ?_
      rintro e w4 ⟨rfl, hb4⟩
      have hba := bt (ba wr (.cells #[.int .i64 kp, .string np, .int .i64 ip, .int .u64 rp, .int .u64 mp, .slice ap lp cp, .int .i64 kq, .string nq, .int .i64 iq, .int .u64 rq, .int .u64 mq, .slice aq lq cq] 27)) (bdr _)
      have hb5 := bt hba hb4
      have hrow := ((row_newX (X := fun q => q = w.heap.size + 1 + 1) wr #[.int .i64 kp, .string np, .int .i64 ip, .int .u64 rp, .int .u64 mp, .slice ap lp cp, .int .i64 kq, .string nq, .int .i64 iq, .int .u64 rq, .int .u64 mq, .slice aq lq cq] [l[m], lst (l.drop (m + 1)) T] (fun e => by omega) (fun q hq => by
          match q, hq with
          | 0, _ => exact ⟨_, _, _, _, _, _, rfl, rfl, rfl, rfl, rfl, rfl, HX.out.2.2.2.1⟩
          | 1, _ => exact ⟨_, _, _, _, _, _, rfl, rfl, rfl, rfl, rfl, rfl, HX.out.2.1⟩
          | q + 2, hq => exact absurd hq (by simp))).below (bdr _)).below hb4
      have hbox5 := (hb5.block _ hlt5).trans HX.out.1
      have H5 := Lib.hid (And.intro hb5 (And.intro hrow hbox5))
      clear hb4 hba hb5 hrow p0 p1 p2 p3 p4 p5 y0 y1 y2 y3 y4 y5 f0 f1 f2 f3 f4 f5 e0 e1 e2 e3 e4 e5
      obtain ⟨⟨p0, p1, p2, p3, p4, p5⟩, y0, y1, y2, y3, y4, y5⟩ := blk_facts hbox5
      clear hbox5
      go_wp2_with fail
      obtain ⟨W, hW, hboxW, k6⟩ := box_set H5.out.2.2 (.int .i64 5) (.string DOT) (.int .i64 0) (.int .u64 0) (.int .u64 0) (.slice (some ⟨wr.heap.size, 0, none⟩) 2 2)
      rw [hW]
      go_roundg m
      case measure => omega
      case rel =>
        refine ⟨m, _, _, _, _, _, _, _, _, _, by omega, rfl, by go_num, rfl, hboxW, ?_, ?_⟩
        · rw [lst_drop hlt]
          exact Lies.keep k6 (fun _ _ => id) _ _ (comp_lies (n := DOT) (c := 2) (show (1 : Nat) ≤ 9223372036854775807 by omega) (by simp) (by simp [maxLen]) H5.out.2.1)
        · exact (HX.out.2.2.2.2.trans (H5.out.1.mono HX.out.2.2.2.2.size)).trans (k6.to_below (fun i h => by subst h; have := HW1.out.2.2.1; omega) (by have := HX.out.2.2.2.2.size; have := H5.out.1.size; omega))
end Go.Proofs.YtedbcmagjbgbjaaGreatDoor.rls
