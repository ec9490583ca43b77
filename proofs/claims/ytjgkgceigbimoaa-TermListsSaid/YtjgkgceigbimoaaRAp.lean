/- The reference's Apply. -/
import Derived.Test.YtjgkgceigbimoaaRMpD
import Derived.Test.YtjgkgceigbimoaaRVs
import Derived.Test.YtjgkgceigbimoaaVm
import Derived.Test.YtjgkgceigbimoaaRRn
import Derived.Deep.LoopGhost
namespace Go.Proofs.Ytjgkgceigbimoaa.rap
set_option linter.unusedVariables false
open Go.ChangeShapes Go.WideShapes Go.ChangeAt Go.RowKit
open Go.Proofs.Ytjgkgceigbimoaa.tm Go.Proofs.Ytjgkgceigbimoaa.lie Go.Proofs.Ytjgkgceigbimoaa.kp Go.Proofs.Ytjgkgceigbimoaa.cur Go.Proofs.Ytjgkgceigbimoaa.pln Go.Proofs.Ytjgkgceigbimoaa.pla Go.Proofs.Ytjgkgceigbimoaa.wlk Go.Proofs.Ytjgkgceigbimoaa.ow6 Go.Proofs.Ytjgkgceigbimoaa.rws Go.Proofs.Ytjgkgceigbimoaa.rsm Go.Proofs.Ytjgkgceigbimoaa.rpl Go.Proofs.Ytjgkgceigbimoaa.ren Go.Proofs.Ytjgkgceigbimoaa.vrs Go.Proofs.Ytjgkgceigbimoaa.awk Go.Proofs.Ytjgkgceigbimoaa.sme Go.Proofs.Ytjgkgceigbimoaa.nmd Go.Proofs.Ytjgkgceigbimoaa.app Go.Proofs.Ytjgkgceigbimoaa.rmy Go.Proofs.Ytjgkgceigbimoaa.rmp Go.Proofs.Ytjgkgceigbimoaa.rvs
theorem rap_bad (t : Tm) (v : Value) (a : Option Addr) (n c : Nat) (w : World) (ht : Lies No w t v) (hg : good t = false) : Calls Try.prog 15 #[v, .slice a n c] w (Gives (Old w) zero w) := by
  have hne : (may t != 0) = true := by rw [bne_iff_ne]; have := may_nogood hg; omega
  have HT := Lib.hid ht
  obtain ⟨k, nn, i, re, im, l⟩ := t
  rw [Lies] at ht
  obtain ⟨at', ct, rfl, hf, hr⟩ := ht
  clear hf hr hg
  go_enter Try.func15, Try.ntmps15
  go_wp2_with fail
  refine (rMay_any _ _ _ ((HT.out.below (ba _ _)).below (ba _ _))).mono ?_
  rintro e w1 ⟨rfl, hb⟩
  obtain ⟨_, hz, hlt, hb1⟩ := two_at hb
  have HB := Lib.hid (And.intro hb1 hz)
  obtain ⟨⟨z0, z1, z2, z3, z4, z5⟩, y0, y1, y2, y3, y4, y5⟩ := blk_facts hz
  clear hb hz hb1
  go_wp2_with fail
  obtain ⟨W, hW, e0, e1, e2, e3, e4, e5, k6⟩ := res_fin HB.out.2 (.int .i64 0) (.string ⟨#[]⟩) (.int .i64 0) (.int .u64 0) (.int .u64 0) (.slice none 0 0)
  rw [hW]
  exact bodyPost_ret (v := ZV) (by simp [results, Try.results15, go_sem, e0, e1, e2, e3, e4, e5]) rfl ⟨_, _, _, _, _, _, _, _, rfl, HB.out.1.trans (k6.to_below (fun i h => by subst h; omega) (by omega)), zero_lies _ _⟩
/-- so far no variable stands for a term that may not be -/
def okv (l : List Tm) (n : Int) : Prop := ∀ h : n.toNat < l.length, good l[n.toNat] = true
def ARel (l : List Tm) (vs : List Int) (w5 : World) (g : Nat) (s16 : Value) (wr : World) : Prop := ∃ k : Nat, k ≤ vs.length ∧ g = vs.length - k ∧ s16 = .int .i64 k ∧ Below w5.heap.size w5 wr ∧ ∀ x ∈ vs.take k, okv l x
theorem bad_sub {l : List Tm} {t : Tm} {n : Int} (hn : n ∈ occ t) (h : ¬ okv l n) : plainR (sub (aps l) t) = zero := by
  unfold plainR
  have hg : ¬ good (sub (aps l) t) = true := fun hg => h fun hl => by
    have := good_at t n hn hg
    simpa [aps, hl] using this
  rw [if_neg hg]
theorem out_good {T M : Tm} {x' : Nat} (h : OutM T M 0 x') (hg : good M = true) : plainR T = plain M := by
  rcases h with ⟨rfl, _⟩ | ⟨_, h2, _⟩
  · unfold plainR; rw [if_pos hg]
  · have := good_sound hg; rw [h2] at this; cases this
theorem out_bad {T M : Tm} {x' : Nat} (h : OutM T M 0 x') (hg : good M = false) : plainR T = zero := by
  unfold plainR
  rcases h with ⟨rfl, _⟩ | ⟨_, _, h3⟩
  · rw [hg]; rfl
  · have : ¬ good T = true := fun g => by
      simp only [good, Bool.and_eq_true, decide_eq_true_eq] at g
      have := g.1.1; omega
    rw [if_neg this]
set_option maxRecDepth 100000 in
set_option maxHeartbeats 4000000 in
theorem rap_good (t : Tm) (v : Value) (a : Option Addr) (l : List Tm) (c : Nat) (w : World) (ht : Lies No w t v) (hr : TRow No w l a 0) (hg : good t = true) : Calls Try.prog 15 #[v, .slice a l.length c] w (Gives (Old w) (plainR (sub (aps l) t)) w) := by
  obtain ⟨T, hT⟩ : ∃ T, T = t := ⟨_, rfl⟩
  rw [← hT]
  have HT := Lib.hid (show Lies No w T v from hT ▸ ht)
  have HG := Lib.hid (show good T = true from hT ▸ hg)
  have HR := Lib.hid hr
  obtain ⟨k, nn, i, re, im, tl⟩ := t
  rw [Lies] at ht
  obtain ⟨at', ct, rfl, hf, hr'⟩ := ht
  clear hf hr hr' hg hT
  go_enter Try.func15, Try.ntmps15
  go_wp2_with fail
  refine (rmay_ok HG.out _ _ ((HT.out.below (ba _ _)).below (ba _ _))).mono ?_
  rintro e w3 ⟨rfl, hb⟩
  obtain ⟨hx3, hz3, hlt3, hb3⟩ := two_at hb
  obtain ⟨w4, hw4⟩ : ∃ w4, w4 = w3.alloc (.cells #[.int .i64 0] 3) := ⟨_, rfl⟩
  have hb34 : Below w3.heap.size w3 w4 := by rw [hw4]; exact ba _ _
  have hc4 : Cnt w4 w3.heap.size 0 := by rw [hw4]; exact alloc_at _ _
  have hx4 := (hb34.block w.heap.size (by omega)).trans hx3
  obtain ⟨⟨x0, x1, x2, x3, x4, x5⟩, _⟩ := blk_facts hx4
  obtain ⟨⟨u0, u1, u2, u3, u4, u5⟩, _⟩ := blk_facts hx3
  have HB := Lib.hid (And.intro hb3 (And.intro hz3 (And.intro hx3 (And.intro hb34 hc4))))
  have s4 := hb34.size
  clear hb hb3 hz3 hx3 hb34 hc4 hx4
  go_upto_region 4 with fail
  rw [← hw4]
  clear hw4 u0 u1 u2 u3 u4 u5
  have hoc : (occ T).length ≤ 2000 := by
    have h := HG.out
    have := occ_len T
    simp only [good, Bool.and_eq_true, decide_eq_true_eq] at h
    omega
  have HOC := Lib.hid hoc
  clear hoc
  go_wp2_with fail
  refine (rvars_any w4.heap.size T [] _ none 0 w4 (Nat.le_refl _) (((HT.out.off (Y := fun q => w4.heap.size ≤ q) fun b h1 h2 => by omega).below HB.out.1).below HB.out.2.2.2.1) (World.ownsRow_nil _ _ _ _) (by have := HOC.out; simp; omega) (good_sound HG.out)).mono ?_
  rintro e w5 ⟨a5, c5, rfl, ho, hk5, _⟩
  have hvs : (occ T).foldl addv [] = vars T := by unfold vars; rw [if_pos HG.out]
  rw [hvs] at ho ⊢
  have hmem := fun n => mem_vars HG.out n
  have hvl := (Go.Proofs.Ytjgkgceigbimoaa.rrn.vs_facts HG.out).1
  have hpos : ∀ n ∈ vars T, 0 ≤ n := fun n hn => occ0 HG.out n ((hmem n).1 hn)
  have hbnd : ∀ n ∈ vars T, n ≤ 9223372036854775807 := fun n hn => (occ_bound _ _ HT.out n ((hmem n).1 hn)).2
  generalize vars T = vs at *
  have hb5 : Below w4.heap.size w4 w5 := hk5.to_below (fun q e => by simp [Value.ownBlock] at e) (Nat.le_refl _)
  have HV := Lib.hid (And.intro hb5 (And.intro ho (And.intro hmem (And.intro hpos hbnd))))
  clear hk5 hb5 ho hmem hpos hbnd hvs x0 x1 x2 x3 x4 x5
  go_wp2_with fail
  go_loopg [7, 16] vs.length (fun g _ s wr => ARel l vs w5 g s wr)
  case atStart => exact ⟨0, by omega, by omega, rfl, br _, by simp⟩
  case round =>
    obtain ⟨kk, hk, hgk, rfl, hb, hall⟩ := hrel
    have h5r : Below w.heap.size w wr := (HB.out.1.trans (HB.out.2.2.2.1.mono HB.out.1.size)).trans ((HV.out.1.trans (hb.mono HV.out.1.size)).mono (by have := HB.out.1.size; omega))
    have s5 := HV.out.1.size
    have s6 := hb.size
    have h4r : Below w4.heap.size w4 wr := HV.out.1.trans (hb.mono HV.out.1.size)
    have h3r : Below w3.heap.size w3 wr := HB.out.2.2.2.1.trans (h4r.mono s4)
    have hzr := (h3r.block (w.heap.size + 1) (by omega)).trans HB.out.2.1
    have hxr := (h3r.block w.heap.size (by omega)).trans HB.out.2.2.1
    have HRR := Lib.hid (And.intro h5r (And.intro hzr (And.intro hxr (And.intro h4r (And.intro hb hall)))))
    by_cases hlt : kk < vs.length
    · have hmv := List.getElem_mem hlt
      have hx0 := HV.out.2.2.2.1 _ hmv
      have hxb := HV.out.2.2.2.2 _ hmv
      have hox := (HV.out.2.2.1 _).1 hmv
      have hcell : ∃ g, a5 = some ⟨g, 0, none⟩ ∧ wr.cell? ⟨g, kk, none⟩ = some (.int .i64 vs[kk]) := by
        obtain ⟨g, cap, hv, hg0, hgl⟩ := HV.out.2.1.form (by omega)
        injection hv with q1 _ q3
        subst q1; subst q3
        refine ⟨g, rfl, ?_⟩
        have h1 := HV.out.2.1.cellAt kk (by omega)
        rw [(hb.cell (p := ⟨g, kk, none⟩) hgl).trans h1]
        simp [hlt]
      obtain ⟨g, rfl, hcell⟩ := hcell
      have hsn : vs.take (kk + 1) = vs.take kk ++ [vs[kk]] := by rw [List.take_succ_eq_append_getElem hlt]
      obtain ⟨X, hX⟩ : ∃ X, X = vs[kk] := ⟨_, rfl⟩
      rw [← hX] at hmv hx0 hxb hox hcell hsn
      obtain ⟨m, rfl⟩ := Int.eq_ofNat_of_zero_le hx0
      have HS := Lib.hid (And.intro hox hsn)
      have hkk9 : kk ≤ 2000 := by omega
      clear hmv hox hsn hb hall hX h5r hzr hxr h4r h3r
      by_cases hm : m < l.length
      · obtain ⟨b1, o1, v0, v1, v2, v3, v4, v5, hbl, _, h6, hlx, hix⟩ := HR.out.look hm
        have h6' := h6.keep (X := No) (Keep.of_below HRR.out.1) id
        have hix' := hix c
        obtain ⟨kq, nq, iq, rq, mq, lq, aq, cq, hv, _⟩ := lies_form hlx
        obtain ⟨rfl, rfl, rfl, rfl, rfl, rfl⟩ := hv
        obtain ⟨e0, e1, e2, e3, e4, e5⟩ := h6'
        have hlr := Lib.hid (hlx.below HRR.out.1)
        have d0 : decide ((m : Int) < (l.length : Int)) = true := by simp; omega
        have d1 : decide (m < l.length) = true := by simp; omega
        clear h6 hlx hix
        cases hgm : good l[m] with
        | true =>
          have HGM := Lib.hid hgm
          clear hgm
          go_wp2_with fail
          refine (rmay_ok HGM.out _ _ hlr.out).mono ?_
          rintro e w7 ⟨rfl, hb7⟩
          have H7 := Lib.hid hb7
          clear hb7 e0 e1 e2 e3 e4 e5
          go_wp2_with fail
          go_roundg (vs.length - (kk + 1))
          case measure => omega
          case rel => exact ⟨kk + 1, hlt, rfl, by go_num, HRR.out.2.2.2.2.1.trans (H7.out.mono s6), by rw [HS.out.2]; intro y hy; rcases List.mem_append.1 hy with hy | hy; exact HRR.out.2.2.2.2.2 y hy; rw [List.mem_singleton] at hy; subst hy; exact fun h => by simpa using HGM.out⟩
        | false =>
          have hne : (may l[m] != 0) = true := by rw [bne_iff_ne]; have := may_nogood hgm; omega
          have hps : plainR (sub (aps l) T) = zero := bad_sub HS.out.1 fun h => by
            have := h (by simpa using hm)
            simp at this
            rw [this] at hgm; cases hgm
          have HPS := Lib.hid hps
          clear hgm hps
          go_wp2_with fail
          refine (rMay_any _ _ _ hlr.out).mono ?_
          rintro e w7 ⟨rfl, hb7⟩
          have hz7 := (hb7.block (w.heap.size + 1) (by omega)).trans HRR.out.2.1
          obtain ⟨⟨z0, z1, z2, z3, z4, z5⟩, y0, y1, y2, y3, y4, y5⟩ := blk_facts hz7
          have H7 := Lib.hid (And.intro hb7 hz7)
          clear hb7 hz7 e0 e1 e2 e3 e4 e5
          go_wp2_with fail
          obtain ⟨W, hW, e0, e1, e2, e3, e4, e5, k6⟩ := res_fin H7.out.2 (.int .i64 0) (.string ⟨#[]⟩) (.int .i64 0) (.int .u64 0) (.int .u64 0) (.slice none 0 0)
          rw [hW]
          rw [HPS.out]
          have s7 := H7.out.1.size
          exact bodyPost_ret (v := ZV) (by simp [results, Try.results15, go_sem, e0, e1, e2, e3, e4, e5]) rfl ⟨_, _, _, _, _, _, _, _, rfl, (HRR.out.1.trans (H7.out.1.mono HRR.out.1.size)).trans (k6.to_below (fun i h => by subst h; omega) (by have := HRR.out.1.size; omega)), zero_lies _ _⟩
      · have d0 : decide ((m : Int) < (l.length : Int)) = false := by simp; omega
        have d1 : decide (m < l.length) = false := by simp; omega
        go_wp2_with fail
        go_roundg (vs.length - (kk + 1))
        case measure => omega
        case rel => exact ⟨kk + 1, hlt, rfl, by go_num, HRR.out.2.2.2.2.1, by rw [HS.out.2]; intro y hy; rcases List.mem_append.1 hy with hy | hy; exact HRR.out.2.2.2.2.2 y hy; rw [List.mem_singleton] at hy; subst hy; exact fun h => absurd h (by simpa using hm)⟩
    · have hkv : kk = vs.length := by omega
      have hgo : ∀ n ∈ occ T, ∀ h : n.toNat < l.length, good l[n.toNat] = true := fun n hn h => by
        refine hall n ?_ h
        rw [hkv, List.take_length]
        exact (HV.out.2.2.1 n).2 hn
      have HGO := Lib.hid hgo
      obtain ⟨⟨x0, x1, x2, x3, x4, x5⟩, _⟩ := blk_facts hxr
      clear hgo hb hall h5r hzr hxr h4r h3r
      go_wp2_with fail
      refine (mapped_any w.heap.size w3.heap.size l a c (by have := HB.out.1.size; omega) T _ wr 0 ((HT.out.off (Y := fun q => w.heap.size ≤ q) fun b h1 h2 => by omega).below HRR.out.1) ((HR.out.off (Y := fun q => w.heap.size ≤ q) fun b h1 h2 => by omega).below HRR.out.1) (HB.out.2.2.2.2.below HRR.out.2.2.2.1) (by omega) (good_sound HG.out) HGO.out).mono ?_
      rintro e w7 ⟨M, xm, km, nm, im', rm, mm, am, lm, cm, rfl, hout, hxm, hk7, hc7, hq7⟩
      have s7 := hk7.size
      have hz7 := (hk7.block (w.heap.size + 1) (by omega) (by omega)).trans HRR.out.2.1
      have hb7 : Below w.heap.size w w7 := HRR.out.1.trans (hk7.to_below (fun q h => by subst h; omega) HRR.out.1.size)
      obtain ⟨w8, hw8⟩ : ∃ w8, w8 = w7.alloc (.cells #[.int .i64 km, .string nm, .int .i64 im', .int .u64 rm, .int .u64 mm, .slice am lm cm] 25) := ⟨_, rfl⟩
      have hb8 : Below w7.heap.size w7 w8 := by rw [hw8]; exact ba _ _
      have hat8 : w8.heap[w7.heap.size]? = some (.cells #[.int .i64 km, .string nm, .int .i64 im', .int .u64 rm, .int .u64 mm, .slice am lm cm] 25 (0, 0)) := by rw [hw8]; exact alloc_at _ _
      have s8 := hb8.size
      have hz8 := (hb8.block (w.heap.size + 1) (by omega)).trans hz7
      obtain ⟨⟨q0, q1, q2, q3, q4, q5⟩, _⟩ := blk_facts hat8
      have HM := Lib.hid (And.intro hout (And.intro (hb7.trans (hb8.mono hb7.size)) (And.intro hz8 (And.intro (hq7.below hb8) hat8))))
      clear hout hk7 hc7 hq7 hz7 hb7 hb8 hat8 hz8 x0 x1 x2 x3 x4 x5
      go_upto_region 11 with fail
      rw [← hw8]
      clear hw8
      have hsz : w7.heap.size < w8.heap.size := (Array.getElem?_eq_some_iff.1 HM.out.2.2.2.2).1
      cases hgm : good M with
      | true =>
        have HGM := Lib.hid hgm
        have HPS := Lib.hid (out_good HM.out.1 hgm)
        clear hgm
        go_wp2_with fail
        refine (rmay_ok HGM.out _ _ (HM.out.2.2.2.1.off (Y := No) fun _ _ h => h.elim)).mono ?_
        rintro e w9 ⟨rfl, hb9⟩
        have hz9 := (hb9.block (w.heap.size + 1) (by omega)).trans HM.out.2.2.1
        have hat9 := (hb9.block w7.heap.size hsz).trans HM.out.2.2.2.2
        obtain ⟨⟨r0, r1, r2, r3, r4, r5⟩, _⟩ := blk_facts hat9
        have H9 := Lib.hid (And.intro hb9 (And.intro hz9 (HM.out.2.2.2.1.below hb9)))
        clear hb9 hz9 hat9 q0 q1 q2 q3 q4 q5
        go_wp2_with fail
        refine (rplain_any M _ _ (H9.out.2.2.off (Y := No) fun _ _ h => h.elim) (good_sound HGM.out)).mono ?_
        rintro e w10 ⟨ka, na, ia, ra, ma, aa, la, ca, rfl, hb10, hq⟩
        have s9 := H9.out.1.size
        have hz10 := (hb10.block (w.heap.size + 1) (by omega)).trans H9.out.2.1
        obtain ⟨⟨z0, z1, z2, z3, z4, z5⟩, y0, y1, y2, y3, y4, y5⟩ := blk_facts hz10
        have H10 := Lib.hid (And.intro hb10 (And.intro hz10 hq))
        clear hb10 hz10 hq r0 r1 r2 r3 r4 r5
        go_wp2_with fail
        obtain ⟨W, hW, e0, e1, e2, e3, e4, e5, k6⟩ := res_fin H10.out.2.1 (.int .i64 ka) (.string na) (.int .i64 ia) (.int .u64 ra) (.int .u64 ma) (.slice aa la ca)
        rw [hW]
        rw [HPS.out]
        have s10 := H10.out.1.size
        have b10 := (HM.out.2.1.trans (H9.out.1.mono HM.out.2.1.size)).trans (H10.out.1.mono (by have := HM.out.2.1.size; omega))
        refine bodyPost_ret (v := .agg #[.int .i64 ka, .string na, .int .i64 ia, .int .u64 ra, .int .u64 ma, .slice aa la ca]) (by simp [results, Try.results15, go_sem, e0, e1, e2, e3, e4, e5]) rfl ⟨_, _, _, _, _, _, _, _, rfl, b10.trans (k6.to_below (fun i h => by subst h; omega) b10.size), ?_⟩
        exact Lies.keep (X := Old w9) (Y := Old w) (k6.mono fun i h => by subst h; show _ < _; omega) (fun b _ h => by show b < _; have : b < w.heap.size := h; omega) _ _ H10.out.2.2
      | false =>
        have hne : (may M != 0) = true := by rw [bne_iff_ne]; have := may_nogood hgm; omega
        have HPS := Lib.hid (out_bad HM.out.1 hgm)
        clear hgm
        go_wp2_with fail
        refine (rMay_any _ _ _ (HM.out.2.2.2.1.off (Y := No) fun _ _ h => h.elim)).mono ?_
        rintro e w9 ⟨rfl, hb9⟩
        have hz9 := (hb9.block (w.heap.size + 1) (by omega)).trans HM.out.2.2.1
        obtain ⟨⟨z0, z1, z2, z3, z4, z5⟩, y0, y1, y2, y3, y4, y5⟩ := blk_facts hz9
        have H9 := Lib.hid (And.intro hb9 hz9)
        clear hb9 hz9 q0 q1 q2 q3 q4 q5
        go_wp2_with fail
        obtain ⟨W, hW, e0, e1, e2, e3, e4, e5, k6⟩ := res_fin H9.out.2 (.int .i64 0) (.string ⟨#[]⟩) (.int .i64 0) (.int .u64 0) (.int .u64 0) (.slice none 0 0)
        rw [hW]
        rw [HPS.out]
        have s9 := H9.out.1.size
        have b9 := HM.out.2.1.trans (H9.out.1.mono HM.out.2.1.size)
        exact bodyPost_ret (v := ZV) (by simp [results, Try.results15, go_sem, e0, e1, e2, e3, e4, e5]) rfl ⟨_, _, _, _, _, _, _, _, rfl, b9.trans (k6.to_below (fun i h => by subst h; omega) b9.size), zero_lies _ _⟩
theorem rapply_any (t : Tm) (v : Value) (a : Option Addr) (l : List Tm) (c : Nat) (w : World) (ht : Lies No w t v) (hr : TRow No w l a 0) : Calls Try.prog 15 #[v, .slice a l.length c] w (Gives (Old w) (appR t l) w) := by
  unfold appR
  cases hg : good t
  · simpa using rap_bad t v a l.length c w ht hg
  · simpa using rap_good t v a l c w ht hr hg
end Go.Proofs.Ytjgkgceigbimoaa.rap
