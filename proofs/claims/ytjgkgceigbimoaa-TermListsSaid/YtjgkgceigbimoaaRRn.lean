/- The reference's RenameFrom (from 0), Rename. -/
import Derived.Test.YtjgkgceigbimoaaNmd
import Derived.Test.YtjgkgceigbimoaaRVs
namespace Go.Proofs.Ytjgkgceigbimoaa.rrn
set_option linter.unusedVariables false
open Go.ChangeShapes Go.WideShapes Go.ChangeAt Go.RowKit Go.Maps
open Go.Proofs.Ytjgkgceigbimoaa.tm Go.Proofs.Ytjgkgceigbimoaa.lie Go.Proofs.Ytjgkgceigbimoaa.kp Go.Proofs.Ytjgkgceigbimoaa.cur Go.Proofs.Ytjgkgceigbimoaa.pln Go.Proofs.Ytjgkgceigbimoaa.pla Go.Proofs.Ytjgkgceigbimoaa.wlk Go.Proofs.Ytjgkgceigbimoaa.rws Go.Proofs.Ytjgkgceigbimoaa.rsm Go.Proofs.Ytjgkgceigbimoaa.ren Go.Proofs.Ytjgkgceigbimoaa.vrs Go.Proofs.Ytjgkgceigbimoaa.nmd Go.Proofs.Ytjgkgceigbimoaa.rvs Go.Proofs.Ytjgkgceigbimoaa.rmy
def Rel64 (w2 : World) (mb : Nat) (vs : List Int) (g : Nat) (s14 : Value) (wr : World) : Prop :=
  ∃ (k : Nat) (D : DataW Unit), k ≤ vs.length ∧ g = vs.length - k ∧ s14 = .int .i64 k ∧ wr.ownsMap Try.prog 2 (plainElem (H := Unit) Try.prog 2) mb k D ∧ Idx0 D (vs.take k) ∧ Keep (fun k => k = mb) w2 wr
theorem vs_facts {t : Tm} (hg : good t = true) : (vars t).length ≤ 2000 ∧ (vars t).Nodup ∧ ∀ x ∈ vars t, x ∈ occ t := by
  refine ⟨?_, ?_, fun x hx => ?_⟩
  · unfold vars
    rw [if_pos hg]
    have h1 := fold_len (occ t) []
    have h2 := occ_len t
    simp only [good, Bool.and_eq_true, decide_eq_true_eq] at hg
    simp only [List.length_nil] at h1
    omega
  · unfold vars; rw [if_pos hg]; exact fold_nodup _ (by simp)
  · unfold vars at hx; rw [if_pos hg] at hx
    simpa using (fold_mem (occ t) [] x).1 hx
set_option maxRecDepth 100000 in
set_option maxHeartbeats 1000000 in
theorem rfrom_good (t : Tm) (v : Value) (w : World) (ht : Lies No w t v) (hg : good t = true) : Calls Try.prog 44 #[v, .int .i64 0] w (Gives (Old w) (rn t) w) := by
  have HG := Lib.hid hg
  have hvf := vs_facts hg
  obtain ⟨vs, hvs⟩ : ∃ vs, vs = vars t := ⟨_, rfl⟩
  rw [← hvs] at hvf
  have HV := Lib.hid hvf
  have HVS := Lib.hid hvs
  have hvl := hvf.1
  have hrn : rn t = sub (fun n => var (ix0 vs n)) t := by rw [hvs]; rfl
  rw [hrn]
  obtain ⟨T, hT⟩ : ∃ T, T = t := ⟨_, rfl⟩
  rw [← hT] at HG HVS HV ⊢
  have HT := Lib.hid (show Lies No w T v from hT ▸ ht)
  obtain ⟨k, n, i, re, im, l⟩ := t
  rw [Lies] at ht
  obtain ⟨a, c, rfl, hf, hr⟩ := ht
  have hmm := @run_makeMap Try.prog
  clear hf hr hg hvs hvf hrn hT
  go_enter Try.func44, Try.ntmps44
  go_wp2_with fail
  refine (rVars_any _ _ _ ((HT.out.below (ba _ _)).below (ba _ _))).mono ?_
  rintro e w2 ⟨v, rfl, hv, hb⟩
  rw [← HVS.out] at hv
  obtain ⟨hx, hz, hlt, hb1⟩ := two_at hb
  obtain ⟨a2, c2, rfl⟩ := Go.Proofs.Ytjgkgceigbimoaa.kp.shape hv
  have hs2 : w.heap.size + 1 + 1 ≤ w2.heap.size := by have := hb.size; simp only [alloc_size] at this; exact this
  have hmd : (w2.alloc (.map #[] 0)).ownsMap Try.prog 2 (plainElem (H := Unit) Try.prog 2) w2.heap.size 0 (.map []) := World.ownsMap_made w2 Try.prog 2 (plainElem (H := Unit) Try.prog 2)
  have HW2 := Lib.hid (And.intro hb1 (And.intro hx (And.intro hz (And.intro hv (And.intro hmd hs2)))))
  clear hb hb1 hx hz hv hmd
  go_wp2_with fail
  go_loopg [14] vs.length (Rel64 (w2.alloc (.map #[] 0)) w2.heap.size vs)
  case atStart => exact ⟨0, .map [], by omega, by omega, rfl, HW2.out.2.2.2.2.1, by simpa using Idx0_nil, Keep.refl _ _⟩
  case round =>
    obtain ⟨kk, D, hk, rfl, rfl, hmd, hid, hkp⟩ := hrel
    by_cases hlt2 : kk < vs.length
    · obtain ⟨g, hg1, hg2, hg3, hga, hg4⟩ := ints_look HW2.out.2.2.2.1 hlt2
      clear hga
      have hg5 : wr.cell? ⟨g, kk, none⟩ = some (.int .i64 vs[kk]) := (hkp.cell (by rw [alloc_size]; omega) (by omega)).trans (((ba w2 (.map #[] 0)).cell (p := ⟨g, kk, none⟩) hg3).trans hg1)
      have hvm : vs[kk] ∈ vs := List.getElem_mem hlt2
      have hbd := occ_bound _ _ HT.out _ (HV.out.2.2 _ hvm)
      have hkey : keyOf Try.prog 2 (.int .i64 vs[kk]) = some (CK vs[kk]) := keyOf_int_mk Try.underlying2 (WalkArith.wf_i64 (by omega))
      have hnb := not_before HV.out.2.1 hlt2
      have wfl : (Lit.int .i64 (kk : Int)).wf = true := WalkArith.wf_i64 (by omega)
      generalize hx : vs[kk] = x at hg5 hkey hnb
      have HX := Lib.hid (And.intro hx (And.intro hid (And.intro hkp (And.intro hmd (And.intro hnb wfl)))))
      have hg4' := hg4
      clear hx hid hkp hmd hnb wfl hg1 hg2 hg3 hvm hbd hg4
      go_wp2_with (at_mapUpdate; refine wpList_mapUpdate_own _ rfl _ _ _ 66 rfl 2 2 law Try.underlying66 _ w2.heap.size kk D rfl HX.out.2.2.2.1 ?ad1 _ _ _ rfl rfl hkey _ [] (plainElem_int Try.underlying2 HX.out.2.2.2.2.2) ?_)
      case ad1 => unfold maxLen; omega
      intro w7 hm7 hg7
      have H7 := Lib.hid (And.intro hm7 hg7)
      clear hm7 hg7
      go_wp2_with fail
      go_roundg (vs.length - (kk + 1))
      case measure => omega
      case rel =>
        obtain ⟨hx, hid, hkp, hmd, hnb, wfl⟩ := HX.out
        obtain ⟨hm7, hg7⟩ := H7.out
        refine ⟨kk + 1, _, hlt2, rfl, by go_num, hm7, ?_, hkp.trans (Keep.of_grown (F := fun k => k = w2.heap.size) hg7 fun k e => (Option.some.inj e).symm) fun _ => Or.inl⟩
        rw [take_next hlt2, hx]
        have hl : (kk : Int) = ((vs.take kk).length : Int) := by rw [List.length_take, Nat.min_eq_left hk]
        rw [hl]
        exact Idx0_put hid hmd.isMap hnb
    · have hkv : kk = vs.length := by omega
      subst hkv
      rw [List.take_length] at hid
      have e := fun q (hq : q < w2.heap.size) => (hkp.block q (by rw [alloc_size]; omega) (by omega)).trans ((ba w2 (.map #[] 0)).block q hq)
      have hx := (e _ (show w.heap.size < w2.heap.size by omega)).trans HW2.out.2.1
      have hz := (e _ hlt).trans HW2.out.2.2.1
      have hbr : Below w.heap.size w wr := (HW2.out.1.trans ((ba w2 (.map #[] 0)).mono HW2.out.1.size)).trans (hkp.to_below (fun q e => by subst e; omega) (by rw [alloc_size]; omega))
      obtain ⟨⟨x0, x1, x2, x3, x4, x5⟩, _⟩ := blk_facts hx
      have HR := Lib.hid (And.intro hbr (And.intro hz (And.intro hmd hid)))
      have hlt3 := (Array.getElem?_eq_some_iff.1 hz).1
      clear e hx hz hbr hid hmd hkp
      go_wp2_with fail
      refine (named_any wr w2.heap.size vs.length D vs HR.out.2.2.1 HR.out.2.2.2 hvl T _ wr (br _) (HT.out.below HR.out.1) (good_sound HG.out)).mono ?_
      rintro e w3 ⟨kq, nq, iq, req, imq, aq, lq, cq, rfl, hb3, hq⟩
      have hz3 := (hb3.block _ hlt3).trans HR.out.2.1
      have HQ := Lib.hid (And.intro hb3 (And.intro hq hz3))
      obtain ⟨⟨z0, z1, z2, z3, z4, z5⟩, y0, y1, y2, y3, y4, y5⟩ := blk_facts hz3
      clear hb3 hq hz3 x0 x1 x2 x3 x4 x5
      go_wp2_with fail
      obtain ⟨W, hW, e0, e1, e2, e3, e4, e5, k6⟩ := res_fin HQ.out.2.2 (.int .i64 kq) (.string nq) (.int .i64 iq) (.int .u64 req) (.int .u64 imq) (.slice aq lq cq)
      rw [hW]
      have hs3 := HQ.out.1.size; have hwr := HR.out.1.size
      refine bodyPost_ret (v := .agg #[.int .i64 kq, .string nq, .int .i64 iq, .int .u64 req, .int .u64 imq, .slice aq lq cq]) (by simp [results, Try.results44, go_sem, e0, e1, e2, e3, e4, e5]) rfl ⟨_, _, _, _, _, _, _, _, rfl, (HR.out.1.trans (HQ.out.1.mono hwr)).trans (k6.to_below (fun i h => by subst h; omega) (by omega)), ?_⟩
      exact Lies.keep (Y := Old w) (k6.mono (G := Old wr) fun i h => by subst h; exact hlt3) (fun b _ h => Nat.lt_of_lt_of_le h hwr) _ _ HQ.out.2.1
theorem rren_good (t : Tm) (v : Value) (w : World) (ht : Lies No w t v) (hg : good t = true) : Calls Try.prog 22 #[v] w (Gives (Old w) (rn t) w) := by
  obtain ⟨T, hT⟩ : ∃ T, T = t := ⟨_, rfl⟩
  have HT := Lib.hid ht
  have HM := Lib.hid (may_good hg)
  have HG := Lib.hid hg
  clear hg hT
  obtain ⟨k, n, i, re, im, l⟩ := t
  rw [Lies] at ht
  obtain ⟨a, c, rfl, hf, hr⟩ := ht
  clear hf hr
  go_enter Try.func22, Try.ntmps22
  go_wp2_with fail
  refine (rMay_any _ _ _ ((HT.out.below (ba _ _)).below (ba _ _))).mono ?_
  rintro e w1 ⟨rfl, hb⟩
  rw [HM.out]
  obtain ⟨hx, hz, hlt, hb⟩ := two_at hb
  have HB := Lib.hid (And.intro hb hz)
  obtain ⟨⟨x0, x1, x2, x3, x4, x5⟩, _⟩ := blk_facts hx
  clear hb hz hx
  go_wp2_with fail
  refine (rfrom_good _ _ _ (HT.out.below HB.out.1) HG.out).mono ?_
  rintro e w2 ⟨kq, nq, iq, req, imq, aq, lq, cq, rfl, hb2, hq⟩
  have hz2 := (hb2.block _ hlt).trans HB.out.2
  have HQ := Lib.hid (And.intro hb2 (And.intro hq hz2))
  obtain ⟨⟨z0, z1, z2, z3, z4, z5⟩, y0, y1, y2, y3, y4, y5⟩ := blk_facts hz2
  clear hb2 hq hz2 x0 x1 x2 x3 x4 x5
  go_wp2_with fail
  obtain ⟨W, hW, e0, e1, e2, e3, e4, e5, k6⟩ := res_fin HQ.out.2.2 (.int .i64 kq) (.string nq) (.int .i64 iq) (.int .u64 req) (.int .u64 imq) (.slice aq lq cq)
  rw [hW]
  have hs1 := HB.out.1.size
  have hs2 := HQ.out.1.size
  refine bodyPost_ret (v := .agg #[.int .i64 kq, .string nq, .int .i64 iq, .int .u64 req, .int .u64 imq, .slice aq lq cq]) (by simp [results, Try.results22, go_sem, e0, e1, e2, e3, e4, e5]) rfl ⟨_, _, _, _, _, _, _, _, rfl, (HB.out.1.trans (HQ.out.1.mono hs1)).trans (k6.to_below (fun i h => by subst h; omega) (by omega)), ?_⟩
  exact Lies.keep (Y := Old w) (k6.mono (G := Old w1) fun i h => by subst h; exact hlt) (fun b _ h => Nat.lt_of_lt_of_le h hs1) _ _ HQ.out.2.1
end Go.Proofs.Ytjgkgceigbimoaa.rrn
