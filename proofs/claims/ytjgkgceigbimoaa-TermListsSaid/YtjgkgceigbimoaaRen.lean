/- Package term: Rename. -/
import Derived.Test.YtjgkgceigbimoaaRbR
import Derived.Test.YtjgkgceigbimoaaPl
import Derived.Deep.LoopGhost
namespace Go.Proofs.Ytjgkgceigbimoaa.ren
set_option linter.unusedVariables false
open Go.ChangeShapes Go.WideShapes Go.ChangeAt Go.RowKit Go.Maps
open Go.Proofs.Ytjgkgceigbimoaa.tm Go.Proofs.Ytjgkgceigbimoaa.lie Go.Proofs.Ytjgkgceigbimoaa.kp Go.Proofs.Ytjgkgceigbimoaa.wlk Go.Proofs.Ytjgkgceigbimoaa.cur Go.Proofs.Ytjgkgceigbimoaa.rws Go.Proofs.Ytjgkgceigbimoaa.pln Go.Proofs.Ytjgkgceigbimoaa.mes Go.Proofs.Ytjgkgceigbimoaa.vrs Go.Proofs.Ytjgkgceigbimoaa.pla
def ix0 (vs : List Int) (n : Int) : Int := if n ∈ vs then (vs.idxOf n : Int) else 0
def Idx0 (D : DataW Unit) (vs : List Int) : Prop := ∀ n : Int, D.atKey (CK n) Z = .lit (.int .i64 (ix0 vs n))
theorem Idx0_nil : Idx0 (.map []) [] := fun n => by simp [DataW.atKey, ix0]
theorem Idx0_put {D : DataW Unit} {vs : List Int} {n : Int} (h : Idx0 D vs) (hD : IsMap D) (hn : n ∉ vs) : Idx0 (D.put (CK n) (.lit (.int .i64 (vs.length : Int)))) (vs ++ [n]) := by
  intro m
  by_cases e : m = n
  · subst e
    rw [atKey_put_same hD (by simp [WideAt.IsKeyLit])]
    simp [ix0, List.idxOf_append, hn]
  · rw [atKey_put_other (CK_ne e), h m]
    simp only [ix0, List.mem_append, List.mem_singleton, e, or_false]
    by_cases hm : m ∈ vs
    · simp [hm, List.idxOf_append]
    · simp [hm]
theorem ix0_range (vs : List Int) (n : Int) : 0 ≤ ix0 vs n ∧ ix0 vs n ≤ vs.length := by
  unfold ix0
  split
  · rename_i h
    have := List.idxOf_lt_length_of_mem h
    omega
  · omega
/-- the renamed term -/
def rn (t : Tm) : Tm := sub (fun n => var (ix0 (vars t) n)) t
def renR (t : Tm) : Tm := if good t = true then rn t else zero
/-- a slice of numbers: what stands at place k -/
theorem ints_look {w : World} {B n : Nat} {l : List Int} {a : Option Addr} {c : Nat} (h : w.ownsRow B 2 1 (.slice a n c) n (l.map (Value.int .i64))) {k : Nat} (hk : k < l.length) :
    ∃ g, w.cell? ⟨g, k, none⟩ = some (.int .i64 l[k]) ∧ B ≤ g ∧ g < w.heap.size ∧ a = some ⟨g, 0, none⟩ ∧ ∀ w', (Instr.indexAt 41 (.slice a n c) (.int .i64 (k : Int))).run Try.prog w' = .ok (.pointer (some ⟨g, k, none⟩)) w' := by
  have hl := h.1
  simp only [List.length_map, Nat.mul_one] at hl
  rcases h.2 with ⟨_, h0⟩ | ⟨g, cap, cur, hv, hg, hgc, h1, h2, h3, h4⟩
  · omega
  · have hlt := (Array.getElem?_eq_some_iff.1 hgc).1
    simp only [Value.slice.injEq, true_and] at hv
    obtain ⟨rfl, rfl⟩ := hv
    refine ⟨g, ?_, hg, hlt, rfl, fun w' => ?_⟩
    · have e : (cur.toList.take (n * 1))[k]? = (l.map (Value.int .i64))[k]? := by rw [h4]
      rw [List.getElem?_take, if_pos (by omega)] at e
      simp [hk] at e
      simp [World.cell?, hgc, e]
    · have he : Try.prog.elem 41 = 2 := by kernel_rfl
      have hz : (sizeOf 2).run Try.prog w' = .ok 1 w' := by kernel_rfl
      rw [run_indexAt_slice w' 41 _ _ _ _ _ (by rw [he]; exact Try.underlying41), if_pos ⟨by omega, by omega⟩, he, hz]
      simp only [Result.andThen, Addr.add, Int.toNat_natCast, Nat.mul_one, Nat.zero_add]
      by_cases hk0 : k = 0
      · subst hk0; rfl
      · rw [if_neg hk0]
/-- Rename's function: the number's place -/
theorem ren1 (w0 : World) (mb cb m : Nat) (D : DataW Unit) (vs : List Int) (n : Int) (w : World) (hm : w0.ownsMap Try.prog 2 (plainElem (H := Unit) Try.prog 3) mb m D) (hD : Idx0 D vs) (hc : w0.cell? ⟨cb, 0, none⟩ = some (.map (some mb))) (hb : Below w0.heap.size w0 w)
    (h0 : -9223372036854775808 ≤ n) (h1 : n ≤ 9223372036854775807) :
    Calls Try.prog 45 #[.int .i64 n, .pointer (some ⟨cb, 0, none⟩)] w fun e w' => e = .returned (.agg #[.int .i64 1, .string ⟨#[]⟩, .int .i64 (ix0 vs n), .int .u64 0, .int .u64 0, .slice none 0 0]) ∧ Below w.heap.size w w' := by
  have hkey : keyOf Try.prog 2 (.int .i64 n) = some (CK n) := keyOf_int_mk Try.underlying2 (WalkArith.wf_i64 (by omega))
  have hcl := cell_lt hc
  have hc1 := (hb.cell (p := ⟨cb, 0, none⟩) hcl).trans hc
  have hm1 : w.ownsMap Try.prog 2 (plainElem (H := Unit) Try.prog 3) mb m D := map_keep hm (hb.block _ hm.lt)
  have hcl1 : cb < w.heap.size := cell_lt hc1
  have hml : mb < w.heap.size := hm1.lt
  have hm2 : (w.alloc ZT).ownsMap Try.prog 2 (plainElem (H := Unit) Try.prog 3) mb m D := map_keep hm1 ((ba w ZT).block _ hml)
  obtain ⟨cl, hlk, hat, hwc⟩ := hm2.lookup_int law Try.underlying58 Try.underlying3 (zeroE _) hkey
  have hcl2 : cl = ix0 vs n := by
    have := hD n
    rw [hat] at this
    injection this with e; injection e
  subst hcl2
  have hc2 := ((ba w ZT).cell (p := ⟨cb, 0, none⟩) hcl1).trans hc1
  clear hb hc hc1 hm hm1 hm2 hD hat hwc hkey h0 h1
  go_enter Try.func45, Try.ntmps45
  go_wp2_with fail
  refine (variable_any _ _).mono ?_
  rintro e w1 ⟨rfl, hb⟩
  have hz : w1.heap[w.heap.size]? = some ZT := (hb.block _ (by rw [alloc_size]; omega)).trans (alloc_at w ZT)
  obtain ⟨⟨z0, z1, z2, z3, z4, z5⟩, y0, y1, y2, y3, y4, y5⟩ := blk_facts hz
  have HB := Lib.hid (And.intro hb hz)
  clear hb hz
  go_wp2_with fail
  obtain ⟨W, hW, e0, e1, e2, e3, e4, e5, k6⟩ := res_fin HB.out.2 (.int .i64 1) (.string ⟨#[]⟩) (.int .i64 (ix0 vs n)) (.int .u64 0) (.int .u64 0) (.slice none 0 0)
  rw [hW]
  exact bodyPost_ret (v := .agg #[.int .i64 1, .string ⟨#[]⟩, .int .i64 (ix0 vs n), .int .u64 0, .int .u64 0, .slice none 0 0]) (by simp [results, Try.results45, go_sem, e0, e1, e2, e3, e4, e5]) rfl ⟨rfl, (bt (ba w _) HB.out.1).trans (k6.to_below (fun i h => by subst h; omega) (by have := HB.out.1.size; rw [alloc_size] at this; omega))⟩
theorem two_past {w1 : World} {b j : Nat} {v : Value} (h : w1.cell? ⟨b, j, none⟩ = some v) (o1 o2 : Obj) : ((w1.alloc o1).alloc o2).cell? ⟨b, j, none⟩ = some v := by
  have hl := cell_lt h
  exact ((ba (w1.alloc o1) o2).cell (p := ⟨b, j, none⟩) (by rw [alloc_size]; exact Nat.lt_succ_of_lt hl)).trans (((ba w1 o1).cell (p := ⟨b, j, none⟩) hl).trans h)
theorem ren_bad (t : Tm) (v : Value) (w : World) (ht : Lies No w t v) (hg : good t = false) : Calls Try.prog 27 #[v] w (Gives (Old w) zero w) := by
  have hne : (may t != 0) = true := by rw [bne_iff_ne]; have := may_nogood hg; omega
  obtain ⟨k, n, i, re, im, l⟩ := t
  have HT := Lib.hid ht
  rw [Lies] at ht
  obtain ⟨a, c, rfl, hf, hr⟩ := ht
  clear hf hr
  go_enter Try.func27, Try.ntmps27
  go_wp2_with fail
  refine (may_any _ _ _ ((HT.out.below (ba _ _)).below (ba _ _))).mono ?_
  rintro e w1 ⟨rfl, hb⟩
  obtain ⟨_, hz, hlt, hb⟩ := two_at hb
  have HB := Lib.hid (And.intro hb hz)
  obtain ⟨⟨z0, z1, z2, z3, z4, z5⟩, y0, y1, y2, y3, y4, y5⟩ := blk_facts hz
  clear hb hz
  go_wp2_with fail
  obtain ⟨W, hW, e0, e1, e2, e3, e4, e5, k6⟩ := res_fin HB.out.2 (.int .i64 0) (.string ⟨#[]⟩) (.int .i64 0) (.int .u64 0) (.int .u64 0) (.slice none 0 0)
  rw [hW]
  exact bodyPost_ret (v := ZV) (by simp [results, Try.results27, go_sem, e0, e1, e2, e3, e4, e5]) rfl ⟨_, _, _, _, _, _, _, _, rfl, HB.out.1.trans (k6.to_below (fun i h => by subst h; omega) (by omega)), zero_lies _ _⟩
def Rel (w2 : World) (mb : Nat) (vs : List Int) (g : Nat) (s14 : Value) (wr : World) : Prop :=
  ∃ (k : Nat) (D : DataW Unit), k ≤ vs.length ∧ g = vs.length - k ∧ s14 = .int .i64 k ∧ wr.ownsMap Try.prog 2 (plainElem (H := Unit) Try.prog 3) mb k D ∧ Idx0 D (vs.take k) ∧ Keep (fun k => k = mb) w2 wr
theorem take_next {vs : List Int} {k : Nat} (hk : k < vs.length) : vs.take (k + 1) = vs.take k ++ [vs[k]] := by
  rw [List.take_succ_eq_append_getElem hk]
theorem not_before {vs : List Int} (hn : vs.Nodup) {k : Nat} (hk : k < vs.length) : vs[k] ∉ vs.take k := by
  intro hm
  have h2 : (vs.take (k + 1)).Nodup := (List.take_sublist (k + 1) vs).nodup hn
  rw [take_next hk, List.nodup_append] at h2
  exact h2.2.2 _ hm _ (by simp) rfl
set_option maxRecDepth 100000 in
set_option maxHeartbeats 1000000 in
theorem ren_good (t : Tm) (v : Value) (w : World) (ht : Lies No w t v) (hg : good t = true) : Calls Try.prog 27 #[v] w (Gives (Old w) (rn t) w) := by
  have HG := Lib.hid hg
  have hvl : (vars t).length ≤ 2000 := by
    unfold vars
    rw [if_pos hg]
    have h1 := fold_len (occ t) []
    have h2 := occ_len t
    simp only [good, Bool.and_eq_true, decide_eq_true_eq] at hg
    simp only [List.length_nil] at h1
    omega
  have hnd : (vars t).Nodup := by unfold vars; rw [if_pos hg]; exact fold_nodup _ (by simp)
  have hmem : ∀ x ∈ vars t, x ∈ occ t := by
    intro x hx
    unfold vars at hx
    rw [if_pos hg] at hx
    simpa using (fold_mem (occ t) [] x).1 hx
  obtain ⟨vs, hvs⟩ : ∃ vs, vs = vars t := ⟨_, rfl⟩
  rw [← hvs] at hvl hnd hmem
  have HV := Lib.hid (And.intro hvl (And.intro hnd hmem))
  have HVS := Lib.hid hvs
  obtain ⟨k, n, i, re, im, l⟩ := t
  have HT := Lib.hid ht
  rw [Lies] at ht
  obtain ⟨a, c, rfl, hf, hr⟩ := ht
  have hmm := @run_makeMap Try.prog
  have hmf : ∀ (fn : Fn) (first cap : Array Value) (w : World), (Instr.makeFunc fn first cap).run Try.prog w = .ok (.func fn first cap) w := fun _ _ _ _ => rfl
  clear hf hr hg hvl hnd hmem hvs
  go_enter Try.func27, Try.ntmps27
  go_wp2_with fail
  refine (may_ok HG.out _ _ ((HT.out.below (ba _ _)).below (ba _ _))).mono ?_
  rintro e w1 ⟨rfl, hb⟩
  obtain ⟨hx, hz, hlt, hb⟩ := two_at hb
  obtain ⟨⟨x0, x1, x2, x3, x4, x5⟩, _⟩ := blk_facts hx
  have p0 := two_past x0
  have p1 := two_past x1
  have p2 := two_past x2
  have p3 := two_past x3
  have p4 := two_past x4
  have p5 := two_past x5
  have HB := Lib.hid (And.intro hb (And.intro hz hx))
  clear hb hz hx x0 x1 x2 x3 x4 x5
  go_wp2_with fail
  refine (vars_any _ _ _ (((HT.out.below HB.out.1).below (ba _ _)).below (ba _ _))).mono ?_
  rintro e w2 ⟨v, rfl, hv, hb2⟩
  rw [← HVS.out] at hv
  obtain ⟨a2, c2, rfl⟩ := Go.Proofs.Ytjgkgceigbimoaa.kp.shape hv
  have hs2 := hb2.size
  simp only [alloc_size] at hs2
  have hcb := hb2.block (w1.heap.size + 1) (by simp only [alloc_size]; omega)
  have hat := alloc_at (w1.alloc (.map #[] 0)) (.cells #[.map (some w1.heap.size)] 58)
  rw [alloc_size] at hat
  have hcb2 := hcb.trans hat
  have hmb := hb2.block w1.heap.size (by simp only [alloc_size]; omega)
  have hmd : w2.ownsMap Try.prog 2 (plainElem (H := Unit) Try.prog 3) w1.heap.size 0 (.map []) := map_keep (map_keep (World.ownsMap_made w1 Try.prog 2 (plainElem (H := Unit) Try.prog 3)) ((ba _ (.cells #[.map (some w1.heap.size)] 58)).block _ (by rw [alloc_size]; omega))) hmb
  have hvl9 : vs.length ≤ 2000 := HV.out.1
  have HV2 := Lib.hid (And.intro hv (And.intro hb2 (And.intro hcb2 hmd)))
  have HS2 := Lib.hid hs2
  clear hmm p0 p1 p2 p3 p4 p5 hv hb2 hs2 hcb hat hcb2 hmb hmd
  go_wp2_with fail
  go_loopg [14] vs.length (Rel w2 w1.heap.size vs)
  case atStart => exact ⟨0, .map [], by omega, by omega, rfl, HV2.out.2.2.2, by simpa using Idx0_nil, Keep.refl _ _⟩
  case round =>
    obtain ⟨kk, D, hk, rfl, rfl, hmd, hid, hkp⟩ := hrel
    have hmbl := HS2.out
    have hcb : wr.heap[w1.heap.size + 1]? = some (.cells #[.map (some w1.heap.size)] 58 (0, 0)) := (hkp.block _ (by omega) (by omega)).trans HV2.out.2.2.1
    have hcc : wr.cell? ⟨w1.heap.size + 1, 0, none⟩ = some (.map (some w1.heap.size)) := by simp [World.cell?, hcb]
    by_cases hlt2 : kk < vs.length
    · obtain ⟨g, hg1, hg2, hg3, hga, hg4⟩ := ints_look HV2.out.1 hlt2
      clear hga
      have hg5 : wr.cell? ⟨g, kk, none⟩ = some (.int .i64 vs[kk]) := (hkp.cell hg3 (by simp only [alloc_size] at hg2; omega)).trans hg1
      have hvm : vs[kk] ∈ vs := List.getElem_mem hlt2
      have hbd := occ_bound _ _ HT.out _ (HV.out.2.2 _ hvm)
      have hkey : keyOf Try.prog 2 (.int .i64 vs[kk]) = some (CK vs[kk]) := keyOf_int_mk Try.underlying2 (WalkArith.wf_i64 (by omega))
      have hnb := not_before HV.out.2.1 hlt2
      have wfl : (Lit.int .i64 (kk : Int)).wf = true := WalkArith.wf_i64 (by omega)
      generalize hx : vs[kk] = x at hg5 hkey hnb
      have HX := Lib.hid (And.intro hx (And.intro hid (And.intro hkp (And.intro hmd (And.intro hnb wfl)))))
      have hg4' := hg4
      clear hx hid hkp hmd hnb wfl hcb hmbl hg1 hg2 hg3 hvm hbd hg4
      go_wp2_with (at_mapUpdate; refine wpList_mapUpdate_own _ rfl _ _ _ 58 rfl 2 3 law Try.underlying58 _ w1.heap.size kk D rfl HX.out.2.2.2.1 ?ad1 _ _ _ rfl rfl hkey _ [] (plainElem_int Try.underlying3 HX.out.2.2.2.2.2) ?_)
      case ad1 => unfold maxLen; omega
      intro w7 hm7 hg7
      have H7 := Lib.hid (And.intro hm7 hg7)
      clear hm7 hg7
      go_wp2_with fail
      go_roundg (vs.length - (kk + 1))
      case measure => omega
      case rel =>
        obtain ⟨hx, hid, hkp, hmd, hnb, wfl⟩ := HX.out
        obtain ⟨hm7, hg7⟩ := H7.out
        refine ⟨kk + 1, _, hlt2, rfl, by go_num, hm7, ?_, hkp.trans (Keep.of_grown (F := fun k => k = w1.heap.size) hg7 fun k e => (Option.some.inj e).symm) fun _ => Or.inl⟩
        rw [take_next hlt2, hx]
        have hl : (kk : Int) = ((vs.take kk).length : Int) := by rw [List.length_take, Nat.min_eq_left hk]
        rw [hl]
        exact Idx0_put hid hmd.isMap hnb
    · have hkv : kk = vs.length := by omega
      subst hkv
      have hbox : wr.heap[w.heap.size]? = some (.cells #[.int .i64 k, .string n, .int .i64 i, .int .u64 re, .int .u64 im, .slice a l.length c] 25 (0, 0)) ∧ wr.heap[w.heap.size + 1]? = some ZT := by
        have e := fun q (hq : q < w1.heap.size) => (hkp.block q (by omega) (by omega)).trans ((HV2.out.2.1.block q (by simp only [alloc_size]; omega)).trans (((ba _ _).block q (by rw [alloc_size]; omega)).trans ((ba w1 _).block q hq)))
        exact ⟨(e _ (by omega)).trans HB.out.2.2, (e _ (by omega)).trans HB.out.2.1⟩
      obtain ⟨⟨x0, x1, x2, x3, x4, x5⟩, _⟩ := blk_facts hbox.1
      have hbr : Below w.heap.size w wr := ((HB.out.1.trans ((bt (ba w1 _) (ba _ _)).mono HB.out.1.size)).trans (HV2.out.2.1.mono (by simp only [alloc_size]; omega))).trans (hkp.to_below (fun q e => by subst e; omega) (by omega))
      have hid' : Idx0 D vs := by simpa using hid
      have HR := Lib.hid (And.intro hbr (And.intro hbox (And.intro hmd (And.intro hid' hcb))))
      clear hbox hbr hid hid' hmd hkp hcb hmbl
      go_wp2_with fail
      refine (rbr.rebuild_any _ _ wr (fun q => var (ix0 vs q)) ⟨w1.heap.size + 1, 0, none⟩ (Old wr) (fun _ h => h) (HT.out.below HR.out.1) HG.out (fun q w' hb' hm => (ren1 wr w1.heap.size (w1.heap.size + 1) vs.length D vs q w' HR.out.2.2.1 HR.out.2.2.2.1 (by have := HR.out.2.2.2.2; simp [World.cell?, this]) hb' (occ_bound _ _ HT.out q hm).1 (occ_bound _ _ HT.out q hm).2).mono fun e w'' ⟨he, hb''⟩ => ⟨_, _, _, _, _, _, _, _, he, hb'', ?_⟩)).mono ?_
      · have := ix0_range vs q
        exact var_lies _ _ _ (by omega) (by omega)
      rintro e w3 ⟨kq, nq, iq, req, imq, aq, lq, cq, rfl, hb3, hq⟩
      have hwr := HR.out.1.size
      have hrl : w.heap.size + 1 < wr.heap.size := (Array.getElem?_eq_some_iff.1 HR.out.2.1.2).1
      have hz3 := (hb3.block _ hrl).trans HR.out.2.1.2
      have HQ := Lib.hid (And.intro hb3 (And.intro hq hz3))
      obtain ⟨⟨z0, z1, z2, z3, z4, z5⟩, y0, y1, y2, y3, y4, y5⟩ := blk_facts hz3
      clear hb3 hq hz3 x0 x1 x2 x3 x4 x5
      go_wp2_with fail
      obtain ⟨W, hW, e0, e1, e2, e3, e4, e5, k6⟩ := res_fin HQ.out.2.2 (.int .i64 kq) (.string nq) (.int .i64 iq) (.int .u64 req) (.int .u64 imq) (.slice aq lq cq)
      rw [hW]
      have hs3 := HQ.out.1.size
      refine bodyPost_ret (v := .agg #[.int .i64 kq, .string nq, .int .i64 iq, .int .u64 req, .int .u64 imq, .slice aq lq cq]) (by simp [results, Try.results27, go_sem, e0, e1, e2, e3, e4, e5]) rfl ⟨_, _, _, _, _, _, _, _, rfl, ?_, ?_⟩
      · exact (HR.out.1.trans (HQ.out.1.mono hwr)).trans (k6.to_below (fun i h => by subst h; omega) (by omega))
      · have := Lies.keep (Y := Old w) (k6.mono (G := Old wr) fun i h => by subst h; exact hrl) (fun b _ h => Nat.lt_of_lt_of_le h hwr) _ _ HQ.out.2.1
        rw [HVS.out] at this
        exact this
theorem ren_any (t : Tm) (v : Value) (w : World) (ht : Lies No w t v) : Calls Try.prog 27 #[v] w (Gives (Old w) (renR t) w) := by
  unfold renR
  cases hg : good t
  · simpa using ren_bad t v w ht hg
  · simpa using ren_good t v w ht hg
end Go.Proofs.Ytjgkgceigbimoaa.ren
