/- Package term: Apply. -/
import Derived.Test.YtjgkgceigbimoaaRbA
import Derived.Test.YtjgkgceigbimoaaRm
namespace Go.Proofs.Ytjgkgceigbimoaa.app
set_option linter.unusedVariables false
open Go.ChangeShapes Go.WideShapes Go.ChangeAt Go.RowKit
open Go.Proofs.Ytjgkgceigbimoaa.tm Go.Proofs.Ytjgkgceigbimoaa.lie Go.Proofs.Ytjgkgceigbimoaa.kp Go.Proofs.Ytjgkgceigbimoaa.wlk Go.Proofs.Ytjgkgceigbimoaa.cur Go.Proofs.Ytjgkgceigbimoaa.rws Go.Proofs.Ytjgkgceigbimoaa.pln Go.Proofs.Ytjgkgceigbimoaa.mes Go.Proofs.Ytjgkgceigbimoaa.vrs Go.Proofs.Ytjgkgceigbimoaa.pla Go.Proofs.Ytjgkgceigbimoaa.ren
/-- what stands for the variable n -/
def aps (l : List Tm) (n : Int) : Tm := if h : n.toNat < l.length then l[n.toNat] else var n
/-- Apply's answer -/
def appR (t : Tm) (l : List Tm) : Tm := if good t = true then plainR (sub (aps l) t) else zero
theorem two_bx {w w1 : World} {o o' : Obj} (h : Below ((w.alloc o).alloc o').heap.size ((w.alloc o).alloc o') w1) : w1.heap[w.heap.size]? = some o ∧ w1.heap[w.heap.size + 1]? = some o' ∧ Below w.heap.size w w1 := by
  refine ⟨?_, ?_, bt (bt (ba _ _) (ba _ _)) h⟩
  · rw [h.block _ (by simp only [alloc_size]; omega), (ba (w.alloc o) o').block _ (by simp only [alloc_size]; omega)]
    exact alloc_at _ _
  · rw [h.block _ (by simp only [alloc_size]; omega)]
    have := alloc_at (w.alloc o) o'
    rwa [alloc_size] at this
theorem ap1 (w0 : World) (cb : Nat) (a : Option Addr) (l : List Tm) (c : Nat) (n : Int) (w : World) (hc : w0.cell? ⟨cb, 0, none⟩ = some (.slice a l.length c)) (hr : TRow (fun k => w0.heap.size ≤ k) w0 l a 0) (hb : Below w0.heap.size w0 w) (h0 : 0 ≤ n) (h1 : n ≤ 9223372036854775807) :
    Calls Try.prog 36 #[.int .i64 n, .pointer (some ⟨cb, 0, none⟩)] w fun e w' => ∃ k nn i re im a len c, e = .returned (.agg #[.int .i64 k, .string nn, .int .i64 i, .int .u64 re, .int .u64 im, .slice a len c]) ∧ Below w.heap.size w w' ∧
      Lies (fun k => No k ∨ w0.heap.size ≤ k) w' (aps l n) (.agg #[.int .i64 k, .string nn, .int .i64 i, .int .u64 re, .int .u64 im, .slice a len c]) := by
  have hcl := cell_lt hc
  have hc1 := (hb.cell (p := ⟨cb, 0, none⟩) hcl).trans hc
  have hcl1 : cb < w.heap.size := cell_lt hc1
  have hc2 := ((ba w ZT).cell (p := ⟨cb, 0, none⟩) hcl1).trans hc1
  obtain ⟨m, rfl⟩ := Int.eq_ofNat_of_zero_le h0
  by_cases hlt : m < l.length
  · have HE : Hid (aps l (m : Int) = l[m]) := Lib.hid (by unfold aps; simp [hlt])
    rw [HE.out]
    have hd : decide ((m : Int) < (l.length : Int)) = true := by simp; exact hlt
    obtain ⟨b1, o1, v0, v1, v2, v3, v4, v5, hbl, hnx, h6, hlx, hix⟩ := hr.look hlt
    have h6' := (h6.keep (X := No) (Keep.of_below hb) id).keep (X := No) (Keep.of_below (ba w ZT)) id
    have hix' := hix c
    obtain ⟨kq, nq, iq, rq, mq, lq, aq, cq, hv, _⟩ := lies_form hlx
    obtain ⟨rfl, rfl, rfl, rfl, rfl, rfl⟩ := hv
    obtain ⟨e0, e1, e2, e3, e4, e5⟩ := h6'
    have hz := alloc_at w ZT
    have HL := Lib.hid (hlx.below hb)
    have HZ := Lib.hid hz
    obtain ⟨⟨z0, z1, z2, z3, z4, z5⟩, y0, y1, y2, y3, y4, y5⟩ := blk_facts hz
    have HW := Lib.hid hb.size
    clear hb hc hc1 hcl h6 hlx hix hr h0 h1 hz
    go_enter Try.func36, Try.ntmps36
    go_wp2_with fail
    exact bodyPost_ret (v := .agg #[.int .i64 kq, .string nq, .int .i64 iq, .int .u64 rq, .int .u64 mq, .slice aq lq cq]) (by simp [results, Try.results36, go_sem]) rfl ⟨_, _, _, _, _, _, _, _, rfl, ba w _, (HL.out.below (ba w _)).off fun k _ h => h.elim False.elim id⟩
  · have HE : Hid (aps l (m : Int) = var m) := Lib.hid (by unfold aps; simp [hlt])
    rw [HE.out]
    have hd : decide (m < l.length) = false := by simp; omega
    have HR := Lib.hid (And.intro h0 h1)
    clear hb hc hc1 hcl hr h0 h1 hlt
    go_enter Try.func36, Try.ntmps36
    go_wp2_with fail
    refine (variable_any _ _).mono ?_
    rintro e w1 ⟨rfl, hb⟩
    have hz : w1.heap[w.heap.size]? = some ZT := (hb.block _ (by rw [alloc_size]; omega)).trans (alloc_at w ZT)
    obtain ⟨⟨z0, z1, z2, z3, z4, z5⟩, y0, y1, y2, y3, y4, y5⟩ := blk_facts hz
    have HB := Lib.hid (And.intro hb hz)
    clear hb hz hc2
    go_wp2_with fail
    obtain ⟨W, hW, e0, e1, e2, e3, e4, e5, k6⟩ := res_fin HB.out.2 (.int .i64 1) (.string ⟨#[]⟩) (.int .i64 m) (.int .u64 0) (.int .u64 0) (.slice none 0 0)
    rw [hW]
    exact bodyPost_ret (v := .agg #[.int .i64 1, .string ⟨#[]⟩, .int .i64 m, .int .u64 0, .int .u64 0, .slice none 0 0]) (by simp [results, Try.results36, go_sem, e0, e1, e2, e3, e4, e5]) rfl ⟨_, _, _, _, _, _, _, _, rfl, (bt (ba w _) HB.out.1).trans (k6.to_below (fun i h => by subst h; omega) (by have := HB.out.1.size; rw [alloc_size] at this; omega)), var_lies _ _ _ (by omega) HR.out.2⟩
theorem app_bad (t : Tm) (v : Value) (a : Option Addr) (n c : Nat) (w : World) (ht : Lies No w t v) (hg : good t = false) : Calls Try.prog 14 #[v, .slice a n c] w (Gives (Old w) zero w) := by
  have hne : (may t != 0) = true := by rw [bne_iff_ne]; have := may_nogood hg; omega
  have HT := Lib.hid ht
  obtain ⟨k, nn, i, re, im, l⟩ := t
  rw [Lies] at ht
  obtain ⟨at', ct, rfl, hf, hr⟩ := ht
  clear hf hr hg
  go_enter Try.func14, Try.ntmps14
  go_wp2_with fail
  refine (may_any _ _ _ (((HT.out.below (ba _ _)).below (ba _ _)).below (ba _ _))).mono ?_
  rintro e w1 ⟨rfl, hb⟩
  obtain ⟨w0', hw0'⟩ : ∃ w0', w0' = (w.alloc (.cells #[.int .i64 k, .string nn, .int .i64 i, .int .u64 re, .int .u64 im, .slice at' l.length ct] 25)) := ⟨_, rfl⟩
  rw [← hw0'] at hb
  have hs0 : w0'.heap.size = w.heap.size + 1 := by rw [hw0', alloc_size]
  obtain ⟨_, hz, hb1⟩ := two_bx hb
  rw [hs0] at hz
  have HB := Lib.hid (And.intro ((show Below w.heap.size w w0' from by rw [hw0']; exact ba w _).trans (hb1.mono (by omega))) hz)
  obtain ⟨⟨z0, z1, z2, z3, z4, z5⟩, y0, y1, y2, y3, y4, y5⟩ := blk_facts hz
  clear hb hz hw0' hb1
  go_wp2_with fail
  obtain ⟨W, hW, e0, e1, e2, e3, e4, e5, k6⟩ := res_fin HB.out.2 (.int .i64 0) (.string ⟨#[]⟩) (.int .i64 0) (.int .u64 0) (.int .u64 0) (.slice none 0 0)
  rw [hW]
  have hlt := (Array.getElem?_eq_some_iff.1 HB.out.2).1
  exact bodyPost_ret (v := ZV) (by simp [results, Try.results14, go_sem, e0, e1, e2, e3, e4, e5]) rfl ⟨_, _, _, _, _, _, _, _, rfl, HB.out.1.trans (k6.to_below (fun i h => by subst h; omega) (by omega)), zero_lies _ _⟩
theorem occ0 {t : Tm} (hg : good t = true) : ∀ n ∈ occ t, 0 ≤ n := by
  intro n hn
  have f := pre_facts t 1
  rw [← f.2.2.1, List.mem_filterMap] at hn
  obtain ⟨x, hx, he⟩ := hn
  have hc := f.2.1.2 (good_sound hg) x hx
  obtain ⟨⟨k, nn, i, re, im, l⟩, d⟩ := x
  simp only [Tm.kind, Tm.int] at he
  by_cases hk : k = 1
  · subst hk
    simp only [if_true, Option.some.injEq] at he
    subst he
    simp only [chk, if_true] at hc
    omega
  · simp [hk] at he
theorem app_good (t : Tm) (v : Value) (a : Option Addr) (l : List Tm) (c : Nat) (w : World) (ht : Lies No w t v) (hr : TRow No w l a 0) (hg : good t = true) : Calls Try.prog 14 #[v, .slice a l.length c] w (Gives (Old w) (plainR (sub (aps l) t)) w) := by
  have HG := Lib.hid hg
  obtain ⟨T, hT⟩ : ∃ T, T = t := ⟨_, rfl⟩
  rw [← hT] at HG ⊢
  have HT := Lib.hid (show Lies No w T v from hT ▸ ht)
  have HR := Lib.hid hr
  obtain ⟨k, nn, i, re, im, tl⟩ := t
  rw [Lies] at ht
  obtain ⟨at', ct, rfl, hf, hr'⟩ := ht
  have hmf : ∀ (fn : Fn) (first cap : Array Value) (w : World), (Instr.makeFunc fn first cap).run Try.prog w = .ok (.func fn first cap) w := fun _ _ _ _ => rfl
  clear hf hr hr' hg hT
  go_enter Try.func14, Try.ntmps14
  go_wp2_with fail
  refine (may_ok HG.out _ _ (((HT.out.below (ba _ _)).below (ba _ _)).below (ba _ _))).mono ?_
  rintro e w1 ⟨rfl, hb⟩
  obtain ⟨w0', hw0'⟩ : ∃ w0', w0' = (w.alloc (.cells #[.int .i64 k, .string nn, .int .i64 i, .int .u64 re, .int .u64 im, .slice at' tl.length ct] 25)) := ⟨_, rfl⟩
  rw [← hw0'] at hb
  have hs0 : w0'.heap.size = w.heap.size + 1 := by rw [hw0', alloc_size]
  have ha0 : w0'.heap[w.heap.size]? = some (.cells #[.int .i64 k, .string nn, .int .i64 i, .int .u64 re, .int .u64 im, .slice at' tl.length ct] 25 (0, 0)) := by rw [hw0']; exact alloc_at _ _
  obtain ⟨hsl, hz, hb1⟩ := two_bx hb
  rw [hs0] at hz hsl
  have hx1 := (hb1.block w.heap.size (by omega)).trans ha0
  have hbw : Below w.heap.size w w1 := (show Below w.heap.size w w0' from by rw [hw0']; exact ba w _).trans (hb1.mono (by omega))
  have hlt := (Array.getElem?_eq_some_iff.1 hz).1
  have HB := Lib.hid (And.intro hbw (And.intro hz hsl))
  obtain ⟨⟨x0, x1, x2, x3, x4, x5⟩, _⟩ := blk_facts hx1
  clear hb hz hsl hx1 hbw hb1 hw0' ha0
  go_wp2_with fail
  have hcell : w1.cell? ⟨w.heap.size + 1, 0, none⟩ = some (.slice a l.length c) := by have := HB.out.2.2; simp [World.cell?, this]
  refine (rba.rebuild_any T _ w1 (aps l) ⟨w.heap.size + 1, 0, none⟩ No (fun _ h => h.elim) (HT.out.below HB.out.1) HG.out (fun n w' hb' hm => ap1 w1 (w.heap.size + 1) a l c n w' hcell ((HR.out.below HB.out.1).off fun b h1 h2 => absurd h1 (by omega)) hb' (occ0 HG.out n hm) (occ_bound _ _ HT.out n hm).2)).mono ?_
  rintro e w2 ⟨kq, nq, iq, req, imq, aq, lq, cq, rfl, hb2, hq⟩
  have hb3 := bt hb2 (ba w2 (.cells #[.int .i64 kq, .string nq, .int .i64 iq, .int .u64 req, .int .u64 imq, .slice aq lq cq] 25))
  have HQ := Lib.hid (And.intro hb3 (hq.below (ba w2 (.cells #[.int .i64 kq, .string nq, .int .i64 iq, .int .u64 req, .int .u64 imq, .slice aq lq cq] 25))))
  clear hb2 hb3 hq x0 x1 x2 x3 x4 x5 hcell hmf
  go_wp2_with fail
  refine (plain_any _ _ _ HQ.out.2).mono ?_
  rintro e w4 ⟨ka, na, ia, ra, ma, aa, la, ca, rfl, hb4, hq⟩
  have hz4 := (hb4.block _ (by have := HQ.out.1.size; omega)).trans ((HQ.out.1.block _ hlt).trans HB.out.2.1)
  have H4 := Lib.hid (And.intro hb4 (And.intro hq hz4))
  obtain ⟨⟨z0, z1, z2, z3, z4, z5⟩, y0, y1, y2, y3, y4, y5⟩ := blk_facts hz4
  clear hb4 hq hz4
  go_wp2_with fail
  obtain ⟨W, hW, e0, e1, e2, e3, e4, e5, k6⟩ := res_fin H4.out.2.2 (.int .i64 ka) (.string na) (.int .i64 ia) (.int .u64 ra) (.int .u64 ma) (.slice aa la ca)
  rw [hW]
  have hs1 := HB.out.1.size; have hs3 := HQ.out.1.size; have hs4 := H4.out.1.size
  refine bodyPost_ret (v := .agg #[.int .i64 ka, .string na, .int .i64 ia, .int .u64 ra, .int .u64 ma, .slice aa la ca]) (by simp [results, Try.results14, go_sem, e0, e1, e2, e3, e4, e5]) rfl ⟨_, _, _, _, _, _, _, _, rfl, ((HB.out.1.trans (HQ.out.1.mono hs1)).trans (H4.out.1.mono (by omega))).trans (k6.to_below (fun i h => by subst h; omega) (by omega)), ?_⟩
  exact Lies.keep (Y := Old w) (k6.mono (G := Old (w2.alloc (.cells #[.int .i64 kq, .string nq, .int .i64 iq, .int .u64 req, .int .u64 imq, .slice aq lq cq] 25))) fun i h => by subst h; show _ < _; omega) (fun b _ h => by show b < _; have : b < w.heap.size := h; omega) _ _ H4.out.2.1
theorem apply_any (t : Tm) (v : Value) (a : Option Addr) (l : List Tm) (c : Nat) (w : World) (ht : Lies No w t v) (hr : TRow No w l a 0) : Calls Try.prog 14 #[v, .slice a l.length c] w (Gives (Old w) (appR t l) w) := by
  unfold appR
  cases hg : good t
  · simpa using app_bad t v a l.length c w ht hg
  · simpa using app_good t v a l c w ht hr hg
end Go.Proofs.Ytjgkgceigbimoaa.app
