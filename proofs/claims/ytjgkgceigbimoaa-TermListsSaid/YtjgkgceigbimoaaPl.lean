/- Package term: Plain; what a function that tells a term gives. -/
import Derived.Test.YtjgkgceigbimoaaRbV
import Derived.Test.YtjgkgceigbimoaaVars
namespace Go.Proofs.Ytjgkgceigbimoaa.pla
set_option linter.unusedVariables false
open Go.ChangeShapes Go.WideShapes Go.ChangeAt Go.RowKit
open Go.Proofs.Ytjgkgceigbimoaa.tm Go.Proofs.Ytjgkgceigbimoaa.lie Go.Proofs.Ytjgkgceigbimoaa.kp Go.Proofs.Ytjgkgceigbimoaa.wlk Go.Proofs.Ytjgkgceigbimoaa.cur Go.Proofs.Ytjgkgceigbimoaa.rws Go.Proofs.Ytjgkgceigbimoaa.pln Go.Proofs.Ytjgkgceigbimoaa.mes Go.Proofs.Ytjgkgceigbimoaa.vrs
/-- the answer is this term; it lies off Z -/
def Gives (Z : Nat → Prop) (q : Tm) (w : World) (e : Ending) (w' : World) : Prop := ∃ k nn i re im a len c, e = .returned (.agg #[.int .i64 k, .string nn, .int .i64 i, .int .u64 re, .int .u64 im, .slice a len c]) ∧ Below w.heap.size w w' ∧
  Lies Z w' q (.agg #[.int .i64 k, .string nn, .int .i64 i, .int .u64 re, .int .u64 im, .slice a len c])
/-- all that is old -/
abbrev Old (w : World) : Nat → Prop := fun k => k < w.heap.size
theorem res_fin {w : World} {rv : Nat} (hz : w.heap[rv]? = some ZT) (v0 v1 v2 v3 v4 v5 : Value) : ∃ W,
    ((((((w.setCell ⟨rv, 0, none⟩ v0).setCell ⟨rv, 1, none⟩ v1).setCell ⟨rv, 2, none⟩ v2).setCell ⟨rv, 3, none⟩ v3).setCell ⟨rv, 4, none⟩ v4).setCell ⟨rv, 5, none⟩ v5) = W ∧
    W.cell? ⟨rv, 0, none⟩ = some v0 ∧ W.cell? ⟨rv, 1, none⟩ = some v1 ∧ W.cell? ⟨rv, 2, none⟩ = some v2 ∧ W.cell? ⟨rv, 3, none⟩ = some v3 ∧ W.cell? ⟨rv, 4, none⟩ = some v4 ∧ W.cell? ⟨rv, 5, none⟩ = some v5 ∧ Keep (fun k => k = rv) w W := by
  obtain ⟨e0, e1, e2, e3, e4, e5⟩ := six_set (v0 := v0) (v1 := v1) (v2 := v2) (v3 := v3) (v4 := v4) (v5 := v5) hz
  exact ⟨_, rfl, e0, e1, e2, e3, e4, e5, keep_set6 w rv v0 v1 v2 v3 v4 v5⟩
/-- two blocks have been made: the box of an argument, the answer's place -/
theorem two_at {w w1 : World} {o : Obj} (h : Below ((w.alloc o).alloc ZT).heap.size ((w.alloc o).alloc ZT) w1) : w1.heap[w.heap.size]? = some o ∧ w1.heap[w.heap.size + 1]? = some ZT ∧ w.heap.size + 1 < w1.heap.size ∧ Below w.heap.size w w1 := by
  have hs := h.size
  simp only [alloc_size] at hs
  have h2 := alloc_at (w.alloc o) ZT
  rw [alloc_size] at h2
  refine ⟨(h.block _ (by simp only [alloc_size]; omega)).trans (((ba (w.alloc o) ZT).block _ (by rw [alloc_size]; omega)).trans (alloc_at w o)), (h.block _ (by simp only [alloc_size]; omega)).trans h2, by omega, bt (bt (ba w o) (ba _ ZT)) h⟩
theorem occ_bound {X : Nat → Prop} {w : World} : ∀ (t : Tm) (v : Value), Lies X w t v → ∀ n ∈ occ t, -9223372036854775808 ≤ n ∧ n ≤ 9223372036854775807 := by
  intro t
  induction t using Tm.ind with
  | h k n i re im l ih =>
    intro v h m hm
    rw [Lies] at h
    obtain ⟨a, c, _, hf, hr⟩ := h
    simp only [occ] at hm
    by_cases h1 : k = 1
    · rw [if_pos h1, List.mem_singleton] at hm
      subst hm
      exact ⟨hf.i0, hf.i1⟩
    · rw [if_neg h1] at hm
      by_cases h5 : k = 5
      · rw [if_pos h5, occL_flat, List.mem_flatMap] at hm
        obtain ⟨x, hx, hm⟩ := hm
        obtain ⟨j, hj, rfl⟩ := List.getElem_of_mem hx
        obtain ⟨b, o, v0, v1, v2, v3, v4, v5, _, _, _, hl⟩ := hr.at j hj
        exact ih _ hx _ hl m hm
      · rw [if_neg h5] at hm; simp at hm
theorem var_lies (X : Nat → Prop) (n : Int) (w : World) (h0 : -9223372036854775808 ≤ n) (h1 : n ≤ 9223372036854775807) : Lies X w (var n) (.agg #[.int .i64 1, .string ⟨#[]⟩, .int .i64 n, .int .u64 0, .int .u64 0, .slice none 0 0]) := by
  rw [var, Lies]
  exact ⟨none, 0, rfl, ⟨by omega, by omega, show (0 : Nat) ≤ 9223372036854775807 by omega, h0, h1, by omega, by omega, by omega, by omega, by simp, by simp⟩, by rw [TRow]; trivial⟩
theorem zero_lies (X : Nat → Prop) (w : World) : Lies X w zero ZV := by
  rw [zero, Lies]
  exact ⟨none, 0, rfl, ⟨by omega, by omega, show (0 : Nat) ≤ 9223372036854775807 by omega, by omega, by omega, by omega, by omega, by omega, by omega, by simp, by simp⟩, by rw [TRow]; trivial⟩
/-- Plain's answer -/
def plainR (t : Tm) : Tm := if good t = true then plain t else zero
theorem plain_bad (t : Tm) (v : Value) (w : World) (ht : Lies No w t v) (hg : good t = false) : Calls Try.prog 29 #[v] w (Gives (Old w) zero w) := by
  have hne : (may t != 0) = true := by rw [bne_iff_ne]; have := may_nogood hg; omega
  obtain ⟨k, n, i, re, im, l⟩ := t
  have HT := Lib.hid ht
  rw [Lies] at ht
  obtain ⟨a, c, rfl, hf, hr⟩ := ht
  clear hf hr
  go_enter Try.func29, Try.ntmps29
  go_wp2_with fail
  refine (may_any _ _ _ ((HT.out.below (ba _ _)).below (ba _ _))).mono ?_
  rintro e w1 ⟨rfl, hb⟩
  obtain ⟨_, hz, hlt, hb⟩ := two_at hb
  have HB := Lib.hid (And.intro hb hz)
  obtain ⟨⟨z0, z1, z2, z3, z4, z5⟩, y0, y1, y2, y3, y4, y5⟩ := blk_facts hz
  clear hb hz
  go_wp2_with fail
  obtain ⟨W, hW, e0, e1, e2, e3, e4, e5, k6⟩ := res_fin HB.out.2 (.int .i64 0) (.string ⟨#[]⟩) (.int .i64 0) (.int .u64 0) (.int .u64 0) (.slice none 0 0)
  rw [hW]
  exact bodyPost_ret (v := ZV) (by simp [results, Try.results29, go_sem, e0, e1, e2, e3, e4, e5]) rfl ⟨_, _, _, _, _, _, _, _, rfl, HB.out.1.trans (k6.to_below (fun i h => by subst h; omega) (by omega)), zero_lies _ _⟩
theorem plain_good (t : Tm) (v : Value) (w : World) (ht : Lies No w t v) (hg : good t = true) : Calls Try.prog 29 #[v] w (Gives (Old w) (plain t) w) := by
  have HG := Lib.hid hg
  obtain ⟨k, n, i, re, im, l⟩ := t
  have HT := Lib.hid ht
  rw [Lies] at ht
  obtain ⟨a, c, rfl, hf, hr⟩ := ht
  clear hf hr hg
  go_enter Try.func29, Try.ntmps29
  go_wp2_with fail
  refine (may_ok HG.out _ _ ((HT.out.below (ba _ _)).below (ba _ _))).mono ?_
  rintro e w1 ⟨rfl, hb⟩
  obtain ⟨hx, hz, hlt, hb⟩ := two_at hb
  obtain ⟨⟨x0, x1, x2, x3, x4, x5⟩, _⟩ := blk_facts hx
  have HB := Lib.hid (And.intro hb hz)
  clear hb hz hx
  go_wp2_with fail
  refine (rbv.rebuild_any _ _ w1 var (Old w1) (fun _ h => h) (HT.out.below HB.out.1) HG.out (fun m w' hb' hm => (variable_any m w').mono fun e w'' ⟨he, hb''⟩ => ⟨_, _, _, _, _, _, _, _, he, hb'', var_lies _ _ _ (occ_bound _ _ HT.out m hm).1 (occ_bound _ _ HT.out m hm).2⟩)).mono ?_
  rintro e w2 ⟨kq, nq, iq, req, imq, aq, lq, cq, rfl, hb2, hq⟩
  have hz2 := (hb2.block _ hlt).trans HB.out.2
  have HQ := Lib.hid (And.intro hb2 (And.intro hq hz2))
  obtain ⟨⟨z0, z1, z2, z3, z4, z5⟩, y0, y1, y2, y3, y4, y5⟩ := blk_facts hz2
  clear hb2 hq hz2 x0 x1 x2 x3 x4 x5
  go_wp2_with fail
  obtain ⟨W, hW, e0, e1, e2, e3, e4, e5, k6⟩ := res_fin HQ.out.2.2 (.int .i64 kq) (.string nq) (.int .i64 iq) (.int .u64 req) (.int .u64 imq) (.slice aq lq cq)
  rw [hW]
  have hs := HB.out.1.size
  have hs2 := HQ.out.1.size
  refine bodyPost_ret (v := .agg #[.int .i64 kq, .string nq, .int .i64 iq, .int .u64 req, .int .u64 imq, .slice aq lq cq]) (by simp [results, Try.results29, go_sem, e0, e1, e2, e3, e4, e5]) rfl ⟨_, _, _, _, _, _, _, _, rfl, ?_, ?_⟩
  · exact (HB.out.1.trans (HQ.out.1.mono hs)).trans (k6.to_below (fun i h => by subst h; omega) (by omega))
  · exact Lies.keep (k6.mono (G := Old w1) fun i h => by subst h; exact hlt) (fun b _ h => Nat.lt_of_lt_of_le h hs) _ _ HQ.out.2.1
theorem plain_any (t : Tm) (v : Value) (w : World) (ht : Lies No w t v) : Calls Try.prog 29 #[v] w (Gives (Old w) (plainR t) w) := by
  unfold plainR
  cases hg : good t
  · simpa using plain_bad t v w ht hg
  · simpa using plain_good t v w ht hg
end Go.Proofs.Ytjgkgceigbimoaa.pla
