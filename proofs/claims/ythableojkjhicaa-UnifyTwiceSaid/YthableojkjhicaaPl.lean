/- Package term: Plain; what a function that tells a term gives. Package term: Rename. The laws' own: awake; the reference's Var, Atom, Comp. -/
import Derived.Test.YthableojkjhicaaRbV
import Derived.Test.YthableojkjhicaaVars
import Derived.Test.YthableojkjhicaaRbR
import Derived.Deep.LoopGhost
namespace Go.Proofs.Ythableojkjhicaa.pla
set_option linter.unusedVariables false
open Go.ChangeShapes Go.WideShapes Go.ChangeAt Go.RowKit
open Go.Proofs.Ythableojkjhicaa.tm Go.Proofs.Ythableojkjhicaa.lie Go.Proofs.Ythableojkjhicaa.kp Go.Proofs.Ythableojkjhicaa.wlk Go.Proofs.Ythableojkjhicaa.cur Go.Proofs.Ythableojkjhicaa.rws Go.Proofs.Ythableojkjhicaa.pln Go.Proofs.Ythableojkjhicaa.mes Go.Proofs.Ythableojkjhicaa.vrs
/-- the answer is this term; it lies off Z -/
def Gives (Z : Nat → Prop) (q : Tm) (w : World) (e : Ending) (w' : World) : Prop := ∃ k nn i re im a len c, e = .returned (.agg #[.int .i64 k, .string nn, .int .i64 i, .int .u64 re, .int .u64 im, .slice a len c]) ∧ Below w.heap.size w w' ∧
  Lies Z w' q (.agg #[.int .i64 k, .string nn, .int .i64 i, .int .u64 re, .int .u64 im, .slice a len c])
/-- all that is old -/
abbrev Old (w : World) : Nat → Prop := fun k => k < w.heap.size
theorem res_fin {w : World} {rv : Nat} (hz : w.heap[rv]? = some ZT) (v0 v1 v2 v3 v4 v5 : Value) : ∃ W,
    ((((((w.setCell ⟨rv, 0, none⟩ v0).setCell ⟨rv, 1, none⟩ v1).setCell ⟨rv, 2, none⟩ v2).setCell ⟨rv, 3, none⟩ v3).setCell ⟨rv, 4, none⟩ v4).setCell ⟨rv, 5, none⟩ v5) = W ∧
    W.cell? ⟨rv, 0, none⟩ = some v0 ∧ W.cell? ⟨rv, 1, none⟩ = some v1 ∧ W.cell? ⟨rv, 2, none⟩ = some v2 ∧ W.cell? ⟨rv, 3, none⟩ = some v3 ∧ W.cell? ⟨rv, 4, none⟩ = some v4 ∧ W.cell? ⟨rv, 5, none⟩ = some v5 ∧ Keep (fun k => k = rv) w W := by
  obtain ⟨e0, e1, e2, e3, e4, e5⟩ := six_set (v0 := v0) (v1 := v1) (v2 := v2) (v3 := v3) (v4 := v4) (v5 := v5) hz
  exact ⟨_, rfl, e0, e1, e2, e3, e4, e5, keep_set6 w rv v0 v1 v2 v3 v4 v5⟩
/-- two blocks have been made: the box of an argument, the answer's place -/
theorem two_at {w w1 : World} {o : Obj} (h : Below ((w.alloc o).alloc ZT).heap.size ((w.alloc o).alloc ZT) w1) : w1.heap[w.heap.size]? = some o ∧ w1.heap[w.heap.size + 1]? = some ZT ∧ w.heap.size + 1 < w1.heap.size ∧ Below w.heap.size w w1 := by
  have hs := h.size
  simp only [alloc_size] at hs
  have h2 := alloc_at (w.alloc o) ZT
  rw [alloc_size] at h2
  refine ⟨(h.block _ (by simp only [alloc_size]; omega)).trans (((ba (w.alloc o) ZT).block _ (by rw [alloc_size]; omega)).trans (alloc_at w o)), (h.block _ (by simp only [alloc_size]; omega)).trans h2, by omega, bt (bt (ba w o) (ba _ ZT)) h⟩
theorem occ_bound {X : Nat → Prop} {w : World} : ∀ (t : Tm) (v : Value), Lies X w t v → ∀ n ∈ occ t, -9223372036854775808 ≤ n ∧ n ≤ 9223372036854775807 := by
  intro t
  induction t using Tm.ind with
  | h k n i re im l ih =>
    intro v h m hm
    rw [Lies] at h
    obtain ⟨a, c, _, hf, hr⟩ := h
    simp only [occ] at hm
    by_cases h1 : k = 1
    · rw [if_pos h1, List.mem_singleton] at hm
      subst hm
      exact ⟨hf.i0, hf.i1⟩
    · rw [if_neg h1] at hm
      by_cases h5 : k = 5
      · rw [if_pos h5, occL_flat, List.mem_flatMap] at hm
        obtain ⟨x, hx, hm⟩ := hm
        obtain ⟨j, hj, rfl⟩ := List.getElem_of_mem hx
        obtain ⟨b, o, v0, v1, v2, v3, v4, v5, _, _, _, hl⟩ := hr.at j hj
        exact ih _ hx _ hl m hm
      · rw [if_neg h5] at hm; simp at hm
theorem var_lies (X : Nat → Prop) (n : Int) (w : World) (h0 : -9223372036854775808 ≤ n) (h1 : n ≤ 9223372036854775807) : Lies X w (var n) (.agg #[.int .i64 1, .string ⟨#[]⟩, .int .i64 n, .int .u64 0, .int .u64 0, .slice none 0 0]) := by
  rw [var, Lies]
  exact ⟨none, 0, rfl, ⟨by omega, by omega, show (0 : Nat) ≤ 9223372036854775807 by omega, h0, h1, by omega, by omega, by omega, by omega, by simp, by simp⟩, by rw [TRow]; trivial⟩
theorem zero_lies (X : Nat → Prop) (w : World) : Lies X w zero ZV := by
  rw [zero, Lies]
  exact ⟨none, 0, rfl, ⟨by omega, by omega, show (0 : Nat) ≤ 9223372036854775807 by omega, by omega, by omega, by omega, by omega, by omega, by omega, by simp, by simp⟩, by rw [TRow]; trivial⟩
/-- Plain's answer -/
def plainR (t : Tm) : Tm := if good t = true then plain t else zero
theorem plain_bad (t : Tm) (v : Value) (w : World) (ht : Lies No w t v) (hg : good t = false) : Calls Try.prog 123 #[v] w (Gives (Old w) zero w) := by
  have hne : (may t != 0) = true := by rw [bne_iff_ne]; have := may_nogood hg; omega
  obtain ⟨k, n, i, re, im, l⟩ := t
  have HT := Lib.hid ht
  rw [Lies] at ht
  obtain ⟨a, c, rfl, hf, hr⟩ := ht
  clear hf hr
  go_enter Try.func123, Try.ntmps123
  go_wp2_with fail
  refine (may_any _ _ _ ((HT.out.below (ba _ _)).below (ba _ _))).mono ?_
  rintro e w1 ⟨rfl, hb⟩
  obtain ⟨_, hz, hlt, hb⟩ := two_at hb
  have HB := Lib.hid (And.intro hb hz)
  obtain ⟨⟨z0, z1, z2, z3, z4, z5⟩, y0, y1, y2, y3, y4, y5⟩ := blk_facts hz
  clear hb hz
  go_wp2_with fail
  obtain ⟨W, hW, e0, e1, e2, e3, e4, e5, k6⟩ := res_fin HB.out.2 (.int .i64 0) (.string ⟨#[]⟩) (.int .i64 0) (.int .u64 0) (.int .u64 0) (.slice none 0 0)
  rw [hW]
  exact bodyPost_ret (v := ZV) (by simp [results, Try.results123, go_sem, e0, e1, e2, e3, e4, e5]) rfl ⟨_, _, _, _, _, _, _, _, rfl, HB.out.1.trans (k6.to_below (fun i h => by subst h; omega) (by omega)), zero_lies _ _⟩
theorem plain_good (t : Tm) (v : Value) (w : World) (ht : Lies No w t v) (hg : good t = true) : Calls Try.prog 123 #[v] w (Gives (Old w) (plain t) w) := by
  have HG := Lib.hid hg
  obtain ⟨k, n, i, re, im, l⟩ := t
  have HT := Lib.hid ht
  rw [Lies] at ht
  obtain ⟨a, c, rfl, hf, hr⟩ := ht
  clear hf hr hg
  go_enter Try.func123, Try.ntmps123
  go_wp2_with fail
  refine (may_ok HG.out _ _ ((HT.out.below (ba _ _)).below (ba _ _))).mono ?_
  rintro e w1 ⟨rfl, hb⟩
  obtain ⟨hx, hz, hlt, hb⟩ := two_at hb
  obtain ⟨⟨x0, x1, x2, x3, x4, x5⟩, _⟩ := blk_facts hx
  have HB := Lib.hid (And.intro hb hz)
  clear hb hz hx
  go_wp2_with fail
  refine (rbv.rebuild_any _ _ w1 var (Old w1) (fun _ h => h) (HT.out.below HB.out.1) HG.out (fun m w' hb' hm => (variable_any m w').mono fun e w'' ⟨he, hb''⟩ => ⟨_, _, _, _, _, _, _, _, he, hb'', var_lies _ _ _ (occ_bound _ _ HT.out m hm).1 (occ_bound _ _ HT.out m hm).2⟩)).mono ?_
  rintro e w2 ⟨kq, nq, iq, req, imq, aq, lq, cq, rfl, hb2, hq⟩
  have hz2 := (hb2.block _ hlt).trans HB.out.2
  have HQ := Lib.hid (And.intro hb2 (And.intro hq hz2))
  obtain ⟨⟨z0, z1, z2, z3, z4, z5⟩, y0, y1, y2, y3, y4, y5⟩ := blk_facts hz2
  clear hb2 hq hz2 x0 x1 x2 x3 x4 x5
  go_wp2_with fail
  obtain ⟨W, hW, e0, e1, e2, e3, e4, e5, k6⟩ := res_fin HQ.out.2.2 (.int .i64 kq) (.string nq) (.int .i64 iq) (.int .u64 req) (.int .u64 imq) (.slice aq lq cq)
  rw [hW]
  have hs := HB.out.1.size
  have hs2 := HQ.out.1.size
  refine bodyPost_ret (v := .agg #[.int .i64 kq, .string nq, .int .i64 iq, .int .u64 req, .int .u64 imq, .slice aq lq cq]) (by simp [results, Try.results123, go_sem, e0, e1, e2, e3, e4, e5]) rfl ⟨_, _, _, _, _, _, _, _, rfl, ?_, ?_⟩
  · exact (HB.out.1.trans (HQ.out.1.mono hs)).trans (k6.to_below (fun i h => by subst h; omega) (by omega))
  · exact Lies.keep (k6.mono (G := Old w1) fun i h => by subst h; exact hlt) (fun b _ h => Nat.lt_of_lt_of_le h hs) _ _ HQ.out.2.1
theorem plain_any (t : Tm) (v : Value) (w : World) (ht : Lies No w t v) : Calls Try.prog 123 #[v] w (Gives (Old w) (plainR t) w) := by
  unfold plainR
  cases hg : good t
  · simpa using plain_bad t v w ht hg
  · simpa using plain_good t v w ht hg
end Go.Proofs.Ythableojkjhicaa.pla
namespace Go.Proofs.Ythableojkjhicaa.ren
set_option linter.unusedVariables false
open Go.ChangeShapes Go.WideShapes Go.ChangeAt Go.RowKit Go.Maps
open Go.Proofs.Ythableojkjhicaa.tm Go.Proofs.Ythableojkjhicaa.lie Go.Proofs.Ythableojkjhicaa.kp Go.Proofs.Ythableojkjhicaa.wlk Go.Proofs.Ythableojkjhicaa.cur Go.Proofs.Ythableojkjhicaa.rws Go.Proofs.Ythableojkjhicaa.pln Go.Proofs.Ythableojkjhicaa.mes Go.Proofs.Ythableojkjhicaa.vrs Go.Proofs.Ythableojkjhicaa.pla
def ix0 (vs : List Int) (n : Int) : Int := if n ∈ vs then (vs.idxOf n : Int) else 0
def Idx0 (D : DataW Unit) (vs : List Int) : Prop := ∀ n : Int, D.atKey (CK n) Z = .lit (.int .i64 (ix0 vs n))
theorem Idx0_nil : Idx0 (.map []) [] := fun n => by simp [DataW.atKey, ix0]
theorem Idx0_put {D : DataW Unit} {vs : List Int} {n : Int} (h : Idx0 D vs) (hD : IsMap D) (hn : n ∉ vs) : Idx0 (D.put (CK n) (.lit (.int .i64 (vs.length : Int)))) (vs ++ [n]) := by
  intro m
  by_cases e : m = n
  · subst e
    rw [atKey_put_same hD (by simp [WideAt.IsKeyLit])]
    simp [ix0, List.idxOf_append, hn]
  · rw [atKey_put_other (CK_ne e), h m]
    simp only [ix0, List.mem_append, List.mem_singleton, e, or_false]
    by_cases hm : m ∈ vs
    · simp [hm, List.idxOf_append]
    · simp [hm]
theorem ix0_range (vs : List Int) (n : Int) : 0 ≤ ix0 vs n ∧ ix0 vs n ≤ vs.length := by
  unfold ix0
  split
  · rename_i h
    have := List.idxOf_lt_length_of_mem h
    omega
  · omega
/-- the renamed term -/
def rn (t : Tm) : Tm := sub (fun n => var (ix0 (vars t) n)) t
def renR (t : Tm) : Tm := if good t = true then rn t else zero
/-- a slice of numbers: what stands at place k -/
theorem ints_look {w : World} {B n : Nat} {l : List Int} {a : Option Addr} {c : Nat} (h : w.ownsRow B 2 1 (.slice a n c) n (l.map (Value.int .i64))) {k : Nat} (hk : k < l.length) :
    ∃ g, w.cell? ⟨g, k, none⟩ = some (.int .i64 l[k]) ∧ B ≤ g ∧ g < w.heap.size ∧ a = some ⟨g, 0, none⟩ ∧ ∀ w', (Instr.indexAt 62 (.slice a n c) (.int .i64 (k : Int))).run Try.prog w' = .ok (.pointer (some ⟨g, k, none⟩)) w' := by
  have hl := h.1
  simp only [List.length_map, Nat.mul_one] at hl
  rcases h.2 with ⟨_, h0⟩ | ⟨g, cap, cur, hv, hg, hgc, h1, h2, h3, h4⟩
  · omega
  · have hlt := (Array.getElem?_eq_some_iff.1 hgc).1
    simp only [Value.slice.injEq, true_and] at hv
    obtain ⟨rfl, rfl⟩ := hv
    refine ⟨g, ?_, hg, hlt, rfl, fun w' => ?_⟩
    · have e : (cur.toList.take (n * 1))[k]? = (l.map (Value.int .i64))[k]? := by rw [h4]
      rw [List.getElem?_take, if_pos (by omega)] at e
      simp [hk] at e
      simp [World.cell?, hgc, e]
    · have he : Try.prog.elem 62 = 2 := by kernel_rfl
      have hz : (sizeOf 2).run Try.prog w' = .ok 1 w' := by kernel_rfl
      rw [run_indexAt_slice w' 62 _ _ _ _ _ (by rw [he]; exact Try.underlying62), if_pos ⟨by omega, by omega⟩, he, hz]
      simp only [Result.andThen, Addr.add, Int.toNat_natCast, Nat.mul_one, Nat.zero_add]
      by_cases hk0 : k = 0
      · subst hk0; rfl
      · rw [if_neg hk0]
theorem two_past {w1 : World} {b j : Nat} {v : Value} (h : w1.cell? ⟨b, j, none⟩ = some v) (o1 o2 : Obj) : ((w1.alloc o1).alloc o2).cell? ⟨b, j, none⟩ = some v := by
  have hl := cell_lt h
  exact ((ba (w1.alloc o1) o2).cell (p := ⟨b, j, none⟩) (by rw [alloc_size]; exact Nat.lt_succ_of_lt hl)).trans (((ba w1 o1).cell (p := ⟨b, j, none⟩) hl).trans h)
def Rel (w2 : World) (mb : Nat) (vs : List Int) (g : Nat) (s14 : Value) (wr : World) : Prop :=
  ∃ (k : Nat) (D : DataW Unit), k ≤ vs.length ∧ g = vs.length - k ∧ s14 = .int .i64 k ∧ wr.ownsMap Try.prog 2 (plainElem (H := Unit) Try.prog 3) mb k D ∧ Idx0 D (vs.take k) ∧ Keep (fun k => k = mb) w2 wr
theorem take_next {vs : List Int} {k : Nat} (hk : k < vs.length) : vs.take (k + 1) = vs.take k ++ [vs[k]] := by
  rw [List.take_succ_eq_append_getElem hk]
theorem not_before {vs : List Int} (hn : vs.Nodup) {k : Nat} (hk : k < vs.length) : vs[k] ∉ vs.take k := by
  intro hm
  have h2 : (vs.take (k + 1)).Nodup := (List.take_sublist (k + 1) vs).nodup hn
  rw [take_next hk, List.nodup_append] at h2
  exact h2.2.2 _ hm _ (by simp) rfl
end Go.Proofs.Ythableojkjhicaa.ren
namespace Go.Proofs.Ythableojkjhicaa.awk
set_option linter.unusedVariables false
open Go.ChangeShapes Go.WideShapes Go.ChangeAt Go.RowKit
open Go.Proofs.Ythableojkjhicaa.tm Go.Proofs.Ythableojkjhicaa.lie Go.Proofs.Ythableojkjhicaa.kp Go.Proofs.Ythableojkjhicaa.wlk Go.Proofs.Ythableojkjhicaa.cur Go.Proofs.Ythableojkjhicaa.rws Go.Proofs.Ythableojkjhicaa.pln Go.Proofs.Ythableojkjhicaa.mes Go.Proofs.Ythableojkjhicaa.vrs Go.Proofs.Ythableojkjhicaa.pla Go.Proofs.Ythableojkjhicaa.ren
theorem rVar_any (n : Int) (w : World) :
    Calls Try.prog 27 #[.int .i64 n] w fun e w' => e = .returned (.agg #[.int .i64 1, .string ⟨#[]⟩, .int .i64 n, .int .u64 0, .int .u64 0, .slice none 0 0]) ∧ Below w.heap.size w w' := by
  go_enter Try.func27, Try.ntmps27
  go_wp2_with fail
  exact bodyPost_ret (v := .agg #[.int .i64 1, .string ⟨#[]⟩, .int .i64 n, .int .u64 0, .int .u64 0, .slice none 0 0]) (by simp [results, Try.results27, go_sem]) rfl ⟨rfl, ba w _⟩
theorem rAtom_any (n : ByteArray) (w : World) :
    Calls Try.prog 42 #[.string n] w fun e w' => e = .returned (.agg #[.int .i64 2, .string n, .int .i64 0, .int .u64 0, .int .u64 0, .slice none 0 0]) ∧ Below w.heap.size w w' := by
  go_enter Try.func42, Try.ntmps42
  go_wp2_with fail
  exact bodyPost_ret (v := .agg #[.int .i64 2, .string n, .int .i64 0, .int .u64 0, .int .u64 0, .slice none 0 0]) (by simp [results, Try.results42, go_sem]) rfl ⟨rfl, ba w _⟩
theorem rComp_any (n : ByteArray) (a : Option Addr) (len c : Nat) (w : World) :
    Calls Try.prog 26 #[.string n, .slice a len c] w fun e w' => e = .returned (.agg #[.int .i64 5, .string n, .int .i64 0, .int .u64 0, .int .u64 0, .slice a len c]) ∧ Below w.heap.size w w' := by
  go_enter Try.func26, Try.ntmps26
  go_wp2_with fail
  exact bodyPost_ret (v := .agg #[.int .i64 5, .string n, .int .i64 0, .int .u64 0, .int .u64 0, .slice a len c]) (by simp [results, Try.results26, go_sem]) rfl ⟨rfl, ba w _⟩
theorem renT : renR (comp ⟨#[102]⟩ [var 7, var 3, var 7]) = comp ⟨#[102]⟩ [var 0, var 1, var 0] := by rfl
/-- a compound in memory -/
theorem comp_lies {X : Nat → Prop} {w : World} {n : ByteArray} {l : List Tm} {a : Option Addr} {c : Nat} (hn : n.size ≤ 9223372036854775807) (hl : l.length ≤ c) (hc : c ≤ maxLen) (hr : TRow X w l a 0) :
    Lies X w (comp n l) (.agg #[.int .i64 5, .string n, .int .i64 0, .int .u64 0, .int .u64 0, .slice a l.length c]) := by
  rw [comp, Lies]
  exact ⟨a, c, rfl, ⟨by omega, by omega, hn, by omega, by omega, by omega, by omega, by omega, by omega, hl, by unfold maxLen at hc; exact hc⟩, hr⟩
theorem atom_lies (X : Nat → Prop) (n : ByteArray) (w : World) (hn : n.size ≤ 9223372036854775807) : Lies X w (atom n) (.agg #[.int .i64 2, .string n, .int .i64 0, .int .u64 0, .int .u64 0, .slice none 0 0]) := by
  rw [atom, Lies]
  exact ⟨none, 0, rfl, ⟨by omega, by omega, hn, by omega, by omega, by omega, by omega, by omega, by omega, by simp, by simp⟩, by rw [TRow]; trivial⟩
/-- terms side by side in a new block -/
theorem row_new (w : World) (cs : Array Value) (l : List Tm) (h : ∀ (m : Nat) (hm : m < l.length), ∃ v0 v1 v2 v3 v4 v5, cs[m * 6]? = some v0 ∧ cs[m * 6 + 1]? = some v1 ∧ cs[m * 6 + 2]? = some v2 ∧ cs[m * 6 + 3]? = some v3 ∧ cs[m * 6 + 4]? = some v4 ∧ cs[m * 6 + 5]? = some v5 ∧
    Lies No w l[m] (.agg #[v0, v1, v2, v3, v4, v5])) : TRow No (w.alloc (.cells cs 36)) l (some ⟨w.heap.size, 0, none⟩) 0 := by
  refine TRow.mk l 0 fun m hm => ?_
  obtain ⟨v0, v1, v2, v3, v4, v5, h0, h1, h2, h3, h4, h5, ht⟩ := h m hm
  have e := fun j x (hj : cs[j]? = some x) => alloc_cell w (.cells cs 36) cs 36 x j rfl hj
  refine ⟨w.heap.size, 0, v0, v1, v2, v3, v4, v5, rfl, id, ?_, ht.below (ba w _)⟩
  simp only [Nat.zero_add]
  exact ⟨e _ _ h0, e _ _ h1, e _ _ h2, e _ _ h3, e _ _ h4, e _ _ h5⟩
end Go.Proofs.Ythableojkjhicaa.awk
