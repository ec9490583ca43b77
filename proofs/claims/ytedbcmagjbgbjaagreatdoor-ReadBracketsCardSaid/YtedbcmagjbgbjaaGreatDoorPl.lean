/- Package term: Plain; what a function that tells a term gives. Package term: Rename. The laws' own: awake; the reference's Var, Atom, Comp. -/
import Derived.Test.YtedbcmagjbgbjaaGreatDoorRbV
import Derived.Test.YtedbcmagjbgbjaaGreatDoorVars
import Derived.Test.YtedbcmagjbgbjaaGreatDoorRbR
import Derived.Deep.LoopGhost
namespace Go.Proofs.YtedbcmagjbgbjaaGreatDoor.pla
set_option linter.unusedVariables false
open Go.ChangeShapes Go.WideShapes Go.ChangeAt Go.RowKit
open Go.Proofs.YtedbcmagjbgbjaaGreatDoor.tm Go.Proofs.YtedbcmagjbgbjaaGreatDoor.lie Go.Proofs.YtedbcmagjbgbjaaGreatDoor.kp Go.Proofs.YtedbcmagjbgbjaaGreatDoor.wlk Go.Proofs.YtedbcmagjbgbjaaGreatDoor.cur Go.Proofs.YtedbcmagjbgbjaaGreatDoor.rws Go.Proofs.YtedbcmagjbgbjaaGreatDoor.pln Go.Proofs.YtedbcmagjbgbjaaGreatDoor.mes Go.Proofs.YtedbcmagjbgbjaaGreatDoor.vrs
/-- the answer is this term; it lies off Z -/
def Gives (Z : Nat → Prop) (q : Tm) (w : World) (e : Ending) (w' : World) : Prop := ∃ k nn i re im a len c, e = .returned (.agg #[.int .i64 k, .string nn, .int .i64 i, .int .u64 re, .int .u64 im, .slice a len c]) ∧ Below w.heap.size w w' ∧
  Lies Z w' q (.agg #[.int .i64 k, .string nn, .int .i64 i, .int .u64 re, .int .u64 im, .slice a len c])
/-- all that is old -/
abbrev Old (w : World) : Nat → Prop := fun k => k < w.heap.size
theorem res_fin {w : World} {rv : Nat} (hz : w.heap[rv]? = some ZT) (v0 v1 v2 v3 v4 v5 : Value) : ∃ W,
    ((((((w.setCell ⟨rv, 0, none⟩ v0).setCell ⟨rv, 1, none⟩ v1).setCell ⟨rv, 2, none⟩ v2).setCell ⟨rv, 3, none⟩ v3).setCell ⟨rv, 4, none⟩ v4).setCell ⟨rv, 5, none⟩ v5) = W ∧
    W.cell? ⟨rv, 0, none⟩ = some v0 ∧ W.cell? ⟨rv, 1, none⟩ = some v1 ∧ W.cell? ⟨rv, 2, none⟩ = some v2 ∧ W.cell? ⟨rv, 3, none⟩ = some v3 ∧ W.cell? ⟨rv, 4, none⟩ = some v4 ∧ W.cell? ⟨rv, 5, none⟩ = some v5 ∧ Keep (fun k => k = rv) w W := by
  obtain ⟨e0, e1, e2, e3, e4, e5⟩ := six_set (v0 := v0) (v1 := v1) (v2 := v2) (v3 := v3) (v4 := v4) (v5 := v5) hz
  exact ⟨_, rfl, e0, e1, e2, e3, e4, e5, keep_set6 w rv v0 v1 v2 v3 v4 v5⟩
/-- two blocks have been made: the box of an argument, the answer's place -/
theorem two_at {w w1 : World} {o : Obj} (h : Below ((w.alloc o).alloc ZT).heap.size ((w.alloc o).alloc ZT) w1) : w1.heap[w.heap.size]? = some o ∧ w1.heap[w.heap.size + 1]? = some ZT ∧ w.heap.size + 1 < w1.heap.size ∧ Below w.heap.size w w1 := by
  have hs := h.size
  simp only [alloc_size] at hs
  have h2 := alloc_at (w.alloc o) ZT
  rw [alloc_size] at h2
  refine ⟨(h.block _ (by simp only [alloc_size]; omega)).trans (((ba (w.alloc o) ZT).block _ (by rw [alloc_size]; omega)).trans (alloc_at w o)), (h.block _ (by simp only [alloc_size]; omega)).trans h2, by omega, bt (bt (ba w o) (ba _ ZT)) h⟩
theorem occ_bound {X : Nat → Prop} {w : World} : ∀ (t : Tm) (v : Value), Lies X w t v → ∀ n ∈ occ t, -9223372036854775808 ≤ n ∧ n ≤ 9223372036854775807 := by
  intro t
  induction t using Tm.ind with
  | h k n i re im l ih =>
    intro v h m hm
    rw [Lies] at h
    obtain ⟨a, c, _, hf, hr⟩ := h
    simp only [occ] at hm
    by_cases h1 : k = 1
    · rw [if_pos h1, List.mem_singleton] at hm
      subst hm
      exact ⟨hf.i0, hf.i1⟩
    · rw [if_neg h1] at hm
      by_cases h5 : k = 5
      · rw [if_pos h5, occL_flat, List.mem_flatMap] at hm
        obtain ⟨x, hx, hm⟩ := hm
        obtain ⟨j, hj, rfl⟩ := List.getElem_of_mem hx
        obtain ⟨b, o, v0, v1, v2, v3, v4, v5, _, _, _, hl⟩ := hr.at j hj
        exact ih _ hx _ hl m hm
      · rw [if_neg h5] at hm; simp at hm
theorem var_lies (X : Nat → Prop) (n : Int) (w : World) (h0 : -9223372036854775808 ≤ n) (h1 : n ≤ 9223372036854775807) : Lies X w (var n) (.agg #[.int .i64 1, .string ⟨#[]⟩, .int .i64 n, .int .u64 0, .int .u64 0, .slice none 0 0]) := by
  rw [var, Lies]
  exact ⟨none, 0, rfl, ⟨by omega, by omega, show (0 : Nat) ≤ 9223372036854775807 by omega, h0, h1, by omega, by omega, by omega, by omega, by simp, by simp⟩, by rw [TRow]; trivial⟩
theorem zero_lies (X : Nat → Prop) (w : World) : Lies X w zero ZV := by
  rw [zero, Lies]
  exact ⟨none, 0, rfl, ⟨by omega, by omega, show (0 : Nat) ≤ 9223372036854775807 by omega, by omega, by omega, by omega, by omega, by omega, by omega, by simp, by simp⟩, by rw [TRow]; trivial⟩
/-- Plain's answer -/
def plainR (t : Tm) : Tm := if good t = true then plain t else zero
end Go.Proofs.YtedbcmagjbgbjaaGreatDoor.pla
namespace Go.Proofs.YtedbcmagjbgbjaaGreatDoor.ren
set_option linter.unusedVariables false
open Go.ChangeShapes Go.WideShapes Go.ChangeAt Go.RowKit Go.Maps
open Go.Proofs.YtedbcmagjbgbjaaGreatDoor.tm Go.Proofs.YtedbcmagjbgbjaaGreatDoor.lie Go.Proofs.YtedbcmagjbgbjaaGreatDoor.kp Go.Proofs.YtedbcmagjbgbjaaGreatDoor.wlk Go.Proofs.YtedbcmagjbgbjaaGreatDoor.cur Go.Proofs.YtedbcmagjbgbjaaGreatDoor.rws Go.Proofs.YtedbcmagjbgbjaaGreatDoor.pln Go.Proofs.YtedbcmagjbgbjaaGreatDoor.mes Go.Proofs.YtedbcmagjbgbjaaGreatDoor.vrs Go.Proofs.YtedbcmagjbgbjaaGreatDoor.pla
def ix0 (vs : List Int) (n : Int) : Int := if n ∈ vs then (vs.idxOf n : Int) else 0
def Idx0 (D : DataW Unit) (vs : List Int) : Prop := ∀ n : Int, D.atKey (CK n) Z = .lit (.int .i64 (ix0 vs n))
theorem Idx0_nil : Idx0 (.map []) [] := fun n => by simp [DataW.atKey, ix0]
theorem Idx0_put {D : DataW Unit} {vs : List Int} {n : Int} (h : Idx0 D vs) (hD : IsMap D) (hn : n ∉ vs) : Idx0 (D.put (CK n) (.lit (.int .i64 (vs.length : Int)))) (vs ++ [n]) := by
  intro m
  by_cases e : m = n
  · subst e
    rw [atKey_put_same hD (by simp [WideAt.IsKeyLit])]
    simp [ix0, List.idxOf_append, hn]
  · rw [atKey_put_other (CK_ne e), h m]
    simp only [ix0, List.mem_append, List.mem_singleton, e, or_false]
    by_cases hm : m ∈ vs
    · simp [hm, List.idxOf_append]
    · simp [hm]
theorem ix0_range (vs : List Int) (n : Int) : 0 ≤ ix0 vs n ∧ ix0 vs n ≤ vs.length := by
  unfold ix0
  split
  · rename_i h
    have := List.idxOf_lt_length_of_mem h
    omega
  · omega
/-- the renamed term -/
def rn (t : Tm) : Tm := sub (fun n => var (ix0 (vars t) n)) t
def renR (t : Tm) : Tm := if good t = true then rn t else zero
/-- a slice of numbers: what stands at place k -/
theorem ints_look {w : World} {B n : Nat} {l : List Int} {a : Option Addr} {c : Nat} (h : w.ownsRow B 2 1 (.slice a n c) n (l.map (Value.int .i64))) {k : Nat} (hk : k < l.length) :
    ∃ g, w.cell? ⟨g, k, none⟩ = some (.int .i64 l[k]) ∧ B ≤ g ∧ g < w.heap.size ∧ a = some ⟨g, 0, none⟩ ∧ ∀ w', (Instr.indexAt 55 (.slice a n c) (.int .i64 (k : Int))).run Tryz.prog w' = .ok (.pointer (some ⟨g, k, none⟩)) w' := by
  have hl := h.1
  simp only [List.length_map, Nat.mul_one] at hl
  rcases h.2 with ⟨_, h0⟩ | ⟨g, cap, cur, hv, hg, hgc, h1, h2, h3, h4⟩
  · omega
  · have hlt := (Array.getElem?_eq_some_iff.1 hgc).1
    simp only [Value.slice.injEq, true_and] at hv
    obtain ⟨rfl, rfl⟩ := hv
    refine ⟨g, ?_, hg, hlt, rfl, fun w' => ?_⟩
    · have e : (cur.toList.take (n * 1))[k]? = (l.map (Value.int .i64))[k]? := by rw [h4]
      rw [List.getElem?_take, if_pos (by omega)] at e
      simp [hk] at e
      simp [World.cell?, hgc, e]
    · have he : Tryz.prog.elem 55 = 2 := by kernel_rfl
      have hz : (sizeOf 2).run Tryz.prog w' = .ok 1 w' := by kernel_rfl
      rw [run_indexAt_slice w' 55 _ _ _ _ _ (by rw [he]; exact Tryz.underlying55), if_pos ⟨by omega, by omega⟩, he, hz]
      simp only [Result.andThen, Addr.add, Int.toNat_natCast, Nat.mul_one, Nat.zero_add]
      by_cases hk0 : k = 0
      · subst hk0; rfl
      · rw [if_neg hk0]
theorem two_past {w1 : World} {b j : Nat} {v : Value} (h : w1.cell? ⟨b, j, none⟩ = some v) (o1 o2 : Obj) : ((w1.alloc o1).alloc o2).cell? ⟨b, j, none⟩ = some v := by
  have hl := cell_lt h
  exact ((ba (w1.alloc o1) o2).cell (p := ⟨b, j, none⟩) (by rw [alloc_size]; exact Nat.lt_succ_of_lt hl)).trans (((ba w1 o1).cell (p := ⟨b, j, none⟩) hl).trans h)
def Rel (w2 : World) (mb : Nat) (vs : List Int) (g : Nat) (s14 : Value) (wr : World) : Prop :=
  ∃ (k : Nat) (D : DataW Unit), k ≤ vs.length ∧ g = vs.length - k ∧ s14 = .int .i64 k ∧ wr.ownsMap Tryz.prog 2 (plainElem (H := Unit) Tryz.prog 3) mb k D ∧ Idx0 D (vs.take k) ∧ Keep (fun k => k = mb) w2 wr
theorem take_next {vs : List Int} {k : Nat} (hk : k < vs.length) : vs.take (k + 1) = vs.take k ++ [vs[k]] := by
  rw [List.take_succ_eq_append_getElem hk]
theorem not_before {vs : List Int} (hn : vs.Nodup) {k : Nat} (hk : k < vs.length) : vs[k] ∉ vs.take k := by
  intro hm
  have h2 : (vs.take (k + 1)).Nodup := (List.take_sublist (k + 1) vs).nodup hn
  rw [take_next hk, List.nodup_append] at h2
  exact h2.2.2 _ hm _ (by simp) rfl
end Go.Proofs.YtedbcmagjbgbjaaGreatDoor.ren
namespace Go.Proofs.YtedbcmagjbgbjaaGreatDoor.awk
set_option linter.unusedVariables false
open Go.ChangeShapes Go.WideShapes Go.ChangeAt Go.RowKit
open Go.Proofs.YtedbcmagjbgbjaaGreatDoor.tm Go.Proofs.YtedbcmagjbgbjaaGreatDoor.lie Go.Proofs.YtedbcmagjbgbjaaGreatDoor.kp Go.Proofs.YtedbcmagjbgbjaaGreatDoor.wlk Go.Proofs.YtedbcmagjbgbjaaGreatDoor.cur Go.Proofs.YtedbcmagjbgbjaaGreatDoor.rws Go.Proofs.YtedbcmagjbgbjaaGreatDoor.pln Go.Proofs.YtedbcmagjbgbjaaGreatDoor.mes Go.Proofs.YtedbcmagjbgbjaaGreatDoor.vrs Go.Proofs.YtedbcmagjbgbjaaGreatDoor.pla Go.Proofs.YtedbcmagjbgbjaaGreatDoor.ren
theorem rVar_any (n : Int) (w : World) :
    Calls Tryz.prog 41 #[.int .i64 n] w fun e w' => e = .returned (.agg #[.int .i64 1, .string ⟨#[]⟩, .int .i64 n, .int .u64 0, .int .u64 0, .slice none 0 0]) ∧ Below w.heap.size w w' := by
  go_enter Tryz.func41, Tryz.ntmps41
  go_wp2_with fail
  exact bodyPost_ret (v := .agg #[.int .i64 1, .string ⟨#[]⟩, .int .i64 n, .int .u64 0, .int .u64 0, .slice none 0 0]) (by simp [results, Tryz.results41, go_sem]) rfl ⟨rfl, ba w _⟩
theorem rAtom_any (n : ByteArray) (w : World) :
    Calls Tryz.prog 21 #[.string n] w fun e w' => e = .returned (.agg #[.int .i64 2, .string n, .int .i64 0, .int .u64 0, .int .u64 0, .slice none 0 0]) ∧ Below w.heap.size w w' := by
  go_enter Tryz.func21, Tryz.ntmps21
  go_wp2_with fail
  exact bodyPost_ret (v := .agg #[.int .i64 2, .string n, .int .i64 0, .int .u64 0, .int .u64 0, .slice none 0 0]) (by simp [results, Tryz.results21, go_sem]) rfl ⟨rfl, ba w _⟩
theorem rComp_any (n : ByteArray) (a : Option Addr) (len c : Nat) (w : World) :
    Calls Tryz.prog 22 #[.string n, .slice a len c] w fun e w' => e = .returned (.agg #[.int .i64 5, .string n, .int .i64 0, .int .u64 0, .int .u64 0, .slice a len c]) ∧ Below w.heap.size w w' := by
  go_enter Tryz.func22, Tryz.ntmps22
  go_wp2_with fail
  exact bodyPost_ret (v := .agg #[.int .i64 5, .string n, .int .i64 0, .int .u64 0, .int .u64 0, .slice a len c]) (by simp [results, Tryz.results22, go_sem]) rfl ⟨rfl, ba w _⟩
theorem renT : renR (comp ⟨#[102]⟩ [var 7, var 3, var 7]) = comp ⟨#[102]⟩ [var 0, var 1, var 0] := by rfl
/-- a compound in memory -/
theorem comp_lies {X : Nat → Prop} {w : World} {n : ByteArray} {l : List Tm} {a : Option Addr} {c : Nat} (hn : n.size ≤ 9223372036854775807) (hl : l.length ≤ c) (hc : c ≤ maxLen) (hr : TRow X w l a 0) :
    Lies X w (comp n l) (.agg #[.int .i64 5, .string n, .int .i64 0, .int .u64 0, .int .u64 0, .slice a l.length c]) := by
  rw [comp, Lies]
  exact ⟨a, c, rfl, ⟨by omega, by omega, hn, by omega, by omega, by omega, by omega, by omega, by omega, hl, by unfold maxLen at hc; exact hc⟩, hr⟩
theorem atom_lies (X : Nat → Prop) (n : ByteArray) (w : World) (hn : n.size ≤ 9223372036854775807) : Lies X w (atom n) (.agg #[.int .i64 2, .string n, .int .i64 0, .int .u64 0, .int .u64 0, .slice none 0 0]) := by
  rw [atom, Lies]
  exact ⟨none, 0, rfl, ⟨by omega, by omega, hn, by omega, by omega, by omega, by omega, by omega, by omega, by simp, by simp⟩, by rw [TRow]; trivial⟩
/-- terms side by side in a new block -/
theorem row_new (w : World) (cs : Array Value) (l : List Tm) (h : ∀ (m : Nat) (hm : m < l.length), ∃ v0 v1 v2 v3 v4 v5, cs[m * 6]? = some v0 ∧ cs[m * 6 + 1]? = some v1 ∧ cs[m * 6 + 2]? = some v2 ∧ cs[m * 6 + 3]? = some v3 ∧ cs[m * 6 + 4]? = some v4 ∧ cs[m * 6 + 5]? = some v5 ∧
    Lies No w l[m] (.agg #[v0, v1, v2, v3, v4, v5])) : TRow No (w.alloc (.cells cs 27)) l (some ⟨w.heap.size, 0, none⟩) 0 := by
  refine TRow.mk l 0 fun m hm => ?_
  obtain ⟨v0, v1, v2, v3, v4, v5, h0, h1, h2, h3, h4, h5, ht⟩ := h m hm
  have e := fun j x (hj : cs[j]? = some x) => alloc_cell w (.cells cs 27) cs 27 x j rfl hj
  refine ⟨w.heap.size, 0, v0, v1, v2, v3, v4, v5, rfl, id, ?_, ht.below (ba w _)⟩
  simp only [Nat.zero_add]
  exact ⟨e _ _ h0, e _ _ h1, e _ _ h2, e _ _ h3, e _ _ h4, e _ _ h5⟩
end Go.Proofs.YtedbcmagjbgbjaaGreatDoor.awk
