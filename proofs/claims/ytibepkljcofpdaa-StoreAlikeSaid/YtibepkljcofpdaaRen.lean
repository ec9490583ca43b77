/- Package term: Rename. -/
import Derived.Test.YtibepkljcofpdaaRbR
import Derived.Test.YtibepkljcofpdaaPl
import Derived.Deep.LoopGhost
namespace Go.Proofs.Ytibepkljcofpdaa.ren
set_option linter.unusedVariables false
open Go.ChangeShapes Go.WideShapes Go.ChangeAt Go.RowKit Go.Maps
open Go.Proofs.Ytibepkljcofpdaa.tm Go.Proofs.Ytibepkljcofpdaa.lie Go.Proofs.Ytibepkljcofpdaa.kp Go.Proofs.Ytibepkljcofpdaa.wlk Go.Proofs.Ytibepkljcofpdaa.cur Go.Proofs.Ytibepkljcofpdaa.rws Go.Proofs.Ytibepkljcofpdaa.pln Go.Proofs.Ytibepkljcofpdaa.mes Go.Proofs.Ytibepkljcofpdaa.vrs Go.Proofs.Ytibepkljcofpdaa.pla
def ix0 (vs : List Int) (n : Int) : Int := if n ∈ vs then (vs.idxOf n : Int) else 0
def Idx0 (D : DataW Unit) (vs : List Int) : Prop := ∀ n : Int, D.atKey (CK n) Z = .lit (.int .i64 (ix0 vs n))
theorem Idx0_nil : Idx0 (.map []) [] := fun n => by simp [DataW.atKey, ix0]
theorem Idx0_put {D : DataW Unit} {vs : List Int} {n : Int} (h : Idx0 D vs) (hD : IsMap D) (hn : n ∉ vs) : Idx0 (D.put (CK n) (.lit (.int .i64 (vs.length : Int)))) (vs ++ [n]) := by
  intro m
  by_cases e : m = n
  · subst e
    rw [atKey_put_same hD (by simp [WideAt.IsKeyLit])]
    simp [ix0, List.idxOf_append, hn]
  · rw [atKey_put_other (CK_ne e), h m]
    simp only [ix0, List.mem_append, List.mem_singleton, e, or_false]
    by_cases hm : m ∈ vs
    · simp [hm, List.idxOf_append]
    · simp [hm]
theorem ix0_range (vs : List Int) (n : Int) : 0 ≤ ix0 vs n ∧ ix0 vs n ≤ vs.length := by
  unfold ix0
  split
  · rename_i h
    have := List.idxOf_lt_length_of_mem h
    omega
  · omega
/-- the renamed term -/
def rn (t : Tm) : Tm := sub (fun n => var (ix0 (vars t) n)) t
def renR (t : Tm) : Tm := if good t = true then rn t else zero
/-- a slice of numbers: what stands at place k -/
theorem ints_look {w : World} {B n : Nat} {l : List Int} {a : Option Addr} {c : Nat} (h : w.ownsRow B 2 1 (.slice a n c) n (l.map (Value.int .i64))) {k : Nat} (hk : k < l.length) :
    ∃ g, w.cell? ⟨g, k, none⟩ = some (.int .i64 l[k]) ∧ B ≤ g ∧ g < w.heap.size ∧ a = some ⟨g, 0, none⟩ ∧ ∀ w', (Instr.indexAt 61 (.slice a n c) (.int .i64 (k : Int))).run Try.prog w' = .ok (.pointer (some ⟨g, k, none⟩)) w' := by
  have hl := h.1
  simp only [List.length_map, Nat.mul_one] at hl
  rcases h.2 with ⟨_, h0⟩ | ⟨g, cap, cur, hv, hg, hgc, h1, h2, h3, h4⟩
  · omega
  · have hlt := (Array.getElem?_eq_some_iff.1 hgc).1
    simp only [Value.slice.injEq, true_and] at hv
    obtain ⟨rfl, rfl⟩ := hv
    refine ⟨g, ?_, hg, hlt, rfl, fun w' => ?_⟩
    · have e : (cur.toList.take (n * 1))[k]? = (l.map (Value.int .i64))[k]? := by rw [h4]
      rw [List.getElem?_take, if_pos (by omega)] at e
      simp [hk] at e
      simp [World.cell?, hgc, e]
    · have he : Try.prog.elem 61 = 2 := by kernel_rfl
      have hz : (sizeOf 2).run Try.prog w' = .ok 1 w' := by kernel_rfl
      rw [run_indexAt_slice w' 61 _ _ _ _ _ (by rw [he]; exact Try.underlying61), if_pos ⟨by omega, by omega⟩, he, hz]
      simp only [Result.andThen, Addr.add, Int.toNat_natCast, Nat.mul_one, Nat.zero_add]
      by_cases hk0 : k = 0
      · subst hk0; rfl
      · rw [if_neg hk0]
theorem two_past {w1 : World} {b j : Nat} {v : Value} (h : w1.cell? ⟨b, j, none⟩ = some v) (o1 o2 : Obj) : ((w1.alloc o1).alloc o2).cell? ⟨b, j, none⟩ = some v := by
  have hl := cell_lt h
  exact ((ba (w1.alloc o1) o2).cell (p := ⟨b, j, none⟩) (by rw [alloc_size]; exact Nat.lt_succ_of_lt hl)).trans (((ba w1 o1).cell (p := ⟨b, j, none⟩) hl).trans h)
def Rel (w2 : World) (mb : Nat) (vs : List Int) (g : Nat) (s14 : Value) (wr : World) : Prop :=
  ∃ (k : Nat) (D : DataW Unit), k ≤ vs.length ∧ g = vs.length - k ∧ s14 = .int .i64 k ∧ wr.ownsMap Try.prog 2 (plainElem (H := Unit) Try.prog 3) mb k D ∧ Idx0 D (vs.take k) ∧ Keep (fun k => k = mb) w2 wr
theorem take_next {vs : List Int} {k : Nat} (hk : k < vs.length) : vs.take (k + 1) = vs.take k ++ [vs[k]] := by
  rw [List.take_succ_eq_append_getElem hk]
theorem not_before {vs : List Int} (hn : vs.Nodup) {k : Nat} (hk : k < vs.length) : vs[k] ∉ vs.take k := by
  intro hm
  have h2 : (vs.take (k + 1)).Nodup := (List.take_sublist (k + 1) vs).nodup hn
  rw [take_next hk, List.nodup_append] at h2
  exact h2.2.2 _ hm _ (by simp) rfl
end Go.Proofs.Ytibepkljcofpdaa.ren
