/- Tokens that were told: reading them; the law's own example. -/
import Derived.Test.YtedbcmagjbgbjaaGreatDoorTkF
namespace Go.Proofs.YtedbcmagjbgbjaaGreatDoor.tk
open Go.ChangeShapes Go.WideShapes Go.ChangeAt Go.RowKit Go.Maps
open Go.Proofs.YtedbcmagjbgbjaaGreatDoor.kp Go.Proofs.YtedbcmagjbgbjaaGreatDoor.num Go.Proofs.YtedbcmagjbgbjaaGreatDoor.dec
set_option linter.unusedVariables false
theorem Toks.at_ {B : Nat} {w : World} {v : Value} {ts : List Tk} (h : Toks B w v ts) (hne : ts ≠ []) :
    ∃ g c, v = .slice (some ⟨g, 0, none⟩) ts.length c ∧ g < w.heap.size ∧ B ≤ g ∧ ∀ j, j < ts.length * 6 → w.cell? ⟨g, j, none⟩ = (cellsT ts)[j]? := by
  have h0 := h
  obtain ⟨hl, hr⟩ := h
  rcases hr with ⟨rfl, hz⟩ | ⟨g, cap, cur, rfl, hg0, hg, r⟩
  · exact absurd (List.eq_nil_of_length_eq_zero hz) hne
  · exact ⟨g, cap, rfl, (Array.getElem?_eq_some_iff.1 hg).1, hg0, fun j hj => World.ownsRow.cellAt h0 j hj⟩
theorem cellsT_at (ts : List Tk) (j i : Nat) (hi : i < 6) : (cellsT ts)[j * 6 + i]? = (ts[j]?).bind fun x => (tkc x)[i]? := by
  induction ts generalizing j with
  | nil => simp [cellsT]
  | cons x r ih =>
    cases j with
    | zero =>
      simp only [cellsT, List.flatMap_cons, Nat.zero_mul, Nat.zero_add, List.getElem?_cons_zero, Option.bind_some]
      rw [List.getElem?_append_left (by simp [tkc]; omega)]
    | succ j =>
      have := ih j
      simp only [cellsT, List.flatMap_cons, List.getElem?_cons_succ] at *
      rw [List.getElem?_append_right (by simp [tkc]; omega), ← this]
      congr 1
      simp [tkc]; omega
/-- a token's cells -/
def Tok6 (w : World) (g o : Nat) (x : Tk) : Prop :=
  w.cell? ⟨g, o, none⟩ = some (.int .i64 x.k) ∧ w.cell? ⟨g, o + 1, none⟩ = some (.string ⟨x.t.toArray⟩) ∧ w.cell? ⟨g, o + 2, none⟩ = some (.int .i64 x.n) ∧ w.cell? ⟨g, o + 3, none⟩ = some (.int .u64 (x.re : Int)) ∧
    w.cell? ⟨g, o + 4, none⟩ = some (.int .u64 (x.im : Int)) ∧ w.cell? ⟨g, o + 5, none⟩ = some (.int .i64 (x.a : Int))
/-- the k-th one -/
theorem Toks.look {B : Nat} {w : World} {v : Value} {ts : List Tk} (h : Toks B w v ts) (hne : ts ≠ []) : ∃ g c, v = .slice (some ⟨g, 0, none⟩) ts.length c ∧ g < w.heap.size ∧ B ≤ g ∧ ∀ k x, ts[k]? = some x → Tok6 w g (k * 6) x := by
  obtain ⟨g, c, hv, hg, hB, hc⟩ := h.at_ hne
  refine ⟨g, c, hv, hg, hB, fun k x hx => ?_⟩
  have hk := (List.getElem?_eq_some_iff.1 hx).1
  have key := fun i hi => (hc (k * 6 + i) (by omega)).trans (cellsT_at ts k i hi)
  rw [hx] at key
  exact ⟨key 0 (by decide), key 1 (by decide), key 2 (by decide), key 3 (by decide), key 4 (by decide), key 5 (by decide)⟩
theorem Tok6.below {w w' : World} {g o : Nat} {x : Tk} (h : Tok6 w g o x) (b : Below w.heap.size w w') (hg : g < w.heap.size) : Tok6 w' g o x := by
  have e : ∀ j, w'.cell? ⟨g, j, none⟩ = w.cell? ⟨g, j, none⟩ := fun j => by simp only [World.cell?, b.block g hg]
  unfold Tok6 at *
  simp only [e]; exact h
theorem ixT {g n c k : Nat} (hk : k < n) (w : World) : (Instr.indexAt 67 (.slice (some ⟨g, 0, none⟩) n c) (.int .i64 (k : Int))).run Tryz.prog w = .ok (.pointer (some ⟨g, k * 6, none⟩)) w := by
  have he : Tryz.prog.elem 67 = 76 := by kernel_rfl
  have hz : (sizeOf 76).run Tryz.prog w = .ok 6 w := by kernel_rfl
  rw [run_indexAt_slice w 67 _ _ _ _ _ (by rw [he]; exact Tryz.underlying67), if_pos ⟨by omega, by omega⟩, he, hz]
  simp [Result.andThen, Addr.add]
  omega
def awL : List UInt8 := [102, 40, 88, 44, 32, 39, 97, 32, 98, 39, 41, 46]
def awR : List Tk := [⟨1, [102], 0, 0, 0, 0⟩, ⟨7, [], 0, 0, 0, 1⟩, ⟨3, [88], 0, 0, 0, 2⟩, ⟨6, [44], 0, 0, 0, 3⟩, ⟨2, [97, 32, 98], 0, 0, 0, 5⟩, ⟨6, [41], 0, 0, 0, 10⟩, ⟨8, [], 0, 0, 0, 11⟩]
theorem aw_all : allT awL = (awR, 0, 0) := by decide +kernel
end Go.Proofs.YtedbcmagjbgbjaaGreatDoor.tk
