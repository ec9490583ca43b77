/- The way through a term, told by its rows (for what is laid level by level). -/
import Derived.Test.YtibepkljcofpdaaLay
namespace Go.Proofs.Ytibepkljcofpdaa.rws
set_option linter.unusedVariables false
open Go.ChangeShapes Go.WideShapes Go.ChangeAt Go.RowKit
open Go.Proofs.Ytibepkljcofpdaa.tm Go.Proofs.Ytibepkljcofpdaa.lie Go.Proofs.Ytibepkljcofpdaa.kp Go.Proofs.Ytibepkljcofpdaa.wlk Go.Proofs.Ytibepkljcofpdaa.cur Go.Proofs.Ytibepkljcofpdaa.lev Go.Proofs.Ytibepkljcofpdaa.lay Go.Proofs.Ytibepkljcofpdaa.pln
theorem flat_step {R0 E : List (List Tm)} {t : Tm} {row : List Tm} (hE : ∀ x ∈ E, x = []) : flat (R0 ++ (t :: row) :: E) = (t, R0.length + 1) :: flat (R0 ++ [row] ++ kids t) := by
  have h : (R0 ++ (t :: row) :: E).reverse = E.reverse ++ (t :: row) :: R0.reverse := by simp
  rw [flat, h, flatR_empty (fun x hx => hE x (by simpa using hx)), flatR_kids]
  simp [flat]
theorem flat_none {R : List (List Tm)} (h : ∀ x ∈ R, x = []) : flat R = [] := by
  have := flatR_empty (S := R.reverse) (fun x hx => h x (by simpa using hx)) []
  simpa [flat, flatR] using this
def AfterR (B r : Nat) (R : List (List Tm)) (p : Nat) (F : Nat → Prop) (w : World) (k0 : Int) (n0 : ByteArray) (i0 re0 im0 : Int) (a0 : Option Addr) (l0 c0 : Nat) (d : Int) (b : Bool) (w' : World) : Prop :=
  Keep F w w' ∧ (((∀ x ∈ R, x = []) ∧ b = false) ∨ ∃ R0 E t row F', R = R0 ++ (t :: row) :: E ∧ (∀ x ∈ E, x = []) ∧ d = (R0.length + 1 : Nat) ∧ b = true ∧ Lies (Off B r) w' t (.agg #[.int .i64 k0, .string n0, .int .i64 i0, .int .u64 re0, .int .u64 im0, .slice a0 l0 c0]) ∧
    TWay B r w' p F' (R0 ++ [row] ++ kids t) ∧ ∀ i, F' i → F i ∨ w.heap.size ≤ i)
def NextR (B r : Nat) (R : List (List Tm)) (p : Nat) (F : Nat → Prop) (w : World) (e : Ending) (w' : World) : Prop :=
  ∃ k0 n0 i0 re0 im0 a0 l0 c0 d b, e = .returned (.tuple #[.agg #[.int .i64 k0, .string n0, .int .i64 i0, .int .u64 re0, .int .u64 im0, .slice a0 l0 c0], .int .i64 d, .bool b]) ∧ AfterR B r R p F w k0 n0 i0 re0 im0 a0 l0 c0 d b w'
theorem next_rows (B r : Nat) (w : World) (p : Nat) (F : Nat → Prop) (R : List (List Tm)) (h : TWay B r w p F R) (h9 : R.length ≤ 1000) (hr : r < w.heap.size) :
    Calls Try.prog 79 #[.pointer (some ⟨p, 0, none⟩)] w (NextR B r R p F w) := by
  rcases flat_cases R with ⟨h0, hR⟩ | ⟨R0, E, t, row, rfl, hE, hL⟩
  · refine (next_none B r w p F R h hR h9).mono fun e w' ⟨he, hk⟩ => ?_
    exact ⟨_, _, _, _, _, _, _, _, _, _, he, hk, Or.inl ⟨hR, rfl⟩⟩
  · have hl : (R0 ++ (t :: row) :: E).length = R0.length + 1 + E.length := by simp; omega
    refine (next_some B r w p F R0 E t row h hE (by omega) hr).mono fun e w' ⟨v, he, hv, F', hw, hk, hF⟩ => ?_
    have hv' := hv
    obtain ⟨k, n, i, re, im, l⟩ := t
    rw [Lies] at hv'
    obtain ⟨a, c, rfl, _⟩ := hv'
    exact ⟨_, _, _, _, _, _, _, _, _, _, he, hk, Or.inr ⟨_, _, _, _, F', rfl, hE, rfl, rfl, hv, hw, hF⟩⟩
/-- what six cells of a term look like -/
theorem lies_form {X : Nat → Prop} {w : World} {t : Tm} {v0 v1 v2 v3 v4 v5 : Value} (h : Lies X w t (.agg #[v0, v1, v2, v3, v4, v5])) :
    ∃ k n i re im l a c, (v0 = .int .i64 k ∧ v1 = .string n ∧ v2 = .int .i64 i ∧ v3 = .int .u64 re ∧ v4 = .int .u64 im ∧ v5 = .slice a l c) ∧ True := by
  obtain ⟨k', n', i', re', im', l⟩ := t
  rw [Lies] at h
  obtain ⟨a', c', hv, hf, hr⟩ := h
  simp only [Value.agg.injEq, Array.mk.injEq, List.cons.injEq, and_true] at hv
  exact ⟨k', n', i', re', im', l.length, a', c', hv, trivial⟩
/-- a term's value tells its parts -/
theorem lies_parts {X : Nat → Prop} {w : World} {t : Tm} {k : Int} {n : ByteArray} {i re im : Int} {a : Option Addr} {len c : Nat} (h : Lies X w t (.agg #[.int .i64 k, .string n, .int .i64 i, .int .u64 re, .int .u64 im, .slice a len c])) :
    ∃ l, t = .mk k n i re im l ∧ l.length = len ∧ Fit k n i re im len c ∧ TRow X w l a 0 := by
  obtain ⟨k', n', i', re', im', l⟩ := t
  rw [Lies] at h
  obtain ⟨a', c', hv, hf, hr⟩ := h
  simp only [Value.agg.injEq, Array.mk.injEq, List.cons.injEq, Value.int.injEq, Value.string.injEq, Value.slice.injEq, and_true, true_and] at hv
  obtain ⟨rfl, rfl, rfl, rfl, rfl, rfl, rfl, rfl⟩ := hv
  exact ⟨l, rfl, rfl, hf, hr⟩
/-- THE STATE of a round: cursor, levels, open places -/
def St (B r : Nat) (Z : Nat → Prop) (s : Int → Tm) (t0 : Tm) (R : List (List Tm)) (p rv : Nat) (w : World) (nb rb og oc : Nat) (k0 : Int) (n0 : ByteArray) (i0 re0 im0 : Int) (a0 : Option Addr) (l0 c0 : Nat) (d : Int) (b : Bool) : Prop :=
  ∃ (X F : Nat → Prop) (lv : List Nat), Lay B r Z s (sub s t0) X w rb og oc R lv ∧ X nb ∧ nb ∉ lv ∧ nb ≠ og ∧ (∀ k, F k → X k ∧ k ∉ lv ∧ k ≠ og ∧ k ≠ nb) ∧ r < w.heap.size ∧ (X rv ∧ rv ∉ lv ∧ rv ≠ og ∧ rv ≠ nb ∧ ¬ F rv) ∧ w.heap[rv]? = some ZT ∧
    w.heap[nb]? = some (.cells #[.int .i64 k0, .string n0, .int .i64 i0, .int .u64 re0, .int .u64 im0, .slice a0 l0 c0] 36 (0, 0)) ∧
    (((∀ x ∈ R, x = []) ∧ b = false) ∨ ∃ R0 E t row, R = R0 ++ (t :: row) :: E ∧ (∀ x ∈ E, x = []) ∧ d = (R0.length + 1 : Nat) ∧ b = true ∧ Lies (Off B r) w t (.agg #[.int .i64 k0, .string n0, .int .i64 i0, .int .u64 re0, .int .u64 im0, .slice a0 l0 c0]) ∧
      TWay B r w p F (R0 ++ [row] ++ kids t))
/-- what holds of each node that is still to come -/
def Sane (t0 : Tm) (R : List (List Tm)) : Prop := ∀ x ∈ flat R, chk x.1 = 0 ∧ x.2 ≤ 500 ∧ (x.1.kind = 1 → x.1.int ∈ occ t0)
theorem sane_start {t : Tm} (h : good t = true) : Sane t [[t]] := by
  have hfl : flat [[t]] = pre 1 t := by simp [flat, flatR, preL]
  intro x hx
  rw [hfl] at hx
  simp only [good, Bool.and_eq_true, decide_eq_true_eq] at h
  obtain ⟨g1, g2, g3, g4⟩ := pre_facts t 1
  refine ⟨g2.2 h.2 x hx, (g4 500).2 (by omega) x hx, fun hk => ?_⟩
  rw [← g3]
  exact List.mem_filterMap.2 ⟨x, hx, by rw [if_pos hk]⟩
theorem Sane.step {t0 t : Tm} {R0 E : List (List Tm)} {row : List Tm} (h : Sane t0 (R0 ++ (t :: row) :: E)) (hE : ∀ x ∈ E, x = []) : Sane t0 (R0 ++ [row] ++ kids t) := by
  intro x hx
  exact h x (by rw [flat_step hE]; exact List.mem_cons_of_mem _ hx)
theorem Sane.here {t0 t : Tm} {R0 E : List (List Tm)} {row : List Tm} (h : Sane t0 (R0 ++ (t :: row) :: E)) (hE : ∀ x ∈ E, x = []) : chk t = 0 ∧ R0.length + 1 ≤ 500 ∧ (t.kind = 1 → t.int ∈ occ t0) :=
  h (t, R0.length + 1) (by rw [flat_step hE]; simp)
theorem chk_kind {k : Int} {n : ByteArray} {i re im : Int} {l : List Tm} (h : chk (.mk k n i re im l) = 0) : k = 1 ∨ k = 2 ∨ k = 3 ∨ k = 4 ∨ (k = 5 ∧ 0 < l.length ∧ l.length ≤ 20 ∧ n.size ≤ 200) := by
  simp only [chk] at h
  by_cases h1 : k = 1; · exact Or.inl h1
  by_cases h2 : k = 2; · exact Or.inr (Or.inl h2)
  by_cases h3 : k = 3; · exact Or.inr (Or.inr (Or.inl h3))
  by_cases h4 : k = 4; · exact Or.inr (Or.inr (Or.inr (Or.inl h4)))
  by_cases h5 : k = 5
  · refine Or.inr (Or.inr (Or.inr (Or.inr ⟨h5, ?_⟩)))
    rw [if_neg h1, if_neg h2, if_neg h3, if_neg h4, if_pos h5] at h
    by_cases g1 : l.length = 0; · rw [if_pos g1] at h; cases h
    by_cases g2 : 20 < l.length; · rw [if_neg g1, if_pos g2] at h; cases h
    by_cases g3 : 200 < n.size; · rw [if_neg g1, if_neg g2, if_pos g3] at h; cases h
    omega
  · rw [if_neg h1, if_neg h2, if_neg h3, if_neg h4, if_neg h5] at h; cases h
/-- a new root, a new stack of open places -/
theorem St.start {r p : Nat} {Z : Nat → Prop} {s : Int → Tm} {t : Tm} {w w0 w1 w2 : World} {o : Obj} {F : Nat → Prop} {k0 : Int} {n0 : ByteArray} {i0 re0 im0 : Int} {a0 : Option Addr} {l0 c0 : Nat} {d : Int} {b : Bool}
    (hZ : ∀ k, Z k → k < w.heap.size) (hw0 : w0 = (((w.alloc o).alloc ZT).alloc (.cells (MC 1) 36)).alloc (.cells #[.slice (some ⟨w.heap.size + 1 + 1, 0, none⟩) 1 1] 22)) (hb : Below w0.heap.size w0 w1) (hW : TWay w.heap.size r w1 p F [[t]]) (hF : ∀ k, F k → w0.heap.size ≤ k) (hr : w0.heap.size ≤ r) (hr1 : r < w1.heap.size)
    (hA : AfterR w.heap.size r [[t]] p F w1 k0 n0 i0 re0 im0 a0 l0 c0 d b w2) :
    St w.heap.size r Z s t [[t]] p (w.heap.size + 1) (w2.alloc (.cells #[.int .i64 k0, .string n0, .int .i64 i0, .int .u64 re0, .int .u64 im0, .slice a0 l0 c0] 36)) w2.heap.size (w.heap.size + 1 + 1) (w.heap.size + 1 + 1 + 1) 1 k0 n0 i0 re0 im0 a0 l0 c0 d b ∧
    Below w.heap.size w (w2.alloc (.cells #[.int .i64 k0, .string n0, .int .i64 i0, .int .u64 re0, .int .u64 im0, .slice a0 l0 c0] 36)) := by
  obtain ⟨hk, hA⟩ := hA
  have s0 : w0.heap.size = w.heap.size + 4 := by rw [hw0]; simp only [alloc_size]
  have s1 := hb.size
  have s2 := hk.size
  have hold : ∀ q, q < w0.heap.size → (w2.alloc (.cells #[.int .i64 k0, .string n0, .int .i64 i0, .int .u64 re0, .int .u64 im0, .slice a0 l0 c0] 36)).heap[q]? = w0.heap[q]? := fun q hq => by
    rw [(ba w2 _).block q (by omega), hk.block q (by omega) (fun h => by have := hF q h; omega), hb.block q hq]
  have at0 : w0.heap[w.heap.size + 1]? = some ZT := by
    have hh := fun (w : World) (o : Obj) (n : Nat) (h : n = w.heap.size) => (h ▸ alloc_at w o : (w.alloc o).heap[n]? = some o)
    rw [hw0, (ba _ _).block _ (by simp only [alloc_size]; omega), (ba _ _).block _ (by simp only [alloc_size]; omega)]
    exact hh _ _ _ (by rw [alloc_size])
  have at1 : w0.heap[w.heap.size + 1 + 1]? = some (.cells (MC 1) 36 (0, 0)) := by
    have hh := fun (w : World) (o : Obj) (n : Nat) (h : n = w.heap.size) => (h ▸ alloc_at w o : (w.alloc o).heap[n]? = some o)
    rw [hw0, (ba _ _).block _ (by simp only [alloc_size]; omega)]
    exact hh _ _ _ (by simp only [alloc_size])
  have at2 : w0.heap[w.heap.size + 1 + 1 + 1]? = some (.cells #[.slice (some ⟨w.heap.size + 1 + 1, 0, none⟩) 1 1] 22 (0, 0)) := by
    have hh := fun (w : World) (o : Obj) (n : Nat) (h : n = w.heap.size) => (h ▸ alloc_at w o : (w.alloc o).heap[n]? = some o)
    rw [hw0]
    exact hh _ _ _ (by simp only [alloc_size])
  have hb0 : Below w.heap.size w w0 := by rw [hw0]; exact bt (bt (bt (ba w _) (ba _ _)) (ba _ _)) (ba _ _)
  have hbB := (hb0.trans (hb.mono (by omega))).trans ((hk.to_below (fun i h => by have := hF i h; omega) (by omega) : Below w.heap.size w1 w2))
  refine ⟨?_, hbB.trans ((ba w2 _).mono (by omega))⟩
  have key : ∀ (F' : Nat → Prop), (∀ k, F' k → w0.heap.size ≤ k ∧ k ≠ r ∧ k < w2.heap.size) → (((∀ x ∈ [[t]], x = []) ∧ b = false) ∨ ∃ R0 E t' row, [[t]] = R0 ++ (t' :: row) :: E ∧ (∀ x ∈ E, x = []) ∧ d = (R0.length + 1 : Nat) ∧ b = true ∧
      Lies (Off w.heap.size r) (w2.alloc (.cells #[.int .i64 k0, .string n0, .int .i64 i0, .int .u64 re0, .int .u64 im0, .slice a0 l0 c0] 36)) t' (.agg #[.int .i64 k0, .string n0, .int .i64 i0, .int .u64 re0, .int .u64 im0, .slice a0 l0 c0]) ∧
      TWay w.heap.size r (w2.alloc (.cells #[.int .i64 k0, .string n0, .int .i64 i0, .int .u64 re0, .int .u64 im0, .slice a0 l0 c0] 36)) p F' (R0 ++ [row] ++ kids t')) →
      St w.heap.size r Z s t [[t]] p (w.heap.size + 1) (w2.alloc (.cells #[.int .i64 k0, .string n0, .int .i64 i0, .int .u64 re0, .int .u64 im0, .slice a0 l0 c0] 36)) w2.heap.size (w.heap.size + 1 + 1) (w.heap.size + 1 + 1 + 1) 1 k0 n0 i0 re0 im0 a0 l0 c0 d b := by
    intro F' hF' hd
    refine ⟨fun k => Z k ∨ (w.heap.size + 1 ≤ k ∧ k ≠ r), F', [w.heap.size + 1 + 1], ⟨w.heap.size + 1 + 1, [], [t], [], [], .slice (some ⟨w.heap.size + 1 + 1, 0, none⟩) 1 1, [], by simp, rfl, ?_⟩, Or.inr ⟨by omega, by omega⟩, by simp; omega, by omega, fun k hk => ?_, by rw [alloc_size]; omega, ⟨Or.inr ⟨by omega, by omega⟩, by simp, by omega, by omega, fun h => by have := hF' _ h; omega⟩, ?_, alloc_at _ _, hd⟩
    · refine ⟨⟨⟨Or.inr ⟨by omega, by omega⟩, trivial, MC 1, (hold _ (by omega)).trans at1, by rw [MC_size]; rfl⟩, ⟨rfl, rfl⟩, by simp⟩, ⟨some ⟨w.heap.size + 1 + 1, 0, none⟩, 1, rfl, by simp, by simp [maxLen], fun _ => rfl⟩, trivial, ?_, rfl, Or.inr ⟨by omega, by omega⟩, by simp, fun k hk => hk.imp id fun hk => ⟨by omega, hk.2⟩, fun k hk => ⟨Or.inl hk, hZ k hk⟩, fun k hk => by simp at hk; omega⟩
      refine ⟨rfl, Or.inr ⟨_, 1, _, rfl, by omega, (hold _ (by omega)).trans at2, by simp, by simp [maxLen], rfl, rfl⟩⟩
    · have h1 := hF' k hk
      refine ⟨Or.inr ⟨by omega, h1.2.1⟩, by simp; omega, by omega, by omega⟩
    · rw [hold _ (by omega)]; exact at0
  rcases hA with ⟨h1, h2⟩ | ⟨R0, E, t', row, F', hR, hE, hd, hb', hL, hW', hF'⟩
  · exact key F (fun k h => by have := hF k h; have := hW.lt k h; omega) (Or.inl ⟨h1, h2⟩)
  · refine key F' (fun k h => ?_) (Or.inr ⟨R0, E, t', row, hR, hE, hd, hb', hL.below (ba _ _), hW'.keep (G := No) (Keep.of_below (ba _ _)) (fun _ _ => id) (fun _ h => h.elim)⟩)
    have h3 := hW'.lt k h
    rcases hF' k h with h4 | h4
    · have := hF k h4; omega
    · omega
end Go.Proofs.Ytibepkljcofpdaa.rws
