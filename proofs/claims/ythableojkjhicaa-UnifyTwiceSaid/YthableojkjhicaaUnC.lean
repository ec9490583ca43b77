/- Package unify's walk through one term (occurs): what it answers. -/
import Derived.Test.YthableojkjhicaaUnB
import Derived.Deep.CutBlock
namespace Go.Proofs.Ythableojkjhicaa.un
open Go.ChangeShapes Go.WideShapes Go.ChangeAt Go.RowKit Go.Maps
open Go.Proofs.Ythableojkjhicaa.kp Go.Proofs.Ythableojkjhicaa.cel Go.Proofs.Ythableojkjhicaa.hp Go.Proofs.Ythableojkjhicaa.ob
set_option linter.unusedVariables false
/-- n cells from q on -/
def kids (l : List Int) (q : Int) : Nat → List Int
  | 0 => []
  | n + 1 => gv l q :: kids l (q + 1) n
def occW (l : List Int) (v : Int) : Nat → Int → List Int → Bool × Int × Nat
  | 0, _, _ => (false, 3, 0)
  | k + 1, c, todo =>
    if dr l l.length c = v then (true, 0, k) else
    if (nd l (dr l l.length c)).ok = false then (false, 2, k) else
    match (if (nd l (dr l l.length c)).k = 5 then kids l (nd l (dr l l.length c)).f (nd l (dr l l.length c)).a.toNat ++ todo else todo) with
    | [] => (false, 0, k)
    | c' :: r => occW l v k c' r
def contW (l : List Int) (v : Int) (k : Nat) : List Int → Bool × Int × Nat
  | [] => (false, 0, k)
  | c' :: r => occW l v k c' r
theorem occ_succ (l : List Int) (v : Int) (k : Nat) (c : Int) (todo : List Int) : occW l v (k + 1) c todo =
    if dr l l.length c = v then (true, 0, k) else
    if (nd l (dr l l.length c)).ok = false then (false, 2, k) else
    contW l v k (if (nd l (dr l l.length c)).k = 5 then kids l (nd l (dr l l.length c)).f (nd l (dr l l.length c)).a.toNat ++ todo else todo) := by
  rw [occW]
  split
  · rfl
  split
  · rfl
  unfold contW
  rfl
/-- a compound that is there -/
theorem nd_comp {l : List Int} {c : Int} (hc : W64 c) (h5 : (nd l c).k = 5) (hok : (nd l c).ok = true) : ∃ q n : Nat, (nd l c).f = (q : Int) ∧ (nd l c).a = ((n + 1 : Nat) : Int) ∧ n < 20 ∧ q + (n + 1) ≤ l.length := by
  unfold nd at h5 hok ⊢
  obtain ⟨hc0, hc1⟩ := hc
  split at h5
  · simp at h5
  rename_i t0
  rw [if_neg t0] at hok ⊢
  split at h5
  · rename_i t1
    rw [if_pos t1] at hok ⊢
    unfold cn at h5 hok ⊢
    split at h5
    · rename_i hf
      rw [if_pos hf] at hok ⊢
      have hf := of_decide_eq_true hf
      have hg := of_decide_eq_true hok
      obtain ⟨_, _, h1, h2⟩ := hf
      refine ⟨(c / 8 + 1).toNat, (pk (gv l (c / 8)) - 1).toNat, ?_, ?_, ?_, ?_⟩
      · show c / 8 + 1 = _; omega
      · show pk (gv l (c / 8)) = _; omega
      · omega
      · omega
    · simp [n0] at h5
  rename_i t1
  rw [if_neg t1] at hok
  split at h5
  · simp at h5
  split at h5
  · simp at h5
  split at h5
  · simp at h5
  split at h5
  · simp at h5
  · simp [n0] at h5
/-- rows of arguments that are still to be gone through: the top one first -/
abbrev Rws := List (Nat × Nat)
def cellsOf : Rws → List Value
  | [] => []
  | (q, n) :: r => cellsOf r ++ [.int .i64 (q : Int), .int .i64 ((n + 1 : Nat) : Int)]
def todo (l : List Int) : Rws → List Int
  | [] => []
  | (q, n) :: r => kids l q (n + 1) ++ todo l r
def ROK (l : List Int) (R : Rws) : Prop := ∀ x ∈ R, x.1 + (x.2 + 1) ≤ l.length
theorem cellsOf_len : ∀ R : Rws, (cellsOf R).length = R.length * 2
  | [] => rfl
  | (q, n) :: r => by rw [cellsOf, List.length_append, cellsOf_len r]; simp only [List.length_cons, List.length_nil]; omega
/-! ### what stands beside a walk: A; the walker; the row -/
def XW (A : Ob) (e : TypeId) (sz b p : Nat) (k : Int) (v : Value) (n : Nat) (xs : List Value) : Ob := Tim (Tim A (Blk b (UW p k))) (Row e sz v n xs)
section
variable {A A' : Ob} {e : TypeId} {sz b p n n' : Nat} {k k' : Int} {v v' : Value} {xs xs' : List Value} {w0 w wr w' : World} {N : Nat → Prop}
theorem frXW (f : Fr A) : Fr (XW A e sz b p k v n xs) := (f.tim (Fr.blk _ _)).tim Fr.row
theorem X_walk (f : Fr A) (h : Nx (XW A e sz b p k v n xs) w0 N wr) : wr.heap[b]? = some (UW p k) ∧ ∀ k' w', Keep (fun i => i = b) wr w' → w'.heap[b]? = some (UW p k') → Nx (XW A e sz b p k' v n xs) w0 N w' := by
  obtain ⟨K, t, kk, sub⟩ := h
  obtain ⟨M, c, up⟩ := Tim.at1 Fr.row t
  obtain ⟨M2, c2, up2⟩ := Tim.at2 f c
  refine ⟨c2.1, fun k' w' hk hb => Nx.trans kk sub (up _ _ (up2 _ _ ⟨M2, ⟨hb, c2.2⟩, hk.mono fun i hi => (c2.2 i).2 hi, fun _ => Or.inl⟩))⟩
theorem X_row (f : Fr A) (h : Nx (XW A e sz b p k v n xs) w0 N wr) : ∃ M, Row e sz v n xs wr M ∧ ∀ v' n' xs' w', Nx (Row e sz v' n' xs') wr M w' → Nx (XW A e sz b p k v' n' xs') w0 N w' := by
  obtain ⟨K, t, kk, sub⟩ := h
  obtain ⟨M, c, up⟩ := Tim.at2 (f.tim (Fr.blk _ _)) t
  exact ⟨M, c, fun v' n' xs' w' nn => Nx.trans kk sub (up _ _ nn)⟩
theorem X_inner (h : Nx (XW A e sz b p k v n xs) w0 N wr) : ∃ M, A wr M ∧ ¬ M b ∧ ∀ A' w', Nx A' wr M w' → Nx (XW A' e sz b p k v n xs) w0 N w' := by
  obtain ⟨K, ⟨K1, M1, ⟨K2, M2, a, bb, d2, e2⟩, r, d, ee⟩, kk, sub⟩ := h
  have hlt := Fr.row.lt r
  have hlb : b < wr.heap.size := (Array.getElem?_eq_some_iff.1 bb.1).1
  refine ⟨K2, a, fun hb => d2 b hb ((bb.2 b).2 rfl), fun A' w' ⟨K', a', k', s'⟩ => ?_⟩
  have hbk : ∀ i, M2 i → ¬ K2 i := fun i h1 h2 => d2 i h2 h1
  have hrk : ∀ i, M1 i → ¬ K2 i := fun i h1 h2 => d i ((e2 i).2 (Or.inl h2)) h1
  refine ⟨fun i => (K' i ∨ M2 i) ∨ M1 i, ⟨fun i => K' i ∨ M2 i, M1, ⟨K', M2, a', (Fr.blk _ _).keep bb k' hbk, fun i h1 h2 => ?_, fun _ => Iff.rfl⟩, Fr.row.keep r k' hrk, fun i h1 h2 => ?_, fun _ => Iff.rfl⟩, kk.trans k' fun i hi => sub i ((ee i).2 (Or.inl ((e2 i).2 (Or.inl hi)))), fun i hi => ?_⟩
  · rcases s' i h1 with h | h
    · exact d2 i h h2
    · have := (bb.2 i).1 h2; omega
  · rcases h1 with h1 | h1
    · rcases s' i h1 with h | h
      · exact d i ((e2 i).2 (Or.inl h)) h2
      · have := hlt i h2; omega
    · exact d i ((e2 i).2 (Or.inr h1)) h2
  · rcases hi with (hi | hi) | hi
    · rcases s' i hi with h | h
      · exact sub i ((ee i).2 (Or.inl ((e2 i).2 (Or.inl h))))
      · have := kk.size; exact Or.inr (by omega)
    · exact sub i ((ee i).2 (Or.inl ((e2 i).2 (Or.inr hi))))
    · exact sub i ((ee i).2 (Or.inr hi))
theorem X_drop (h : Nx (XW A e sz b p k v n xs) w0 N wr) : Nx (Tim A (Blk b (UW p k))) w0 N wr := by
  obtain ⟨K, ⟨K1, M1, a, bb, d, ee⟩, kk, sub⟩ := h
  exact ⟨K1, a, kk, fun i hi => sub i ((ee i).2 (Or.inl hi))⟩
theorem X_begin (h : Tim A (Blk b (UW p k)) w N) : Nx (XW A e sz b p k (.slice none 0 0) 0 []) w N w :=
  ⟨N, ⟨N, fun _ => False, h, Row.nil w, fun _ _ => id, fun i => by simp⟩, Keep.refl _ _, fun _ => Or.inl⟩
theorem X_keep (h : Nx (XW A e sz b p k v n xs) w0 N wr) : Keep N w0 wr := h.choose_spec.2.1
theorem X_shape (f : Fr A) (h : Nx (XW A e sz b p k v n xs) w0 N wr) : ∃ a c, v = .slice a n c := by
  obtain ⟨M, r, _⟩ := X_row f h
  exact r.shape
/-- the row's last element -/
theorem X_top (f : Fr A) {xs0 ys : List Value} {j : Nat} (h : Nx (XW A e sz b p k v (j + 1) (xs0 ++ ys)) w0 N wr) (hl : xs0.length = j * sz) (hy : ys.length = sz) : ∃ g c, v = .slice (some ⟨g, 0, none⟩) (j + 1) c ∧ j + 1 ≤ c ∧ g < wr.heap.size ∧ g ≠ b ∧
    (∀ i, i < sz → wr.cell? ⟨g, j * sz + i, none⟩ = ys[i]?) ∧ (∀ i, wr.frozen? ⟨g, i, none⟩ = false) ∧
    (∀ i u, i < sz → Nx (XW A e sz b p k (.slice (some ⟨g, 0, none⟩) (j + 1) c) (j + 1) (xs0 ++ ys.set i u)) w0 N (wr.setCell ⟨g, j * sz + i, none⟩ u)) ∧
    Nx (XW A e sz b p k (.slice (some ⟨g, 0, none⟩) j c) j xs0) w0 N wr := by
  obtain ⟨M, ⟨hr, hM⟩, up⟩ := X_row f h
  have hb := (X_walk f h).1
  have hgb : ∀ g, M g → g ≠ b := by
    obtain ⟨K, ⟨K1, M1, ⟨_, _, _, bb, _, ee⟩, ⟨rr, hM1⟩, d, _⟩, _⟩ := h
    rintro g hg rfl
    exact d g ((ee g).2 (Or.inr ((bb.2 g).2 rfl))) ((hM1 g).2 ((hM g).1 hg))
  rcases hr.2 with ⟨_, e0⟩ | ⟨g, c, cur, hv, _, hg, hc, _⟩
  · omega
  subst hv
  refine ⟨g, c, rfl, hc, (Array.getElem?_eq_some_iff.1 hg).1, hgb g ((hM g).2 rfl), fun i hi => ?_, hr.frozenAt, fun i u hi => ?_, ?_⟩
  · rw [hr.cellAt _ (by rw [Nat.add_mul]; omega), List.getElem?_append_right (by omega), hl]
    congr 1; omega
  · refine up _ _ _ _ ⟨M, ⟨?_, hM⟩, Keep.setCell wr ((hM g).2 rfl) u, fun _ => Or.inl⟩
    have := (hr.stored (j * sz + i) u).1
    rw [List.set_append_right _ _ (by omega), hl, Nat.add_sub_cancel_left] at this
    exact this
  · refine up _ _ _ _ ⟨M, ⟨?_, fun k => by rw [hM k]; rfl⟩, Keep.refl _ _, fun _ => Or.inl⟩
    have := own_cut hr (k := j) (by omega)
    rw [List.take_append_of_le_length (by omega), List.take_of_length_le (by omega)] at this
    exact this
end
end Go.Proofs.Ythableojkjhicaa.un
