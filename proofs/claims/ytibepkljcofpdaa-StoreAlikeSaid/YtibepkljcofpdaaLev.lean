/- A term that is being laid in new memory, level by level: what is filled, what is open. -/
import Derived.Test.YtibepkljcofpdaaPlainN
namespace Go.Proofs.Ytibepkljcofpdaa.lev
set_option linter.unusedVariables false
open Go.ChangeShapes Go.WideShapes Go.ChangeAt Go.RowKit
open Go.Proofs.Ytibepkljcofpdaa.tm Go.Proofs.Ytibepkljcofpdaa.lie Go.Proofs.Ytibepkljcofpdaa.kp Go.Proofs.Ytibepkljcofpdaa.wlk Go.Proofs.Ytibepkljcofpdaa.cur
/-- the first places of block b hold these terms; what they hold lies off X -/
def FRow (X : Nat → Prop) (w : World) (b : Nat) : List Tm → Nat → Prop
  | [], _ => True
  | t :: r, j => (∃ v0 v1 v2 v3 v4 v5, Six w b (j * 6) v0 v1 v2 v3 v4 v5 ∧ Lies X w t (.agg #[v0, v1, v2, v3, v4, v5])) ∧ FRow X w b r (j + 1)
theorem FRow.toT {X Y : Nat → Prop} {w : World} {b : Nat} (hb : ¬ Y b) (hY : ∀ k, k < w.heap.size → Y k → X k) : ∀ {l : List Tm} {j : Nat}, FRow X w b l j → TRow Y w l (some ⟨b, 0, none⟩) j
  | [], _, _ => by rw [TRow]; trivial
  | t :: r, j, h => by
    rw [TRow]
    obtain ⟨⟨v0, v1, v2, v3, v4, v5, h6, ht⟩, hr⟩ := h
    exact ⟨⟨b, 0, v0, v1, v2, v3, v4, v5, rfl, hb, by rw [Nat.zero_add]; exact h6, ht.off hY⟩, FRow.toT hb hY hr⟩
theorem FRow.keep {X Y G : Nat → Prop} {w w' : World} {b : Nat} (hk : Keep G w w') (hG : ∀ k, G k → X k) (hb : ¬ G b) (hY : ∀ k, k < w.heap.size → Y k → X k) : ∀ {l : List Tm} {j : Nat}, FRow X w b l j → FRow Y w' b l j
  | [], _, _ => trivial
  | t :: r, j, h => by
    obtain ⟨⟨v0, v1, v2, v3, v4, v5, h6, ht⟩, hr⟩ := h
    exact ⟨⟨v0, v1, v2, v3, v4, v5, h6.keep hk hb, Lies.keep (hk.mono hG) hY _ _ ht⟩, FRow.keep hk hG hb hY hr⟩
theorem FRow.snoc {X : Nat → Prop} {w : World} {b : Nat} {t : Tm} {v0 v1 v2 v3 v4 v5 : Value} : ∀ {l : List Tm} {j : Nat}, FRow X w b l j → Six w b ((j + l.length) * 6) v0 v1 v2 v3 v4 v5 → Lies X w t (.agg #[v0, v1, v2, v3, v4, v5]) → FRow X w b (l ++ [t]) j
  | [], j, _, h6, ht => ⟨⟨v0, v1, v2, v3, v4, v5, by simpa using h6, ht⟩, trivial⟩
  | x :: r, j, h, h6, ht => ⟨h.1, FRow.snoc (j := j + 1) h.2 (by rw [show j + 1 + r.length = j + (x :: r).length by simp; omega]; exact h6) ht⟩
/-- six cells of block b from o on are set -/
def set6 (w : World) (b o : Nat) (v0 v1 v2 v3 v4 v5 : Value) : World :=
  (((((w.setCell ⟨b, o, none⟩ v0).setCell ⟨b, o + 1, none⟩ v1).setCell ⟨b, o + 2, none⟩ v2).setCell ⟨b, o + 3, none⟩ v3).setCell ⟨b, o + 4, none⟩ v4).setCell ⟨b, o + 5, none⟩ v5
theorem set6_keep (w : World) (b o : Nat) (v0 v1 v2 v3 v4 v5 : Value) : Keep (fun k => k = b) w (set6 w b o v0 v1 v2 v3 v4 v5) := by
  have k (w : World) (o : Nat) (u : Value) : Keep (fun k => k = b) w (w.setCell ⟨b, o, none⟩ u) := Keep.setCell (F := fun k => k = b) (p := ⟨b, o, none⟩) w rfl u
  exact ((((((k _ _ _).trans (k _ _ _) fun _ => Or.inl).trans (k _ _ _) fun _ => Or.inl).trans (k _ _ _) fun _ => Or.inl).trans (k _ _ _) fun _ => Or.inl).trans (k _ _ _) fun _ => Or.inl)
theorem set6_heap {w : World} {b o : Nat} {v0 v1 v2 v3 v4 v5 : Value} {cur : Array Value} {t : TypeId} (h : w.heap[b]? = some (.cells cur t (0, 0))) :
    (set6 w b o v0 v1 v2 v3 v4 v5).heap[b]? = some (.cells ((((((cur.setIfInBounds o v0).setIfInBounds (o + 1) v1).setIfInBounds (o + 2) v2).setIfInBounds (o + 3) v3).setIfInBounds (o + 4) v4).setIfInBounds (o + 5) v5) t (0, 0)) := by
  have e := fun (w : World) (i : Nat) (cs : Array Value) (v : Value) (hg : w.heap[b]? = some (.cells cs t (0, 0))) => heap_setCell_same w b i cs t v hg
  exact e _ (o + 5) _ v5 (e _ (o + 4) _ v4 (e _ (o + 3) _ v3 (e _ (o + 2) _ v2 (e _ (o + 1) _ v1 (e w o _ v0 h)))))
theorem set6_six {w : World} {b o : Nat} {v0 v1 v2 v3 v4 v5 : Value} {cur : Array Value} {t : TypeId} (h : w.heap[b]? = some (.cells cur t (0, 0))) (ho : o + 6 ≤ cur.size) : Six (set6 w b o v0 v1 v2 v3 v4 v5) b o v0 v1 v2 v3 v4 v5 := by
  have hh := set6_heap (o := o) (v0 := v0) (v1 := v1) (v2 := v2) (v3 := v3) (v4 := v4) (v5 := v5) h
  refine ⟨?_, ?_, ?_, ?_, ?_, ?_⟩ <;> simp only [World.cell?, hh] <;> simp [Array.getElem?_setIfInBounds] <;> omega
theorem set6_other {w : World} {b o o' : Nat} {v0 v1 v2 v3 v4 v5 u0 u1 u2 u3 u4 u5 : Value} {cur : Array Value} {t : TypeId} (h : w.heap[b]? = some (.cells cur t (0, 0))) (ho : o' + 6 ≤ o) (h6 : Six w b o' u0 u1 u2 u3 u4 u5) :
    Six (set6 w b o v0 v1 v2 v3 v4 v5) b o' u0 u1 u2 u3 u4 u5 := by
  have hh := set6_heap (o := o) (v0 := v0) (v1 := v1) (v2 := v2) (v3 := v3) (v4 := v4) (v5 := v5) h
  have e : ∀ j, j < o → (set6 w b o v0 v1 v2 v3 v4 v5).cell? ⟨b, j, none⟩ = w.cell? ⟨b, j, none⟩ := by
    intro j hj
    simp only [World.cell?, hh, h]
    simp only [Array.getElem?_setIfInBounds, if_neg (show ¬ o + 5 = j by omega), if_neg (show ¬ o + 4 = j by omega), if_neg (show ¬ o + 3 = j by omega), if_neg (show ¬ o + 2 = j by omega), if_neg (show ¬ o + 1 = j by omega), if_neg (show ¬ o = j by omega)]
  obtain ⟨a0, a1, a2, a3, a4, a5⟩ := h6
  exact ⟨(e _ (by omega)).trans a0, (e _ (by omega)).trans a1, (e _ (by omega)).trans a2, (e _ (by omega)).trans a3, (e _ (by omega)).trans a4, (e _ (by omega)).trans a5⟩
theorem FRow.set {X : Nat → Prop} {w : World} {b o : Nat} {v0 v1 v2 v3 v4 v5 : Value} {cur : Array Value} {t : TypeId} (hX : X b) (h : w.heap[b]? = some (.cells cur t (0, 0))) : ∀ {l : List Tm} {j : Nat}, FRow X w b l j → (j + l.length) * 6 ≤ o → FRow X (set6 w b o v0 v1 v2 v3 v4 v5) b l j
  | [], _, _, _ => trivial
  | x :: r, j, hl, ho => by
    obtain ⟨⟨u0, u1, u2, u3, u4, u5, h6, ht⟩, hr⟩ := hl
    simp only [List.length_cons] at ho
    exact ⟨⟨u0, u1, u2, u3, u4, u5, set6_other h (by omega) h6, Lies.keep ((set6_keep w b o v0 v1 v2 v3 v4 v5).mono (G := X) fun k e => e ▸ hX) (fun _ _ => id) _ _ ht⟩, FRow.set hX h hr (by omega)⟩
/-! ### levels -/
/-- the last level: block b, its first places are filled, m are open -/
def LvTop (X : Nat → Prop) (w : World) (b : Nat) (done : List Tm) (m : Nat) : Prop :=
  X b ∧ FRow X w b done 0 ∧ ∃ cur, w.heap[b]? = some (.cells cur 36 (0, 0)) ∧ cur.size = (done.length + m) * 6
/-- a level ahead: behind what is filled stands the compound nm, whose arguments are block b' -/
def LvMid (X : Nat → Prop) (w : World) (b : Nat) (done : List Tm) (nm : ByteArray) (b' n' m : Nat) : Prop :=
  X b ∧ FRow X w b done 0 ∧ Six w b (done.length * 6) (.int .i64 5) (.string nm) (.int .i64 0) (.int .u64 0) (.int .u64 0) (.slice (some ⟨b', 0, none⟩) n' n') ∧ Fit 5 nm 0 0 0 n' n' ∧
    ∃ cur, w.heap[b]? = some (.cells cur 36 (0, 0)) ∧ cur.size = (done.length + 1 + m) * 6
abbrev Lev := Nat × List Tm × ByteArray
def Mids (X : Nat → Prop) (w : World) (rb : Nat) : Nat → Nat → List Lev → List (List Tm) → Prop
  | b', n', [], [] => b' = rb ∧ n' = 1
  | b', n', (b, done, nm) :: M, row :: R => LvMid X w b done nm b' n' row.length ∧ Mids X w rb b (done.length + 1 + row.length) M R
  | _, _, _, _ => False
/-- ALL LEVELS, the last first -/
structure Lvs (X : Nat → Prop) (w : World) (rb b : Nat) (done : List Tm) (row : List Tm) (M : List Lev) (R : List (List Tm)) : Prop where
  top : LvTop X w b done row.length
  mids : Mids X w rb b (done.length + row.length) M R
  nodup : (b :: M.map (·.1)).Nodup
/-- what the root's row will be -/
def close (s : Int → Tm) (inner : List Tm) : List Lev → List (List Tm) → List Tm
  | (_, done, nm) :: M, row :: R => close s (done ++ [comp nm inner] ++ subL s row) M R
  | _, _ => inner
theorem LvMid.keep {X Y G : Nat → Prop} {w w' : World} {b b' n' m : Nat} {done : List Tm} {nm : ByteArray} (h : LvMid X w b done nm b' n' m) (hk : Keep G w w') (hG : ∀ k, G k → X k) (hb : ¬ G b) (hY : ∀ k, k < w.heap.size → Y k → X k) (hYb : Y b) : LvMid Y w' b done nm b' n' m := by
  obtain ⟨h1, h2, h3, h4, cur, h5, h6⟩ := h
  exact ⟨hYb, h2.keep hk hG hb hY, h3.keep hk hb, h4, cur, (hk.block b (Array.getElem?_eq_some_iff.1 h5).1 hb).trans h5, h6⟩
theorem Mids.keep {X Y G : Nat → Prop} {w w' : World} {rb : Nat} (hk : Keep G w w') (hG : ∀ k, G k → X k) (hY : ∀ k, k < w.heap.size → Y k → X k) : ∀ {M : List Lev} {R : List (List Tm)} {b' n' : Nat}, Mids X w rb b' n' M R → (∀ k ∈ M.map (·.1), ¬ G k ∧ Y k) → Mids Y w' rb b' n' M R
  | [], [], _, _, h, _ => h
  | (b, done, nm) :: M, row :: R, _, _, h, hb => ⟨h.1.keep hk hG (hb b (by simp)).1 hY (hb b (by simp)).2, Mids.keep hk hG hY h.2 fun k hk => hb k (by simp at hk ⊢; exact Or.inr hk)⟩
  | [], _ :: _, _, _, h, _ => h.elim
  | (_, _, _) :: _, [], _, _, h, _ => h.elim
theorem Mids.mem {X : Nat → Prop} {w : World} {rb : Nat} : ∀ {M : List Lev} {R : List (List Tm)} {b' n' : Nat}, Mids X w rb b' n' M R → ∀ k ∈ M.map (·.1), X k ∧ k < w.heap.size
  | [], [], _, _, h, k, hk => by simp at hk
  | (b, done, nm) :: M, row :: R, _, _, h, k, hk => by
    simp only [List.map_cons, List.mem_cons] at hk
    rcases hk with rfl | hk
    · obtain ⟨h1, _, _, _, cur, h5, _⟩ := h.1
      exact ⟨h1, (Array.getElem?_eq_some_iff.1 h5).1⟩
    · exact Mids.mem h.2 k hk
  | [], _ :: _, _, _, h, _, _ => h.elim
  | (_, _, _) :: _, [], _, _, h, _, _ => h.elim
theorem Mids.len {X : Nat → Prop} {w : World} {rb : Nat} : ∀ {M : List Lev} {R : List (List Tm)} {b' n' : Nat}, Mids X w rb b' n' M R → M.length = R.length
  | [], [], _, _, _ => rfl
  | (_, _, _) :: M, _ :: R, _, _, h => by simp [Mids.len h.2]
  | [], _ :: _, _, _, h => h.elim
  | (_, _, _) :: _, [], _, _, h => h.elim
theorem Lvs.keep {X Y G : Nat → Prop} {w w' : World} {rb b : Nat} {done row : List Tm} {M : List Lev} {R : List (List Tm)} (h : Lvs X w rb b done row M R) (hk : Keep G w w') (hG : ∀ k, G k → X k) (hd : ∀ k ∈ b :: M.map (·.1), ¬ G k ∧ Y k) (hY : ∀ k, k < w.heap.size → Y k → X k) : Lvs Y w' rb b done row M R := by
  obtain ⟨⟨h1, h2, cur, h3, h4⟩, h5, h6⟩ := h
  have hb := hd b (by simp)
  exact ⟨⟨hb.2, h2.keep hk hG hb.1 hY, cur, (hk.block b (Array.getElem?_eq_some_iff.1 h3).1 hb.1).trans h3, h4⟩, h5.keep hk hG hY fun k hk => hd k (by simp at hk ⊢; exact Or.inr hk), h6⟩
theorem Lvs.mem {X : Nat → Prop} {w : World} {rb b : Nat} {done row : List Tm} {M : List Lev} {R : List (List Tm)} (h : Lvs X w rb b done row M R) : ∀ k ∈ b :: M.map (·.1), X k ∧ k < w.heap.size := by
  intro k hk
  rcases List.mem_cons.1 hk with rfl | hk
  · obtain ⟨h1, _, cur, h3, _⟩ := h.top
    exact ⟨h1, (Array.getElem?_eq_some_iff.1 h3).1⟩
  · exact h.mids.mem k hk
/-- a level that is full is closed -/
theorem Lvs.pop {X : Nat → Prop} {w : World} {rb b b1 : Nat} {done done1 row1 : List Tm} {nm : ByteArray} {M : List Lev} {R : List (List Tm)} (h : Lvs X w rb b done [] ((b1, done1, nm) :: M) (row1 :: R)) :
    Lvs (fun k => X k ∧ k ≠ b) w rb b1 (done1 ++ [comp nm done]) row1 M R := by
  obtain ⟨⟨h1, h2, cur, h3, h4⟩, ⟨⟨g1, g2, g3, g4, cur1, g5, g6⟩, h5⟩, h6⟩ := h
  simp only [List.map_cons, List.nodup_cons, List.mem_cons, not_or] at h6
  obtain ⟨⟨hbb, hbM⟩, hb1M, hM⟩ := h6
  have hY : ∀ k, k < w.heap.size → (X k ∧ k ≠ b) → X k := fun _ _ h => h.1
  have no : ∀ k, No k → X k := fun _ h => h.elim
  refine ⟨⟨⟨g1, fun e => hbb e.symm⟩, ?_, cur1, g5, ?_⟩, ?_, ?_⟩
  · refine FRow.snoc (g2.keep (Keep.refl No w) no id hY) (by simpa using g3) ?_
    rw [comp, Lies]
    refine ⟨some ⟨b, 0, none⟩, done.length, ?_, by simpa using g4, h2.toT (by simp) hY⟩
    simp
  · rw [g6]; simp
  · have := h5.keep (Keep.refl No w) no hY fun k hk => ⟨id, (Mids.mem h5 k hk).1, fun e => hbM (e ▸ hk)⟩
    simpa using this
  · simp only [List.nodup_cons]
    exact ⟨hb1M, hM⟩
/-- the next place is filled -/
theorem Lvs.fill {X : Nat → Prop} {w : World} {rb b : Nat} {done row : List Tm} {t x : Tm} {M : List Lev} {R : List (List Tm)} {v0 v1 v2 v3 v4 v5 : Value} (h : Lvs X w rb b done (x :: row) M R) (ht : Lies X w t (.agg #[v0, v1, v2, v3, v4, v5])) :
    Lvs X (set6 w b (done.length * 6) v0 v1 v2 v3 v4 v5) rb b (done ++ [t]) row M R := by
  obtain ⟨⟨h1, h2, cur, h3, h4⟩, h5, h6⟩ := h
  have k6 := set6_keep w b (done.length * 6) v0 v1 v2 v3 v4 v5
  have hk6 : Keep X w (set6 w b (done.length * 6) v0 v1 v2 v3 v4 v5) := k6.mono fun k e => e ▸ h1
  simp only [List.length_cons] at h4 h5
  have h6' := h6
  simp only [List.nodup_cons] at h6'
  refine ⟨⟨h1, FRow.snoc (FRow.set h1 h3 h2 (by omega)) (by rw [Nat.zero_add]; exact set6_six h3 (by rw [h4]; omega)) (Lies.keep hk6 (fun _ _ => id) _ _ ht), _, set6_heap h3, ?_⟩, ?_, h6⟩
  · simp only [Array.size_setIfInBounds, h4, List.length_append, List.length_singleton]; omega
  · have := h5.keep k6 (fun k e => e ▸ h1) (fun _ _ => id) fun k hk => ⟨fun e => h6'.1 (e ▸ hk), (Mids.mem h5 k hk).1⟩
    rw [show (done ++ [t]).length + row.length = done.length + (row.length + 1) by simp; omega]
    exact this
/-- the next place is a compound, whose arguments are open -/
theorem Lvs.push {X : Nat → Prop} {w : World} {rb b q : Nat} {done row l : List Tm} {x : Tm} {nm : ByteArray} {M : List Lev} {R : List (List Tm)} {curq : Array Value} (h : Lvs X w rb b done (x :: row) M R) (hX : X q) (hq : w.heap[q]? = some (.cells curq 36 (0, 0))) (hs : curq.size = l.length * 6)
    (hn : ∀ k ∈ b :: M.map (·.1), k ≠ q) (hf : Fit 5 nm 0 0 0 l.length l.length) :
    Lvs X (set6 w b (done.length * 6) (.int .i64 5) (.string nm) (.int .i64 0) (.int .u64 0) (.int .u64 0) (.slice (some ⟨q, 0, none⟩) l.length l.length)) rb q [] l ((b, done, nm) :: M) (row :: R) := by
  obtain ⟨⟨h1, h2, cur, h3, h4⟩, h5, h6⟩ := h
  have k6 := set6_keep w b (done.length * 6) (.int .i64 5) (.string nm) (.int .i64 0) (.int .u64 0) (.int .u64 0) (.slice (some ⟨q, 0, none⟩) l.length l.length)
  simp only [List.length_cons] at h4 h5
  have h6' := h6
  simp only [List.nodup_cons] at h6'
  have hqb : q ≠ b := fun e => hn b (by simp) e.symm
  refine ⟨⟨hX, trivial, curq, (k6.block q (Array.getElem?_eq_some_iff.1 hq).1 hqb).trans hq, by simpa using hs⟩, ⟨⟨h1, FRow.set h1 h3 h2 (by omega), ?_, by simpa using hf, _, set6_heap h3, ?_⟩, ?_⟩, ?_⟩
  · have := set6_six (v0 := .int .i64 5) (v1 := .string nm) (v2 := .int .i64 0) (v3 := .int .u64 0) (v4 := .int .u64 0) (v5 := .slice (some ⟨q, 0, none⟩) l.length l.length) h3 (o := done.length * 6) (by rw [h4]; omega)
    simpa using this
  · simp only [Array.size_setIfInBounds, h4]; omega
  · have := h5.keep k6 (fun k e => e ▸ h1) (fun _ _ => id) fun k hk => ⟨fun e => h6'.1 (e ▸ hk), (Mids.mem h5 k hk).1⟩
    rw [show done.length + 1 + row.length = done.length + (row.length + 1) by omega]
    exact this
  · simp only [List.map_cons]
    rw [List.nodup_cons]
    exact ⟨fun hm => hn q hm rfl, h6⟩
end Go.Proofs.Ytibepkljcofpdaa.lev
