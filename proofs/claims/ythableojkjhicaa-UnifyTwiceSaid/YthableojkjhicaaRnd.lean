/- One round of rebuild: what holds from step to step. -/
import Derived.Test.YthableojkjhicaaWalk
namespace Go.Proofs.Ythableojkjhicaa.rnd
set_option linter.unusedVariables false
open Go.ChangeShapes Go.WideShapes Go.ChangeAt Go.RowKit
open Go.Proofs.Ythableojkjhicaa.tm Go.Proofs.Ythableojkjhicaa.lie Go.Proofs.Ythableojkjhicaa.kp Go.Proofs.Ythableojkjhicaa.wlk Go.Proofs.Ythableojkjhicaa.cur Go.Proofs.Ythableojkjhicaa.lev Go.Proofs.Ythableojkjhicaa.lay Go.Proofs.Ythableojkjhicaa.rws Go.Proofs.Ythableojkjhicaa.pln
abbrev NV (k0 : Int) (n0 : ByteArray) (i0 re0 im0 : Int) (a0 : Option Addr) (l0 c0 : Nat) : Obj := .cells #[.int .i64 k0, .string n0, .int .i64 i0, .int .u64 re0, .int .u64 im0, .slice a0 l0 c0] 36
/-- what stands beside the levels -/
structure Side (B r p rv : Nat) (X F : Nat → Prop) (w : World) (nb og : Nat) (lv : List Nat) (R1 : List (List Tm)) (o : Obj) : Prop where
  x1 : X nb
  x2 : nb ∉ lv
  x3 : nb ≠ og
  x4 : ∀ k, F k → X k ∧ k ∉ lv ∧ k ≠ og ∧ k ≠ nb
  x5 : r < w.heap.size
  x6 : X rv ∧ rv ∉ lv ∧ rv ≠ og ∧ rv ≠ nb ∧ ¬ F rv
  x7 : w.heap[rv]? = some ZT
  x8 : w.heap[nb]? = some o
  x9 : TWay B r w p F R1
theorem Side.keep {B r p rv : Nat} {X Y F G : Nat → Prop} {w w' : World} {nb og : Nat} {lv lv' : List Nat} {R1 : List (List Tm)} {o : Obj} (h : Side B r p rv X F w nb og lv R1 o) (hk : Keep G w w') (hG : ∀ k, G k → X k ∧ Off B r k ∧ ¬ F k ∧ k ≠ nb ∧ k ≠ rv) (hY : ∀ k, k < w.heap.size → (Y k ↔ X k)) (hl : ∀ k ∈ lv', k ∈ lv ∨ w.heap.size ≤ k) : Side B r p rv Y F w' nb og lv' R1 o := by
  obtain ⟨x1, x2, x3, x4, x5, x6, x7, x8, x9⟩ := h
  have hs := hk.size
  have hnb : nb < w.heap.size := (Array.getElem?_eq_some_iff.1 x8).1
  have hrv : rv < w.heap.size := (Array.getElem?_eq_some_iff.1 x7).1
  have hnl : ∀ k, k < w.heap.size → k ∉ lv → k ∉ lv' := fun k h1 h2 h3 => by
    rcases hl k h3 with h | h
    · exact h2 h
    · omega
  refine ⟨(hY _ hnb).2 x1, hnl _ hnb x2, x3, fun k hk => ?_, by omega, ⟨(hY _ hrv).2 x6.1, hnl _ hrv x6.2.1, x6.2.2⟩, (hk.block rv hrv (fun h => (hG _ h).2.2.2.2 rfl)).trans x7, (hk.block nb hnb (fun h => (hG _ h).2.2.2.1 rfl)).trans x8, x9.keep hk (fun k h1 h2 => (hG k h2).2.2.1 h1) fun k h => (hG k h).2.1⟩
  have hkl := (x9.lt k hk).2.2
  exact ⟨(hY _ hkl).2 (x4 k hk).1, hnl _ hkl (x4 k hk).2.1, (x4 k hk).2.2⟩
/-- a place has been taken off -/
structure Mid (B r p rv : Nat) (Z : Nat → Prop) (s : Int → Tm) (t0 t : Tm) (R0 : List (List Tm)) (row : List Tm) (X F : Nat → Prop) (w : World) (nb rb og oc b : Nat) (done : List Tm) (M : List Lev) (ys : List Value) (y : Value) (o : Obj) : Prop where
  lvs : Lvs X w rb b done (t :: row) M R0.reverse
  openv : OpenV b (done.length + 1) row y
  opm : OpM M R0.reverse ys
  own : w.ownsRow B 34 1 (.slice (some ⟨og, 0, none⟩) (R0.length + 1) oc) (R0.length + 1) (ys.reverse ++ [y])
  res : close s (done ++ subL s (t :: row)) M R0.reverse = [sub s t0]
  hog : X og
  ogn : og ∉ b :: M.map (·.1)
  off : ∀ k, X k → Z k ∨ Off B r k
  hz : ∀ k, Z k → X k ∧ k < B
  lvo : ∀ k ∈ b :: M.map (·.1), B ≤ k
  side : Side B r p rv X F w nb og (b :: M.map (·.1)) (R0 ++ [row] ++ kids t) o
/-- X, and all that is new since w -/
abbrev Up (B r : Nat) (w : World) (X : Nat → Prop) : Nat → Prop := fun k => X k ∨ (w.heap.size ≤ k ∧ Off B r k)
theorem up_iff {B r : Nat} {w : World} {X : Nat → Prop} (k : Nat) (h : k < w.heap.size) : Up B r w X k ↔ X k := ⟨fun q => q.elim id fun q => by omega, Or.inl⟩
theorem Mid.below {B r p rv : Nat} {Z : Nat → Prop} {s : Int → Tm} {t0 t : Tm} {R0 : List (List Tm)} {row : List Tm} {X F : Nat → Prop} {w w' : World} {nb rb og oc b : Nat} {done : List Tm} {M : List Lev} {ys : List Value} {y : Value} {o : Obj}
    (h : Mid B r p rv Z s t0 t R0 row X F w nb rb og oc b done M ys y o) (hb : Below w.heap.size w w') : Mid B r p rv Z s t0 t R0 row (Up B r w X) F w' nb rb og oc b done M ys y o := by
  obtain ⟨h1, h2, h3, h4, h5, h6, h7, h8, hz, lvo, h9⟩ := h
  have hk : Keep No w w' := Keep.of_below hb
  have hol : og < w.heap.size := (h4.lt _ rfl).2
  exact ⟨h1.keep hk (fun _ h => h.elim) (fun k hm => ⟨id, Or.inl (h1.mem k hm).1⟩) (fun k hk h => (up_iff k hk).1 h), h2, h3, own_keep h4 (hk.block og hol id), h5, Or.inl h6, h7, fun k hk => hk.elim (h8 k) fun h => Or.inr h.2, fun k hk => ⟨Or.inl (hz k hk).1, (hz k hk).2⟩, lvo, h9.keep hk (fun _ h => h.elim) (fun k hk => up_iff k hk) fun k h => Or.inl h⟩
theorem offOf {B r : Nat} {Z X : Nat → Prop} (h8 : ∀ k, X k → Z k ∨ Off B r k) (hz : ∀ k, Z k → X k ∧ k < B) {k : Nat} (hX : X k) (hB : B ≤ k) : Off B r k :=
  (h8 k hX).elim (fun h => by have := (hz k h).2; omega) id
/-- the place is filled, the node done -/
structure En (B r p rv : Nat) (Z : Nat → Prop) (s : Int → Tm) (t0 : Tm) (R1 : List (List Tm)) (X F : Nat → Prop) (w : World) (nb rb og oc : Nat) (lv : List Nat) (o : Obj) : Prop where
  lay : Lay B r Z s (sub s t0) X w rb og oc R1 lv
  side : Side B r p rv X F w nb og lv R1 o
theorem Mid.fill {B r p rv : Nat} {Z : Nat → Prop} {s : Int → Tm} {t0 t : Tm} {R0 : List (List Tm)} {row : List Tm} {X F : Nat → Prop} {w : World} {nb rb og oc b : Nat} {done : List Tm} {M : List Lev} {ys : List Value} {y : Value} {o : Obj} {v0 v1 v2 v3 v4 v5 : Value}
    (h : Mid B r p rv Z s t0 t R0 row X F w nb rb og oc b done M ys y o) (ht : Lies X w (sub s t) (.agg #[v0, v1, v2, v3, v4, v5])) (hk : kids t = []) :
    En B r p rv Z s t0 (R0 ++ [row] ++ kids t) X F (set6 w b (done.length * 6) v0 v1 v2 v3 v4 v5) nb rb og oc (b :: M.map (·.1)) o := by
  obtain ⟨h1, h2, h3, h4, h5, h6, h7, h8, hz, lvo, h9⟩ := h
  have k6 := set6_keep w b (done.length * 6) v0 v1 v2 v3 v4 v5
  have hbX := (h1.mem b (by simp))
  have hbo : og ≠ b := fun e => h7 (by simp [e])
  refine ⟨⟨b, done ++ [sub s t], row, M, R0.reverse, y, ys, by simp [hk], rfl, h1.fill ht, by simpa using h2, h3, ?_, ?_, h6, h7, h8, hz, lvo⟩, h9.keep k6 (fun k e => ?_) (fun _ _ => Iff.rfl) fun k h => Or.inl h⟩
  · have := own_keep h4 (k6.block og (h4.lt _ rfl).2 hbo)
    rw [hk]
    simpa using this
  · rw [← h5]
    simp [subL]
  · subst e
    exact ⟨hbX.1, offOf h8 hz hbX.1 (lvo _ (by simp)), fun hF => (h9.x4 _ hF).2.1 (by simp), fun e => h9.x2 (by simp [e]), fun e => h9.x6.2.1 (by simp [e])⟩
theorem Mid.push {B r p rv : Nat} {Z : Nat → Prop} {s : Int → Tm} {t0 : Tm} {nm : ByteArray} {i re im : Int} {l : List Tm} {R0 : List (List Tm)} {row : List Tm} {X F : Nat → Prop} {w w4 : World} {nb rb og oc b q og' oc' : Nat} {done : List Tm} {M : List Lev} {ys : List Value} {y : Value} {o : Obj} {cur : Array Value}
    (h : Mid B r p rv Z s t0 (.mk 5 nm i re im l) R0 row X F w nb rb og oc b done M ys y o) (hq : w.heap[q]? = some (.cells cur 36 (0, 0))) (hs : cur.size = l.length * 6) (hqB : B ≤ q) (hqo : X q ∧ q ≠ rv ∧ q ≠ nb ∧ q ≠ og ∧ q ∉ b :: M.map (·.1) ∧ ¬ F q) (hf : Fit 5 nm 0 0 0 l.length l.length)
    (hk4 : Keep (fun k => k = og) (set6 w b (done.length * 6) (.int .i64 5) (.string nm) (.int .i64 0) (.int .u64 0) (.int .u64 0) (.slice (some ⟨q, 0, none⟩) l.length l.length)) w4)
    (ho4 : w4.ownsRow B 34 1 (.slice (some ⟨og', 0, none⟩) (R0.length + 1 + 1) oc') (R0.length + 1 + 1) ((ys.reverse ++ [y]) ++ [.slice (some ⟨q, 0, none⟩) l.length l.length])) (hog' : og' = og ∨ (w.heap.size ≤ og')) :
    En B r p rv Z s t0 (R0 ++ [row] ++ kids (.mk 5 nm i re im l)) (Up B r w X) F w4 nb rb og' oc' (q :: b :: M.map (·.1)) o := by
  obtain ⟨h1, h2, h3, h4, h5, h6, h7, h8, hz, lvo, h9⟩ := h
  obtain ⟨q1, q2, q3, q4, q5, q6⟩ := hqo
  have k6 := set6_keep w b (done.length * 6) (.int .i64 5) (.string nm) (.int .i64 0) (.int .u64 0) (.int .u64 0) (.slice (some ⟨q, 0, none⟩) l.length l.length)
  have hql : q < w.heap.size := (Array.getElem?_eq_some_iff.1 hq).1
  have hbX := (h1.mem b (by simp))
  have hbo : og ≠ b := fun e => h7 (by simp [e])
  have s6 := k6.size
  have s4 := hk4.size
  have hol : og < w.heap.size := (h4.lt _ rfl).2
  have hB := (ho4.lt _ rfl).1
  have hrs := h9.x5
  have hXo : Up B r w X og' := by
    rcases hog' with e | e
    · exact Or.inl (e ▸ h6)
    · exact Or.inr ⟨e, hB, by omega⟩
  have p1 := h1.push q1 hq hs (fun k hk e => q5 (e ▸ hk)) hf
  have hkk : Keep (fun k => k = b ∨ k = og) w w4 := (k6.mono (G := fun k => k = b ∨ k = og) fun k e => Or.inl e).trans hk4 fun k e => Or.inl (Or.inr e)
  have hkids : kids (.mk 5 nm i re im l) = [l] := by rw [kids, if_pos rfl]
  have hos : og' ∉ q :: b :: M.map (·.1) := by
    rcases hog' with e | e
    · subst e; simp only [List.mem_cons, not_or] at h7 ⊢; exact ⟨fun e => q4 e.symm, h7⟩
    · intro hm
      rcases List.mem_cons.1 hm with hm | hm
      · omega
      · have := (h1.mem _ hm).2; omega
  refine ⟨⟨q, [], l, (b, done, nm) :: M, row :: R0.reverse, .slice (some ⟨q, 0, none⟩) l.length l.length, y :: ys, by rw [hkids]; simp, rfl, ?_⟩, ?_⟩
  · refine ⟨p1.keep hk4 (fun k e => e ▸ h6) (fun k hm => ⟨fun e => ?_, Or.inl (p1.mem k hm).1⟩) (fun k hk h => ?_), ⟨some ⟨q, 0, none⟩, l.length, rfl, Nat.le_refl _, by have := hf.c1; unfold maxLen; exact this, fun _ => by simp⟩, ⟨h2, h3⟩, ?_, ?_, hXo, hos, fun k hk => hk.elim (h8 k) fun h => Or.inr h.2, fun k hk => ⟨Or.inl (hz k hk).1, (hz k hk).2⟩, ?_⟩
    · subst e
      simp only [List.map_cons, List.mem_cons] at hm
      rcases hm with e | e | e
      · exact q4 e.symm
      · exact hbo e
      · exact h7 (List.mem_cons_of_mem _ e)
    · rcases h with h | h
      · exact h
      · have hs6 : (set6 w b (done.length * 6) (.int .i64 5) (.string nm) (.int .i64 0) (.int .u64 0) (.int .u64 0) (.slice (some ⟨q, 0, none⟩) l.length l.length)).heap.size = w.heap.size := by simp [set6, World.setCell]
        omega
    · rw [hkids]
      simpa using ho4
    · rw [← h5]
      simp [close, subL, sub, comp]
    · intro k hk
      rcases List.mem_cons.1 hk with e | hk
      · rw [e]; exact hqB
      · exact lvo k hk
  · have hnbl : nb < w.heap.size := (Array.getElem?_eq_some_iff.1 h9.x8).1
    have sd := h9.keep (Y := Up B r w X) (lv' := b :: M.map (·.1)) hkk (fun k hk => ?_) (fun k hk => up_iff k hk) (fun k hk => Or.inl hk)
    · obtain ⟨x1, x2, x3, x4, x5, x6, x7, x8, x9⟩ := sd
      refine ⟨x1, ?_, ?_, fun k hk => ?_, x5, ⟨x6.1, ?_, ?_, x6.2.2.2⟩, x7, x8, x9⟩
      · rw [List.mem_cons, not_or]; exact ⟨fun e => q3 e.symm, x2⟩
      · rcases hog' with e | e
        · exact e ▸ x3
        · omega
      · obtain ⟨a1, a2, a3, a4⟩ := x4 k hk
        refine ⟨a1, ?_, ?_, a4⟩
        · rw [List.mem_cons, not_or]; exact ⟨fun e => q6 (e ▸ hk), a2⟩
        · have hkl := (h9.x9.lt k hk).2.2
          rcases hog' with e | e
          · exact e ▸ a3
          · omega
      · rw [List.mem_cons, not_or]; exact ⟨fun e => q2 e.symm, x6.2.1⟩
      · have hrl := (Array.getElem?_eq_some_iff.1 h9.x7).1
        rcases hog' with e | e
        · exact e ▸ x6.2.2.1
        · omega
    · rcases hk with rfl | rfl
      · exact ⟨hbX.1, offOf h8 hz hbX.1 (lvo _ (by simp)), fun hF => (h9.x4 _ hF).2.1 (by simp), fun e => h9.x2 (by simp [e]), fun e => h9.x6.2.1 (by simp [e])⟩
      · exact ⟨h6, offOf h8 hz h6 (h4.lt _ rfl).1, fun hF => (h9.x4 _ hF).2.2.1 rfl, fun e => h9.x3 e.symm, fun e => h9.x6.2.2.1 e.symm⟩
/-- the next node has been fetched: the state at the next round's head -/
theorem En.next {B r p rv : Nat} {Z : Nat → Prop} {s : Int → Tm} {t0 : Tm} {R1 : List (List Tm)} {X F : Nat → Prop} {w w5 w6 : World} {nb rb og oc : Nat} {lv : List Nat} {u0 : Int} {m0 : ByteArray} {j0 re1 im1 : Int} {a1 : Option Addr} {l1 c1 : Nat} {k0 : Int} {n0 : ByteArray} {i0 re0 im0 : Int} {a0 : Option Addr} {l0 c0 : Nat} {d : Int} {b : Bool} {o : Obj}
    (h : En B r p rv Z s t0 R1 X F w nb rb og oc lv o) (hB : B ≤ w.heap.size) (hw5 : w5 = w.alloc (NV u0 m0 j0 re1 im1 a1 l1 c1)) (hA : AfterR B r R1 p F w5 k0 n0 i0 re0 im0 a0 l0 c0 d b w6) :
    St B r Z s t0 R1 p rv (((((w6.setCell ⟨w.heap.size, 0, none⟩ (.int .i64 k0)).setCell ⟨w.heap.size, 1, none⟩ (.string n0)).setCell ⟨w.heap.size, 2, none⟩ (.int .i64 i0)).setCell ⟨w.heap.size, 3, none⟩ (.int .u64 re0)).setCell ⟨w.heap.size, 4, none⟩ (.int .u64 im0) |>.setCell ⟨w.heap.size, 5, none⟩ (.slice a0 l0 c0)) w.heap.size rb og oc k0 n0 i0 re0 im0 a0 l0 c0 d b ∧
    Below B w (((((w6.setCell ⟨w.heap.size, 0, none⟩ (.int .i64 k0)).setCell ⟨w.heap.size, 1, none⟩ (.string n0)).setCell ⟨w.heap.size, 2, none⟩ (.int .i64 i0)).setCell ⟨w.heap.size, 3, none⟩ (.int .u64 re0)).setCell ⟨w.heap.size, 4, none⟩ (.int .u64 im0) |>.setCell ⟨w.heap.size, 5, none⟩ (.slice a0 l0 c0)) := by
  obtain ⟨hl, x1, x2, x3, x4, x5, x6, x7, x8, x9⟩ := h
  obtain ⟨hk, hA⟩ := hA
  have s5 : w5.heap.size = w.heap.size + 1 := by rw [hw5, alloc_size]
  have s6 := hk.size
  have at5 : w5.heap[w.heap.size]? = some (NV u0 m0 j0 re1 im1 a1 l1 c1) := by rw [hw5]; exact alloc_at _ _
  have hnF : ¬ F w.heap.size := fun h => by have := (x9.lt _ h).2.2; omega
  have at6 := (hk.block w.heap.size (by omega) hnF).trans at5
  generalize hW : ((((((w6.setCell ⟨w.heap.size, 0, none⟩ (.int .i64 k0)).setCell ⟨w.heap.size, 1, none⟩ (.string n0)).setCell ⟨w.heap.size, 2, none⟩ (.int .i64 i0)).setCell ⟨w.heap.size, 3, none⟩ (.int .u64 re0)).setCell ⟨w.heap.size, 4, none⟩ (.int .u64 im0)).setCell ⟨w.heap.size, 5, none⟩ (.slice a0 l0 c0)) = W
  have k6 : Keep (fun k => k = w.heap.size) w6 W := by rw [← hW]; exact keep_set6 w6 w.heap.size _ _ _ _ _ _
  have s7 := k6.size
  have atW : W.heap[w.heap.size]? = some (NV k0 n0 i0 re0 im0 a0 l0 c0) := by
    have e := fun (w : World) (b i : Nat) (cs : Array Value) (v : Value) (hg : w.heap[b]? = some (.cells cs 36 (0, 0))) => heap_setCell_same w b i cs 36 v hg
    rw [← hW]
    have := e _ _ 5 _ (.slice a0 l0 c0) (e _ _ 4 _ (.int .u64 im0) (e _ _ 3 _ (.int .u64 re0) (e _ _ 2 _ (.int .i64 i0) (e _ _ 1 _ (.string n0) (e w6 w.heap.size 0 _ (.int .i64 k0) at6)))))
    simpa using this
  have kw5 : Keep No w w5 := Keep.of_below (by rw [hw5]; exact ba w _)
  have kw : Keep (fun k => F k ∨ k = w.heap.size) w W := ((kw5.mono (G := fun k => F k ∨ k = w.heap.size) fun _ h => h.elim).trans hk fun k h => Or.inl (Or.inl h)).trans k6 fun k h => Or.inl (Or.inr h)
  have kwF : Keep F w W := ((kw5.mono (G := F) fun _ h => h.elim).trans hk fun k h => Or.inl h).trans k6 fun k h => Or.inr (by omega)
  obtain ⟨bb, done, rw0, M, T, y, ys, hR, hlv, hls⟩ := hl
  have hmem := hls.lvs.mem
  rw [← hlv] at hmem
  refine ⟨?_, kwF.to_below (fun k h => (x9.lt k h).1) hB⟩
  have hLay : Lay B r Z s (sub s t0) (Up B r w X) W rb og oc R1 lv := by
    refine ⟨bb, done, rw0, M, T, y, ys, hR, hlv, hls.keep kwF (fun k h => (x4 k h).1) (fun k hk hF => ?_) (fun hF => (x4 _ hF).2.2.1 rfl) (fun k hk h => (up_iff k hk).1 h) (fun k h _ => Or.inl h) fun k hk => hk.elim (hls.off k) fun h => Or.inr h.2⟩
    rw [← hlv] at hk
    exact (x4 k hF).2.1 hk
  have hogl : og < w.heap.size := (hls.own.lt _ rfl).2
  have hrvl : rv < w.heap.size := (Array.getElem?_eq_some_iff.1 x7).1
  have hrvW : W.heap[rv]? = some ZT := (kwF.block rv hrvl x6.2.2.2.2).trans x7
  have base : ∀ (F' : Nat → Prop), (∀ k, F' k → (F k ∨ w.heap.size + 1 ≤ k) ∧ Off B r k) → ∀ k, F' k → Up B r w X k ∧ k ∉ lv ∧ k ≠ og ∧ k ≠ w.heap.size := by
    intro F' hF' k hk
    obtain ⟨h1, h2⟩ := hF' k hk
    rcases h1 with h1 | h1
    · obtain ⟨a1, a2, a3, a4⟩ := x4 k h1
      exact ⟨Or.inl a1, a2, a3, by have := (x9.lt k h1).2.2; omega⟩
    · exact ⟨Or.inr ⟨by omega, h2⟩, fun hm => by have := (hmem k hm).2; omega, by omega, by omega⟩
  have hXn : Up B r w X w.heap.size := Or.inr ⟨Nat.le_refl _, hB, by omega⟩
  have hnl : w.heap.size ∉ lv := fun hm => by have := (hmem _ hm).2; omega
  rcases hA with ⟨h1, h2⟩ | ⟨R0, E, t', row, F', hR', hE, hd, hb', hL, hW', hF'⟩
  · exact ⟨Up B r w X, F, lv, hLay, hXn, hnl, by omega, base F (fun k h => ⟨Or.inl h, (x9.lt k h).1, (x9.lt k h).2.1⟩), by omega, ⟨Or.inl x6.1, x6.2.1, x6.2.2.1, by omega, x6.2.2.2.2⟩, hrvW, atW, Or.inl ⟨h1, h2⟩⟩
  · refine ⟨Up B r w X, F', lv, hLay, hXn, hnl, by omega, base F' (fun k h => ⟨(hF' k h).imp id fun h => by omega, (hW'.lt k h).1, (hW'.lt k h).2.1⟩), by omega, ⟨Or.inl x6.1, x6.2.1, x6.2.2.1, by omega, fun h => (hF' _ h).elim x6.2.2.2.2 fun h => by omega⟩, hrvW, atW, Or.inr ⟨R0, E, t', row, hR', hE, hd, hb', Lies.keep (k6.mono (G := Off B r) fun k e => e ▸ ⟨hB, by omega⟩) (fun _ _ => id) _ _ hL, hW'.keep k6 (fun k h e => ?_) (fun k e => by subst e; exact ⟨hB, by omega⟩)⟩⟩
    rcases hF' k h with h | h
    · have := (x9.lt k h).2.2; omega
    · omega
/-- a round begins: the place of the node -/
theorem St.take {B r p rv : Nat} {Z : Nat → Prop} {s : Int → Tm} {t0 t : Tm} {R0 E : List (List Tm)} {row : List Tm} {X F : Nat → Prop} {w : World} {nb rb og oc : Nat} {lv : List Nat} {o : Obj} (hl : Lay B r Z s (sub s t0) X w rb og oc (R0 ++ (t :: row) :: E) lv) (hs : Side B r p rv X F w nb og lv (R0 ++ [row] ++ kids t) o) (hE : ∀ x ∈ E, x = []) :
    ∃ (X' : Nat → Prop) (b : Nat) (done : List Tm) (M : List Lev) (ys : List Value) (c : Nat), w.cell? ⟨og, R0.length, none⟩ = some (.slice (some ⟨b, done.length * 6, none⟩) (row.length + 1) c) ∧ w.frozen? ⟨og, R0.length, none⟩ = false ∧ row.length + 1 ≤ c ∧ c ≤ maxLen ∧ R0.length + 1 ≤ oc ∧ og < w.heap.size ∧ b < w.heap.size ∧ b ≠ og ∧ b ≠ nb ∧
      ∀ y, OpenV b (done.length + 1) row y → ∀ w1, w1 = w.setCell ⟨og, R0.length, none⟩ y → Mid B r p rv Z s t0 t R0 row X' F w1 nb rb og oc b done M ys y o := by
  obtain ⟨X', b, done, M, ys, c, h1, h2, h3, h4, h5, h6, h7, h8, h9, h10⟩ := hl.take hE
  obtain ⟨bb, done0, rw0, M0, T, y0, ys0, hR, hlv, hls⟩ := hl
  have hmem := hls.lvs.mem
  rw [← hlv] at hmem
  have hogn := hls.ogn
  rw [← hlv] at hogn
  have hb := h8 b (by simp)
  obtain ⟨x1, x2, x3, x4, x5, x6, x7, x8, x9⟩ := hs
  refine ⟨X', b, done, M, ys, c, h1, h2, h3, h4, h5, h9, (hmem b hb).2, fun e => hogn (e ▸ hb), fun e => x2 (e ▸ hb), fun y hy w1 hw1 => ?_⟩
  obtain ⟨g1, g2, g3, g4, g5, g6⟩ := h10 y hy w1 hw1
  have k1 : Keep (fun k => k = og) w w1 := by rw [hw1]; exact Keep.setCell (F := fun k => k = og) (p := ⟨og, R0.length, none⟩) w rfl y
  refine ⟨g1, hy, g2, g3, g4, g5, g6, fun k hk => hls.off k (h6 k hk), fun k hk => ⟨h7 k (hls.hz k hk).1 fun hm => by rw [hlv] at hm; have := hls.lvo k hm; have := (hls.hz k hk).2; omega, (hls.hz k hk).2⟩, fun k hk => hls.lvo k (by rw [← hlv]; exact h8 k hk), ?_⟩
  have hnb : nb < w.heap.size := (Array.getElem?_eq_some_iff.1 x8).1
  have s1 := k1.size
  refine ⟨h7 nb x1 x2, fun hm => x2 (h8 nb hm), x3, fun k hk => ?_, by omega, ⟨h7 rv x6.1 x6.2.1, fun hm => x6.2.1 (h8 rv hm), x6.2.2⟩, (k1.block rv (Array.getElem?_eq_some_iff.1 x7).1 x6.2.2.1).trans x7, (k1.block nb hnb x3).trans x8, x9.keep k1 (fun k h e => (x4 k h).2.2.1 e) fun k e => by subst e; exact offOf hls.off hls.hz hls.hog (hls.own.lt _ rfl).1⟩
  obtain ⟨a1, a2, a3, a4⟩ := x4 k hk
  exact ⟨h7 k a1 a2, fun hm => a2 (h8 k hm), a3, a4⟩
theorem Mid.place {B r p rv : Nat} {Z : Nat → Prop} {s : Int → Tm} {t0 t : Tm} {R0 : List (List Tm)} {row : List Tm} {X F : Nat → Prop} {w : World} {nb rb og oc b : Nat} {done : List Tm} {M : List Lev} {ys : List Value} {y : Value} {o : Obj}
    (h : Mid B r p rv Z s t0 t R0 row X F w nb rb og oc b done M ys y o) : ∃ cur, w.heap[b]? = some (.cells cur 36 (0, 0)) ∧ done.length * 6 + 6 ≤ cur.size ∧
      ∃ u0 u1 u2 u3 u4 u5, (w.cell? ⟨b, done.length * 6, none⟩ = some u0 ∧ w.cell? ⟨b, done.length * 6 + 1, none⟩ = some u1 ∧ w.cell? ⟨b, done.length * 6 + 2, none⟩ = some u2 ∧ w.cell? ⟨b, done.length * 6 + 3, none⟩ = some u3 ∧ w.cell? ⟨b, done.length * 6 + 4, none⟩ = some u4 ∧ w.cell? ⟨b, done.length * 6 + 5, none⟩ = some u5) ∧
      w.frozen? ⟨b, done.length * 6, none⟩ = false ∧ w.frozen? ⟨b, done.length * 6 + 1, none⟩ = false ∧ w.frozen? ⟨b, done.length * 6 + 2, none⟩ = false ∧ w.frozen? ⟨b, done.length * 6 + 3, none⟩ = false ∧ w.frozen? ⟨b, done.length * 6 + 4, none⟩ = false ∧ w.frozen? ⟨b, done.length * 6 + 5, none⟩ = false := by
  obtain ⟨_, _, cur, hc, hs⟩ := h.lvs.top
  simp only [List.length_cons] at hs
  have e : ∀ j (hj : j < cur.size), w.cell? ⟨b, j, none⟩ = some cur[j] := fun j hj => by simp [World.cell?, hc, hj]
  have f : ∀ j, w.frozen? ⟨b, j, none⟩ = false := fun j => by simp [World.frozen?, hc]
  exact ⟨cur, hc, by omega, _, _, _, _, _, _, ⟨e _ (by omega), e _ (by omega), e _ (by omega), e _ (by omega), e _ (by omega), e _ (by omega)⟩, f _, f _, f _, f _, f _, f _⟩
/-- six cells of another block are set: a node's cells are as they were -/
theorem far6 {w : World} {b nb o : Nat} {k0 : Int} {n0 : ByteArray} {i0 re0 im0 : Int} {a0 : Option Addr} {l0 c0 : Nat} (h : w.heap[nb]? = some (NV k0 n0 i0 re0 im0 a0 l0 c0)) (hne : b ≠ nb) (u0 u1 u2 u3 u4 u5 : Value) :
    ((((((w.setCell ⟨b, o, none⟩ u0).setCell ⟨b, o + 1, none⟩ u1).setCell ⟨b, o + 2, none⟩ u2).setCell ⟨b, o + 3, none⟩ u3).setCell ⟨b, o + 4, none⟩ u4).setCell ⟨b, o + 5, none⟩ u5).cell? ⟨nb, 0, none⟩ = some (.int .i64 k0) ∧
    ((((((w.setCell ⟨b, o, none⟩ u0).setCell ⟨b, o + 1, none⟩ u1).setCell ⟨b, o + 2, none⟩ u2).setCell ⟨b, o + 3, none⟩ u3).setCell ⟨b, o + 4, none⟩ u4).setCell ⟨b, o + 5, none⟩ u5).cell? ⟨nb, 1, none⟩ = some (.string n0) ∧
    ((((((w.setCell ⟨b, o, none⟩ u0).setCell ⟨b, o + 1, none⟩ u1).setCell ⟨b, o + 2, none⟩ u2).setCell ⟨b, o + 3, none⟩ u3).setCell ⟨b, o + 4, none⟩ u4).setCell ⟨b, o + 5, none⟩ u5).cell? ⟨nb, 2, none⟩ = some (.int .i64 i0) ∧
    ((((((w.setCell ⟨b, o, none⟩ u0).setCell ⟨b, o + 1, none⟩ u1).setCell ⟨b, o + 2, none⟩ u2).setCell ⟨b, o + 3, none⟩ u3).setCell ⟨b, o + 4, none⟩ u4).setCell ⟨b, o + 5, none⟩ u5).cell? ⟨nb, 3, none⟩ = some (.int .u64 re0) ∧
    ((((((w.setCell ⟨b, o, none⟩ u0).setCell ⟨b, o + 1, none⟩ u1).setCell ⟨b, o + 2, none⟩ u2).setCell ⟨b, o + 3, none⟩ u3).setCell ⟨b, o + 4, none⟩ u4).setCell ⟨b, o + 5, none⟩ u5).cell? ⟨nb, 4, none⟩ = some (.int .u64 im0) ∧
    ((((((w.setCell ⟨b, o, none⟩ u0).setCell ⟨b, o + 1, none⟩ u1).setCell ⟨b, o + 2, none⟩ u2).setCell ⟨b, o + 3, none⟩ u3).setCell ⟨b, o + 4, none⟩ u4).setCell ⟨b, o + 5, none⟩ u5).cell? ⟨nb, 5, none⟩ = some (.slice a0 l0 c0) := by
  have k6 := set6_keep w b o u0 u1 u2 u3 u4 u5
  have hh := (k6.block nb (Array.getElem?_eq_some_iff.1 h).1 (fun e => hne e.symm)).trans h
  obtain ⟨⟨x0, x1, x2, x3, x4, x5⟩, _⟩ := blk_facts hh
  exact ⟨x0, x1, x2, x3, x4, x5⟩
theorem own6 {w : World} {b o : Nat} {cur : Array Value} {t : TypeId} (h : w.heap[b]? = some (.cells cur t (0, 0))) (hs : o + 6 ≤ cur.size) (u0 u1 u2 u3 u4 u5 : Value) :
    ((((((w.setCell ⟨b, o, none⟩ u0).setCell ⟨b, o + 1, none⟩ u1).setCell ⟨b, o + 2, none⟩ u2).setCell ⟨b, o + 3, none⟩ u3).setCell ⟨b, o + 4, none⟩ u4).setCell ⟨b, o + 5, none⟩ u5).cell? ⟨b, o + 5, none⟩ = some u5 :=
  (set6_six (v0 := u0) (v1 := u1) (v2 := u2) (v3 := u3) (v4 := u4) (v5 := u5) h hs).2.2.2.2.2
theorem farO {w : World} {b og o : Nat} (h : og < w.heap.size) (hne : og ≠ b) (u0 u1 u2 u3 u4 u5 : Value) (ob : Obj) :
    (((((((w.setCell ⟨b, o, none⟩ u0).setCell ⟨b, o + 1, none⟩ u1).setCell ⟨b, o + 2, none⟩ u2).setCell ⟨b, o + 3, none⟩ u3).setCell ⟨b, o + 4, none⟩ u4).setCell ⟨b, o + 5, none⟩ u5).alloc ob).heap[og]? = w.heap[og]? := by
  have k6 := set6_keep w b o u0 u1 u2 u3 u4 u5
  have hs := k6.size
  exact ((ba _ ob).block og (Nat.lt_of_lt_of_le h hs)).trans (k6.block og h hne)
theorem grown3 {w2 w4 : World} {g n c : Nat} {o : Obj} (h : (w2.alloc o).grownBy w4 (Value.slice (some ⟨g, 0, none⟩) n c).ownBlock) : Keep (fun k => k = g) w2 w4 :=
  (Keep.of_below (F := fun k => k = g) (ba w2 o)).trans (Keep.of_grown (F := fun k => k = g) h fun k e => by simpa [Value.ownBlock, eq_comm] using e) fun _ => Or.inl
theorem cell_one_at (w : World) (x : Value) (t : TypeId) (n : Nat) (hn : n = w.heap.size) : ∀ j u, [x][j]? = some u → (w.alloc (.cells #[x] t)).cell? ((⟨n, 0, none⟩ : Addr).add j) = some u := by
  subst hn; exact Go.cell_one_new w x t
end Go.Proofs.Ythableojkjhicaa.rnd
