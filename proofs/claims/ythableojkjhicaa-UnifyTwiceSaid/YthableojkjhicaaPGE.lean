/- The getter of the project: the term that is being told, as an object; how Get goes on by levels. The mathematics. The getter of the project: memory while a term is being told: the term, the row of what is still to be told. The getter of the project: a term told, level by level. The project's Get, with a map that is there and without one; Sound. -/
import Derived.Test.YthableojkjhicaaPGC
import Derived.Test.YthableojkjhicaaWalk
import Derived.Test.YthableojkjhicaaRow
import Derived.Test.YthableojkjhicaaPPA
namespace Go.Proofs.Ythableojkjhicaa.pgt
set_option linter.unusedVariables false
open Go.ChangeShapes Go.WideShapes Go.ChangeAt Go.RowKit Go.Maps
open Go.Proofs.Ythableojkjhicaa.kp Go.Proofs.Ythableojkjhicaa.ob Go.Proofs.Ythableojkjhicaa.pm Go.Proofs.Ythableojkjhicaa.tm Go.Proofs.Ythableojkjhicaa.lie Go.Proofs.Ythableojkjhicaa.pln Go.Proofs.Ythableojkjhicaa.lev Go.Proofs.Ythableojkjhicaa.lay
/-- a row of m places that are open -/
def dum (m : Nat) : List Tm := List.replicate m zero
theorem dum_len (m : Nat) : (dum m).length = m := by simp [dum]
/-- levels that are being laid: the last (block b, what is done, m places open), the ones ahead -/
def LvX (b : Nat) (M : List Lev) (K : Nat → Prop) : Nat → Prop := fun k => ¬ K k ∨ k ∈ b :: M.map (·.1)
def TO (rb b : Nat) (done : List Tm) (m : Nat) (M : List Lev) (R : List Nat) : Ob := fun w K =>
  Lvs (LvX b M K) w rb b done (dum m) M (R.map dum) ∧ (∀ k, K k → k < w.heap.size) ∧ ∀ k ∈ b :: M.map (·.1), K k
theorem frTO {rb b : Nat} {done : List Tm} {m : Nat} {M : List Lev} {R : List Nat} : Fr (TO rb b done m M R) where
  lt h := h.2.1
  keep := by
    rintro w w' K F ⟨h1, h2, h3⟩ k hF
    refine ⟨h1.keep k (G := F) (fun i hi => Or.inl fun hK => hF i hK hi) (fun i hi => ⟨hF i (h3 i hi), Or.inr hi⟩) (fun _ _ => id), fun i hi => by have := h2 i hi; have := k.size; omega, h3⟩
section
variable {rb b : Nat} {done : List Tm} {m : Nat} {M : List Lev} {R : List Nat} {w w' : World} {K : Nat → Prop}
/-- the next place is filled with a term that is told whole -/
theorem TO.fill {t : Tm} {v0 v1 v2 v3 v4 v5 : Value} (h : TO rb b done (m + 1) M R w K) (ht : Lies (LvX b M K) w t (.agg #[v0, v1, v2, v3, v4, v5])) :
    Nx (TO rb b (done ++ [t]) m M R) w K (set6 w b (done.length * 6) v0 v1 v2 v3 v4 v5) := by
  obtain ⟨h1, h2, h3⟩ := h
  have hk := set6_keep w b (done.length * 6) v0 v1 v2 v3 v4 v5
  exact ⟨K, ⟨h1.fill (x := zero) (row := dum m) ht, fun k hK => by have := h2 k hK; have := hk.size; omega, h3⟩, hk.mono fun k e => e ▸ h3 b (by simp), fun _ => Or.inl⟩
/-- a level that is full is closed -/
theorem TO.pop {b1 m1 : Nat} {done1 : List Tm} {nm : ByteArray} (h : TO rb b done 0 ((b1, done1, nm) :: M) (m1 :: R) w K) :
    TO rb b1 (done1 ++ [comp nm done]) m1 M R w K := by
  obtain ⟨h1, h2, h3⟩ := h
  have hnd := h1.nodup
  simp only [List.map_cons, List.nodup_cons] at hnd
  refine ⟨?_, h2, fun k hk => h3 k (by simp only [List.map_cons, List.mem_cons] at hk ⊢; exact Or.inr hk)⟩
  refine (Lvs.pop (row1 := dum m1) h1).keep (Keep.refl No w) (fun _ h => h.elim) (fun k hk => ⟨id, Or.inr hk⟩) (fun k _ hk => ?_)
  rcases hk with hk | hk
  · exact ⟨Or.inl hk, fun e => hk (e ▸ h3 b (by simp))⟩
  · exact ⟨Or.inr (by simp only [List.map_cons, List.mem_cons] at hk ⊢; exact Or.inr hk), fun e => hnd.1 (e ▸ hk)⟩
/-- at the root's end -/
theorem TO.last {t : Tm} (h : TO rb b [t] 0 [] [] w K) : b = rb ∧ ∃ v0 v1 v2 v3 v4 v5, Six w rb 0 v0 v1 v2 v3 v4 v5 ∧ Lies (fun k => ¬ K k ∨ k = rb) w t (.agg #[v0, v1, v2, v3, v4, v5]) := by
  obtain ⟨h1, h2, h3⟩ := h
  obtain ⟨e, _⟩ := h1.mids
  obtain ⟨_, ⟨⟨v0, v1, v2, v3, v4, v5, h6, ht⟩, _⟩, _⟩ := h1.top
  subst e
  exact ⟨rfl, v0, v1, v2, v3, v4, v5, by simpa using h6, ht.off fun k _ hk => hk.imp id fun e => by simp [e]⟩
end
/-- the next place is a compound: its arguments' block comes in -/
theorem TO.push {rb b q : Nat} {done : List Tm} {m n : Nat} {M : List Lev} {R : List Nat} {w : World} {K : Nat → Prop} {nm : ByteArray} (h : Tim (TO rb b done (m + 1) M R) (Blk q (.cells (MC n) 36)) w K) (hf : Fit 5 nm 0 0 0 n n) :
    Nx (TO rb q [] n ((b, done, nm) :: M) (m :: R)) w K (set6 w b (done.length * 6) (.int .i64 5) (.string nm) (.int .i64 0) (.int .u64 0) (.int .u64 0) (.slice (some ⟨q, 0, none⟩) n n)) := by
  obtain ⟨K1, K2, ⟨h1, h2, h3⟩, ⟨hq, hq2⟩, d, e⟩ := h
  have hk := set6_keep w b (done.length * 6) (.int .i64 5) (.string nm) (.int .i64 0) (.int .u64 0) (.int .u64 0) (.slice (some ⟨q, 0, none⟩) n n)
  have hql : q < w.heap.size := (Array.getElem?_eq_some_iff.1 hq).1
  have hnq : ¬ K1 q := fun h => d q h ((hq2 q).2 rfl)
  refine ⟨K, ⟨?_, fun k hK => ?_, fun k hk => ?_⟩, hk.mono fun k e' => e' ▸ (e b).2 (Or.inl (h3 b (by simp))), fun _ => Or.inl⟩
  · have := Lvs.push (x := zero) (row := dum m) (l := dum n) (q := q) (nm := nm) h1 (Or.inl hnq) hq (by rw [MC_size, dum_len]) (fun k hk e' => hnq (e' ▸ h3 k hk)) (by rw [dum_len]; exact hf)
    rw [dum_len] at this
    refine this.keep (Keep.refl No _) (fun _ h => h.elim) (fun k hk => ⟨id, Or.inr hk⟩) (fun k _ hk => ?_)
    rcases hk with hk | hk
    · exact Or.inl fun hK => hk ((e k).2 (Or.inl hK))
    · simp only [List.map_cons, List.mem_cons] at hk
      rcases hk with rfl | hk
      · exact Or.inl hnq
      · exact Or.inr (by simpa using hk)
  · have hs := hk.size
    rcases (e k).1 hK with hK | hK
    · have := h2 k hK; omega
    · have := (hq2 k).1 hK; omega
  · simp only [List.map_cons, List.mem_cons] at hk
    rcases hk with rfl | hk
    · exact (e k).2 (Or.inr ((hq2 k).2 rfl))
    · exact (e k).2 (Or.inl (h3 k (by simpa using hk)))
/-! ### Get by levels -/
/-- a level that is open: its name, what is told, how many are left, where the next stands -/
structure Lf where
  nm : ByteArray
  done : List Tm
  n : Nat
  p : Nat
/-- what comes of a term told, with the levels above it; an error ends it -/
def kont (l : List Int) (a : List ByteArray) : List Lf → Tm × G → Tm × G
  | [], (t, g) => if g.e = 0 then (t, g) else (zero, g)
  | f :: Fs, (t, g) => if g.e = 0 then (match getL (pm.get l a (499 - Fs.length)) l f.n f.p g with
    | (ts, g2) => kont l a Fs (comp f.nm (f.done ++ t :: ts), g2)) else (zero, g)
/-- what comes of a level -/
def kup (l : List Int) (a : List ByteArray) (f : Lf) (Fs : List Lf) (g : G) : Tm × G := match getL (pm.get l a (499 - Fs.length)) l f.n f.p g with
  | (ts, g2) => kont l a Fs (comp f.nm (f.done ++ ts), g2)
theorem kont_err (l : List Int) (a : List ByteArray) (Fs : List Lf) (t : Tm) (g : G) (h : g.e ≠ 0) : kont l a Fs (t, g) = (zero, g) := by
  cases Fs <;> simp only [kont, if_neg h]
theorem kont_cons (l : List Int) (a : List ByteArray) (f : Lf) (Fs : List Lf) (t : Tm) (g : G) (h : g.e = 0) : kont l a (f :: Fs) (t, g) = kup l a ⟨f.nm, f.done ++ [t], f.n, f.p⟩ Fs g := by
  simp only [kont, if_pos h, kup]
  cases getL (pm.get l a (499 - Fs.length)) l f.n f.p g
  simp
theorem kup_zero (l : List Int) (a : List ByteArray) (f : Lf) (Fs : List Lf) (g : G) (h : f.n = 0) : kup l a f Fs g = kont l a Fs (comp f.nm f.done, g) := by
  simp [kup, h, getL]
/-- the next argument -/
theorem kup_succ (l : List Int) (a : List ByteArray) (f : Lf) (Fs : List Lf) (g : G) (n : Nat) (h : f.n = n + 1) (he : g.e = 0) : kup l a f Fs g = kont l a (⟨f.nm, f.done, n, f.p + 1⟩ :: Fs) (pm.get l a (499 - Fs.length) (l.getD f.p 0) g) := by
  unfold kup
  rw [h, getL, if_pos he]
  cases hx : pm.get l a (499 - Fs.length) (l.getD f.p 0) g with
  | mk t g1 =>
    simp only [kont]
    by_cases h1 : g1.e = 0
    · rw [if_pos h1]
    · rw [if_neg h1]
      have hg : getL (pm.get l a (499 - Fs.length)) l n (f.p + 1) g1 = ([], g1) := by
        cases n with
        | zero => rfl
        | succ n => rw [getL, if_neg h1]
      rw [hg]
      exact kont_err l a Fs _ g1 h1
end Go.Proofs.Ythableojkjhicaa.pgt
namespace Go.Proofs.Ythableojkjhicaa.pgt
set_option linter.unusedVariables false
open Go.ChangeShapes Go.WideShapes Go.ChangeAt Go.RowKit Go.Maps
open Go.Proofs.Ythableojkjhicaa.hp Go.Proofs.Ythableojkjhicaa.cel Go.Proofs.Ythableojkjhicaa.kp Go.Proofs.Ythableojkjhicaa.ob Go.Proofs.Ythableojkjhicaa.pm Go.Proofs.Ythableojkjhicaa.tm Go.Proofs.Ythableojkjhicaa.lie Go.Proofs.Ythableojkjhicaa.pln Go.Proofs.Ythableojkjhicaa.lev Go.Proofs.Ythableojkjhicaa.lay Go.Proofs.Ythableojkjhicaa.wlk Go.Proofs.Ythableojkjhicaa.cur
open Go.Proofs.Ythableojkjhicaa.ppt (PO frPO)
open Go.Proofs.Ythableojkjhicaa.rpt (HB frHB CK CK_ne)
open Go.Proofs.Ythableojkjhicaa.rgt (VG frG VI lawI zeroI)
/-- beside the getter: what stands beside, the answer's place, the term that is being told, the row -/
def TL (Cx : Ob) (r0 : Nat) (T : Ob) (v : Value) (n : Nat) (xs : List Value) : Ob := Tim (Tim Cx (Blk r0 ZT)) (Tim T (Row 142 2 v n xs))
theorem frTL {Cx : Ob} {r0 : Nat} {T : Ob} {v : Value} {n : Nat} {xs : List Value} (fC : Fr Cx) (fT : Fr T) : Fr (TL Cx r0 T v n xs) := (fC.tim (Fr.blk _ _)).tim (fT.tim Fr.row)
theorem ix2_rule {g n c k : Nat} (hk : k < n) (w : World) : (Instr.indexAt 137 (.slice (some ⟨g, 0, none⟩) n c) (.int .i64 (k : Int))).run Try.prog w = .ok (.pointer (some ⟨g, k * 2, none⟩)) w := by
  have he : Try.prog.elem 137 = 142 := by kernel_rfl
  have hz : (sizeOf 142).run Try.prog w = .ok 2 w := by kernel_rfl
  rw [run_indexAt_slice w 137 _ _ _ _ _ (by rw [he]; exact Try.underlying137), if_pos ⟨by omega, by omega⟩, he, hz]
  simp [Result.andThen, Addr.add]
  omega
theorem info2 : (Try.prog.info? 142).map (fun i => (i.zero, i.size, i.bytes)) = some (some (.agg #[.slice none 0 0, .int .i64 0]), 2, 32) := by kernel_rfl
theorem cell_two_new2 (w : World) (x0 x1 : Value) (t : TypeId) : ∀ j u, [x0, x1][j]? = some u → (w.alloc (.cells #[x0, x1] t)).cell? ((⟨w.heap.size, 0, none⟩ : Addr).add j) = some u := by
  intro j u hj
  have h := kp.alloc_at w (.cells #[x0, x1] t)
  have e : (⟨w.heap.size, 0, none⟩ : Addr).add j = ⟨w.heap.size, j, none⟩ := by simp [Addr.add]; omega
  rw [e]
  simp only [World.cell?, h]
  simpa using hj
section
variable {p q mb gb r0 : Nat} {l : List Int} {m : Int} {a : List ByteArray} {v0 : List (Int × Int)} {Cx T T' : Ob} {w0 w wr w' : World} {N : Nat → Prop} {v v' : Value} {n n' : Nat} {xs xs' : List Value}
/-- what stands beside the getter, and how it is put back -/
theorem PG.open2 {C : Ob} (h : Nx (PG p q mb gb l m a v0 C) w0 N wr) : ∃ M, C wr M ∧ ∀ C' w', Nx C' wr M w' → Nx (PG p q mb gb l m a v0 C') w0 N w' := by
  obtain ⟨K, t, k, sub⟩ := h
  obtain ⟨M, c, up⟩ := Tim.at2 (frHB.tim (frPO.tim (frG.tim (Fr.blk _ _)))) t
  exact ⟨M, c, fun C' w' n => Nx.trans k sub (up C' w' n)⟩
theorem TL.term (fC : Fr Cx) (h : Nx (PG p q mb gb l m a v0 (TL Cx r0 T v n xs)) w0 N wr) : ∃ M, T wr M ∧ ∀ T' w', Nx T' wr M w' → Nx (PG p q mb gb l m a v0 (TL Cx r0 T' v n xs)) w0 N w' := by
  obtain ⟨M, c, up⟩ := PG.open2 h
  obtain ⟨M2, c2, up2⟩ := Tim.at2 (fC.tim (Fr.blk _ _)) c
  obtain ⟨M3, c3, up3⟩ := Tim.at1 Fr.row c2
  exact ⟨M3, c3, fun T' w' nn => up _ _ (up2 _ _ (up3 _ _ nn))⟩
theorem TL.row (fC : Fr Cx) (fT : Fr T) (h : Nx (PG p q mb gb l m a v0 (TL Cx r0 T v n xs)) w0 N wr) : ∃ M, Row 142 2 v n xs wr M ∧ ∀ v' n' xs' w', Nx (Row 142 2 v' n' xs') wr M w' → Nx (PG p q mb gb l m a v0 (TL Cx r0 T v' n' xs')) w0 N w' := by
  obtain ⟨M, c, up⟩ := PG.open2 h
  obtain ⟨M2, c2, up2⟩ := Tim.at2 (fC.tim (Fr.blk _ _)) c
  obtain ⟨M3, c3, up3⟩ := Tim.at2 fT c2
  exact ⟨M3, c3, fun v' n' xs' w' nn => up _ _ (up2 _ _ (up3 _ _ nn))⟩
theorem TL.two (fC : Fr Cx) (fT : Fr T) {g k c : Nat} {xs0 : List Value} {x0 x1 : Value} (h : Nx (PG p q mb gb l m a v0 (TL Cx r0 T (.slice (some ⟨g, 0, none⟩) (k + 1) c) (k + 1) (xs0 ++ [x0, x1]))) w0 N wr) (hl : xs0.length = k * 2) :
    (wr.cell? ⟨g, k * 2, none⟩ = some x0 ∧ wr.cell? ⟨g, k * 2 + 1, none⟩ = some x1) ∧ (∀ j, wr.frozen? ⟨g, j, none⟩ = false) ∧
      (∀ u, Nx (PG p q mb gb l m a v0 (TL Cx r0 T (.slice (some ⟨g, 0, none⟩) (k + 1) c) (k + 1) (xs0 ++ [u, x1]))) w0 N (wr.setCell ⟨g, k * 2, none⟩ u)) ∧
      (∀ u, Nx (PG p q mb gb l m a v0 (TL Cx r0 T (.slice (some ⟨g, 0, none⟩) (k + 1) c) (k + 1) (xs0 ++ [x0, u]))) w0 N (wr.setCell ⟨g, k * 2 + 1, none⟩ u)) ∧
      Nx (PG p q mb gb l m a v0 (TL Cx r0 T (.slice (some ⟨g, 0, none⟩) k c) k xs0)) w0 N wr ∧ k + 1 ≤ c := by
  obtain ⟨M, ⟨hr, hM⟩, up⟩ := TL.row fC fT h
  rcases hr.2 with ⟨_, e0⟩ | ⟨g', c', cur, hv, _, hg, hc, _⟩
  · simp at e0
  injection hv with hv1 _ hv3
  injection hv1 with hv1
  injection hv1 with hv1
  subst hv1; subst hv3
  have hat : ∀ j, j < 2 → wr.cell? ⟨g, k * 2 + j, none⟩ = [x0, x1][j]? := fun j hj => by
    rw [hr.cellAt _ (by omega), List.getElem?_append_right (by omega), hl]
    congr 1; omega
  have hu : ∀ j u, j < 2 → Nx (PG p q mb gb l m a v0 (TL Cx r0 T (.slice (some ⟨g, 0, none⟩) (k + 1) c) (k + 1) (xs0 ++ [x0, x1].set j u))) w0 N (wr.setCell ⟨g, k * 2 + j, none⟩ u) := fun j u hj => by
    refine up _ _ _ _ ⟨M, ⟨?_, hM⟩, kp.Keep.setCell wr ((hM g).2 rfl) u, fun _ => Or.inl⟩
    have := (hr.stored (k * 2 + j) u).1
    rw [List.set_append_right _ _ (by omega), hl, Nat.add_sub_cancel_left] at this
    exact this
  refine ⟨⟨hat 0 (by omega), hat 1 (by omega)⟩, hr.frozenAt, fun u => hu 0 u (by omega), fun u => hu 1 u (by omega), ?_, hc⟩
  refine up _ _ _ _ ⟨M, ⟨?_, fun k => by rw [hM k]; rfl⟩, kp.Keep.refl _ _, fun _ => Or.inl⟩
  have := own_cut hr (k := k) (by omega)
  rw [List.take_append_of_le_length (by omega), List.take_of_length_le (by omega)] at this
  exact this
/-- the slice of a row that is not empty -/
theorem TL.shape (fC : Fr Cx) (fT : Fr T) {k : Nat} (h : Nx (PG p q mb gb l m a v0 (TL Cx r0 T v (k + 1) xs)) w0 N wr) : ∃ g c, v = .slice (some ⟨g, 0, none⟩) (k + 1) c ∧ k + 1 ≤ c := by
  obtain ⟨M, ⟨hr, hM⟩, up⟩ := TL.row fC fT h
  rcases hr.2 with ⟨_, e0⟩ | ⟨g, c, cur, hv, _, hg, hc, _⟩
  · simp at e0
  · exact ⟨g, c, hv, hc⟩
/-- the getter, the answer's place, the term's last level, the row: none is another -/
theorem TL.apart {rb b : Nat} {done : List Tm} {k : Nat} {M : List Lev} {R : List Nat} {g c n2 : Nat} (h : Nx (PG p q mb gb l m a v0 (TL Cx r0 (TO rb b done k M R) (.slice (some ⟨g, 0, none⟩) n2 c) n xs)) w0 N wr) :
    g ≠ gb ∧ g ≠ r0 ∧ g ≠ b ∧ b ≠ gb ∧ b ≠ r0 ∧ r0 ≠ gb ∧ g < wr.heap.size ∧ b < wr.heap.size := by
  obtain ⟨K, ⟨K1, K2, ⟨_, _, _, ⟨_, _, _, ⟨_, Kg, _, ⟨_, fg⟩, dg, eg⟩, dn, en⟩, dh, eh⟩, ⟨K3, K4, ⟨_, Kr, _, ⟨hr0, fr⟩, dr, er⟩, ⟨K5, K6, ⟨_, hlt, hb⟩, ⟨hrow, frow⟩, dt, et⟩, dc, ec⟩, d, e⟩, _⟩ := h
  have hgb : K1 gb := (eh _).2 (Or.inr ((en _).2 (Or.inr ((eg _).2 (Or.inr ((fg _).2 rfl))))))
  have hr : K3 r0 := (er _).2 (Or.inr ((fr _).2 rfl))
  have hg : K6 g := (frow g).2 rfl
  have hb' : K5 b := hb b (by simp)
  have hg4 : K4 g := (et g).2 (Or.inr hg)
  have hb4 : K4 b := (et b).2 (Or.inl hb')
  refine ⟨fun h => d gb hgb (h ▸ (ec g).2 (Or.inr hg4)), fun h => dc r0 hr (h ▸ hg4), fun h => dt b hb' (h ▸ hg), fun h => d gb hgb (h ▸ (ec b).2 (Or.inr hb4)), fun h => dc r0 hr (h ▸ hb4), fun h => d gb hgb (h ▸ (ec r0).2 (Or.inl hr)), (hrow.lt g rfl).2, hlt b hb'⟩
/-- the answer's place -/
theorem TL.res (h : Nx (PG p q mb gb l m a v0 (TL Cx r0 T v n xs)) w0 N wr) : wr.heap[r0]? = some ZT := by
  obtain ⟨K, ⟨K1, K2, _, ⟨K3, K4, ⟨_, Kr, _, ⟨hr0, fr⟩, dr, er⟩, _⟩, _⟩, _⟩ := h
  exact hr0
end
end Go.Proofs.Ythableojkjhicaa.pgt
namespace Go.Proofs.Ythableojkjhicaa.pgt
set_option linter.unusedVariables false
open Go.ChangeShapes Go.WideShapes Go.ChangeAt Go.RowKit Go.Maps
open Go.Proofs.Ythableojkjhicaa.hp Go.Proofs.Ythableojkjhicaa.cel Go.Proofs.Ythableojkjhicaa.kp Go.Proofs.Ythableojkjhicaa.ob Go.Proofs.Ythableojkjhicaa.pm Go.Proofs.Ythableojkjhicaa.tm Go.Proofs.Ythableojkjhicaa.lie Go.Proofs.Ythableojkjhicaa.pln Go.Proofs.Ythableojkjhicaa.lev Go.Proofs.Ythableojkjhicaa.lay Go.Proofs.Ythableojkjhicaa.wlk Go.Proofs.Ythableojkjhicaa.cur
open Go.Proofs.Ythableojkjhicaa.ppt (PO frPO wp_scope_du du)
open Go.Proofs.Ythableojkjhicaa.rpt (HB frHB CK CK_ne)
open Go.Proofs.Ythableojkjhicaa.rgt (VG frG VI lawI zeroI)
/-! ### the levels that are open -/
def lblk (rb : Nat) : List (Lf × Nat) → Nat
  | [] => rb
  | (_, b) :: _ => b
def ldone : List (Lf × Nat) → List Tm
  | [] => []
  | (f, _) :: _ => f.done
def lm : List (Lf × Nat) → Nat
  | [] => 0
  | (f, _) :: _ => f.n
def lM (rb : Nat) : List (Lf × Nat) → List Lev
  | [] => []
  | (f, _) :: r => (lblk rb r, ldone r, f.nm) :: lM rb r
def lR : List (Lf × Nat) → List Nat
  | [] => []
  | _ :: r => lm r :: lR r
/-- the next place of the last level is to be filled -/
def ldown (rb : Nat) (Fs : List (Lf × Nat)) : Ob := TO rb (lblk rb Fs) (ldone Fs) (lm Fs + 1) (lM rb Fs) (lR Fs)
/-- it holds a term that is told whole -/
def ltold (rb : Nat) (t : Tm) (Fs : List (Lf × Nat)) : Ob := TO rb (lblk rb Fs) (ldone Fs ++ [t]) (lm Fs) (lM rb Fs) (lR Fs)
/-- the row's cells, the lowest first -/
def VS : List (Lf × Nat) → List Value → Prop
  | [], xs => xs = []
  | (f, b) :: r, xs => ∃ xs0 y, xs = xs0 ++ [y, .int .i64 (f.p : Int)] ∧ OpenV b (f.done.length + 1) (dum f.n) y ∧ f.p + f.n ≤ 1048576 ∧ VS r xs0
theorem VS.len : ∀ {l : List (Lf × Nat)} {xs : List Value} (_ : VS l xs), xs.length = l.length * 2
  | [], xs, h => by rw [VS] at h; subst h; rfl
  | (f, b) :: r, xs, h => by
    rw [VS] at h
    obtain ⟨xs0, y, rfl, _, _, h⟩ := h
    have := VS.len h
    simp only [List.length_append, List.length_cons, List.length_nil, this]; omega
/-- the frame on top: a node that has no arguments, or a compound -/
def Top (l : List Int) (a : List ByteArray) (rb : Nat) (R : Tm × G) (Fs : List (Lf × Nat)) (g : G) (T : Ob) (y : Value) (pz : Int) : Prop :=
  (∃ t, T = ltold rb t Fs ∧ y = .slice none 0 0 ∧ pz = 0 ∧ kont l a (Fs.map (·.1)) (t, g) = R) ∨
  (∃ f b, T = TO rb b f.done f.n ((lblk rb Fs, ldone Fs, f.nm) :: lM rb Fs) (lm Fs :: lR Fs) ∧ OpenV b f.done.length (dum f.n) y ∧ pz = f.p ∧ f.p + f.n ≤ 1048576 ∧ kup l a f (Fs.map (·.1)) g = R)
/-- a term that is told, alone -/
def OT (t : Tm) (v : Value) : Ob := fun w K => Lies (fun k => ¬ K k) w t v ∧ ∀ k, K k → k < w.heap.size
theorem frOT {t : Tm} {v : Value} : Fr (OT t v) where
  lt h := h.2
  keep := by
    rintro w w' K F ⟨h1, h2⟩ k hF
    exact ⟨Lies.keep (k.mono (G := fun k => ¬ K k) fun i hi hK => hF i hK hi) (fun _ _ => id) _ _ h1, fun i hi => by have := h2 i hi; have := k.size; omega⟩
def J0 (w0 : World) (N : Nat → Prop) (p q mb gb r0 rb : Nat) (l : List Int) (m : Int) (a : List ByteArray) (Cx : Ob) (V0 : Nat) (R : Tm × G) (n : Nat) (a' : Act) (w' : World) : Prop :=
  ∃ (Fs : List (Lf × Nat)) (c : Int) (xs : List Value) (v : Value) (g : G) (U : Nat → Value), n = 3 * (2001 - g.n) + Fs.length ∧ g.e = 0 ∧ g.n ≤ 2000 ∧ VOK g.v ∧ g.v.length ≤ V0 + g.n ∧ Fs.length ≤ 500 ∧ VS Fs xs ∧ W64 c ∧ kont l a (Fs.map (·.1)) (pm.get l a (500 - Fs.length) c g) = R ∧ Nx (PG p q mb gb l m a g.v (TL Cx r0 (ldown rb Fs) v Fs.length xs)) w0 N w' ∧ a' = { tmps := (.pointer (some ⟨gb, 0, none⟩) :: .int .u64 c :: U 2 :: U 3 :: .pointer (some ⟨r0, 0, none⟩) :: .int .i64 0 :: .pointer (some ⟨rb, 0, none⟩) :: v :: .pointer (some ⟨lblk rb Fs, (ldone Fs).length * 6, none⟩) :: .int .i64 (g.n : Int) :: U 10 :: U 11 :: U 12 :: U 13 :: U 14 :: U 15 :: U 16 :: U 17 :: U 18 :: U 19 :: U 20 :: U 21 :: U 22 :: U 23 :: U 24 :: U 25 :: U 26 :: U 27 :: U 28 :: U 29 :: U 30 :: U 31 :: U 32 :: U 33 :: U 34 :: U 35 :: U 36 :: U 37 :: U 38 :: U 39 :: U 40 :: U 41 :: U 42 :: U 43 :: U 44 :: U 45 :: U 46 :: U 47 :: U 48 :: U 49 :: U 50 :: U 51 :: U 52 :: U 53 :: U 54 :: U 55 :: U 56 :: U 57 :: U 58 :: U 59 :: U 60 :: U 61 :: U 62 :: U 63 :: U 64 :: U 65 :: U 66 :: U 67 :: U 68 :: U 69 :: U 70 :: U 71 :: U 72 :: U 73 :: U 74 :: U 75 :: U 76 :: U 77 :: U 78 :: U 79 :: U 80 :: U 81 :: U 82 :: U 83 :: U 84 :: U 85 :: U 86 :: U 87 :: U 88 :: U 89 :: U 90 :: U 91 :: U 92 :: U 93 :: U 94 :: U 95 :: U 96 :: U 97 :: U 98 :: U 99 :: U 100 :: []).toArray, defers := [] }
theorem J0.mk {w0 : World} {N : Nat → Prop} {p q mb gb r0 rb : Nat} {l : List Int} {m : Int} {a : List ByteArray} {Cx : Ob} {V0 : Nat} {R : Tm × G} {n : Nat} {a' : Act} {w' : World} (Fs : List (Lf × Nat)) (c : Int) (xs : List Value) (v : Value) (g : G) (h0 : n = 3 * (2001 - g.n) + Fs.length) (h1 : g.e = 0) (h2 : g.n ≤ 2000) (h3 : VOK g.v) (h4 : g.v.length ≤ V0 + g.n) (h5 : Fs.length ≤ 500) (h6 : VS Fs xs) (h7 : W64 c) (h8 : kont l a (Fs.map (·.1)) (pm.get l a (500 - Fs.length) c g) = R) (h9 : Nx (PG p q mb gb l m a g.v (TL Cx r0 (ldown rb Fs) v Fs.length xs)) w0 N w') (h : a' = { tmps := (.pointer (some ⟨gb, 0, none⟩) :: .int .u64 c :: a'.tmps.getD 2 undef :: a'.tmps.getD 3 undef :: .pointer (some ⟨r0, 0, none⟩) :: .int .i64 0 :: .pointer (some ⟨rb, 0, none⟩) :: v :: .pointer (some ⟨lblk rb Fs, (ldone Fs).length * 6, none⟩) :: .int .i64 (g.n : Int) :: a'.tmps.getD 10 undef :: a'.tmps.getD 11 undef :: a'.tmps.getD 12 undef :: a'.tmps.getD 13 undef :: a'.tmps.getD 14 undef :: a'.tmps.getD 15 undef :: a'.tmps.getD 16 undef :: a'.tmps.getD 17 undef :: a'.tmps.getD 18 undef :: a'.tmps.getD 19 undef :: a'.tmps.getD 20 undef :: a'.tmps.getD 21 undef :: a'.tmps.getD 22 undef :: a'.tmps.getD 23 undef :: a'.tmps.getD 24 undef :: a'.tmps.getD 25 undef :: a'.tmps.getD 26 undef :: a'.tmps.getD 27 undef :: a'.tmps.getD 28 undef :: a'.tmps.getD 29 undef :: a'.tmps.getD 30 undef :: a'.tmps.getD 31 undef :: a'.tmps.getD 32 undef :: a'.tmps.getD 33 undef :: a'.tmps.getD 34 undef :: a'.tmps.getD 35 undef :: a'.tmps.getD 36 undef :: a'.tmps.getD 37 undef :: a'.tmps.getD 38 undef :: a'.tmps.getD 39 undef :: a'.tmps.getD 40 undef :: a'.tmps.getD 41 undef :: a'.tmps.getD 42 undef :: a'.tmps.getD 43 undef :: a'.tmps.getD 44 undef :: a'.tmps.getD 45 undef :: a'.tmps.getD 46 undef :: a'.tmps.getD 47 undef :: a'.tmps.getD 48 undef :: a'.tmps.getD 49 undef :: a'.tmps.getD 50 undef :: a'.tmps.getD 51 undef :: a'.tmps.getD 52 undef :: a'.tmps.getD 53 undef :: a'.tmps.getD 54 undef :: a'.tmps.getD 55 undef :: a'.tmps.getD 56 undef :: a'.tmps.getD 57 undef :: a'.tmps.getD 58 undef :: a'.tmps.getD 59 undef :: a'.tmps.getD 60 undef :: a'.tmps.getD 61 undef :: a'.tmps.getD 62 undef :: a'.tmps.getD 63 undef :: a'.tmps.getD 64 undef :: a'.tmps.getD 65 undef :: a'.tmps.getD 66 undef :: a'.tmps.getD 67 undef :: a'.tmps.getD 68 undef :: a'.tmps.getD 69 undef :: a'.tmps.getD 70 undef :: a'.tmps.getD 71 undef :: a'.tmps.getD 72 undef :: a'.tmps.getD 73 undef :: a'.tmps.getD 74 undef :: a'.tmps.getD 75 undef :: a'.tmps.getD 76 undef :: a'.tmps.getD 77 undef :: a'.tmps.getD 78 undef :: a'.tmps.getD 79 undef :: a'.tmps.getD 80 undef :: a'.tmps.getD 81 undef :: a'.tmps.getD 82 undef :: a'.tmps.getD 83 undef :: a'.tmps.getD 84 undef :: a'.tmps.getD 85 undef :: a'.tmps.getD 86 undef :: a'.tmps.getD 87 undef :: a'.tmps.getD 88 undef :: a'.tmps.getD 89 undef :: a'.tmps.getD 90 undef :: a'.tmps.getD 91 undef :: a'.tmps.getD 92 undef :: a'.tmps.getD 93 undef :: a'.tmps.getD 94 undef :: a'.tmps.getD 95 undef :: a'.tmps.getD 96 undef :: a'.tmps.getD 97 undef :: a'.tmps.getD 98 undef :: a'.tmps.getD 99 undef :: a'.tmps.getD 100 undef :: []).toArray, defers := [] }) : J0 w0 N p q mb gb r0 rb l m a Cx V0 R n a' w' :=
  ⟨Fs, c, xs, v, g, fun i => a'.tmps.getD i undef, h0, h1, h2, h3, h4, h5, h6, h7, h8, h9, h⟩
def J1 (w0 : World) (N : Nat → Prop) (p q mb gb r0 rb : Nat) (l : List Int) (m : Int) (a : List ByteArray) (Cx : Ob) (V0 : Nat) (R : Tm × G) (n : Nat) (a' : Act) (w' : World) : Prop :=
  ∃ (Fs : List (Lf × Nat)) (T : Ob) (y : Value) (pz : Int) (xs : List Value) (v : Value) (g : G) (U : Nat → Value), n = 3 * (2001 - g.n) + Fs.length + 2 ∧ g.e = 0 ∧ g.n ≤ 2000 ∧ VOK g.v ∧ g.v.length ≤ V0 + g.n ∧ Fs.length + 1 ≤ 500 ∧ VS Fs xs ∧ Top l a rb R Fs g T y pz ∧ Nx (PG p q mb gb l m a g.v (TL Cx r0 T v (Fs.length + 1) (xs ++ [y, .int .i64 pz]))) w0 N w' ∧ a' = { tmps := (.pointer (some ⟨gb, 0, none⟩) :: U 1 :: U 2 :: U 3 :: .pointer (some ⟨r0, 0, none⟩) :: .int .i64 0 :: .pointer (some ⟨rb, 0, none⟩) :: v :: U 8 :: .int .i64 (g.n : Int) :: U 10 :: U 11 :: U 12 :: U 13 :: U 14 :: U 15 :: U 16 :: U 17 :: U 18 :: U 19 :: U 20 :: U 21 :: U 22 :: U 23 :: U 24 :: U 25 :: U 26 :: U 27 :: U 28 :: U 29 :: U 30 :: U 31 :: U 32 :: U 33 :: U 34 :: U 35 :: U 36 :: U 37 :: U 38 :: U 39 :: U 40 :: U 41 :: U 42 :: U 43 :: U 44 :: U 45 :: U 46 :: U 47 :: U 48 :: U 49 :: U 50 :: U 51 :: U 52 :: U 53 :: U 54 :: U 55 :: U 56 :: U 57 :: U 58 :: U 59 :: U 60 :: U 61 :: U 62 :: U 63 :: U 64 :: U 65 :: U 66 :: U 67 :: U 68 :: U 69 :: U 70 :: U 71 :: U 72 :: U 73 :: U 74 :: U 75 :: U 76 :: U 77 :: U 78 :: U 79 :: U 80 :: U 81 :: U 82 :: U 83 :: U 84 :: U 85 :: U 86 :: U 87 :: U 88 :: U 89 :: U 90 :: U 91 :: U 92 :: U 93 :: U 94 :: U 95 :: U 96 :: U 97 :: U 98 :: U 99 :: U 100 :: []).toArray, defers := [] }
theorem J1.mk {w0 : World} {N : Nat → Prop} {p q mb gb r0 rb : Nat} {l : List Int} {m : Int} {a : List ByteArray} {Cx : Ob} {V0 : Nat} {R : Tm × G} {n : Nat} {a' : Act} {w' : World} (Fs : List (Lf × Nat)) (T : Ob) (y : Value) (pz : Int) (xs : List Value) (v : Value) (g : G) (h0 : n = 3 * (2001 - g.n) + Fs.length + 2) (h1 : g.e = 0) (h2 : g.n ≤ 2000) (h3 : VOK g.v) (h4 : g.v.length ≤ V0 + g.n) (h5 : Fs.length + 1 ≤ 500) (h6 : VS Fs xs) (h7 : Top l a rb R Fs g T y pz) (h8 : Nx (PG p q mb gb l m a g.v (TL Cx r0 T v (Fs.length + 1) (xs ++ [y, .int .i64 pz]))) w0 N w') (h : a' = { tmps := (.pointer (some ⟨gb, 0, none⟩) :: a'.tmps.getD 1 undef :: a'.tmps.getD 2 undef :: a'.tmps.getD 3 undef :: .pointer (some ⟨r0, 0, none⟩) :: .int .i64 0 :: .pointer (some ⟨rb, 0, none⟩) :: v :: a'.tmps.getD 8 undef :: .int .i64 (g.n : Int) :: a'.tmps.getD 10 undef :: a'.tmps.getD 11 undef :: a'.tmps.getD 12 undef :: a'.tmps.getD 13 undef :: a'.tmps.getD 14 undef :: a'.tmps.getD 15 undef :: a'.tmps.getD 16 undef :: a'.tmps.getD 17 undef :: a'.tmps.getD 18 undef :: a'.tmps.getD 19 undef :: a'.tmps.getD 20 undef :: a'.tmps.getD 21 undef :: a'.tmps.getD 22 undef :: a'.tmps.getD 23 undef :: a'.tmps.getD 24 undef :: a'.tmps.getD 25 undef :: a'.tmps.getD 26 undef :: a'.tmps.getD 27 undef :: a'.tmps.getD 28 undef :: a'.tmps.getD 29 undef :: a'.tmps.getD 30 undef :: a'.tmps.getD 31 undef :: a'.tmps.getD 32 undef :: a'.tmps.getD 33 undef :: a'.tmps.getD 34 undef :: a'.tmps.getD 35 undef :: a'.tmps.getD 36 undef :: a'.tmps.getD 37 undef :: a'.tmps.getD 38 undef :: a'.tmps.getD 39 undef :: a'.tmps.getD 40 undef :: a'.tmps.getD 41 undef :: a'.tmps.getD 42 undef :: a'.tmps.getD 43 undef :: a'.tmps.getD 44 undef :: a'.tmps.getD 45 undef :: a'.tmps.getD 46 undef :: a'.tmps.getD 47 undef :: a'.tmps.getD 48 undef :: a'.tmps.getD 49 undef :: a'.tmps.getD 50 undef :: a'.tmps.getD 51 undef :: a'.tmps.getD 52 undef :: a'.tmps.getD 53 undef :: a'.tmps.getD 54 undef :: a'.tmps.getD 55 undef :: a'.tmps.getD 56 undef :: a'.tmps.getD 57 undef :: a'.tmps.getD 58 undef :: a'.tmps.getD 59 undef :: a'.tmps.getD 60 undef :: a'.tmps.getD 61 undef :: a'.tmps.getD 62 undef :: a'.tmps.getD 63 undef :: a'.tmps.getD 64 undef :: a'.tmps.getD 65 undef :: a'.tmps.getD 66 undef :: a'.tmps.getD 67 undef :: a'.tmps.getD 68 undef :: a'.tmps.getD 69 undef :: a'.tmps.getD 70 undef :: a'.tmps.getD 71 undef :: a'.tmps.getD 72 undef :: a'.tmps.getD 73 undef :: a'.tmps.getD 74 undef :: a'.tmps.getD 75 undef :: a'.tmps.getD 76 undef :: a'.tmps.getD 77 undef :: a'.tmps.getD 78 undef :: a'.tmps.getD 79 undef :: a'.tmps.getD 80 undef :: a'.tmps.getD 81 undef :: a'.tmps.getD 82 undef :: a'.tmps.getD 83 undef :: a'.tmps.getD 84 undef :: a'.tmps.getD 85 undef :: a'.tmps.getD 86 undef :: a'.tmps.getD 87 undef :: a'.tmps.getD 88 undef :: a'.tmps.getD 89 undef :: a'.tmps.getD 90 undef :: a'.tmps.getD 91 undef :: a'.tmps.getD 92 undef :: a'.tmps.getD 93 undef :: a'.tmps.getD 94 undef :: a'.tmps.getD 95 undef :: a'.tmps.getD 96 undef :: a'.tmps.getD 97 undef :: a'.tmps.getD 98 undef :: a'.tmps.getD 99 undef :: a'.tmps.getD 100 undef :: []).toArray, defers := [] }) : J1 w0 N p q mb gb r0 rb l m a Cx V0 R n a' w' :=
  ⟨Fs, T, y, pz, xs, v, g, fun i => a'.tmps.getD i undef, h0, h1, h2, h3, h4, h5, h6, h7, h8, h⟩
theorem TO.new {w : World} {rb : Nat} {K : Nat → Prop} (h : Blk rb ZT w K) : TO rb rb [] 1 [] [] w K := by
  obtain ⟨h1, h2⟩ := h
  have hlt := (Array.getElem?_eq_some_iff.1 h1).1
  refine ⟨⟨⟨Or.inr (by simp), trivial, _, h1, by simp [dum]⟩, ⟨rfl, by simp [dum]⟩, by simp⟩, fun k hk => by have := (h2 k).1 hk; omega, fun k hk => (h2 k).2 (by simpa using hk)⟩
section
variable {p q mb gb : Nat} {l : List Int} {m : Int} {a : List ByteArray} {v : List (Int × Int)} {Cx : Ob} {w0 w : World} {N : Nat → Prop}
theorem TL.begin {r0 rb : Nat} {w2 : World} (h : Nx (Tim (Tim (PG p q mb gb l m a v Cx) (Blk r0 ZT)) (Blk rb ZT)) w0 N w2) : Nx (PG p q mb gb l m a v (TL Cx r0 (ldown rb []) (.slice none 0 0) 0 [])) w0 N w2 := by
  refine Nx.imp_ h fun K h => ?_
  have h1 := Tim.right_ (Tim.right_ h)
  refine h1.map2 fun K h => ?_
  refine (Tim.lft h).map2 fun K h => ?_
  exact ⟨K, fun _ => False, TO.new h, Row.nil _, fun _ _ => id, fun k => by simp⟩
/-- the whole term is told -/
theorem TL.fin (fC : Fr Cx) {r0 rb n : Nat} {w9 : World} {t : Tm} {v9 : Value} {xs : List Value} (h : Nx (PG p q mb gb l m a v (TL Cx r0 (ltold rb t []) v9 n xs)) w0 N w9) : ∃ k nm i re im sa sl sc,
    Six w9 rb 0 (.int .i64 k) (.string nm) (.int .i64 i) (.int .u64 re) (.int .u64 im) (.slice sa sl sc) ∧ Nx (Tim (Tim (PG p q mb gb l m a v Cx) (OT t (nv6 k nm i re im (.slice sa sl sc)))) (Blk r0 ZT)) w0 N w9 := by
  obtain ⟨M, hT, up⟩ := TL.term fC h
  obtain ⟨_, v0, v1, v2, v3, v4, v5, h6, hL⟩ := hT.last
  obtain ⟨k, nm, i, re, im, sa, sl, sc, ⟨rfl, rfl, rfl, rfl, rfl, rfl⟩, _⟩ := rws.lies_form hL
  refine ⟨k, nm, i, re, im, sl, sa, sc, h6, ?_⟩
  have h1 := up (OT t (nv6 k nm i re im (.slice sl sa sc))) w9 ⟨M, ⟨hL.off fun k _ h => Or.inl h, hT.2.1⟩, Keep.refl _ _, fun _ => Or.inl⟩
  refine Nx.imp_ (Nx.fst_ (B := Row 142 2 v9 n xs) (Nx.imp_ h1 fun K h => ?_)) fun K h => Tim.rot h
  exact Tim.lft (Tim.map1 (fun K h => Tim.lft h) (Tim.lft h))
theorem ix0_rule (b o n c : Nat) (w : World) : (Instr.indexAt 34 (.slice (some ⟨b, o, none⟩) (n + 1) c) (.int .i64 0)).run Try.prog w = .ok (.pointer (some ⟨b, o, none⟩)) w := by
  have he : Try.prog.elem 34 = 36 := by kernel_rfl
  have hz : (sizeOf 36).run Try.prog w = .ok 6 w := by kernel_rfl
  rw [run_indexAt_slice w 34 _ _ _ _ _ (by rw [he]; exact Try.underlying34), if_pos ⟨by omega, by omega⟩, he, hz]
  simp [Result.andThen, Addr.add]
theorem gv_getD (l : List Int) (p : Nat) : gv l (p : Int) = l.getD p 0 := by
  unfold gv
  by_cases h : p < l.length
  · rw [if_pos ⟨by omega, by omega⟩]; simp
  · rw [if_neg (by omega), List.getD_eq_getElem?_getD, List.getElem?_eq_none (by omega)]; rfl
theorem TL.drop (fC : Fr Cx) {r0 n : Nat} {w9 : World} {T : Ob} {v9 : Value} {xs : List Value} (h : Nx (PG p q mb gb l m a v (TL Cx r0 T v9 n xs)) w0 N w9) : Nx (Tim (PG p q mb gb l m a v Cx) (Blk r0 ZT)) w0 N w9 :=
  Nx.imp_ (Nx.fst_ (B := Tim T (Row 142 2 v9 n xs)) (Nx.imp_ h fun K h => Tim.lft h)) fun K h => Tim.lft h
theorem get_long (l : List Int) (a : List ByteArray) (r : Nat) (c : Int) (g : G) (he : g.e = 0) (h : r = 0 ∨ 2000 ≤ g.n) : pm.get l a r c g = (zero, ⟨g.n + 1, g.v, 3⟩) := by
  cases r with
  | zero => rw [pm.get, if_pos he]
  | succ r => rw [pm.get, if_pos he, if_pos (h.resolve_left (by omega))]
theorem TO.place {rb b m : Nat} {done : List Tm} {M : List Lev} {R : List Nat} {w9 : World} {K : Nat → Prop} (h : TO rb b done (m + 1) M R w9 K) : ∃ u0 u1 u2 u3 u4 u5, (w9.cell? ⟨b, done.length * 6, none⟩ = some u0 ∧ w9.cell? ⟨b, done.length * 6 + 1, none⟩ = some u1 ∧ w9.cell? ⟨b, done.length * 6 + 2, none⟩ = some u2 ∧ w9.cell? ⟨b, done.length * 6 + 3, none⟩ = some u3 ∧ w9.cell? ⟨b, done.length * 6 + 4, none⟩ = some u4 ∧ w9.cell? ⟨b, done.length * 6 + 5, none⟩ = some u5) ∧
      w9.frozen? ⟨b, done.length * 6, none⟩ = false ∧ w9.frozen? ⟨b, done.length * 6 + 1, none⟩ = false ∧ w9.frozen? ⟨b, done.length * 6 + 2, none⟩ = false ∧ w9.frozen? ⟨b, done.length * 6 + 3, none⟩ = false ∧ w9.frozen? ⟨b, done.length * 6 + 4, none⟩ = false ∧ w9.frozen? ⟨b, done.length * 6 + 5, none⟩ = false := by
  obtain ⟨_, _, cur, hc, hs⟩ := h.1.top
  rw [dum_len] at hs
  have e : ∀ j (hj : j < cur.size), w9.cell? ⟨b, j, none⟩ = some cur[j] := fun j hj => by simp [World.cell?, hc, hj]
  have f : ∀ j, w9.frozen? ⟨b, j, none⟩ = false := fun j => by simp [World.frozen?, hc]
  exact ⟨_, _, _, _, _, _, ⟨e _ (by omega), e _ (by omega), e _ (by omega), e _ (by omega), e _ (by omega), e _ (by omega)⟩, f _, f _, f _, f _, f _, f _⟩
/-- what tell answers -/
def TellP (R : Tm × G) (p q mb gb : Nat) (l : List Int) (m : Int) (a : List ByteArray) (Cx : Ob) (w0 : World) (N : Nat → Prop) (e : Ending) (w' : World) : Prop :=
  (R.2.e = 0 ∧ ∃ val, e = .returned (.tuple #[val, .int .i64 0]) ∧ Nx (Tim (PG p q mb gb l m a R.2.v Cx) (OT R.1 val)) w0 N w') ∨
  (R.2.e ≠ 0 ∧ e = .returned (.tuple #[zv, .int .i64 R.2.e]) ∧ Nx (PG p q mb gb l m a R.2.v Cx) w0 N w')
set_option maxRecDepth 100000 in
set_option maxHeartbeats 4000000 in
theorem tell_any (fC : Fr Cx) (c : Int) (hc : W64 c) (ha : a.length ≤ 4096) (ha2 : ∀ x ∈ a, x.size ≤ 1000000) (hV : VOK v) (hv0 : v.length ≤ 900000) (hl : (l.length : Int) ≤ 1048576) (h : Nx (PG p q mb gb l m a v Cx) w0 N w) (R : Tm × G) (hR : kont l a [] (pm.get l a 500 c ⟨0, v, 0⟩) = R) :
    Calls Try.prog 55 #[.pointer (some ⟨gb, 0, none⟩), .int .u64 c] w (TellP R p q mb gb l m a Cx w0 N) := by
  have X1 := Lib.hid (Nx.alloc (frPG fC) h ZT)
  obtain ⟨r0, hr0⟩ : ∃ r0, r0 = w.heap.size := ⟨_, rfl⟩
  obtain ⟨w1, hw1⟩ : ∃ w1, w1 = w.alloc ZT := ⟨_, rfl⟩
  have HW := Lib.hid (And.intro hr0 hw1)
  rw [← hr0, ← hw1] at X1
  have X3 := Lib.hid (Nx.alloc ((frPG fC).tim (Fr.blk r0 ZT)) X1.out ZT)
  obtain ⟨rb, hrb⟩ : ∃ rb, rb = w1.heap.size := ⟨_, rfl⟩
  obtain ⟨w3, hw3⟩ : ∃ w3, w3 = w1.alloc ZT := ⟨_, rfl⟩
  have HW3 := Lib.hid (And.intro hrb hw3)
  rw [← hrb, ← hw3] at X3
  have X4 := Lib.hid (TL.begin X3.out)
  have HA := Lib.hid (And.intro ha (And.intro ha2 (And.intro hV (And.intro hv0 (And.intro hl (And.intro hR hc))))))
  clear h hr0 hw1 hrb hw3 X1 X3 ha ha2 hV hv0 hl hR hc
  go_enter Try.func55, Try.ntmps55
  go_upto_region 1 with fail
  change Code.wp _ _ _ _ (w.alloc ZT)
  rw [← HW.out.1, ← HW.out.2]
  refine wp_scope_du (J0 w0 N p q mb gb r0 rb l m a Cx v.length R) (J1 w0 N p q mb gb r0 rb l m a Cx v.length R) rfl rfl ?_ ?_ ?_
  · rintro n9 a9 w9 ⟨Fs, T, y, pz, xs, v9, g, U, hn, he, hg, hV9, hvl, hd, hvs, htop, x, rfl⟩
    have hl0 := VS.len hvs
    have fT : Fr T := by
      rcases htop with ⟨t, rfl, _⟩ | ⟨f, b, rfl, _⟩
      · exact frTO
      · exact frTO
    obtain ⟨gr, cg, rfl, hcg⟩ := TL.shape fC fT x
    obtain ⟨⟨z0, z1⟩, fz, set0, set1, pop, _⟩ := TL.two fC fT x hl0
    have ix := fun w => ix2_rule (g := gr) (n := Fs.length + 1) (c := cg) (k := Fs.length) (by omega) w
    have hd9 : Fs.length + 1 ≤ 500 := hd
    have hy : ∃ ya yn yc, y = .slice ya yn yc ∧ yn ≤ 1048576 ∧ (yn = 0 → ∃ t, kont l a (Fs.map (·.1)) (t, g) = R ∧ ∀ w, Nx (PG p q mb gb l m a g.v (TL Cx r0 T (.slice (some ⟨gr, 0, none⟩) Fs.length cg) Fs.length xs)) w0 N w → Nx (PG p q mb gb l m a g.v (TL Cx r0 (ltold rb t Fs) (.slice (some ⟨gr, 0, none⟩) Fs.length cg) Fs.length xs)) w0 N w) ∧
        (0 < yn → ∃ f b k, f.n = k + 1 ∧ yn = k + 1 ∧ k + 1 ≤ yc ∧ yc ≤ maxLen ∧ ya = some ⟨b, f.done.length * 6, none⟩ ∧ pz = f.p ∧ f.p + f.n ≤ 1048576 ∧ T = TO rb b f.done f.n ((lblk rb Fs, ldone Fs, f.nm) :: lM rb Fs) (lm Fs :: lR Fs) ∧ kup l a f (Fs.map (·.1)) g = R) := by
      rcases htop with ⟨t, rfl, rfl, rfl, hk⟩ | ⟨f, b, rfl, ⟨ya, yc, rfl, h1, h2, h3⟩, rfl, h4, hk⟩
      · exact ⟨none, 0, 0, rfl, by omega, fun _ => ⟨t, hk, fun _ h => h⟩, fun h => absurd h (by omega)⟩
      · rw [dum_len] at h1
        refine ⟨ya, f.n, yc, by rw [dum_len], by omega, fun h0 => ⟨comp f.nm f.done, by rw [← hk, kup_zero _ _ _ _ _ h0], fun w h => ?_⟩, fun h0 => ?_⟩
        · obtain ⟨M, hT, up⟩ := TL.term fC h
          rw [h0] at hT
          exact up _ _ (Nx.same hT.pop)
        · obtain ⟨k, hk2⟩ : ∃ k, f.n = k + 1 := ⟨f.n - 1, by omega⟩
          exact ⟨f, b, k, hk2, hk2, by omega, h2, h3 (by rw [hk2]; simp [dum, List.replicate_succ]), rfl, h4, rfl, hk⟩
    obtain ⟨ya, yn, yc, rfl, hyn, hy0, hy1⟩ := hy
    obtain ⟨b0, b1, b2⟩ := PG.cells x
    have HS := Lib.hid (And.intro hn (And.intro he (And.intro hg (And.intro hV9 (And.intro hvl (And.intro hd (And.intro hvs (And.intro hl0 hcg))))))))
    have HX := Lib.hid x
    have HP := Lib.hid pop
    have H0 := Lib.hid hy0
    have H1 := Lib.hid hy1
    clear hn he hg hV9 hvl hd hvs hl0 hcg x pop hy0 hy1 set0 set1 htop
    rcases Nat.eq_zero_or_pos yn with rfl | hpos
    · obtain ⟨t, hk, conv⟩ := H0.out rfl
      have X2 := Lib.hid (conv _ HP.out)
      have HK := Lib.hid hk
      clear conv hk H0 H1
      go_upto_region 19 with fail
      clear ix z0 z1 fz b0 b1 b2
      cases Fs with
      | nil =>
        obtain ⟨k, nm', i, re, im, sa, sl, sc, h6, y6⟩ := TL.fin fC X2.out
        obtain ⟨e0, e1, e2, e3, e4, e5⟩ := h6
        obtain ⟨⟨t0, t1, t2, t3, t4, t5⟩, u0, u1, u2, u3, u4, u5⟩ := blk_facts (Nx.box y6)
        obtain ⟨W, hW, y7⟩ := Nx.six (.int .i64 k) (.string nm') (.int .i64 i) (.int .u64 re) (.int .u64 im) (.slice sa sl sc) ((frPG fC).tim frOT) y6
        obtain ⟨⟨q0, q1, q2, q3, q4, q5⟩, _⟩ := blk_facts (Nx.box y7)
        have Y7 := Lib.hid y7
        simp only [Nat.zero_add] at e1 e2 e3 e4 e5
        clear y6 y7
        go_wp2_with fail
        simp only [du]
        change bodyPost _ _ _ Exit.ret _ _
        have he := HS.out.2.1
        have hk := HK.out
        rw [List.map_nil, kont, if_pos he] at hk
        refine bodyPost_ret (v := .tuple #[nv6 k nm' i re im (.slice sa sl sc), .int .i64 0]) (by simp [results, Try.results55, go_sem, q0, q1, q2, q3, q4, q5]) rfl ?_
        rw [← hk]
        exact Or.inl ⟨he, _, rfl, Nx.fst_ Y7.out⟩
      | cons fb r =>
        obtain ⟨f, b⟩ := fb
        go_wp2_with fail
        go_step3
        obtain ⟨hn, he, hg, hV9, hvl, hd, hvs, hl0, hcg⟩ := HS.out
        rw [VS] at hvs
        obtain ⟨xs0, y', rfl, hop, hpn, hvs⟩ := hvs
        simp only [List.length_cons] at hn hd
        have hk := HK.out
        rw [List.map_cons, kont_cons _ _ _ _ _ _ he] at hk
        refine ⟨3 * (2001 - g.n) + r.length + 2, by omega, Or.inr ⟨rfl, J1.mk r (ltold rb t ((f, b) :: r)) y' f.p xs0 _ g rfl he hg hV9 hvl (by omega) hvs (Or.inr ⟨⟨f.nm, f.done ++ [t], f.n, f.p⟩, b, rfl, ?_, rfl, hpn, hk⟩) X2.out rfl⟩⟩
        rw [List.length_append]; exact hop
    · obtain ⟨f, b, k, hfn, rfl, hc1, hc2, rfl, rfl, hpn, hTT, hku⟩ := H1.out hpos
      obtain ⟨ya', hya, hsl⟩ := slice_run b (f.done.length * 6) k yc hc1
      have hix0 : ∀ w, (Instr.indexAt 34 (.slice (some ⟨b, f.done.length * 6, none⟩) (k + 1) yc) (.int .i64 0)).run Try.prog w = .ok (.pointer (some ⟨b, f.done.length * 6, none⟩)) w := fun w => ix0_rule b _ k yc w
      obtain ⟨F, hH⟩ := PG.heap HX.out
      have hgt := fun n => Lib.hid (get_any (hH.drewN n) (f.p : Int))
      have hpp : (f.p : Int) ≤ 1048576 := by omega
      have HQ := Lib.hid (And.intro hfn (And.intro hc1 (And.intro hc2 (And.intro hpn (And.intro hTT (And.intro hku (And.intro hya hpos)))))))
      have hkk : (k : Int) + 1 ≤ 1048576 := by omega
      have fz0 := fz (Fs.length * 2)
      have fz1 := fz (Fs.length * 2 + 1)
      clear H0 H1 hfn hc1 hc2 hpn hTT hku hya hpos hH fz
      go_upto_region 15 with fail
      go_quiet ((first | (go_at_call 85; exact hp.quiet_left (hgt _).out)))
      obtain ⟨w5, hw5⟩ : ∃ w5, w5 = w9.drewN nq := ⟨_, rfl⟩
      have X5 := Lib.hid (Nx.step (frPG (frTL fC fT)) HX.out (drewN_below w9 nq))
      rw [← hw5] at X5 ⊢
      clear hw5 hgt z0 z1 b0 b1 b2 fz0 fz1
      have hl0 := HS.out.2.2.2.2.2.2.2.1
      obtain ⟨⟨z0, z1⟩, fz, set0, _, _, _⟩ := TL.two fC fT X5.out hl0
      have fz0 := fz (Fs.length * 2)
      have S0 := Lib.hid set0
      clear fz set0 hl0
      go_upto_region 17 with fail
      obtain ⟨w6, hw6⟩ : ∃ w6, w6 = w5.setCell ⟨gr, Fs.length * 2, none⟩ (.slice ya' k (yc - 1)) := ⟨_, rfl⟩
      have X6 := Lib.hid (S0.out (.slice ya' k (yc - 1)))
      rw [← hw6] at X6 ⊢
      clear hw6 S0 z0 z1 fz0
      have hl0 := HS.out.2.2.2.2.2.2.2.1
      obtain ⟨⟨z0, z1⟩, fz, _, set1, _, _⟩ := TL.two fC fT X6.out hl0
      have fz1 := fz (Fs.length * 2 + 1)
      have S1 := Lib.hid set1
      clear fz set1 hl0
      go_wp2_with fail
      go_step3
      obtain ⟨hn, he, hg, hV9, hvl, hd, hvs, hl0, hcg⟩ := HS.out
      obtain ⟨hfn, hc1, hc2, hpn, hTT, hku, hya, hpos⟩ := HQ.out
      rw [kup_succ _ _ _ _ _ k hfn he, List.length_map] at hku
      have egv : gv l (f.p : Int) = l.getD f.p 0 := gv_getD l f.p
      have xx := S1.out (.int .i64 ((f.p : Int) + 1))
      rw [hTT, hfn] at xx
      have xx := show Nx (PG p q mb gb l m a g.v (TL Cx r0 (ldown rb ((⟨f.nm, f.done, k, f.p + 1⟩, b) :: Fs)) (.slice (some ⟨gr, 0, none⟩) (Fs.length + 1) cg) (Fs.length + 1) (xs ++ [.slice ya' k (yc - 1), .int .i64 ((f.p : Int) + 1)]))) w0 N _ from xx
      refine ⟨3 * (2001 - g.n) + (Fs.length + 1), by omega, Or.inl ⟨rfl, J0.mk ((⟨f.nm, f.done, k, f.p + 1⟩, b) :: Fs) (gv l f.p) (xs ++ [.slice ya' k (yc - 1), .int .i64 ((f.p : Int) + 1)]) (.slice (some ⟨gr, 0, none⟩) (Fs.length + 1) cg) g rfl he hg hV9 hvl hd ?_ (PG.wf X6.out _) ?_ xx rfl⟩⟩
      · rw [VS]
        exact ⟨xs, _, rfl, open_tail (dum_len k).symm (by omega) hc2 hya, by show f.p + 1 + k ≤ _; omega, hvs⟩
      · rw [egv, List.map_cons, List.length_cons, show 500 - (Fs.length + 1) = 499 - Fs.length by omega]
        exact hku
  · rintro up n9 a9 w9 ⟨Fs, c9, xs, v9, g, U, hn, he, hg, hV9, hvl, hd, hvs, hcw, hk, x, rfl⟩
    have UP := Lib.hid up
    obtain ⟨MR, hrow, _⟩ := TL.row fC frTO x
    obtain ⟨ga, gc, rfl⟩ := Row.shape hrow
    obtain ⟨b0, b1, b2⟩ := PG.cells x
    have yd := Lib.hid (TL.drop fC x)
    obtain ⟨⟨t0, t1, t2, t3, t4, t5⟩, u0, u1, u2, u3, u4, u5⟩ := blk_facts (Nx.box yd.out)
    obtain ⟨W, hW, y7⟩ := Nx.six (.int .i64 0) (.string ⟨#[]⟩) (.int .i64 0) (.int .u64 0) (.int .u64 0) (.slice none 0 0) (frPG fC) yd.out
    obtain ⟨⟨q0, q1, q2, q3, q4, q5⟩, _⟩ := blk_facts (Nx.box y7)
    have Y7 := Lib.hid y7
    by_cases hlong : g.n = 2000 ∨ Fs.length = 500
    · have hkl := hk
      rw [get_long l a _ c9 g he (by omega), kont_err _ _ _ _ _ (by show (3 : Int) ≠ 0; decide)] at hkl
      have HK := Lib.hid hkl
      have hc : ((((g.n : Int) == 2000) = true) ∨ (((g.n : Int) == 2000) = false ∧ (((Fs.length : Int) == 500) = true))) := by
        by_cases h1 : g.n = 2000
        · exact Or.inl (by rw [h1]; rfl)
        · exact Or.inr ⟨by rw [beq_eq_false_iff_ne]; omega, by rw [beq_iff_eq]; omega⟩
      clear up hn he hg hV9 hvl hd hvs hcw hk hkl x hrow y7 hlong b0 b1 b2
      rcases hc with hc | ⟨hc, hc2⟩
      all_goals
        go_wp2_with fail
        simp only [du]
        change bodyPost _ _ _ Exit.ret _ _
        refine bodyPost_ret (v := .tuple #[zv, .int .i64 3]) (by simp [results, Try.results55, go_sem, q0, q1, q2, q3, q4, q5]) rfl ?_
        rw [← HK.out]
        exact Or.inr ⟨by show (3 : Int) ≠ 0; decide, rfl, Nx.fst_ Y7.out⟩
    · have hc1 : ((g.n : Int) == 2000) = false := by rw [beq_eq_false_iff_ne]; omega
      have hc2 : ((Fs.length : Int) == 500) = false := by rw [beq_eq_false_iff_ne]; omega
      obtain ⟨ha, ha2, hV, hv0, hl, hR, hc⟩ := HA.out
      obtain ⟨F, hH⟩ := PG.heap x
      have hdr := deref_any hH c9 hcw
      have hdw := dr_w hH.wf l.length c9 hcw
      have hnode := node_any (frTL fC frTO) (dr l l.length c9) hdw ha ha2 hV9 (by omega) hl x
      rw [show 500 - Fs.length = (499 - Fs.length) + 1 by omega, get_nod l a _ c9 g he (by omega)] at hk
      have hg9 : g.n < 2000 := by omega
      have hfl : Fs.length < 500 := by omega
      clear ha ha2 hV hv0 hl hR hc hH hdw up y7 hrow
      generalize dr l l.length c9 = cd at *
      cases hnd : nod l a g.v cd with
      | bad =>
        rw [hnd] at hk hnode
        rw [kont_err _ _ _ _ _ (by show (2 : Int) ≠ 0; decide)] at hk
        have HK := Lib.hid hk
        clear hn he hg hV9 hvl hd hvs hcw hk x hnd hlong HW HW3 X4 yd Y7 hW
        go_wp2_with fail
        refine hdr.mono ?_; rintro e w' ⟨rfl, rfl⟩
        go_wp2_with fail
        refine hnode.mono ?_; rintro e w2 ⟨k1, n1, i1, re1, im1, f1, rfl, x2⟩
        have yd2 := Lib.hid (Nx.alloc ((frPG fC).tim (Fr.blk _ _)) (TL.drop fC x2) (SC6 36 (.int .i64 k1) (.string n1) (.int .i64 i1) (.int .u64 re1) (.int .u64 im1) (.slice none 0 0)))
        obtain ⟨nb, hnb⟩ : ∃ nb, nb = w2.heap.size := ⟨_, rfl⟩
        obtain ⟨w3, hw3⟩ : ∃ w3, w3 = w2.alloc (SC6 36 (.int .i64 k1) (.string n1) (.int .i64 i1) (.int .u64 re1) (.int .u64 im1) (.slice none 0 0)) := ⟨_, rfl⟩
        rw [← hnb, ← hw3] at yd2
        have HW3 := Lib.hid (And.intro hnb hw3)
        clear t0 t1 t2 t3 t4 t5 u0 u1 u2 u3 u4 u5 q0 q1 q2 q3 q4 q5 b0 b1 b2 x2 hnb hw3
        go_upto_region 8 with fail
        change Code.wp _ _ _ _ (w2.alloc (SC6 36 (.int .i64 k1) (.string n1) (.int .i64 i1) (.int .u64 re1) (.int .u64 im1) (.slice none 0 0)))
        rw [← HW3.out.1, ← HW3.out.2]
        have y8 := Nx.imp_ yd2.out fun _ => Tim.rot
        obtain ⟨⟨t0, t1, t2, t3, t4, t5⟩, u0, u1, u2, u3, u4, u5⟩ := blk_facts (Nx.box y8)
        obtain ⟨W, hW, y7⟩ := Nx.six (.int .i64 0) (.string ⟨#[]⟩) (.int .i64 0) (.int .u64 0) (.int .u64 0) (.slice none 0 0) ((frPG fC).tim (Fr.blk _ _)) y8
        obtain ⟨⟨q0, q1, q2, q3, q4, q5⟩, _⟩ := blk_facts (Nx.box y7)
        have Y7 := Lib.hid y7
        clear y7 y8
        go_wp2_with fail
        simp only [du]
        change bodyPost _ _ _ Exit.ret _ _
        refine bodyPost_ret (v := .tuple #[zv, .int .i64 2]) (by simp [results, Try.results55, go_sem, q0, q1, q2, q3, q4, q5]) rfl ?_
        rw [← HK.out]
        exact Or.inr ⟨by show (2 : Int) ≠ 0; decide, rfl, Nx.fst_ (Nx.fst_ Y7.out)⟩
      | leaf t v1 =>
        rw [hnd] at hk hnode
        have HK := Lib.hid hk
        have hln := VS.len hvs
        have HS := Lib.hid (And.intro hn (And.intro he (And.intro hvl (And.intro hd (And.intro hvs (And.intro hln (And.intro hg9 hfl)))))))
        clear hn he hg hV9 hvl hd hvs hcw hk x hnd hlong HW HW3 X4 yd Y7 hW hln
        clear t0 t1 t2 t3 t4 t5 u0 u1 u2 u3 u4 u5 q0 q1 q2 q3 q4 q5
        go_wp2_with fail
        refine hdr.mono ?_; rintro e w' ⟨rfl, rfl⟩
        go_wp2_with fail
        refine hnode.mono ?_; rintro e w2 ⟨k1, n1, i1, re1, im1, rfl, hk5, hfit, hvok, hvl1, rfl, x2⟩
        have hap := (TL.term fC x2)
        obtain ⟨MT, hTO, upT⟩ := hap
        have hb := hTO.2.1 _ (hTO.2.2 _ (List.mem_cons_self))
        obtain ⟨nb, hnb⟩ : ∃ nb, nb = w2.heap.size := ⟨_, rfl⟩
        have hbn : lblk rb Fs ≠ nb := by omega
        obtain ⟨w3, hw3⟩ : ∃ w3, w3 = w2.alloc (SC6 36 (.int .i64 k1) (.string n1) (.int .i64 i1) (.int .u64 re1) (.int .u64 im1) (.slice none 0 0)) := ⟨_, rfl⟩
        have x3 := Nx.step (frPG (frTL fC frTO)) x2 (ba w2 (SC6 36 (.int .i64 k1) (.string n1) (.int .i64 i1) (.int .u64 re1) (.int .u64 im1) (.slice none 0 0)))
        have hat := alloc_at w2 (SC6 36 (.int .i64 k1) (.string n1) (.int .i64 i1) (.int .u64 re1) (.int .u64 im1) (.slice none 0 0))
        rw [← hnb, ← hw3] at hat
        rw [← hw3] at x3
        have HW3 := Lib.hid (And.intro hnb hw3)
        obtain ⟨⟨t0, t1, t2, t3, t4, t5⟩, _⟩ := blk_facts hat
        obtain ⟨M3, hTO3, upT3⟩ := TL.term fC x3
        obtain ⟨u0, u1, u2, u3, u4, u5, ⟨p0, p1, p2, p3, p4, p5⟩, f0, f1, f2, f3, f4, f5⟩ := hTO3.place
        have hfill := upT3 _ _ (hTO3.fill (t := .mk k1 n1 i1 re1 im1 []) (v0 := .int .i64 k1) (v1 := .string n1) (v2 := .int .i64 i1) (v3 := .int .u64 re1) (v4 := .int .u64 im1) (v5 := .slice none 0 0) (by rw [Lies]; exact ⟨none, 0, rfl, hfit, by rw [TRow]; trivial⟩))
        obtain ⟨w4, hw4⟩ : ∃ w4, w4 = set6 w3 (lblk rb Fs) ((ldone Fs).length * 6) (.int .i64 k1) (.string n1) (.int .i64 i1) (.int .u64 re1) (.int .u64 im1) (.slice none 0 0) := ⟨_, rfl⟩
        have hk6 := set6_keep w3 (lblk rb Fs) ((ldone Fs).length * 6) (.int .i64 k1) (.string n1) (.int .i64 i1) (.int .u64 re1) (.int .u64 im1) (.slice none 0 0)
        rw [← hw4] at hfill hk6
        have hat4 := (hk6.block nb (Array.getElem?_eq_some_iff.1 hat).1 (fun e => hbn e.symm)).trans hat
        have X4 := Lib.hid hfill
        have HW4 := Lib.hid hw4
        have HV := Lib.hid (And.intro hvok hvl1)
        have HAT := Lib.hid hat4
        clear x2 hTO upT hb hnb hw3 x3 hat hTO3 upT3 hfill hw4 hk6 hat4 hvok hvl1 hfit hk5 b0 b1 b2
        go_upto_region 8 with fail
        change Code.wp _ _ _ _ (w2.alloc (SC6 36 (.int .i64 k1) (.string n1) (.int .i64 i1) (.int .u64 re1) (.int .u64 im1) (.slice none 0 0)))
        rw [← HW3.out.1, ← HW3.out.2]
        go_upto_region 11 with fail
        obtain ⟨w4, hw4⟩ : ∃ w4, w4 = set6 w3 (lblk rb Fs) ((ldone Fs).length * 6) (.int .i64 k1) (.string n1) (.int .i64 i1) (.int .u64 re1) (.int .u64 im1) (.slice none 0 0) := ⟨_, rfl⟩
        change Code.wp _ _ _ _ (set6 w3 (lblk rb Fs) ((ldone Fs).length * 6) (.int .i64 k1) (.string n1) (.int .i64 i1) (.int .u64 re1) (.int .u64 im1) (.slice none 0 0))
        rw [← HW4.out]
        clear hw4 t0 t1 t2 t3 t4 t5 p0 p1 p2 p3 p4 p5 f0 f1 f2 f3 f4 f5
        obtain ⟨⟨t0, t1, t2, t3, t4, t5⟩, _⟩ := blk_facts HAT.out
        obtain ⟨MR, hR, upR⟩ := TL.row fC frTO X4.out
        have hR0 := hR.1
        obtain ⟨i0, hi, hz0, hz1, hz2⟩ := info_parts info2
        have HI := Lib.hid (And.intro hi (And.intro hz0 (And.intro hz1 hz2)))
        have HO := Lib.hid hR0
        have PU := Lib.hid (fun (v' : Value) (w5 : World) (hr3 : w5.ownsRow 0 142 2 v' (Fs.length + 1) (xs ++ [.slice none 0 0, .int .i64 0])) g3 hat => upR _ _ _ _ (Row.push hR (kp.ba _ (.cells #[.slice none 0 0, .int .i64 0] 142)) hr3 g3 hat))
        clear hR upR hR0 hi hz0 hz1 hz2
        go_wp2_with (at_builtin; refine wpList_append_own_at _ rfl (.tmp 42) (.tmp 47) 137 rfl 0 142 i0 (.agg #[.slice none 0 0, .int .i64 0]) 2 32 Try.underlying137 HI.out.1 HI.out.2.1 HI.out.2.2.1 HI.out.2.2.2 rfl (by decide) _ _ _ rfl (HO.out.alloc _) ⟨_, 0, none⟩ 1 1 [.slice none 0 0, .int .i64 0] rfl rfl (cell_two_new2 _ _ _ _) ?c2 ?b1 ?b2 ?b3 ?_)
        case c2 => intro z hz; simp at hz; rcases hz with rfl | rfl <;> rfl
        case b1 => unfold maxLen; omega
        case b2 => omega
        case b3 => simp
        intro v' w5 hr3 g3 _ hat
        have x5 := PU.out v' w5 hr3 g3 (by simpa using hat)
        clear hr3 g3 hat PU HO
        go_wp2_with fail
        refine wp_label ?_
        obtain ⟨hn, he, hvl, hd, hvs, hln, hg9, hfl⟩ := HS.out
        refine (by assumption : ∀ a w, Code.wp Try.prog _ _ a w → _) _ _ ?_
        refine wp_mono (UP.out (3 * (2001 - (g.n + 1)) + Fs.length + 2) _ _ ?hj2) (fun e a w h => ppt.du_le (by omega) e a w h)
        case hj2 => exact J1.mk Fs _ (.slice none 0 0) 0 xs v' ⟨g.n + 1, v1, 0⟩ rfl rfl (by show g.n + 1 ≤ 2000; omega) HV.out.1 (by show v1.length ≤ v.length + (g.n + 1); have := HV.out.2; omega) (by omega) hvs (Or.inl ⟨_, rfl, rfl, rfl, HK.out⟩) x5 rfl
      | comp nm k f =>
        rw [hnd] at hk hnode
        have HK := Lib.hid hk
        have hln := VS.len hvs
        have HS := Lib.hid (And.intro hn (And.intro hV9 (And.intro hvl (And.intro hd (And.intro hvs (And.intro hln (And.intro hg9 hfl)))))))
        clear hn he hg hV9 hvl hd hvs hcw hk x hnd hlong HW HW3 X4 yd Y7 hW hln
        clear t0 t1 t2 t3 t4 t5 u0 u1 u2 u3 u4 u5 q0 q1 q2 q3 q4 q5
        go_wp2_with fail
        refine hdr.mono ?_; rintro e w' ⟨rfl, rfl⟩
        go_wp2_with fail
        refine hnode.mono ?_; rintro e w2 ⟨bq, hk1, hk2, hfit, hfk, rfl, x2⟩
        have x2 := Nx.imp_ x2 fun K h => Tim.map2 (fun K h => Tim.map2 (fun K h => Tim.rot h) (Tim.right_ h)) (Tim.right_ h)
        have x2 : Nx (PG p q mb gb l m a g.v (TL Cx r0 (Tim (ldown rb Fs) (Blk bq (.cells (MC k) 36))) (.slice ga Fs.length gc) Fs.length xs)) w0 N w2 := x2
        have hap := (TL.term fC x2)
        obtain ⟨MT, hTO, upT⟩ := hap
        obtain ⟨K1, K2, hTa, hTb, _, hTe⟩ := hTO
        have hb := hTa.2.1 _ (hTa.2.2 _ (List.mem_cons_self))
        obtain ⟨nb, hnb⟩ : ∃ nb, nb = w2.heap.size := ⟨_, rfl⟩
        have hbn : lblk rb Fs ≠ nb := by omega
        obtain ⟨w3, hw3⟩ : ∃ w3, w3 = w2.alloc (SC6 36 (.int .i64 5) (.string nm) (.int .i64 0) (.int .u64 0) (.int .u64 0) (.slice (some ⟨bq, 0, none⟩) k k)) := ⟨_, rfl⟩
        have x3 := Nx.step (frPG (frTL fC (frTO.tim (Fr.blk _ _)))) x2 (ba w2 (SC6 36 (.int .i64 5) (.string nm) (.int .i64 0) (.int .u64 0) (.int .u64 0) (.slice (some ⟨bq, 0, none⟩) k k)))
        have hat := alloc_at w2 (SC6 36 (.int .i64 5) (.string nm) (.int .i64 0) (.int .u64 0) (.int .u64 0) (.slice (some ⟨bq, 0, none⟩) k k))
        rw [← hnb, ← hw3] at hat
        rw [← hw3] at x3
        have HW3 := Lib.hid (And.intro hnb hw3)
        obtain ⟨⟨t0, t1, t2, t3, t4, t5⟩, _⟩ := blk_facts hat
        obtain ⟨M3, hTO3, upT3⟩ := TL.term fC x3
        obtain ⟨u0, u1, u2, u3, u4, u5, ⟨p0, p1, p2, p3, p4, p5⟩, f0, f1, f2, f3, f4, f5⟩ := (show TO _ _ _ _ _ _ _ _ from hTO3.choose_spec.choose_spec.1).place
        have hfill := upT3 _ _ (TO.push hTO3 hfit)
        obtain ⟨w4, hw4⟩ : ∃ w4, w4 = set6 w3 (lblk rb Fs) ((ldone Fs).length * 6) (.int .i64 5) (.string nm) (.int .i64 0) (.int .u64 0) (.int .u64 0) (.slice (some ⟨bq, 0, none⟩) k k) := ⟨_, rfl⟩
        have hk6 := set6_keep w3 (lblk rb Fs) ((ldone Fs).length * 6) (.int .i64 5) (.string nm) (.int .i64 0) (.int .u64 0) (.int .u64 0) (.slice (some ⟨bq, 0, none⟩) k k)
        rw [← hw4] at hfill hk6
        have hat4 := (hk6.block nb (Array.getElem?_eq_some_iff.1 hat).1 (fun e => hbn e.symm)).trans hat
        have X4 := Lib.hid hfill
        have HW4 := Lib.hid hw4
        have HV := Lib.hid (And.intro hk1 (And.intro hk2 hfk))
        have HAT := Lib.hid hat4
        clear x2 hTa hTb hTe upT hb hnb hw3 x3 hat hTO3 upT3 hfill hw4 hk6 hat4 hfit hk1 hk2 hfk b0 b1 b2
        go_upto_region 8 with fail
        change Code.wp _ _ _ _ (w2.alloc (SC6 36 (.int .i64 5) (.string nm) (.int .i64 0) (.int .u64 0) (.int .u64 0) (.slice (some ⟨bq, 0, none⟩) k k)))
        rw [← HW3.out.1, ← HW3.out.2]
        go_upto_region 11 with fail
        obtain ⟨w4, hw4⟩ : ∃ w4, w4 = set6 w3 (lblk rb Fs) ((ldone Fs).length * 6) (.int .i64 5) (.string nm) (.int .i64 0) (.int .u64 0) (.int .u64 0) (.slice (some ⟨bq, 0, none⟩) k k) := ⟨_, rfl⟩
        change Code.wp _ _ _ _ (set6 w3 (lblk rb Fs) ((ldone Fs).length * 6) (.int .i64 5) (.string nm) (.int .i64 0) (.int .u64 0) (.int .u64 0) (.slice (some ⟨bq, 0, none⟩) k k))
        rw [← HW4.out]
        clear hw4 t0 t1 t2 t3 t4 t5 p0 p1 p2 p3 p4 p5 f0 f1 f2 f3 f4 f5
        obtain ⟨⟨t0, t1, t2, t3, t4, t5⟩, _⟩ := blk_facts HAT.out
        obtain ⟨MR, hR, upR⟩ := TL.row fC frTO X4.out
        have hR0 := hR.1
        obtain ⟨i0, hi, hz0, hz1, hz2⟩ := info_parts info2
        have HI := Lib.hid (And.intro hi (And.intro hz0 (And.intro hz1 hz2)))
        have HO := Lib.hid hR0
        have PU := Lib.hid (fun (v' : Value) (w5 : World) (hr3 : w5.ownsRow 0 142 2 v' (Fs.length + 1) (xs ++ [.slice (some ⟨bq, 0, none⟩) k k, .int .i64 (f : Int)])) g3 hat => upR _ _ _ _ (Row.push hR (kp.ba _ (.cells #[.slice (some ⟨bq, 0, none⟩) k k, .int .i64 (f : Int)] 142)) hr3 g3 hat))
        clear hR upR hR0 hi hz0 hz1 hz2
        go_wp2_with (at_builtin; refine wpList_append_own_at _ rfl (.tmp 42) (.tmp 47) 137 rfl 0 142 i0 (.agg #[.slice none 0 0, .int .i64 0]) 2 32 Try.underlying137 HI.out.1 HI.out.2.1 HI.out.2.2.1 HI.out.2.2.2 rfl (by decide) _ _ _ rfl (HO.out.alloc _) ⟨_, 0, none⟩ 1 1 [.slice (some ⟨bq, 0, none⟩) k k, .int .i64 (f : Int)] rfl rfl (cell_two_new2 _ _ _ _) ?c2 ?b1 ?b2 ?b3 ?_)
        case c2 => intro z hz; simp at hz; rcases hz with rfl | rfl <;> rfl
        case b1 => unfold maxLen; omega
        case b2 => omega
        case b3 => simp
        intro v' w5 hr3 g3 _ hat
        have x5 := PU.out v' w5 hr3 g3 (by simpa using hat)
        clear hr3 g3 hat PU HO
        go_wp2_with fail
        refine wp_label ?_
        obtain ⟨hn, hV9, hvl, hd, hvs, hln, hg9, hfl⟩ := HS.out
        obtain ⟨hk1, hk2, hfk⟩ := HV.out
        refine (by assumption : ∀ a w, Code.wp Try.prog _ _ a w → _) _ _ ?_
        refine wp_mono (UP.out (3 * (2001 - (g.n + 1)) + Fs.length + 2) _ _ ?hj3) (fun e a w h => ppt.du_le (by omega) e a w h)
        case hj3 =>
          have hop : OpenV bq 0 (dum k) (.slice (some ⟨bq, 0, none⟩) k k) := ⟨some ⟨bq, 0, none⟩, k, by rw [dum_len], by rw [dum_len]; exact Nat.le_refl _, by unfold maxLen; omega, fun _ => rfl⟩
          refine J1.mk Fs _ (.slice (some ⟨bq, 0, none⟩) k k) f xs v' ⟨g.n + 1, g.v, 0⟩ rfl rfl (by show g.n + 1 ≤ 2000; omega) hV9 (by show g.v.length ≤ v.length + (g.n + 1); omega) (by omega) hvs (Or.inr ⟨⟨nm, [], k, f⟩, bq, rfl, hop, rfl, hfk, ?_⟩) x5 rfl
          have hk := HK.out
          unfold kup
          rw [List.length_map, ← hk]
          cases getL (pm.get l a (499 - Fs.length)) l k f ⟨g.n + 1, g.v, 0⟩
          simp
  · intro down
    refine ⟨3 * 2001 + 1, ?_⟩
    go_wp2_with (rw [← HW3.out.1, ← HW3.out.2])
    refine wp_label ?_
    refine (by assumption : ∀ a w, Code.wp Try.prog _ _ a w → _) _ _ ?_
    refine wp_mono (down (3 * 2001) _ _ ?hj0) (fun e a w h => ppt.du_le (Nat.le_succ _) e a w h)
    case hj0 =>
      obtain ⟨ha, ha2, hV, hv0, hl, hR, hc⟩ := HA.out
      exact J0.mk [] c [] _ ⟨0, v, 0⟩ rfl rfl (Nat.zero_le _) hV (by show v.length ≤ v.length + 0; omega) (by decide) rfl hc hR X4.out rfl
end
end Go.Proofs.Ythableojkjhicaa.pgt
namespace Go.Proofs.Ythableojkjhicaa.pgt
set_option linter.unusedVariables false
open Go.ChangeShapes Go.WideShapes Go.ChangeAt Go.RowKit Go.Maps
open Go.Proofs.Ythableojkjhicaa.hp Go.Proofs.Ythableojkjhicaa.cel Go.Proofs.Ythableojkjhicaa.kp Go.Proofs.Ythableojkjhicaa.ob Go.Proofs.Ythableojkjhicaa.pm Go.Proofs.Ythableojkjhicaa.tm Go.Proofs.Ythableojkjhicaa.lie Go.Proofs.Ythableojkjhicaa.pln Go.Proofs.Ythableojkjhicaa.lev Go.Proofs.Ythableojkjhicaa.lay Go.Proofs.Ythableojkjhicaa.wlk Go.Proofs.Ythableojkjhicaa.cur Go.Proofs.Ythableojkjhicaa.pla
open Go.Proofs.Ythableojkjhicaa.ppt (PO frPO)
open Go.Proofs.Ythableojkjhicaa.rpt (HB frHB CK CK_ne)
open Go.Proofs.Ythableojkjhicaa.rgt (VG frG VI lawI zeroI)
/-- what Get tells -/
def getT (l : List Int) (a : List ByteArray) (v : List (Int × Int)) (c : Int) : Tm × G := kont l a [] (pm.get l a 500 c ⟨0, v, 0⟩)
/-- heap, names, places' numbers -/
def GO (p q mb : Nat) (l : List Int) (m : Int) (a : List ByteArray) (v : List (Int × Int)) : Ob := Tim (HB TH p l m) (Tim (PO q a) (VG mb v))
section
variable {p q mb gb : Nat} {l : List Int} {m : Int} {a : List ByteArray} {v : List (Int × Int)} {C T : Ob} {w0 w wr : World} {N : Nat → Prop}
theorem frGO : Fr (GO p q mb l m a v) := frHB.tim (frPO.tim frG)
theorem GO.getter (fC : Fr C) (h : Nx (Tim (GO p q mb l m a v) C) w0 N wr) : Nx (PG p q mb wr.heap.size l m a v C) w0 N (wr.alloc (BGP p q mb)) := by
  refine Nx.imp_ (Nx.alloc (frGO.tim fC) h (BGP p q mb)) fun K h => ?_
  exact (Tim.rot h).map1 fun K h => (Tim.right_ h).map2 fun K h => Tim.right_ h
theorem PG.parts {K : Nat → Prop} (h : PG p q mb gb l m a v C wr K) : Tim (Tim (GO p q mb l m a v) (Blk gb (BGP p q mb))) C wr K :=
  Tim.map1 (fun K h => Tim.lft (Tim.map2 (fun K h => Tim.lft h) h)) h
theorem PG.go2 (h : Nx (Tim (PG p q mb gb l m a v C) T) w0 N wr) : Nx (Tim (Tim (GO p q mb l m a v) T) C) w0 N wr := by
  have h1 := Nx.imp_ h fun K h => Tim.rot (Tim.map1 (fun K h => Tim.rot (PG.parts h)) h)
  exact Nx.imp_ (Nx.fst_ h1) fun K h => Tim.rot h
theorem PG.go1 (h : Nx (PG p q mb gb l m a v C) w0 N wr) : Nx (Tim (GO p q mb l m a v) C) w0 N wr :=
  Nx.fst_ (Nx.imp_ h fun K h => Tim.rot (PG.parts h))
/-- a new map -/
theorem new_map {A : Ob} (f : Fr A) (h : Nx A w0 N wr) : Nx (Tim A (VG wr.heap.size [])) w0 N (wr.alloc (.map #[] 0)) :=
  Nx.imp_ (Nx.alloc f h (.map #[] 0)) fun K h => h.map2 fun K hb => ⟨⟨.map [], World.ownsMap_made wr Try.prog 3 _, VI.nil, rfl⟩, hb.2⟩
/-- what Get answers; A: what stands behind it, by the places' numbers -/
def GetP (R : Tm × G) (A : List (Int × Int) → Ob) (w0 : World) (N : Nat → Prop) (e : Ending) (w' : World) : Prop :=
  (R.2.e = 0 ∧ ∃ k nm i re im aa sl sc, e = .returned (.tuple #[nv6 k nm i re im (.slice aa sl sc), .int .i64 0]) ∧ Nx (Tim (A R.2.v) (OT R.1 (nv6 k nm i re im (.slice aa sl sc)))) w0 N w') ∨
  (R.2.e ≠ 0 ∧ e = .returned (.tuple #[zv, .int .i64 R.2.e]) ∧ Nx (A R.2.v) w0 N w')
theorem qG (w : World) (r : Option Nat) : (binOp .eql 56 (.map r) (.map none)).run Try.prog w = .ok (.bool r.isNone) w := run_eql_map_nil w _ _ _ r Try.underlying56
theorem OT.form {t : Tm} {val : Value} {K : Nat → Prop} (h : OT t val wr K) : ∃ k nm i re im aa sl sc, val = nv6 k nm i re im (.slice aa sl sc) := by
  obtain ⟨h1, _⟩ := h
  obtain ⟨k, n, i, re, im, l⟩ := t
  rw [Lies] at h1
  obtain ⟨a, c, rfl, _⟩ := h1
  exact ⟨_, _, _, _, _, _, _, _, rfl⟩
theorem OT.form_ {A C : Ob} {t : Tm} {val : Value} (h : Nx (Tim (Tim A (OT t val)) C) w0 N wr) : ∃ k nm i re im aa sl sc, val = nv6 k nm i re im (.slice aa sl sc) := by
  obtain ⟨_, ⟨_, _, ⟨_, _, _, h, _⟩, _⟩, _⟩ := h
  exact OT.form h
set_option maxRecDepth 100000 in
set_option maxHeartbeats 2000000 in
theorem pGet_any (c : Int) (hc : W64 c) (ha : a.length ≤ 4096) (ha2 : ∀ x ∈ a, x.size ≤ 1000000) (hV : VOK v) (hv0 : v.length ≤ 900000) (hl : (l.length : Int) ≤ 1048576) (h : GO p q mb l m a v w N) (R : Tm × G) (hR : getT l a v c = R) :
    Calls Try.prog 20 #[.pointer (some ⟨p, 0, none⟩), .pointer (some ⟨q, 0, none⟩), .int .u64 c, .map (some mb)] w (GetP R (GO p q mb l m a) w N) := by
  have X1 := Lib.hid (Nx.alloc frGO (Nx.same h) ZT)
  obtain ⟨r0, hr0⟩ : ∃ r0, r0 = w.heap.size := ⟨_, rfl⟩
  obtain ⟨w1, hw1⟩ : ∃ w1, w1 = w.alloc ZT := ⟨_, rfl⟩
  have HW := Lib.hid (And.intro hr0 hw1)
  rw [← hr0, ← hw1] at X1
  have hnil : ∀ w' : World, (binOp .eql 56 (.map (some mb)) (.map none)).run Try.prog w' = .ok (.bool false) w' := fun w' => qG w' (some mb)
  have X2 := GO.getter (Fr.blk r0 ZT) X1.out
  have htell := tell_any (Fr.blk r0 ZT) c hc ha ha2 hV hv0 hl X2 R hR
  unfold BGP at htell
  clear h hr0 hw1 hR hc ha ha2 hV hv0 hl X2
  go_enter Try.func20, Try.ntmps20
  go_upto_region 1 with fail
  change Code.wp _ _ _ _ (w.alloc ZT)
  rw [← HW.out.1, ← HW.out.2]
  obtain ⟨⟨z0, z1, z2, z3, z4, z5⟩, f0, f1, f2, f3, f4, f5⟩ := blk_facts (Nx.box X1.out)
  go_wp2_with fail
  refine htell.mono ?_; rintro e w5 hP
  rcases hP with ⟨he, val, rfl, x⟩ | ⟨he, rfl, x⟩
  · have X5 := Lib.hid (PG.go2 x)
    obtain ⟨k, nm, i, re, im, aa, sl, sc, rfl⟩ := OT.form_ X5.out
    have HE := Lib.hid he
    clear z0 z1 z2 z3 z4 z5 f0 f1 f2 f3 f4 f5 htell x he
    obtain ⟨⟨z0, z1, z2, z3, z4, z5⟩, f0, f1, f2, f3, f4, f5⟩ := blk_facts (Nx.box X5.out)
    go_wp2_with fail
    obtain ⟨W, hW, e0, e1, e2, e3, e4, e5, k6⟩ := res_fin (Nx.box X5.out) (.int .i64 k) (.string nm) (.int .i64 i) (.int .u64 re) (.int .u64 im) (.slice aa sl sc)
    rw [hW]
    exact bodyPost_ret (v := .tuple #[nv6 k nm i re im (.slice aa sl sc), .int .i64 0]) (by simp [results, Try.results20, go_sem, e0, e1, e2, e3, e4, e5]) rfl (Or.inl ⟨HE.out, k, nm, i, re, im, aa, sl, sc, rfl, Nx.res (frGO.tim frOT) X5.out k6⟩)
  · have X5 := Lib.hid (PG.go1 x)
    have HE := Lib.hid he
    clear z0 z1 z2 z3 z4 z5 f0 f1 f2 f3 f4 f5 htell x he
    obtain ⟨⟨z0, z1, z2, z3, z4, z5⟩, f0, f1, f2, f3, f4, f5⟩ := blk_facts (Nx.box X5.out)
    go_wp2_with fail
    obtain ⟨W, hW, e0, e1, e2, e3, e4, e5, k6⟩ := res_fin (Nx.box X5.out) (.int .i64 0) (.string ⟨#[]⟩) (.int .i64 0) (.int .u64 0) (.int .u64 0) (.slice none 0 0)
    rw [hW]
    exact bodyPost_ret (v := .tuple #[zv, .int .i64 R.2.e]) (by simp [results, Try.results20, go_sem, e0, e1, e2, e3, e4, e5]) rfl (Or.inr ⟨HE.out, rfl, Nx.res frGO X5.out k6⟩)
set_option maxRecDepth 100000 in
set_option maxHeartbeats 2000000 in
theorem pGet_new (c : Int) (hc : W64 c) (ha : a.length ≤ 4096) (ha2 : ∀ x ∈ a, x.size ≤ 1000000) (hl : (l.length : Int) ≤ 1048576) (h : Tim (HB TH p l m) (PO q a) w N) (R : Tm × G) (hR : getT l a [] c = R) :
    Calls Try.prog 20 #[.pointer (some ⟨p, 0, none⟩), .pointer (some ⟨q, 0, none⟩), .int .u64 c, .map none] w (GetP R (fun _ => Tim (HB TH p l m) (PO q a)) w N) := by
  have X1 := Lib.hid (Nx.alloc (frHB.tim frPO) (Nx.same h) ZT)
  obtain ⟨r0, hr0⟩ : ∃ r0, r0 = w.heap.size := ⟨_, rfl⟩
  obtain ⟨w1, hw1⟩ : ∃ w1, w1 = w.alloc ZT := ⟨_, rfl⟩
  have HW := Lib.hid (And.intro hr0 hw1)
  rw [← hr0, ← hw1] at X1
  have hnil : ∀ w' : World, (binOp .eql 56 (.map none) (.map none)).run Try.prog w' = .ok (.bool true) w' := fun w' => qG w' none
  have hmm := @run_makeMap Try.prog
  have X2 := Nx.imp_ (new_map ((frHB.tim frPO).tim (Fr.blk r0 ZT)) X1.out) fun K h => Tim.map1 (A' := GO p q w1.heap.size l m a []) (fun K h => Tim.right_ h) (Tim.rot h)
  have X3 := GO.getter (Fr.blk r0 ZT) X2
  rw [kp.alloc_size] at X3
  have htell := tell_any (Fr.blk r0 ZT) c hc ha ha2 VOK.nil (by simp) hl X3 R hR
  unfold BGP at htell
  clear h hr0 hw1 hR hc ha ha2 hl X2 X3
  go_enter Try.func20, Try.ntmps20
  go_upto_region 1 with fail
  change Code.wp _ _ _ _ (w.alloc ZT)
  rw [← HW.out.1, ← HW.out.2]
  obtain ⟨⟨z0, z1, z2, z3, z4, z5⟩, f0, f1, f2, f3, f4, f5⟩ := blk_facts (Nx.box X1.out)
  go_wp2_with fail
  refine htell.mono ?_; rintro e w5 hP
  rcases hP with ⟨he, val, rfl, x⟩ | ⟨he, rfl, x⟩
  · have X5 := Lib.hid (Nx.fst_ (Nx.imp_ (PG.go2 x) fun K h => Tim.rot (Tim.map1 (fun K h => Tim.rot (Tim.map1 (fun K h => Tim.lft h) h)) h)))
    obtain ⟨k, nm, i, re, im, aa, sl, sc, rfl⟩ := OT.form_ X5.out
    have HE := Lib.hid he
    clear z0 z1 z2 z3 z4 z5 f0 f1 f2 f3 f4 f5 htell x he
    obtain ⟨⟨z0, z1, z2, z3, z4, z5⟩, f0, f1, f2, f3, f4, f5⟩ := blk_facts (Nx.box X5.out)
    go_wp2_with fail
    obtain ⟨W, hW, e0, e1, e2, e3, e4, e5, k6⟩ := res_fin (Nx.box X5.out) (.int .i64 k) (.string nm) (.int .i64 i) (.int .u64 re) (.int .u64 im) (.slice aa sl sc)
    rw [hW]
    exact bodyPost_ret (v := .tuple #[nv6 k nm i re im (.slice aa sl sc), .int .i64 0]) (by simp [results, Try.results20, go_sem, e0, e1, e2, e3, e4, e5]) rfl (Or.inl ⟨HE.out, k, nm, i, re, im, aa, sl, sc, rfl, Nx.res ((frHB.tim frPO).tim frOT) X5.out k6⟩)
  · have X5 := Lib.hid (Nx.fst_ (Nx.imp_ (PG.go1 x) fun K h => Tim.rot (Tim.map1 (fun K h => Tim.lft h) h)))
    have HE := Lib.hid he
    clear z0 z1 z2 z3 z4 z5 f0 f1 f2 f3 f4 f5 htell x he
    obtain ⟨⟨z0, z1, z2, z3, z4, z5⟩, f0, f1, f2, f3, f4, f5⟩ := blk_facts (Nx.box X5.out)
    go_wp2_with fail
    obtain ⟨W, hW, e0, e1, e2, e3, e4, e5, k6⟩ := res_fin (Nx.box X5.out) (.int .i64 0) (.string ⟨#[]⟩) (.int .i64 0) (.int .u64 0) (.int .u64 0) (.slice none 0 0)
    rw [hW]
    exact bodyPost_ret (v := .tuple #[zv, .int .i64 R.2.e]) (by simp [results, Try.results20, go_sem, e0, e1, e2, e3, e4, e5]) rfl (Or.inr ⟨HE.out, rfl, Nx.res (frHB.tim frPO) X5.out k6⟩)
end
end Go.Proofs.Ythableojkjhicaa.pgt
