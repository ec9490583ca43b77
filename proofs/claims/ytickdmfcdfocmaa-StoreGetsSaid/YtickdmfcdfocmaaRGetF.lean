/- The reference's get of any cell. -/
import Derived.Test.YtickdmfcdfocmaaRGetC
import Derived.Test.YtickdmfcdfocmaaRGetD
import Derived.Test.YtickdmfcdfocmaaRGetE
import Derived.Test.YtickdmfcdfocmaaOwn6
import Derived.Deep.RegionHeld3
namespace Go.Proofs.Ytickdmfcdfocmaa.rgt
set_option linter.unusedVariables false
set_option linter.unusedSimpArgs false
open Go.ChangeShapes Go.WideShapes Go.ChangeAt Go.RowKit Go.Maps
open Go.Proofs.Ytickdmfcdfocmaa.hp Go.Proofs.Ytickdmfcdfocmaa.cel Go.Proofs.Ytickdmfcdfocmaa.kp Go.Proofs.Ytickdmfcdfocmaa.ob Go.Proofs.Ytickdmfcdfocmaa.pm Go.Proofs.Ytickdmfcdfocmaa.tm Go.Proofs.Ytickdmfcdfocmaa.rpt Go.Proofs.Ytickdmfcdfocmaa.lie Go.Proofs.Ytickdmfcdfocmaa.cur Go.Proofs.Ytickdmfcdfocmaa.pla Go.Proofs.Ytickdmfcdfocmaa.pln Go.Proofs.Ytickdmfcdfocmaa.wlk Go.Proofs.Ytickdmfcdfocmaa.ow6
open Go.Proofs.Ytickdmfcdfocmaa.pgt (VOK nod get_nod Nd)
/-- what is so of a getter's state -/
def Inv (g : G) : Prop := VOK g.v ∧ g.v.length ≤ g.n ∧ g.n ≤ 2001 ∧ (g.e = 0 → g.n ≤ 2000)
theorem nod_leaf {l : List Int} {a : List ByteArray} {v v' : List (Int × Int)} {c : Int} {t : Tm} (h : nod l a v c = .leaf t v') (hv : VOK v) : VOK v' ∧ v'.length ≤ v.length + 1 := by
  unfold nod at h
  split at h
  · split at h
    · split at h
      · injection h with _ h; subst h; exact ⟨hv, by omega⟩
      · rename_i hl
        injection h with _ h; subst h; exact ⟨hv.add hl, by simp⟩
    · cases h
  · split at h
    · split at h
      · injection h with _ h; subst h; exact ⟨hv, by omega⟩
      · cases h
    · split at h
      · injection h with _ h; subst h; exact ⟨hv, by omega⟩
      · split at h
        · split at h
          · injection h with _ h; subst h; exact ⟨hv, by omega⟩
          · cases h
        · split at h
          · split at h
            · injection h with _ h; subst h; exact ⟨hv, by omega⟩
            · cases h
          · split at h
            · split at h <;> cases h
            · cases h
theorem getL_inv {f : Int → G → Tm × G} (hf : ∀ c g, Inv g → Inv (f c g).2) (l : List Int) : ∀ (n p : Nat) (g : G), Inv g → Inv (getL f l n p g).2
  | 0, p, g, h => by rw [getL]; exact h
  | n + 1, p, g, h => by
    rw [getL]
    split
    · have h1 := hf (l.getD p 0) g h
      revert h1
      cases f (l.getD p 0) g with
      | mk t g1 =>
        intro h1
        have h2 := getL_inv hf l n (p + 1) g1 h1
        dsimp only
        revert h2
        cases getL f l n (p + 1) g1 with
        | mk ts g2 => exact id
    · exact h
theorem get_inv (l : List Int) (a : List ByteArray) : ∀ (r : Nat) (c : Int) (g : G), Inv g → Inv (pm.get l a r c g).2
  | 0, c, g, h => by
    rw [pm.get]
    split
    · rename_i he
      have := h.2.2.2 he
      exact ⟨h.1, by have := h.2.1; show g.v.length ≤ g.n + 1; omega, by show g.n + 1 ≤ 2001; omega, fun e => absurd e (show ¬ (3 : Int) = 0 by decide)⟩
    · exact h
  | r + 1, c, g, h => by
    by_cases he : g.e = 0
    · have hn := h.2.2.2 he
      by_cases hl : 2000 ≤ g.n
      · rw [pm.get, if_pos he, if_pos hl]
        exact ⟨h.1, by have := h.2.1; show g.v.length ≤ g.n + 1; omega, by show g.n + 1 ≤ 2001; omega, fun e => absurd e (show ¬ (3 : Int) = 0 by decide)⟩
      · rw [get_nod l a r c g he (by omega)]
        cases hn9 : nod l a g.v (dr l l.length c) with
        | bad => exact ⟨h.1, by have := h.2.1; show g.v.length ≤ g.n + 1; omega, by show g.n + 1 ≤ 2001; omega, fun e => absurd e (show ¬ (2 : Int) = 0 by decide)⟩
        | leaf t v =>
          have := nod_leaf hn9 h.1
          exact ⟨this.1, by have t2 := this.2; have := h.2.1; show v.length ≤ g.n + 1; omega, by show g.n + 1 ≤ 2001; omega, fun e => by show g.n + 1 ≤ 2000; omega⟩
        | comp n k p =>
          have h2 := getL_inv (fun c g h => get_inv l a r c g h) l k p ⟨g.n + 1, g.v, 0⟩ ⟨h.1, by have := h.2.1; show g.v.length ≤ g.n + 1; omega, by show g.n + 1 ≤ 2001; omega, fun e => by show g.n + 1 ≤ 2000; omega⟩
          dsimp only
          revert h2
          cases getL (pm.get l a r) l k p ⟨g.n + 1, g.v, 0⟩ with
          | mk ts g2 => exact id
    · have : pm.get l a (r + 1) c g = (zero, g) := by rw [pm.get, if_neg he]
      rw [this]; exact h
theorem getL_err {f : Int → G → Tm × G} (l : List Int) (n p : Nat) (g : G) (h : g.e ≠ 0) : getL f l n p g = ([], g) := by
  cases n with
  | zero => rw [getL]
  | succ n => rw [getL, if_neg h]
/-- how far the arguments are told -/
def RelG (f : Int → G → Tm × G) (l : List Int) (n0 p0 : Nat) (g1 : G) (kk : Nat) (Ms : List Tm) (g : G) : Prop :=
  (getL f l n0 p0 g1).2 = (getL f l (n0 - kk) (p0 + kk) g).2 ∧ ((getL f l n0 p0 g1).2.e = 0 → (getL f l n0 p0 g1).1 = Ms ++ (getL f l (n0 - kk) (p0 + kk) g).1)
theorem RelG.next {f : Int → G → Tm × G} {l : List Int} {n0 p0 : Nat} {g1 g : G} {kk : Nat} {Ms : List Tm} (h : RelG f l n0 p0 g1 kk Ms g) (hk : kk < n0) (he : g.e = 0) {t' : Tm} (ht : (f (l.getD (p0 + kk) 0) g).2.e = 0 → t' = (f (l.getD (p0 + kk) 0) g).1) :
    RelG f l n0 p0 g1 (kk + 1) (Ms ++ [t']) (f (l.getD (p0 + kk) 0) g).2 := by
  obtain ⟨h1, h2⟩ := h
  obtain ⟨j, hj⟩ : ∃ j, n0 - kk = j + 1 := ⟨n0 - kk - 1, by omega⟩
  have hj2 : n0 - (kk + 1) = j := by omega
  have hp : p0 + (kk + 1) = p0 + kk + 1 := by omega
  rw [hj, getL, if_pos he] at h1 h2
  unfold RelG
  rw [hj2, hp]
  revert h1 h2 ht
  cases f (l.getD (p0 + kk) 0) g with
  | mk t ga =>
    cases hx : getL f l j (p0 + kk + 1) ga with
    | mk ts gb =>
      intro ht h2 h1
      simp only [hx] at h1 h2 ⊢
      refine ⟨h1, fun e => ?_⟩
      have h3 := h2 e
      by_cases hga : ga.e = 0
      · rw [h3, ht hga]; simp
      · rw [getL_err l j _ ga hga] at hx
        injection hx with _ hx
        rw [h1] at e
        exact absurd (hx ▸ e) hga
/-- behind w, own blocks made since turn -/
theorem GX.own {p q mb gb : Nat} {l : List Int} {m : Int} {a : List ByteArray} {g : G} {w wr w' : World} {N F : Nat → Prop} (h : GX p q mb gb l m a g w N wr) (k : kp.Keep F wr w') (hF : ∀ i, F i → w.heap.size < i) : GX p q mb gb l m a g w N w' :=
  ⟨frGB.keep h.gb k fun j hj e => by have := h.lt j hj; have := hF j e; omega, h.keep.trans k fun i hi => Or.inr (by have := hF i hi; omega), (k.block _ (Array.getElem?_eq_some_iff.1 h.zt).1 (fun e => by have := hF _ e; omega)).trans h.zt, h.lt, h.ng⟩
/-- a node in block b whose arguments are being appended, while the blocks N turn -/
structure GrowG (N : Nat → Prop) (b : Nat) (n : ByteArray) (L : List Tm) (s : Value) (w wr : World) : Prop where
  own : XOwn (fun k => k ≤ b) (b + 1) L s wr
  box : wr.heap[b]? = some (.cells #[.int .i64 5, .string n, .int .i64 0, .int .u64 0, .int .u64 0, s] 41 (0, 0))
  wb : w.heap.size < b
  nw : ∀ k, N k → k < w.heap.size
section
variable {N : Nat → Prop} {b : Nat} {n : ByteArray} {L : List Tm} {s : Value} {w wr w' w3 : World}
theorem GrowG.lt (h : GrowG N b n L s w wr) : b < wr.heap.size := (Array.getElem?_eq_some_iff.1 h.box).1
theorem GrowG.keep (h : GrowG N b n L s w wr) (hk : kp.Keep N wr w') : GrowG N b n L s w w' :=
  ⟨h.own.keep hk fun q e => by have := h.nw q e; have := h.wb; exact ⟨by omega, by omega⟩, (hk.block _ h.lt (fun e => by have := h.nw _ e; have := h.wb; omega)).trans h.box, h.wb, h.nw⟩
theorem GrowG.below (h : GrowG N b n L s w wr) (hb : Below wr.heap.size wr w') : GrowG N b n L s w w' := h.keep (Keep.of_below hb)
theorem GrowG.pre {q : Tm} {v : Value} (h : GrowG N b n L s w wr) (hb3 : kp.Keep N wr w3) (hq : Lies (Old wr) w3 q v) : GrowG N b n L s w w3 ∧ Lies (fun k => k ≤ b ∨ s.ownBlock = some k) w3 q v := by
  refine ⟨h.keep hb3, hq.off fun i _ hi => ?_⟩
  have := h.lt
  rcases hi with hi | hi
  · show i < _; omega
  · obtain ⟨xs, ho, _⟩ := h.own.ex
    have := ho.lt i hi
    exact this.2
theorem GrowG.post {g' c' : Nat} {q : Tm} {o : Obj} {v0 v1 v2 v3 v4 v5 : Value} {w4 : World} {xs : List Value} (h : GrowG N b n L s w w3)
    (hx : ∀ (m : Nat) (hm : m < L.length), ∃ v0 v1 v2 v3 v4 v5, xs[m * 6]? = some v0 ∧ xs[m * 6 + 1]? = some v1 ∧ xs[m * 6 + 2]? = some v2 ∧ xs[m * 6 + 3]? = some v3 ∧ xs[m * 6 + 4]? = some v4 ∧ xs[m * 6 + 5]? = some v5 ∧
    Lies (fun k => k ≤ b ∨ s.ownBlock = some k) w3 L[m] (.agg #[v0, v1, v2, v3, v4, v5])) (ho : w3.ownsRow (b + 1) 41 6 s L.length xs)
    (hq : Lies (fun k => k ≤ b ∨ s.ownBlock = some k) w3 q (.agg #[v0, v1, v2, v3, v4, v5])) (ho4 : w4.ownsRow (b + 1) 41 6 (.slice (some ⟨g', 0, none⟩) (L.length + 1) c') (L.length + 1) (xs ++ [v0, v1, v2, v3, v4, v5]))
    (hg4 : (w3.alloc o).grownBy w4 s.ownBlock) (ha : s.ownBlock = some g' ∨ g' = (w3.alloc o).heap.size) :
    (w4.cell? ⟨b, 5, none⟩ = some s ∧ w4.frozen? ⟨b, 5, none⟩ = false) ∧ GrowG N b n (L ++ [q]) (.slice (some ⟨g', 0, none⟩) (L.length + 1) c') w (w4.setCell ⟨b, 5, none⟩ (.slice (some ⟨g', 0, none⟩) (L.length + 1) c')) ∧
      kp.Keep (fun k => b ≤ k) w3 (w4.setCell ⟨b, 5, none⟩ (.slice (some ⟨g', 0, none⟩) (L.length + 1) c')) := by
  obtain ⟨ha1, hk⟩ := XOwn.add hx ho hq ho4 hg4 (ha.imp id fun e => by rw [kp.alloc_size] at e; omega)
  have hbl := h.lt
  have hnb : ¬ s.ownBlock = some b := fun e => by have := (ho.lt b e).1; omega
  have hb4 : w4.heap[b]? = some (.cells #[.int .i64 5, .string n, .int .i64 0, .int .u64 0, .int .u64 0, s] 41 (0, 0)) := (hk.block b hbl hnb).trans h.box
  have ks : kp.Keep (fun i => i = b) w4 (w4.setCell ⟨b, 5, none⟩ (.slice (some ⟨g', 0, none⟩) (L.length + 1) c')) := Keep.setCell (F := fun i => i = b) w4 rfl _
  refine ⟨⟨by simp [World.cell?, hb4], by simp [World.frozen?, hb4]⟩, ⟨?_, ?_, h.wb, h.nw⟩, (hk.mono fun i hi => by have := (ho.lt i hi).1; show b ≤ i; omega).trans ks fun i hi => Or.inl (by show b ≤ i; omega)⟩
  · have := ha1.keep ks fun i hi => by subst hi; exact ⟨Nat.le_refl _, by omega⟩
    simpa using this
  · have := heap_setCell_same w4 b 5 _ 41 (.slice (some ⟨g', 0, none⟩) (L.length + 1) c') hb4
    simpa using this
theorem GrowG.lies (h : GrowG N b n L s w wr) (hn : n.size ≤ 9223372036854775807) : ∃ a c, s = .slice a L.length c ∧ Lies (fun k => k ≤ b) wr (comp n L) (.agg #[.int .i64 5, .string n, .int .i64 0, .int .u64 0, .int .u64 0, s]) := by
  obtain ⟨a, c, rfl, h1, h2, hr⟩ := h.own.row (Y := fun k => k ≤ b) fun k hk => ⟨hk, by omega⟩
  exact ⟨a, c, rfl, Go.Proofs.Ytickdmfcdfocmaa.awk.comp_lies hn h1 h2 hr⟩
end
theorem gv_getD_ (l : List Int) (p : Nat) : gv l (p : Int) = l.getD p 0 := by
  unfold gv
  by_cases h : p < l.length
  · rw [if_pos ⟨by omega, by omega⟩]; simp
  · rw [if_neg (by omega), List.getD_eq_getElem?_getD, List.getElem?_eq_none (by omega)]; rfl
theorem fok_parts {l : List Int} {q : Int} (h : fok l q = true) : ∃ vv n0 : Nat, q = vv ∧ gv l q / 8 % 256 = n0 ∧ 1 ≤ n0 ∧ n0 ≤ 20 ∧ vv + n0 < l.length ∧ vv < l.length := by
  unfold fok at h
  simp only [Bool.and_eq_true, decide_eq_true_eq] at h
  obtain ⟨⟨⟨⟨h1, h2⟩, h3⟩, h4⟩, h5⟩ := h
  have g1 := of_decide_eq_true h1
  have g5 := of_decide_eq_true h5
  exact ⟨q.toNat, (gv l q / 8 % 256).toNat, by omega, by omega, by omega, by omega, by omega, by omega⟩
theorem GB.hold {p q mb gb : Nat} {l : List Int} {m : Int} {a : List ByteArray} {g : G} {w : World} {N : Nat → Prop} (h : GB p q mb gb l m a g w N) (k : Nat) (hk : k < l.length) :
    ∃ gg c, w.cell? ⟨p, 0, none⟩ = some (.slice (some ⟨gg, 0, none⟩) l.length c) ∧ l.length ≤ c ∧ w.cell? ⟨gg, k, none⟩ = some (.int .u64 (l.getD k 0)) ∧ (¬ NG gb mb p ∧ ¬ NG gb mb gg) ∧ (N p ∧ N gg) ∧ p < w.heap.size ∧ gg < w.heap.size := by
  obtain ⟨K1, M1, h1, ⟨K2, M2, h2, ⟨K3, M3, h3, h4, d3, e3⟩, d2, e2⟩, d1, e1⟩ := h
  have h1' : Hp RH w p K1 l m := h1
  obtain ⟨gg, c, c0, _, hg, _, hFg, hc, hcell, _⟩ := h1'.at_ k hk
  obtain ⟨v, hp, _, _, hF⟩ := h1'.ex
  have hFp := (hF p).2 (Or.inl rfl)
  have hng : ∀ j, NG gb mb j → M1 j := fun j hj => (e2 j).2 (Or.inr ((e3 j).2 (by rcases hj with rfl | rfl; exact Or.inr ((h4.2 _).2 rfl); exact Or.inl ((h3.2 _).2 rfl))))
  exact ⟨gg, c, c0, hc, hcell, ⟨fun h => d1 p hFp (hng p h), fun h => d1 gg hFg (hng gg h)⟩, ⟨(e1 p).2 (Or.inl hFp), (e1 gg).2 (Or.inl hFg)⟩, (Array.getElem?_eq_some_iff.1 hp).1, hg⟩
/-- what the region loads -/
abbrev SH (p gb b gg i len cp : Nat) (x : Int) (s : Value) (w' : World) : Prop :=
  w'.cell? ⟨gb, 0, none⟩ = some (.pointer (some ⟨p, 0, none⟩)) ∧ w'.cell? ⟨p, 0, none⟩ = some (.slice (some ⟨gg, 0, none⟩) len cp) ∧ w'.cell? ⟨gg, i, none⟩ = some (.int .u64 x) ∧ w'.cell? ⟨b, 5, none⟩ = some s ∧ w'.frozen? ⟨b, 5, none⟩ = false
theorem SH.keep {p gb b gg i len cp : Nat} {x : Int} {s : Value} {w w' : World} {F : Nat → Prop} (h : SH p gb b gg i len cp x s w) (k : kp.Keep F w w') (hF : ∀ j, F j → j ≠ gb ∧ j ≠ p ∧ j ≠ gg ∧ j ≠ b) (hl : gb < w.heap.size ∧ p < w.heap.size ∧ gg < w.heap.size ∧ b < w.heap.size) : SH p gb b gg i len cp x s w' :=
  ⟨(k.cell hl.1 fun e => (hF _ e).1 rfl).trans h.1, (k.cell hl.2.1 fun e => (hF _ e).2.1 rfl).trans h.2.1, (k.cell hl.2.2.1 fun e => (hF _ e).2.2.1 rfl).trans h.2.2.1, (k.cell hl.2.2.2 fun e => (hF _ e).2.2.2 rfl).trans h.2.2.2.1, (k.frozen hl.2.2.2 fun e => (hF _ e).2.2.2 rfl).trans h.2.2.2.2⟩
theorem SH.turn {p q mb gb b gg i len cp : Nat} {x : Int} {s : Value} {wr w3 w : World} {l : List Int} {m : Int} {a : List ByteArray} {g : G} {N : Nat → Prop} {n : ByteArray} {L : List Tm} (h : SH p gb b gg i len cp x s wr) (k : kp.Keep (NG gb mb) wr w3)
    (hz : (gb < wr.heap.size ∧ p < wr.heap.size ∧ gg < wr.heap.size ∧ b < wr.heap.size) ∧ ((gb < b ∧ p < b ∧ gg < b) ∧ ¬ NG gb mb p ∧ ¬ NG gb mb gg)) (hx : GX p q mb gb l m a g w N w3) (hg : GrowG (NG gb mb) b n L s w w3) : SH p gb b gg i len cp x s w3 :=
  ⟨hx.gb.cells.1.1, (k.cell hz.1.2.1 hz.2.2.1).trans h.2.1, (k.cell hz.1.2.2.1 hz.2.2.2).trans h.2.2.1, (blk_facts hg.box).1.2.2.2.2.2, (blk_facts hg.box).2.2.2.2.2.2⟩
theorem SH.sz {p gb b gg : Nat} {wr w3 : World} {Z : Prop} {F : Nat → Prop} (hz : (gb < wr.heap.size ∧ p < wr.heap.size ∧ gg < wr.heap.size ∧ b < wr.heap.size) ∧ Z) (k : kp.Keep F wr w3) : gb < w3.heap.size ∧ p < w3.heap.size ∧ gg < w3.heap.size ∧ b < w3.heap.size := by
  have := k.size
  have := hz.1
  omega
theorem SH.below {p gb b gg i len cp : Nat} {x : Int} {s : Value} {w w' : World} (h : SH p gb b gg i len cp x s w) (k : Below w.heap.size w w') (hl : gb < w.heap.size ∧ p < w.heap.size ∧ gg < w.heap.size ∧ b < w.heap.size) : SH p gb b gg i len cp x s w' :=
  h.keep (Keep.of_below (F := fun _ => False) k) (fun _ h => h.elim) hl
theorem four {a b c d e : Prop} (h : a ∧ b ∧ c ∧ d ∧ e) : a ∧ b ∧ c ∧ e := ⟨h.1, h.2.1, h.2.2.1, h.2.2.2.2⟩
theorem SH.grown {p gb b gg i len cp : Nat} {x : Int} {s : Value} {wa w w' : World} {e : TypeId} {n sz : Nat} {xs : List Value} {Z : Prop} (h : SH p gb b gg i len cp x s w) (hg : w.grownBy w' s.ownBlock) (ho : wa.ownsRow (b + 1) e sz s n xs) (hz : (gb < b ∧ p < b ∧ gg < b) ∧ Z) : SH p gb b gg i len cp x s w' := by
  have far : ∀ k, k ≤ b → some k ≠ s.ownBlock := fun k hk e => by have := (ho.lt k e.symm).1; omega
  have blt : ∀ {k o : Nat} {v : Value}, w.cell? ⟨k, o, none⟩ = some v → k < w.heap.size := fun h => World.block_lt_of_cell? w _ h
  exact ⟨(hg.cell_far _ (blt h.1) (far gb (by omega))).trans h.1, (hg.cell_far _ (blt h.2.1) (far p (by omega))).trans h.2.1, (hg.cell_far _ (blt h.2.2.1) (far gg (by omega))).trans h.2.2.1, (hg.cell_far _ (blt h.2.2.2.1) (far b (Nat.le_refl _))).trans h.2.2.2.1, (hg.frozen_far _ (blt h.2.2.2.1) (far b (Nat.le_refl _))).trans h.2.2.2.2⟩
/-- the loop over the arguments -/
def ARel (p q mb gb : Nat) (l : List Int) (m : Int) (a : List ByteArray) (r n0 p0 b : Nat) (sN : ByteArray) (g1 : G) (w : World) (N : Nat → Prop) (gm : Nat) (s14 : Value) (wr : World) : Prop :=
  ∃ (kk : Nat) (sv : Value) (Ms : List Tm) (g' : G), kk ≤ n0 ∧ gm = n0 - kk ∧ s14 = .int .i64 kk ∧ Ms.length = kk ∧ RelG (pm.get l a r) l n0 p0 g1 kk Ms g' ∧ Inv g' ∧ GX p q mb gb l m a g' w N wr ∧ GrowG (NG gb mb) b sN Ms sv w wr
theorem comp_end {l : List Int} {a : List ByteArray} {r n0 p0 kk : Nat} {c : Int} {sN : ByteArray} {g1 g g' : G} {Ms : List Tm}
    (hres : (pm.get l a (r + 1) c g).2 = (getL (pm.get l a r) l n0 p0 g1).2 ∧ ((pm.get l a (r + 1) c g).2.e = 0 → (pm.get l a (r + 1) c g).1 = comp sN (getL (pm.get l a r) l n0 p0 g1).1))
    (hrel : RelG (pm.get l a r) l n0 p0 g1 kk Ms g') (hend : getL (pm.get l a r) l (n0 - kk) (p0 + kk) g' = ([], g')) : (pm.get l a (r + 1) c g).2 = g' ∧ (g'.e = 0 → comp sN Ms = (pm.get l a (r + 1) c g).1) := by
  obtain ⟨h1, h2⟩ := hres
  obtain ⟨h3, h4⟩ := hrel
  rw [hend] at h3 h4
  have e := h1.trans h3
  refine ⟨e, fun he => ?_⟩
  have hz : (pm.get l a (r + 1) c g).2.e = 0 := by rw [e]; exact he
  rw [h2 hz, h4 (by rw [← h1]; exact hz)]
  simp
set_option maxRecDepth 100000 in
set_option maxHeartbeats 16000000 in
theorem rget_1 (p q mb gb : Nat) (l : List Int) (m : Int) (a : List ByteArray) (ha : a.length ≤ 4096) (hnames : ∀ x ∈ a, x.size ≤ 9223372036854775807) (r : Nat) (ih : ∀ (c : Int) (g : G) (w : World) (N : Nat → Prop) (dd : Int), GB p q mb gb l m a g w N → W64 c → Inv g → dd = 501 - (r : Int) →
      Calls Try.prog 63 #[.pointer (some ⟨gb, 0, none⟩), .int .u64 c, .int .i64 dd] w (GetsR p q mb gb l m a r c g w N))
    (c : Int) (g : G) (w : World) (N : Nat → Prop) (h : GB p q mb gb l m a g w N) (hc : W64 c) (hr : r + 1 ≤ 500) (he : g.e = 0) (hl : ¬ 2000 ≤ g.n) (hinv : Inv g) (t5 : dr l l.length c % 8 = 1) :
    Calls Try.prog 63 #[.pointer (some ⟨gb, 0, none⟩), .int .u64 c, .int .i64 (501 - ((r + 1 : Nat) : Int))] w (GetsR p q mb gb l m a (r + 1) c g w N) := by
  have IH := Lib.hid ih
  have HINV := Lib.hid hinv
  have HR := Lib.hid hr
  clear ih hinv
  obtain ⟨w1, hw1⟩ : ∃ w1, w1 = w.alloc ZT := ⟨_, rfl⟩
  have X1 := Lib.hid (show GX p q mb gb l m a g w N w1 by rw [hw1]; exact GX.start h)
  have HW1 := Lib.hid hw1
  have HE := Lib.hid he
  obtain ⟨F, hp⟩ := h.heap
  have hllen := hp.len_le
  have HWF := Lib.hid hp.wf
  have HD := Lib.hid (dr_w hp.wf l.length c hc)
  obtain ⟨d, hd⟩ : ∃ d, d = dr l l.length c := ⟨_, rfl⟩
  rw [← hd] at HD t5
  have HDD := Lib.hid hd
  have HGET := Lib.hid (get_succ (r := r) (a := a) he hl hd)
  have HC := Lib.hid hc
  have h1 : ¬ 2000 < (g.n : Int) + 1 := by omega
  have h2 : ¬ 500 < 501 - ((r + 1 : Nat) : Int) := by omega
  clear h he hw1 hp hd hc
  go_enter Try.func63, Try.ntmps63
  go_upto_region 1 with fail
  change Code.wp _ _ _ _ (w.alloc ZT)
  rw [← HW1.out]
  obtain ⟨⟨c0, c1, c2, c3, c4⟩, f3, f4⟩ := X1.out.gb.cells
  rw [HE.out] at c4
  go_upto_region 4 with fail
  obtain ⟨w2, hw2⟩ : ∃ w2, w2 = w1.setCell ⟨gb, 3, none⟩ (.int .i64 ((g.n : Int) + 1)) := ⟨_, rfl⟩
  have X2 := Lib.hid (show GX p q mb gb l m a ⟨g.n + 1, g.v, g.e⟩ w N w2 by rw [hw2]; exact X1.out.setN (g.n + 1))
  rw [← hw2]
  clear hw2 c0 c1 c2 c3 c4 f3 f4 X1
  obtain ⟨⟨c0, c1, c2, c3, c4⟩, f3, f4⟩ := X2.out.gb.cells
  dsimp only at c3 c4
  rw [HE.out] at c4
  obtain ⟨F2, hp2⟩ := X2.out.gb.heap
  have hdr := rderef_any hp2 c HC.out
  rw [← HDD.out] at hdr
  go_wp2_with fail
  refine hdr.mono ?_; rintro e w3 ⟨rfl, nd, hw3⟩
  have X3 := Lib.hid (show GX p q mb gb l m a ⟨g.n + 1, g.v, g.e⟩ w N w3 by rw [hw3]; exact X2.out.below (drewN_below w2 nd))
  clear hw3 hdr hp2 c0 c1 c2 c3 c4 f3 f4 X2
  obtain ⟨⟨c0, c1, c2, c3, c4⟩, f3, f4⟩ := X3.out.gb.cells
  dsimp only at c3 c4
  rw [HE.out] at c4
  go_wp2_with fail
  refine (rvalue_any d _ HD.out).mono ?_; rintro e w' ⟨rfl, rfl⟩
  go_wp2_with fail
  refine (rtag_any d _ HD.out).mono ?_; rintro e w' ⟨rfl, rfl⟩
  have X4 : Hid (GX p q mb gb l m a ⟨g.n + 1, g.v, 0⟩ w N w3) := by have := X3.out; rw [HE.out] at this; exact Lib.hid this
  clear X3
  have hq : 0 ≤ d / 8 ∧ d / 8 < 2305843009213693952 := by have := HD.out.1; have := HD.out.2; omega
  obtain ⟨F4, hp4⟩ := X4.out.gb.heap
  have hfun := rfun_any hp4 d HD.out
  by_cases hk : fok l (d / 8) = true
  · obtain ⟨vv, n0, hv, hn, hn1, hn20, hin, hvl⟩ := fok_parts hk
    have hfk : fnk l (d / 8) = true := hk
    have hxw := gv_w hp4.wf (d / 8)
    have hfa : fna l (d / 8) = gv l (d / 8) / 8 / 256 := by unfold fna; rw [if_pos hfk]
    have hfn : fnn l (d / 8) = (n0 : Int) := by unfold fnn; rw [if_pos hfk]; exact hn
    rw [hfa, hfn, hfk] at hfun
    have hA : 0 ≤ gv l (d / 8) / 8 / 256 ∧ gv l (d / 8) / 8 / 256 < 9007199254740992 := by have := hxw.1; have := hxw.2; omega
    obtain ⟨sN, hsN⟩ : ∃ sN, sN = (if gv l (d / 8) / 8 / 256 < a.length then a.getD (gv l (d / 8) / 8 / 256).toNat ByteArray.empty else ⟨#[]⟩) := ⟨_, rfl⟩
    obtain ⟨g1, hg1⟩ : ∃ g1 : G, g1 = ⟨g.n + 1, g.v, if gv l (d / 8) / 8 / 256 < a.length then 0 else 2⟩ := ⟨_, rfl⟩
    have hres : Hid ((pm.get l a (r + 1) c g).2 = (getL (pm.get l a r) l n0 (vv + 1) g1).2 ∧ ((pm.get l a (r + 1) c g).2.e = 0 → (pm.get l a (r + 1) c g).1 = comp sN (getL (pm.get l a r) l n0 (vv + 1) g1).1)) := by
      refine Lib.hid ?_
      rw [HGET.out, if_neg (by omega), if_neg (by omega), if_neg (by omega), if_neg (by omega), if_neg (by omega), if_pos ⟨t5, hk⟩, hn]
      have e1 : ((n0 : Nat) : Int).toNat = n0 := by omega
      have e2 : (d / 8).toNat + 1 = vv + 1 := by omega
      rw [e1, e2]
      by_cases hlt : gv l (d / 8) / 8 / 256 < (a.length : Int)
      · rw [if_pos hlt] at hsN hg1 ⊢
        rw [hsN, hg1]
        cases getL (pm.get l a r) l n0 (vv + 1) ⟨g.n + 1, g.v, 0⟩
        exact ⟨rfl, fun _ => rfl⟩
      · rw [if_neg hlt] at hg1 ⊢
        rw [hg1, getL_err l n0 (vv + 1) _ (show ¬ (2 : Int) = 0 by decide)]
        exact ⟨rfl, fun e => absurd e (show ¬ (2 : Int) = 0 by decide)⟩
    have hinv1 : Hid (Inv g1) := by
      refine Lib.hid ?_
      have hi := HINV.out
      rw [hg1]
      exact ⟨hi.1, by have := hi.2.1; show g.v.length ≤ g.n + 1; omega, by show g.n + 1 ≤ 2001; omega, fun _ => by show g.n + 1 ≤ 2000; omega⟩
    have hsz : Hid (sN.size ≤ 9223372036854775807) := by
      refine Lib.hid ?_
      rw [hsN]; split
      · exact hnames _ (getD_mem' (by omega))
      · decide
    obtain ⟨A, hAe⟩ : ∃ A, A = gv l (d / 8) / 8 / 256 := ⟨_, rfl⟩
    rw [← hAe] at hfun hA hsN hg1
    have hwA : IntKind.u64.wrap A = A := by rw [IntKind.wrap_u64]; omega
    have HA := Lib.hid (And.intro hA (And.intro hsN hg1))
    have HN := Lib.hid (And.intro hn1 (And.intro hn20 (And.intro hin hvl)))
    rw [t5]
    rw [hv]
    have HV := Lib.hid hv
    clear t5 h1 h2 hr hl hllen hq hk hp4 hfk hxw hfa hfn hA hsN hg1 hAe hv hn hn1 hn20 hin hvl
    go_wp2_with fail
    refine hfun.mono ?_; rintro e w4 ⟨rfl, nd4, hw4⟩
    have X5 := Lib.hid (show GX p q mb gb l m a ⟨g.n + 1, g.v, 0⟩ w N w4 by rw [hw4]; exact X4.out.below (drewN_below w3 nd4))
    clear hw4 hfun c0 c1 c2 c3 c4 f3 f4 X4
    obtain ⟨⟨c0, c1, c2, c3, c4⟩, f3, f4⟩ := X5.out.gb.cells
    have hnm := rname_any X5.out.gb A HA.out.1.1 (by have := HA.out.1.2; omega) (by omega)
    rw [← HA.out.2.1] at hnm
    go_wp2_with fail
    refine hnm.mono ?_; rintro e w5 ⟨rfl, hgb, hk5⟩
    have X6 : Hid (GX p q mb gb l m a g1 w N w5) := by
      have := X5.out.step hgb hk5
      rw [show (⟨g.n + 1, g.v, if A < (a.length : Int) then 0 else 2⟩ : G) = g1 from HA.out.2.2.symm] at this
      exact Lib.hid this
    clear hnm hgb hk5 c0 c1 c2 c3 c4 f3 f4 X5
    obtain ⟨ij, hi1, hi2, hi3, hi4⟩ := info_t
    have HI := Lib.hid (And.intro hi1 (And.intro hi2 (And.intro hi3 hi4)))
    clear hi1 hi2 hi3 hi4
    obtain ⟨b, hb⟩ : ∃ b, b = w5.heap.size := ⟨_, rfl⟩
    obtain ⟨w6, hw6⟩ : ∃ w6, w6 = w5.alloc (.cells #[.int .i64 5, .string sN, .int .i64 0, .int .u64 0, .int .u64 0, .slice none 0 0] 41) := ⟨_, rfl⟩
    have X7 := Lib.hid (show GX p q mb gb l m a g1 w N w6 by rw [hw6]; exact X6.out.below (Go.Proofs.Ytickdmfcdfocmaa.kp.ba _ _))
    have hwl : w.heap.size < w5.heap.size := (Array.getElem?_eq_some_iff.1 X6.out.zt).1
    have HGr := Lib.hid (show GrowG (NG gb mb) b sN [] (.slice none 0 0) w w6 by rw [hw6, hb]; exact ⟨XOwn.nil _ _ _, Go.Proofs.Ytickdmfcdfocmaa.kp.alloc_at _ _, hwl, fun k hk => by have := X6.out.ng; rcases hk with rfl | rfl <;> omega⟩)
    have HW6 := Lib.hid (And.intro hb hw6)
    clear hb hw6 hwl X6
    go_upto_region 33 with fail
    rw [← HW6.out.1, ← HW6.out.2]
    go_wp2_with fail
    go_loopg [14] n0 (ARel p q mb gb l m a r n0 (vv + 1) b sN g1 w N)
    case atStart => exact ⟨0, _, [], g1, by omega, by omega, rfl, rfl, ⟨by simp, fun _ => by simp⟩, hinv1.out, X7.out, HGr.out⟩
    case round =>
      obtain ⟨kk, s, Ms, g', hk, rfl, rfl, hml, hrl, hiv, hx, hg⟩ := hrel
      obtain ⟨⟨c0, c1, c2, c3, c4⟩, f3, f4⟩ := hx.gb.cells
      by_cases hlt : kk < n0
      · by_cases hge : g'.e = 0
        · have hkn : (kk : Int) < (n0 : Int) := by omega
          have hvk : vv + 1 + kk < l.length := by have := HN.out.2.2.1; omega
          obtain ⟨F9, hp9⟩ := hx.gb.heap
          have hcw := Lib.hid (gv_w hp9.wf ((vv + 1 + kk : Nat) : Int))
          have hll := hp9.len_le
          obtain ⟨gg, cp, d0, hcap, hcell, hng, hN, hps, hgs⟩ := hx.gb.hold (vv + 1 + kk) hvk
          have hgv : gv l ((vv + 1 + kk : Nat) : Int) = l.getD (vv + 1 + kk) 0 := gv_getD_ l _
          rw [hgv] at hcw
          have hbl := hg.lt
          have hSZ := Lib.hid (show (gb < wr.heap.size ∧ p < wr.heap.size ∧ gg < wr.heap.size ∧ b < wr.heap.size) ∧ ((gb < b ∧ p < b ∧ gg < b) ∧ ¬ NG gb mb p ∧ ¬ NG gb mb gg) from ⟨⟨Nat.lt_trans (Nat.lt_trans hx.ng.1 hg.wb) hbl, hps, hgs, hbl⟩, ⟨Nat.lt_trans hx.ng.1 hg.wb, Nat.lt_trans (hx.lt p hN.1) hg.wb, Nat.lt_trans (hx.lt gg hN.2) hg.wb⟩, hng⟩)
          have HX := Lib.hid (And.intro hx (And.intro hg (And.intro hml (And.intro hrl (And.intro hiv (And.intro hge hlt))))))
          rw [hge] at c4
          generalize hxe : l.getD (vv + 1 + kk) 0 = x at *
          have HXE := Lib.hid hxe
          have i0 : (vv : Int) + 1 + (kk : Int) < (l.length : Int) := by omega
          have i1 : (0 : Int) ≤ (vv : Int) + 1 + (kk : Int) := by omega
          have i2 : (l.length : Int) ≤ 1048576 := by omega
          have i3 : (0 : Int) ≤ (vv : Int) := by omega
          have i4 : (vv : Int) < 1048576 := by omega
          have i5 : (kk : Int) < 32 := by have := HN.out.2.1; omega
          have hwv : IntKind.i64.wrap (vv : Int) = (vv : Int) := by rw [IntKind.wrap_i64]; omega
          have hwv1 : IntKind.i64.wrap ((vv : Int) + 1) = (vv : Int) + 1 := by rw [IntKind.wrap_i64]; omega
          have hwv2 : IntKind.i64.wrap ((vv : Int) + 1 + (kk : Int)) = (vv : Int) + 1 + (kk : Int) := by rw [IntKind.wrap_i64]; omega
          have hti : ((vv : Int) + 1 + (kk : Int)).toNat = vv + 1 + kk := by omega
          clear hp9 hx hg hml hrl hiv hge hlt hgv hxe hk hll hng hN hps hgs hbl
          go_wp2_with fail
          have hxd := HX.out.1.below (Go.Proofs.Ytickdmfcdfocmaa.kp.bdr wr)
          have hgd := HX.out.2.1.below (Go.Proofs.Ytickdmfcdfocmaa.kp.bdr wr)
          have d0' : wr.drew.cell? ⟨p, 0, none⟩ = some (.slice (some ⟨gg, 0, none⟩) l.length cp) := d0
          have hcell' : wr.drew.cell? ⟨gg, ((vv : Int) + 1 + (kk : Int)).toNat, none⟩ = some (.int .u64 x) := by rw [hti]; exact hcell
          clear c0 c1 c2 c3 c4 f3 f4 d0 hcell hti
          have c0 := hxd.gb.cells.1.1
          have y5 := (blk_facts hgd.box).1.2.2.2.2.2
          have f5 := (blk_facts hgd.box).2.2.2.2.2.2
          have HG := Lib.hid (And.intro hxd hgd)
          have SK0 := Lib.hid (And.intro c0 (And.intro d0' (And.intro hcell' (And.intro y5 f5))))
          clear hxd hgd
          have q1 : ¬ gb = b := by have := hSZ.out.2.1.1; omega
          have q2 : ¬ p = b := by have := hSZ.out.2.1.2.1; omega
          have q3 : ¬ gg = b := by have := hSZ.out.2.1.2.2; omega
          have q4 : ¬ b = gb := fun e => q1 e.symm
          have q5 : ¬ b = p := fun e => q2 e.symm
          have q6 : ¬ b = gg := fun e => q3 e.symm
          refine wp_region_held_drew (S := (fun w' => w'.cell? ⟨gb, 0, none⟩ = some (.pointer (some ⟨p, 0, none⟩)) ∧ w'.cell? ⟨p, 0, none⟩ = some (.slice (some ⟨gg, 0, none⟩) l.length cp) ∧ w'.cell? ⟨gg, ((vv : Int) + 1 + (kk : Int)).toNat, none⟩ = some (.int .u64 x) ∧ w'.frozen? ⟨b, 5, none⟩ = false)) (by kernel_rfl) ?_ (fun hHeld => ?_)
          · (try dsimp only); first | with_reducible exact four SK0.out | with_reducible exact four SK3.out | with_reducible exact four SKA.out | with_reducible exact four SK9.out | go_keep
          refine wpAnyH_take (i := 0) (v := ?_) rfl (by kernel_rfl) (by kernel_rfl) (by kernel_rfl) (fun _ _ _ h => h) (Or.inl ⟨by rfl, ?_⟩) (by assumption) ?_
          rotate_left
          · (intro w hSw; (try dsimp only at hSw); go_simp; first | done | with_reducible rfl)
          try simp only [Act.put, List.getElem_toArray, List.getElem_cons_zero, List.getElem_cons_succ, List.setIfInBounds_toArray, List.set_cons_zero, List.set_cons_succ]
          refine wpAnyH_take (i := 2) (v := ?_) rfl (by kernel_rfl) (by kernel_rfl) (by kernel_rfl) (fun _ _ _ h => h) (Or.inl ⟨by rfl, ?_⟩) (by assumption) ?_
          rotate_left
          · (intro w hSw; (try dsimp only at hSw); go_simp; first | done | with_reducible rfl)
          try simp only [Act.put, List.getElem_toArray, List.getElem_cons_zero, List.getElem_cons_succ, List.setIfInBounds_toArray, List.set_cons_zero, List.set_cons_succ]
          refine wpAnyH_take (i := 3) (v := ?_) rfl (by kernel_rfl) (by kernel_rfl) (by kernel_rfl) (fun _ _ _ h => h) (Or.inl ⟨by rfl, ?_⟩) (by assumption) ?_
          rotate_left
          · (intro w hSw; (try dsimp only at hSw); go_simp; first | done | with_reducible rfl)
          try simp only [Act.put, List.getElem_toArray, List.getElem_cons_zero, List.getElem_cons_succ, List.setIfInBounds_toArray, List.set_cons_zero, List.set_cons_succ]
          refine wpAnyH_take (i := 4) (v := ?_) rfl (by kernel_rfl) (by kernel_rfl) (by kernel_rfl) (fun _ _ _ h => h) (Or.inl ⟨by rfl, ?_⟩) (by assumption) ?_
          rotate_left
          · (intro w hSw; (try dsimp only at hSw); go_simp; first | done | with_reducible rfl)
          try simp only [Act.put, List.getElem_toArray, List.getElem_cons_zero, List.getElem_cons_succ, List.setIfInBounds_toArray, List.set_cons_zero, List.set_cons_succ]
          refine wpAnyH_take (i := 5) (v := ?_) rfl (by kernel_rfl) (by kernel_rfl) (by kernel_rfl) (fun _ _ _ h => h) (Or.inl ⟨by rfl, ?_⟩) (by assumption) ?_
          rotate_left
          · (intro w hSw; (try dsimp only at hSw); go_simp; first | done | with_reducible rfl)
          try simp only [Act.put, List.getElem_toArray, List.getElem_cons_zero, List.getElem_cons_succ, List.setIfInBounds_toArray, List.set_cons_zero, List.set_cons_succ]
          refine wpAnyH_take (i := 6) (v := ?_) rfl (by kernel_rfl) (by kernel_rfl) (by kernel_rfl) (fun _ _ _ h => h) (Or.inl ⟨by rfl, ?_⟩) (by assumption) ?_
          rotate_left
          · (intro w hSw; (try dsimp only at hSw); go_simp; first | done | with_reducible rfl)
          try simp only [Act.put, List.getElem_toArray, List.getElem_cons_zero, List.getElem_cons_succ, List.setIfInBounds_toArray, List.set_cons_zero, List.set_cons_succ]
          refine wpAnyH_take (i := 7) (v := ?_) rfl (by kernel_rfl) (by kernel_rfl) (by kernel_rfl) (fun _ _ _ h => h) (Or.inl ⟨by rfl, ?_⟩) (by assumption) ?_
          rotate_left
          · (intro w hSw; (try dsimp only at hSw); go_simp; first | done | with_reducible rfl)
          try simp only [Act.put, List.getElem_toArray, List.getElem_cons_zero, List.getElem_cons_succ, List.setIfInBounds_toArray, List.set_cons_zero, List.set_cons_succ]
          refine wpAnyH_take (i := 8) (v := ?_) rfl (by kernel_rfl) (by kernel_rfl) (by kernel_rfl) (fun _ _ _ h => h) (Or.inl ⟨by rfl, ?_⟩) (by assumption) ?_
          rotate_left
          · (intro w hSw; (try dsimp only at hSw); go_simp; first | done | with_reducible rfl)
          try simp only [Act.put, List.getElem_toArray, List.getElem_cons_zero, List.getElem_cons_succ, List.setIfInBounds_toArray, List.set_cons_zero, List.set_cons_succ]
          refine wpAnyH_take (i := 9) (v := ?_) rfl (by kernel_rfl) (by kernel_rfl) (by kernel_rfl) (fun _ _ _ h => h) (Or.inl ⟨by rfl, ?_⟩) (by assumption) ?_
          rotate_left
          · (intro w hSw; (try dsimp only at hSw); go_simp; first | done | with_reducible rfl)
          try simp only [Act.put, List.getElem_toArray, List.getElem_cons_zero, List.getElem_cons_succ, List.setIfInBounds_toArray, List.set_cons_zero, List.set_cons_succ]
          refine wpAnyH_take (i := 10) (v := ?_) rfl (by kernel_rfl) (by kernel_rfl) (by kernel_rfl) (fun _ _ _ h => h) (Or.inl ⟨by rfl, ?_⟩) (by assumption) ?_
          rotate_left
          · (intro w hSw; (try dsimp only at hSw); go_simp; first | done | with_reducible rfl)
          try simp only [Act.put, List.getElem_toArray, List.getElem_cons_zero, List.getElem_cons_succ, List.setIfInBounds_toArray, List.set_cons_zero, List.set_cons_succ]
          refine wpAnyH_take (i := 11) (v := ?_) rfl (by kernel_rfl) (by kernel_rfl) (by kernel_rfl) (fun _ _ _ h => h) (Or.inl ⟨by rfl, ?_⟩) (by assumption) ?_
          rotate_left
          · (intro w hSw; (try dsimp only at hSw); go_simp; first | done | with_reducible rfl)
          try simp only [Act.put, List.getElem_toArray, List.getElem_cons_zero, List.getElem_cons_succ, List.setIfInBounds_toArray, List.set_cons_zero, List.set_cons_succ]
          refine wpAnyH_take (i := 12) (v := ?_) rfl (by kernel_rfl) (by kernel_rfl) (by kernel_rfl) (fun _ _ _ h => h) (Or.inl ⟨by rfl, ?_⟩) (by assumption) ?_
          rotate_left
          · (intro w hSw; (try dsimp only at hSw); go_simp; first | done | with_reducible rfl)
          try simp only [Act.put, List.getElem_toArray, List.getElem_cons_zero, List.getElem_cons_succ, List.setIfInBounds_toArray, List.set_cons_zero, List.set_cons_succ]
          refine wpAnyH_take (i := 13) (v := ?_) rfl (by kernel_rfl) (by kernel_rfl) (by kernel_rfl) (fun _ _ _ h => h) (Or.inl ⟨by rfl, ?_⟩) (by assumption) ?_
          rotate_left
          · (intro w hSw; (try dsimp only at hSw); go_simp; first | done | with_reducible rfl)
          try simp only [Act.put, List.getElem_toArray, List.getElem_cons_zero, List.getElem_cons_succ, List.setIfInBounds_toArray, List.set_cons_zero, List.set_cons_succ]
          refine wpAnyH_take (i := 14) (v := ?_) rfl (by kernel_rfl) (by kernel_rfl) (by kernel_rfl) (fun _ _ _ h => h) (Or.inl ⟨by rfl, ?_⟩) (by assumption) ?_
          rotate_left
          · (intro w hSw; (try dsimp only at hSw); go_simp; first | done | with_reducible rfl)
          try simp only [Act.put, List.getElem_toArray, List.getElem_cons_zero, List.getElem_cons_succ, List.setIfInBounds_toArray, List.set_cons_zero, List.set_cons_succ]
          refine wpAnyH_take (i := 15) (v := ?_) rfl (by kernel_rfl) (by kernel_rfl) (by kernel_rfl) (fun _ _ _ h => h) (Or.inl ⟨by rfl, ?_⟩) (by assumption) ?_
          rotate_left
          · (intro w hSw; (try dsimp only at hSw); go_simp; first | done | with_reducible rfl)
          try simp only [Act.put, List.getElem_toArray, List.getElem_cons_zero, List.getElem_cons_succ, List.setIfInBounds_toArray, List.set_cons_zero, List.set_cons_succ]
          refine wpAnyH_take (i := 16) (v := ?_) rfl (by kernel_rfl) (by kernel_rfl) (by kernel_rfl) (fun _ _ _ h => h) (Or.inl ⟨by rfl, ?_⟩) (by assumption) ?_
          rotate_left
          · (intro w hSw; (try dsimp only at hSw); go_simp; first | done | with_reducible rfl)
          try simp only [Act.put, List.getElem_toArray, List.getElem_cons_zero, List.getElem_cons_succ, List.setIfInBounds_toArray, List.set_cons_zero, List.set_cons_succ]
          refine wpAnyH_take (i := 17) (v := ?_) rfl (by kernel_rfl) (by kernel_rfl) (by kernel_rfl) (fun _ _ _ h => h) (Or.inl ⟨by rfl, ?_⟩) (by assumption) ?_
          rotate_left
          · (intro w hSw; (try dsimp only at hSw); go_simp; first | done | with_reducible rfl)
          try simp only [Act.put, List.getElem_toArray, List.getElem_cons_zero, List.getElem_cons_succ, List.setIfInBounds_toArray, List.set_cons_zero, List.set_cons_succ]
          refine wpAnyH_take (i := 18) (v := ?_) rfl (by kernel_rfl) (by kernel_rfl) (by kernel_rfl) (fun _ _ _ h => h) (Or.inl ⟨by rfl, ?_⟩) (by assumption) ?_
          rotate_left
          · (intro w hSw; (try dsimp only at hSw); go_simp; first | done | with_reducible rfl)
          try simp only [Act.put, List.getElem_toArray, List.getElem_cons_zero, List.getElem_cons_succ, List.setIfInBounds_toArray, List.set_cons_zero, List.set_cons_succ]
          refine wpAnyH_ready (rs := [1, 19]) (by kernel_rfl) (by simp) ?_
          refine AllReadyH.cons rfl (fun K hK => ?_) (AllReadyH.cons rfl (fun K hK => ?_) AllReadyH.nil)
          · go_simp
            refine hK.out _ _ ?_ (fun hHeld => ?_)
            · (try dsimp only); first | with_reducible exact four SK0.out | with_reducible exact four SK3.out | with_reducible exact four SKA.out | with_reducible exact four SK9.out | go_keep
            clear hK K
            try simp only [Act.put, List.getElem_toArray, List.getElem_cons_zero, List.getElem_cons_succ, List.setIfInBounds_toArray, List.set_cons_zero, List.set_cons_succ]
            refine wpAnyH_ready (rs := [19]) (by kernel_rfl) (by simp) ?_
            refine AllReadyH.cons rfl (fun K hK => ?_) AllReadyH.nil
            go_simp
            go_at_call 63
            refine (IH.out x g' _ N _ HG.out.1.gb hcw.out HX.out.2.2.2.2.1 ?_).mono ?_
            (have := HR.out; first | omega | (rw [IntKind.wrap_i64]; omega))
            rintro e w3 ⟨t', ka, na, ia, ra, ma, aa, la, cc, rfl, hl3, ht3, hgb3, hk3⟩
            have HX3 := Lib.hid (HG.out.1.step hgb3 hk3)
            have HP := Lib.hid (HG.out.2.pre hk3 hl3)
            have HT3 := Lib.hid ht3
            have SK3 := Lib.hid (SH.turn SK0.out hk3 hSZ.out HX3.out HP.out.1)
            have SKA := Lib.hid (SH.below SK3.out (Go.Proofs.Ytickdmfcdfocmaa.kp.ba w3 (.cells #[.int .i64 ka, .string na, .int .i64 ia, .int .u64 ra, .int .u64 ma, .slice aa la cc] 41)) (SH.sz (wr := wr.drew) hSZ.out hk3))
            have y53 := SK3.out.2.2.2.1
            have y5A := SKA.out.2.2.2.1
            obtain ⟨xs, ho, hx⟩ := HP.out.1.own.ex
            have HO := Lib.hid (And.intro ho hx)
            have hml := Lib.hid HX.out.2.2.1
            clear hl3 ht3 hgb3 hk3 ho hx
            go_wp2_with fail
            refine hK.out _ _ ?_ (fun hHeld => ?_)
            · (try dsimp only); first | with_reducible exact four SK0.out | with_reducible exact four SK3.out | with_reducible exact four SKA.out | with_reducible exact four SK9.out | go_keep
            clear hK K
            try simp only [Act.put, List.getElem_toArray, List.getElem_cons_zero, List.getElem_cons_succ, List.setIfInBounds_toArray, List.set_cons_zero, List.set_cons_succ]
            refine wpAnyH_ready (rs := [20]) (by kernel_rfl) (by simp) ?_
            refine AllReadyH.cons rfl (fun K hK => ?_) AllReadyH.nil
            go_simp
            refine hK.out _ _ ?_ (fun hHeld => ?_)
            · (try dsimp only); first | with_reducible exact four SK0.out | with_reducible exact four SK3.out | with_reducible exact four SKA.out | with_reducible exact four SK9.out | go_keep
            clear hK K
            try simp only [Act.put, List.getElem_toArray, List.getElem_cons_zero, List.getElem_cons_succ, List.setIfInBounds_toArray, List.set_cons_zero, List.set_cons_succ]
            refine wpAnyH_ready (rs := [21]) (by kernel_rfl) (by simp) ?_
            refine AllReadyH.cons rfl (fun K hK => ?_) AllReadyH.nil
            refine step_append_lies _ rfl (.tmp 205) (.tmp 224) 39 rfl (b + 1) 41 ij ZV 6 72 Try.underlying39 HI.out.1 HI.out.2.1 HI.out.2.2.1 HI.out.2.2.2 rfl (by decide) s Ms.length xs (by simp [Act.eval]) (row6_keep HO.out.1 fun q e => (Go.Proofs.Ytickdmfcdfocmaa.kp.ba _ _).block q (HO.out.1.lt q e).2) ⟨w3.heap.size, 0, none⟩ 1 1 [.int .i64 ka, .string na, .int .i64 ia, .int .u64 ra, .int .u64 ma, .slice aa la cc] (by simp [Act.eval]) rfl (news6 _ _ _ _ _ _ _ _) (by intro u hu; simp only [List.mem_cons, List.not_mem_nil, or_false] at hu; rcases hu with rfl | rfl | rfl | rfl | rfl | rfl <;> rfl) (by omega) (by unfold maxLen; have := hml.out; omega) (by have := hml.out; omega) (by rw [Go.Proofs.Ytickdmfcdfocmaa.kp.alloc_size]; have := HP.out.1.lt; omega) _ rfl ?_
            intro g9 c9 w9 ho9 hg9 ha9 hl9
            have HF := Lib.hid (HP.out.1.post HO.out.2 HO.out.1 HP.out.2 ho9 hg9 ha9)
            have SK9 := Lib.hid (SH.grown SKA.out hg9 HO.out.1 hSZ.out.2)
            obtain ⟨z1, z2⟩ := HF.out.1
            clear ho9 hg9 ha9 hl9
            refine hK.out _ _ ?_ (fun hHeld => ?_)
            · (try dsimp only); first | with_reducible exact four SK0.out | with_reducible exact four SK3.out | with_reducible exact four SKA.out | with_reducible exact four SK9.out | go_keep
            clear hK K
            try simp only [Act.put, List.getElem_toArray, List.getElem_cons_zero, List.getElem_cons_succ, List.setIfInBounds_toArray, List.set_cons_zero, List.set_cons_succ]
            refine wpAnyH_take (i := 22) (v := ?_) rfl (by kernel_rfl) (by kernel_rfl) (by kernel_rfl) (fun _ _ _ h => h) (Or.inl ⟨by rfl, ?_⟩) (by assumption) ?_
            rotate_left
            · (intro w hSw; (try dsimp only at hSw); go_simp; first | done | with_reducible rfl)
            try simp only [Act.put, List.getElem_toArray, List.getElem_cons_zero, List.getElem_cons_succ, List.setIfInBounds_toArray, List.set_cons_zero, List.set_cons_succ]
            refine wpAnyH_ready (rs := [23]) (by kernel_rfl) (by simp) ?_
            refine AllReadyH.cons rfl (fun K hK => ?_) AllReadyH.nil
            go_simp
            refine hK.out _ _ ?_ (fun hHeld => ?_)
            · (try dsimp only); first | with_reducible exact four SK0.out | with_reducible exact four SK3.out | with_reducible exact four SKA.out | with_reducible exact four SK9.out | go_keep
            clear hK K
            try simp only [Act.put, List.getElem_toArray, List.getElem_cons_zero, List.getElem_cons_succ, List.setIfInBounds_toArray, List.set_cons_zero, List.set_cons_succ]
            refine wpAnyH_done (by kernel_rfl) ?_ _
            go_wp2_with fail
            go_roundg (n0 - (kk + 1))
            case measure => omega
            case rel =>
              have hgr := HF.out.2.1
              have hrl := RelG.next HX.out.2.2.2.1 HX.out.2.2.2.2.2.2 HX.out.2.2.2.2.2.1 (t' := t') (by rw [HXE.out]; exact HT3.out)
              rw [HXE.out] at hrl
              exact ⟨kk + 1, _, Ms ++ [t'], _, HX.out.2.2.2.2.2.2, rfl, by go_num, by rw [List.length_append, hml.out]; rfl, hrl, get_inv l a r x g' HX.out.2.2.2.2.1, HX3.out.own HF.out.2.2 (fun i hi => Nat.lt_of_lt_of_le hgr.wb hi), by first | exact hgr | (rw [List.length_append]; exact hgr)⟩
          · go_simp
            go_at_call 63
            refine (IH.out x g' _ N _ HG.out.1.gb hcw.out HX.out.2.2.2.2.1 ?_).mono ?_
            (have := HR.out; first | omega | (rw [IntKind.wrap_i64]; omega))
            rintro e w3 ⟨t', ka, na, ia, ra, ma, aa, la, cc, rfl, hl3, ht3, hgb3, hk3⟩
            have HX3 := Lib.hid (HG.out.1.step hgb3 hk3)
            have HP := Lib.hid (HG.out.2.pre hk3 hl3)
            have HT3 := Lib.hid ht3
            have SK3 := Lib.hid (SH.turn SK0.out hk3 hSZ.out HX3.out HP.out.1)
            have SKA := Lib.hid (SH.below SK3.out (Go.Proofs.Ytickdmfcdfocmaa.kp.ba w3 (.cells #[.int .i64 ka, .string na, .int .i64 ia, .int .u64 ra, .int .u64 ma, .slice aa la cc] 41)) (SH.sz (wr := wr.drew) hSZ.out hk3))
            have y53 := SK3.out.2.2.2.1
            have y5A := SKA.out.2.2.2.1
            obtain ⟨xs, ho, hx⟩ := HP.out.1.own.ex
            have HO := Lib.hid (And.intro ho hx)
            have hml := Lib.hid HX.out.2.2.1
            clear hl3 ht3 hgb3 hk3 ho hx
            go_wp2_with fail
            refine hK.out _ _ ?_ (fun hHeld => ?_)
            · (try dsimp only); first | with_reducible exact four SK0.out | with_reducible exact four SK3.out | with_reducible exact four SKA.out | with_reducible exact four SK9.out | go_keep
            clear hK K
            try simp only [Act.put, List.getElem_toArray, List.getElem_cons_zero, List.getElem_cons_succ, List.setIfInBounds_toArray, List.set_cons_zero, List.set_cons_succ]
            refine wpAnyH_ready (rs := [1, 20]) (by kernel_rfl) (by simp) ?_
            refine AllReadyH.cons rfl (fun K hK => ?_) (AllReadyH.cons rfl (fun K hK => ?_) AllReadyH.nil)
            · go_simp
              refine hK.out _ _ ?_ (fun hHeld => ?_)
              · (try dsimp only); first | with_reducible exact four SK0.out | with_reducible exact four SK3.out | with_reducible exact four SKA.out | with_reducible exact four SK9.out | go_keep
              clear hK K
              try simp only [Act.put, List.getElem_toArray, List.getElem_cons_zero, List.getElem_cons_succ, List.setIfInBounds_toArray, List.set_cons_zero, List.set_cons_succ]
              refine wpAnyH_ready (rs := [20]) (by kernel_rfl) (by simp) ?_
              refine AllReadyH.cons rfl (fun K hK => ?_) AllReadyH.nil
              go_simp
              refine hK.out _ _ ?_ (fun hHeld => ?_)
              · (try dsimp only); first | with_reducible exact four SK0.out | with_reducible exact four SK3.out | with_reducible exact four SKA.out | with_reducible exact four SK9.out | go_keep
              clear hK K
              try simp only [Act.put, List.getElem_toArray, List.getElem_cons_zero, List.getElem_cons_succ, List.setIfInBounds_toArray, List.set_cons_zero, List.set_cons_succ]
              refine wpAnyH_ready (rs := [21]) (by kernel_rfl) (by simp) ?_
              refine AllReadyH.cons rfl (fun K hK => ?_) AllReadyH.nil
              refine step_append_lies _ rfl (.tmp 205) (.tmp 224) 39 rfl (b + 1) 41 ij ZV 6 72 Try.underlying39 HI.out.1 HI.out.2.1 HI.out.2.2.1 HI.out.2.2.2 rfl (by decide) s Ms.length xs (by simp [Act.eval]) (row6_keep HO.out.1 fun q e => (Go.Proofs.Ytickdmfcdfocmaa.kp.ba _ _).block q (HO.out.1.lt q e).2) ⟨w3.heap.size, 0, none⟩ 1 1 [.int .i64 ka, .string na, .int .i64 ia, .int .u64 ra, .int .u64 ma, .slice aa la cc] (by simp [Act.eval]) rfl (news6 _ _ _ _ _ _ _ _) (by intro u hu; simp only [List.mem_cons, List.not_mem_nil, or_false] at hu; rcases hu with rfl | rfl | rfl | rfl | rfl | rfl <;> rfl) (by omega) (by unfold maxLen; have := hml.out; omega) (by have := hml.out; omega) (by rw [Go.Proofs.Ytickdmfcdfocmaa.kp.alloc_size]; have := HP.out.1.lt; omega) _ rfl ?_
              intro g9 c9 w9 ho9 hg9 ha9 hl9
              have HF := Lib.hid (HP.out.1.post HO.out.2 HO.out.1 HP.out.2 ho9 hg9 ha9)
              have SK9 := Lib.hid (SH.grown SKA.out hg9 HO.out.1 hSZ.out.2)
              obtain ⟨z1, z2⟩ := HF.out.1
              clear ho9 hg9 ha9 hl9
              refine hK.out _ _ ?_ (fun hHeld => ?_)
              · (try dsimp only); first | with_reducible exact four SK0.out | with_reducible exact four SK3.out | with_reducible exact four SKA.out | with_reducible exact four SK9.out | go_keep
              clear hK K
              try simp only [Act.put, List.getElem_toArray, List.getElem_cons_zero, List.getElem_cons_succ, List.setIfInBounds_toArray, List.set_cons_zero, List.set_cons_succ]
              refine wpAnyH_take (i := 22) (v := ?_) rfl (by kernel_rfl) (by kernel_rfl) (by kernel_rfl) (fun _ _ _ h => h) (Or.inl ⟨by rfl, ?_⟩) (by assumption) ?_
              rotate_left
              · (intro w hSw; (try dsimp only at hSw); go_simp; first | done | with_reducible rfl)
              try simp only [Act.put, List.getElem_toArray, List.getElem_cons_zero, List.getElem_cons_succ, List.setIfInBounds_toArray, List.set_cons_zero, List.set_cons_succ]
              refine wpAnyH_ready (rs := [23]) (by kernel_rfl) (by simp) ?_
              refine AllReadyH.cons rfl (fun K hK => ?_) AllReadyH.nil
              go_simp
              refine hK.out _ _ ?_ (fun hHeld => ?_)
              · (try dsimp only); first | with_reducible exact four SK0.out | with_reducible exact four SK3.out | with_reducible exact four SKA.out | with_reducible exact four SK9.out | go_keep
              clear hK K
              try simp only [Act.put, List.getElem_toArray, List.getElem_cons_zero, List.getElem_cons_succ, List.setIfInBounds_toArray, List.set_cons_zero, List.set_cons_succ]
              refine wpAnyH_done (by kernel_rfl) ?_ _
              go_wp2_with fail
              go_roundg (n0 - (kk + 1))
              case measure => omega
              case rel =>
                have hgr := HF.out.2.1
                have hrl := RelG.next HX.out.2.2.2.1 HX.out.2.2.2.2.2.2 HX.out.2.2.2.2.2.1 (t' := t') (by rw [HXE.out]; exact HT3.out)
                rw [HXE.out] at hrl
                exact ⟨kk + 1, _, Ms ++ [t'], _, HX.out.2.2.2.2.2.2, rfl, by go_num, by rw [List.length_append, hml.out]; rfl, hrl, get_inv l a r x g' HX.out.2.2.2.2.1, HX3.out.own HF.out.2.2 (fun i hi => Nat.lt_of_lt_of_le hgr.wb hi), by first | exact hgr | (rw [List.length_append]; exact hgr)⟩
            · go_simp
              refine hK.out _ _ ?_ (fun hHeld => ?_)
              · (try dsimp only); first | with_reducible exact four SK0.out | with_reducible exact four SK3.out | with_reducible exact four SKA.out | with_reducible exact four SK9.out | go_keep
              clear hK K
              try simp only [Act.put, List.getElem_toArray, List.getElem_cons_zero, List.getElem_cons_succ, List.setIfInBounds_toArray, List.set_cons_zero, List.set_cons_succ]
              refine wpAnyH_ready (rs := [1]) (by kernel_rfl) (by simp) ?_
              refine AllReadyH.cons rfl (fun K hK => ?_) AllReadyH.nil
              go_simp
              refine hK.out _ _ ?_ (fun hHeld => ?_)
              · (try dsimp only); first | with_reducible exact four SK0.out | with_reducible exact four SK3.out | with_reducible exact four SKA.out | with_reducible exact four SK9.out | go_keep
              clear hK K
              try simp only [Act.put, List.getElem_toArray, List.getElem_cons_zero, List.getElem_cons_succ, List.setIfInBounds_toArray, List.set_cons_zero, List.set_cons_succ]
              refine wpAnyH_ready (rs := [21]) (by kernel_rfl) (by simp) ?_
              refine AllReadyH.cons rfl (fun K hK => ?_) AllReadyH.nil
              refine step_append_lies _ rfl (.tmp 205) (.tmp 224) 39 rfl (b + 1) 41 ij ZV 6 72 Try.underlying39 HI.out.1 HI.out.2.1 HI.out.2.2.1 HI.out.2.2.2 rfl (by decide) s Ms.length xs (by simp [Act.eval]) (row6_keep HO.out.1 fun q e => (Go.Proofs.Ytickdmfcdfocmaa.kp.ba _ _).block q (HO.out.1.lt q e).2) ⟨w3.heap.size, 0, none⟩ 1 1 [.int .i64 ka, .string na, .int .i64 ia, .int .u64 ra, .int .u64 ma, .slice aa la cc] (by simp [Act.eval]) rfl (news6 _ _ _ _ _ _ _ _) (by intro u hu; simp only [List.mem_cons, List.not_mem_nil, or_false] at hu; rcases hu with rfl | rfl | rfl | rfl | rfl | rfl <;> rfl) (by omega) (by unfold maxLen; have := hml.out; omega) (by have := hml.out; omega) (by rw [Go.Proofs.Ytickdmfcdfocmaa.kp.alloc_size]; have := HP.out.1.lt; omega) _ rfl ?_
              intro g9 c9 w9 ho9 hg9 ha9 hl9
              have HF := Lib.hid (HP.out.1.post HO.out.2 HO.out.1 HP.out.2 ho9 hg9 ha9)
              have SK9 := Lib.hid (SH.grown SKA.out hg9 HO.out.1 hSZ.out.2)
              obtain ⟨z1, z2⟩ := HF.out.1
              clear ho9 hg9 ha9 hl9
              refine hK.out _ _ ?_ (fun hHeld => ?_)
              · (try dsimp only); first | with_reducible exact four SK0.out | with_reducible exact four SK3.out | with_reducible exact four SKA.out | with_reducible exact four SK9.out | go_keep
              clear hK K
              try simp only [Act.put, List.getElem_toArray, List.getElem_cons_zero, List.getElem_cons_succ, List.setIfInBounds_toArray, List.set_cons_zero, List.set_cons_succ]
              refine wpAnyH_take (i := 22) (v := ?_) rfl (by kernel_rfl) (by kernel_rfl) (by kernel_rfl) (fun _ _ _ h => h) (Or.inl ⟨by rfl, ?_⟩) (by assumption) ?_
              rotate_left
              · (intro w hSw; (try dsimp only at hSw); go_simp; first | done | with_reducible rfl)
              try simp only [Act.put, List.getElem_toArray, List.getElem_cons_zero, List.getElem_cons_succ, List.setIfInBounds_toArray, List.set_cons_zero, List.set_cons_succ]
              refine wpAnyH_ready (rs := [23]) (by kernel_rfl) (by simp) ?_
              refine AllReadyH.cons rfl (fun K hK => ?_) AllReadyH.nil
              go_simp
              refine hK.out _ _ ?_ (fun hHeld => ?_)
              · (try dsimp only); first | with_reducible exact four SK0.out | with_reducible exact four SK3.out | with_reducible exact four SKA.out | with_reducible exact four SK9.out | go_keep
              clear hK K
              try simp only [Act.put, List.getElem_toArray, List.getElem_cons_zero, List.getElem_cons_succ, List.setIfInBounds_toArray, List.set_cons_zero, List.set_cons_succ]
              refine wpAnyH_done (by kernel_rfl) ?_ _
              go_wp2_with fail
              go_roundg (n0 - (kk + 1))
              case measure => omega
              case rel =>
                have hgr := HF.out.2.1
                have hrl := RelG.next HX.out.2.2.2.1 HX.out.2.2.2.2.2.2 HX.out.2.2.2.2.2.1 (t' := t') (by rw [HXE.out]; exact HT3.out)
                rw [HXE.out] at hrl
                exact ⟨kk + 1, _, Ms ++ [t'], _, HX.out.2.2.2.2.2.2, rfl, by go_num, by rw [List.length_append, hml.out]; rfl, hrl, get_inv l a r x g' HX.out.2.2.2.2.1, HX3.out.own HF.out.2.2 (fun i hi => Nat.lt_of_lt_of_le hgr.wb hi), by first | exact hgr | (rw [List.length_append]; exact hgr)⟩
        · as_aux_lemma =>
          have hkn : (kk : Int) < (n0 : Int) := by omega
          have hne : (g'.e == 0) = false := by rw [beq_eq_false_iff_ne]; exact hge
          have hend := comp_end (kk := kk) hres.out hrl (getL_err l _ _ g' hge)
          have HEND := Lib.hid hend
          clear hend hge hrl
          obtain ⟨a2, c2, rfl, hll⟩ := hg.lies hsz.out
          obtain ⟨⟨b0, b1, b2, b3, b4, b5⟩, _⟩ := blk_facts hg.box
          obtain ⟨⟨z0, z1, z2, z3, z4, z5⟩, y0, y1, y2, y3, y4, y5⟩ := blk_facts hx.zt
          have HZ := Lib.hid (And.intro hx (And.intro hll hg.wb))
          clear hx hll hg hiv hml
          go_wp2_with fail
          obtain ⟨W, hW, e0, e1, e2, e3, e4, e5, k6⟩ := res_fin HZ.out.1.zt (.int .i64 5) (.string sN) (.int .i64 0) (.int .u64 0) (.int .u64 0) (.slice a2 Ms.length c2)
          rw [hW]
          exact bodyPost_ret (v := .agg #[.int .i64 5, .string sN, .int .i64 0, .int .u64 0, .int .u64 0, .slice a2 Ms.length c2]) (by simp [results, Try.results63, go_sem, e0, e1, e2, e3, e4, e5]) rfl (HZ.out.1.fin (.int .i64 5) (.string sN) (.int .i64 0) (.int .u64 0) (.int .u64 0) (.slice a2 Ms.length c2) k6 HEND.out.1 (Lies.keep (X := fun k => k ≤ b) (Y := Old w) (k6.mono fun i h => by subst h; exact Nat.le_of_lt HZ.out.2.2) (fun q _ h => Nat.le_of_lt (Nat.lt_trans h HZ.out.2.2)) _ _ HZ.out.2.1) HEND.out.2)
      · as_aux_lemma =>
        have hkn : ¬ (kk : Int) < (n0 : Int) := by omega
        have hend := comp_end (kk := kk) hres.out hrl (by rw [show n0 - kk = 0 by omega, getL])
        have HEND := Lib.hid hend
        clear hend hrl
        obtain ⟨a2, c2, rfl, hll⟩ := hg.lies hsz.out
        obtain ⟨⟨b0, b1, b2, b3, b4, b5⟩, _⟩ := blk_facts hg.box
        obtain ⟨⟨z0, z1, z2, z3, z4, z5⟩, y0, y1, y2, y3, y4, y5⟩ := blk_facts hx.zt
        have HZ := Lib.hid (And.intro hx (And.intro hll hg.wb))
        clear hx hll hg hiv hml
        go_wp2_with fail
        obtain ⟨W, hW, e0, e1, e2, e3, e4, e5, k6⟩ := res_fin HZ.out.1.zt (.int .i64 5) (.string sN) (.int .i64 0) (.int .u64 0) (.int .u64 0) (.slice a2 Ms.length c2)
        rw [hW]
        exact bodyPost_ret (v := .agg #[.int .i64 5, .string sN, .int .i64 0, .int .u64 0, .int .u64 0, .slice a2 Ms.length c2]) (by simp [results, Try.results63, go_sem, e0, e1, e2, e3, e4, e5]) rfl (HZ.out.1.fin (.int .i64 5) (.string sN) (.int .i64 0) (.int .u64 0) (.int .u64 0) (.slice a2 Ms.length c2) k6 HEND.out.1 (Lies.keep (X := fun k => k ≤ b) (Y := Old w) (k6.mono fun i h => by subst h; exact Nat.le_of_lt HZ.out.2.2) (fun q _ h => Nat.le_of_lt (Nat.lt_trans h HZ.out.2.2)) _ _ HZ.out.2.1) HEND.out.2)
  · as_aux_lemma =>
    have hget := Lib.hid (show pm.get l a (r + 1) c g = (zero, ⟨g.n + 1, g.v, 2⟩) by rw [HGET.out, if_neg (by omega), if_neg (by omega), if_neg (by omega), if_neg (by omega), if_neg (by omega), if_neg (fun x => hk x.2)])
    have hfk : fnk l (d / 8) = false := by have : fnk l (d / 8) = fok l (d / 8) := rfl; rw [this]; simpa using hk
    rw [hfk] at hfun
    generalize fna l (d / 8) = fa at *
    generalize fnn l (d / 8) = fn at *
    rw [t5]
    clear t5 h1 h2 hr hl hllen hq hk hp4 hfk
    go_wp2_with fail
    refine hfun.mono ?_; rintro e w4 ⟨rfl, nd4, hw4⟩
    have X5 := Lib.hid (show GX p q mb gb l m a ⟨g.n + 1, g.v, 0⟩ w N w4 by rw [hw4]; exact X4.out.below (drewN_below w3 nd4))
    clear hw4 hfun c0 c1 c2 c3 c4 f3 f4 X4
    obtain ⟨⟨c0, c1, c2, c3, c4⟩, f3, f4⟩ := X5.out.gb.cells
    go_upto_region 39 with fail
    obtain ⟨w9, hw9⟩ : ∃ w9, w9 = w4.setCell ⟨gb, 4, none⟩ (.int .i64 2) := ⟨_, rfl⟩
    have X9 := Lib.hid (show GX p q mb gb l m a ⟨g.n + 1, g.v, 2⟩ w N w9 by rw [hw9]; exact X5.out.setE 2)
    rw [← hw9]
    clear hw9 c0 c1 c2 c3 c4 f3 f4
    obtain ⟨⟨z0, z1, z2, z3, z4, z5⟩, y0, y1, y2, y3, y4, y5⟩ := blk_facts X9.out.zt
    go_wp2_with fail
    obtain ⟨W, hW, e0, e1, e2, e3, e4, e5, k6⟩ := res_fin X9.out.zt (.int .i64 0) (.string ⟨#[]⟩) (.int .i64 0) (.int .u64 0) (.int .u64 0) (.slice none 0 0)
    rw [hW]
    exact bodyPost_ret (v := .agg #[.int .i64 0, .string ⟨#[]⟩, .int .i64 0, .int .u64 0, .int .u64 0, .slice none 0 0]) (by simp [results, Try.results63, go_sem, e0, e1, e2, e3, e4, e5]) rfl (X9.out.fin (.int .i64 0) (.string ⟨#[]⟩) (.int .i64 0) (.int .u64 0) (.int .u64 0) (.slice none 0 0) k6 (by rw [hget.out]) (zero_lies2 _ _) (fun h => absurd h (show ¬ (2 : Int) = 0 by decide)))
set_option maxRecDepth 100000 in
theorem rget_any (p q mb gb : Nat) (l : List Int) (m : Int) (a : List ByteArray) (ha : a.length ≤ 4096) (hnames : ∀ x ∈ a, x.size ≤ 9223372036854775807) : ∀ (r : Nat) (c : Int) (g : G) (w : World) (N : Nat → Prop) (dd : Int), r ≤ 500 → GB p q mb gb l m a g w N → W64 c → Inv g → dd = 501 - (r : Int) →
    Calls Try.prog 63 #[.pointer (some ⟨gb, 0, none⟩), .int .u64 c, .int .i64 dd] w (GetsR p q mb gb l m a r c g w N) := by
  intro r
  induction r with
  | zero =>
    intro c g w N dd hr h hc hi hd
    subst hd
    by_cases he : g.e = 0
    · exact rget_long h he (by have := hi.2.2.1; omega) (by omega) (Or.inr rfl)
    · exact rget_err h he _
  | succ r ih =>
    intro c g w N dd hr h hc hi hd
    subst hd
    by_cases he : g.e = 0
    · by_cases hl : 2000 ≤ g.n
      · exact rget_long h he (by have := hi.2.2.1; omega) hr (Or.inl hl)
      · by_cases t5 : dr l l.length c % 8 = 5
        · exact rget_5 p q mb gb l m a r c g w N h hc hr he hl t5
        by_cases t1 : dr l l.length c % 8 = 1
        · exact rget_1 p q mb gb l m a ha hnames r (fun c g w N dd h hc hi hd => ih c g w N dd (by omega) h hc hi hd) c g w N h hc hr he hl hi t1
        by_cases t0 : dr l l.length c % 8 = 0
        · by_cases hb : Go.Proofs.Ytickdmfcdfocmaa.hp.gb l (dr l l.length c / 8) = true ∧ gv l (dr l l.length c / 8) = dr l l.length c
          · cases hL : pm.look g.v (dr l l.length c / 8) with
            | some k =>
              have := hi.1 _ _ hL
              have := hi.2.1; have := hi.2.2.1
              exact rget_0o p q mb gb l m a r c g w N h hc hr he hl t0 hb k hL (by omega) (by omega)
            | none => exact rget_0n p q mb gb l m a r c g w N h hc hr he hl t0 hb hL (by have := hi.2.1; have := hi.2.2.1; omega)
          · exact rget_0b p q mb gb l m a r c g w N h hc hr he hl t0 hb
        exact rget_leaf p q mb gb l m a ha hnames r c g w N h hc hr he hl t0 t1 t5
    · exact rget_err h he _
end Go.Proofs.Ytickdmfcdfocmaa.rgt
