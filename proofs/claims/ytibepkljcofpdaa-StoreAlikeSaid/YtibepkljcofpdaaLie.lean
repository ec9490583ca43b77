/- Terms in memory: which value is which term; what stays when memory turns elsewhere. -/
import Derived.Test.YtibepkljcofpdaaTm
import Derived.Test.YtibepkljcofpdaaKeep
namespace Go.Proofs.Ytibepkljcofpdaa.lie
open Go.ChangeShapes Go.WideShapes Go.ChangeAt Go.RowKit
open Go.Proofs.Ytibepkljcofpdaa.tm
open Go.Proofs.Ytibepkljcofpdaa.kp
/-- the six cells of a term at (b, o) -/
def Six (w : World) (b o : Nat) (v0 v1 v2 v3 v4 v5 : Value) : Prop :=
  w.cell? ⟨b, o, none⟩ = some v0 ∧ w.cell? ⟨b, o + 1, none⟩ = some v1 ∧ w.cell? ⟨b, o + 2, none⟩ = some v2 ∧ w.cell? ⟨b, o + 3, none⟩ = some v3 ∧ w.cell? ⟨b, o + 4, none⟩ = some v4 ∧ w.cell? ⟨b, o + 5, none⟩ = some v5
structure Fit (k : Int) (n : ByteArray) (i re im : Int) (len c : Nat) : Prop where
  k0 : -9223372036854775808 ≤ k
  k1 : k ≤ 9223372036854775807
  n1 : n.size ≤ 9223372036854775807
  i0 : -9223372036854775808 ≤ i
  i1 : i ≤ 9223372036854775807
  r0 : 0 ≤ re
  r1 : re ≤ 18446744073709551615
  m0 : 0 ≤ im
  m1 : im ≤ 18446744073709551615
  l1 : len ≤ c
  c1 : c ≤ 9223372036854775807
mutual
/-- the value v is the term; its arguments lie in blocks that are none of X -/
def Lies (X : Nat → Prop) (w : World) : Tm → Value → Prop
  | .mk k n i re im l, v => ∃ a c, v = .agg #[.int .i64 k, .string n, .int .i64 i, .int .u64 re, .int .u64 im, .slice a l.length c] ∧ Fit k n i re im l.length c ∧ TRow X w l a 0
/-- behind the address a lie these terms, from place j on -/
def TRow (X : Nat → Prop) (w : World) : List Tm → Option Addr → Nat → Prop
  | [], _, _ => True
  | t :: r, a, j => (∃ b o v0 v1 v2 v3 v4 v5, a = some ⟨b, o, none⟩ ∧ ¬ X b ∧ Six w b (o + j * 6) v0 v1 v2 v3 v4 v5 ∧ Lies X w t (.agg #[v0, v1, v2, v3, v4, v5])) ∧ TRow X w r a (j + 1)
end
/-- the value v is a slice of these terms -/
def Slc (X : Nat → Prop) (w : World) (l : List Tm) (v : Value) : Prop := ∃ a c, v = .slice a l.length c ∧ l.length ≤ c ∧ c ≤ maxLen ∧ TRow X w l a 0
theorem cell_lt {w : World} {b o : Nat} {v : Value} (h : w.cell? ⟨b, o, none⟩ = some v) : b < w.heap.size := by
  apply Classical.byContradiction
  intro hn
  have : w.heap[b]? = none := Array.getElem?_eq_none (by omega)
  simp [World.cell?, this] at h
theorem Six.keep {w w' : World} {b o : Nat} {v0 v1 v2 v3 v4 v5 : Value} {X : Nat → Prop} (h : Six w b o v0 v1 v2 v3 v4 v5) (hk : Keep X w w') (hX : ¬ X b) : Six w' b o v0 v1 v2 v3 v4 v5 := by
  have hb := hk.block b (cell_lt h.1) hX
  have e : ∀ o, w'.cell? ⟨b, o, none⟩ = w.cell? ⟨b, o, none⟩ := fun o => by simp only [World.cell?, hb]
  obtain ⟨h0, h1, h2, h3, h4, h5⟩ := h
  exact ⟨(e _).trans h0, (e _).trans h1, (e _).trans h2, (e _).trans h3, (e _).trans h4, (e _).trans h5⟩
theorem Lies.keep {w w' : World} {X Y : Nat → Prop} (hk : Keep X w w') (hY : ∀ b, b < w.heap.size → Y b → X b) : ∀ (t : Tm) (v : Value), Lies X w t v → Lies Y w' t v := by
  intro t
  induction t using Tm.ind with
  | h k n i re im l ih =>
    intro v h
    rw [Lies] at h ⊢
    obtain ⟨a, c, hv, hf, hr⟩ := h
    refine ⟨a, c, hv, hf, ?_⟩
    have hl : ∀ (l : List Tm), (∀ x ∈ l, ∀ v, Lies X w x v → Lies Y w' x v) → ∀ j, TRow X w l a j → TRow Y w' l a j := by
      intro l
      induction l with
      | nil => intro _ j _; rw [TRow]; trivial
      | cons t r ihr =>
        intro h j hr
        rw [TRow] at hr ⊢
        obtain ⟨⟨b, o, v0, v1, v2, v3, v4, v5, ha, hb, hs, ht⟩, hr⟩ := hr
        exact ⟨⟨b, o, v0, v1, v2, v3, v4, v5, ha, fun q => hb (hY b (cell_lt hs.1) q), hs.keep hk hb, h t (by simp) _ ht⟩, ihr (fun x hx => h x (by simp [hx])) _ hr⟩
    exact hl l (fun x hx => ih x hx) 0 hr
theorem TRow.keep {w w' : World} {X Y : Nat → Prop} (hk : Keep X w w') (hY : ∀ b, b < w.heap.size → Y b → X b) {a : Option Addr} : ∀ (l : List Tm) (j : Nat), TRow X w l a j → TRow Y w' l a j
  | [], j, _ => by rw [TRow]; trivial
  | t :: r, j, h => by
    rw [TRow] at h ⊢
    obtain ⟨⟨b, o, v0, v1, v2, v3, v4, v5, ha, hb, hs, ht⟩, hr⟩ := h
    exact ⟨⟨b, o, v0, v1, v2, v3, v4, v5, ha, fun q => hb (hY b (cell_lt hs.1) q), hs.keep hk hb, Lies.keep hk hY t _ ht⟩, TRow.keep hk hY r _ hr⟩
theorem Slc.keep {w w' : World} {X Y : Nat → Prop} (hk : Keep X w w') (hY : ∀ b, b < w.heap.size → Y b → X b) {l : List Tm} {v : Value} (h : Slc X w l v) : Slc Y w' l v := by
  obtain ⟨a, c, hv, h1, h2, h3⟩ := h
  exact ⟨a, c, hv, h1, h2, TRow.keep hk hY l 0 h3⟩
abbrev No : Nat → Prop := fun _ => False
theorem Lies.below {w w' : World} {X : Nat → Prop} (hb : Below w.heap.size w w') {t : Tm} {v : Value} (h : Lies X w t v) : Lies X w' t v :=
  Lies.keep (Keep.of_below hb) (fun _ _ => id) t v h
theorem TRow.below {w w' : World} {X : Nat → Prop} (hb : Below w.heap.size w w') {l : List Tm} {a : Option Addr} {j : Nat} (h : TRow X w l a j) : TRow X w' l a j :=
  TRow.keep (Keep.of_below hb) (fun _ _ => id) l j h
theorem Slc.below {w w' : World} {X : Nat → Prop} (hb : Below w.heap.size w w') {l : List Tm} {v : Value} (h : Slc X w l v) : Slc X w' l v :=
  Slc.keep (Keep.of_below hb) (fun _ _ => id) h
/-- what lies in old memory lies off all blocks that are new, whatever they are -/
theorem Lies.off {w : World} {X Y : Nat → Prop} (hY : ∀ b, b < w.heap.size → Y b → X b) {t : Tm} {v : Value} (h : Lies X w t v) : Lies Y w t v :=
  Lies.keep (Keep.refl X w) hY t v h
theorem TRow.off {w : World} {X Y : Nat → Prop} (hY : ∀ b, b < w.heap.size → Y b → X b) {l : List Tm} {a : Option Addr} {j : Nat} (h : TRow X w l a j) : TRow Y w l a j :=
  TRow.keep (Keep.refl X w) hY l j h
theorem Slc.off {w : World} {X Y : Nat → Prop} (hY : ∀ b, b < w.heap.size → Y b → X b) {l : List Tm} {v : Value} (h : Slc X w l v) : Slc Y w l v :=
  Slc.keep (Keep.refl X w) hY h
theorem TRow.at {w : World} {X : Nat → Prop} {a : Option Addr} : ∀ {l : List Tm} {j : Nat} (_ : TRow X w l a j) (m : Nat) (hm : m < l.length),
    ∃ b o v0 v1 v2 v3 v4 v5, a = some ⟨b, o, none⟩ ∧ ¬ X b ∧ Six w b (o + (j + m) * 6) v0 v1 v2 v3 v4 v5 ∧ Lies X w l[m] (.agg #[v0, v1, v2, v3, v4, v5])
  | t :: r, j, h, 0, _ => by rw [TRow] at h; exact h.1
  | t :: r, j, h, m + 1, hm => by
    rw [TRow] at h
    have := TRow.at h.2 m (by simpa using hm)
    simpa [show j + 1 + m = j + (m + 1) by omega] using this
theorem TRow.mk {w : World} {X : Nat → Prop} {a : Option Addr} : ∀ (l : List Tm) (j : Nat) (_ : ∀ (m : Nat) (hm : m < l.length),
    ∃ b o v0 v1 v2 v3 v4 v5, a = some ⟨b, o, none⟩ ∧ ¬ X b ∧ Six w b (o + (j + m) * 6) v0 v1 v2 v3 v4 v5 ∧ Lies X w l[m] (.agg #[v0, v1, v2, v3, v4, v5])), TRow X w l a j
  | [], j, _ => by rw [TRow]; trivial
  | t :: r, j, h => by
    rw [TRow]
    refine ⟨h 0 (by simp), TRow.mk r (j + 1) fun m hm => ?_⟩
    have := h (m + 1) (by simpa using hm)
    simpa [show j + (m + 1) = j + 1 + m by omega] using this
/-- looking at place m of a slice of terms: where it is, what stands there -/
theorem TRow.look {w : World} {X : Nat → Prop} {a : Option Addr} {l : List Tm} (h : TRow X w l a 0) {m : Nat} (hm : m < l.length) :
    ∃ b o v0 v1 v2 v3 v4 v5, b < w.heap.size ∧ ¬ X b ∧ Six w b o v0 v1 v2 v3 v4 v5 ∧ Lies X w l[m] (.agg #[v0, v1, v2, v3, v4, v5]) ∧
      ∀ (c : Nat) (w' : World), (Instr.indexAt 22 (.slice a l.length c) (.int .i64 (m : Int))).run Try.prog w' = .ok (.pointer (some ⟨b, o, none⟩)) w' := by
  obtain ⟨b, o, v0, v1, v2, v3, v4, v5, rfl, hX, hs, ht⟩ := h.at m hm
  refine ⟨b, o + m * 6, v0, v1, v2, v3, v4, v5, cell_lt hs.1, hX, by simpa using hs, ht, fun c w' => ?_⟩
  have he : Try.prog.elem 22 = 36 := by kernel_rfl
  have hz : (sizeOf 36).run Try.prog w' = .ok 6 w' := by kernel_rfl
  rw [run_indexAt_slice w' 22 _ _ _ _ _ (by rw [he]; exact Try.underlying22), if_pos ⟨by omega, by omega⟩, he, hz]
  simp [Result.andThen, Addr.add]
end Go.Proofs.Ytibepkljcofpdaa.lie
