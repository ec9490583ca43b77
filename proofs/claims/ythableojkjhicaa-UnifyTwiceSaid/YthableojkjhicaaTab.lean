/- Tables of names in memory: what a table holds, which blocks are its own, what has turned. -/
import Derived.Test.YthableojkjhicaaRows
import Derived.WalkKit
import Derived.ProofKit
import Derived.OpenShut
import Derived.Lib.Hide
import Derived.Maps.OwnSet
import Derived.Maps.AppendAt
namespace Go.Proofs.Ythableojkjhicaa.atm
open Go.ChangeShapes Go.WideShapes Go.ChangeAt Go.RowKit Go.Maps
theorem ba_beq (a b : ByteArray) : (a == b) = decide (a = b) := by
  show ByteArray.beq a b = _
  cases a with | mk a => cases b with | mk b =>
  unfold ByteArray.beq
  rw [Bool.eq_iff_iff]; simp
instance ba_lawful : LawfulBEq ByteArray where
  eq_of_beq {a b} h := by rw [ba_beq] at h; simpa using h
  rfl {a} := by rw [ba_beq]; simp
/-- Only blocks of F, and new ones, have turned. -/
structure Keep (F : Nat → Prop) (w w' : World) : Prop where
  os : w'.os = w.os
  tape : w'.tape = w.tape
  output : w'.output = w.output
  size : w.heap.size ≤ w'.heap.size
  block : ∀ k, k < w.heap.size → ¬ F k → w'.heap[k]? = w.heap[k]?
theorem Keep.refl (F : Nat → Prop) (w : World) : Keep F w w := ⟨rfl, rfl, rfl, Nat.le_refl _, fun _ _ _ => rfl⟩
theorem Keep.trans {F F' : Nat → Prop} {a b c : World} (h : Keep F a b) (k : Keep F' b c) (hs : ∀ i, F' i → F i ∨ a.heap.size ≤ i) : Keep F a c :=
  ⟨k.os.trans h.os, k.tape.trans h.tape, k.output.trans h.output, Nat.le_trans h.size k.size, fun i hi hf =>
    (k.block i (Nat.lt_of_lt_of_le hi h.size) (fun e => (hs i e).elim hf (by omega))).trans (h.block i hi hf)⟩
theorem Keep.mono {F G : Nat → Prop} {w w' : World} (h : Keep F w w') (hs : ∀ i, F i → G i) : Keep G w w' :=
  ⟨h.os, h.tape, h.output, h.size, fun k hk hg => h.block k hk fun e => hg (hs k e)⟩
theorem Keep.of_below {F : Nat → Prop} {w w' : World} (h : Below w.heap.size w w') : Keep F w w' := ⟨h.os, h.tape, h.output, h.size, fun k hk _ => h.block k hk⟩
theorem Keep.of_grown {F : Nat → Prop} {w w' : World} {row : Option Nat} (h : w.grownBy w' row) (hr : ∀ k, row = some k → F k) : Keep F w w' :=
  ⟨h.os, h.tape, h.output, h.size, fun k hk hf => h.block k hk fun e => hf (hr k e.symm)⟩
theorem Keep.setCell {F : Nat → Prop} (w : World) {p : Addr} (hp : F p.block) (u : Value) : Keep F w (w.setCell p u) :=
  ⟨rfl, rfl, rfl, by simp [World.setCell], fun k _ hf => Below.heap_setCell _ _ _ _ fun e => hf (e ▸ hp)⟩
theorem Keep.to_below {F : Nat → Prop} {w w' : World} {B : Nat} (h : Keep F w w') (hF : ∀ k, F k → B ≤ k) (hB : B ≤ w.heap.size) : Below B w w' :=
  ⟨h.os, h.tape, h.output, h.size, fun k hk => h.block k (by omega) fun e => by have := hF k e; omega⟩
/-! ### names and numbers -/
abbrev Key (s : ByteArray) : Lit := .string s.data.toList
theorem Key_ne {s t : ByteArray} (h : s ≠ t) : Key s ≠ Key t := by
  intro e; apply h; injection e with e; apply ByteArray.ext; exact Array.ext' e
/-- a name's number, 0 if it has none -/
def fi (l : List ByteArray) (s : ByteArray) : Int := if s ∈ l then (l.idxOf s : Int) else 0
def fb (l : List ByteArray) (s : ByteArray) : Bool := decide (s ∈ l)
/-- what Number answers, and what the names are behind it -/
def nv (l : List ByteArray) (s : ByteArray) : Int := if 200 < s.size then 0 else if s ∈ l then (l.idxOf s : Int) else if 4096 ≤ l.length then 0 else l.length
def ne (l : List ByteArray) (s : ByteArray) : Int := if 200 < s.size then 3 else if s ∈ l then 0 else if 4096 ≤ l.length then 8 else 0
def nx (l : List ByteArray) (s : ByteArray) : List ByteArray := if 200 < s.size then l else if s ∈ l then l else if 4096 ≤ l.length then l else l ++ [s]
/-- what Name answers -/
def nm (l : List ByteArray) (n : Int) : ByteArray := if 0 ≤ n ∧ n < l.length then l.getD n.toNat ByteArray.empty else ⟨#[]⟩
def nb (l : List ByteArray) (n : Int) : Bool := decide (0 ≤ n ∧ n < l.length)
def Nums (D : DataW Unit) (l : List ByteArray) : Prop := ∀ s, has D (Key s) = fb l s ∧ D.atKey (Key s) (.lit (.int .i64 0)) = .lit (.int .i64 (fi l s))
theorem Nums_nil : Nums (.map []) [] := fun s => ⟨by simp [has, fb], by simp [DataW.atKey, fi]⟩
theorem Nums_put {D : DataW Unit} {l : List ByteArray} {s : ByteArray} (h : Nums D l) (hD : IsMap D) (hs : s ∉ l) : Nums (D.put (Key s) (.lit (.int .i64 l.length))) (l ++ [s]) := by
  intro t
  by_cases e : t = s
  · subst e
    refine ⟨?_, ?_⟩
    · rw [has_put_same hD (by simp [WideAt.IsKeyLit])]; simp [fb]
    · rw [atKey_put_same hD (by simp [WideAt.IsKeyLit])]
      simp [fi, List.idxOf_append, hs]
  · refine ⟨?_, ?_⟩
    · rw [has_put_other (Key_ne e), (h t).1]; simp [fb, e]
    · rw [atKey_put_other (Key_ne e), (h t).2]
      simp only [fi, List.mem_append, List.mem_singleton, e, or_false]
      by_cases m : t ∈ l
      · simp [m, List.idxOf_append]
      · simp [m]
/-- THE TABLE at block p holds the names l; F: its own blocks. -/
def Tab (w : World) (p : Nat) (F : Nat → Prop) (l : List ByteArray) : Prop :=
  ∃ m v D, w.heap[p]? = some (.cells #[.map (some m), v] 88 (0, 0)) ∧ w.ownsMap Try.prog 9 (plainElem (H := Unit) Try.prog 3) m l.length D ∧ Nums D l ∧
    w.ownsRow 0 9 1 v l.length (l.map Value.string) ∧ p ≠ m ∧ v.ownBlock ≠ some p ∧ v.ownBlock ≠ some m ∧ (∀ k, F k ↔ k = p ∨ k = m ∨ v.ownBlock = some k)
theorem Tab.lt {w : World} {p : Nat} {F : Nat → Prop} {l : List ByteArray} (h : Tab w p F l) : ∀ k, F k → k < w.heap.size := by
  obtain ⟨m, v, D, hp, hm, _, hr, _, _, _, hF⟩ := h
  intro k hk
  rcases (hF k).1 hk with rfl | rfl | e
  · exact (Array.getElem?_eq_some_iff.1 hp).1
  · exact hm.lt
  · exact (hr.lt k e).2
theorem Tab.mine {w : World} {p : Nat} {F : Nat → Prop} {l : List ByteArray} (h : Tab w p F l) : F p := by
  obtain ⟨m, v, D, hp, hm, _, hr, _, _, _, hF⟩ := h
  exact (hF p).2 (Or.inl rfl)
theorem Tab.keep {w w' : World} {p : Nat} {F G : Nat → Prop} {l : List ByteArray} (h : Tab w p F l) (hk : Keep G w w') (hd : ∀ k, F k → ¬ G k) : Tab w' p F l := by
  have hlt := h.lt
  obtain ⟨m, v, D, hp, hm, hn, hr, h1, h2, h3, hF⟩ := h
  have hb : ∀ k, F k → w'.heap[k]? = w.heap[k]? := fun k f => hk.block k (hlt k f) (hd k f)
  refine ⟨m, v, D, (hb p ((hF p).2 (Or.inl rfl))).trans hp, ?_, hn, ?_, h1, h2, h3, hF⟩
  · obtain ⟨es, clock, hmb, r⟩ := hm
    exact ⟨es, clock, (hb m ((hF m).2 (Or.inr (Or.inl rfl)))).trans hmb, r⟩
  · obtain ⟨hl, hr⟩ := hr
    refine ⟨hl, ?_⟩
    rcases hr with hr | ⟨g, cap, cur, rfl, hg0, hg, r⟩
    · exact Or.inl hr
    · exact Or.inr ⟨g, cap, cur, rfl, hg0, (hb g ((hF g).2 (Or.inr (Or.inr rfl)))).trans hg, r⟩
theorem Tab.below {w w' : World} {p : Nat} {F : Nat → Prop} {l : List ByteArray} (h : Tab w p F l) (hb : Below w.heap.size w w') : Tab w' p F l :=
  h.keep (G := fun _ => False) (Keep.of_below hb) (fun _ _ => id)
/-- The same table, other names: its blocks are those that it had, and new ones. -/
def Next (w : World) (p : Nat) (F : Nat → Prop) (l : List ByteArray) (w' : World) : Prop := ∃ F', Tab w' p F' l ∧ Keep F w w' ∧ ∀ k, F' k → F k ∨ w.heap.size ≤ k
/-- A new table. -/
def Made (w : World) (l : List ByteArray) (w' : World) : Prop := ∃ F, Tab w' w.heap.size F l ∧ Below w.heap.size w w' ∧ ∀ k, F k → w.heap.size ≤ k
theorem Next.same {w : World} {p : Nat} {F : Nat → Prop} {l : List ByteArray} (h : Tab w p F l) : Next w p F l w := ⟨F, h, Keep.refl _ _, fun _ => Or.inl⟩
theorem shape {w : World} {base e size n : Nat} {v : Value} {xs : List Value} (h : w.ownsRow base e size v n xs) : ∃ a c, v = .slice a n c := by
  rcases h.2 with ⟨rfl, rfl⟩ | ⟨g, cap, _, rfl, _⟩
  · exact ⟨_, _, rfl⟩
  · exact ⟨_, _, rfl⟩
theorem two_cells {w : World} {p : Nat} {a b : Value} {t : TypeId} (h : w.heap[p]? = some (.cells #[a, b] t (0, 0))) :
    w.cell? ⟨p, 0, none⟩ = some a ∧ w.cell? ⟨p, 1, none⟩ = some b ∧ w.frozen? ⟨p, 0, none⟩ = false ∧ w.frozen? ⟨p, 1, none⟩ = false := by
  refine ⟨?_, ?_, ?_, ?_⟩ <;> simp [World.cell?, World.frozen?, h]
end Go.Proofs.Ythableojkjhicaa.atm
