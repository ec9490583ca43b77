/- The library's replacer of bytes by texts, at the three bytes that a quote escapes: Replace. -/
import Derived.Test.YtedbcmagjbgbjaaGreatDoorTkF
import Derived.Laws.IdiomCopy
import Derived.Laws.MakeOwn
namespace Go.Proofs.YtedbcmagjbgbjaaGreatDoor.tk
open Go.ChangeShapes Go.WideShapes Go.ChangeAt Go.RowKit Go.Maps
open Go.Proofs.YtedbcmagjbgbjaaGreatDoor.kp Go.Proofs.YtedbcmagjbgbjaaGreatDoor.num Go.Proofs.YtedbcmagjbgbjaaGreatDoor.dec
set_option linter.unusedVariables false
/-- what stands for a byte -/
structure RG where
  g1 : Nat
  g2 : Nat
  g3 : Nat
  tg : Nat
  c1 : Nat
  c2 : Nat
  c3 : Nat
  tc : Nat
def spc (c : UInt8) : Bool := decide (c = 92) || decide (c = 10) || decide (c = 39)
def rpv (G : RG) (c : UInt8) : Value := if c = 92 then .slice (some ⟨G.g1, 0, none⟩) 2 G.c1 else if c = 10 then .slice (some ⟨G.g2, 0, none⟩) 2 G.c2 else if c = 39 then .slice (some ⟨G.g3, 0, none⟩) 2 G.c3 else .slice none 0 0
/-- the replacer at block rb -/
structure BR (w : World) (rb : Nat) (G : RG) : Prop where
  rep : ∀ c : UInt8, w.cell? ⟨rb, c.toNat, none⟩ = some (rpv G c)
  tor : w.cell? ⟨rb, 256, none⟩ = some (.slice (some ⟨G.tg, 0, none⟩) 3 G.tc)
  t0 : w.cell? ⟨G.tg, 0, none⟩ = some (.string ⟨#[39]⟩)
  t1 : w.cell? ⟨G.tg, 1, none⟩ = some (.string ⟨#[10]⟩)
  t2 : w.cell? ⟨G.tg, 2, none⟩ = some (.string ⟨#[92]⟩)
  a1 : w.cell? ⟨G.g1, 0, none⟩ = some (bv 92) ∧ w.cell? ⟨G.g1, 1, none⟩ = some (bv 92)
  a2 : w.cell? ⟨G.g2, 0, none⟩ = some (bv 92) ∧ w.cell? ⟨G.g2, 1, none⟩ = some (bv 110)
  a3 : w.cell? ⟨G.g3, 0, none⟩ = some (bv 92) ∧ w.cell? ⟨G.g3, 1, none⟩ = some (bv 39)
theorem cell_lt {w : World} {b o : Nat} {v : Value} (h : w.cell? ⟨b, o, none⟩ = some v) : b < w.heap.size := by
  rcases Nat.lt_or_ge b w.heap.size with h1 | h1
  · exact h1
  · simp [World.cell?, Array.getElem?_eq_none h1] at h
theorem cell_keep {F : Nat → Prop} {w w' : World} {b o : Nat} {v : Value} (k : Keep F w w') (hF : ¬ F b) (h : w.cell? ⟨b, o, none⟩ = some v) : w'.cell? ⟨b, o, none⟩ = some v := by
  have := k.block b (cell_lt h) hF
  simp only [World.cell?, this] at h ⊢; exact h
theorem BR.keep {w w' : World} {rb : Nat} {G : RG} {F : Nat → Prop} (h : BR w rb G) (k : Keep F w w') (hF : ∀ i, F i → w.heap.size ≤ i) : BR w' rb G := by
  have e : ∀ b o v, w.cell? ⟨b, o, none⟩ = some v → w'.cell? ⟨b, o, none⟩ = some v := fun b o v hc => cell_keep k (fun hf => by have := hF _ hf; have := cell_lt hc; omega) hc
  exact ⟨fun c => e _ _ _ (h.rep c), e _ _ _ h.tor, e _ _ _ h.t0, e _ _ _ h.t1, e _ _ _ h.t2, ⟨e _ _ _ h.a1.1, e _ _ _ h.a1.2⟩, ⟨e _ _ _ h.a2.1, e _ _ _ h.a2.2⟩, ⟨e _ _ _ h.a3.1, e _ _ _ h.a3.2⟩⟩
theorem BR.below {w w' : World} {rb : Nat} {G : RG} (h : BR w rb G) (b : Below w.heap.size w w') : BR w' rb G := h.keep (F := fun _ => False) (Keep.of_below b) (fun _ h => h.elim)
/-! ### how long it becomes -/
def nsp (l : List UInt8) : Nat := l.countP spc
theorem qb_len (c : UInt8) : (qb c).length = if spc c = true then 2 else 1 := by
  unfold qb spc
  by_cases h1 : c = 92
  · simp [h1]
  · by_cases h2 : c = 10
    · simp [h2]
    · by_cases h3 : c = 39
      · simp [h3]
      · simp [h1, h2, h3]
theorem qb_plain {c : UInt8} (h : spc c = false) : qb c = [c] := by
  unfold spc at h
  simp at h
  unfold qb
  rw [if_neg h.1.1, if_neg h.1.2, if_neg h.2]
theorem qs_len (l : List UInt8) : (l.flatMap qb).length = l.length + nsp l := by
  induction l with
  | nil => rfl
  | cons c r ih =>
    simp only [List.flatMap_cons, List.length_append, ih, qb_len, nsp, List.countP_cons, List.length_cons]
    unfold nsp at *
    split <;> omega
theorem qs_plain {l : List UInt8} (h : nsp l = 0) : l.flatMap qb = l := by
  induction l with
  | nil => rfl
  | cons c r ih =>
    unfold nsp at *
    rw [List.countP_cons] at h
    have h1 : spc c = false := by
      cases hc : spc c
      · rfl
      · rw [hc] at h; simp at h
    rw [List.flatMap_cons, qb_plain h1, ih (by omega)]; rfl
theorem nsp_count (l : List UInt8) : nsp l = l.count 39 + l.count 10 + l.count 92 := by
  induction l with
  | nil => rfl
  | cons c r ih =>
    unfold nsp at *
    rw [List.countP_cons, List.count_cons, List.count_cons, List.count_cons, ih]
    unfold spc
    by_cases h1 : c = 92
    · subst h1; simp; omega
    · by_cases h2 : c = 10
      · subst h2; simp; omega
      · by_cases h3 : c = 39
        · subst h3; simp; omega
        · simp [h1, h2, h3]
theorem nsp_take {l : List UInt8} {k : Nat} (hk : k < l.length) : nsp (l.take (k + 1)) = nsp (l.take k) + (if spc l[k] = true then 1 else 0) := by
  unfold nsp; rw [List.take_succ_eq_append_getElem hk, List.countP_append]; simp [List.countP_cons]
theorem nsp_le (l : List UInt8) : nsp l ≤ l.length := List.countP_le_length
theorem nsp_take_le (l : List UInt8) (k : Nat) : nsp (l.take k) ≤ l.length := by
  have := nsp_le (l.take k); rw [List.length_take] at this; omega
theorem qs_take {l : List UInt8} {k : Nat} (hk : k < l.length) : (l.take (k + 1)).flatMap qb = (l.take k).flatMap qb ++ qb l[k] := by
  rw [List.take_succ_eq_append_getElem hk, List.flatMap_append]; simp
theorem qs_take_le {l : List UInt8} {k : Nat} (hk : k ≤ l.length) : ((l.take k).flatMap qb).length ≤ (l.flatMap qb).length := by
  have h : l.flatMap qb = (l.take k).flatMap qb ++ (l.drop k).flatMap qb := by rw [← List.flatMap_append, List.take_append_drop]
  rw [h]; simp
/-- a block of n bytes, the first ones laid -/
abbrev BF (n : Nat) (q : List UInt8) : Obj := .cells (q.map bv ++ List.replicate (n - q.length) (Value.int .u8 0)).toArray 5 (0, 0)
theorem made0 (S : Nat) : madeCells (Value.int .u8 0).cells S = (List.replicate S (Value.int .u8 0)).toArray := by
  apply Array.ext
  · simp [madeCells]
  · intro i h1 h2
    simp [madeCells, Value.cells, Nat.mod_one]
theorem mk_bytes (S : Nat) (hS : S ≤ 200000) (W : World) : (Instr.makeSlice 123 (.int .i64 (S : Int)) (.int .i64 (S : Int))).run Tryz.prog W = .ok (.slice (some ⟨W.heap.size, 0, none⟩) S S) (W.alloc (BF S [])) := by
  obtain ⟨i0, hi, hz0, hz1, hz2⟩ := info_of infoU
  have h := run_make (P := Tryz.prog) W 123 5 i0 (.int .u8 0) Tryz.underlying123 hi hz0 .i64 .i64 (S : Int) (S : Int) (by omega) (by omega) (by rw [hz2]; omega) (by omega)
  rw [hz1] at h
  rw [h]
  simp [made0, BF]
theorem BF.step {w : World} {b n : Nat} {q : List UInt8} (h : w.heap[b]? = some (BF n q)) (hk : q.length < n) (c : UInt8) : Nw b (BF n (q ++ [c])) w (w.setCell ⟨b, q.length, none⟩ (bv c)) := by
  have h1 := Nw.set h q.length (bv c)
  have e : ((q.map bv ++ List.replicate (n - q.length) (Value.int .u8 0)).toArray.setIfInBounds q.length (bv c)) = ((q ++ [c]).map bv ++ List.replicate (n - (q ++ [c]).length) (Value.int .u8 0)).toArray := by
    rw [List.setIfInBounds_toArray]
    congr 1
    rw [List.set_append_right _ _ (by simp)]
    simp only [List.length_map, Nat.sub_self]
    obtain ⟨j, hj⟩ : ∃ j, n - q.length = j + 1 := ⟨n - q.length - 1, by omega⟩
    rw [hj, List.replicate_succ, List.set_cons_zero, List.length_append, List.length_singleton, show n - (q.length + 1) = j by omega, List.map_append, List.append_assoc]
    rfl
  rw [e] at h1
  exact h1
theorem BF.cell {w : World} {b n : Nat} {q : List UInt8} (h : w.heap[b]? = some (BF n q)) {j : Nat} (h0 : q.length ≤ j) (hk : j < n) : w.cell? ⟨b, j, none⟩ = some (.int .u8 0) ∧ w.frozen? ⟨b, j, none⟩ = false := by
  have e : (q.map bv ++ List.replicate (n - q.length) (Value.int .u8 0))[j]? = some (.int .u8 0) := by
    rw [List.getElem?_append_right (by simp; omega), List.length_map, List.getElem?_replicate]
    exact if_pos (by omega : j - q.length < n - q.length)
  constructor
  · simp only [World.cell?, h]
    simpa using e
  · simp [World.frozen?, h]
theorem BF.conv {w : World} {b n : Nat} {q : List UInt8} (h : w.heap[b]? = some (BF n q)) (hn : q.length = n) : (convert 123 9 (.slice (some ⟨b, 0, none⟩) n n)).run Tryz.prog w = .ok (.string ⟨q.toArray⟩) w := by
  subst hn
  refine run_convert_bytes_back (P := Tryz.prog) w 123 9 5 ⟨b, 0, none⟩ q.length q Tryz.underlying123 Tryz.underlying5 Tryz.underlying9 fun j hj => ?_
  rw [show (⟨b, 0, none⟩ : Addr).add j = ⟨b, j, none⟩ from by simp [Addr.add]; omega]
  simp only [World.cell?, h]
  simp [hj]
  rfl
end Go.Proofs.YtedbcmagjbgbjaaGreatDoor.tk
