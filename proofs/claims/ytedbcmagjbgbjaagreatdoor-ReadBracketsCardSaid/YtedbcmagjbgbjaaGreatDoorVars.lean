/- Package term: Vars. -/
import Derived.Test.YtedbcmagjbgbjaaGreatDoorWalk
import Derived.Test.YtedbcmagjbgbjaaGreatDoorTm
import Derived.Maps.OwnSet
import Derived.Deep.AppendLies
namespace Go.Proofs.YtedbcmagjbgbjaaGreatDoor.vrs
set_option linter.unusedVariables false
open Go.ChangeShapes Go.WideShapes Go.ChangeAt Go.RowKit Go.Maps
open Go.Proofs.YtedbcmagjbgbjaaGreatDoor.tm Go.Proofs.YtedbcmagjbgbjaaGreatDoor.lie Go.Proofs.YtedbcmagjbgbjaaGreatDoor.kp Go.Proofs.YtedbcmagjbgbjaaGreatDoor.wlk Go.Proofs.YtedbcmagjbgbjaaGreatDoor.cur Go.Proofs.YtedbcmagjbgbjaaGreatDoor.mes Go.Proofs.YtedbcmagjbgbjaaGreatDoor.rws
abbrev CK (i : Int) : Lit := .int .i64 i
abbrev Z : DataW Unit := .lit (.int .i64 0)
theorem CK_ne {i j : Int} (h : i ≠ j) : CK i ≠ CK j := fun e => h (by injection e)
def ix (acc : List Int) (n : Int) : Int := if n ∈ acc then (acc.idxOf n : Int) + 1 else 0
/-- D holds each number's place, and one -/
def Idx (D : DataW Unit) (acc : List Int) : Prop := ∀ n : Int, D.atKey (CK n) Z = .lit (.int .i64 (ix acc n))
theorem Idx_nil : Idx (.map []) [] := fun n => by simp [DataW.atKey, ix]
theorem Idx_put {D : DataW Unit} {acc : List Int} {n : Int} (h : Idx D acc) (hD : IsMap D) (hn : n ∉ acc) : Idx (D.put (CK n) (.lit (.int .i64 ((acc.length : Int) + 1)))) (acc ++ [n]) := by
  intro m
  by_cases e : m = n
  · subst e
    rw [atKey_put_same hD (by simp [WideAt.IsKeyLit])]
    simp [ix, List.idxOf_append, hn]
  · rw [atKey_put_other (CK_ne e), h m]
    simp only [ix, List.mem_append, List.mem_singleton, e, or_false]
    by_cases hm : m ∈ acc
    · simp [hm, List.idxOf_append]
    · simp [hm]
theorem law : Keyed Tryz.prog 2 := int_keyed Tryz.underlying2
theorem zeroE (w : World) : (zeroValue 3).run Tryz.prog w = .ok (.int .i64 0) w := by kernel_rfl
theorem infoI : (Tryz.prog.info? 2).map (fun i => (i.zero, i.size, i.bytes)) = some (some (.int .i64 0), 1, 8) := by kernel_rfl
def VOut (l : List Int) (w : World) (e : Ending) (w' : World) : Prop := ∃ v, e = .returned v ∧ w'.ownsRow w.heap.size 2 1 v l.length (l.map (Value.int .i64)) ∧ Below w.heap.size w w'
/-- what has been collected: its map, its slice; F: the way's blocks -/
structure Mine (B r mb : Nat) (acc : List Int) (v : Value) (D : DataW Unit) (F : Nat → Prop) (w : World) : Prop where
  r1 : r < w.heap.size
  m1 : w.ownsMap Tryz.prog 2 (plainElem (H := Unit) Tryz.prog 3) mb acc.length D
  m2 : Idx D acc
  m3 : ¬ F mb
  m4 : Off B r mb
  v1 : w.ownsRow B 2 1 v acc.length (acc.map (Value.int .i64))
  v2 : ∀ k, v.ownBlock = some k → k ≠ mb ∧ ¬ F k ∧ k ≠ r
theorem map_keep {w w' : World} {mb n : Nat} {D : DataW Unit} (h : w.ownsMap Tryz.prog 2 (plainElem (H := Unit) Tryz.prog 3) mb n D) (hb : w'.heap[mb]? = w.heap[mb]?) : w'.ownsMap Tryz.prog 2 (plainElem (H := Unit) Tryz.prog 3) mb n D := by
  obtain ⟨es, clock, hmb, q⟩ := h
  exact ⟨es, clock, hb.trans hmb, q⟩
theorem row_keep {w w' : World} {B e n : Nat} {v : Value} {xs : List Value} (h : w.ownsRow B e 1 v n xs) (hb : ∀ k, v.ownBlock = some k → w'.heap[k]? = w.heap[k]?) : w'.ownsRow B e 1 v n xs := by
  obtain ⟨hl, hr⟩ := h
  refine ⟨hl, ?_⟩
  rcases hr with hr | ⟨g, cap, cur, rfl, hg0, hgc, q⟩
  · exact Or.inl hr
  · exact Or.inr ⟨g, cap, cur, rfl, hg0, (hb g rfl).trans hgc, q⟩
theorem Mine.keep {B r mb : Nat} {acc : List Int} {v : Value} {D : DataW Unit} {F F' G : Nat → Prop} {w w' : World} (h : Mine B r mb acc v D F w) (hk : Keep G w w') (hm : ¬ G mb) (hv : ∀ k, v.ownBlock = some k → ¬ G k) (hF : ∀ k, F' k → F k ∨ w.heap.size ≤ k) : Mine B r mb acc v D F' w' := by
  obtain ⟨r1, m1, m2, m3, m4, v1, v2⟩ := h
  have hs := hk.size
  have hml := m1.lt
  refine ⟨by omega, map_keep m1 (hk.block mb hml hm), m2, fun h => (hF _ h).elim m3 fun h => by omega, m4, row_keep v1 fun k e => hk.block k (v1.lt k e).2 (hv k e), fun k e => ⟨(v2 k e).1, fun h => (hF _ h).elim (v2 k e).2.1 fun h => ?_, (v2 k e).2.2⟩⟩
  have := (v1.lt k e).2
  omega
/-- the cursor at block nb, and what stands beside it -/
def Here (B r p mb : Nat) (L : List (Tm × Nat)) (acc : List Int) (v : Value) (nb : Nat) (k0 : Int) (n0 : ByteArray) (i0 re0 im0 : Int) (a0 : Option Addr) (l0 c0 : Nat) (b : Bool) (w : World) : Prop :=
  ∃ (D : DataW Unit) (F : Nat → Prop), w.heap[nb]? = some (.cells #[.int .i64 k0, .string n0, .int .i64 i0, .int .u64 re0, .int .u64 im0, .slice a0 l0 c0] 27 (0, 0)) ∧ Mine B r mb acc v D F w ∧ ¬ F nb ∧ Off B r nb ∧ nb ≠ mb ∧ (∀ k, v.ownBlock = some k → k ≠ nb) ∧
    ((L = [] ∧ b = false) ∨ ∃ t k L' R, L = (t, k) :: L' ∧ b = true ∧ Lies (Off B r) w t (.agg #[.int .i64 k0, .string n0, .int .i64 i0, .int .u64 re0, .int .u64 im0, .slice a0 l0 c0]) ∧ TWay B r w p F R ∧ flat R = L' ∧ R.length ≤ k + 1)
/-- a new number: the slice grows -/
theorem grown_v {w2 w4 : World} {v : Value} {o : Obj} (h : (w2.alloc o).grownBy w4 v.ownBlock) : Keep (fun k => v.ownBlock = some k) w2 w4 :=
  (Keep.of_below (F := fun k => v.ownBlock = some k) (ba w2 o)).trans (Keep.of_grown (F := fun k => v.ownBlock = some k) h fun k e => e) fun _ => Or.inl
theorem Mine.add {B r mb g' c' : Nat} {acc : List Int} {v : Value} {D : DataW Unit} {F : Nat → Prop} {w w4 w7 : World} {n : Int} (h : Mine B r mb acc v D F w) (hFl : ∀ k, F k → k < w.heap.size) (hn : n ∉ acc) (hk : Keep (fun k => v.ownBlock = some k) w w4)
    (ho : w4.ownsRow B 2 1 (.slice (some ⟨g', 0, none⟩) (acc.length + 1) c') (acc.length + 1) (acc.map (Value.int .i64) ++ [.int .i64 n])) (hg : v.ownBlock = some g' ∨ w.heap.size ≤ g')
    (hm : w7.ownsMap Tryz.prog 2 (plainElem (H := Unit) Tryz.prog 3) mb (acc.length + 1) (D.put (CK n) (.lit (.int .i64 ((acc.length : Int) + 1))))) (hk7 : Keep (fun k => k = mb) w4 w7) :
    Mine B r mb (acc ++ [n]) (.slice (some ⟨g', 0, none⟩) (acc.length + 1) c') (D.put (CK n) (.lit (.int .i64 ((acc.length : Int) + 1)))) F w7 ∧ Keep (fun k => v.ownBlock = some k ∨ k = mb) w w7 := by
  obtain ⟨r1, m1, m2, m3, m4, v1, v2⟩ := h
  have s4 := hk.size
  have s7 := hk7.size
  have hml := m1.lt
  have hgm : g' ≠ mb := by
    rcases hg with e | e
    · exact (v2 _ e).1
    · omega
  refine ⟨⟨by omega, by simpa using hm, Idx_put m2 m1.isMap hn, m3, m4, ?_, fun k e => ?_⟩, (hk.mono fun k e => Or.inl e).trans hk7 fun k e => Or.inl (Or.inr e)⟩
  · have := row_keep ho (w' := w7) fun k e => hk7.block k (ho.lt k e).2 (by simp [Value.ownBlock] at e; subst e; exact hgm)
    simpa using this
  · simp only [Value.ownBlock, Option.some.injEq] at e
    subst e
    refine ⟨hgm, ?_, ?_⟩
    · rcases hg with e | e
      · exact (v2 _ e).2.1
      · intro hF; have := hFl _ hF; omega
    · rcases hg with e | e
      · exact (v2 _ e).2.2
      · omega
/-- the next node is fetched into a new block -/
theorem fetch {B r p mb : Nat} {acc : List Int} {v : Value} {D : DataW Unit} {F : Nat → Prop} {w w5 w6 : World} {R : List (List Tm)} {k0 : Int} {n0 : ByteArray} {i0 re0 im0 : Int} {a0 : Option Addr} {l0 c0 : Nat} {d : Int} {b : Bool} {u0 u1 u2 u3 u4 u5 : Value}
    (hm : Mine B r mb acc v D F w) (hB : B ≤ w.heap.size) (hW : TWay B r w p F R) (hw5 : w5 = w.alloc (.cells #[u0, u1, u2, u3, u4, u5] 27)) (hA : After B r (flat R) p F w5 k0 n0 i0 re0 im0 a0 l0 c0 d b w6) :
    Here B r p mb (flat R) acc v w.heap.size k0 n0 i0 re0 im0 a0 l0 c0 b ((((((w6.setCell ⟨w.heap.size, 0, none⟩ (.int .i64 k0)).setCell ⟨w.heap.size, 1, none⟩ (.string n0)).setCell ⟨w.heap.size, 2, none⟩ (.int .i64 i0)).setCell ⟨w.heap.size, 3, none⟩ (.int .u64 re0)).setCell ⟨w.heap.size, 4, none⟩ (.int .u64 im0)).setCell ⟨w.heap.size, 5, none⟩ (.slice a0 l0 c0)) ∧
    Below B w ((((((w6.setCell ⟨w.heap.size, 0, none⟩ (.int .i64 k0)).setCell ⟨w.heap.size, 1, none⟩ (.string n0)).setCell ⟨w.heap.size, 2, none⟩ (.int .i64 i0)).setCell ⟨w.heap.size, 3, none⟩ (.int .u64 re0)).setCell ⟨w.heap.size, 4, none⟩ (.int .u64 im0)).setCell ⟨w.heap.size, 5, none⟩ (.slice a0 l0 c0)) := by
  have s5 : w5.heap.size = w.heap.size + 1 := by rw [hw5, alloc_size]
  have at5 : w5.heap[w.heap.size]? = some (.cells #[u0, u1, u2, u3, u4, u5] 27 (0, 0)) := by rw [hw5]; exact alloc_at _ _
  have hrs := hm.r1
  have hnF : ¬ F w.heap.size := fun h => by have := (hW.lt _ h).2.2; omega
  have hcur := hA.store (by omega) at5 hnF ⟨hB, by omega⟩
  obtain ⟨hk, hA⟩ := hA
  have s6 := hk.size
  generalize hWW : ((((((w6.setCell ⟨w.heap.size, 0, none⟩ (.int .i64 k0)).setCell ⟨w.heap.size, 1, none⟩ (.string n0)).setCell ⟨w.heap.size, 2, none⟩ (.int .i64 i0)).setCell ⟨w.heap.size, 3, none⟩ (.int .u64 re0)).setCell ⟨w.heap.size, 4, none⟩ (.int .u64 im0)).setCell ⟨w.heap.size, 5, none⟩ (.slice a0 l0 c0)) = W at hcur ⊢
  have k6 : Keep (fun k => k = w.heap.size) w6 W := by rw [← hWW]; exact keep_set6 w6 w.heap.size _ _ _ _ _ _
  have kw5 : Keep No w w5 := Keep.of_below (by rw [hw5]; exact ba w _)
  have kwF : Keep F w W := ((kw5.mono (G := F) fun _ h => h.elim).trans hk fun k h => Or.inl h).trans k6 fun k h => Or.inr (by omega)
  have hml := hm.m1.lt
  refine ⟨?_, kwF.to_below (fun k h => (hW.lt k h).1) hB⟩
  have key : ∀ (F' : Nat → Prop), (∀ k, F' k → F k ∨ w.heap.size + 1 ≤ k) → Mine B r mb acc v D F' W ∧ ¬ F' w.heap.size := fun F' hF' =>
    ⟨hm.keep kwF hm.m3 (fun k e => (hm.v2 k e).2.1) fun k h => (hF' k h).imp id fun h => by omega, fun h => (hF' _ h).elim hnF fun h => by omega⟩
  have hvn : ∀ k, v.ownBlock = some k → k ≠ w.heap.size := fun k e => by have := (hm.v1.lt k e).2; omega
  rcases hA with ⟨h1, h2⟩ | ⟨t, k, L', R', F', hL, hd, hb, hv, hW', hf, hl, hF'⟩
  · exact ⟨D, F, hcur.1, (key F fun k h => Or.inl h).1, hnF, ⟨hB, by omega⟩, by omega, hvn, Or.inl ⟨h1, h2⟩⟩
  · have hk' := key F' fun k h => (hF' k h).imp id fun h => by omega
    exact ⟨D, F', hcur.1, hk'.1, hk'.2, ⟨hB, by omega⟩, by omega, hvn, Or.inr ⟨t, k, L', R', hL, hb, Lies.keep (k6.mono (G := Off B r) fun k e => e ▸ ⟨hB, by omega⟩) (fun _ _ => id) _ _ hv, hW'.keep k6 (fun k h e => hk'.2 (e ▸ h)) (fun k e => by subst e; exact ⟨hB, by omega⟩), hf, hl⟩⟩
def Rel (B r p mb : Nat) (w : World) (t : Tm) (g : Nat) (s3 s6 s8 : Value) (wr : World) : Prop :=
  ∃ (L : List (Tm × Nat)) (acc : List Int) (nb : Nat) (k0 : Int) (n0 : ByteArray) (i0 re0 im0 : Int) (a0 : Option Addr) (l0 c0 : Nat) (b : Bool), g = L.length ∧ s6 = .pointer (some ⟨nb, 0, none⟩) ∧ s8 = .bool b ∧
    Here B r p mb L acc s3 nb k0 n0 i0 re0 im0 a0 l0 c0 b wr ∧ Below B w wr ∧ (occP L).foldl addv acc = (occ t).foldl addv [] ∧ acc.length + L.length ≤ 2000 ∧ (∀ x ∈ L, x.2 ≤ 500)
theorem occP_cons (t : Tm) (k : Nat) (L : List (Tm × Nat)) : occP ((t, k) :: L) = (if t.kind = 1 then [t.int] else []) ++ occP L := by
  by_cases h : t.kind = 1 <;> simp [occP, h]
theorem may_ok {t : Tm} (hg : good t = true) (v : Value) (w : World) (ht : Lies No w t v) : Calls Tryz.prog 58 #[v] w fun e w' => e = .returned (.int .i64 0) ∧ Below w.heap.size w w' := by
  have := may_any t v w ht
  rwa [may_good hg] at this
theorem box_at {w w1 : World} {o : Obj} (h : Below (w.alloc o).heap.size (w.alloc o) w1) : w1.heap[w.heap.size]? = some o ∧ w.heap.size < w1.heap.size := by
  have := h.size
  rw [alloc_size] at this
  exact ⟨(h.block _ (by rw [alloc_size]; omega)).trans (alloc_at w o), by omega⟩
end Go.Proofs.YtedbcmagjbgbjaaGreatDoor.vrs
