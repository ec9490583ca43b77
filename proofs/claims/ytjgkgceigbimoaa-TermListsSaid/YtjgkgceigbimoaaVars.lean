/- Package term: Vars. -/
import Derived.Test.YtjgkgceigbimoaaMeas
import Derived.Test.YtjgkgceigbimoaaTv
import Derived.Test.YtjgkgceigbimoaaRows2
import Derived.Maps.OwnSet
import Derived.Deep.AppendLies
namespace Go.Proofs.Ytjgkgceigbimoaa.vrs
set_option linter.unusedVariables false
open Go.ChangeShapes Go.WideShapes Go.ChangeAt Go.RowKit Go.Maps
open Go.Proofs.Ytjgkgceigbimoaa.tm Go.Proofs.Ytjgkgceigbimoaa.lie Go.Proofs.Ytjgkgceigbimoaa.kp Go.Proofs.Ytjgkgceigbimoaa.wlk Go.Proofs.Ytjgkgceigbimoaa.cur Go.Proofs.Ytjgkgceigbimoaa.mes Go.Proofs.Ytjgkgceigbimoaa.rws
abbrev CK (i : Int) : Lit := .int .i64 i
abbrev Z : DataW Unit := .lit (.int .i64 0)
theorem CK_ne {i j : Int} (h : i ≠ j) : CK i ≠ CK j := fun e => h (by injection e)
def ix (acc : List Int) (n : Int) : Int := if n ∈ acc then (acc.idxOf n : Int) + 1 else 0
/-- D holds each number's place, and one -/
def Idx (D : DataW Unit) (acc : List Int) : Prop := ∀ n : Int, D.atKey (CK n) Z = .lit (.int .i64 (ix acc n))
theorem Idx_nil : Idx (.map []) [] := fun n => by simp [DataW.atKey, ix]
theorem Idx_put {D : DataW Unit} {acc : List Int} {n : Int} (h : Idx D acc) (hD : IsMap D) (hn : n ∉ acc) : Idx (D.put (CK n) (.lit (.int .i64 ((acc.length : Int) + 1)))) (acc ++ [n]) := by
  intro m
  by_cases e : m = n
  · subst e
    rw [atKey_put_same hD (by simp [WideAt.IsKeyLit])]
    simp [ix, List.idxOf_append, hn]
  · rw [atKey_put_other (CK_ne e), h m]
    simp only [ix, List.mem_append, List.mem_singleton, e, or_false]
    by_cases hm : m ∈ acc
    · simp [hm, List.idxOf_append]
    · simp [hm]
theorem law : Keyed Try.prog 2 := int_keyed Try.underlying2
theorem zeroE (w : World) : (zeroValue 3).run Try.prog w = .ok (.int .i64 0) w := by kernel_rfl
theorem infoI : (Try.prog.info? 2).map (fun i => (i.zero, i.size, i.bytes)) = some (some (.int .i64 0), 1, 8) := by kernel_rfl
def VOut (l : List Int) (w : World) (e : Ending) (w' : World) : Prop := ∃ v, e = .returned v ∧ w'.ownsRow w.heap.size 2 1 v l.length (l.map (Value.int .i64)) ∧ Below w.heap.size w w'
/-- what has been collected: its map, its slice; F: the way's blocks -/
structure Mine (B r mb : Nat) (acc : List Int) (v : Value) (D : DataW Unit) (F : Nat → Prop) (w : World) : Prop where
  r1 : r < w.heap.size
  m1 : w.ownsMap Try.prog 2 (plainElem (H := Unit) Try.prog 3) mb acc.length D
  m2 : Idx D acc
  m3 : ¬ F mb
  m4 : Off B r mb
  v1 : w.ownsRow B 2 1 v acc.length (acc.map (Value.int .i64))
  v2 : ∀ k, v.ownBlock = some k → k ≠ mb ∧ ¬ F k ∧ k ≠ r
theorem map_keep {w w' : World} {mb n : Nat} {D : DataW Unit} (h : w.ownsMap Try.prog 2 (plainElem (H := Unit) Try.prog 3) mb n D) (hb : w'.heap[mb]? = w.heap[mb]?) : w'.ownsMap Try.prog 2 (plainElem (H := Unit) Try.prog 3) mb n D := by
  obtain ⟨es, clock, hmb, q⟩ := h
  exact ⟨es, clock, hb.trans hmb, q⟩
theorem row_keep {w w' : World} {B e n : Nat} {v : Value} {xs : List Value} (h : w.ownsRow B e 1 v n xs) (hb : ∀ k, v.ownBlock = some k → w'.heap[k]? = w.heap[k]?) : w'.ownsRow B e 1 v n xs := by
  obtain ⟨hl, hr⟩ := h
  refine ⟨hl, ?_⟩
  rcases hr with hr | ⟨g, cap, cur, rfl, hg0, hgc, q⟩
  · exact Or.inl hr
  · exact Or.inr ⟨g, cap, cur, rfl, hg0, (hb g rfl).trans hgc, q⟩
theorem Mine.keep {B r mb : Nat} {acc : List Int} {v : Value} {D : DataW Unit} {F F' G : Nat → Prop} {w w' : World} (h : Mine B r mb acc v D F w) (hk : Keep G w w') (hm : ¬ G mb) (hv : ∀ k, v.ownBlock = some k → ¬ G k) (hF : ∀ k, F' k → F k ∨ w.heap.size ≤ k) : Mine B r mb acc v D F' w' := by
  obtain ⟨r1, m1, m2, m3, m4, v1, v2⟩ := h
  have hs := hk.size
  have hml := m1.lt
  refine ⟨by omega, map_keep m1 (hk.block mb hml hm), m2, fun h => (hF _ h).elim m3 fun h => by omega, m4, row_keep v1 fun k e => hk.block k (v1.lt k e).2 (hv k e), fun k e => ⟨(v2 k e).1, fun h => (hF _ h).elim (v2 k e).2.1 fun h => ?_, (v2 k e).2.2⟩⟩
  have := (v1.lt k e).2
  omega
/-- the cursor at block nb, and what stands beside it -/
def Here (B r p mb : Nat) (L : List (Tm × Nat)) (acc : List Int) (v : Value) (nb : Nat) (k0 : Int) (n0 : ByteArray) (i0 re0 im0 : Int) (a0 : Option Addr) (l0 c0 : Nat) (b : Bool) (w : World) : Prop :=
  ∃ (D : DataW Unit) (F : Nat → Prop), w.heap[nb]? = some (.cells #[.int .i64 k0, .string n0, .int .i64 i0, .int .u64 re0, .int .u64 im0, .slice a0 l0 c0] 25 (0, 0)) ∧ Mine B r mb acc v D F w ∧ ¬ F nb ∧ Off B r nb ∧ nb ≠ mb ∧ (∀ k, v.ownBlock = some k → k ≠ nb) ∧
    ((L = [] ∧ b = false) ∨ ∃ t k L' R, L = (t, k) :: L' ∧ b = true ∧ Lies (Off B r) w t (.agg #[.int .i64 k0, .string n0, .int .i64 i0, .int .u64 re0, .int .u64 im0, .slice a0 l0 c0]) ∧ TWay B r w p F R ∧ flat R = L' ∧ R.length ≤ k + 1)
/-- a new number: the slice grows -/
theorem grown_v {w2 w4 : World} {v : Value} {o : Obj} (h : (w2.alloc o).grownBy w4 v.ownBlock) : Keep (fun k => v.ownBlock = some k) w2 w4 :=
  (Keep.of_below (F := fun k => v.ownBlock = some k) (ba w2 o)).trans (Keep.of_grown (F := fun k => v.ownBlock = some k) h fun k e => e) fun _ => Or.inl
theorem Mine.add {B r mb g' c' : Nat} {acc : List Int} {v : Value} {D : DataW Unit} {F : Nat → Prop} {w w4 w7 : World} {n : Int} (h : Mine B r mb acc v D F w) (hFl : ∀ k, F k → k < w.heap.size) (hn : n ∉ acc) (hk : Keep (fun k => v.ownBlock = some k) w w4)
    (ho : w4.ownsRow B 2 1 (.slice (some ⟨g', 0, none⟩) (acc.length + 1) c') (acc.length + 1) (acc.map (Value.int .i64) ++ [.int .i64 n])) (hg : v.ownBlock = some g' ∨ w.heap.size ≤ g')
    (hm : w7.ownsMap Try.prog 2 (plainElem (H := Unit) Try.prog 3) mb (acc.length + 1) (D.put (CK n) (.lit (.int .i64 ((acc.length : Int) + 1))))) (hk7 : Keep (fun k => k = mb) w4 w7) :
    Mine B r mb (acc ++ [n]) (.slice (some ⟨g', 0, none⟩) (acc.length + 1) c') (D.put (CK n) (.lit (.int .i64 ((acc.length : Int) + 1)))) F w7 ∧ Keep (fun k => v.ownBlock = some k ∨ k = mb) w w7 := by
  obtain ⟨r1, m1, m2, m3, m4, v1, v2⟩ := h
  have s4 := hk.size
  have s7 := hk7.size
  have hml := m1.lt
  have hgm : g' ≠ mb := by
    rcases hg with e | e
    · exact (v2 _ e).1
    · omega
  refine ⟨⟨by omega, by simpa using hm, Idx_put m2 m1.isMap hn, m3, m4, ?_, fun k e => ?_⟩, (hk.mono fun k e => Or.inl e).trans hk7 fun k e => Or.inl (Or.inr e)⟩
  · have := row_keep ho (w' := w7) fun k e => hk7.block k (ho.lt k e).2 (by simp [Value.ownBlock] at e; subst e; exact hgm)
    simpa using this
  · simp only [Value.ownBlock, Option.some.injEq] at e
    subst e
    refine ⟨hgm, ?_, ?_⟩
    · rcases hg with e | e
      · exact (v2 _ e).2.1
      · intro hF; have := hFl _ hF; omega
    · rcases hg with e | e
      · exact (v2 _ e).2.2
      · omega
/-- the next node is fetched into a new block -/
theorem fetch {B r p mb : Nat} {acc : List Int} {v : Value} {D : DataW Unit} {F : Nat → Prop} {w w5 w6 : World} {R : List (List Tm)} {k0 : Int} {n0 : ByteArray} {i0 re0 im0 : Int} {a0 : Option Addr} {l0 c0 : Nat} {d : Int} {b : Bool} {u0 u1 u2 u3 u4 u5 : Value}
    (hm : Mine B r mb acc v D F w) (hB : B ≤ w.heap.size) (hW : TWay B r w p F R) (hw5 : w5 = w.alloc (.cells #[u0, u1, u2, u3, u4, u5] 25)) (hA : After B r (flat R) p F w5 k0 n0 i0 re0 im0 a0 l0 c0 d b w6) :
    Here B r p mb (flat R) acc v w.heap.size k0 n0 i0 re0 im0 a0 l0 c0 b ((((((w6.setCell ⟨w.heap.size, 0, none⟩ (.int .i64 k0)).setCell ⟨w.heap.size, 1, none⟩ (.string n0)).setCell ⟨w.heap.size, 2, none⟩ (.int .i64 i0)).setCell ⟨w.heap.size, 3, none⟩ (.int .u64 re0)).setCell ⟨w.heap.size, 4, none⟩ (.int .u64 im0)).setCell ⟨w.heap.size, 5, none⟩ (.slice a0 l0 c0)) ∧
    Below B w ((((((w6.setCell ⟨w.heap.size, 0, none⟩ (.int .i64 k0)).setCell ⟨w.heap.size, 1, none⟩ (.string n0)).setCell ⟨w.heap.size, 2, none⟩ (.int .i64 i0)).setCell ⟨w.heap.size, 3, none⟩ (.int .u64 re0)).setCell ⟨w.heap.size, 4, none⟩ (.int .u64 im0)).setCell ⟨w.heap.size, 5, none⟩ (.slice a0 l0 c0)) := by
  have s5 : w5.heap.size = w.heap.size + 1 := by rw [hw5, alloc_size]
  have at5 : w5.heap[w.heap.size]? = some (.cells #[u0, u1, u2, u3, u4, u5] 25 (0, 0)) := by rw [hw5]; exact alloc_at _ _
  have hrs := hm.r1
  have hnF : ¬ F w.heap.size := fun h => by have := (hW.lt _ h).2.2; omega
  have hcur := hA.store (by omega) at5 hnF ⟨hB, by omega⟩
  obtain ⟨hk, hA⟩ := hA
  have s6 := hk.size
  generalize hWW : ((((((w6.setCell ⟨w.heap.size, 0, none⟩ (.int .i64 k0)).setCell ⟨w.heap.size, 1, none⟩ (.string n0)).setCell ⟨w.heap.size, 2, none⟩ (.int .i64 i0)).setCell ⟨w.heap.size, 3, none⟩ (.int .u64 re0)).setCell ⟨w.heap.size, 4, none⟩ (.int .u64 im0)).setCell ⟨w.heap.size, 5, none⟩ (.slice a0 l0 c0)) = W at hcur ⊢
  have k6 : Keep (fun k => k = w.heap.size) w6 W := by rw [← hWW]; exact keep_set6 w6 w.heap.size _ _ _ _ _ _
  have kw5 : Keep No w w5 := Keep.of_below (by rw [hw5]; exact ba w _)
  have kwF : Keep F w W := ((kw5.mono (G := F) fun _ h => h.elim).trans hk fun k h => Or.inl h).trans k6 fun k h => Or.inr (by omega)
  have hml := hm.m1.lt
  refine ⟨?_, kwF.to_below (fun k h => (hW.lt k h).1) hB⟩
  have key : ∀ (F' : Nat → Prop), (∀ k, F' k → F k ∨ w.heap.size + 1 ≤ k) → Mine B r mb acc v D F' W ∧ ¬ F' w.heap.size := fun F' hF' =>
    ⟨hm.keep kwF hm.m3 (fun k e => (hm.v2 k e).2.1) fun k h => (hF' k h).imp id fun h => by omega, fun h => (hF' _ h).elim hnF fun h => by omega⟩
  have hvn : ∀ k, v.ownBlock = some k → k ≠ w.heap.size := fun k e => by have := (hm.v1.lt k e).2; omega
  rcases hA with ⟨h1, h2⟩ | ⟨t, k, L', R', F', hL, hd, hb, hv, hW', hf, hl, hF'⟩
  · exact ⟨D, F, hcur.1, (key F fun k h => Or.inl h).1, hnF, ⟨hB, by omega⟩, by omega, hvn, Or.inl ⟨h1, h2⟩⟩
  · have hk' := key F' fun k h => (hF' k h).imp id fun h => by omega
    exact ⟨D, F', hcur.1, hk'.1, hk'.2, ⟨hB, by omega⟩, by omega, hvn, Or.inr ⟨t, k, L', R', hL, hb, Lies.keep (k6.mono (G := Off B r) fun k e => e ▸ ⟨hB, by omega⟩) (fun _ _ => id) _ _ hv, hW'.keep k6 (fun k h e => hk'.2 (e ▸ h)) (fun k e => by subst e; exact ⟨hB, by omega⟩), hf, hl⟩⟩
def Rel (B r p mb : Nat) (w : World) (t : Tm) (g : Nat) (s3 s6 s8 : Value) (wr : World) : Prop :=
  ∃ (L : List (Tm × Nat)) (acc : List Int) (nb : Nat) (k0 : Int) (n0 : ByteArray) (i0 re0 im0 : Int) (a0 : Option Addr) (l0 c0 : Nat) (b : Bool), g = L.length ∧ s6 = .pointer (some ⟨nb, 0, none⟩) ∧ s8 = .bool b ∧
    Here B r p mb L acc s3 nb k0 n0 i0 re0 im0 a0 l0 c0 b wr ∧ Below B w wr ∧ (occP L).foldl addv acc = (occ t).foldl addv [] ∧ acc.length + L.length ≤ 2000 ∧ (∀ x ∈ L, x.2 ≤ 500)
theorem occP_cons (t : Tm) (k : Nat) (L : List (Tm × Nat)) : occP ((t, k) :: L) = (if t.kind = 1 then [t.int] else []) ++ occP L := by
  by_cases h : t.kind = 1 <;> simp [occP, h]
theorem may_ok {t : Tm} (hg : good t = true) (v : Value) (w : World) (ht : Lies No w t v) : Calls Try.prog 16 #[v] w fun e w' => e = .returned (.int .i64 0) ∧ Below w.heap.size w w' := by
  have := may_any t v w ht
  rwa [may_good hg] at this
theorem box_at {w w1 : World} {o : Obj} (h : Below (w.alloc o).heap.size (w.alloc o) w1) : w1.heap[w.heap.size]? = some o ∧ w.heap.size < w1.heap.size := by
  have := h.size
  rw [alloc_size] at this
  exact ⟨(h.block _ (by rw [alloc_size]; omega)).trans (alloc_at w o), by omega⟩
set_option maxRecDepth 100000 in
set_option maxHeartbeats 1000000 in
theorem vars_bad (t : Tm) (v : Value) (w : World) (ht : Lies No w t v) (hg : good t = false) : Calls Try.prog 25 #[v] w (VOut [] w) := by
  have hne : (may t != 0) = true := by rw [bne_iff_ne]; have := may_nogood hg; omega
  obtain ⟨k, n, i, re, im, l⟩ := t
  have HT := Lib.hid ht
  rw [Lies] at ht
  obtain ⟨a, c, rfl, hf, hr⟩ := ht
  clear hf hr
  go_enter Try.func25, Try.ntmps25
  go_wp2_with fail
  refine (may_any _ _ _ (HT.out.below (ba _ _))).mono ?_
  rintro e w1 ⟨rfl, hb⟩
  have HB := Lib.hid (bt (ba w _) hb)
  clear hb
  go_wp2_with fail
  go_ret
  exact ⟨_, rfl, World.ownsRow_nil _ _ _ _, HB.out⟩
set_option maxRecDepth 100000 in
set_option maxHeartbeats 2000000 in
theorem vars_good (t : Tm) (v : Value) (w : World) (ht : Lies No w t v) (hg : good t = true) : Calls Try.prog 25 #[v] w (VOut ((occ t).foldl addv []) w) := by
  have ht0 : Lies (fun k => w.heap.size ≤ k) w t v := ht.off fun b h1 h2 => absurd h1 (by omega)
  have hsz := (pre_facts t 1).1
  have hdp := (pre_facts t 1).2.2.2 500
  have hg' := hg
  simp only [good, Bool.and_eq_true, decide_eq_true_eq] at hg'
  have hpre : (pre 1 t).length ≤ 2000 ∧ ∀ x ∈ pre 1 t, x.2 ≤ 500 := ⟨by omega, hdp.2 (by omega)⟩
  have HPR := Lib.hid hpre
  have HG := Lib.hid hg
  obtain ⟨k, n, i, re, im, l⟩ := t
  have HT := Lib.hid (And.intro ht ht0)
  rw [Lies] at ht
  obtain ⟨a, c, rfl, hf, hr⟩ := ht
  have hmm := @run_makeMap Try.prog
  clear hf hr ht0 hsz hdp hg' hpre hg
  go_enter Try.func25, Try.ntmps25
  go_wp2_with fail
  refine (may_ok HG.out _ _ (HT.out.1.below (ba _ _))).mono ?_
  rintro e w1 ⟨rfl, hb1⟩
  have HB1 := Lib.hid (bt (ba w _) hb1)
  obtain ⟨hbx, hlt⟩ := box_at hb1
  obtain ⟨⟨e0, e1, e2, e3, e4, e5⟩, _⟩ := blk_facts hbx
  clear hb1 hbx
  go_wp2_with fail
  refine (begin_any w.heap.size _ _ _ (by rw [alloc_size]; omega) ((HT.out.2.below HB1.out).below (ba _ _))).mono ?_
  rintro e w2 ⟨p, F, r, rfl, hw, hb, hF, hr1, hr2⟩
  have HB2 := Lib.hid (And.intro hw (And.intro hb (And.intro hF (And.intro hr1 hr2))))
  clear hw hb hF hr1 hr2 hmm e0 e1 e2 e3 e4 e5
  go_wp2_with fail
  refine (next_flat w.heap.size r _ p F _ HB2.out.1 (by simp) HB2.out.2.2.2.2).mono ?_
  rintro e w3 ⟨k0, n0, i0, re0, im0, a0, l0, c0, d, b, rfl, hA⟩
  have HA := Lib.hid hA
  clear hA
  go_wp2_with fail
  go_loopg [3, 6, 8] (pre 1 (Tm.mk k n i re im l)).length (Rel w.heap.size r p w1.heap.size w (Tm.mk k n i re im l))
  case atStart =>
    obtain ⟨hw, hb, hF, hr1, hr2⟩ := HB2.out
    have hfl : flat [[Tm.mk k n i re im l]] = pre 1 (Tm.mk k n i re im l) := by simp [flat, flatR, preL]
    have hA := HA.out
    rw [hfl] at hA
    have hs3 := hA.1.size
    have hs2 := hb.size
    rw [alloc_size] at hs2 hr1 hF
    have hbb := hb.block w1.heap.size (by rw [alloc_size]; omega)
    have hmd : w2.ownsMap Try.prog 2 (plainElem (H := Unit) Try.prog 3) w1.heap.size 0 (.map []) := map_keep (World.ownsMap_made _ _ _ _) hbb
    have hs1 := HB1.out.size
    have hm0 : Mine w.heap.size r w1.heap.size [] (.slice none 0 0) (.map []) F w2 := ⟨hr2, hmd, Idx_nil, fun h => by have := hF _ h; omega, ⟨by omega, by omega⟩, World.ownsRow_nil _ _ _ _, fun k e => by simp [Value.ownBlock] at e⟩
    refine ⟨pre 1 (Tm.mk k n i re im l), [], w3.heap.size, k0, n0, i0, re0, im0, a0, l0, c0, b, rfl, rfl, rfl, ?_, ?_, by rw [occ_pre], by have := HPR.out.1; simp only [List.length_nil]; omega, HPR.out.2⟩
    · have hcur := hA.first (by omega) hr2
      have key : ∀ (F' : Nat → Prop), (∀ k, F' k → (F k ∨ w2.heap.size ≤ k) ∧ k < w3.heap.size) → Mine w.heap.size r w1.heap.size [] (.slice none 0 0) (.map []) F' (w3.alloc (.cells #[.int .i64 k0, .string n0, .int .i64 i0, .int .u64 re0, .int .u64 im0, .slice a0 l0 c0] 25)) ∧ ¬ F' w3.heap.size := fun F' hF' =>
        ⟨hm0.keep (hA.1.trans (F' := No) (Keep.of_below (ba w3 _)) fun _ h => h.elim) hm0.m3 (fun k e => (hm0.v2 k e).2.1) fun k h => (hF' k h).1, fun h => by have := (hF' _ h).2; omega⟩
      have hlt3 : ∀ k, F k → k < w3.heap.size := fun k h => by have := (hw.lt k h).2.2; omega
      rcases hA.2 with ⟨h1, h2⟩ | ⟨t', kk, L', R', F', hL, hd, hb', hv, hW', hf, hl, hF'⟩
      · have hk := key F fun k h => ⟨Or.inl h, hlt3 k h⟩
        exact ⟨.map [], F, hcur.1, hk.1, hk.2, ⟨by omega, by omega⟩, by omega, fun k e => by simp [Value.ownBlock] at e, Or.inl ⟨h1, h2⟩⟩
      · have hk := key F' fun k h => ⟨hF' k h, (hW'.lt k h).2.2⟩
        exact ⟨.map [], F', hcur.1, hk.1, hk.2, ⟨by omega, by omega⟩, by omega, fun k e => by simp [Value.ownBlock] at e, Or.inr ⟨t', kk, L', R', hL, hb', hv.below (ba _ _), hW'.keep (G := No) (Keep.of_below (ba _ _)) (fun _ _ => id) (fun _ h => h.elim), hf, hl⟩⟩
    · have b2 : Below w.heap.size w w2 := (HB1.out.trans ((ba w1 _).mono hs1)).trans (hb.mono (by rw [alloc_size]; omega))
      exact (b2.trans (hA.1.to_below (fun i h => (hw.lt i h).1) (by omega))).trans ((ba w3 _).mono (by omega))
  case round =>
    obtain ⟨L, acc, nb, k0, n0, i0, re0, im0, a0, l0, c0, b, rfl, rfl, rfl, ⟨D, F', h1, h2, h3, h4, h5, h6, h7⟩, hb, hfold, hlen, hdep⟩ := hrel
    obtain ⟨⟨e0, e1, e2, e3, e4, e5⟩, _⟩ := blk_facts h1
    rcases h7 with ⟨rfl, rfl⟩ | ⟨t', kk, L', R, rfl, rfl, hv, hW, hfl, hRl⟩
    · have HE := Lib.hid (And.intro h2 (And.intro hb hfold))
      clear h1 h2 h3 h4 h5 h6 hb hfold hlen hdep
      go_wp2_with fail
      go_ret
      obtain ⟨h2, hb, hfold⟩ := HE.out
      have hf : acc = (occ (Tm.mk k n i re im l)).foldl addv [] := hfold
      exact ⟨_, rfl, hf ▸ h2.v1, hb⟩
    · obtain ⟨lt, rfl, rfl, hfit, _⟩ := lies_parts hv
      have hnbl : nb < wr.heap.size := (Array.getElem?_eq_some_iff.1 h1).1
      have HL := Lib.hid (And.intro (And.intro hb (And.intro hfold (And.intro hlen hdep))) (And.intro hRl (And.intro hfl trivial)))
      by_cases hk1 : k0 = 1
      · subst hk1
        have hkey : keyOf Try.prog 2 (.int .i64 i0) = some (CK i0) := keyOf_int_mk Try.underlying2 (WalkArith.wf_i64 (by have := hfit.i0; have := hfit.i1; omega))
        obtain ⟨cl, hlk, hat, hwc⟩ := h2.m1.lookup_int law Try.underlying58 Try.underlying3 (zeroE _) hkey
        have hcl : cl = ix acc i0 := by
          have := h2.m2 i0
          rw [hat] at this
          injection this with e; injection e
        subst hcl
        by_cases hin : i0 ∈ acc
        · have hix : ix acc i0 = (acc.idxOf i0 : Int) + 1 := if_pos hin
          rw [hix] at hlk
          have HS := Lib.hid (And.intro h2 (And.intro hW hb))
          have HF := Lib.hid (show (([i0] ++ occP L').foldl addv acc) = (occP L').foldl addv acc by simp [addv, hin])
          have HF : Hid ((occP L').foldl addv acc = ((if (1 : Int) = 1 then [i0] else []) ++ occP L').foldl addv acc) := Lib.hid (by rw [if_pos rfl]; exact HF.out.symm)
          clear h1 h2 h3 h4 h5 h6 hb hfold hlen hdep hv hW hfl hRl hfit hat hwc hix hin
          go_wp2_with fail
          obtain ⟨w5, hw5⟩ : ∃ w5, w5 = wr.alloc (.cells #[.int .i64 1, .string n0, .int .i64 i0, .int .u64 re0, .int .u64 im0, .slice a0 lt.length c0] 25) := ⟨_, rfl⟩
          rw [← hw5]
          have hat5 : w5.heap[wr.heap.size]? = some (.cells #[.int .i64 1, .string n0, .int .i64 i0, .int .u64 re0, .int .u64 im0, .slice a0 lt.length c0] 25 (0, 0)) := by rw [hw5]; exact alloc_at _ _
          have hs5 : w5.heap.size = wr.heap.size + 1 := by rw [hw5, alloc_size]
          have hW5 := HS.out.2.1.keep (G := No) (w' := w5) (Keep.of_below (by rw [hw5]; exact ba wr _)) (fun _ _ => id) (fun _ h => h.elim)
          have hnF : ¬ F' wr.heap.size := fun h => by have := (HS.out.2.1.lt _ h).2.2; omega
          have HW5 := Lib.hid (And.intro hw5 (And.intro hat5 (And.intro hs5 (And.intro hW5 hnF))))
          clear hw5 hat5 hs5 hW5 hnF
          refine (next_flat w.heap.size r w5 p F' R HW5.out.2.2.2.1 (by have := HL.out.2.1; have := HL.out.1.2.2.2 _ (List.mem_cons_self); simp only at this; omega) (by have := HS.out.1.r1; have := HW5.out.2.2.1; omega)).mono ?_
          rintro e w6 ⟨k1, n1, i1, re1, im1, a1, l1, c1, d1, b1, rfl, hA6⟩
          have hat6 := (hA6.1.block wr.heap.size (by rw [HW5.out.2.2.1]; omega) HW5.out.2.2.2.2).trans HW5.out.2.1
          obtain ⟨⟨x0, x1, x2, x3, x4, x5⟩, y0, y1, y2, y3, y4, y5⟩ := blk_facts hat6
          have HA6 := Lib.hid hA6
          clear hA6 hat6 e0 e1 e2 e3 e4 e5 hlk
          go_wp2_with fail
          go_roundg L'.length
          case measure => simp
          case rel =>
            obtain ⟨⟨hb, hfold, hlen, hdep⟩, hRl, hfl, htk⟩ := HL.out
            have hA := HA6.out
            have hf := fetch HS.out.1 HS.out.2.2.size HS.out.2.1 HW5.out.1 hA
            rw [hfl] at hf
            simp only [List.length_cons] at hlen
            exact ⟨L', acc, wr.heap.size, k1, n1, i1, re1, im1, a1, l1, c1, b1, rfl, rfl, rfl, hf.1, HS.out.2.2.trans hf.2, (by have := HF.out; rw [← hfold, occP_cons]; exact this), (by omega), fun x hx => hdep x (by simp [hx])⟩
        · have hix : ix acc i0 = 0 := if_neg hin
          rw [hix] at hlk
          have hpad := h2.m2
          have HIN := Lib.hid hin
          have HM := Lib.hid (And.intro h2 (And.intro hW (And.intro hb (And.intro h1 (And.intro h5 (And.intro h6 (And.intro h3 hv)))))))
          obtain ⟨ij, hi, hi0, hi1, hi2⟩ := info_parts infoI
          have HI := Lib.hid (And.intro hi (And.intro hi0 (And.intro hi1 hi2)))
          have hl9 : acc.length + 1 ≤ 2000 := by simp only [List.length_cons] at hlen; omega
          have hne := h2.m1.lt
          clear h1 h2 h3 h4 h5 h6 hb hfold hlen hdep hv hW hfl hRl hfit hat hwc hix hin hpad hi hi0 hi1 hi2
          go_wp2_with (at_builtin; refine wpList_append_lies _ rfl (.tmp 38) (.tmp 41) 41 rfl w.heap.size 2 ij (.int .i64 0) 1 8 Try.underlying41 HI.out.1 HI.out.2.1 HI.out.2.2.1 HI.out.2.2.2 rfl (by decide) _ acc.length (acc.map (Value.int .i64)) rfl (row_keep HM.out.1.v1 fun k e => (ba _ _).block k (HM.out.1.v1.lt k e).2) ⟨wr.heap.size, 0, none⟩ 1 1 [.int .i64 i0] rfl rfl (cell_one_new _ _ _) ?ac1 (by omega) ?ac2 ?ac3 ?ac4 _ rfl ?_)
          case ac1 => intro u hu; simp only [List.mem_singleton] at hu; subst hu; rfl
          case ac2 => unfold maxLen; omega
          case ac3 => omega
          case ac4 => have := HM.out.2.2.1.size; rw [alloc_size]; omega
          intro g' c' w4 ho4 hg4 ha4 hl4
          have kk4 : Keep (fun k => u3.ownBlock = some k) wr w4 := grown_v hg4
          have hgg : u3.ownBlock = some g' ∨ wr.heap.size ≤ g' := ha4.imp id fun e => by omega
          have hb4 := kk4.block nb hnbl (fun e => HM.out.2.2.2.2.2.1 _ e rfl)
          obtain ⟨⟨e0, e1, e2, e3, e4, e5⟩, _⟩ := blk_facts (hb4.trans HM.out.2.2.2.1)
          have hmm4 : w4.ownsMap Try.prog 2 (plainElem (H := Unit) Try.prog 3) w1.heap.size acc.length D := map_keep HM.out.1.m1 (kk4.block _ hne fun e => (HM.out.1.v2 _ e).1 rfl)
          have H4 := Lib.hid (And.intro ho4 (And.intro kk4 (And.intro hgg (And.intro hmm4 hb4))))
          have wfl : (Lit.int .i64 ((acc.length : Int) + 1)).wf = true := WalkArith.wf_i64 (by omega)
          have WFL := Lib.hid wfl
          clear ho4 hg4 ha4 kk4 hgg hb4 hmm4 wfl hlk hne
          go_wp2_with (at_mapUpdate; refine wpList_mapUpdate_own _ rfl _ _ _ 58 rfl 2 3 law Try.underlying58 _ w1.heap.size acc.length D rfl H4.out.2.2.2.1 ?ad1 _ _ _ rfl rfl hkey _ [] (plainElem_int Try.underlying3 WFL.out) ?_)
          case ad1 => unfold maxLen; omega
          intro w7 hm7 hg7
          have kk7 : Keep (fun k => k = w1.heap.size) w4 w7 := Keep.of_grown (F := fun k => k = w1.heap.size) hg7 fun k e => (Option.some.inj e).symm
          have hmad := HM.out.1.add (fun k h => (HM.out.2.1.lt k h).2.2) HIN.out H4.out.2.1 H4.out.1 H4.out.2.2.1 hm7 kk7
          have hv2 := HM.out.1.v2
          have hW7 := HM.out.2.1.keep hmad.2 (fun k h e => e.elim (fun e => (hv2 _ e).2.1 h) fun e => HM.out.1.m3 (e ▸ h)) (fun k e => e.elim (fun e => ⟨(HM.out.1.v1.lt _ e).1, (hv2 _ e).2.2⟩) fun e => e ▸ HM.out.1.m4)
          have hb7 : Below w.heap.size w w7 := HM.out.2.2.1.trans (hmad.2.to_below (fun k e => e.elim (fun e => (HM.out.1.v1.lt _ e).1) fun e => e ▸ HM.out.1.m4.1) HM.out.2.2.1.size)
          have hbn := (hmad.2.block nb hnbl fun e => e.elim (fun e => HM.out.2.2.2.2.2.1 _ e rfl) fun e => HM.out.2.2.2.2.1 e).trans HM.out.2.2.2.1
          obtain ⟨⟨e0, e1, e2, e3, e4, e5⟩, _⟩ := blk_facts hbn
          have HS := Lib.hid (And.intro hmad.1 (And.intro hW7 hb7))
          have HF : Hid ((occP L').foldl addv (acc ++ [i0]) = ((if (1 : Int) = 1 then [i0] else []) ++ occP L').foldl addv acc) := Lib.hid (by rw [if_pos rfl]; simp [addv, HIN.out])
          clear kk7 hmad hv2 hW7 hb7 hbn hm7 hg7 hkey
          go_wp2_with fail
          obtain ⟨w5, hw5⟩ : ∃ w5, w5 = w7.alloc (.cells #[.int .i64 1, .string n0, .int .i64 i0, .int .u64 re0, .int .u64 im0, .slice a0 lt.length c0] 25) := ⟨_, rfl⟩
          rw [← hw5]
          have hat5 : w5.heap[w7.heap.size]? = some (.cells #[.int .i64 1, .string n0, .int .i64 i0, .int .u64 re0, .int .u64 im0, .slice a0 lt.length c0] 25 (0, 0)) := by rw [hw5]; exact alloc_at _ _
          have hs5 : w5.heap.size = w7.heap.size + 1 := by rw [hw5, alloc_size]
          have hW5 := HS.out.2.1.keep (G := No) (w' := w5) (Keep.of_below (by rw [hw5]; exact ba w7 _)) (fun _ _ => id) (fun _ h => h.elim)
          have hnF : ¬ F' w7.heap.size := fun h => by have := (HS.out.2.1.lt _ h).2.2; omega
          have HW5 := Lib.hid (And.intro hw5 (And.intro hat5 (And.intro hs5 (And.intro hW5 hnF))))
          clear hw5 hat5 hs5 hW5 hnF
          refine (next_flat w.heap.size r w5 p F' R HW5.out.2.2.2.1 (by have := HL.out.2.1; have := HL.out.1.2.2.2 _ (List.mem_cons_self); simp only at this; omega) (by have := HS.out.1.r1; have := HW5.out.2.2.1; omega)).mono ?_
          rintro e w6 ⟨k1, n1, i1, re1, im1, a1, l1, c1, d1, b1, rfl, hA6⟩
          have hat6 := (hA6.1.block w7.heap.size (by rw [HW5.out.2.2.1]; omega) HW5.out.2.2.2.2).trans HW5.out.2.1
          obtain ⟨⟨x0, x1, x2, x3, x4, x5⟩, y0, y1, y2, y3, y4, y5⟩ := blk_facts hat6
          have HA6 := Lib.hid hA6
          clear hA6 hat6 e0 e1 e2 e3 e4 e5
          go_wp2_with fail
          go_roundg L'.length
          case measure => simp
          case rel =>
            obtain ⟨⟨hb, hfold, hlen, hdep⟩, hRl, hfl, htk⟩ := HL.out
            have hA := HA6.out
            have hf := fetch HS.out.1 HS.out.2.2.size HS.out.2.1 HW5.out.1 hA
            rw [hfl] at hf
            simp only [List.length_cons] at hlen
            exact ⟨L', (acc ++ [i0]), w7.heap.size, k1, n1, i1, re1, im1, a1, l1, c1, b1, rfl, rfl, rfl, hf.1, HS.out.2.2.trans hf.2, (by have := HF.out; rw [← hfold, occP_cons]; exact this), (by rw [List.length_append, List.length_singleton]; omega), fun x hx => hdep x (by simp [hx])⟩
      · have hk1' : (k0 != 1) = true := by rw [bne_iff_ne]; exact hk1
        have HS := Lib.hid (And.intro h2 (And.intro hW hb))
        have HF : Hid ((occP L').foldl addv acc = ((if k0 = 1 then [i0] else []) ++ occP L').foldl addv acc) := Lib.hid (by rw [if_neg hk1]; rfl)
        clear h1 h2 h3 h4 h5 h6 hb hfold hlen hdep hv hW hfl hRl hfit hk1
        go_wp2_with fail
        obtain ⟨w5, hw5⟩ : ∃ w5, w5 = wr.alloc (.cells #[.int .i64 k0, .string n0, .int .i64 i0, .int .u64 re0, .int .u64 im0, .slice a0 lt.length c0] 25) := ⟨_, rfl⟩
        rw [← hw5]
        have hat5 : w5.heap[wr.heap.size]? = some (.cells #[.int .i64 k0, .string n0, .int .i64 i0, .int .u64 re0, .int .u64 im0, .slice a0 lt.length c0] 25 (0, 0)) := by rw [hw5]; exact alloc_at _ _
        have hs5 : w5.heap.size = wr.heap.size + 1 := by rw [hw5, alloc_size]
        have hW5 := HS.out.2.1.keep (G := No) (w' := w5) (Keep.of_below (by rw [hw5]; exact ba wr _)) (fun _ _ => id) (fun _ h => h.elim)
        have hnF : ¬ F' wr.heap.size := fun h => by have := (HS.out.2.1.lt _ h).2.2; omega
        have HW5 := Lib.hid (And.intro hw5 (And.intro hat5 (And.intro hs5 (And.intro hW5 hnF))))
        clear hw5 hat5 hs5 hW5 hnF
        refine (next_flat w.heap.size r w5 p F' R HW5.out.2.2.2.1 (by have := HL.out.2.1; have := HL.out.1.2.2.2 _ (List.mem_cons_self); simp only at this; omega) (by have := HS.out.1.r1; have := HW5.out.2.2.1; omega)).mono ?_
        rintro e w6 ⟨k1, n1, i1, re1, im1, a1, l1, c1, d1, b1, rfl, hA6⟩
        have hat6 := (hA6.1.block wr.heap.size (by rw [HW5.out.2.2.1]; omega) HW5.out.2.2.2.2).trans HW5.out.2.1
        obtain ⟨⟨x0, x1, x2, x3, x4, x5⟩, y0, y1, y2, y3, y4, y5⟩ := blk_facts hat6
        have HA6 := Lib.hid hA6
        clear hA6 hat6 e0 e1 e2 e3 e4 e5
        go_wp2_with fail
        go_roundg L'.length
        case measure => simp
        case rel =>
          obtain ⟨⟨hb, hfold, hlen, hdep⟩, hRl, hfl, htk⟩ := HL.out
          have hA := HA6.out
          have hf := fetch HS.out.1 HS.out.2.2.size HS.out.2.1 HW5.out.1 hA
          rw [hfl] at hf
          simp only [List.length_cons] at hlen
          exact ⟨L', acc, wr.heap.size, k1, n1, i1, re1, im1, a1, l1, c1, b1, rfl, rfl, rfl, hf.1, HS.out.2.2.trans hf.2, (by have := HF.out; rw [← hfold, occP_cons]; exact this), (by omega), fun x hx => hdep x (by simp [hx])⟩
theorem vars_any (t : Tm) (v : Value) (w : World) (ht : Lies No w t v) : Calls Try.prog 25 #[v] w (VOut (vars t) w) := by
  unfold vars
  cases hg : good t
  · simpa using vars_bad t v w ht hg
  · simpa using vars_good t v w ht hg
end Go.Proofs.Ytjgkgceigbimoaa.vrs
