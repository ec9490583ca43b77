/- slices.Insert over operators. -/
import Derived.Test.YtnpdipmkikakcaaOpG
import Derived.Lib.Overlaps
namespace Go.Proofs.Ytnpdipmkikakcaa.oph
open Go.ChangeShapes Go.WideShapes Go.ChangeAt Go.RowKit
open Go.Proofs.Ytnpdipmkikakcaa.kp Go.Proofs.Ytnpdipmkikakcaa.opa Go.Proofs.Ytnpdipmkikakcaa.opb Go.Proofs.Ytnpdipmkikakcaa.opc Go.Proofs.Ytnpdipmkikakcaa.opd Go.Proofs.Ytnpdipmkikakcaa.ope Go.Proofs.Ytnpdipmkikakcaa.opf Go.Proofs.Ytnpdipmkikakcaa.opg
set_option linter.unusedVariables false
theorem run_copy3 (w : World) (ty : TypeId) (g o dLen dCap : Nat) (a : Addr) (sLen sCap : Nat) (cur : Array Value) (t : TypeId) (cs : List Value) (k : Nat)
    (hg : w.heap[g]? = some (.cells cur t (0, 0))) (hk : min sLen dLen = k) (hn : cs.length = k * 3)
    (hsrc : ∀ j v, cs[j]? = some v → w.cell? (a.add j) = some v) (hfit : o + cs.length ≤ cur.size) (h1 : ∀ v ∈ cs, v.oneCell' = true) :
    (Builtin.copy_ #[22, 22] ty #[.slice (some ⟨g, o, none⟩) dLen dCap, .slice (some a) sLen sCap]).run Try.prog w =
      .ok (goInt k) (w.setRow g (cur.toList.take o ++ cs ++ cur.toList.drop (o + cs.length)).toArray) := by
  have hl := run_loadCells_list (P := Try.prog) w a cs hsrc
  have hst := run_storeCells_at Try.prog g o t cs 0 cur w hg (by simpa using hfit) h1
  have hu : Try.prog.underlying 22 = some (.slice 32) := Try.underlying22
  obtain ⟨i, hi1, hi2, hi3, hi4⟩ := info_o
  simp [Builtin.copy_, run_underlying hu, Builtin.lenOf, Builtin.firstCells, sizeOf, typeInfo, hi1, hi3, hk, ← hn, hl, hst]
theorem run_grow_zeros (w : World) (ty : TypeId) (b : Addr) (sLen sCap : Nat) (olds : List Value) (hlo : olds.length = sLen * 3) (holds : ∀ j v, olds[j]? = some v → w.cell? (b.add j) = some v)
    (n : Nat) (h0 : 0 < n) (hg : sCap < sLen + n) (hs : sLen + n ≤ 10000) :
    (Builtin.append_ #[22, 3] ty #[.slice (some b) sLen sCap, .int .i64 (n : Int)]).run Try.prog w =
      .ok (.slice (some ⟨w.heap.size, 0, none⟩) (sLen + n) (grownCap w (sLen + n) sCap 32))
        (w.drew.alloc (.cells (olds.toArray ++ Builtin.zeroCells ZV.cells n ++ Builtin.zeroCells ZV.cells (grownCap w (sLen + n) sCap 32 - (sLen + n))) 32)) := by
  obtain ⟨i, hi1, hi2, hi3, hi4⟩ := info_o
  have hu : Try.prog.underlying 22 = some (.slice 32) := Try.underlying22
  have hn : ¬ (sLen + n ≤ sCap) := by omega
  have hw : IntKind.i64.wrap (n : Int) = n := by rw [IntKind.wrap_i64]; omega
  have h63' : ¬ (9223372036854775807 < ((sLen : Int) + (n : Int))) := by omega
  have hfit := growslice_fits (bytes := 32) hg (by omega)
  have h48' : ¬ (281474976710656 < Builtin.nextslicecap (sLen + n) sCap * 32) := by omega
  have h48i : ¬ (281474976710656 < (n : Int) * 32) := by omega
  have hneg : ¬ ((n : Int) < 0) := by omega
  have hns : ¬ (n * 3 = 0) := by omega
  have hfo := run_firstCells_some (P := Try.prog) w.drew 3 sLen b sLen sCap olds hlo (by simpa using holds)
  simp [Builtin.append_, run_underlying hu, run_underlying Try.underlying3, sizeOf, typeInfo, zeroValue, hi1, hi2, hi3, hi4, asInt, asIntOf, hw, hn, hneg, hns, h63', h48', h48i, Question.forced, hfo, newRow, grownCap]
theorem overlaps_run (q g o n c : Nat) (w : World) (hne : q ≠ g) (cq cg : Array Value) (hq : w.heap[q]? = some (.cells cq 32 (0, 0))) (hg : w.heap[g]? = some (.cells cg 32 (0, 0))) (h0 : cg.size ≠ 0) :
    (callFunc 38 #[.slice (some ⟨q, 0, none⟩) 1 1, .slice (some ⟨g, o, none⟩) n c]).run Try.prog w = .ok (.value (.bool false)) w := by
  have hz : ∀ w, (Go.sizeOf 32).run Try.prog w = .ok 3 w := szT
  rw [run_callFunc_extern Try.func38 (by kernel_rfl) (by kernel_rfl) (by kernel_rfl) (e := Extern.SlicesOverlaps.overlaps #[22, 22] #[4]) (by kernel_rfl),
    Lib.run_overlaps_apart w 22 4 32 Try.underlying22 3 hz ⟨q, 0, none⟩ ⟨g, o, none⟩ 1 1 n c hne 32 32 cq.size cg.size (by simp [World.shape?, hq]) (by simp [World.shape?, hg]) h0 (by simp [World.frozen?, hq]) (by simp [World.frozen?, hq])]
  rfl
theorem add0 (b j : Nat) : (⟨b, 0, none⟩ : Addr).add j = ⟨b, j, none⟩ := by unfold Addr.add; split <;> simp_all
theorem addo (b o j : Nat) : (⟨b, o, none⟩ : Addr).add j = ⟨b, o + j, none⟩ := by unfold Addr.add; split <;> simp_all
theorem bk_cell {w : World} {g c : Nat} {l : List D} {sp : List Value} (h : Bk w g c l sp) (k : Nat) : ∀ j v, (flat (l.drop k))[j]? = some v → w.cell? ⟨g, k * 3 + j, none⟩ = some v := by
  intro j v hj
  have hjl := (List.getElem?_eq_some_iff.1 hj).1
  rw [flat_len, List.length_drop] at hjl
  rw [← flat_drop, List.getElem?_drop, ← List.getElem?_append_left (l₂ := sp) (by rw [flat_len]; omega)] at hj
  simp only [World.cell?, h.blk]
  simpa using hj
theorem box_at {w : World} {q : Nat} {o : D} (h : w.heap[q]? = some (.cells o.cs.toArray 32 (0, 0))) : ∀ j v, o.cs[j]? = some v → w.cell? ((⟨q, 0, none⟩ : Addr).add j) = some v := by
  intro j v hj
  rw [add0]
  simp only [World.cell?, h]
  simpa using hj
theorem cs_one (o : D) : ∀ v ∈ o.cs, v.oneCell' = true := by
  intro v hv
  simp only [D.cs, List.mem_cons, List.not_mem_nil, or_false] at hv
  rcases hv with rfl | rfl | rfl <;> rfl
theorem setRow_blk {w : World} {g : Nat} {cur : List Value} {t : TypeId} (h : w.heap[g]? = some (.cells cur.toArray t (0, 0))) (X : List Value) : (w.setRow g X.toArray).heap[g]? = some (.cells X.toArray t (0, 0)) := setRow_heap w g cur.toArray X.toArray t _ h
/-- there is room: what stands from i on goes one on, then o is laid -/
theorem ins_shift {w : World} {g c i q : Nat} {l : List D} {sp : List Value} {o : D} (h : Bk w g c l sp) (hi : i < l.length) (hc : l.length + 1 ≤ c) (hq : w.heap[q]? = some (.cells o.cs.toArray 32 (0, 0))) (hne : q ≠ g) (r r2 : Nat) (hr : r = l.length - i) (hr2 : r2 = l.length + 1 - i) :
    ∃ w1 w2, (∀ ty cc dd, (Builtin.copy_ #[22, 22] ty #[.slice (some ⟨g, (i + 1) * 3, none⟩) r cc, .slice (some ⟨g, i * 3, none⟩) r2 dd]).run Try.prog w = .ok (goInt r) w1) ∧
      (∀ ty cc, (Builtin.copy_ #[22, 22] ty #[.slice (some ⟨g, i * 3, none⟩) r2 cc, .slice (some ⟨q, 0, none⟩) 1 1]).run Try.prog w1 = .ok (goInt 1) w2) ∧ Rw w2 (some ⟨g, 0, none⟩) c (l.take i ++ o :: l.drop i) ∧ Keep (fun k => k = g) w w2 := by
  have hdl : (l.drop i).length = r := by rw [List.length_drop, hr]
  have hfl : (flat (l.drop i)).length = r * 3 := by rw [flat_len, hdl]
  have hsz := h.siz
  have hspl : sp.length = (c - l.length) * 3 := by have := hsz; rw [List.length_append, flat_len] at this; omega
  have r1 := fun ty cc dd => run_copy3 w ty g ((i + 1) * 3) r cc ⟨g, i * 3, none⟩ r2 dd (flat l ++ sp).toArray 32 (flat (l.drop i)) r h.blk (by omega) hfl (fun j v hj => by rw [addo]; exact bk_cell h i j v hj) (by simp only [List.size_toArray, hsz, hfl]; omega) (flat_one _)
  have e1 : (flat l ++ sp).toArray.toList.take ((i + 1) * 3) ++ flat (l.drop i) ++ (flat l ++ sp).toArray.toList.drop ((i + 1) * 3 + (flat (l.drop i)).length) = flat (l.take (i + 1) ++ l.drop i) ++ sp.drop 3 := by
    show (flat l ++ sp).take ((i + 1) * 3) ++ _ ++ (flat l ++ sp).drop _ = _
    rw [List.take_append_of_le_length (by rw [flat_len]; omega), flat_take, flat_append, hfl]
    congr 1
    rw [List.drop_append, List.drop_of_length_le (by rw [flat_len]; omega), List.nil_append, flat_len]
    congr 1; omega
  have hB1 := setRow_blk (g := g) h.blk (flat (l.take (i + 1) ++ l.drop i) ++ sp.drop 3)
  rw [e1] at r1
  obtain ⟨w1, hw1⟩ : ∃ w1, w1 = w.setRow g (flat (l.take (i + 1) ++ l.drop i) ++ sp.drop 3).toArray := ⟨_, rfl⟩
  rw [← hw1] at r1 hB1
  have k1 : Keep (fun k => k = g) w w1 := by rw [hw1]; exact setRow_keep _ _ _
  have hq1 : w1.heap[q]? = some (.cells o.cs.toArray 32 (0, 0)) := (k1.block q (Array.getElem?_eq_some_iff.1 hq).1 hne).trans hq
  have hl1 : (l.take (i + 1) ++ l.drop i).length = l.length + 1 := by rw [List.length_append, List.length_take, hdl]; omega
  have ho3 : o.cs.length = 1 * 3 := rfl
  have hti : (l.take i).length = i := by rw [List.length_take]; omega
  have r2' := fun ty cc => run_copy3 w1 ty g (i * 3) r2 cc ⟨q, 0, none⟩ 1 1 _ 32 o.cs 1 hB1 (by omega) rfl (box_at hq1) (by simp only [List.size_toArray, List.length_append, flat_len, List.length_drop, ho3, List.length_take]; omega) (cs_one o)
  have e2 : (flat (l.take (i + 1) ++ l.drop i) ++ sp.drop 3).toArray.toList.take (i * 3) ++ o.cs ++ (flat (l.take (i + 1) ++ l.drop i) ++ sp.drop 3).toArray.toList.drop (i * 3 + o.cs.length) = flat (l.take i ++ o :: l.drop i) ++ sp.drop 3 := by
    show (flat (l.take (i + 1) ++ l.drop i) ++ sp.drop 3).take (i * 3) ++ o.cs ++ (flat (l.take (i + 1) ++ l.drop i) ++ sp.drop 3).drop (i * 3 + 3) = _
    rw [List.take_append_of_le_length (by rw [flat_len]; omega), flat_take, List.drop_append_of_le_length (by rw [flat_len]; omega), show i * 3 + 3 = (i + 1) * 3 by omega, flat_drop]
    rw [List.take_append_of_le_length (by rw [List.length_take]; omega), List.take_take, Nat.min_eq_left (by omega)]
    have : (l.take (i + 1) ++ l.drop i).drop (i + 1) = l.drop i := by
      rw [List.drop_append, List.drop_of_length_le (by rw [List.length_take]; omega), List.nil_append, List.length_take, Nat.min_eq_left (by omega), Nat.sub_self, List.drop_zero]
    rw [this, flat_append, flat_cons]
    simp only [List.append_assoc]
  have hB2 := setRow_blk (g := g) hB1 (flat (l.take i ++ o :: l.drop i) ++ sp.drop 3)
  rw [e2] at r2'
  obtain ⟨w2, hw2⟩ : ∃ w2, w2 = w1.setRow g (flat (l.take i ++ o :: l.drop i) ++ sp.drop 3).toArray := ⟨_, rfl⟩
  rw [← hw2] at r2' hB2
  have k2 : Keep (fun k => k = g) w1 w2 := by rw [hw2]; exact setRow_keep _ _ _
  have hl2 : (l.take i ++ o :: l.drop i).length = l.length + 1 := by rw [List.length_append, List.length_cons, hti, hdl]; omega
  exact ⟨w1, w2, r1, r2', Bk.rw (sp := sp.drop 3) ⟨hB2, by omega, h.cap, by rw [List.length_append, flat_len, hl2, List.length_drop, hspl]; omega⟩, k1.trans k2 fun _ => Or.inl⟩
/-- there is none: a new row -/
theorem ins_grow {w : World} {g c i q : Nat} {l : List D} {sp : List Value} {o : D} (h : Bk w g c l sp) (hi : i < l.length) (hc : c < l.length + 1) (hl : l.length ≤ 1000) (hq : w.heap[q]? = some (.cells o.cs.toArray 32 (0, 0))) (r r2 : Nat) (hr : r = l.length - i) (hr2 : r2 = l.length + 1 - i) :
    ∃ w1 w2 w3 c2, (∀ ty, (Builtin.append_ #[22, 3] ty #[.slice (some ⟨g, 0, none⟩) i c, .int .i64 (r2 : Int)]).run Try.prog w = .ok (.slice (some ⟨w.heap.size, 0, none⟩) (l.length + 1 : Nat) c2) w1) ∧ l.length + 1 ≤ c2 ∧
      (∀ ty cc, (Builtin.copy_ #[22, 22] ty #[.slice (some ⟨w.heap.size, i * 3, none⟩) r2 cc, .slice (some ⟨q, 0, none⟩) 1 1]).run Try.prog w1 = .ok (goInt 1) w2) ∧
      (∀ ty cc dd, (Builtin.copy_ #[22, 22] ty #[.slice (some ⟨w.heap.size, (i + 1) * 3, none⟩) r cc, .slice (some ⟨g, i * 3, none⟩) r dd]).run Try.prog w2.drew = .ok (goInt r) w3) ∧ Rw w3 (some ⟨w.heap.size, 0, none⟩) c2 (l.take i ++ o :: l.drop i) ∧ Below w.heap.size w w3 := by
  have hdl : (l.drop i).length = r := by rw [List.length_drop, hr]
  have hfl : (flat (l.drop i)).length = r * 3 := by rw [flat_len, hdl]
  have hti : (l.take i).length = i := by rw [List.length_take]; omega
  have hft : (flat (l.take i)).length = i * 3 := by rw [flat_len, hti]
  have hgl := (Array.getElem?_eq_some_iff.1 h.blk).1
  have hql := (Array.getElem?_eq_some_iff.1 hq).1
  have r1 := fun ty => run_grow_zeros w ty ⟨g, 0, none⟩ i c (flat (l.take i)) hft (fun j v hj => by
    rw [add0]
    have hjl := (List.getElem?_eq_some_iff.1 hj).1
    have := bk_cell h 0 j v (by
      rw [List.drop_zero]
      rw [← flat_take, List.getElem?_take, if_pos (by omega)] at hj
      exact hj)
    rwa [Nat.zero_mul, Nat.zero_add] at this) r2 (by omega) (by omega) (by omega)
  rw [show i + r2 = l.length + 1 by omega] at r1
  obtain ⟨c2, hc2⟩ : ∃ c2, c2 = grownCap w (l.length + 1) c 32 := ⟨_, rfl⟩
  have hge := grownCap_ge w (l.length + 1) c 32
  have hle := grownCap_le_maxLen w (l.length + 1) c 32 (by unfold maxLen; omega)
  rw [← hc2] at r1 hge hle
  obtain ⟨Z, hZ⟩ : ∃ Z, Z = (Builtin.zeroCells ZV.cells r2).toList ++ (Builtin.zeroCells ZV.cells (c2 - (l.length + 1))).toList := ⟨_, rfl⟩
  have hZl : Z.length = (c2 - i) * 3 := by
    rw [hZ, List.length_append, Array.length_toList, Array.length_toList, size_zeroCells, size_zeroCells]
    have : ZV.cells.size = 3 := rfl
    rw [this]; omega
  have eZ : (flat (l.take i)).toArray ++ Builtin.zeroCells ZV.cells r2 ++ Builtin.zeroCells ZV.cells (c2 - (l.length + 1)) = (flat (l.take i) ++ Z).toArray := by
    apply Array.ext'; rw [hZ]; simp
  rw [eZ] at r1
  have b1 : Below w.heap.size w (w.drew.alloc (.cells (flat (l.take i) ++ Z).toArray 32)) := bt (bdr w) (ba _ _)
  have hB1 : (w.drew.alloc (.cells (flat (l.take i) ++ Z).toArray 32)).heap[w.heap.size]? = some (.cells (flat (l.take i) ++ Z).toArray 32 (0, 0)) := alloc_at w.drew _
  obtain ⟨w1, hw1⟩ : ∃ w1, w1 = w.drew.alloc (.cells (flat (l.take i) ++ Z).toArray 32) := ⟨_, rfl⟩
  rw [← hw1] at r1 hB1 b1
  obtain ⟨G, hG⟩ : ∃ G, G = w.heap.size := ⟨_, rfl⟩
  rw [← hG] at r1 hB1 ⊢
  have hq1 : w1.heap[q]? = some (.cells o.cs.toArray 32 (0, 0)) := (b1.block q hql).trans hq
  have ho3 : o.cs.length = 1 * 3 := rfl
  have r2' := fun ty cc => run_copy3 w1 ty G (i * 3) r2 cc ⟨q, 0, none⟩ 1 1 _ 32 o.cs 1 hB1 (by omega) rfl (box_at hq1) (by simp only [List.size_toArray, List.length_append, hft, hZl, ho3]; omega) (cs_one o)
  have e2 : (flat (l.take i) ++ Z).toArray.toList.take (i * 3) ++ o.cs ++ (flat (l.take i) ++ Z).toArray.toList.drop (i * 3 + o.cs.length) = flat (l.take i ++ [o]) ++ Z.drop 3 := by
    show (flat (l.take i) ++ Z).take (i * 3) ++ o.cs ++ (flat (l.take i) ++ Z).drop (i * 3 + 3) = _
    rw [← hft, List.take_left, ← List.drop_drop, List.drop_left, flat_append]
    simp [flat]
  have hB2 := setRow_blk (g := G) hB1 (flat (l.take i ++ [o]) ++ Z.drop 3)
  rw [e2] at r2'
  obtain ⟨w2, hw2⟩ : ∃ w2, w2 = w1.setRow G (flat (l.take i ++ [o]) ++ Z.drop 3).toArray := ⟨_, rfl⟩
  rw [← hw2] at r2' hB2
  have k2 : Keep (fun k => k = G) w1 w2 := by rw [hw2]; exact setRow_keep _ _ _
  have k12 := b1.trans (k2.to_below (B := w.heap.size) (fun k e => by omega) b1.size)
  have h2 : Bk w2 g c l sp := ⟨(k12.block g hgl).trans h.blk, h.len, h.cap, h.siz⟩
  have hfo : (flat (l.take i ++ [o])).length = (i + 1) * 3 := by rw [flat_len, List.length_append, hti]; rfl
  have r3' := fun ty cc dd => run_copy3 w2.drew ty G ((i + 1) * 3) r cc ⟨g, i * 3, none⟩ r dd (flat (l.take i ++ [o]) ++ Z.drop 3).toArray 32 (flat (l.drop i)) r hB2 (by omega) hfl (fun j v hj => by rw [addo]; exact bk_cell h2 i j v hj) (by simp only [List.size_toArray, List.length_append, hfo, List.length_drop, hZl, hfl]; omega) (flat_one _)
  have e3 : (flat (l.take i ++ [o]) ++ Z.drop 3).toArray.toList.take ((i + 1) * 3) ++ flat (l.drop i) ++ (flat (l.take i ++ [o]) ++ Z.drop 3).toArray.toList.drop ((i + 1) * 3 + (flat (l.drop i)).length) = flat (l.take i ++ o :: l.drop i) ++ Z.drop (3 + r * 3) := by
    show (flat (l.take i ++ [o]) ++ Z.drop 3).take ((i + 1) * 3) ++ flat (l.drop i) ++ (flat (l.take i ++ [o]) ++ Z.drop 3).drop ((i + 1) * 3 + (flat (l.drop i)).length) = _
    rw [← hfo, List.take_left, ← List.drop_drop, List.drop_left, List.drop_drop, hfl, ← flat_append]
    simp
  have hB3 : (w2.drew.setRow G (flat (l.take i ++ o :: l.drop i) ++ Z.drop (3 + r * 3)).toArray).heap[G]? = _ := setRow_blk (w := w2.drew) (g := G) hB2 (flat (l.take i ++ o :: l.drop i) ++ Z.drop (3 + r * 3))
  rw [e3] at r3'
  obtain ⟨w3, hw3⟩ : ∃ w3, w3 = w2.drew.setRow G (flat (l.take i ++ o :: l.drop i) ++ Z.drop (3 + r * 3)).toArray := ⟨_, rfl⟩
  rw [← hw3] at r3' hB3
  have k3 : Keep (fun k => k = G) w2.drew w3 := by rw [hw3]; exact setRow_keep _ _ _
  have hl2 : (l.take i ++ o :: l.drop i).length = l.length + 1 := by rw [List.length_append, List.length_cons, hti, hdl]; omega
  have hd2 : Below w.heap.size w w2.drew := k12.drew
  exact ⟨w1, w2, w3, c2, r1, hge, r2', r3', Bk.rw (sp := Z.drop (3 + r * 3)) ⟨hB3, by omega, hle, by rw [List.length_append, flat_len, hl2, List.length_drop, hZl]; omega⟩, by rw [hG]; exact hd2.trans (k3.to_below (fun k e => by omega) hd2.size)⟩
theorem cut_some {w : World} {a : Option Addr} {c i : Nat} {l : List D} (h : Rw w a c l) (hi : i ≤ l.length) : ∃ v, (∀ w, (Instr.slice 22 (.slice a l.length c) (some (.int .i64 (i : Int))) none none).run Try.prog w = .ok v w) ∧
    (∀ w, (Instr.sliceAt 22 (.slice a l.length c) (some (.int .i64 (i : Int))) none none).run Try.prog w = .ok v w) := by
  have hc := h.caps
  have r := fun w => run_slice_l (P := Try.prog) w 22 a l.length c und .i64 (i : Int) (by omega) (by omega)
  simp only [elT, szT, Result.andThen] at r
  exact ⟨_, r, fun w => by rw [run_sliceAt_slice _ _ _ _ _ _ und, r]⟩
/-- a copy whose run is known -/
theorem wp_copied {w : World} {ops : Array Oper} {rest : List Oper} {o : Oper} {a : Act} {Q : Exit → Act → World → Prop} (hgd : o.guard = none) (d s : Operand)
    (ho : o.op = .call { callee := .builtin .copy, args := #[d, s], argTypes := #[22, 22] }) (v u : Value) (hd : a.eval d = v) (hs : a.eval s = u) {v' : Value} {w' : World}
    (hr : (Builtin.copy_ #[22, 22] o.type #[v, u]).run Try.prog w = .ok v' w') (h : wpList Try.prog ops Q rest (a.put o.dst v') w') : wpList Try.prog ops Q (o :: rest) a w := by
  refine wpList_plain hgd fun K hK => ?_
  unfold Oper.wp execOp
  simp only [ho, resolve, invoke, builtin, Sem.run_bind, Sem.run_pure, Result.andThen_ok, List.map_toArray, List.map_cons, List.map_nil, hd, hs, hr]
  exact hK _ _ h
def Ins (w : World) (a : Option Addr) (c : Nat) (l l' : List D) (e : Ending) (w' : World) : Prop :=
  ∃ a' c', e = .returned (.slice a' l'.length c') ∧ Rw w' a' c' l' ∧ Keep (fun k => (Value.slice a l.length c).ownBlock = some k) w w' ∧ ∀ k, (Value.slice a' l'.length c').ownBlock = some k → (Value.slice a l.length c).ownBlock = some k ∨ w.heap.size ≤ k
set_option maxRecDepth 100000 in
set_option maxHeartbeats 4000000 in
theorem insert_any {w : World} {a : Option Addr} {c i q : Nat} {l : List D} {o : D} (h : Rw w a c l) (hi : i ≤ l.length) (hl : l.length ≤ 1000) (hq : w.heap[q]? = some (.cells o.cs.toArray 32 (0, 0))) (hne : (Value.slice a l.length c).ownBlock ≠ some q) :
    Calls Try.prog 33 #[.slice a l.length c, .int .i64 (i : Int), .slice (some ⟨q, 0, none⟩) 1 1] w (Ins w a c l (l.take i ++ o :: l.drop i)) := by
  obtain ⟨v1, s1, s2⟩ := cut_some h hi
  by_cases hin : i = l.length
  · subst hin
    obtain ⟨ti, hi1, hi2, hi3, hi4⟩ := info_o
    have HH := Lib.hid (And.intro h (And.intro hi1 (And.intro hi2 (And.intro hi3 (And.intro hi4 (And.intro hq hne))))))
    clear h hi1 hi2 hi3 hi4 hq hne
    go_enter Try.func33, Try.ntmps33
    go_wp2_with (at_builtin; refine wpList_append_own_at _ rfl (.tmp 23) (.tmp 24) 22 rfl 0 32 ti ZV 3 32 Try.underlying22 HH.out.2.1 HH.out.2.2.1 HH.out.2.2.2.1 HH.out.2.2.2.2.1 rfl (by decide) _ l.length (flat l) rfl HH.out.1 ⟨q, 0, none⟩ 1 1 o.cs rfl rfl (box_at HH.out.2.2.2.2.2.1) (cs_one o) ?ac1 ?ac2 ?ac3 ?ac4)
    case ac1 => unfold maxLen; omega
    case ac2 => omega
    case ac3 => omega
    case ac4 =>
      intro v' w' hown hgrow _ hat
      obtain ⟨a', c', rfl⟩ := kp.shape hown
      have H2 := Lib.hid (And.intro hown (And.intro hgrow hat))
      clear hown hgrow hat s1 s2
      go_wp2_with fail
      go_ret
      have el : l.take l.length ++ o :: l.drop l.length = l ++ [o] := by simp
      have ef : flat (l ++ [o]) = flat l ++ o.cs := by rw [flat_append, flat_cons]; simp [flat]
      rw [el]
      refine ⟨a', c', by simp, ?_, Keep.of_grown H2.out.2.1 fun k e => e, fun k e => ?_⟩
      · unfold Rw; rw [ef, List.length_append]; exact H2.out.1
      · rw [List.length_append] at e
        rcases H2.out.2.2 with g | g
        · exact Or.inl (g ▸ e)
        · have := g.symm.trans e; injection this with this; exact Or.inr (by omega)
  · obtain ⟨g, sp, rfl, hb⟩ := Rw.bk h (by omega)
    have hne' : q ≠ g := fun e => hne (by rw [e]; rfl)
    have hlen := hb.len
    have e1 : ((i + 1 : Nat) : Int) = (i : Int) + 1 := by omega
    have e2 : ((l.length + 1 : Nat) : Int) = (l.length : Int) + 1 := by omega
    have hn1 : ((i : Int) == (l.length : Int)) = false := by rw [beq_eq_false_iff_ne]; omega
    have hwr : IntKind.i64.wrap ((i : Int) + 1) = (i : Int) + 1 := by rw [IntKind.wrap_i64]; omega
    by_cases hc : c < l.length + 1
    · have hg : decide (((l.length : Int) + 1) > c) = true := decide_eq_true (by omega)
      obtain ⟨w1, w2, w3, c2, r1, hc2, r2', r3, hrw, hbl⟩ := ins_grow hb (by omega) hc hl hq (l.length - i) (l.length + 1 - i) rfl rfl
      have er : l.length + 1 - (i + 1) = l.length - i := by omega
      obtain ⟨ad2, t3, t3', had2⟩ := cut_lo w.heap.size (l.length + 1) c2 (i + 1) (by omega) hc2
      obtain ⟨ad3, t4, t4', had3⟩ := cut_lo g l.length c i (by omega) hlen
      obtain rfl := had2 (by omega)
      obtain rfl := had3 (by omega)
      rw [er, e1] at t3 t3'
      clear had2 had3 er
      obtain rfl : v1 = .slice (some ⟨g, i * 3, none⟩) (l.length - i) (c - i) := by have := (s1 w).symm.trans (t4 w); injection this
      have hz : ((l.length + 1 - i : Nat) : Int) = (l.length : Int) + 1 - i := by omega
      rw [hz] at r1
      have HH := Lib.hid (And.intro hrw hbl)
      clear h hb hq hne hrw hbl hc e1 e2 hz hne'
      go_enter Try.func33, Try.ntmps33
      go_wp2_with (at_builtin; refine Lib.wpList_append_run _ rfl _ _ _ _ rfl _ _ rfl rfl _ _ (r1 _) ?_)
      go_wp2_with (at_builtin; refine wp_copied rfl _ _ rfl _ _ rfl rfl (r2' _ _) ?_)
      go_still_tail 8, (by kernel_rfl)
      change wpList _ _ _ _ _ w2.drew
      go_wp2_with (at_builtin; refine wp_copied rfl _ _ rfl _ _ rfl rfl (r3 _ _ _) ?_)
      go_ret
      have el : (l.take i ++ o :: l.drop i).length = l.length + 1 := by rw [List.length_append, List.length_cons, List.length_take, List.length_drop]; omega
      refine ⟨some ⟨w.heap.size, 0, none⟩, c2, by rw [el]; rfl, HH.out.1, Keep.of_below HH.out.2, fun k e => ?_⟩
      simp [Value.ownBlock] at e; exact Or.inr (by omega)
    · have hg : decide (((l.length : Int) + 1) > c) = false := decide_eq_false (by omega)
      have hbd : Bk w.drew g c l sp := ⟨hb.blk, hb.len, hb.cap, hb.siz⟩
      obtain ⟨w1, w2, r1, r2, hrw, hk⟩ := ins_shift hbd (by omega) (by omega) hq hne' (l.length - i) (l.length + 1 - i) rfl rfl
      have hov : ∀ n' c', (callFunc 38 #[.slice (some ⟨q, 0, none⟩) 1 1, .slice (some ⟨g, (i + 1) * 3, none⟩) n' c']).run Try.prog w = .ok (.value (.bool false)) w := fun n' c' => overlaps_run q g _ n' c' w hne' _ _ hq hb.blk (by have := hb.siz; simp only [List.size_toArray]; omega)
      have HH := Lib.hid (And.intro hrw ((Keep.drew (fun k => k = g) w).trans hk fun _ => Or.inl))
      have hcc : l.length + 1 ≤ c := by omega
      have er : l.length + 1 - (i + 1) = l.length - i := by omega
      obtain ⟨ad2, t3, t3', had2⟩ := cut_lo g (l.length + 1) c (i + 1) (by omega) hcc
      obtain ⟨ad3, t4, t4', had3⟩ := cut_lo g (l.length + 1) c i (by omega) hcc
      obtain rfl := had2 (by omega)
      obtain rfl := had3 (by omega)
      rw [er, e1] at t3 t3'
      clear had2 had3 er
      clear h hb hq hne hrw hk hbd hc e1 e2 hne'
      go_enter Try.func33, Try.ntmps33
      go_wp2_with (simp only [hov])
      go_still_tail 8, (by kernel_rfl)
      change wpList _ _ _ _ _ w.drew
      go_wp2_with (at_builtin; refine wp_copied rfl _ _ rfl _ _ rfl rfl (r1 _ _ _) ?_)
      go_wp2_with (at_builtin; refine wp_copied rfl _ _ rfl _ _ rfl rfl (r2 _ _) ?_)
      go_ret
      have el : (l.take i ++ o :: l.drop i).length = l.length + 1 := by rw [List.length_append, List.length_cons, List.length_take, List.length_drop]; omega
      exact ⟨some ⟨g, 0, none⟩, c, by rw [el]; rfl, HH.out.1, HH.out.2.mono fun k e => by rw [e]; rfl, fun k e => Or.inl e⟩
end Go.Proofs.Ytnpdipmkikakcaa.oph
