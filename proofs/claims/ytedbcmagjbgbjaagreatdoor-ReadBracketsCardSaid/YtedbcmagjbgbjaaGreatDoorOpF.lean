/- slices.Clone over operators; All, Copy; the law's same. slices.Delete over operators. slices.Insert over operators. (*Table).add, Set. New. -/
import Derived.Test.YtedbcmagjbgbjaaGreatDoorOpB
import Derived.Maps.AppendAt
import Derived.Lib.AppendZeros
import Derived.Laws.CopyOwn
import Derived.Lib.Overlaps
import Derived.Deep.RegionWith
import Derived.Deep.Cut
import Derived.Deep.CutBlock
namespace Go.Proofs.YtedbcmagjbgbjaaGreatDoor.opf
open Go.ChangeShapes Go.WideShapes Go.ChangeAt Go.RowKit
open Go.Proofs.YtedbcmagjbgbjaaGreatDoor.kp Go.Proofs.YtedbcmagjbgbjaaGreatDoor.opa Go.Proofs.YtedbcmagjbgbjaaGreatDoor.opb Go.Proofs.YtedbcmagjbgbjaaGreatDoor.opc Go.Proofs.YtedbcmagjbgbjaaGreatDoor.opd Go.Proofs.YtedbcmagjbgbjaaGreatDoor.ope
set_option linter.unusedVariables false
def NewRow (w : World) (l : List D) (e : Ending) (w' : World) : Prop :=
  ∃ a c, e = .returned (.slice a l.length c) ∧ Rw w' a c l ∧ Below w.heap.size w w' ∧ ∀ k, (Value.slice a l.length c).ownBlock = some k → w.heap.size ≤ k
theorem eq_nil (w : World) : Sem.run Tryz.prog (binOp BinOp.eql 62 (.slice none 0 0) (.slice none 0 0)) w = .ok (.bool true) w := by kernel_rfl
theorem eq_some (g n c : Nat) (w : World) : Sem.run Tryz.prog (binOp BinOp.eql 62 (.slice (some ⟨g, 0, none⟩) n c) (.slice none 0 0)) w = .ok (.bool false) w := by kernel_rfl
def NewT (w : World) (l : List D) (e : Ending) (w' : World) : Prop := ∃ p, e = .returned (.pointer (some ⟨p, 0, none⟩)) ∧ w.heap.size ≤ p ∧ Made w l p w'
set_option maxRecDepth 100000 in
set_option maxHeartbeats 4000000 in
theorem clone_any {a : Option Addr} {c : Nat} {l : List D} (w : World) (h : Rw w a c l) (hl : l.length ≤ 1000) :
    Calls Tryz.prog 54 #[.slice a l.length c] w (NewRow w l) := by
  obtain ⟨i, hi1, hi2, hi3, hi4⟩ := info_o
  have hcap := h.caps
  rcases h.2 with ⟨e, h0⟩ | ⟨g, cap, cur, hv, hg0, hgc, h1, h2, h3, h4⟩
  · injection e with e1 e2 e3
    subst e1; subst e3
    have hl0 : l = [] := List.eq_nil_of_length_eq_zero h0
    subst hl0
    have H := Lib.hid h
    clear h hi1 hi2 hi3 hi4 e2 hcap
    have q := eq_nil
    go_enter Tryz.func54, Tryz.ntmps54
    go_wp2_with fail
    go_ret
    exact ⟨none, 0, rfl, H.out, br _, fun k e => by cases e⟩
  · injection hv with e1 e2 e3
    subst e1; subst e3
    have HI := Lib.hid (And.intro hi1 (And.intro hi2 (And.intro hi3 hi4)))
    have H := Lib.hid h
    clear h hi1 hi2 hi3 hi4 e2 h2 h3 h4 hgc hg0
    have q := eq_some g l.length c
    go_enter Tryz.func54, Tryz.ntmps54
    go_wp2_with (at_builtin; refine wpList_append_own_at _ rfl (.tmp 5) (.tmp 6) 62 rfl w.heap.size 45 i ZV 3 32 Tryz.underlying62 HI.out.1 HI.out.2.1 HI.out.2.2.1 HI.out.2.2.2 rfl (by decide) _ 0 [] rfl (World.ownsRow_made w #[] 0 (Nat.le_refl _) (by simp [maxLen]) rfl) ⟨g, 0, none⟩ l.length c (flat l) rfl (flat_len l) ?ac0 (flat_one l) ?ac1 ?ac2 ?ac3 ?ac4)
    case ac0 =>
      intro j u hj
      have h5 := H.out.below (ba w (.cells #[] 45))
      have e : (⟨g, 0, none⟩ : Addr).add j = ⟨g, j, none⟩ := by unfold Addr.add; split <;> simp_all
      have hjl : j < l.length * 3 := by have := (List.getElem?_eq_some_iff.1 hj).1; rwa [flat_len] at this
      rw [e, World.ownsRow.cellAt h5 j hjl]; exact hj
    case ac1 => unfold maxLen; omega
    case ac2 => omega
    case ac3 => rw [alloc_size]; omega
    case ac4 =>
      intro v' w' hown hgrow _ _
      obtain ⟨a', c', rfl⟩ := kp.shape hown
      have hb : Below w.heap.size w w' := (ba w (.cells #[] 45)).trans ((Keep.of_grown (F := fun k => k = w.heap.size) hgrow fun k e => by simp [Value.ownBlock] at e; exact e.symm).to_below (fun k e => by omega) (by rw [alloc_size]; omega))
      have HH := Lib.hid (And.intro hown hb)
      clear hown hgrow hb
      go_wp2_with fail
      go_ret
      refine ⟨a', c', by simp, ?_, HH.out.2, fun k e => (World.ownsRow.lt HH.out.1 k e).1⟩
      have ho := HH.out.1
      obtain ⟨q1, q2⟩ := ho
      refine ⟨q1, ?_⟩
      rcases q2 with q2 | ⟨g', cap', cur', e, _, r⟩
      · exact Or.inl q2
      · exact Or.inr ⟨g', cap', cur', e, Nat.zero_le _, r⟩
theorem all_nil (w : World) : Calls Tryz.prog 31 #[.pointer none] w fun e w' => e = .returned (.slice none 0 0) ∧ w = w' := by
  go_enter Tryz.func31, Tryz.ntmps31; go_wp2; go_ret; exact ⟨rfl, rfl⟩
set_option maxRecDepth 100000 in
theorem all_any {p : Nat} {F : Nat → Prop} {l : List D} (w : World) (h : Tb w p F l) (hl : l.length ≤ 1000) :
    Calls Tryz.prog 31 #[.pointer (some ⟨p, 0, none⟩)] w (NewRow w l) := by
  obtain ⟨a, c, e0, _, hr⟩ := h.open_
  have HR := Lib.hid hr
  clear h hr
  go_enter Tryz.func31, Tryz.ntmps31
  go_wp2_with fail
  refine (clone_any _ HR.out hl).mono ?_
  rintro e w4 ⟨a', c', rfl, h4⟩
  have H4 := Lib.hid h4
  clear h4
  go_wp2_with fail
  go_ret
  exact ⟨a', c', rfl, H4.out⟩
end Go.Proofs.YtedbcmagjbgbjaaGreatDoor.opf
namespace Go.Proofs.YtedbcmagjbgbjaaGreatDoor.opg
open Go.ChangeShapes Go.WideShapes Go.ChangeAt Go.RowKit
open Go.Proofs.YtedbcmagjbgbjaaGreatDoor.kp Go.Proofs.YtedbcmagjbgbjaaGreatDoor.opa Go.Proofs.YtedbcmagjbgbjaaGreatDoor.opb Go.Proofs.YtedbcmagjbgbjaaGreatDoor.opc Go.Proofs.YtedbcmagjbgbjaaGreatDoor.opd Go.Proofs.YtedbcmagjbgbjaaGreatDoor.ope Go.Proofs.YtedbcmagjbgbjaaGreatDoor.opf
set_option linter.unusedVariables false
set_option maxRecDepth 100000
theorem und : Tryz.prog.underlying 62 = some (.slice (Tryz.prog.elem 62)) := by rw [elT]; exact Tryz.underlying62
/-- a row's block -/
structure Bk (w : World) (g c : Nat) (l : List D) (sp : List Value) : Prop where
  blk : w.heap[g]? = some (.cells (flat l ++ sp).toArray 45 (0, 0))
  len : l.length ≤ c
  cap : c ≤ maxLen
  siz : (flat l ++ sp).length = c * 3
theorem Rw.bk {w : World} {a : Option Addr} {c : Nat} {l : List D} (h : Rw w a c l) (hl : 0 < l.length) : ∃ g sp, a = some ⟨g, 0, none⟩ ∧ Bk w g c l sp := by
  rcases h.2 with ⟨e, h0⟩ | ⟨g, cap, cur, hv, hg0, hgc, h1, h2, h3, h4⟩
  · omega
  injection hv with e1 e2 e3
  subst e1; subst e3
  have e : flat l ++ cur.toList.drop (l.length * 3) = cur.toList := by rw [← h4, List.take_append_drop]
  exact ⟨g, cur.toList.drop (l.length * 3), rfl, by rw [e]; exact hgc, h1, h2, by rw [e]; simpa using h3⟩
theorem Bk.rw {w : World} {g c : Nat} {l : List D} {sp : List Value} (h : Bk w g c l sp) : Rw w (some ⟨g, 0, none⟩) c l :=
  ⟨flat_len l, Or.inr ⟨g, c, _, rfl, Nat.zero_le _, h.blk, h.len, h.cap, by simpa using h.siz, by
    show (flat l ++ sp).take (l.length * 3) = flat l
    rw [← flat_len l, List.take_left]⟩⟩
/-- s[:k] -/
theorem cut_hi (g n c k : Nat) (hk : k ≤ c) : (∀ w, (Instr.slice 62 (.slice (some ⟨g, 0, none⟩) n c) none (some (.int .i64 (k : Int))) none).run Tryz.prog w = .ok (.slice (some ⟨g, 0, none⟩) k c) w) ∧
    (∀ w, (Instr.sliceAt 62 (.slice (some ⟨g, 0, none⟩) n c) none (some (.int .i64 (k : Int))) none).run Tryz.prog w = .ok (.slice (some ⟨g, 0, none⟩) k c) w) := by
  have r : ∀ w, (Instr.slice 62 (.slice (some ⟨g, 0, none⟩) n c) none (some (.int .i64 (k : Int))) none).run Tryz.prog w = .ok (.slice (some ⟨g, 0, none⟩) k c) w := fun w => by
    rw [run_slice_h w 62 _ _ _ und _ _ (by omega) (by omega), elT, szT]
    simp [Result.andThen, sliced, Addr.add]
  exact ⟨r, fun w => by rw [run_sliceAt_slice _ _ _ _ _ _ und, r]⟩
/-- s[k:] -/
theorem cut_lo (g n c k : Nat) (hk : k ≤ n) (hn : n ≤ c) : ∃ ad, (∀ w, (Instr.slice 62 (.slice (some ⟨g, 0, none⟩) n c) (some (.int .i64 (k : Int))) none none).run Tryz.prog w = .ok (.slice (some ad) (n - k) (c - k)) w) ∧
    (∀ w, (Instr.sliceAt 62 (.slice (some ⟨g, 0, none⟩) n c) (some (.int .i64 (k : Int))) none none).run Tryz.prog w = .ok (.slice (some ad) (n - k) (c - k)) w) ∧ (k < c → ad = ⟨g, k * 3, none⟩) := by
  obtain ⟨ad, had⟩ : ∃ ad, ad = (if k = c then (⟨g, 0, none⟩ : Addr) else (⟨g, 0, none⟩ : Addr).add (k * 3)) := ⟨_, rfl⟩
  have r : ∀ w, (Instr.slice 62 (.slice (some ⟨g, 0, none⟩) n c) (some (.int .i64 (k : Int))) none none).run Tryz.prog w = .ok (.slice (some ad) (n - k) (c - k)) w := fun w => by
    rw [run_slice_l w 62 _ _ _ und _ _ (by omega) (by omega), elT, szT, had]
    by_cases e : k = c
    · simp [Result.andThen, sliced, e]
    · simp [Result.andThen, sliced, e, Ne.symm e]
  refine ⟨ad, r, fun w => by rw [run_sliceAt_slice _ _ _ _ _ _ und, r], fun q => ?_⟩
  rw [had, if_neg (by omega)]
  have := addm g 0 k
  rw [Nat.zero_mul, Nat.zero_add] at this
  exact this
theorem cut_lh (g n c k m : Nat) (hk : k ≤ m) (hm : m ≤ c) (hkc : k < c) : (∀ w, (Instr.slice 62 (.slice (some ⟨g, 0, none⟩) n c) (some (.int .i64 (k : Int))) (some (.int .i64 (m : Int))) none).run Tryz.prog w = .ok (.slice (some ⟨g, k * 3, none⟩) (m - k) (c - k)) w) ∧
    (∀ w, (Instr.sliceAt 62 (.slice (some ⟨g, 0, none⟩) n c) (some (.int .i64 (k : Int))) (some (.int .i64 (m : Int))) none).run Tryz.prog w = .ok (.slice (some ⟨g, k * 3, none⟩) (m - k) (c - k)) w) := by
  have e := addm g 0 k
  rw [Nat.zero_mul, Nat.zero_add] at e
  have r : ∀ w, (Instr.slice 62 (.slice (some ⟨g, 0, none⟩) n c) (some (.int .i64 (k : Int))) (some (.int .i64 (m : Int))) none).run Tryz.prog w = .ok (.slice (some ⟨g, k * 3, none⟩) (m - k) (c - k)) w := fun w => by
    rw [run_slice_lh w 62 _ _ _ und _ _ _ _ (by omega) (by omega) (by omega), elT, szT]
    simp [Result.andThen, sliced, e, show ¬ c = k by omega]
  exact ⟨r, fun w => by rw [run_sliceAt_slice _ _ _ _ _ _ und, r]⟩
theorem cut_lhm (g n c k : Nat) (hk : k < n) (hn : n ≤ c) : ∃ v, (∀ w, (Instr.slice 62 (.slice (some ⟨g, 0, none⟩) n c) (some (.int .i64 (k : Int))) (some (.int .i64 ((k : Int) + 1))) (some (.int .i64 (n : Int)))).run Tryz.prog w = .ok v w) ∧
    (∀ w, (Instr.sliceAt 62 (.slice (some ⟨g, 0, none⟩) n c) (some (.int .i64 (k : Int))) (some (.int .i64 ((k : Int) + 1))) (some (.int .i64 (n : Int)))).run Tryz.prog w = .ok v w) := by
  have r := fun w => run_slice_lhm (P := Tryz.prog) w 62 (some ⟨g, 0, none⟩) n c und .i64 .i64 .i64 (k : Int) ((k : Int) + 1) (n : Int) (by omega) (by omega) (by omega) (by omega)
  simp only [elT, szT, Result.andThen] at r
  exact ⟨_, r, fun w => by rw [run_sliceAt_slice _ _ _ _ _ _ und, r]⟩
theorem zc (m : Nat) : (Builtin.zeroCells ZV.cells m).toList = flat (List.replicate m ⟨[], 0, 0⟩) := by
  apply List.ext_getElem?
  intro j
  have hl : (flat (List.replicate m (⟨[], 0, 0⟩ : D))).length = m * 3 := by rw [flat_len, List.length_replicate]
  have hm : (Builtin.zeroCells ZV.cells m).toList.length = m * 3 := by rw [Array.length_toList, size_zeroCells]; rfl
  by_cases hj : j < m * 3
  · obtain ⟨q, i, hi, rfl⟩ : ∃ q i, i < 3 ∧ j = q * 3 + i := ⟨j / 3, j % 3, Nat.mod_lt _ (by omega), by omega⟩
    have h1 := flat_at (A := List.replicate m (⟨[], 0, 0⟩ : D)) (m := q) (by rw [List.length_replicate]; omega) [] hi
    rw [List.append_nil] at h1
    rw [h1, List.getElem_replicate]
    have e : (q * 3 + i) % 3 = i := by omega
    have hr : (Builtin.zeroCells ZV.cells m)[q * 3 + i]? = some (ZV.cells[i]!) := by
      unfold Builtin.zeroCells
      have hz : ZV.cells.size = 3 := rfl
      rw [Array.getElem?_map, Array.getElem?_range, hz, if_pos hj, Option.map_some, e]
    have hr2 : (Builtin.zeroCells ZV.cells m).toList[q * 3 + i]? = some (ZV.cells[i]!) := (Array.getElem?_toList).trans hr
    rw [hr2]
    match i, hi with
    | 0, _ => rfl
    | 1, _ => rfl
    | 2, _ => rfl
    | i + 3, hi => omega
  · rw [List.getElem?_eq_none (by omega), List.getElem?_eq_none (by omega)]
theorem run_clear3 (w : World) (ty : TypeId) (g o c : Nat) (cur : Array Value) (t : TypeId)
    (hg : w.heap[g]? = some (.cells cur t (0, 0))) (hfit : o + 3 ≤ cur.size) :
    (Builtin.clear_ #[62] ty #[.slice (some ⟨g, o, none⟩) 1 c]).run Tryz.prog w =
      .ok (.tuple #[]) (w.setRow g (cur.toList.take o ++ D.cs ⟨[], 0, 0⟩ ++ cur.toList.drop (o + 3)).toArray) := by
  have hst := run_storeCells_at Tryz.prog g o t (D.cs ⟨[], 0, 0⟩) 0 cur w hg (by simpa [D.cs] using hfit) (fun v hv => by
    simp only [D.cs, List.mem_cons, List.not_mem_nil, or_false] at hv
    rcases hv with rfl | rfl | rfl <;> rfl)
  have hz : ∀ w, (zeroValue 45).run Tryz.prog w = .ok ZV w := zero_run
  have hu : Tryz.prog.underlying 62 = some (.slice 45) := Tryz.underlying62
  have z1 : (Builtin.zeroCells ZV.cells 1).toList = D.cs ⟨[], 0, 0⟩ := by rw [zc]; rfl
  have hl : (D.cs ⟨[], 0, 0⟩).length = 3 := rfl
  rw [Nat.add_zero, hl] at hst
  simp only [Builtin.clear_]
  simp [run_underlying hu, hz, z1, hst]
theorem setRow_keep (w : World) (g : Nat) (cs : Array Value) : Keep (fun k => k = g) w (w.setRow g cs) := ⟨rfl, rfl, rfl, by simp [World.setRow], fun k _ hk => setRow_other w g k _ hk⟩
/-- the two steps of Delete upon a row -/
theorem del_run {w : World} {g c m q : Nat} {l : List D} {sp : List Value} (h : Bk w g c l sp) (hm : m ≤ q) (hq : l.length = q + 1) (ad : Addr) (had : m + 1 < c → ad = ⟨g, (m + 1) * 3, none⟩) (r cr : Nat) (hr : r = l.length - (m + 1)) :
    ∃ w1 w2, (∀ ty, (Builtin.append_ #[62, 62] ty #[.slice (some ⟨g, 0, none⟩) m c, .slice (some ad) r cr]).run Tryz.prog w = .ok (.slice (some ⟨g, 0, none⟩) q c) w1) ∧
      (∀ ty cc, (Builtin.clear_ #[62] ty #[.slice (some ⟨g, q * 3, none⟩) 1 cc]).run Tryz.prog w1 = .ok (.tuple #[]) w2) ∧ Rw w2 (some ⟨g, 0, none⟩) c (l.take m ++ l.drop (m + 1)) ∧ Keep (fun k => k = g) w w2 := by
  obtain ⟨i, hi1, hi2, hi3, hi4⟩ := info_o
  have hu : Tryz.prog.underlying 62 = some (.slice 45) := Tryz.underlying62
  have hlen := h.len
  have hrl : (l.drop (m + 1)).length = r := by rw [List.length_drop, hr]
  have hnl : (flat (l.drop (m + 1))).length = r * 3 := by rw [flat_len, hrl]
  have hnews : ∀ j u, (flat (l.drop (m + 1)))[j]? = some u → w.cell? (ad.add j) = some u := by
    intro j u hj
    have hjl : j < r * 3 := by have := (List.getElem?_eq_some_iff.1 hj).1; rwa [hnl] at this
    rw [had (by omega)]
    have e : (⟨g, (m + 1) * 3, none⟩ : Addr).add j = ⟨g, (m + 1) * 3 + j, none⟩ := by unfold Addr.add; split <;> simp_all
    rw [e, ← flat_drop, List.getElem?_drop] at *
    simp only [World.cell?, h.blk]
    rw [← List.getElem?_append_left (l₂ := sp) (by rw [flat_len]; omega)] at hj
    simpa using hj
  have r1 := fun ty => run_append_room (P := Tryz.prog) w 62 ty 45 i hu hi1 g m c (flat l ++ sp).toArray h.blk ad r cr (flat (l.drop (m + 1))) (by rw [hnl, hi3]) hnews (flat_one _) (by omega) (by rw [hnl, hi3]; have := h.siz; simp only [List.size_toArray, this]; omega)
  rw [hi3, show m + r = q by omega] at r1
  have hB1 := setRow_heap w g (flat l ++ sp).toArray ((flat l ++ sp).toArray.toList.take (m * 3) ++ flat (l.drop (m + 1)) ++ (flat l ++ sp).toArray.toList.drop (m * 3 + (flat (l.drop (m + 1))).length)).toArray 45 _ h.blk
  obtain ⟨w1, hw1⟩ : ∃ w1, w1 = w.setRow g ((flat l ++ sp).toArray.toList.take (m * 3) ++ flat (l.drop (m + 1)) ++ (flat l ++ sp).toArray.toList.drop (m * 3 + (flat (l.drop (m + 1))).length)).toArray := ⟨_, rfl⟩
  rw [← hw1] at r1 hB1
  have k1 : Keep (fun k => k = g) w w1 := by rw [hw1]; exact setRow_keep _ _ _
  have e1 : (flat l ++ sp).toArray.toList.take (m * 3) ++ flat (l.drop (m + 1)) ++ (flat l ++ sp).toArray.toList.drop (m * 3 + (flat (l.drop (m + 1))).length) = flat (l.take m ++ l.drop (m + 1)) ++ (flat l ++ sp).drop (q * 3) := by
    show (flat l ++ sp).take (m * 3) ++ _ ++ (flat l ++ sp).drop _ = _
    rw [List.take_append_of_le_length (by rw [flat_len]; omega), flat_take, flat_append, hnl]
    congr 2; omega
  rw [e1] at hB1
  have hql : (flat (l.take m ++ l.drop (m + 1))).length = q * 3 := by rw [flat_len, List.length_append, List.length_take, hrl]; congr 1; omega
  have hdl : ((flat l ++ sp).drop (q * 3)).length = (c - q) * 3 := by rw [List.length_drop, h.siz]; omega
  have r2 := fun ty cc => run_clear3 w1 ty g (q * 3) cc _ 45 hB1 (by simp only [List.size_toArray, List.length_append, hql, hdl]; omega)
  have hB2 := setRow_heap w1 g _ ((flat (l.take m ++ l.drop (m + 1)) ++ (flat l ++ sp).drop (q * 3)).toArray.toList.take (q * 3) ++ D.cs ⟨[], 0, 0⟩ ++ (flat (l.take m ++ l.drop (m + 1)) ++ (flat l ++ sp).drop (q * 3)).toArray.toList.drop (q * 3 + 3)).toArray 45 _ hB1
  obtain ⟨w2, hw2⟩ : ∃ w2, w2 = w1.setRow g ((flat (l.take m ++ l.drop (m + 1)) ++ (flat l ++ sp).drop (q * 3)).toArray.toList.take (q * 3) ++ D.cs ⟨[], 0, 0⟩ ++ (flat (l.take m ++ l.drop (m + 1)) ++ (flat l ++ sp).drop (q * 3)).toArray.toList.drop (q * 3 + 3)).toArray := ⟨_, rfl⟩
  rw [← hw2] at r2 hB2
  have k2 : Keep (fun k => k = g) w1 w2 := by rw [hw2]; exact setRow_keep _ _ _
  have e2 : (flat (l.take m ++ l.drop (m + 1)) ++ (flat l ++ sp).drop (q * 3)).toArray.toList.take (q * 3) ++ D.cs ⟨[], 0, 0⟩ ++ (flat (l.take m ++ l.drop (m + 1)) ++ (flat l ++ sp).drop (q * 3)).toArray.toList.drop (q * 3 + 3) = flat (l.take m ++ l.drop (m + 1)) ++ (D.cs ⟨[], 0, 0⟩ ++ (flat l ++ sp).drop (q * 3 + 3)) := by
    show (flat (l.take m ++ l.drop (m + 1)) ++ (flat l ++ sp).drop (q * 3)).take (q * 3) ++ D.cs ⟨[], 0, 0⟩ ++ (flat (l.take m ++ l.drop (m + 1)) ++ (flat l ++ sp).drop (q * 3)).drop (q * 3 + 3) = _
    rw [← hql, List.take_left, List.append_assoc]
    congr 2
    rw [← List.drop_drop, List.drop_left, List.drop_drop]
  rw [e2] at hB2
  refine ⟨w1, w2, r1, r2, Bk.rw (sp := D.cs ⟨[], 0, 0⟩ ++ (flat l ++ sp).drop (q * 3 + 3)) ⟨hB2, ?_, h.cap, ?_⟩, k1.trans k2 fun _ => Or.inl⟩
  · rw [List.length_append, List.length_take, hrl]; omega
  · rw [List.length_append, hql, List.length_append, List.length_drop, h.siz]; simp [D.cs]; omega
set_option maxRecDepth 100000 in
set_option maxHeartbeats 4000000 in
theorem delete_any {w : World} {a : Option Addr} {c m : Nat} {l : List D} (h : Rw w a c l) (hm : m < l.length) (hl : l.length ≤ 1000) :
    Calls Tryz.prog 49 #[.slice a l.length c, .int .i64 (m : Int), .int .i64 ((m : Int) + 1)] w fun e w' => e = .returned (.slice a (l.length - 1 : Nat) c) ∧ Rw w' a c (l.take m ++ l.drop (m + 1)) ∧ Keep (fun k => (Value.slice a l.length c).ownBlock = some k) w w' := by
  obtain ⟨g, sp, rfl, hb⟩ := Rw.bk h (by omega)
  obtain ⟨q, hq⟩ : ∃ q, q + 1 = l.length := ⟨l.length - 1, by omega⟩
  obtain ⟨v1, s1, s2⟩ := cut_lhm g l.length c m hm hb.len
  have s3 := (cut_hi g l.length c m (by have := hb.len; omega)).1
  obtain ⟨ad, s5, s6, had⟩ := cut_lo g l.length c (m + 1) (by omega) hb.len
  obtain ⟨r, hr⟩ : ∃ r, r = l.length - (m + 1) := ⟨_, rfl⟩
  obtain ⟨cr, hcr⟩ : ∃ cr, cr = c - (m + 1) := ⟨_, rfl⟩
  have s7 := (cut_lh g q c q l.length (by omega) hb.len (by have := hb.len; omega)).1
  rw [← hr, ← hcr] at s5 s6
  have e1 : ((m + 1 : Nat) : Int) = (m : Int) + 1 := by omega
  rw [e1] at s5 s6
  have e2 : l.length - q = 1 := by omega
  rw [e2] at s7
  have hne : ((m : Int) == (m : Int) + 1) = false := by rw [beq_eq_false_iff_ne]; omega
  have hlr : l.length ≤ 1000 := hl
  have HH := Lib.hid (And.intro hb (And.intro hq (And.intro had (And.intro hr hcr))))
  clear h hb hq had hr hcr e1 e2
  go_enter Tryz.func49, Tryz.ntmps49
  go_wp2_with fail
  go_still_tail 6, (by kernel_rfl)
  change wpList _ _ _ _ _ w.drew
  have hbd : Bk w.drew g c l sp := ⟨HH.out.1.blk, HH.out.1.len, HH.out.1.cap, HH.out.1.siz⟩
  obtain ⟨w1, w2, r1, r2, hr, hk⟩ := del_run hbd (m := m) (q := q) (by have := HH.out.2.1; omega) HH.out.2.1.symm ad HH.out.2.2.1 r cr HH.out.2.2.2.1
  have H2 := Lib.hid (And.intro hr ((Keep.drew (fun k => k = g) w).trans hk fun _ => Or.inl))
  clear hbd hr hk
  go_wp2_with (at_builtin; refine Lib.wpList_append_run _ rfl _ _ _ _ rfl _ _ rfl rfl _ _ (r1 _) ?_)
  go_ret
  have hlq : l.length - 1 = q := by have := HH.out.2.1; omega
  exact ⟨by rw [hlq]; rfl, H2.out.1, H2.out.2.mono fun k e => by rw [e]; rfl⟩
end Go.Proofs.YtedbcmagjbgbjaaGreatDoor.opg
namespace Go.Proofs.YtedbcmagjbgbjaaGreatDoor.oph
open Go.ChangeShapes Go.WideShapes Go.ChangeAt Go.RowKit
open Go.Proofs.YtedbcmagjbgbjaaGreatDoor.kp Go.Proofs.YtedbcmagjbgbjaaGreatDoor.opa Go.Proofs.YtedbcmagjbgbjaaGreatDoor.opb Go.Proofs.YtedbcmagjbgbjaaGreatDoor.opc Go.Proofs.YtedbcmagjbgbjaaGreatDoor.opd Go.Proofs.YtedbcmagjbgbjaaGreatDoor.ope Go.Proofs.YtedbcmagjbgbjaaGreatDoor.opf Go.Proofs.YtedbcmagjbgbjaaGreatDoor.opg
set_option linter.unusedVariables false
set_option maxRecDepth 100000
theorem run_copy3 (w : World) (ty : TypeId) (g o dLen dCap : Nat) (a : Addr) (sLen sCap : Nat) (cur : Array Value) (t : TypeId) (cs : List Value) (k : Nat)
    (hg : w.heap[g]? = some (.cells cur t (0, 0))) (hk : min sLen dLen = k) (hn : cs.length = k * 3)
    (hsrc : ∀ j v, cs[j]? = some v → w.cell? (a.add j) = some v) (hfit : o + cs.length ≤ cur.size) (h1 : ∀ v ∈ cs, v.oneCell' = true) :
    (Builtin.copy_ #[62, 62] ty #[.slice (some ⟨g, o, none⟩) dLen dCap, .slice (some a) sLen sCap]).run Tryz.prog w =
      .ok (goInt k) (w.setRow g (cur.toList.take o ++ cs ++ cur.toList.drop (o + cs.length)).toArray) := by
  have hl := run_loadCells_list (P := Tryz.prog) w a cs hsrc
  have hst := run_storeCells_at Tryz.prog g o t cs 0 cur w hg (by simpa using hfit) h1
  have hu : Tryz.prog.underlying 62 = some (.slice 45) := Tryz.underlying62
  obtain ⟨i, hi1, hi2, hi3, hi4⟩ := info_o
  simp [Builtin.copy_, run_underlying hu, Builtin.lenOf, Builtin.firstCells, sizeOf, typeInfo, hi1, hi3, hk, ← hn, hl, hst]
theorem run_grow_zeros (w : World) (ty : TypeId) (b : Addr) (sLen sCap : Nat) (olds : List Value) (hlo : olds.length = sLen * 3) (holds : ∀ j v, olds[j]? = some v → w.cell? (b.add j) = some v)
    (n : Nat) (h0 : 0 < n) (hg : sCap < sLen + n) (hs : sLen + n ≤ 10000) :
    (Builtin.append_ #[62, 3] ty #[.slice (some b) sLen sCap, .int .i64 (n : Int)]).run Tryz.prog w =
      .ok (.slice (some ⟨w.heap.size, 0, none⟩) (sLen + n) (grownCap w (sLen + n) sCap 45))
        (w.drew.alloc (.cells (olds.toArray ++ Builtin.zeroCells ZV.cells n ++ Builtin.zeroCells ZV.cells (grownCap w (sLen + n) sCap 45 - (sLen + n))) 45)) := by
  obtain ⟨i, hi1, hi2, hi3, hi4⟩ := info_o
  have hu : Tryz.prog.underlying 62 = some (.slice 45) := Tryz.underlying62
  have hn : ¬ (sLen + n ≤ sCap) := by omega
  have hw : IntKind.i64.wrap (n : Int) = n := by rw [IntKind.wrap_i64]; omega
  have h63' : ¬ (9223372036854775807 < ((sLen : Int) + (n : Int))) := by omega
  have hfit := growslice_fits (bytes := 32) hg (by omega)
  have h48' : ¬ (281474976710656 < Builtin.nextslicecap (sLen + n) sCap * 32) := by omega
  have h48i : ¬ (281474976710656 < (n : Int) * 32) := by omega
  have hneg : ¬ ((n : Int) < 0) := by omega
  have hns : ¬ (n * 3 = 0) := by omega
  have hfo := run_firstCells_some (P := Tryz.prog) w.drew 3 sLen b sLen sCap olds hlo (by simpa using holds)
  simp [Builtin.append_, run_underlying hu, run_underlying Tryz.underlying3, sizeOf, typeInfo, zeroValue, hi1, hi2, hi3, hi4, asInt, asIntOf, hw, hn, hneg, hns, h63', h48', h48i, Question.forced, hfo, newRow, grownCap]
theorem overlaps_run (q g o n c : Nat) (w : World) (hne : q ≠ g) (cq cg : Array Value) (hq : w.heap[q]? = some (.cells cq 45 (0, 0))) (hg : w.heap[g]? = some (.cells cg 45 (0, 0))) (h0 : cg.size ≠ 0) :
    (callFunc 92 #[.slice (some ⟨q, 0, none⟩) 1 1, .slice (some ⟨g, o, none⟩) n c]).run Tryz.prog w = .ok (.value (.bool false)) w := by
  have hz : ∀ w, (Go.sizeOf 45).run Tryz.prog w = .ok 3 w := szT
  rw [run_callFunc_extern Tryz.func92 (by kernel_rfl) (by kernel_rfl) (by kernel_rfl) (e := Extern.SlicesOverlaps.overlaps #[62, 62] #[4]) (by kernel_rfl),
    Lib.run_overlaps_apart w 62 4 45 Tryz.underlying62 3 hz ⟨q, 0, none⟩ ⟨g, o, none⟩ 1 1 n c hne 45 45 cq.size cg.size (by simp [World.shape?, hq]) (by simp [World.shape?, hg]) h0 (by simp [World.frozen?, hq]) (by simp [World.frozen?, hq])]
  rfl
theorem add0 (b j : Nat) : (⟨b, 0, none⟩ : Addr).add j = ⟨b, j, none⟩ := by unfold Addr.add; split <;> simp_all
theorem addo (b o j : Nat) : (⟨b, o, none⟩ : Addr).add j = ⟨b, o + j, none⟩ := by unfold Addr.add; split <;> simp_all
theorem bk_cell {w : World} {g c : Nat} {l : List D} {sp : List Value} (h : Bk w g c l sp) (k : Nat) : ∀ j v, (flat (l.drop k))[j]? = some v → w.cell? ⟨g, k * 3 + j, none⟩ = some v := by
  intro j v hj
  have hjl := (List.getElem?_eq_some_iff.1 hj).1
  rw [flat_len, List.length_drop] at hjl
  rw [← flat_drop, List.getElem?_drop, ← List.getElem?_append_left (l₂ := sp) (by rw [flat_len]; omega)] at hj
  simp only [World.cell?, h.blk]
  simpa using hj
theorem box_at {w : World} {q : Nat} {o : D} (h : w.heap[q]? = some (.cells o.cs.toArray 45 (0, 0))) : ∀ j v, o.cs[j]? = some v → w.cell? ((⟨q, 0, none⟩ : Addr).add j) = some v := by
  intro j v hj
  rw [add0]
  simp only [World.cell?, h]
  simpa using hj
theorem cs_one (o : D) : ∀ v ∈ o.cs, v.oneCell' = true := by
  intro v hv
  simp only [D.cs, List.mem_cons, List.not_mem_nil, or_false] at hv
  rcases hv with rfl | rfl | rfl <;> rfl
theorem setRow_blk {w : World} {g : Nat} {cur : List Value} {t : TypeId} (h : w.heap[g]? = some (.cells cur.toArray t (0, 0))) (X : List Value) : (w.setRow g X.toArray).heap[g]? = some (.cells X.toArray t (0, 0)) := setRow_heap w g cur.toArray X.toArray t _ h
/-- there is room: what stands from i on goes one on, then o is laid -/
theorem ins_shift {w : World} {g c i q : Nat} {l : List D} {sp : List Value} {o : D} (h : Bk w g c l sp) (hi : i < l.length) (hc : l.length + 1 ≤ c) (hq : w.heap[q]? = some (.cells o.cs.toArray 45 (0, 0))) (hne : q ≠ g) (r r2 : Nat) (hr : r = l.length - i) (hr2 : r2 = l.length + 1 - i) :
    ∃ w1 w2, (∀ ty cc dd, (Builtin.copy_ #[62, 62] ty #[.slice (some ⟨g, (i + 1) * 3, none⟩) r cc, .slice (some ⟨g, i * 3, none⟩) r2 dd]).run Tryz.prog w = .ok (goInt r) w1) ∧
      (∀ ty cc, (Builtin.copy_ #[62, 62] ty #[.slice (some ⟨g, i * 3, none⟩) r2 cc, .slice (some ⟨q, 0, none⟩) 1 1]).run Tryz.prog w1 = .ok (goInt 1) w2) ∧ Rw w2 (some ⟨g, 0, none⟩) c (l.take i ++ o :: l.drop i) ∧ Keep (fun k => k = g) w w2 := by
  have hdl : (l.drop i).length = r := by rw [List.length_drop, hr]
  have hfl : (flat (l.drop i)).length = r * 3 := by rw [flat_len, hdl]
  have hsz := h.siz
  have hspl : sp.length = (c - l.length) * 3 := by have := hsz; rw [List.length_append, flat_len] at this; omega
  have r1 := fun ty cc dd => run_copy3 w ty g ((i + 1) * 3) r cc ⟨g, i * 3, none⟩ r2 dd (flat l ++ sp).toArray 45 (flat (l.drop i)) r h.blk (by omega) hfl (fun j v hj => by rw [addo]; exact bk_cell h i j v hj) (by simp only [List.size_toArray, hsz, hfl]; omega) (flat_one _)
  have e1 : (flat l ++ sp).toArray.toList.take ((i + 1) * 3) ++ flat (l.drop i) ++ (flat l ++ sp).toArray.toList.drop ((i + 1) * 3 + (flat (l.drop i)).length) = flat (l.take (i + 1) ++ l.drop i) ++ sp.drop 3 := by
    show (flat l ++ sp).take ((i + 1) * 3) ++ _ ++ (flat l ++ sp).drop _ = _
    rw [List.take_append_of_le_length (by rw [flat_len]; omega), flat_take, flat_append, hfl]
    congr 1
    rw [List.drop_append, List.drop_of_length_le (by rw [flat_len]; omega), List.nil_append, flat_len]
    congr 1; omega
  have hB1 := setRow_blk (g := g) h.blk (flat (l.take (i + 1) ++ l.drop i) ++ sp.drop 3)
  rw [e1] at r1
  obtain ⟨w1, hw1⟩ : ∃ w1, w1 = w.setRow g (flat (l.take (i + 1) ++ l.drop i) ++ sp.drop 3).toArray := ⟨_, rfl⟩
  rw [← hw1] at r1 hB1
  have k1 : Keep (fun k => k = g) w w1 := by rw [hw1]; exact setRow_keep _ _ _
  have hq1 : w1.heap[q]? = some (.cells o.cs.toArray 45 (0, 0)) := (k1.block q (Array.getElem?_eq_some_iff.1 hq).1 hne).trans hq
  have hl1 : (l.take (i + 1) ++ l.drop i).length = l.length + 1 := by rw [List.length_append, List.length_take, hdl]; omega
  have ho3 : o.cs.length = 1 * 3 := rfl
  have hti : (l.take i).length = i := by rw [List.length_take]; omega
  have r2' := fun ty cc => run_copy3 w1 ty g (i * 3) r2 cc ⟨q, 0, none⟩ 1 1 _ 45 o.cs 1 hB1 (by omega) rfl (box_at hq1) (by simp only [List.size_toArray, List.length_append, flat_len, List.length_drop, ho3, List.length_take]; omega) (cs_one o)
  have e2 : (flat (l.take (i + 1) ++ l.drop i) ++ sp.drop 3).toArray.toList.take (i * 3) ++ o.cs ++ (flat (l.take (i + 1) ++ l.drop i) ++ sp.drop 3).toArray.toList.drop (i * 3 + o.cs.length) = flat (l.take i ++ o :: l.drop i) ++ sp.drop 3 := by
    show (flat (l.take (i + 1) ++ l.drop i) ++ sp.drop 3).take (i * 3) ++ o.cs ++ (flat (l.take (i + 1) ++ l.drop i) ++ sp.drop 3).drop (i * 3 + 3) = _
    rw [List.take_append_of_le_length (by rw [flat_len]; omega), flat_take, List.drop_append_of_le_length (by rw [flat_len]; omega), show i * 3 + 3 = (i + 1) * 3 by omega, flat_drop]
    rw [List.take_append_of_le_length (by rw [List.length_take]; omega), List.take_take, Nat.min_eq_left (by omega)]
    have : (l.take (i + 1) ++ l.drop i).drop (i + 1) = l.drop i := by
      rw [List.drop_append, List.drop_of_length_le (by rw [List.length_take]; omega), List.nil_append, List.length_take, Nat.min_eq_left (by omega), Nat.sub_self, List.drop_zero]
    rw [this, flat_append, flat_cons]
    simp only [List.append_assoc]
  have hB2 := setRow_blk (g := g) hB1 (flat (l.take i ++ o :: l.drop i) ++ sp.drop 3)
  rw [e2] at r2'
  obtain ⟨w2, hw2⟩ : ∃ w2, w2 = w1.setRow g (flat (l.take i ++ o :: l.drop i) ++ sp.drop 3).toArray := ⟨_, rfl⟩
  rw [← hw2] at r2' hB2
  have k2 : Keep (fun k => k = g) w1 w2 := by rw [hw2]; exact setRow_keep _ _ _
  have hl2 : (l.take i ++ o :: l.drop i).length = l.length + 1 := by rw [List.length_append, List.length_cons, hti, hdl]; omega
  exact ⟨w1, w2, r1, r2', Bk.rw (sp := sp.drop 3) ⟨hB2, by omega, h.cap, by rw [List.length_append, flat_len, hl2, List.length_drop, hspl]; omega⟩, k1.trans k2 fun _ => Or.inl⟩
/-- there is none: a new row -/
theorem ins_grow {w : World} {g c i q : Nat} {l : List D} {sp : List Value} {o : D} (h : Bk w g c l sp) (hi : i < l.length) (hc : c < l.length + 1) (hl : l.length ≤ 1000) (hq : w.heap[q]? = some (.cells o.cs.toArray 45 (0, 0))) (r r2 : Nat) (hr : r = l.length - i) (hr2 : r2 = l.length + 1 - i) :
    ∃ w1 w2 w3 c2, (∀ ty, (Builtin.append_ #[62, 3] ty #[.slice (some ⟨g, 0, none⟩) i c, .int .i64 (r2 : Int)]).run Tryz.prog w = .ok (.slice (some ⟨w.heap.size, 0, none⟩) (l.length + 1 : Nat) c2) w1) ∧ l.length + 1 ≤ c2 ∧
      (∀ ty cc, (Builtin.copy_ #[62, 62] ty #[.slice (some ⟨w.heap.size, i * 3, none⟩) r2 cc, .slice (some ⟨q, 0, none⟩) 1 1]).run Tryz.prog w1 = .ok (goInt 1) w2) ∧
      (∀ ty cc dd, (Builtin.copy_ #[62, 62] ty #[.slice (some ⟨w.heap.size, (i + 1) * 3, none⟩) r cc, .slice (some ⟨g, i * 3, none⟩) r dd]).run Tryz.prog w2.drew = .ok (goInt r) w3) ∧ Rw w3 (some ⟨w.heap.size, 0, none⟩) c2 (l.take i ++ o :: l.drop i) ∧ Below w.heap.size w w3 := by
  have hdl : (l.drop i).length = r := by rw [List.length_drop, hr]
  have hfl : (flat (l.drop i)).length = r * 3 := by rw [flat_len, hdl]
  have hti : (l.take i).length = i := by rw [List.length_take]; omega
  have hft : (flat (l.take i)).length = i * 3 := by rw [flat_len, hti]
  have hgl := (Array.getElem?_eq_some_iff.1 h.blk).1
  have hql := (Array.getElem?_eq_some_iff.1 hq).1
  have r1 := fun ty => run_grow_zeros w ty ⟨g, 0, none⟩ i c (flat (l.take i)) hft (fun j v hj => by
    rw [add0]
    have hjl := (List.getElem?_eq_some_iff.1 hj).1
    have := bk_cell h 0 j v (by
      rw [List.drop_zero]
      rw [← flat_take, List.getElem?_take, if_pos (by omega)] at hj
      exact hj)
    rwa [Nat.zero_mul, Nat.zero_add] at this) r2 (by omega) (by omega) (by omega)
  rw [show i + r2 = l.length + 1 by omega] at r1
  obtain ⟨c2, hc2⟩ : ∃ c2, c2 = grownCap w (l.length + 1) c 45 := ⟨_, rfl⟩
  have hge := grownCap_ge w (l.length + 1) c 45
  have hle := grownCap_le_maxLen w (l.length + 1) c 45 (by unfold maxLen; omega)
  rw [← hc2] at r1 hge hle
  obtain ⟨Z, hZ⟩ : ∃ Z, Z = (Builtin.zeroCells ZV.cells r2).toList ++ (Builtin.zeroCells ZV.cells (c2 - (l.length + 1))).toList := ⟨_, rfl⟩
  have hZl : Z.length = (c2 - i) * 3 := by
    rw [hZ, List.length_append, Array.length_toList, Array.length_toList, size_zeroCells, size_zeroCells]
    have : ZV.cells.size = 3 := rfl
    rw [this]; omega
  have eZ : (flat (l.take i)).toArray ++ Builtin.zeroCells ZV.cells r2 ++ Builtin.zeroCells ZV.cells (c2 - (l.length + 1)) = (flat (l.take i) ++ Z).toArray := by
    apply Array.ext'; rw [hZ]; simp
  rw [eZ] at r1
  have b1 : Below w.heap.size w (w.drew.alloc (.cells (flat (l.take i) ++ Z).toArray 45)) := bt (bdr w) (ba _ _)
  have hB1 : (w.drew.alloc (.cells (flat (l.take i) ++ Z).toArray 45)).heap[w.heap.size]? = some (.cells (flat (l.take i) ++ Z).toArray 45 (0, 0)) := alloc_at w.drew _
  obtain ⟨w1, hw1⟩ : ∃ w1, w1 = w.drew.alloc (.cells (flat (l.take i) ++ Z).toArray 45) := ⟨_, rfl⟩
  rw [← hw1] at r1 hB1 b1
  obtain ⟨G, hG⟩ : ∃ G, G = w.heap.size := ⟨_, rfl⟩
  rw [← hG] at r1 hB1 ⊢
  have hq1 : w1.heap[q]? = some (.cells o.cs.toArray 45 (0, 0)) := (b1.block q hql).trans hq
  have ho3 : o.cs.length = 1 * 3 := rfl
  have r2' := fun ty cc => run_copy3 w1 ty G (i * 3) r2 cc ⟨q, 0, none⟩ 1 1 _ 45 o.cs 1 hB1 (by omega) rfl (box_at hq1) (by simp only [List.size_toArray, List.length_append, hft, hZl, ho3]; omega) (cs_one o)
  have e2 : (flat (l.take i) ++ Z).toArray.toList.take (i * 3) ++ o.cs ++ (flat (l.take i) ++ Z).toArray.toList.drop (i * 3 + o.cs.length) = flat (l.take i ++ [o]) ++ Z.drop 3 := by
    show (flat (l.take i) ++ Z).take (i * 3) ++ o.cs ++ (flat (l.take i) ++ Z).drop (i * 3 + 3) = _
    rw [← hft, List.take_left, ← List.drop_drop, List.drop_left, flat_append]
    simp [flat]
  have hB2 := setRow_blk (g := G) hB1 (flat (l.take i ++ [o]) ++ Z.drop 3)
  rw [e2] at r2'
  obtain ⟨w2, hw2⟩ : ∃ w2, w2 = w1.setRow G (flat (l.take i ++ [o]) ++ Z.drop 3).toArray := ⟨_, rfl⟩
  rw [← hw2] at r2' hB2
  have k2 : Keep (fun k => k = G) w1 w2 := by rw [hw2]; exact setRow_keep _ _ _
  have k12 := b1.trans (k2.to_below (B := w.heap.size) (fun k e => by omega) b1.size)
  have h2 : Bk w2 g c l sp := ⟨(k12.block g hgl).trans h.blk, h.len, h.cap, h.siz⟩
  have hfo : (flat (l.take i ++ [o])).length = (i + 1) * 3 := by rw [flat_len, List.length_append, hti]; rfl
  have r3' := fun ty cc dd => run_copy3 w2.drew ty G ((i + 1) * 3) r cc ⟨g, i * 3, none⟩ r dd (flat (l.take i ++ [o]) ++ Z.drop 3).toArray 45 (flat (l.drop i)) r hB2 (by omega) hfl (fun j v hj => by rw [addo]; exact bk_cell h2 i j v hj) (by simp only [List.size_toArray, List.length_append, hfo, List.length_drop, hZl, hfl]; omega) (flat_one _)
  have e3 : (flat (l.take i ++ [o]) ++ Z.drop 3).toArray.toList.take ((i + 1) * 3) ++ flat (l.drop i) ++ (flat (l.take i ++ [o]) ++ Z.drop 3).toArray.toList.drop ((i + 1) * 3 + (flat (l.drop i)).length) = flat (l.take i ++ o :: l.drop i) ++ Z.drop (3 + r * 3) := by
    show (flat (l.take i ++ [o]) ++ Z.drop 3).take ((i + 1) * 3) ++ flat (l.drop i) ++ (flat (l.take i ++ [o]) ++ Z.drop 3).drop ((i + 1) * 3 + (flat (l.drop i)).length) = _
    rw [← hfo, List.take_left, ← List.drop_drop, List.drop_left, List.drop_drop, hfl, ← flat_append]
    simp
  have hB3 : (w2.drew.setRow G (flat (l.take i ++ o :: l.drop i) ++ Z.drop (3 + r * 3)).toArray).heap[G]? = _ := setRow_blk (w := w2.drew) (g := G) hB2 (flat (l.take i ++ o :: l.drop i) ++ Z.drop (3 + r * 3))
  rw [e3] at r3'
  obtain ⟨w3, hw3⟩ : ∃ w3, w3 = w2.drew.setRow G (flat (l.take i ++ o :: l.drop i) ++ Z.drop (3 + r * 3)).toArray := ⟨_, rfl⟩
  rw [← hw3] at r3' hB3
  have k3 : Keep (fun k => k = G) w2.drew w3 := by rw [hw3]; exact setRow_keep _ _ _
  have hl2 : (l.take i ++ o :: l.drop i).length = l.length + 1 := by rw [List.length_append, List.length_cons, hti, hdl]; omega
  have hd2 : Below w.heap.size w w2.drew := k12.drew
  exact ⟨w1, w2, w3, c2, r1, hge, r2', r3', Bk.rw (sp := Z.drop (3 + r * 3)) ⟨hB3, by omega, hle, by rw [List.length_append, flat_len, hl2, List.length_drop, hZl]; omega⟩, by rw [hG]; exact hd2.trans (k3.to_below (fun k e => by omega) hd2.size)⟩
theorem cut_some {w : World} {a : Option Addr} {c i : Nat} {l : List D} (h : Rw w a c l) (hi : i ≤ l.length) : ∃ v, (∀ w, (Instr.slice 62 (.slice a l.length c) (some (.int .i64 (i : Int))) none none).run Tryz.prog w = .ok v w) ∧
    (∀ w, (Instr.sliceAt 62 (.slice a l.length c) (some (.int .i64 (i : Int))) none none).run Tryz.prog w = .ok v w) := by
  have hc := h.caps
  have r := fun w => run_slice_l (P := Tryz.prog) w 62 a l.length c und .i64 (i : Int) (by omega) (by omega)
  simp only [elT, szT, Result.andThen] at r
  exact ⟨_, r, fun w => by rw [run_sliceAt_slice _ _ _ _ _ _ und, r]⟩
/-- a copy whose run is known -/
theorem wp_copied {w : World} {ops : Array Oper} {rest : List Oper} {o : Oper} {a : Act} {Q : Exit → Act → World → Prop} (hgd : o.guard = none) (d s : Operand)
    (ho : o.op = .call { callee := .builtin .copy, args := #[d, s], argTypes := #[62, 62] }) (v u : Value) (hd : a.eval d = v) (hs : a.eval s = u) {v' : Value} {w' : World}
    (hr : (Builtin.copy_ #[62, 62] o.type #[v, u]).run Tryz.prog w = .ok v' w') (h : wpList Tryz.prog ops Q rest (a.put o.dst v') w') : wpList Tryz.prog ops Q (o :: rest) a w := by
  refine wpList_plain hgd fun K hK => ?_
  unfold Oper.wp execOp
  simp only [ho, resolve, invoke, builtin, Sem.run_bind, Sem.run_pure, Result.andThen_ok, List.map_toArray, List.map_cons, List.map_nil, hd, hs, hr]
  exact hK _ _ h
def Ins (w : World) (a : Option Addr) (c : Nat) (l l' : List D) (e : Ending) (w' : World) : Prop :=
  ∃ a' c', e = .returned (.slice a' l'.length c') ∧ Rw w' a' c' l' ∧ Keep (fun k => (Value.slice a l.length c).ownBlock = some k) w w' ∧ ∀ k, (Value.slice a' l'.length c').ownBlock = some k → (Value.slice a l.length c).ownBlock = some k ∨ w.heap.size ≤ k
set_option maxRecDepth 100000 in
set_option maxHeartbeats 4000000 in
theorem insert_any {w : World} {a : Option Addr} {c i q : Nat} {l : List D} {o : D} (h : Rw w a c l) (hi : i ≤ l.length) (hl : l.length ≤ 1000) (hq : w.heap[q]? = some (.cells o.cs.toArray 45 (0, 0))) (hne : (Value.slice a l.length c).ownBlock ≠ some q) :
    Calls Tryz.prog 59 #[.slice a l.length c, .int .i64 (i : Int), .slice (some ⟨q, 0, none⟩) 1 1] w (Ins w a c l (l.take i ++ o :: l.drop i)) := by
  obtain ⟨v1, s1, s2⟩ := cut_some h hi
  by_cases hin : i = l.length
  · subst hin
    obtain ⟨ti, hi1, hi2, hi3, hi4⟩ := info_o
    have HH := Lib.hid (And.intro h (And.intro hi1 (And.intro hi2 (And.intro hi3 (And.intro hi4 (And.intro hq hne))))))
    clear h hi1 hi2 hi3 hi4 hq hne
    go_enter Tryz.func59, Tryz.ntmps59
    go_wp2_with (at_builtin; refine wpList_append_own_at _ rfl (.tmp 23) (.tmp 24) 62 rfl 0 45 ti ZV 3 32 Tryz.underlying62 HH.out.2.1 HH.out.2.2.1 HH.out.2.2.2.1 HH.out.2.2.2.2.1 rfl (by decide) _ l.length (flat l) rfl HH.out.1 ⟨q, 0, none⟩ 1 1 o.cs rfl rfl (box_at HH.out.2.2.2.2.2.1) (cs_one o) ?ac1 ?ac2 ?ac3 ?ac4)
    case ac1 => unfold maxLen; omega
    case ac2 => omega
    case ac3 => omega
    case ac4 =>
      intro v' w' hown hgrow _ hat
      obtain ⟨a', c', rfl⟩ := kp.shape hown
      have H2 := Lib.hid (And.intro hown (And.intro hgrow hat))
      clear hown hgrow hat s1 s2
      go_wp2_with fail
      go_ret
      have el : l.take l.length ++ o :: l.drop l.length = l ++ [o] := by simp
      have ef : flat (l ++ [o]) = flat l ++ o.cs := by rw [flat_append, flat_cons]; simp [flat]
      rw [el]
      refine ⟨a', c', by simp, ?_, Keep.of_grown H2.out.2.1 fun k e => e, fun k e => ?_⟩
      · unfold Rw; rw [ef, List.length_append]; exact H2.out.1
      · rw [List.length_append] at e
        rcases H2.out.2.2 with g | g
        · exact Or.inl (g ▸ e)
        · have := g.symm.trans e; injection this with this; exact Or.inr (by omega)
  · obtain ⟨g, sp, rfl, hb⟩ := Rw.bk h (by omega)
    have hne' : q ≠ g := fun e => hne (by rw [e]; rfl)
    have hlen := hb.len
    have e1 : ((i + 1 : Nat) : Int) = (i : Int) + 1 := by omega
    have e2 : ((l.length + 1 : Nat) : Int) = (l.length : Int) + 1 := by omega
    have hn1 : ((i : Int) == (l.length : Int)) = false := by rw [beq_eq_false_iff_ne]; omega
    have hwr : IntKind.i64.wrap ((i : Int) + 1) = (i : Int) + 1 := by rw [IntKind.wrap_i64]; omega
    by_cases hc : c < l.length + 1
    · have hg : decide (((l.length : Int) + 1) > c) = true := decide_eq_true (by omega)
      obtain ⟨w1, w2, w3, c2, r1, hc2, r2', r3, hrw, hbl⟩ := ins_grow hb (by omega) hc hl hq (l.length - i) (l.length + 1 - i) rfl rfl
      have er : l.length + 1 - (i + 1) = l.length - i := by omega
      obtain ⟨ad2, t3, t3', had2⟩ := cut_lo w.heap.size (l.length + 1) c2 (i + 1) (by omega) hc2
      obtain ⟨ad3, t4, t4', had3⟩ := cut_lo g l.length c i (by omega) hlen
      obtain rfl := had2 (by omega)
      obtain rfl := had3 (by omega)
      rw [er, e1] at t3 t3'
      clear had2 had3 er
      obtain rfl : v1 = .slice (some ⟨g, i * 3, none⟩) (l.length - i) (c - i) := by have := (s1 w).symm.trans (t4 w); injection this
      have hz : ((l.length + 1 - i : Nat) : Int) = (l.length : Int) + 1 - i := by omega
      rw [hz] at r1
      have HH := Lib.hid (And.intro hrw hbl)
      clear h hb hq hne hrw hbl hc e1 e2 hz hne'
      go_enter Tryz.func59, Tryz.ntmps59
      go_wp2_with (at_builtin; refine Lib.wpList_append_run _ rfl _ _ _ _ rfl _ _ rfl rfl _ _ (r1 _) ?_)
      go_wp2_with (at_builtin; refine wp_copied rfl _ _ rfl _ _ rfl rfl (r2' _ _) ?_)
      go_still_tail 8, (by kernel_rfl)
      change wpList _ _ _ _ _ w2.drew
      go_wp2_with (at_builtin; refine wp_copied rfl _ _ rfl _ _ rfl rfl (r3 _ _ _) ?_)
      go_ret
      have el : (l.take i ++ o :: l.drop i).length = l.length + 1 := by rw [List.length_append, List.length_cons, List.length_take, List.length_drop]; omega
      refine ⟨some ⟨w.heap.size, 0, none⟩, c2, by rw [el]; rfl, HH.out.1, Keep.of_below HH.out.2, fun k e => ?_⟩
      simp [Value.ownBlock] at e; exact Or.inr (by omega)
    · have hg : decide (((l.length : Int) + 1) > c) = false := decide_eq_false (by omega)
      have hbd : Bk w.drew g c l sp := ⟨hb.blk, hb.len, hb.cap, hb.siz⟩
      obtain ⟨w1, w2, r1, r2, hrw, hk⟩ := ins_shift hbd (by omega) (by omega) hq hne' (l.length - i) (l.length + 1 - i) rfl rfl
      have hov : ∀ n' c', (callFunc 92 #[.slice (some ⟨q, 0, none⟩) 1 1, .slice (some ⟨g, (i + 1) * 3, none⟩) n' c']).run Tryz.prog w = .ok (.value (.bool false)) w := fun n' c' => overlaps_run q g _ n' c' w hne' _ _ hq hb.blk (by have := hb.siz; simp only [List.size_toArray]; omega)
      have HH := Lib.hid (And.intro hrw ((Keep.drew (fun k => k = g) w).trans hk fun _ => Or.inl))
      have hcc : l.length + 1 ≤ c := by omega
      have er : l.length + 1 - (i + 1) = l.length - i := by omega
      obtain ⟨ad2, t3, t3', had2⟩ := cut_lo g (l.length + 1) c (i + 1) (by omega) hcc
      obtain ⟨ad3, t4, t4', had3⟩ := cut_lo g (l.length + 1) c i (by omega) hcc
      obtain rfl := had2 (by omega)
      obtain rfl := had3 (by omega)
      rw [er, e1] at t3 t3'
      clear had2 had3 er
      clear h hb hq hne hrw hk hbd hc e1 e2 hne'
      go_enter Tryz.func59, Tryz.ntmps59
      go_wp2_with (simp only [hov])
      go_still_tail 8, (by kernel_rfl)
      change wpList _ _ _ _ _ w.drew
      go_wp2_with (at_builtin; refine wp_copied rfl _ _ rfl _ _ rfl rfl (r1 _ _ _) ?_)
      go_wp2_with (at_builtin; refine wp_copied rfl _ _ rfl _ _ rfl rfl (r2 _ _) ?_)
      go_ret
      have el : (l.take i ++ o :: l.drop i).length = l.length + 1 := by rw [List.length_append, List.length_cons, List.length_take, List.length_drop]; omega
      exact ⟨some ⟨g, 0, none⟩, c, by rw [el]; rfl, HH.out.1, HH.out.2.mono fun k e => by rw [e]; rfl, fun k e => Or.inl e⟩
end Go.Proofs.YtedbcmagjbgbjaaGreatDoor.oph
namespace Go.Proofs.YtedbcmagjbgbjaaGreatDoor.opi
open Go.ChangeShapes Go.WideShapes Go.ChangeAt Go.RowKit
open Go.Proofs.YtedbcmagjbgbjaaGreatDoor.kp Go.Proofs.YtedbcmagjbgbjaaGreatDoor.opa Go.Proofs.YtedbcmagjbgbjaaGreatDoor.opb Go.Proofs.YtedbcmagjbgbjaaGreatDoor.opc Go.Proofs.YtedbcmagjbgbjaaGreatDoor.opd Go.Proofs.YtedbcmagjbgbjaaGreatDoor.ope Go.Proofs.YtedbcmagjbgbjaaGreatDoor.opf Go.Proofs.YtedbcmagjbgbjaaGreatDoor.opg Go.Proofs.YtedbcmagjbgbjaaGreatDoor.oph
set_option linter.unusedVariables false
set_option maxRecDepth 100000
theorem ins_eq {l : List D} (h : Srt l) {o : D} (hn : is l o = false) : l.take (ix l o) ++ o :: l.drop (ix l o) = ins l o := by
  obtain ⟨_, _, e1, e2, _⟩ := at_no h hn
  rw [e1, e2]; rfl
set_option maxRecDepth 100000 in
set_option maxHeartbeats 4000000 in
theorem add_any {p : Nat} {F : Nat → Prop} {l : List D} (o : D) (w : World) (h : Tb w p F l) (hs : Srt l) (hn : is l o = false) (hl : l.length ≤ 1000) :
    Calls Tryz.prog 36 #[.pointer (some ⟨p, 0, none⟩), o.v] w fun e w' => e = .returned (.tuple #[]) ∧ opb.Next w p F (ins l o) w' := by
  have hix := ix_le l o
  have hie := ins_eq hs hn
  have hb0 := ba w (.cells o.cs.toArray 45)
  have hbx := alloc_at w (.cells o.cs.toArray 45)
  have HR := Lib.hid (And.intro (h.below hb0) (And.intro hs (And.intro hb0 (And.intro hbx (And.intro hie (And.intro hn h))))))
  obtain ⟨n, k, q⟩ := o
  simp only [D.v]
  clear h hs hb0 hbx hie hn
  go_enter Tryz.func36, Tryz.ntmps36
  go_wp2_with fail
  have HR2 := HR
  simp only [D.cs] at HR2
  refine (find_any ⟨n, k, q⟩ _ HR2.out.1 HR2.out.2.1 hl).mono ?_
  clear HR2
  rintro e w1 ⟨rfl, hb1⟩
  have ht1 : Tb w1 p F l := HR.out.1.below hb1
  have hx1 : w1.heap[w.heap.size]? = some (.cells (D.cs ⟨n, k, q⟩).toArray 45 (0, 0)) := (hb1.block _ (by simp)).trans HR.out.2.2.2.1
  have hbb : Below w.heap.size w w1 := HR.out.2.2.1.trans (hb1.mono (by simp))
  obtain ⟨e0, e1, e2, _⟩ := box_cells hx1
  obtain ⟨a, c, hpb, hrw, hown, hF⟩ := ht1.ex
  obtain ⟨f0, g0⟩ := one_cell hpb
  have hlt := ht1.lt p ht1.mine
  generalize hi : ix l ⟨n, k, q⟩ = i at hix
  have H1 := Lib.hid (And.intro ht1 (And.intro hbb (And.intro hrw (And.intro hown (And.intro hF (And.intro hpb hi))))))
  clear ht1 hx1 hbb hrw hown hF hpb hb1 hi
  go_wp2_with fail
  have hb2 : Below w1.heap.size w1 (w1.drew.alloc (.cells #[.string ⟨n.toArray⟩, .int .i64 k, .int .i64 q] 45)) := bt (bdr w1) (ba _ _)
  have hx2 : (w1.drew.alloc (.cells (D.cs ⟨n, k, q⟩).toArray 45)).heap[w1.heap.size]? = some (.cells (D.cs ⟨n, k, q⟩).toArray 45 (0, 0)) := alloc_at w1.drew _
  have hlw : ∀ k, (Value.slice a l.length c).ownBlock = some k → k < w1.heap.size := fun k e => (World.ownsRow.lt H1.out.2.2.1 k e).2
  have H2 := Lib.hid (And.intro (H1.out.2.2.1.below hb2) (And.intro hx2 (And.intro hb2 hlw)))
  have f2 : (w1.drew.alloc (.cells #[.string ⟨n.toArray⟩, .int .i64 k, .int .i64 q] 45)).cell? ⟨p, 0, none⟩ = some (.slice a l.length c) := ((Keep.of_below (F := fun _ => False) hb2).cell hlt id).trans f0
  have g2 : (w1.drew.alloc (.cells #[.string ⟨n.toArray⟩, .int .i64 k, .int .i64 q] 45)).frozen? ⟨p, 0, none⟩ = false := ((Keep.of_below (F := fun _ => False) hb2).frozen hlt id).trans g0
  clear hb2 hx2 hlw
  go_region_with (first
    | (go_at_call 59; refine (insert_any (o := ⟨n, k, q⟩) H2.out.1 hix hl H2.out.2.1 (fun e => by have := H2.out.2.2.2 _ e; omega)).mono ?_; rintro e w4 ⟨a', c', rfl, hr4, hk4, ho4⟩; have f4 := (hk4.cell (b := p) (o := 0) (by have := H2.out.2.2.1.size; omega) H1.out.2.2.2.1).trans f2; have g4 := (hk4.frozen (b := p) (o := 0) (by have := H2.out.2.2.1.size; omega) H1.out.2.2.2.1).trans g2; have H4 := Lib.hid (And.intro hr4 (And.intro hk4 ho4)); clear hr4 hk4 ho4))
  all_goals
    refine ⟨rfl, .tuple #[], results_none rfl _ _ _, rfl, ?_⟩
    have hN := opb.Next.put (HR.out.2.2.2.2.2.2.below (H1.out.2.1.trans (H2.out.2.2.1.mono H1.out.2.1.size))) f2 H4.out.2.1 H4.out.1 H4.out.2.2
    have el : (l.take i ++ (⟨n, k, q⟩ : D) :: l.drop i).length = i + (l.length - i + 1) := by rw [List.length_append, List.length_cons, List.length_take, List.length_drop]; omega
    rw [el] at hN
    have hie := HR.out.2.2.2.2.1
    rw [H1.out.2.2.2.2.2.2] at hie
    rw [← hie]
    exact opb.Next.trans (F' := F) (Keep.of_below (H1.out.2.1.trans (H2.out.2.2.1.mono H1.out.2.1.size))) (fun _ => Or.inl) hN
end Go.Proofs.YtedbcmagjbgbjaaGreatDoor.opi
namespace Go.Proofs.YtedbcmagjbgbjaaGreatDoor.opk
open Go.ChangeShapes Go.WideShapes Go.ChangeAt Go.RowKit
open Go.Proofs.YtedbcmagjbgbjaaGreatDoor.kp Go.Proofs.YtedbcmagjbgbjaaGreatDoor.opa Go.Proofs.YtedbcmagjbgbjaaGreatDoor.opb Go.Proofs.YtedbcmagjbgbjaaGreatDoor.opc Go.Proofs.YtedbcmagjbgbjaaGreatDoor.opd Go.Proofs.YtedbcmagjbgbjaaGreatDoor.ope Go.Proofs.YtedbcmagjbgbjaaGreatDoor.opf Go.Proofs.YtedbcmagjbgbjaaGreatDoor.opg Go.Proofs.YtedbcmagjbgbjaaGreatDoor.oph Go.Proofs.YtedbcmagjbgbjaaGreatDoor.opi
set_option linter.unusedVariables false
set_option maxRecDepth 100000
def Ln (k : Nat) : List D := (allO.take k).foldl ins []
theorem allO_len : allO.length = 30 := by decide
theorem Ln_new : ((List.range 30).all fun k => !is (Ln k) (allO.getD k ⟨[], 0, 0⟩)) = true := by kernel_rfl
theorem Ln_is {k : Nat} (h : k < allO.length) : is (Ln k) allO[k] = false := by
  have h1 := List.all_eq_true.1 Ln_new k (List.mem_range.2 (by rw [allO_len] at h; exact h))
  have e : allO.getD k ⟨[], 0, 0⟩ = allO[k] := by rw [List.getD_eq_getElem?_getD, List.getElem?_eq_getElem h]; rfl
  rw [e] at h1
  simpa using h1
theorem Ln_succ {k : Nat} (h : k < allO.length) : ins (Ln k) allO[k] = Ln (k + 1) := by
  unfold Ln
  rw [List.take_succ_eq_append_getElem h, List.foldl_append]; rfl
theorem Ln_inv (k : Nat) : Inv (Ln k) := (Inv.fold (allO.take k) Inv.nil (fun o ho => allO_ok o (List.mem_of_mem_take ho)) (by rw [List.length_take, allO_len]; simp; omega)).1
theorem Ln_end : Ln 30 = newL := by unfold Ln newL; rw [List.take_of_length_le (by rw [allO_len]; exact Nat.le_refl _)]
theorem all_0 {k : Nat} (h : k < new0.length) (h' : k < allO.length) : allO[k] = new0[k] := by
  have : allO[k]? = new0[k]? := by unfold allO; exact List.getElem?_append_left h
  rw [List.getElem?_eq_getElem h', List.getElem?_eq_getElem h] at this
  injection this
theorem all_1 {k : Nat} (h : k < new1.length) (h' : 14 + k < allO.length) : allO[14 + k] = ⟨new1[k], 1, 700⟩ := by
  have h0 : new0.length = 14 := rfl
  have : allO[14 + k]? = (new1.map fun n => ({ n := n, k := 1, p := 700 } : D))[k]? := by
    unfold allO
    rw [List.getElem?_append_right (by omega), h0, Nat.add_sub_cancel_left]
  rw [List.getElem?_eq_getElem h', List.getElem?_map, List.getElem?_eq_getElem h] at this
  simpa using this
/-- a row of operators that is only read -/
theorem rd_rw {w : World} {g : Nat} {l : List D} (h : w.heap[g]? = some (.cells (flat l).toArray 45 (0, 0))) (hl : l.length ≤ 1000) : Rw w (some ⟨g, 0, none⟩) l.length l :=
  Bk.rw (sp := []) ⟨by rw [List.append_nil]; exact h, Nat.le_refl _, by unfold maxLen; omega, by rw [List.append_nil, flat_len]⟩
/-- a table made behind w that has none of the blocks X -/
def OwnX (w : World) (X : Nat → Prop) (p : Nat) (l : List D) (wr : World) : Prop := ∃ F, Tb wr p F l ∧ Below w.heap.size w wr ∧ ∀ j, F j → w.heap.size ≤ j ∧ ¬ X j
theorem OwnX.below {w w1 w2 : World} {X : Nat → Prop} {p : Nat} {l : List D} (h : OwnX w X p l w1) (hb : Below w1.heap.size w1 w2) : OwnX w X p l w2 := by
  obtain ⟨F, a, b, c⟩ := h
  exact ⟨F, a.below hb, b.trans (hb.mono b.size), c⟩
theorem OwnX.step {w w1 w2 : World} {X : Nat → Prop} {p : Nat} {l' : List D} {F : Nat → Prop} (hb : Below w.heap.size w w1) (hF : ∀ j, F j → w.heap.size ≤ j ∧ ¬ X j) (hX : ∀ j, X j → j < w1.heap.size) (n : opb.Next w1 p F l' w2) :
    OwnX w X p l' w2 ∧ ∀ g, g < w1.heap.size → X g → w2.heap[g]? = w1.heap[g]? := by
  obtain ⟨G, t, k, s⟩ := n
  refine ⟨⟨G, t, hb.trans (k.to_below (fun j hj => (hF j hj).1) hb.size), fun j hj => ?_⟩, fun g hg hx => k.block g hg fun hf => (hF g hf).2 hx⟩
  rcases s j hj with h | h
  · exact hF j h
  · exact ⟨Nat.le_trans hb.size h, fun hx => by have := hX j hx; omega⟩
def N1 (w : World) (p g : Nat) (gg : Nat) (s : Value) (wr : World) : Prop :=
  ∃ k : Nat, k ≤ 14 ∧ gg = 14 - k ∧ s = .int .i64 k ∧ OwnX w (fun j => j = g) p (Ln k) wr ∧ wr.heap[g]? = some (.cells (flat new0).toArray 45 (0, 0)) ∧ w.heap.size ≤ g ∧ g ≠ p
def names : List Value := new1.map fun n => .string ⟨n.toArray⟩
theorem names_at {w : World} {g k : Nat} (h : w.heap[g]? = some (.cells names.toArray 9 (0, 0))) (hk : k < new1.length) : w.cell? ⟨g, k, none⟩ = some (.string ⟨new1[k].toArray⟩) := by
  simp only [World.cell?, h, names]
  simp [hk]
theorem elS : Tryz.prog.elem 28 = 9 := by kernel_rfl
theorem szS (w : World) : (sizeOf 9).run Tryz.prog w = .ok 1 w := by kernel_rfl
theorem names_ix (g k : Nat) (hk : k < 16) (w : World) : (Instr.indexAt 28 (.slice (some ⟨g, 0, none⟩) 16 16) (.int .i64 (k : Int))).run Tryz.prog w = .ok (.pointer (some ⟨g, k, none⟩)) w := by
  rw [run_indexAt_slice w 28 _ _ _ _ _ (by rw [elS]; exact Tryz.underlying28), if_pos ⟨by omega, by omega⟩, elS, szS]
  simp [Result.andThen, add0]
def N2 (w : World) (p g : Nat) (gg : Nat) (s : Value) (wr : World) : Prop :=
  ∃ k : Nat, k ≤ 16 ∧ gg = 16 - k ∧ s = .int .i64 k ∧ OwnX w (fun j => j = g) p (Ln (14 + k)) wr ∧ wr.heap[g]? = some (.cells names.toArray 9 (0, 0)) ∧ w.heap.size ≤ g ∧ g ≠ p
set_option maxRecDepth 100000 in
set_option maxHeartbeats 8000000 in
theorem new_any (w : World) : Calls Tryz.prog 12 #[] w (NewT w newL) := by
  go_enter Tryz.func12, Tryz.ntmps12
  go_wp2_with fail
  go_loopg [24] 14 (N1 w w.heap.size (w.heap.size + 1))
  case atStart =>
    refine ⟨0, by omega, by omega, rfl, ?_, ?_, by omega, by omega⟩
    · refine ⟨fun k => k = w.heap.size, ⟨none, 0, ?_, World.ownsRow_nil _ _ _ _, by simp [Value.ownBlock], fun k => by simp [Value.ownBlock]⟩, bt (ba _ _) (ba _ _), fun k e => ⟨by omega, by omega⟩⟩
      exact ((ba (w.alloc (.cells #[.slice none 0 0] 78)) _).block _ (by simp)).trans (alloc_at _ _)
    · have := alloc_at (w.alloc (.cells #[.slice none 0 0] 78)) (.cells (flat new0).toArray 45)
      rwa [alloc_size] at this
  case round =>
    obtain ⟨k, hk, rfl, rfl, how, hg, hgw, hgp⟩ := hrel
    have hR := rd_rw hg (by decide)
    have hsz : w.heap.size ≤ wr.heap.size := by have := how.choose_spec.2.1.size; omega
    by_cases hlt : k < 14
    · have hk0 : k < new0.length := hlt
      have hk1 : k < allO.length := by rw [allO_len]; omega
      obtain ⟨P, hP, _, e0, e1, e2, _, hix0⟩ := hR.look hk0
      injection hP with hP; injection hP with hP
      subst hP
      have hix : ∀ w', (Instr.indexAt 62 (.slice (some ⟨w.heap.size + 1, 0, none⟩) 14 14) (.int .i64 (k : Int))).run Tryz.prog w' = .ok (.pointer (some ⟨w.heap.size + 1, k * 3, none⟩)) w' := hix0
      have hgl := (Array.getElem?_eq_some_iff.1 hg).1
      have HH := Lib.hid (And.intro how (And.intro hg (And.intro hk0 (And.intro hk1 (And.intro hsz hgl)))))
      clear how hg hR hix0 hsz hgl
      obtain ⟨x, hx⟩ : ∃ x, x = new0[k] := ⟨_, rfl⟩
      rw [← hx] at e0 e1 e2
      have HX := Lib.hid hx
      clear hx
      go_wp2_with fail
      have hkw := ba wr (.cells x.cs.toArray 45)
      obtain ⟨Fo, hT, hbT, hFT⟩ := HH.out.1.below hkw
      refine (add_any x _ hT (Ln_inv k).srt (by rw [HX.out, ← all_0 HH.out.2.2.1 HH.out.2.2.2.1]; exact Ln_is HH.out.2.2.2.1) (by have := (Ln_inv k).len; omega)).mono ?_
      rintro e w5 ⟨rfl, hN⟩
      have hgl := HH.out.2.2.2.2.2
      obtain ⟨hO, hg5⟩ := OwnX.step hbT hFT (fun j e => by have := hkw.size; omega) hN
      have hg6 := (hg5 _ (by have := hkw.size; omega) rfl).trans ((hkw.block _ hgl).trans HH.out.2.1)
      have H5 := Lib.hid (And.intro hO hg6)
      clear hkw hT hbT hFT hO hg5 hg6 hgl hN
      go_wp2_with fail
      go_roundg (14 - (k + 1))
      case measure => omega
      case rel => exact ⟨k + 1, by omega, rfl, by go_num, by rw [← Ln_succ HH.out.2.2.2.1, all_0 HH.out.2.2.1 HH.out.2.2.2.1, ← HX.out]; exact H5.out.1, H5.out.2, by omega, by omega⟩
    · have hk14 : k = 14 := by omega
      subst hk14
      have HH := Lib.hid (And.intro how hg)
      clear how hg hR
      go_wp2_with fail
      obtain ⟨g, hg⟩ : ∃ g, g = wr.heap.size := ⟨_, rfl⟩
      rw [← hg]
      go_loopg [34] 16 (N2 w w.heap.size g)
      case atStart =>
        have hsz1 := hsz
        obtain ⟨F, a, b, c⟩ := HH.out.1
        refine ⟨0, by omega, by omega, rfl, ⟨F, a.below (ba _ _), b.trans ((ba _ _).mono b.size), fun j hj => ⟨(c j hj).1, fun e => ?_⟩⟩, ?_, by omega, ?_⟩
        · have := a.lt j hj; have e' : j = g := e; omega
        · rw [hg]; exact alloc_at wr (.cells names.toArray 9)
        · have := a.lt _ a.mine; omega
      case round =>
        obtain ⟨k, hk, rfl, rfl, how, hgb, hgw, hgp⟩ := hrel
        by_cases hlt2 : k < 16
        · have hk0 : k < new1.length := hlt2
          have hk1 : 14 + k < allO.length := by rw [allO_len]; omega
          have e0 := names_at hgb hk0
          have hix := names_ix g k hlt2
          have hgl := (Array.getElem?_eq_some_iff.1 hgb).1
          have H2 := Lib.hid (And.intro how (And.intro hgb (And.intro hk1 hgl)))
          obtain ⟨x, hx⟩ : ∃ x, x = new1[k] := ⟨_, rfl⟩
          rw [← hx] at e0
          have HX := Lib.hid hx
          clear how hgb hgl hx hg
          go_wp2_with fail
          obtain ⟨Fo, hT, hbT, hFT⟩ := H2.out.1
          refine (add_any ⟨x, 1, 700⟩ _ hT (Ln_inv (14 + k)).srt (by rw [HX.out, ← all_1 hk0 H2.out.2.2.1]; exact Ln_is H2.out.2.2.1) (by have := (Ln_inv (14 + k)).len; omega)).mono ?_
          rintro e w5 ⟨rfl, hN⟩
          have hgl := H2.out.2.2.2
          obtain ⟨hO, hg5⟩ := OwnX.step hbT hFT (fun j e => by have e' : j = g := e; omega) hN
          have hg6 := (hg5 _ hgl rfl).trans H2.out.2.1
          have H5 := Lib.hid (And.intro hO hg6)
          clear hT hbT hFT hO hg5 hg6 hgl hN e0 hix
          go_wp2_with fail
          go_roundg (16 - (k + 1))
          case measure => omega
          case rel => exact ⟨k + 1, by omega, rfl, by go_num, by rw [← Nat.add_assoc, ← Ln_succ H2.out.2.2.1, all_1 hk0 H2.out.2.2.1, ← HX.out]; exact H5.out.1, H5.out.2, by omega, by omega⟩
        · have hk16 : k = 16 := by omega
          subst hk16
          have H2 := Lib.hid how
          clear how hgb hg
          go_wp2_with fail
          go_ret
          obtain ⟨F, a, b, c⟩ := H2.out
          refine ⟨w.heap.size, rfl, Nat.le_refl _, F, ?_, b, fun j hj => (c j hj).1⟩
          rw [← Ln_end]; exact a
end Go.Proofs.YtedbcmagjbgbjaaGreatDoor.opk
