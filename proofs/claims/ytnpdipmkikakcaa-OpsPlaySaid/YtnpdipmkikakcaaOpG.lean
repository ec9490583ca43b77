/- slices.Delete over operators. -/
import Derived.Test.YtnpdipmkikakcaaOpF
import Derived.Lib.AppendZeros
import Derived.Laws.CopyOwn
namespace Go.Proofs.Ytnpdipmkikakcaa.opg
open Go.ChangeShapes Go.WideShapes Go.ChangeAt Go.RowKit
open Go.Proofs.Ytnpdipmkikakcaa.kp Go.Proofs.Ytnpdipmkikakcaa.opa Go.Proofs.Ytnpdipmkikakcaa.opb Go.Proofs.Ytnpdipmkikakcaa.opc Go.Proofs.Ytnpdipmkikakcaa.opd Go.Proofs.Ytnpdipmkikakcaa.ope Go.Proofs.Ytnpdipmkikakcaa.opf
set_option linter.unusedVariables false
theorem und : Try.prog.underlying 22 = some (.slice (Try.prog.elem 22)) := by rw [elT]; exact Try.underlying22
/-- a row's block -/
structure Bk (w : World) (g c : Nat) (l : List D) (sp : List Value) : Prop where
  blk : w.heap[g]? = some (.cells (flat l ++ sp).toArray 32 (0, 0))
  len : l.length ≤ c
  cap : c ≤ maxLen
  siz : (flat l ++ sp).length = c * 3
theorem Rw.bk {w : World} {a : Option Addr} {c : Nat} {l : List D} (h : Rw w a c l) (hl : 0 < l.length) : ∃ g sp, a = some ⟨g, 0, none⟩ ∧ Bk w g c l sp := by
  rcases h.2 with ⟨e, h0⟩ | ⟨g, cap, cur, hv, hg0, hgc, h1, h2, h3, h4⟩
  · omega
  injection hv with e1 e2 e3
  subst e1; subst e3
  have e : flat l ++ cur.toList.drop (l.length * 3) = cur.toList := by rw [← h4, List.take_append_drop]
  exact ⟨g, cur.toList.drop (l.length * 3), rfl, by rw [e]; exact hgc, h1, h2, by rw [e]; simpa using h3⟩
theorem Bk.rw {w : World} {g c : Nat} {l : List D} {sp : List Value} (h : Bk w g c l sp) : Rw w (some ⟨g, 0, none⟩) c l :=
  ⟨flat_len l, Or.inr ⟨g, c, _, rfl, Nat.zero_le _, h.blk, h.len, h.cap, by simpa using h.siz, by
    show (flat l ++ sp).take (l.length * 3) = flat l
    rw [← flat_len l, List.take_left]⟩⟩
/-- s[:k] -/
theorem cut_hi (g n c k : Nat) (hk : k ≤ c) : (∀ w, (Instr.slice 22 (.slice (some ⟨g, 0, none⟩) n c) none (some (.int .i64 (k : Int))) none).run Try.prog w = .ok (.slice (some ⟨g, 0, none⟩) k c) w) ∧
    (∀ w, (Instr.sliceAt 22 (.slice (some ⟨g, 0, none⟩) n c) none (some (.int .i64 (k : Int))) none).run Try.prog w = .ok (.slice (some ⟨g, 0, none⟩) k c) w) := by
  have r : ∀ w, (Instr.slice 22 (.slice (some ⟨g, 0, none⟩) n c) none (some (.int .i64 (k : Int))) none).run Try.prog w = .ok (.slice (some ⟨g, 0, none⟩) k c) w := fun w => by
    rw [run_slice_h w 22 _ _ _ und _ _ (by omega) (by omega), elT, szT]
    simp [Result.andThen, sliced, Addr.add]
  exact ⟨r, fun w => by rw [run_sliceAt_slice _ _ _ _ _ _ und, r]⟩
/-- s[k:] -/
theorem cut_lo (g n c k : Nat) (hk : k ≤ n) (hn : n ≤ c) : ∃ ad, (∀ w, (Instr.slice 22 (.slice (some ⟨g, 0, none⟩) n c) (some (.int .i64 (k : Int))) none none).run Try.prog w = .ok (.slice (some ad) (n - k) (c - k)) w) ∧
    (∀ w, (Instr.sliceAt 22 (.slice (some ⟨g, 0, none⟩) n c) (some (.int .i64 (k : Int))) none none).run Try.prog w = .ok (.slice (some ad) (n - k) (c - k)) w) ∧ (k < c → ad = ⟨g, k * 3, none⟩) := by
  obtain ⟨ad, had⟩ : ∃ ad, ad = (if k = c then (⟨g, 0, none⟩ : Addr) else (⟨g, 0, none⟩ : Addr).add (k * 3)) := ⟨_, rfl⟩
  have r : ∀ w, (Instr.slice 22 (.slice (some ⟨g, 0, none⟩) n c) (some (.int .i64 (k : Int))) none none).run Try.prog w = .ok (.slice (some ad) (n - k) (c - k)) w := fun w => by
    rw [run_slice_l w 22 _ _ _ und _ _ (by omega) (by omega), elT, szT, had]
    by_cases e : k = c
    · simp [Result.andThen, sliced, e]
    · simp [Result.andThen, sliced, e, Ne.symm e]
  refine ⟨ad, r, fun w => by rw [run_sliceAt_slice _ _ _ _ _ _ und, r], fun q => ?_⟩
  rw [had, if_neg (by omega)]
  have := addm g 0 k
  rw [Nat.zero_mul, Nat.zero_add] at this
  exact this
theorem cut_lh (g n c k m : Nat) (hk : k ≤ m) (hm : m ≤ c) (hkc : k < c) : (∀ w, (Instr.slice 22 (.slice (some ⟨g, 0, none⟩) n c) (some (.int .i64 (k : Int))) (some (.int .i64 (m : Int))) none).run Try.prog w = .ok (.slice (some ⟨g, k * 3, none⟩) (m - k) (c - k)) w) ∧
    (∀ w, (Instr.sliceAt 22 (.slice (some ⟨g, 0, none⟩) n c) (some (.int .i64 (k : Int))) (some (.int .i64 (m : Int))) none).run Try.prog w = .ok (.slice (some ⟨g, k * 3, none⟩) (m - k) (c - k)) w) := by
  have e := addm g 0 k
  rw [Nat.zero_mul, Nat.zero_add] at e
  have r : ∀ w, (Instr.slice 22 (.slice (some ⟨g, 0, none⟩) n c) (some (.int .i64 (k : Int))) (some (.int .i64 (m : Int))) none).run Try.prog w = .ok (.slice (some ⟨g, k * 3, none⟩) (m - k) (c - k)) w := fun w => by
    rw [run_slice_lh w 22 _ _ _ und _ _ _ _ (by omega) (by omega) (by omega), elT, szT]
    simp [Result.andThen, sliced, e, show ¬ c = k by omega]
  exact ⟨r, fun w => by rw [run_sliceAt_slice _ _ _ _ _ _ und, r]⟩
theorem cut_lhm (g n c k : Nat) (hk : k < n) (hn : n ≤ c) : ∃ v, (∀ w, (Instr.slice 22 (.slice (some ⟨g, 0, none⟩) n c) (some (.int .i64 (k : Int))) (some (.int .i64 ((k : Int) + 1))) (some (.int .i64 (n : Int)))).run Try.prog w = .ok v w) ∧
    (∀ w, (Instr.sliceAt 22 (.slice (some ⟨g, 0, none⟩) n c) (some (.int .i64 (k : Int))) (some (.int .i64 ((k : Int) + 1))) (some (.int .i64 (n : Int)))).run Try.prog w = .ok v w) := by
  have r := fun w => run_slice_lhm (P := Try.prog) w 22 (some ⟨g, 0, none⟩) n c und .i64 .i64 .i64 (k : Int) ((k : Int) + 1) (n : Int) (by omega) (by omega) (by omega) (by omega)
  simp only [elT, szT, Result.andThen] at r
  exact ⟨_, r, fun w => by rw [run_sliceAt_slice _ _ _ _ _ _ und, r]⟩
theorem zc (m : Nat) : (Builtin.zeroCells ZV.cells m).toList = flat (List.replicate m ⟨[], 0, 0⟩) := by
  apply List.ext_getElem?
  intro j
  have hl : (flat (List.replicate m (⟨[], 0, 0⟩ : D))).length = m * 3 := by rw [flat_len, List.length_replicate]
  have hm : (Builtin.zeroCells ZV.cells m).toList.length = m * 3 := by rw [Array.length_toList, size_zeroCells]; rfl
  by_cases hj : j < m * 3
  · obtain ⟨q, i, hi, rfl⟩ : ∃ q i, i < 3 ∧ j = q * 3 + i := ⟨j / 3, j % 3, Nat.mod_lt _ (by omega), by omega⟩
    have h1 := flat_at (A := List.replicate m (⟨[], 0, 0⟩ : D)) (m := q) (by rw [List.length_replicate]; omega) [] hi
    rw [List.append_nil] at h1
    rw [h1, List.getElem_replicate]
    have e : (q * 3 + i) % 3 = i := by omega
    have hr : (Builtin.zeroCells ZV.cells m)[q * 3 + i]? = some (ZV.cells[i]!) := by
      unfold Builtin.zeroCells
      have hz : ZV.cells.size = 3 := rfl
      rw [Array.getElem?_map, Array.getElem?_range, hz, if_pos hj, Option.map_some, e]
    have hr2 : (Builtin.zeroCells ZV.cells m).toList[q * 3 + i]? = some (ZV.cells[i]!) := (Array.getElem?_toList).trans hr
    rw [hr2]
    match i, hi with
    | 0, _ => rfl
    | 1, _ => rfl
    | 2, _ => rfl
    | i + 3, hi => omega
  · rw [List.getElem?_eq_none (by omega), List.getElem?_eq_none (by omega)]
theorem run_clear3 (w : World) (ty : TypeId) (g o c : Nat) (cur : Array Value) (t : TypeId)
    (hg : w.heap[g]? = some (.cells cur t (0, 0))) (hfit : o + 3 ≤ cur.size) :
    (Builtin.clear_ #[22] ty #[.slice (some ⟨g, o, none⟩) 1 c]).run Try.prog w =
      .ok (.tuple #[]) (w.setRow g (cur.toList.take o ++ D.cs ⟨[], 0, 0⟩ ++ cur.toList.drop (o + 3)).toArray) := by
  have hst := run_storeCells_at Try.prog g o t (D.cs ⟨[], 0, 0⟩) 0 cur w hg (by simpa [D.cs] using hfit) (fun v hv => by
    simp only [D.cs, List.mem_cons, List.not_mem_nil, or_false] at hv
    rcases hv with rfl | rfl | rfl <;> rfl)
  have hz : ∀ w, (zeroValue 32).run Try.prog w = .ok ZV w := zero_run
  have hu : Try.prog.underlying 22 = some (.slice 32) := Try.underlying22
  have z1 : (Builtin.zeroCells ZV.cells 1).toList = D.cs ⟨[], 0, 0⟩ := by rw [zc]; rfl
  have hl : (D.cs ⟨[], 0, 0⟩).length = 3 := rfl
  rw [Nat.add_zero, hl] at hst
  simp only [Builtin.clear_]
  simp [run_underlying hu, hz, z1, hst]
theorem setRow_keep (w : World) (g : Nat) (cs : Array Value) : Keep (fun k => k = g) w (w.setRow g cs) := ⟨rfl, rfl, rfl, by simp [World.setRow], fun k _ hk => setRow_other w g k _ hk⟩
/-- the two steps of Delete upon a row -/
theorem del_run {w : World} {g c m q : Nat} {l : List D} {sp : List Value} (h : Bk w g c l sp) (hm : m ≤ q) (hq : l.length = q + 1) (ad : Addr) (had : m + 1 < c → ad = ⟨g, (m + 1) * 3, none⟩) (r cr : Nat) (hr : r = l.length - (m + 1)) :
    ∃ w1 w2, (∀ ty, (Builtin.append_ #[22, 22] ty #[.slice (some ⟨g, 0, none⟩) m c, .slice (some ad) r cr]).run Try.prog w = .ok (.slice (some ⟨g, 0, none⟩) q c) w1) ∧
      (∀ ty cc, (Builtin.clear_ #[22] ty #[.slice (some ⟨g, q * 3, none⟩) 1 cc]).run Try.prog w1 = .ok (.tuple #[]) w2) ∧ Rw w2 (some ⟨g, 0, none⟩) c (l.take m ++ l.drop (m + 1)) ∧ Keep (fun k => k = g) w w2 := by
  obtain ⟨i, hi1, hi2, hi3, hi4⟩ := info_o
  have hu : Try.prog.underlying 22 = some (.slice 32) := Try.underlying22
  have hlen := h.len
  have hrl : (l.drop (m + 1)).length = r := by rw [List.length_drop, hr]
  have hnl : (flat (l.drop (m + 1))).length = r * 3 := by rw [flat_len, hrl]
  have hnews : ∀ j u, (flat (l.drop (m + 1)))[j]? = some u → w.cell? (ad.add j) = some u := by
    intro j u hj
    have hjl : j < r * 3 := by have := (List.getElem?_eq_some_iff.1 hj).1; rwa [hnl] at this
    rw [had (by omega)]
    have e : (⟨g, (m + 1) * 3, none⟩ : Addr).add j = ⟨g, (m + 1) * 3 + j, none⟩ := by unfold Addr.add; split <;> simp_all
    rw [e, ← flat_drop, List.getElem?_drop] at *
    simp only [World.cell?, h.blk]
    rw [← List.getElem?_append_left (l₂ := sp) (by rw [flat_len]; omega)] at hj
    simpa using hj
  have r1 := fun ty => run_append_room (P := Try.prog) w 22 ty 32 i hu hi1 g m c (flat l ++ sp).toArray h.blk ad r cr (flat (l.drop (m + 1))) (by rw [hnl, hi3]) hnews (flat_one _) (by omega) (by rw [hnl, hi3]; have := h.siz; simp only [List.size_toArray, this]; omega)
  rw [hi3, show m + r = q by omega] at r1
  have hB1 := setRow_heap w g (flat l ++ sp).toArray ((flat l ++ sp).toArray.toList.take (m * 3) ++ flat (l.drop (m + 1)) ++ (flat l ++ sp).toArray.toList.drop (m * 3 + (flat (l.drop (m + 1))).length)).toArray 32 _ h.blk
  obtain ⟨w1, hw1⟩ : ∃ w1, w1 = w.setRow g ((flat l ++ sp).toArray.toList.take (m * 3) ++ flat (l.drop (m + 1)) ++ (flat l ++ sp).toArray.toList.drop (m * 3 + (flat (l.drop (m + 1))).length)).toArray := ⟨_, rfl⟩
  rw [← hw1] at r1 hB1
  have k1 : Keep (fun k => k = g) w w1 := by rw [hw1]; exact setRow_keep _ _ _
  have e1 : (flat l ++ sp).toArray.toList.take (m * 3) ++ flat (l.drop (m + 1)) ++ (flat l ++ sp).toArray.toList.drop (m * 3 + (flat (l.drop (m + 1))).length) = flat (l.take m ++ l.drop (m + 1)) ++ (flat l ++ sp).drop (q * 3) := by
    show (flat l ++ sp).take (m * 3) ++ _ ++ (flat l ++ sp).drop _ = _
    rw [List.take_append_of_le_length (by rw [flat_len]; omega), flat_take, flat_append, hnl]
    congr 2; omega
  rw [e1] at hB1
  have hql : (flat (l.take m ++ l.drop (m + 1))).length = q * 3 := by rw [flat_len, List.length_append, List.length_take, hrl]; congr 1; omega
  have hdl : ((flat l ++ sp).drop (q * 3)).length = (c - q) * 3 := by rw [List.length_drop, h.siz]; omega
  have r2 := fun ty cc => run_clear3 w1 ty g (q * 3) cc _ 32 hB1 (by simp only [List.size_toArray, List.length_append, hql, hdl]; omega)
  have hB2 := setRow_heap w1 g _ ((flat (l.take m ++ l.drop (m + 1)) ++ (flat l ++ sp).drop (q * 3)).toArray.toList.take (q * 3) ++ D.cs ⟨[], 0, 0⟩ ++ (flat (l.take m ++ l.drop (m + 1)) ++ (flat l ++ sp).drop (q * 3)).toArray.toList.drop (q * 3 + 3)).toArray 32 _ hB1
  obtain ⟨w2, hw2⟩ : ∃ w2, w2 = w1.setRow g ((flat (l.take m ++ l.drop (m + 1)) ++ (flat l ++ sp).drop (q * 3)).toArray.toList.take (q * 3) ++ D.cs ⟨[], 0, 0⟩ ++ (flat (l.take m ++ l.drop (m + 1)) ++ (flat l ++ sp).drop (q * 3)).toArray.toList.drop (q * 3 + 3)).toArray := ⟨_, rfl⟩
  rw [← hw2] at r2 hB2
  have k2 : Keep (fun k => k = g) w1 w2 := by rw [hw2]; exact setRow_keep _ _ _
  have e2 : (flat (l.take m ++ l.drop (m + 1)) ++ (flat l ++ sp).drop (q * 3)).toArray.toList.take (q * 3) ++ D.cs ⟨[], 0, 0⟩ ++ (flat (l.take m ++ l.drop (m + 1)) ++ (flat l ++ sp).drop (q * 3)).toArray.toList.drop (q * 3 + 3) = flat (l.take m ++ l.drop (m + 1)) ++ (D.cs ⟨[], 0, 0⟩ ++ (flat l ++ sp).drop (q * 3 + 3)) := by
    show (flat (l.take m ++ l.drop (m + 1)) ++ (flat l ++ sp).drop (q * 3)).take (q * 3) ++ D.cs ⟨[], 0, 0⟩ ++ (flat (l.take m ++ l.drop (m + 1)) ++ (flat l ++ sp).drop (q * 3)).drop (q * 3 + 3) = _
    rw [← hql, List.take_left, List.append_assoc]
    congr 2
    rw [← List.drop_drop, List.drop_left, List.drop_drop]
  rw [e2] at hB2
  refine ⟨w1, w2, r1, r2, Bk.rw (sp := D.cs ⟨[], 0, 0⟩ ++ (flat l ++ sp).drop (q * 3 + 3)) ⟨hB2, ?_, h.cap, ?_⟩, k1.trans k2 fun _ => Or.inl⟩
  · rw [List.length_append, List.length_take, hrl]; omega
  · rw [List.length_append, hql, List.length_append, List.length_drop, h.siz]; simp [D.cs]; omega
set_option maxRecDepth 100000 in
set_option maxHeartbeats 4000000 in
theorem delete_any {w : World} {a : Option Addr} {c m : Nat} {l : List D} (h : Rw w a c l) (hm : m < l.length) (hl : l.length ≤ 1000) :
    Calls Try.prog 30 #[.slice a l.length c, .int .i64 (m : Int), .int .i64 ((m : Int) + 1)] w fun e w' => e = .returned (.slice a (l.length - 1 : Nat) c) ∧ Rw w' a c (l.take m ++ l.drop (m + 1)) ∧ Keep (fun k => (Value.slice a l.length c).ownBlock = some k) w w' := by
  obtain ⟨g, sp, rfl, hb⟩ := Rw.bk h (by omega)
  obtain ⟨q, hq⟩ : ∃ q, q + 1 = l.length := ⟨l.length - 1, by omega⟩
  obtain ⟨v1, s1, s2⟩ := cut_lhm g l.length c m hm hb.len
  have s3 := (cut_hi g l.length c m (by have := hb.len; omega)).1
  obtain ⟨ad, s5, s6, had⟩ := cut_lo g l.length c (m + 1) (by omega) hb.len
  obtain ⟨r, hr⟩ : ∃ r, r = l.length - (m + 1) := ⟨_, rfl⟩
  obtain ⟨cr, hcr⟩ : ∃ cr, cr = c - (m + 1) := ⟨_, rfl⟩
  have s7 := (cut_lh g q c q l.length (by omega) hb.len (by have := hb.len; omega)).1
  rw [← hr, ← hcr] at s5 s6
  have e1 : ((m + 1 : Nat) : Int) = (m : Int) + 1 := by omega
  rw [e1] at s5 s6
  have e2 : l.length - q = 1 := by omega
  rw [e2] at s7
  have hne : ((m : Int) == (m : Int) + 1) = false := by rw [beq_eq_false_iff_ne]; omega
  have hlr : l.length ≤ 1000 := hl
  have HH := Lib.hid (And.intro hb (And.intro hq (And.intro had (And.intro hr hcr))))
  clear h hb hq had hr hcr e1 e2
  go_enter Try.func30, Try.ntmps30
  go_wp2_with fail
  go_still_tail 6, (by kernel_rfl)
  change wpList _ _ _ _ _ w.drew
  have hbd : Bk w.drew g c l sp := ⟨HH.out.1.blk, HH.out.1.len, HH.out.1.cap, HH.out.1.siz⟩
  obtain ⟨w1, w2, r1, r2, hr, hk⟩ := del_run hbd (m := m) (q := q) (by have := HH.out.2.1; omega) HH.out.2.1.symm ad HH.out.2.2.1 r cr HH.out.2.2.2.1
  have H2 := Lib.hid (And.intro hr ((Keep.drew (fun k => k = g) w).trans hk fun _ => Or.inl))
  clear hbd hr hk
  go_wp2_with (at_builtin; refine Lib.wpList_append_run _ rfl _ _ _ _ rfl _ _ rfl rfl _ _ (r1 _) ?_)
  go_ret
  have hlq : l.length - 1 = q := by have := HH.out.2.1; omega
  exact ⟨by rw [hlq]; rfl, H2.out.1, H2.out.2.mono fun k e => by rw [e]; rfl⟩
end Go.Proofs.Ytnpdipmkikakcaa.opg
