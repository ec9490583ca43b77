/- The project's Put: with a map, without one, of nothing. -/
import Derived.Test.YtibepkljcofpdaaPPD
import Derived.Test.YtibepkljcofpdaaMeas
import Derived.Test.YtibepkljcofpdaaRPutE
namespace Go.Proofs.Ytibepkljcofpdaa.ppt
set_option linter.unusedVariables false
open Go.ChangeShapes Go.WideShapes Go.ChangeAt Go.RowKit Go.Maps
open Go.Proofs.Ytibepkljcofpdaa.hp Go.Proofs.Ytibepkljcofpdaa.cel Go.Proofs.Ytibepkljcofpdaa.kp Go.Proofs.Ytibepkljcofpdaa.ob Go.Proofs.Ytibepkljcofpdaa.pm Go.Proofs.Ytibepkljcofpdaa.tm Go.Proofs.Ytibepkljcofpdaa.lie
open Go.Proofs.Ytibepkljcofpdaa.atm (nv ne nx Tab)
open Go.Proofs.Ytibepkljcofpdaa.rpt (CK CK_ne law zeroC VM VO frV putT HB frHB)
theorem qV (w : World) (r : Option Nat) : (binOp .eql 34 (.map r) (.map none)).run Try.prog w = .ok (.bool r.isNone) w := run_eql_map_nil w _ _ _ r Try.underlying34
theorem BT_cells {w : World} {k : Int} {n : ByteArray} {i re im : Int} {a : Option Addr} {len c : Nat} : (w.alloc (rpt.BT k n i re im a len c)).cell? ⟨w.heap.size, 0, none⟩ = some (.int .i64 k) ∧ (w.alloc (rpt.BT k n i re im a len c)).cell? ⟨w.heap.size, 1, none⟩ = some (.string n) ∧ (w.alloc (rpt.BT k n i re im a len c)).cell? ⟨w.heap.size, 2, none⟩ = some (.int .i64 i) ∧ (w.alloc (rpt.BT k n i re im a len c)).cell? ⟨w.heap.size, 3, none⟩ = some (.int .u64 re) ∧ (w.alloc (rpt.BT k n i re im a len c)).cell? ⟨w.heap.size, 4, none⟩ = some (.int .u64 im) ∧ (w.alloc (rpt.BT k n i re im a len c)).cell? ⟨w.heap.size, 5, none⟩ = some (.slice a len c) := by
  have h := kp.alloc_at w (rpt.BT k n i re im a len c)
  refine ⟨?_, ?_, ?_, ?_, ?_, ?_⟩ <;> (simp only [World.cell?, h]; rfl)
section
variable {p q mb : Nat} {m : Int} {s : S} {w wr : World} {N : Nat → Prop}
theorem XX.swap {C D : Ob} {w0 : World} (h : XX w0 N p q mb m s (Tim C D) wr) : XX w0 N p q mb m s (Tim D C) wr := h.imp fun _ a => a.swap
/-- the object and what stands beside, as one to begin with -/
theorem XX.split {C : Ob} (fC : Fr C) {w0 : World} (h : XX w0 N p q mb m s C wr) : ∃ K, Tim (PB p q mb m s) C wr K ∧ kp.Keep N w0 wr ∧ ∀ i, K i → N i ∨ w0.heap.size ≤ i := by
  obtain ⟨K, a, k, sub⟩ := h
  exact ⟨K, a, k, sub⟩
set_option maxRecDepth 100000 in
set_option maxHeartbeats 2000000 in
theorem pPut_any (t : Tm) (vt : Value) (h : PB p q mb m s w N) (ht : Lies N w t vt) (ha : s.a.length + size t ≤ 4096) (hv : s.v.length + size t ≤ 900000) (R : Int × Int × S) (hR : R = putT m t s) :
    Calls Try.prog 16 #[.pointer (some ⟨p, 0, none⟩), .pointer (some ⟨q, 0, none⟩), vt, .map (some mb)] w fun e w' => e = .returned (.tuple #[.int .u64 R.1, .int .i64 R.2.1]) ∧ Nx (PB p q mb m R.2.2) w N w' := by
  have HT := Lib.hid ht
  obtain ⟨T, hT⟩ : ∃ T, T = t := ⟨_, rfl⟩
  rw [← hT] at HT ha hv hR
  obtain ⟨k, n, i, re, im, l⟩ := t
  rw [Lies] at ht
  obtain ⟨a, c, rfl, hf, hr⟩ := ht
  have X1 := Lib.hid (XX.start h (rpt.BT k n i re im a l.length c))
  have HN := Lib.hid (And.intro ha hv)
  have hmay := fun w' (b : Below w.heap.size w w') => mes.may_any T _ w' ((HT.out.off (Y := No) (fun _ _ h => h.elim)).below b)
  have hnil : ∀ w' : World, (binOp .eql 34 (.map (some mb)) (.map none)).run Try.prog w' = .ok (.bool false) w' := fun w' => qV w' (some mb)
  have hb1 := kp.ba w (rpt.BT k n i re im a l.length c)
  clear h hf hr hT ha hv
  by_cases hg : may T = 0
  · have hput := Lib.hid (show R = put m T (-1) s by rw [hR]; unfold putT; rw [if_pos hg])
    have HS := Lib.hid (good_sound ((may_iff T).1 hg))
    rw [hg] at hmay
    clear hg hR
    go_enter Try.func16, Try.ntmps16
    go_wp2_with fail
    refine (hmay _ hb1).mono ?_; rintro e w2 ⟨rfl, hb2⟩
    have x2 := X1.out.below (Fr.blk _ _) hb2
    obtain ⟨y0, y1, y2, y3, y4, y5⟩ := XX.cells x2
    have hs2 : w.heap.size < w2.heap.size := by have := hb2.size; rw [kp.alloc_size] at this; omega
    have x3 : XX w N p q mb m s (Blk w2.heap.size (PC p q mb)) (w2.alloc (PC p q mb)) := (x2.alloc (Fr.blk _ _) (PC p q mb)).swap.less
    obtain ⟨K, aK, kK, subK⟩ := x3.split (Fr.blk _ _)
    have hlay := lay_any T _ aK (Lies.keep kK (Y := K) (fun b hb hK => (subK b hK).resolve_right (by omega)) _ _ HT.out) HS.out HN.out.1 HN.out.2 R hput.out.symm
    have UP := Lib.hid (fun w' (nn : Nx (Tim (PB p q mb m R.2.2) (Blk w2.heap.size (PC p q mb))) (w2.alloc (PC p q mb)) K w') => XX.drop (C := Blk w2.heap.size (PC p q mb)) (Nx.trans kK subK nn))
    unfold PC at hlay
    clear hmay hb1 hb2 x2 X1 x3 aK kK subK
    go_wp2_with fail
    refine hlay.mono ?_; rintro e w5 ⟨rfl, nn⟩
    have X5 := Lib.hid (UP.out _ nn)
    clear hlay nn UP y0 y1 y2 y3 y4 y5
    go_wp2_with fail
    go_ret2
    exact ⟨rfl, X5.out⟩
  · have hput := Lib.hid (show R = (0, may T, s) by rw [hR]; unfold putT; rw [if_neg hg])
    have hb : (may T != 0) = true := by simpa using hg
    clear hg hR
    go_enter Try.func16, Try.ntmps16
    go_wp2_with fail
    refine (hmay _ hb1).mono ?_; rintro e w2 ⟨rfl, hb2⟩
    have X2 := Lib.hid (X1.out.below (Fr.blk _ _) hb2)
    clear hb2 X1 hmay
    go_wp2_with fail
    go_ret2
    rw [hput.out]
    exact ⟨rfl, X2.out.drop⟩
/-- without a map -/
theorem new_map {h0 : List Int} {a0 : List ByteArray} (h : Tim (HB TH p h0 m) (PO q a0) w N) (b : Below w.heap.size w wr) : Nx (PB p q wr.heap.size m ⟨h0, a0, []⟩) w N (wr.alloc (.map #[] 0)) := by
  have h1 := (frHB.tim frPO).below h b
  have hlt := (frHB.tim frPO).lt h
  have hs := b.size
  obtain ⟨K, M, k, mm, d, e⟩ := h1
  refine ⟨fun i => K i ∨ (M i ∨ i = wr.heap.size), ⟨K, fun i => M i ∨ i = wr.heap.size, frHB.below k (kp.ba _ _), ⟨M, fun i => i = wr.heap.size, frPO.below mm (kp.ba _ _), ⟨⟨.map [], World.ownsMap_made wr Try.prog 2 _, VM.nil, rfl⟩, fun _ => Iff.rfl⟩, fun i h1 h2 => ?_, fun _ => Iff.rfl⟩, fun i h1 h2 => ?_, fun _ => Iff.rfl⟩, (Keep.of_below b).trans (Keep.of_below (F := fun _ => False) (kp.ba _ _)) (fun _ h => h.elim), fun i hi => ?_⟩
  · have := hlt i ((e i).2 (Or.inr h1)); omega
  · rcases h2 with h2 | h2
    · exact d i h1 h2
    · have := hlt i ((e i).2 (Or.inl h1)); omega
  · rcases hi with hi | hi | hi
    · exact Or.inl ((e i).2 (Or.inl hi))
    · exact Or.inl ((e i).2 (Or.inr hi))
    · exact Or.inr (by omega)
theorem PB.less {A : World} {w' : World} (h : Nx (PB p q mb m s) A N w') : Nx (Tim (HB TH p s.h m) (PO q s.a)) A N w' := by
  obtain ⟨K', ⟨K, M, a, ⟨K2, M2, b, c, d2, e2⟩, d, e⟩, k, sub⟩ := h
  exact ⟨fun i => K i ∨ K2 i, ⟨K, K2, a, b, fun i h1 h2 => d i h1 ((e2 i).2 (Or.inl h2)), fun _ => Iff.rfl⟩, k, fun i hi => sub i ((e i).2 (hi.imp id fun h => (e2 i).2 (Or.inl h)))⟩
set_option maxRecDepth 100000 in
set_option maxHeartbeats 2000000 in
theorem pPut_new {h0 : List Int} {a0 : List ByteArray} (t : Tm) (vt : Value) (h : Tim (HB TH p h0 m) (PO q a0) w N) (ht : Lies N w t vt) (ha : a0.length + size t ≤ 4096) (R : Int × Int × S) (hR : R = putT m t ⟨h0, a0, []⟩) :
    Calls Try.prog 16 #[.pointer (some ⟨p, 0, none⟩), .pointer (some ⟨q, 0, none⟩), vt, .map none] w fun e w' => e = .returned (.tuple #[.int .u64 R.1, .int .i64 R.2.1]) ∧ Nx (Tim (HB TH p R.2.2.h m) (PO q R.2.2.a)) w N w' := by
  have HT := Lib.hid ht
  obtain ⟨T, hT⟩ : ∃ T, T = t := ⟨_, rfl⟩
  rw [← hT] at HT ha hR
  obtain ⟨k, n, i, re, im, l⟩ := t
  rw [Lies] at ht
  obtain ⟨a, c, rfl, hf, hr⟩ := ht
  have HH := Lib.hid h
  have HN := Lib.hid (show a0.length + size T ≤ 4096 ∧ ([] : List (Int × Int)).length + size T ≤ 900000 by simp; omega)
  have hmay := fun w' (b : Below w.heap.size w w') => mes.may_any T _ w' ((HT.out.off (Y := No) (fun _ _ h => h.elim)).below b)
  have hnil : ∀ w' : World, (binOp .eql 34 (.map none) (.map none)).run Try.prog w' = .ok (.bool true) w' := fun w' => qV w' none
  have hmm := @run_makeMap Try.prog
  have hb1 := kp.ba w (rpt.BT k n i re im a l.length c)
  clear hf hr hT ha h
  by_cases hg : may T = 0
  · have hput := Lib.hid (show R = put m T (-1) ⟨h0, a0, []⟩ by rw [hR]; unfold putT; rw [if_pos hg])
    have HS := Lib.hid (good_sound ((may_iff T).1 hg))
    rw [hg] at hmay
    clear hg hR
    go_enter Try.func16, Try.ntmps16
    go_wp2_with fail
    refine (hmay _ hb1).mono ?_; rintro e w2 ⟨rfl, hb2⟩
    have hbb : Below w.heap.size w w2 := hb1.trans (hb2.mono hb1.size)
    have hc6 := (BT_cells (w := w) (k := k) (n := n) (i := i) (re := re) (im := im) (a := a) (len := l.length) (c := c)) 
    have hcell : ∀ j x, (w.alloc (rpt.BT k n i re im a l.length c)).cell? ⟨w.heap.size, j, none⟩ = some x → w2.cell? ⟨w.heap.size, j, none⟩ = some x := fun j x hx => (hb2.cell (p := ⟨w.heap.size, j, none⟩) (by rw [kp.alloc_size]; exact Nat.lt_succ_self _)).trans hx
    obtain ⟨y0, y1, y2, y3, y4, y5⟩ := hc6
    have y0 := hcell _ _ y0
    have y1 := hcell _ _ y1
    have y2 := hcell _ _ y2
    have y3 := hcell _ _ y3
    have y4 := hcell _ _ y4
    have y5 := hcell _ _ y5
    have x2 : XX w N p q w2.heap.size m ⟨h0, a0, []⟩ Nob (w2.alloc (.map #[] 0)) := by
      obtain ⟨K, a, k, sub⟩ := new_map HH.out hbb
      exact ⟨K, ⟨K, fun _ => False, a, fun _ => id, fun _ _ => id, fun i => by simp⟩, k, sub⟩
    have x3 : XX w N p q w2.heap.size m ⟨h0, a0, []⟩ (Blk (w2.alloc (.map #[] 0)).heap.size (PC p q w2.heap.size)) ((w2.alloc (.map #[] 0)).alloc (PC p q w2.heap.size)) := (x2.alloc Fr.nob (PC p q w2.heap.size)).swap.less
    obtain ⟨K, aK, kK, subK⟩ := x3.split (Fr.blk _ _)
    have hlay := lay_any T _ aK (Lies.keep kK (Y := K) (fun b hb hK => (subK b hK).resolve_right (by omega)) _ _ HT.out) HS.out HN.out.1 HN.out.2 R hput.out.symm
    have hs2 : w.heap.size < w2.heap.size := by have := hb2.size; rw [kp.alloc_size] at this; omega
    rw [kp.alloc_size] at hlay
    have UP := Lib.hid (fun w' (nn : Nx (Tim (PB p q w2.heap.size m R.2.2) (Blk (w2.heap.size + 1) (PC p q w2.heap.size))) ((w2.alloc (.map #[] 0)).alloc (PC p q w2.heap.size)) K w') => PB.less (XX.drop (C := Blk (w2.heap.size + 1) (PC p q w2.heap.size)) (Nx.trans kK subK nn)))
    unfold PC at hlay
    clear hmay hb1 hb2 x2 x3 aK kK subK hbb hcell
    go_wp2_with fail
    refine hlay.mono ?_; rintro e w5 ⟨rfl, nn⟩
    have X5 := Lib.hid (UP.out _ nn)
    clear hlay nn UP y0 y1 y2 y3 y4 y5
    go_wp2_with fail
    go_ret2
    exact ⟨rfl, X5.out⟩
  · have hput := Lib.hid (show R = (0, may T, ⟨h0, a0, []⟩) by rw [hR]; unfold putT; rw [if_neg hg])
    have hb : (may T != 0) = true := by simpa using hg
    clear hg hR
    go_enter Try.func16, Try.ntmps16
    go_wp2_with fail
    refine (hmay _ hb1).mono ?_; rintro e w2 ⟨rfl, hb2⟩
    have X2 := Lib.hid (show Nx (Tim (HB TH p h0 m) (PO q a0)) w N w2 from Nx.below (frHB.tim frPO) (Nx.same HH.out) (hb1.trans (hb2.mono hb1.size)))
    clear hb2 hb1 hmay
    go_wp2_with fail
    go_ret2
    rw [hput.out]
    exact ⟨rfl, X2.out⟩
/-- of no heap, no names -/
theorem pPut_nil1 (q : Option Addr) (v3 : Value) {k : Int} {n : ByteArray} {i re im : Int} {a : Option Addr} {l c : Nat} (w : World) : Calls Try.prog 16 #[.pointer none, .pointer q, .agg #[.int .i64 k, .string n, .int .i64 i, .int .u64 re, .int .u64 im, .slice a l c], v3] w fun e w' => e = .returned (.tuple #[.int .u64 0, .int .i64 1]) ∧ Below w.heap.size w w' := by
  have hb := kp.ba w (rpt.BT k n i re im a l c)
  go_enter Try.func16, Try.ntmps16
  go_wp2_with fail
  go_ret2
  exact ⟨rfl, hb⟩
theorem pPut_nil2 (p : Addr) (v3 : Value) {k : Int} {n : ByteArray} {i re im : Int} {a : Option Addr} {l c : Nat} (w : World) : Calls Try.prog 16 #[.pointer (some p), .pointer none, .agg #[.int .i64 k, .string n, .int .i64 i, .int .u64 re, .int .u64 im, .slice a l c], v3] w fun e w' => e = .returned (.tuple #[.int .u64 0, .int .i64 1]) ∧ Below w.heap.size w w' := by
  have hb := kp.ba w (rpt.BT k n i re im a l c)
  go_enter Try.func16, Try.ntmps16
  go_wp2_with fail
  go_ret2
  exact ⟨rfl, hb⟩
end
end Go.Proofs.Ytibepkljcofpdaa.ppt
