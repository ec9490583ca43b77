/- Package term: measure, May, Nodes, Depth. -/
import Derived.Test.YtibepkljcofpdaaCur
import Derived.Test.YtibepkljcofpdaaMay
import Derived.Deep.LoopGhost
namespace Go.Proofs.Ytibepkljcofpdaa.mes
set_option linter.unusedVariables false
open Go.ChangeShapes Go.WideShapes Go.ChangeAt Go.RowKit
open Go.Proofs.Ytibepkljcofpdaa.tm Go.Proofs.Ytibepkljcofpdaa.lie Go.Proofs.Ytibepkljcofpdaa.kp Go.Proofs.Ytibepkljcofpdaa.wlk Go.Proofs.Ytibepkljcofpdaa.cur Go.Proofs.Ytibepkljcofpdaa.may
theorem mayNode_t {X : Nat → Prop} (k : Int) (n : ByteArray) (i re im : Int) (a : Option Addr) (len c : Nat) (t : Tm) (w w0 : World) (h : Lies X w0 t (.agg #[.int .i64 k, .string n, .int .i64 i, .int .u64 re, .int .u64 im, .slice a len c])) (e0 : Int) (he : chk t = e0) :
    Calls Try.prog 80 #[.agg #[.int .i64 k, .string n, .int .i64 i, .int .u64 re, .int .u64 im, .slice a len c]] w fun e w' => e = .returned (.int .i64 e0) ∧ Below w.heap.size w w' := by
  obtain ⟨k', n', i', re', im', l⟩ := t
  rw [Lies] at h
  obtain ⟨a', c', hv, hf, _⟩ := h
  simp only [Value.agg.injEq, Array.mk.injEq, List.cons.injEq, Value.int.injEq, Value.string.injEq, Value.slice.injEq, and_true, true_and] at hv
  obtain ⟨rfl, rfl, rfl, rfl, rfl, rfl, rfl, rfl⟩ := hv
  rw [← he, ← chkv_chk]
  exact mayNode_any _ _ _ _ _ _ _ _ w hf
def Tell (t : Tm) (w : World) (e : Ending) (w' : World) : Prop :=
  e = .returned (.tuple #[.int .i64 (nodes t), .int .i64 (depth t), .int .i64 (may t)]) ∧ Below w.heap.size w w'
theorem tell_mk {t : Tm} {w w' : World} (n m e : Int) (h : meas (pre 1 t) 0 0 = (n, m, e)) (hb : Below w.heap.size w w') : Tell t w (.returned (.tuple #[.int .i64 n, .int .i64 m, .int .i64 e])) w' := by
  refine ⟨?_, hb⟩
  simp only [nodes, depth, may, h]
/-- the loop: what is still to come, what has been counted -/
def Rel (B r p : Nat) (w : World) (t : Tm) (g : Nat) (s5 s6 s8 s9 s10 : Value) (wr : World) : Prop :=
  ∃ (L : List (Tm × Nat)) (n m nb : Nat) (k0 : Int) (n0 : ByteArray) (i0 re0 im0 : Int) (a0 : Option Addr) (l0 c0 : Nat) (d : Int) (b : Bool), g = L.length ∧ s5 = .int .i64 n ∧ s6 = .int .i64 m ∧ s8 = .pointer (some ⟨nb, 0, none⟩) ∧ s9 = .int .i64 d ∧ s10 = .bool b ∧
    Cur B r L p wr nb k0 n0 i0 re0 im0 a0 l0 c0 d b ∧ Below B w wr ∧ n ≤ 2000 ∧ m ≤ 500 ∧ meas L n m = meas (pre 1 t) 0 0
set_option maxRecDepth 100000 in
set_option maxHeartbeats 1000000 in
theorem measure_any (t : Tm) (v : Value) (w : World) (ht : Lies No w t v) : Calls Try.prog 59 #[v] w (Tell t w) := by
  have ht0 : Lies (fun k => w.heap.size ≤ k) w t v := ht.off fun b h1 h2 => absurd h1 (by omega)
  obtain ⟨k, n, i, re, im, l⟩ := t
  rw [Lies] at ht
  obtain ⟨a, c, rfl, hf, hr⟩ := ht
  have HT := Lib.hid ht0
  clear hf hr ht0
  go_enter Try.func59, Try.ntmps59
  go_wp2_with fail
  refine (begin_any w.heap.size _ _ _ (by simp) (HT.out.below (ba _ _))).mono ?_
  rintro e w1 ⟨p, F, r, rfl, hw, hb, hF, hr1, hr2⟩
  have HB := Lib.hid (bt (ba w _) hb)
  have HW := Lib.hid (And.intro hw (And.intro hr1 hr2))
  clear hw hb hF hr1 hr2
  go_wp2_with fail
  refine (next_flat w.heap.size r _ p F _ HW.out.1 (by simp) HW.out.2.2).mono ?_
  rintro e w2 ⟨k0, n0, i0, re0, im0, a0, l0, c0, d, b, rfl, hA⟩
  have HA := Lib.hid hA
  clear hA
  go_wp2_with fail
  go_loopg [5, 6, 8, 9, 10] (pre 1 (Tm.mk k n i re im l)).length (Rel w.heap.size r p w (Tm.mk k n i re im l))
  case atStart =>
    have hb1 := HB.out
    have hs := hb1.size
    refine ⟨pre 1 (Tm.mk k n i re im l), 0, 0, w2.heap.size, k0, n0, i0, re0, im0, a0, l0, c0, d, b, rfl, rfl, rfl, rfl, rfl, rfl, ?_, ?_, by omega, by omega, rfl⟩
    · have hA := HA.out
      have hfl : flat [[Tm.mk k n i re im l]] = pre 1 (Tm.mk k n i re im l) := by simp [flat, flatR, preL]
      rw [hfl] at hA
      exact hA.first (by omega) HW.out.2.2
    · exact (hb1.trans (HA.out.1.to_below (fun i h => (HW.out.1.lt i h).1) (by omega))).trans ((ba w2 _).mono (by have := HA.out.1.size; omega))
  case round =>
    obtain ⟨L, nn, m, nb, k0, n0, i0, re0, im0, a0, l0, c0, d, b, rfl, rfl, rfl, rfl, rfl, rfl, hc, hb, hn, hm, hme⟩ := hrel
    obtain ⟨hblk, hc⟩ := hc
    have hnbl : nb < wr.heap.size := (Array.getElem?_eq_some_iff.1 hblk).1
    have c6 : Six wr nb 0 (.int .i64 k0) (.string n0) (.int .i64 i0) (.int .u64 re0) (.int .u64 im0) (.slice a0 l0 c0) := by refine ⟨?_, ?_, ?_, ?_, ?_, ?_⟩ <;> simp [World.cell?, hblk]
    obtain ⟨e0, e1, e2, e3, e4, e5⟩ := c6
    simp only [Nat.zero_add] at e1 e2 e3 e4 e5
    rcases hc with ⟨rfl, rfl⟩ | ⟨t', kk, L', R, F', rfl, rfl, rfl, hL, hW, hfl, hRl, hr, hFn, hO⟩
    · have HE := Lib.hid (And.intro hb hme)
      clear hb hme hblk hn hm
      go_wp2_with fail
      go_ret3
      obtain ⟨hb, hme⟩ := HE.out
      exact tell_mk nn m 0 (by rw [← hme, meas]) hb
    · have HA2 := Lib.hid (And.intro hblk (And.intro hL (And.intro hW (And.intro hfl (And.intro hRl (And.intro hr (And.intro hFn (And.intro hO (And.intro hb hme)))))))))
      clear hblk hL hW hfl hRl hr hFn hO hb hme
      by_cases h1 : nn = 2000
      · subst h1
        go_wp2_with fail
        go_ret3
        obtain ⟨_, _, _, _, _, _, _, _, hb, hme⟩ := HA2.out
        exact tell_mk 0 0 3 (by rw [← hme, meas, if_pos rfl]) hb
      have h1' : ((nn : Int) == 2000) = false := by rw [beq_eq_false_iff_ne]; omega
      by_cases h2 : 500 < kk
      · have H1 := Lib.hid h1
        clear h1
        go_wp2_with fail
        go_ret3
        obtain ⟨_, _, _, _, _, _, _, _, hb, hme⟩ := HA2.out
        exact tell_mk 0 0 3 (by rw [← hme, meas, if_neg H1.out, if_pos h2]) hb
      have H12 := Lib.hid (And.intro h1 h2)
      have h2' : decide ((kk : Int) > 500) = false := by simp; omega
      have h2'' : (kk : Int) ≤ 500 := by omega
      have hn9 : nn + 1 ≤ 2000 := by omega
      clear h1 h2 hn
      by_cases h3 : chk t' = 0
      · have H3 := Lib.hid h3
        clear h3
        go_wp2_with fail
        refine (mayNode_t _ _ _ _ _ _ _ _ t' _ _ HA2.out.2.1 0 H3.out).mono ?_
        rintro e w3 ⟨rfl, hb3⟩
        have HB3 := Lib.hid hb3
        have e0 := (hb3.cell (p := ⟨nb, 0, none⟩) hnbl).trans e0
        have e1 := (hb3.cell (p := ⟨nb, 1, none⟩) hnbl).trans e1
        have e2 := (hb3.cell (p := ⟨nb, 2, none⟩) hnbl).trans e2
        have e3 := (hb3.cell (p := ⟨nb, 3, none⟩) hnbl).trans e3
        have e4 := (hb3.cell (p := ⟨nb, 4, none⟩) hnbl).trans e4
        have e5 := (hb3.cell (p := ⟨nb, 5, none⟩) hnbl).trans e5
        clear hb3
        go_wp2_with fail
        all_goals
          obtain ⟨w4, hw4⟩ : ∃ w4, w4 = w3.alloc (.cells #[.int .i64 k0, .string n0, .int .i64 i0, .int .u64 re0, .int .u64 im0, .slice a0 l0 c0] 36) := ⟨_, rfl⟩
          rw [← hw4]
          have hb4 : Below wr.heap.size wr w4 := by rw [hw4]; exact bt HB3.out (ba w3 _)
          have hz4 : w4.heap.size = w3.heap.size + 1 := by rw [hw4, alloc_size]
          have hat4 : w4.heap[w3.heap.size]? = some (.cells #[.int .i64 k0, .string n0, .int .i64 i0, .int .u64 re0, .int .u64 im0, .slice a0 l0 c0] 36 (0, 0)) := by rw [hw4]; exact alloc_at _ _
          have hW4 := HA2.out.2.2.1.keep (G := No) (Keep.of_below hb4) (fun _ _ => id) (fun _ h => h.elim)
          have hFn4 : ¬ F' w3.heap.size := fun h => by have := (HA2.out.2.2.1.lt _ h).2.2; have := HB3.out.size; omega
          have HW4 := Lib.hid (And.intro hw4 (And.intro hb4 (And.intro hz4 (And.intro hat4 (And.intro hW4 hFn4)))))
          clear hw4 hb4 hz4 hat4 hW4 hFn4
          refine (next_flat w.heap.size r _ p F' R HW4.out.2.2.2.2.1 (by have := HA2.out.2.2.2.2.1; omega) (by have := HA2.out.2.2.2.2.2.1; have := HW4.out.2.1.size; omega)).mono ?_
          rintro e w5 ⟨k0', n0', i0', re0', im0', a0', l0', c0', d', b', rfl, hA5⟩
          have hat5 := (hA5.1.block w3.heap.size (by rw [HW4.out.2.2.1]; omega) HW4.out.2.2.2.2.2).trans HW4.out.2.2.2.1
          obtain ⟨⟨x0, x1, x2, x3, x4, x5⟩, y0, y1, y2, y3, y4, y5⟩ := blk_facts hat5
          have HA5 := Lib.hid hA5
          clear hA5 hat5 e0 e1 e2 e3 e4 e5
          go_wp2_with fail
          go_roundg L'.length
          case measure => simp
          case rel =>
            obtain ⟨hblk, hL, hW, hfl, hRl, hr, hFn, hO, hb, hme⟩ := HA2.out
            obtain ⟨hw4, hb4, hz4, hat4, hW4, hFn4⟩ := HW4.out
            have s3 := HB3.out.size
            have sb := hb.size
            have hoff : Off w.heap.size r w3.heap.size := ⟨by omega, by omega⟩
            have k6 := keep_set6 w5 w3.heap.size (.int .i64 k0') (.string n0') (.int .i64 i0') (.int .u64 re0') (.int .u64 im0') (.slice a0' l0' c0')
            have hcur := HA5.out.store (by omega) hat4 hFn4 hoff
            rw [hfl] at hcur
            refine ⟨L', nn + 1, max m kk, w3.heap.size, k0', n0', i0', re0', im0', a0', l0', c0', d', b', rfl, by go_num, ?_, rfl, rfl, rfl, hcur, ?_, by omega, by omega, ?_⟩
            · first | (rw [Nat.max_eq_left (by omega)]; done) | (rw [Nat.max_eq_right (by omega)]; done) | (rw [Nat.max_eq_left (by omega)]; rfl) | (rw [Nat.max_eq_right (by omega)]; rfl)
            · have s5 := HA5.out.1.size
              exact ((hb.trans (hb4.mono sb)).trans (HA5.out.1.to_below (fun i h => (hW4.lt i h).1) (by omega))).trans (k6.to_below (fun i h => by subst h; omega) (by omega))
            · rw [← hme, meas, if_neg H12.out.1, if_neg H12.out.2, if_neg (by simp [H3.out])]
      · have H3 := Lib.hid h3
        have h3' : (chk t' == 0) = false := by rw [beq_eq_false_iff_ne]; exact h3
        have h3'' : (chk t' != 0) = true := by rw [bne_iff_ne]; exact h3
        clear h3
        go_wp2_with fail
        refine (mayNode_t _ _ _ _ _ _ _ _ t' _ _ HA2.out.2.1 _ rfl).mono ?_
        rintro e w3 ⟨rfl, hb3⟩
        have HB3 := Lib.hid hb3
        clear hb3
        go_wp2_with fail
        go_ret3
        obtain ⟨_, _, _, _, _, _, _, _, hb, hme⟩ := HA2.out
        exact tell_mk 0 0 _ (by rw [← hme, meas, if_neg H12.out.1, if_neg H12.out.2, if_pos H3.out]) (hb.trans (HB3.out.mono hb.size))
theorem may_any (t : Tm) (v : Value) (w : World) (ht : Lies No w t v) : Calls Try.prog 45 #[v] w fun e w' => e = .returned (.int .i64 (may t)) ∧ Below w.heap.size w w' := by
  obtain ⟨k, n, i, re, im, l⟩ := t
  have HT := Lib.hid ht
  rw [Lies] at ht
  obtain ⟨a, c, rfl, hf, hr⟩ := ht
  clear hf hr
  go_enter Try.func45, Try.ntmps45
  go_wp2_with fail
  refine (measure_any _ _ _ (HT.out.below (ba _ _))).mono ?_
  rintro e w1 ⟨rfl, hb⟩
  have HB := Lib.hid (bt (ba w _) hb)
  clear hb
  go_wp2_with fail
  go_ret
  exact ⟨rfl, HB.out⟩
end Go.Proofs.Ytibepkljcofpdaa.mes
