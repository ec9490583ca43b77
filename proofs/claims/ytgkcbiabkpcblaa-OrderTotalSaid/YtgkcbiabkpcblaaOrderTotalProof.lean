/- The law OrderTotal holds: for every input its Go function returns true and leaves its arguments as they were. No condition beyond the row's own. -/
import Derived.Test.YtgkcbiabkpcblaaRows
import Derived.WalkKit
import Derived.ProofKit
import Derived.OpenShut
import Derived.SizedLaws
import Derived.Test.YtgkcbiabkpcblaaTOpen
import Derived.Test.YtgkcbiabkpcblaaLgt
import Derived.Test.YtgkcbiabkpcblaaOrW
import Derived.Deep.QuietTactic
import Derived.BigQuiet
import Derived.Deep.RegionHeld3
namespace Go.Proofs.Ytgkcbiabkpcblaa.orderTotal
open Go.ChangeShapes Go.WideShapes Go.ChangeAt Go.RowKit
open Go.ChangeMaps (open_string)
open Go.Proofs.Ytgkcbiabkpcblaa.tm Go.Proofs.Ytgkcbiabkpcblaa.lie Go.Proofs.Ytgkcbiabkpcblaa.kp Go.Proofs.Ytgkcbiabkpcblaa.top
set_option linter.unusedVariables false
theorem own : ownKnob Try.prog.godebug = none := by kernel_rfl
theorem laidOut : laidOutB Try.prog = true := by kernel_rfl
open Go.Proofs.Ytgkcbiabkpcblaa.tm Go.Proofs.Ytgkcbiabkpcblaa.lie Go.Proofs.Ytgkcbiabkpcblaa.kp Go.Proofs.Ytgkcbiabkpcblaa.mes Go.Proofs.Ytgkcbiabkpcblaa.vrs Go.Proofs.Ytgkcbiabkpcblaa.awk Go.Proofs.Ytgkcbiabkpcblaa.lgt Go.Proofs.Ytgkcbiabkpcblaa.cur Go.Proofs.Ytgkcbiabkpcblaa.rws Go.Proofs.Ytgkcbiabkpcblaa.sme Go.Proofs.Ytgkcbiabkpcblaa.pla Go.Proofs.Ytgkcbiabkpcblaa.rmy Go.Proofs.Ytgkcbiabkpcblaa.rsm Go.Proofs.Ytgkcbiabkpcblaa.odm Go.Proofs.Ytgkcbiabkpcblaa.odc Go.Proofs.Ytgkcbiabkpcblaa.odd Go.Proofs.Ytgkcbiabkpcblaa.odw Go.Proofs.Ytgkcbiabkpcblaa.odb
/-- three boxes, three terms -/
def K3 (w : World) (a b c : Tm) (va vb vc : Value) (oa ob oc : Obj) (W : World) : Prop := W.heap[w.heap.size]? = some oa ∧ W.heap[w.heap.size + 1]? = some ob ∧ W.heap[w.heap.size + 1 + 1]? = some oc ∧ Below w.heap.size w W ∧ Lies No W a va ∧ Lies No W b vb ∧ Lies No W c vc
theorem K3.below {w W W' : World} {a b c : Tm} {va vb vc : Value} {oa ob oc : Obj} (h : K3 w a b c va vb vc oa ob oc W) (k : Below W.heap.size W W') : K3 w a b c va vb vc oa ob oc W' := by
  obtain ⟨h1, h2, h3, h4, h5, h6, h7⟩ := h
  exact ⟨(k.block _ (Array.getElem?_eq_some_iff.1 h1).1).trans h1, (k.block _ (Array.getElem?_eq_some_iff.1 h2).1).trans h2, (k.block _ (Array.getElem?_eq_some_iff.1 h3).1).trans h3, h4.trans (k.mono h4.size), h5.below k, h6.below k, h7.below k⟩
theorem K3.start {w : World} {a b c : Tm} {va vb vc : Value} {oa ob oc : Obj} (ha : Lies No w a va) (hb : Lies No w b vb) (hc : Lies No w c vc) : K3 w a b c va vb vc oa ob oc (((w.alloc oa).alloc ob).alloc oc) := by
  have h : Below w.heap.size w (((w.alloc oa).alloc ob).alloc oc) := bt (bt (ba _ _) (ba _ _)) (ba _ _)
  refine ⟨?_, ?_, ?_, h, ha.below h, hb.below h, hc.below h⟩
  · rw [(ba ((w.alloc oa).alloc ob) oc).block _ (by simp only [alloc_size]; omega), (ba (w.alloc oa) ob).block _ (by simp only [alloc_size]; omega)]
    exact alloc_at _ _
  · rw [(ba ((w.alloc oa).alloc ob) oc).block _ (by simp only [alloc_size]; omega)]
    have := alloc_at (w.alloc oa) ob
    rwa [alloc_size] at this
  · have := alloc_at ((w.alloc oa).alloc ob) oc
    rwa [alloc_size, alloc_size] at this
theorem K3.cells {w W : World} {a b c : Tm} {va vb vc u0 u1 u2 u3 u4 u5 x0 x1 x2 x3 x4 x5 y0 y1 y2 y3 y4 y5 : Value} {t t' t'' : TypeId} (h : K3 w a b c va vb vc (.cells #[u0, u1, u2, u3, u4, u5] t) (.cells #[x0, x1, x2, x3, x4, x5] t') (.cells #[y0, y1, y2, y3, y4, y5] t'') W) :
    (W.cell? ⟨w.heap.size, 0, none⟩ = some u0 ∧ W.cell? ⟨w.heap.size, 1, none⟩ = some u1 ∧ W.cell? ⟨w.heap.size, 2, none⟩ = some u2 ∧ W.cell? ⟨w.heap.size, 3, none⟩ = some u3 ∧ W.cell? ⟨w.heap.size, 4, none⟩ = some u4 ∧ W.cell? ⟨w.heap.size, 5, none⟩ = some u5) ∧ (W.cell? ⟨w.heap.size + 1, 0, none⟩ = some x0 ∧ W.cell? ⟨w.heap.size + 1, 1, none⟩ = some x1 ∧ W.cell? ⟨w.heap.size + 1, 2, none⟩ = some x2 ∧ W.cell? ⟨w.heap.size + 1, 3, none⟩ = some x3 ∧ W.cell? ⟨w.heap.size + 1, 4, none⟩ = some x4 ∧ W.cell? ⟨w.heap.size + 1, 5, none⟩ = some x5) ∧ (W.cell? ⟨w.heap.size + 1 + 1, 0, none⟩ = some y0 ∧ W.cell? ⟨w.heap.size + 1 + 1, 1, none⟩ = some y1 ∧ W.cell? ⟨w.heap.size + 1 + 1, 2, none⟩ = some y2 ∧ W.cell? ⟨w.heap.size + 1 + 1, 3, none⟩ = some y3 ∧ W.cell? ⟨w.heap.size + 1 + 1, 4, none⟩ = some y4 ∧ W.cell? ⟨w.heap.size + 1 + 1, 5, none⟩ = some y5) :=
  ⟨(blk_facts h.1).1, (blk_facts h.2.1).1, (blk_facts h.2.2.1).1⟩
theorem bd3 (A B : Tm) : ordR A B = -1 ∨ ordR A B = 0 ∨ ordR A B = 1 := by
  unfold ordR
  have := ord_bd A B
  split
  · split <;> omega
  · omega
/-- what the order's three answers come to -/
theorem total {A B C : Tm} (ga : good A = true) (gb : good B = true) (gc : good C = true) :
    (-1 ≤ ordR A B ∧ ordR A B ≤ 1) ∧ ordR B A = -ordR A B ∧ ((ordR A B == 0) = sameB A B) ∧ ordR A A = 0 ∧ (ordR A B ≤ 0 → ordR B C ≤ 0 → ordR A C ≤ 0 ∧ ((ordR A B = 0 ∧ ordR B C = 0) ↔ ordR A C = 0)) := by
  have e : ∀ {X Y : Tm}, good X = true → good Y = true → ordR X Y = ord X Y := fun h k => by unfold ordR; rw [if_pos h, if_pos k]
  rw [e ga gb, e gb ga, e ga ga, e gb gc, e ga gc]
  have sa := good_sound ga; have sb := good_sound gb; have sc := good_sound gc
  refine ⟨ord_bd A B, ord_neg A B, ?_, ord_refl A sa, fun h k => ⟨ord_trans A B C sa sb sc h k, ?_⟩⟩
  · apply bool_ext
    rw [beq_iff_eq, sameB_iff, ord_zero A B sa sb]
    exact ⟨fun q => ⟨ga, gb, q⟩, fun q => q.2.2⟩
  · constructor
    · rintro ⟨p, q⟩
      rw [ord_eq_left sa sb p, q]
    · intro p
      have h1 := ord_eq_left sa sc p B
      rw [ord_neg B C] at h1
      constructor <;> omega
set_option linter.unusedSimpArgs false in
set_option maxRecDepth 100000 in
set_option maxHeartbeats 16000000 in
theorem walk (w : World) (v0 : Value) (t0 : Tm) (x0 : Lies No w t0 v0) (v1 : Value) (t1 : Tm) (x1 : Lies No w t1 v1) (v2 : Value) (t2 : Tm) (x2 : Lies No w t2 v2) :
    Calls Try.prog 5 #[v0, v1, v2] w fun e w' => e = .returned (.bool true) ∧ Below w.heap.size w w' := by
  obtain ⟨A, hA⟩ : ∃ A, A = t0 := ⟨_, rfl⟩
  obtain ⟨B, hB⟩ : ∃ B, B = t1 := ⟨_, rfl⟩
  obtain ⟨C, hC⟩ : ∃ C, C = t2 := ⟨_, rfl⟩
  obtain ⟨k, n, i, re, im, l⟩ := t0
  obtain ⟨k', n', i', re', im', l'⟩ := t1
  obtain ⟨k'', n'', i'', re'', im'', l''⟩ := t2
  have HL := Lib.hid (And.intro (show Lies No w A v0 from hA ▸ x0) (And.intro (show Lies No w B v1 from hB ▸ x1) (show Lies No w C v2 from hC ▸ x2)))
  rw [Lies] at x0 x1 x2
  obtain ⟨aa, ca, rfl, hf, hr⟩ := x0
  obtain ⟨ab, cb, rfl, hf', hr'⟩ := x1
  obtain ⟨ac, cc, rfl, hf'', hr''⟩ := x2
  clear hf hr hf' hr' hf'' hr'' hA hB hC
  have LL := Lib.hid (K3.start (oa := .cells #[.int .i64 k, .string n, .int .i64 i, .int .u64 re, .int .u64 im, .slice aa l.length ca] 25) (ob := .cells #[.int .i64 k', .string n', .int .i64 i', .int .u64 re', .int .u64 im', .slice ab l'.length cb] 25) (oc := .cells #[.int .i64 k'', .string n'', .int .i64 i'', .int .u64 re'', .int .u64 im'', .slice ac l''.length cc] 25) HL.out.1 HL.out.2.1 HL.out.2.2)
  have h0 : ∀ b : Bool, (b != b) = false := by simp
  go_enter Try.func5, Try.ntmps5
  go_wp2_with fail
  refine (Light_any [A, B, C] (some ⟨w.heap.size + 1 + 1 + 1, 0, none⟩) 3 _ ?_ (by simp)).mono ?_
  · have h3 := LL.out
    have := row_new _ #[Value.int .i64 k, Value.string n, Value.int .i64 i, Value.int .u64 re, Value.int .u64 im, Value.slice aa l.length ca, Value.int .i64 k', Value.string n', Value.int .i64 i', Value.int .u64 re', Value.int .u64 im', Value.slice ab l'.length cb, Value.int .i64 k'', Value.string n'', Value.int .i64 i'', Value.int .u64 re'', Value.int .u64 im'', Value.slice ac l''.length cc] [A, B, C] (fun m hm => by
      match m, hm with
      | 0, _ => exact ⟨_, _, _, _, _, _, rfl, rfl, rfl, rfl, rfl, rfl, h3.2.2.2.2.1⟩
      | 1, _ => exact ⟨_, _, _, _, _, _, rfl, rfl, rfl, rfl, rfl, rfl, h3.2.2.2.2.2.1⟩
      | 2, _ => exact ⟨_, _, _, _, _, _, rfl, rfl, rfl, rfl, rfl, rfl, h3.2.2.2.2.2.2⟩
      | m + 3, hm => exact absurd hm (by simp))
    simpa [alloc_size] using this
  rintro e w2 ⟨b, rfl, hb⟩
  have L2 := Lib.hid (LL.out.below (bt (ba _ _) hb))
  clear hb
  cases b
  · go_wp2_with fail
    refine (awake_any _).mono ?_; rintro e w3 ⟨rfl, hb⟩
    have HB3 := Lib.hid (L2.out.below hb)
    clear hb
    go_wp2_with fail
    go_ret
    exact ⟨rfl, HB3.out.2.2.2.1⟩
  obtain ⟨⟨e0, e1, e2, e3, e4, e5⟩, _⟩ := L2.out.cells
  cases hga : good A
  · have hne : (may A != 0) = true := by rw [bne_iff_ne]; have := may_nogood hga; omega
    clear hga
    go_wp2_with fail
    refine (rMay_any _ _ _ (HL.out.1.below L2.out.2.2.2.1)).mono ?_
    rintro e w3 ⟨rfl, hb⟩
    have L3x := Lib.hid (L2.out.below hb)
    clear hb e0 e1 e2 e3 e4 e5
    go_wp2_with fail
    refine (awake_any _).mono ?_; rintro e w4 ⟨rfl, hb⟩
    have HB3 := Lib.hid (L3x.out.below hb)
    clear hb
    go_wp2_with fail
    go_ret
    exact ⟨rfl, HB3.out.2.2.2.1⟩
  have hnA : (may A != 0) = false := by rw [bne_eq_false_iff_eq]; exact may_good hga
  have GA := Lib.hid hga
  clear hga
  go_wp2_with fail
  refine (rMay_any _ _ _ (HL.out.1.below L2.out.2.2.2.1)).mono ?_
  rintro e w3 ⟨rfl, hb⟩
  have L3 := Lib.hid (L2.out.below hb)
  clear hb e0 e1 e2 e3 e4 e5
  obtain ⟨_, ⟨e0, e1, e2, e3, e4, e5⟩, _⟩ := L3.out.cells
  cases hga : good B
  · have hne : (may B != 0) = true := by rw [bne_iff_ne]; have := may_nogood hga; omega
    clear hga
    go_wp2_with fail
    refine (rMay_any _ _ _ (HL.out.2.1.below L3.out.2.2.2.1)).mono ?_
    rintro e w3 ⟨rfl, hb⟩
    have L3x := Lib.hid (L3.out.below hb)
    clear hb e0 e1 e2 e3 e4 e5
    go_wp2_with fail
    refine (awake_any _).mono ?_; rintro e w4 ⟨rfl, hb⟩
    have HB3 := Lib.hid (L3x.out.below hb)
    clear hb
    go_wp2_with fail
    go_ret
    exact ⟨rfl, HB3.out.2.2.2.1⟩
  have hnB : (may B != 0) = false := by rw [bne_eq_false_iff_eq]; exact may_good hga
  have GB := Lib.hid hga
  clear hga
  go_wp2_with fail
  refine (rMay_any _ _ _ (HL.out.2.1.below L3.out.2.2.2.1)).mono ?_
  rintro e w3 ⟨rfl, hb⟩
  have L4 := Lib.hid (L3.out.below hb)
  clear hb e0 e1 e2 e3 e4 e5
  obtain ⟨_, _, ⟨e0, e1, e2, e3, e4, e5⟩⟩ := L4.out.cells
  cases hga : good C
  · have hne : (may C != 0) = true := by rw [bne_iff_ne]; have := may_nogood hga; omega
    clear hga
    go_wp2_with fail
    refine (rMay_any _ _ _ (HL.out.2.2.below L4.out.2.2.2.1)).mono ?_
    rintro e w3 ⟨rfl, hb⟩
    have L3x := Lib.hid (L4.out.below hb)
    clear hb e0 e1 e2 e3 e4 e5
    go_wp2_with fail
    refine (awake_any _).mono ?_; rintro e w4 ⟨rfl, hb⟩
    have HB3 := Lib.hid (L3x.out.below hb)
    clear hb
    go_wp2_with fail
    go_ret
    exact ⟨rfl, HB3.out.2.2.2.1⟩
  have hnC : (may C != 0) = false := by rw [bne_eq_false_iff_eq]; exact may_good hga
  have GC := Lib.hid hga
  clear hga
  go_wp2_with fail
  refine (rMay_any _ _ _ (HL.out.2.2.below L4.out.2.2.2.1)).mono ?_
  rintro e w3 ⟨rfl, hb⟩
  have L5 := Lib.hid (L4.out.below hb)
  clear hb e0 e1 e2 e3 e4 e5
  have H := Lib.hid (total GA.out GB.out GC.out)
  obtain ⟨x, hx⟩ : ∃ x, x = ordR A B := ⟨_, rfl⟩
  obtain ⟨y, hy⟩ : ∃ y, y = ordR B C := ⟨_, rfl⟩
  obtain ⟨z, hz⟩ : ∃ z, z = ordR A C := ⟨_, rfl⟩
  obtain ⟨p, hp⟩ : ∃ p, p = sameB A B := ⟨_, rfl⟩
  rw [← hx, ← hy, ← hz, ← hp] at H
  have HQ := Lib.hid (And.intro hx (And.intro hy (And.intro hz hp)))
  obtain ⟨nx, hnx⟩ : ∃ nx, nx = -x := ⟨_, rfl⟩
  have HNX := Lib.hid (show ordR B A = nx by rw [hnx]; exact H.out.2.1)
  have HNY := Lib.hid hnx
  have hy3 := bd3 B C
  have hx3 := bd3 A B
  rw [← hy] at hy3
  rw [← hx] at hx3
  have key : (x = 1 ∧ nx = -1 ∧ p = false) ∨ (x = -1 ∧ nx = 1 ∧ p = false ∧ y = 1) ∨ (x = 0 ∧ nx = 0 ∧ p = true ∧ y = 1) ∨ (x = -1 ∧ nx = 1 ∧ p = false ∧ y = -1 ∧ z = -1) ∨ (x = -1 ∧ nx = 1 ∧ p = false ∧ y = 0 ∧ z = -1) ∨ (x = 0 ∧ nx = 0 ∧ p = true ∧ y = -1 ∧ z = -1) ∨ (x = 0 ∧ nx = 0 ∧ p = true ∧ y = 0 ∧ z = 0) := by
    have hz3 := bd3 A C
    rw [← hz] at hz3
    have h3 := H.out.2.2.1
    have h5 := H.out.2.2.2.2
    rcases hx3 with rfl | rfl | rfl
    · have hp' : p = false := by rw [← h3]; rfl
      rcases hy3 with rfl | rfl | rfl
      · have := h5 (by omega) (by omega); exact Or.inr (Or.inr (Or.inr (Or.inl ⟨rfl, by omega, hp', rfl, by omega⟩)))
      · have := h5 (by omega) (by omega); exact Or.inr (Or.inr (Or.inr (Or.inr (Or.inl ⟨rfl, by omega, hp', rfl, by omega⟩))))
      · exact Or.inr (Or.inl ⟨rfl, by omega, hp', rfl⟩)
    · have hp' : p = true := by rw [← h3]; rfl
      rcases hy3 with rfl | rfl | rfl
      · have := h5 (by omega) (by omega); exact Or.inr (Or.inr (Or.inr (Or.inr (Or.inr (Or.inl ⟨rfl, by omega, hp', rfl, by omega⟩)))))
      · have := h5 (by omega) (by omega); exact Or.inr (Or.inr (Or.inr (Or.inr (Or.inr (Or.inr ⟨rfl, by omega, hp', rfl, by omega⟩)))))
      · exact Or.inr (Or.inr (Or.inl ⟨rfl, by omega, hp', rfl⟩))
    · have hp' : p = false := by rw [← h3]; rfl
      exact Or.inl ⟨rfl, by omega, hp'⟩
  have KEY := Lib.hid key
  clear key hy3 hx3 hnx
  clear hx hy hz hp
  have CAB := Lib.hid (fun W (h : K3 w A B C (.agg #[.int .i64 k, .string n, .int .i64 i, .int .u64 re, .int .u64 im, .slice aa l.length ca]) (.agg #[.int .i64 k', .string n', .int .i64 i', .int .u64 re', .int .u64 im', .slice ab l'.length cb]) (.agg #[.int .i64 k'', .string n'', .int .i64 i'', .int .u64 re'', .int .u64 im'', .slice ac l''.length cc]) (.cells #[.int .i64 k, .string n, .int .i64 i, .int .u64 re, .int .u64 im, .slice aa l.length ca] 25) (.cells #[.int .i64 k', .string n', .int .i64 i', .int .u64 re', .int .u64 im', .slice ab l'.length cb] 25) (.cells #[.int .i64 k'', .string n'', .int .i64 i'', .int .u64 re'', .int .u64 im'', .slice ac l''.length cc] 25) W) => (show Calls Try.prog 11 #[.agg #[.int .i64 k, .string n, .int .i64 i, .int .u64 re, .int .u64 im, .slice aa l.length ca], .agg #[.int .i64 k', .string n', .int .i64 i', .int .u64 re', .int .u64 im', .slice ab l'.length cb]] W fun e w' => e = .returned (.int .i64 (x)) ∧ K3 w A B C (.agg #[.int .i64 k, .string n, .int .i64 i, .int .u64 re, .int .u64 im, .slice aa l.length ca]) (.agg #[.int .i64 k', .string n', .int .i64 i', .int .u64 re', .int .u64 im', .slice ab l'.length cb]) (.agg #[.int .i64 k'', .string n'', .int .i64 i'', .int .u64 re'', .int .u64 im'', .slice ac l''.length cc]) (.cells #[.int .i64 k, .string n, .int .i64 i, .int .u64 re, .int .u64 im, .slice aa l.length ca] 25) (.cells #[.int .i64 k', .string n', .int .i64 i', .int .u64 re', .int .u64 im', .slice ab l'.length cb] 25) (.cells #[.int .i64 k'', .string n'', .int .i64 i'', .int .u64 re'', .int .u64 im'', .slice ac l''.length cc] 25) w' from by
    have := order_any A B _ _ W h.2.2.2.2.1 h.2.2.2.2.2.1
    rw [HQ.out.1.symm] at this
    exact this.mono fun e w' q => ⟨q.1, h.below q.2⟩))
  have CBC := Lib.hid (fun W (h : K3 w A B C (.agg #[.int .i64 k, .string n, .int .i64 i, .int .u64 re, .int .u64 im, .slice aa l.length ca]) (.agg #[.int .i64 k', .string n', .int .i64 i', .int .u64 re', .int .u64 im', .slice ab l'.length cb]) (.agg #[.int .i64 k'', .string n'', .int .i64 i'', .int .u64 re'', .int .u64 im'', .slice ac l''.length cc]) (.cells #[.int .i64 k, .string n, .int .i64 i, .int .u64 re, .int .u64 im, .slice aa l.length ca] 25) (.cells #[.int .i64 k', .string n', .int .i64 i', .int .u64 re', .int .u64 im', .slice ab l'.length cb] 25) (.cells #[.int .i64 k'', .string n'', .int .i64 i'', .int .u64 re'', .int .u64 im'', .slice ac l''.length cc] 25) W) => (show Calls Try.prog 11 #[.agg #[.int .i64 k', .string n', .int .i64 i', .int .u64 re', .int .u64 im', .slice ab l'.length cb], .agg #[.int .i64 k'', .string n'', .int .i64 i'', .int .u64 re'', .int .u64 im'', .slice ac l''.length cc]] W fun e w' => e = .returned (.int .i64 (y)) ∧ K3 w A B C (.agg #[.int .i64 k, .string n, .int .i64 i, .int .u64 re, .int .u64 im, .slice aa l.length ca]) (.agg #[.int .i64 k', .string n', .int .i64 i', .int .u64 re', .int .u64 im', .slice ab l'.length cb]) (.agg #[.int .i64 k'', .string n'', .int .i64 i'', .int .u64 re'', .int .u64 im'', .slice ac l''.length cc]) (.cells #[.int .i64 k, .string n, .int .i64 i, .int .u64 re, .int .u64 im, .slice aa l.length ca] 25) (.cells #[.int .i64 k', .string n', .int .i64 i', .int .u64 re', .int .u64 im', .slice ab l'.length cb] 25) (.cells #[.int .i64 k'', .string n'', .int .i64 i'', .int .u64 re'', .int .u64 im'', .slice ac l''.length cc] 25) w' from by
    have := order_any B C _ _ W h.2.2.2.2.2.1 h.2.2.2.2.2.2
    rw [HQ.out.2.1.symm] at this
    exact this.mono fun e w' q => ⟨q.1, h.below q.2⟩))
  have CAC := Lib.hid (fun W (h : K3 w A B C (.agg #[.int .i64 k, .string n, .int .i64 i, .int .u64 re, .int .u64 im, .slice aa l.length ca]) (.agg #[.int .i64 k', .string n', .int .i64 i', .int .u64 re', .int .u64 im', .slice ab l'.length cb]) (.agg #[.int .i64 k'', .string n'', .int .i64 i'', .int .u64 re'', .int .u64 im'', .slice ac l''.length cc]) (.cells #[.int .i64 k, .string n, .int .i64 i, .int .u64 re, .int .u64 im, .slice aa l.length ca] 25) (.cells #[.int .i64 k', .string n', .int .i64 i', .int .u64 re', .int .u64 im', .slice ab l'.length cb] 25) (.cells #[.int .i64 k'', .string n'', .int .i64 i'', .int .u64 re'', .int .u64 im'', .slice ac l''.length cc] 25) W) => (show Calls Try.prog 11 #[.agg #[.int .i64 k, .string n, .int .i64 i, .int .u64 re, .int .u64 im, .slice aa l.length ca], .agg #[.int .i64 k'', .string n'', .int .i64 i'', .int .u64 re'', .int .u64 im'', .slice ac l''.length cc]] W fun e w' => e = .returned (.int .i64 (z)) ∧ K3 w A B C (.agg #[.int .i64 k, .string n, .int .i64 i, .int .u64 re, .int .u64 im, .slice aa l.length ca]) (.agg #[.int .i64 k', .string n', .int .i64 i', .int .u64 re', .int .u64 im', .slice ab l'.length cb]) (.agg #[.int .i64 k'', .string n'', .int .i64 i'', .int .u64 re'', .int .u64 im'', .slice ac l''.length cc]) (.cells #[.int .i64 k, .string n, .int .i64 i, .int .u64 re, .int .u64 im, .slice aa l.length ca] 25) (.cells #[.int .i64 k', .string n', .int .i64 i', .int .u64 re', .int .u64 im', .slice ab l'.length cb] 25) (.cells #[.int .i64 k'', .string n'', .int .i64 i'', .int .u64 re'', .int .u64 im'', .slice ac l''.length cc] 25) w' from by
    have := order_any A C _ _ W h.2.2.2.2.1 h.2.2.2.2.2.2
    rw [HQ.out.2.2.1.symm] at this
    exact this.mono fun e w' q => ⟨q.1, h.below q.2⟩))
  have CBA := Lib.hid (fun W (h : K3 w A B C (.agg #[.int .i64 k, .string n, .int .i64 i, .int .u64 re, .int .u64 im, .slice aa l.length ca]) (.agg #[.int .i64 k', .string n', .int .i64 i', .int .u64 re', .int .u64 im', .slice ab l'.length cb]) (.agg #[.int .i64 k'', .string n'', .int .i64 i'', .int .u64 re'', .int .u64 im'', .slice ac l''.length cc]) (.cells #[.int .i64 k, .string n, .int .i64 i, .int .u64 re, .int .u64 im, .slice aa l.length ca] 25) (.cells #[.int .i64 k', .string n', .int .i64 i', .int .u64 re', .int .u64 im', .slice ab l'.length cb] 25) (.cells #[.int .i64 k'', .string n'', .int .i64 i'', .int .u64 re'', .int .u64 im'', .slice ac l''.length cc] 25) W) => (show Calls Try.prog 11 #[.agg #[.int .i64 k', .string n', .int .i64 i', .int .u64 re', .int .u64 im', .slice ab l'.length cb], .agg #[.int .i64 k, .string n, .int .i64 i, .int .u64 re, .int .u64 im, .slice aa l.length ca]] W fun e w' => e = .returned (.int .i64 nx) ∧ K3 w A B C (.agg #[.int .i64 k, .string n, .int .i64 i, .int .u64 re, .int .u64 im, .slice aa l.length ca]) (.agg #[.int .i64 k', .string n', .int .i64 i', .int .u64 re', .int .u64 im', .slice ab l'.length cb]) (.agg #[.int .i64 k'', .string n'', .int .i64 i'', .int .u64 re'', .int .u64 im'', .slice ac l''.length cc]) (.cells #[.int .i64 k, .string n, .int .i64 i, .int .u64 re, .int .u64 im, .slice aa l.length ca] 25) (.cells #[.int .i64 k', .string n', .int .i64 i', .int .u64 re', .int .u64 im', .slice ab l'.length cb] 25) (.cells #[.int .i64 k'', .string n'', .int .i64 i'', .int .u64 re'', .int .u64 im'', .slice ac l''.length cc] 25) w' from by
    have := order_any B A _ _ W h.2.2.2.2.2.1 h.2.2.2.2.1
    rw [HNX.out] at this
    exact this.mono fun e w' q => ⟨q.1, h.below q.2⟩))
  have CAA := Lib.hid (fun W (h : K3 w A B C (.agg #[.int .i64 k, .string n, .int .i64 i, .int .u64 re, .int .u64 im, .slice aa l.length ca]) (.agg #[.int .i64 k', .string n', .int .i64 i', .int .u64 re', .int .u64 im', .slice ab l'.length cb]) (.agg #[.int .i64 k'', .string n'', .int .i64 i'', .int .u64 re'', .int .u64 im'', .slice ac l''.length cc]) (.cells #[.int .i64 k, .string n, .int .i64 i, .int .u64 re, .int .u64 im, .slice aa l.length ca] 25) (.cells #[.int .i64 k', .string n', .int .i64 i', .int .u64 re', .int .u64 im', .slice ab l'.length cb] 25) (.cells #[.int .i64 k'', .string n'', .int .i64 i'', .int .u64 re'', .int .u64 im'', .slice ac l''.length cc] 25) W) => (show Calls Try.prog 11 #[.agg #[.int .i64 k, .string n, .int .i64 i, .int .u64 re, .int .u64 im, .slice aa l.length ca], .agg #[.int .i64 k, .string n, .int .i64 i, .int .u64 re, .int .u64 im, .slice aa l.length ca]] W fun e w' => e = .returned (.int .i64 (0)) ∧ K3 w A B C (.agg #[.int .i64 k, .string n, .int .i64 i, .int .u64 re, .int .u64 im, .slice aa l.length ca]) (.agg #[.int .i64 k', .string n', .int .i64 i', .int .u64 re', .int .u64 im', .slice ab l'.length cb]) (.agg #[.int .i64 k'', .string n'', .int .i64 i'', .int .u64 re'', .int .u64 im'', .slice ac l''.length cc]) (.cells #[.int .i64 k, .string n, .int .i64 i, .int .u64 re, .int .u64 im, .slice aa l.length ca] 25) (.cells #[.int .i64 k', .string n', .int .i64 i', .int .u64 re', .int .u64 im', .slice ab l'.length cb] 25) (.cells #[.int .i64 k'', .string n'', .int .i64 i'', .int .u64 re'', .int .u64 im'', .slice ac l''.length cc] 25) w' from by
    have := order_any A A _ _ W h.2.2.2.2.1 h.2.2.2.2.1
    rw [H.out.2.2.2.1] at this
    exact this.mono fun e w' q => ⟨q.1, h.below q.2⟩))
  have CSM := Lib.hid (fun W (h : K3 w A B C (.agg #[.int .i64 k, .string n, .int .i64 i, .int .u64 re, .int .u64 im, .slice aa l.length ca]) (.agg #[.int .i64 k', .string n', .int .i64 i', .int .u64 re', .int .u64 im', .slice ab l'.length cb]) (.agg #[.int .i64 k'', .string n'', .int .i64 i'', .int .u64 re'', .int .u64 im'', .slice ac l''.length cc]) (.cells #[.int .i64 k, .string n, .int .i64 i, .int .u64 re, .int .u64 im, .slice aa l.length ca] 25) (.cells #[.int .i64 k', .string n', .int .i64 i', .int .u64 re', .int .u64 im', .slice ab l'.length cb] 25) (.cells #[.int .i64 k'', .string n'', .int .i64 i'', .int .u64 re'', .int .u64 im'', .slice ac l''.length cc] 25) W) => (show Calls Try.prog 19 #[.agg #[.int .i64 k, .string n, .int .i64 i, .int .u64 re, .int .u64 im, .slice aa l.length ca], .agg #[.int .i64 k', .string n', .int .i64 i', .int .u64 re', .int .u64 im', .slice ab l'.length cb]] W fun e w' => e = .returned (.bool p) ∧ K3 w A B C (.agg #[.int .i64 k, .string n, .int .i64 i, .int .u64 re, .int .u64 im, .slice aa l.length ca]) (.agg #[.int .i64 k', .string n', .int .i64 i', .int .u64 re', .int .u64 im', .slice ab l'.length cb]) (.agg #[.int .i64 k'', .string n'', .int .i64 i'', .int .u64 re'', .int .u64 im'', .slice ac l''.length cc]) (.cells #[.int .i64 k, .string n, .int .i64 i, .int .u64 re, .int .u64 im, .slice aa l.length ca] 25) (.cells #[.int .i64 k', .string n', .int .i64 i', .int .u64 re', .int .u64 im', .slice ab l'.length cb] 25) (.cells #[.int .i64 k'', .string n'', .int .i64 i'', .int .u64 re'', .int .u64 im'', .slice ac l''.length cc] 25) w' from by
    have := rsame_any A B _ _ W h.2.2.2.2.1 h.2.2.2.2.2.1
    rw [HQ.out.2.2.2.symm] at this
    exact this.mono fun e w' q => ⟨q.1, h.below q.2⟩))
  have hS0 := L5.out
  obtain ⟨⟨e0, e1, e2, e3, e4, e5⟩, ⟨f0, f1, f2, f3, f4, f5⟩, ⟨g0, g1, g2, g3, g4, g5⟩⟩ := hS0.cells
  go_wp2_with fail
  go_region_held3 (fun w' => (w'.cell? ⟨w.heap.size, 0, none⟩ = some (.int .i64 k) ∧ w'.cell? ⟨w.heap.size, 1, none⟩ = some (.string n) ∧ w'.cell? ⟨w.heap.size, 2, none⟩ = some (.int .i64 i) ∧ w'.cell? ⟨w.heap.size, 3, none⟩ = some (.int .u64 re) ∧ w'.cell? ⟨w.heap.size, 4, none⟩ = some (.int .u64 im) ∧ w'.cell? ⟨w.heap.size, 5, none⟩ = some (.slice aa l.length ca)) ∧ (w'.cell? ⟨w.heap.size + 1, 0, none⟩ = some (.int .i64 k') ∧ w'.cell? ⟨w.heap.size + 1, 1, none⟩ = some (.string n') ∧ w'.cell? ⟨w.heap.size + 1, 2, none⟩ = some (.int .i64 i') ∧ w'.cell? ⟨w.heap.size + 1, 3, none⟩ = some (.int .u64 re') ∧ w'.cell? ⟨w.heap.size + 1, 4, none⟩ = some (.int .u64 im') ∧ w'.cell? ⟨w.heap.size + 1, 5, none⟩ = some (.slice ab l'.length cb)) ∧ (w'.cell? ⟨w.heap.size + 1 + 1, 0, none⟩ = some (.int .i64 k'') ∧ w'.cell? ⟨w.heap.size + 1 + 1, 1, none⟩ = some (.string n'') ∧ w'.cell? ⟨w.heap.size + 1 + 1, 2, none⟩ = some (.int .i64 i'') ∧ w'.cell? ⟨w.heap.size + 1 + 1, 3, none⟩ = some (.int .u64 re'') ∧ w'.cell? ⟨w.heap.size + 1 + 1, 4, none⟩ = some (.int .u64 im'') ∧ w'.cell? ⟨w.heap.size + 1 + 1, 5, none⟩ = some (.slice ac l''.length cc)))
    (first | (exact K3.cells (by assumption)) | (exact K3.cells (K3.below (by assumption) (bdr _))) | go_keep)
    (first
      | (go_at_call 11; first | (with_reducible refine (CAB.out _ ?_).mono ?_; (first | assumption | exact K3.below (by assumption) (bdr _)); rintro e wN ⟨rfl, hSN⟩) | (with_reducible refine (CBC.out _ ?_).mono ?_; (first | assumption | exact K3.below (by assumption) (bdr _)); rintro e wN ⟨rfl, hSN⟩) | (with_reducible refine (CAC.out _ ?_).mono ?_; (first | assumption | exact K3.below (by assumption) (bdr _)); rintro e wN ⟨rfl, hSN⟩)))
  have hSQ := (by assumption : K3 w A B C (.agg #[.int .i64 k, .string n, .int .i64 i, .int .u64 re, .int .u64 im, .slice aa l.length ca]) (.agg #[.int .i64 k', .string n', .int .i64 i', .int .u64 re', .int .u64 im', .slice ab l'.length cb]) (.agg #[.int .i64 k'', .string n'', .int .i64 i'', .int .u64 re'', .int .u64 im'', .slice ac l''.length cc]) (.cells #[.int .i64 k, .string n, .int .i64 i, .int .u64 re, .int .u64 im, .slice aa l.length ca] 25) (.cells #[.int .i64 k', .string n', .int .i64 i', .int .u64 re', .int .u64 im', .slice ab l'.length cb] 25) (.cells #[.int .i64 k'', .string n'', .int .i64 i'', .int .u64 re'', .int .u64 im'', .slice ac l''.length cc] 25) _)
  have HSQ := Lib.hid hSQ
  clear hSQ
  obtain ⟨⟨e0, e1, e2, e3, e4, e5⟩, ⟨f0, f1, f2, f3, f4, f5⟩, ⟨g0, g1, g2, g3, g4, g5⟩⟩ := HSQ.out.cells
  have key := KEY.out
  clear KEY
  rcases key with ⟨rfl, rfl, rfl⟩ | ⟨rfl, rfl, rfl, rfl⟩ | ⟨rfl, rfl, rfl, rfl⟩ | ⟨rfl, rfl, rfl, rfl, rfl⟩ | ⟨rfl, rfl, rfl, rfl, rfl⟩ | ⟨rfl, rfl, rfl, rfl, rfl⟩ | ⟨rfl, rfl, rfl, rfl, rfl⟩
  all_goals
    go_wp2_with fail
    refine (CBA.out _ HSQ.out).mono ?_
    rintro e w6 ⟨rfl, h6⟩
    have H6 := Lib.hid h6
    clear h6
    obtain ⟨⟨e0, e1, e2, e3, e4, e5⟩, ⟨f0, f1, f2, f3, f4, f5⟩, _⟩ := H6.out.cells
    go_wp2_with fail
    refine (CSM.out _ H6.out).mono ?_
    rintro e w7 ⟨rfl, h7⟩
    have H7 := Lib.hid h7
    clear h7
    obtain ⟨⟨e0, e1, e2, e3, e4, e5⟩, ⟨f0, f1, f2, f3, f4, f5⟩, _⟩ := H7.out.cells
    go_wp2_with fail
    refine (CAA.out _ H7.out).mono ?_
    rintro e w8 ⟨rfl, h8⟩
    have H8 := Lib.hid h8
    clear h8
    go_wp2_with fail
    refine (awake_any _).mono ?_; rintro e w9 ⟨rfl, hb⟩
    have H9 := Lib.hid (H8.out.below hb)
    clear hb
    go_wp2_with fail
    go_ret
    exact ⟨rfl, H9.out.2.2.2.1⟩
set_option maxRecDepth 100000 in
theorem lifted (os : Os) (started : os.Started) (H : Type) (enc : TypeId × Value → H) :
    ReturnsInHanded {} Try.checked os 5 .any (Rows.orderTotalSpec.pre6 enc Try.prog Try.f5 Rows.orderTotalRow.domain false) (Rows.orderTotalSpec.post enc Try.prog Try.f5 false true false false) := by
  refine returnsInHanded_of_change_sized (C := Try.checked) own started (by kernel_rfl) Try.func5
    (ChangeSpec.witness6 (enc := enc) (C := Try.checked) false ⟨#[], #[.agg #[.int .i64 0, .string ⟨#[]⟩, .int .i64 0, .int .u64 0, .int .u64 0, .slice none 0 0], .agg #[.int .i64 0, .string ⟨#[]⟩, .int .i64 0, .int .u64 0, .int .u64 0, .slice none 0 0], .agg #[.int .i64 0, .string ⟨#[]⟩, .int .i64 0, .int .u64 0, .int .u64 0, .slice none 0 0]], []⟩ 8 (by kernel_rfl) (by kernel_rfl) (by kernel_rfl) (by kernel_rfl)) ?_
  intro W base args ds gs before hval0 hW _ hsz0 _
  have hsz : (DataW.weightsEach Try.prog (Try.f5.params.toList ++ Rows.orderTotalSpec.plain.varTypes Try.prog) (ds ++ gs)).all (· ≤ reachBytes) = true := hsz0
  clear hsz0
  have hval : ∀ (j : Nat) t v, Try.f5.params[j]? = some t → args[j]? = some v → Value.okWide Try.prog W .any base t v := hval0
  have hW' := hW
  obtain ⟨p, q, hA0, hV, rfl, hfz, hnd⟩ := hW
  have hA : DataW.TrodAll enc Try.prog W 0 (fun _ => true) true Try.f5.params.toList args.toList ds p := hA0
  rw [Try.params5] at hA hval hsz
  obtain ⟨v0, vs0, d0, ds0, p0, q0, hargs, rfl, rfl, h0, r0⟩ := trodAll_cons hA
  obtain ⟨v1, vs1, d1, ds1, p1, q1, rfl, rfl, rfl, h1, r1⟩ := trodAll_cons r0
  obtain ⟨v2, vs2, d2, ds2, p2, q2, rfl, rfl, rfl, h2, r2⟩ := trodAll_cons r1
  obtain ⟨rfl, rfl, rfl⟩ := trodAll_nil r2
  obtain rfl : args = #[v0, v1, v2] := by cases args; simp_all
  obtain ⟨rfl, rfl⟩ := trodVars_none hV
  simp only [List.append_nil] at hW'
  have lt0 : ∀ x ∈ p0, x.block < W.heap.size := fun x hx => by
    have := hW'.lt x (by simp [hx])
    simpa using this
  have k0 := h0
  have lt1 : ∀ x ∈ p1, x.block < W.heap.size := fun x hx => by
    have := hW'.lt x (by simp [hx])
    simpa using this
  have k1 := h1
  have lt2 : ∀ x ∈ p2, x.block < W.heap.size := fun x hx => by
    have := hW'.lt x (by simp [hx])
    simpa using this
  have k2 := h2
  obtain ⟨t0, x0⟩ := term_arg (by obtain ⟨cs, hcs, _⟩ := okWide_struct Try.underlying25 (hval 0 25 v0 rfl rfl); exact ⟨cs, hcs⟩) h0
  obtain ⟨t1, x1⟩ := term_arg (by obtain ⟨cs, hcs, _⟩ := okWide_struct Try.underlying25 (hval 1 25 v1 rfl rfl); exact ⟨cs, hcs⟩) h1
  obtain ⟨t2, x2⟩ := term_arg (by obtain ⟨cs, hcs, _⟩ := okWide_struct Try.underlying25 (hval 2 25 v2 rfl rfl); exact ⟨cs, hcs⟩) h2
  clear hA0 hval0
  refine (walk W v0 t0 x0 v1 t1 x1 v2 t2 x2).mono fun e W' ⟨he, hg⟩ => ?_
  subst he
  have ha := (trodAll_cons_mk (Below.trod laidOut (by kernel_rfl) (of_decide_eq_true (by kernel_rfl)) k0 hg lt0) (trodAll_cons_mk (Below.trod laidOut (by kernel_rfl) (of_decide_eq_true (by kernel_rfl)) k1 hg lt1) (trodAll_cons_mk (Below.trod laidOut (by kernel_rfl) (of_decide_eq_true (by kernel_rfl)) k2 hg lt2) trodAll_mk0)))
  refine ⟨_, rfl, _, _, _, [], _, [], hW', ?_, ha, rfl, hg.frame _, fun h => by cases h⟩
  exact (trodAll_cons_mk (shut_bool Try.underlying4 _) trodAll_mk0)
/-- THE STATEMENT. -/
theorem proved : Rows.OrderTotalSaid :=
  OpenClaim.holds_of_wide 5 Try.f5 rfl rfl rfl rfl rfl rfl rfl ⟨rfl, rfl, rfl, rfl, rfl⟩ rfl rfl rfl rfl rfl (by kernel_rfl) Try.func5 (by kernel_rfl)
    (of_decide_eq_true (by kernel_rfl)) (by unfold Func.isWrapper; first | (rw [if_pos (by decide +kernel)]; kernel_rfl) | (rw [if_neg (by decide +kernel)]; exact ⟨rfl, rfl⟩))
    (fun os started H enc _ => lifted os started H enc)
#print axioms proved
end Go.Proofs.Ytgkcbiabkpcblaa.orderTotal
