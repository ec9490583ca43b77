/- Package unify's small calls: place, variable, visit, compound, node, Bind; what they answer, by cells alone. -/
import Derived.Test.YthableojkjhicaaRow
import Derived.Test.YthableojkjhicaaTrail
import Derived.ScopeJumps
import Derived.Deep.RegionHeld3
namespace Go.Proofs.Ythableojkjhicaa.un
open Go.ChangeShapes Go.WideShapes Go.ChangeAt Go.RowKit Go.Maps
open Go.Proofs.Ythableojkjhicaa.kp Go.Proofs.Ythableojkjhicaa.cel Go.Proofs.Ythableojkjhicaa.hp Go.Proofs.Ythableojkjhicaa.ob
set_option linter.unusedVariables false
/-- the own cell of a variable -/
def isV (l : List Int) (c : Int) : Bool := decide (c % 8 = 0) && (gb l (c / 8) && decide (gv l (c / 8) = c))
/-- a term but for its arguments -/
structure ND where
  k : Int
  w0 : Int
  w1 : Int
  f : Int
  a : Int
  ok : Bool
def n0 : ND := ⟨0, 0, 0, 0, 0, false⟩
def cn (l : List Int) (q : Int) : ND := if fo (pa (gv l q)) (pk (gv l q)) = true then ⟨5, gv l q, 0, q + 1, pk (gv l q), gb l (q + pk (gv l q))⟩ else n0
def nd (l : List Int) (c : Int) : ND :=
  if c % 8 = 0 then ⟨1, 0, 0, 0, 0, isV l c⟩ else
  if c % 8 = 1 then cn l (c / 8) else
  if c % 8 = 2 then ⟨2, c / 8, 0, 0, 0, true⟩ else
  if c % 8 = 3 then ⟨3, IntKind.u64.wrap (sg c), 0, 0, 0, true⟩ else
  if c % 8 = 4 then ⟨3, gv l (c / 8), 0, 0, 0, gb l (c / 8)⟩ else
  if c % 8 = 5 then ⟨4, gv l (c / 8), gv l (c / 8 + 1), 0, 0, gb l (c / 8 + 1)⟩ else n0
abbrev nv5 (k w0 w1 f a : Int) : Value := .agg #[.int .i64 k, .int .u64 w0, .int .u64 w1, .int .i64 f, .int .i64 a]
def ndv (n : ND) : Value := nv5 n.k n.w0 n.w1 n.f n.a
/-- the walker's block -/
abbrev UW (p : Nat) (k : Int) : Obj := .cells #[.pointer (some ⟨p, 0, none⟩), .int .i64 k] 96 (0, 0)
abbrev NO (k w0 w1 f a : Int) : Obj := .cells #[.int .i64 k, .int .u64 w0, .int .u64 w1, .int .i64 f, .int .i64 a] 148 (0, 0)
section
variable {w w' : World} {p b r : Nat} {F : Nat → Prop} {l : List Int} {m k : Int}
theorem walker (h : w.heap[b]? = some (UW p k)) : w.cell? ⟨b, 0, none⟩ = some (.pointer (some ⟨p, 0, none⟩)) ∧ w.cell? ⟨b, 1, none⟩ = some (.int .i64 k) ∧ w.frozen? ⟨b, 0, none⟩ = false ∧ w.frozen? ⟨b, 1, none⟩ = false := by
  refine ⟨?_, ?_, ?_, ?_⟩ <;> simp [World.cell?, World.frozen?, h]
theorem five {v0 v1 v2 v3 v4 : Value} {t : TypeId} (h : w.heap[r]? = some (.cells #[v0, v1, v2, v3, v4] t (0, 0))) :
    (w.cell? ⟨r, 0, none⟩ = some v0 ∧ w.cell? ⟨r, 1, none⟩ = some v1 ∧ w.cell? ⟨r, 2, none⟩ = some v2 ∧ w.cell? ⟨r, 3, none⟩ = some v3 ∧ w.cell? ⟨r, 4, none⟩ = some v4) ∧
      w.frozen? ⟨r, 0, none⟩ = false ∧ w.frozen? ⟨r, 1, none⟩ = false ∧ w.frozen? ⟨r, 2, none⟩ = false ∧ w.frozen? ⟨r, 3, none⟩ = false ∧ w.frozen? ⟨r, 4, none⟩ = false := by
  refine ⟨⟨?_, ?_, ?_, ?_, ?_⟩, ?_, ?_, ?_, ?_, ?_⟩ <;> simp [World.cell?, World.frozen?, h]
theorem fin5 {u0 u1 u2 u3 u4 : Value} {t : TypeId} (h : w.heap[r]? = some (.cells #[u0, u1, u2, u3, u4] t (0, 0))) (v0 v1 v2 v3 v4 : Value) : ∃ W,
    (((((w.setCell ⟨r, 0, none⟩ v0).setCell ⟨r, 1, none⟩ v1).setCell ⟨r, 2, none⟩ v2).setCell ⟨r, 3, none⟩ v3).setCell ⟨r, 4, none⟩ v4) = W ∧
      W.heap[r]? = some (.cells #[v0, v1, v2, v3, v4] t (0, 0)) ∧ Keep (fun k => k = r) w W := by
  have e := fun (w : World) (i : Nat) (cs : Array Value) (v : Value) (hg : w.heap[r]? = some (.cells cs t (0, 0))) => heap_setCell_same w r i cs t v hg
  have hf := e _ 4 _ v4 (e _ 3 _ v3 (e _ 2 _ v2 (e _ 1 _ v1 (e w 0 _ v0 h))))
  have kk (w : World) (o : Nat) (u : Value) : Keep (fun k => k = r) w (w.setCell ⟨r, o, none⟩ u) := Keep.setCell (F := fun k => k = r) w rfl u
  refine ⟨_, rfl, ?_, ((((kk _ _ _).trans (kk _ _ _) fun _ => Or.inl).trans (kk _ _ _) fun _ => Or.inl).trans (kk _ _ _) fun _ => Or.inl).trans (kk _ _ _) fun _ => Or.inl⟩
  simpa using hf
/-- a block that was made now turns: only new ones are there -/
theorem made_below {w1 W : World} {o : Obj} (h1 : w1 = w.alloc o) (k : Keep (fun k => k = w.heap.size) w1 W) : Below w.heap.size w W := by
  subst h1
  exact (ba w o).trans (k.to_below (fun i hi => by rw [hi]; exact Nat.le_refl _) (by rw [alloc_size]; omega))
theorem uplace_any (c : Int) (w : World) (h : W64 c) : Calls Try.prog 93 #[.int .u64 c] w fun e w' => e = .returned (.int .i64 (c / 8)) ∧ w = w' := by
  have hv := value_any c w h
  have hcv2 : wrap64 (c / 8) = c / 8 := by obtain ⟨h0, h1⟩ := h; unfold wrap64; omega
  go_enter Try.func93, Try.ntmps93
  go_wp2_with fail
  refine hv.mono ?_; rintro e w' ⟨rfl, rfl⟩
  go_wp2_with fail
  go_ret
  exact ⟨kp.ri hcv2, rfl⟩
theorem uvar_any (h : Hp TH w p F l m) (c : Int) (hc : W64 c) : Calls Try.prog 71 #[.pointer (some ⟨p, 0, none⟩), .int .u64 c] w fun e w' => e = .returned (.bool (isV l c)) ∧ w = w' := by
  have ht := tag_any c w hc
  have hp2 := uplace_any c w hc
  have hg := get_any h (c / 8)
  by_cases h8 : c % 8 = 0
  · rw [h8] at ht
    by_cases hgb : gb l (c / 8) = true
    · have e1 := Lib.hid (show isV l c = decide (gv l (c / 8) = c) by unfold isV; rw [hgb, h8]; simp)
      rw [hgb] at hg
      clear h h8 hgb
      generalize gv l (c / 8) = x at *
      generalize c / 8 = q at *
      have hx : decide (x = c) = (x == c) := by by_cases h : x = c <;> simp [h]
      have HX := Lib.hid hx
      clear hx
      go_enter Try.func71, Try.ntmps71; go_wp2_with fail
      refine ht.mono ?_; rintro e w' ⟨rfl, rfl⟩
      go_wp2_with fail
      refine hp2.mono ?_; rintro e w' ⟨rfl, rfl⟩
      go_wp2_with fail
      refine hg.mono ?_; rintro e w' ⟨rfl, rfl⟩
      go_wp2_with fail
      go_ret
      exact ⟨rb (e1.out.trans HX.out).symm, rfl⟩
    · simp only [Bool.not_eq_true] at hgb
      have e1 := Lib.hid (show isV l c = false by unfold isV; rw [hgb]; simp)
      rw [hgb] at hg
      clear h h8 hgb
      generalize gv l (c / 8) = x at *
      generalize c / 8 = q at *
      go_enter Try.func71, Try.ntmps71; go_wp2_with fail
      refine ht.mono ?_; rintro e w' ⟨rfl, rfl⟩
      go_wp2_with fail
      refine hp2.mono ?_; rintro e w' ⟨rfl, rfl⟩
      go_wp2_with fail
      refine hg.mono ?_; rintro e w' ⟨rfl, rfl⟩
      go_wp2_with fail
      go_ret
      exact ⟨rb e1.out.symm, rfl⟩
  · have e1 := Lib.hid (show isV l c = false by unfold isV; rw [decide_eq_false h8]; rfl)
    clear h
    generalize hq : c % 8 = t at *
    clear hq
    go_enter Try.func71, Try.ntmps71; go_wp2_with fail
    refine ht.mono ?_; rintro e w' ⟨rfl, rfl⟩
    go_wp2_with fail
    go_ret
    exact ⟨rb e1.out.symm, rfl⟩
theorem visit_0 (h : w.heap[b]? = some (UW p 0)) : Calls Try.prog 86 #[.pointer (some ⟨b, 0, none⟩)] w fun e w' => e = .returned (.bool false) ∧ w = w' := by
  obtain ⟨c0, c1, f0, f1⟩ := walker h
  clear h
  go_enter Try.func86, Try.ntmps86; go_wp2_with fail
  go_ret
  exact ⟨rfl, rfl⟩
theorem visit_s (j : Nat) (hj : j < 1048576) (h : w.heap[b]? = some (UW p ((j + 1 : Nat) : Int))) : Calls Try.prog 86 #[.pointer (some ⟨b, 0, none⟩)] w fun e w' => e = .returned (.bool true) ∧ w'.heap[b]? = some (UW p (j : Int)) ∧ Keep (fun k => k = b) w w' := by
  obtain ⟨c0, c1, f0, f1⟩ := walker h
  have hs := Lib.hid (heap_setCell_same w b 1 _ _ (.int .i64 (j : Int)) h)
  have HK := Lib.hid (Keep.setCell (F := fun k => k = b) w (p := ⟨b, 1, none⟩) rfl (.int .i64 (j : Int)))
  have hn : wrap64 (((j + 1 : Nat) : Int) - 1) = (j : Int) := by unfold wrap64; omega
  have h0 : ((((j + 1 : Nat) : Int)) == 0) = false := by rw [beq_eq_false_iff_ne]; omega
  generalize ((j + 1 : Nat) : Int) = z at *
  clear h
  go_enter Try.func86, Try.ntmps86; go_wp2_with fail
  go_ret
  simp only [hn]
  exact ⟨rfl, by simpa using hs.out, HK.out⟩
set_option maxRecDepth 100000 in
theorem ucomp_any (h : Hp TH w p F l m) (hb : w.heap[b]? = some (UW p k)) (q : Int) (hq : 0 ≤ q ∧ q < 2305843009213693952) :
    Calls Try.prog 121 #[.pointer (some ⟨b, 0, none⟩), .int .i64 q] w fun e w' => e = .returned (.tuple #[ndv (cn l q), .bool (cn l q).ok]) ∧ Below w.heap.size w w' := by
  have hw := gv_w h.wf q
  have hle := h.len_le
  obtain ⟨r0, hr0⟩ : ∃ r0, r0 = w.heap.size := ⟨_, rfl⟩
  obtain ⟨w1, hw1⟩ : ∃ w1, w1 = w.alloc (NO 0 0 0 0 0) := ⟨_, rfl⟩
  have B1 : Below w.heap.size w w1 := by rw [hw1]; exact ba w _
  have h1 := h.below B1
  have hb1 : w1.heap[b]? = some (UW p k) := (B1.block b (Array.getElem?_eq_some_iff.1 hb).1).trans hb
  have hz : w1.heap[r0]? = some (NO 0 0 0 0 0) := by rw [hr0, hw1]; exact alloc_at w _
  have HB := Lib.hid (fun W (kk : Keep (fun i => i = r0) w1 W) => made_below hw1 (by rw [← hr0]; exact kk))
  have HW := Lib.hid (And.intro hr0 hw1)
  obtain ⟨c0, c1, f0, f1⟩ := walker hb1
  obtain ⟨⟨z0, z1, z2, z3, z4⟩, y0, y1, y2, y3, y4⟩ := five hz
  have HZ := Lib.hid hz
  have hg := get_any h1 q
  have hpa := fun w => parts_any (gv l q) w hw
  have hk0 : 0 ≤ pk (gv l q) ∧ pk (gv l q) < 256 := by obtain ⟨h1, h2⟩ := hw; unfold pk; split <;> omega
  have hfu := fun w => functor_any (pa (gv l q)) (pk (gv l q)) w (by obtain ⟨h1, h2⟩ := hw; unfold pa I64; split <;> omega) (by unfold I64; omega)
  have hg2 := get_any h1 (q + pk (gv l q))
  have hs1 : wrap64 (q + pk (gv l q)) = q + pk (gv l q) := by unfold wrap64; omega
  have hs2 : wrap64 (q + 1) = q + 1 := by unfold wrap64; omega
  have HC := Lib.hid (show cn l q = (if fo (pa (gv l q)) (pk (gv l q)) = true then ⟨5, gv l q, 0, q + 1, pk (gv l q), gb l (q + pk (gv l q))⟩ else n0) from rfl)
  clear h h1 hb hb1 hr0 hw1 B1 hz hw hle hk0
  generalize cn l q = n at *
  generalize fv (pa (gv l q)) (pk (gv l q)) = qf at *
  generalize gv l (q + pk (gv l q)) = xl at *
  generalize gb l (q + pk (gv l q)) = ok at *
  generalize gb l q = y at *
  by_cases hf : fo (pa (gv l q)) (pk (gv l q)) = true
  · rw [hf] at hfu
    have HN := Lib.hid (show n = ⟨5, gv l q, 0, q + 1, pk (gv l q), ok⟩ by rw [HC.out, if_pos hf])
    clear HC hf
    generalize pa (gv l q) = qa at *
    generalize pk (gv l q) = qk at *
    generalize gv l q = x at *
    go_enter Try.func121, Try.ntmps121
    go_upto_region 1 with fail
    change Code.wp _ _ _ _ (w.alloc (NO 0 0 0 0 0))
    rw [← HW.out.1, ← HW.out.2]
    go_wp2_with fail
    refine hg.mono ?_; rintro e w' ⟨rfl, rfl⟩
    go_wp2_with fail
    refine (hpa _).mono ?_; rintro e w' ⟨rfl, rfl⟩
    go_wp2_with fail
    refine (hfu _).mono ?_; rintro e w' ⟨rfl, rfl⟩
    go_wp2_with fail
    refine hg2.mono ?_; rintro e w' ⟨rfl, rfl⟩
    go_wp2_with fail
    obtain ⟨W, hW, hz, kk⟩ := fin5 HZ.out (.int .i64 5) (.int .u64 x) (.int .u64 0) (.int .i64 (q + 1)) (.int .i64 qk)
    obtain ⟨⟨e0, e1, e2, e3, e4⟩, _⟩ := five hz
    rw [hW]
    refine bodyPost_ret (v := .tuple #[nv5 5 x 0 (q + 1) qk, .bool ok]) (by simp [results, Try.results121, go_sem, e0, e1, e2, e3, e4]) rfl ⟨?_, HB.out _ kk⟩
    rw [HN.out]; rfl
  · simp only [Bool.not_eq_true] at hf
    rw [hf] at hfu
    have HN := Lib.hid (show n = n0 by rw [HC.out, if_neg (by rw [hf]; decide)])
    clear HC hf
    generalize pa (gv l q) = qa at *
    generalize pk (gv l q) = qk at *
    generalize gv l q = x at *
    go_enter Try.func121, Try.ntmps121
    go_upto_region 1 with fail
    change Code.wp _ _ _ _ (w.alloc (NO 0 0 0 0 0))
    rw [← HW.out.1, ← HW.out.2]
    go_wp2_with fail
    refine hg.mono ?_; rintro e w' ⟨rfl, rfl⟩
    go_wp2_with fail
    refine (hpa _).mono ?_; rintro e w' ⟨rfl, rfl⟩
    go_wp2_with fail
    refine (hfu _).mono ?_; rintro e w' ⟨rfl, rfl⟩
    go_wp2_with fail
    obtain ⟨W, hW, hz, kk⟩ := fin5 HZ.out (.int .i64 0) (.int .u64 0) (.int .u64 0) (.int .i64 0) (.int .i64 0)
    obtain ⟨⟨e0, e1, e2, e3, e4⟩, _⟩ := five hz
    rw [hW]
    refine bodyPost_ret (v := .tuple #[nv5 0 0 0 0 0, .bool false]) (by simp [results, Try.results121, go_sem, e0, e1, e2, e3, e4]) rfl ⟨?_, HB.out _ kk⟩
    rw [HN.out]; rfl
set_option maxRecDepth 100000 in
set_option maxHeartbeats 1000000 in
theorem unode_0 (h : Hp TH w p F l m) (hb : w.heap[b]? = some (UW p k)) (c : Int) (hc : W64 c) (ht : c % 8 = 0) :
    Calls Try.prog 87 #[.pointer (some ⟨b, 0, none⟩), .int .u64 c] w fun e w' => e = .returned (.tuple #[ndv (nd l c), .bool (nd l c).ok]) ∧ Below w.heap.size w w' := by
  have hq : 0 ≤ c / 8 ∧ c / 8 < 2305843009213693952 := by obtain ⟨h0, h1⟩ := hc; omega
  have hle := h.len_le
  obtain ⟨r0, hr0⟩ : ∃ r0, r0 = w.heap.size := ⟨_, rfl⟩
  obtain ⟨w1, hw1⟩ : ∃ w1, w1 = w.alloc (NO 0 0 0 0 0) := ⟨_, rfl⟩
  have B1 : Below w.heap.size w w1 := by rw [hw1]; exact ba w _
  have h1 := h.below B1
  have hb1 : w1.heap[b]? = some (UW p k) := (B1.block b (Array.getElem?_eq_some_iff.1 hb).1).trans hb
  have hz : w1.heap[r0]? = some (NO 0 0 0 0 0) := by rw [hr0, hw1]; exact alloc_at w _
  have HB := Lib.hid (fun W (kk : Keep (fun i => i = r0) w1 W) => made_below hw1 (by rw [← hr0]; exact kk))
  have HW := Lib.hid (And.intro hr0 hw1)
  obtain ⟨c0, c1, f0, f1⟩ := walker hb1
  obtain ⟨⟨z0, z1, z2, z3, z4⟩, y0, y1, y2, y3, y4⟩ := five hz
  have HZ := Lib.hid hz
  have htag := fun w => tag_any c w hc
  have hpl := fun w => uplace_any c w hc
  have HN := Lib.hid (show nd l c = ⟨1, 0, 0, 0, 0, isV l c⟩ by unfold nd; rw [if_pos ht])
  have hv := uvar_any h1 c hc
  rw [ht] at htag
  clear h h1 hb hb1 hr0 hw1 B1 hz hle hc ht
  generalize nd l c = n at *
  generalize isV l c = ok at *
  generalize c / 8 = q at *
  go_enter Try.func87, Try.ntmps87
  go_upto_region 1 with fail
  change Code.wp _ _ _ _ (w.alloc (NO 0 0 0 0 0))
  rw [← HW.out.1, ← HW.out.2]
  go_wp2_with fail
  refine (hpl _).mono ?_; rintro e w' ⟨rfl, rfl⟩
  go_wp2_with fail
  refine (htag _).mono ?_; rintro e w' ⟨rfl, rfl⟩
  go_wp2_with fail
  refine hv.mono ?_; rintro e w' ⟨rfl, rfl⟩
  go_wp2_with fail
  obtain ⟨W, hW, hz, kk⟩ := fin5 HZ.out (.int .i64 1) (.int .u64 0) (.int .u64 0) (.int .i64 0) (.int .i64 0)
  obtain ⟨⟨e0, e1, e2, e3, e4⟩, _⟩ := five hz
  rw [hW]
  refine bodyPost_ret (v := .tuple #[nv5 1 0 0 0 0, .bool ok]) (by simp [results, Try.results87, go_sem, e0, e1, e2, e3, e4]) rfl ⟨?_, HB.out _ kk⟩
  rw [HN.out]; rfl
set_option maxRecDepth 100000 in
set_option maxHeartbeats 1000000 in
theorem unode_1 (h : Hp TH w p F l m) (hb : w.heap[b]? = some (UW p k)) (c : Int) (hc : W64 c) (ht : c % 8 = 1) :
    Calls Try.prog 87 #[.pointer (some ⟨b, 0, none⟩), .int .u64 c] w fun e w' => e = .returned (.tuple #[ndv (nd l c), .bool (nd l c).ok]) ∧ Below w.heap.size w w' := by
  have hq : 0 ≤ c / 8 ∧ c / 8 < 2305843009213693952 := by obtain ⟨h0, h1⟩ := hc; omega
  have hle := h.len_le
  obtain ⟨r0, hr0⟩ : ∃ r0, r0 = w.heap.size := ⟨_, rfl⟩
  obtain ⟨w1, hw1⟩ : ∃ w1, w1 = w.alloc (NO 0 0 0 0 0) := ⟨_, rfl⟩
  have B1 : Below w.heap.size w w1 := by rw [hw1]; exact ba w _
  have h1 := h.below B1
  have hb1 : w1.heap[b]? = some (UW p k) := (B1.block b (Array.getElem?_eq_some_iff.1 hb).1).trans hb
  have hz : w1.heap[r0]? = some (NO 0 0 0 0 0) := by rw [hr0, hw1]; exact alloc_at w _
  have HB := Lib.hid (fun W (kk : Keep (fun i => i = r0) w1 W) => made_below hw1 (by rw [← hr0]; exact kk))
  have HW := Lib.hid (And.intro hr0 hw1)
  obtain ⟨c0, c1, f0, f1⟩ := walker hb1
  obtain ⟨⟨z0, z1, z2, z3, z4⟩, y0, y1, y2, y3, y4⟩ := five hz
  have HZ := Lib.hid hz
  have htag := fun w => tag_any c w hc
  have hpl := fun w => uplace_any c w hc
  have HN := Lib.hid (show nd l c = cn l (c / 8) by unfold nd; rw [if_neg (by omega), if_pos ht])
  have hcm := ucomp_any h1 hb1 (c / 8) hq
  have hBB := Lib.hid (And.intro B1 (And.intro (Array.getElem?_eq_some_iff.1 hb1).1 (Array.getElem?_eq_some_iff.1 hz).1))
  rw [ht] at htag
  clear h h1 hb hb1 hr0 hw1 B1 hz hle hc ht
  generalize nd l c = n at *
  generalize cn l (c / 8) = n1 at *
  obtain ⟨k1, x0, x1, xf, xa, ok⟩ := n1
  dsimp only [ndv] at hcm
  generalize c / 8 = q at *
  go_enter Try.func87, Try.ntmps87
  go_upto_region 1 with fail
  change Code.wp _ _ _ _ (w.alloc (NO 0 0 0 0 0))
  rw [← HW.out.1, ← HW.out.2]
  go_wp2_with fail
  refine (hpl _).mono ?_; rintro e w' ⟨rfl, rfl⟩
  go_wp2_with fail
  refine (htag _).mono ?_; rintro e w' ⟨rfl, rfl⟩
  go_wp2_with fail
  refine hcm.mono ?_; rintro e w2 ⟨rfl, b2⟩
  have hz2 : w2.heap[r0]? = some (NO 0 0 0 0 0) := (b2.block r0 hBB.out.2.2).trans HZ.out
  have HZ2 := Lib.hid hz2
  have HB2 := Lib.hid b2
  clear z0 z1 z2 z3 z4 y0 y1 y2 y3 y4 c0 c1 f0 f1 b2
  obtain ⟨⟨z0, z1, z2, z3, z4⟩, y0, y1, y2, y3, y4⟩ := five hz2
  clear hz2
  go_wp2_with fail
  obtain ⟨W, hW, hz, kk⟩ := fin5 HZ2.out (.int .i64 k1) (.int .u64 x0) (.int .u64 x1) (.int .i64 xf) (.int .i64 xa)
  obtain ⟨⟨e0, e1, e2, e3, e4⟩, _⟩ := five hz
  rw [hW]
  refine bodyPost_ret (v := .tuple #[nv5 k1 x0 x1 xf xa, .bool ok]) (by simp [results, Try.results87, go_sem, e0, e1, e2, e3, e4]) rfl ⟨?_, HB.out _ ((Keep.of_below (F := fun i => i = r0) HB2.out).trans kk fun _ => Or.inl)⟩
  rw [HN.out]; rfl
set_option maxRecDepth 100000 in
set_option maxHeartbeats 1000000 in
theorem unode_2 (h : Hp TH w p F l m) (hb : w.heap[b]? = some (UW p k)) (c : Int) (hc : W64 c) (ht : c % 8 = 2) :
    Calls Try.prog 87 #[.pointer (some ⟨b, 0, none⟩), .int .u64 c] w fun e w' => e = .returned (.tuple #[ndv (nd l c), .bool (nd l c).ok]) ∧ Below w.heap.size w w' := by
  have hq : 0 ≤ c / 8 ∧ c / 8 < 2305843009213693952 := by obtain ⟨h0, h1⟩ := hc; omega
  have hle := h.len_le
  obtain ⟨r0, hr0⟩ : ∃ r0, r0 = w.heap.size := ⟨_, rfl⟩
  obtain ⟨w1, hw1⟩ : ∃ w1, w1 = w.alloc (NO 0 0 0 0 0) := ⟨_, rfl⟩
  have B1 : Below w.heap.size w w1 := by rw [hw1]; exact ba w _
  have h1 := h.below B1
  have hb1 : w1.heap[b]? = some (UW p k) := (B1.block b (Array.getElem?_eq_some_iff.1 hb).1).trans hb
  have hz : w1.heap[r0]? = some (NO 0 0 0 0 0) := by rw [hr0, hw1]; exact alloc_at w _
  have HB := Lib.hid (fun W (kk : Keep (fun i => i = r0) w1 W) => made_below hw1 (by rw [← hr0]; exact kk))
  have HW := Lib.hid (And.intro hr0 hw1)
  obtain ⟨c0, c1, f0, f1⟩ := walker hb1
  obtain ⟨⟨z0, z1, z2, z3, z4⟩, y0, y1, y2, y3, y4⟩ := five hz
  have HZ := Lib.hid hz
  have htag := fun w => tag_any c w hc
  have hpl := fun w => uplace_any c w hc
  have HN := Lib.hid (show nd l c = ⟨2, c / 8, 0, 0, 0, true⟩ by unfold nd; rw [if_neg (by omega), if_neg (by omega), if_pos ht])
  have hv := fun w => value_any c w hc
  rw [ht] at htag
  clear h h1 hb hb1 hr0 hw1 B1 hz hle hc ht
  generalize nd l c = n at *
  generalize c / 8 = q at *
  go_enter Try.func87, Try.ntmps87
  go_upto_region 1 with fail
  change Code.wp _ _ _ _ (w.alloc (NO 0 0 0 0 0))
  rw [← HW.out.1, ← HW.out.2]
  go_wp2_with fail
  refine (hpl _).mono ?_; rintro e w' ⟨rfl, rfl⟩
  go_wp2_with fail
  refine (htag _).mono ?_; rintro e w' ⟨rfl, rfl⟩
  go_wp2_with fail
  refine (hv _).mono ?_; rintro e w' ⟨rfl, rfl⟩
  go_wp2_with fail
  obtain ⟨W, hW, hz, kk⟩ := fin5 HZ.out (.int .i64 2) (.int .u64 q) (.int .u64 0) (.int .i64 0) (.int .i64 0)
  obtain ⟨⟨e0, e1, e2, e3, e4⟩, _⟩ := five hz
  rw [hW]
  refine bodyPost_ret (v := .tuple #[nv5 2 q 0 0 0, .bool true]) (by simp [results, Try.results87, go_sem, e0, e1, e2, e3, e4]) rfl ⟨?_, HB.out _ kk⟩
  rw [HN.out]; rfl
set_option maxRecDepth 100000 in
set_option maxHeartbeats 1000000 in
theorem unode_3 (h : Hp TH w p F l m) (hb : w.heap[b]? = some (UW p k)) (c : Int) (hc : W64 c) (ht : c % 8 = 3) :
    Calls Try.prog 87 #[.pointer (some ⟨b, 0, none⟩), .int .u64 c] w fun e w' => e = .returned (.tuple #[ndv (nd l c), .bool (nd l c).ok]) ∧ Below w.heap.size w w' := by
  have hq : 0 ≤ c / 8 ∧ c / 8 < 2305843009213693952 := by obtain ⟨h0, h1⟩ := hc; omega
  have hle := h.len_le
  obtain ⟨r0, hr0⟩ : ∃ r0, r0 = w.heap.size := ⟨_, rfl⟩
  obtain ⟨w1, hw1⟩ : ∃ w1, w1 = w.alloc (NO 0 0 0 0 0) := ⟨_, rfl⟩
  have B1 : Below w.heap.size w w1 := by rw [hw1]; exact ba w _
  have h1 := h.below B1
  have hb1 : w1.heap[b]? = some (UW p k) := (B1.block b (Array.getElem?_eq_some_iff.1 hb).1).trans hb
  have hz : w1.heap[r0]? = some (NO 0 0 0 0 0) := by rw [hr0, hw1]; exact alloc_at w _
  have HB := Lib.hid (fun W (kk : Keep (fun i => i = r0) w1 W) => made_below hw1 (by rw [← hr0]; exact kk))
  have HW := Lib.hid (And.intro hr0 hw1)
  obtain ⟨c0, c1, f0, f1⟩ := walker hb1
  obtain ⟨⟨z0, z1, z2, z3, z4⟩, y0, y1, y2, y3, y4⟩ := five hz
  have HZ := Lib.hid hz
  have htag := fun w => tag_any c w hc
  have hpl := fun w => uplace_any c w hc
  have HN := Lib.hid (show nd l c = ⟨3, IntKind.u64.wrap (sg c), 0, 0, 0, true⟩ by unfold nd; rw [if_neg (by omega), if_neg (by omega), if_neg (by omega), if_pos ht])
  have hv := fun w => int_any c w hc
  rw [ht] at htag
  clear h h1 hb hb1 hr0 hw1 B1 hz hle hc ht
  generalize nd l c = n at *
  generalize sg c = x at *
  generalize c / 8 = q at *
  go_enter Try.func87, Try.ntmps87
  go_upto_region 1 with fail
  change Code.wp _ _ _ _ (w.alloc (NO 0 0 0 0 0))
  rw [← HW.out.1, ← HW.out.2]
  go_wp2_with fail
  refine (hpl _).mono ?_; rintro e w' ⟨rfl, rfl⟩
  go_wp2_with fail
  refine (htag _).mono ?_; rintro e w' ⟨rfl, rfl⟩
  go_wp2_with fail
  refine (hv _).mono ?_; rintro e w' ⟨rfl, rfl⟩
  go_wp2_with fail
  obtain ⟨W, hW, hz, kk⟩ := fin5 HZ.out (.int .i64 3) (.int .u64 (IntKind.u64.wrap x)) (.int .u64 0) (.int .i64 0) (.int .i64 0)
  obtain ⟨⟨e0, e1, e2, e3, e4⟩, _⟩ := five hz
  rw [hW]
  refine bodyPost_ret (v := .tuple #[nv5 3 ((IntKind.u64.wrap x)) 0 0 0, .bool true]) (by simp [results, Try.results87, go_sem, e0, e1, e2, e3, e4]) rfl ⟨?_, HB.out _ kk⟩
  rw [HN.out]; rfl
set_option maxRecDepth 100000 in
set_option maxHeartbeats 1000000 in
theorem unode_4 (h : Hp TH w p F l m) (hb : w.heap[b]? = some (UW p k)) (c : Int) (hc : W64 c) (ht : c % 8 = 4) :
    Calls Try.prog 87 #[.pointer (some ⟨b, 0, none⟩), .int .u64 c] w fun e w' => e = .returned (.tuple #[ndv (nd l c), .bool (nd l c).ok]) ∧ Below w.heap.size w w' := by
  have hq : 0 ≤ c / 8 ∧ c / 8 < 2305843009213693952 := by obtain ⟨h0, h1⟩ := hc; omega
  have hle := h.len_le
  obtain ⟨r0, hr0⟩ : ∃ r0, r0 = w.heap.size := ⟨_, rfl⟩
  obtain ⟨w1, hw1⟩ : ∃ w1, w1 = w.alloc (NO 0 0 0 0 0) := ⟨_, rfl⟩
  have B1 : Below w.heap.size w w1 := by rw [hw1]; exact ba w _
  have h1 := h.below B1
  have hb1 : w1.heap[b]? = some (UW p k) := (B1.block b (Array.getElem?_eq_some_iff.1 hb).1).trans hb
  have hz : w1.heap[r0]? = some (NO 0 0 0 0 0) := by rw [hr0, hw1]; exact alloc_at w _
  have HB := Lib.hid (fun W (kk : Keep (fun i => i = r0) w1 W) => made_below hw1 (by rw [← hr0]; exact kk))
  have HW := Lib.hid (And.intro hr0 hw1)
  obtain ⟨c0, c1, f0, f1⟩ := walker hb1
  obtain ⟨⟨z0, z1, z2, z3, z4⟩, y0, y1, y2, y3, y4⟩ := five hz
  have HZ := Lib.hid hz
  have htag := fun w => tag_any c w hc
  have hpl := fun w => uplace_any c w hc
  have HN := Lib.hid (show nd l c = ⟨3, gv l (c / 8), 0, 0, 0, gb l (c / 8)⟩ by unfold nd; rw [if_neg (by omega), if_neg (by omega), if_neg (by omega), if_neg (by omega), if_pos ht])
  have hg := get_any h1 (c / 8)
  rw [ht] at htag
  clear h h1 hb hb1 hr0 hw1 B1 hz hle hc ht
  generalize nd l c = n at *
  generalize gv l (c / 8) = x at *
  generalize gb l (c / 8) = ok at *
  generalize c / 8 = q at *
  go_enter Try.func87, Try.ntmps87
  go_upto_region 1 with fail
  change Code.wp _ _ _ _ (w.alloc (NO 0 0 0 0 0))
  rw [← HW.out.1, ← HW.out.2]
  go_wp2_with fail
  refine (hpl _).mono ?_; rintro e w' ⟨rfl, rfl⟩
  go_wp2_with fail
  refine (htag _).mono ?_; rintro e w' ⟨rfl, rfl⟩
  go_wp2_with fail
  refine hg.mono ?_; rintro e w' ⟨rfl, rfl⟩
  go_wp2_with fail
  obtain ⟨W, hW, hz, kk⟩ := fin5 HZ.out (.int .i64 3) (.int .u64 x) (.int .u64 0) (.int .i64 0) (.int .i64 0)
  obtain ⟨⟨e0, e1, e2, e3, e4⟩, _⟩ := five hz
  rw [hW]
  refine bodyPost_ret (v := .tuple #[nv5 3 x 0 0 0, .bool ok]) (by simp [results, Try.results87, go_sem, e0, e1, e2, e3, e4]) rfl ⟨?_, HB.out _ kk⟩
  rw [HN.out]; rfl
set_option maxRecDepth 100000 in
set_option maxHeartbeats 1000000 in
theorem unode_5 (h : Hp TH w p F l m) (hb : w.heap[b]? = some (UW p k)) (c : Int) (hc : W64 c) (ht : c % 8 = 5) :
    Calls Try.prog 87 #[.pointer (some ⟨b, 0, none⟩), .int .u64 c] w fun e w' => e = .returned (.tuple #[ndv (nd l c), .bool (nd l c).ok]) ∧ Below w.heap.size w w' := by
  have hq : 0 ≤ c / 8 ∧ c / 8 < 2305843009213693952 := by obtain ⟨h0, h1⟩ := hc; omega
  have hle := h.len_le
  obtain ⟨r0, hr0⟩ : ∃ r0, r0 = w.heap.size := ⟨_, rfl⟩
  obtain ⟨w1, hw1⟩ : ∃ w1, w1 = w.alloc (NO 0 0 0 0 0) := ⟨_, rfl⟩
  have B1 : Below w.heap.size w w1 := by rw [hw1]; exact ba w _
  have h1 := h.below B1
  have hb1 : w1.heap[b]? = some (UW p k) := (B1.block b (Array.getElem?_eq_some_iff.1 hb).1).trans hb
  have hz : w1.heap[r0]? = some (NO 0 0 0 0 0) := by rw [hr0, hw1]; exact alloc_at w _
  have HB := Lib.hid (fun W (kk : Keep (fun i => i = r0) w1 W) => made_below hw1 (by rw [← hr0]; exact kk))
  have HW := Lib.hid (And.intro hr0 hw1)
  obtain ⟨c0, c1, f0, f1⟩ := walker hb1
  obtain ⟨⟨z0, z1, z2, z3, z4⟩, y0, y1, y2, y3, y4⟩ := five hz
  have HZ := Lib.hid hz
  have htag := fun w => tag_any c w hc
  have hpl := fun w => uplace_any c w hc
  have HN := Lib.hid (show nd l c = ⟨4, gv l (c / 8), gv l (c / 8 + 1), 0, 0, gb l (c / 8 + 1)⟩ by unfold nd; rw [if_neg (by omega), if_neg (by omega), if_neg (by omega), if_neg (by omega), if_neg (by omega), if_pos ht])
  have hg := get_any h1 (c / 8)
  have hg2 := get_any h1 (c / 8 + 1)
  have hs : wrap64 (c / 8 + 1) = c / 8 + 1 := by unfold wrap64; omega
  rw [ht] at htag
  clear h h1 hb hb1 hr0 hw1 B1 hz hle hc ht
  generalize nd l c = n at *
  generalize gv l (c / 8 + 1) = x1 at *
  generalize gb l (c / 8 + 1) = ok at *
  generalize gv l (c / 8) = x0 at *
  generalize gb l (c / 8) = ok0 at *
  generalize c / 8 = q at *
  go_enter Try.func87, Try.ntmps87
  go_upto_region 1 with fail
  change Code.wp _ _ _ _ (w.alloc (NO 0 0 0 0 0))
  rw [← HW.out.1, ← HW.out.2]
  go_wp2_with fail
  refine (hpl _).mono ?_; rintro e w' ⟨rfl, rfl⟩
  go_wp2_with fail
  refine (htag _).mono ?_; rintro e w' ⟨rfl, rfl⟩
  go_wp2_with fail
  refine hg.mono ?_; rintro e w' ⟨rfl, rfl⟩
  go_wp2_with fail
  refine hg2.mono ?_; rintro e w' ⟨rfl, rfl⟩
  go_wp2_with fail
  obtain ⟨W, hW, hz, kk⟩ := fin5 HZ.out (.int .i64 4) (.int .u64 x0) (.int .u64 x1) (.int .i64 0) (.int .i64 0)
  obtain ⟨⟨e0, e1, e2, e3, e4⟩, _⟩ := five hz
  rw [hW]
  refine bodyPost_ret (v := .tuple #[nv5 4 x0 x1 0 0, .bool ok]) (by simp [results, Try.results87, go_sem, e0, e1, e2, e3, e4]) rfl ⟨?_, HB.out _ kk⟩
  rw [HN.out]; rfl
set_option maxRecDepth 100000 in
set_option maxHeartbeats 1000000 in
theorem unode_6 (h : Hp TH w p F l m) (hb : w.heap[b]? = some (UW p k)) (c : Int) (hc : W64 c) (ht : 5 < c % 8) :
    Calls Try.prog 87 #[.pointer (some ⟨b, 0, none⟩), .int .u64 c] w fun e w' => e = .returned (.tuple #[ndv (nd l c), .bool (nd l c).ok]) ∧ Below w.heap.size w w' := by
  have hq : 0 ≤ c / 8 ∧ c / 8 < 2305843009213693952 := by obtain ⟨h0, h1⟩ := hc; omega
  have hle := h.len_le
  obtain ⟨r0, hr0⟩ : ∃ r0, r0 = w.heap.size := ⟨_, rfl⟩
  obtain ⟨w1, hw1⟩ : ∃ w1, w1 = w.alloc (NO 0 0 0 0 0) := ⟨_, rfl⟩
  have B1 : Below w.heap.size w w1 := by rw [hw1]; exact ba w _
  have h1 := h.below B1
  have hb1 : w1.heap[b]? = some (UW p k) := (B1.block b (Array.getElem?_eq_some_iff.1 hb).1).trans hb
  have hz : w1.heap[r0]? = some (NO 0 0 0 0 0) := by rw [hr0, hw1]; exact alloc_at w _
  have HB := Lib.hid (fun W (kk : Keep (fun i => i = r0) w1 W) => made_below hw1 (by rw [← hr0]; exact kk))
  have HW := Lib.hid (And.intro hr0 hw1)
  obtain ⟨c0, c1, f0, f1⟩ := walker hb1
  obtain ⟨⟨z0, z1, z2, z3, z4⟩, y0, y1, y2, y3, y4⟩ := five hz
  have HZ := Lib.hid hz
  have htag := fun w => tag_any c w hc
  have hpl := fun w => uplace_any c w hc
  have HN := Lib.hid (show nd l c = n0 by unfold nd; rw [if_neg (by omega), if_neg (by omega), if_neg (by omega), if_neg (by omega), if_neg (by omega), if_neg (by omega)])
  have e0 : (c % 8 == 0) = false := by rw [beq_eq_false_iff_ne]; omega
  have e1 : (c % 8 == 1) = false := by rw [beq_eq_false_iff_ne]; omega
  have e2 : (c % 8 == 2) = false := by rw [beq_eq_false_iff_ne]; omega
  have e3 : (c % 8 == 3) = false := by rw [beq_eq_false_iff_ne]; omega
  have e4 : (c % 8 == 4) = false := by rw [beq_eq_false_iff_ne]; omega
  have e5 : (c % 8 == 5) = false := by rw [beq_eq_false_iff_ne]; omega
  clear h h1 hb hb1 hr0 hw1 B1 hz hle hc ht
  generalize nd l c = n at *
  generalize c % 8 = t at *
  generalize c / 8 = q at *
  go_enter Try.func87, Try.ntmps87
  go_upto_region 1 with fail
  change Code.wp _ _ _ _ (w.alloc (NO 0 0 0 0 0))
  rw [← HW.out.1, ← HW.out.2]
  go_wp2_with fail
  refine (hpl _).mono ?_; rintro e w' ⟨rfl, rfl⟩
  go_wp2_with fail
  refine (htag _).mono ?_; rintro e w' ⟨rfl, rfl⟩
  go_wp2_with fail
  clear e0 e1 e2 e3 e4 e5
  obtain ⟨W, hW, hz, kk⟩ := fin5 HZ.out (.int .i64 0) (.int .u64 0) (.int .u64 0) (.int .i64 0) (.int .i64 0)
  obtain ⟨⟨e0, e1, e2, e3, e4⟩, _⟩ := five hz
  rw [hW]
  refine bodyPost_ret (v := .tuple #[nv5 0 0 0 0 0, .bool false]) (by simp [results, Try.results87, go_sem, e0, e1, e2, e3, e4]) rfl ⟨?_, HB.out _ kk⟩
  rw [HN.out]; rfl
theorem unode_any (h : Hp TH w p F l m) (hb : w.heap[b]? = some (UW p k)) (c : Int) (hc : W64 c) :
    Calls Try.prog 87 #[.pointer (some ⟨b, 0, none⟩), .int .u64 c] w fun e w' => e = .returned (.tuple #[ndv (nd l c), .bool (nd l c).ok]) ∧ Below w.heap.size w w' := by
  have h0 : 0 ≤ c % 8 ∧ c % 8 < 8 := by omega
  by_cases t0 : c % 8 = 0
  · exact unode_0 h hb c hc t0
  by_cases t1 : c % 8 = 1
  · exact unode_1 h hb c hc t1
  by_cases t2 : c % 8 = 2
  · exact unode_2 h hb c hc t2
  by_cases t3 : c % 8 = 3
  · exact unode_3 h hb c hc t3
  by_cases t4 : c % 8 = 4
  · exact unode_4 h hb c hc t4
  by_cases t5 : c % 8 = 5
  · exact unode_5 h hb c hc t5
  exact unode_6 h hb c hc (by omega)
end
end Go.Proofs.Ythableojkjhicaa.un
