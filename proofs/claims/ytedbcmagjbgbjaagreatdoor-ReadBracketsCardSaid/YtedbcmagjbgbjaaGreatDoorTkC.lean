/- The project's machine: what it answers (a block laid at the door); punct, number, quote (two labels). -/
import Derived.Test.YtedbcmagjbgbjaaGreatDoorTkB
import Derived.Maps.AppendAt
import Derived.Laws.IdiomStrings
import Derived.Laws.BytesArg
namespace Go.Proofs.YtedbcmagjbgbjaaGreatDoor.tk
open Go.ChangeShapes Go.WideShapes Go.ChangeAt Go.RowKit Go.Maps
open Go.Proofs.YtedbcmagjbgbjaaGreatDoor.kp Go.Proofs.YtedbcmagjbgbjaaGreatDoor.num Go.Proofs.YtedbcmagjbgbjaaGreatDoor.dec
set_option linter.unusedVariables false
theorem tl_ne {x s : ByteArray} (h : x ≠ s) : (x.toList == s.toList) = false := by
  rw [beq_eq_false_iff_ne, ByteArray.toList_eq, ByteArray.toList_eq]
  intro e; apply h; apply ByteArray.ext; exact Array.ext' e
theorem tl_dec (x : List UInt8) (s : Array UInt8) (l : List UInt8) (hs : s.toList = l) : ((⟨x.toArray⟩ : ByteArray).toList == (⟨s⟩ : ByteArray).toList) = decide (x = l) := by
  subst hs
  by_cases h : x = s.toList
  · subst h; rw [decide_eq_true rfl]
    simp
  · rw [decide_eq_false h]
    refine tl_ne fun e => h ?_
    have := congrArg (fun b : ByteArray => b.data.toList) e
    simpa using this
theorem trv_shape (R : TR) : ∃ (k : Int) (t : List UInt8) (n : Int) (re im : Int) (e : Int), trv R = .tuple #[tkV k t n re im 0, .int .i64 e] := by
  cases R with
  | er e => exact ⟨0, [], 0, 0, 0, e, rfl⟩
  | ok k t n re im rest => exact ⟨k, t, n, re, im, 0, rfl⟩
section
variable {w w' w0 w1 w2 : World} {p r0 : Nat} {S l b : List UInt8} {k : Int} {t : List UInt8} {n re im a en : Int} {o o' : Obj}
/-- the result's block, laid at the door beside the machine's -/
def Door (p r0 : Nat) (w0 w : World) (o : Obj) : Prop := r0 = w0.heap.size ∧ p < r0 ∧ w.heap[p]? = some o ∧ w.heap[r0]? = some (TO 0 [] 0 0 0 0) ∧ Keep (fun k => k = p) w0 w
theorem Door.start (h : w0.heap[p]? = some o) : Door p w0.heap.size w0 (w0.alloc (TO 0 [] 0 0 0 0)) o :=
  ⟨rfl, Nw.lt h, ((kp.ba w0 _).block p (Nw.lt h)).trans h, alloc_at w0 _, Keep.of_below (kp.ba w0 _)⟩
theorem Door.turn (h : Door p r0 w0 w o) (N : Nw p o' w w') : Door p r0 w0 w' o' := by
  obtain ⟨a, b, c, d, e⟩ := h
  exact ⟨a, b, N.1, (N.2.block r0 (Nw.lt d) (by omega)).trans d, e.trans N.2 fun _ => Or.inl⟩
theorem Door.below (h : Door p r0 w0 w o) (b : Below w.heap.size w w') : Door p r0 w0 w' o := h.turn (Nw.below h.2.2.1 b)
theorem Door.fin (h : Door p r0 w0 w o) (v0 v1 v2 v3 v4 v5 : Value) : ∃ W,
    ((((((w.setCell ⟨r0, 0, none⟩ v0).setCell ⟨r0, 1, none⟩ v1).setCell ⟨r0, 2, none⟩ v2).setCell ⟨r0, 3, none⟩ v3).setCell ⟨r0, 4, none⟩ v4).setCell ⟨r0, 5, none⟩ v5) = W ∧
      (W.cell? ⟨r0, 0, none⟩ = some v0 ∧ W.cell? ⟨r0, 1, none⟩ = some v1 ∧ W.cell? ⟨r0, 2, none⟩ = some v2 ∧ W.cell? ⟨r0, 3, none⟩ = some v3 ∧ W.cell? ⟨r0, 4, none⟩ = some v4 ∧ W.cell? ⟨r0, 5, none⟩ = some v5) ∧ Nw p o w0 W := by
  obtain ⟨a, b, c, d, e⟩ := h
  obtain ⟨W, hW, N⟩ := fin6 d v0 v1 v2 v3 v4 v5
  refine ⟨W, hW, (six N.1).1, (N.2.block p (Nw.lt c) (by omega)).trans c, e.trans N.2 fun i hi => Or.inr (by omega)⟩
theorem Door.z (h : Door p r0 w0 w o) : (w.cell? ⟨r0, 0, none⟩ = some (.int .i64 0) ∧ w.cell? ⟨r0, 1, none⟩ = some (.string ⟨#[]⟩) ∧ w.cell? ⟨r0, 2, none⟩ = some (.int .i64 0) ∧ w.cell? ⟨r0, 3, none⟩ = some (.int .u64 0) ∧ w.cell? ⟨r0, 4, none⟩ = some (.int .u64 0) ∧ w.cell? ⟨r0, 5, none⟩ = some (.int .i64 0)) ∧
      w.frozen? ⟨r0, 0, none⟩ = false ∧ w.frozen? ⟨r0, 1, none⟩ = false ∧ w.frozen? ⟨r0, 2, none⟩ = false ∧ w.frozen? ⟨r0, 3, none⟩ = false ∧ w.frozen? ⟨r0, 4, none⟩ = false ∧ w.frozen? ⟨r0, 5, none⟩ = false := six h.2.2.2.1
/-- the token ahead, if it ends here -/
def LA (en beg : Int) (k : Int) (t : List UInt8) : Int × List UInt8 := if en = beg then (k, t) else (0, [])
/-! ### the signs that stand for themselves -/
def pun (la : Int × List UInt8) (c : UInt8) (r : List UInt8) : TR := if c = 40 ∧ (la.1 = 1 ∨ la.1 = 2) then .ok 7 [] 0 0 0 r else txt 6 [c] r
set_option maxHeartbeats 1000000 in
theorem punct_any {c : UInt8} {r : List UInt8} (h : w.heap[p]? = some (MO S r ([c] ++ r) k t n re im a en)) (hs : [c] ++ r <:+ S) (hS : S.length ≤ 65536) :
    Calls Tryz.prog 80 #[.pointer (some ⟨p, 0, none⟩)] w fun e w' => e = .returned (trv (pun (LA en ((S.length - ([c] ++ r).length : Nat) : Int) k t) c r)) ∧ Nw p (MO S r ([c] ++ r) k t n re im a en) w w' := by
  obtain ⟨r0, hr0⟩ : ∃ r0, r0 = w.heap.size := ⟨_, rfl⟩
  obtain ⟨w1, hw1⟩ : ∃ w1, w1 = w.alloc (TO 0 [] 0 0 0 0) := ⟨_, rfl⟩
  have D1 : Door p r0 w w1 (MO S r ([c] ++ r) k t n re im a en) := by rw [hr0, hw1]; exact Door.start h
  have HW := Lib.hid (And.intro hr0 hw1)
  have H0 := Lib.hid (And.intro hs D1)
  have hpc := piece_any D1.2.2.1 hs hS
  obtain ⟨beg, hbeg⟩ : ∃ beg, beg = ((S.length - ([c] ++ r).length : Nat) : Int) := ⟨_, rfl⟩
  rw [← hbeg]
  have HBG := Lib.hid hbeg
  have HP := Lib.hid (show ∀ q1 q2 : Bool, (decide (k = 1) && decide (en = beg)) = q1 → (decide (k = 2) && decide (en = beg)) = q2 → c = 40 → pun (LA en beg k t) c r = if (q1 || q2) = true then .ok 7 [] 0 0 0 r else txt 6 [c] r by
    rintro q1 q2 rfl rfl hc
    unfold pun LA
    by_cases he : en = beg
    · rw [if_pos he]; by_cases h1 : k = 1 <;> by_cases h2 : k = 2 <;> simp [hc, he, h1, h2]
    · rw [if_neg he]; simp [he])
  have HP2 := Lib.hid (show c ≠ 40 → pun (LA en beg k t) c r = txt 6 [c] r by intro hc; unfold pun; rw [if_neg (fun h => hc h.1)])
  clear h hs D1 hr0 hw1 hbeg
  by_cases hc : c = 40
  · have htl : (c == 40) = true := by rw [hc]; rfl
    obtain ⟨q1, hq1⟩ : ∃ q1, (decide (k = 1) && decide (en = beg)) = q1 := ⟨_, rfl⟩
    obtain ⟨q2, hq2⟩ : ∃ q2, (decide (k = 2) && decide (en = beg)) = q2 := ⟨_, rfl⟩
    have HP3 := Lib.hid (HP.out q1 q2 hq1 hq2 hc)
    have HQ := Lib.hid (And.intro hq1 hq2)
    clear HP HP2 hq1 hq2 hc
    cases q1 with
    | true =>
      go_enter Tryz.func80, Tryz.ntmps80
      go_upto_region 1 with fail
      change Code.wp _ _ _ _ (w.alloc (TO 0 [] 0 0 0 0))
      rw [← HW.out.1, ← HW.out.2]
      go_wp2_with fail
      refine hpc.mono ?_; rintro e w2 ⟨rfl, N2⟩
      have D2 := Lib.hid (H0.out.2.turn N2)
      have hb1 := behind_any N2.1 1
      rw [← HBG.out, HQ.out.1] at hb1
      clear N2
      go_wp2_with fail
      refine hb1.mono ?_; rintro e w3 ⟨rfl, N3⟩
      have D3 := Lib.hid (D2.out.turn N3)
      clear N3 hb1
      obtain ⟨⟨z0, z1, z2, z3, z4, z5⟩, y0, y1, y2, y3, y4, y5⟩ := D3.out.z
      go_wp2_with fail
      obtain ⟨W, hW, ⟨e0, e1, e2, e3, e4, e5⟩, N⟩ := D3.out.fin (.int .i64 7) (.string ⟨#[]⟩) (.int .i64 0) (.int .u64 0) (.int .u64 0) (.int .i64 0)
      rw [hW]
      refine bodyPost_ret (v := .tuple #[tkV 7 [] 0 0 0 0, .int .i64 0]) (by simp [results, Tryz.results80, go_sem, e0, e1, e2, e3, e4, e5, tkV]) rfl ⟨?_, N⟩
      rw [HP3.out]; rfl
    | false =>
      cases q2 with
      | true =>
        go_enter Tryz.func80, Tryz.ntmps80
        go_upto_region 1 with fail
        change Code.wp _ _ _ _ (w.alloc (TO 0 [] 0 0 0 0))
        rw [← HW.out.1, ← HW.out.2]
        go_wp2_with fail
        refine hpc.mono ?_; rintro e w2 ⟨rfl, N2⟩
        have D2 := Lib.hid (H0.out.2.turn N2)
        have hb1 := behind_any N2.1 1
        rw [← HBG.out, HQ.out.1] at hb1
        clear N2
        go_wp2_with fail
        refine hb1.mono ?_; rintro e w3 ⟨rfl, N3⟩
        have D3 := Lib.hid (D2.out.turn N3)
        have hb2 := behind_any N3.1 2
        rw [← HBG.out, HQ.out.2] at hb2
        clear N3 hb1
        go_wp2_with fail
        refine hb2.mono ?_; rintro e w4 ⟨rfl, N4⟩
        have D4 := Lib.hid (D3.out.turn N4)
        clear N4 hb2
        obtain ⟨⟨z0, z1, z2, z3, z4, z5⟩, y0, y1, y2, y3, y4, y5⟩ := D4.out.z
        go_wp2_with fail
        obtain ⟨W, hW, ⟨e0, e1, e2, e3, e4, e5⟩, N⟩ := D4.out.fin (.int .i64 7) (.string ⟨#[]⟩) (.int .i64 0) (.int .u64 0) (.int .u64 0) (.int .i64 0)
        rw [hW]
        refine bodyPost_ret (v := .tuple #[tkV 7 [] 0 0 0 0, .int .i64 0]) (by simp [results, Tryz.results80, go_sem, e0, e1, e2, e3, e4, e5, tkV]) rfl ⟨?_, N⟩
        rw [HP3.out]; rfl
      | false =>
        obtain ⟨k', t', n', re', im', er, hsh⟩ := trv_shape (txt 6 [c] r)
        have htx := fun w => texted_any 6 [c] r (by simp) w
        simp only [hsh] at htx
        have HSH := Lib.hid hsh
        clear hsh
        go_enter Tryz.func80, Tryz.ntmps80
        go_upto_region 1 with fail
        change Code.wp _ _ _ _ (w.alloc (TO 0 [] 0 0 0 0))
        rw [← HW.out.1, ← HW.out.2]
        go_wp2_with fail
        refine hpc.mono ?_; rintro e w2 ⟨rfl, N2⟩
        have D2 := Lib.hid (H0.out.2.turn N2)
        have hb1 := behind_any N2.1 1
        rw [← HBG.out, HQ.out.1] at hb1
        clear N2
        go_wp2_with fail
        refine hb1.mono ?_; rintro e w3 ⟨rfl, N3⟩
        have D3 := Lib.hid (D2.out.turn N3)
        have hb2 := behind_any N3.1 2
        rw [← HBG.out, HQ.out.2] at hb2
        clear N3 hb1
        go_wp2_with fail
        refine hb2.mono ?_; rintro e w4 ⟨rfl, N4⟩
        have D4 := Lib.hid (D3.out.turn N4)
        have hpc2 := piece_any N4.1 H0.out.1 hS
        clear N4 hb2
        go_wp2_with fail
        refine hpc2.mono ?_; rintro e w5 ⟨rfl, N5⟩
        have D5 := Lib.hid (D4.out.turn N5)
        clear N5 hpc2
        go_wp2_with fail
        refine (htx _).mono ?_; rintro e w6 ⟨rfl, b6⟩
        have D6 := Lib.hid (D5.out.below b6)
        clear b6 htx
        obtain ⟨⟨z0, z1, z2, z3, z4, z5⟩, y0, y1, y2, y3, y4, y5⟩ := D6.out.z
        unfold tkV
        go_wp2_with fail
        obtain ⟨W, hW, ⟨e0, e1, e2, e3, e4, e5⟩, N⟩ := D6.out.fin (.int .i64 k') (.string ⟨t'.toArray⟩) (.int .i64 n') (.int .u64 re') (.int .u64 im') (.int .i64 0)
        rw [hW]
        refine bodyPost_ret (v := .tuple #[tkV k' t' n' re' im' 0, .int .i64 er]) (by simp [results, Tryz.results80, go_sem, e0, e1, e2, e3, e4, e5, tkV]) rfl ⟨?_, N⟩
        rw [HP3.out, if_neg (by decide), HSH.out]
  · have htl : (c == 40) = false := by rw [beq_eq_false_iff_ne]; exact hc
    have HP3 := Lib.hid (HP2.out hc)
    clear HP HP2 hc
    obtain ⟨k', t', n', re', im', er, hsh⟩ := trv_shape (txt 6 [c] r)
    have htx := fun w => texted_any 6 [c] r (by simp) w
    simp only [hsh] at htx
    have HSH := Lib.hid hsh
    clear hsh
    go_enter Tryz.func80, Tryz.ntmps80
    go_upto_region 1 with fail
    change Code.wp _ _ _ _ (w.alloc (TO 0 [] 0 0 0 0))
    rw [← HW.out.1, ← HW.out.2]
    go_wp2_with fail
    refine hpc.mono ?_; rintro e w2 ⟨rfl, N2⟩
    have D2 := Lib.hid (H0.out.2.turn N2)
    have hpc2 := piece_any N2.1 H0.out.1 hS
    clear N2
    go_wp2_with fail
    refine hpc2.mono ?_; rintro e w5 ⟨rfl, N5⟩
    have D5 := Lib.hid (D2.out.turn N5)
    clear N5 hpc2
    go_wp2_with fail
    refine (htx _).mono ?_; rintro e w6 ⟨rfl, b6⟩
    have D6 := Lib.hid (D5.out.below b6)
    clear b6 htx
    obtain ⟨⟨z0, z1, z2, z3, z4, z5⟩, y0, y1, y2, y3, y4, y5⟩ := D6.out.z
    unfold tkV
    go_wp2_with fail
    obtain ⟨W, hW, ⟨e0, e1, e2, e3, e4, e5⟩, N⟩ := D6.out.fin (.int .i64 k') (.string ⟨t'.toArray⟩) (.int .i64 n') (.int .u64 re') (.int .u64 im') (.int .i64 0)
    rw [hW]
    refine bodyPost_ret (v := .tuple #[tkV k' t' n' re' im' 0, .int .i64 er]) (by simp [results, Tryz.results80, go_sem, e0, e1, e2, e3, e4, e5, tkV]) rfl ⟨?_, N⟩
    rw [HP3.out, HSH.out]
/-! ### numbers -/
theorem nmb_no (la : Int × List UInt8) {q rest : List UInt8} (h0 : dve q ≠ 0) (h : ¬(q = leastL ∧ la.1 = 1 ∧ la.2 = [45])) : nmb la q rest = if pe q = 0 then .ok 4 [] (pv q) 0 0 rest else .er (pe q) := by
  unfold nmb; rw [if_neg h0, if_neg h]
set_option maxHeartbeats 1000000 in
theorem number_any {q rest : List UInt8} {B : Nat} (h : w.heap[p]? = some (MO S rest (q ++ rest) k t n re im a en)) (hs : q ++ rest <:+ S) (hS : S.length ≤ 65536) (hv : VR B w) (hB : B ≤ p) :
    Calls Tryz.prog 84 #[.pointer (some ⟨p, 0, none⟩)] w fun e w' => e = .returned (trv (nmb (LA en ((S.length - (q ++ rest).length : Nat) : Int) k t) q rest)) ∧ Nw p (MO S rest (q ++ rest) k t n re im a en) w w' := by
  have hq : q.length ≤ 65536 := by have := hs.length_le; simp only [List.length_append] at this; omega
  obtain ⟨r0, hr0⟩ : ∃ r0, r0 = w.heap.size := ⟨_, rfl⟩
  obtain ⟨w1, hw1⟩ : ∃ w1, w1 = w.alloc (TO 0 [] 0 0 0 0) := ⟨_, rfl⟩
  have D1 : Door p r0 w w1 (MO S rest (q ++ rest) k t n re im a en) := by rw [hr0, hw1]; exact Door.start h
  have V1 : VR B w1 := by rw [hw1]; exact hv.below (kp.ba w _)
  have HW := Lib.hid (And.intro hr0 hw1)
  have H0 := Lib.hid (And.intro hs (And.intro D1 (And.intro V1 (show ∀ i, i = p → B ≤ i from fun i hi => by omega))))
  have hpc := piece_any D1.2.2.1 hs hS
  obtain ⟨beg, hbeg⟩ : ∃ beg, beg = ((S.length - (q ++ rest).length : Nat) : Int) := ⟨_, rfl⟩
  rw [← hbeg]
  have HBG := Lib.hid hbeg
  have hpC := fun w => parseC_any q w (by omega)
  have HNO := Lib.hid (@nmb_no (LA en beg k t) q rest)
  have HYES := Lib.hid (show dve q = 0 → trv (nmb (LA en beg k t) q rest) = .tuple #[tkV 5 [] 0 (dv1 q) (dv2 q) 0, .int .i64 0] by intro h; unfold nmb; rw [if_pos h]; rfl)
  have HMIN := Lib.hid (show dve q ≠ 0 → q = leastL → en = beg → k = 1 → t = [45] → trv (nmb (LA en beg k t) q rest) = .tuple #[tkV 4 [] (-9223372036854775808) 0 0 0, .int .i64 0] by
    intro h0 h1 h2 h3 h4
    unfold nmb LA
    rw [if_neg h0, if_pos ⟨h1, by rw [if_pos h2]; exact ⟨h3, h4⟩⟩]; rfl)
  have hpa := fun w tp pq hvar => parse_any q w (by omega) tp pq hvar
  clear h hs D1 V1 hr0 hw1 hbeg hv hB
  obtain ⟨x1, hx1⟩ : ∃ x, dv1 q = x := ⟨_, rfl⟩
  obtain ⟨x2, hx2⟩ : ∃ x, dv2 q = x := ⟨_, rfl⟩
  obtain ⟨x3, hx3⟩ : ∃ x, dve q = x := ⟨_, rfl⟩
  obtain ⟨u1, hu1⟩ : ∃ x, pv q = x := ⟨_, rfl⟩
  obtain ⟨u2, hu2⟩ : ∃ x, pe q = x := ⟨_, rfl⟩
  rw [hx1, hx2, hx3] at HYES
  rw [hx3, hu1, hu2] at HNO
  rw [hx3] at HMIN
  simp only [hx1, hx2, hx3] at hpC
  simp only [hu1, hu2] at hpa
  clear hx1 hx2 hx3 hu1 hu2
  by_cases h0 : x3 = 0
  · have h0' : (x3 == 0) = true := by rw [h0]; rfl
    have HR := Lib.hid (HYES.out h0)
    clear HYES HNO HMIN h0
    go_enter Tryz.func84, Tryz.ntmps84
    go_upto_region 1 with fail
    change Code.wp _ _ _ _ (w.alloc (TO 0 [] 0 0 0 0))
    rw [← HW.out.1, ← HW.out.2]
    go_wp2_with fail
    refine hpc.mono ?_; rintro e w2 ⟨rfl, N2⟩
    have D2 := Lib.hid (H0.out.2.1.turn N2)
    clear N2
    obtain ⟨⟨z0, z1, z2, z3, z4, z5⟩, y0, y1, y2, y3, y4, y5⟩ := D2.out.z
    go_wp2_with fail
    refine (hpC _).mono ?_; rintro e w' ⟨rfl, rfl⟩
    go_wp2_with fail
    obtain ⟨W, hW, ⟨e0, e1, e2, e3, e4, e5⟩, N⟩ := D2.out.fin (.int .i64 5) (.string ⟨#[]⟩) (.int .i64 0) (.int .u64 (x1 : Int)) (.int .u64 (x2 : Int)) (.int .i64 0)
    rw [hW]
    refine bodyPost_ret (v := .tuple #[tkV 5 [] 0 x1 x2 0, .int .i64 0]) (by simp [results, Tryz.results84, go_sem, e0, e1, e2, e3, e4, e5, tkV]) rfl ⟨?_, N⟩
    rw [HR.out]
  · have h0' : (x3 == 0) = false := by rw [beq_eq_false_iff_ne]; exact h0
    by_cases hql : q = leastL
    · have hpc : Calls Tryz.prog 79 #[.pointer (some ⟨p, 0, none⟩)] w1 fun e w' => e = .returned (.string ⟨#[57, 50, 50, 51, 51, 55, 50, 48, 51, 54, 56, 53, 52, 55, 55, 53, 56, 48, 56]⟩) ∧ Nw p (MO S rest (q ++ rest) k t n re im a en) w1 w' := by rw [hql] at hpc ⊢; exact hpc
      have hpC : ∀ w, Calls Tryz.prog 123 #[.string ⟨#[57, 50, 50, 51, 51, 55, 50, 48, 51, 54, 56, 53, 52, 55, 55, 53, 56, 48, 56]⟩] w fun e w' => e = .returned (.tuple #[.int .u64 (x1 : Nat), .int .u64 (x2 : Nat), .int .i64 x3]) ∧ w = w' := by rw [hql] at hpC; exact hpC
      have hpa : ∀ w tp pq, w.var? Tryz.prog "strconv.ErrRange" = some #[.iface tp pq] → Calls Tryz.prog 124 #[.string ⟨#[57, 50, 50, 51, 51, 55, 50, 48, 51, 54, 56, 53, 52, 55, 55, 53, 56, 48, 56]⟩] w fun e w' => e = .returned (.tuple #[.int .i64 u1, .int .i64 u2]) ∧ Below w.heap.size w w' := by rw [hql] at hpa; exact hpa
      by_cases hb : (decide (k = 1) && decide (en = beg)) = true
      · have hke : k = 1 ∧ en = beg := by simpa using hb
        by_cases ht : t = [45]
        · have HR := Lib.hid (HMIN.out h0 hql hke.2 hke.1 ht)
          have HTT := Lib.hid ht
          have HBB := Lib.hid hb
          clear HYES HNO HMIN h0 hql hb hke ht
          go_enter Tryz.func84, Tryz.ntmps84
          go_upto_region 1 with fail
          change Code.wp _ _ _ _ (w.alloc (TO 0 [] 0 0 0 0))
          rw [← HW.out.1, ← HW.out.2]
          go_wp2_with fail
          refine hpc.mono ?_; rintro e w2 ⟨rfl, N2⟩
          have D2 := Lib.hid (H0.out.2.1.turn N2)
          have hb1 := behind_any N2.1 1
          rw [← HBG.out, HBB.out] at hb1
          clear N2
          go_wp2_with fail
          refine (hpC _).mono ?_; rintro e w' ⟨rfl, rfl⟩
          go_wp2_with fail
          refine hb1.mono ?_; rintro e w3 ⟨rfl, N3⟩
          have D3 := Lib.hid (D2.out.turn N3)
          obtain ⟨⟨c0, c1, c2, c3, c4, -⟩, -⟩ := ten N3.1
          rw [HTT.out] at c4
          clear N3 hb1
          obtain ⟨⟨z0, z1, z2, z3, z4, z5⟩, y0, y1, y2, y3, y4, y5⟩ := D3.out.z
          go_wp2_with fail
          obtain ⟨W, hW, ⟨e0, e1, e2, e3, e4, e5⟩, N⟩ := D3.out.fin (.int .i64 4) (.string ⟨#[]⟩) (.int .i64 (-9223372036854775808)) (.int .u64 0) (.int .u64 0) (.int .i64 0)
          rw [hW]
          refine bodyPost_ret (v := .tuple #[tkV 4 [] (-9223372036854775808) 0 0 0, .int .i64 0]) (by simp [results, Tryz.results84, go_sem, e0, e1, e2, e3, e4, e5, tkV]) rfl ⟨?_, N⟩
          rw [HR.out]
        · have hte : ((⟨t.toArray⟩ : ByteArray).toList == ({ data := #[45] } : ByteArray).toList) = false := (tl_dec t _ [45] rfl).trans (decide_eq_false ht)
          have HR := Lib.hid (HNO.out h0 (by unfold LA; rw [if_pos hke.2]; exact fun h => ht h.2.2))
          have HBB := Lib.hid hb
          have hte2 : (t == [45]) = false := by rw [beq_eq_false_iff_ne]; exact ht
          clear HYES HNO HMIN h0 hql hb hke
          go_enter Tryz.func84, Tryz.ntmps84
          go_upto_region 1 with fail
          change Code.wp _ _ _ _ (w.alloc (TO 0 [] 0 0 0 0))
          rw [← HW.out.1, ← HW.out.2]
          go_wp2_with fail
          refine hpc.mono ?_; rintro e w2 ⟨rfl, N2⟩
          have D2 := Lib.hid (H0.out.2.1.turn N2)
          have V2 := Lib.hid (H0.out.2.2.1.keep N2.2 H0.out.2.2.2)
          have hb1 := behind_any N2.1 1
          rw [← HBG.out, HBB.out] at hb1
          clear N2
          go_wp2_with fail
          refine (hpC _).mono ?_; rintro e w' ⟨rfl, rfl⟩
          go_wp2_with fail
          refine hb1.mono ?_; rintro e w3 ⟨rfl, N3⟩
          have D3 := Lib.hid (D2.out.turn N3)
          obtain ⟨tp, pq, hv3⟩ := (V2.out.keep N3.2 H0.out.2.2.2).get
          have HV3 := Lib.hid hv3
          obtain ⟨⟨c0, c1, c2, c3, c4, -⟩, -⟩ := ten N3.1
          clear N3 hb1 hv3
          go_wp2_with fail
          refine (hpa _ _ _ HV3.out).mono ?_; rintro e w7 ⟨rfl, b7⟩
          have D7 := Lib.hid (D3.out.below b7)
          clear b7
          obtain ⟨⟨z0, z1, z2, z3, z4, z5⟩, y0, y1, y2, y3, y4, y5⟩ := D7.out.z
          by_cases h9 : u2 = 0
          · have h9' : (u2 != 0) = false := by rw [h9]; rfl
            have HR2 := Lib.hid (show trv (nmb (LA en beg k t) q rest) = .tuple #[tkV 4 [] u1 0 0 0, .int .i64 0] by rw [HR.out, if_pos h9]; rfl)
            clear h9
            go_wp2_with fail
            obtain ⟨W, hW, ⟨e0, e1, e2, e3, e4, e5⟩, N⟩ := D7.out.fin (.int .i64 4) (.string ⟨#[]⟩) (.int .i64 u1) (.int .u64 0) (.int .u64 0) (.int .i64 0)
            rw [hW]
            refine bodyPost_ret (v := .tuple #[tkV 4 [] u1 0 0 0, .int .i64 0]) (by simp [results, Tryz.results84, go_sem, e0, e1, e2, e3, e4, e5, tkV]) rfl ⟨?_, N⟩
            rw [HR2.out]
          · have h9' : (u2 != 0) = true := by rw [bne_iff_ne]; exact h9
            have HR2 := Lib.hid (show trv (nmb (LA en beg k t) q rest) = .tuple #[tkV 0 [] 0 0 0 0, .int .i64 u2] by rw [HR.out, if_neg h9]; rfl)
            clear h9
            go_wp2_with fail
            obtain ⟨W, hW, ⟨e0, e1, e2, e3, e4, e5⟩, N⟩ := D7.out.fin (.int .i64 0) (.string ⟨#[]⟩) (.int .i64 0) (.int .u64 0) (.int .u64 0) (.int .i64 0)
            rw [hW]
            refine bodyPost_ret (v := .tuple #[tkV 0 [] 0 0 0 0, .int .i64 u2]) (by simp [results, Tryz.results84, go_sem, e0, e1, e2, e3, e4, e5, tkV]) rfl ⟨?_, N⟩
            rw [HR2.out]
      · simp only [Bool.not_eq_true] at hb
        have HR := Lib.hid (HNO.out h0 (by
          rintro ⟨-, h1, h2⟩
          unfold LA at h1 h2
          by_cases he : en = beg
          · rw [if_pos he] at h1; rw [decide_eq_true (by simpa using h1), decide_eq_true he] at hb; cases hb
          · rw [if_neg he] at h1; cases h1))
        have HBB := Lib.hid hb
        clear HYES HNO HMIN h0 hql hb
        go_enter Tryz.func84, Tryz.ntmps84
        go_upto_region 1 with fail
        change Code.wp _ _ _ _ (w.alloc (TO 0 [] 0 0 0 0))
        rw [← HW.out.1, ← HW.out.2]
        go_wp2_with fail
        refine hpc.mono ?_; rintro e w2 ⟨rfl, N2⟩
        have D2 := Lib.hid (H0.out.2.1.turn N2)
        have V2 := Lib.hid (H0.out.2.2.1.keep N2.2 H0.out.2.2.2)
        have hb1 := behind_any N2.1 1
        rw [← HBG.out, HBB.out] at hb1
        clear N2
        go_wp2_with fail
        refine (hpC _).mono ?_; rintro e w' ⟨rfl, rfl⟩
        go_wp2_with fail
        refine hb1.mono ?_; rintro e w3 ⟨rfl, N3⟩
        have D3 := Lib.hid (D2.out.turn N3)
        obtain ⟨tp, pq, hv3⟩ := (V2.out.keep N3.2 H0.out.2.2.2).get
        have HV3 := Lib.hid hv3
        clear N3 hb1 hv3
        go_wp2_with fail
        refine (hpa _ _ _ HV3.out).mono ?_; rintro e w7 ⟨rfl, b7⟩
        have D7 := Lib.hid (D3.out.below b7)
        clear b7
        obtain ⟨⟨z0, z1, z2, z3, z4, z5⟩, y0, y1, y2, y3, y4, y5⟩ := D7.out.z
        by_cases h9 : u2 = 0
        · have h9' : (u2 != 0) = false := by rw [h9]; rfl
          have HR2 := Lib.hid (show trv (nmb (LA en beg k t) q rest) = .tuple #[tkV 4 [] u1 0 0 0, .int .i64 0] by rw [HR.out, if_pos h9]; rfl)
          clear h9
          go_wp2_with fail
          obtain ⟨W, hW, ⟨e0, e1, e2, e3, e4, e5⟩, N⟩ := D7.out.fin (.int .i64 4) (.string ⟨#[]⟩) (.int .i64 u1) (.int .u64 0) (.int .u64 0) (.int .i64 0)
          rw [hW]
          refine bodyPost_ret (v := .tuple #[tkV 4 [] u1 0 0 0, .int .i64 0]) (by simp [results, Tryz.results84, go_sem, e0, e1, e2, e3, e4, e5, tkV]) rfl ⟨?_, N⟩
          rw [HR2.out]
        · have h9' : (u2 != 0) = true := by rw [bne_iff_ne]; exact h9
          have HR2 := Lib.hid (show trv (nmb (LA en beg k t) q rest) = .tuple #[tkV 0 [] 0 0 0 0, .int .i64 u2] by rw [HR.out, if_neg h9]; rfl)
          clear h9
          go_wp2_with fail
          obtain ⟨W, hW, ⟨e0, e1, e2, e3, e4, e5⟩, N⟩ := D7.out.fin (.int .i64 0) (.string ⟨#[]⟩) (.int .i64 0) (.int .u64 0) (.int .u64 0) (.int .i64 0)
          rw [hW]
          refine bodyPost_ret (v := .tuple #[tkV 0 [] 0 0 0 0, .int .i64 u2]) (by simp [results, Tryz.results84, go_sem, e0, e1, e2, e3, e4, e5, tkV]) rfl ⟨?_, N⟩
          rw [HR2.out]
    · have hqe : ((⟨q.toArray⟩ : ByteArray).toList == ({ data := #[57, 50, 50, 51, 51, 55, 50, 48, 51, 54, 56, 53, 52, 55, 55, 53, 56, 48, 56] } : ByteArray).toList) = false := (tl_dec q _ leastL rfl).trans (decide_eq_false hql)
      have HR := Lib.hid (HNO.out h0 (fun h => hql h.1))
      unfold leastL at hql
      clear HYES HNO HMIN h0
      go_enter Tryz.func84, Tryz.ntmps84
      go_upto_region 1 with fail
      change Code.wp _ _ _ _ (w.alloc (TO 0 [] 0 0 0 0))
      rw [← HW.out.1, ← HW.out.2]
      go_wp2_with fail
      refine hpc.mono ?_; rintro e w2 ⟨rfl, N2⟩
      have D2 := Lib.hid (H0.out.2.1.turn N2)
      obtain ⟨tp, pq, hv3⟩ := (H0.out.2.2.1.keep N2.2 H0.out.2.2.2).get
      have HV3 := Lib.hid hv3
      clear N2 hv3
      go_wp2_with fail
      refine (hpC _).mono ?_; rintro e w' ⟨rfl, rfl⟩
      go_wp2_with fail
      refine (hpa _ _ _ HV3.out).mono ?_; rintro e w7 ⟨rfl, b7⟩
      have D7 := Lib.hid (D2.out.below b7)
      clear b7
      obtain ⟨⟨z0, z1, z2, z3, z4, z5⟩, y0, y1, y2, y3, y4, y5⟩ := D7.out.z
      by_cases h9 : u2 = 0
      · have h9' : (u2 != 0) = false := by rw [h9]; rfl
        have HR2 := Lib.hid (show trv (nmb (LA en beg k t) q rest) = .tuple #[tkV 4 [] u1 0 0 0, .int .i64 0] by rw [HR.out, if_pos h9]; rfl)
        clear h9
        go_wp2_with fail
        obtain ⟨W, hW, ⟨e0, e1, e2, e3, e4, e5⟩, N⟩ := D7.out.fin (.int .i64 4) (.string ⟨#[]⟩) (.int .i64 u1) (.int .u64 0) (.int .u64 0) (.int .i64 0)
        rw [hW]
        refine bodyPost_ret (v := .tuple #[tkV 4 [] u1 0 0 0, .int .i64 0]) (by simp [results, Tryz.results84, go_sem, e0, e1, e2, e3, e4, e5, tkV]) rfl ⟨?_, N⟩
        rw [HR2.out]
      · have h9' : (u2 != 0) = true := by rw [bne_iff_ne]; exact h9
        have HR2 := Lib.hid (show trv (nmb (LA en beg k t) q rest) = .tuple #[tkV 0 [] 0 0 0 0, .int .i64 u2] by rw [HR.out, if_neg h9]; rfl)
        clear h9
        go_wp2_with fail
        obtain ⟨W, hW, ⟨e0, e1, e2, e3, e4, e5⟩, N⟩ := D7.out.fin (.int .i64 0) (.string ⟨#[]⟩) (.int .i64 0) (.int .u64 0) (.int .u64 0) (.int .i64 0)
        rw [hW]
        refine bodyPost_ret (v := .tuple #[tkV 0 [] 0 0 0 0, .int .i64 u2]) (by simp [results, Tryz.results84, go_sem, e0, e1, e2, e3, e4, e5, tkV]) rfl ⟨?_, N⟩
        rw [HR2.out]
end
end Go.Proofs.YtedbcmagjbgbjaaGreatDoor.tk
