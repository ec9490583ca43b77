/- The project's reader: its object; token, take, passes, closes, bound, below. -/
import Derived.Test.YtedbcmagjbgbjaaGreatDoorRdM
import Derived.Test.YtedbcmagjbgbjaaGreatDoorTkG
import Derived.Test.YtedbcmagjbgbjaaGreatDoorOpB
namespace Go.Proofs.YtedbcmagjbgbjaaGreatDoor.rd
open Go.ChangeShapes Go.WideShapes Go.ChangeAt Go.RowKit Go.Maps
open Go.Proofs.YtedbcmagjbgbjaaGreatDoor.kp Go.Proofs.YtedbcmagjbgbjaaGreatDoor.num Go.Proofs.YtedbcmagjbgbjaaGreatDoor.dec Go.Proofs.YtedbcmagjbgbjaaGreatDoor.tk
set_option linter.unusedVariables false
set_option linter.unusedSimpArgs false
abbrev RO (tv : Value) (N k : Nat) (tb mp nv : Value) : Obj := .cells #[tv, .int .i64 (N : Int), .int .i64 (k : Int), tb, mp, nv] 72 (0, 0)
def TV (x : Tk) : Value := .agg (tkc x).toArray
theorem nmw {K : World → Prop} {w : World} {A B C D} (hk : K w) (h : ∀ w', K w' → Code.wp A B C D w') : Code.wp A B C D w := h w hk
/-- a new token's block, nothing else turned -/
def NB (r0 : Nat) (w0 w : World) : Prop := r0 = w0.heap.size ∧ w.heap[r0]? = some (TO 0 [] 0 0 0 0) ∧ Below w0.heap.size w0 w
section
variable {w w' w0 : World} {p r0 : Nat} {tv tb mp nv : Value} {N k : Nat} {all : List Tk} {B : Nat}
theorem NB.start (w : World) : NB w.heap.size w (w.alloc (TO 0 [] 0 0 0 0)) := ⟨rfl, alloc_at w _, kp.ba w _⟩
theorem NB.below (h : NB r0 w0 w) (b : Below w.heap.size w w') : NB r0 w0 w' :=
  ⟨h.1, (b.block r0 (Nw.lt h.2.1)).trans h.2.1, h.2.2.trans (b.mono h.2.2.size)⟩
theorem NB.fin (h : NB r0 w0 w) (v0 v1 v2 v3 v4 v5 : Value) : ∃ W,
    ((((((w.setCell ⟨r0, 0, none⟩ v0).setCell ⟨r0, 1, none⟩ v1).setCell ⟨r0, 2, none⟩ v2).setCell ⟨r0, 3, none⟩ v3).setCell ⟨r0, 4, none⟩ v4).setCell ⟨r0, 5, none⟩ v5) = W ∧
      (W.cell? ⟨r0, 0, none⟩ = some v0 ∧ W.cell? ⟨r0, 1, none⟩ = some v1 ∧ W.cell? ⟨r0, 2, none⟩ = some v2 ∧ W.cell? ⟨r0, 3, none⟩ = some v3 ∧ W.cell? ⟨r0, 4, none⟩ = some v4 ∧ W.cell? ⟨r0, 5, none⟩ = some v5) ∧ Below w0.heap.size w0 W := by
  obtain ⟨a, d, e⟩ := h
  obtain ⟨W, hW, N⟩ := fin6 d v0 v1 v2 v3 v4 v5
  refine ⟨W, hW, (six N.1).1, e.trans (N.2.to_below (fun i hi => by omega) (by have := N.2.size; have := e.size; omega))⟩
theorem see_in {j : Nat} (h : k + j < all.length) : see N (all.drop k) j = all[k + j] := by
  unfold see; rw [List.getElem?_drop, List.getElem?_eq_getElem h]; rfl
theorem see_out {j : Nat} (h : all.length ≤ k + j) : see N (all.drop k) j = ⟨0, [], 0, 0, 0, N⟩ := by
  unfold see; rw [List.getElem?_drop, List.getElem?_eq_none h]; rfl
set_option maxRecDepth 100000 in
set_option maxHeartbeats 8000000 in
theorem token_any (h : w.heap[p]? = some (RO tv N k tb mp nv)) (ht : Toks B w tv all) (hk : k ≤ 70000) (hl : all.length ≤ 70000) (j : Nat) (hj : j ≤ 2) :
    Calls Tryz.prog 56 #[.pointer (some ⟨p, 0, none⟩), .int .i64 (j : Int)] w fun e w' => e = .returned (TV (see N (all.drop k) j)) ∧ Below w.heap.size w w' := by
  obtain ⟨r0, hr0⟩ : ∃ r0, r0 = w.heap.size := ⟨_, rfl⟩
  obtain ⟨w1, hw1⟩ : ∃ w1, w1 = w.alloc (TO 0 [] 0 0 0 0) := ⟨_, rfl⟩
  have D1 : NB r0 w w1 := by rw [hr0, hw1]; exact NB.start w
  have HW := Lib.hid (And.intro hr0 hw1)
  have h1 : w1.heap[p]? = some (RO tv N k tb mp nv) := (D1.2.2.block p (Nw.lt h)).trans h
  have ht1 := ht.below D1.2.2
  obtain ⟨⟨c0, c1, c2, -⟩, -⟩ := six h1
  obtain ⟨⟨z0, z1, z2, z3, z4, z5⟩, y0, y1, y2, y3, y4, y5⟩ := six D1.2.1
  have hw : wrap64 ((k : Int) + (j : Int)) = ((k + j : Nat) : Int) := by unfold wrap64; omega
  obtain ⟨a, c, rfl⟩ := ht1.shape
  have HD := Lib.hid (And.intro D1 ht1)
  clear h ht hr0 hw1 D1 h1 ht1
  by_cases hlt : k + j < all.length
  · rw [see_in hlt]
    have hd : decide ((k : Int) + (j : Int) < (all.length : Int)) = true := decide_eq_true (by omega)
    obtain ⟨g, c', hv, -, -, hq⟩ := HD.out.2.look (by intro e; rw [e] at hlt; simp at hlt)
    cases hv
    obtain ⟨t0, t1, t2, t3, t4, t5⟩ := hq (k + j) _ (List.getElem?_eq_getElem hlt)
    have hix : ∀ w, (Instr.indexAt 67 (.slice (some ⟨g, 0, none⟩) all.length c) (.int .i64 ((k : Int) + (j : Int)))).run Tryz.prog w = .ok (.pointer (some ⟨g, (k + j) * 6, none⟩)) w := fun w => ixT (g := g) (c := c) (k := k + j) (n := all.length) hlt w
    obtain ⟨x, hx⟩ : ∃ x, x = all[k + j] := ⟨_, rfl⟩
    rw [← hx] at t0 t1 t2 t3 t4 t5 ⊢
    obtain ⟨o, ho⟩ : ∃ o, o = (k + j) * 6 := ⟨_, rfl⟩
    rw [← ho] at t0 t1 t2 t3 t4 t5
    simp only [← ho] at hix
    clear hx ho hlt hq
    go_enter Tryz.func56, Tryz.ntmps56
    go_upto_region 1 with fail
    change Code.wp _ _ _ _ (w.alloc (TO 0 [] 0 0 0 0))
    rw [← HW.out.1, ← HW.out.2]
    go_wp2_with fail
    obtain ⟨W, hW, ⟨e0, e1, e2, e3, e4, e5⟩, hB⟩ := HD.out.1.fin (.int .i64 x.k) (.string ⟨x.t.toArray⟩) (.int .i64 x.n) (.int .u64 (x.re : Int)) (.int .u64 (x.im : Int)) (.int .i64 (x.a : Int))
    rw [hW]
    exact bodyPost_ret (v := TV x) (by simp [results, Tryz.results56, go_sem, e0, e1, e2, e3, e4, e5, TV, tkc]) rfl ⟨rfl, hB⟩
  · rw [see_out (by omega)]
    have hd : decide ((k : Int) + (j : Int) < (all.length : Int)) = false := decide_eq_false (by omega)
    clear hlt
    go_enter Tryz.func56, Tryz.ntmps56
    go_upto_region 1 with fail
    change Code.wp _ _ _ _ (w.alloc (TO 0 [] 0 0 0 0))
    rw [← HW.out.1, ← HW.out.2]
    go_wp2_with fail
    obtain ⟨W, hW, ⟨e0, e1, e2, e3, e4, e5⟩, hB⟩ := HD.out.1.fin (.int .i64 0) (.string ⟨#[]⟩) (.int .i64 0) (.int .u64 0) (.int .u64 0) (.int .i64 (N : Int))
    rw [hW]
    exact bodyPost_ret (v := TV ⟨0, [], 0, 0, 0, N⟩) (by simp [results, Tryz.results56, go_sem, e0, e1, e2, e3, e4, e5, TV, tkc]) rfl ⟨rfl, hB⟩
theorem news_t (w : World) (x : Tk) : (w.alloc (.cells #[.int .i64 x.k, .string ⟨x.t.toArray⟩, .int .i64 x.n, .int .u64 (x.re : Int), .int .u64 (x.im : Int), .int .i64 (x.a : Int)] 76)).heap[w.heap.size]? = some (.cells #[.int .i64 x.k, .string ⟨x.t.toArray⟩, .int .i64 x.n, .int .u64 (x.re : Int), .int .u64 (x.im : Int), .int .i64 (x.a : Int)] 76 (0, 0)) := alloc_at w _
set_option maxRecDepth 100000 in
set_option maxHeartbeats 8000000 in
theorem closes_any (x : Tk) (w : World) : Calls Tryz.prog 163 #[TV x] w fun e w' => e = .returned (.bool (shuts x)) ∧ Below w.heap.size w w' := by
  have hA := news_t w x
  obtain ⟨⟨y0, y1, -⟩, -⟩ := six hA
  have hB := Lib.hid (kp.ba w (.cells #[.int .i64 x.k, .string ⟨x.t.toArray⟩, .int .i64 x.n, .int .u64 (x.re : Int), .int .u64 (x.im : Int), .int .i64 (x.a : Int)] 76))
  clear hA
  unfold TV tkc
  by_cases h6 : x.k = 6
  · have hs : shuts x = (!(x.t == [40]) && !(x.t == [91])) := by unfold shuts; rw [if_pos h6]; by_cases a : x.t = [40] <;> by_cases b : x.t = [91] <;> simp [a, b]
    have HS := Lib.hid hs
    have k6 : (x.k == 6) = true := by rw [h6]; rfl
    clear h6 hs
    cases q : x.t == [40]
    · cases q2 : x.t == [91]
      all_goals
        have q' : (!x.t == [40]) = true := by rw [q]; rfl
        first | (have q3 : (!x.t == [91]) = true := by rw [q2]; rfl) | (have q3 : (!x.t == [91]) = false := by rw [q2]; rfl)
        have HQ := Lib.hid (And.intro q q2)
        clear q q2
        go_enter Tryz.func163, Tryz.ntmps163
        go_wp2_with fail
        go_ret; exact ⟨by rw [HS.out, HQ.out.1, HQ.out.2]; rfl, hB.out⟩
    · have q' : (!x.t == [40]) = false := by rw [q]; rfl
      have HQ := Lib.hid q
      clear q
      go_enter Tryz.func163, Tryz.ntmps163
      go_wp2_with fail
      go_ret; exact ⟨by rw [HS.out, HQ.out]; rfl, hB.out⟩
  · have k6 : (x.k == 6) = false := by simpa using h6
    by_cases h8 : x.k = 8
    · have HS := Lib.hid (show shuts x = true by unfold shuts; rw [if_neg h6]; simp [h8])
      have k8 : (x.k == 8) = true := by rw [h8]; rfl
      clear h6 h8
      go_enter Tryz.func163, Tryz.ntmps163
      go_wp2_with fail
      go_ret; exact ⟨by rw [HS.out]; rfl, hB.out⟩
    · have k8 : (x.k == 8) = false := by simpa using h8
      have HS := Lib.hid (show shuts x = (x.k == 0) by unfold shuts; rw [if_neg h6]; by_cases h0 : x.k = 0 <;> simp [h8, h0])
      clear h6 h8
      go_enter Tryz.func163, Tryz.ntmps163
      go_wp2_with fail
      go_ret; exact ⟨by rw [HS.out]; rfl, hB.out⟩
theorem bound_any (o : opa.D) (t : Int) (w : World) (h : -1000000 ≤ o.p ∧ o.p ≤ 1000000) : Calls Tryz.prog 89 #[o.v, .int .i64 t] w fun e w' => e = .returned (.int .i64 (bnd o t)) ∧ Below w.heap.size w w' := by
  have hA := alloc_at w (.cells #[.string ⟨o.n.toArray⟩, .int .i64 o.k, .int .i64 o.p] 45)
  have y1 : (w.alloc (.cells #[.string ⟨o.n.toArray⟩, .int .i64 o.k, .int .i64 o.p] 45)).cell? ⟨w.heap.size, 1, none⟩ = some (.int .i64 o.k) := by simp only [World.cell?, hA]; rfl
  have y2 : (w.alloc (.cells #[.string ⟨o.n.toArray⟩, .int .i64 o.k, .int .i64 o.p] 45)).cell? ⟨w.heap.size, 2, none⟩ = some (.int .i64 o.p) := by simp only [World.cell?, hA]; rfl
  have hB := Lib.hid (kp.ba w (.cells #[.string ⟨o.n.toArray⟩, .int .i64 o.k, .int .i64 o.p] 45))
  have hw : wrap64 (o.p - 1) = o.p - 1 := by unfold wrap64; omega
  clear hA
  unfold opa.D.v
  by_cases hk : o.k = t
  · have HS := Lib.hid (show bnd o t = o.p by unfold bnd; rw [if_pos hk])
    have k1 : (o.k == t) = true := by rw [hk]; simp
    clear hk
    go_enter Tryz.func89, Tryz.ntmps89
    go_wp2_with fail
    go_ret; exact ⟨by rw [HS.out]; rfl, hB.out⟩
  · have HS := Lib.hid (show bnd o t = o.p - 1 by unfold bnd; rw [if_neg hk])
    have k1 : (o.k == t) = false := by simpa using hk
    clear hk
    go_enter Tryz.func89, Tryz.ntmps89
    go_wp2_with fail
    go_ret; exact ⟨by rw [HS.out]; rfl, hB.out⟩
theorem below_any (n : Int) (w : World) (h : -9223372036854775808 ≤ n ∧ n ≤ 9223372036854775807) : Calls Tryz.prog 127 #[.int .i64 n] w fun e w' => e = .returned (.int .i64 (below n)) ∧ w = w' := by
  by_cases h0 : 0 < n
  · have HS := Lib.hid (show below n = -n by unfold below; rw [if_pos h0])
    have hd : decide (0 < n) = true := decide_eq_true h0
    have hw : wrap64 (-n) = -n := by unfold wrap64; omega
    go_enter Tryz.func127, Tryz.ntmps127
    go_wp2_with fail
    go_ret; exact ⟨by rw [HS.out]; rfl, rfl⟩
  · have HS := Lib.hid (show below n = n by unfold below; rw [if_neg h0])
    have hd : decide (0 < n) = false := decide_eq_false h0
    go_enter Tryz.func127, Tryz.ntmps127
    go_wp2_with fail
    go_ret; exact ⟨by rw [HS.out]; rfl, rfl⟩
theorem ro_next (h : w.heap[p]? = some (RO tv N k tb mp nv)) : Nw p (RO tv N (k + 1) tb mp nv) w (w.setCell ⟨p, 2, none⟩ (.int .i64 ((k : Int) + 1))) := Nw.set h 2 _
set_option maxRecDepth 100000 in
set_option maxHeartbeats 8000000 in
theorem take_any (h : w.heap[p]? = some (RO tv N k tb mp nv)) (ht : Toks B w tv all) (hk : k ≤ 70000) (hl : all.length ≤ 70000) :
    Calls Tryz.prog 126 #[.pointer (some ⟨p, 0, none⟩)] w fun e w' => e = .returned (TV (see N (all.drop k) 0)) ∧ Nw p (RO tv N (k + 1) tb mp nv) w w' := by
  obtain ⟨r0, hr0⟩ : ∃ r0, r0 = w.heap.size := ⟨_, rfl⟩
  obtain ⟨w1, hw1⟩ : ∃ w1, w1 = w.alloc (TO 0 [] 0 0 0 0) := ⟨_, rfl⟩
  have D1 : NB r0 w w1 := by rw [hr0, hw1]; exact NB.start w
  have HW := Lib.hid (And.intro hr0 hw1)
  have h1 : w1.heap[p]? = some (RO tv N k tb mp nv) := (D1.2.2.block p (Nw.lt h)).trans h
  have hto := Lib.hid (token_any h1 (ht.below D1.2.2) hk hl 0 (by omega))
  have hw : wrap64 ((k : Int) + 1) = ((k + 1 : Nat) : Int) := by unfold wrap64; omega
  have HD := Lib.hid (And.intro D1 (And.intro h1 (Nw.lt h)))
  have HP := Lib.hid (Nw.lt h)
  obtain ⟨x, hx⟩ : ∃ x, x = see N (all.drop k) 0 := ⟨_, rfl⟩
  rw [← hx] at hto ⊢
  clear h ht hr0 hw1 D1 h1 hx
  go_enter Tryz.func126, Tryz.ntmps126
  go_upto_region 1 with fail
  change Code.wp _ _ _ _ (w.alloc (TO 0 [] 0 0 0 0))
  rw [← HW.out.1, ← HW.out.2]
  go_wp2_with fail
  refine hto.out.mono ?_; rintro e w2 ⟨rfl, b2⟩
  have D2 := HD.out.1.below b2
  have h2 := (b2.block p (Nw.lt HD.out.2.1)).trans HD.out.2.1
  have hA0 := alloc_at w2 (TO 0 [] 0 0 0 0)
  obtain ⟨⟨z0, z1, z2, z3, z4, z5⟩, y0, y1, y2, y3, y4, y5⟩ := six hA0
  have hA := alloc_at w2 (.cells (tkc x).toArray 76)
  have b3 := kp.ba w2 (.cells (tkc x).toArray 76)
  have H3 := Lib.hid (And.intro (D2.below b3) (And.intro ((b3.block p (Nw.lt h2)).trans h2) (And.intro hA (show w2.heap.size ≥ w.heap.size from D2.2.2.size))))
  obtain ⟨g, hg⟩ : ∃ g, g = w2.heap.size := ⟨_, rfl⟩
  unfold TV tkc
  clear D2 h2 b2 hA b3 hA0
  go_upto_region 2 with fail
  refine nmw (K := fun W => NB r0 w W ∧ W.heap[p]? = some (RO tv N k tb mp nv) ∧ W.heap[w2.heap.size]? = some (.cells #[.int .i64 x.k, .string ⟨x.t.toArray⟩, .int .i64 x.n, .int .u64 (x.re : Int), .int .u64 (x.im : Int), .int .i64 (x.a : Int)] 76 (0, 0)) ∧ w2.heap.size ≥ w.heap.size) H3.out (fun W hW => ?_)
  have H4 := Lib.hid hW
  obtain ⟨⟨-, -, c2, -⟩, -, -, f2, -⟩ := six hW.2.1
  obtain ⟨⟨t0, t1, t2, t3, t4, t5⟩, -⟩ := six hW.2.2.1
  have hlt := Nw.lt hW.2.1
  clear z0 z1 z2 z3 z4 z5 y0 y1 y2 y3 y4 y5 hW H3
  rw [← hg] at t0 t1 t2 t3 t4 t5 H4 ⊢
  clear hg
  have hpw : p < w.heap.size := HP.out
  have hne : g ≠ p := by have := H4.out.2.2.2; omega
  go_upto_region 3 with fail
  refine nmw (K := fun V => Door p r0 w V (RO tv N (k + 1) tb mp nv) ∧ V.heap[g]? = some (.cells #[.int .i64 x.k, .string ⟨x.t.toArray⟩, .int .i64 x.n, .int .u64 (x.re : Int), .int .u64 (x.im : Int), .int .i64 (x.a : Int)] 76 (0, 0))) ⟨Door.turn ⟨H4.out.1.1, by rw [H4.out.1.1]; exact hpw, H4.out.2.1, H4.out.1.2.1, Keep.of_below H4.out.1.2.2⟩ (ro_next H4.out.2.1), ((ro_next H4.out.2.1).2.block g (Nw.lt H4.out.2.2.1) hne).trans H4.out.2.2.1⟩ (fun V hV => ?_)
  have HV := Lib.hid hV.1
  clear t0 t1 t2 t3 t4 t5
  obtain ⟨⟨t0, t1, t2, t3, t4, t5⟩, -⟩ := six hV.2
  obtain ⟨⟨z0, z1, z2, z3, z4, z5⟩, y0, y1, y2, y3, y4, y5⟩ := hV.1.z
  clear hV c2 f2
  go_wp2_with fail
  obtain ⟨U, hU, ⟨e0, e1, e2, e3, e4, e5⟩, hN⟩ := HV.out.fin (.int .i64 x.k) (.string ⟨x.t.toArray⟩) (.int .i64 x.n) (.int .u64 (x.re : Int)) (.int .u64 (x.im : Int)) (.int .i64 (x.a : Int))
  rw [hU]
  exact bodyPost_ret (v := TV x) (by simp [results, Tryz.results126, go_sem, e0, e1, e2, e3, e4, e5, TV, tkc]) rfl ⟨rfl, hN⟩
end
end Go.Proofs.YtedbcmagjbgbjaaGreatDoor.rd
