/- The project's reader: first. The project's reader: first, a token by itself. The project's reader: first, a name with arguments. The project's reader: first, a number below 0. -/
import Derived.Test.YtedbcmagjbgbjaaGreatDoorRdI
namespace Go.Proofs.YtedbcmagjbgbjaaGreatDoor.rd
open Go.ChangeShapes Go.WideShapes Go.ChangeAt Go.RowKit Go.Maps
open Go.Proofs.YtedbcmagjbgbjaaGreatDoor.kp Go.Proofs.YtedbcmagjbgbjaaGreatDoor.num Go.Proofs.YtedbcmagjbgbjaaGreatDoor.dec Go.Proofs.YtedbcmagjbgbjaaGreatDoor.tk
set_option linter.unusedVariables false
set_option linter.unusedSimpArgs false
section
variable {w w' w0 w1 w2 : World} {p m tp N k : Nat} {tv : Value} {all : List Tk} {tl : List opa.D} {ns : Names} {F F' FT : Nat → Prop} {rec : Rec} {f : Nat}
theorem take_st (h : St p m tv tp FT N all tl k ns F w) (hlt : k < all.length) :
    Calls Tryz.prog 126 #[.pointer (some ⟨p, 0, none⟩)] w fun e w' => e = .returned (TV (see N (all.drop k) 0)) ∧ St p m tv tp FT N all tl (k + 1) ns F w' ∧ Nx F w F w' := by
  obtain ⟨nv, hp⟩ := h.ro
  have ha := h.ale
  refine (take_any hp h.env.toks (by omega) (by omega)).mono ?_
  rintro e w' ⟨rfl, hN⟩
  exact ⟨rfl, h.to (k' := k + 1) hp hN (by omega) (by omega)⟩
set_option maxRecDepth 100000 in
set_option maxHeartbeats 8000000 in
theorem first_4 {R : PR Tm} (level : Nat) (hlev : level ≤ 2500) (hlt : k < all.length) (h : St p m tv tp FT N all tl k ns F w)
    (hc : ∀ W, St p m tv tp FT N all tl (k + 1) ns F W → Calls Tryz.prog 129 #[.pointer (some ⟨p, 0, none⟩), .string ⟨(see N (all.drop k) 0).t.toArray⟩, .int .i64 ((level : Int) + 1)] W (PE p m tv tp FT N all tl R F W)) :
    Calls Tryz.prog 87 #[.pointer (some ⟨p, 0, none⟩), .int .i64 4, .int .i64 (level : Int)] w (PE p m tv tp FT N all tl R F w) := by
  obtain ⟨r0, hr0⟩ : ∃ r0, r0 = w.heap.size := ⟨_, rfl⟩
  obtain ⟨w1, hw1⟩ : ∃ w1, w1 = w.alloc TZ := ⟨_, rfl⟩
  have hb1 : Below w.heap.size w w1 := by rw [hw1]; exact kp.ba w _
  have hz1 : w1.heap[r0]? = some (TC (.int .i64 0) (.string ⟨#[]⟩) (.int .i64 0) (.int .u64 0) (.int .u64 0) (.slice none 0 0)) := by rw [hr0, hw1]; exact alloc_at w _
  have HW := Lib.hid (And.intro hr0 hw1)
  have h1 := h.below hb1
  have hF0 : ¬ F r0 := fun hF => by have := h.lt _ hF; omega
  have HTK := Lib.hid (take_st h1 hlt)
  have HX := Lib.hid (fun W => hc W)
  have H := Lib.hid (And.intro h (And.intro h1 (And.intro hb1 (And.intro hz1 hF0))))
  obtain ⟨x, hx⟩ : ∃ x, x = see N (all.drop k) 0 := ⟨_, rfl⟩
  first | rw [← hx] at HTK HX | rw [← hx] at HTK
  have hwl : wrap64 ((level : Int) + 1) = ((level + 1 : Nat) : Int) := by unfold wrap64; omega
  clear hr0 hw1 hb1 hz1 h1 hF0 h hc hlt hx
  go_enter Tryz.func87, Tryz.ntmps87
  go_upto_region 1 with fail
  change Code.wp _ _ _ _ (w.alloc TZ)
  rw [← HW.out.1, ← HW.out.2]
  go_wp2_with fail
  refine HTK.out.mono ?_; rintro e w2 ⟨rfl, hS2, hN2⟩
  unfold TV tkc
  obtain ⟨⟨a0, a1, a2, a3, a4, a5⟩, b0, b1, b2, b3, b4, b5⟩ := six (alloc_at w2 (TO 0 [] 0 0 0 0))
  obtain ⟨g, hgq⟩ : ∃ g, g = w2.heap.size := ⟨_, rfl⟩
  have H2 := Lib.hid (And.intro hS2 hN2)
  go_upto_region 2 with fail
  refine nmw (K := GT w2 g x) (by rw [hgq]; exact GT.of x (kp.br _)) (fun W hW => ?_)
  rw [← hgq]
  obtain ⟨⟨t0, t1, t2, t3, t4, t5⟩, -⟩ := six hW.2.1
  have hNW : Nx F w F W := ((Nx.below H.out.2.2.1).trans H2.out.2).trans (Nx.below hW.1)
  have hz2 := H2.out.2.block (Nw.lt H.out.2.2.2.1) H.out.2.2.2.2
  have hzW := (hW.1.block r0 (by have := Nw.lt (hz2.1.trans H.out.2.2.2.1); exact this)).trans (hz2.1.trans H.out.2.2.2.1)
  have HCC := Lib.hid (HX.out W (H2.out.1.below hW.1))
  have HWW := Lib.hid (And.intro hNW (And.intro hzW (H2.out.1.below hW.1)))
  clear a0 a1 a2 a3 a4 a5 b0 b1 b2 b3 b4 b5 hW hNW hz2 hzW hgq hS2 hN2
  cases R with
  | er n rest ns' =>
    go_wp2_with fail
    refine HCC.out.mono ?_; rintro e w4 ⟨rfl, hn0, k', F', hd, hS, hN⟩
    have hz := hN.block (Nw.lt HWW.out.2.1) H.out.2.2.2.2
    have hz4 := hz.1.trans HWW.out.2.1
    obtain ⟨⟨z0, z1, z2, z3, z4, z5⟩, y0, y1, y2, y3, y4, y5⟩ := six hz4
    have hlz := Nw.lt hz4
    obtain ⟨U, hU, hNU⟩ := fin6 hz4 (.int .i64 0) (.string ⟨#[]⟩) (.int .i64 0) (.int .u64 0) (.int .u64 0) (.slice none 0 0)
    obtain ⟨⟨q0, q1, q2, q3, q4, q5⟩, -⟩ := six hNU.1
    have HU := Lib.hid (St.set H.out.1 hS (HWW.out.1.trans hN) (by rw [HW.out.1]; exact Nat.le_refl _) hz.2 hNU)
    have HS := Lib.hid (And.intro hn0 hd)
    clear hz hz4 hN hS hNU hn0 hd
    unfold Z0 tmV
    go_wp2_with fail
    refine bodyPost_ret (v := .tuple #[Z0, .int .i64 n]) (by simp [results, Tryz.results87, go_sem, q0, q1, q2, q3, q4, q5, Z0, tmV]) rfl ?_
    exact ⟨rfl, HS.out.1, k', F', HS.out.2, HU.out.1, HU.out.2⟩
  | ok t rest ns' =>
    go_wp2_with fail
    refine HCC.out.mono ?_; rintro e w4 ⟨v, k', F', rfl, hd, hS, hN, hL⟩
    obtain ⟨v0, v1, v2, v3, v4, va, vl, vc, rfl⟩ := Lv.shape hL
    have hz := hN.block (Nw.lt HWW.out.2.1) H.out.2.2.2.2
    have hz4 := hz.1.trans HWW.out.2.1
    obtain ⟨⟨z0, z1, z2, z3, z4, z5⟩, y0, y1, y2, y3, y4, y5⟩ := six hz4
    have hlz := Nw.lt hz4
    obtain ⟨U, hU, hNU⟩ := fin6 hz4 (.int .i64 v0) (.string v1) (.int .i64 v2) (.int .u64 v3) (.int .u64 v4) (.slice va vl vc)
    obtain ⟨⟨q0, q1, q2, q3, q4, q5⟩, -⟩ := six hNU.1
    have HU := Lib.hid (St.set H.out.1 hS (HWW.out.1.trans hN) (by rw [HW.out.1]; exact Nat.le_refl _) hz.2 hNU)
    have HL := Lib.hid (Lv.mono (B' := w.heap.size) (Lv.set hL (Nw.lt HWW.out.2.1) hNU) HWW.out.1.keep.size)
    have HD := Lib.hid hd
    clear hz hz4 hN hS hNU hd hL
    go_wp2_with fail
    refine bodyPost_ret (v := .tuple #[.agg #[.int .i64 v0, .string v1, .int .i64 v2, .int .u64 v3, .int .u64 v4, .slice va vl vc], .int .i64 0]) (by simp [results, Tryz.results87, go_sem, q0, q1, q2, q3, q4, q5]) rfl ?_
    exact ⟨_, k', F', rfl, HD.out, HU.out.1, HU.out.2, HL.out⟩
set_option maxRecDepth 100000 in
set_option maxHeartbeats 8000000 in
theorem first_5 {R : PR Tm} (level : Nat) (hlev : level ≤ 2500) (hlt : k < all.length) (h : St p m tv tp FT N all tl k ns F w)
    (hc : ∀ W, St p m tv tp FT N all tl (k + 1) ns F W → Calls Tryz.prog 130 #[.pointer (some ⟨p, 0, none⟩), .int .i64 ((level : Int) + 1)] W (PE p m tv tp FT N all tl R F W)) :
    Calls Tryz.prog 87 #[.pointer (some ⟨p, 0, none⟩), .int .i64 5, .int .i64 (level : Int)] w (PE p m tv tp FT N all tl R F w) := by
  obtain ⟨r0, hr0⟩ : ∃ r0, r0 = w.heap.size := ⟨_, rfl⟩
  obtain ⟨w1, hw1⟩ : ∃ w1, w1 = w.alloc TZ := ⟨_, rfl⟩
  have hb1 : Below w.heap.size w w1 := by rw [hw1]; exact kp.ba w _
  have hz1 : w1.heap[r0]? = some (TC (.int .i64 0) (.string ⟨#[]⟩) (.int .i64 0) (.int .u64 0) (.int .u64 0) (.slice none 0 0)) := by rw [hr0, hw1]; exact alloc_at w _
  have HW := Lib.hid (And.intro hr0 hw1)
  have h1 := h.below hb1
  have hF0 : ¬ F r0 := fun hF => by have := h.lt _ hF; omega
  have HTK := Lib.hid (take_st h1 hlt)
  have HX := Lib.hid (fun W => hc W)
  have H := Lib.hid (And.intro h (And.intro h1 (And.intro hb1 (And.intro hz1 hF0))))
  obtain ⟨x, hx⟩ : ∃ x, x = see N (all.drop k) 0 := ⟨_, rfl⟩
  first | rw [← hx] at HTK HX | rw [← hx] at HTK
  have hwl : wrap64 ((level : Int) + 1) = ((level + 1 : Nat) : Int) := by unfold wrap64; omega
  clear hr0 hw1 hb1 hz1 h1 hF0 h hc hlt hx
  go_enter Tryz.func87, Tryz.ntmps87
  go_upto_region 1 with fail
  change Code.wp _ _ _ _ (w.alloc TZ)
  rw [← HW.out.1, ← HW.out.2]
  go_wp2_with fail
  refine HTK.out.mono ?_; rintro e w2 ⟨rfl, hS2, hN2⟩
  unfold TV tkc
  obtain ⟨⟨a0, a1, a2, a3, a4, a5⟩, b0, b1, b2, b3, b4, b5⟩ := six (alloc_at w2 (TO 0 [] 0 0 0 0))
  obtain ⟨g, hgq⟩ : ∃ g, g = w2.heap.size := ⟨_, rfl⟩
  have H2 := Lib.hid (And.intro hS2 hN2)
  go_upto_region 2 with fail
  refine nmw (K := GT w2 g x) (by rw [hgq]; exact GT.of x (kp.br _)) (fun W hW => ?_)
  rw [← hgq]
  obtain ⟨⟨t0, t1, t2, t3, t4, t5⟩, -⟩ := six hW.2.1
  have hNW : Nx F w F W := ((Nx.below H.out.2.2.1).trans H2.out.2).trans (Nx.below hW.1)
  have hz2 := H2.out.2.block (Nw.lt H.out.2.2.2.1) H.out.2.2.2.2
  have hzW := (hW.1.block r0 (by have := Nw.lt (hz2.1.trans H.out.2.2.2.1); exact this)).trans (hz2.1.trans H.out.2.2.2.1)
  have HCC := Lib.hid (HX.out W (H2.out.1.below hW.1))
  have HWW := Lib.hid (And.intro hNW (And.intro hzW (H2.out.1.below hW.1)))
  clear a0 a1 a2 a3 a4 a5 b0 b1 b2 b3 b4 b5 hW hNW hz2 hzW hgq hS2 hN2
  cases R with
  | er n rest ns' =>
    go_wp2_with fail
    refine HCC.out.mono ?_; rintro e w4 ⟨rfl, hn0, k', F', hd, hS, hN⟩
    have hz := hN.block (Nw.lt HWW.out.2.1) H.out.2.2.2.2
    have hz4 := hz.1.trans HWW.out.2.1
    obtain ⟨⟨z0, z1, z2, z3, z4, z5⟩, y0, y1, y2, y3, y4, y5⟩ := six hz4
    have hlz := Nw.lt hz4
    obtain ⟨U, hU, hNU⟩ := fin6 hz4 (.int .i64 0) (.string ⟨#[]⟩) (.int .i64 0) (.int .u64 0) (.int .u64 0) (.slice none 0 0)
    obtain ⟨⟨q0, q1, q2, q3, q4, q5⟩, -⟩ := six hNU.1
    have HU := Lib.hid (St.set H.out.1 hS (HWW.out.1.trans hN) (by rw [HW.out.1]; exact Nat.le_refl _) hz.2 hNU)
    have HS := Lib.hid (And.intro hn0 hd)
    clear hz hz4 hN hS hNU hn0 hd
    unfold Z0 tmV
    go_wp2_with fail
    refine bodyPost_ret (v := .tuple #[Z0, .int .i64 n]) (by simp [results, Tryz.results87, go_sem, q0, q1, q2, q3, q4, q5, Z0, tmV]) rfl ?_
    exact ⟨rfl, HS.out.1, k', F', HS.out.2, HU.out.1, HU.out.2⟩
  | ok t rest ns' =>
    go_wp2_with fail
    refine HCC.out.mono ?_; rintro e w4 ⟨v, k', F', rfl, hd, hS, hN, hL⟩
    obtain ⟨v0, v1, v2, v3, v4, va, vl, vc, rfl⟩ := Lv.shape hL
    have hz := hN.block (Nw.lt HWW.out.2.1) H.out.2.2.2.2
    have hz4 := hz.1.trans HWW.out.2.1
    obtain ⟨⟨z0, z1, z2, z3, z4, z5⟩, y0, y1, y2, y3, y4, y5⟩ := six hz4
    have hlz := Nw.lt hz4
    obtain ⟨U, hU, hNU⟩ := fin6 hz4 (.int .i64 v0) (.string v1) (.int .i64 v2) (.int .u64 v3) (.int .u64 v4) (.slice va vl vc)
    obtain ⟨⟨q0, q1, q2, q3, q4, q5⟩, -⟩ := six hNU.1
    have HU := Lib.hid (St.set H.out.1 hS (HWW.out.1.trans hN) (by rw [HW.out.1]; exact Nat.le_refl _) hz.2 hNU)
    have HL := Lib.hid (Lv.mono (B' := w.heap.size) (Lv.set hL (Nw.lt HWW.out.2.1) hNU) HWW.out.1.keep.size)
    have HD := Lib.hid hd
    clear hz hz4 hN hS hNU hd hL
    go_wp2_with fail
    refine bodyPost_ret (v := .tuple #[.agg #[.int .i64 v0, .string v1, .int .i64 v2, .int .u64 v3, .int .u64 v4, .slice va vl vc], .int .i64 0]) (by simp [results, Tryz.results87, go_sem, q0, q1, q2, q3, q4, q5]) rfl ?_
    exact ⟨_, k', F', rfl, HD.out, HU.out.1, HU.out.2, HL.out⟩
set_option maxRecDepth 100000 in
set_option maxHeartbeats 8000000 in
theorem first_6 {R : PR Tm} (level : Nat) (hlev : level ≤ 2500) (hlt : k < all.length) (h : St p m tv tp FT N all tl k ns F w)
    (hc : ∀ W, St p m tv tp FT N all tl (k + 1) ns F W → Calls Tryz.prog 131 #[.pointer (some ⟨p, 0, none⟩), .int .i64 ((level : Int) + 1)] W (PE p m tv tp FT N all tl R F W)) :
    Calls Tryz.prog 87 #[.pointer (some ⟨p, 0, none⟩), .int .i64 6, .int .i64 (level : Int)] w (PE p m tv tp FT N all tl R F w) := by
  obtain ⟨r0, hr0⟩ : ∃ r0, r0 = w.heap.size := ⟨_, rfl⟩
  obtain ⟨w1, hw1⟩ : ∃ w1, w1 = w.alloc TZ := ⟨_, rfl⟩
  have hb1 : Below w.heap.size w w1 := by rw [hw1]; exact kp.ba w _
  have hz1 : w1.heap[r0]? = some (TC (.int .i64 0) (.string ⟨#[]⟩) (.int .i64 0) (.int .u64 0) (.int .u64 0) (.slice none 0 0)) := by rw [hr0, hw1]; exact alloc_at w _
  have HW := Lib.hid (And.intro hr0 hw1)
  have h1 := h.below hb1
  have hF0 : ¬ F r0 := fun hF => by have := h.lt _ hF; omega
  have HTK := Lib.hid (take_st h1 hlt)
  have HX := Lib.hid (fun W => hc W)
  have H := Lib.hid (And.intro h (And.intro h1 (And.intro hb1 (And.intro hz1 hF0))))
  obtain ⟨x, hx⟩ : ∃ x, x = see N (all.drop k) 0 := ⟨_, rfl⟩
  first | rw [← hx] at HTK HX | rw [← hx] at HTK
  have hwl : wrap64 ((level : Int) + 1) = ((level + 1 : Nat) : Int) := by unfold wrap64; omega
  clear hr0 hw1 hb1 hz1 h1 hF0 h hc hlt hx
  go_enter Tryz.func87, Tryz.ntmps87
  go_upto_region 1 with fail
  change Code.wp _ _ _ _ (w.alloc TZ)
  rw [← HW.out.1, ← HW.out.2]
  go_wp2_with fail
  refine HTK.out.mono ?_; rintro e w2 ⟨rfl, hS2, hN2⟩
  unfold TV tkc
  obtain ⟨⟨a0, a1, a2, a3, a4, a5⟩, b0, b1, b2, b3, b4, b5⟩ := six (alloc_at w2 (TO 0 [] 0 0 0 0))
  obtain ⟨g, hgq⟩ : ∃ g, g = w2.heap.size := ⟨_, rfl⟩
  have H2 := Lib.hid (And.intro hS2 hN2)
  go_upto_region 2 with fail
  refine nmw (K := GT w2 g x) (by rw [hgq]; exact GT.of x (kp.br _)) (fun W hW => ?_)
  rw [← hgq]
  obtain ⟨⟨t0, t1, t2, t3, t4, t5⟩, -⟩ := six hW.2.1
  have hNW : Nx F w F W := ((Nx.below H.out.2.2.1).trans H2.out.2).trans (Nx.below hW.1)
  have hz2 := H2.out.2.block (Nw.lt H.out.2.2.2.1) H.out.2.2.2.2
  have hzW := (hW.1.block r0 (by have := Nw.lt (hz2.1.trans H.out.2.2.2.1); exact this)).trans (hz2.1.trans H.out.2.2.2.1)
  have HCC := Lib.hid (HX.out W (H2.out.1.below hW.1))
  have HWW := Lib.hid (And.intro hNW (And.intro hzW (H2.out.1.below hW.1)))
  clear a0 a1 a2 a3 a4 a5 b0 b1 b2 b3 b4 b5 hW hNW hz2 hzW hgq hS2 hN2
  cases R with
  | er n rest ns' =>
    go_wp2_with fail
    refine HCC.out.mono ?_; rintro e w4 ⟨rfl, hn0, k', F', hd, hS, hN⟩
    have hz := hN.block (Nw.lt HWW.out.2.1) H.out.2.2.2.2
    have hz4 := hz.1.trans HWW.out.2.1
    obtain ⟨⟨z0, z1, z2, z3, z4, z5⟩, y0, y1, y2, y3, y4, y5⟩ := six hz4
    have hlz := Nw.lt hz4
    obtain ⟨U, hU, hNU⟩ := fin6 hz4 (.int .i64 0) (.string ⟨#[]⟩) (.int .i64 0) (.int .u64 0) (.int .u64 0) (.slice none 0 0)
    obtain ⟨⟨q0, q1, q2, q3, q4, q5⟩, -⟩ := six hNU.1
    have HU := Lib.hid (St.set H.out.1 hS (HWW.out.1.trans hN) (by rw [HW.out.1]; exact Nat.le_refl _) hz.2 hNU)
    have HS := Lib.hid (And.intro hn0 hd)
    clear hz hz4 hN hS hNU hn0 hd
    unfold Z0 tmV
    go_wp2_with fail
    refine bodyPost_ret (v := .tuple #[Z0, .int .i64 n]) (by simp [results, Tryz.results87, go_sem, q0, q1, q2, q3, q4, q5, Z0, tmV]) rfl ?_
    exact ⟨rfl, HS.out.1, k', F', HS.out.2, HU.out.1, HU.out.2⟩
  | ok t rest ns' =>
    go_wp2_with fail
    refine HCC.out.mono ?_; rintro e w4 ⟨v, k', F', rfl, hd, hS, hN, hL⟩
    obtain ⟨v0, v1, v2, v3, v4, va, vl, vc, rfl⟩ := Lv.shape hL
    have hz := hN.block (Nw.lt HWW.out.2.1) H.out.2.2.2.2
    have hz4 := hz.1.trans HWW.out.2.1
    obtain ⟨⟨z0, z1, z2, z3, z4, z5⟩, y0, y1, y2, y3, y4, y5⟩ := six hz4
    have hlz := Nw.lt hz4
    obtain ⟨U, hU, hNU⟩ := fin6 hz4 (.int .i64 v0) (.string v1) (.int .i64 v2) (.int .u64 v3) (.int .u64 v4) (.slice va vl vc)
    obtain ⟨⟨q0, q1, q2, q3, q4, q5⟩, -⟩ := six hNU.1
    have HU := Lib.hid (St.set H.out.1 hS (HWW.out.1.trans hN) (by rw [HW.out.1]; exact Nat.le_refl _) hz.2 hNU)
    have HL := Lib.hid (Lv.mono (B' := w.heap.size) (Lv.set hL (Nw.lt HWW.out.2.1) hNU) HWW.out.1.keep.size)
    have HD := Lib.hid hd
    clear hz hz4 hN hS hNU hd hL
    go_wp2_with fail
    refine bodyPost_ret (v := .tuple #[.agg #[.int .i64 v0, .string v1, .int .i64 v2, .int .u64 v3, .int .u64 v4, .slice va vl vc], .int .i64 0]) (by simp [results, Tryz.results87, go_sem, q0, q1, q2, q3, q4, q5]) rfl ?_
    exact ⟨_, k', F', rfl, HD.out, HU.out.1, HU.out.2, HL.out⟩
end
end Go.Proofs.YtedbcmagjbgbjaaGreatDoor.rd
namespace Go.Proofs.YtedbcmagjbgbjaaGreatDoor.rd
open Go.ChangeShapes Go.WideShapes Go.ChangeAt Go.RowKit Go.Maps
open Go.Proofs.YtedbcmagjbgbjaaGreatDoor.kp Go.Proofs.YtedbcmagjbgbjaaGreatDoor.num Go.Proofs.YtedbcmagjbgbjaaGreatDoor.dec Go.Proofs.YtedbcmagjbgbjaaGreatDoor.tk
set_option linter.unusedVariables false
set_option linter.unusedSimpArgs false
section
variable {w w' w0 w1 w2 : World} {p m tp N k : Nat} {tv : Value} {all : List Tk} {tl : List opa.D} {ns : Names} {F F' FT : Nat → Prop} {rec : Rec} {f : Nat}
theorem number_len (s : List UInt8) (ns : Names) : (number s ns).2.length ≤ ns.length + 1 := by unfold number; split <;> simp
theorem whole_len (x : Tk) (ns : Names) : (whole x ns).2.length ≤ ns.length + 1 := by
  have := number_len x.t ns
  unfold whole
  repeat' split
  all_goals first | exact this | exact Nat.le_succ _
theorem see_ok (h : St p m tv tp FT N all tl k ns F w) (hlt : k < all.length) : TkOk (see N (all.drop k) 0) := by
  rw [see_in (by omega)]; exact h.ok _ (List.getElem_mem _)
theorem whole_st {x : Tk} (hx : TkOk x) (h : St p m tv tp FT N all tl k ns F w) (hn : ns.length < k) :
    Calls Tryz.prog 132 #[.pointer (some ⟨p, 0, none⟩), TV x] w fun e w' => ∃ v F', e = .returned v ∧ Leaf (whole x ns).1 v ∧ St p m tv tp FT N all tl k (whole x ns).2 F' w' ∧ Nx F w F' w' := by
  have ha := h.ale
  have hk := h.kle
  refine (whole_any h.rs x hx (by omega)).mono ?_
  rintro e w' ⟨v, rfl, hl, F', a, c, d⟩
  exact ⟨v, F', rfl, hl, ⟨a, h.env.next c d, h.kle, h.ale, by have := whole_len x ns; omega, h.ok⟩, ⟨c, d⟩⟩
theorem Leaf.shape {t : Tm} {v : Value} (h : Leaf t v) : ∃ k n i re im a l c, v = .agg #[.int .i64 k, .string n, .int .i64 i, .int .u64 re, .int .u64 im, .slice a l c] :=
  Lv.shape (F := fun _ => False) (B := 0) (w := default) (h _ _)
set_option maxRecDepth 100000 in
set_option maxHeartbeats 8000000 in
theorem first_1 (level : Nat) (hlev : level ≤ 2500) (hlt : k < all.length) (h : St p m tv tp FT N all tl k ns F w) (a : Int) (ha : a = 1) :
    Calls Tryz.prog 87 #[.pointer (some ⟨p, 0, none⟩), .int .i64 1, .int .i64 (level : Int)] w
      (PE p m tv tp FT N all tl (.ok (whole (see N (all.drop k) 0) ns).1 (all.drop k).tail (whole (see N (all.drop k) 0) ns).2) F w) := by
  obtain ⟨r0, hr0⟩ : ∃ r0, r0 = w.heap.size := ⟨_, rfl⟩
  obtain ⟨w1, hw1⟩ : ∃ w1, w1 = w.alloc TZ := ⟨_, rfl⟩
  have hb1 : Below w.heap.size w w1 := by rw [hw1]; exact kp.ba w _
  have hz1 : w1.heap[r0]? = some (TC (.int .i64 0) (.string ⟨#[]⟩) (.int .i64 0) (.int .u64 0) (.int .u64 0) (.slice none 0 0)) := by rw [hr0, hw1]; exact alloc_at w _
  have HW := Lib.hid (And.intro hr0 hw1)
  have h1 := h.below hb1
  have hF0 : ¬ F r0 := fun hF => by have := h.lt _ hF; omega
  have HTK := Lib.hid (take_st h1 hlt)
  have HX := Lib.hid (fun (W : World) (hW : St p m tv tp FT N all tl (k + 1) ns F W) => whole_st (see_ok h hlt) hW (by have := h.nle; omega))
  have H := Lib.hid (And.intro h (And.intro h1 (And.intro hb1 (And.intro hz1 hF0))))
  obtain ⟨x, hx⟩ : ∃ x, x = see N (all.drop k) 0 := ⟨_, rfl⟩
  rw [← hx] at HTK HX ⊢
  have hwl : wrap64 ((level : Int) + 1) = ((level + 1 : Nat) : Int) := by unfold wrap64; omega
  clear hr0 hw1 hb1 hz1 h1 hF0 h hlt hx ha
  go_enter Tryz.func87, Tryz.ntmps87
  go_upto_region 1 with fail
  change Code.wp _ _ _ _ (w.alloc TZ)
  rw [← HW.out.1, ← HW.out.2]
  go_wp2_with fail
  refine HTK.out.mono ?_; rintro e w2 ⟨rfl, hS2, hN2⟩
  unfold TV tkc
  obtain ⟨⟨a0, a1, a2, a3, a4, a5⟩, b0, b1, b2, b3, b4, b5⟩ := six (alloc_at w2 (TO 0 [] 0 0 0 0))
  obtain ⟨g, hgq⟩ : ∃ g, g = w2.heap.size := ⟨_, rfl⟩
  have H2 := Lib.hid (And.intro hS2 hN2)
  go_upto_region 2 with fail
  refine nmw (K := GT w2 g x) (by rw [hgq]; exact GT.of x (kp.br _)) (fun W hW => ?_)
  rw [← hgq]
  obtain ⟨⟨t0, t1, t2, t3, t4, t5⟩, -⟩ := six hW.2.1
  have hNW : Nx F w F W := ((Nx.below H.out.2.2.1).trans H2.out.2).trans (Nx.below hW.1)
  have hz2 := H2.out.2.block (Nw.lt H.out.2.2.2.1) H.out.2.2.2.2
  have hzW := (hW.1.block r0 (by have := Nw.lt (hz2.1.trans H.out.2.2.2.1); exact this)).trans (hz2.1.trans H.out.2.2.2.1)
  have HCC := Lib.hid (HX.out W (H2.out.1.below hW.1))
  have HWW := Lib.hid (And.intro hNW (And.intro hzW (H2.out.1.below hW.1)))
  clear a0 a1 a2 a3 a4 a5 b0 b1 b2 b3 b4 b5 hW hNW hz2 hzW hgq hS2 hN2
  go_wp2_with fail
  refine HCC.out.mono ?_; rintro e w4 ⟨v, F', rfl, hL, hS, hN⟩
  obtain ⟨v0, v1, v2, v3, v4, va, vl, vc, rfl⟩ := hL.shape
  have hz := hN.block (Nw.lt HWW.out.2.1) H.out.2.2.2.2
  have hz4 := hz.1.trans HWW.out.2.1
  obtain ⟨⟨z0, z1, z2, z3, z4, z5⟩, y0, y1, y2, y3, y4, y5⟩ := six hz4
  have hlz := Nw.lt hz4
  obtain ⟨U, hU, hNU⟩ := fin6 hz4 (.int .i64 v0) (.string v1) (.int .i64 v2) (.int .u64 v3) (.int .u64 v4) (.slice va vl vc)
  obtain ⟨⟨q0, q1, q2, q3, q4, q5⟩, -⟩ := six hNU.1
  have HU := Lib.hid (St.set H.out.1 hS (HWW.out.1.trans hN) (by rw [HW.out.1]; exact Nat.le_refl _) hz.2 hNU)
  have HL := Lib.hid hL
  clear hz hz4 hN hS hNU hL
  go_wp2_with fail
  refine bodyPost_ret (v := .tuple #[.agg #[.int .i64 v0, .string v1, .int .i64 v2, .int .u64 v3, .int .u64 v4, .slice va vl vc], .int .i64 0]) (by simp [results, Tryz.results87, go_sem, q0, q1, q2, q3, q4, q5]) rfl ?_
  exact ⟨_, k + 1, F', rfl, by rw [List.tail_drop], HU.out.1, HU.out.2, HL.out _ _⟩
end
end Go.Proofs.YtedbcmagjbgbjaaGreatDoor.rd
namespace Go.Proofs.YtedbcmagjbgbjaaGreatDoor.rd
open Go.ChangeShapes Go.WideShapes Go.ChangeAt Go.RowKit Go.Maps
open Go.Proofs.YtedbcmagjbgbjaaGreatDoor.kp Go.Proofs.YtedbcmagjbgbjaaGreatDoor.num Go.Proofs.YtedbcmagjbgbjaaGreatDoor.dec Go.Proofs.YtedbcmagjbgbjaaGreatDoor.tk
set_option linter.unusedVariables false
set_option linter.unusedSimpArgs false
section
variable {w w' w0 w1 w2 : World} {p m tp N k : Nat} {tv : Value} {all : List Tk} {tl : List opa.D} {ns : Names} {F F' FT : Nat → Prop} {rec : Rec} {f : Nat}
set_option maxRecDepth 100000 in
set_option maxHeartbeats 8000000 in
theorem first_3 {R : PR Tm} (level : Nat) (hlev : level ≤ 2500) (hlt : k + 1 < all.length) (h : St p m tv tp FT N all tl k ns F w)
    (hc : ∀ W, St p m tv tp FT N all tl (k + 2) ns F W → Calls Tryz.prog 128 #[.pointer (some ⟨p, 0, none⟩), .string ⟨(see N (all.drop k) 0).t.toArray⟩, .int .i64 ((level : Int) + 1)] W (PE p m tv tp FT N all tl R F W)) :
    Calls Tryz.prog 87 #[.pointer (some ⟨p, 0, none⟩), .int .i64 3, .int .i64 (level : Int)] w (PE p m tv tp FT N all tl R F w) := by
  obtain ⟨r0, hr0⟩ : ∃ r0, r0 = w.heap.size := ⟨_, rfl⟩
  obtain ⟨w1, hw1⟩ : ∃ w1, w1 = w.alloc TZ := ⟨_, rfl⟩
  have hb1 : Below w.heap.size w w1 := by rw [hw1]; exact kp.ba w _
  have hz1 : w1.heap[r0]? = some (TC (.int .i64 0) (.string ⟨#[]⟩) (.int .i64 0) (.int .u64 0) (.int .u64 0) (.slice none 0 0)) := by rw [hr0, hw1]; exact alloc_at w _
  have HW := Lib.hid (And.intro hr0 hw1)
  have h1 := h.below hb1
  have hF0 : ¬ F r0 := fun hF => by have := h.lt _ hF; omega
  have HTK := Lib.hid (take_st h1 (by omega))
  have HX := Lib.hid (fun W => hc W)
  have HLT := Lib.hid hlt
  have h_mine := Lib.hid h.mine
  have H := Lib.hid (And.intro h (And.intro h1 (And.intro hb1 (And.intro hz1 hF0))))
  obtain ⟨x, hx⟩ : ∃ x, x = see N (all.drop k) 0 := ⟨_, rfl⟩
  first | rw [← hx] at HTK HX | rw [← hx] at HTK
  have hwl : wrap64 ((level : Int) + 1) = ((level + 1 : Nat) : Int) := by unfold wrap64; omega
  clear hr0 hw1 hb1 hz1 h1 hF0 h hc hlt hx
  go_enter Tryz.func87, Tryz.ntmps87
  go_upto_region 1 with fail
  change Code.wp _ _ _ _ (w.alloc TZ)
  rw [← HW.out.1, ← HW.out.2]
  go_wp2_with fail
  refine HTK.out.mono ?_; rintro e w2 ⟨rfl, hS2, hN2⟩
  unfold TV tkc
  obtain ⟨⟨a0, a1, a2, a3, a4, a5⟩, b0, b1, b2, b3, b4, b5⟩ := six (alloc_at w2 (TO 0 [] 0 0 0 0))
  obtain ⟨g, hgq⟩ : ∃ g, g = w2.heap.size := ⟨_, rfl⟩
  have H2 := Lib.hid (And.intro hS2 hN2)
  go_upto_region 2 with fail
  refine nmw (K := GT w2 g x) (by rw [hgq]; exact GT.of x (kp.br _)) (fun W hW => ?_)
  rw [← hgq]
  obtain ⟨⟨t0, t1, t2, t3, t4, t5⟩, -⟩ := six hW.2.1
  have hNW : Nx F w F W := ((Nx.below H.out.2.2.1).trans H2.out.2).trans (Nx.below hW.1)
  have hz2 := H2.out.2.block (Nw.lt H.out.2.2.2.1) H.out.2.2.2.2
  have hzW := (hW.1.block r0 (by have := Nw.lt (hz2.1.trans H.out.2.2.2.1); exact this)).trans (hz2.1.trans H.out.2.2.2.1)
  have hSW := H2.out.1.below hW.1
  obtain ⟨nv, hro⟩ := hSW.ro
  obtain ⟨⟨-, -, c2, -⟩, -, -, f2, -⟩ := six hro
  have hlp := Nw.lt hro
  have hw2 : wrap64 ((k : Int) + 1 + 1) = (k : Int) + 1 + 1 := by have := hSW.ale; have := hSW.kle; unfold wrap64; omega
  have hto := hSW.to (k' := k + 2) hro (ro_next hro) (by omega) (by have := HLT.out; omega)
  have hgp : g ≠ p := fun e => by have h1 := H2.out.1.lt _ H2.out.1.mine; have h2 := hW.2.2; omega
  have hrp : r0 ≠ p := fun e => H.out.2.2.2.2 (e ▸ h_mine.out)
  have HWA := Lib.hid (And.intro hto.1 (And.intro (hNW.trans hto.2) (And.intro (((ro_next hro).2.block r0 (Nw.lt hzW) hrp).trans hzW) (((ro_next hro).2.block g (Nw.lt hW.2.1) hgp).trans hW.2.1))))
  clear a0 a1 a2 a3 a4 a5 b0 b1 b2 b3 b4 b5 hW hNW hz2 hzW hgq hS2 hN2 hSW hro hto hgp hrp t0 t1 t2 t3 t4 t5
  go_upto_region 7 with fail
  refine nmw (K := fun V => St p m tv tp FT N all tl (k + 2) ns F V ∧ Nx F w F V ∧ V.heap[r0]? = some (TC (.int .i64 0) (.string ⟨#[]⟩) (.int .i64 0) (.int .u64 0) (.int .u64 0) (.slice none 0 0)) ∧ V.heap[g]? = some (.cells #[.int .i64 x.k, .string ⟨x.t.toArray⟩, .int .i64 x.n, .int .u64 (x.re : Int), .int .u64 (x.im : Int), .int .i64 (x.a : Int)] 76 (0, 0))) (by have h9 := HWA.out; rw [show ((k + 1 : Nat) : Int) = (k : Int) + 1 from rfl] at h9; first | exact h9 | (simp only [Int.add_assoc] at h9 ⊢; exact h9)) (fun V hV => ?_)
  obtain ⟨⟨t0, t1, -⟩, -⟩ := six hV.2.2.2
  have HCC := Lib.hid (HX.out V hV.1)
  have HWW := Lib.hid (And.intro hV.2.1 (And.intro hV.2.2.1 hV.1))
  clear hV c2 f2 hlp
  cases R with
  | er n rest ns' =>
    go_wp2_with fail
    refine HCC.out.mono ?_; rintro e w4 ⟨rfl, hn0, k', F', hd, hS, hN⟩
    have hz := hN.block (Nw.lt HWW.out.2.1) H.out.2.2.2.2
    have hz4 := hz.1.trans HWW.out.2.1
    obtain ⟨⟨z0, z1, z2, z3, z4, z5⟩, y0, y1, y2, y3, y4, y5⟩ := six hz4
    have hlz := Nw.lt hz4
    obtain ⟨U, hU, hNU⟩ := fin6 hz4 (.int .i64 0) (.string ⟨#[]⟩) (.int .i64 0) (.int .u64 0) (.int .u64 0) (.slice none 0 0)
    obtain ⟨⟨q0, q1, q2, q3, q4, q5⟩, -⟩ := six hNU.1
    have HU := Lib.hid (St.set H.out.1 hS (HWW.out.1.trans hN) (by rw [HW.out.1]; exact Nat.le_refl _) hz.2 hNU)
    have HS := Lib.hid (And.intro hn0 hd)
    clear hz hz4 hN hS hNU hn0 hd
    unfold Z0 tmV
    go_wp2_with fail
    refine bodyPost_ret (v := .tuple #[Z0, .int .i64 n]) (by simp [results, Tryz.results87, go_sem, q0, q1, q2, q3, q4, q5, Z0, tmV]) rfl ?_
    exact ⟨rfl, HS.out.1, k', F', HS.out.2, HU.out.1, HU.out.2⟩
  | ok t rest ns' =>
    go_wp2_with fail
    refine HCC.out.mono ?_; rintro e w4 ⟨v, k', F', rfl, hd, hS, hN, hL⟩
    obtain ⟨v0, v1, v2, v3, v4, va, vl, vc, rfl⟩ := Lv.shape hL
    have hz := hN.block (Nw.lt HWW.out.2.1) H.out.2.2.2.2
    have hz4 := hz.1.trans HWW.out.2.1
    obtain ⟨⟨z0, z1, z2, z3, z4, z5⟩, y0, y1, y2, y3, y4, y5⟩ := six hz4
    have hlz := Nw.lt hz4
    obtain ⟨U, hU, hNU⟩ := fin6 hz4 (.int .i64 v0) (.string v1) (.int .i64 v2) (.int .u64 v3) (.int .u64 v4) (.slice va vl vc)
    obtain ⟨⟨q0, q1, q2, q3, q4, q5⟩, -⟩ := six hNU.1
    have HU := Lib.hid (St.set H.out.1 hS (HWW.out.1.trans hN) (by rw [HW.out.1]; exact Nat.le_refl _) hz.2 hNU)
    have HL := Lib.hid (Lv.mono (B' := w.heap.size) (Lv.set hL (Nw.lt HWW.out.2.1) hNU) HWW.out.1.keep.size)
    have HD := Lib.hid hd
    clear hz hz4 hN hS hNU hd hL
    go_wp2_with fail
    refine bodyPost_ret (v := .tuple #[.agg #[.int .i64 v0, .string v1, .int .i64 v2, .int .u64 v3, .int .u64 v4, .slice va vl vc], .int .i64 0]) (by simp [results, Tryz.results87, go_sem, q0, q1, q2, q3, q4, q5]) rfl ?_
    exact ⟨_, k', F', rfl, HD.out, HU.out.1, HU.out.2, HL.out⟩
end
end Go.Proofs.YtedbcmagjbgbjaaGreatDoor.rd
namespace Go.Proofs.YtedbcmagjbgbjaaGreatDoor.rd
open Go.ChangeShapes Go.WideShapes Go.ChangeAt Go.RowKit Go.Maps
open Go.Proofs.YtedbcmagjbgbjaaGreatDoor.kp Go.Proofs.YtedbcmagjbgbjaaGreatDoor.num Go.Proofs.YtedbcmagjbgbjaaGreatDoor.dec Go.Proofs.YtedbcmagjbgbjaaGreatDoor.tk
set_option linter.unusedVariables false
set_option linter.unusedSimpArgs false
section
variable {w w' w0 w1 w2 : World} {p m tp N k : Nat} {tv : Value} {all : List Tk} {tl : List opa.D} {ns : Names} {F F' FT : Nat → Prop} {rec : Rec} {f : Nat}
theorem see_next (N k : Nat) (all : List Tk) : see N (all.drop k) 1 = see N (all.drop (k + 1)) 0 := by
  unfold see; rw [List.getElem?_drop, List.getElem?_drop, Nat.add_zero]
set_option maxRecDepth 100000 in
set_option maxHeartbeats 8000000 in
theorem first_2 (level : Nat) (hlev : level ≤ 2500) (hlt : k + 1 < all.length) (h : St p m tv tp FT N all tl k ns F w) :
    Calls Tryz.prog 87 #[.pointer (some ⟨p, 0, none⟩), .int .i64 2, .int .i64 (level : Int)] w
      (PE p m tv tp FT N all tl (.ok (.mk 3 tm.E (below (see N (all.drop k) 1).n) 0 0 []) (all.drop k).tail.tail ns) F w) := by
  rw [see_next]
  obtain ⟨r0, hr0⟩ : ∃ r0, r0 = w.heap.size := ⟨_, rfl⟩
  obtain ⟨w1, hw1⟩ : ∃ w1, w1 = w.alloc TZ := ⟨_, rfl⟩
  have hb1 : Below w.heap.size w w1 := by rw [hw1]; exact kp.ba w _
  have hz1 : w1.heap[r0]? = some (TC (.int .i64 0) (.string ⟨#[]⟩) (.int .i64 0) (.int .u64 0) (.int .u64 0) (.slice none 0 0)) := by rw [hr0, hw1]; exact alloc_at w _
  have HW := Lib.hid (And.intro hr0 hw1)
  have h1 := h.below hb1
  have hF0 : ¬ F r0 := fun hF => by have := h.lt _ hF; omega
  have HTK := Lib.hid (take_st h1 (by omega))
  have H := Lib.hid (And.intro h (And.intro h1 (And.intro hb1 (And.intro hz1 hF0))))
  obtain ⟨x, hx⟩ : ∃ x, x = see N (all.drop k) 0 := ⟨_, rfl⟩
  rw [← hx] at HTK
  have hwl : wrap64 ((level : Int) + 1) = ((level + 1 : Nat) : Int) := by unfold wrap64; omega
  clear hr0 hw1 hb1 hz1 h1 hF0 h hx
  go_enter Tryz.func87, Tryz.ntmps87
  go_upto_region 1 with fail
  change Code.wp _ _ _ _ (w.alloc TZ)
  rw [← HW.out.1, ← HW.out.2]
  go_wp2_with fail
  refine HTK.out.mono ?_; rintro e w2 ⟨rfl, hS2, hN2⟩
  unfold TV tkc
  obtain ⟨⟨a0, a1, a2, a3, a4, a5⟩, b0, b1, b2, b3, b4, b5⟩ := six (alloc_at w2 (TO 0 [] 0 0 0 0))
  obtain ⟨g, hgq⟩ : ∃ g, g = w2.heap.size := ⟨_, rfl⟩
  have H2 := Lib.hid (And.intro hS2 hN2)
  go_upto_region 2 with fail
  refine nmw (K := GT w2 g x) (by rw [hgq]; exact GT.of x (kp.br _)) (fun W hW => ?_)
  rw [← hgq]
  obtain ⟨⟨t0, t1, t2, t3, t4, t5⟩, -⟩ := six hW.2.1
  have hNW : Nx F w F W := ((Nx.below H.out.2.2.1).trans H2.out.2).trans (Nx.below hW.1)
  have hz2 := H2.out.2.block (Nw.lt H.out.2.2.2.1) H.out.2.2.2.2
  have hzW := (hW.1.block r0 (by have := Nw.lt (hz2.1.trans H.out.2.2.2.1); exact this)).trans (hz2.1.trans H.out.2.2.2.1)
  have hSW := H2.out.1.below hW.1
  have HT2 := Lib.hid (take_st hSW hlt)
  obtain ⟨y, hy⟩ : ∃ y, y = see N (all.drop (k + 1)) 0 := ⟨_, rfl⟩
  have hyo : TkOk y := by rw [hy]; exact see_ok hSW hlt
  rw [← hy] at HT2
  have HWW := Lib.hid (And.intro hNW (And.intro hzW (And.intro hSW hyo)))
  have HBL := Lib.hid (fun w9 => below_any y.n w9 ⟨hyo.n0, hyo.n1⟩)
  have hbl : -9223372036854775808 ≤ below y.n ∧ below y.n ≤ 9223372036854775807 := by
    have h1 := hyo.n0; have h2 := hyo.n1
    unfold below; split <;> omega
  obtain ⟨bn, hbn⟩ : ∃ bn, bn = below y.n := ⟨_, rfl⟩
  have HEQ : Hid (bn = below (see N (all.drop (k + 1)) 0).n) := Lib.hid (by rw [hbn, hy])
  rw [← hbn] at hbl HBL
  have HBN := Lib.hid hbl
  have hfd : ∀ w', (Instr.field 76 (.agg #[.int .i64 y.k, .string ⟨y.t.toArray⟩, .int .i64 y.n, .int .u64 (y.re : Int), .int .u64 (y.im : Int), .int .i64 (y.a : Int)]) 2).run Tryz.prog w' = .ok (.int .i64 y.n) w' := fun _ => by kernel_rfl
  clear a0 a1 a2 a3 a4 a5 b0 b1 b2 b3 b4 b5 hW hNW hz2 hzW hgq hS2 hN2 hSW hy hyo hbl hbn
  go_wp2_with fail
  refine HT2.out.mono ?_; rintro e w4 ⟨rfl, hS4, hN4⟩
  unfold TV tkc
  have hz := hN4.block (Nw.lt HWW.out.2.1) H.out.2.2.2.2
  have hz4 := hz.1.trans HWW.out.2.1
  have H4 := Lib.hid (And.intro hS4 (And.intro (HWW.out.1.trans hN4) (And.intro hz4 hz.2)))
  clear hz hz4 hN4 hS4 t0 t1 t2 t3 t4 t5
  go_wp2_with fail
  refine (HBL.out _).mono ?_; rintro e w5 ⟨rfl, rfl⟩
  obtain ⟨⟨z0, z1, z2, z3, z4, z5⟩, y0, y1, y2, y3, y4, y5⟩ := six H4.out.2.2.1
  have hlz := Nw.lt H4.out.2.2.1
  obtain ⟨U, hU, hNU⟩ := fin6 H4.out.2.2.1 (.int .i64 3) (.string ⟨#[]⟩) (.int .i64 bn) (.int .u64 0) (.int .u64 0) (.slice none 0 0)
  obtain ⟨⟨q0, q1, q2, q3, q4, q5⟩, -⟩ := six hNU.1
  have HU := Lib.hid (St.set H.out.1 H4.out.1 H4.out.2.1 (by rw [HW.out.1]; exact Nat.le_refl _) H4.out.2.2.2 hNU)
  clear hNU
  go_wp2_with fail
  refine bodyPost_ret (v := .tuple #[tmV 3 [] bn 0 0 (.slice none 0 0), .int .i64 0]) (by simp [results, Tryz.results87, go_sem, q0, q1, q2, q3, q4, q5, tmV]) rfl ?_
  refine ⟨_, k + 2, F, rfl, by rw [List.tail_drop, List.tail_drop], HU.out.1, HU.out.2, ?_⟩
  rw [← HEQ.out]
  exact leaf_any (k := 3) (n := []) (i := bn) (re := 0) (im := 0) ⟨by omega, by omega, by decide, HBN.out.1, HBN.out.2, by omega, by omega, by omega, by omega, by omega, by omega⟩ _ _
end
end Go.Proofs.YtedbcmagjbgbjaaGreatDoor.rd
