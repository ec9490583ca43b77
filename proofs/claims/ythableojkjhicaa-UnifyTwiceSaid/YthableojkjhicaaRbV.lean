/- Package term: rebuild, with one function for variables. -/
import Derived.Test.YthableojkjhicaaRnd
import Derived.Deep.LoopGhost
import Derived.Deep.Cut
namespace Go.Proofs.Ythableojkjhicaa.rbv
set_option linter.unusedVariables false
open Go.ChangeShapes Go.WideShapes Go.ChangeAt Go.RowKit
open Go.Proofs.Ythableojkjhicaa.tm Go.Proofs.Ythableojkjhicaa.lie Go.Proofs.Ythableojkjhicaa.kp Go.Proofs.Ythableojkjhicaa.wlk Go.Proofs.Ythableojkjhicaa.cur Go.Proofs.Ythableojkjhicaa.lev Go.Proofs.Ythableojkjhicaa.lay Go.Proofs.Ythableojkjhicaa.rws Go.Proofs.Ythableojkjhicaa.pln Go.Proofs.Ythableojkjhicaa.rnd
/-- what the function tells for a variable of t -/
def At (Z : Nat → Prop) (w0 : World) (t : Tm) (s : Int → Tm)  : Prop := ∀ (n : Int) (w : World), Below w0.heap.size w0 w → n ∈ occ t →
  Calls Try.prog 139 #[.int .i64 n] w fun e w' => ∃ k nn i re im a len c, e = .returned (.agg #[.int .i64 k, .string nn, .int .i64 i, .int .u64 re, .int .u64 im, .slice a len c]) ∧ Below w.heap.size w w' ∧
    Lies (fun k => Z k ∨ w0.heap.size ≤ k) w' (s n) (.agg #[.int .i64 k, .string nn, .int .i64 i, .int .u64 re, .int .u64 im, .slice a len c])
def Built (Z : Nat → Prop) (s : Int → Tm) (t : Tm) (w : World) (e : Ending) (w' : World) : Prop := ∃ k nn i re im a len c, e = .returned (.agg #[.int .i64 k, .string nn, .int .i64 i, .int .u64 re, .int .u64 im, .slice a len c]) ∧ Below w.heap.size w w' ∧
    Lies Z w' (sub s t) (.agg #[.int .i64 k, .string nn, .int .i64 i, .int .u64 re, .int .u64 im, .slice a len c])
def Rel (B r p rv rb : Nat) (Z : Nat → Prop) (s : Int → Tm) (t : Tm) (w : World) (g : Nat) (s6 s8 s9 s10 : Value) (wr : World) : Prop :=
  ∃ (R : List (List Tm)) (nb og oc : Nat) (k0 : Int) (n0 : ByteArray) (i0 re0 im0 : Int) (a0 : Option Addr) (l0 c0 : Nat) (d : Int) (b : Bool), g = (flat R).length ∧ s6 = .slice (some ⟨og, 0, none⟩) R.length oc ∧ s8 = .pointer (some ⟨nb, 0, none⟩) ∧ s9 = .int .i64 d ∧ s10 = .bool b ∧
    St B r Z s t R p rv wr nb rb og oc k0 n0 i0 re0 im0 a0 l0 c0 d b ∧ Below B w wr ∧ Sane t R
set_option maxRecDepth 100000 in
set_option maxHeartbeats 2000000 in
theorem rebuild_any (t : Tm) (v : Value) (w : World) (s : Int → Tm)  (Z : Nat → Prop) (hZ : ∀ k, Z k → k < w.heap.size) (ht : Lies No w t v) (hg : good t = true) (hat : At Z w t s ) :
    Calls Try.prog 138 #[v, .func (.func 139) #[] #[]] w (Built Z s t w) := by
  have ht0 : Lies (fun k => w.heap.size ≤ k) w t v := ht.off fun b h1 h2 => absurd h1 (by omega)
  have HS := Lib.hid (sane_start hg)
  have HAT := Lib.hid hat
  obtain ⟨k, n, i, re, im, l⟩ := t
  rw [Lies] at ht
  obtain ⟨a, c, rfl, hf, hr⟩ := ht
  have HT := Lib.hid ht0
  clear hf hr ht0 hg hat
  have hmk : ∀ w, (Instr.makeSlice 34 (.int .i64 1) (.int .i64 1)).run Try.prog w = .ok (.slice (some ⟨w.heap.size, 0, none⟩) 1 1) (w.alloc (.cells (MC 1) 36)) := make_run 1 (by omega)
  go_enter Try.func138, Try.ntmps138
  go_wp2_with fail
  refine (begin_any w.heap.size _ _ _ (by simp only [alloc_size]; omega) ((((HT.out.below (ba _ _)).below (ba _ _)).below (ba _ _)).below (ba _ _))).mono ?_
  rintro e w1 ⟨p, F, r, rfl, hw, hb, hF, hr1, hr2⟩
  have HB := Lib.hid (And.intro hw (And.intro hb (And.intro hF (And.intro hr1 hr2))))
  clear hw hb hF hr1 hr2 hmk
  go_wp2_with fail
  refine (next_rows w.heap.size r _ p F _ HB.out.1 (by simp) HB.out.2.2.2.2).mono ?_
  rintro e w2 ⟨k0, n0, i0, re0, im0, a0, l0, c0, d, b, rfl, hA⟩
  have HA := Lib.hid hA
  clear hA
  go_wp2_with fail
  have hst := St.start (s := s) hZ (o := .cells #[.int .i64 k, .string n, .int .i64 i, .int .u64 re, .int .u64 im, .slice a l.length c] 36) rfl HB.out.2.1 HB.out.1 HB.out.2.2.1 HB.out.2.2.2.1 HB.out.2.2.2.2 HA.out
  have HST := Lib.hid hst
  clear hst
  go_loopg [6, 8, 9, 10] (flat [[Tm.mk k n i re im l]]).length (Rel w.heap.size r p (w.heap.size + 1) (w.heap.size + 1 + 1) Z s (Tm.mk k n i re im l) w)
  case atStart =>
    exact ⟨[[Tm.mk k n i re im l]], w2.heap.size, w.heap.size + 1 + 1 + 1, 1, k0, n0, i0, re0, im0, a0, l0, c0, d, b, rfl, rfl, rfl, rfl, rfl, HST.out.1, HST.out.2, HS.out⟩
  case round =>
    obtain ⟨R, nb, og, oc, k0, n0, i0, re0, im0, a0, l0, c0, d, b, rfl, rfl, rfl, rfl, rfl, hst, hb, hsn⟩ := hrel
    obtain ⟨X, F', lv, hl, x1, x2, x3, x4, x5, x6, x7, x8, hd⟩ := hst
    rcases hd with ⟨hE, rfl⟩ | ⟨R0, E, t', row, rfl, hE, rfl, rfl, hL, hW⟩
    · obtain ⟨v0, v1, v2, v3, v4, v5, h6, hres⟩ := hl.last hE x6.1 x6.2.1
      obtain ⟨kq, nq, iq, req, imq, lq, aq, cq, hv, hLq⟩ := lies_form hres
      obtain ⟨rfl, rfl, rfl, rfl, rfl, rfl⟩ := hv
      obtain ⟨e0, e1, e2, e3, e4, e5⟩ := h6
      obtain ⟨⟨z0, z1, z2, z3, z4, z5⟩, y0, y1, y2, y3, y4, y5⟩ := blk_facts x7
      simp only [Nat.zero_add] at e1 e2 e3 e4 e5
      have HQ := Lib.hid (And.intro hres (And.intro x7 (And.intro hb hE)))
      have HR1 := Lib.hid (show w.heap.size + 1 < wr.heap.size from (Array.getElem?_eq_some_iff.1 x7).1)
      clear hres x7 hb hE hl x1 x2 x3 x4 x5 x6 x8 hsn
      go_wp2_with fail
      obtain ⟨W, hW⟩ : ∃ W, W = set6 wr (w.heap.size + 1) 0 (.int .i64 kq) (.string nq) (.int .i64 iq) (.int .u64 req) (.int .u64 imq) (.slice aq lq cq) := ⟨_, rfl⟩
      have hz := HQ.out.2.1
      have h6 := set6_six (o := 0) (v0 := .int .i64 kq) (v1 := .string nq) (v2 := .int .i64 iq) (v3 := .int .u64 req) (v4 := .int .u64 imq) (v5 := .slice aq lq cq) hz (by simp)
      have k6 := set6_keep wr (w.heap.size + 1) 0 (.int .i64 kq) (.string nq) (.int .i64 iq) (.int .u64 req) (.int .u64 imq) (.slice aq lq cq)
      rw [← hW] at h6 k6
      have hWW : (((((wr.setCell ⟨w.heap.size + 1, 0, none⟩ (.int .i64 kq)).setCell ⟨w.heap.size + 1, 1, none⟩ (.string nq)).setCell ⟨w.heap.size + 1, 2, none⟩ (.int .i64 iq)).setCell ⟨w.heap.size + 1, 3, none⟩ (.int .u64 req)).setCell ⟨w.heap.size + 1, 4, none⟩ (.int .u64 imq) |>.setCell ⟨w.heap.size + 1, 5, none⟩ (.slice aq lq cq)) = W := by rw [hW]; rfl
      rw [hWW]
      obtain ⟨e0, e1, e2, e3, e4, e5⟩ := h6
      simp only [Nat.zero_add] at e1 e2 e3 e4 e5
      refine bodyPost_ret (v := .agg #[.int .i64 kq, .string nq, .int .i64 iq, .int .u64 req, .int .u64 imq, .slice aq lq cq]) (by simp [results, Try.results138, go_sem, e0, e1, e2, e3, e4, e5]) rfl ⟨kq, nq, iq, req, imq, aq, lq, cq, rfl, ?_, ?_⟩
      · exact HQ.out.2.2.1.trans (k6.to_below (fun i h => by subst h; omega) (by have := HR1.out; omega))
      · exact Lies.keep (k6.mono (G := fun k => k = w.heap.size + 1 ∨ Z k) fun k h => Or.inl h) (fun _ _ h => Or.inr h) _ _ HQ.out.1
    · obtain ⟨hchk, hdep, hocc⟩ := hsn.here hE
      obtain ⟨lt, rfl, rfl, hfit, hTl⟩ := lies_parts hL
      have hside : Side w.heap.size r p (w.heap.size + 1) X F' wr nb og lv (R0 ++ [row] ++ kids (Tm.mk k0 n0 i0 re0 im0 lt)) (NV k0 n0 i0 re0 im0 a0 lt.length c0) := ⟨x1, x2, x3, x4, x5, x6, x7, x8, hW⟩
      obtain ⟨X', bb, done, M, ys, cc, hc, hfz, hcc, hcm, hoc, hol, hbl, hbo, hbn, hmid⟩ := St.take hl hside hE
      obtain ⟨a', ha', hsl⟩ := slice_run bb (done.length * 6) row.length cc hcc
      have hov := open_tail (b := bb) (filled := done.length) (row := row) rfl hcc hcm ha'
      have hmd := hmid _ hov
      obtain ⟨⟨z0, z1, z2, z3, z4, z5⟩, y0, y1, y2, y3, y4, y5⟩ := blk_facts x8
      have ho : ∀ (v : Value) (o : Nat), (wr.setCell ⟨og, R0.length, none⟩ v).cell? ⟨nb, o, none⟩ = wr.cell? ⟨nb, o, none⟩ := fun v o =>
        (Keep.setCell (F := fun k => k = og) (p := ⟨og, R0.length, none⟩) wr rfl v).cell (Array.getElem?_eq_some_iff.1 x8).1 x3
      have q0 : ∀ (v : Value), (wr.setCell ⟨og, R0.length, none⟩ v).cell? ⟨nb, 0, none⟩ = some (.int .i64 k0) := fun v => (ho v 0).trans z0
      have q1 : ∀ (v : Value), (wr.setCell ⟨og, R0.length, none⟩ v).cell? ⟨nb, 1, none⟩ = some (.string n0) := fun v => (ho v 1).trans z1
      have q2 : ∀ (v : Value), (wr.setCell ⟨og, R0.length, none⟩ v).cell? ⟨nb, 2, none⟩ = some (.int .i64 i0) := fun v => (ho v 2).trans z2
      have q3 : ∀ (v : Value), (wr.setCell ⟨og, R0.length, none⟩ v).cell? ⟨nb, 3, none⟩ = some (.int .u64 re0) := fun v => (ho v 3).trans z3
      have q4 : ∀ (v : Value), (wr.setCell ⟨og, R0.length, none⟩ v).cell? ⟨nb, 4, none⟩ = some (.int .u64 im0) := fun v => (ho v 4).trans z4
      have q5 : ∀ (v : Value), (wr.setCell ⟨og, R0.length, none⟩ v).cell? ⟨nb, 5, none⟩ = some (.slice a0 lt.length c0) := fun v => (ho v 5).trans z5
      have hmd1 := hmd _ rfl
      have HM := Lib.hid (And.intro hmd1 (And.intro hb (And.intro hE (And.intro hsn (And.intro hocc (And.intro hfit hchk))))))
      have hb1 : Below w.heap.size w (wr.setCell ⟨og, R0.length, none⟩ (.slice a' row.length (cc - 1))) := hb.trans ((Keep.setCell (F := fun k => k = og) (p := ⟨og, R0.length, none⟩) wr rfl _).to_below (fun i h => by subst h; exact (hmd1.own.lt _ rfl).1) hb.size)
      have HB1 := Lib.hid hb1
      have HN := Lib.hid (And.intro hbo (And.intro hbn (And.intro x3 (And.intro hol hbl))))
      have hkind := Go.Proofs.Ythableojkjhicaa.rws.chk_kind hchk
      clear hl hside hmid hmd hmd1 hov ha' hcm hL hTl hW x1 x2 x4 x6 x7 x8 hb hE hsn hocc hfit hchk ho y0 y1 y2 y3 y4 y5 hbo hbn hol hbl x5 x3 hb1
      rcases hkind with rfl | hkind
      · go_wp2_with fail
        refine (HAT.out i0 _ HB1.out (HM.out.2.2.2.2.1 rfl)).mono ?_
        rintro e w3 ⟨kv, nv, iv, rev, imv, av, lnv, cv, rfl, hb3, hL3⟩
        have hm3 := HM.out.1.below hb3
        obtain ⟨cur, hcur, hcs, u0, u1, u2, u3, u4, u5, ⟨p0, p1, p2, p3, p4, p5⟩, f0, f1, f2, f3, f4, f5⟩ := hm3.place
        have far := fun a b c d e f => far6 (o := done.length * 6) hm3.side.x8 HN.out.2.1 a b c d e f
        have r0 := fun a b c d e f => (far a b c d e f).1
        have r1 := fun a b c d e f => (far a b c d e f).2.1
        have r2 := fun a b c d e f => (far a b c d e f).2.2.1
        have r3 := fun a b c d e f => (far a b c d e f).2.2.2.1
        have r4 := fun a b c d e f => (far a b c d e f).2.2.2.2.1
        have r5 := fun a b c d e f => (far a b c d e f).2.2.2.2.2
        have HM3 := Lib.hid (And.intro hm3 (And.intro hb3 hL3))
        clear hm3 hcur hcs far hb3 hL3 hc hfz z0 z1 z2 z3 z4 z5 q0 q1 q2 q3 q4 q5
        go_wp2_with fail
        obtain ⟨w4, hw4⟩ : ∃ w4, w4 = set6 w3 bb (done.length * 6) (.int .i64 kv) (.string nv) (.int .i64 iv) (.int .u64 rev) (.int .u64 imv) (.slice av lnv cv) := ⟨_, rfl⟩
        have hww : ((((((w3.setCell ⟨bb, done.length * 6, none⟩ (.int .i64 kv)).setCell ⟨bb, done.length * 6 + 1, none⟩ (.string nv)).setCell ⟨bb, done.length * 6 + 2, none⟩ (.int .i64 iv)).setCell ⟨bb, done.length * 6 + 3, none⟩ (.int .u64 rev)).setCell ⟨bb, done.length * 6 + 4, none⟩ (.int .u64 imv)).setCell ⟨bb, done.length * 6 + 5, none⟩ (.slice av lnv cv)) = w4 := by rw [hw4]; rfl
        have hs4 : w3.heap.size = w4.heap.size := by rw [hw4]; simp [set6, World.setCell]
        rw [hww, hs4]
        have hen := HM3.out.1.fill (v0 := .int .i64 kv) (v1 := .string nv) (v2 := .int .i64 iv) (v3 := .int .u64 rev) (v4 := .int .u64 imv) (v5 := .slice av lnv cv) (HM3.out.2.2.off fun k _ h => (HM3.out.1.off k h).imp id fun h => h.1) (by rw [kids, if_neg (by decide)])
        rw [← hw4] at hen
        have hb4 : Below w.heap.size w w4 := (HB1.out.trans (HM3.out.2.1.mono HB1.out.size)).trans (by rw [hw4]; exact (set6_keep w3 bb (done.length * 6) _ _ _ _ _ _).to_below (fun k e => by subst e; exact HM3.out.1.lvo _ (by simp)) (by have := HB1.out.size; have := HM3.out.2.1.size; omega))
        have HEN := Lib.hid (And.intro hen hb4)
        clear hen hww hs4 hw4 hb4
        obtain ⟨w5, hw5⟩ : ∃ w5, w5 = w4.alloc (NV 1 n0 i0 re0 im0 a0 lt.length c0) := ⟨_, rfl⟩
        rw [← hw5]
        have hat5 : w5.heap[w4.heap.size]? = some (NV 1 n0 i0 re0 im0 a0 lt.length c0) := by rw [hw5]; exact alloc_at _ _
        have hs5 : w5.heap.size = w4.heap.size + 1 := by rw [hw5, alloc_size]
        have hW5 := HEN.out.1.side.x9.keep (G := No) (w' := w5) (Keep.of_below (by rw [hw5]; exact ba w4 _)) (fun _ _ => id) (fun _ h => h.elim)
        have hnF : ¬ F' w4.heap.size := fun h => by have := (HEN.out.1.side.x9.lt _ h).2.2; omega
        have HW5 := Lib.hid (And.intro hw5 (And.intro hat5 (And.intro hs5 (And.intro hW5 hnF))))
        clear hw5 hat5 hs5 hW5 hnF
        refine (next_rows w.heap.size r w5 p F' _ HW5.out.2.2.2.1 (by have := kids_len (Tm.mk 1 n0 i0 re0 im0 lt); simp only [List.length_append, List.length_cons, List.length_nil]; omega) (by have := HEN.out.1.side.x5; have := HW5.out.2.2.1; omega)).mono ?_
        rintro e w6 ⟨k1, n1, i1, re1, im1, a1, l1, c1, d1, b1, rfl, hA6⟩
        have hat6 := (hA6.1.block w4.heap.size (by rw [HW5.out.2.2.1]; omega) HW5.out.2.2.2.2).trans HW5.out.2.1
        obtain ⟨⟨x0, x1, x2, x3, x4, x5⟩, y0, y1, y2, y3, y4, y5⟩ := blk_facts hat6
        have HA6 := Lib.hid hA6
        clear hA6 hat6 r0 r1 r2 r3 r4 r5 p0 p1 p2 p3 p4 p5 f0 f1 f2 f3 f4 f5
        go_wp2_with fail
        go_roundg (flat (R0 ++ [row] ++ kids (Tm.mk 1 n0 i0 re0 im0 lt))).length
        case measure => rw [flat_step HM.out.2.2.1]; simp
        case rel =>
          have hn := HEN.out.1.next (by have := HEN.out.2.size; omega) HW5.out.1 HA6.out
          exact ⟨R0 ++ [row] ++ kids (Tm.mk 1 n0 i0 re0 im0 lt), w4.heap.size, og, oc, k1, n1, i1, re1, im1, a1, l1, c1, d1, b1, rfl, by simp [kids], rfl, rfl, rfl, hn.1, HEN.out.2.trans hn.2, HM.out.2.2.2.1.step HM.out.2.2.1⟩
      rcases hkind with rfl | hkind
      · have e5 : ((2 : Int) == 5) = false := by decide
        go_wp2_with fail
        refine (plainNode_2 n0 i0 re0 im0 a0 lt.length c0 _).mono ?_
        rintro e w3 ⟨rfl, hb3⟩
        have hm3 := HM.out.1.below hb3
        have hL3 := lies_2 (Up w.heap.size r (wr.setCell ⟨og, R0.length, none⟩ (.slice a' row.length (cc - 1))) X') s n0 i0 re0 im0 lt c0 w3 HM.out.2.2.2.2.2.1
        obtain ⟨cur, hcur, hcs, u0, u1, u2, u3, u4, u5, ⟨p0, p1, p2, p3, p4, p5⟩, f0, f1, f2, f3, f4, f5⟩ := hm3.place
        have far := fun a b c d e f => far6 (o := done.length * 6) hm3.side.x8 HN.out.2.1 a b c d e f
        have r0 := fun a b c d e f => (far a b c d e f).1
        have r1 := fun a b c d e f => (far a b c d e f).2.1
        have r2 := fun a b c d e f => (far a b c d e f).2.2.1
        have r3 := fun a b c d e f => (far a b c d e f).2.2.2.1
        have r4 := fun a b c d e f => (far a b c d e f).2.2.2.2.1
        have r5 := fun a b c d e f => (far a b c d e f).2.2.2.2.2
        have HM3 := Lib.hid (And.intro hm3 (And.intro hb3 hL3))
        clear hm3 hcur hcs far hb3 hL3 hc hfz z0 z1 z2 z3 z4 z5 q0 q1 q2 q3 q4 q5
        go_wp2_with fail
        obtain ⟨w4, hw4⟩ : ∃ w4, w4 = set6 w3 bb (done.length * 6) (.int .i64 2) (.string n0) (.int .i64 0) (.int .u64 0) (.int .u64 0) (.slice none 0 0) := ⟨_, rfl⟩
        have hww : ((((((w3.setCell ⟨bb, done.length * 6, none⟩ (.int .i64 2)).setCell ⟨bb, done.length * 6 + 1, none⟩ (.string n0)).setCell ⟨bb, done.length * 6 + 2, none⟩ (.int .i64 0)).setCell ⟨bb, done.length * 6 + 3, none⟩ (.int .u64 0)).setCell ⟨bb, done.length * 6 + 4, none⟩ (.int .u64 0)).setCell ⟨bb, done.length * 6 + 5, none⟩ (.slice none 0 0)) = w4 := by rw [hw4]; rfl
        have hs4 : w3.heap.size = w4.heap.size := by rw [hw4]; simp [set6, World.setCell]
        rw [hww, hs4]
        have hen := HM3.out.1.fill (v0 := .int .i64 2) (v1 := .string n0) (v2 := .int .i64 0) (v3 := .int .u64 0) (v4 := .int .u64 0) (v5 := .slice none 0 0) HM3.out.2.2 (by rw [kids, if_neg (by decide)])
        rw [← hw4] at hen
        have hb4 : Below w.heap.size w w4 := (HB1.out.trans (HM3.out.2.1.mono HB1.out.size)).trans (by rw [hw4]; exact (set6_keep w3 bb (done.length * 6) _ _ _ _ _ _).to_below (fun k e => by subst e; exact HM3.out.1.lvo _ (by simp)) (by have := HB1.out.size; have := HM3.out.2.1.size; omega))
        have HEN := Lib.hid (And.intro hen hb4)
        clear hen hww hs4 hw4 hb4
        obtain ⟨w5, hw5⟩ : ∃ w5, w5 = w4.alloc (NV 2 n0 i0 re0 im0 a0 lt.length c0) := ⟨_, rfl⟩
        rw [← hw5]
        have hat5 : w5.heap[w4.heap.size]? = some (NV 2 n0 i0 re0 im0 a0 lt.length c0) := by rw [hw5]; exact alloc_at _ _
        have hs5 : w5.heap.size = w4.heap.size + 1 := by rw [hw5, alloc_size]
        have hW5 := HEN.out.1.side.x9.keep (G := No) (w' := w5) (Keep.of_below (by rw [hw5]; exact ba w4 _)) (fun _ _ => id) (fun _ h => h.elim)
        have hnF : ¬ F' w4.heap.size := fun h => by have := (HEN.out.1.side.x9.lt _ h).2.2; omega
        have HW5 := Lib.hid (And.intro hw5 (And.intro hat5 (And.intro hs5 (And.intro hW5 hnF))))
        clear hw5 hat5 hs5 hW5 hnF
        refine (next_rows w.heap.size r w5 p F' _ HW5.out.2.2.2.1 (by have := kids_len (Tm.mk 2 n0 i0 re0 im0 lt); simp only [List.length_append, List.length_cons, List.length_nil]; omega) (by have := HEN.out.1.side.x5; have := HW5.out.2.2.1; omega)).mono ?_
        rintro e w6 ⟨k1, n1, i1, re1, im1, a1, l1, c1, d1, b1, rfl, hA6⟩
        have hat6 := (hA6.1.block w4.heap.size (by rw [HW5.out.2.2.1]; omega) HW5.out.2.2.2.2).trans HW5.out.2.1
        obtain ⟨⟨x0, x1, x2, x3, x4, x5⟩, y0, y1, y2, y3, y4, y5⟩ := blk_facts hat6
        have HA6 := Lib.hid hA6
        clear hA6 hat6 r0 r1 r2 r3 r4 r5 p0 p1 p2 p3 p4 p5 f0 f1 f2 f3 f4 f5
        go_wp2_with fail
        go_roundg (flat (R0 ++ [row] ++ kids (Tm.mk 2 n0 i0 re0 im0 lt))).length
        case measure => rw [flat_step HM.out.2.2.1]; simp
        case rel =>
          have hn := HEN.out.1.next (by have := HEN.out.2.size; omega) HW5.out.1 HA6.out
          exact ⟨R0 ++ [row] ++ kids (Tm.mk 2 n0 i0 re0 im0 lt), w4.heap.size, og, oc, k1, n1, i1, re1, im1, a1, l1, c1, d1, b1, rfl, by simp [kids], rfl, rfl, rfl, hn.1, HEN.out.2.trans hn.2, HM.out.2.2.2.1.step HM.out.2.2.1⟩
      rcases hkind with rfl | hkind
      · have e5 : ((3 : Int) == 5) = false := by decide
        go_wp2_with fail
        refine (plainNode_3 n0 i0 re0 im0 a0 lt.length c0 _).mono ?_
        rintro e w3 ⟨rfl, hb3⟩
        have hm3 := HM.out.1.below hb3
        have hL3 := lies_3 (Up w.heap.size r (wr.setCell ⟨og, R0.length, none⟩ (.slice a' row.length (cc - 1))) X') s n0 i0 re0 im0 lt c0 w3 HM.out.2.2.2.2.2.1
        obtain ⟨cur, hcur, hcs, u0, u1, u2, u3, u4, u5, ⟨p0, p1, p2, p3, p4, p5⟩, f0, f1, f2, f3, f4, f5⟩ := hm3.place
        have far := fun a b c d e f => far6 (o := done.length * 6) hm3.side.x8 HN.out.2.1 a b c d e f
        have r0 := fun a b c d e f => (far a b c d e f).1
        have r1 := fun a b c d e f => (far a b c d e f).2.1
        have r2 := fun a b c d e f => (far a b c d e f).2.2.1
        have r3 := fun a b c d e f => (far a b c d e f).2.2.2.1
        have r4 := fun a b c d e f => (far a b c d e f).2.2.2.2.1
        have r5 := fun a b c d e f => (far a b c d e f).2.2.2.2.2
        have HM3 := Lib.hid (And.intro hm3 (And.intro hb3 hL3))
        clear hm3 hcur hcs far hb3 hL3 hc hfz z0 z1 z2 z3 z4 z5 q0 q1 q2 q3 q4 q5
        go_wp2_with fail
        obtain ⟨w4, hw4⟩ : ∃ w4, w4 = set6 w3 bb (done.length * 6) (.int .i64 3) (.string ⟨#[]⟩) (.int .i64 i0) (.int .u64 0) (.int .u64 0) (.slice none 0 0) := ⟨_, rfl⟩
        have hww : ((((((w3.setCell ⟨bb, done.length * 6, none⟩ (.int .i64 3)).setCell ⟨bb, done.length * 6 + 1, none⟩ (.string ⟨#[]⟩)).setCell ⟨bb, done.length * 6 + 2, none⟩ (.int .i64 i0)).setCell ⟨bb, done.length * 6 + 3, none⟩ (.int .u64 0)).setCell ⟨bb, done.length * 6 + 4, none⟩ (.int .u64 0)).setCell ⟨bb, done.length * 6 + 5, none⟩ (.slice none 0 0)) = w4 := by rw [hw4]; rfl
        have hs4 : w3.heap.size = w4.heap.size := by rw [hw4]; simp [set6, World.setCell]
        rw [hww, hs4]
        have hen := HM3.out.1.fill (v0 := .int .i64 3) (v1 := .string ⟨#[]⟩) (v2 := .int .i64 i0) (v3 := .int .u64 0) (v4 := .int .u64 0) (v5 := .slice none 0 0) HM3.out.2.2 (by rw [kids, if_neg (by decide)])
        rw [← hw4] at hen
        have hb4 : Below w.heap.size w w4 := (HB1.out.trans (HM3.out.2.1.mono HB1.out.size)).trans (by rw [hw4]; exact (set6_keep w3 bb (done.length * 6) _ _ _ _ _ _).to_below (fun k e => by subst e; exact HM3.out.1.lvo _ (by simp)) (by have := HB1.out.size; have := HM3.out.2.1.size; omega))
        have HEN := Lib.hid (And.intro hen hb4)
        clear hen hww hs4 hw4 hb4
        obtain ⟨w5, hw5⟩ : ∃ w5, w5 = w4.alloc (NV 3 n0 i0 re0 im0 a0 lt.length c0) := ⟨_, rfl⟩
        rw [← hw5]
        have hat5 : w5.heap[w4.heap.size]? = some (NV 3 n0 i0 re0 im0 a0 lt.length c0) := by rw [hw5]; exact alloc_at _ _
        have hs5 : w5.heap.size = w4.heap.size + 1 := by rw [hw5, alloc_size]
        have hW5 := HEN.out.1.side.x9.keep (G := No) (w' := w5) (Keep.of_below (by rw [hw5]; exact ba w4 _)) (fun _ _ => id) (fun _ h => h.elim)
        have hnF : ¬ F' w4.heap.size := fun h => by have := (HEN.out.1.side.x9.lt _ h).2.2; omega
        have HW5 := Lib.hid (And.intro hw5 (And.intro hat5 (And.intro hs5 (And.intro hW5 hnF))))
        clear hw5 hat5 hs5 hW5 hnF
        refine (next_rows w.heap.size r w5 p F' _ HW5.out.2.2.2.1 (by have := kids_len (Tm.mk 3 n0 i0 re0 im0 lt); simp only [List.length_append, List.length_cons, List.length_nil]; omega) (by have := HEN.out.1.side.x5; have := HW5.out.2.2.1; omega)).mono ?_
        rintro e w6 ⟨k1, n1, i1, re1, im1, a1, l1, c1, d1, b1, rfl, hA6⟩
        have hat6 := (hA6.1.block w4.heap.size (by rw [HW5.out.2.2.1]; omega) HW5.out.2.2.2.2).trans HW5.out.2.1
        obtain ⟨⟨x0, x1, x2, x3, x4, x5⟩, y0, y1, y2, y3, y4, y5⟩ := blk_facts hat6
        have HA6 := Lib.hid hA6
        clear hA6 hat6 r0 r1 r2 r3 r4 r5 p0 p1 p2 p3 p4 p5 f0 f1 f2 f3 f4 f5
        go_wp2_with fail
        go_roundg (flat (R0 ++ [row] ++ kids (Tm.mk 3 n0 i0 re0 im0 lt))).length
        case measure => rw [flat_step HM.out.2.2.1]; simp
        case rel =>
          have hn := HEN.out.1.next (by have := HEN.out.2.size; omega) HW5.out.1 HA6.out
          exact ⟨R0 ++ [row] ++ kids (Tm.mk 3 n0 i0 re0 im0 lt), w4.heap.size, og, oc, k1, n1, i1, re1, im1, a1, l1, c1, d1, b1, rfl, by simp [kids], rfl, rfl, rfl, hn.1, HEN.out.2.trans hn.2, HM.out.2.2.2.1.step HM.out.2.2.1⟩
      rcases hkind with rfl | hkind
      · have e5 : ((4 : Int) == 5) = false := by decide
        go_wp2_with fail
        refine (plainNode_4 n0 i0 re0 im0 a0 lt.length c0 _).mono ?_
        rintro e w3 ⟨rfl, hb3⟩
        have hm3 := HM.out.1.below hb3
        have hL3 := lies_4 (Up w.heap.size r (wr.setCell ⟨og, R0.length, none⟩ (.slice a' row.length (cc - 1))) X') s n0 i0 re0 im0 lt c0 w3 HM.out.2.2.2.2.2.1
        obtain ⟨cur, hcur, hcs, u0, u1, u2, u3, u4, u5, ⟨p0, p1, p2, p3, p4, p5⟩, f0, f1, f2, f3, f4, f5⟩ := hm3.place
        have far := fun a b c d e f => far6 (o := done.length * 6) hm3.side.x8 HN.out.2.1 a b c d e f
        have r0 := fun a b c d e f => (far a b c d e f).1
        have r1 := fun a b c d e f => (far a b c d e f).2.1
        have r2 := fun a b c d e f => (far a b c d e f).2.2.1
        have r3 := fun a b c d e f => (far a b c d e f).2.2.2.1
        have r4 := fun a b c d e f => (far a b c d e f).2.2.2.2.1
        have r5 := fun a b c d e f => (far a b c d e f).2.2.2.2.2
        have HM3 := Lib.hid (And.intro hm3 (And.intro hb3 hL3))
        clear hm3 hcur hcs far hb3 hL3 hc hfz z0 z1 z2 z3 z4 z5 q0 q1 q2 q3 q4 q5
        go_wp2_with fail
        obtain ⟨w4, hw4⟩ : ∃ w4, w4 = set6 w3 bb (done.length * 6) (.int .i64 4) (.string ⟨#[]⟩) (.int .i64 0) (.int .u64 re0) (.int .u64 im0) (.slice none 0 0) := ⟨_, rfl⟩
        have hww : ((((((w3.setCell ⟨bb, done.length * 6, none⟩ (.int .i64 4)).setCell ⟨bb, done.length * 6 + 1, none⟩ (.string ⟨#[]⟩)).setCell ⟨bb, done.length * 6 + 2, none⟩ (.int .i64 0)).setCell ⟨bb, done.length * 6 + 3, none⟩ (.int .u64 re0)).setCell ⟨bb, done.length * 6 + 4, none⟩ (.int .u64 im0)).setCell ⟨bb, done.length * 6 + 5, none⟩ (.slice none 0 0)) = w4 := by rw [hw4]; rfl
        have hs4 : w3.heap.size = w4.heap.size := by rw [hw4]; simp [set6, World.setCell]
        rw [hww, hs4]
        have hen := HM3.out.1.fill (v0 := .int .i64 4) (v1 := .string ⟨#[]⟩) (v2 := .int .i64 0) (v3 := .int .u64 re0) (v4 := .int .u64 im0) (v5 := .slice none 0 0) HM3.out.2.2 (by rw [kids, if_neg (by decide)])
        rw [← hw4] at hen
        have hb4 : Below w.heap.size w w4 := (HB1.out.trans (HM3.out.2.1.mono HB1.out.size)).trans (by rw [hw4]; exact (set6_keep w3 bb (done.length * 6) _ _ _ _ _ _).to_below (fun k e => by subst e; exact HM3.out.1.lvo _ (by simp)) (by have := HB1.out.size; have := HM3.out.2.1.size; omega))
        have HEN := Lib.hid (And.intro hen hb4)
        clear hen hww hs4 hw4 hb4
        obtain ⟨w5, hw5⟩ : ∃ w5, w5 = w4.alloc (NV 4 n0 i0 re0 im0 a0 lt.length c0) := ⟨_, rfl⟩
        rw [← hw5]
        have hat5 : w5.heap[w4.heap.size]? = some (NV 4 n0 i0 re0 im0 a0 lt.length c0) := by rw [hw5]; exact alloc_at _ _
        have hs5 : w5.heap.size = w4.heap.size + 1 := by rw [hw5, alloc_size]
        have hW5 := HEN.out.1.side.x9.keep (G := No) (w' := w5) (Keep.of_below (by rw [hw5]; exact ba w4 _)) (fun _ _ => id) (fun _ h => h.elim)
        have hnF : ¬ F' w4.heap.size := fun h => by have := (HEN.out.1.side.x9.lt _ h).2.2; omega
        have HW5 := Lib.hid (And.intro hw5 (And.intro hat5 (And.intro hs5 (And.intro hW5 hnF))))
        clear hw5 hat5 hs5 hW5 hnF
        refine (next_rows w.heap.size r w5 p F' _ HW5.out.2.2.2.1 (by have := kids_len (Tm.mk 4 n0 i0 re0 im0 lt); simp only [List.length_append, List.length_cons, List.length_nil]; omega) (by have := HEN.out.1.side.x5; have := HW5.out.2.2.1; omega)).mono ?_
        rintro e w6 ⟨k1, n1, i1, re1, im1, a1, l1, c1, d1, b1, rfl, hA6⟩
        have hat6 := (hA6.1.block w4.heap.size (by rw [HW5.out.2.2.1]; omega) HW5.out.2.2.2.2).trans HW5.out.2.1
        obtain ⟨⟨x0, x1, x2, x3, x4, x5⟩, y0, y1, y2, y3, y4, y5⟩ := blk_facts hat6
        have HA6 := Lib.hid hA6
        clear hA6 hat6 r0 r1 r2 r3 r4 r5 p0 p1 p2 p3 p4 p5 f0 f1 f2 f3 f4 f5
        go_wp2_with fail
        go_roundg (flat (R0 ++ [row] ++ kids (Tm.mk 4 n0 i0 re0 im0 lt))).length
        case measure => rw [flat_step HM.out.2.2.1]; simp
        case rel =>
          have hn := HEN.out.1.next (by have := HEN.out.2.size; omega) HW5.out.1 HA6.out
          exact ⟨R0 ++ [row] ++ kids (Tm.mk 4 n0 i0 re0 im0 lt), w4.heap.size, og, oc, k1, n1, i1, re1, im1, a1, l1, c1, d1, b1, rfl, by simp [kids], rfl, rfl, rfl, hn.1, HEN.out.2.trans hn.2, HM.out.2.2.2.1.step HM.out.2.2.1⟩
      · obtain ⟨rfl, hl0, hl20, hn200⟩ := hkind
        have HL0 := Lib.hid (And.intro hl0 (And.intro hl20 hn200))
        clear hl0 hl20 hn200
        go_wp2_with fail
        refine (plainNode_comp n0 i0 re0 im0 a0 lt.length c0 _ HL0.out.2.1).mono ?_
        rintro e w3 ⟨q, curq, rfl, hb3, hq, hqc, hqs⟩
        have hm3 := HM.out.1.below hb3
        obtain ⟨cur, hcur, hcs, u0, u1, u2, u3, u4, u5, ⟨p0, p1, p2, p3, p4, p5⟩, f0, f1, f2, f3, f4, f5⟩ := hm3.place
        have far := fun a b c d e f => far6 (o := done.length * 6) hm3.side.x8 HN.out.2.1 a b c d e f
        have r0 := fun a b c d e f => (far a b c d e f).1
        have ro := fun a b c d e f => own6 hcur hcs a b c d e f
        have HM3 := Lib.hid (And.intro hm3 (And.intro hb3 (And.intro hq (And.intro hqc (And.intro hqs hm3.own)))))
        obtain ⟨i0', hi, hi0, hi1, hi2⟩ := info_parts infoSl
        have HI := Lib.hid (And.intro hi (And.intro hi0 (And.intro hi1 hi2)))
        clear hm3 hcur hcs far hb3 hq hqc hqs hc hfz z0 z1 z2 z3 z4 z5 q0 q1 q2 q3 q4 q5 hi hi0 hi1 hi2
        go_wp2_with (at_builtin; refine wpList_append_lies _ rfl (.tmp 60) (.tmp 65) 193 rfl w.heap.size 34 i0' (.slice none 0 0) 1 24 Try.underlying193 HI.out.1 HI.out.2.1 HI.out.2.2.1 HI.out.2.2.2 rfl (by decide) (.slice (some ⟨og, 0, none⟩) (R0.length + 1) oc) (R0.length + 1) (ys.reverse ++ [.slice a' row.length (cc - 1)]) rfl (own_keep HM3.out.2.2.2.2.2 (farO (HM3.out.2.2.2.2.2.lt _ rfl).2 (fun e => HN.out.1 e.symm) _ _ _ _ _ _ _)) ⟨w3.heap.size, 0, none⟩ 1 1 [.slice (some ⟨q, 0, none⟩) lt.length lt.length] rfl rfl ?ac0 ?ac1 (by omega) ?ac2 ?ac3 ?ac4 _ rfl ?_)
        case ac0 => exact cell_one_at _ _ _ _ (by simp [World.setCell])
        case ac1 => intro u hu; simp only [List.mem_singleton] at hu; subst hu; rfl
        case ac2 => unfold maxLen; omega
        case ac3 => omega
        case ac4 =>
          have h1 := HB1.out.size
          have h2 := HM3.out.2.1.size
          have h3 := (set6_keep w3 bb (done.length * 6) (.int .i64 5) (.string n0) (.int .i64 0) (.int .u64 0) (.int .u64 0) (.slice (some ⟨q, 0, none⟩) lt.length lt.length)).size
          rw [alloc_size]
          exact Nat.le_trans (Nat.le_trans h1 h2) (Nat.le_succ_of_le h3)
        intro og' oc' w4 ho4 hg4 ha4 hl4
        have hk4 : Keep (fun k => k = og) (set6 w3 bb (done.length * 6) (.int .i64 5) (.string n0) (.int .i64 0) (.int .u64 0) (.int .u64 0) (.slice (some ⟨q, 0, none⟩) lt.length lt.length)) w4 := grown3 hg4
        obtain ⟨m1, m2, m3, m4, m5, m6⟩ := HM3.out
        have hqs1 := (Array.getElem?_eq_some_iff.1 m4).1
        have hwr := HB1.out.size
        have hs1 : (wr.setCell ⟨og, R0.length, none⟩ (.slice a' row.length (cc - 1))).heap.size = wr.heap.size := by simp [World.setCell]
        have hrl := HM.out.1.side.x5
        have hxq : Up w.heap.size r (wr.setCell ⟨og, R0.length, none⟩ (.slice a' row.length (cc - 1))) X' q := Or.inr ⟨m3, by omega, by omega⟩
        have hmem := HM.out.1.lvs.mem
        have hen := m1.push (q := q) (og' := og') (oc' := oc') (w4 := w4) m4 m5 (by omega) ⟨hxq, fun e => by have := (Array.getElem?_eq_some_iff.1 HM.out.1.side.x7).1; omega, fun e => by have := (Array.getElem?_eq_some_iff.1 HM.out.1.side.x8).1; omega, fun e => by have := (HM.out.1.own.lt og rfl).2; omega, fun hm => by have := (hmem q hm).2; omega, fun h => by have := (HM.out.1.side.x9.lt q h).2.2; omega⟩
          ⟨by omega, by omega, by have := HL0.out.2.2; omega, by omega, by omega, by omega, by omega, by omega, by omega, Nat.le_refl _, by have := HL0.out.2.1; omega⟩ hk4 (by simpa using ho4) (by
            rcases ha4 with e | e
            · left; simp [Value.ownBlock] at e; exact e.symm
            · right; omega)
        have hb4 : Below w.heap.size w w4 := ((HB1.out.trans (m2.mono HB1.out.size)).trans ((set6_keep w3 bb (done.length * 6) _ _ _ _ _ _).to_below (fun k e => by subst e; exact m1.lvo _ (by simp)) (by have := m2.size; omega))).trans (hk4.to_below (fun k e => by subst e; exact (m1.own.lt _ rfl).1) (by have := m2.size; have := (set6_keep w3 bb (done.length * 6) (.int .i64 5) (.string n0) (.int .i64 0) (.int .u64 0) (.int .u64 0) (.slice (some ⟨q, 0, none⟩) lt.length lt.length)).size; omega))
        have HEN := Lib.hid (And.intro hen hb4)
        obtain ⟨⟨z0, z1, z2, z3, z4, z5⟩, _⟩ := blk_facts hen.side.x8
        clear hen hb4 hk4 m1 m2 m3 m4 m5 m6 hqs1 hwr hs1 hrl hxq hmem ho4 hg4 ha4 hl4 r0 ro
        go_wp2_with fail
        obtain ⟨w5, hw5⟩ : ∃ w5, w5 = w4.alloc (NV 5 n0 i0 re0 im0 a0 lt.length c0) := ⟨_, rfl⟩
        rw [← hw5]
        have hat5 : w5.heap[w4.heap.size]? = some (NV 5 n0 i0 re0 im0 a0 lt.length c0) := by rw [hw5]; exact alloc_at _ _
        have hs5 : w5.heap.size = w4.heap.size + 1 := by rw [hw5, alloc_size]
        have hW5 := HEN.out.1.side.x9.keep (G := No) (w' := w5) (Keep.of_below (by rw [hw5]; exact ba w4 _)) (fun _ _ => id) (fun _ h => h.elim)
        have hnF : ¬ F' w4.heap.size := fun h => by have := (HEN.out.1.side.x9.lt _ h).2.2; omega
        have HW5 := Lib.hid (And.intro hw5 (And.intro hat5 (And.intro hs5 (And.intro hW5 hnF))))
        clear hw5 hat5 hs5 hW5 hnF
        refine (next_rows w.heap.size r w5 p F' _ HW5.out.2.2.2.1 (by have := kids_len (Tm.mk 5 n0 i0 re0 im0 lt); simp only [List.length_append, List.length_cons, List.length_nil]; omega) (by have := HEN.out.1.side.x5; have := HW5.out.2.2.1; omega)).mono ?_
        rintro e w6 ⟨k1, n1, i1, re1, im1, a1, l1, c1, d1, b1, rfl, hA6⟩
        have hat6 := (hA6.1.block w4.heap.size (by rw [HW5.out.2.2.1]; omega) HW5.out.2.2.2.2).trans HW5.out.2.1
        obtain ⟨⟨x0, x1, x2, x3, x4, x5⟩, y0, y1, y2, y3, y4, y5⟩ := blk_facts hat6
        have HA6 := Lib.hid hA6
        clear hA6 hat6 z0 z1 z2 z3 z4 z5 p0 p1 p2 p3 p4 p5 f0 f1 f2 f3 f4 f5
        go_wp2_with fail
        go_roundg (flat (R0 ++ [row] ++ kids (Tm.mk 5 n0 i0 re0 im0 lt))).length
        case measure => rw [flat_step HM.out.2.2.1]; simp
        case rel =>
          have hn := HEN.out.1.next (by have := HEN.out.2.size; omega) HW5.out.1 HA6.out
          exact ⟨R0 ++ [row] ++ kids (Tm.mk 5 n0 i0 re0 im0 lt), w4.heap.size, og', oc', k1, n1, i1, re1, im1, a1, l1, c1, d1, b1, rfl, by simp [kids], rfl, rfl, rfl, hn.1, HEN.out.2.trans hn.2, HM.out.2.2.2.1.step HM.out.2.2.1⟩
end Go.Proofs.Ythableojkjhicaa.rbv
