/- The reference's mapped. -/
import Derived.Test.YtjgkgceigbimoaaRMpA
import Derived.IntWalk
namespace Go.Proofs.Ytjgkgceigbimoaa.rmp
set_option linter.unusedVariables false
open Go.ChangeShapes Go.WideShapes Go.ChangeAt Go.RowKit
open Go.Proofs.Ytjgkgceigbimoaa.tm Go.Proofs.Ytjgkgceigbimoaa.lie Go.Proofs.Ytjgkgceigbimoaa.kp Go.Proofs.Ytjgkgceigbimoaa.cur Go.Proofs.Ytjgkgceigbimoaa.pln Go.Proofs.Ytjgkgceigbimoaa.pla Go.Proofs.Ytjgkgceigbimoaa.wlk Go.Proofs.Ytjgkgceigbimoaa.ow6 Go.Proofs.Ytjgkgceigbimoaa.rws Go.Proofs.Ytjgkgceigbimoaa.rsm Go.Proofs.Ytjgkgceigbimoaa.rpl Go.Proofs.Ytjgkgceigbimoaa.ren Go.Proofs.Ytjgkgceigbimoaa.vrs Go.Proofs.Ytjgkgceigbimoaa.awk Go.Proofs.Ytjgkgceigbimoaa.sme Go.Proofs.Ytjgkgceigbimoaa.nmd Go.Proofs.Ytjgkgceigbimoaa.app Go.Proofs.Ytjgkgceigbimoaa.rmy
/-- the counter -/
def Cnt (w : World) (N x : Nat) : Prop := w.heap[N]? = some (.cells #[.int .i64 (x : Int)] 3 (0, 0))
theorem Cnt.at_ {w : World} {N x : Nat} (h : Cnt w N x) : w.cell? ⟨N, 0, none⟩ = some (.int .i64 (x : Int)) ∧ w.frozen? ⟨N, 0, none⟩ = false := by
  unfold Cnt at h; exact ⟨by simp [World.cell?, h], by simp [World.frozen?, h]⟩
theorem Cnt.below {w w' : World} {N x : Nat} (h : Cnt w N x) (hb : Below w.heap.size w w') : Cnt w' N x := (hb.block N (Array.getElem?_eq_some_iff.1 h).1).trans h
theorem Cnt.set_ {w : World} {N x y : Nat} (h : Cnt w N x) : Cnt (w.setCell ⟨N, 0, none⟩ (.int .i64 (y : Int))) N y := by
  have := heap_setCell_same w N 0 _ 3 (.int .i64 (y : Int)) h
  unfold Cnt
  simpa using this
def MGives (B0 N : Nat) (w : World) (T : Tm) (x : Nat) (e : Ending) (w' : World) : Prop :=
  ∃ (M : Tm) (x' : Nat) (k : Int) (n : ByteArray) (i re im : Int) (a : Option Addr) (lq cq : Nat), e = .returned (.agg #[.int .i64 k, .string n, .int .i64 i, .int .u64 re, .int .u64 im, .slice a lq cq]) ∧ OutM T M x x' ∧ x' ≤ 4000 ∧ Keep (fun q => q = N) w w' ∧ Cnt w' N x' ∧
    Lies (fun q => B0 ≤ q ∧ q < w.heap.size) w' M (.agg #[.int .i64 k, .string n, .int .i64 i, .int .u64 re, .int .u64 im, .slice a lq cq])
/-- the count is too great already -/
theorem mapped_over (B0 N : Nat) (T : Tm) (t : Tm) (v : Value) (a : Option Addr) (n c : Nat) (w : World) (x : Nat) (ht : Lies No w t v) (hN : Cnt w N x) (hx : 2000 < x) (hx4 : x ≤ 4000) : Calls Try.prog 39 #[v, .slice a n c, .pointer (some ⟨N, 0, none⟩)] w (MGives B0 N w T x) := by
  have hNl : N < w.heap.size := (Array.getElem?_eq_some_iff.1 hN).1
  obtain ⟨k, nn, i, re, im, l⟩ := t
  rw [Lies] at ht
  obtain ⟨at', ct, rfl, hf, hr⟩ := ht
  obtain ⟨w2, hw2⟩ : ∃ w2, w2 = (w.alloc (.cells #[.int .i64 k, .string nn, .int .i64 i, .int .u64 re, .int .u64 im, .slice at' l.length ct] 25)).alloc ZT := ⟨_, rfl⟩
  have hb2 : Below w.heap.size w w2 := by rw [hw2]; exact bt (ba _ _) (ba _ _)
  have hz : w2.heap[w.heap.size + 1]? = some ZT := by
    have := alloc_at (w.alloc (.cells #[.int .i64 k, .string nn, .int .i64 i, .int .u64 re, .int .u64 im, .slice at' l.length ct] 25)) ZT
    rw [alloc_size] at this
    rw [hw2]; exact this
  obtain ⟨q0, q1⟩ := (hN.below hb2).at_
  obtain ⟨⟨z0, z1, z2, z3, z4, z5⟩, y0, y1, y2, y3, y4, y5⟩ := blk_facts hz
  have HB := Lib.hid (And.intro hb2 (And.intro hz (hN.below hb2)))
  have hxi : (2000 : Int) < x := by omega
  have HX := Lib.hid (And.intro hx (And.intro hx4 hNl))
  rw [hw2] at q0 q1 z0 z1 z2 z3 z4 z5 y0 y1 y2 y3 y4 y5
  clear hf hr hN hb2 hz hx hx4
  go_enter Try.func39, Try.ntmps39
  go_wp2_with fail
  rw [← hw2]
  obtain ⟨⟨e0, e1, e2, e3, e4, e5⟩, _⟩ := blk_facts HB.out.2.1
  exact bodyPost_ret (v := ZV) (by simp [results, Try.results39, go_sem, e0, e1, e2, e3, e4, e5]) rfl ⟨zero, x, _, _, _, _, _, _, _, _, rfl, OutM.zero_ HX.out.1, HX.out.2.1, Keep.of_below HB.out.1, HB.out.2.2, zero_lies _ _⟩
/-- a variable that stands for a term -/
theorem mapped_var (B0 N : Nat) (l : List Tm) (i : Nat) (nn : ByteArray) (re im : Int) (tl : List Tm) (at' : Option Addr) (ct : Nat) (a : Option Addr) (c : Nat) (w : World) (x : Nat) (hi : i < l.length) (hf : Fit 1 nn i re im tl.length ct) (hr : TRow (fun q => B0 ≤ q) w l a 0) (hN : Cnt w N x) (hB : B0 ≤ N) (hx : x ≤ 2000) (hg : good l[i] = true) :
    Calls Try.prog 39 #[.agg #[.int .i64 1, .string nn, .int .i64 i, .int .u64 re, .int .u64 im, .slice at' tl.length ct], .slice a l.length c, .pointer (some ⟨N, 0, none⟩)] w (MGives B0 N w l[i] x) := by
  have hNl : N < w.heap.size := (Array.getElem?_eq_some_iff.1 hN).1
  obtain ⟨w2, hw2⟩ : ∃ w2, w2 = (w.alloc (.cells #[.int .i64 1, .string nn, .int .i64 i, .int .u64 re, .int .u64 im, .slice at' tl.length ct] 25)).alloc ZT := ⟨_, rfl⟩
  have hb2 : Below w.heap.size w w2 := by rw [hw2]; exact bt (ba _ _) (ba _ _)
  have hs2 : w2.heap.size = w.heap.size + 1 + 1 := by rw [hw2, alloc_size, alloc_size]
  have hz : w2.heap[w.heap.size + 1]? = some ZT := by
    have := alloc_at (w.alloc (.cells #[.int .i64 1, .string nn, .int .i64 i, .int .u64 re, .int .u64 im, .slice at' tl.length ct] 25)) ZT
    rw [alloc_size] at this
    rw [hw2]; exact this
  have hx1 : w2.heap[w.heap.size]? = some (.cells #[.int .i64 1, .string nn, .int .i64 i, .int .u64 re, .int .u64 im, .slice at' tl.length ct] 25 (0, 0)) := by
    rw [hw2, (ba _ _).block _ (by rw [alloc_size]; omega)]; exact alloc_at _ _
  obtain ⟨b1, o1, v0, v1, v2, v3, v4, v5, hbl, hXb, h6, hlx, hix⟩ := hr.look hi
  have hix' := hix c
  obtain ⟨kq, nq, iq, rq, mq, lq, aq, cq, hv, _⟩ := lies_form hlx
  obtain ⟨rfl, rfl, rfl, rfl, rfl, rfl⟩ := hv
  have h62 := h6.keep (X := No) (Keep.of_below hb2) id
  obtain ⟨q0, q1⟩ := (hN.below hb2).at_
  obtain ⟨⟨x0, x1, x2, x3, x4, x5⟩, _⟩ := blk_facts hx1
  obtain ⟨g0, g1, g2, g3, g4, g5⟩ := h62
  have HB := Lib.hid (And.intro hb2 (And.intro hz (And.intro (hN.below hb2) (And.intro (hlx.below hb2) (And.intro h6 (And.intro hs2 hXb))))))
  have HG := Lib.hid (And.intro hg (And.intro hx (And.intro hB hNl)))
  have HX1 := Lib.hid hx1
  have hbN : b1 < N := by omega
  have hxi : (x : Int) ≤ 2000 := by omega
  have hil : (i : Int) < l.length := by omega
  rw [hw2] at q0 q1 g0 g1 g2 g3 g4 g5 x0 x1 x2 x3 x4 x5
  clear hf hr hN hb2 hz h6 hlx hix hx hg hs2 hx1 hXb hB
  go_enter Try.func39, Try.ntmps39
  go_upto_region 4 with fail
  rw [← hw2]
  rw [← hw2] at q0 q1 g0 g1 g2 g3 g4 g5 x0 x1 x2 x3 x4 x5
  clear hw2
  obtain ⟨z, hz0⟩ : ∃ z, z = size l[i] := ⟨_, rfl⟩
  have hzl : z ≤ 2000 := by
    have h := HG.out.1
    simp only [good, Bool.and_eq_true, decide_eq_true_eq] at h
    have := h.1.1; omega
  have HZ := Lib.hid hz0
  have rn := fun w (ht : Lies No w l[i] (.agg #[.int .i64 kq, .string nq, .int .i64 iq, .int .u64 rq, .int .u64 mq, .slice aq lq cq])) => Lib.hid (rnodes_good l[i] _ w ht HG.out.1)
  rw [← hz0] at rn
  have hl2 := Lib.hid ((HB.out.2.2.2.1.off (Y := No) fun _ _ h => h.elim).below (bdr w2))
  have HZ2 := Lib.hid hzl
  have hsum : IntKind.i64.wrap ((x : Int) + (z : Int)) = (x : Int) + (z : Int) := IntWalk.i64_in _ (by omega)
  clear hz0 hzl hxi x0 x1 x3 x4 x5
  go_region_law (first
    | (go_simp; go_at_call 49; refine (rn _ hl2.out).out.mono ?_; rintro e w3 ⟨rfl, hb3⟩; obtain ⟨p0, p1⟩ := ((HB.out.2.2.1.below (bdr w2)).below hb3).at_; have k3 : Below w2.heap.size w2 w3 := bt (bdr w2) hb3; have hs2 := HB.out.2.2.2.2.2.1; have hx3 := (k3.block w.heap.size (by omega)).trans HX1.out; have hz3 := (k3.block (w.heap.size + 1) (by omega)).trans HB.out.2.1; obtain ⟨⟨t0, t1, t2, t3, t4, t5⟩, _⟩ := blk_facts hx3; obtain ⟨⟨z0, z1, z2, z3, z4, z5⟩, y0, y1, y2, y3, y4, y5⟩ := blk_facts hz3; obtain ⟨m0, m1, m2, m3, m4, m5⟩ := (HB.out.2.2.2.2.1.keep (X := No) (Keep.of_below HB.out.1) id).keep (X := No) (Keep.of_below k3) id; have H3 := Lib.hid (And.intro k3 hz3); clear hb3 k3 hs2 hx3 hz3 t0 t1 t3 t4 t5; try dsimp only))
  all_goals
    go_wp2_with fail
    have hz4 : (w3.setCell ⟨N, 0, none⟩ (.int .i64 ((x : Int) + (z : Int)))).heap[w.heap.size + 1]? = some ZT := by
      rw [Below.heap_setCell _ _ _ _ (fun e => by have e' : w.heap.size + 1 = N := e; omega)]; exact H3.out.2
    obtain ⟨W, hW, e0, e1, e2, e3, e4, e5, k6⟩ := res_fin hz4 (.int .i64 kq) (.string nq) (.int .i64 iq) (.int .u64 rq) (.int .u64 mq) (.slice aq lq cq)
    rw [hW]
    have c3 : Cnt w3 N x := HB.out.2.2.1.below H3.out.1
    have c4 : Cnt (w3.setCell ⟨N, 0, none⟩ (.int .i64 ((x : Int) + (z : Int)))) N (x + z) := by have := c3.set_ (y := x + z); rw [Int.natCast_add] at this; exact this
    have kN : Keep (fun q => q = N) w3 (w3.setCell ⟨N, 0, none⟩ (.int .i64 ((x : Int) + (z : Int)))) := Keep.setCell (F := fun q => q = N) w3 rfl _
    have kb : Keep (fun q => q = N) w w3 := Keep.of_below (HB.out.1.trans (H3.out.1.mono HB.out.1.size))
    have k4 := (kb.trans kN (fun _ => Or.inl)).trans k6 (fun i h => by subst h; exact Or.inr (by omega))
    refine bodyPost_ret (v := .agg #[.int .i64 kq, .string nq, .int .i64 iq, .int .u64 rq, .int .u64 mq, .slice aq lq cq]) (by simp [results, Try.results39, go_sem, e0, e1, e2, e3, e4, e5]) rfl ⟨l[i], x + z, _, _, _, _, _, _, _, _, rfl, Or.inl ⟨rfl, by rw [HZ.out]⟩, by have := HZ2.out; have := HG.out.2.1; omega, k4, ?_, ?_⟩
    · exact (k6.block N (by have := HB.out.1.size; have := H3.out.1.size; simp [World.setCell]; omega) (by omega)).trans c4
    · have hl3 := (HB.out.2.2.2.1.below H3.out.1).off (Y := fun q => q = N ∨ q = w.heap.size + 1 ∨ (B0 ≤ q ∧ q < w.heap.size)) fun q _ h => by
        have := HG.out.2.2.1
        rcases h with h | h | h
        · subst h; exact this
        · show B0 ≤ q; omega
        · exact h.1
      exact Lies.keep (k6.mono (G := fun q => q = N ∨ q = w.heap.size + 1 ∨ (B0 ≤ q ∧ q < w.heap.size)) fun q h => Or.inr (Or.inl h)) (fun q _ h => Or.inr (Or.inr h)) _ _ (Lies.keep (kN.mono (G := fun q => q = N ∨ q = w.heap.size + 1 ∨ (B0 ≤ q ∧ q < w.heap.size)) fun q h => Or.inl h) (fun _ _ => id) _ _ hl3)
end Go.Proofs.Ytjgkgceigbimoaa.rmp
