/- The reference's mapped: leaves. -/
import Derived.Test.YtjgkgceigbimoaaRMpB
namespace Go.Proofs.Ytjgkgceigbimoaa.rmp
set_option linter.unusedVariables false
open Go.ChangeShapes Go.WideShapes Go.ChangeAt Go.RowKit
open Go.Proofs.Ytjgkgceigbimoaa.tm Go.Proofs.Ytjgkgceigbimoaa.lie Go.Proofs.Ytjgkgceigbimoaa.kp Go.Proofs.Ytjgkgceigbimoaa.cur Go.Proofs.Ytjgkgceigbimoaa.pln Go.Proofs.Ytjgkgceigbimoaa.pla Go.Proofs.Ytjgkgceigbimoaa.wlk Go.Proofs.Ytjgkgceigbimoaa.ow6 Go.Proofs.Ytjgkgceigbimoaa.rws Go.Proofs.Ytjgkgceigbimoaa.rsm Go.Proofs.Ytjgkgceigbimoaa.rpl Go.Proofs.Ytjgkgceigbimoaa.ren Go.Proofs.Ytjgkgceigbimoaa.vrs Go.Proofs.Ytjgkgceigbimoaa.awk Go.Proofs.Ytjgkgceigbimoaa.sme Go.Proofs.Ytjgkgceigbimoaa.nmd Go.Proofs.Ytjgkgceigbimoaa.app Go.Proofs.Ytjgkgceigbimoaa.rmy
theorem plainOne_any (k : Int) (n : ByteArray) (i re im : Int) (l : List Tm) (a : Option Addr) (c : Nat) (w : World) (hf : Fit k n i re im l.length c) (hk : k = 1 ∨ k = 2 ∨ k = 3 ∨ k = 4) (hs : sound (.mk k n i re im l) = true) :
    Calls Try.prog 50 #[.agg #[.int .i64 k, .string n, .int .i64 i, .int .u64 re, .int .u64 im, .slice a l.length c]] w (Gives (Old w) (plain (.mk k n i re im l)) w) := by
  have hs0 : sound (.mk k n i re im []) = true := by
    have h5 : k ≠ 5 := by omega
    have hc := sound_chk hs
    simp only [sound, Bool.and_eq_true, decide_eq_true_eq, if_neg h5, and_true]
    simp only [chk] at hc ⊢
    rcases hk with rfl | rfl | rfl | rfl
    · simpa using hc
    · simpa using hc
    · simp
    · simp
  have hp : plain (.mk k n i re im l) = plain (.mk k n i re im []) := by
    rcases hk with rfl | rfl | rfl | rfl <;> simp [plain, sub]
  have hl : ∀ W, Lies No W (.mk k n i re im []) (.agg #[.int .i64 k, .string n, .int .i64 i, .int .u64 re, .int .u64 im, .slice none 0 0]) := fun W => by
    rw [Lies]
    exact ⟨none, 0, rfl, ⟨hf.k0, hf.k1, hf.n1, hf.i0, hf.i1, hf.r0, hf.r1, hf.m0, hf.m1, by simp, by simp⟩, by rw [TRow]; trivial⟩
  rw [hp]
  have HS := Lib.hid (And.intro hs0 hl)
  clear hs hs0 hp hl hk hf
  go_enter Try.func50, Try.ntmps50
  go_wp2_with fail
  refine (rplain_any _ _ _ (HS.out.2 _) HS.out.1).mono ?_
  rintro e w1 ⟨kq, nq, iq, req, imq, aq, lq, cq, rfl, hb, hq⟩
  obtain ⟨_, hz, hlt, hb0⟩ := two_at hb
  have HB := Lib.hid (And.intro hb0 (And.intro hz hq))
  obtain ⟨⟨z0, z1, z2, z3, z4, z5⟩, y0, y1, y2, y3, y4, y5⟩ := blk_facts hz
  clear hb hz hb0 hq
  go_wp2_with fail
  obtain ⟨W, hW, e0, e1, e2, e3, e4, e5, k6⟩ := res_fin HB.out.2.1 (.int .i64 kq) (.string nq) (.int .i64 iq) (.int .u64 req) (.int .u64 imq) (.slice aq lq cq)
  rw [hW]
  refine bodyPost_ret (v := .agg #[.int .i64 kq, .string nq, .int .i64 iq, .int .u64 req, .int .u64 imq, .slice aq lq cq]) (by simp [results, Try.results50, go_sem, e0, e1, e2, e3, e4, e5]) rfl ⟨_, _, _, _, _, _, _, _, rfl, HB.out.1.trans (k6.to_below (fun i h => by subst h; omega) (by omega)), ?_⟩
  refine Lies.keep (X := fun q => q < w.heap.size + 1 + 1) (Y := Old w) (k6.mono fun i h => by subst h; omega) (fun b _ h => by have : b < w.heap.size := h; omega) _ _ (HB.out.2.2.off fun q _ h => ?_)
  show q < _
  simp only [alloc_size]
  exact h
/-- a node that is neither a compound nor a variable that stands for a term -/
theorem mapped_leaf (B0 N : Nat) (k : Int) (n : ByteArray) (i re im : Int) (tl : List Tm) (at' : Option Addr) (ct : Nat) (a : Option Addr) (len c : Nat) (w : World) (x : Nat) (hf : Fit k n i re im tl.length ct) (hs : sound (.mk k n i re im tl) = true) (hk : (k = 1 ∧ (len : Int) ≤ i) ∨ k = 2 ∨ k = 3 ∨ k = 4) (hN : Cnt w N x) (hx : x ≤ 2000) :
    Calls Try.prog 39 #[.agg #[.int .i64 k, .string n, .int .i64 i, .int .u64 re, .int .u64 im, .slice at' tl.length ct], .slice a len c, .pointer (some ⟨N, 0, none⟩)] w (MGives B0 N w (plain (.mk k n i re im tl)) x) := by
  have hNl : N < w.heap.size := (Array.getElem?_eq_some_iff.1 hN).1
  obtain ⟨w2, hw2⟩ : ∃ w2, w2 = (w.alloc (.cells #[.int .i64 k, .string n, .int .i64 i, .int .u64 re, .int .u64 im, .slice at' tl.length ct] 25)).alloc ZT := ⟨_, rfl⟩
  have hb2 : Below w.heap.size w w2 := by rw [hw2]; exact bt (ba _ _) (ba _ _)
  have hs2 : w2.heap.size = w.heap.size + 1 + 1 := by rw [hw2, alloc_size, alloc_size]
  have hz : w2.heap[w.heap.size + 1]? = some ZT := by
    have := alloc_at (w.alloc (.cells #[.int .i64 k, .string n, .int .i64 i, .int .u64 re, .int .u64 im, .slice at' tl.length ct] 25)) ZT
    rw [alloc_size] at this
    rw [hw2]; exact this
  have hx1 : w2.heap[w.heap.size]? = some (.cells #[.int .i64 k, .string n, .int .i64 i, .int .u64 re, .int .u64 im, .slice at' tl.length ct] 25 (0, 0)) := by
    rw [hw2, (ba _ _).block _ (by rw [alloc_size]; omega)]; exact alloc_at _ _
  have c2 := hN.below hb2
  have c3 : Cnt (w2.setCell ⟨N, 0, none⟩ (.int .i64 ((x : Int) + 1))) N (x + 1) := by have := c2.set_ (y := x + 1); rw [Int.natCast_add] at this; exact this
  have kN : Keep (fun q => q = N) w2 (w2.setCell ⟨N, 0, none⟩ (.int .i64 ((x : Int) + 1))) := Keep.setCell (F := fun q => q = N) w2 rfl _
  obtain ⟨q0, q1⟩ := c2.at_
  obtain ⟨⟨x0, x1, x2, x3, x4, x5⟩, _⟩ := blk_facts hx1
  have hk3 : k = 1 ∨ k = 2 ∨ k = 3 ∨ k = 4 := by omega
  have HP := Lib.hid (fun w => plainOne_any k n i re im tl at' ct w hf hk3 hs)
  have HB := Lib.hid (And.intro hb2 (And.intro hz (And.intro hx1 (And.intro c3 (And.intro kN (And.intro hs2 hx))))))
  have hsz : size (plain (.mk k n i re im tl)) = 1 := by rcases hk3 with rfl | rfl | rfl | rfl <;> simp [plain, sub, size, var]
  have hkd : (plain (.mk k n i re im tl)).kind = k := plain_kind _
  have HK := Lib.hid (And.intro hsz hkd)
  have hxi : (x : Int) ≤ 2000 := by omega
  have q5 : (k == 5) = false := by rw [beq_eq_false_iff_ne]; omega
  rw [hw2] at q0 q1 x0 x1 x2 x3 x4 x5
  clear hf hN hb2 hz hs hx hs2 hx1 c2 c3 kN hk3 hsz hkd
  rcases hk with ⟨rfl, hik⟩ | hk
  case' inl =>
    have d1 : decide (i < (len : Int)) = false := by simpa using hik
    clear hik
  case' inr =>
    have q6 : (k == 1) = false := by rw [beq_eq_false_iff_ne]; omega
    clear hk
  all_goals
    go_enter Try.func39, Try.ntmps39
    go_upto_region 6 with fail
    rw [← hw2]
    rw [← hw2] at q0 q1 x0 x1 x2 x3 x4 x5
    clear hw2
    go_wp2_with fail
    obtain ⟨w3, hw3⟩ : ∃ w3, w3 = w2.setCell ⟨N, 0, none⟩ (.int .i64 ((x : Int) + 1)) := ⟨_, rfl⟩
    have c3 : Cnt w3 N (x + 1) := by rw [hw3]; exact HB.out.2.2.2.1
    have kN : Keep (fun q => q = N) w2 w3 := by rw [hw3]; exact HB.out.2.2.2.2.1
    rw [← hw3]
    clear hw3
    refine (HP.out _).mono ?_
    rintro e w4 ⟨kq, nq, iq, req, imq, aq, lq, cq, rfl, hb4, hq⟩
    obtain ⟨w5, hw5⟩ : ∃ w5, w5 = w4.alloc (.cells #[.int .i64 kq, .string nq, .int .i64 iq, .int .u64 req, .int .u64 imq, .slice aq lq cq] 25) := ⟨_, rfl⟩
    have hb5 : Below w4.heap.size w4 w5 := by rw [hw5]; exact ba _ _
    have hat5 : w5.heap[w4.heap.size]? = some (.cells #[.int .i64 kq, .string nq, .int .i64 iq, .int .u64 req, .int .u64 imq, .slice aq lq cq] 25 (0, 0)) := by rw [hw5]; exact alloc_at _ _
    have s2 := HB.out.2.2.2.2.2.1
    have s3 := kN.size
    have s4 := hb4.size
    have h35 : Below w3.heap.size w3 w5 := hb4.trans (hb5.mono s4)
    have hz5 := (h35.block (w.heap.size + 1) (by omega)).trans ((kN.block (w.heap.size + 1) (by omega) (by omega)).trans HB.out.2.1)
    have hx5 := (h35.block w.heap.size (by omega)).trans ((kN.block w.heap.size (by omega) (by omega)).trans HB.out.2.2.1)
    have hx4 := (hb4.block w.heap.size (by omega)).trans ((kN.block w.heap.size (by omega) (by omega)).trans HB.out.2.2.1)
    obtain ⟨⟨p0, p1, p2, p3, p4, p5⟩, _⟩ := blk_facts hx5
    obtain ⟨⟨r0, r1, r2, r3, r4, r5⟩, _⟩ := blk_facts hat5
    obtain ⟨⟨z0, z1, z2, z3, z4, z5⟩, y0, y1, y2, y3, y4, y5⟩ := blk_facts hz5
    obtain ⟨⟨x0, x1, x2, x3, x4, x5⟩, _⟩ := blk_facts hx4
    have HQ := Lib.hid (And.intro (hq.below hb5) (And.intro hz5 (And.intro (c3.below h35) (And.intro h35 (And.intro kN (And.intro s2 s3))))))
    clear hb4 hb5 hq hat5 hz5 hx5 hx4 h35 kN c3 s2 s3 s4
    go_upto_region 8 with fail
    rw [← hw5]
    clear hw5
    go_wp2_with fail
    obtain ⟨W, hW, e0, e1, e2, e3, e4, e5, k6⟩ := res_fin HQ.out.2.1 (.int .i64 kq) (.string nq) (.int .i64 iq) (.int .u64 req) (.int .u64 imq) (.slice aq lq cq)
    rw [hW]
    have kk : Keep (fun q => q = N) w w5 := ((Keep.of_below (F := fun q => q = N) HB.out.1).trans HQ.out.2.2.2.2.1 (fun _ => Or.inl)).trans (Keep.of_below (F := fun q => q = N) HQ.out.2.2.2.1) (fun _ => Or.inl)
    have k7 := kk.trans k6 (fun i h => by subst h; exact Or.inr (by omega))
    have s5 := HQ.out.2.2.2.1.size
    have s3 := HQ.out.2.2.2.2.2.2
    have s2 := HQ.out.2.2.2.2.2.1
    refine bodyPost_ret (v := .agg #[.int .i64 kq, .string nq, .int .i64 iq, .int .u64 req, .int .u64 imq, .slice aq lq cq]) (by simp [results, Try.results39, go_sem, e0, e1, e2, e3, e4, e5]) rfl ⟨_, x + 1, _, _, _, _, _, _, _, _, rfl, Or.inl ⟨rfl, by rw [HK.out.1]⟩, by have := HB.out.2.2.2.2.2.2; omega, k7, (k6.block N (by omega) (by omega)).trans HQ.out.2.2.1, ?_⟩
    have hl5 := HQ.out.1.off (Y := fun q => q = w.heap.size + 1 ∨ (B0 ≤ q ∧ q < w.heap.size)) fun q _ h => by
      show q < w3.heap.size
      rcases h with h | h
      · omega
      · omega
    exact Lies.keep (k6.mono (G := fun q => q = w.heap.size + 1 ∨ (B0 ≤ q ∧ q < w.heap.size)) fun q h => Or.inl h) (fun q _ h => Or.inr h) _ _ hl5
end Go.Proofs.Ytjgkgceigbimoaa.rmp
