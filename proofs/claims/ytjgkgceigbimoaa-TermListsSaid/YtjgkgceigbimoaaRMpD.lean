/- The reference's mapped, whole. -/
import Derived.Test.YtjgkgceigbimoaaRMpC
namespace Go.Proofs.Ytjgkgceigbimoaa.rmp
set_option linter.unusedVariables false
open Go.ChangeShapes Go.WideShapes Go.ChangeAt Go.RowKit
open Go.Proofs.Ytjgkgceigbimoaa.tm Go.Proofs.Ytjgkgceigbimoaa.lie Go.Proofs.Ytjgkgceigbimoaa.kp Go.Proofs.Ytjgkgceigbimoaa.cur Go.Proofs.Ytjgkgceigbimoaa.pln Go.Proofs.Ytjgkgceigbimoaa.pla Go.Proofs.Ytjgkgceigbimoaa.wlk Go.Proofs.Ytjgkgceigbimoaa.ow6 Go.Proofs.Ytjgkgceigbimoaa.rws Go.Proofs.Ytjgkgceigbimoaa.rsm Go.Proofs.Ytjgkgceigbimoaa.rpl Go.Proofs.Ytjgkgceigbimoaa.ren Go.Proofs.Ytjgkgceigbimoaa.vrs Go.Proofs.Ytjgkgceigbimoaa.awk Go.Proofs.Ytjgkgceigbimoaa.sme Go.Proofs.Ytjgkgceigbimoaa.nmd Go.Proofs.Ytjgkgceigbimoaa.app Go.Proofs.Ytjgkgceigbimoaa.rmy
def MRel (N B0 b : Nat) (n : ByteArray) (s : Int → Tm) (l : List Tm) (w : World) (x : Nat) (g : Nat) (s54 : Value) (wr : World) : Prop :=
  ∃ (kk : Nat) (sv : Value) (Ms : List Tm) (xk : Nat), kk ≤ l.length ∧ g = l.length - kk ∧ s54 = .int .i64 kk ∧ Ms.length = kk ∧ OutL ((l.take kk).map (sub s)) Ms (x + 1) xk ∧ xk ≤ 4000 ∧ Cnt wr N xk ∧ GrowK N B0 b 5 n Ms sv w wr
theorem sub_one {s : Int → Tm} {k : Int} {n : ByteArray} {i re im : Int} {l : List Tm} (h1 : k ≠ 1) (h5 : k ≠ 5) : sub s (.mk k n i re im l) = plain (.mk k n i re im l) := by
  simp [plain, sub, h1, h5]
set_option linter.unusedSimpArgs false in
set_option maxRecDepth 100000 in
set_option maxHeartbeats 4000000 in
theorem mapped_any (B0 N : Nat) (ol : List Tm) (ao : Option Addr) (co : Nat) (hB : B0 ≤ N) (t : Tm) : ∀ (v : Value) (w : World) (x : Nat), Lies (fun q => B0 ≤ q) w t v → TRow (fun q => B0 ≤ q) w ol ao 0 → Cnt w N x → x ≤ 4000 → sound t = true → (∀ n ∈ occ t, ∀ h : n.toNat < ol.length, good ol[n.toNat] = true) →
    Calls Try.prog 39 #[v, .slice ao ol.length co, .pointer (some ⟨N, 0, none⟩)] w (MGives B0 N w (sub (aps ol) t) x) := by
  induction t using Tm.ind with
  | h k n i re im l ih =>
    intro v w x ht hor hN hx4 hs hgo
    by_cases hx : 2000 < x
    · exact mapped_over B0 N _ _ v ao ol.length co w x (ht.off fun _ _ h => h.elim) hN hx hx4
    have hx2 : x ≤ 2000 := by omega
    have hNl : N < w.heap.size := (Array.getElem?_eq_some_iff.1 hN).1
    have hck := sound_chk hs
    have hc := Go.Proofs.Ytjgkgceigbimoaa.tm.chk_kind hck
    simp only [Tm.kind] at hc
    rw [Lies] at ht
    obtain ⟨a, c, rfl, hf, hr⟩ := ht
    by_cases h5 : k = 5
    · subst h5
      have hsub : sub (aps ol) (.mk 5 n i re im l) = comp n (l.map (sub (aps ol))) := by simp [sub, subL_map, comp]
      have hargs := sound_args hs rfl
      have hocc : ∀ y ∈ l, ∀ m ∈ occ y, ∀ h : m.toNat < ol.length, good ol[m.toNat] = true := fun y hy m hm h => hgo m (occ_mem5 hy hm) h
      have hl20 : l.length ≤ 20 := by simp only [chk] at hck; simp at hck; omega
      rw [hsub]
      obtain ⟨w2, hw2⟩ : ∃ w2, w2 = (w.alloc (.cells #[.int .i64 5, .string n, .int .i64 i, .int .u64 re, .int .u64 im, .slice a l.length c] 25)).alloc ZT := ⟨_, rfl⟩
      have hb2 : Below w.heap.size w w2 := by rw [hw2]; exact bt (ba _ _) (ba _ _)
      have hs2 : w2.heap.size = w.heap.size + 1 + 1 := by rw [hw2, alloc_size, alloc_size]
      have hz : w2.heap[w.heap.size + 1]? = some ZT := by
        have := alloc_at (w.alloc (.cells #[.int .i64 5, .string n, .int .i64 i, .int .u64 re, .int .u64 im, .slice a l.length c] 25)) ZT
        rw [alloc_size] at this
        rw [hw2]; exact this
      have hx1 : w2.heap[w.heap.size]? = some (.cells #[.int .i64 5, .string n, .int .i64 i, .int .u64 re, .int .u64 im, .slice a l.length c] 25 (0, 0)) := by
        rw [hw2, (ba _ _).block _ (by rw [alloc_size]; omega)]; exact alloc_at _ _
      have c2 := hN.below hb2
      have c3 : Cnt (w2.setCell ⟨N, 0, none⟩ (.int .i64 ((x : Int) + 1))) N (x + 1) := by have := c2.set_ (y := x + 1); rw [Int.natCast_add] at this; exact this
      have kN : Keep (fun q => q = N) w2 (w2.setCell ⟨N, 0, none⟩ (.int .i64 ((x : Int) + 1))) := Keep.setCell (F := fun q => q = N) w2 rfl _
      obtain ⟨q0, q1⟩ := c2.at_
      obtain ⟨⟨x0, x1, x2, x3, x4, x5⟩, _⟩ := blk_facts hx1
      obtain ⟨ij, hi1, hi2, hi3, hi4⟩ := info_t
      have HI := Lib.hid (And.intro hi1 (And.intro hi2 (And.intro hi3 hi4)))
      have HB := Lib.hid (And.intro hb2 (And.intro hz (And.intro hx1 (And.intro c3 (And.intro kN (And.intro hs2 hx2))))))
      have HR := Lib.hid (And.intro hf (And.intro hr (And.intro hor (And.intro hargs (And.intro hocc ih)))))
      have HBN := Lib.hid hB
      have hxi : (x : Int) ≤ 2000 := by omega
      clear hf hN hb2 hz hs hx hs2 hx1 c2 c3 kN hr hor hargs hocc ih hsub hgo hck hc hx2 hx4 hB hi1 hi2 hi3 hi4
      rw [hw2] at q0 q1 x0 x1 x2 x3 x4 x5
      go_enter Try.func39, Try.ntmps39
      go_upto_region 6 with fail
      rw [← hw2]
      rw [← hw2] at q0 q1 x0 x1 x2 x3 x4 x5
      clear hw2
      go_wp2_with fail
      obtain ⟨w3, hw3⟩ : ∃ w3, w3 = w2.setCell ⟨N, 0, none⟩ (.int .i64 ((x : Int) + 1)) := ⟨_, rfl⟩
      have c3 : Cnt w3 N (x + 1) := by rw [hw3]; exact HB.out.2.2.2.1
      have kN : Keep (fun q => q = N) w2 w3 := by rw [hw3]; exact HB.out.2.2.2.2.1
      rw [← hw3]
      clear hw3
      refine (plainOne_5 _ _ _ _ _ _ _ _ HR.out.1.n1).mono ?_
      rintro e w4 ⟨rfl, hb4⟩
      obtain ⟨w5, hw5⟩ : ∃ w5, w5 = w4.alloc (.cells #[.int .i64 5, .string n, .int .i64 0, .int .u64 0, .int .u64 0, .slice none 0 0] 25) := ⟨_, rfl⟩
      have hb5 : Below w4.heap.size w4 w5 := by rw [hw5]; exact ba _ _
      have hat5 : w5.heap[w4.heap.size]? = some (.cells #[.int .i64 5, .string n, .int .i64 0, .int .u64 0, .int .u64 0, .slice none 0 0] 25 (0, 0)) := by rw [hw5]; exact alloc_at _ _
      have s2 := HB.out.2.2.2.2.2.1
      have s3 := kN.size
      have s4 := hb4.size
      have h35 : Below w3.heap.size w3 w5 := hb4.trans (hb5.mono s4)
      have hz5 := (h35.block (w.heap.size + 1) (by omega)).trans ((kN.block (w.heap.size + 1) (by omega) (by omega)).trans HB.out.2.1)
      have hx5 := (h35.block w.heap.size (by omega)).trans ((kN.block w.heap.size (by omega) (by omega)).trans HB.out.2.2.1)
      have hx4 := (hb4.block w.heap.size (by omega)).trans ((kN.block w.heap.size (by omega) (by omega)).trans HB.out.2.2.1)
      obtain ⟨⟨p0, p1, p2, p3, p4, p5⟩, _⟩ := blk_facts hx5
      obtain ⟨⟨x0, x1, x2, x3, x4, x5⟩, _⟩ := blk_facts hx4
      have k04 : Keep (fun q => q = N) w w4 := ((Keep.of_below (F := fun q => q = N) HB.out.1).trans kN (fun _ => Or.inl)).trans (Keep.of_below (F := fun q => q = N) hb4) (fun _ => Or.inl)
      have hz4 := (hb4.block (w.heap.size + 1) (by omega)).trans ((kN.block (w.heap.size + 1) (by omega) (by omega)).trans HB.out.2.1)
      have hgr : GrowK N B0 w4.heap.size 5 n [] (.slice none 0 0) w4 w5 := ⟨XOwn.nil _ _ _, hat5, Keep.of_below hb5, Nat.le_refl _, by omega, HBN.out⟩
      have hwb : w.heap.size + 1 < w4.heap.size := by omega
      have HQ := Lib.hid (And.intro hgr (And.intro (c3.below h35) (And.intro hz4 k04)))
      clear hb4 hb5 hat5 hz5 hx5 hx4 h35 kN c3 s2 s3 s4 k04 hz4 hgr
      go_upto_region 8 with fail
      rw [← hw5]
      clear hw5
      go_wp2_with fail
      go_loopg [54] l.length (MRel N B0 w4.heap.size n (aps ol) l w4 x)
      case atStart => exact ⟨0, _, [], x + 1, by omega, by omega, rfl, rfl, by simpa using OutL.nil _, by have := HB.out.2.2.2.2.2.2; omega, HQ.out.2.1, HQ.out.1⟩
      case round =>
        obtain ⟨kk, s, Ms, xk, hk, rfl, rfl, hml, hout, hxk, hcn, hg⟩ := hrel
        by_cases hlt : kk < l.length
        · obtain ⟨b, o, v0, v1, v2, v3, v4, v5, hbl, hXb, h6, hlx, hix⟩ := HR.out.2.1.look hlt
          have hbN : ¬ b = N := fun e => by subst e; exact hXb HBN.out
          have hkw := HQ.out.2.2.2.trans hg.kp (fun _ => Or.inl)
          have h6' := h6.keep (X := fun q => q = N) hkw hbN
          have hix' := hix c
          obtain ⟨kq, nq, iq, req, imq, lq, aq, cq, hv, _⟩ := lies_form hlx
          obtain ⟨rfl, rfl, rfl, rfl, rfl, rfl⟩ := hv
          obtain ⟨e0, e1, e2, e3, e4, e5⟩ := h6'
          have hmem := List.getElem_mem hlt
          have hkp' := hkw.mono (G := fun q => B0 ≤ q) fun q e => by subst e; exact HBN.out
          have hbd := bt (ba wr (.cells #[.int .i64 kq, .string nq, .int .i64 iq, .int .u64 req, .int .u64 imq, .slice aq lq cq] 25)) (bdr _)
          have hlw : Lies (fun q => B0 ≤ q) wr l[kk] (.agg #[.int .i64 kq, .string nq, .int .i64 iq, .int .u64 req, .int .u64 imq, .slice aq lq cq]) := Lies.keep hkp' (fun _ _ => id) _ _ hlx
          have horw : TRow (fun q => B0 ≤ q) wr ol ao 0 := TRow.keep hkp' (fun _ _ => id) ol 0 HR.out.2.2.1
          have HX := Lib.hid (And.intro hlw (And.intro horw (And.intro hg (And.intro (HR.out.2.2.2.2.2 _ hmem) (And.intro (HR.out.2.2.2.1 _ hmem) (And.intro (HR.out.2.2.2.2.1 _ hmem) (And.intro hcn (And.intro hxk (And.intro hout hml)))))))))
          clear h6 hlx hix hlw horw hkp' hg hcn hxk hout hml hXb hbN hkw
          go_wp2_with fail
          have hg0 := HX.out.2.2.1.below hbd
          have hw0 : (wr.alloc (.cells #[.int .i64 kq, .string nq, .int .i64 iq, .int .u64 req, .int .u64 imq, .slice aq lq cq] 25)).drew.heap[wr.heap.size]? = some (.cells #[.int .i64 kq, .string nq, .int .i64 iq, .int .u64 req, .int .u64 imq, .slice aq lq cq] 25 (0, 0)) := alloc_at wr _
          have HG := Lib.hid (And.intro hg0 (And.intro hw0 (And.intro (HX.out.1.below hbd) (And.intro (HX.out.2.1.below hbd) (HX.out.2.2.2.2.2.2.1.below hbd)))))
          obtain ⟨⟨x0, x1, x2, x3, x4, x5⟩, _⟩ := blk_facts hw0
          obtain ⟨⟨_, _, _, _, _, y5⟩, _⟩ := blk_facts hg0.box
          clear hg0 hw0 hbd e0 e1 e2 e3 e4 e5
          go_region_law (first
            | (go_simp; go_at_call 39; refine (HX.out.2.2.2.1 _ _ xk ?_ ?_ ?_ ?_ ?_ ?_).mono ?_; exact HG.out.2.2.1; exact HG.out.2.2.2.1; exact HG.out.2.2.2.2; exact HX.out.2.2.2.2.2.2.2.1; exact HX.out.2.2.2.2.1; exact HX.out.2.2.2.2.2.1; rintro e w3 ⟨M, xm, ka, na, ia, ra, ma, aa, la, cc, rfl, hom, hxm, hk3, hc3, hq⟩; have HP := Lib.hid (HG.out.1.pre (br _) hk3 hq); have HM := Lib.hid (And.intro hom (And.intro hxm hc3)); obtain ⟨⟨_, _, _, _, _, y5⟩, _⟩ := blk_facts HP.out.1.box; obtain ⟨⟨_, _, _, _, _, y6⟩, _⟩ := blk_facts (HP.out.1.below (ba w3 (.cells #[.int .i64 ka, .string na, .int .i64 ia, .int .u64 ra, .int .u64 ma, .slice aa la cc] 25))).box; obtain ⟨xs, ho, hx⟩ := HP.out.1.own.ex; have HO := Lib.hid (And.intro ho hx); have hml := Lib.hid HX.out.2.2.2.2.2.2.2.2.2; clear hk3 hq ho hx hom hxm hc3; try dsimp only)
            | (refine step_append_lies _ rfl (.tmp 59) (.tmp 64) 22 rfl (w4.heap.size + 1) 25 ij ZV 6 72 Try.underlying22 HI.out.1 HI.out.2.1 HI.out.2.2.1 HI.out.2.2.2 rfl (by decide) s Ms.length xs (by simp [Act.eval, Act.put]) (row6_keep HO.out.1 fun q e => (ba _ _).block q (HO.out.1.lt q e).2) ⟨w3.heap.size, 0, none⟩ 1 1 [.int .i64 ka, .string na, .int .i64 ia, .int .u64 ra, .int .u64 ma, .slice aa la cc] (by simp [Act.eval, Act.put]) rfl (news6 _ _ _ _ _ _ _ _) (by intro u hu; simp only [List.mem_cons, List.not_mem_nil, or_false] at hu; rcases hu with rfl | rfl | rfl | rfl | rfl | rfl <;> rfl) (by omega) (by unfold maxLen; have := hml.out; omega) (by have := hml.out; omega) (by rw [alloc_size]; have := HP.out.1.lt; omega) _ rfl ?_; intro g' c' w9 ho9 hg9 ha9 hl9; have HF := Lib.hid (HP.out.1.post HO.out.2 HO.out.1 HP.out.2 ho9 hg9 ha9); obtain ⟨z1, z2⟩ := HF.out.1; clear ho9 hg9 ha9 hl9))
          all_goals
            go_wp2_with fail
            go_roundg (l.length - (kk + 1))
            case measure => omega
            case rel =>
              have hgr := HF.out.2.1
              have hcn : Cnt (w9.setCell ⟨w4.heap.size, 5, none⟩ (.slice (some ⟨g', 0, none⟩) (Ms.length + 1) c')) N xm := by
                unfold Cnt
                rw [Below.heap_setCell _ _ _ _ (fun e => by have e' : N = w4.heap.size := e; omega), HF.out.2.2]
                exact HM.out.2.2
              have ho := OutL.snoc HX.out.2.2.2.2.2.2.2.2.1 HM.out.1
              rw [map_next hlt] at ho
              exact ⟨kk + 1, _, Ms ++ [M], xm, hlt, rfl, by go_num, by rw [List.length_append, hml.out]; rfl, ho, HM.out.2.1, hcn, hgr⟩
        · have hkv : kk = l.length := by omega
          subst hkv
          obtain ⟨a2, c2, rfl, hll⟩ := hg.lies HR.out.1.n1
          rw [List.take_length] at hout
          rw [hml] at hll hg
          clear hml
          have hz := (hg.kp.block (w.heap.size + 1) hwb (by omega)).trans HQ.out.2.2.1
          obtain ⟨⟨e0, e1, e2, e3, e4, e5⟩, _⟩ := blk_facts hg.box
          obtain ⟨⟨z0, z1, z2, z3, z4, z5⟩, y0, y1, y2, y3, y4, y5⟩ := blk_facts hz
          have HZ := Lib.hid (And.intro hz (And.intro hll (And.intro hg (And.intro hout (And.intro hxk hcn)))))
          clear hz hll hg hout hxk hcn
          go_wp2_with fail
          obtain ⟨W, hW, e0, e1, e2, e3, e4, e5, k6⟩ := res_fin HZ.out.1 (.int .i64 5) (.string n) (.int .i64 0) (.int .u64 0) (.int .u64 0) (.slice a2 l.length c2)
          rw [hW]
          have hwr := HZ.out.2.2.1.kp.size
          have hk7 := (HQ.out.2.2.2.trans HZ.out.2.2.1.kp (fun _ => Or.inl)).trans k6 (fun i h => by subst h; exact Or.inr (by omega))
          refine bodyPost_ret (v := .agg #[.int .i64 5, .string n, .int .i64 0, .int .u64 0, .int .u64 0, .slice a2 l.length c2]) (by simp [results, Try.results39, go_sem, e0, e1, e2, e3, e4, e5]) rfl ⟨_, xk, _, _, _, _, _, _, _, _, rfl, OutM.comp_ HZ.out.2.2.2.1, HZ.out.2.2.2.2.1, hk7, ?_, ?_⟩
          · exact (k6.block N (by omega) (by omega)).trans HZ.out.2.2.2.2.2
          · exact Lies.keep (X := Zb B0 w4.heap.size) (Y := fun q => B0 ≤ q ∧ q < w.heap.size) (k6.mono fun q h => by subst h; have := HBN.out; exact ⟨by omega, by omega⟩) (fun q _ h => ⟨h.1, by have := h.2; omega⟩) _ _ HZ.out.2.1
    · by_cases h1 : k = 1
      · subst h1
        have hi0 : 0 ≤ i := by simp only [chk] at hck; simp at hck; omega
        obtain ⟨m, rfl⟩ := Int.eq_ofNat_of_zero_le hi0
        by_cases hm : m < ol.length
        · have e : sub (aps ol) (.mk 1 n (m : Int) re im l) = ol[m] := by simp [sub, aps, hm]
          rw [e]
          refine mapped_var B0 N ol m n re im l a c ao co w x hm hf hor hN hB hx2 ?_
          exact hgo m (by simp [occ]) (by simpa using hm)
        · have e : sub (aps ol) (.mk 1 n (m : Int) re im l) = plain (.mk 1 n (m : Int) re im l) := by simp [sub, aps, hm, plain]
          rw [e]
          exact mapped_leaf B0 N 1 n m re im l a c ao ol.length co w x hf hs (Or.inl ⟨rfl, by omega⟩) hN hx2
      · rw [sub_one h1 h5]
        exact mapped_leaf B0 N k n i re im l a c ao ol.length co w x hf hs (by omega) hN hx2
end Go.Proofs.Ytjgkgceigbimoaa.rmp
