/- The reference's trail in memory (one slice of writes), and its calls: the same answers as package trail's. -/
import Derived.Test.YtbonlmekphkahaaTrail
import Derived.Test.YtbonlmekphkahaaRHeap
import Derived.Deep.AppendLies
import Derived.Deep.RegionLaw
namespace Go.Proofs.Ytbonlmekphkahaa.hp
open Go.ChangeShapes Go.WideShapes Go.ChangeAt Go.RowKit Go.Maps
open Go.Proofs.Ytbonlmekphkahaa.kp Go.Proofs.Ytbonlmekphkahaa.cel
set_option linter.unusedVariables false
abbrev TRt : TypeId := 32
def wc (L : List Wr) : List Value := L.flatMap fun x => [.int .i64 x.1, .int .u64 x.2]
theorem wc_cons (x : Wr) (L : List Wr) : wc (x :: L) = .int .i64 x.1 :: .int .u64 x.2 :: wc L := rfl
theorem wc_len (L : List Wr) : (wc L).length = L.length * 2 := by
  induction L with
  | nil => rfl
  | cons x L ih => rw [wc_cons]; simp only [List.length_cons, ih]; omega
theorem wc_add (L : List Wr) (x : Wr) : wc (L ++ [x]) = wc L ++ [.int .i64 x.1, .int .u64 x.2] := by unfold wc; rw [List.flatMap_append]; rfl
theorem wc_at (L : List Wr) (k : Nat) (hk : k < L.length) : (wc L)[k * 2]? = some (.int .i64 (L.getD k wr0).1) ∧ (wc L)[k * 2 + 1]? = some (.int .u64 (L.getD k wr0).2) := by
  induction L generalizing k with
  | nil => simp at hk
  | cons x L ih =>
    rw [wc_cons]
    rcases k with _ | k
    · exact ⟨rfl, rfl⟩
    · have := ih k (by simpa using hk)
      rw [show (k + 1) * 2 = k * 2 + 1 + 1 by omega]
      exact this
theorem wc_take (L : List Wr) (k : Nat) : (wc L).take (k * 2) = wc (L.take k) := by
  induction L generalizing k with
  | nil => simp [wc]
  | cons x L ih =>
    rcases k with _ | k
    · rfl
    · rw [show (k + 1) * 2 = k * 2 + 1 + 1 by omega, wc_cons, List.take_succ_cons, List.take_succ_cons, ih]; rfl
/-- The reference's trail at block q. -/
def TR : Tk := fun w q G L => ∃ v, w.heap[q]? = some (.cells #[v] TRt (0, 0)) ∧ w.ownsRow 0 70 2 v L.length (wc L) ∧ v.ownBlock ≠ some q ∧ ∀ k, G k ↔ k = q ∨ v.ownBlock = some k
section
variable {w w' : World} {q : Nat} {G G' : Nat → Prop} {L L' : List Wr}
theorem TR.lt (h : TR w q G L) : ∀ k, G k → k < w.heap.size := by
  obtain ⟨v, hq, hv, _, hG⟩ := h
  intro k hk
  rcases (hG k).1 hk with rfl | e
  · exact (Array.getElem?_eq_some_iff.1 hq).1
  · exact (hv.lt k e).2
theorem TR.keep {F : Nat → Prop} (h : TR w q G L) (hk : Keep F w w') (hd : ∀ k, G k → ¬ F k) : TR w' q G L := by
  have hlt := TR.lt h
  obtain ⟨v, hq, hv, h1, hG⟩ := h
  have hb : ∀ k, G k → w'.heap[k]? = w.heap[k]? := fun k f => hk.block k (hlt k f) (hd k f)
  exact ⟨v, (hb q ((hG q).2 (Or.inl rfl))).trans hq, row_keep hv fun k e => hb k ((hG k).2 (Or.inr e)), h1, hG⟩
theorem frmR : Frm TR := ⟨fun h => TR.lt h, fun h k d => TR.keep h k d⟩
theorem TR.below (h : TR w q G L) (hb : Below w.heap.size w w') : TR w' q G L := TR.keep h (F := fun _ => False) (Keep.of_below hb) (fun _ _ => id)
theorem TR.drewN (h : TR w q G L) (n : Nat) : TR (w.drewN n) q G L := TR.below h (drewN_below w n)
theorem TR.mine (h : TR w q G L) : G q := by obtain ⟨v, hq, hv, h1, hG⟩ := h; exact (hG q).2 (Or.inl rfl)
theorem one_cell {a : Value} {t : TypeId} (h : w.heap[q]? = some (.cells #[a] t (0, 0))) : w.cell? ⟨q, 0, none⟩ = some a ∧ w.frozen? ⟨q, 0, none⟩ = false := by
  refine ⟨?_, ?_⟩ <;> simp [World.cell?, World.frozen?, h]
theorem TR.open_ (h : TR w q G L) : ∃ a c, w.cell? ⟨q, 0, none⟩ = some (.slice a L.length c) ∧ w.frozen? ⟨q, 0, none⟩ = false ∧ L.length ≤ c ∧ w.ownsRow 0 70 2 (.slice a L.length c) L.length (wc L) ∧
    (Value.slice a L.length c).ownBlock ≠ some q ∧ (∀ k, G k ↔ k = q ∨ (Value.slice a L.length c).ownBlock = some k) := by
  obtain ⟨v, hq, hv, h1, hG⟩ := h
  obtain ⟨a, c, rfl⟩ := kp.shape hv
  obtain ⟨c0, f0⟩ := one_cell hq
  have hc : L.length ≤ c := by
    rcases hv.2 with ⟨e, e0⟩ | ⟨g, cap, cur, e, _, _, hc, _⟩
    · omega
    · injection e with _ _ e; omega
  exact ⟨a, c, c0, f0, hc, hv, h1, hG⟩
theorem TR.at_ (h : TR w q G L) (k : Nat) (hk : k < L.length) : ∃ g c, w.cell? ⟨q, 0, none⟩ = some (.slice (some ⟨g, 0, none⟩) L.length c) ∧ L.length ≤ c ∧
    w.cell? ⟨g, k * 2, none⟩ = some (.int .i64 (L.getD k wr0).1) ∧ w.cell? ⟨g, k * 2 + 1, none⟩ = some (.int .u64 (L.getD k wr0).2) := by
  obtain ⟨a, c, c0, f0, hc, hv, _⟩ := TR.open_ h
  rcases hv.2 with ⟨_, e0⟩ | ⟨g, cap, cur, ev, _, hg, _, _⟩
  · omega
  injection ev with ea _ _
  subst ea
  obtain ⟨x0, x1⟩ := wc_at L k hk
  have hb : k * 2 + 1 < L.length * 2 := by omega
  refine ⟨g, c, c0, hc, ?_, ?_⟩
  · rw [hv.cellAt (k * 2) (by omega), x0]
  · rw [hv.cellAt (k * 2 + 1) (by omega), x1]
/-- a write pushed: behind the append (w2), and the store of the slice -/
theorem TR.push {w1 w2 : World} {v v' : Value} {x : Wr} (h : TR w q G L) (hv : w.cell? ⟨q, 0, none⟩ = some v) (b1 : Below w.heap.size w w1)
    (hr' : w2.ownsRow 0 70 2 v' (L.length + 1) (wc L ++ [.int .i64 x.1, .int .u64 x.2])) (g2 : w1.grownBy w2 v.ownBlock) (hat : v'.ownBlock = v.ownBlock ∨ v'.ownBlock = some w1.heap.size) :
    ∃ G', TR (w2.setCell ⟨q, 0, none⟩ v') q G' (L ++ [x]) ∧ Keep G w (w2.setCell ⟨q, 0, none⟩ v') ∧ ∀ k, G' k → G k ∨ w.heap.size ≤ k := by
  have hlt := TR.lt h
  obtain ⟨v0, hq, h0, h1, hG⟩ := h
  obtain ⟨c0, _⟩ := one_cell hq
  rw [hv] at c0
  obtain rfl : v = v0 := by injection c0
  have s1 := b1.size
  have s2 := g2.size
  have hqq := hlt q ((hG q).2 (Or.inl rfl))
  have q2 : w2.heap[q]? = some (.cells #[v] TRt (0, 0)) := (g2.block q (by omega) (fun e => h1 e.symm)).trans ((b1.block q hqq).trans hq)
  have hne : v'.ownBlock ≠ some q := by
    rcases hat with e | e
    · rw [e]; exact h1
    · rw [e]; intro e'; injection e' with e'; omega
  refine ⟨fun k => k = q ∨ v'.ownBlock = some k, ⟨v', ?_, ?_, hne, fun _ => Iff.rfl⟩, ?_, ?_⟩
  · simp only [World.setCell, Array.getElem?_modify, q2]; simp
  · rw [List.length_append, wc_add]
    exact ownsRow_setCell_other hr' hne _
  · refine ((Keep.of_below (F := G) b1).trans (Keep.of_grown (F := G) g2 (fun k e => (hG k).2 (Or.inr e))) (fun _ => Or.inl)).trans (Keep.setCell (F := G) w2 (p := ⟨q, 0, none⟩) ((hG q).2 (Or.inl rfl)) v') (fun _ => Or.inl)
  · rintro k (rfl | e)
    · exact Or.inl ((hG _).2 (Or.inl rfl))
    · rcases hat with e' | e'
      · exact Or.inl ((hG k).2 (Or.inr (e' ▸ e)))
      · rw [e'] at e; injection e with e; exact Or.inr (by omega)
/-- writes cut off -/
theorem TR.cut (h : TR w q G L) {k : Nat} (hk : k ≤ L.length) {a : Option Addr} {c : Nat} (ha : w.cell? ⟨q, 0, none⟩ = some (.slice a L.length c)) :
    ∃ G', TR (w.setCell ⟨q, 0, none⟩ (.slice a k c)) q G' (L.take k) ∧ Keep G w (w.setCell ⟨q, 0, none⟩ (.slice a k c)) ∧ ∀ i, G' i → G i ∨ w.heap.size ≤ i := by
  obtain ⟨v, hq, hv, h1, hG⟩ := h
  obtain ⟨c0, _⟩ := one_cell hq
  rw [ha] at c0
  obtain rfl : Value.slice a L.length c = v := by injection c0
  have l1 : (L.take k).length = k := by simp; omega
  have e1 : (Value.slice a k c).ownBlock = (Value.slice a L.length c).ownBlock := by cases a <;> rfl
  have o1 := own_cut hv hk
  rw [wc_take] at o1
  refine ⟨G, ⟨.slice a k c, ?_, ?_, by rw [e1]; exact h1, by rw [e1]; exact hG⟩, Keep.setCell w ((hG q).2 (Or.inl rfl)) _, fun _ => Or.inl⟩
  · simp [World.setCell, Array.getElem?_modify, hq]
  · rw [l1]; exact ownsRow_setCell_other o1 (by rw [e1]; exact h1) _
/-- a new trail -/
theorem TR.made (w : World) : TR (w.alloc (.cells #[.slice none 0 0] TRt)) w.heap.size (fun k => k = w.heap.size) [] :=
  ⟨.slice none 0 0, alloc_at _ _, World.ownsRow_nil _ _ _ _, by simp [Value.ownBlock], fun k => by simp [Value.ownBlock]⟩
end
theorem infoW : (Try.prog.info? 70).map (fun i => (i.zero, i.size, i.bytes)) = some (some (.agg #[.int .i64 0, .int .u64 0]), 2, 16) := by kernel_rfl
theorem slw_rule {a : Option Addr} {n c i : Nat} (hi : i ≤ c) (wx : World) : (Instr.slice 30 (.slice a n c) none (some (.int .i64 (i : Int))) none).run Try.prog wx = .ok (.slice a i c) wx := by
  have he : Try.prog.elem 30 = 70 := by kernel_rfl
  have hs : (sizeOf 70).run Try.prog wx = .ok 2 wx := by kernel_rfl
  rw [run_slice_h _ _ _ _ _ (by rw [he]; exact Try.underlying30) _ _ (by omega) (by omega), he, hs]
  cases a with
  | none => simp [Result.andThen, sliced]
  | some p => simp [Result.andThen, sliced, Addr.add]
theorem slwAt_rule {a : Option Addr} {n c i : Nat} (hi : i ≤ c) (wx : World) : (Instr.sliceAt 30 (.slice a n c) none (some (.int .i64 (i : Int))) none).run Try.prog wx = .ok (.slice a i c) wx := by
  have he : Try.prog.elem 30 = 70 := by kernel_rfl
  rw [run_sliceAt_slice _ _ _ _ _ _ (by rw [he]; exact Try.underlying30), slw_rule hi]
section
variable {w : World} {p q : Nat} {K : Nat → Prop} {l : List Int} {m : Int} {L : List Wr}
set_option maxHeartbeats 1000000 in
theorem rset_any (h : Sys RH TR w p q K l m L) (hL : L.length < 1099511627776) (n u : Int) (hu : W64 u) :
    Calls Try.prog 12 #[.pointer (some ⟨q, 0, none⟩), .pointer (some ⟨p, 0, none⟩), .int .i64 n, .int .u64 u] w fun e w' => e = .returned (.bool (gb l n)) ∧ SN RH TR w p q K (sx l n u) m (tx l L n) w' := by
  obtain ⟨⟨F, G, a, b, c, d⟩, g⟩ := h
  have hle := a.len_le
  by_cases h0 : gb l n = true
  · have hn0 := of_decide_eq_true h0
    obtain ⟨k, rfl⟩ := Int.eq_ofNat_of_zero_le hn0.1
    have hk : k < l.length := by omega
    have e1 := Lib.hid (show tx l L k = L ++ [((k : Int), gv l k)] by unfold tx; rw [if_pos h0])
    have e2 := Lib.hid (show sx l k u = l.set k u by unfold sx; rw [if_pos hn0]; simp)
    have e3 : gv l k = l.getD k 0 := by unfold gv; rw [if_pos hn0]; simp
    have hgd := Lib.hid (g.tx (l := l) hle a.wf k)
    obtain ⟨gh, ch, x0, x1, x2, x3, x4, x5, x6, x7, x8, x9⟩ := a.at_ k hk
    rw [← e3] at x6
    have hxw := gv_w a.wf k
    generalize hx : gv l k = x at *
    obtain ⟨ta, tc, y0, y1, y2, y3, y4, y5⟩ := TR.open_ b
    have hql := TR.lt b q (TR.mine b)
    obtain ⟨i0, hi, hz0, hz1, hz2⟩ := info_parts infoW
    have HI := Lib.hid (And.intro hi (And.intro hz0 (And.intro hz1 hz2)))
    have HA := Lib.hid (And.intro a (And.intro b (And.intro c d)))
    have HO := Lib.hid (And.intro y3 y4)
    have HU := Lib.hid hu
    have HX := Lib.hid (And.intro x4 x5)
    rw [h0]
    have hn1 : ((k : Int) < (l.length : Int)) := by omega
    clear a b c d g hu hxw y3 y4 y5 hi hz0 hz1 hz2 h0 hn0 e3 x2 x3 x4 x8 x9 x7
    go_enter Try.func12, Try.ntmps12
    go_wp2_with fail
    go_region_law (refine step_append_lies _ rfl (.tmp 24) (.tmp 34) 30 rfl 0 70 i0 (.agg #[.int .i64 0, .int .u64 0]) 2 16 Try.underlying30 HI.out.1 HI.out.2.1 HI.out.2.2.1 HI.out.2.2.2 rfl (by decide) (.slice ta L.length tc) L.length (wc L) rfl (HO.out.1.alloc (.cells #[.int .i64 k, .int .u64 x] 70)).drew ⟨w.heap.size, 0, none⟩ 1 1 [.int .i64 k, .int .u64 x] rfl rfl (World.news_of_block (w := (w.alloc (.cells #[.int .i64 k, .int .u64 x] 70)).drew) (alloc_at w (.cells #[.int .i64 k, .int .u64 x] 70))) (by intro z hz; simp at hz; rcases hz with rfl | rfl <;> rfl) (by omega) (by unfold maxLen; omega) (by omega) (by omega) _ rfl ?_; intro g' cap' w4 ho4 hg4 ha4 hl4; have hne : some q ≠ (Value.slice ta L.length tc).ownBlock := fun e => HO.out.2 e.symm; have z1 : w4.cell? ⟨q, 0, none⟩ = some (.slice ta L.length tc) := (hg4.cell_far ⟨q, 0, none⟩ (by simp; omega) hne).trans ((World.cell?_alloc_past _ _ _ hql).trans y0); have z2 : w4.frozen? ⟨q, 0, none⟩ = false := (hg4.frozen_far ⟨q, 0, none⟩ (by simp; omega) hne).trans ((World.frozen?_alloc_past _ _ _ hql).trans y1))
    all_goals
      obtain ⟨w5, hw5⟩ : ∃ w5, w5 = w4.setCell ⟨q, 0, none⟩ (.slice (some ⟨g', 0, none⟩) (L.length + 1) cap') := ⟨_, rfl⟩
      have N := TR.push (x := ((k : Int), x)) HA.out.2.1 y0 (b1 := ((ba w (.cells #[.int .i64 k, .int .u64 x] 70)).drew)) ho4 hg4 (ha4.elim (fun e => Or.inl e.symm) (fun e => Or.inr (by rw [e]; rfl)))
      rw [← hw5] at N ⊢
      rw [← e1.out] at N
      clear hw5 ho4 hg4 ha4 hl4 z1 z2 hne x0 x1 x6 y0 y1 y2 x5
      obtain ⟨G2, t2, k2, s2⟩ := N
      have N3 := SN.trail (T := RH) (Tr := TR) HA.out.1 HA.out.2.2.1 HA.out.2.2.2 hgd.out t2 k2 s2
      clear t2 k2 s2 HA hgd
      obtain ⟨K3, ⟨⟨F3, G3, a3, b3, cc3, d3⟩, g3⟩, k3, s3⟩ := N3
      obtain ⟨gh, ch, x0, x1, x2, x3, x4, x5, x6, x7, x8, x9⟩ := a3.at_ k hk
      have FIN := Lib.hid (SN.trans k3 s3 (SN.heap frmR a3 b3 cc3 d3 g3 (Next.set_ a3 hk x0 u HU.out)))
      generalize l.getD k 0 = old at *
      clear a3 b3 cc3 d3 g3 k3 s3 x8 x9 x2 x3 x4
      go_wp2_with fail
      go_ret
      exact ⟨rfl, by rw [e2.out]; exact FIN.out⟩
  · have hs := Lib.hid (show sx l n u = l by unfold sx; rw [if_neg (fun hh => h0 (decide_eq_true hh))])
    have ht := Lib.hid (show tx l L n = L by unfold tx; rw [if_neg h0])
    simp only [Bool.not_eq_true] at h0
    have hn := of_decide_eq_false h0
    have N := Lib.hid (SN.same (T := RH) (Tr := TR) ⟨⟨F, G, a, b, c, d⟩, g⟩)
    obtain ⟨xa, xc, x0, x1, x2, x3, x4⟩ := a.open_
    rw [h0]
    clear a b c d g hu h0
    rcases (show n < 0 ∨ (0 ≤ n ∧ (l.length : Int) ≤ n) by omega) with h1 | ⟨h1, h2⟩
    · clear hn
      go_enter Try.func12, Try.ntmps12
      go_wp2_with fail
      go_ret
      exact ⟨rfl, by rw [hs.out, ht.out]; exact N.out⟩
    · clear hn
      go_enter Try.func12, Try.ntmps12
      go_wp2_with fail
      go_ret
      exact ⟨rfl, by rw [hs.out, ht.out]; exact N.out⟩
end
end Go.Proofs.Ytbonlmekphkahaa.hp
