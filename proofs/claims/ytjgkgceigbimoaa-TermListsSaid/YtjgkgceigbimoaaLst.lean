/- Package term: List, Items. -/
import Derived.Test.YtjgkgceigbimoaaOwn7
import Derived.Test.YtjgkgceigbimoaaPl
import Derived.Deep.LoopGhost
import Derived.StillTailTactics
namespace Go.Proofs.Ytjgkgceigbimoaa.lst
set_option linter.unusedVariables false
open Go.ChangeShapes Go.WideShapes Go.ChangeAt Go.RowKit
open Go.Proofs.Ytjgkgceigbimoaa.tm Go.Proofs.Ytjgkgceigbimoaa.lie Go.Proofs.Ytjgkgceigbimoaa.kp Go.Proofs.Ytjgkgceigbimoaa.cur Go.Proofs.Ytjgkgceigbimoaa.rws Go.Proofs.Ytjgkgceigbimoaa.pla Go.Proofs.Ytjgkgceigbimoaa.wlk Go.Proofs.Ytjgkgceigbimoaa.pln Go.Proofs.Ytjgkgceigbimoaa.ow6 Go.Proofs.Ytjgkgceigbimoaa.awk
abbrev DOT : ByteArray := ⟨#[46]⟩
abbrev NIL : ByteArray := ⟨#[91, 93]⟩
/-- the list of these items that ends in t -/
def lst : List Tm → Tm → Tm
  | [], t => t
  | x :: r, t => comp DOT [x, lst r t]
/-- a row of terms in a new block, each off X -/
theorem row_newX {X : Nat → Prop} (w : World) (cs : Array Value) (l : List Tm) (hX : ¬ X w.heap.size) (h : ∀ (m : Nat) (hm : m < l.length), ∃ v0 v1 v2 v3 v4 v5, cs[m * 6]? = some v0 ∧ cs[m * 6 + 1]? = some v1 ∧ cs[m * 6 + 2]? = some v2 ∧ cs[m * 6 + 3]? = some v3 ∧ cs[m * 6 + 4]? = some v4 ∧ cs[m * 6 + 5]? = some v5 ∧
    Lies X w l[m] (.agg #[v0, v1, v2, v3, v4, v5])) : TRow X (w.alloc (.cells cs 25)) l (some ⟨w.heap.size, 0, none⟩) 0 := by
  refine TRow.mk l 0 fun m hm => ?_
  obtain ⟨v0, v1, v2, v3, v4, v5, h0, h1, h2, h3, h4, h5, ht⟩ := h m hm
  have e := fun j x (hj : cs[j]? = some x) => alloc_cell w (.cells cs 25) cs 25 x j rfl hj
  refine ⟨w.heap.size, 0, v0, v1, v2, v3, v4, v5, rfl, hX, ?_, ht.below (ba w _)⟩
  simp only [Nat.zero_add]
  exact ⟨e _ _ h0, e _ _ h1, e _ _ h2, e _ _ h3, e _ _ h4, e _ _ h5⟩
/-- a struct stored over another, whole -/
theorem box_set {w : World} {b : Nat} {u0 u1 u2 u3 u4 u5 : Value} (hn : w.heap[b]? = some (.cells #[u0, u1, u2, u3, u4, u5] 25 (0, 0))) (v0 v1 v2 v3 v4 v5 : Value) :
    ∃ W, ((((((w.setCell ⟨b, 0, none⟩ v0).setCell ⟨b, 1, none⟩ v1).setCell ⟨b, 2, none⟩ v2).setCell ⟨b, 3, none⟩ v3).setCell ⟨b, 4, none⟩ v4).setCell ⟨b, 5, none⟩ v5) = W ∧ W.heap[b]? = some (.cells #[v0, v1, v2, v3, v4, v5] 25 (0, 0)) ∧ Keep (fun k => k = b) w W := by
  refine ⟨_, rfl, ?_, keep_set6 w b v0 v1 v2 v3 v4 v5⟩
  have e := fun (w : World) (i : Nat) (cs : Array Value) (v : Value) (hg : w.heap[b]? = some (.cells cs 25 (0, 0))) => heap_setCell_same w b i cs 25 v hg
  have := e _ 5 _ v5 (e _ 4 _ v4 (e _ 3 _ v3 (e _ 2 _ v2 (e _ 1 _ v1 (e w 0 _ v0 hn)))))
  simpa using this
theorem lst_drop {l : List Tm} {m : Nat} (h : m < l.length) (t : Tm) : lst (l.drop m) t = comp DOT [l[m], lst (l.drop (m + 1)) t] := by
  rw [List.drop_eq_getElem_cons h]; rfl
def LRel (b : Nat) (w1 : World) (l : List Tm) (tail : Tm) (g : Nat) (s6 : Value) (wr : World) : Prop :=
  ∃ (k : Nat) (j kq : Int) (nq : ByteArray) (iq rq mq : Int) (aq : Option Addr) (lq cq : Nat), k ≤ l.length ∧ g = k ∧ s6 = .int .i64 j ∧ j = (k : Int) - 1 ∧
    wr.heap[b]? = some (.cells #[.int .i64 kq, .string nq, .int .i64 iq, .int .u64 rq, .int .u64 mq, .slice aq lq cq] 25 (0, 0)) ∧
    Lies (fun q => q = b) wr (lst (l.drop k) tail) (.agg #[.int .i64 kq, .string nq, .int .i64 iq, .int .u64 rq, .int .u64 mq, .slice aq lq cq]) ∧ Below w1.heap.size w1 wr
set_option maxRecDepth 100000 in
set_option maxHeartbeats 1000000 in
theorem list_any (l : List Tm) (tail : Tm) (a : Option Addr) (c : Nat) (v : Value) (w : World) (hr : TRow No w l a 0) (ht : Lies No w tail v) (hl : l.length < 500) : Calls Try.prog 11 #[.slice a l.length c, v] w (Gives (Old w) (plainR (lst l tail)) w) := by
  obtain ⟨T, hT⟩ : ∃ T, T = tail := ⟨_, rfl⟩
  obtain ⟨k, n, i, re, im, tl⟩ := tail
  rw [← hT]
  have HT := Lib.hid (show Lies (fun q => w.heap.size ≤ q) w T v from hT ▸ (ht.off fun b h1 h2 => absurd h1 (by omega)))
  have HR := Lib.hid hr
  rw [Lies] at ht
  obtain ⟨at', ct, rfl, hf, hr'⟩ := ht
  clear hf hr' hr hT
  have hl9 : decide ((l.length : Int) ≥ 500) = false := by simp; omega
  obtain ⟨w1, hw1⟩ : ∃ w1, w1 = (w.alloc (.cells #[.int .i64 k, .string n, .int .i64 i, .int .u64 re, .int .u64 im, .slice at' tl.length ct] 25)).alloc ZT := ⟨_, rfl⟩
  have hb1 : Below w.heap.size w w1 := by rw [hw1]; exact bt (ba _ _) (ba _ _)
  have hs1 : w1.heap.size = w.heap.size + 1 + 1 := by rw [hw1, alloc_size, alloc_size]
  have hz1 : w1.heap[w.heap.size + 1]? = some ZT := by
    have := alloc_at (w.alloc (.cells #[.int .i64 k, .string n, .int .i64 i, .int .u64 re, .int .u64 im, .slice at' tl.length ct] 25)) ZT
    rw [alloc_size] at this
    rw [hw1]; exact this
  have HW1 := Lib.hid (And.intro hw1 (And.intro hb1 (And.intro hs1 hz1)))
  clear hw1 hb1 hs1 hz1
  go_enter Try.func11, Try.ntmps11
  go_wp2_with fail
  go_loopg [6] l.length (LRel (w.heap.size + 1 + 1) w1 l T)
  case atStart =>
    rw [← HW1.out.1]
    refine ⟨l.length, _, k, n, i, re, im, at', tl.length, ct, Nat.le_refl _, rfl, rfl, by omega, ?_, ?_, ba _ _⟩
    · have := alloc_at w1 (.cells #[.int .i64 k, .string n, .int .i64 i, .int .u64 re, .int .u64 im, .slice at' tl.length ct] 25)
      rw [HW1.out.2.2.1] at this
      exact this
    · rw [List.drop_length]
      exact ((HT.out.below HW1.out.2.1).below (ba _ _)).off fun q _ h => by subst h; omega
  case round =>
    obtain ⟨kk, j, kq, nq, iq, rq, mq, aq, lq, cq, hk, hgk, rfl, hj, hbox, hli, hb⟩ := hrel
    have hbw : Below w.heap.size w wr := HW1.out.2.1.trans (hb.mono HW1.out.2.1.size)
    cases kk with
    | zero =>
      have hj' : j = -1 := by omega
      subst hj'
      have hz := (hb.block _ (by rw [HW1.out.2.2.1]; omega)).trans HW1.out.2.2.2
      have HX := Lib.hid (And.intro hbox (And.intro hli (And.intro hbw (And.intro hz hb))))
      obtain ⟨⟨e0, e1, e2, e3, e4, e5⟩, _⟩ := blk_facts hbox
      clear hbox hli hbw hz hb hj
      go_wp2_with fail
      refine (plain_any _ _ _ (HX.out.2.1.off fun _ _ h => h.elim)).mono ?_
      rintro e w4 ⟨ka, na, ia, ra, ma, aa, la, ca, rfl, hb4, hq⟩
      have hlt1 : w.heap.size + 1 < wr.heap.size := (Array.getElem?_eq_some_iff.1 HX.out.2.2.2.1).1
      have hz4 := (hb4.block _ hlt1).trans HX.out.2.2.2.1
      have HQ := Lib.hid (And.intro hb4 (And.intro hq hz4))
      obtain ⟨⟨z0, z1, z2, z3, z4, z5⟩, y0, y1, y2, y3, y4, y5⟩ := blk_facts hz4
      clear hb4 hq hz4 e0 e1 e2 e3 e4 e5
      go_wp2_with fail
      obtain ⟨W, hW, e0, e1, e2, e3, e4, e5, k6⟩ := res_fin HQ.out.2.2 (.int .i64 ka) (.string na) (.int .i64 ia) (.int .u64 ra) (.int .u64 ma) (.slice aa la ca)
      rw [hW]
      have hs1 := HX.out.2.2.1.size
      have hs4 := HQ.out.1.size
      refine bodyPost_ret (v := .agg #[.int .i64 ka, .string na, .int .i64 ia, .int .u64 ra, .int .u64 ma, .slice aa la ca]) (by simp [results, Try.results11, go_sem, e0, e1, e2, e3, e4, e5]) rfl ⟨_, _, _, _, _, _, _, _, rfl, (HX.out.2.2.1.trans (HQ.out.1.mono hs1)).trans (k6.to_below (fun i h => by subst h; omega) (by omega)), ?_⟩
      exact Lies.keep (Y := Old w) (k6.mono (G := Old wr) fun i h => by subst h; exact hlt1) (fun b _ h => Nat.lt_of_lt_of_le h hs1) _ _ HQ.out.2.1
    | succ m =>
      have hj' : j = (m : Int) := by omega
      subst hj'
      have hlt : m < l.length := by omega
      obtain ⟨b1, o1, v0, v1, v2, v3, v4, v5, hbl, _, h6, hlx, hix⟩ := HR.out.look hlt
      have h6' := h6.keep (X := No) (Keep.of_below hbw) id
      have hix' := hix c
      have hbl := cell_lt h6.1
      obtain ⟨kp, np, ip, rp, mp, lp, ap, cp, hv, _⟩ := lies_form hlx
      obtain ⟨rfl, rfl, rfl, rfl, rfl, rfl⟩ := hv
      obtain ⟨e0, e1, e2, e3, e4, e5⟩ := h6'
      obtain ⟨⟨f0, f1, f2, f3, f4, f5⟩, _⟩ := blk_facts hbox
      have hlt5 : w.heap.size + 1 + 1 < wr.heap.size := (Array.getElem?_eq_some_iff.1 hbox).1
      obtain ⟨W2, hW2⟩ : ∃ W2, W2 = wr.drew.alloc (.cells #[.int .i64 kp, .string np, .int .i64 ip, .int .u64 rp, .int .u64 mp, .slice ap lp cp, .int .i64 kq, .string nq, .int .i64 iq, .int .u64 rq, .int .u64 mq, .slice aq lq cq] 25) := ⟨_, rfl⟩
      have hb2 : Below wr.heap.size wr W2 := by rw [hW2]; exact bt (bdr wr) (ba _ _)
      have hbox2 : W2.heap[w.heap.size + 1 + 1]? = _ := (hb2.block _ hlt5).trans hbox
      obtain ⟨⟨p0, p1, p2, p3, p4, p5⟩, y0, y1, y2, y3, y4, y5⟩ := blk_facts hbox2
      have hlo : Lies (fun q => q = w.heap.size + 1 + 1) w l[m] (.agg #[.int .i64 kp, .string np, .int .i64 ip, .int .u64 rp, .int .u64 mp, .slice ap lp cp]) := hlx.off fun b hb e => by subst e; omega
      have HX := Lib.hid (And.intro hbox (And.intro hli (And.intro hbw (And.intro (hlo.below hbw) hb))))
      clear hbox hli hbw h6 hlx hlo hix hb hj hbl hb2 hbox2
      rw [hW2] at p0 p1 p2 p3 p4 p5 y0 y1 y2 y3 y4 y5
      clear hW2
      go_wp2_with fail
      go_still_tail 5, (by kernel_rfl)
      change wpList _ _ _ _ _ wr.drew
      go_wp2_with fail
      obtain ⟨W, hW, hboxW, k6⟩ := box_set HX.out.1 (.int .i64 5) (.string DOT) (.int .i64 0) (.int .u64 0) (.int .u64 0) (.slice (some ⟨wr.heap.size, 0, none⟩) 2 2)
      have hsW : W.heap.size = wr.heap.size := by rw [← hW]; simp [World.setCell]
      rw [hW]
      go_roundg m
      case measure => omega
      case rel =>
        have hbW : Below W.heap.size W (W.alloc (.cells #[.int .i64 kp, .string np, .int .i64 ip, .int .u64 rp, .int .u64 mp, .slice ap lp cp, .int .i64 kq, .string nq, .int .i64 iq, .int .u64 rq, .int .u64 mq, .slice aq lq cq] 25)).drew := bt (ba W _) (bdr _)
        have hrow := row_newX (X := fun q => q = w.heap.size + 1 + 1) W #[.int .i64 kp, .string np, .int .i64 ip, .int .u64 rp, .int .u64 mp, .slice ap lp cp, .int .i64 kq, .string nq, .int .i64 iq, .int .u64 rq, .int .u64 mq, .slice aq lq cq] [l[m], lst (l.drop (m + 1)) T] (fun e => by omega) (fun q hq => by
          match q, hq with
          | 0, _ => exact ⟨_, _, _, _, _, _, rfl, rfl, rfl, rfl, rfl, rfl, Lies.keep k6 (fun _ _ => id) _ _ HX.out.2.2.2.1⟩
          | 1, _ => exact ⟨_, _, _, _, _, _, rfl, rfl, rfl, rfl, rfl, rfl, Lies.keep k6 (fun _ _ => id) _ _ HX.out.2.1⟩
          | q + 2, hq => exact absurd hq (by simp))
        rw [hsW] at hrow
        refine ⟨m, _, _, _, _, _, _, _, _, _, by omega, rfl, by go_num, rfl, (hbW.block _ (by rw [hsW]; exact hlt5)).trans hboxW, ?_, ?_⟩
        · rw [lst_drop hlt]
          exact comp_lies (n := DOT) (c := 2) (show (1 : Nat) ≤ 9223372036854775807 by omega) (by simp) (by simp [maxLen]) (hrow.below (bdr _))
        · exact (HX.out.2.2.2.2.trans (k6.to_below (fun i h => by subst h; have := HW1.out.2.2.1; omega) HX.out.2.2.2.2.size)).trans (hbW.mono (by have := HX.out.2.2.2.2.size; omega))
/-- what Items tells of a list -/
def Told (L : List Tm) (w : World) (e : Ending) (w' : World) : Prop := ∃ a c, e = .returned (.tuple #[.slice a L.length c, .bool true]) ∧ L.length ≤ c ∧ TRow No w' L a 0 ∧ Below w.heap.size w w'
def IRel (b B : Nat) (w : World) (L : List Tm) (g : Nat) (s4 : Value) (wr : World) : Prop :=
  ∃ (k : Nat) (kq : Int) (nq : ByteArray) (iq rq mq : Int) (aq : Option Addr) (lq cq : Nat), k ≤ L.length ∧ g = L.length - k ∧ XOwn (fun q => q = b) B (L.take k) s4 wr ∧
    wr.heap[b]? = some (.cells #[.int .i64 kq, .string nq, .int .i64 iq, .int .u64 rq, .int .u64 mq, .slice aq lq cq] 25 (0, 0)) ∧
    Lies (fun q => q = b ∨ B ≤ q) wr (lst (L.drop k) (atom NIL)) (.agg #[.int .i64 kq, .string nq, .int .i64 iq, .int .u64 rq, .int .u64 mq, .slice aq lq cq]) ∧ Below w.heap.size w wr ∧ B ≤ wr.heap.size
set_option maxRecDepth 100000 in
set_option maxHeartbeats 1000000 in
theorem items_lst (t : Tm) (L : List Tm) (v : Value) (w : World) (ht : Lies No w t v) (hp : plainR t = lst L (atom NIL)) (hL : L.length ≤ 2000) : Calls Try.prog 8 #[v] w (Told L w) := by
  obtain ⟨T, hT⟩ : ∃ T, T = t := ⟨_, rfl⟩
  have HT := Lib.hid (show Lies No w T v from hT ▸ ht)
  have HP := Lib.hid (show plainR T = lst L (atom NIL) from hT ▸ hp)
  obtain ⟨k, n, i, re, im, l⟩ := t
  rw [Lies] at ht
  obtain ⟨a, c, rfl, hf, hr⟩ := ht
  obtain ⟨ij, hi1, hi2, hi3, hi4⟩ := info_t
  have HI := Lib.hid (And.intro hi1 (And.intro hi2 (And.intro hi3 hi4)))
  clear hf hr hT hp hi1 hi2 hi3 hi4
  go_enter Try.func8, Try.ntmps8
  go_wp2_with fail
  refine (plain_any _ _ _ (HT.out.below (ba _ _))).mono ?_
  rintro e w2 ⟨ka, na, ia, ra, ma, aa, la, ca, rfl, hb2, hq⟩
  rw [HP.out] at hq
  have hs2 := hb2.size
  have hx2 := (hb2.block w.heap.size (by rw [alloc_size]; omega)).trans (alloc_at w _)
  have hlt2 := (Array.getElem?_eq_some_iff.1 hx2).1
  obtain ⟨⟨e0, e1, e2, e3, e4, e5⟩, y0, y1, y2, y3, y4, y5⟩ := blk_facts hx2
  have HB := Lib.hid (And.intro (bt (ba _ _) hb2) (And.intro hq hx2))
  clear hb2 hq hx2
  go_wp2_with fail
  obtain ⟨W, hW, hboxW, k6⟩ := box_set HB.out.2.2 (.int .i64 ka) (.string na) (.int .i64 ia) (.int .u64 ra) (.int .u64 ma) (.slice aa la ca)
  rw [hW]
  have HW := Lib.hid (And.intro hboxW k6)
  clear hW hboxW k6 e0 e1 e2 e3 e4 e5 y0 y1 y2 y3 y4 y5
  go_loopg [4] L.length (IRel w.heap.size w2.heap.size w L)
  case atStart =>
    refine ⟨0, ka, na, ia, ra, ma, aa, la, ca, by omega, by omega, XOwn.nil _ _ _, HW.out.1, ?_, HB.out.1.trans (HW.out.2.to_below (fun q h => by subst h; omega) HB.out.1.size), HW.out.2.size⟩
    have h0 : Lies (fun q => q = w.heap.size ∨ w2.heap.size ≤ q) w2 (lst L (atom NIL)) (.agg #[.int .i64 ka, .string na, .int .i64 ia, .int .u64 ra, .int .u64 ma, .slice aa la ca]) := HB.out.2.1.off fun q h1 h2 => by
      show q < (w.alloc _).heap.size
      rw [alloc_size]; omega
    exact Lies.keep (HW.out.2.mono (G := fun q => q = w.heap.size ∨ w2.heap.size ≤ q) fun q h => Or.inl h) (fun _ _ => id) _ _ h0
  case round =>
    obtain ⟨kk, kq, nq, iq, rq, mq, aq, lq, cq, hk, hgk, hown, hbox, hli, hb, hB⟩ := hrel
    by_cases hlt : kk < L.length
    · rw [lst_drop hlt, comp, Lies] at hli
      obtain ⟨a1, c1, hv, _, hrow⟩ := hli
      simp only [Value.agg.injEq, Array.mk.injEq, List.cons.injEq, Value.int.injEq, Value.string.injEq, Value.slice.injEq, and_true, true_and] at hv
      obtain ⟨rfl, rfl, rfl, rfl, rfl, rfl, rfl, rfl⟩ := hv
      obtain ⟨b1, o1, v0, v1, v2, v3, v4, v5, _, hx1, h6, hlx, hix⟩ := hrow.look (m := 0) (by simp)
      obtain ⟨b2, o2, u0, u1, u2, u3, u4, u5, _, hx2, h62, hlx2, hix2⟩ := hrow.look (m := 1) (by simp)
      have hix' := hix cq
      have hix2' := hix2 cq
      simp only [List.length_cons, List.length_nil, List.getElem_cons_zero, List.getElem_cons_succ, Int.natCast_zero, Int.natCast_one, Nat.zero_add, Nat.reduceAdd] at hix' hix2' hlx hlx2
      obtain ⟨kp, np, ip, rp, mp, lp, ap, cp, hv, _⟩ := lies_form hlx
      obtain ⟨rfl, rfl, rfl, rfl, rfl, rfl⟩ := hv
      obtain ⟨kz, nz, iz, rz, mz, lz, az, cz, hv, _⟩ := lies_form hlx2
      obtain ⟨rfl, rfl, rfl, rfl, rfl, rfl⟩ := hv
      obtain ⟨a3, c3, rfl, hl3, hc3, _⟩ := hown.row (Y := No) fun _ h => h.elim
      have hlen : (L.take kk).length = kk := by simp; omega
      rw [hlen] at hown hl3 ⊢
      obtain ⟨xs, ho, hx⟩ := hown.ex
      rw [hlen] at ho
      obtain ⟨⟨e0, e1, e2, e3, e4, e5⟩, y0, y1, y2, y3, y4, y5⟩ := blk_facts hbox
      obtain ⟨g0, g1, g2, g3, g4, g5⟩ := h6
      have h62' := h62.1
      obtain ⟨f0, f1, f2, f3, f4, f5⟩ := h62
      have HX := Lib.hid (And.intro hown (And.intro ho (And.intro hx (And.intro hbox (And.intro hlx (And.intro hlx2 (And.intro hb hB)))))))
      have hlt1 : w.heap.size < w2.heap.size := hlt2
      have hnb2 : b2 < w2.heap.size := by have : ¬ (b2 = w.heap.size ∨ w2.heap.size ≤ b2) := hx2; omega
      have hbl2 := cell_lt h62'
      clear hrow hx1 hx2 hix hix2 hlx hlx2 hown ho hx hbox hb hB hl3 hc3 hlen h62'
      go_wp2_with (at_builtin; refine wpList_append_lies _ rfl (.tmp 21) (.tmp 26) 22 rfl w2.heap.size 25 ij ZV 6 72 Try.underlying22 HI.out.1 HI.out.2.1 HI.out.2.2.1 HI.out.2.2.2 rfl (by decide) _ kk xs rfl (row6_keep HX.out.2.1 fun q e => (ba _ _).block q (HX.out.2.1.lt q e).2) ⟨wr.heap.size, 0, none⟩ 1 1 [.int .i64 kp, .string np, .int .i64 ip, .int .u64 rp, .int .u64 mp, .slice ap lp cp] rfl rfl (news6 _ _ _ _ _ _ _ _) ?ac1 (by omega) ?ac2 ?ac3 ?ac4 _ rfl ?_)
      case ac1 => intro u hu; simp only [List.mem_cons, List.not_mem_nil, or_false] at hu; rcases hu with rfl | rfl | rfl | rfl | rfl | rfl <;> rfl
      case ac2 => unfold maxLen; omega
      case ac3 => omega
      case ac4 => have := HX.out.2.2.2.2.2.2.2; rw [alloc_size]; omega
      intro g' c' w9 ho9 hg9 ha9 hl9
      have hlen : (L.take kk).length = kk := by simp; omega
      have hadd := XOwn.add (Z := fun q => q = w.heap.size) (t := L[kk]) HX.out.2.2.1 (by rw [hlen]; exact HX.out.2.1) (HX.out.2.2.2.2.1.off fun q hq e => by
        rcases e with e | e
        · exact Or.inl e
        · exact Or.inr (HX.out.2.1.lt q e).1) (by rw [hlen]; exact ho9) hg9 (ha9.imp id fun e => by omega)
      have hkp := hadd.2
      have hno : ∀ q, q < w2.heap.size → ¬ (Value.slice a3 kk c3).ownBlock = some q := fun q hq e => by have := (HX.out.2.1.lt q e).1; omega
      have hB9 := HX.out.2.2.2.2.2.2.2
      have hbox9 := (hkp.block w.heap.size (by omega) (hno _ hlt1)).trans HX.out.2.2.2.1
      have q0 := (hkp.cell (o := o2) hbl2 (hno _ hnb2)).trans f0
      have q1 := (hkp.cell (o := o2 + 1) hbl2 (hno _ hnb2)).trans f1
      have q2 := (hkp.cell (o := o2 + 2) hbl2 (hno _ hnb2)).trans f2
      have q3 := (hkp.cell (o := o2 + 3) hbl2 (hno _ hnb2)).trans f3
      have q4 := (hkp.cell (o := o2 + 4) hbl2 (hno _ hnb2)).trans f4
      have q5 := (hkp.cell (o := o2 + 5) hbl2 (hno _ hnb2)).trans f5
      rw [List.length_append, hlen, List.length_singleton, ← List.take_succ_eq_append_getElem hlt] at hadd
      have H9 := Lib.hid (And.intro hadd.1 (And.intro hbox9 hkp))
      obtain ⟨⟨_, _, _, _, _, z5⟩, y0, y1, y2, y3, y4, y5⟩ := blk_facts hbox9
      obtain ⟨⟨z0, z1, z2, z3, z4, z5⟩, _⟩ := blk_facts hbox9
      clear ho9 hg9 ha9 hl9 hadd hkp hno hbox9 e0 e1 e2 e3 e4 e5 f0 f1 f2 f3 f4 f5 g0 g1 g2 g3 g4 g5
      go_wp2_with fail
      obtain ⟨W9, hW9, hboxW, k6⟩ := box_set H9.out.2.1 (.int .i64 kz) (.string nz) (.int .i64 iz) (.int .u64 rz) (.int .u64 mz) (.slice az lz cz)
      rw [hW9]
      go_roundg (L.length - (kk + 1))
      case measure => omega
      case rel =>
        have hs9 := H9.out.2.2.size
        have hB9 := HX.out.2.2.2.2.2.2.2
        refine ⟨kk + 1, kz, nz, iz, rz, mz, az, lz, cz, hlt, rfl, H9.out.1.keep k6 (fun q h => ⟨h, by subst h; exact hlt1⟩), hboxW, ?_, ?_, ?_⟩
        · exact Lies.keep (k6.mono (G := fun q => q = w.heap.size ∨ w2.heap.size ≤ q) fun q h => Or.inl h) (fun _ _ => id) _ _ (Lies.keep (H9.out.2.2.mono (G := fun q => q = w.heap.size ∨ w2.heap.size ≤ q) fun q h => Or.inr (HX.out.2.1.lt q h).1) (fun _ _ => id) _ _ HX.out.2.2.2.2.2.1)
        · exact (HX.out.2.2.2.2.2.2.1.trans (H9.out.2.2.to_below (fun q h => by have := (HX.out.2.1.lt q h).1; omega) (by omega))).trans (k6.to_below (fun q h => by subst h; omega) (by omega))
        · have := k6.size; omega
    · have hkv : kk = L.length := by omega
      subst hkv
      rw [List.drop_length, lst, atom, Lies] at hli
      obtain ⟨a1, c1, hv, _⟩ := hli
      simp only [Value.agg.injEq, Array.mk.injEq, List.cons.injEq, Value.int.injEq, Value.string.injEq, Value.slice.injEq, and_true, true_and] at hv
      obtain ⟨rfl, rfl, rfl, rfl, rfl, rfl, rfl, rfl⟩ := hv
      rw [List.take_length] at hown
      obtain ⟨a3, c3, rfl, h1, h2, hrow⟩ := hown.row (Y := No) fun _ h => h.elim
      obtain ⟨⟨e0, e1, e2, e3, e4, e5⟩, _⟩ := blk_facts hbox
      have HX := Lib.hid (And.intro h1 (And.intro hrow hb))
      clear hown hbox hb hB h1 h2 hrow hgk hk
      go_wp2_with fail
      go_ret2
      exact ⟨a3, c3, rfl, HX.out⟩
end Go.Proofs.Ytjgkgceigbimoaa.lst
