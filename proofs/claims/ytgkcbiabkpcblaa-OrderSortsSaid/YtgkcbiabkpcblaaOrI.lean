/- Package order: plain, Sort. -/
import Derived.Test.YtgkcbiabkpcblaaOrH
namespace Go.Proofs.Ytgkcbiabkpcblaa.odi
open Go.ChangeShapes Go.WideShapes Go.ChangeAt Go.RowKit
set_option linter.unusedVariables false
open Go.Proofs.Ytgkcbiabkpcblaa.tm Go.Proofs.Ytgkcbiabkpcblaa.lie Go.Proofs.Ytgkcbiabkpcblaa.kp Go.Proofs.Ytgkcbiabkpcblaa.cur Go.Proofs.Ytgkcbiabkpcblaa.rws Go.Proofs.Ytgkcbiabkpcblaa.pla Go.Proofs.Ytgkcbiabkpcblaa.lev Go.Proofs.Ytgkcbiabkpcblaa.pln Go.Proofs.Ytgkcbiabkpcblaa.ow6 Go.Proofs.Ytgkcbiabkpcblaa.mes Go.Proofs.Ytgkcbiabkpcblaa.odm Go.Proofs.Ytgkcbiabkpcblaa.odb Go.Proofs.Ytgkcbiabkpcblaa.odc Go.Proofs.Ytgkcbiabkpcblaa.ods Go.Proofs.Ytgkcbiabkpcblaa.ode Go.Proofs.Ytgkcbiabkpcblaa.odf Go.Proofs.Ytgkcbiabkpcblaa.odg Go.Proofs.Ytgkcbiabkpcblaa.odh
theorem rb_look {X : Nat → Prop} {W w : World} {P : Nat} {a : Option Addr} {c : Nat} {A : List E} {sp : List Value} (h : RB X W P a c A sp w) {m : Nat} (hm : m < A.length) :
    ∃ k n ii re im al l cl t, A[m] = ⟨.int .i64 k, .string n, .int .i64 ii, .int .u64 re, .int .u64 im, .slice al l cl, t⟩ ∧ Six w P (m * 6) (.int .i64 k) (.string n) (.int .i64 ii) (.int .u64 re) (.int .u64 im) (.slice al l cl) ∧
      Lies X w t (.agg #[.int .i64 k, .string n, .int .i64 ii, .int .u64 re, .int .u64 im, .slice al l cl]) ∧ (∀ o, w.frozen? ⟨P, o, none⟩ = false) ∧ (∀ w', (Instr.indexAt 23 (.slice a (A.length : Nat) c) (.int .i64 (m : Int))).run Try.prog w' = .ok (.pointer (some ⟨P, m * 6, none⟩)) w') := by
  have hb := (h.blk (by omega)).1
  obtain ⟨h6, hf⟩ := blk_six hb hm
  have hl := h.ls _ (List.getElem_mem hm)
  obtain ⟨x, hx⟩ : ∃ x, x = A[m] := ⟨_, rfl⟩
  rw [← hx] at h6 hl ⊢
  obtain ⟨v0, v1, v2, v3, v4, v5, t⟩ := x
  obtain ⟨k, n, ii, re, im, l, al, cl, ⟨rfl, rfl, rfl, rfl, rfl, rfl⟩, _⟩ := lies_form hl
  exact ⟨k, n, ii, re, im, al, l, cl, t, rfl, h6, hl, hf, fun w' => by have := h.win.ix hm w'; rwa [Nat.zero_add] at this⟩
theorem rb_set {X : Nat → Prop} {W w : World} {P : Nat} {a : Option Addr} {c : Nat} {A : List E} {sp : List Value} (h : RB X W P a c A sp w) (hX : X P) {m : Nat} (hm : m < A.length) (e : E) (he : Lies X w e.t e.v) :
    RB X W P a c (A.set m e) sp (set6 w P (m * 6) e.v0 e.v1 e.v2 e.v3 e.v4 e.v5) := by
  have k6 := set6_keep w P (m * 6) e.v0 e.v1 e.v2 e.v3 e.v4 e.v5
  have kO := k6.mono (G := X) fun k q => by subst q; exact hX
  have lk : ∀ x : E, Lies X w x.t x.v → Lies X (set6 w P (m * 6) e.v0 e.v1 e.v2 e.v3 e.v4 e.v5) x.t x.v := fun x hx => Lies.keep kO (fun _ _ => id) _ _ hx
  have hb := h.blk (by omega)
  refine ⟨by rw [List.length_set]; exact h.win, fun _ => ⟨?_, hb.2⟩, ?_, h.bel.trans (k6.to_below (fun k q => by subst q; exact hb.2) h.bel.size)⟩
  · rw [set6_heap hb.1, flat_set hm]
  · intro x hx
    rcases List.mem_or_eq_of_mem_set hx with q | q
    · exact lk x (h.ls x q)
    · subst q; exact lk x he
def PRel (W : World) (P : Nat) (a : Option Addr) (c : Nat) (A : List E) (sp : List Value) (g : Nat) (s7 : Value) (wr : World) : Prop :=
  ∃ (k : Nat) (A' : List E), k ≤ A.length ∧ g = A.length - k ∧ s7 = .int .i64 k ∧ A'.length = A.length ∧ A'.map E.t = ((A.map E.t).take k).map plain ++ (A.map E.t).drop k ∧ RB (fun q => q = P) W P a c A' sp wr
theorem map_set_next {A A' : List E} {k : Nat} {e : E} (hl : A'.length = A.length) (hk : k < A.length) (h : A'.map E.t = ((A.map E.t).take k).map plain ++ (A.map E.t).drop k) (he : e.t = plain A[k].t) :
    (A'.set k e).map E.t = ((A.map E.t).take (k + 1)).map plain ++ (A.map E.t).drop (k + 1) := by
  rw [List.map_set, h, he]
  have hkl : k < (A.map E.t).length := by simpa using hk
  rw [List.drop_eq_getElem_cons hkl, List.set_append_right _ _ (by simp; omega)]
  have e0 : k - (List.map plain (List.take k (List.map E.t A))).length = 0 := by simp; omega
  rw [e0, List.set_cons_zero, List.take_succ_eq_append_getElem hkl, List.map_append, List.append_assoc]
  simp
theorem map_at {A A' : List E} {k : Nat} (hl : A'.length = A.length) (hk : k < A.length) (h : A'.map E.t = ((A.map E.t).take k).map plain ++ (A.map E.t).drop k) (hk' : k < A'.length) : A'[k].t = A[k].t := by
  have h1 : (A'.map E.t)[k]? = (A.map E.t)[k]? := by
    rw [h, List.getElem?_append_right (by simp; omega), List.getElem?_drop]
    congr 1; simp; omega
  simpa [hk, hk'] using h1
set_option maxRecDepth 100000 in
set_option maxHeartbeats 4000000 in
theorem plainL_any {W w : World} {P : Nat} {a : Option Addr} {c : Nat} {A : List E} {sp : List Value} (h : RB (Nw W) W P a c A sp w) (hg : ∀ e ∈ A, good e.t = true) (hA : A.length ≤ 900000) :
    Calls Try.prog 31 #[.slice a A.length c] w fun e w' => e = .returned (.slice a A.length c) ∧ ∃ A', A'.length = A.length ∧ A'.map E.t = (A.map E.t).map plain ∧ RB (fun q => q = P) W P a c A' sp w' := by
  have hP : 0 < A.length → W.heap.size ≤ P := fun q => (h.blk q).2
  have h1 : RB (fun q => q = P) W P a c A sp w := ⟨h.win, h.blk, fun e he => (h.ls e he).off fun b _ q => by subst q; exact hP (List.length_pos_of_mem he), h.bel⟩
  have HH := Lib.hid (And.intro h1 (And.intro hg hP))
  clear h h1 hg hP
  go_enter Try.func31, Try.ntmps31
  go_wp2_with fail
  go_loopg [7] A.length (PRel W P a c A sp)
  case atStart => exact ⟨0, A, by omega, by omega, rfl, rfl, by simp, HH.out.1⟩
  case round =>
    obtain ⟨k, A', hk, rfl, rfl, hl, hm, hrb⟩ := hrel
    by_cases hlt : k < A.length
    · obtain ⟨kq, nq, iq, rq, mq, aq, lq, cq, tq, hq, ⟨e0, e1, e2, e3, e4, e5⟩, hli, hf, hix⟩ := rb_look hrb (m := k) (by omega)
      rw [hl] at hix
      have g0 := hf (k * 6)
      have g1 := hf (k * 6 + 1)
      have g2 := hf (k * 6 + 2)
      have g3 := hf (k * 6 + 3)
      have g4 := hf (k * 6 + 4)
      have g5 := hf (k * 6 + 5)
      have ht : tq = A[k].t := by have := map_at hl hlt hm (by omega); rw [hq] at this; exact this
      have hgt : good tq = true := by rw [ht]; exact HH.out.2.1 _ (List.getElem_mem hlt)
      have HX := Lib.hid (And.intro hl (And.intro hm (And.intro hrb (And.intro True.intro (And.intro hli (And.intro ht hgt))))))
      clear hl hm hrb hq hli hf ht hgt
      go_wp2_with fail
      refine (plain_good tq _ _ ((HX.out.2.2.2.2.1.off fun _ _ q => q.elim).below (ba _ _)) HX.out.2.2.2.2.2.2).mono ?_
      rintro e w4 ⟨kp, np, ip, rp, mp, ap, lp, cp, rfl, hb4, hlp⟩
      have hrb4 := HX.out.2.2.1.below (bt (ba wr _) hb4)
      obtain ⟨kx, nx, ix, rx, mx, ax, lx, cx, tx, hx, ⟨p0, p1, p2, p3, p4, p5⟩, _, hf, _⟩ := rb_look hrb4 (m := k) (by have := HX.out.1; omega)
      have f0 := hf (k * 6)
      have f1 := hf (k * 6 + 1)
      have f2 := hf (k * 6 + 2)
      have f3 := hf (k * 6 + 3)
      have f4 := hf (k * 6 + 4)
      have f5 := hf (k * 6 + 5)
      have hPw : P < wr.heap.size := (Array.getElem?_eq_some_iff.1 (HX.out.2.2.1.blk (by have := HX.out.1; omega)).1).1
      have hlp' : Lies (fun q => q = P) w4 (plain tq) (.agg #[.int .i64 kp, .string np, .int .i64 ip, .int .u64 rp, .int .u64 mp, .slice ap lp cp]) := hlp.off fun b _ q => by subst q; show _ < _; rw [alloc_size]; omega
      have H4 := Lib.hid (And.intro hrb4 hlp')
      clear hb4 hlp hrb4 hx hf hPw hlp' e0 e1 e2 e3 e4 e5 g0 g1 g2 g3 g4 g5
      go_wp2_with fail
      go_roundg (A.length - (k + 1))
      case measure => omega
      case rel =>
        have hset := rb_set H4.out.1 rfl (m := k) (by have := HX.out.1; omega) ⟨.int .i64 kp, .string np, .int .i64 ip, .int .u64 rp, .int .u64 mp, .slice ap lp cp, plain tq⟩ H4.out.2
        exact ⟨k + 1, _, hlt, rfl, by go_num, by rw [List.length_set]; exact HX.out.1, map_set_next HX.out.1 hlt HX.out.2.1 (by rw [HX.out.2.2.2.2.2.1]), hset⟩
    · have hkk : k = A.length := by omega
      have HX := Lib.hid (And.intro hl (And.intro hm hrb))
      clear hl hm hrb
      go_wp2_with fail
      go_ret
      refine ⟨rfl, A', HX.out.1, ?_, HX.out.2.2⟩
      have := HX.out.2.1
      rw [hkk, List.take_of_length_le (by simp), List.drop_of_length_le (by simp), List.append_nil] at this
      exact this
/-- a list of terms, told in new memory -/
def LTold (R : List Tm → Prop) (w : World) (e : Ending) (w' : World) : Prop := ∃ M a c, R M ∧ e = .returned (.slice a (M.length : Nat) c) ∧ M.length ≤ c ∧ c ≤ maxLen ∧ TRow No w' M a 0 ∧ Below w.heap.size w w'
set_option maxRecDepth 100000 in
theorem sort_any (L : List Tm) (a : Option Addr) (c : Nat) (w : World) (hr : TRow No w L a 0) (hL : L.length ≤ 900000) : Calls Try.prog 15 #[.slice a L.length c] w (LTold (SortR L) w) := by
  have HR := Lib.hid hr
  clear hr
  go_enter Try.func15, Try.ntmps15
  go_wp2_with fail
  refine (inOrder_any L a c _ HR.out hL).mono ?_
  rintro e w2 ⟨P, a2, c2, A, sp, rfl, hrb, hp, hu⟩
  have hgd : ∀ e ∈ A, good e.t = true := fun e he => (List.mem_filter.1 (hp.mem_iff.1 (List.mem_map.2 ⟨e, he, rfl⟩))).2
  have hlen : A.length ≤ 900000 := by
    have := hp.length_eq
    rw [List.length_map] at this
    have h2 := List.length_filter_le good L
    omega
  have H2 := Lib.hid (And.intro hrb (And.intro hp (And.intro hu hgd)))
  clear hrb hp hu hgd
  go_wp2_with fail
  refine (plainL_any H2.out.1 H2.out.2.2.2 hlen).mono ?_
  rintro e w3 ⟨rfl, A', hl, hm, hrb⟩
  have H3 := Lib.hid (And.intro hm hrb)
  rw [← hl]
  have HL := Lib.hid hl
  clear hm hrb hl
  go_wp2_with fail
  go_ret
  refine ⟨A'.map E.t, a2, c2, ?_, by simp, by rw [List.length_map]; exact H3.out.2.win.len, H3.out.2.win.cap, H3.out.2.row, H3.out.2.bel⟩
  rw [H3.out.1]
  exact SortR.of H2.out.2.1 H2.out.2.2.1
end Go.Proofs.Ytgkcbiabkpcblaa.odi
