/- StoreSmall's own closure: how many cells a term takes. -/
import Derived.Test.YtibepkljcofpdaaPutB
import Derived.Test.YtibepkljcofpdaaCell
import Derived.Test.YtibepkljcofpdaaAwk
import Derived.LoopTactic
import Derived.Deep.LoopGhost
namespace Go.Proofs.Ytibepkljcofpdaa.smc
set_option linter.unusedVariables false
open Go.ChangeShapes Go.WideShapes Go.ChangeAt Go.RowKit
open Go.Proofs.Ytibepkljcofpdaa.tm Go.Proofs.Ytibepkljcofpdaa.lie Go.Proofs.Ytibepkljcofpdaa.kp Go.Proofs.Ytibepkljcofpdaa.wlk Go.Proofs.Ytibepkljcofpdaa.cur Go.Proofs.Ytibepkljcofpdaa.rws Go.Proofs.Ytibepkljcofpdaa.pm Go.Proofs.Ytibepkljcofpdaa.cel
abbrev FN (nb fb : Nat) : Value := .func (.func 33) #[] #[.pointer (some ⟨nb, 0, none⟩), .pointer (some ⟨fb, 0, none⟩)]
def ns (top : Bool) : Tm → Nat
  | .mk k n i re im l => if k = 1 then (if top = true then 1 else 0) else nd (.mk k n i re im l)
structure Cn (nb fb k : Nat) (w : World) : Prop where
  n : w.heap[nb]? = some (.cells #[.int .i64 k] 3 (0, 0))
  f : w.heap[fb]? = some (.cells #[FN nb fb] 65 (0, 0))
  ne : nb ≠ fb
theorem Cn.cells {nb fb k : Nat} {w : World} (h : Cn nb fb k w) : w.cell? ⟨nb, 0, none⟩ = some (.int .i64 k) ∧ w.frozen? ⟨nb, 0, none⟩ = false ∧ w.cell? ⟨fb, 0, none⟩ = some (FN nb fb) := by
  refine ⟨?_, ?_, ?_⟩ <;> simp [World.cell?, World.frozen?, h.n, h.f]
theorem Cn.below {nb fb k : Nat} {w w' : World} (h : Cn nb fb k w) (hb : Below w.heap.size w w') : Cn nb fb k w' :=
  ⟨(hb.block _ (Array.getElem?_eq_some_iff.1 h.n).1).trans h.n, (hb.block _ (Array.getElem?_eq_some_iff.1 h.f).1).trans h.f, h.ne⟩
theorem Cn.set {nb fb k : Nat} {w : World} (h : Cn nb fb k w) (j : Nat) : Cn nb fb j (w.setCell ⟨nb, 0, none⟩ (.int .i64 j)) ∧ Keep (fun q => q = nb) w (w.setCell ⟨nb, 0, none⟩ (.int .i64 j)) := by
  refine ⟨⟨?_, ?_, h.ne⟩, Keep.setCell (F := fun q => q = nb) w rfl _⟩
  · rw [heap_setCell_same w nb 0 _ _ _ h.n]; simp
  · rw [Below.heap_setCell _ _ _ _ (fun e => h.ne e.symm)]; exact h.f
theorem Cn.fin {nb fb k : Nat} {w : World} (h : Cn nb fb k w) (j : Nat) (o : Obj) : Keep (fun q => q = nb) w ((w.setCell ⟨nb, 0, none⟩ (.int .i64 j)).alloc o) ∧ Cn nb fb j ((w.setCell ⟨nb, 0, none⟩ (.int .i64 j)).alloc o) :=
  ⟨(h.set j).2.trans (F' := fun _ => False) (Keep.of_below (ba _ o)) (fun _ h => h.elim), (h.set j).1.below (ba _ o)⟩
def Cnt (nb fb : Nat) (w : World) (k : Nat) (e : Ending) (w' : World) : Prop := e = .returned (.tuple #[]) ∧ Keep (fun q => q = nb) w w' ∧ Cn nb fb k w'
def CRel (nb fb k0 : Nat) (w : World) (l : List Tm) (g : Nat) (iv : Value) (wr : World) : Prop := ∃ j : Nat, j ≤ l.length ∧ g = l.length - j ∧ iv = .int .i64 j ∧ Keep (fun q => q = nb) w wr ∧ Cn nb fb (k0 + ndL (l.take j)) wr
theorem ndL_take {l : List Tm} {k : Nat} (hk : k < l.length) : ndL (l.take (k + 1)) = ndL (l.take k) + nd l[k] := by
  rw [List.take_succ_eq_append_getElem hk]
  generalize l.take k = x
  induction x with
  | nil => simp [ndL]
  | cons a r ih => simp only [List.cons_append, ndL, ih]; omega
theorem ndL_le {l : List Tm} (k : Nat) : ndL (l.take k) ≤ ndL l := by
  induction l generalizing k with
  | nil => simp
  | cons a r ih =>
    cases k with
    | zero => simp [ndL]
    | succ k => simp only [List.take_succ_cons, ndL]; have := ih k; omega
set_option maxRecDepth 100000 in
set_option maxHeartbeats 1000000 in
theorem count_any (nb fb : Nat) (t : Tm) : ∀ (top : Bool) (v : Value) (k : Nat) (w : World), Cn nb fb k w → Lies (fun q => q = nb) w t v → k + ns top t ≤ 1000000 → Calls Try.prog 33 #[v, .bool top, .pointer (some ⟨nb, 0, none⟩), .pointer (some ⟨fb, 0, none⟩)] w (Cnt nb fb w (k + ns top t)) := by
  induction t using Tm.ind with
  | h kd n i re im l ih =>
    intro top v k w hc ht hk
    have IH := Lib.hid ih
    rw [Lies] at ht
    obtain ⟨a, c, rfl, hf, hr⟩ := ht
    have HR := Lib.hid (And.intro hf hr)
    have hc1 := hc.below (ba w (.cells #[.int .i64 kd, .string n, .int .i64 i, .int .u64 re, .int .u64 im, .slice a l.length c] 36))
    have HC := Lib.hid hc1
    obtain ⟨z0, z1, z2⟩ := hc1.cells
    have hlt := (Array.getElem?_eq_some_iff.1 hc.n).1
    have hne1 : nb ≠ w.heap.size := by omega
    have hne2 : w.heap.size ≠ nb := by omega
    have H0 := Lib.hid hc
    clear hf hr ih hc hc1
    by_cases k3 : kd = 3
    · subst k3
      have hs := fun w => rsmall_any i w ⟨HR.out.1.i0, HR.out.1.i1⟩
      by_cases hso : so i = true
      · have E := Lib.hid (show ns top (.mk 3 n i re im l) = 0 by rw [ns, if_neg (by decide), nd, if_pos rfl, if_pos hso])
        rw [hso] at hs
        clear hso hk
        go_enter Try.func33, Try.ntmps33
        go_wp2_with fail
        refine (hs _).mono ?_; rintro e w' ⟨rfl, rfl⟩
        go_wp2_with fail
        go_end0
        rw [E.out]
        exact ⟨rfl, Keep.of_below (ba w _), HC.out⟩
      · have E := Lib.hid (show ns top (.mk 3 n i re im l) = 1 by rw [ns, if_neg (by decide), nd, if_pos rfl, if_neg hso])
        rw [show so i = false by simpa using hso] at hs
        have hk1 : k ≤ 1000000 := by omega
        clear hso hk
        go_enter Try.func33, Try.ntmps33
        go_wp2_with fail
        refine (hs _).mono ?_; rintro e w' ⟨rfl, rfl⟩
        go_wp2_with fail
        go_end0
        rw [E.out]
        exact ⟨rfl, H0.out.fin (k + 1) _⟩
    by_cases k4 : kd = 4
    · subst k4
      have E := Lib.hid (show ns top (.mk 4 n i re im l) = 2 by rw [ns, if_neg (by decide), nd, if_neg (by decide), if_pos rfl])
      have hk1 : k ≤ 1000000 := by omega
      clear hk k3
      go_enter Try.func33, Try.ntmps33
      go_wp2_with fail
      go_end0
      rw [E.out]
      exact ⟨rfl, H0.out.fin (k + 2) _⟩
    by_cases k1 : kd = 1
    · subst k1
      have hk1 : k ≤ 1000000 := by omega
      cases top with
      | true =>
        have E := Lib.hid (show ns true (.mk 1 n i re im l) = 1 by rw [ns, if_pos rfl, if_pos rfl])
        clear hk k3 k4
        go_enter Try.func33, Try.ntmps33
        go_wp2_with fail
        go_end0
        rw [E.out]
        exact ⟨rfl, H0.out.fin (k + 1) _⟩
      | false =>
        have E := Lib.hid (show ns false (.mk 1 n i re im l) = 0 by rw [ns, if_pos rfl, if_neg (by decide)])
        clear hk k3 k4
        go_enter Try.func33, Try.ntmps33
        go_wp2_with fail
        go_end0
        rw [E.out]
        exact ⟨rfl, Keep.of_below (ba w _), HC.out⟩
    have b3 : (kd == 3) = false := by rw [beq_eq_false_iff_ne]; exact k3
    have b4 : (kd == 4) = false := by rw [beq_eq_false_iff_ne]; exact k4
    have b1 : (kd == 1) = false := by rw [beq_eq_false_iff_ne]; exact k1
    by_cases k5 : kd = 5
    · subst k5
      have e5 : ns top (.mk 5 n i re im l) = 1 + l.length + ndL l := by rw [ns, if_neg (by decide), nd, if_neg (by decide), if_neg (by decide), if_pos rfl]
      have E := Lib.hid e5
      rw [e5] at hk
      have HK := Lib.hid hk
      have hk1 : k ≤ 1000000 := by omega
      have hk2 : l.length ≤ 1000000 := by omega
      clear hk k3 k4 k1 b3 b4 b1 e5
      go_enter Try.func33, Try.ntmps33
      go_wp2_with fail
      go_loopg [44] l.length (CRel nb fb (k + 1 + l.length) w l)
      case atStart =>
        have h := H0.out.fin (k + 1 + l.length) (.cells #[.int .i64 5, .string n, .int .i64 i, .int .u64 re, .int .u64 im, .slice a l.length c] 36 (0, 0))
        rw [show ((k + 1 + l.length : Nat) : Int) = (k : Int) + (1 + (l.length : Int)) by omega] at h
        refine ⟨0, by omega, by omega, rfl, h.1, ?_⟩
        simpa [ndL] using h.2
      case round =>
        obtain ⟨j, hj, rfl, rfl, kk, cn⟩ := hrel
        by_cases hlt9 : j < l.length
        · obtain ⟨b, o, v0, v1, v2, v3, v4, v5, hbl, hbX, h6, hlx, hix⟩ := HR.out.2.look hlt9
          have h6' := h6.keep kk hbX
          have hix' := hix c
          obtain ⟨kq, nq, iq, req, imq, lq, aq, cq, hv, _⟩ := lies_form hlx
          obtain ⟨rfl, rfl, rfl, rfl, rfl, rfl⟩ := hv
          obtain ⟨e0, e1, e2, e3, e4, e5⟩ := h6'
          have cn1 := cn.below (ba wr (.cells #[.int .i64 kq, .string nq, .int .i64 iq, .int .u64 req, .int .u64 imq, .slice aq lq cq] 36))
          have hlx1 := (Lies.keep kk (Y := fun q => q = nb) (fun _ _ h => h) _ _ hlx).below (ba wr (.cells #[.int .i64 kq, .string nq, .int .i64 iq, .int .u64 req, .int .u64 imq, .slice aq lq cq] 36))
          have hndt := ndL_take hlt9
          have hndl := ndL_le (l := l) (j + 1)
          have hns : ns false l[j] = nd l[j] := by
            obtain ⟨k0, n0, i0, r0, m0, l0⟩ := l[j]
            rw [ns]
            by_cases hk0 : k0 = 1
            · subst hk0; rw [if_pos rfl, if_neg (by decide), nd]; simp
            · rw [if_neg hk0]
          have hih := IH.out l[j] (List.getElem_mem hlt9) false _ _ _ cn1 hlx1 (by have := HK.out; omega)
          obtain ⟨z0', z1', z2'⟩ := cn1.cells
          have HX := Lib.hid (And.intro kk (And.intro hndt hns))
          have hki : (j : Int) < (l.length : Int) := by omega
          clear h6 hlx hix kk cn cn1 hlx1 hndt hndl hns z0 z1 z2 hlt hne1 hne2 hbX
          go_wp2_with fail
          refine hih.mono ?_
          rintro e w3 ⟨rfl, k3, c3⟩
          have H3 := Lib.hid (And.intro k3 c3)
          clear k3 c3 hih e0 e1 e2 e3 e4 e5 z0' z1' z2'
          go_wp2_with fail
          go_roundg (l.length - (j + 1))
          case measure => omega
          case rel =>
            obtain ⟨kk, hndt, hns⟩ := HX.out
            refine ⟨j + 1, hlt9, rfl, by go_num, (kk.trans (Keep.of_below (F := fun q => q = nb) (ba wr _)) (fun _ h => Or.inl h)).trans H3.out.1 (fun _ h => Or.inl h), ?_⟩
            have := H3.out.2
            rw [hns] at this
            rw [hndt, ← Nat.add_assoc]
            exact this
        · have hki : ¬ (j : Int) < (l.length : Int) := by omega
          rw [List.take_of_length_le (by omega)] at cn
          have HX := Lib.hid (And.intro kk cn)
          clear kk cn
          go_wp2_with fail
          go_end0
          rw [E.out]
          exact ⟨rfl, HX.out.1, by have := HX.out.2; rwa [show k + 1 + l.length + ndL l = k + (1 + l.length + ndL l) by omega] at this⟩
    · have E := Lib.hid (show ns top (.mk kd n i re im l) = 0 by rw [ns, if_neg k1, nd, if_neg k3, if_neg k4, if_neg k5])
      have b5 : (kd == 5) = false := by rw [beq_eq_false_iff_ne]; exact k5
      clear hk k3 k4 k1 k5
      go_enter Try.func33, Try.ntmps33
      go_wp2_with fail
      go_end0
      rw [E.out]
      exact ⟨rfl, Keep.of_below (ba w _), HC.out⟩
end Go.Proofs.Ytibepkljcofpdaa.smc
