/- The reference's Undo: the same answers as package trail's. -/
import Derived.Test.YtbonlmekphkahaaRTr
namespace Go.Proofs.Ytbonlmekphkahaa.hp
open Go.ChangeShapes Go.WideShapes Go.ChangeAt Go.RowKit Go.Maps
open Go.Proofs.Ytbonlmekphkahaa.kp Go.Proofs.Ytbonlmekphkahaa.cel
set_option linter.unusedVariables false
section
variable {w : World} {p q : Nat} {K : Nat → Prop} {l : List Int} {m : Int} {L : List Wr}
/-! ### Undo -/
def RRU (w : World) (p q : Nat) (K : Nat → Prop) (l : List Int) (m : Int) (L : List Wr) (mk : Nat) (gk : Nat) (i : Value) (wr : World) : Prop := ∃ k : Nat, mk ≤ k ∧ k ≤ L.length ∧ gk = k - mk ∧ i = .int .i64 ((k : Int) - 1) ∧ SN RH TR w p q K (ub l (L.drop k)) m L wr
theorem drewN_block {wa : World} {bx n : Nat} {o : Obj} (h : wa.heap[bx]? = some o) : (wa.drewN n).heap[bx]? = some o := by
  have := (drewN_below wa n).block bx (Array.getElem?_eq_some_iff.1 h).1
  rw [this]; exact h
set_option maxHeartbeats 1000000 in
theorem rundo_any (h : Sys RH TR w p q K l m L) (hL : L.length ≤ 1099511627776) (n : Int) :
    Calls Try.prog 14 #[.pointer (some ⟨q, 0, none⟩), .pointer (some ⟨p, 0, none⟩), .int .i64 n] w fun e w' => e = .returned (.int .i64 (nb L n)) ∧ SN RH TR w p q K (ux l L n) m (kx L n) w' := by
  obtain ⟨⟨F, G, a, b, c, d⟩, g⟩ := h
  obtain ⟨ta, tc, y0, y1, y2, _⟩ := TR.open_ b
  by_cases h0 : 0 ≤ n ∧ n ≤ L.length
  · obtain ⟨mk, rfl⟩ := Int.eq_ofNat_of_zero_le h0.1
    have hk : mk ≤ L.length := by omega
    have e2 := Lib.hid (show ux l L mk = ub l (L.drop mk) by unfold ux; rw [if_pos h0]; rfl)
    have e3 := Lib.hid (show kx L mk = L.take mk by unfold kx; rw [if_pos h0]; rfl)
    have e4 := Lib.hid (show nb L mk = L.length - mk by unfold nb; rw [if_pos h0])
    have hgd := Lib.hid g
    have S0 : SN RH TR w p q K (ub l (L.drop L.length)) m L w := by rw [List.drop_length]; exact SN.same ⟨⟨F, G, a, b, c, d⟩, g⟩
    have HS := Lib.hid S0
    have hk' : decide ((L.length : Int) < (mk : Int)) = false := by simp; omega
    have hk2 : decide (L.length < mk) = false := by simp; omega
    clear a b c d g S0 h0
    go_enter Try.func14, Try.ntmps14; go_wp2_with fail
    clear y0 y1 y2
    go_loopg [8] (L.length - mk) (RRU w p q K l m L mk)
    case atStart => exact ⟨L.length, hk, by omega, rfl, rfl, HS.out⟩
    case round =>
      obtain ⟨k, hmk, hkl, rfl, rfl, sn⟩ := hrel
      by_cases hlt : mk < k
      · obtain ⟨j, rfl⟩ : ∃ j, k = j + 1 := ⟨k - 1, by omega⟩
        have hj : j < L.length := by omega
        have SNH := Lib.hid sn
        obtain ⟨K1, ⟨⟨F, G, a, b, c, d⟩, g⟩, k1, s1⟩ := sn
        obtain ⟨x0, x1, c0, hc, z0, z1⟩ := TR.at_ b j hj
        obtain ⟨hp0, hu⟩ := g.at_ j
        have es := Lib.hid (ub_step l L hj)
        generalize L.getD j wr0 = x at *
        obtain ⟨xa, xu⟩ := x
        obtain ⟨sa, sc, q0, q1, f0, f1, hcap⟩ := a.open_
        have hle := a.len_le
        have hix : ∀ (c : Nat) (w' : World), (Instr.indexAt 30 (.slice (some ⟨x0, 0, none⟩) L.length c) (.int .i64 (j : Int))).run Try.prog w' = .ok (.pointer (some ⟨x0, j * 2, none⟩)) w' := fun c w' => by
          have he : Try.prog.elem 30 = 70 := by kernel_rfl
          have hs : (sizeOf 70).run Try.prog w' = .ok 2 w' := by kernel_rfl
          rw [run_indexAt_slice w' 30 _ _ _ _ _ (by rw [he]; exact Try.underlying30), if_pos ⟨by omega, by omega⟩, he, hs]
          simp only [Result.andThen]
          rcases j with _ | j <;> simp [Addr.add]
        have hij : ((j + 1 : Nat) : Int) - 1 = (j : Int) := by omega
        rw [hij]
        have hlt' : (mk : Int) ≤ (j : Int) := by omega
        have HK := Lib.hid (And.intro hmk (And.intro hkl hlt))
        have HU := Lib.hid hu
        have HP := Lib.hid hp0
        generalize hl2 : ub l (L.drop (j + 1)) = l2 at *
        clear a b c d g k1 s1 hu hp0 hmk hkl hlt hij q0 q1 f0 f1 hcap
        go_wp2_with fail
        obtain ⟨bx, hbx⟩ : ∃ bx, bx = wr.heap.size := ⟨_, rfl⟩
        obtain ⟨wa, hwa⟩ : ∃ wa, wa = wr.alloc (.cells #[.int .i64 xa, .int .u64 xu] 70) := ⟨_, rfl⟩
        have hb1 : wa.heap[bx]? = some (.cells #[.int .i64 xa, .int .u64 xu] 70 (0, 0)) := by rw [hwa, hbx]; exact alloc_at _ _
        have SA := Lib.hid (SNH.out.below frmR (w' := wa) (by rw [hwa]; exact ba _ _))
        rw [← hwa, ← hbx]
        clear hwa hbx SNH c0 z0 z1 hix hc
        obtain ⟨v0, v1, _, _⟩ := two_cells hb1
        have hb1' := fun n => Lib.hid (two_cells (drewN_block (n := n) hb1))
        clear hb1
        obtain ⟨K1, ⟨⟨F, G, a, b, c, d⟩, g⟩, k1, s1⟩ := SA.out
        obtain ⟨sa, sc, q0, q1, f0, f1, hcap⟩ := a.open_
        clear a b c d g k1 s1
        go_quiet (fail)
        have SB := Lib.hid (SA.out.drewN frmR nq)
        obtain ⟨y0, y1, _, _⟩ := (hb1' nq).out
        clear SA hb1' q0 q1 f0 f1 hcap v0 v1
        generalize wa.drewN nq = wb at *
        by_cases hin : xa < (l2.length : Int)
        · obtain ⟨i, hi⟩ := Int.eq_ofNat_of_zero_le HP.out.1
          subst hi
          have hil : i < l2.length := by omega
          obtain ⟨K1, ⟨⟨F, G, a, b, c, d⟩, g⟩, k1, s1⟩ := SB.out
          obtain ⟨gc, cap, x2, x3, x4, x5, x6, x7, x8, x9, _⟩ := a.at_ i hil
          have e5 := Lib.hid (show sx l2 i xu = l2.set i xu by unfold sx; rw [if_pos ⟨by omega, by omega⟩]; simp)
          have FIN := Lib.hid (SN.trans k1 s1 (SN.trans (K' := K1) (Keep.of_below (kp.bdr wb)) (fun _ => Or.inl) (SN.heap frmR (a.drewN 1) (TR.drewN b 1) c d g (Next.set_ (a.drewN 1) hil (show (wb.drewN 1).cell? ⟨p, 0, none⟩ = _ from x2) xu HU.out))))
          generalize l2.getD i 0 = old at *
          clear a b c d g k1 s1 x4 x5 x6 SB
          go_wp2_with fail
          go_still_tail 9, (by kernel_rfl)
          change wpList _ _ _ _ _ wb.drew
          have FIN' : Hid (SN RH TR w p q K (l2.set i xu) m L (wb.drew.setCell ⟨gc, i, none⟩ (.int .u64 xu))) := FIN
          have x8' : wb.drew.cell? ⟨gc, i, none⟩ = some (.int .u64 old) := x8
          have x9' : wb.drew.frozen? ⟨gc, i, none⟩ = false := x9
          clear FIN x2 x3 x8 x9 y0 y1
          generalize wb.drew = wd at *
          go_wp2_with fail
          go_roundg (j - mk)
          case measure => have := HK.out; omega
          case rel => exact ⟨j, by have := HK.out; omega, by have := HK.out; omega, rfl, by go_num, by rw [es.out, e5.out]; exact FIN'.out⟩
        · have e5 := Lib.hid (show sx l2 xa xu = l2 by unfold sx; rw [if_neg (fun hh => hin hh.2)])
          go_wp2_with fail
          go_roundg (j - mk)
          case measure => have := HK.out; omega
          case rel => exact ⟨j, by have := HK.out; omega, by have := HK.out; omega, rfl, by go_num, by rw [es.out, e5.out]; exact SB.out⟩
      · obtain rfl : k = mk := by omega
        obtain ⟨K1, ⟨⟨F, G, a, b, c, d⟩, g⟩, k1, s1⟩ := sn
        obtain ⟨ta, tc, y0, y1, y2, _⟩ := TR.open_ b
        have FIN := Lib.hid (by
          obtain ⟨G', b', kk, ss⟩ := TR.cut b hk y0
          exact SN.trans k1 s1 (SN.trail a c d (g.take k) b' kk ss))
        have r3 := fun wx => slw_rule (a := ta) (n := L.length) (c := tc) (i := k) (by omega) wx
        have r4 := fun wx => slwAt_rule (a := ta) (n := L.length) (c := tc) (i := k) (by omega) wx
        clear a b c d g k1 s1
        go_wp2_with fail
        go_ret
        exact ⟨kp.ri e4.out.symm, by rw [e2.out, e3.out]; exact FIN.out⟩
  · have hx := h0
    rcases (show n < 0 ∨ (0 ≤ n ∧ (L.length : Int) < n) by omega) with h1 | ⟨h1, h2⟩
    all_goals
      have e2 := Lib.hid (show nb L n = 0 by unfold nb; rw [if_neg h0])
      have e3 := Lib.hid (show kx L n = L by unfold kx; rw [if_neg h0])
      have e4 := Lib.hid (show ux l L n = l by unfold ux; rw [if_neg h0])
      have N := Lib.hid (SN.same (T := RH) (Tr := TR) ⟨⟨F, G, a, b, c, d⟩, g⟩)
      clear a b c d g h0 hx
      go_enter Try.func14, Try.ntmps14; go_wp2_with fail; go_ret
      exact ⟨kp.ri e2.out.symm, by rw [e3.out, e4.out]; exact N.out⟩
end
end Go.Proofs.Ytbonlmekphkahaa.hp
