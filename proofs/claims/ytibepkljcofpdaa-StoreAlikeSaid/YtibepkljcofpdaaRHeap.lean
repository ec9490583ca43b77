/- Contracts of the reference's heap (elenchusref4): the same answers as package heap's. -/
import Derived.Test.YtibepkljcofpdaaHeap
namespace Go.Proofs.Ytibepkljcofpdaa.hp
open Go.ChangeShapes Go.WideShapes Go.ChangeAt Go.RowKit Go.Maps
open Go.Proofs.Ytibepkljcofpdaa.kp Go.Proofs.Ytibepkljcofpdaa.cel
set_option linter.unusedVariables false
abbrev RH : TypeId := 82
theorem quiet_left {P : Program} {f : FuncId} {args : Array Value} {w : World} {n : Nat} {v : Value}
    (h : Calls P f args (w.drewN n) fun e w' => e = .returned v ∧ w.drewN n = w') : Calls P f args (w.drewN n) fun e w'' => e = .returned v ∧ ∃ m, w'' = w.drewN m :=
  h.mono fun _ _ ⟨he, hm⟩ => ⟨he, n, hm.symm⟩
theorem quiet_add_left {P : Program} {f : FuncId} {args : Array Value} {w : World} {a n : Nat} {v : Value}
    (h : Calls P f args (w.drewN (a + n)) fun e w' => e = .returned v ∧ w.drewN (a + n) = w') :
    Calls P f args (w.drewN (a + n)) fun e w'' => e = .returned v ∧ ∃ m, w'' = w.drewN (a + m) :=
  h.mono fun _ _ ⟨he, hm⟩ => ⟨he, n, hm.symm⟩
section
variable {w : World} {p : Nat} {F : Nat → Prop} {l : List Int} {m : Int}
theorem rnew_any (n : Int) (w : World) : Calls Try.prog 14 #[.int .i64 n] w fun e w' => e = .returned (.pointer (some ⟨w.heap.size, 0, none⟩)) ∧ Made RH w [] (max 0 (min n 1048576)) w' := by
  by_cases h0 : n ≤ 0
  · have e : max 0 (min n 1048576) = 0 := by omega
    rw [e]
    have M := Lib.hid (Made.new (m := 0) (by omega) (by omega) w RH)
    clear e
    go_enter Try.func14, Try.ntmps14; go_wp2_with fail; go_ret
    exact ⟨rfl, M.out⟩
  · by_cases h1 : 1048576 < n
    · have e : max 0 (min n 1048576) = 1048576 := by omega
      rw [e]
      have M := Lib.hid (Made.new (m := 1048576) (by omega) (by omega) w RH)
      clear e
      go_enter Try.func14, Try.ntmps14; go_wp2_with fail; go_ret
      exact ⟨rfl, M.out⟩
    · have e : max 0 (min n 1048576) = n := by omega
      rw [e]
      have M := Lib.hid (Made.new (m := n) (by omega) (by omega) w RH)
      clear e
      go_enter Try.func14, Try.ntmps14; go_wp2_with fail; go_ret
      exact ⟨rfl, M.out⟩
theorem rin_any (h : Hp RH w p F l m) (n : Int) (hn : 0 ≤ n) : Calls Try.prog 71 #[.pointer (some ⟨p, 0, none⟩), .int .u64 n] w fun e w' => e = .returned (.bool (gb l n)) ∧ w = w' := by
  have hle := h.len_le
  obtain ⟨a, c, c0, c1, f0, f1, hcap⟩ := h.open_
  have e := Lib.hid (show gb l n = decide (n < (l.length : Int)) by unfold gb; simp [hn])
  clear h
  go_enter Try.func71, Try.ntmps71; go_wp2_with fail; go_ret
  exact ⟨rb e.out.symm, rfl⟩
set_option maxRecDepth 100000 in
set_option maxHeartbeats 1000000 in
theorem rpush_any (h : Hp RH w p F l m) (u : Int) (hu : W64 u) : Calls Try.prog 21 #[.pointer (some ⟨p, 0, none⟩), .int .u64 u] w fun e w' => e = .returned (.tuple #[.int .i64 (pv l m), .int .i64 (pe l m)]) ∧ Next RH w p F (px l m u) m w' := by
  have hle := h.len_le
  obtain ⟨a, c, c0, c1, f0, f1, hcap⟩ := h.open_
  by_cases h0 : (l.length : Int) < m
  · have e1 := Lib.hid (show pv l m = l.length by unfold pv; rw [if_pos h0])
    have e2 := Lib.hid (show pe l m = 0 by unfold pe; rw [if_pos h0])
    have e3 := Lib.hid (show px l m u = l ++ [u] by unfold px; rw [if_pos h0])
    have hpl := h.lt p h.mine
    have HH := Lib.hid h
    have HC := Lib.hid c0
    have HU := Lib.hid hu
    have HR : Hid (w.ownsRow 0 37 1 (.slice a l.length c) l.length (l.map (Value.int .u64))) := by
      obtain ⟨v, hp, hr, h1, hF⟩ := h.ex
      obtain ⟨d0, _⟩ := two_cells hp
      rw [c0] at d0
      injection d0 with d0
      rw [← d0] at hr
      exact Lib.hid hr
    have HP : Hid ((Value.slice a l.length c).ownBlock ≠ some p) := by
      obtain ⟨v, hp, hr, h1, hF⟩ := h.ex
      obtain ⟨d0, _⟩ := two_cells hp
      rw [c0] at d0
      injection d0 with d0
      rw [← d0] at h1
      exact Lib.hid h1
    obtain ⟨i0, hi, hz0, hz1, hz2⟩ := info_parts infoC
    have HI := Lib.hid hi
    have HI1 := Lib.hid hz0
    have HI2 := Lib.hid hz1
    have HI3 := Lib.hid hz2
    clear h hu hi hz0 hz1 hz2
    go_enter Try.func21, Try.ntmps21
    go_wp2_with fail
    go_quiet (fail)
    go_wp2_with (at_builtin; refine wpList_append_own_at _ rfl (.tmp 20) (.tmp 22) 48 rfl 0 37 i0 (.int .u64 0) 1 8 Try.underlying48 HI.out HI1.out HI2.out HI3.out rfl (by decide) _ _ _ rfl (by exact (HR.out.alloc (.cells #[.int .u64 u] 37))) ⟨w.heap.size, 0, none⟩ 1 1 [.int .u64 u] rfl rfl (cell_one_new _ _ _) ?c2 ?b1 ?b2 ?b3 ?_)
    case c2 => intro z hz; simp at hz; subst hz; rfl
    case b1 => unfold maxLen; omega
    case b2 => omega
    case b3 => simp
    intro v' w2 hr2 g2 _ hat
    obtain ⟨a', c', rfl⟩ := kp.shape hr2
    have hne : some p ≠ (Value.slice a l.length c).ownBlock := fun e => HP.out e.symm
    have f0' : w2.frozen? ⟨p, 0, none⟩ = false := ((World.frozen?_of_block (a := ⟨p, 0, none⟩) (g2.block p (by simp; omega) hne)).trans (World.frozen?_alloc_past (w := w.drewN nq) _ _ _ hpl)).trans f0
    have c0' := g2.cell (a := ⟨p, 0, none⟩) ((World.cell?_alloc_past (w := w.drewN nq) _ _ _ hpl).trans c0) hne
    have N := Lib.hid (Next.push HH.out HC.out h0 HU.out ((drewN_below w nq).alloc (Nat.le_refl _) (.cells #[.int .u64 u] 37)) (by simpa using hr2) g2 (by simpa using hat))
    clear hne hr2 g2 hat c0 f0
    go_wp2_with fail
    go_ret2
    exact ⟨rp2 e1.out.symm e2.out.symm, by rw [e3.out]; exact N.out⟩
  · have e1 := Lib.hid (show pv l m = 0 by unfold pv; rw [if_neg h0])
    have e2 := Lib.hid (show pe l m = 4 by unfold pe; rw [if_neg h0])
    have e3 := Lib.hid (show px l m u = l by unfold px; rw [if_neg h0])
    have N := Lib.hid (Next.same h)
    clear h
    go_enter Try.func21, Try.ntmps21
    go_wp2_with fail
    go_quiet (fail)
    go_wp2_with fail
    go_ret2
    exact ⟨rp2 e1.out.symm e2.out.symm, by rw [e3.out]; exact N.out.drewN _⟩
theorem rvar_any (h : Hp RH w p F l m) : Calls Try.prog 63 #[.pointer (some ⟨p, 0, none⟩)] w fun e w' => e = .returned (.tuple #[.int .i64 (pv l m), .int .i64 (pe l m)]) ∧ Next RH w p F (px l m (l.length * 8)) m w' := by
  have hle := h.len_le
  have q3 : W64 ((l.length : Int) * 8) := ⟨by omega, by omega⟩
  have hp := rpush_any h _ q3
  obtain ⟨a, c, c0, c1, f0, f1, hcap⟩ := h.open_
  have hm := rmake_any 0 l.length w (by omega) (by omega) ⟨by omega, by omega⟩
  rw [show jn 0 (l.length : Int) = l.length * 8 by unfold jn; omega] at hm
  clear h q3
  go_enter Try.func63, Try.ntmps63; go_wp2_with fail
  refine hm.mono ?_; rintro e w' ⟨rfl, rfl⟩
  go_wp2_with fail
  refine hp.mono ?_; rintro e w' ⟨rfl, N⟩
  have N := Lib.hid N
  go_wp2_with fail
  go_ret2
  exact ⟨rfl, N.out⟩
theorem at_slice (h : Hp RH w p F l m) (q : Int) (hg : gb l q = true) : ∃ g k c, q = (k : Nat) ∧ w.cell? ⟨p, 0, none⟩ = some (.slice (some ⟨g, 0, none⟩) l.length c) ∧ k < l.length ∧ w.cell? ⟨g, k, none⟩ = some (.int .u64 (gv l q)) := by
  have h0 := of_decide_eq_true hg
  obtain ⟨k, rfl⟩ := Int.eq_ofNat_of_zero_le h0.1
  have hk : k < l.length := by omega
  obtain ⟨g, c, c0, f0, hg, hgp, _, hc, q0, q1, c1, f1⟩ := h.at_ k hk
  refine ⟨g, k, c, rfl, c0, hk, ?_⟩
  unfold gv; rw [if_pos h0, q0]; simp
set_option maxHeartbeats 2000000 in
theorem rderef_any (h : Hp RH w p F l m) (c0 : Int) (hc0 : W64 c0) : Calls Try.prog 68 #[.pointer (some ⟨p, 0, none⟩), .int .u64 c0] w fun e w' => e = .returned (.int .u64 (dr l l.length c0)) ∧ ∃ n, w' = w.drewN n := by
  obtain ⟨a, cap, q0, q1, f0, f1, hcap⟩ := h.open_
  have HW := Lib.hid hc0
  have HH := Lib.hid h
  obtain ⟨n, hn⟩ : ∃ n, n = l.length := ⟨_, rfl⟩
  rw [← hn] at q0 ⊢
  have hle : n ≤ maxLen := by have := h.len_le; unfold maxLen; omega
  have HN := Lib.hid hn
  clear hc0 hcap hn h
  go_enter Try.func68, Try.ntmps68
  go_wp2_with fail
  go_loopw [1, 10] (fun x i wr => ∃ (k j : Nat) (c : Int), x = .int .u64 c ∧ i = .int .i64 k ∧ k + j = n ∧ W64 c ∧ dr l j c = dr l n c0 ∧ (∃ b, wr = w.drewN b)) (fun _ i _ => n - (intOf i).toNat)
  case atStart => exact ⟨0, n, c0, rfl, rfl, by omega, HW.out, rfl, 0, rfl⟩
  case round =>
    obtain ⟨k, j, c, rfl, rfl, hkj, hc, hr, b, hb⟩ := hrel
    have hh : Hp RH wr p F l m := by rw [hb]; exact HH.out.drewN b
    have q0' : wr.cell? ⟨p, 0, none⟩ = some (.slice a n cap) := by rw [hb]; exact q0
    have HB := Lib.hid hb
    have HK := Lib.hid hkj
    have HC := Lib.hid hc
    have HR := Lib.hid hr
    clear q0 q1 f0 f1 hb
    rcases j with _ | j
    · obtain rfl : k = n := by omega
      clear hkj hc hr hh
      go_wp2_with fail
      go_ret
      exact ⟨kp.ri HR.out, b, HB.out⟩
    · have hlt : k < n := by omega
      have hT := fun n => Lib.hid (rtag_any c (wr.drewN n) hc)
      by_cases h8 : c % 8 = 0
      · rw [h8] at hT
        have hV := fun n => Lib.hid (rvalue_any c (wr.drewN n) hc)
        have hI := fun n => Lib.hid (rin_any (hh.drewN n) (c / 8) (by have := hc.1; omega))
        by_cases hg : gb l (c / 8) = true
        · rw [hg] at hI
          obtain ⟨g, i, cap', hi, z0, z1, z2⟩ := at_slice hh _ hg
          rw [q0'] at z0
          injection z0 with z0; injection z0 with z0 z0' z0''
          subst z0; subst z0''
          rw [← z0'] at z1
          by_cases hn : gv l (c / 8) = c
          · have e1 := Lib.hid (dr_off (l := l) (c := c) (fun hh => ((value_gb hc h8).1 hh).2 hn) (j + 1))
            rw [hn] at z2
            rw [hi] at hV hI
            clear hkj hc hr hh h8 hg hn hi z0'
            go_wp2_with fail
            go_quiet ((first | (go_at_call 70; exact quiet_left (hT _).out) | (go_at_call 69; exact quiet_left (hV _).out) | (go_at_call 71; exact quiet_left (hI _).out)))
            go_wp2_with fail
            go_ret
            exact ⟨kp.ri (e1.out.symm.trans HR.out), b + nq, by rw [HB.out, World.drewN_drewN]⟩
          · have e1 := Lib.hid (dr_gv (l := l) hc h8 j hg hn)
            have hx := Lib.hid (gv_w HH.out.wf (c / 8))
            generalize gv l (c / 8) = x at *
            have t1 : (x == c) = false := by simpa using hn
            rw [hi] at hV hI
            clear hkj hc hr hh h8 hg hn hi z0'
            go_wp2_with fail
            go_quiet ((first | (go_at_call 70; exact quiet_left (hT _).out) | (go_at_call 69; exact quiet_left (hV _).out) | (go_at_call 71; exact quiet_left (hI _).out)))
            revert nq; intro n1
            go_wp2_with fail
            go_quiet ((go_at_call 69; exact quiet_add_left (hV _).out))
            have hle' : n ≤ 1048576 := by rw [HN.out]; have := HH.out.len_le; omega
            go_wp2_with fail
            go_roundw
            case rel => exact ⟨k + 1, j, x, rfl, by go_num, by have := HK.out; omega, hx.out, e1.out.symm.trans HR.out, b + (n1 + nq), by rw [HB.out, World.drewN_drewN]⟩
            case measure => simp [intOf]; omega
        · simp only [Bool.not_eq_true] at hg
          rw [hg] at hI
          have e1 := Lib.hid (dr_off (l := l) (c := c) (fun hh => by have := ((value_gb hc h8).1 hh).1; rw [hg] at this; cases this) (j + 1))
          clear hkj hc hr hh h8 hg
          go_wp2_with fail
          go_quiet ((first | (go_at_call 70; exact quiet_left (hT _).out) | (go_at_call 69; exact quiet_left (hV _).out) | (go_at_call 71; exact quiet_left (hI _).out)))
          go_wp2_with fail
          go_ret
          exact ⟨kp.ri (e1.out.symm.trans HR.out), b + nq, by rw [HB.out, World.drewN_drewN]⟩
      · have e1 := Lib.hid (dr_off (l := l) (c := c) (fun h => h8 h.1) (j + 1))
        have d8 : (c % 8 != 0) = true := by simpa using h8
        clear hkj hc hr h8 hh
        go_wp2_with fail
        go_quiet ((go_at_call 70; exact quiet_left (hT _).out))
        go_wp2_with fail
        go_ret
        exact ⟨kp.ri (e1.out.symm.trans HR.out), b + nq, by rw [HB.out, World.drewN_drewN]⟩
end
end Go.Proofs.Ytibepkljcofpdaa.hp
