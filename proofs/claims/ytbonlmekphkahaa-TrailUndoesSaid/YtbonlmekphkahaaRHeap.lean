/- Contracts of the reference's heap (elenchusref4): the same answers as package heap's. -/
import Derived.Test.YtbonlmekphkahaaHeap
namespace Go.Proofs.Ytbonlmekphkahaa.hp
open Go.ChangeShapes Go.WideShapes Go.ChangeAt Go.RowKit Go.Maps
open Go.Proofs.Ytbonlmekphkahaa.kp Go.Proofs.Ytbonlmekphkahaa.cel
set_option linter.unusedVariables false
abbrev RH : TypeId := 47
theorem quiet_left {P : Program} {f : FuncId} {args : Array Value} {w : World} {n : Nat} {v : Value}
    (h : Calls P f args (w.drewN n) fun e w' => e = .returned v ∧ w.drewN n = w') : Calls P f args (w.drewN n) fun e w'' => e = .returned v ∧ ∃ m, w'' = w.drewN m :=
  h.mono fun _ _ ⟨he, hm⟩ => ⟨he, n, hm.symm⟩
theorem quiet_add_left {P : Program} {f : FuncId} {args : Array Value} {w : World} {a n : Nat} {v : Value}
    (h : Calls P f args (w.drewN (a + n)) fun e w' => e = .returned v ∧ w.drewN (a + n) = w') :
    Calls P f args (w.drewN (a + n)) fun e w'' => e = .returned v ∧ ∃ m, w'' = w.drewN (a + m) :=
  h.mono fun _ _ ⟨he, hm⟩ => ⟨he, n, hm.symm⟩
section
variable {w : World} {p : Nat} {F : Nat → Prop} {l : List Int} {m : Int}
theorem rnew_any (n : Int) (w : World) : Calls Try.prog 10 #[.int .i64 n] w fun e w' => e = .returned (.pointer (some ⟨w.heap.size, 0, none⟩)) ∧ Made RH w [] (max 0 (min n 1048576)) w' := by
  by_cases h0 : n ≤ 0
  · have e : max 0 (min n 1048576) = 0 := by omega
    rw [e]
    have M := Lib.hid (Made.new (m := 0) (by omega) (by omega) w RH)
    clear e
    go_enter Try.func10, Try.ntmps10; go_wp2_with fail; go_ret
    exact ⟨rfl, M.out⟩
  · by_cases h1 : 1048576 < n
    · have e : max 0 (min n 1048576) = 1048576 := by omega
      rw [e]
      have M := Lib.hid (Made.new (m := 1048576) (by omega) (by omega) w RH)
      clear e
      go_enter Try.func10, Try.ntmps10; go_wp2_with fail; go_ret
      exact ⟨rfl, M.out⟩
    · have e : max 0 (min n 1048576) = n := by omega
      rw [e]
      have M := Lib.hid (Made.new (m := n) (by omega) (by omega) w RH)
      clear e
      go_enter Try.func10, Try.ntmps10; go_wp2_with fail; go_ret
      exact ⟨rfl, M.out⟩
set_option maxHeartbeats 1000000 in
theorem rpush_any (h : Hp RH w p F l m) (u : Int) (hu : W64 u) : Calls Try.prog 17 #[.pointer (some ⟨p, 0, none⟩), .int .u64 u] w fun e w' => e = .returned (.tuple #[.int .i64 (pv l m), .int .i64 (pe l m)]) ∧ Next RH w p F (px l m u) m w' := by
  have hle := h.len_le
  obtain ⟨a, c, c0, c1, f0, f1, hcap⟩ := h.open_
  by_cases h0 : (l.length : Int) < m
  · have e1 := Lib.hid (show pv l m = l.length by unfold pv; rw [if_pos h0])
    have e2 := Lib.hid (show pe l m = 0 by unfold pe; rw [if_pos h0])
    have e3 := Lib.hid (show px l m u = l ++ [u] by unfold px; rw [if_pos h0])
    have hpl := h.lt p h.mine
    have HH := Lib.hid h
    have HC := Lib.hid c0
    have HU := Lib.hid hu
    have HR : Hid (w.ownsRow 0 34 1 (.slice a l.length c) l.length (l.map (Value.int .u64))) := by
      obtain ⟨v, hp, hr, h1, hF⟩ := h.ex
      obtain ⟨d0, _⟩ := two_cells hp
      rw [c0] at d0
      injection d0 with d0
      rw [← d0] at hr
      exact Lib.hid hr
    have HP : Hid ((Value.slice a l.length c).ownBlock ≠ some p) := by
      obtain ⟨v, hp, hr, h1, hF⟩ := h.ex
      obtain ⟨d0, _⟩ := two_cells hp
      rw [c0] at d0
      injection d0 with d0
      rw [← d0] at h1
      exact Lib.hid h1
    obtain ⟨i0, hi, hz0, hz1, hz2⟩ := info_parts infoC
    have HI := Lib.hid hi
    have HI1 := Lib.hid hz0
    have HI2 := Lib.hid hz1
    have HI3 := Lib.hid hz2
    clear h hu hi hz0 hz1 hz2
    go_enter Try.func17, Try.ntmps17
    go_wp2_with fail
    go_quiet (fail)
    go_wp2_with (at_builtin; refine wpList_append_own_at _ rfl (.tmp 20) (.tmp 22) 45 rfl 0 34 i0 (.int .u64 0) 1 8 Try.underlying45 HI.out HI1.out HI2.out HI3.out rfl (by decide) _ _ _ rfl (by exact (HR.out.alloc (.cells #[.int .u64 u] 34))) ⟨w.heap.size, 0, none⟩ 1 1 [.int .u64 u] rfl rfl (cell_one_new _ _ _) ?c2 ?b1 ?b2 ?b3 ?_)
    case c2 => intro z hz; simp at hz; subst hz; rfl
    case b1 => unfold maxLen; omega
    case b2 => omega
    case b3 => simp
    intro v' w2 hr2 g2 _ hat
    obtain ⟨a', c', rfl⟩ := kp.shape hr2
    have hne : some p ≠ (Value.slice a l.length c).ownBlock := fun e => HP.out e.symm
    have f0' : w2.frozen? ⟨p, 0, none⟩ = false := ((World.frozen?_of_block (a := ⟨p, 0, none⟩) (g2.block p (by simp; omega) hne)).trans (World.frozen?_alloc_past (w := w.drewN nq) _ _ _ hpl)).trans f0
    have c0' := g2.cell (a := ⟨p, 0, none⟩) ((World.cell?_alloc_past (w := w.drewN nq) _ _ _ hpl).trans c0) hne
    have N := Lib.hid (Next.push HH.out HC.out h0 HU.out ((drewN_below w nq).alloc (Nat.le_refl _) (.cells #[.int .u64 u] 34)) (by simpa using hr2) g2 (by simpa using hat))
    clear hne hr2 g2 hat c0 f0
    go_wp2_with fail
    go_ret2
    exact ⟨rp2 e1.out.symm e2.out.symm, by rw [e3.out]; exact N.out⟩
  · have e1 := Lib.hid (show pv l m = 0 by unfold pv; rw [if_neg h0])
    have e2 := Lib.hid (show pe l m = 4 by unfold pe; rw [if_neg h0])
    have e3 := Lib.hid (show px l m u = l by unfold px; rw [if_neg h0])
    have N := Lib.hid (Next.same h)
    clear h
    go_enter Try.func17, Try.ntmps17
    go_wp2_with fail
    go_quiet (fail)
    go_wp2_with fail
    go_ret2
    exact ⟨rp2 e1.out.symm e2.out.symm, by rw [e3.out]; exact N.out.drewN _⟩
end
end Go.Proofs.Ytbonlmekphkahaa.hp
