/- Contracts of package heap's calls, and of the reference's: answers, and what becomes of the heap. -/
import Derived.Test.YtbonlmekphkahaaHp
import Derived.Test.YtbonlmekphkahaaCell
import Derived.Laws.OwnMore
import Derived.Maps.AppendAt
import Derived.Deep.QuietTactic
import Derived.BigQuiet
import Derived.ScopeJumps
import Derived.WalkMore
import Derived.Outline
import Derived.RegionTactic
namespace Go.Proofs.Ytbonlmekphkahaa.hp
open Go.ChangeShapes Go.WideShapes Go.ChangeAt Go.RowKit Go.Maps
open Go.Proofs.Ytbonlmekphkahaa.kp Go.Proofs.Ytbonlmekphkahaa.cel
set_option linter.unusedVariables false
abbrev TH : TypeId := 66
theorem infoC : (Try.prog.info? 34).map (fun i => (i.zero, i.size, i.bytes)) = some (some (.int .u64 0), 1, 8) := by kernel_rfl
theorem rp2 {a b c d : Int} (h1 : a = b) (h2 : c = d) : Ending.returned (.tuple #[.int .i64 a, .int .i64 c]) = .returned (.tuple #[.int .i64 b, .int .i64 d]) := by rw [h1, h2]
section
variable {w : World} {p : Nat} {F : Nat → Prop} {l : List Int} {m : Int}
theorem new_any (n : Int) (w : World) : Calls Try.prog 8 #[.int .i64 n] w fun e w' => e = .returned (.pointer (some ⟨w.heap.size, 0, none⟩)) ∧ Made TH w [] (max 0 (min n 1048576)) w' := by
  by_cases h0 : n < 0
  · have e : max 0 (min n 1048576) = 0 := by omega
    rw [e]
    have M := Lib.hid (Made.new (m := 0) (by omega) (by omega) w TH)
    clear e
    go_enter Try.func8, Try.ntmps8; go_wp2_with fail; go_ret
    exact ⟨rfl, M.out⟩
  · by_cases h1 : 1048576 < n
    · have e : max 0 (min n 1048576) = 1048576 := by omega
      rw [e]
      have M := Lib.hid (Made.new (m := 1048576) (by omega) (by omega) w TH)
      clear e
      go_enter Try.func8, Try.ntmps8; go_wp2_with fail; go_ret
      exact ⟨rfl, M.out⟩
    · have e : max 0 (min n 1048576) = n := by omega
      rw [e]
      have M := Lib.hid (Made.new (m := n) (by omega) (by omega) w TH)
      clear e
      go_enter Try.func8, Try.ntmps8; go_wp2_with fail; go_ret
      exact ⟨rfl, M.out⟩
theorem len_any (h : Hp TH w p F l m) : Calls Try.prog 24 #[.pointer (some ⟨p, 0, none⟩)] w fun e w' => e = .returned (.int .i64 l.length) ∧ w = w' := by
  obtain ⟨a, c, c0, c1, f0, f1, hcap⟩ := h.open_
  clear h
  go_enter Try.func24, Try.ntmps24; go_wp2_with fail; go_ret
  exact ⟨rfl, rfl⟩
theorem len_nil (w : World) : Calls Try.prog 24 #[.pointer none] w fun e w' => e = .returned (.int .i64 0) ∧ w = w' := by
  go_enter Try.func24, Try.ntmps24; go_wp2_with fail; go_ret
  exact ⟨rfl, rfl⟩
theorem has_any (h : Hp TH w p F l m) (n : Int) : Calls Try.prog 30 #[.pointer (some ⟨p, 0, none⟩), .int .i64 n] w fun e w' => e = .returned (.bool (gb l n)) ∧ w = w' := by
  have hl := len_any h
  clear h
  by_cases h0 : 0 ≤ n
  · by_cases h1 : n < l.length
    · have e := Lib.hid (show gb l n = true by simp [gb, h0, h1])
      have d : decide (n < (l.length : Int)) = true := by simpa using h1
      go_enter Try.func30, Try.ntmps30; go_wp2_with fail
      refine hl.mono ?_; rintro e w' ⟨rfl, rfl⟩
      go_wp2_with fail; go_ret
      exact ⟨rb e.out.symm, rfl⟩
    · have e := Lib.hid (show gb l n = false by simp [gb, h1])
      have d : decide (n < (l.length : Int)) = false := by simpa using h1
      go_enter Try.func30, Try.ntmps30; go_wp2_with fail
      refine hl.mono ?_; rintro e w' ⟨rfl, rfl⟩
      go_wp2_with fail; go_ret
      exact ⟨rb e.out.symm, rfl⟩
  · have e := Lib.hid (show gb l n = false by simp [gb, h0])
    go_enter Try.func30, Try.ntmps30; go_wp2_with fail; go_ret
    exact ⟨rb e.out.symm, rfl⟩
theorem has_nil (n : Int) (w : World) : Calls Try.prog 30 #[.pointer none, .int .i64 n] w fun e w' => e = .returned (.bool false) ∧ w = w' := by
  have hl := len_nil w
  by_cases h0 : 0 ≤ n
  · have d : decide (n < 0) = false := by simpa using h0
    go_enter Try.func30, Try.ntmps30; go_wp2_with fail
    refine hl.mono ?_; rintro e w' ⟨rfl, rfl⟩
    go_wp2_with fail; go_ret
    exact ⟨rfl, rfl⟩
  · go_enter Try.func30, Try.ntmps30; go_wp2_with fail; go_ret
    exact ⟨rfl, rfl⟩
theorem get_any (h : Hp TH w p F l m) (n : Int) : Calls Try.prog 25 #[.pointer (some ⟨p, 0, none⟩), .int .i64 n] w fun e w' => e = .returned (.tuple #[.int .u64 (gv l n), .bool (gb l n)]) ∧ w = w' := by
  have hh := has_any h n
  have hle := h.len_le
  by_cases h0 : 0 ≤ n ∧ n < l.length
  · obtain ⟨k, rfl⟩ := Int.eq_ofNat_of_zero_le h0.1
    have hk : k < l.length := by omega
    have e1 : gb l k = true := decide_eq_true h0
    have e2 := Lib.hid (show gv l k = l.getD k 0 by unfold gv; rw [if_pos h0]; simp)
    rw [e1] at hh ⊢
    obtain ⟨g, c, c0, f0, hg, hgp, _, hc, q0, q1, c1, f1⟩ := h.at_ k hk
    generalize l.getD k 0 = x at *
    clear h h0 e1
    go_enter Try.func25, Try.ntmps25; go_wp2_with fail
    refine hh.mono ?_; rintro e w' ⟨rfl, rfl⟩
    go_wp2_with fail; go_ret2
    exact ⟨pr e2.out.symm rfl, rfl⟩
  · have e1 : gb l n = false := decide_eq_false h0
    have e2 := Lib.hid (show gv l n = 0 by unfold gv; rw [if_neg h0])
    rw [e1] at hh ⊢
    clear h h0 e1
    go_enter Try.func25, Try.ntmps25; go_wp2_with fail
    refine hh.mono ?_; rintro e w' ⟨rfl, rfl⟩
    go_wp2_with fail; go_ret2
    exact ⟨pr e2.out.symm rfl, rfl⟩
theorem get_nil (n : Int) (w : World) : Calls Try.prog 25 #[.pointer none, .int .i64 n] w fun e w' => e = .returned (.tuple #[.int .u64 0, .bool false]) ∧ w = w' := by
  have hh := has_nil n w
  go_enter Try.func25, Try.ntmps25; go_wp2_with fail
  refine hh.mono ?_; rintro e w' ⟨rfl, rfl⟩
  go_wp2_with fail; go_ret2
  exact ⟨rfl, rfl⟩
theorem set_any (h : Hp TH w p F l m) (n u : Int) (hu : W64 u) : Calls Try.prog 28 #[.pointer (some ⟨p, 0, none⟩), .int .i64 n, .int .u64 u] w fun e w' => e = .returned (.bool (gb l n)) ∧ Next TH w p F (sx l n u) m w' := by
  have hh := has_any h n
  have hle := h.len_le
  by_cases h0 : 0 ≤ n ∧ n < l.length
  · obtain ⟨k, rfl⟩ := Int.eq_ofNat_of_zero_le h0.1
    have hk : k < l.length := by omega
    have e1 : gb l k = true := decide_eq_true h0
    have e2 := Lib.hid (show sx l k u = l.set k u by unfold sx; rw [if_pos h0]; simp)
    rw [e1] at hh ⊢
    obtain ⟨g, c, c0, f0, hg, hgp, _, hc, q0, q1, c1, f1⟩ := h.at_ k hk
    have N := Lib.hid (Next.set_ h hk c0 u hu)
    generalize l.getD k 0 = x at *
    clear h h0 e1 hu
    go_enter Try.func28, Try.ntmps28; go_wp2_with fail
    refine hh.mono ?_; rintro e w' ⟨rfl, rfl⟩
    go_wp2_with fail; go_ret
    exact ⟨rfl, by rw [e2.out]; exact N.out⟩
  · have e1 : gb l n = false := decide_eq_false h0
    have e2 := Lib.hid (show sx l n u = l by unfold sx; rw [if_neg h0])
    have N := Lib.hid (Next.same h)
    rw [e1] at hh ⊢
    clear h h0 e1 hu
    go_enter Try.func28, Try.ntmps28; go_wp2_with fail
    refine hh.mono ?_; rintro e w' ⟨rfl, rfl⟩
    go_wp2_with fail; go_ret
    exact ⟨rfl, by rw [e2.out]; exact N.out⟩
theorem set_nil (n u : Int) (w : World) : Calls Try.prog 28 #[.pointer none, .int .i64 n, .int .u64 u] w fun e w' => e = .returned (.bool false) ∧ w = w' := by
  have hh := has_nil n w
  go_enter Try.func28, Try.ntmps28; go_wp2_with fail
  refine hh.mono ?_; rintro e w' ⟨rfl, rfl⟩
  go_wp2_with fail; go_ret
  exact ⟨rfl, rfl⟩
theorem cut_any (h : Hp TH w p F l m) (n : Int) : Calls Try.prog 18 #[.pointer (some ⟨p, 0, none⟩), .int .i64 n] w fun e w' => e = .returned (.bool (cb l n)) ∧ Next TH w p F (cx l n) m w' := by
  have hle := h.len_le
  by_cases h0 : 0 ≤ n ∧ n ≤ l.length
  · obtain ⟨k, rfl⟩ := Int.eq_ofNat_of_zero_le h0.1
    have hk : k ≤ l.length := by omega
    have e1 := Lib.hid (show cb l k = true from decide_eq_true h0)
    have e2 := Lib.hid (show cx l k = l.take k by unfold cx; rw [if_pos h0]; simp)
    obtain ⟨a, c, c0, c1, f0, f1, hcap⟩ := h.open_
    have N := Lib.hid (Next.cut h hk c0)
    clear h h0
    go_enter Try.func18, Try.ntmps18; go_wp2_with fail
    go_ret
    exact ⟨rb e1.out.symm, by rw [e2.out]; exact N.out⟩
  · have e1 := Lib.hid (show cb l n = false from decide_eq_false h0)
    have e2 := Lib.hid (show cx l n = l by unfold cx; rw [if_neg h0])
    have N := Lib.hid (Next.same h)
    obtain ⟨a, c, c0, c1, f0, f1, hcap⟩ := h.open_
    clear h
    by_cases hn : n < 0
    · clear h0
      go_enter Try.func18, Try.ntmps18; go_wp2_with fail
      go_ret
      exact ⟨rb e1.out.symm, by rw [e2.out]; exact N.out⟩
    · have h1 : (l.length : Int) < n := by omega
      clear h0
      go_enter Try.func18, Try.ntmps18; go_wp2_with fail
      go_ret
      exact ⟨rb e1.out.symm, by rw [e2.out]; exact N.out⟩
theorem cut_nil (n : Int) (w : World) : Calls Try.prog 18 #[.pointer none, .int .i64 n] w fun e w' => e = .returned (.bool false) ∧ w = w' := by
  go_enter Try.func18, Try.ntmps18; go_wp2_with fail
  go_ret
  exact ⟨rfl, rfl⟩
set_option maxHeartbeats 1000000 in
theorem push_any (h : Hp TH w p F l m) (u : Int) (hu : W64 u) : Calls Try.prog 16 #[.pointer (some ⟨p, 0, none⟩), .int .u64 u] w fun e w' => e = .returned (.tuple #[.int .i64 (pv l m), .int .i64 (pe l m)]) ∧ Next TH w p F (px l m u) m w' := by
  have hle := h.len_le
  obtain ⟨a, c, c0, c1, f0, f1, hcap⟩ := h.open_
  by_cases h0 : (l.length : Int) < m
  · have e1 := Lib.hid (show pv l m = l.length by unfold pv; rw [if_pos h0])
    have e2 := Lib.hid (show pe l m = 0 by unfold pe; rw [if_pos h0])
    have e3 := Lib.hid (show px l m u = l ++ [u] by unfold px; rw [if_pos h0])
    have hpl := h.lt p h.mine
    have HH := Lib.hid h
    have HC := Lib.hid c0
    have HU := Lib.hid hu
    have HR : Hid (w.ownsRow 0 34 1 (.slice a l.length c) l.length (l.map (Value.int .u64))) := by
      obtain ⟨v, hp, hr, h1, hF⟩ := h.ex
      obtain ⟨d0, _⟩ := two_cells hp
      rw [c0] at d0
      injection d0 with d0
      rw [← d0] at hr
      exact Lib.hid hr
    have HP : Hid ((Value.slice a l.length c).ownBlock ≠ some p) := by
      obtain ⟨v, hp, hr, h1, hF⟩ := h.ex
      obtain ⟨d0, _⟩ := two_cells hp
      rw [c0] at d0
      injection d0 with d0
      rw [← d0] at h1
      exact Lib.hid h1
    obtain ⟨i0, hi, hz0, hz1, hz2⟩ := info_parts infoC
    have HI := Lib.hid hi
    have HI1 := Lib.hid hz0
    have HI2 := Lib.hid hz1
    have HI3 := Lib.hid hz2
    clear h hu hi hz0 hz1 hz2
    go_enter Try.func16, Try.ntmps16
    go_wp2_with (at_builtin; refine wpList_append_own_at _ rfl (.tmp 24) (.tmp 26) 45 rfl 0 34 i0 (.int .u64 0) 1 8 Try.underlying45 HI.out HI1.out HI2.out HI3.out rfl (by decide) _ _ _ rfl (HR.out.alloc _) ⟨w.heap.size, 0, none⟩ 1 1 [.int .u64 u] rfl rfl (cell_one_new _ _ _) ?c2 ?b1 ?b2 ?b3 ?_)
    case c2 => intro z hz; simp at hz; subst hz; rfl
    case b1 => unfold maxLen; omega
    case b2 => omega
    case b3 => simp
    intro v' w2 hr2 g2 _ hat
    obtain ⟨a', c', rfl⟩ := kp.shape hr2
    have hne : some p ≠ (Value.slice a l.length c).ownBlock := fun e => HP.out e.symm
    have f0' : w2.frozen? ⟨p, 0, none⟩ = false := ((World.frozen?_of_block (a := ⟨p, 0, none⟩) (g2.block p (by simp; omega) hne)).trans (World.frozen?_alloc_past _ _ _ hpl)).trans f0
    have c0' := g2.cell (a := ⟨p, 0, none⟩) (by rw [World.cell?_alloc_past _ _ _ hpl]; exact c0) hne
    have N := Lib.hid (Next.push HH.out HC.out h0 HU.out ((Below.refl w.heap.size w).alloc (Nat.le_refl _) (.cells #[.int .u64 u] 34)) (by simpa using hr2) g2 (by simpa using hat))
    clear hne hr2 g2 hat c0 f0
    go_wp2_with fail
    go_ret2
    exact ⟨rp2 e1.out.symm e2.out.symm, by rw [e3.out]; exact N.out⟩
  · have e1 := Lib.hid (show pv l m = 0 by unfold pv; rw [if_neg h0])
    have e2 := Lib.hid (show pe l m = 4 by unfold pe; rw [if_neg h0])
    have e3 := Lib.hid (show px l m u = l by unfold px; rw [if_neg h0])
    have N := Lib.hid (Next.same h)
    clear h
    go_enter Try.func16, Try.ntmps16
    go_wp2_with fail
    go_ret2
    exact ⟨rp2 e1.out.symm e2.out.symm, by rw [e3.out]; exact N.out⟩
theorem push_nil (u : Int) (w : World) : Calls Try.prog 16 #[.pointer none, .int .u64 u] w fun e w' => e = .returned (.tuple #[.int .i64 0, .int .i64 1]) ∧ w = w' := by
  go_enter Try.func16, Try.ntmps16; go_wp2_with fail
  go_ret2
  exact ⟨rfl, rfl⟩
end
end Go.Proofs.Ytbonlmekphkahaa.hp
