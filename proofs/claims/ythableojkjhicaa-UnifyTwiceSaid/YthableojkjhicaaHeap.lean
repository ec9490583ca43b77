/- Contracts of package heap's calls, and of the reference's: answers, and what becomes of the heap. Contracts of the reference's heap (elenchusref4): the same answers as package heap's. The reference's Fun: is there a functor, its arguments too. -/
import Derived.Test.YthableojkjhicaaHp
import Derived.Test.YthableojkjhicaaCell
import Derived.Laws.OwnMore
import Derived.Maps.AppendAt
import Derived.Deep.QuietTactic
import Derived.BigQuiet
import Derived.ScopeJumps
import Derived.WalkMore
import Derived.Outline
import Derived.RegionTactic
import Derived.LoopTactic
import Derived.OwnWalk
namespace Go.Proofs.Ythableojkjhicaa.hp
open Go.ChangeShapes Go.WideShapes Go.ChangeAt Go.RowKit Go.Maps
open Go.Proofs.Ythableojkjhicaa.kp Go.Proofs.Ythableojkjhicaa.cel
set_option linter.unusedVariables false
abbrev TH : TypeId := 75
theorem infoC : (Try.prog.info? 23).map (fun i => (i.zero, i.size, i.bytes)) = some (some (.int .u64 0), 1, 8) := by kernel_rfl
theorem rp2 {a b c d : Int} (h1 : a = b) (h2 : c = d) : Ending.returned (.tuple #[.int .i64 a, .int .i64 c]) = .returned (.tuple #[.int .i64 b, .int .i64 d]) := by rw [h1, h2]
section
variable {w : World} {p : Nat} {F : Nat → Prop} {l : List Int} {m : Int}
theorem new_any (n : Int) (w : World) : Calls Try.prog 12 #[.int .i64 n] w fun e w' => e = .returned (.pointer (some ⟨w.heap.size, 0, none⟩)) ∧ Made TH w [] (max 0 (min n 1048576)) w' := by
  by_cases h0 : n < 0
  · have e : max 0 (min n 1048576) = 0 := by omega
    rw [e]
    have M := Lib.hid (Made.new (m := 0) (by omega) (by omega) w TH)
    clear e
    go_enter Try.func12, Try.ntmps12; go_wp2_with fail; go_ret
    exact ⟨rfl, M.out⟩
  · by_cases h1 : 1048576 < n
    · have e : max 0 (min n 1048576) = 1048576 := by omega
      rw [e]
      have M := Lib.hid (Made.new (m := 1048576) (by omega) (by omega) w TH)
      clear e
      go_enter Try.func12, Try.ntmps12; go_wp2_with fail; go_ret
      exact ⟨rfl, M.out⟩
    · have e : max 0 (min n 1048576) = n := by omega
      rw [e]
      have M := Lib.hid (Made.new (m := n) (by omega) (by omega) w TH)
      clear e
      go_enter Try.func12, Try.ntmps12; go_wp2_with fail; go_ret
      exact ⟨rfl, M.out⟩
theorem most_any (h : Hp TH w p F l m) : Calls Try.prog 49 #[.pointer (some ⟨p, 0, none⟩)] w fun e w' => e = .returned (.int .i64 m) ∧ w = w' := by
  obtain ⟨a, c, c0, c1, f0, f1, hcap⟩ := h.open_
  clear h
  go_enter Try.func49, Try.ntmps49; go_wp2_with fail; go_ret
  exact ⟨rfl, rfl⟩
theorem most_nil (w : World) : Calls Try.prog 49 #[.pointer none] w fun e w' => e = .returned (.int .i64 0) ∧ w = w' := by
  go_enter Try.func49, Try.ntmps49; go_wp2_with fail; go_ret
  exact ⟨rfl, rfl⟩
theorem len_any (h : Hp TH w p F l m) : Calls Try.prog 22 #[.pointer (some ⟨p, 0, none⟩)] w fun e w' => e = .returned (.int .i64 l.length) ∧ w = w' := by
  obtain ⟨a, c, c0, c1, f0, f1, hcap⟩ := h.open_
  clear h
  go_enter Try.func22, Try.ntmps22; go_wp2_with fail; go_ret
  exact ⟨rfl, rfl⟩
theorem len_nil (w : World) : Calls Try.prog 22 #[.pointer none] w fun e w' => e = .returned (.int .i64 0) ∧ w = w' := by
  go_enter Try.func22, Try.ntmps22; go_wp2_with fail; go_ret
  exact ⟨rfl, rfl⟩
theorem has_any (h : Hp TH w p F l m) (n : Int) : Calls Try.prog 89 #[.pointer (some ⟨p, 0, none⟩), .int .i64 n] w fun e w' => e = .returned (.bool (gb l n)) ∧ w = w' := by
  have hl := len_any h
  clear h
  by_cases h0 : 0 ≤ n
  · by_cases h1 : n < l.length
    · have e := Lib.hid (show gb l n = true by simp [gb, h0, h1])
      have d : decide (n < (l.length : Int)) = true := by simpa using h1
      go_enter Try.func89, Try.ntmps89; go_wp2_with fail
      refine hl.mono ?_; rintro e w' ⟨rfl, rfl⟩
      go_wp2_with fail; go_ret
      exact ⟨rb e.out.symm, rfl⟩
    · have e := Lib.hid (show gb l n = false by simp [gb, h1])
      have d : decide (n < (l.length : Int)) = false := by simpa using h1
      go_enter Try.func89, Try.ntmps89; go_wp2_with fail
      refine hl.mono ?_; rintro e w' ⟨rfl, rfl⟩
      go_wp2_with fail; go_ret
      exact ⟨rb e.out.symm, rfl⟩
  · have e := Lib.hid (show gb l n = false by simp [gb, h0])
    go_enter Try.func89, Try.ntmps89; go_wp2_with fail; go_ret
    exact ⟨rb e.out.symm, rfl⟩
theorem has_nil (n : Int) (w : World) : Calls Try.prog 89 #[.pointer none, .int .i64 n] w fun e w' => e = .returned (.bool false) ∧ w = w' := by
  have hl := len_nil w
  by_cases h0 : 0 ≤ n
  · have d : decide (n < 0) = false := by simpa using h0
    go_enter Try.func89, Try.ntmps89; go_wp2_with fail
    refine hl.mono ?_; rintro e w' ⟨rfl, rfl⟩
    go_wp2_with fail; go_ret
    exact ⟨rfl, rfl⟩
  · go_enter Try.func89, Try.ntmps89; go_wp2_with fail; go_ret
    exact ⟨rfl, rfl⟩
theorem get_any (h : Hp TH w p F l m) (n : Int) : Calls Try.prog 85 #[.pointer (some ⟨p, 0, none⟩), .int .i64 n] w fun e w' => e = .returned (.tuple #[.int .u64 (gv l n), .bool (gb l n)]) ∧ w = w' := by
  have hh := has_any h n
  have hle := h.len_le
  by_cases h0 : 0 ≤ n ∧ n < l.length
  · obtain ⟨k, rfl⟩ := Int.eq_ofNat_of_zero_le h0.1
    have hk : k < l.length := by omega
    have e1 : gb l k = true := decide_eq_true h0
    have e2 := Lib.hid (show gv l k = l.getD k 0 by unfold gv; rw [if_pos h0]; simp)
    rw [e1] at hh ⊢
    obtain ⟨g, c, c0, f0, hg, hgp, _, hc, q0, q1, c1, f1⟩ := h.at_ k hk
    generalize l.getD k 0 = x at *
    clear h h0 e1
    go_enter Try.func85, Try.ntmps85; go_wp2_with fail
    refine hh.mono ?_; rintro e w' ⟨rfl, rfl⟩
    go_wp2_with fail; go_ret2
    exact ⟨pr e2.out.symm rfl, rfl⟩
  · have e1 : gb l n = false := decide_eq_false h0
    have e2 := Lib.hid (show gv l n = 0 by unfold gv; rw [if_neg h0])
    rw [e1] at hh ⊢
    clear h h0 e1
    go_enter Try.func85, Try.ntmps85; go_wp2_with fail
    refine hh.mono ?_; rintro e w' ⟨rfl, rfl⟩
    go_wp2_with fail; go_ret2
    exact ⟨pr e2.out.symm rfl, rfl⟩
theorem get_nil (n : Int) (w : World) : Calls Try.prog 85 #[.pointer none, .int .i64 n] w fun e w' => e = .returned (.tuple #[.int .u64 0, .bool false]) ∧ w = w' := by
  have hh := has_nil n w
  go_enter Try.func85, Try.ntmps85; go_wp2_with fail
  refine hh.mono ?_; rintro e w' ⟨rfl, rfl⟩
  go_wp2_with fail; go_ret2
  exact ⟨rfl, rfl⟩
theorem set_any (h : Hp TH w p F l m) (n u : Int) (hu : W64 u) : Calls Try.prog 61 #[.pointer (some ⟨p, 0, none⟩), .int .i64 n, .int .u64 u] w fun e w' => e = .returned (.bool (gb l n)) ∧ Next TH w p F (sx l n u) m w' := by
  have hh := has_any h n
  have hle := h.len_le
  by_cases h0 : 0 ≤ n ∧ n < l.length
  · obtain ⟨k, rfl⟩ := Int.eq_ofNat_of_zero_le h0.1
    have hk : k < l.length := by omega
    have e1 : gb l k = true := decide_eq_true h0
    have e2 := Lib.hid (show sx l k u = l.set k u by unfold sx; rw [if_pos h0]; simp)
    rw [e1] at hh ⊢
    obtain ⟨g, c, c0, f0, hg, hgp, _, hc, q0, q1, c1, f1⟩ := h.at_ k hk
    have N := Lib.hid (Next.set_ h hk c0 u hu)
    generalize l.getD k 0 = x at *
    clear h h0 e1 hu
    go_enter Try.func61, Try.ntmps61; go_wp2_with fail
    refine hh.mono ?_; rintro e w' ⟨rfl, rfl⟩
    go_wp2_with fail; go_ret
    exact ⟨rfl, by rw [e2.out]; exact N.out⟩
  · have e1 : gb l n = false := decide_eq_false h0
    have e2 := Lib.hid (show sx l n u = l by unfold sx; rw [if_neg h0])
    have N := Lib.hid (Next.same h)
    rw [e1] at hh ⊢
    clear h h0 e1 hu
    go_enter Try.func61, Try.ntmps61; go_wp2_with fail
    refine hh.mono ?_; rintro e w' ⟨rfl, rfl⟩
    go_wp2_with fail; go_ret
    exact ⟨rfl, by rw [e2.out]; exact N.out⟩
theorem set_nil (n u : Int) (w : World) : Calls Try.prog 61 #[.pointer none, .int .i64 n, .int .u64 u] w fun e w' => e = .returned (.bool false) ∧ w = w' := by
  have hh := has_nil n w
  go_enter Try.func61, Try.ntmps61; go_wp2_with fail
  refine hh.mono ?_; rintro e w' ⟨rfl, rfl⟩
  go_wp2_with fail; go_ret
  exact ⟨rfl, rfl⟩
set_option maxRecDepth 100000 in
set_option maxHeartbeats 1000000 in
theorem push_any (h : Hp TH w p F l m) (u : Int) (hu : W64 u) : Calls Try.prog 79 #[.pointer (some ⟨p, 0, none⟩), .int .u64 u] w fun e w' => e = .returned (.tuple #[.int .i64 (pv l m), .int .i64 (pe l m)]) ∧ Next TH w p F (px l m u) m w' := by
  have hle := h.len_le
  obtain ⟨a, c, c0, c1, f0, f1, hcap⟩ := h.open_
  by_cases h0 : (l.length : Int) < m
  · have e1 := Lib.hid (show pv l m = l.length by unfold pv; rw [if_pos h0])
    have e2 := Lib.hid (show pe l m = 0 by unfold pe; rw [if_pos h0])
    have e3 := Lib.hid (show px l m u = l ++ [u] by unfold px; rw [if_pos h0])
    have hpl := h.lt p h.mine
    have HH := Lib.hid h
    have HC := Lib.hid c0
    have HU := Lib.hid hu
    have HR : Hid (w.ownsRow 0 23 1 (.slice a l.length c) l.length (l.map (Value.int .u64))) := by
      obtain ⟨v, hp, hr, h1, hF⟩ := h.ex
      obtain ⟨d0, _⟩ := two_cells hp
      rw [c0] at d0
      injection d0 with d0
      rw [← d0] at hr
      exact Lib.hid hr
    have HP : Hid ((Value.slice a l.length c).ownBlock ≠ some p) := by
      obtain ⟨v, hp, hr, h1, hF⟩ := h.ex
      obtain ⟨d0, _⟩ := two_cells hp
      rw [c0] at d0
      injection d0 with d0
      rw [← d0] at h1
      exact Lib.hid h1
    obtain ⟨i0, hi, hz0, hz1, hz2⟩ := info_parts infoC
    have HI := Lib.hid hi
    have HI1 := Lib.hid hz0
    have HI2 := Lib.hid hz1
    have HI3 := Lib.hid hz2
    clear h hu hi hz0 hz1 hz2
    go_enter Try.func79, Try.ntmps79
    go_wp2_with (at_builtin; refine wpList_append_own_at _ rfl (.tmp 24) (.tmp 26) 29 rfl 0 23 i0 (.int .u64 0) 1 8 Try.underlying29 HI.out HI1.out HI2.out HI3.out rfl (by decide) _ _ _ rfl (HR.out.alloc _) ⟨w.heap.size, 0, none⟩ 1 1 [.int .u64 u] rfl rfl (cell_one_new _ _ _) ?c2 ?b1 ?b2 ?b3 ?_)
    case c2 => intro z hz; simp at hz; subst hz; rfl
    case b1 => unfold maxLen; omega
    case b2 => omega
    case b3 => simp
    intro v' w2 hr2 g2 _ hat
    obtain ⟨a', c', rfl⟩ := kp.shape hr2
    have hne : some p ≠ (Value.slice a l.length c).ownBlock := fun e => HP.out e.symm
    have f0' : w2.frozen? ⟨p, 0, none⟩ = false := ((World.frozen?_of_block (a := ⟨p, 0, none⟩) (g2.block p (by simp; omega) hne)).trans (World.frozen?_alloc_past _ _ _ hpl)).trans f0
    have c0' := g2.cell (a := ⟨p, 0, none⟩) (by rw [World.cell?_alloc_past _ _ _ hpl]; exact c0) hne
    have N := Lib.hid (Next.push HH.out HC.out h0 HU.out ((Below.refl w.heap.size w).alloc (Nat.le_refl _) (.cells #[.int .u64 u] 23)) (by simpa using hr2) g2 (by simpa using hat))
    clear hne hr2 g2 hat c0 f0
    go_wp2_with fail
    go_ret2
    exact ⟨rp2 e1.out.symm e2.out.symm, by rw [e3.out]; exact N.out⟩
  · have e1 := Lib.hid (show pv l m = 0 by unfold pv; rw [if_neg h0])
    have e2 := Lib.hid (show pe l m = 4 by unfold pe; rw [if_neg h0])
    have e3 := Lib.hid (show px l m u = l by unfold px; rw [if_neg h0])
    have N := Lib.hid (Next.same h)
    clear h
    go_enter Try.func79, Try.ntmps79
    go_wp2_with fail
    go_ret2
    exact ⟨rp2 e1.out.symm e2.out.symm, by rw [e3.out]; exact N.out⟩
theorem push_nil (u : Int) (w : World) : Calls Try.prog 79 #[.pointer none, .int .u64 u] w fun e w' => e = .returned (.tuple #[.int .i64 0, .int .i64 1]) ∧ w = w' := by
  go_enter Try.func79, Try.ntmps79; go_wp2_with fail
  go_ret2
  exact ⟨rfl, rfl⟩
theorem mk0 {n : Nat} (h : (n : Int) ≤ 1048576) : mv 0 n = n * 8 ∧ mo 0 n = true ∧ W64 ((n : Int) * 8) := by
  refine ⟨?_, decide_eq_true ⟨by omega, by omega, by omega⟩, by omega, by omega⟩
  unfold mv; rw [if_pos ⟨by omega, by omega, by omega⟩]; unfold jn; omega
theorem var_any (h : Hp TH w p F l m) : Calls Try.prog 50 #[.pointer (some ⟨p, 0, none⟩)] w fun e w' => e = .returned (.tuple #[.int .i64 (pv l m), .int .i64 (pe l m)]) ∧ Next TH w p F (px l m (l.length * 8)) m w' := by
  have hle := h.len_le
  have hl := len_any h
  obtain ⟨q1, q2, q3⟩ := mk0 hle
  have hp := push_any h _ q3
  have hm := make_any 0 l.length w ⟨by omega, by omega⟩ ⟨by omega, by omega⟩
  rw [q1, q2] at hm
  clear h q1 q2 q3
  go_enter Try.func50, Try.ntmps50; go_wp2_with fail
  refine hl.mono ?_; rintro e w' ⟨rfl, rfl⟩
  go_wp2_with fail
  refine hm.mono ?_; rintro e w' ⟨rfl, rfl⟩
  go_wp2_with fail
  refine hp.mono ?_; rintro e w' ⟨rfl, N⟩
  have N := Lib.hid N
  go_wp2_with fail
  go_ret2
  exact ⟨rfl, N.out⟩
theorem var_nil (w : World) : Calls Try.prog 50 #[.pointer none] w fun e w' => e = .returned (.tuple #[.int .i64 0, .int .i64 1]) ∧ w = w' := by
  have hl := len_nil w
  have hm := make_any 0 0 w ⟨by omega, by omega⟩ ⟨by omega, by omega⟩
  rw [show mv 0 0 = 0 by decide, show mo 0 0 = true by decide] at hm
  have hp := push_nil 0 w
  go_enter Try.func50, Try.ntmps50; go_wp2_with fail
  refine hl.mono ?_; rintro e w' ⟨rfl, rfl⟩
  go_wp2_with fail
  refine hm.mono ?_; rintro e w' ⟨rfl, rfl⟩
  go_wp2_with fail
  refine hp.mono ?_; rintro e w' ⟨rfl, rfl⟩
  go_wp2_with fail
  go_ret2
  exact ⟨rfl, rfl⟩
def Jd (p : Nat) (l : List Int) (r : Int) (w : World) (a' : Act) (w' : World) : Prop :=
  ∃ (k : Nat) (c : Int) (U : Nat → Value), k ≤ l.length ∧ W64 c ∧ dr l k c = r ∧ w = w' ∧ a' = { tmps := (.pointer (some ⟨p, 0, none⟩) :: .int .u64 c :: undef :: undef :: .int .u64 0 :: .int .i64 k :: U 6 :: U 7 :: U 8 :: U 9 :: U 10 :: U 11 :: U 12 :: U 13 :: U 14 :: U 15 :: U 16 :: U 17 :: U 18 :: U 19 :: U 20 :: U 21 :: U 22 :: U 23 :: U 24 :: U 25 :: U 26 :: U 27 :: U 28 :: U 29 :: U 30 :: U 31 :: U 32 :: U 33 :: U 34 :: U 35 :: U 36 :: U 37 :: U 38 :: []).toArray, defers := [] }
theorem Jd.mk {p : Nat} {l : List Int} {r : Int} {w : World} {a' : Act} {w' : World} (k : Nat) (c : Int) (hk : k ≤ l.length) (hc : W64 c) (hr : dr l k c = r) (hw : w = w')
    (h : a' = { tmps := (.pointer (some ⟨p, 0, none⟩) :: .int .u64 c :: undef :: undef :: .int .u64 0 :: .int .i64 k :: a'.tmps.getD 6 undef :: a'.tmps.getD 7 undef :: a'.tmps.getD 8 undef :: a'.tmps.getD 9 undef :: a'.tmps.getD 10 undef :: a'.tmps.getD 11 undef :: a'.tmps.getD 12 undef :: a'.tmps.getD 13 undef :: a'.tmps.getD 14 undef :: a'.tmps.getD 15 undef :: a'.tmps.getD 16 undef :: a'.tmps.getD 17 undef :: a'.tmps.getD 18 undef :: a'.tmps.getD 19 undef :: a'.tmps.getD 20 undef :: a'.tmps.getD 21 undef :: a'.tmps.getD 22 undef :: a'.tmps.getD 23 undef :: a'.tmps.getD 24 undef :: a'.tmps.getD 25 undef :: a'.tmps.getD 26 undef :: a'.tmps.getD 27 undef :: a'.tmps.getD 28 undef :: a'.tmps.getD 29 undef :: a'.tmps.getD 30 undef :: a'.tmps.getD 31 undef :: a'.tmps.getD 32 undef :: a'.tmps.getD 33 undef :: a'.tmps.getD 34 undef :: a'.tmps.getD 35 undef :: a'.tmps.getD 36 undef :: a'.tmps.getD 37 undef :: a'.tmps.getD 38 undef :: []).toArray, defers := [] }) : Jd p l r w a' w' :=
  ⟨k, c, fun i => a'.tmps.getD i undef, hk, hc, hr, hw, h⟩
def Md (a' : Act) (_ : World) : Nat := (intOf (a'.tmps.getD 5 undef)).toNat
theorem value_gb {l : List Int} {c : Int} (hc : W64 c) (h8 : c % 8 = 0) : on l c ↔ gb l (c / 8) = true ∧ gv l (c / 8) ≠ c := by
  obtain ⟨h0, h1⟩ := hc
  unfold on gb gv
  rw [decide_eq_true_iff]
  constructor
  · rintro ⟨_, h, hn⟩
    refine ⟨⟨by omega, h⟩, ?_⟩
    rw [if_pos ⟨by omega, h⟩]; exact hn
  · rintro ⟨h, hn⟩
    rw [if_pos h] at hn
    exact ⟨h8, h.2, hn⟩
theorem dr_gv {l : List Int} {c : Int} (hc : W64 c) (h8 : c % 8 = 0) (k : Nat) (hg : gb l (c / 8) = true) (hn : gv l (c / 8) ≠ c) : dr l (k + 1) c = dr l k (gv l (c / 8)) := by
  rw [dr_on ((value_gb hc h8).2 ⟨hg, hn⟩)]
  unfold gb at hg
  unfold gv
  rw [if_pos (of_decide_eq_true hg)]
set_option maxRecDepth 100000 in
theorem deref_any (h : Hp TH w p F l m) (c0 : Int) (hc0 : W64 c0) : Calls Try.prog 70 #[.pointer (some ⟨p, 0, none⟩), .int .u64 c0] w fun e w' => e = .returned (.int .u64 (dr l l.length c0)) ∧ w = w' := by
  have hl := len_any h
  go_enter Try.func70, Try.ntmps70
  go_wp2_with fail
  refine wp_scope_jumps 0 (Jd p l (dr l l.length c0) w) Md rfl ?_ ?_
  · have hr : dr l l.length c0 = dr l l.length c0 := rfl
    obtain ⟨k, hk0⟩ : ∃ k, k = l.length := ⟨_, rfl⟩
    have hk : k ≤ l.length := Nat.le_of_eq hk0
    rw [← hk0] at hl
    conv at hr => lhs; rw [← hk0]
    clear hk0
    have HC0 := Lib.hid hc0
    have HR0 := Lib.hid hr
    clear hr hc0
    go_wp2_with fail
    refine hl.mono ?_; rintro e w' ⟨rfl, rfl⟩
    go_wp2_with fail
    refine wp_label ?_
    obtain ⟨c, hcc⟩ : ∃ c, c = c0 := ⟨_, rfl⟩
    have hr := HR0.out
    have hc := HC0.out
    clear HC0 HR0
    rw [← hcc] at hc
    conv at hr => lhs; rw [← hcc]
    rw [show (Value.int .u64 c0) = .int .u64 c from by rw [hcc]]
    clear hcc
    have HK := Lib.hid hk
    have HC := Lib.hid hc
    have HR := Lib.hid hr
    have hT := tag_any c w hc
    by_cases h8 : c % 8 = 0
    · rw [h8] at hT
      rcases k with _ | k
      · have e1 := Lib.hid (show dr l 0 c = c from rfl)
        clear hk hc hr h8
        go_wp2_with fail
        refine hT.mono ?_; rintro e w' ⟨rfl, rfl⟩
        go_wp2_with fail
        simp only [Exit.jump]
        go_ret
        exact ⟨kp.ri (e1.out.symm.trans HR.out), rfl⟩
      · have hV := value_any c w hc
        have hG := get_any h (c / 8)
        have hx := gv_w h.wf (c / 8)
        have ho := value_gb (l := l) hc h8
        have hb : wrap64 (c / 8) = c / 8 := by obtain ⟨h0, h1⟩ := hc; unfold wrap64; omega
        have h0 : 0 ≤ c / 8 := by obtain ⟨h0, h1⟩ := hc; omega
        have HD := Lib.hid (dr_gv (l := l) hc h8 k)
        have HX := Lib.hid hx
        have HO := Lib.hid ho
        have hs : wrap64 (k : Int) = k := by have := h.len_le; unfold wrap64; omega
        generalize c / 8 = q at *
        by_cases hg : gb l q = true
        · rw [hg] at hG
          by_cases hn : gv l q = c
          · have e1 := Lib.hid (dr_off (l := l) (c := c) (fun hh => (HO.out.1 hh).2 hn) (k + 1))
            rw [hn] at hG
            clear hk hc hr h8 hx ho hn hg
            go_wp2_with fail
            refine hT.mono ?_; rintro e w' ⟨rfl, rfl⟩
            go_wp2_with fail
            refine hV.mono ?_; rintro e w' ⟨rfl, rfl⟩
            go_wp2_with fail
            refine hG.mono ?_; rintro e w' ⟨rfl, rfl⟩
            go_wp2_with fail
            simp only [Exit.jump]
            go_ret
            exact ⟨kp.ri (e1.out.symm.trans HR.out), rfl⟩
          · have e1 := Lib.hid (HD.out hg hn)
            clear hk hc hr h8 hx ho hg
            generalize gv l q = x at *
            have t1 : (x == c) = false := by simpa using hn
            clear hn
            go_wp2_with fail
            refine hT.mono ?_; rintro e w' ⟨rfl, rfl⟩
            go_wp2_with fail
            refine hV.mono ?_; rintro e w' ⟨rfl, rfl⟩
            go_wp2_with fail
            refine hG.mono ?_; rintro e w' ⟨rfl, rfl⟩
            go_wp2_with fail
            go_step3
            rw [hs]
            refine ⟨rfl, Jd.mk k x (by have := HK.out; omega) HX.out (e1.out.symm.trans HR.out) rfl rfl⟩
        · simp only [Bool.not_eq_true] at hg
          rw [hg] at hG
          have e1 := Lib.hid (dr_off (l := l) (c := c) (fun hh => by have := (HO.out.1 hh).1; rw [hg] at this; cases this) (k + 1))
          clear hk hc hr h8 hx ho hg
          go_wp2_with fail
          refine hT.mono ?_; rintro e w' ⟨rfl, rfl⟩
          go_wp2_with fail
          refine hV.mono ?_; rintro e w' ⟨rfl, rfl⟩
          go_wp2_with fail
          refine hG.mono ?_; rintro e w' ⟨rfl, rfl⟩
          go_wp2_with fail
          simp only [Exit.jump]
          go_ret
          exact ⟨kp.ri (e1.out.symm.trans HR.out), rfl⟩
    · have e1 := Lib.hid (dr_off (l := l) (c := c) (fun h => h8 h.1) k)
      clear hk hc hr
      go_wp2_with fail
      refine hT.mono ?_; rintro e w' ⟨rfl, rfl⟩
      go_wp2_with fail
      simp only [Exit.jump]
      go_ret
      exact ⟨kp.ri (e1.out.symm.trans HR.out), rfl⟩
  · rintro a' w' ⟨k, c, U, hk, hc, hr, rfl, rfl⟩
    have HK := Lib.hid hk
    have HC := Lib.hid hc
    have HR := Lib.hid hr
    have hT := tag_any c w hc
    by_cases h8 : c % 8 = 0
    · rw [h8] at hT
      rcases k with _ | k
      · have e1 := Lib.hid (show dr l 0 c = c from rfl)
        clear hk hc hr h8
        go_wp2_with fail
        refine hT.mono ?_; rintro e w' ⟨rfl, rfl⟩
        go_wp2_with fail
        simp only [Exit.jump]
        go_ret
        exact ⟨kp.ri (e1.out.symm.trans HR.out), rfl⟩
      · have hV := value_any c w hc
        have hG := get_any h (c / 8)
        have hx := gv_w h.wf (c / 8)
        have ho := value_gb (l := l) hc h8
        have hb : wrap64 (c / 8) = c / 8 := by obtain ⟨h0, h1⟩ := hc; unfold wrap64; omega
        have h0 : 0 ≤ c / 8 := by obtain ⟨h0, h1⟩ := hc; omega
        have HD := Lib.hid (dr_gv (l := l) hc h8 k)
        have HX := Lib.hid hx
        have HO := Lib.hid ho
        have hs : wrap64 (k : Int) = k := by have := h.len_le; unfold wrap64; omega
        generalize c / 8 = q at *
        by_cases hg : gb l q = true
        · rw [hg] at hG
          by_cases hn : gv l q = c
          · have e1 := Lib.hid (dr_off (l := l) (c := c) (fun hh => (HO.out.1 hh).2 hn) (k + 1))
            rw [hn] at hG
            clear hk hc hr h8 hx ho hn hg
            go_wp2_with fail
            refine hT.mono ?_; rintro e w' ⟨rfl, rfl⟩
            go_wp2_with fail
            refine hV.mono ?_; rintro e w' ⟨rfl, rfl⟩
            go_wp2_with fail
            refine hG.mono ?_; rintro e w' ⟨rfl, rfl⟩
            go_wp2_with fail
            simp only [Exit.jump]
            go_ret
            exact ⟨kp.ri (e1.out.symm.trans HR.out), rfl⟩
          · have e1 := Lib.hid (HD.out hg hn)
            clear hk hc hr h8 hx ho hg
            generalize gv l q = x at *
            have t1 : (x == c) = false := by simpa using hn
            clear hn
            go_wp2_with fail
            refine hT.mono ?_; rintro e w' ⟨rfl, rfl⟩
            go_wp2_with fail
            refine hV.mono ?_; rintro e w' ⟨rfl, rfl⟩
            go_wp2_with fail
            refine hG.mono ?_; rintro e w' ⟨rfl, rfl⟩
            go_wp2_with fail
            go_step3
            rw [hs]
            refine ⟨rfl, Jd.mk k x (by have := HK.out; omega) HX.out (e1.out.symm.trans HR.out) rfl rfl, ?_⟩
            simp [Md, intOf]
        · simp only [Bool.not_eq_true] at hg
          rw [hg] at hG
          have e1 := Lib.hid (dr_off (l := l) (c := c) (fun hh => by have := (HO.out.1 hh).1; rw [hg] at this; cases this) (k + 1))
          clear hk hc hr h8 hx ho hg
          go_wp2_with fail
          refine hT.mono ?_; rintro e w' ⟨rfl, rfl⟩
          go_wp2_with fail
          refine hV.mono ?_; rintro e w' ⟨rfl, rfl⟩
          go_wp2_with fail
          refine hG.mono ?_; rintro e w' ⟨rfl, rfl⟩
          go_wp2_with fail
          simp only [Exit.jump]
          go_ret
          exact ⟨kp.ri (e1.out.symm.trans HR.out), rfl⟩
    · have e1 := Lib.hid (dr_off (l := l) (c := c) (fun h => h8 h.1) k)
      clear hk hc hr
      go_wp2_with fail
      refine hT.mono ?_; rintro e w' ⟨rfl, rfl⟩
      go_wp2_with fail
      simp only [Exit.jump]
      go_ret
      exact ⟨kp.ri (e1.out.symm.trans HR.out), rfl⟩
theorem deref_nil (c : Int) (w : World) : Calls Try.prog 70 #[.pointer none, .int .u64 c] w fun e w' => e = .returned (.int .u64 0) ∧ w = w' := by
  go_enter Try.func70, Try.ntmps70
  go_wp2_with fail
  refine wp_scope_jumps 0 (fun _ _ => False) Md rfl ?_ (fun _ _ h => h.elim)
  go_wp2_with fail
  simp only [Exit.jump]
  go_ret
  exact ⟨rfl, rfl⟩
end
end Go.Proofs.Ythableojkjhicaa.hp
namespace Go.Proofs.Ythableojkjhicaa.hp
open Go.ChangeShapes Go.WideShapes Go.ChangeAt Go.RowKit Go.Maps
open Go.Proofs.Ythableojkjhicaa.kp Go.Proofs.Ythableojkjhicaa.cel
set_option linter.unusedVariables false
theorem quiet_left {P : Program} {f : FuncId} {args : Array Value} {w : World} {n : Nat} {v : Value}
    (h : Calls P f args (w.drewN n) fun e w' => e = .returned v ∧ w.drewN n = w') : Calls P f args (w.drewN n) fun e w'' => e = .returned v ∧ ∃ m, w'' = w.drewN m :=
  h.mono fun _ _ ⟨he, hm⟩ => ⟨he, n, hm.symm⟩
theorem quiet_add_left {P : Program} {f : FuncId} {args : Array Value} {w : World} {a n : Nat} {v : Value}
    (h : Calls P f args (w.drewN (a + n)) fun e w' => e = .returned v ∧ w.drewN (a + n) = w') :
    Calls P f args (w.drewN (a + n)) fun e w'' => e = .returned v ∧ ∃ m, w'' = w.drewN (a + m) :=
  h.mono fun _ _ ⟨he, hm⟩ => ⟨he, n, hm.symm⟩
section
variable {w : World} {p : Nat} {F : Nat → Prop} {l : List Int} {m : Int}
end
end Go.Proofs.Ythableojkjhicaa.hp
namespace Go.Proofs.Ythableojkjhicaa.hp
open Go.ChangeShapes Go.WideShapes Go.ChangeAt Go.RowKit Go.Maps
open Go.Proofs.Ythableojkjhicaa.kp Go.Proofs.Ythableojkjhicaa.cel
set_option linter.unusedVariables false
/-- a functor's cell: is it one whose arguments are there -/
def fnk (l : List Int) (p : Int) : Bool := gb l p && decide (gv l p % 8 = 6) && decide (1 ≤ gv l p / 8 % 256) && decide (gv l p / 8 % 256 ≤ 20) && gb l (p + gv l p / 8 % 256)
def fna (l : List Int) (p : Int) : Int := if fnk l p = true then gv l p / 8 / 256 else 0
def fnn (l : List Int) (p : Int) : Int := if fnk l p = true then gv l p / 8 % 256 else 0
section
variable {w wr w' : World} {p : Nat} {F : Nat → Prop} {l : List Int} {m : Int}
theorem fn_no {l : List Int} {q : Int} (h : fnk l q = false) : Ending.returned (.tuple #[.int .i64 0, .int .i64 0, .bool false]) = .returned (.tuple #[.int .i64 (fna l q), .int .i64 (fnn l q), .bool (fnk l q)]) := by
  unfold fna fnn; rw [h]; rfl
theorem fn_yes {l : List Int} {q : Int} (h : fnk l q = true) : Ending.returned (.tuple #[.int .i64 (gv l q / 8 / 256), .int .i64 (gv l q / 8 % 256), .bool true]) = .returned (.tuple #[.int .i64 (fna l q), .int .i64 (fnn l q), .bool (fnk l q)]) := by
  unfold fna fnn; rw [h]; rfl
end
end Go.Proofs.Ythableojkjhicaa.hp
