/- The reference's Depth of a good term. -/
import Derived.Test.YtedbcmagjbgbjaaGreatDoorRMay
import Derived.Deep.LoopGhost
namespace Go.Proofs.YtedbcmagjbgbjaaGreatDoor.rdp
set_option linter.unusedVariables false
open Go.ChangeShapes Go.WideShapes Go.ChangeAt Go.RowKit
open Go.Proofs.YtedbcmagjbgbjaaGreatDoor.tm Go.Proofs.YtedbcmagjbgbjaaGreatDoor.lie Go.Proofs.YtedbcmagjbgbjaaGreatDoor.kp Go.Proofs.YtedbcmagjbgbjaaGreatDoor.cur Go.Proofs.YtedbcmagjbgbjaaGreatDoor.pln Go.Proofs.YtedbcmagjbgbjaaGreatDoor.pla Go.Proofs.YtedbcmagjbgbjaaGreatDoor.wlk Go.Proofs.YtedbcmagjbgbjaaGreatDoor.vrs Go.Proofs.YtedbcmagjbgbjaaGreatDoor.rmy Go.Proofs.YtedbcmagjbgbjaaGreatDoor.rws
theorem heightL_next {l : List Tm} {k : Nat} (hk : k < l.length) : heightL (l.take (k + 1)) = max (heightL (l.take k)) (height l[k]) := by
  rw [List.take_succ_eq_append_getElem hk]
  generalize l.take k = r
  induction r with
  | nil => simp [heightL]
  | cons a r ih => rw [List.cons_append, heightL, ih, heightL, Nat.max_assoc]
def DRel (w : World) (l : List Tm) (g : Nat) (s3 s12 : Value) (wr : World) : Prop := ∃ k : Nat, k ≤ l.length ∧ g = l.length - k ∧ s12 = .int .i64 k ∧ s3 = .int .i64 (heightL (l.take k) : Nat) ∧ Below w.heap.size w wr
set_option maxRecDepth 100000 in
set_option maxHeartbeats 1000000 in
theorem rdepth_any (t : Tm) : ∀ (v : Value) (w : World), Lies No w t v → sound t = true → height t ≤ 500 → Calls Tryz.prog 44 #[v] w fun e w' => e = .returned (.int .i64 (height t : Nat)) ∧ Below w.heap.size w w' := by
  induction t using Tm.ind with
  | h k n i re im l ih =>
    intro v w ht hs hh
    rw [Lies] at ht
    obtain ⟨a, c, rfl, hf, hr⟩ := ht
    have HR := Lib.hid hr
    have IH := Lib.hid ih
    have HS := Lib.hid hs
    clear hf hr ih hs
    by_cases h5 : k = 5
    · subst h5
      have hH : height (.mk 5 n i re im l) = 1 + heightL l := by simp [height]
      rw [hH] at hh ⊢
      have hle := (heightL_le (l := l) (m := 499)).1 (by omega)
      have HLE := Lib.hid hle
      clear hle hH
      have hl20 : l.length ≤ 20 := by have := sound_chk HS.out; simp only [chk] at this; simp at this; omega
      go_enter Tryz.func44, Tryz.ntmps44
      go_wp2_with fail
      go_loopg [3, 12] l.length (DRel w l)
      case atStart => exact ⟨0, by omega, by omega, rfl, rfl, ba _ _⟩
      case round =>
        obtain ⟨kk, hk, rfl, rfl, rfl, hb⟩ := hrel
        by_cases hlt : kk < l.length
        · obtain ⟨b1, o1, v0, v1, v2, v3, v4, v5, hbl, _, h6, hlx, hix⟩ := HR.out.look hlt
          have h6' := h6.keep (X := No) (Keep.of_below hb) id
          have hix' := hix c
          obtain ⟨kp, np, ip, rp, mp, lp, ap, cp, hv, _⟩ := lies_form hlx
          obtain ⟨rfl, rfl, rfl, rfl, rfl, rfl⟩ := hv
          obtain ⟨e0, e1, e2, e3, e4, e5⟩ := h6'
          have hmem := List.getElem_mem hlt
          have hm : heightL (l.take kk) ≤ 499 := heightL_le.2 fun x hx => HLE.out x (List.mem_of_mem_take hx)
          obtain ⟨D, hD⟩ : ∃ D, D = heightL (l.take kk) := ⟨_, rfl⟩
          obtain ⟨X, hX⟩ : ∃ X, X = height l[kk] := ⟨_, rfl⟩
          have hx499 := HLE.out _ hmem
          rw [← hX] at hx499
          have HN := Lib.hid (heightL_next hlt)
          rw [← hD, ← hX] at HN
          rw [← hD] at hm ⊢
          have HX := Lib.hid (And.intro (hlx.below hb) (And.intro hb (And.intro (IH.out _ hmem) (And.intro (sound_args HS.out rfl _ hmem) (And.intro (HLE.out _ hmem) hX)))))
          have HDh := Lib.hid hD
          clear h6 hlx hix hb hmem hD hX
          have hmax : ∀ ty w, (Builtin.max_ #[3, 3] ty #[.int .i64 (D : Int), .int .i64 (X : Int)]).run Tryz.prog w = .ok (.int .i64 ((max D X : Nat) : Int)) w := by
            intro ty w
            have e : (if (X : Int) > D then (X : Int) else D) = ((max D X : Nat) : Int) := by split <;> omega
            simp only [Builtin.max_, List.foldlM_cons, List.foldlM_nil, Builtin.max2, e]
            rfl
          go_wp2_with fail
          refine (HX.out.2.2.1 _ _ (HX.out.1.below (ba _ _)) HX.out.2.2.2.1 (by have := HX.out.2.2.2.2.1; omega)).mono ?_
          rintro e w4 ⟨rfl, hb4⟩
          rw [← HX.out.2.2.2.2.2]
          have HB4 := Lib.hid (HX.out.2.1.trans ((bt (ba wr _) hb4).mono HX.out.2.1.size))
          clear hb4 e0 e1 e2 e3 e4 e5
          go_wp2_with fail
          go_roundg (l.length - (kk + 1))
          case measure => omega
          case rel => exact ⟨kk + 1, hlt, rfl, by go_num, by rw [HN.out], HB4.out⟩
        · have HB := Lib.hid hb
          have hkk : kk = l.length := by omega
          subst hkk
          rw [List.take_length]
          clear hb
          go_wp2_with fail
          go_ret
          exact ⟨ri (by omega), HB.out⟩
    · have hH : height (.mk k n i re im l) = 1 := by simp [height, h5]
      have q : (k == 5) = false := by rw [beq_eq_false_iff_ne]; exact h5
      rw [hH]
      clear h5 hh hH
      go_enter Tryz.func44, Tryz.ntmps44
      go_wp2_with fail
      go_ret
      exact ⟨rfl, ba _ _⟩
/-- Depth of a good term -/
theorem rDepth_good (t : Tm) (v : Value) (w : World) (ht : Lies No w t v) (hg : good t = true) : Calls Tryz.prog 18 #[v] w fun e w' => e = .returned (.int .i64 (height t : Nat)) ∧ Below w.heap.size w w' := by
  have hne : (may t != 0) = false := by rw [bne_eq_false_iff_eq]; exact may_good hg
  have hh : height t ≤ 500 := by simp only [good, Bool.and_eq_true, decide_eq_true_eq] at hg; exact hg.1.2
  have HG := Lib.hid (And.intro (good_sound hg) hh)
  obtain ⟨T, hT⟩ : ∃ T, T = t := ⟨_, rfl⟩
  have HT := Lib.hid (show Lies No w T v from hT ▸ ht)
  rw [← hT] at HG hne ⊢
  obtain ⟨k, n, i, re, im, l⟩ := t
  rw [Lies] at ht
  obtain ⟨a, c, rfl, hf, hr⟩ := ht
  clear hf hr hg hT hh
  go_enter Tryz.func18, Tryz.ntmps18
  go_wp2_with fail
  refine (rMay_any _ _ _ (HT.out.below (ba _ _))).mono ?_
  rintro e w1 ⟨rfl, hb⟩
  have hbx := (hb.block w.heap.size (by rw [alloc_size]; omega)).trans (alloc_at w _)
  obtain ⟨⟨e0, e1, e2, e3, e4, e5⟩, _⟩ := blk_facts hbx
  have HB := Lib.hid (bt (ba w _) hb)
  clear hb hbx
  go_wp2_with fail
  refine (rdepth_any T _ _ (HT.out.below HB.out) HG.out.1 HG.out.2).mono ?_
  rintro e w2 ⟨rfl, hb⟩
  have HB2 := Lib.hid (bt HB.out hb)
  clear hb
  go_wp2_with fail
  go_ret
  exact ⟨rfl, HB2.out⟩
/-- Nodes of a good term -/
theorem rNodes_good (t : Tm) (v : Value) (w : World) (ht : Lies No w t v) (hg : good t = true) : Calls Tryz.prog 17 #[v] w fun e w' => e = .returned (.int .i64 (size t)) ∧ Below w.heap.size w w' := by
  have HG := Lib.hid hg
  have HE := Lib.hid (rst_may t)
  have HN := Lib.hid (rst_nodes t)
  obtain ⟨T, hT⟩ : ∃ T, T = t := ⟨_, rfl⟩
  rw [← hT] at HG HE HN ⊢
  have HT := Lib.hid (show Lies No w T v from hT ▸ ht)
  obtain ⟨k, n, i, re, im, l⟩ := t
  rw [Lies] at ht
  obtain ⟨a, c, rfl, hf, hr⟩ := ht
  clear hf hr hg hT
  go_enter Tryz.func17, Tryz.ntmps17
  go_wp2_with fail
  refine (rmay_any _ _ (w.heap.size + 1) 1 0 0 _ ((((HT.out.off (Y := fun k => k = w.heap.size + 1) fun b h1 h2 => by omega)).below (ba _ _)).below (ba _ _)) ?_ (by omega) (by omega) (fun _ => by omega) (by omega)).mono ?_
  · have := alloc_at (w.alloc (.cells #[.int .i64 k, .string n, .int .i64 i, .int .u64 re, .int .u64 im, .slice a l.length c] 27)) (WO 0 0)
    rwa [alloc_size] at this
  rintro e w1 ⟨rfl, hk, hp⟩
  obtain ⟨q0, q1, q2, q3, _⟩ := at_p hp
  rw [HE.out, may_good HG.out] at q1
  have hN : ((pre 1 T).foldl rst (0, 0)).1 = size T := by
    have := HN.out
    rw [HE.out, may_good HG.out, if_pos rfl, nodes_good HG.out] at this
    exact this
  rw [hN] at q0
  have HB := Lib.hid ((bt (ba w _) (ba _ _)).trans (hk.to_below (fun i h => by subst h; omega) (by simp only [alloc_size]; omega)))
  clear hk hp hN
  go_wp2_with fail
  go_ret
  exact ⟨rfl, HB.out⟩
end Go.Proofs.YtedbcmagjbgbjaaGreatDoor.rdp
