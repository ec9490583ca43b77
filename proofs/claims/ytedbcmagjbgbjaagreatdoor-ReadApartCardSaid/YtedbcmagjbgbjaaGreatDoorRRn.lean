/- The reference's vars, Vars. The reference's plainOne, named. The reference's RenameFrom (from 0), Rename. The reference's Variant of good terms. -/
import Derived.Test.YtedbcmagjbgbjaaGreatDoorRSm
import Derived.Deep.AppendLies
import Derived.Test.YtedbcmagjbgbjaaGreatDoorPl
import Derived.Test.YtedbcmagjbgbjaaGreatDoorRm
import Derived.Deep.RegionHeld3
namespace Go.Proofs.YtedbcmagjbgbjaaGreatDoor.rvs
set_option linter.unusedVariables false
open Go.ChangeShapes Go.WideShapes Go.ChangeAt Go.RowKit
open Go.Proofs.YtedbcmagjbgbjaaGreatDoor.tm Go.Proofs.YtedbcmagjbgbjaaGreatDoor.lie Go.Proofs.YtedbcmagjbgbjaaGreatDoor.kp Go.Proofs.YtedbcmagjbgbjaaGreatDoor.cur Go.Proofs.YtedbcmagjbgbjaaGreatDoor.rws Go.Proofs.YtedbcmagjbgbjaaGreatDoor.vrs Go.Proofs.YtedbcmagjbgbjaaGreatDoor.ren Go.Proofs.YtedbcmagjbgbjaaGreatDoor.rmy Go.Proofs.YtedbcmagjbgbjaaGreatDoor.sme
theorem grown_v {w w4 : World} {o : Obj} {v : Value} (h : (w.alloc o).grownBy w4 v.ownBlock) : Keep (fun k => v.ownBlock = some k) w w4 :=
  (Keep.of_below (F := fun k => v.ownBlock = some k) (ba w o)).trans (Keep.of_grown (F := fun k => v.ownBlock = some k) h fun k e => e) fun _ => Or.inl
/-- the answer: these numbers, in a slice of one's own -/
def VT (B : Nat) (r : List Int) (v : Value) (w : World) (e : Ending) (w' : World) : Prop :=
  ∃ a' c', e = .returned (.slice a' r.length c') ∧ w'.ownsRow B 2 1 (.slice a' r.length c') r.length (r.map (Value.int .i64)) ∧ Keep (fun k => v.ownBlock = some k) w w' ∧ ∀ k, (Value.slice a' r.length c').ownBlock = some k → v.ownBlock = some k ∨ w.heap.size ≤ k
def R1 (acc : List Int) (x : Int) (w1 : World) (g : Nat) (s14 : Value) (wr : World) : Prop := ∃ k : Nat, k ≤ acc.length ∧ g = acc.length - k ∧ s14 = .int .i64 k ∧ wr = w1 ∧ x ∉ acc.take k
def R2 (B : Nat) (acc : List Int) (v : Value) (l : List Tm) (w : World) (g : Nat) (s1 s35 : Value) (wr : World) : Prop :=
  ∃ (k : Nat) (r : List Int) (a' : Option Addr) (c' : Nat), k ≤ l.length ∧ g = l.length - k ∧ r = (occL (l.take k)).foldl addv acc ∧ s1 = .slice a' r.length c' ∧ s35 = .int .i64 k ∧ wr.ownsRow B 2 1 (.slice a' r.length c') r.length (r.map (Value.int .i64)) ∧ Keep (fun k => v.ownBlock = some k) w wr ∧ ∀ k, (Value.slice a' r.length c').ownBlock = some k → v.ownBlock = some k ∨ w.heap.size ≤ k
theorem tk {l : List Int} {k : Nat} (hk : k < l.length) : l.take (k + 1) = l.take k ++ [l[k]] := by rw [List.take_succ_eq_append_getElem hk]
theorem tkT {l : List Tm} {k : Nat} (hk : k < l.length) : l.take (k + 1) = l.take k ++ [l[k]] := by rw [List.take_succ_eq_append_getElem hk]
theorem occL_snoc (l : List Tm) (t : Tm) : occL (l ++ [t]) = occL l ++ occ t := by rw [occL_flat, occL_flat]; simp
theorem row_base {w : World} {B B' e n : Nat} {v : Value} {xs : List Value} (h : w.ownsRow B e 1 v n xs) (hb : B' ≤ B) : w.ownsRow B' e 1 v n xs := by
  obtain ⟨hl, hr⟩ := h
  refine ⟨hl, ?_⟩
  rcases hr with hr | ⟨g, cap, cur, rfl, hg0, q⟩
  · exact Or.inl hr
  · exact Or.inr ⟨g, cap, cur, rfl, Nat.le_trans hb hg0, q⟩
set_option maxRecDepth 100000 in
set_option maxHeartbeats 1000000 in
theorem rvars_any (B : Nat) (t : Tm) : ∀ (acc : List Int) (vt : Value) (a : Option Addr) (c : Nat) (w : World), B ≤ w.heap.size → Lies (fun k => B ≤ k) w t vt → w.ownsRow B 2 1 (.slice a acc.length c) acc.length (acc.map (Value.int .i64)) → acc.length + (occ t).length ≤ 4000 → sound t = true →
    Calls Tryz.prog 50 #[vt, .slice a acc.length c] w (VT B ((occ t).foldl addv acc) (.slice a acc.length c) w) := by
  induction t using Tm.ind with
  | h k n i re im l ih =>
    intro acc vt a c w hB ht ho hn hs
    have IH := Lib.hid ih
    have HT := Lib.hid ht
    rw [Lies] at ht
    obtain ⟨at', ct, rfl, hf, hr⟩ := ht
    have HR := Lib.hid (And.intro hr (And.intro ho hB))
    have HS := Lib.hid hs
    have hkd := Go.Proofs.YtedbcmagjbgbjaaGreatDoor.tm.chk_kind (sound_chk hs)
    simp only [Tm.kind] at hkd
    clear hf hr ih hs ho hB
    by_cases h1 : k = 1
    · subst h1
      clear hkd
      have hoc : (occ (.mk 1 n i re im l)).foldl addv acc = addv acc i := by simp [occ]
      have hac : acc.length ≤ 4000 := by omega
      rw [hoc]
      clear hoc hn
      obtain ⟨ij, hi1, hi2, hi3, hi4⟩ := info_parts infoI
      have HI := Lib.hid (And.intro hi1 (And.intro hi2 (And.intro hi3 hi4)))
      clear hi1 hi2 hi3 hi4
      go_enter Tryz.func50, Tryz.ntmps50
      go_wp2_with fail
      obtain ⟨w1, hw1⟩ : ∃ w1, w1 = w.alloc (.cells #[.int .i64 1, .string n, .int .i64 i, .int .u64 re, .int .u64 im, .slice at' l.length ct] 27) := ⟨_, rfl⟩
      have hbx : w1.heap[w.heap.size]? = some (.cells #[.int .i64 1, .string n, .int .i64 i, .int .u64 re, .int .u64 im, .slice at' l.length ct] 27 (0, 0)) := by rw [hw1]; exact alloc_at _ _
      have hb1 : Below w.heap.size w w1 := by rw [hw1]; exact ba _ _
      have ho1 : w1.ownsRow B 2 1 (.slice a acc.length c) acc.length (acc.map (Value.int .i64)) := row_keep HR.out.2.1 fun k e => hb1.block k (HR.out.2.1.lt k e).2
      rw [← hw1]
      have HW := Lib.hid (And.intro hbx (And.intro hb1 ho1))
      clear hw1 hbx hb1 ho1
      go_loopg [14] acc.length (R1 acc i w1)
      case atStart => exact ⟨0, by omega, by omega, rfl, rfl, by simp⟩
      case round =>
        obtain ⟨kk, hk, rfl, rfl, rfl, hni⟩ := hrel
        obtain ⟨⟨_, _, e2, _, _, _⟩, _⟩ := blk_facts HW.out.1
        by_cases hlt : kk < acc.length
        · obtain ⟨g, hg1, hg2, hg3, _, hg4⟩ := ints_look HW.out.2.2 hlt
          have hnx := tk hlt
          generalize hx : acc[kk] = x at hg1 hnx
          have HN := Lib.hid (And.intro hni (And.intro hnx hx))
          have hmem : acc[kk] ∈ acc := List.getElem_mem hlt
          rw [hx] at hmem
          have HM := Lib.hid hmem
          clear hni hnx hx hg2 hg3 hmem
          by_cases hxi : x = i
          · subst hxi
            go_wp2_with fail
            go_ret
            have : addv acc x = acc := by unfold addv; rw [if_pos HM.out]
            rw [this]
            exact ⟨a, c, rfl, HW.out.2.2, Keep.of_below HW.out.2.1, fun k e => Or.inl e⟩
          · have hq : (x == i) = false := by rw [beq_eq_false_iff_ne]; exact hxi
            have HXI := Lib.hid hxi
            clear hxi
            go_wp2_with fail
            go_roundg (acc.length - (kk + 1))
            case measure => omega
            case rel =>
              refine ⟨kk + 1, hlt, rfl, by go_num, rfl, ?_⟩
              rw [HN.out.2.1]
              intro hm
              rcases List.mem_append.1 hm with hm | hm
              · exact HN.out.1 hm
              · rw [List.mem_singleton] at hm; exact HXI.out hm.symm
        · have hkv : kk = acc.length := by omega
          subst hkv
          rw [List.take_length] at hni
          have HN := Lib.hid hni
          clear hni
          go_wp2_with (at_builtin; refine wpList_append_lies _ rfl (.tmp 24) (.tmp 27) 55 rfl B 2 ij (.int .i64 0) 1 8 Tryz.underlying55 HI.out.1 HI.out.2.1 HI.out.2.2.1 HI.out.2.2.2 rfl (by decide) _ acc.length (acc.map (Value.int .i64)) rfl (row_keep HW.out.2.2 fun k e => (ba _ _).block k (HW.out.2.2.lt k e).2) ⟨wr.heap.size, 0, none⟩ 1 1 [.int .i64 i] rfl rfl (cell_one_new _ _ _) ?ac1 (by omega) ?ac2 ?ac3 ?ac4 _ rfl ?_)
          case ac1 => intro u hu; simp only [List.mem_singleton] at hu; subst hu; rfl
          case ac2 => unfold maxLen; omega
          case ac3 => omega
          case ac4 => have := HR.out.2.2; have := HW.out.2.1.size; rw [alloc_size]; omega
          intro g' c' w9 ho9 hg9 ha9 hl9
          have H9 := Lib.hid (And.intro ho9 (And.intro (grown_v hg9) (ha9.imp id fun e => (show wr.heap.size ≤ g' by omega))))
          clear ho9 hg9 ha9 hl9
          go_wp2_with fail
          go_ret
          have : addv acc i = acc ++ [i] := by unfold addv; rw [if_neg HN.out]
          rw [this]
          refine ⟨some ⟨g', 0, none⟩, c', by simp, by simpa using H9.out.1, (Keep.of_below (F := fun k => (Value.slice a acc.length c).ownBlock = some k) HW.out.2.1).trans H9.out.2.1 fun _ => Or.inl, fun k e => ?_⟩
          simp only [Value.ownBlock, Option.some.injEq] at e
          subst e
          rcases H9.out.2.2 with h | h
          · exact Or.inl h
          · exact Or.inr (by have := HW.out.2.1.size; omega)
    · have hk1 : (k == 1) = false := by rw [beq_eq_false_iff_ne]; exact h1
      by_cases h5 : k = 5
      · subst h5
        clear hkd h1 hk1
        have hl20 : l.length ≤ 20 := by have := sound_chk HS.out; simp only [chk] at this; simp at this; omega
        have hoc : occ (.mk 5 n i re im l) = occL l := by simp [occ]
        rw [hoc] at hn ⊢
        have HN := Lib.hid (And.intro hn hoc)
        clear hn hoc
        go_enter Tryz.func50, Tryz.ntmps50
        go_wp2_with fail
        go_loopg [1, 35] l.length (R2 B acc (.slice a acc.length c) l w)
        case atStart => exact ⟨0, acc, a, c, by omega, by omega, by simp [occL], rfl, rfl, row_keep HR.out.2.1 fun k e => (ba w _).block k (HR.out.2.1.lt k e).2, Keep.of_below (ba _ _), fun k e => Or.inl e⟩
        case round =>
          obtain ⟨kk, r, a2, c2, hk, rfl, hr, rfl, rfl, ho, hkp, hown⟩ := hrel
          have hFB : ∀ q, (Value.slice a acc.length c).ownBlock = some q → B ≤ q := fun q e => (HR.out.2.1.lt q e).1
          by_cases hlt : kk < l.length
          · obtain ⟨b1, o1, v0, v1, v2, v3, v4, v5, hbl, hnx, h6, hlx, hix⟩ := HR.out.1.look hlt
            have h6' := h6.keep (X := fun q => B ≤ q) (hkp.mono hFB) hnx
            have hix' := hix ct
            have hmem := List.getElem_mem hlt
            have hlx' := Lies.keep (hkp.mono (G := fun q => B ≤ q) hFB) (fun _ _ => id) _ _ hlx
            obtain ⟨kq, nq, iq, req, imq, lq, aq, cq, hv, _⟩ := lies_form hlx
            obtain ⟨rfl, rfl, rfl, rfl, rfl, rfl⟩ := hv
            obtain ⟨e0, e1, e2, e3, e4, e5⟩ := h6'
            have hb2 := ba wr (.cells #[.int .i64 kq, .string nq, .int .i64 iq, .int .u64 req, .int .u64 imq, .slice aq lq cq] 27)
            have ho2 := row_keep ho fun k e => hb2.block k (ho.lt k e).2
            have hlen : r.length + (occ l[kk]).length ≤ 4000 := by
              have h0 := fold_len (occL (l.take kk)) acc
              rw [← hr] at h0
              have h1 : (occL (l.take (kk + 1))).length ≤ (occL l).length := by
                conv => rhs; rw [← List.take_append_drop (kk + 1) l, occL_flat, List.flatMap_append, List.length_append, ← occL_flat]
                omega
              rw [tkT hlt, occL_snoc, List.length_append] at h1
              have := HN.out.1
              omega
            have HX := Lib.hid (And.intro hr (And.intro hkp (And.intro hown (And.intro (hlx'.below hb2) (And.intro ho2 (And.intro hlen (And.intro (IH.out _ hmem) (sound_args HS.out rfl _ hmem))))))))
            clear hr hkp hown h6 hlx hlx' hix ho ho2 hlen hb2 hmem hnx
            go_wp2_with fail
            refine (HX.out.2.2.2.2.2.2.1 r _ a2 c2 _ (by have := HX.out.2.1.size; have := HR.out.2.2; rw [alloc_size]; omega) HX.out.2.2.2.1 HX.out.2.2.2.2.1 HX.out.2.2.2.2.2.1 HX.out.2.2.2.2.2.2.2).mono ?_
            rintro e w3 ⟨a3, c3, rfl, ho3, hk3, hq3⟩
            have H3 := Lib.hid (And.intro ho3 (And.intro hk3 hq3))
            clear ho3 hk3 hq3 e0 e1 e2 e3 e4 e5
            go_wp2_with fail
            go_roundg (l.length - (kk + 1))
            case measure => omega
            case rel =>
              have hkk := HX.out.2.1
              have hsz := hkk.size
              refine ⟨kk + 1, _, a3, c3, hlt, rfl, ?_, rfl, by go_num, H3.out.1, ?_, fun q e => ?_⟩
              · rw [HX.out.1, tkT hlt, occL_snoc, List.foldl_append]
              · refine hkk.trans ((Keep.of_below (F := fun k => (Value.slice a2 r.length c2).ownBlock = some k) (ba _ _)).trans H3.out.2.1 fun _ => Or.inl) fun q e => ?_
                rcases HX.out.2.2.1 q e with h | h
                · exact Or.inl h
                · exact Or.inr h
              · rcases H3.out.2.2 q e with h | h
                · exact HX.out.2.2.1 q h
                · exact Or.inr (by rw [alloc_size] at h; omega)
          · have hkv : kk = l.length := by omega
            subst hkv
            rw [List.take_length] at hr
            have HX := Lib.hid (And.intro hr (And.intro ho (And.intro hkp hown)))
            clear hr ho hkp hown
            go_wp2_with fail
            go_ret
            rw [← HX.out.1]
            exact ⟨a2, c2, rfl, HX.out.2⟩
      · have hk5 : (k == 5) = false := by rw [beq_eq_false_iff_ne]; exact h5
        have HO : Hid (occ (.mk k n i re im l) = []) := Lib.hid (by simp [occ, h1, h5])
        rw [HO.out]
        clear hkd h1 h5 hn
        go_enter Tryz.func50, Tryz.ntmps50
        go_wp2_with fail
        go_ret
        exact ⟨a, c, rfl, row_keep HR.out.2.1 fun k e => (ba w _).block k (HR.out.2.1.lt k e).2, Keep.of_below (ba _ _), fun k e => Or.inl e⟩
theorem rVars_any (t : Tm) (v : Value) (w : World) (ht : Lies No w t v) : Calls Tryz.prog 25 #[v] w (VOut (vars t) w) := by
  have HT := Lib.hid ht
  unfold vars
  cases hg : good t
  · have hne : (may t != 0) = true := by rw [bne_iff_ne]; have := may_nogood hg; omega
    have HV : Hid ((if (false = true) then (occ t).foldl addv [] else []) = []) := Lib.hid (by simp)
    rw [HV.out]
    clear hg
    obtain ⟨k, n, i, re, im, l⟩ := t
    rw [Lies] at ht
    obtain ⟨a, c, rfl, hf, hr⟩ := ht
    clear hf hr
    go_enter Tryz.func25, Tryz.ntmps25
    go_wp2_with fail
    refine (rMay_any _ _ _ (HT.out.below (ba _ _))).mono ?_
    rintro e w1 ⟨rfl, hb⟩
    have HB := Lib.hid (bt (ba w _) hb)
    clear hb
    go_wp2_with fail
    go_ret
    exact ⟨_, rfl, World.ownsRow_nil _ _ _ _, HB.out⟩
  · have HV : Hid ((if (true = true) then (occ t).foldl addv [] else []) = (occ t).foldl addv []) := Lib.hid (by simp)
    rw [HV.out]
    have HM := Lib.hid (may_good hg)
    have HS := Lib.hid (good_sound hg)
    have HO := Lib.hid (show (occ t).length ≤ 2000 by
      have := occ_len t
      simp only [good, Bool.and_eq_true, decide_eq_true_eq] at hg
      omega)
    clear hg
    obtain ⟨k, n, i, re, im, l⟩ := t
    rw [Lies] at ht
    obtain ⟨a, c, rfl, hf, hr⟩ := ht
    clear hf hr
    go_enter Tryz.func25, Tryz.ntmps25
    go_wp2_with fail
    refine (rMay_any _ _ _ (HT.out.below (ba _ _))).mono ?_
    rintro e w1 ⟨rfl, hb⟩
    rw [HM.out]
    obtain ⟨hz, hlt⟩ := box_at hb
    have HB := Lib.hid (bt (ba w _) hb)
    obtain ⟨⟨x0, x1, x2, x3, x4, x5⟩, _⟩ := blk_facts hz
    clear hb hz
    go_wp2_with fail
    refine (rvars_any w1.heap.size _ [] _ none 0 w1 (Nat.le_refl _) ((HT.out.below HB.out).off fun b h1 h2 => absurd h1 (by omega)) (World.ownsRow_nil _ _ _ _) (by have := HO.out; simp; omega) HS.out).mono ?_
    rintro e w2 ⟨a2, c2, rfl, ho, hk, _⟩
    have HQ := Lib.hid (And.intro (row_base ho HB.out.size) (HB.out.trans (hk.to_below (fun k e => by cases e) HB.out.size)))
    clear ho hk x0 x1 x2 x3 x4 x5
    go_wp2_with fail
    go_ret
    exact ⟨_, rfl, HQ.out⟩
end Go.Proofs.YtedbcmagjbgbjaaGreatDoor.rvs
namespace Go.Proofs.YtedbcmagjbgbjaaGreatDoor.nmd
set_option linter.unusedVariables false
open Go.ChangeShapes Go.WideShapes Go.ChangeAt Go.RowKit Go.Maps
open Go.Proofs.YtedbcmagjbgbjaaGreatDoor.tm Go.Proofs.YtedbcmagjbgbjaaGreatDoor.lie Go.Proofs.YtedbcmagjbgbjaaGreatDoor.kp Go.Proofs.YtedbcmagjbgbjaaGreatDoor.cur Go.Proofs.YtedbcmagjbgbjaaGreatDoor.pln Go.Proofs.YtedbcmagjbgbjaaGreatDoor.pla Go.Proofs.YtedbcmagjbgbjaaGreatDoor.wlk Go.Proofs.YtedbcmagjbgbjaaGreatDoor.ow6 Go.Proofs.YtedbcmagjbgbjaaGreatDoor.rws Go.Proofs.YtedbcmagjbgbjaaGreatDoor.rsm Go.Proofs.YtedbcmagjbgbjaaGreatDoor.rpl Go.Proofs.YtedbcmagjbgbjaaGreatDoor.ren Go.Proofs.YtedbcmagjbgbjaaGreatDoor.vrs Go.Proofs.YtedbcmagjbgbjaaGreatDoor.awk Go.Proofs.YtedbcmagjbgbjaaGreatDoor.sme
/-- plain of a compound without arguments -/
theorem rplain_nil (n : ByteArray) (i re im : Int) (w : World) (hn : n.size ≤ 9223372036854775807) : Calls Tryz.prog 53 #[.agg #[.int .i64 5, .string n, .int .i64 i, .int .u64 re, .int .u64 im, .slice none 0 0]] w fun e w' => e = .returned (.agg #[.int .i64 5, .string n, .int .i64 0, .int .u64 0, .int .u64 0, .slice none 0 0]) ∧ Below w.heap.size w w' := by
  go_enter Tryz.func53, Tryz.ntmps53
  go_wp2_with fail
  obtain ⟨w1, hw1⟩ : ∃ w1, w1 = (((w.alloc (.cells #[.int .i64 5, .string n, .int .i64 i, .int .u64 re, .int .u64 im, .slice none 0 0] 27)).alloc ZT).alloc (.cells #[.int .i64 5, .string n, .int .i64 0, .int .u64 0, .int .u64 0, .slice none 0 0] 27)) := ⟨_, rfl⟩
  rw [← hw1]
  have hb1 : Below w.heap.size w w1 := by rw [hw1]; exact bt (bt (ba _ _) (ba _ _)) (ba _ _)
  have hz : w1.heap[w.heap.size + 1]? = some ZT := by
    have h := alloc_at (w.alloc (.cells #[.int .i64 5, .string n, .int .i64 i, .int .u64 re, .int .u64 im, .slice none 0 0] 27)) ZT
    rw [alloc_size] at h
    rw [hw1, (ba _ _).block _ (by simp only [alloc_size]; omega)]; exact h
  have hx : w1.heap[w.heap.size + 1 + 1]? = some (.cells #[.int .i64 5, .string n, .int .i64 0, .int .u64 0, .int .u64 0, .slice none 0 0] 27 (0, 0)) := by
    have h := alloc_at ((w.alloc (.cells #[.int .i64 5, .string n, .int .i64 i, .int .u64 re, .int .u64 im, .slice none 0 0] 27)).alloc ZT) (.cells #[.int .i64 5, .string n, .int .i64 0, .int .u64 0, .int .u64 0, .slice none 0 0] 27)
    rw [alloc_size, alloc_size] at h
    rw [hw1]; exact h
  have HB := Lib.hid (And.intro hb1 (And.intro hz hx))
  clear hw1 hb1 hz hx
  go_loopg [38] 0 (fun (g : Nat) (s38 : Value) (wr : World) => s38 = .int .i64 0 ∧ wr = w1)
  case atStart => exact ⟨rfl, rfl⟩
  case round =>
    obtain ⟨rfl, rfl⟩ := hrel
    obtain ⟨⟨e0, e1, e2, e3, e4, e5⟩, _⟩ := blk_facts HB.out.2.2
    obtain ⟨⟨z0, z1, z2, z3, z4, z5⟩, y0, y1, y2, y3, y4, y5⟩ := blk_facts HB.out.2.1
    go_wp2_with fail
    obtain ⟨W, hW, e0, e1, e2, e3, e4, e5, k6⟩ := res_fin HB.out.2.1 (.int .i64 5) (.string n) (.int .i64 0) (.int .u64 0) (.int .u64 0) (.slice none 0 0)
    rw [hW]
    have hlt := (Array.getElem?_eq_some_iff.1 HB.out.2.1).1
    exact bodyPost_ret (v := .agg #[.int .i64 5, .string n, .int .i64 0, .int .u64 0, .int .u64 0, .slice none 0 0]) (by simp [results, Tryz.results53, go_sem, e0, e1, e2, e3, e4, e5]) rfl ⟨rfl, HB.out.1.trans (k6.to_below (fun i h => by subst h; omega) (by omega))⟩
theorem map_keep64 {w w' : World} {mb n : Nat} {D : DataW Unit} (h : w.ownsMap Tryz.prog 2 (plainElem (H := Unit) Tryz.prog 2) mb n D) (hb : w'.heap[mb]? = w.heap[mb]?) : w'.ownsMap Tryz.prog 2 (plainElem (H := Unit) Tryz.prog 2) mb n D := by
  obtain ⟨es, clock, hmb, q⟩ := h
  exact ⟨es, clock, hb.trans hmb, q⟩
theorem zero64 (w : World) : (zeroValue 2).run Tryz.prog w = .ok (.int .i64 0) w := by kernel_rfl
end Go.Proofs.YtedbcmagjbgbjaaGreatDoor.nmd
namespace Go.Proofs.YtedbcmagjbgbjaaGreatDoor.rrn
set_option linter.unusedVariables false
open Go.ChangeShapes Go.WideShapes Go.ChangeAt Go.RowKit Go.Maps
open Go.Proofs.YtedbcmagjbgbjaaGreatDoor.tm Go.Proofs.YtedbcmagjbgbjaaGreatDoor.lie Go.Proofs.YtedbcmagjbgbjaaGreatDoor.kp Go.Proofs.YtedbcmagjbgbjaaGreatDoor.cur Go.Proofs.YtedbcmagjbgbjaaGreatDoor.pln Go.Proofs.YtedbcmagjbgbjaaGreatDoor.pla Go.Proofs.YtedbcmagjbgbjaaGreatDoor.wlk Go.Proofs.YtedbcmagjbgbjaaGreatDoor.rws Go.Proofs.YtedbcmagjbgbjaaGreatDoor.rsm Go.Proofs.YtedbcmagjbgbjaaGreatDoor.ren Go.Proofs.YtedbcmagjbgbjaaGreatDoor.vrs Go.Proofs.YtedbcmagjbgbjaaGreatDoor.nmd Go.Proofs.YtedbcmagjbgbjaaGreatDoor.rvs Go.Proofs.YtedbcmagjbgbjaaGreatDoor.rmy
def Rel64 (w2 : World) (mb : Nat) (vs : List Int) (g : Nat) (s14 : Value) (wr : World) : Prop :=
  ∃ (k : Nat) (D : DataW Unit), k ≤ vs.length ∧ g = vs.length - k ∧ s14 = .int .i64 k ∧ wr.ownsMap Tryz.prog 2 (plainElem (H := Unit) Tryz.prog 2) mb k D ∧ Idx0 D (vs.take k) ∧ Keep (fun k => k = mb) w2 wr
theorem vs_facts {t : Tm} (hg : good t = true) : (vars t).length ≤ 2000 ∧ (vars t).Nodup ∧ ∀ x ∈ vars t, x ∈ occ t := by
  refine ⟨?_, ?_, fun x hx => ?_⟩
  · unfold vars
    rw [if_pos hg]
    have h1 := fold_len (occ t) []
    have h2 := occ_len t
    simp only [good, Bool.and_eq_true, decide_eq_true_eq] at hg
    simp only [List.length_nil] at h1
    omega
  · unfold vars; rw [if_pos hg]; exact fold_nodup _ (by simp)
  · unfold vars at hx; rw [if_pos hg] at hx
    simpa using (fold_mem (occ t) [] x).1 hx
end Go.Proofs.YtedbcmagjbgbjaaGreatDoor.rrn
namespace Go.Proofs.YtedbcmagjbgbjaaGreatDoor.rva
set_option linter.unusedVariables false
open Go.ChangeShapes Go.WideShapes Go.ChangeAt Go.RowKit
open Go.Proofs.YtedbcmagjbgbjaaGreatDoor.tm Go.Proofs.YtedbcmagjbgbjaaGreatDoor.lie Go.Proofs.YtedbcmagjbgbjaaGreatDoor.kp Go.Proofs.YtedbcmagjbgbjaaGreatDoor.cur Go.Proofs.YtedbcmagjbgbjaaGreatDoor.pln Go.Proofs.YtedbcmagjbgbjaaGreatDoor.pla Go.Proofs.YtedbcmagjbgbjaaGreatDoor.wlk Go.Proofs.YtedbcmagjbgbjaaGreatDoor.rws Go.Proofs.YtedbcmagjbgbjaaGreatDoor.rsm Go.Proofs.YtedbcmagjbgbjaaGreatDoor.rpl Go.Proofs.YtedbcmagjbgbjaaGreatDoor.ren Go.Proofs.YtedbcmagjbgbjaaGreatDoor.rmy Go.Proofs.YtedbcmagjbgbjaaGreatDoor.rrn
/-- two boxes of a call's, and what stands behind -/
structure SV (w : World) (A B : Array Value) (wr : World) : Prop where
  bel : Below w.heap.size w wr
  a : wr.heap[w.heap.size]? = some (.cells A 27 (0, 0))
  b : wr.heap[w.heap.size + 1]? = some (.cells B 27 (0, 0))
theorem SV.mk0 (w : World) (A B : Array Value) : SV w A B ((w.alloc (.cells A 27)).alloc (.cells B 27)) := by
  have h2 := alloc_at (w.alloc (.cells A 27)) (.cells B 27 (0, 0))
  rw [alloc_size] at h2
  exact ⟨bt (ba w _) (ba _ _), ((ba (w.alloc (.cells A 27)) _).block _ (by rw [alloc_size]; omega)).trans (alloc_at w _), h2⟩
section
variable {w wr w' : World} {A B : Array Value} {v0 v1 v2 v3 v4 v5 u0 u1 u2 u3 u4 u5 : Value}
theorem SV.below (h : SV w A B wr) (hb : Below wr.heap.size wr w') : SV w A B w' :=
  ⟨h.bel.trans (hb.mono h.bel.size), (hb.block _ (Array.getElem?_eq_some_iff.1 h.a).1).trans h.a, (hb.block _ (Array.getElem?_eq_some_iff.1 h.b).1).trans h.b⟩
theorem SV.cells (h : SV w #[v0, v1, v2, v3, v4, v5] #[u0, u1, u2, u3, u4, u5] wr) : wr.cell? ⟨w.heap.size, 0, none⟩ = some v0 ∧ wr.cell? ⟨w.heap.size, 1, none⟩ = some v1 ∧ wr.cell? ⟨w.heap.size, 2, none⟩ = some v2 ∧ wr.cell? ⟨w.heap.size, 3, none⟩ = some v3 ∧ wr.cell? ⟨w.heap.size, 4, none⟩ = some v4 ∧ wr.cell? ⟨w.heap.size, 5, none⟩ = some v5 ∧
    wr.cell? ⟨w.heap.size + 1, 0, none⟩ = some u0 ∧ wr.cell? ⟨w.heap.size + 1, 1, none⟩ = some u1 ∧ wr.cell? ⟨w.heap.size + 1, 2, none⟩ = some u2 ∧ wr.cell? ⟨w.heap.size + 1, 3, none⟩ = some u3 ∧ wr.cell? ⟨w.heap.size + 1, 4, none⟩ = some u4 ∧ wr.cell? ⟨w.heap.size + 1, 5, none⟩ = some u5 := by
  have h1 := h.a
  have h2 := h.b
  refine ⟨?_, ?_, ?_, ?_, ?_, ?_, ?_, ?_, ?_, ?_, ?_, ?_⟩ <;> simp [World.cell?, h1, h2]
end
section
variable {w wr : World} {A B : Array Value} {T : Tm} {va : Value}
theorem mayS (h : SV w A B wr) (hl : Lies No w T va) (hm : may T = 0) : Calls Tryz.prog 27 #[va] wr fun e w' => e = .returned (.int .i64 0) ∧ SV w A B w' ∧ Below wr.heap.size wr w' :=
  (rMay_any T va wr (hl.below h.bel)).mono fun e w' ⟨he, hb⟩ => ⟨by rw [he, hm], h.below hb, hb⟩
end
end Go.Proofs.YtedbcmagjbgbjaaGreatDoor.rva
