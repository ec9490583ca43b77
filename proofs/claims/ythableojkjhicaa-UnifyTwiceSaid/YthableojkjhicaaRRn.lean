/- The reference's vars, Vars. The reference's plainOne, named. The reference's RenameFrom (from 0), Rename. The reference's Variant of good terms. -/
import Derived.Test.YthableojkjhicaaRSm
import Derived.Deep.AppendLies
import Derived.Test.YthableojkjhicaaPl
import Derived.Test.YthableojkjhicaaRm
import Derived.Deep.RegionHeld3
namespace Go.Proofs.Ythableojkjhicaa.rvs
set_option linter.unusedVariables false
open Go.ChangeShapes Go.WideShapes Go.ChangeAt Go.RowKit
open Go.Proofs.Ythableojkjhicaa.tm Go.Proofs.Ythableojkjhicaa.lie Go.Proofs.Ythableojkjhicaa.kp Go.Proofs.Ythableojkjhicaa.cur Go.Proofs.Ythableojkjhicaa.rws Go.Proofs.Ythableojkjhicaa.vrs Go.Proofs.Ythableojkjhicaa.ren Go.Proofs.Ythableojkjhicaa.rmy Go.Proofs.Ythableojkjhicaa.sme
theorem grown_v {w w4 : World} {o : Obj} {v : Value} (h : (w.alloc o).grownBy w4 v.ownBlock) : Keep (fun k => v.ownBlock = some k) w w4 :=
  (Keep.of_below (F := fun k => v.ownBlock = some k) (ba w o)).trans (Keep.of_grown (F := fun k => v.ownBlock = some k) h fun k e => e) fun _ => Or.inl
/-- the answer: these numbers, in a slice of one's own -/
def VT (B : Nat) (r : List Int) (v : Value) (w : World) (e : Ending) (w' : World) : Prop :=
  ∃ a' c', e = .returned (.slice a' r.length c') ∧ w'.ownsRow B 2 1 (.slice a' r.length c') r.length (r.map (Value.int .i64)) ∧ Keep (fun k => v.ownBlock = some k) w w' ∧ ∀ k, (Value.slice a' r.length c').ownBlock = some k → v.ownBlock = some k ∨ w.heap.size ≤ k
def R1 (acc : List Int) (x : Int) (w1 : World) (g : Nat) (s14 : Value) (wr : World) : Prop := ∃ k : Nat, k ≤ acc.length ∧ g = acc.length - k ∧ s14 = .int .i64 k ∧ wr = w1 ∧ x ∉ acc.take k
def R2 (B : Nat) (acc : List Int) (v : Value) (l : List Tm) (w : World) (g : Nat) (s1 s35 : Value) (wr : World) : Prop :=
  ∃ (k : Nat) (r : List Int) (a' : Option Addr) (c' : Nat), k ≤ l.length ∧ g = l.length - k ∧ r = (occL (l.take k)).foldl addv acc ∧ s1 = .slice a' r.length c' ∧ s35 = .int .i64 k ∧ wr.ownsRow B 2 1 (.slice a' r.length c') r.length (r.map (Value.int .i64)) ∧ Keep (fun k => v.ownBlock = some k) w wr ∧ ∀ k, (Value.slice a' r.length c').ownBlock = some k → v.ownBlock = some k ∨ w.heap.size ≤ k
theorem tk {l : List Int} {k : Nat} (hk : k < l.length) : l.take (k + 1) = l.take k ++ [l[k]] := by rw [List.take_succ_eq_append_getElem hk]
theorem tkT {l : List Tm} {k : Nat} (hk : k < l.length) : l.take (k + 1) = l.take k ++ [l[k]] := by rw [List.take_succ_eq_append_getElem hk]
theorem occL_snoc (l : List Tm) (t : Tm) : occL (l ++ [t]) = occL l ++ occ t := by rw [occL_flat, occL_flat]; simp
theorem row_base {w : World} {B B' e n : Nat} {v : Value} {xs : List Value} (h : w.ownsRow B e 1 v n xs) (hb : B' ≤ B) : w.ownsRow B' e 1 v n xs := by
  obtain ⟨hl, hr⟩ := h
  refine ⟨hl, ?_⟩
  rcases hr with hr | ⟨g, cap, cur, rfl, hg0, q⟩
  · exact Or.inl hr
  · exact Or.inr ⟨g, cap, cur, rfl, Nat.le_trans hb hg0, q⟩
set_option maxRecDepth 100000 in
set_option maxHeartbeats 1000000 in
theorem rvars_any (B : Nat) (t : Tm) : ∀ (acc : List Int) (vt : Value) (a : Option Addr) (c : Nat) (w : World), B ≤ w.heap.size → Lies (fun k => B ≤ k) w t vt → w.ownsRow B 2 1 (.slice a acc.length c) acc.length (acc.map (Value.int .i64)) → acc.length + (occ t).length ≤ 4000 → sound t = true →
    Calls Try.prog 64 #[vt, .slice a acc.length c] w (VT B ((occ t).foldl addv acc) (.slice a acc.length c) w) := by
  induction t using Tm.ind with
  | h k n i re im l ih =>
    intro acc vt a c w hB ht ho hn hs
    have IH := Lib.hid ih
    have HT := Lib.hid ht
    rw [Lies] at ht
    obtain ⟨at', ct, rfl, hf, hr⟩ := ht
    have HR := Lib.hid (And.intro hr (And.intro ho hB))
    have HS := Lib.hid hs
    have hkd := Go.Proofs.Ythableojkjhicaa.tm.chk_kind (sound_chk hs)
    simp only [Tm.kind] at hkd
    clear hf hr ih hs ho hB
    by_cases h1 : k = 1
    · subst h1
      clear hkd
      have hoc : (occ (.mk 1 n i re im l)).foldl addv acc = addv acc i := by simp [occ]
      have hac : acc.length ≤ 4000 := by omega
      rw [hoc]
      clear hoc hn
      obtain ⟨ij, hi1, hi2, hi3, hi4⟩ := info_parts infoI
      have HI := Lib.hid (And.intro hi1 (And.intro hi2 (And.intro hi3 hi4)))
      clear hi1 hi2 hi3 hi4
      go_enter Try.func64, Try.ntmps64
      go_wp2_with fail
      obtain ⟨w1, hw1⟩ : ∃ w1, w1 = w.alloc (.cells #[.int .i64 1, .string n, .int .i64 i, .int .u64 re, .int .u64 im, .slice at' l.length ct] 36) := ⟨_, rfl⟩
      have hbx : w1.heap[w.heap.size]? = some (.cells #[.int .i64 1, .string n, .int .i64 i, .int .u64 re, .int .u64 im, .slice at' l.length ct] 36 (0, 0)) := by rw [hw1]; exact alloc_at _ _
      have hb1 : Below w.heap.size w w1 := by rw [hw1]; exact ba _ _
      have ho1 : w1.ownsRow B 2 1 (.slice a acc.length c) acc.length (acc.map (Value.int .i64)) := row_keep HR.out.2.1 fun k e => hb1.block k (HR.out.2.1.lt k e).2
      rw [← hw1]
      have HW := Lib.hid (And.intro hbx (And.intro hb1 ho1))
      clear hw1 hbx hb1 ho1
      go_loopg [14] acc.length (R1 acc i w1)
      case atStart => exact ⟨0, by omega, by omega, rfl, rfl, by simp⟩
      case round =>
        obtain ⟨kk, hk, rfl, rfl, rfl, hni⟩ := hrel
        obtain ⟨⟨_, _, e2, _, _, _⟩, _⟩ := blk_facts HW.out.1
        by_cases hlt : kk < acc.length
        · obtain ⟨g, hg1, hg2, hg3, _, hg4⟩ := ints_look HW.out.2.2 hlt
          have hnx := tk hlt
          generalize hx : acc[kk] = x at hg1 hnx
          have HN := Lib.hid (And.intro hni (And.intro hnx hx))
          have hmem : acc[kk] ∈ acc := List.getElem_mem hlt
          rw [hx] at hmem
          have HM := Lib.hid hmem
          clear hni hnx hx hg2 hg3 hmem
          by_cases hxi : x = i
          · subst hxi
            go_wp2_with fail
            go_ret
            have : addv acc x = acc := by unfold addv; rw [if_pos HM.out]
            rw [this]
            exact ⟨a, c, rfl, HW.out.2.2, Keep.of_below HW.out.2.1, fun k e => Or.inl e⟩
          · have hq : (x == i) = false := by rw [beq_eq_false_iff_ne]; exact hxi
            have HXI := Lib.hid hxi
            clear hxi
            go_wp2_with fail
            go_roundg (acc.length - (kk + 1))
            case measure => omega
            case rel =>
              refine ⟨kk + 1, hlt, rfl, by go_num, rfl, ?_⟩
              rw [HN.out.2.1]
              intro hm
              rcases List.mem_append.1 hm with hm | hm
              · exact HN.out.1 hm
              · rw [List.mem_singleton] at hm; exact HXI.out hm.symm
        · have hkv : kk = acc.length := by omega
          subst hkv
          rw [List.take_length] at hni
          have HN := Lib.hid hni
          clear hni
          go_wp2_with (at_builtin; refine wpList_append_lies _ rfl (.tmp 24) (.tmp 27) 62 rfl B 2 ij (.int .i64 0) 1 8 Try.underlying62 HI.out.1 HI.out.2.1 HI.out.2.2.1 HI.out.2.2.2 rfl (by decide) _ acc.length (acc.map (Value.int .i64)) rfl (row_keep HW.out.2.2 fun k e => (ba _ _).block k (HW.out.2.2.lt k e).2) ⟨wr.heap.size, 0, none⟩ 1 1 [.int .i64 i] rfl rfl (cell_one_new _ _ _) ?ac1 (by omega) ?ac2 ?ac3 ?ac4 _ rfl ?_)
          case ac1 => intro u hu; simp only [List.mem_singleton] at hu; subst hu; rfl
          case ac2 => unfold maxLen; omega
          case ac3 => omega
          case ac4 => have := HR.out.2.2; have := HW.out.2.1.size; rw [alloc_size]; omega
          intro g' c' w9 ho9 hg9 ha9 hl9
          have H9 := Lib.hid (And.intro ho9 (And.intro (grown_v hg9) (ha9.imp id fun e => (show wr.heap.size ≤ g' by omega))))
          clear ho9 hg9 ha9 hl9
          go_wp2_with fail
          go_ret
          have : addv acc i = acc ++ [i] := by unfold addv; rw [if_neg HN.out]
          rw [this]
          refine ⟨some ⟨g', 0, none⟩, c', by simp, by simpa using H9.out.1, (Keep.of_below (F := fun k => (Value.slice a acc.length c).ownBlock = some k) HW.out.2.1).trans H9.out.2.1 fun _ => Or.inl, fun k e => ?_⟩
          simp only [Value.ownBlock, Option.some.injEq] at e
          subst e
          rcases H9.out.2.2 with h | h
          · exact Or.inl h
          · exact Or.inr (by have := HW.out.2.1.size; omega)
    · have hk1 : (k == 1) = false := by rw [beq_eq_false_iff_ne]; exact h1
      by_cases h5 : k = 5
      · subst h5
        clear hkd h1 hk1
        have hl20 : l.length ≤ 20 := by have := sound_chk HS.out; simp only [chk] at this; simp at this; omega
        have hoc : occ (.mk 5 n i re im l) = occL l := by simp [occ]
        rw [hoc] at hn ⊢
        have HN := Lib.hid (And.intro hn hoc)
        clear hn hoc
        go_enter Try.func64, Try.ntmps64
        go_wp2_with fail
        go_loopg [1, 35] l.length (R2 B acc (.slice a acc.length c) l w)
        case atStart => exact ⟨0, acc, a, c, by omega, by omega, by simp [occL], rfl, rfl, row_keep HR.out.2.1 fun k e => (ba w _).block k (HR.out.2.1.lt k e).2, Keep.of_below (ba _ _), fun k e => Or.inl e⟩
        case round =>
          obtain ⟨kk, r, a2, c2, hk, rfl, hr, rfl, rfl, ho, hkp, hown⟩ := hrel
          have hFB : ∀ q, (Value.slice a acc.length c).ownBlock = some q → B ≤ q := fun q e => (HR.out.2.1.lt q e).1
          by_cases hlt : kk < l.length
          · obtain ⟨b1, o1, v0, v1, v2, v3, v4, v5, hbl, hnx, h6, hlx, hix⟩ := HR.out.1.look hlt
            have h6' := h6.keep (X := fun q => B ≤ q) (hkp.mono hFB) hnx
            have hix' := hix ct
            have hmem := List.getElem_mem hlt
            have hlx' := Lies.keep (hkp.mono (G := fun q => B ≤ q) hFB) (fun _ _ => id) _ _ hlx
            obtain ⟨kq, nq, iq, req, imq, lq, aq, cq, hv, _⟩ := lies_form hlx
            obtain ⟨rfl, rfl, rfl, rfl, rfl, rfl⟩ := hv
            obtain ⟨e0, e1, e2, e3, e4, e5⟩ := h6'
            have hb2 := ba wr (.cells #[.int .i64 kq, .string nq, .int .i64 iq, .int .u64 req, .int .u64 imq, .slice aq lq cq] 36)
            have ho2 := row_keep ho fun k e => hb2.block k (ho.lt k e).2
            have hlen : r.length + (occ l[kk]).length ≤ 4000 := by
              have h0 := fold_len (occL (l.take kk)) acc
              rw [← hr] at h0
              have h1 : (occL (l.take (kk + 1))).length ≤ (occL l).length := by
                conv => rhs; rw [← List.take_append_drop (kk + 1) l, occL_flat, List.flatMap_append, List.length_append, ← occL_flat]
                omega
              rw [tkT hlt, occL_snoc, List.length_append] at h1
              have := HN.out.1
              omega
            have HX := Lib.hid (And.intro hr (And.intro hkp (And.intro hown (And.intro (hlx'.below hb2) (And.intro ho2 (And.intro hlen (And.intro (IH.out _ hmem) (sound_args HS.out rfl _ hmem))))))))
            clear hr hkp hown h6 hlx hlx' hix ho ho2 hlen hb2 hmem hnx
            go_wp2_with fail
            refine (HX.out.2.2.2.2.2.2.1 r _ a2 c2 _ (by have := HX.out.2.1.size; have := HR.out.2.2; rw [alloc_size]; omega) HX.out.2.2.2.1 HX.out.2.2.2.2.1 HX.out.2.2.2.2.2.1 HX.out.2.2.2.2.2.2.2).mono ?_
            rintro e w3 ⟨a3, c3, rfl, ho3, hk3, hq3⟩
            have H3 := Lib.hid (And.intro ho3 (And.intro hk3 hq3))
            clear ho3 hk3 hq3 e0 e1 e2 e3 e4 e5
            go_wp2_with fail
            go_roundg (l.length - (kk + 1))
            case measure => omega
            case rel =>
              have hkk := HX.out.2.1
              have hsz := hkk.size
              refine ⟨kk + 1, _, a3, c3, hlt, rfl, ?_, rfl, by go_num, H3.out.1, ?_, fun q e => ?_⟩
              · rw [HX.out.1, tkT hlt, occL_snoc, List.foldl_append]
              · refine hkk.trans ((Keep.of_below (F := fun k => (Value.slice a2 r.length c2).ownBlock = some k) (ba _ _)).trans H3.out.2.1 fun _ => Or.inl) fun q e => ?_
                rcases HX.out.2.2.1 q e with h | h
                · exact Or.inl h
                · exact Or.inr h
              · rcases H3.out.2.2 q e with h | h
                · exact HX.out.2.2.1 q h
                · exact Or.inr (by rw [alloc_size] at h; omega)
          · have hkv : kk = l.length := by omega
            subst hkv
            rw [List.take_length] at hr
            have HX := Lib.hid (And.intro hr (And.intro ho (And.intro hkp hown)))
            clear hr ho hkp hown
            go_wp2_with fail
            go_ret
            rw [← HX.out.1]
            exact ⟨a2, c2, rfl, HX.out.2⟩
      · have hk5 : (k == 5) = false := by rw [beq_eq_false_iff_ne]; exact h5
        have HO : Hid (occ (.mk k n i re im l) = []) := Lib.hid (by simp [occ, h1, h5])
        rw [HO.out]
        clear hkd h1 h5 hn
        go_enter Try.func64, Try.ntmps64
        go_wp2_with fail
        go_ret
        exact ⟨a, c, rfl, row_keep HR.out.2.1 fun k e => (ba w _).block k (HR.out.2.1.lt k e).2, Keep.of_below (ba _ _), fun k e => Or.inl e⟩
theorem rVars_any (t : Tm) (v : Value) (w : World) (ht : Lies No w t v) : Calls Try.prog 36 #[v] w (VOut (vars t) w) := by
  have HT := Lib.hid ht
  unfold vars
  cases hg : good t
  · have hne : (may t != 0) = true := by rw [bne_iff_ne]; have := may_nogood hg; omega
    have HV : Hid ((if (false = true) then (occ t).foldl addv [] else []) = []) := Lib.hid (by simp)
    rw [HV.out]
    clear hg
    obtain ⟨k, n, i, re, im, l⟩ := t
    rw [Lies] at ht
    obtain ⟨a, c, rfl, hf, hr⟩ := ht
    clear hf hr
    go_enter Try.func36, Try.ntmps36
    go_wp2_with fail
    refine (rMay_any _ _ _ (HT.out.below (ba _ _))).mono ?_
    rintro e w1 ⟨rfl, hb⟩
    have HB := Lib.hid (bt (ba w _) hb)
    clear hb
    go_wp2_with fail
    go_ret
    exact ⟨_, rfl, World.ownsRow_nil _ _ _ _, HB.out⟩
  · have HV : Hid ((if (true = true) then (occ t).foldl addv [] else []) = (occ t).foldl addv []) := Lib.hid (by simp)
    rw [HV.out]
    have HM := Lib.hid (may_good hg)
    have HS := Lib.hid (good_sound hg)
    have HO := Lib.hid (show (occ t).length ≤ 2000 by
      have := occ_len t
      simp only [good, Bool.and_eq_true, decide_eq_true_eq] at hg
      omega)
    clear hg
    obtain ⟨k, n, i, re, im, l⟩ := t
    rw [Lies] at ht
    obtain ⟨a, c, rfl, hf, hr⟩ := ht
    clear hf hr
    go_enter Try.func36, Try.ntmps36
    go_wp2_with fail
    refine (rMay_any _ _ _ (HT.out.below (ba _ _))).mono ?_
    rintro e w1 ⟨rfl, hb⟩
    rw [HM.out]
    obtain ⟨hz, hlt⟩ := box_at hb
    have HB := Lib.hid (bt (ba w _) hb)
    obtain ⟨⟨x0, x1, x2, x3, x4, x5⟩, _⟩ := blk_facts hz
    clear hb hz
    go_wp2_with fail
    refine (rvars_any w1.heap.size _ [] _ none 0 w1 (Nat.le_refl _) ((HT.out.below HB.out).off fun b h1 h2 => absurd h1 (by omega)) (World.ownsRow_nil _ _ _ _) (by have := HO.out; simp; omega) HS.out).mono ?_
    rintro e w2 ⟨a2, c2, rfl, ho, hk, _⟩
    have HQ := Lib.hid (And.intro (row_base ho HB.out.size) (HB.out.trans (hk.to_below (fun k e => by cases e) HB.out.size)))
    clear ho hk x0 x1 x2 x3 x4 x5
    go_wp2_with fail
    go_ret
    exact ⟨_, rfl, HQ.out⟩
end Go.Proofs.Ythableojkjhicaa.rvs
namespace Go.Proofs.Ythableojkjhicaa.nmd
set_option linter.unusedVariables false
open Go.ChangeShapes Go.WideShapes Go.ChangeAt Go.RowKit Go.Maps
open Go.Proofs.Ythableojkjhicaa.tm Go.Proofs.Ythableojkjhicaa.lie Go.Proofs.Ythableojkjhicaa.kp Go.Proofs.Ythableojkjhicaa.cur Go.Proofs.Ythableojkjhicaa.pln Go.Proofs.Ythableojkjhicaa.pla Go.Proofs.Ythableojkjhicaa.wlk Go.Proofs.Ythableojkjhicaa.ow6 Go.Proofs.Ythableojkjhicaa.rws Go.Proofs.Ythableojkjhicaa.rsm Go.Proofs.Ythableojkjhicaa.rpl Go.Proofs.Ythableojkjhicaa.ren Go.Proofs.Ythableojkjhicaa.vrs Go.Proofs.Ythableojkjhicaa.awk Go.Proofs.Ythableojkjhicaa.sme
/-- plain of a compound without arguments -/
theorem rplain_nil (n : ByteArray) (i re im : Int) (w : World) (hn : n.size ≤ 9223372036854775807) : Calls Try.prog 66 #[.agg #[.int .i64 5, .string n, .int .i64 i, .int .u64 re, .int .u64 im, .slice none 0 0]] w fun e w' => e = .returned (.agg #[.int .i64 5, .string n, .int .i64 0, .int .u64 0, .int .u64 0, .slice none 0 0]) ∧ Below w.heap.size w w' := by
  go_enter Try.func66, Try.ntmps66
  go_wp2_with fail
  obtain ⟨w1, hw1⟩ : ∃ w1, w1 = (((w.alloc (.cells #[.int .i64 5, .string n, .int .i64 i, .int .u64 re, .int .u64 im, .slice none 0 0] 36)).alloc ZT).alloc (.cells #[.int .i64 5, .string n, .int .i64 0, .int .u64 0, .int .u64 0, .slice none 0 0] 36)) := ⟨_, rfl⟩
  rw [← hw1]
  have hb1 : Below w.heap.size w w1 := by rw [hw1]; exact bt (bt (ba _ _) (ba _ _)) (ba _ _)
  have hz : w1.heap[w.heap.size + 1]? = some ZT := by
    have h := alloc_at (w.alloc (.cells #[.int .i64 5, .string n, .int .i64 i, .int .u64 re, .int .u64 im, .slice none 0 0] 36)) ZT
    rw [alloc_size] at h
    rw [hw1, (ba _ _).block _ (by simp only [alloc_size]; omega)]; exact h
  have hx : w1.heap[w.heap.size + 1 + 1]? = some (.cells #[.int .i64 5, .string n, .int .i64 0, .int .u64 0, .int .u64 0, .slice none 0 0] 36 (0, 0)) := by
    have h := alloc_at ((w.alloc (.cells #[.int .i64 5, .string n, .int .i64 i, .int .u64 re, .int .u64 im, .slice none 0 0] 36)).alloc ZT) (.cells #[.int .i64 5, .string n, .int .i64 0, .int .u64 0, .int .u64 0, .slice none 0 0] 36)
    rw [alloc_size, alloc_size] at h
    rw [hw1]; exact h
  have HB := Lib.hid (And.intro hb1 (And.intro hz hx))
  clear hw1 hb1 hz hx
  go_loopg [38] 0 (fun (g : Nat) (s38 : Value) (wr : World) => s38 = .int .i64 0 ∧ wr = w1)
  case atStart => exact ⟨rfl, rfl⟩
  case round =>
    obtain ⟨rfl, rfl⟩ := hrel
    obtain ⟨⟨e0, e1, e2, e3, e4, e5⟩, _⟩ := blk_facts HB.out.2.2
    obtain ⟨⟨z0, z1, z2, z3, z4, z5⟩, y0, y1, y2, y3, y4, y5⟩ := blk_facts HB.out.2.1
    go_wp2_with fail
    obtain ⟨W, hW, e0, e1, e2, e3, e4, e5, k6⟩ := res_fin HB.out.2.1 (.int .i64 5) (.string n) (.int .i64 0) (.int .u64 0) (.int .u64 0) (.slice none 0 0)
    rw [hW]
    have hlt := (Array.getElem?_eq_some_iff.1 HB.out.2.1).1
    exact bodyPost_ret (v := .agg #[.int .i64 5, .string n, .int .i64 0, .int .u64 0, .int .u64 0, .slice none 0 0]) (by simp [results, Try.results66, go_sem, e0, e1, e2, e3, e4, e5]) rfl ⟨rfl, HB.out.1.trans (k6.to_below (fun i h => by subst h; omega) (by omega))⟩
theorem plainOne_5 (n : ByteArray) (i re im : Int) (a : Option Addr) (len c : Nat) (w : World) (hn : n.size ≤ 9223372036854775807) : Calls Try.prog 90 #[.agg #[.int .i64 5, .string n, .int .i64 i, .int .u64 re, .int .u64 im, .slice a len c]] w fun e w' => e = .returned (.agg #[.int .i64 5, .string n, .int .i64 0, .int .u64 0, .int .u64 0, .slice none 0 0]) ∧ Below w.heap.size w w' := by
  go_enter Try.func90, Try.ntmps90
  go_wp2_with fail
  refine (rplain_nil _ _ _ _ _ hn).mono ?_
  rintro e w1 ⟨rfl, hb⟩
  obtain ⟨_, hz, hlt, hb⟩ := two_at hb
  have HB := Lib.hid (And.intro hb hz)
  obtain ⟨⟨z0, z1, z2, z3, z4, z5⟩, y0, y1, y2, y3, y4, y5⟩ := blk_facts hz
  clear hb hz
  go_wp2_with fail
  obtain ⟨W, hW, e0, e1, e2, e3, e4, e5, k6⟩ := res_fin HB.out.2 (.int .i64 5) (.string n) (.int .i64 0) (.int .u64 0) (.int .u64 0) (.slice none 0 0)
  rw [hW]
  exact bodyPost_ret (v := .agg #[.int .i64 5, .string n, .int .i64 0, .int .u64 0, .int .u64 0, .slice none 0 0]) (by simp [results, Try.results90, go_sem, e0, e1, e2, e3, e4, e5]) rfl ⟨rfl, HB.out.1.trans (k6.to_below (fun i h => by subst h; omega) (by omega))⟩
theorem plainOne_leaf (k : Int) (n : ByteArray) (i re im : Int) (l : List Tm) (a : Option Addr) (c : Nat) (w : World) (hf : Fit k n i re im l.length c) (hk : k = 2 ∨ k = 3 ∨ k = 4) (hs : sound (.mk k n i re im l) = true) :
    Calls Try.prog 90 #[.agg #[.int .i64 k, .string n, .int .i64 i, .int .u64 re, .int .u64 im, .slice a l.length c]] w (Gives (Old w) (plain (.mk k n i re im l)) w) := by
  have hs0 : sound (.mk k n i re im []) = true := by
    have h5 : k ≠ 5 := by omega
    have hc := sound_chk hs
    simp only [sound, Bool.and_eq_true, decide_eq_true_eq, if_neg h5, and_true]
    simp only [chk] at hc ⊢
    rcases hk with rfl | rfl | rfl
    · simpa using hc
    · simp
    · simp
  have hp : plain (.mk k n i re im l) = plain (.mk k n i re im []) := by
    rcases hk with rfl | rfl | rfl <;> simp [plain, sub]
  have hl : ∀ W, Lies No W (.mk k n i re im []) (.agg #[.int .i64 k, .string n, .int .i64 i, .int .u64 re, .int .u64 im, .slice none 0 0]) := fun W => by
    rw [Lies]
    exact ⟨none, 0, rfl, ⟨hf.k0, hf.k1, hf.n1, hf.i0, hf.i1, hf.r0, hf.r1, hf.m0, hf.m1, by simp, by simp⟩, by rw [TRow]; trivial⟩
  rw [hp]
  have HS := Lib.hid (And.intro hs0 hl)
  clear hs hs0 hp hl hk hf
  go_enter Try.func90, Try.ntmps90
  go_wp2_with fail
  refine (rplain_any _ _ _ (HS.out.2 _) HS.out.1).mono ?_
  rintro e w1 ⟨kq, nq, iq, req, imq, aq, lq, cq, rfl, hb, hq⟩
  obtain ⟨_, hz, hlt, hb0⟩ := two_at hb
  have HB := Lib.hid (And.intro hb0 (And.intro hz hq))
  obtain ⟨⟨z0, z1, z2, z3, z4, z5⟩, y0, y1, y2, y3, y4, y5⟩ := blk_facts hz
  clear hb hz hb0 hq
  go_wp2_with fail
  obtain ⟨W, hW, e0, e1, e2, e3, e4, e5, k6⟩ := res_fin HB.out.2.1 (.int .i64 kq) (.string nq) (.int .i64 iq) (.int .u64 req) (.int .u64 imq) (.slice aq lq cq)
  rw [hW]
  refine bodyPost_ret (v := .agg #[.int .i64 kq, .string nq, .int .i64 iq, .int .u64 req, .int .u64 imq, .slice aq lq cq]) (by simp [results, Try.results90, go_sem, e0, e1, e2, e3, e4, e5]) rfl ⟨_, _, _, _, _, _, _, _, rfl, HB.out.1.trans (k6.to_below (fun i h => by subst h; omega) (by omega)), ?_⟩
  refine Lies.keep (X := fun q => q < w.heap.size + 1 + 1) (Y := Old w) (k6.mono fun i h => by subst h; omega) (fun b _ h => by have : b < w.heap.size := h; omega) _ _ (HB.out.2.2.off fun q _ h => ?_)
  show q < _
  simp only [alloc_size]
  exact h
theorem map_keep64 {w w' : World} {mb n : Nat} {D : DataW Unit} (h : w.ownsMap Try.prog 2 (plainElem (H := Unit) Try.prog 2) mb n D) (hb : w'.heap[mb]? = w.heap[mb]?) : w'.ownsMap Try.prog 2 (plainElem (H := Unit) Try.prog 2) mb n D := by
  obtain ⟨es, clock, hmb, q⟩ := h
  exact ⟨es, clock, hb.trans hmb, q⟩
theorem zero64 (w : World) : (zeroValue 2).run Try.prog w = .ok (.int .i64 0) w := by kernel_rfl
set_option linter.unusedSimpArgs false in
set_option maxRecDepth 100000 in
set_option maxHeartbeats 1000000 in
theorem named_any (w0 : World) (mb m : Nat) (D : DataW Unit) (vs : List Int) (hm : w0.ownsMap Try.prog 2 (plainElem (H := Unit) Try.prog 2) mb m D) (hD : Idx0 D vs) (hvs : vs.length ≤ 2000) (t : Tm) : ∀ (v : Value) (w : World), Below w0.heap.size w0 w → Lies No w t v → sound t = true → Calls Try.prog 69 #[v, .map (some mb)] w (Gives (Old w) (sub (fun n => var (ix0 vs n)) t) w) := by
  have HM := Lib.hid (And.intro hm hD)
  clear hm hD
  induction t using Tm.ind with
  | h k n i re im l ih =>
    intro v w hw0 ht hs
    have IH := Lib.hid ih
    have HT := Lib.hid ht
    have hc := Go.Proofs.Ythableojkjhicaa.tm.chk_kind (sound_chk hs)
    have HS := Lib.hid (And.intro hs hw0)
    rw [Lies] at ht
    obtain ⟨a, c, rfl, hf, hr⟩ := ht
    have HR := Lib.hid (And.intro hf hr)
    clear hf hr ih hs hw0
    simp only [Tm.kind] at hc
    by_cases h1 : k = 1
    · subst h1
      clear hc
      have HE : Hid (sub (fun n => var (ix0 vs n)) (.mk 1 n i re im l) = var (ix0 vs i)) := Lib.hid (by simp [sub])
      rw [HE.out]
      have hkey : keyOf Try.prog 2 (.int .i64 i) = some (CK i) := keyOf_int_mk Try.underlying2 (WalkArith.wf_i64 (by have := HR.out.1.i0; have := HR.out.1.i1; omega))
      have hb2 := HS.out.2.trans ((bt (ba w (.cells #[.int .i64 1, .string n, .int .i64 i, .int .u64 re, .int .u64 im, .slice a l.length c] 36)) (ba _ ZT)).mono HS.out.2.size)
      have hm2 := map_keep64 HM.out.1 (hb2.block _ HM.out.1.lt)
      obtain ⟨cl, hlk, hat, hwc⟩ := hm2.lookup_int law Try.underlying108 Try.underlying2 (zero64 _) hkey
      have hcl2 : cl = ix0 vs i := by
        have := HM.out.2 i
        rw [hat] at this
        injection this with e; injection e
      subst hcl2
      have hrg := ix0_range vs i
      have HRG := Lib.hid hrg
      clear hb2 hm2 hat hwc hkey hrg
      go_enter Try.func69, Try.ntmps69
      go_wp2_with fail
      refine (rVar_any _ _).mono ?_
      rintro e w2 ⟨rfl, hb⟩
      obtain ⟨_, hz, hlt, hb⟩ := two_at hb
      have HB := Lib.hid (And.intro hb hz)
      obtain ⟨⟨z0, z1, z2, z3, z4, z5⟩, y0, y1, y2, y3, y4, y5⟩ := blk_facts hz
      clear hb hz hlk
      go_wp2_with fail
      obtain ⟨W, hW, e0, e1, e2, e3, e4, e5, k6⟩ := res_fin HB.out.2 (.int .i64 1) (.string ⟨#[]⟩) (.int .i64 (ix0 vs i)) (.int .u64 0) (.int .u64 0) (.slice none 0 0)
      rw [hW]
      exact bodyPost_ret (v := .agg #[.int .i64 1, .string ⟨#[]⟩, .int .i64 (ix0 vs i), .int .u64 0, .int .u64 0, .slice none 0 0]) (by simp [results, Try.results69, go_sem, e0, e1, e2, e3, e4, e5]) rfl ⟨_, _, _, _, _, _, _, _, rfl, HB.out.1.trans (k6.to_below (fun i h => by subst h; omega) (by omega)), var_lies _ _ _ (by have := HRG.out; omega) (by have := HRG.out; omega)⟩
    have q1 : (k == 1) = false := by rw [beq_eq_false_iff_ne]; exact h1
    by_cases h5 : k = 5
    · subst h5
      clear hc h1
      have hlen := sound_args HS.out.1 rfl
      have hl20 : l.length ≤ 20 := by have := sound_chk HS.out.1; simp only [chk] at this; simp at this; omega
      obtain ⟨ij, hi1, hi2, hi3, hi4⟩ := info_t
      have HI := Lib.hid (And.intro hi1 (And.intro hi2 (And.intro hi3 hi4)))
      have HC := Lib.hid hlen
      clear hlen hi1 hi2 hi3 hi4
      go_enter Try.func69, Try.ntmps69
      go_wp2_with fail
      refine (plainOne_5 _ _ _ _ _ _ _ _ HR.out.1.n1).mono ?_
      rintro e w1 ⟨rfl, hb⟩
      obtain ⟨hx1, hz1, hlt1, hb1⟩ := two_at hb
      have hs1 : w.heap.size + 1 + 1 ≤ w1.heap.size := by have := hb.size; simp only [alloc_size] at this; exact this
      obtain ⟨w3, hw3⟩ : ∃ w3, w3 = w1.alloc (.cells #[.int .i64 5, .string n, .int .i64 0, .int .u64 0, .int .u64 0, .slice none 0 0] 36) := ⟨_, rfl⟩
      have hb3 : Below w1.heap.size w1 w3 := by rw [hw3]; exact ba _ _
      have hat3 : w3.heap[w1.heap.size]? = some (.cells #[.int .i64 5, .string n, .int .i64 0, .int .u64 0, .int .u64 0, .slice none 0 0] 36 (0, 0)) := by rw [hw3]; exact alloc_at _ _
      obtain ⟨⟨x0, x1, x2, x3, x4, x5⟩, _⟩ := blk_facts ((hb3.block _ (show w.heap.size < w1.heap.size by omega)).trans hx1)
      obtain ⟨⟨p0, p1, p2, p3, p4, p5⟩, _⟩ := blk_facts hat3
      have HW1 := Lib.hid (And.intro hb1 (And.intro hs1 (And.intro hz1 (And.intro hb3 hat3))))
      clear hb hz1 hb1 hx1 hb3 hat3
      go_upto_region 4 with fail
      rw [← hw3]
      clear hw3
      go_wp2_with fail
      go_loopg [24] l.length (GRel 5 n (sub (fun n => var (ix0 vs n))) l w1.heap.size w1)
      case atStart => exact ⟨0, _, by omega, by omega, rfl, by simpa using XOwn.nil _ _ _, HW1.out.2.2.2.2, HW1.out.2.2.2.1, Nat.le_refl _, by omega⟩
      case round =>
        obtain ⟨kk, s, hk, rfl, rfl, hg⟩ := hrel
        have hbw : Below w.heap.size w wr := HW1.out.1.trans (hg.bel.mono HW1.out.1.size)
        by_cases hlt : kk < l.length
        · obtain ⟨b, o, v0, v1, v2, v3, v4, v5, hbl, _, h6, hlx, hix⟩ := HR.out.2.look hlt
          have h6' := h6.keep (X := No) (Keep.of_below hbw) id
          have hix' := hix c
          obtain ⟨kq, nq, iq, req, imq, lq, aq, cq, hv, _⟩ := lies_form hlx
          obtain ⟨rfl, rfl, rfl, rfl, rfl, rfl⟩ := hv
          obtain ⟨e0, e1, e2, e3, e4, e5⟩ := h6'
          have hmem := List.getElem_mem hlt
          have hbd := bt (ba wr (.cells #[.int .i64 kq, .string nq, .int .i64 iq, .int .u64 req, .int .u64 imq, .slice aq lq cq] 36)) (bdr _)
          have HX := Lib.hid (And.intro (hlx.below hbw) (And.intro hg (And.intro (IH.out _ hmem) (And.intro (HC.out _ hmem) (HS.out.2.trans ((hbw.trans (hbd.mono hbw.size)).mono HS.out.2.size))))))
          clear h6 hlx hix hg hbw
          go_wp2_with fail
          have hg0 := HX.out.2.1.below hbd
          have hw0 : (wr.alloc (.cells #[.int .i64 kq, .string nq, .int .i64 iq, .int .u64 req, .int .u64 imq, .slice aq lq cq] 36)).drew.heap[wr.heap.size]? = some (.cells #[.int .i64 kq, .string nq, .int .i64 iq, .int .u64 req, .int .u64 imq, .slice aq lq cq] 36 (0, 0)) := alloc_at wr _
          have hl0 := HX.out.1.below hbd
          have HG := Lib.hid (And.intro hg0 (And.intro hw0 hl0))
          obtain ⟨⟨x0, x1, x2, x3, x4, x5⟩, _⟩ := blk_facts hw0
          obtain ⟨⟨_, _, _, _, _, y5⟩, _⟩ := blk_facts hg0.box
          clear hg0 hw0 hl0 hbd e0 e1 e2 e3 e4 e5
          go_region_law (first
            | (go_simp; go_at_call 69; refine (HX.out.2.2.1 _ _ ?_ ?_ ?_).mono ?_; exact HX.out.2.2.2.2; exact HG.out.2.2; exact HX.out.2.2.2.1; rintro e w3 ⟨ka, na, ia, ra, ma, aa, la, cc, rfl, hb3, hq⟩; have HP := Lib.hid (HG.out.1.pre (br _) hb3 (hq.off fun i h0 h1 => h1.2)); obtain ⟨⟨_, _, _, _, _, y5⟩, _⟩ := blk_facts HP.out.1.box; obtain ⟨⟨_, _, _, _, _, y6⟩, _⟩ := blk_facts (HP.out.1.below (ba w3 (.cells #[.int .i64 ka, .string na, .int .i64 ia, .int .u64 ra, .int .u64 ma, .slice aa la cc] 36))).box; obtain ⟨xs, ho, hx⟩ := HP.out.1.own.ex; have HO := Lib.hid (And.intro ho hx); clear hb3 hq ho hx; try dsimp only)
            | (refine step_append_lies _ rfl (.tmp 29) (.tmp 33) 34 rfl (w1.heap.size + 1) 36 ij ZV 6 72 Try.underlying34 HI.out.1 HI.out.2.1 HI.out.2.2.1 HI.out.2.2.2 rfl (by decide) s ((l.take kk).map (sub (fun n => var (ix0 vs n)))).length xs (by simp [Act.eval, Act.put]) (row6_keep HO.out.1 fun q e => (ba _ _).block q (HO.out.1.lt q e).2) ⟨w3.heap.size, 0, none⟩ 1 1 [.int .i64 ka, .string na, .int .i64 ia, .int .u64 ra, .int .u64 ma, .slice aa la cc] (by simp [Act.eval, Act.put]) rfl (news6 _ _ _ _ _ _ _ _) (by intro u hu; simp only [List.mem_cons, List.not_mem_nil, or_false] at hu; rcases hu with rfl | rfl | rfl | rfl | rfl | rfl <;> rfl) (by omega) (by unfold maxLen; simp; omega) (by simp; omega) (by rw [alloc_size]; have := HP.out.1.lt; omega) _ rfl ?_; intro g' c' w9 ho9 hg9 ha9 hl9; have HF := Lib.hid (HP.out.1.post HO.out.2 HO.out.1 HP.out.2 ho9 hg9 ha9); obtain ⟨z1, z2⟩ := HF.out.1; clear ho9 hg9 ha9 hl9))
          all_goals
            go_wp2_with fail
            go_roundg (l.length - (kk + 1))
            case measure => omega
            case rel =>
              have hgr := HF.out.2
              rw [map_next hlt, map_len hk] at hgr
              exact ⟨kk + 1, _, hlt, rfl, by go_num, hgr⟩
        · have hkv : kk = l.length := by omega
          subst hkv
          obtain ⟨a2, c2, rfl, hll⟩ := hg.lies HR.out.1.n1
          have hL : ((l.take l.length).map (sub (fun n => var (ix0 vs n)))).length = l.length := by simp
          rw [hL] at hll hg
          have hz := (hg.bel.block _ hlt1).trans HW1.out.2.2.1
          obtain ⟨⟨e0, e1, e2, e3, e4, e5⟩, _⟩ := blk_facts hg.box
          obtain ⟨⟨z0, z1, z2, z3, z4, z5⟩, y0, y1, y2, y3, y4, y5⟩ := blk_facts hz
          have HZ := Lib.hid (And.intro hbw (And.intro hz (And.intro hll hg)))
          clear hbw hz hll hg
          go_wp2_with fail
          obtain ⟨W, hW, e0, e1, e2, e3, e4, e5, k6⟩ := res_fin HZ.out.2.1 (.int .i64 5) (.string n) (.int .i64 0) (.int .u64 0) (.int .u64 0) (.slice a2 l.length c2)
          rw [hW]
          have hlt2 : w.heap.size + 1 < wr.heap.size := (Array.getElem?_eq_some_iff.1 HZ.out.2.1).1
          refine bodyPost_ret (v := .agg #[.int .i64 5, .string n, .int .i64 0, .int .u64 0, .int .u64 0, .slice a2 l.length c2]) (by simp [results, Try.results69, go_sem, e0, e1, e2, e3, e4, e5]) rfl ⟨_, _, _, _, _, _, _, _, rfl, HZ.out.1.trans (k6.to_below (fun i h => by subst h; omega) (by omega)), ?_⟩
          have hp : sub (fun n => var (ix0 vs n)) (.mk 5 n i re im l) = comp n ((l.take l.length).map (sub (fun n => var (ix0 vs n)))) := by
            rw [List.take_length]; simp only [sub, subL_map]; simp [comp]
          rw [hp]
          exact Lies.keep (X := Zb 0 w1.heap.size) (Y := Old w) (k6.mono fun i h => by subst h; exact ⟨by omega, by omega⟩) (fun b _ h => ⟨by omega, by have : b < w.heap.size := h; omega⟩) _ _ HZ.out.2.2.1
    have q5 : (k == 5) = false := by rw [beq_eq_false_iff_ne]; exact h5
    have hk3 : k = 2 ∨ k = 3 ∨ k = 4 := by omega
    have HE : Hid (sub (fun n => var (ix0 vs n)) (.mk k n i re im l) = plain (.mk k n i re im l)) := Lib.hid (by
      simp [plain, sub, h1, h5])
    rw [HE.out]
    have HK := Lib.hid hk3
    have hke : ∀ (kq : Int) (nq : ByteArray) (iq rq mq : Int) (aq : Option Addr) (lq cq : Nat) (W : World), Lies (Old ((w.alloc (.cells #[.int .i64 k, .string n, .int .i64 i, .int .u64 re, .int .u64 im, .slice a l.length c] 36)).alloc ZT)) W (plain (.mk k n i re im l)) (.agg #[.int .i64 kq, .string nq, .int .i64 iq, .int .u64 rq, .int .u64 mq, .slice aq lq cq]) → kq = k := fun kq nq iq rq mq aq lq cq W h => by
      have h2 := kind_of h
      rw [plain_kind] at h2
      exact h2.symm
    have HKE := Lib.hid hke
    clear hc h1 h5 hk3 hke
    go_enter Try.func69, Try.ntmps69
    go_wp2_with fail
    refine (plainOne_leaf k n i re im l a c _ HR.out.1 HK.out HS.out.1).mono ?_
    rintro e w2 ⟨kq, nq, iq, req, imq, aq, lq, cq, rfl, hb2, hq⟩
    have hkk := HKE.out _ _ _ _ _ _ _ _ _ hq
    subst hkk
    obtain ⟨hx, hz, hlt, hb⟩ := two_at hb2
    obtain ⟨w3, hw3⟩ : ∃ w3, w3 = w2.alloc (.cells #[.int .i64 kq, .string nq, .int .i64 iq, .int .u64 req, .int .u64 imq, .slice aq lq cq] 36) := ⟨_, rfl⟩
    have hbx : Below w2.heap.size w2 w3 := by rw [hw3]; exact ba _ _
    have hat3 : w3.heap[w2.heap.size]? = some (.cells #[.int .i64 kq, .string nq, .int .i64 iq, .int .u64 req, .int .u64 imq, .slice aq lq cq] 36 (0, 0)) := by rw [hw3]; exact alloc_at _ _
    have hz2 := (hbx.block _ hlt).trans hz
    have HQ := Lib.hid (And.intro (hb.trans (hbx.mono hb.size)) (And.intro hz2 (hq.below hbx)))
    have hx2 := (hbx.block _ (show w.heap.size < w2.heap.size by omega)).trans hx
    obtain ⟨⟨x0, x1, x2, x3, x4, x5⟩, _⟩ := blk_facts hx
    obtain ⟨⟨p0, p1, p2, p3, p4, p5⟩, _⟩ := blk_facts hx2
    obtain ⟨⟨q0, q1, q2, q3, q4, q5⟩, _⟩ := blk_facts hat3
    obtain ⟨⟨z0, z1, z2, z3, z4, z5⟩, y0, y1, y2, y3, y4, y5⟩ := blk_facts hz2
    clear hb2 hq hb hz hz2 hx hx2 hbx hat3
    go_upto_region 4 with fail
    rw [← hw3]
    clear hw3
    go_wp2_with fail
    obtain ⟨W, hW, e0, e1, e2, e3, e4, e5, k6⟩ := res_fin HQ.out.2.1 (.int .i64 kq) (.string nq) (.int .i64 iq) (.int .u64 req) (.int .u64 imq) (.slice aq lq cq)
    rw [hW]
    refine bodyPost_ret (v := .agg #[.int .i64 kq, .string nq, .int .i64 iq, .int .u64 req, .int .u64 imq, .slice aq lq cq]) (by simp [results, Try.results69, go_sem, e0, e1, e2, e3, e4, e5]) rfl ⟨_, _, _, _, _, _, _, _, rfl, HQ.out.1.trans (k6.to_below (fun i h => by subst h; omega) (by have := HQ.out.1.size; omega)), ?_⟩
    exact Lies.keep (X := Old ((w.alloc (.cells #[.int .i64 kq, .string n, .int .i64 i, .int .u64 re, .int .u64 im, .slice a l.length c] 36)).alloc ZT)) (Y := Old w) (k6.mono fun i h => by subst h; show _ < _; rw [alloc_size, alloc_size]; omega) (fun b _ h => by show b < _; rw [alloc_size, alloc_size]; have : b < w.heap.size := h; omega) _ _ HQ.out.2.2
end Go.Proofs.Ythableojkjhicaa.nmd
namespace Go.Proofs.Ythableojkjhicaa.rrn
set_option linter.unusedVariables false
open Go.ChangeShapes Go.WideShapes Go.ChangeAt Go.RowKit Go.Maps
open Go.Proofs.Ythableojkjhicaa.tm Go.Proofs.Ythableojkjhicaa.lie Go.Proofs.Ythableojkjhicaa.kp Go.Proofs.Ythableojkjhicaa.cur Go.Proofs.Ythableojkjhicaa.pln Go.Proofs.Ythableojkjhicaa.pla Go.Proofs.Ythableojkjhicaa.wlk Go.Proofs.Ythableojkjhicaa.rws Go.Proofs.Ythableojkjhicaa.rsm Go.Proofs.Ythableojkjhicaa.ren Go.Proofs.Ythableojkjhicaa.vrs Go.Proofs.Ythableojkjhicaa.nmd Go.Proofs.Ythableojkjhicaa.rvs Go.Proofs.Ythableojkjhicaa.rmy
def Rel64 (w2 : World) (mb : Nat) (vs : List Int) (g : Nat) (s14 : Value) (wr : World) : Prop :=
  ∃ (k : Nat) (D : DataW Unit), k ≤ vs.length ∧ g = vs.length - k ∧ s14 = .int .i64 k ∧ wr.ownsMap Try.prog 2 (plainElem (H := Unit) Try.prog 2) mb k D ∧ Idx0 D (vs.take k) ∧ Keep (fun k => k = mb) w2 wr
theorem vs_facts {t : Tm} (hg : good t = true) : (vars t).length ≤ 2000 ∧ (vars t).Nodup ∧ ∀ x ∈ vars t, x ∈ occ t := by
  refine ⟨?_, ?_, fun x hx => ?_⟩
  · unfold vars
    rw [if_pos hg]
    have h1 := fold_len (occ t) []
    have h2 := occ_len t
    simp only [good, Bool.and_eq_true, decide_eq_true_eq] at hg
    simp only [List.length_nil] at h1
    omega
  · unfold vars; rw [if_pos hg]; exact fold_nodup _ (by simp)
  · unfold vars at hx; rw [if_pos hg] at hx
    simpa using (fold_mem (occ t) [] x).1 hx
set_option maxRecDepth 100000 in
set_option maxHeartbeats 1000000 in
theorem rfrom_good (t : Tm) (v : Value) (w : World) (ht : Lies No w t v) (hg : good t = true) : Calls Try.prog 39 #[v, .int .i64 0] w (Gives (Old w) (rn t) w) := by
  have HG := Lib.hid hg
  have hvf := vs_facts hg
  obtain ⟨vs, hvs⟩ : ∃ vs, vs = vars t := ⟨_, rfl⟩
  rw [← hvs] at hvf
  have HV := Lib.hid hvf
  have HVS := Lib.hid hvs
  have hvl := hvf.1
  have hrn : rn t = sub (fun n => var (ix0 vs n)) t := by rw [hvs]; rfl
  rw [hrn]
  obtain ⟨T, hT⟩ : ∃ T, T = t := ⟨_, rfl⟩
  rw [← hT] at HG HVS HV ⊢
  have HT := Lib.hid (show Lies No w T v from hT ▸ ht)
  obtain ⟨k, n, i, re, im, l⟩ := t
  rw [Lies] at ht
  obtain ⟨a, c, rfl, hf, hr⟩ := ht
  have hmm := @run_makeMap Try.prog
  clear hf hr hg hvs hvf hrn hT
  go_enter Try.func39, Try.ntmps39
  go_wp2_with fail
  refine (rVars_any _ _ _ ((HT.out.below (ba _ _)).below (ba _ _))).mono ?_
  rintro e w2 ⟨v, rfl, hv, hb⟩
  rw [← HVS.out] at hv
  obtain ⟨hx, hz, hlt, hb1⟩ := two_at hb
  obtain ⟨a2, c2, rfl⟩ := Go.Proofs.Ythableojkjhicaa.kp.shape hv
  have hs2 : w.heap.size + 1 + 1 ≤ w2.heap.size := by have := hb.size; simp only [alloc_size] at this; exact this
  have hmd : (w2.alloc (.map #[] 0)).ownsMap Try.prog 2 (plainElem (H := Unit) Try.prog 2) w2.heap.size 0 (.map []) := World.ownsMap_made w2 Try.prog 2 (plainElem (H := Unit) Try.prog 2)
  have HW2 := Lib.hid (And.intro hb1 (And.intro hx (And.intro hz (And.intro hv (And.intro hmd hs2)))))
  clear hb hb1 hx hz hv hmd
  go_wp2_with fail
  go_loopg [14] vs.length (Rel64 (w2.alloc (.map #[] 0)) w2.heap.size vs)
  case atStart => exact ⟨0, .map [], by omega, by omega, rfl, HW2.out.2.2.2.2.1, by simpa using Idx0_nil, Keep.refl _ _⟩
  case round =>
    obtain ⟨kk, D, hk, rfl, rfl, hmd, hid, hkp⟩ := hrel
    by_cases hlt2 : kk < vs.length
    · obtain ⟨g, hg1, hg2, hg3, hga, hg4⟩ := ints_look HW2.out.2.2.2.1 hlt2
      clear hga
      have hg5 : wr.cell? ⟨g, kk, none⟩ = some (.int .i64 vs[kk]) := (hkp.cell (by rw [alloc_size]; omega) (by omega)).trans (((ba w2 (.map #[] 0)).cell (p := ⟨g, kk, none⟩) hg3).trans hg1)
      have hvm : vs[kk] ∈ vs := List.getElem_mem hlt2
      have hbd := occ_bound _ _ HT.out _ (HV.out.2.2 _ hvm)
      have hkey : keyOf Try.prog 2 (.int .i64 vs[kk]) = some (CK vs[kk]) := keyOf_int_mk Try.underlying2 (WalkArith.wf_i64 (by omega))
      have hnb := not_before HV.out.2.1 hlt2
      have wfl : (Lit.int .i64 (kk : Int)).wf = true := WalkArith.wf_i64 (by omega)
      generalize hx : vs[kk] = x at hg5 hkey hnb
      have HX := Lib.hid (And.intro hx (And.intro hid (And.intro hkp (And.intro hmd (And.intro hnb wfl)))))
      have hg4' := hg4
      clear hx hid hkp hmd hnb wfl hg1 hg2 hg3 hvm hbd hg4
      go_wp2_with (at_mapUpdate; refine wpList_mapUpdate_own _ rfl _ _ _ 108 rfl 2 2 law Try.underlying108 _ w2.heap.size kk D rfl HX.out.2.2.2.1 ?ad1 _ _ _ rfl rfl hkey _ [] (plainElem_int Try.underlying2 HX.out.2.2.2.2.2) ?_)
      case ad1 => unfold maxLen; omega
      intro w7 hm7 hg7
      have H7 := Lib.hid (And.intro hm7 hg7)
      clear hm7 hg7
      go_wp2_with fail
      go_roundg (vs.length - (kk + 1))
      case measure => omega
      case rel =>
        obtain ⟨hx, hid, hkp, hmd, hnb, wfl⟩ := HX.out
        obtain ⟨hm7, hg7⟩ := H7.out
        refine ⟨kk + 1, _, hlt2, rfl, by go_num, hm7, ?_, hkp.trans (Keep.of_grown (F := fun k => k = w2.heap.size) hg7 fun k e => (Option.some.inj e).symm) fun _ => Or.inl⟩
        rw [take_next hlt2, hx]
        have hl : (kk : Int) = ((vs.take kk).length : Int) := by rw [List.length_take, Nat.min_eq_left hk]
        rw [hl]
        exact Idx0_put hid hmd.isMap hnb
    · have hkv : kk = vs.length := by omega
      subst hkv
      rw [List.take_length] at hid
      have e := fun q (hq : q < w2.heap.size) => (hkp.block q (by rw [alloc_size]; omega) (by omega)).trans ((ba w2 (.map #[] 0)).block q hq)
      have hx := (e _ (show w.heap.size < w2.heap.size by omega)).trans HW2.out.2.1
      have hz := (e _ hlt).trans HW2.out.2.2.1
      have hbr : Below w.heap.size w wr := (HW2.out.1.trans ((ba w2 (.map #[] 0)).mono HW2.out.1.size)).trans (hkp.to_below (fun q e => by subst e; omega) (by rw [alloc_size]; omega))
      obtain ⟨⟨x0, x1, x2, x3, x4, x5⟩, _⟩ := blk_facts hx
      have HR := Lib.hid (And.intro hbr (And.intro hz (And.intro hmd hid)))
      have hlt3 := (Array.getElem?_eq_some_iff.1 hz).1
      clear e hx hz hbr hid hmd hkp
      go_wp2_with fail
      refine (named_any wr w2.heap.size vs.length D vs HR.out.2.2.1 HR.out.2.2.2 hvl T _ wr (br _) (HT.out.below HR.out.1) (good_sound HG.out)).mono ?_
      rintro e w3 ⟨kq, nq, iq, req, imq, aq, lq, cq, rfl, hb3, hq⟩
      have hz3 := (hb3.block _ hlt3).trans HR.out.2.1
      have HQ := Lib.hid (And.intro hb3 (And.intro hq hz3))
      obtain ⟨⟨z0, z1, z2, z3, z4, z5⟩, y0, y1, y2, y3, y4, y5⟩ := blk_facts hz3
      clear hb3 hq hz3 x0 x1 x2 x3 x4 x5
      go_wp2_with fail
      obtain ⟨W, hW, e0, e1, e2, e3, e4, e5, k6⟩ := res_fin HQ.out.2.2 (.int .i64 kq) (.string nq) (.int .i64 iq) (.int .u64 req) (.int .u64 imq) (.slice aq lq cq)
      rw [hW]
      have hs3 := HQ.out.1.size; have hwr := HR.out.1.size
      refine bodyPost_ret (v := .agg #[.int .i64 kq, .string nq, .int .i64 iq, .int .u64 req, .int .u64 imq, .slice aq lq cq]) (by simp [results, Try.results39, go_sem, e0, e1, e2, e3, e4, e5]) rfl ⟨_, _, _, _, _, _, _, _, rfl, (HR.out.1.trans (HQ.out.1.mono hwr)).trans (k6.to_below (fun i h => by subst h; omega) (by omega)), ?_⟩
      exact Lies.keep (Y := Old w) (k6.mono (G := Old wr) fun i h => by subst h; exact hlt3) (fun b _ h => Nat.lt_of_lt_of_le h hwr) _ _ HQ.out.2.1
theorem rren_good (t : Tm) (v : Value) (w : World) (ht : Lies No w t v) (hg : good t = true) : Calls Try.prog 35 #[v] w (Gives (Old w) (rn t) w) := by
  obtain ⟨T, hT⟩ : ∃ T, T = t := ⟨_, rfl⟩
  have HT := Lib.hid ht
  have HM := Lib.hid (may_good hg)
  have HG := Lib.hid hg
  clear hg hT
  obtain ⟨k, n, i, re, im, l⟩ := t
  rw [Lies] at ht
  obtain ⟨a, c, rfl, hf, hr⟩ := ht
  clear hf hr
  go_enter Try.func35, Try.ntmps35
  go_wp2_with fail
  refine (rMay_any _ _ _ ((HT.out.below (ba _ _)).below (ba _ _))).mono ?_
  rintro e w1 ⟨rfl, hb⟩
  rw [HM.out]
  obtain ⟨hx, hz, hlt, hb⟩ := two_at hb
  have HB := Lib.hid (And.intro hb hz)
  obtain ⟨⟨x0, x1, x2, x3, x4, x5⟩, _⟩ := blk_facts hx
  clear hb hz hx
  go_wp2_with fail
  refine (rfrom_good _ _ _ (HT.out.below HB.out.1) HG.out).mono ?_
  rintro e w2 ⟨kq, nq, iq, req, imq, aq, lq, cq, rfl, hb2, hq⟩
  have hz2 := (hb2.block _ hlt).trans HB.out.2
  have HQ := Lib.hid (And.intro hb2 (And.intro hq hz2))
  obtain ⟨⟨z0, z1, z2, z3, z4, z5⟩, y0, y1, y2, y3, y4, y5⟩ := blk_facts hz2
  clear hb2 hq hz2 x0 x1 x2 x3 x4 x5
  go_wp2_with fail
  obtain ⟨W, hW, e0, e1, e2, e3, e4, e5, k6⟩ := res_fin HQ.out.2.2 (.int .i64 kq) (.string nq) (.int .i64 iq) (.int .u64 req) (.int .u64 imq) (.slice aq lq cq)
  rw [hW]
  have hs1 := HB.out.1.size
  have hs2 := HQ.out.1.size
  refine bodyPost_ret (v := .agg #[.int .i64 kq, .string nq, .int .i64 iq, .int .u64 req, .int .u64 imq, .slice aq lq cq]) (by simp [results, Try.results35, go_sem, e0, e1, e2, e3, e4, e5]) rfl ⟨_, _, _, _, _, _, _, _, rfl, (HB.out.1.trans (HQ.out.1.mono hs1)).trans (k6.to_below (fun i h => by subst h; omega) (by omega)), ?_⟩
  exact Lies.keep (Y := Old w) (k6.mono (G := Old w1) fun i h => by subst h; exact hlt) (fun b _ h => Nat.lt_of_lt_of_le h hs1) _ _ HQ.out.2.1
end Go.Proofs.Ythableojkjhicaa.rrn
namespace Go.Proofs.Ythableojkjhicaa.rva
set_option linter.unusedVariables false
open Go.ChangeShapes Go.WideShapes Go.ChangeAt Go.RowKit
open Go.Proofs.Ythableojkjhicaa.tm Go.Proofs.Ythableojkjhicaa.lie Go.Proofs.Ythableojkjhicaa.kp Go.Proofs.Ythableojkjhicaa.cur Go.Proofs.Ythableojkjhicaa.pln Go.Proofs.Ythableojkjhicaa.pla Go.Proofs.Ythableojkjhicaa.wlk Go.Proofs.Ythableojkjhicaa.rws Go.Proofs.Ythableojkjhicaa.rsm Go.Proofs.Ythableojkjhicaa.rpl Go.Proofs.Ythableojkjhicaa.ren Go.Proofs.Ythableojkjhicaa.rmy Go.Proofs.Ythableojkjhicaa.rrn
/-- two boxes of a call's, and what stands behind -/
structure SV (w : World) (A B : Array Value) (wr : World) : Prop where
  bel : Below w.heap.size w wr
  a : wr.heap[w.heap.size]? = some (.cells A 36 (0, 0))
  b : wr.heap[w.heap.size + 1]? = some (.cells B 36 (0, 0))
theorem SV.mk0 (w : World) (A B : Array Value) : SV w A B ((w.alloc (.cells A 36)).alloc (.cells B 36)) := by
  have h2 := alloc_at (w.alloc (.cells A 36)) (.cells B 36 (0, 0))
  rw [alloc_size] at h2
  exact ⟨bt (ba w _) (ba _ _), ((ba (w.alloc (.cells A 36)) _).block _ (by rw [alloc_size]; omega)).trans (alloc_at w _), h2⟩
section
variable {w wr w' : World} {A B : Array Value} {v0 v1 v2 v3 v4 v5 u0 u1 u2 u3 u4 u5 : Value}
theorem SV.below (h : SV w A B wr) (hb : Below wr.heap.size wr w') : SV w A B w' :=
  ⟨h.bel.trans (hb.mono h.bel.size), (hb.block _ (Array.getElem?_eq_some_iff.1 h.a).1).trans h.a, (hb.block _ (Array.getElem?_eq_some_iff.1 h.b).1).trans h.b⟩
theorem SV.cells (h : SV w #[v0, v1, v2, v3, v4, v5] #[u0, u1, u2, u3, u4, u5] wr) : wr.cell? ⟨w.heap.size, 0, none⟩ = some v0 ∧ wr.cell? ⟨w.heap.size, 1, none⟩ = some v1 ∧ wr.cell? ⟨w.heap.size, 2, none⟩ = some v2 ∧ wr.cell? ⟨w.heap.size, 3, none⟩ = some v3 ∧ wr.cell? ⟨w.heap.size, 4, none⟩ = some v4 ∧ wr.cell? ⟨w.heap.size, 5, none⟩ = some v5 ∧
    wr.cell? ⟨w.heap.size + 1, 0, none⟩ = some u0 ∧ wr.cell? ⟨w.heap.size + 1, 1, none⟩ = some u1 ∧ wr.cell? ⟨w.heap.size + 1, 2, none⟩ = some u2 ∧ wr.cell? ⟨w.heap.size + 1, 3, none⟩ = some u3 ∧ wr.cell? ⟨w.heap.size + 1, 4, none⟩ = some u4 ∧ wr.cell? ⟨w.heap.size + 1, 5, none⟩ = some u5 := by
  have h1 := h.a
  have h2 := h.b
  refine ⟨?_, ?_, ?_, ?_, ?_, ?_, ?_, ?_, ?_, ?_, ?_, ?_⟩ <;> simp [World.cell?, h1, h2]
end
section
variable {w wr : World} {A B : Array Value} {T : Tm} {va : Value}
theorem mayS (h : SV w A B wr) (hl : Lies No w T va) (hm : may T = 0) : Calls Try.prog 16 #[va] wr fun e w' => e = .returned (.int .i64 0) ∧ SV w A B w' ∧ Below wr.heap.size wr w' :=
  (rMay_any T va wr (hl.below h.bel)).mono fun e w' ⟨he, hb⟩ => ⟨by rw [he, hm], h.below hb, hb⟩
theorem renS (h : SV w A B wr) (hl : Lies No w T va) (hg : good T = true) : Calls Try.prog 35 #[va] wr fun e w' => ∃ k n i re im aa l c, e = .returned (.agg #[.int .i64 k, .string n, .int .i64 i, .int .u64 re, .int .u64 im, .slice aa l c]) ∧ SV w A B w' ∧ Below wr.heap.size wr w' ∧ Lies No w' (rn T) (.agg #[.int .i64 k, .string n, .int .i64 i, .int .u64 re, .int .u64 im, .slice aa l c]) :=
  (rren_good T va wr (hl.below h.bel) hg).mono fun e w' ⟨k, n, i, re, im, aa, l, c, he, hb, hq⟩ => ⟨k, n, i, re, im, aa, l, c, he, h.below hb, hb, hq.off (Y := No) fun _ _ h => h.elim⟩
end
set_option maxRecDepth 100000 in
set_option maxHeartbeats 2000000 in
theorem rvariant_good (ta tb : Tm) (va vb : Value) (w : World) (ha : Lies No w ta va) (hb : Lies No w tb vb) (ga : good ta = true) (gb : good tb = true) : Calls Try.prog 21 #[va, vb] w fun e w' => e = .returned (.bool (sameB (rn ta) (rn tb))) ∧ Below w.heap.size w w' := by
  have hE : like (rn ta) (rn tb) = sameB (rn ta) (rn tb) := by unfold sameB; rw [good_rn ga, good_rn gb]; simp
  rw [← hE]
  have HA := Lib.hid ha
  have HB := Lib.hid hb
  have HMA := Lib.hid (may_good ga)
  have HMB := Lib.hid (may_good gb)
  have HG := Lib.hid (And.intro ga gb)
  obtain ⟨TA, hTA⟩ : ∃ T, T = ta := ⟨_, rfl⟩
  obtain ⟨TB, hTB⟩ : ∃ T, T = tb := ⟨_, rfl⟩
  rw [← hTA] at HA HMA HG ⊢
  rw [← hTB] at HB HMB HG ⊢
  obtain ⟨k, n, i, re, im, l⟩ := ta
  obtain ⟨k', n', i', re', im', l'⟩ := tb
  rw [Lies] at ha hb
  obtain ⟨aa, c, rfl, hf, hr⟩ := ha
  obtain ⟨ab, c', rfl, hf', hr'⟩ := hb
  clear hf hr hf' hr' hTA hTB ga gb hE
  have hS := SV.mk0 w #[.int .i64 k, .string n, .int .i64 i, .int .u64 re, .int .u64 im, .slice aa l.length c] #[.int .i64 k', .string n', .int .i64 i', .int .u64 re', .int .u64 im', .slice ab l'.length c']
  obtain ⟨w2, hw2⟩ : ∃ w2, w2 = (w.alloc (.cells #[.int .i64 k, .string n, .int .i64 i, .int .u64 re, .int .u64 im, .slice aa l.length c] 36)).alloc (.cells #[.int .i64 k', .string n', .int .i64 i', .int .u64 re', .int .u64 im', .slice ab l'.length c'] 36) := ⟨_, rfl⟩
  rw [← hw2] at hS
  have HS := Lib.hid hS
  have HW := Lib.hid hw2
  clear hS hw2
  go_enter Try.func21, Try.ntmps21
  go_upto_region 1 with fail
  rw [← HW.out]
  have hS := HS.out
  obtain ⟨e0, e1, e2, e3, e4, e5, f0, f1, f2, f3, f4, f5⟩ := hS.cells
  go_region_held3 (fun w' => w'.cell? ⟨w.heap.size, 0, none⟩ = some (.int .i64 k) ∧ w'.cell? ⟨w.heap.size, 1, none⟩ = some (.string n) ∧ w'.cell? ⟨w.heap.size, 2, none⟩ = some (.int .i64 i) ∧ w'.cell? ⟨w.heap.size, 3, none⟩ = some (.int .u64 re) ∧ w'.cell? ⟨w.heap.size, 4, none⟩ = some (.int .u64 im) ∧ w'.cell? ⟨w.heap.size, 5, none⟩ = some (.slice aa l.length c) ∧ w'.cell? ⟨w.heap.size + 1, 0, none⟩ = some (.int .i64 k') ∧ w'.cell? ⟨w.heap.size + 1, 1, none⟩ = some (.string n') ∧ w'.cell? ⟨w.heap.size + 1, 2, none⟩ = some (.int .i64 i') ∧ w'.cell? ⟨w.heap.size + 1, 3, none⟩ = some (.int .u64 re') ∧ w'.cell? ⟨w.heap.size + 1, 4, none⟩ = some (.int .u64 im') ∧ w'.cell? ⟨w.heap.size + 1, 5, none⟩ = some (.slice ab l'.length c'))
    (first | exact SV.cells (by assumption) | exact SV.cells (SV.below (by assumption) (bdr _)) | go_keep)
    (first
    | (go_at_call 16; with_reducible refine (mayS (va := .agg #[.int .i64 k, .string n, .int .i64 i, .int .u64 re, .int .u64 im, .slice aa l.length c]) (by first | assumption | exact SV.below (by assumption) (bdr _)) HA.out HMA.out).mono ?_; rintro e wN ⟨rfl, hS, hbN⟩; (first | have QA := Lib.hid (QA.out.below hbN) | have QA := Lib.hid ((QA.out.below (bdr _)).below hbN) | skip); (first | have QB := Lib.hid (QB.out.below hbN) | have QB := Lib.hid ((QB.out.below (bdr _)).below hbN) | skip))
    | (go_at_call 16; with_reducible refine (mayS (va := .agg #[.int .i64 k', .string n', .int .i64 i', .int .u64 re', .int .u64 im', .slice ab l'.length c']) (by first | assumption | exact SV.below (by assumption) (bdr _)) HB.out HMB.out).mono ?_; rintro e wN ⟨rfl, hS, hbN⟩; (first | have QA := Lib.hid (QA.out.below hbN) | have QA := Lib.hid ((QA.out.below (bdr _)).below hbN) | skip); (first | have QB := Lib.hid (QB.out.below hbN) | have QB := Lib.hid ((QB.out.below (bdr _)).below hbN) | skip))
    | (go_at_call 35; with_reducible refine (renS (va := .agg #[.int .i64 k, .string n, .int .i64 i, .int .u64 re, .int .u64 im, .slice aa l.length c]) (by first | assumption | exact SV.below (by assumption) (bdr _)) HA.out HG.out.1).mono ?_; rintro e wN ⟨kqa, nqa, iqa, rqa, mqa, aqa, lqa, cqa, rfl, hS, hbN, hq⟩; (first | have QB := Lib.hid (QB.out.below hbN) | have QB := Lib.hid ((QB.out.below (bdr _)).below hbN) | skip); have QA := Lib.hid hq; clear hq)
    | (go_at_call 35; with_reducible refine (renS (va := .agg #[.int .i64 k', .string n', .int .i64 i', .int .u64 re', .int .u64 im', .slice ab l'.length c']) (by first | assumption | exact SV.below (by assumption) (bdr _)) HB.out HG.out.2).mono ?_; rintro e wN ⟨kqb, nqb, iqb, rqb, mqb, aqb, lqb, cqb, rfl, hS, hbN, hq⟩; (first | have QA := Lib.hid (QA.out.below hbN) | have QA := Lib.hid ((QA.out.below (bdr _)).below hbN) | skip); have QB := Lib.hid hq; clear hq)
    | (go_at_call 56; refine (Go.Proofs.Ythableojkjhicaa.rlk.rlike_any (rn TA) (rn TB) _ _ _ ?_ ?_ (good_sound (good_rn HG.out.1)) (good_sound (good_rn HG.out.2))).mono ?_; (first | exact QA.out | exact QA.out.below (bdr _)); (first | exact QB.out | exact QB.out.below (bdr _)); rintro e wN ⟨rfl, hbN⟩; have hS := SV.below (by first | assumption | exact SV.below (by assumption) (bdr _)) hbN))
  all_goals go_wp2_with fail
  all_goals go_ret
  all_goals exact ⟨rfl, hS.bel⟩
end Go.Proofs.Ythableojkjhicaa.rva
