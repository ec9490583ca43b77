/- Package order: inOrder. -/
import Derived.Test.YtgkcbiabkpcblaaOrG
import Derived.Maps.AppendAt
namespace Go.Proofs.Ytgkcbiabkpcblaa.odh
open Go.ChangeShapes Go.WideShapes Go.ChangeAt Go.RowKit
set_option linter.unusedVariables false
open Go.Proofs.Ytgkcbiabkpcblaa.tm Go.Proofs.Ytgkcbiabkpcblaa.lie Go.Proofs.Ytgkcbiabkpcblaa.kp Go.Proofs.Ytgkcbiabkpcblaa.cur Go.Proofs.Ytgkcbiabkpcblaa.rws Go.Proofs.Ytgkcbiabkpcblaa.pla Go.Proofs.Ytgkcbiabkpcblaa.lev Go.Proofs.Ytgkcbiabkpcblaa.pln Go.Proofs.Ytgkcbiabkpcblaa.ow6 Go.Proofs.Ytgkcbiabkpcblaa.mes Go.Proofs.Ytgkcbiabkpcblaa.odm Go.Proofs.Ytgkcbiabkpcblaa.odb Go.Proofs.Ytgkcbiabkpcblaa.odc Go.Proofs.Ytgkcbiabkpcblaa.ods Go.Proofs.Ytgkcbiabkpcblaa.ode Go.Proofs.Ytgkcbiabkpcblaa.odf Go.Proofs.Ytgkcbiabkpcblaa.odg
theorem sortParts_small (a a2 : Option Addr) (n c c2 : Nat) (w : World) (h : n < 2) : Calls Try.prog 51 #[.slice a n c, .slice a2 n c2] w fun e w' => e = .returned (.tuple #[]) ∧ w = w' := by
  go_enter Try.func51, Try.ntmps51
  go_wp2_with fail
  refine bodyPost_ret (results_none rfl _ _ _) rfl ?_
  exact ⟨rfl, rfl⟩
def zE : E := ⟨.int .i64 0, .string ⟨#[]⟩, .int .i64 0, .int .u64 0, .int .u64 0, .slice none 0 0, zero⟩
theorem flat_zero (n : Nat) : flat (List.replicate n zE) = (MC n).toList := by
  apply List.ext_getElem?
  intro j
  have hl : (flat (List.replicate n zE)).length = n * 6 := by rw [flat_len, List.length_replicate]
  have hm : (MC n).toList.length = n * 6 := by rw [Array.length_toList, MC_size]
  by_cases hj : j < n * 6
  · obtain ⟨m, i, hi, rfl⟩ : ∃ m i, i < 6 ∧ j = m * 6 + i := ⟨j / 6, j % 6, Nat.mod_lt _ (by omega), by omega⟩
    have h1 := flat_at (A := List.replicate n zE) (m := m) (by rw [List.length_replicate]; omega) [] hi
    rw [List.append_nil] at h1
    rw [h1, List.getElem_replicate]
    have e : (m * 6 + i) % 6 = i := by omega
    have hr : (MC n)[m * 6 + i]? = some (ZV.cells[i]!) := by
      unfold MC madeCells
      have hz : ZV.cells.size = 6 := rfl
      rw [Array.getElem?_map, Array.getElem?_range, if_pos hj, Option.map_some, hz, e]
    have hr2 : (MC n).toList[m * 6 + i]? = some (ZV.cells[i]!) := (Array.getElem?_toList).trans hr
    rw [hr2]
    match i, hi with
    | 0, _ => rfl
    | 1, _ => rfl
    | 2, _ => rfl
    | 3, _ => rfl
    | 4, _ => rfl
    | 5, _ => rfl
    | i + 6, hi => omega
  · rw [List.getElem?_eq_none (by omega), List.getElem?_eq_none (by omega)]
/-- a slice of terms that has its block for itself -/
structure RB (X : Nat → Prop) (W : World) (P : Nat) (a : Option Addr) (c : Nat) (A : List E) (sp : List Value) (w : World) : Prop where
  win : Win P 0 a A.length c
  blk : 0 < A.length → w.heap[P]? = some (.cells (flat A ++ sp).toArray 25 (0, 0)) ∧ W.heap.size ≤ P
  ls : ∀ e ∈ A, Lies X w e.t e.v
  bel : Below W.heap.size W w
theorem RB.below {X : Nat → Prop} {W w w' : World} {P : Nat} {a : Option Addr} {c : Nat} {A : List E} {sp : List Value} (h : RB X W P a c A sp w) (hb : Below w.heap.size w w') : RB X W P a c A sp w' :=
  ⟨h.win, fun q => ⟨(hb.block _ (Array.getElem?_eq_some_iff.1 (h.blk q).1).1).trans (h.blk q).1, (h.blk q).2⟩, fun e he => (h.ls e he).below hb, h.bel.trans (hb.mono h.bel.size)⟩
theorem RB.row {X : Nat → Prop} {W w : World} {P : Nat} {a : Option Addr} {c : Nat} {A : List E} {sp : List Value} (h : RB X W P a c A sp w) : TRow No w (A.map E.t) a 0 := by
  refine TRow.mk _ _ fun m hm => ?_
  rw [List.length_map] at hm
  have hp : 0 < A.length := by omega
  have ha := h.win.pos hp
  refine ⟨P, 0, A[m].v0, A[m].v1, A[m].v2, A[m].v3, A[m].v4, A[m].v5, by simpa using ha, id, ?_, ?_⟩
  · have := (blk_six (h.blk hp).1 hm).1
    simpa using this
  · rw [List.getElem_map]
    exact (h.ls _ (List.getElem_mem hm)).off fun _ _ q => q.elim
theorem own_rb {W w : World} {A : List E} {a : Option Addr} {c : Nat} (ho : w.ownsRow W.heap.size 25 6 (.slice a A.length c) A.length (flat A)) (ls : ∀ e ∈ A, Lies (Nw W) w e.t e.v) (bel : Below W.heap.size W w) : ∃ P sp, RB (Nw W) W P a c A sp w := by
  rcases ho.2 with ⟨hv, h0⟩ | ⟨g, cap, cur, hv, hg0, hgc, h1, h2, h3, h4⟩
  · simp only [Value.slice.injEq] at hv
    obtain ⟨rfl, _, rfl⟩ := hv
    exact ⟨0, [], ⟨by omega, by simp [maxLen], fun q => by omega⟩, fun q => by omega, ls, bel⟩
  · simp only [Value.slice.injEq, true_and] at hv
    obtain ⟨rfl, rfl⟩ := hv
    refine ⟨g, cur.toList.drop (A.length * 6), ⟨h1, h2, fun _ => by simp⟩, fun _ => ⟨?_, hg0⟩, ls, bel⟩
    rw [hgc, ← h4, List.take_append_drop]
theorem sorted_any {W wr : World} {A : List E} {a : Option Addr} {c : Nat} (ho : wr.ownsRow W.heap.size 25 6 (.slice a A.length c) A.length (flat A)) (ls : ∀ e ∈ A, Lies (Nw W) wr e.t e.v) (bel : Below W.heap.size W wr) (hs : ∀ e ∈ A, sound e.t = true) (hA : A.length ≤ 900000) :
    Calls Try.prog 51 #[.slice a A.length c, .slice (some ⟨wr.heap.size, 0, none⟩) A.length A.length] (wr.alloc (.cells (MC A.length) 25)) fun e w' => e = .returned (.tuple #[]) ∧ ∃ P A' sp, A'.length = A.length ∧ (A'.map E.t).Perm (A.map E.t) ∧ Up (A'.map E.t) ∧ RB (Nw W) W P a c A' sp w' := by
  obtain ⟨P, sp, hrb⟩ := own_rb ho ls bel
  by_cases h2 : A.length < 2
  · refine (sortParts_small _ _ _ _ _ _ h2).mono ?_
    rintro e w' ⟨rfl, rfl⟩
    exact ⟨rfl, P, A, sp, rfl, .refl _, upE _ h2, hrb.below (ba _ _)⟩
  · have hrb1 := hrb.below (ba wr (.cells (MC A.length) 25))
    have hb := hrb.blk (by omega)
    have hso : SO W P wr.heap.size A (List.replicate A.length zE) sp [] (wr.alloc (.cells (MC A.length) 25)) :=
      ⟨(hrb1.blk (by omega)).1, by rw [alloc_at, List.append_nil, flat_zero], hrb1.ls, fun e he => by rw [List.eq_of_mem_replicate he]; exact zero_lies _ _, by have := (Array.getElem?_eq_some_iff.1 hb.1).1; omega, hb.2, bel.size, hrb1.bel⟩
    have h0 : win A 0 A.length = A := by unfold win; simp
    refine (sortParts_any A.length W _ P wr.heap.size 0 0 A.length c A.length a (some ⟨wr.heap.size, 0, none⟩) A (List.replicate A.length zE) sp [] (Nat.le_refl _) hso hrb.win ⟨by omega, by unfold maxLen; omega, fun _ => by simp⟩ (by omega) (by rw [List.length_replicate]; omega) (by rw [h0]; exact hs) (by omega)).mono ?_
    rintro e w' ⟨rfl, A', B', s, q, h⟩
    have h0' : win A' 0 A.length = A' := by unfold win; rw [List.drop_zero, List.take_of_length_le (by rw [s.len]; omega)]
    have hp := s.pm
    have hu := s.up
    rw [h0, h0'] at hp
    rw [h0'] at hu
    refine ⟨rfl, P, A', sp, s.len, hp.map _, hu, ⟨by rw [s.len]; exact hrb.win, fun _ => ⟨h.pa, h.hp⟩, h.la, h.bel⟩⟩
/-- what inOrder tells -/
def InO (L : List Tm) (W : World) (e : Ending) (w' : World) : Prop :=
  ∃ P a c A sp, e = .returned (.slice a (A.length : Nat) c) ∧ RB (Nw W) W P a c A sp w' ∧ (A.map E.t).Perm (L.filter good) ∧ Up (A.map E.t)
def IRel (L : List Tm) (w : World) (g : Nat) (s3 s8 : Value) (wr : World) : Prop :=
  ∃ (k : Nat) (A : List E), k ≤ L.length ∧ g = L.length - k ∧ s8 = .int .i64 k ∧ wr.ownsRow w.heap.size 25 6 s3 A.length (flat A) ∧ A.map E.t = (L.take k).filter good ∧ (∀ e ∈ A, Lies (Nw w) wr e.t e.v) ∧ Below w.heap.size w wr
theorem filter_next {L : List Tm} {k : Nat} (hk : k < L.length) : (L.take (k + 1)).filter good = (L.take k).filter good ++ (if good L[k] = true then [L[k]] else []) := by
  rw [List.take_succ_eq_append_getElem hk, List.filter_append]
  congr 1
  cases h : good L[k] <;> simp [h]
set_option maxRecDepth 100000 in
set_option maxHeartbeats 4000000 in
theorem inOrder_any (L : List Tm) (a : Option Addr) (c : Nat) (w : World) (hr : TRow No w L a 0) (hL : L.length ≤ 900000) : Calls Try.prog 32 #[.slice a L.length c] w (InO L w) := by
  have HR := Lib.hid hr
  obtain ⟨ij, hi1, hi2, hi3, hi4⟩ := info_t
  have HI := Lib.hid (And.intro hi1 (And.intro hi2 (And.intro hi3 hi4)))
  clear hr hi1 hi2 hi3 hi4
  go_enter Try.func32, Try.ntmps32
  go_wp2_with fail
  go_loopg [3, 8] L.length (IRel L w)
  case atStart => exact ⟨0, [], by omega, by omega, rfl, World.ownsRow_nil _ _ _ _, by simp, by simp, br _⟩
  case round =>
    obtain ⟨kk, A, hk, rfl, rfl, ho, hA, hls, hb⟩ := hrel
    obtain ⟨a3, c3, rfl⟩ := Go.Proofs.Ytgkcbiabkpcblaa.kp.shape ho
    by_cases hlt : kk < L.length
    · obtain ⟨b1, o1, v0, v1, v2, v3, v4, v5, hbl, _, h6, hlx, hix⟩ := HR.out.look hlt
      have h6' := h6.keep (X := No) (Keep.of_below hb) id
      have hix' := hix c
      obtain ⟨kp, np, ip, rp, mp, lp, ap, cp, hv, _⟩ := lies_form hlx
      obtain ⟨rfl, rfl, rfl, rfl, rfl, rfl⟩ := hv
      obtain ⟨e0, e1, e2, e3, e4, e5⟩ := h6'
      have hlo : Lies (Nw w) w L[kk] (.agg #[.int .i64 kp, .string np, .int .i64 ip, .int .u64 rp, .int .u64 mp, .slice ap lp cp]) := hlx.off fun b h1 h2 => absurd h1 (by have : w.heap.size ≤ b := h2; omega)
      have HX := Lib.hid (And.intro (hlx.below hb) (And.intro hb (And.intro ho (And.intro hA (And.intro hls (hlo.below hb))))))
      have HN := Lib.hid (filter_next hlt)
      clear h6 hlx hix hb ho hA hls hlo
      cases hg : good L[kk]
      · have q : (may L[kk] == 0) = false := by rw [beq_eq_false_iff_ne]; have := may_nogood hg; omega
        have HG := Lib.hid hg
        clear hg
        go_wp2_with fail
        refine (may_any _ _ _ (HX.out.1.below (ba _ _))).mono ?_
        rintro e w4 ⟨rfl, hb4⟩
        have HB4 := Lib.hid (bt (ba _ _) hb4)
        clear hb4 e0 e1 e2 e3 e4 e5
        go_wp2_with fail
        go_roundg (L.length - (kk + 1))
        case measure => omega
        case rel => exact ⟨kk + 1, A, hlt, rfl, by go_num, row6_keep HX.out.2.2.1 fun k e => HB4.out.block k (HX.out.2.2.1.lt k e).2, by rw [HN.out, HG.out, HX.out.2.2.2.1]; simp, fun e he => (HX.out.2.2.2.2.1 e he).below HB4.out, HX.out.2.1.trans (HB4.out.mono HX.out.2.1.size)⟩
      · have q : (may L[kk] == 0) = true := by rw [beq_iff_eq]; exact may_good hg
        have HG := Lib.hid hg
        clear hg
        go_wp2_with fail
        refine (may_any _ _ _ (HX.out.1.below (ba _ _))).mono ?_
        rintro e w4 ⟨rfl, hb4⟩
        have hbx := (hb4.block _ (by rw [alloc_size]; omega)).trans (alloc_at wr (.cells #[.int .i64 kp, .string np, .int .i64 ip, .int .u64 rp, .int .u64 mp, .slice ap lp cp] 25))
        obtain ⟨⟨x0, x1, x2, x3, x4, x5⟩, _⟩ := blk_facts hbx
        have HB4 := Lib.hid (bt (ba _ _) hb4)
        have hown4 := row6_keep HX.out.2.2.1 fun k e => HB4.out.block k (HX.out.2.2.1.lt k e).2
        have HO4 := Lib.hid hown4
        have hal : A.length ≤ kk := by
          have := congrArg List.length HX.out.2.2.2.1
          rw [List.length_map] at this
          have h2 := List.length_filter_le good (L.take kk)
          rw [List.length_take] at h2; omega
        clear hb4 hbx hown4 e0 e1 e2 e3 e4 e5
        go_wp2_with (at_builtin; refine wpList_append_lies _ rfl (.tmp 15) (.tmp 17) 23 rfl w.heap.size 25 ij ZV 6 72 Try.underlying23 HI.out.1 HI.out.2.1 HI.out.2.2.1 HI.out.2.2.2 rfl (by decide) _ A.length (flat A) rfl (row6_keep HO4.out fun q e => (ba _ _).block q (HO4.out.lt q e).2) ⟨w4.heap.size, 0, none⟩ 1 1 [.int .i64 kp, .string np, .int .i64 ip, .int .u64 rp, .int .u64 mp, .slice ap lp cp] rfl rfl (news6 _ _ _ _ _ _ _ _) ?ac1 (by omega) ?ac2 ?ac3 ?ac4 _ rfl ?_)
        case ac1 => intro u hu; simp only [List.mem_cons, List.not_mem_nil, or_false] at hu; rcases hu with rfl | rfl | rfl | rfl | rfl | rfl <;> rfl
        case ac2 => unfold maxLen; omega
        case ac3 => omega
        case ac4 => have := HX.out.2.1.size; have := HB4.out.size; rw [alloc_size]; omega
        intro g' c' w9 ho9 hg9 ha9 hl9
        have hk9 : Keep (fun k => (Value.slice a3 A.length c3).ownBlock = some k) w4 w9 := (Keep.of_below (F := fun k => (Value.slice a3 A.length c3).ownBlock = some k) (ba w4 _)).trans (Keep.of_grown hg9 fun k e => e) fun _ => Or.inl
        have hF : ∀ k, (Value.slice a3 A.length c3).ownBlock = some k → w.heap.size ≤ k := fun k e => (HO4.out.lt k e).1
        have hb9 : Below w.heap.size w w9 := (HX.out.2.1.trans (HB4.out.mono HX.out.2.1.size)).trans (hk9.to_below hF (by have := HX.out.2.1.size; have := HB4.out.size; omega))
        have hl9' : ∀ e : E, Lies (Nw w) w4 e.t e.v → Lies (Nw w) w9 e.t e.v := fun e he => Lies.keep (hk9.mono (G := Nw w) hF) (fun _ _ => id) _ _ he
        have H9 := Lib.hid (And.intro ho9 (And.intro hb9 hl9'))
        clear ho9 hg9 ha9 hl9 hk9 hF hb9 hl9' x0 x1 x2 x3 x4 x5
        go_wp2_with fail
        go_roundg (L.length - (kk + 1))
        case measure => omega
        case rel =>
          refine ⟨kk + 1, A ++ [⟨.int .i64 kp, .string np, .int .i64 ip, .int .u64 rp, .int .u64 mp, .slice ap lp cp, L[kk]⟩], hlt, rfl, by go_num, ?_, ?_, ?_, H9.out.2.1⟩
          · rw [List.length_append, flat_append]
            exact H9.out.1
          · rw [List.map_append, HX.out.2.2.2.1, HN.out, HG.out]; rfl
          · intro e he
            rcases List.mem_append.1 he with h | h
            · exact H9.out.2.2 e ((HX.out.2.2.2.2.1 e h).below HB4.out)
            · simp only [List.mem_singleton] at h
              subst h
              exact H9.out.2.2 ⟨.int .i64 kp, .string np, .int .i64 ip, .int .u64 rp, .int .u64 mp, .slice ap lp cp, L[kk]⟩ (HX.out.2.2.2.2.2.below HB4.out)
    · have hkk : kk = L.length := by omega
      subst hkk
      rw [List.take_length] at hA
      have hal : A.length ≤ L.length := by
        have := congrArg List.length hA
        rw [List.length_map] at this
        have h2 := List.length_filter_le good L
        omega
      have hmk := fun w => make_run A.length (by omega) w
      have HX := Lib.hid (And.intro ho (And.intro hA (And.intro hls hb)))
      clear ho hA hls hb
      go_wp2_with fail
      refine (sorted_any HX.out.1 HX.out.2.2.1 HX.out.2.2.2 (fun e he => ?_) (by omega)).mono ?_
      · have : e.t ∈ L.filter good := by rw [← HX.out.2.1]; exact List.mem_map.2 ⟨e, he, rfl⟩
        exact good_sound (List.mem_filter.1 this).2
      rintro e w4 ⟨rfl, P, A', sp, hl, hp, hu, hrb⟩
      have H4 := Lib.hid (And.intro hp (And.intro hu hrb))
      rw [← hl]
      clear hp hu hrb hmk hl
      go_wp2_with fail
      go_ret
      exact ⟨P, a3, c3, A', sp, rfl, H4.out.2.2, by rw [← HX.out.2.1]; exact H4.out.1, H4.out.2.1⟩
end Go.Proofs.Ytgkcbiabkpcblaa.odh
