/- Items of any term: package term's and the reference's. -/
import Derived.Test.YtjgkgceigbimoaaRCn
namespace Go.Proofs.Ytjgkgceigbimoaa.itm
set_option linter.unusedVariables false
open Go.ChangeShapes Go.WideShapes Go.ChangeAt Go.RowKit
open Go.Proofs.Ytjgkgceigbimoaa.tm Go.Proofs.Ytjgkgceigbimoaa.lie Go.Proofs.Ytjgkgceigbimoaa.kp Go.Proofs.Ytjgkgceigbimoaa.cur Go.Proofs.Ytjgkgceigbimoaa.rws Go.Proofs.Ytjgkgceigbimoaa.pla Go.Proofs.Ytjgkgceigbimoaa.wlk Go.Proofs.Ytjgkgceigbimoaa.pln Go.Proofs.Ytjgkgceigbimoaa.ow6 Go.Proofs.Ytjgkgceigbimoaa.awk Go.Proofs.Ytjgkgceigbimoaa.lst Go.Proofs.Ytjgkgceigbimoaa.rcn Go.Proofs.Ytjgkgceigbimoaa.rsm Go.Proofs.Ytjgkgceigbimoaa.rpl Go.Proofs.Ytjgkgceigbimoaa.sme
theorem consB_iff (t : Tm) : consB t = true ↔ t.kind = 5 ∧ t.name = DOT ∧ t.args.length = 2 := by
  simp only [consB, Bool.and_eq_true, decide_eq_true_eq, and_assoc]
theorem nilB_iff (t : Tm) : nilB t = true ↔ t.kind = 2 ∧ t.name = NIL := by
  simp only [nilB, Bool.and_eq_true, decide_eq_true_eq]
theorem nilB_no {t : Tm} (h : ¬ (t.kind = 2 ∧ t.name = NIL)) : nilB t = false := by
  cases e : nilB t with
  | true => exact absurd ((nilB_iff t).1 e) h
  | false => rfl
/-- a term as a list: its items, and what it ends in, which is no pair -/
inductive Sp : Tm → List Tm → Tm → Prop
  | stop (t : Tm) (h : consB t = false) : Sp t [] t
  | step (i re im : Int) (x r : Tm) (L : List Tm) (E : Tm) (h : Sp r L E) : Sp (.mk 5 DOT i re im [x, r]) (x :: L) E
theorem Sp.ex (t : Tm) : ∃ L E, Sp t L E := by
  induction t using Tm.ind with
  | h k n i re im l ih =>
    by_cases hc : consB (.mk k n i re im l) = true
    · rw [consB_iff] at hc
      simp only [Tm.kind, Tm.name, Tm.args] at hc
      obtain ⟨rfl, rfl, hl⟩ := hc
      match l, hl with
      | [x, r], _ =>
        obtain ⟨L, E, h⟩ := ih r (by simp)
        exact ⟨_, _, Sp.step i re im x r L E h⟩
    · exact ⟨[], _, Sp.stop _ (by simpa using hc)⟩
theorem Sp.end_ {t : Tm} {L : List Tm} {E : Tm} (h : Sp t L E) : consB E = false := by
  induction h with
  | stop t h => exact h
  | step _ _ _ _ _ _ _ _ ih => exact ih
theorem Sp.size_ {t : Tm} {L : List Tm} {E : Tm} (h : Sp t L E) : L.length + 1 ≤ size t := by
  induction h with
  | stop t h => have := size_pos t; simpa using this
  | step i re im x r L E h ih =>
    have := size_pos x
    simp only [size, sizeL, if_true, List.length_cons]; omega
theorem consB_plain (t : Tm) : consB (plain t) = consB t := by
  refine bool_ext ?_
  rw [consB_iff, consB_iff, plain_kind]
  obtain ⟨k, n, i, re, im, l⟩ := t
  by_cases h5 : k = 5
  · subst h5; simp [plain, sub, Tm.kind, Tm.name, Tm.args, subL_map]
  · simp [h5, Tm.kind]
theorem nilB_plain (t : Tm) : nilB (plain t) = nilB t := by
  refine bool_ext ?_
  rw [nilB_iff, nilB_iff, plain_kind]
  obtain ⟨k, n, i, re, im, l⟩ := t
  by_cases h2 : k = 2
  · subst h2; simp [plain, sub, Tm.kind, Tm.name]
  · simp [h2, Tm.kind]
theorem Sp.plain_ {t : Tm} {L : List Tm} {E : Tm} (h : Sp t L E) : Sp (plain t) (L.map plain) (plain E) := by
  induction h with
  | stop t h => exact Sp.stop _ (by rw [consB_plain]; exact h)
  | step i re im x r L E h ih =>
    have : plain (.mk 5 DOT i re im [x, r]) = .mk 5 DOT 0 0 0 [plain x, plain r] := by simp [plain, sub, subL]
    rw [this]
    exact Sp.step 0 0 0 _ _ _ _ ih
/-- of a good term items and end are good -/
theorem Sp.good_ {t : Tm} {L : List Tm} {E : Tm} (h : Sp t L E) : good t = true → (∀ x ∈ L, good x = true) ∧ good E = true := by
  induction h with
  | stop t h => exact fun g => ⟨by simp, g⟩
  | step i re im x r L E h ih =>
    intro hg
    simp only [good, size, height, sound, sizeL, heightL, soundL, if_true, Bool.and_eq_true, decide_eq_true_eq] at hg
    obtain ⟨⟨h1, h2⟩, _, h3, h4, _⟩ := hg
    have hr : good r = true := by
      simp only [good, Bool.and_eq_true, decide_eq_true_eq]
      exact ⟨⟨by omega, by omega⟩, h4⟩
    have hx : good x = true := by
      simp only [good, Bool.and_eq_true, decide_eq_true_eq]
      exact ⟨⟨by omega, by omega⟩, h3⟩
    obtain ⟨q1, q2⟩ := ih hr
    exact ⟨fun y hy => by rcases List.mem_cons.1 hy with rfl | hy; exact hx; exact q1 y hy, q2⟩
/-- what Items tells: the items where the end is the empty list, nothing else -/
def ToldI (L : List Tm) (E : Tm) (w : World) (e : Ending) (w' : World) : Prop :=
  Below w.heap.size w w' ∧ ((nilB E = true ∧ ∃ a c, e = .returned (.tuple #[.slice a L.length c, .bool true]) ∧ L.length ≤ c ∧ TRow No w' L a 0) ∨ (nilB E = false ∧ e = .returned (.tuple #[.slice none 0 0, .bool false])))
def JRel (b B : Nat) (w : World) (L : List Tm) (E : Tm) (g : Nat) (s4 : Value) (wr : World) : Prop :=
  ∃ (D R : List Tm) (cur : Tm) (kq : Int) (nq : ByteArray) (iq rq mq : Int) (aq : Option Addr) (lq cq : Nat), D ++ R = L ∧ g = R.length ∧ XOwn (fun q => q = b) B D s4 wr ∧ Sp cur R E ∧
    wr.heap[b]? = some (.cells #[.int .i64 kq, .string nq, .int .i64 iq, .int .u64 rq, .int .u64 mq, .slice aq lq cq] 25 (0, 0)) ∧
    Lies (fun q => q = b ∨ B ≤ q) wr cur (.agg #[.int .i64 kq, .string nq, .int .i64 iq, .int .u64 rq, .int .u64 mq, .slice aq lq cq]) ∧ Below w.heap.size w wr ∧ B ≤ wr.heap.size
set_option maxRecDepth 100000 in
set_option maxHeartbeats 2000000 in
theorem items_any (t : Tm) (L : List Tm) (E : Tm) (v : Value) (w : World) (ht : Lies No w t v) (hp : Sp (plainR t) L E) (hL : L.length ≤ 2000) : Calls Try.prog 8 #[v] w (ToldI L E w) := by
  obtain ⟨T, hT⟩ : ∃ T, T = t := ⟨_, rfl⟩
  have HT := Lib.hid (show Lies No w T v from hT ▸ ht)
  have HP := Lib.hid (show Sp (plainR T) L E from hT ▸ hp)
  obtain ⟨k, n, i, re, im, l⟩ := t
  rw [Lies] at ht
  obtain ⟨a, c, rfl, hf, hr⟩ := ht
  obtain ⟨ij, hi1, hi2, hi3, hi4⟩ := info_t
  have HI := Lib.hid (And.intro hi1 (And.intro hi2 (And.intro hi3 hi4)))
  clear hf hr hT hp hi1 hi2 hi3 hi4
  go_enter Try.func8, Try.ntmps8
  go_wp2_with fail
  refine (plain_any _ _ _ (HT.out.below (ba _ _))).mono ?_
  rintro e w2 ⟨ka, na, ia, ra, ma, aa, la, ca, rfl, hb2, hq⟩
  have hs2 := hb2.size
  have hx2 := (hb2.block w.heap.size (by rw [alloc_size]; omega)).trans (alloc_at w _)
  have hlt2 := (Array.getElem?_eq_some_iff.1 hx2).1
  obtain ⟨⟨e0, e1, e2, e3, e4, e5⟩, y0, y1, y2, y3, y4, y5⟩ := blk_facts hx2
  have HB := Lib.hid (And.intro (bt (ba _ _) hb2) (And.intro hq hx2))
  clear hb2 hq hx2
  go_wp2_with fail
  obtain ⟨W, hW, hboxW, k6⟩ := box_set HB.out.2.2 (.int .i64 ka) (.string na) (.int .i64 ia) (.int .u64 ra) (.int .u64 ma) (.slice aa la ca)
  rw [hW]
  have HW := Lib.hid (And.intro hboxW k6)
  clear hW hboxW k6 e0 e1 e2 e3 e4 e5 y0 y1 y2 y3 y4 y5
  go_loopg [4] L.length (JRel w.heap.size w2.heap.size w L E)
  case atStart =>
    refine ⟨[], L, plainR T, ka, na, ia, ra, ma, aa, la, ca, rfl, rfl, XOwn.nil _ _ _, HP.out, HW.out.1, ?_, HB.out.1.trans (HW.out.2.to_below (fun q h => by subst h; omega) HB.out.1.size), HW.out.2.size⟩
    have h0 : Lies (fun q => q = w.heap.size ∨ w2.heap.size ≤ q) w2 (plainR T) (.agg #[.int .i64 ka, .string na, .int .i64 ia, .int .u64 ra, .int .u64 ma, .slice aa la ca]) := HB.out.2.1.off fun q h1 h2 => by
      show q < (w.alloc _).heap.size
      rw [alloc_size]; omega
    exact Lies.keep (HW.out.2.mono (G := fun q => q = w.heap.size ∨ w2.heap.size ≤ q) fun q h => Or.inl h) (fun _ _ => id) _ _ h0
  case round =>
    obtain ⟨D, R, cur, kq, nq, iq, rq, mq, aq, lq, cq, hDR, hgk, hown, hsp, hbox, hli, hb, hB⟩ := hrel
    cases hsp with
    | step i' re' im' x0 r0 R' _ hsp =>
      rw [Lies] at hli
      obtain ⟨a1, c1, hv, _, hrow⟩ := hli
      simp only [Value.agg.injEq, Array.mk.injEq, List.cons.injEq, Value.int.injEq, Value.string.injEq, Value.slice.injEq, and_true, true_and] at hv
      obtain ⟨rfl, rfl, rfl, rfl, rfl, rfl, rfl, rfl⟩ := hv
      obtain ⟨b1, o1, v0, v1, v2, v3, v4, v5, _, hx1, h6, hlx, hix⟩ := hrow.look (m := 0) (by simp)
      obtain ⟨b2, o2, u0, u1, u2, u3, u4, u5, _, hx2, h62, hlx2, hix2⟩ := hrow.look (m := 1) (by simp)
      have hix' := hix cq
      have hix2' := hix2 cq
      simp only [List.length_cons, List.length_nil, List.getElem_cons_zero, List.getElem_cons_succ, Int.natCast_zero, Int.natCast_one, Nat.zero_add, Nat.reduceAdd] at hix' hix2' hlx hlx2
      obtain ⟨kp, np, ip, rp, mp, lp, ap, cp, hv, _⟩ := lies_form hlx
      obtain ⟨rfl, rfl, rfl, rfl, rfl, rfl⟩ := hv
      obtain ⟨kz, nz, iz, rz, mz, lz, az, cz, hv, _⟩ := lies_form hlx2
      obtain ⟨rfl, rfl, rfl, rfl, rfl, rfl⟩ := hv
      obtain ⟨a3, c3, rfl, hl3, hc3, _⟩ := hown.row (Y := No) fun _ h => h.elim
      obtain ⟨kk, hkk⟩ : ∃ kk, kk = D.length := ⟨_, rfl⟩
      rw [← hkk] at hown hl3 ⊢
      have hk9 : kk ≤ 2000 := by have := congrArg List.length hDR; rw [List.length_append] at this; omega
      have HKK := Lib.hid hkk
      obtain ⟨xs, ho, hx⟩ := hown.ex
      rw [← hkk] at ho
      obtain ⟨⟨e0, e1, e2, e3, e4, e5⟩, y0, y1, y2, y3, y4, y5⟩ := blk_facts hbox
      obtain ⟨g0, g1, g2, g3, g4, g5⟩ := h6
      have h62' := h62.1
      obtain ⟨f0, f1, f2, f3, f4, f5⟩ := h62
      have HX := Lib.hid (And.intro hown (And.intro ho (And.intro hx (And.intro hbox (And.intro hlx (And.intro hlx2 (And.intro hb (And.intro hB (And.intro hsp hDR)))))))))
      have hlt1 : w.heap.size < w2.heap.size := hlt2
      have hnb2 : b2 < w2.heap.size := by have : ¬ (b2 = w.heap.size ∨ w2.heap.size ≤ b2) := hx2; omega
      have hbl2 := cell_lt h62'
      clear hrow hx1 hx2 hix hix2 hlx hlx2 hown ho hx hbox hb hB hl3 hc3 h62' hsp hDR hkk
      go_wp2_with (at_builtin; refine wpList_append_lies _ rfl (.tmp 21) (.tmp 26) 22 rfl w2.heap.size 25 ij ZV 6 72 Try.underlying22 HI.out.1 HI.out.2.1 HI.out.2.2.1 HI.out.2.2.2 rfl (by decide) _ kk xs rfl (row6_keep HX.out.2.1 fun q e => (ba _ _).block q (HX.out.2.1.lt q e).2) ⟨wr.heap.size, 0, none⟩ 1 1 [.int .i64 kp, .string np, .int .i64 ip, .int .u64 rp, .int .u64 mp, .slice ap lp cp] rfl rfl (news6 _ _ _ _ _ _ _ _) ?ac1 (by omega) ?ac2 ?ac3 ?ac4 _ rfl ?_)
      case ac1 => intro u hu; simp only [List.mem_cons, List.not_mem_nil, or_false] at hu; rcases hu with rfl | rfl | rfl | rfl | rfl | rfl <;> rfl
      case ac2 => unfold maxLen; omega
      case ac3 => omega
      case ac4 => have := HX.out.2.2.2.2.2.2.2.1; rw [alloc_size]; omega
      intro g' c' w9 ho9 hg9 ha9 hl9
      have hlen : D.length = kk := HKK.out.symm
      have hadd := XOwn.add (Z := fun q => q = w.heap.size) (t := x0) HX.out.2.2.1 (by rw [hlen]; exact HX.out.2.1) (HX.out.2.2.2.2.1.off fun q hq e => by
        rcases e with e | e
        · exact Or.inl e
        · exact Or.inr (HX.out.2.1.lt q e).1) (by rw [hlen]; exact ho9) hg9 (ha9.imp id fun e => by omega)
      have hkp := hadd.2
      have hno : ∀ q, q < w2.heap.size → ¬ (Value.slice a3 kk c3).ownBlock = some q := fun q hq e => by have := (HX.out.2.1.lt q e).1; omega
      have hB9 := HX.out.2.2.2.2.2.2.2.1
      have hbox9 := (hkp.block w.heap.size (by omega) (hno _ hlt1)).trans HX.out.2.2.2.1
      have q0 := (hkp.cell (o := o2) hbl2 (hno _ hnb2)).trans f0
      have q1 := (hkp.cell (o := o2 + 1) hbl2 (hno _ hnb2)).trans f1
      have q2 := (hkp.cell (o := o2 + 2) hbl2 (hno _ hnb2)).trans f2
      have q3 := (hkp.cell (o := o2 + 3) hbl2 (hno _ hnb2)).trans f3
      have q4 := (hkp.cell (o := o2 + 4) hbl2 (hno _ hnb2)).trans f4
      have q5 := (hkp.cell (o := o2 + 5) hbl2 (hno _ hnb2)).trans f5
      rw [List.length_append, hlen, List.length_singleton] at hadd
      have H9 := Lib.hid (And.intro hadd.1 (And.intro hbox9 hkp))
      obtain ⟨⟨_, _, _, _, _, z5⟩, y0, y1, y2, y3, y4, y5⟩ := blk_facts hbox9
      obtain ⟨⟨z0, z1, z2, z3, z4, z5⟩, _⟩ := blk_facts hbox9
      clear ho9 hg9 ha9 hl9 hadd hkp hno hbox9 e0 e1 e2 e3 e4 e5 f0 f1 f2 f3 f4 f5 g0 g1 g2 g3 g4 g5
      go_wp2_with fail
      obtain ⟨W9, hW9, hboxW, k6⟩ := box_set H9.out.2.1 (.int .i64 kz) (.string nz) (.int .i64 iz) (.int .u64 rz) (.int .u64 mz) (.slice az lz cz)
      rw [hW9]
      go_roundg R'.length
      case measure => rw [hgk]; simp
      case rel =>
        have hs9 := H9.out.2.2.size
        have hB9 := HX.out.2.2.2.2.2.2.2.1
        refine ⟨D ++ [x0], R', r0, kz, nz, iz, rz, mz, az, lz, cz, by rw [List.append_assoc]; exact HX.out.2.2.2.2.2.2.2.2.2, rfl, H9.out.1.keep k6 (fun q h => ⟨h, by subst h; exact hlt1⟩), HX.out.2.2.2.2.2.2.2.2.1, hboxW, ?_, ?_, ?_⟩
        · exact Lies.keep (k6.mono (G := fun q => q = w.heap.size ∨ w2.heap.size ≤ q) fun q h => Or.inl h) (fun _ _ => id) _ _ (Lies.keep (H9.out.2.2.mono (G := fun q => q = w.heap.size ∨ w2.heap.size ≤ q) fun q h => Or.inr (HX.out.2.1.lt q h).1) (fun _ _ => id) _ _ HX.out.2.2.2.2.2.1)
        · exact (HX.out.2.2.2.2.2.2.1.trans (H9.out.2.2.to_below (fun q h => by have := (HX.out.2.1.lt q h).1; omega) (by omega))).trans (k6.to_below (fun q h => by subst h; omega) (by omega))
        · have := k6.size; omega
    | stop _ hc =>
      have hD : D = L := by simpa using hDR
      subst hD
      have hE := hc
      obtain ⟨ek, en, ei, er, em, el⟩ := E
      rw [Lies] at hli
      obtain ⟨a1, c1, hv, _, _⟩ := hli
      simp only [Value.agg.injEq, Array.mk.injEq, List.cons.injEq, Value.int.injEq, Value.string.injEq, Value.slice.injEq, and_true, true_and] at hv
      obtain ⟨rfl, rfl, rfl, rfl, rfl, rfl, rfl, rfl⟩ := hv
      obtain ⟨a3, c3, rfl, h1, h2, hrow⟩ := hown.row (Y := No) fun _ h => h.elim
      obtain ⟨⟨e0, e1, e2, e3, e4, e5⟩, _⟩ := blk_facts hbox
      have HX := Lib.hid (And.intro h1 (And.intro hrow hb))
      clear hown hbox hb hB h1 h2 hrow hgk hDR hE
      by_cases k5 : kq = 5
      · subst k5
        by_cases hn : nq = DOT
        · subst hn
          have hl2 : ¬ el.length = 2 := fun e => by have := (consB_iff (.mk 5 DOT iq rq mq el)).2 ⟨rfl, rfl, e⟩; rw [hc] at this; cases this
          have q : ((el.length : Int) == 2) = false := by rw [beq_eq_false_iff_ne]; omega
          clear hc hl2
          go_wp2_with fail
          go_ret2
          exact ⟨HX.out.2.2, Or.inr ⟨nilB_no (by simp [Tm.kind]), rfl⟩⟩
        · have q := tl_ne hn
          have q2 : ¬ nq.toList = [46] := by simpa using q
          clear hn hc
          go_wp2_with fail
          go_ret2
          exact ⟨HX.out.2.2, Or.inr ⟨nilB_no (by simp [Tm.kind]), rfl⟩⟩
      · have q : (kq == 5) = false := by rw [beq_eq_false_iff_ne]; exact k5
        by_cases k2 : kq = 2
        · subst k2
          by_cases hn : nq = NIL
          · subst hn
            clear hc k5 q
            go_wp2_with fail
            go_ret2
            exact ⟨HX.out.2.2, Or.inl ⟨(nilB_iff _).2 ⟨rfl, rfl⟩, a3, c3, rfl, HX.out.1, HX.out.2.1⟩⟩
          · have q3 := tl_ne hn
            have q4 : ¬ nq.toList = [91, 93] := by simpa using q3
            have q5 : (nq.toList == [91, 93]) = false := by rw [beq_eq_false_iff_ne]; exact q4
            have q6 : (nq.toList != [91, 93]) = true := by rw [bne_iff_ne]; exact q4
            have HN := Lib.hid hn
            clear hc k5 q hn
            go_wp2_with fail
            go_ret2
            exact ⟨HX.out.2.2, Or.inr ⟨nilB_no (fun h => HN.out h.2), rfl⟩⟩
        · have q3 : (kq == 2) = false := by rw [beq_eq_false_iff_ne]; exact k2
          have HK := Lib.hid k2
          clear hc k5 k2
          go_wp2_with fail
          go_ret2
          exact ⟨HX.out.2.2, Or.inr ⟨nilB_no (fun h => HK.out h.1), rfl⟩⟩
end Go.Proofs.Ytjgkgceigbimoaa.itm
