/- The reference's Sort. -/
import Derived.Test.YtgkcbiabkpcblaaOrK
import Derived.Deep.RegionHeld3
import Derived.StillTailTactics
import Derived.Deep.LoopGhost
import Derived.Deep.QuietTactic
import Derived.BigQuiet
namespace Go.Proofs.Ytgkcbiabkpcblaa.odl
open Go.ChangeShapes Go.WideShapes Go.ChangeAt Go.RowKit
set_option linter.unusedVariables false
open Go.Proofs.Ytgkcbiabkpcblaa.tm Go.Proofs.Ytgkcbiabkpcblaa.lie Go.Proofs.Ytgkcbiabkpcblaa.kp Go.Proofs.Ytgkcbiabkpcblaa.cur Go.Proofs.Ytgkcbiabkpcblaa.rws Go.Proofs.Ytgkcbiabkpcblaa.pla Go.Proofs.Ytgkcbiabkpcblaa.lev Go.Proofs.Ytgkcbiabkpcblaa.pln Go.Proofs.Ytgkcbiabkpcblaa.ow6 Go.Proofs.Ytgkcbiabkpcblaa.mes Go.Proofs.Ytgkcbiabkpcblaa.rpl Go.Proofs.Ytgkcbiabkpcblaa.rmy Go.Proofs.Ytgkcbiabkpcblaa.odm Go.Proofs.Ytgkcbiabkpcblaa.odb Go.Proofs.Ytgkcbiabkpcblaa.odc Go.Proofs.Ytgkcbiabkpcblaa.odd Go.Proofs.Ytgkcbiabkpcblaa.ods Go.Proofs.Ytgkcbiabkpcblaa.ode Go.Proofs.Ytgkcbiabkpcblaa.odf Go.Proofs.Ytgkcbiabkpcblaa.odg Go.Proofs.Ytgkcbiabkpcblaa.odh Go.Proofs.Ytgkcbiabkpcblaa.odi
theorem addo (b o k : Nat) : (⟨b, o, none⟩ : Addr).add k = ⟨b, o + k, none⟩ := by
  unfold Addr.add; split <;> simp_all
theorem app0 (ty : TypeId) (a b : Option Addr) (n c c' : Nat) (hn : n ≤ c) (w : World) : (Builtin.append_ #[23, 23] ty #[.slice a n c, .slice b 0 c']).run Try.prog w = .ok (.slice a n c) w := by
  obtain ⟨ij, h1, _⟩ := info_t
  have hu : Try.prog.underlying 23 = some (.slice 25) := Try.underlying23
  cases a <;> cases b <;> simp [Builtin.append_, run_underlying hu, Builtin.lenOf, Builtin.firstCells, sizeOf, typeInfo, h1, hn, loadCells, loadCellsFrom, storeCells]
theorem appz {m : Nat} (hm : m = 0) (ty : TypeId) (a b : Option Addr) (n c c' : Nat) (hn : n ≤ c) (w : World) : (Builtin.append_ #[23, 23] ty #[.slice a n c, .slice b m c']).run Try.prog w = .ok (.slice a n c) w := by
  subst hm; exact app0 ty a b n c c' hn w
theorem own_cap {w : World} {B e n c g s : Nat} {xs : List Value} (h : w.ownsRow B e s (.slice (some ⟨g, 0, none⟩) n c) n xs) : n ≤ c := by
  rcases h.2 with ⟨h, _⟩ | ⟨g', cap, cur, h, _, _, h1, _⟩
  · cases h
  · cases h; exact h1
open Go.RowKit in
/-- append of what may be nothing, to a row of one's own -/
theorem step_app_any {w : World} {ops : Array Oper} {o : Oper} {a : Act} {K : Act → World → Prop} {Q : Exit → Act → World → Prop} {E : Prop} (hgd : o.guard = none) (s x : Operand)
    (ho : o.op = .call { callee := .builtin .append, args := #[s, x], argTypes := #[23, 23] })
    (base g0 c0 n : Nat) (xs : List Value) (hs : a.eval s = .slice (some ⟨g0, 0, none⟩) n c0) (hown : w.ownsRow base 25 6 (.slice (some ⟨g0, 0, none⟩) n c0) n xs)
    (ad : Addr) (ax : Option Addr) (m c : Nat) (hpos : 0 < m → ax = some ad) (news : List Value) (hx : a.eval x = .slice ax m c) (hl : news.length = m * 6) (hnews : ∀ j u, news[j]? = some u → w.cell? (ad.add j) = some u) (h1 : ∀ u ∈ news, u.oneCell' = true)
    (h63 : n + m ≤ maxLen) (hbytes : (n + m) * 72 ≤ 140737488355328) (hbase : base ≤ w.heap.size) (H : Nat) (hH : w.heap.size = H)
    (h : ∀ g cap w', w'.ownsRow base 25 6 (.slice (some ⟨g, 0, none⟩) (n + m) cap) (n + m) (xs ++ news) → w.grownBy w' (Value.slice (some ⟨g0, 0, none⟩) n c0).ownBlock → ((Value.slice (some ⟨g0, 0, none⟩) n c0).ownBlock = some g ∨ g = H) → g < w'.heap.size → K (a.put o.dst (.slice (some ⟨g, 0, none⟩) (n + m) cap)) w') :
    if Region.wanted o (yielded ops a.tmps) = true then Oper.wp Try.prog o a w K Q else E := by
  obtain ⟨ij, hi1, hi2, hi3, hi4⟩ := info_t
  by_cases hm : m = 0
  · subst hm
    have hw : Region.wanted o (yielded ops a.tmps) = true := by simp [Region.wanted, hgd]
    rw [if_pos hw]
    have hn : news = [] := List.eq_nil_of_length_eq_zero (by omega)
    subst hn
    have hrun := app0 o.type (some ⟨g0, 0, none⟩) ax n c0 c (own_cap hown) w
    unfold Oper.wp
    simp [execOp, ho, resolve, invoke, builtin, hs, hx, hrun, Result.andThen]
    exact h g0 c0 w (by simpa using hown) ⟨rfl, rfl, rfl, Nat.le_refl _, fun _ _ _ => rfl⟩ (Or.inl rfl) (hown.lt g0 rfl).2
  · have hax := hpos (by omega)
    subst hax
    exact step_append_lies _ hgd s x 23 ho base 25 ij ZV 6 72 Try.underlying23 hi1 hi2 hi3 hi4 rfl (by decide) _ n xs hs hown ad m c news hx hl hnews h1 (by omega) h63 hbytes hbase H hH h
open Go.RowKit in
/-- append to nil of what may be nothing -/
theorem step_app_nil {w : World} {ops : Array Oper} {o : Oper} {a : Act} {K : Act → World → Prop} {Q : Exit → Act → World → Prop} {E : Prop} (hgd : o.guard = none) (s x : Operand)
    (ho : o.op = .call { callee := .builtin .append, args := #[s, x], argTypes := #[23, 23] })
    (base : Nat) (hs : a.eval s = .slice none 0 0)
    (ad : Addr) (ax : Option Addr) (m c : Nat) (hpos : 0 < m → ax = some ad) (news : List Value) (hx : a.eval x = .slice ax m c) (hl : news.length = m * 6) (hnews : ∀ j u, news[j]? = some u → w.cell? (ad.add j) = some u) (h1 : ∀ u ∈ news, u.oneCell' = true)
    (h63 : m ≤ maxLen) (hbytes : m * 72 ≤ 140737488355328) (hbase : base ≤ w.heap.size)
    (h : ∀ x1 c1 w', w'.ownsRow base 25 6 (.slice x1 m c1) m news → Keep No w w' → (∀ k, (Value.slice x1 m c1).ownBlock = some k → w.heap.size ≤ k) → K (a.put o.dst (.slice x1 m c1)) w') :
    if Region.wanted o (yielded ops a.tmps) = true then Oper.wp Try.prog o a w K Q else E := by
  obtain ⟨ij, hi1, hi2, hi3, hi4⟩ := info_t
  by_cases hm : m = 0
  · subst hm
    have hw : Region.wanted o (yielded ops a.tmps) = true := by simp [Region.wanted, hgd]
    rw [if_pos hw]
    have hn : news = [] := List.eq_nil_of_length_eq_zero (by omega)
    subst hn
    have hrun := app0 o.type none ax 0 0 c (Nat.le_refl 0) w
    unfold Oper.wp
    simp [execOp, ho, resolve, invoke, builtin, hs, hx, hrun, Result.andThen]
    exact h none 0 w (World.ownsRow_nil _ _ _ _) (Keep.refl _ _) (fun k e => by cases e)
  · have hax := hpos (by omega)
    subst hax
    refine step_append_lies _ hgd s x 23 ho base 25 ij ZV 6 72 Try.underlying23 hi1 hi2 hi3 hi4 rfl (by decide) (Value.slice none 0 0) 0 [] hs (World.ownsRow_nil _ _ _ _) ad m c news hx hl hnews h1 (by omega) (by omega) (by omega) hbase _ rfl ?_
    intro g c1 w' ho' hg' ha' _
    rw [Nat.zero_add, List.nil_append] at ho'
    rw [Nat.zero_add]
    refine h _ _ _ ho' (Keep.of_grown (F := No) hg' fun k e => by cases e) fun k e => ?_
    cases e
    rcases ha' with q | q
    · cases q
    · exact Nat.le_of_eq q.symm
theorem own_rb2 {w w' : World} {B : Nat} {A : List ode.E} {g c N : Nat} (hB : w.heap.size ≤ B) (ho : w'.ownsRow B 25 6 (.slice (some ⟨g, 0, none⟩) N c) N (ode.flat A)) (hN : N = A.length) (ls : ∀ e ∈ A, Lies No w' e.t e.v) (bel : Below w.heap.size w w') : ∃ sp, RB No w g (some ⟨g, 0, none⟩) c A sp w' := by
  subst hN
  rcases ho.2 with ⟨hv, h0⟩ | ⟨g', cap, cur, hv, hg0, hgc, h1, h2, h3, h4⟩
  · cases hv
  · cases hv
    refine ⟨cur.toList.drop (A.length * 6), ⟨h1, h2, fun _ => by simp⟩, fun _ => ⟨?_, by omega⟩, ls, bel⟩
    rw [hgc, ← h4, List.take_append_drop]
/-- behind an insertion -/
def SCm (w : World) (M : List Tm) (x : Tm) (k2 : Nat) (s5 : Value) (wx : World) : Prop := ∃ (A' : List ode.E) (P' : Nat) (a' : Option Addr) (c' : Nat) (sp' : List Value), s5 = .slice a' (A'.length : Nat) c' ∧ RB No w P' a' c' A' sp' wx ∧ A'.map ode.E.t = M.take k2 ++ x :: M.drop k2
theorem SCm.mk {w wz w8 : World} {P : Nat} {a : Option Addr} {c : Nat} {A : List ode.E} {sp : List Value} {k2 g3 c3 : Nat} {x : Tm} {v0 v1 v2 v3 v4 v5 : Value} (h : RB No w P a c A sp wz ∧ k2 ≤ A.length)
    (ho : w8.ownsRow wz.heap.size 25 6 (.slice (some ⟨g3, 0, none⟩) (k2 + 1 + (A.length - k2)) c3) (k2 + 1 + (A.length - k2)) (ode.flat (A.take k2) ++ [v0, v1, v2, v3, v4, v5] ++ ode.flat (A.drop k2))) (hk : Keep (ode.Nw wz) wz w8) (hq : Lies No w8 x (.agg #[v0, v1, v2, v3, v4, v5])) :
    SCm w (A.map ode.E.t) x k2 (.slice (some ⟨g3, 0, none⟩) (k2 + 1 + (A.length - k2) : Nat) c3) w8 := by
  obtain ⟨hrb, hk2⟩ := h
  have e : ode.flat (A.take k2) ++ [v0, v1, v2, v3, v4, v5] ++ ode.flat (A.drop k2) = ode.flat (A.take k2 ++ (⟨v0, v1, v2, v3, v4, v5, x⟩ :: A.drop k2)) := by
    rw [flat_append, flat_cons, List.append_assoc]; rfl
  rw [e] at ho
  have hl : k2 + 1 + (A.length - k2) = (A.take k2 ++ ((⟨v0, v1, v2, v3, v4, v5, x⟩ : ode.E) :: A.drop k2)).length := by simp; omega
  have hb8 : Below w.heap.size w w8 := hrb.bel.trans (hk.to_below (fun _ h => Nat.le_trans hrb.bel.size h) hrb.bel.size)
  have hold : ∀ e ∈ A, Lies No w8 e.t e.v := fun e he => Lies.keep (hk.mono (G := ode.Nw wz) fun _ h => h) (fun _ _ h => h.elim) _ _ ((hrb.ls e he).off (Y := ode.Nw wz) fun b h1 h2 => absurd h1 (by have : wz.heap.size ≤ b := h2; omega))
  obtain ⟨sp', hr⟩ := own_rb2 hrb.bel.size ho hl (fun e he => by
    rcases List.mem_append.1 he with q | q
    · exact hold e (List.mem_of_mem_take q)
    · rcases List.mem_cons.1 q with q | q
      · subst q; exact hq
      · exact hold e (List.mem_of_mem_drop q)) hb8
  refine ⟨_, g3, _, c3, sp', by rw [hl], hr, ?_⟩
  rw [List.map_append, List.map_cons, List.map_take, List.map_drop]
theorem SCm.mk0 {w wz w8 : World} {P : Nat} {a : Option Addr} {c : Nat} {A : List ode.E} {sp : List Value} {k2 g3 c3 : Nat} {x : Tm} {v0 v1 v2 v3 v4 v5 : Value} (h : RB No w P a c A sp wz ∧ k2 ≤ A.length) (hz : k2 = 0)
    (ho : w8.ownsRow wz.heap.size 25 6 (.slice (some ⟨g3, 0, none⟩) (1 + (A.length - k2)) c3) (1 + (A.length - k2)) ([v0, v1, v2, v3, v4, v5] ++ ode.flat (A.drop k2))) (hk : Keep (ode.Nw wz) wz w8) (hq : Lies No w8 x (.agg #[v0, v1, v2, v3, v4, v5])) :
    SCm w (A.map ode.E.t) x k2 (.slice (some ⟨g3, 0, none⟩) (1 + (A.length - k2) : Nat) c3) w8 := by
  subst hz
  have := SCm.mk (k2 := 0) (g3 := g3) (c3 := c3) h (by simpa [ode.flat] using ho) hk hq
  simpa using this
def ACut (w : World) (M : List Tm) (t : Tm) (bx : World → Prop) (k2 : Nat) (s21 s31 : Value) (wx : World) : Prop := ∃ b : Bool, s31 = .bool b ∧ Below w.heap.size w wx ∧ bx wx ∧ (b = true → ∃ h : k2 - 1 < M.length, 0 < k2 ∧ ord t M[k2 - 1] < 0) ∧ (b = false → ∀ h : k2 - 1 < M.length, 0 < k2 → 0 ≤ ord t M[k2 - 1])
def BCut (w : World) (once : Bool) (M : List Tm) (t : Tm) (bx : World → Prop) (k2 : Nat) (s35 s37 s38 s48 : Value) (wx : World) : Prop := ∃ b : Bool, s48 = .bool b ∧ Below w.heap.size w wx ∧ bx wx ∧ (b = true → once = true ∧ ∃ h : k2 - 1 < M.length, ord t M[k2 - 1] = 0) ∧ (b = false → once = true → ∀ h : k2 - 1 < M.length, 0 < k2 → ord t M[k2 - 1] ≠ 0)
def ARel (w : World) (A : List ode.E) (t : Tm) (bx : World → Prop) (g : Nat) (s8 : Value) (wr : World) : Prop := ∃ k2 : Nat, k2 ≤ A.length ∧ g = k2 ∧ s8 = .int .i64 k2 ∧ Below w.heap.size w wr ∧ bx wr ∧ Behind t (A.map ode.E.t) k2
def SRel (w : World) (once : Bool) (l : List Tm) (g : Nat) (s5 s11 : Value) (wr : World) : Prop :=
  ∃ (k : Nat) (A : List ode.E) (P : Nat) (a : Option Addr) (c : Nat) (sp : List Value), k ≤ l.length ∧ g = l.length - k ∧ s11 = .int .i64 k ∧ s5 = .slice a (A.length : Nat) c ∧ A.length ≤ k ∧ RB No w P a c A sp wr ∧ RS once (l.take k) (A.map ode.E.t)
set_option linter.unusedSimpArgs false in
set_option maxRecDepth 100000 in
set_option maxHeartbeats 16000000 in
/-- the reference Sort: by insertion -/
theorem rsort_any (once : Bool) (l : List Tm) (a0 : Option Addr) (c0 : Nat) (w : World) (hr : TRow No w l a0 0) (hL : l.length ≤ 1000) : Calls Try.prog 16 #[.slice a0 l.length c0, .bool once] w (LTold (RS once l) w) := by
  have HR := Lib.hid hr
  obtain ⟨ij, hi1, hi2, hi3, hi4⟩ := info_t
  have HI := Lib.hid (And.intro hi1 (And.intro hi2 (And.intro hi3 hi4)))
  clear hr hi1 hi2 hi3 hi4
  go_enter Try.func16, Try.ntmps16
  go_wp2_with fail
  go_loopg [5, 11] l.length (SRel w once l)
  case atStart => exact ⟨0, [], 0, none, 0, [], by omega, by omega, rfl, rfl, by simp, ⟨⟨by simp, by simp [maxLen], fun q => by simp at q⟩, fun q => by simp at q, by simp, br _⟩, by simpa using RS.nil once⟩
  case round =>
    obtain ⟨kk, A, P, a, c, sp, hk, rfl, rfl, rfl, hAk, hrb, hrs⟩ := hrel
    by_cases hlt : kk < l.length
    · obtain ⟨b1, o1, v0, v1, v2, v3, v4, v5, hbl, _, h6, hlx, hix⟩ := HR.out.look hlt
      have h6' := h6.keep (X := No) (Keep.of_below hrb.bel) id
      have hix' := hix c0
      obtain ⟨kt, nt, it, rt, mt, lt, at_, ct, hv, _⟩ := lies_form hlx
      obtain ⟨rfl, rfl, rfl, rfl, rfl, rfl⟩ := hv
      obtain ⟨e0, e1, e2, e3, e4, e5⟩ := h6'
      obtain ⟨t, ht⟩ : ∃ t, t = l[kk] := ⟨_, rfl⟩
      have HTK := Lib.hid (show l.take (kk + 1) = l.take kk ++ [t] by rw [ht]; exact List.take_succ_eq_append_getElem hlt)
      rw [← ht] at hlx
      have HX := Lib.hid (And.intro hlx (And.intro hrb hrs))
      clear h6 hlx hix hrb hrs ht
      cases hg : good t
      · have q : (may t != 0) = true := by rw [bne_iff_ne]; have := may_nogood hg; omega
        have HG := Lib.hid hg
        clear hg
        go_wp2_with fail
        refine (rMay_any _ _ _ ((HX.out.1.below HX.out.2.1.bel).below (ba _ _))).mono ?_
        rintro e w4 ⟨rfl, hb4⟩
        have HB4 := Lib.hid (bt (ba wr _) hb4)
        clear hb4 e0 e1 e2 e3 e4 e5
        go_wp2_with fail
        go_roundg (l.length - (kk + 1))
        case measure => omega
        case rel => exact ⟨kk + 1, A, P, a, c, sp, hlt, rfl, by go_num, rfl, by omega, HX.out.2.1.below HB4.out, by rw [HTK.out]; exact HX.out.2.2.bad HG.out⟩
      · have q : (may t != 0) = false := by rw [bne_eq_false_iff_eq]; exact may_good hg
        have HG := Lib.hid hg
        clear hg
        go_wp2_with fail
        refine (rMay_any _ _ _ ((HX.out.1.below HX.out.2.1.bel).below (ba _ _))).mono ?_
        rintro e w4 ⟨rfl, hb4⟩
        obtain ⟨bx, hbx⟩ : ∃ bx, bx = wr.heap.size := ⟨_, rfl⟩
        have hbx4 : w4.heap[bx]? = some (.cells #[.int .i64 kt, .string nt, .int .i64 it, .int .u64 rt, .int .u64 mt, .slice at_ lt ct] 25 (0, 0)) := by
          rw [hbx]; exact (hb4.block _ (by rw [alloc_size]; omega)).trans (alloc_at wr _)
        have HB4 := Lib.hid (And.intro (HX.out.2.1.below (bt (ba wr _) hb4)) hbx4)
        rw [← hbx]
        clear hb4 e0 e1 e2 e3 e4 e5 hbx hbx4
        go_wp2_with fail
        go_loopg [8] A.length (ARel w4 A t (fun W => W.heap[bx]? = some (.cells #[.int .i64 kt, .string nt, .int .i64 it, .int .u64 rt, .int .u64 mt, .slice at_ lt ct] 25 (0, 0))))
        case atStart => exact ⟨A.length, by omega, rfl, rfl, br _, HB4.out.2, fun j h1 h2 => by simp at h1; omega⟩
        case round =>
          obtain ⟨k2, hk2, hgk, rfl, hb5, hbx5, hbh⟩ := hrel
          have HGK := Lib.hid hgk
          clear hgk
          have hAl : A.length ≤ 1000 := by omega
          have HR5 := Lib.hid (HB4.out.1.below hb5)
          have HB5 := Lib.hid (And.intro hb5 (And.intro hbx5 hbh))
          have HKK2 := Lib.hid (And.intro hk2 (show (A.map ode.E.t).length = A.length by simp))
          clear hb5 hbx5 hbh
          go_upto_region 7 with fail
          go_cut [21, 22, 31] from 20 to 30 (fun s21 s22 s31 wx => ACut w4 (A.map ode.E.t) t (fun W => W.heap[bx]? = some (.cells #[.int .i64 kt, .string nt, .int .i64 it, .int .u64 rt, .int .u64 mt, .slice at_ lt ct] 25 (0, 0))) k2 s21 s31 wx)
          case first =>
            by_cases h0 : 0 < k2
            · have hm : k2 - 1 < A.length := by omega
              obtain ⟨kq, nq, iq, rq, mq, aq, lq, cq, tq, hq, ⟨e0, e1, e2, e3, e4, e5⟩, hlq, _, hix⟩ := rb_look HR5.out hm
              obtain ⟨⟨f0, f1, f2, f3, f4, f5⟩, _⟩ := blk_facts HB5.out.2.1
              have ek : ((k2 - 1 : Nat) : Int) = (k2 : Int) - 1 := by omega
              rw [ek] at hix
              clear ek
              have hwr : IntKind.i64.wrap ((k2 : Int) - 1) = (k2 : Int) - 1 := by rw [IntKind.wrap_i64]; omega
              have htq : ∀ h, (A.map ode.E.t)[k2 - 1]'h = tq := fun h => by rw [List.getElem_map, hq]
              have hsq : sound tq = true := by have := good_sound (HX.out.2.2.pl _ (List.getElem_mem (show k2 - 1 < (A.map ode.E.t).length by simp; omega))).1; rw [htq] at this; exact this
              have HQ := Lib.hid (And.intro hlq (And.intro htq hsq))
              clear hlq htq hsq hq
              go_wp2_with fail
              go_still_tail 9, (by kernel_rfl)
              change wpList _ _ _ _ _ wr.drew
              obtain ⟨wd, hwd⟩ : ∃ wd, wd = wr.drew := ⟨_, rfl⟩
              have HD := Lib.hid (show Below wr.heap.size wr wd by rw [hwd]; exact bdr wr)
              rw [← hwd]
              clear hwd e0 e1 e2 e3 e4 e5 f0 f1 f2 f3 f4 f5
              go_wp2_with fail
              refine (rorder_any t tq _ _ _ ((HX.out.1.below HR5.out.bel).below HD.out) (HQ.out.1.below HD.out) (good_sound HG.out) HQ.out.2.2).mono ?_
              rintro e w6 ⟨rfl, hb6⟩
              have HB6 := Lib.hid (bt HD.out hb6)
              clear hb6
              go_wp2_with fail
              go_meet
              refine ⟨_, rfl, HB5.out.1.trans (HB6.out.mono HB5.out.1.size), (HB6.out.block _ (Array.getElem?_eq_some_iff.1 HB5.out.2.1).1).trans HB5.out.2.1, fun q => ⟨by have := HKK2.out.2; omega, h0, ?_⟩, fun q h _ => ?_⟩
              · rw [HQ.out.2.1]; simpa using q
              · rw [HQ.out.2.1]; simpa using q
            · have q0 : decide ((k2 : Int) > 0) = false := by simp; omega
              have q1 : decide (0 < k2) = false := by simp; omega
              have H0 := Lib.hid h0
              clear h0
              go_wp2_with fail
              go_quiet (fail)
              go_wp2_with fail
              go_meet
              exact ⟨false, rfl, HB5.out.1.trans ((below_drewN _ _).mono HB5.out.1.size), ((below_drewN wr _).block _ (Array.getElem?_eq_some_iff.1 HB5.out.2.1).1).trans HB5.out.2.1, (fun q => by cases q), fun _ _ h => absurd h H0.out⟩
          case rest =>
            obtain ⟨b, rfl, hb7, hbx7, hT, hF⟩ := hcut
            have H7 := Lib.hid (And.intro hb7 (And.intro hbx7 (And.intro hT hF)))
            clear hb7 hbx7 hT hF
            cases b
            · go_upto_region 9 with fail
              go_cut [35, 37, 38, 39, 48] from 34 to 47 (fun s35 s37 s38 s39 s48 wx => BCut w4 once (A.map ode.E.t) t (fun W => W.heap[bx]? = some (.cells #[.int .i64 kt, .string nt, .int .i64 it, .int .u64 rt, .int .u64 mt, .slice at_ lt ct] 25 (0, 0))) k2 s35 s37 s38 s48 wx)
              case first =>
                cases once
                · go_wp2_with fail
                  go_quiet (fail)
                  go_wp2_with fail
                  go_meet
                  exact ⟨false, rfl, H7.out.1.trans ((below_drewN _ _).mono H7.out.1.size), ((below_drewN wc _).block _ (Array.getElem?_eq_some_iff.1 H7.out.2.1).1).trans H7.out.2.1, (fun q => by cases q), fun _ q => by cases q⟩
                · by_cases h0 : 0 < k2
                  · have hm : k2 - 1 < A.length := by have := HKK2.out.1; omega
                    obtain ⟨kq, nq, iq, rq, mq, aq, lq, cq, tq, hq, ⟨e0, e1, e2, e3, e4, e5⟩, hlq, _, hix⟩ := rb_look (HB4.out.1.below H7.out.1) hm
                    obtain ⟨⟨f0, f1, f2, f3, f4, f5⟩, _⟩ := blk_facts H7.out.2.1
                    have ek : ((k2 - 1 : Nat) : Int) = (k2 : Int) - 1 := by omega
                    rw [ek] at hix
                    clear ek
                    have hwr : IntKind.i64.wrap ((k2 : Int) - 1) = (k2 : Int) - 1 := by rw [IntKind.wrap_i64]; omega
                    have htq : ∀ h, (A.map ode.E.t)[k2 - 1]'h = tq := fun h => by rw [List.getElem_map, hq]
                    have hsq : sound tq = true := by have := good_sound (HX.out.2.2.pl _ (List.getElem_mem (show k2 - 1 < (A.map ode.E.t).length by simp; omega))).1; rw [htq] at this; exact this
                    have HQ := Lib.hid (And.intro hlq (And.intro htq hsq))
                    clear hlq htq hsq hq
                    go_wp2_with fail
                    go_still_tail 12, (by kernel_rfl)
                    change wpList _ _ _ _ _ wc.drew
                    obtain ⟨wd, hwd⟩ : ∃ wd, wd = wc.drew := ⟨_, rfl⟩
                    have HD := Lib.hid (show Below wc.heap.size wc wd by rw [hwd]; exact bdr wc)
                    rw [← hwd]
                    clear hwd e0 e1 e2 e3 e4 e5 f0 f1 f2 f3 f4 f5
                    go_wp2_with fail
                    refine (rorder_any t tq _ _ _ ((HX.out.1.below (HB4.out.1.below H7.out.1).bel).below HD.out) (HQ.out.1.below HD.out) (good_sound HG.out) HQ.out.2.2).mono ?_
                    rintro e w6 ⟨rfl, hb6⟩
                    have HB6 := Lib.hid (bt HD.out hb6)
                    clear hb6
                    go_wp2_with fail
                    go_meet
                    refine ⟨_, rfl, H7.out.1.trans (HB6.out.mono H7.out.1.size), (HB6.out.block _ (Array.getElem?_eq_some_iff.1 H7.out.2.1).1).trans H7.out.2.1, fun q => ⟨rfl, by have := HKK2.out.2; omega, ?_⟩, fun q _ h _ => ?_⟩
                    · rw [HQ.out.2.1]; simpa using q
                    · rw [HQ.out.2.1]; simpa using q
                  · have q0 : decide ((k2 : Int) > 0) = false := by simp; omega
                    have q1 : decide (0 < k2) = false := by simp; omega
                    have H0 := Lib.hid h0
                    clear h0
                    go_wp2_with fail
                    go_quiet (fail)
                    go_wp2_with fail
                    go_meet
                    exact ⟨false, rfl, H7.out.1.trans ((below_drewN _ _).mono H7.out.1.size), ((below_drewN wc _).block _ (Array.getElem?_eq_some_iff.1 H7.out.2.1).1).trans H7.out.2.1, (fun q => by cases q), fun _ _ _ h => absurd h H0.out⟩
              case rest =>
                obtain ⟨b, rfl, hb8, hbx8, hT, hF⟩ := hcut
                have H8c := Lib.hid (And.intro hb8 (And.intro hbx8 (And.intro hT hF)))
                clear hb8 hbx8 hT hF
                cases b
                · have hrbc := HB4.out.1.below H8c.out.1
                  have HM := Lib.hid (And.intro hrbc HKK2.out.1)
                  have hbxl := (Array.getElem?_eq_some_iff.1 H8c.out.2.1).1
                  have F0 : Keep (ode.Nw wc) wc wc.drew := Keep.drew _ _
                  have SC := Lib.hid (fun W (h : Keep (ode.Nw wc) wc W) => (blk_facts ((h.block bx hbxl (fun q => absurd hbxl (Nat.not_lt.2 q))).trans H8c.out.2.1)).1)
                  have HT := Lib.hid (fun W (h : Keep (ode.Nw wc) wc W) => (show Lies No W t (.agg #[.int .i64 kt, .string nt, .int .i64 it, .int .u64 rt, .int .u64 mt, .slice at_ lt ct]) from Lies.keep h (fun _ _ q => q.elim) _ _ ((HX.out.1.below hrbc.bel).off (Y := ode.Nw wc) fun b h1 h2 => absurd h1 (Nat.not_lt.2 h2))))
                  have HSD := Lib.hid (good_sound HG.out)
                  have HK2 := Lib.hid HKK2.out.1
                  have HO1 := Lib.hid (show ∀ u ∈ ode.flat (A.take k2), u.oneCell' = true from fun u hu => by obtain ⟨e, he, hv⟩ := List.mem_flatMap.1 hu; exact one_of (hrbc.ls e (List.mem_of_mem_take he)) u hv)
                  have HO2 := Lib.hid (show ∀ u ∈ ode.flat (A.drop k2), u.oneCell' = true from fun u hu => by obtain ⟨e, he, hv⟩ := List.mem_flatMap.1 hu; exact one_of (hrbc.ls e (List.mem_of_mem_drop he)) u hv)
                  have hcells : ∀ W, Keep (ode.Nw wc) wc W → 0 < A.length → ∀ j u, (ode.flat A)[j]? = some u → W.cell? ⟨P, j, none⟩ = some u := fun W h h0 j u hj => by
                    have hb := (hrbc.blk h0).1
                    have hPl := (Array.getElem?_eq_some_iff.1 hb).1
                    have hb2 := (h.block P hPl (fun q => absurd hPl (Nat.not_lt.2 q))).trans hb
                    have hjl := (List.getElem?_eq_some_iff.1 hj).1
                    have h9 : (ode.flat A ++ sp)[j]? = some u := by rw [List.getElem?_append_left hjl]; exact hj
                    simp only [World.cell?, hb2]
                    simpa using h9
                  have HN1 := Lib.hid (fun W (h : Keep (ode.Nw wc) wc W) => (show ∀ j u, (ode.flat (A.take k2))[j]? = some u → W.cell? ((⟨P, 0, none⟩ : Addr).add j) = some u from fun j u hj => by
                    rw [addo, Nat.zero_add]
                    have hjl := (List.getElem?_eq_some_iff.1 hj).1
                    rw [flat_len, List.length_take] at hjl
                    refine hcells W h (by omega) j u ?_
                    rw [← flat_take, List.getElem?_take] at hj
                    split at hj
                    · exact hj
                    · cases hj))
                  have HN2 := Lib.hid (fun W (h : Keep (ode.Nw wc) wc W) => (show ∀ j u, (ode.flat (A.drop k2))[j]? = some u → W.cell? ((⟨P, k2 * 6, none⟩ : Addr).add j) = some u from fun j u hj => by
                    rw [addo]
                    have hjl := (List.getElem?_eq_some_iff.1 hj).1
                    rw [flat_len, List.length_drop] at hjl
                    refine hcells W h (by omega) _ u ?_
                    rw [← flat_drop, List.getElem?_drop] at hj
                    exact hj))
                  obtain ⟨a', hw', r2, _⟩ := hrbc.win.lo (k := k2) HKK2.out.1
                  obtain ⟨_, r1, _⟩ := hrbc.win.hi (k := k2) HKK2.out.1
                  have HP2 := Lib.hid (show 0 < A.length - k2 → a' = some ⟨P, k2 * 6, none⟩ from fun q => by have := hw'.pos q; rwa [Nat.zero_add] at this)
                  have HPA := Lib.hid (show 0 < k2 → a = some ⟨P, 0, none⟩ from fun q => by have := hrbc.win.pos (by have := HKK2.out.1; omega); simpa using this)
                  have hkA := HKK2.out.1
                  clear hcells hw' hrbc hbxl
                  have FINX := Lib.hid (fun (s5 s11 : Value) (wx : World) (h : SCm w (A.map ode.E.t) (plain t) k2 s5 wx) (h11 : s11 = .int .i64 (kk + 1 : Nat)) => (show SRel w once l (l.length - (kk + 1)) s5 s11 wx from by
                    obtain ⟨A', P', a2, c2, sp', rfl, hrb9, hm9⟩ := h
                    have hl9 : A'.length ≤ kk + 1 := by
                      have := congrArg List.length hm9
                      simp only [List.length_append, List.length_cons, List.length_map, List.length_take, List.length_drop] at this
                      omega
                    refine ⟨kk + 1, A', P', a2, c2, sp', hlt, rfl, h11, rfl, hl9, hrb9, ?_⟩
                    rw [hm9, HTK.out]
                    refine HX.out.2.2.ins HG.out (by rw [HKK2.out.2]; exact HKK2.out.1) HB5.out.2.2 fun h h0 => ?_
                    have h1 := H7.out.2.2.2 (by trivial) h h0
                    split
                    · rename_i hon
                      have h2 := H8c.out.2.2.2 (by trivial) hon h h0
                      omega
                    · exact h1))
                  go_upto_region 10 with fail
                  refine wp_region_noPanic ?_
                  refine wp_region_held_drew (S := (fun w' => w'.cell? ⟨bx, 0, none⟩ = some (.int .i64 kt) ∧ w'.cell? ⟨bx, 1, none⟩ = some (.string nt) ∧ w'.cell? ⟨bx, 2, none⟩ = some (.int .i64 it) ∧ w'.cell? ⟨bx, 3, none⟩ = some (.int .u64 rt) ∧ w'.cell? ⟨bx, 4, none⟩ = some (.int .u64 mt) ∧ w'.cell? ⟨bx, 5, none⟩ = some (.slice at_ lt ct))) (by kernel_rfl) ?_ (fun hHeld => ?_)
                  · (try dsimp only); exact SC.out _ F0
                  refine wpAnyH_take (i := 0) (v := ?_) rfl (by kernel_rfl) (by kernel_rfl) (by kernel_rfl) (fun _ _ _ h => h) (Or.inl ⟨by rfl, ?_⟩) (by assumption) ?_
                  rotate_left
                  · (intro w hSw; (try dsimp only at hSw); go_simp; first | done | with_reducible rfl)
                  try simp only [Act.put, List.getElem_toArray, List.getElem_cons_zero, List.getElem_cons_succ, List.setIfInBounds_toArray, List.set_cons_zero, List.set_cons_succ]
                  refine wpAnyH_take (i := 1) (v := ?_) rfl (by kernel_rfl) (by kernel_rfl) (by kernel_rfl) (fun _ _ _ h => h) (Or.inl ⟨by rfl, ?_⟩) (by assumption) ?_
                  rotate_left
                  · (intro w hSw; (try dsimp only at hSw); go_simp; first | done | with_reducible rfl)
                  try simp only [Act.put, List.getElem_toArray, List.getElem_cons_zero, List.getElem_cons_succ, List.setIfInBounds_toArray, List.set_cons_zero, List.set_cons_succ]
                  refine wpAnyH_take (i := 2) (v := ?_) rfl (by kernel_rfl) (by kernel_rfl) (by kernel_rfl) (fun _ _ _ h => h) (Or.inl ⟨by rfl, ?_⟩) (by assumption) ?_
                  rotate_left
                  · (intro w hSw; (try dsimp only at hSw); go_simp; first | done | with_reducible rfl)
                  try simp only [Act.put, List.getElem_toArray, List.getElem_cons_zero, List.getElem_cons_succ, List.setIfInBounds_toArray, List.set_cons_zero, List.set_cons_succ]
                  refine wpAnyH_take (i := 4) (v := ?_) rfl (by kernel_rfl) (by kernel_rfl) (by kernel_rfl) (fun _ _ _ h => h) (Or.inl ⟨by rfl, ?_⟩) (by assumption) ?_
                  rotate_left
                  · (intro w hSw; (try dsimp only at hSw); go_simp; first | done | with_reducible rfl)
                  try simp only [Act.put, List.getElem_toArray, List.getElem_cons_zero, List.getElem_cons_succ, List.setIfInBounds_toArray, List.set_cons_zero, List.set_cons_succ]
                  refine wpAnyH_take (i := 8) (v := ?_) rfl (by kernel_rfl) (by kernel_rfl) (by kernel_rfl) (fun _ _ _ h => h) (Or.inl ⟨by rfl, ?_⟩) (by assumption) ?_
                  rotate_left
                  · (intro w hSw; (try dsimp only at hSw); go_simp; first | done | with_reducible rfl)
                  try simp only [Act.put, List.getElem_toArray, List.getElem_cons_zero, List.getElem_cons_succ, List.setIfInBounds_toArray, List.set_cons_zero, List.set_cons_succ]
                  refine wpAnyH_take (i := 9) (v := ?_) rfl (by kernel_rfl) (by kernel_rfl) (by kernel_rfl) (fun _ _ _ h => h) (Or.inl ⟨by rfl, ?_⟩) (by assumption) ?_
                  rotate_left
                  · (intro w hSw; (try dsimp only at hSw); go_simp; first | done | with_reducible rfl)
                  try simp only [Act.put, List.getElem_toArray, List.getElem_cons_zero, List.getElem_cons_succ, List.setIfInBounds_toArray, List.set_cons_zero, List.set_cons_succ]
                  refine wpAnyH_take (i := 10) (v := ?_) rfl (by kernel_rfl) (by kernel_rfl) (by kernel_rfl) (fun _ _ _ h => h) (Or.inl ⟨by rfl, ?_⟩) (by assumption) ?_
                  rotate_left
                  · (intro w hSw; (try dsimp only at hSw); go_simp; first | done | with_reducible rfl)
                  try simp only [Act.put, List.getElem_toArray, List.getElem_cons_zero, List.getElem_cons_succ, List.setIfInBounds_toArray, List.set_cons_zero, List.set_cons_succ]
                  refine wpAnyH_ready (rs := [3]) (by kernel_rfl) (by simp) ?_
                  refine AllReadyH.cons rfl (fun K hK => ?_) AllReadyH.nil
                  refine step_app_nil rfl (.const (Value.slice none 0 0)) (.tmp 51) rfl wc.heap.size (by simp [Act.eval, Act.put]) ⟨P, 0, none⟩ a k2 c HPA.out (ode.flat (A.take k2)) (by simp [Act.eval, Act.put]) (by rw [flat_len, List.length_take, Nat.min_eq_left HK2.out]) (fun j u h => HN1.out _ F0 j u h) HO1.out (by unfold maxLen; omega) (by omega) F0.size ?_
                  intro x1 c1 w9 ho9 F9' hgn
                  have F9 : Keep (ode.Nw wc) wc w9 := F0.trans F9' fun _ h => h.elim
                  have Q1 := Lib.hid (And.intro ho9 F9)
                  have hgl := Lib.hid (fun k e => (ho9.lt k e).2)
                  clear ho9 F9' F9 hgn
                  refine hK.out _ _ ?_ (fun hHeld => ?_)
                  · (try dsimp only); exact SC.out _ Q1.out.2
                  clear hK K
                  try simp only [Act.put, List.getElem_toArray, List.getElem_cons_zero, List.getElem_cons_succ, List.setIfInBounds_toArray, List.set_cons_zero, List.set_cons_succ]
                  refine wpAnyH_ready (rs := [5]) (by kernel_rfl) (by simp) ?_
                  refine AllReadyH.cons rfl (fun K hK => ?_) AllReadyH.nil
                  go_simp
                  refine (rplain_any t _ _ (HT.out _ Q1.out.2) HSD.out).mono ?_
                  rintro e w5 ⟨kp, np, ip, rp, mp, ap, lp, cp, rfl, hb5, hq5⟩
                  have F5 : Keep (ode.Nw wc) wc w5 := Q1.out.2.trans (Keep.of_below (F := ode.Nw wc) hb5) fun _ h => Or.inl h
                  go_wp2_with fail
                  have QL5 : Lies (fun k => (Value.slice x1 k2 c1).ownBlock = some k) w5 (plain t) (.agg #[.int .i64 kp, .string np, .int .i64 ip, .int .u64 rp, .int .u64 mp, .slice ap lp cp]) := hq5.off fun b _ e => hgl.out b e
                  have Q5 := Lib.hid (And.intro F5 (And.intro QL5 (row6_keep Q1.out.1 fun k e => hb5.block k (hgl.out k e))))
                  clear hb5 hq5 F5 QL5
                  refine hK.out _ _ ?_ (fun hHeld => ?_)
                  · (try dsimp only); exact SC.out _ Q5.out.1
                  clear hK K
                  try simp only [Act.put, List.getElem_toArray, List.getElem_cons_zero, List.getElem_cons_succ, List.setIfInBounds_toArray, List.set_cons_zero, List.set_cons_succ]
                  refine wpAnyH_ready (rs := [6]) (by kernel_rfl) (by simp) ?_
                  refine AllReadyH.cons rfl (fun K hK => ?_) AllReadyH.nil
                  go_simp
                  have F6 : Keep (ode.Nw wc) wc (w5.alloc (.cells #[.int .i64 kp, .string np, .int .i64 ip, .int .u64 rp, .int .u64 mp, .slice ap lp cp] 25)) := Q5.out.1.trans (Keep.of_below (F := ode.Nw wc) (ba _ _)) fun _ h => Or.inl h
                  have Q6 := Lib.hid F6
                  clear F6
                  refine hK.out _ _ ?_ (fun hHeld => ?_)
                  · (try dsimp only); exact SC.out _ Q6.out
                  clear hK K
                  try simp only [Act.put, List.getElem_toArray, List.getElem_cons_zero, List.getElem_cons_succ, List.setIfInBounds_toArray, List.set_cons_zero, List.set_cons_succ]
                  refine wpAnyH_ready (rs := [7]) (by kernel_rfl) (by simp) ?_
                  refine AllReadyH.cons rfl (fun K hK => ?_) AllReadyH.nil
                  refine step_append_lies _ rfl (.tmp 52) (.tmp 55) 23 rfl wc.heap.size 25 ij ZV 6 72 Try.underlying23 HI.out.1 HI.out.2.1 HI.out.2.2.1 HI.out.2.2.2 rfl (by decide) (Value.slice x1 k2 c1) k2 (ode.flat (A.take k2)) (by simp [Act.eval, Act.put]) (row6_keep Q5.out.2.2 fun k e => (ba w5 (.cells #[.int .i64 kp, .string np, .int .i64 ip, .int .u64 rp, .int .u64 mp, .slice ap lp cp] 25)).block k (Q5.out.2.2.lt k e).2) ⟨w5.heap.size, 0, none⟩ 1 1 [.int .i64 kp, .string np, .int .i64 ip, .int .u64 rp, .int .u64 mp, .slice ap lp cp] (by simp [Act.eval, Act.put]) rfl (news6 _ _ _ _ _ _ _ _) (by intro u hu; simp only [List.mem_cons, List.not_mem_nil, or_false] at hu; rcases hu with rfl | rfl | rfl | rfl | rfl | rfl <;> rfl) (by omega) (by unfold maxLen; omega) (by omega) Q6.out.size _ rfl ?_
                  intro g2 c2 w7 ho7 hg7 ha7 hl7
                  have F7' : Keep (fun k => (Value.slice x1 k2 c1).ownBlock = some k) _ w7 := Keep.of_grown (F := fun k => (Value.slice x1 k2 c1).ownBlock = some k) hg7 fun k e => e
                  have F7 : Keep (ode.Nw wc) wc w7 := Q6.out.trans F7' fun k e => Or.inl (((row6_keep Q5.out.2.2 fun k e => (ba w5 (.cells #[.int .i64 kp, .string np, .int .i64 ip, .int .u64 rp, .int .u64 mp, .slice ap lp cp] 25)).block k (Q5.out.2.2.lt k e).2)).lt k e).1
                  have Q7 : Lies (fun k => k = g2) w7 (plain t) (.agg #[.int .i64 kp, .string np, .int .i64 ip, .int .u64 rp, .int .u64 mp, .slice ap lp cp]) := Lies.keep F7' (fun b hb e => by subst e; exact ha7.elim id fun e => by omega) _ _ (Q5.out.2.1.below (ba w5 (.cells #[.int .i64 kp, .string np, .int .i64 ip, .int .u64 rp, .int .u64 mp, .slice ap lp cp] 25)))
                  have H7q := Lib.hid (And.intro ho7 (And.intro F7 Q7))
                  clear ho7 hg7 ha7 hl7 F7' F7 Q7
                  refine hK.out _ _ ?_ (fun hHeld => ?_)
                  · (try dsimp only); exact SC.out _ H7q.out.2.1
                  clear hK K
                  try simp only [Act.put, List.getElem_toArray, List.getElem_cons_zero, List.getElem_cons_succ, List.setIfInBounds_toArray, List.set_cons_zero, List.set_cons_succ]
                  refine wpAnyH_ready (rs := [11]) (by kernel_rfl) (by simp) ?_
                  refine AllReadyH.cons rfl (fun K hK => ?_) AllReadyH.nil
                  refine step_app_any rfl (.tmp 56) (.tmp 59) rfl wc.heap.size g2 c2 (k2 + 1) (ode.flat (A.take k2) ++ [.int .i64 kp, .string np, .int .i64 ip, .int .u64 rp, .int .u64 mp, .slice ap lp cp]) (by simp [Act.eval, Act.put]) H7q.out.1 ⟨P, k2 * 6, none⟩ a' (A.length - k2) (c - k2) HP2.out (ode.flat (A.drop k2)) (by simp [Act.eval, Act.put]) (by rw [flat_len, List.length_drop]) (fun j u h => HN2.out _ H7q.out.2.1 j u h) HO2.out (by unfold maxLen; omega) (by omega) H7q.out.2.1.size _ rfl ?_
                  intro g3 c3 w8 ho8 hg8 ha8 hl8
                  have F8' : Keep (fun k => k = g2) w7 w8 := Keep.of_grown (F := fun k => k = g2) hg8 fun k e => by cases e; rfl
                  have F8 : Keep (ode.Nw wc) wc w8 := H7q.out.2.1.trans F8' fun k e => Or.inl (by subst e; exact (H7q.out.1.lt _ rfl).1)
                  have Q8 : Lies No w8 (plain t) (.agg #[.int .i64 kp, .string np, .int .i64 ip, .int .u64 rp, .int .u64 mp, .slice ap lp cp]) := Lies.keep F8' (fun _ _ h => h.elim) _ _ H7q.out.2.2
                  have H8 := Lib.hid (And.intro ho8 (And.intro F8 Q8))
                  clear ho8 hg8 ha8 hl8 F8' F8 Q8
                  refine hK.out _ _ ?_ (fun hHeld => ?_)
                  · (try dsimp only); exact SC.out _ H8.out.2.1
                  clear hK K
                  try simp only [Act.put, List.getElem_toArray, List.getElem_cons_zero, List.getElem_cons_succ, List.setIfInBounds_toArray, List.set_cons_zero, List.set_cons_succ]
                  refine wpAnyH_take (i := 12) (v := ?_) rfl (by kernel_rfl) (by kernel_rfl) (by kernel_rfl) (fun _ _ _ h => h) (Or.inl ⟨by rfl, ?_⟩) (by assumption) ?_
                  rotate_left
                  · (intro w hSw; (try dsimp only at hSw); go_simp; first | done | with_reducible rfl)
                  try simp only [Act.put, List.getElem_toArray, List.getElem_cons_zero, List.getElem_cons_succ, List.setIfInBounds_toArray, List.set_cons_zero, List.set_cons_succ]
                  refine wpAnyH_done (by kernel_rfl) ?_ _
                  refine NoPanic.normal ?_
                  go_wp2_with fail
                  go_roundg (l.length - (kk + 1))
                  case measure => omega
                  case rel => exact FINX.out _ _ _ (SCm.mk HM.out H8.out.1 H8.out.2.1 H8.out.2.2) (by go_num)
                · go_wp2_with fail
                  go_roundg (l.length - (kk + 1))
                  case measure => omega
                  case rel =>
                    obtain ⟨hon, hlen, hz⟩ := H8c.out.2.2.1 trivial
                    subst hon
                    exact ⟨kk + 1, A, P, a, c, sp, hlt, rfl, by go_num, rfl, by omega, HB4.out.1.below H8c.out.1, by rw [HTK.out]; exact HX.out.2.2.dup HG.out hlen hz⟩
            · obtain ⟨hh1, hh2, hh3⟩ := H7.out.2.2.1 rfl
              have hwr : IntKind.i64.wrap ((k2 : Int) - 1) = (k2 : Int) - 1 := by rw [IntKind.wrap_i64]; omega
              clear hh1 hh3
              go_wp2_with fail
              go_roundg (k2 - 1)
              case measure => have := HGK.out; have := (H7.out.2.2.1 trivial); omega
              case rel =>
                obtain ⟨hh1, _, hh3⟩ := H7.out.2.2.1 trivial
                refine ⟨k2 - 1, by omega, rfl, by congr 1; omega, H7.out.1, H7.out.2.1, fun j h1 h2 => ?_⟩
                by_cases e : j = k2 - 1
                · subst e; exact hh3
                · exact HB5.out.2.2 j h1 (by omega)
    · have hkk : kk = l.length := by omega
      have HX := Lib.hid (And.intro hrb hrs)
      clear hrb hrs
      go_wp2_with fail
      go_ret
      have h1 := HX.out.2
      rw [hkk, List.take_length] at h1
      exact ⟨A.map ode.E.t, a, c, h1, by simp, by rw [List.length_map]; exact HX.out.1.win.len, HX.out.1.win.cap, HX.out.1.row, HX.out.1.bel⟩
end Go.Proofs.Ytgkcbiabkpcblaa.odl
