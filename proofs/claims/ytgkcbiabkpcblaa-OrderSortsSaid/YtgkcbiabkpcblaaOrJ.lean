/- Package order: slices.CompactFunc over terms, Set. -/
import Derived.Test.YtgkcbiabkpcblaaOrI
namespace Go.Proofs.Ytgkcbiabkpcblaa.odj
open Go.ChangeShapes Go.WideShapes Go.ChangeAt Go.RowKit
set_option linter.unusedVariables false
open Go.Proofs.Ytgkcbiabkpcblaa.tm Go.Proofs.Ytgkcbiabkpcblaa.lie Go.Proofs.Ytgkcbiabkpcblaa.kp Go.Proofs.Ytgkcbiabkpcblaa.cur Go.Proofs.Ytgkcbiabkpcblaa.rws Go.Proofs.Ytgkcbiabkpcblaa.pla Go.Proofs.Ytgkcbiabkpcblaa.lev Go.Proofs.Ytgkcbiabkpcblaa.pln Go.Proofs.Ytgkcbiabkpcblaa.ow6 Go.Proofs.Ytgkcbiabkpcblaa.mes Go.Proofs.Ytgkcbiabkpcblaa.odm Go.Proofs.Ytgkcbiabkpcblaa.odb Go.Proofs.Ytgkcbiabkpcblaa.odc Go.Proofs.Ytgkcbiabkpcblaa.odd Go.Proofs.Ytgkcbiabkpcblaa.ods Go.Proofs.Ytgkcbiabkpcblaa.ode Go.Proofs.Ytgkcbiabkpcblaa.odf Go.Proofs.Ytgkcbiabkpcblaa.odg Go.Proofs.Ytgkcbiabkpcblaa.odh Go.Proofs.Ytgkcbiabkpcblaa.odi
/-! ### of equals the first alone -/
structure CS (A D : List E) (p : Nat) : Prop where
  str : Str (D.map E.t)
  sub : ∀ d ∈ D, d ∈ A
  le : ∀ d ∈ D, ∀ h : p - 1 < A.length, ord d.t A[p - 1].t ≤ 0
  cov : ∀ (i : Nat) (h : i < A.length), i < p → ∃ d ∈ D, ord d.t A[i].t = 0
theorem CS.one {A : List E} (h : 0 < A.length) (hs : ∀ e ∈ A, sound e.t = true) : CS A (A.take 1) 1 := by
  obtain ⟨x, r, rfl⟩ : ∃ x r, A = x :: r := ⟨A[0], A.drop 1, by rw [List.getElem_cons_drop]; simp⟩
  have hx := ord_refl x.t (hs x (by simp))
  refine ⟨by simp [Str], by simp, ?_, ?_⟩
  · intro d hd _; simp at hd; subst hd; simp [hx]
  · intro i _ hi
    have : i = 0 := by omega
    subst this
    exact ⟨x, by simp, by simpa using hx⟩
theorem CS.small {A : List E} (h : A.length < 2) (hs : ∀ e ∈ A, sound e.t = true) : CS A A A.length := by
  by_cases h0 : A.length = 0
  · have : A = [] := List.eq_nil_of_length_eq_zero h0
    subst this
    exact ⟨by simp [Str], by simp, by simp, by simp⟩
  · have h1 := CS.one (A := A) (by omega) hs
    rw [List.take_of_length_le (by omega)] at h1
    have : A.length = 1 := by omega
    rw [this]; exact h1
theorem CS.eq {A D : List E} {p : Nat} (h : CS A D p) (hp : 0 < p) (hl : p < A.length) (hs : ∀ e ∈ A, sound e.t = true) (he : ord A[p].t A[p - 1].t = 0) : CS A D (p + 1) := by
  have s1 := hs _ (List.getElem_mem hl)
  have s2 := hs _ (List.getElem_mem (show p - 1 < A.length by omega))
  refine ⟨h.str, h.sub, ?_, ?_⟩
  · intro d hd _
    have := h.le d hd (by omega)
    rw [← ord_eq_right s1 s2 he d.t] at this
    exact this
  · intro i hi hip
    by_cases q : i < p
    · exact h.cov i hi q
    · have : i = p := by omega
      subst this
      obtain ⟨d, hd, e⟩ := h.cov (i - 1) (by omega) (by omega)
      exact ⟨d, hd, by rw [ord_eq_right s1 s2 he d.t]; exact e⟩
theorem CS.ne {A D : List E} {p : Nat} (h : CS A D p) (hp : 0 < p) (hl : p < A.length) (hs : ∀ e ∈ A, sound e.t = true) (hu : Up (A.map E.t)) (he : ord A[p].t A[p - 1].t ≠ 0) : CS A (D ++ [A[p]]) (p + 1) := by
  have s1 := hs _ (List.getElem_mem hl)
  have s2 := hs _ (List.getElem_mem (show p - 1 < A.length by omega))
  have hup : ord A[p - 1].t A[p].t ≤ 0 := by
    have := List.pairwise_iff_getElem.1 hu (p - 1) p (by simp; omega) (by simp; omega) (by omega)
    simpa using this
  have hlt : ∀ d ∈ D, ord d.t A[p].t < 0 := by
    intro d hd
    have sd := hs d (h.sub d hd)
    have h1 := h.le d hd (by omega)
    have h2 := ord_trans _ _ _ sd s2 s1 h1 hup
    have h3 : ord d.t A[p].t ≠ 0 := fun q => by
      have := ord_eq_left sd s1 q A[p - 1].t
      rw [ord_neg A[p - 1].t A[p].t] at this he
      omega
    omega
  refine ⟨?_, ?_, ?_, ?_⟩
  · rw [List.map_append]
    refine List.pairwise_append.2 ⟨h.str, by simp, ?_⟩
    intro a ha b hb
    obtain ⟨x, hx, rfl⟩ := List.mem_map.1 ha
    simp at hb; subst hb
    exact hlt x hx
  · intro d hd
    rcases List.mem_append.1 hd with q | q
    · exact h.sub d q
    · simp at q; subst q; exact List.getElem_mem hl
  · intro d hd hh
    rcases List.mem_append.1 hd with q | q
    · have := hlt d q; exact Int.le_of_lt this
    · simp at q; subst q
      have := ord_refl A[p].t s1
      exact Int.le_of_eq this
  · intro i hi hip
    by_cases q : i < p
    · obtain ⟨d, hd, e⟩ := h.cov i hi q
      exact ⟨d, List.mem_append.2 (Or.inl hd), e⟩
    · have : i = p := by omega
      subst this
      exact ⟨A[i], by simp, ord_refl _ s1⟩
theorem CS.set {A D : List E} {L : List Tm} (h : CS A D A.length) (hp : (A.map E.t).Perm (L.filter good)) : SetR L ((D.map E.t).map plain) := by
  refine SetR.of ?_ ?_ h.str
  · intro x hx
    obtain ⟨d, hd, rfl⟩ := List.mem_map.1 hx
    exact hp.mem_iff.1 (List.mem_map.2 ⟨d, h.sub d hd, rfl⟩)
  · intro x hx
    obtain ⟨a, ha, rfl⟩ := List.mem_map.1 (hp.mem_iff.2 hx)
    obtain ⟨i, hi, rfl⟩ := List.mem_iff_getElem.1 ha
    obtain ⟨d, hd, e⟩ := h.cov i hi hi
    exact ⟨d.t, List.mem_map.2 ⟨d, hd, rfl⟩, e⟩
theorem zc (m : Nat) : (Builtin.zeroCells ZV.cells m).toList = flat (List.replicate m zE) := by
  rw [flat_zero]
  unfold MC Builtin.zeroCells madeCells
  rfl
theorem run_clear6 (w : World) (ty : TypeId) (g o n c : Nat) (cur : Array Value) (t : TypeId) (hn : 0 < n)
    (hg : w.heap[g]? = some (.cells cur t (0, 0))) (hfit : o + n * 6 ≤ cur.size) :
    (Builtin.clear_ #[23] ty #[.slice (some ⟨g, o, none⟩) n c]).run Try.prog w =
      .ok (.tuple #[]) (w.setRow g (cur.toList.take o ++ flat (List.replicate n zE) ++ cur.toList.drop (o + n * 6)).toArray) := by
  have hl : (flat (List.replicate n zE)).length = n * 6 := by rw [flat_len, List.length_replicate]
  have hst := run_storeCells_at Try.prog g o t (flat (List.replicate n zE)) 0 cur w hg (by rw [hl]; simpa using hfit) (fun v hv => by
    obtain ⟨e, he, hv⟩ := List.mem_flatMap.1 hv
    rw [List.eq_of_mem_replicate he] at hv
    exact one_of (X := No) (w := w) (e := zE) (zero_lies _ _) v hv)
  have hz : ∀ w, (zeroValue 25).run Try.prog w = .ok ZV w := fun w => by kernel_rfl
  have hu : Try.prog.underlying 23 = some (.slice 25) := Try.underlying23
  obtain ⟨m, rfl⟩ : ∃ m, n = m + 1 := ⟨n - 1, by omega⟩
  rw [Nat.add_zero, hl] at hst
  simp only [Builtin.clear_]
  simp [run_underlying hu, hz, zc, hst]
/-- what is left of a row is cleared -/
theorem rb_clear {W w : World} {P k c : Nat} {a : Option Addr} {C : List E} {sp : List Value} (h : RB (Nw W) W P a c C sp w) (hk : k < C.length) : ∃ w' a' sp', (∀ w2, (Instr.slice 23 (.slice a C.length c) (some (.int .i64 (k : Int))) none none).run Try.prog w2 = .ok (.slice a' (C.length - k : Nat) (c - k : Nat)) w2) ∧
    (∀ ty, (Builtin.clear_ #[23] ty #[.slice a' (C.length - k : Nat) (c - k : Nat)]).run Try.prog w = .ok (.tuple #[]) w') ∧ RB (Nw W) W P a c (C.take k) sp' w' ∧ Below W.heap.size W w' := by
  obtain ⟨a', hw', r, _⟩ := h.win.lo (k := k) (by omega)
  have hb := h.blk (by omega)
  have hrun := fun ty => run_clear6 w ty P (k * 6) (C.length - k) (c - k) (flat C ++ sp).toArray 25 (by omega) hb.1 (by simp [flat_len]; omega)
  have ha' := hw'.pos (by omega)
  rw [Nat.zero_add] at ha'
  subst ha'
  obtain ⟨w', hww⟩ : ∃ w', w' = w.setRow P ((flat C ++ sp).toArray.toList.take (k * 6) ++ flat (List.replicate (C.length - k) zE) ++ (flat C ++ sp).toArray.toList.drop (k * 6 + (C.length - k) * 6)).toArray := ⟨_, rfl⟩
  rw [← hww] at hrun
  have hkk : Keep (fun q => q = P) w w' := by
    rw [hww]
    exact ⟨rfl, rfl, rfl, by simp [World.setRow], fun q _ hq => setRow_other w P q _ hq⟩
  have hbel := h.bel.trans (hkk.to_below (fun q e => by subst e; exact hb.2) h.bel.size)
  refine ⟨w', _, flat (List.replicate (C.length - k) zE) ++ (flat C ++ sp).drop (k * 6 + (C.length - k) * 6), r, hrun, ⟨?_, fun q => ⟨?_, hb.2⟩, ?_, hbel⟩, hbel⟩
  · rw [List.length_take, Nat.min_eq_left (by omega)]
    exact ⟨by have := h.win.len; omega, h.win.cap, fun q => h.win.pos (by omega)⟩
  · rw [hww, setRow_heap w P _ _ 25 _ hb.1, ← flat_take]
    congr 3
    simp only [List.append_assoc]
    rw [List.take_append_of_le_length (by rw [flat_len]; omega)]
  · intro e he
    exact Lies.keep (hkk.mono (G := Nw W) fun q e => by subst e; exact hb.2) (fun _ _ => id) _ _ (h.ls e (List.mem_of_mem_take he))
/-! ### CompactFunc -/
def CRel (W : World) (P : Nat) (a : Option Addr) (c : Nat) (A : List E) (sp : List Value) (g : Nat) (s5 : Value) (wr : World) : Prop :=
  ∃ k : Nat, 1 ≤ k ∧ k ≤ A.length ∧ g = A.length - k ∧ s5 = .int .i64 k ∧ CS A (A.take k) k ∧ RB (Nw W) W P a c A sp wr
/-- behind the first of equals: D stands at the block's head, from p - 1 on all is as it was -/
def IRel2 (W : World) (P : Nat) (a : Option Addr) (c : Nat) (A : List E) (sp : List Value) (k0 : Nat) (g : Nat) (s5 s7 : Value) (wr : World) : Prop :=
  ∃ (k q : Nat) (C : List E), 1 ≤ q ∧ k0 + q ≤ A.length ∧ g = A.length - (k0 + q) ∧ s5 = .int .i64 k ∧ s7 = .int .i64 q ∧ C.length = A.length ∧ k < k0 + q ∧ CS A (C.take k) (k0 + q) ∧ (∀ j, k0 + q - 1 ≤ j → C[j]? = A[j]?) ∧ RB (Nw W) W P a c C sp wr
theorem rb_look2 {X : Nat → Prop} {W w : World} {P : Nat} {a : Option Addr} {c : Nat} {A : List E} {sp : List Value} (h : RB X W P a c A sp w) {m : Nat} (hm : m < A.length) :
    ∃ k n ii re im al l cl t, A[m] = ⟨.int .i64 k, .string n, .int .i64 ii, .int .u64 re, .int .u64 im, .slice al l cl, t⟩ ∧ Six w P (m * 6) (.int .i64 k) (.string n) (.int .i64 ii) (.int .u64 re) (.int .u64 im) (.slice al l cl) ∧
      Lies X w t (.agg #[.int .i64 k, .string n, .int .i64 ii, .int .u64 re, .int .u64 im, .slice al l cl]) := by
  obtain ⟨k, n, ii, re, im, al, l, cl, t, h1, h2, h3, _⟩ := rb_look h hm
  exact ⟨k, n, ii, re, im, al, l, cl, t, h1, h2, h3⟩
set_option maxRecDepth 100000 in
set_option maxHeartbeats 8000000 in
theorem compact_any {W w : World} {P : Nat} {a : Option Addr} {c : Nat} {A : List E} {sp : List Value} (h : RB (Nw W) W P a c A sp w) (hs : ∀ e ∈ A, sound e.t = true) (hu : Up (A.map E.t)) (hA : A.length ≤ 900000) :
    Calls Try.prog 34 #[.slice a A.length c, .func (.func 35) #[] #[]] w fun e w' => ∃ (D : List E) (sp' : List Value), e = .returned (.slice a (D.length : Nat) c) ∧ D.length ≤ A.length ∧ CS A D A.length ∧ RB (Nw W) W P a c D sp' w' := by
  have HH := Lib.hid (And.intro h (And.intro hs hu))
  by_cases h2 : A.length < 2
  · have H1 := Lib.hid (CS.small h2 hs)
    clear h hs hu
    go_enter Try.func34, Try.ntmps34
    go_wp2_with fail
    go_ret
    exact ⟨A, sp, rfl, Nat.le_refl _, H1.out, HH.out.1⟩
  have H1 := Lib.hid (CS.one (by omega) hs)
  clear h hs hu
  go_enter Try.func34, Try.ntmps34
  go_wp2_with fail
  go_loopg [5] (A.length - 1) (CRel W P a c A sp)
  case atStart => exact ⟨1, by omega, by omega, by omega, rfl, H1.out, HH.out.1⟩
  case round =>
    obtain ⟨k, hk1, hk, rfl, rfl, hcs, hrb⟩ := hrel
    by_cases hlt : k < A.length
    · obtain ⟨kq, nq, iq, rq, mq, aq, lq, cq, tq, hq, ⟨e0, e1, e2, e3, e4, e5⟩, hlq⟩ := rb_look2 hrb (m := k) hlt
      obtain ⟨kp, np, ip, rp, mp, ap, lp, cp, tp, hp, ⟨f0, f1, f2, f3, f4, f5⟩, hlp⟩ := rb_look2 hrb (m := k - 1) (by omega)
      have x1 := fun w => (HH.out.1.win.ix (m := k) hlt w)
      have x2' := fun w => (HH.out.1.win.ix (m := k - 1) (by omega) w)
      rw [Nat.zero_add] at x1 x2'
      have ek : ((k - 1 : Nat) : Int) = (k : Int) - 1 := by omega
      rw [ek] at x2'
      clear ek
      have hwr : IntKind.i64.wrap ((k : Int) - 1) = (k : Int) - 1 := by rw [IntKind.wrap_i64]; omega
      have hk1' : k - 1 < A.length := by omega
      have st1 : sound tq = true := by have := HH.out.2.1 _ (List.getElem_mem hlt); rw [hq] at this; exact this
      have st2 : sound tp = true := by have := HH.out.2.1 _ (List.getElem_mem hk1'); rw [hp] at this; exact this
      have eo : ord A[k].t (A[k - 1]'hk1').t = ord tq tp := by rw [hq, hp]
      have HX := Lib.hid (And.intro hcs (And.intro hrb (And.intro hlq (And.intro hlp (And.intro st1 (And.intro st2 eo))))))
      clear hcs hrb hlq hlp st1 st2 hq hp eo
      go_wp2_with fail
      go_still_tail 10, (by kernel_rfl)
      change wpList _ _ _ _ _ wr.drew
      obtain ⟨wd, hwd⟩ : ∃ wd, wd = wr.drew := ⟨_, rfl⟩
      have HD := Lib.hid (show Below wr.heap.size wr wd by rw [hwd]; exact bdr wr)
      rw [← hwd]
      clear hwd e0 e1 e2 e3 e4 e5 f0 f1 f2 f3 f4 f5
      go_wp2_with fail
      refine (equal_any _ _ _ _ _ ((HX.out.2.2.1.below HD.out).off fun _ _ h => h.elim) ((HX.out.2.2.2.1.below HD.out).off fun _ _ h => h.elim) HX.out.2.2.2.2.1 HX.out.2.2.2.2.2.1).mono ?_
      rintro e w4 ⟨rfl, hb4⟩
      have HR4 := Lib.hid (HX.out.2.1.below (bt HD.out hb4))
      clear hb4 x1 x2'
      by_cases hz : ord tq tp = 0
      · have q : (ord tq tp == 0) = true := by rw [beq_iff_eq]; exact hz
        have HC := Lib.hid (HX.out.1.eq (by omega) hlt HH.out.2.1 (by rw [HX.out.2.2.2.2.2.2]; exact hz))
        obtain ⟨a', hw', y1, y2⟩ := HH.out.1.win.lo (k := k) (by omega)
        rw [Nat.zero_add] at hw'
        have HW' := Lib.hid hw'
        clear hz hw'
        go_wp2_with fail
        clear q
        go_loopg [5, 7] (A.length - (k + 1)) (IRel2 W P a c A sp k)
        case atStart => exact ⟨k, 1, A, by omega, hlt, rfl, rfl, rfl, rfl, by omega, HC.out, fun _ _ => rfl, HR4.out⟩
        case round =>
          obtain ⟨k', q, C, hq1, hqn, rfl, rfl, rfl, hCl, hkp, hcs, hCA, hrb⟩ := hrel
          have HI := Lib.hid (And.intro hcs (And.intro hCA (And.intro hrb hCl)))
          by_cases hl2 : q < A.length - k
          · have hp : k + q < C.length := by omega
            have hp1 : k + (q - 1) < C.length := by omega
            have hpA : k + q < A.length := by omega
            have hpA1 : k + q - 1 < A.length := by omega
            obtain ⟨kq, nq, iq, rq, mq, aq, lq, cq, tq, hq, ⟨e0, e1, e2, e3, e4, e5⟩, hlq⟩ := rb_look2 hrb (m := k + q) hp
            obtain ⟨kp, np, ip, rp, mp, ap, lp, cp, tp, hpp, ⟨f0, f1, f2, f3, f4, f5⟩, hlp⟩ := rb_look2 hrb (m := k + (q - 1)) hp1
            have x1 := fun w => (HW'.out.ix (m := q) hl2 w)
            have x2' := fun w => (HW'.out.ix (m := q - 1) (by omega) w)
            have ek : ((q - 1 : Nat) : Int) = (q : Int) - 1 := by omega
            rw [ek] at x2'
            clear ek
            have hwr : IntKind.i64.wrap ((q : Int) - 1) = (q : Int) - 1 := by rw [IntKind.wrap_i64]; omega
            have eA : C[k + q] = A[k + q] := by have := hCA (k + q) (by omega); rw [List.getElem?_eq_getElem hp, List.getElem?_eq_getElem hpA] at this; simpa using this
            have eA1 : C[k + (q - 1)] = A[k + q - 1] := by
              have h9 := hCA (k + (q - 1)) (by omega)
              have e9 : A[k + (q - 1)]? = A[k + q - 1]? := congrArg (fun i => A[i]?) (by omega)
              rw [List.getElem?_eq_getElem hp1, e9, List.getElem?_eq_getElem hpA1] at h9
              simpa using h9
            rw [eA] at hq
            rw [eA1] at hpp
            have st1 : sound tq = true := by have := HH.out.2.1 _ (List.getElem_mem hpA); rw [hq] at this; exact this
            have st2 : sound tp = true := by have := HH.out.2.1 _ (List.getElem_mem hpA1); rw [hpp] at this; exact this
            have eo : ord A[k + q].t (A[k + q - 1]'hpA1).t = ord tq tp := by rw [hq, hpp]
            have HX2 := Lib.hid (And.intro hq (And.intro hlq (And.intro hlp (And.intro st1 (And.intro st2 eo)))))
            have HP := Lib.hid (And.intro hp (And.intro hpA hpA1))
            clear hcs hrb hCA hlq hlp st1 st2 hq hpp eo eA eA1
            go_wp2_with fail
            go_still_tail 10, (by kernel_rfl)
            change wpList _ _ _ _ _ wr.drew
            obtain ⟨wd2, hwd⟩ : ∃ wd, wd = wr.drew := ⟨_, rfl⟩
            have HD2 := Lib.hid (show Below wr.heap.size wr wd2 by rw [hwd]; exact bdr wr)
            rw [← hwd]
            clear hwd e0 e1 e2 e3 e4 e5 f0 f1 f2 f3 f4 f5
            go_wp2_with fail
            refine (equal_any _ _ _ _ _ ((HX2.out.2.1.below HD2.out).off fun _ _ h => h.elim) ((HX2.out.2.2.1.below HD2.out).off fun _ _ h => h.elim) HX2.out.2.2.2.1 HX2.out.2.2.2.2.1).mono ?_
            rintro e w6 ⟨rfl, hb6⟩
            have hr6 := HI.out.2.2.1.below (bt HD2.out hb6)
            have HR6 := Lib.hid hr6
            clear hb6
            by_cases hz : ord tq tp = 0
            · have qq : (ord tq tp == 0) = true := by rw [beq_iff_eq]; exact hz
              have HC2 := Lib.hid (HI.out.1.eq (by omega) hpA HH.out.2.1 (by rw [HX2.out.2.2.2.2.2]; exact hz))
              clear hz hr6 x1 x2'
              go_wp2_with fail
              go_roundg (A.length - (k + (q + 1)))
              case measure => omega
              case rel => exact ⟨k', q + 1, C, by omega, by omega, rfl, rfl, by go_num, hCl, by omega, HC2.out, fun j hj => HI.out.2.1 j (by omega), HR6.out⟩
            · have qq : (ord tq tp == 0) = false := by rw [beq_eq_false_iff_ne]; exact hz
              have HC2 := Lib.hid (HI.out.1.ne (by omega) hpA HH.out.2.1 HH.out.2.2 (by rw [HX2.out.2.2.2.2.2]; exact hz))
              obtain ⟨kz, nz, iz, rz, mz, az, lz, cz, tz, hzz, ⟨e0, e1, e2, e3, e4, e5⟩, hlz, hfz, hix⟩ := rb_look hr6 (m := k') (by omega)
              have g0 := hfz (k' * 6)
              have g1 := hfz (k' * 6 + 1)
              have g2 := hfz (k' * 6 + 2)
              have g3 := hfz (k' * 6 + 3)
              have g4 := hfz (k' * 6 + 4)
              have g5 := hfz (k' * 6 + 5)
              obtain ⟨kq2, nq2, iq2, rq2, mq2, aq2, lq2, cq2, tq2, hq2, ⟨f0, f1, f2, f3, f4, f5⟩, hlq2⟩ := rb_look2 hr6 (m := k + q) hp
              rw [HI.out.2.2.2] at hix
              have HQ2 := Lib.hid (And.intro hq2 hlq2)
              clear hz hr6 hzz hlz hfz x2' hq2 hlq2
              go_wp2_with fail
              go_roundg (A.length - (k + (q + 1)))
              case measure => omega
              case rel =>
                have hP : W.heap.size ≤ P := (HR6.out.blk (by omega)).2
                have hset := rb_set HR6.out hP (m := k') (by omega) C[k + q] (by rw [HQ2.out.1]; exact HQ2.out.2)
                have eA : C[k + q] = A[k + q] := by have := HI.out.2.1 (k + q) (by omega); rw [List.getElem?_eq_getElem hp, List.getElem?_eq_getElem hpA] at this; simpa using this
                refine ⟨k' + 1, q + 1, C.set k' C[k + q], by omega, by omega, rfl, by go_num, by go_num, by rw [List.length_set]; exact hCl, by omega, ?_, ?_, ?_⟩
                · rw [List.take_succ_eq_append_getElem (by rw [List.length_set]; omega), List.getElem_set_self, List.take_set_of_le (Nat.le_refl _), eA]
                  exact HC2.out
                · intro j hj
                  rw [List.getElem?_set_ne (by omega)]
                  exact HI.out.2.1 j (by omega)
                · rw [HQ2.out.1] at hset
                  rw [HQ2.out.1]
                  exact hset
          · have hpn : k + q = A.length := by omega
            obtain ⟨wz, az, sp', y3, hcl, hrz, hbz⟩ := rb_clear hrb (k := k') (by omega)
            obtain ⟨w9, y5, _⟩ := HH.out.1.win.hi (k := k') (by omega)
            rw [hCl] at y3 hcl
            have HZ := Lib.hid (And.intro hrz (And.intro hpn w9))
            clear hcs hrb hCA hrz hpn w9 hbz
            go_wp2_with fail
            go_ret
            have h1 := HI.out.1
            rw [HZ.out.2.1] at h1
            have hl9 : (C.take k').length = k' := by rw [List.length_take, Nat.min_eq_left (by omega)]
            exact ⟨C.take k', sp', by rw [hl9]; rfl, by omega, h1, HZ.out.1⟩
      · have q : (ord tq tp == 0) = false := by rw [beq_eq_false_iff_ne]; exact hz
        have HC := Lib.hid (HX.out.1.ne (by omega) hlt HH.out.2.1 HH.out.2.2 (by rw [HX.out.2.2.2.2.2.2]; exact hz))
        clear hz
        go_wp2_with fail
        go_roundg (A.length - (k + 1))
        case measure => omega
        case rel => exact ⟨k + 1, by omega, hlt, rfl, by go_num, by rw [List.take_succ_eq_append_getElem hlt]; exact HC.out, HR4.out⟩
    · have hkk : k = A.length := by omega
      have HX := Lib.hid (And.intro hcs hrb)
      clear hcs hrb
      go_wp2_with fail
      go_ret
      have := HX.out.1
      rw [hkk, List.take_length] at this
      exact ⟨A, sp, rfl, Nat.le_refl _, this, HX.out.2⟩
theorem set_any (L : List Tm) (a : Option Addr) (c : Nat) (w : World) (hr : TRow No w L a 0) (hL : L.length ≤ 900000) : Calls Try.prog 17 #[.slice a L.length c] w (LTold (SetR L) w) := by
  have HR := Lib.hid hr
  clear hr
  go_enter Try.func17, Try.ntmps17
  go_wp2_with fail
  refine (inOrder_any L a c _ HR.out hL).mono ?_
  rintro e w2 ⟨P, a2, c2, A, sp, rfl, hrb, hp, hu⟩
  have hgd : ∀ e ∈ A, good e.t = true := fun e he => (List.mem_filter.1 (hp.mem_iff.1 (List.mem_map.2 ⟨e, he, rfl⟩))).2
  have hlen : A.length ≤ 900000 := by
    have := hp.length_eq
    rw [List.length_map] at this
    have h2 := List.length_filter_le good L
    omega
  have H2 := Lib.hid (And.intro hrb (And.intro hp (And.intro hu hgd)))
  clear hrb hp hu hgd
  go_wp2_with fail
  refine (compact_any H2.out.1 (fun e he => good_sound (H2.out.2.2.2 e he)) H2.out.2.2.1 hlen).mono ?_
  rintro e w3 ⟨D, sp', rfl, hDl, hcs, hrb3⟩
  have H3 := Lib.hid (And.intro hcs hrb3)
  clear hcs hrb3
  go_wp2_with fail
  refine (plainL_any H3.out.2 (fun e he => H2.out.2.2.2 e (H3.out.1.sub e he)) (by omega)).mono ?_
  rintro e w4 ⟨rfl, A', hl, hm, hrb⟩
  have H4 := Lib.hid (And.intro hm hrb)
  rw [← hl]
  have HL := Lib.hid hl
  clear hm hrb hl
  go_wp2_with fail
  go_ret
  refine ⟨A'.map E.t, a2, c2, ?_, by simp, by rw [List.length_map]; exact H4.out.2.win.len, H4.out.2.win.cap, H4.out.2.row, H4.out.2.bel⟩
  rw [H4.out.1]
  exact H3.out.1.set H2.out.2.1
end Go.Proofs.Ytgkcbiabkpcblaa.odj
