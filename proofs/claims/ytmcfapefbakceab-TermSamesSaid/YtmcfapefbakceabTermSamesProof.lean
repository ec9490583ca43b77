/- The law TermSames holds: for every input its Go function returns true and leaves its arguments as they were. No condition beyond the row's own. -/
import Derived.Test.YtmcfapefbakceabRows
import Derived.WalkKit
import Derived.ProofKit
import Derived.OpenShut
import Derived.SizedLaws
import Derived.Test.YtmcfapefbakceabTOpen
import Derived.Test.YtmcfapefbakceabLgt
import Derived.Test.YtmcfapefbakceabVar
import Derived.Test.YtmcfapefbakceabRm
import Derived.Deep.RegionHeld3
namespace Go.Proofs.Ytmcfapefbakceab.termSames
open Go.ChangeShapes Go.WideShapes Go.ChangeAt Go.RowKit
open Go.ChangeMaps (open_string)
open Go.Proofs.Ytmcfapefbakceab.tm Go.Proofs.Ytmcfapefbakceab.lie Go.Proofs.Ytmcfapefbakceab.kp Go.Proofs.Ytmcfapefbakceab.top
set_option linter.unusedVariables false
theorem own : ownKnob Try.prog.godebug = none := by kernel_rfl
theorem laidOut : laidOutB Try.prog = true := by kernel_rfl
open Go.Proofs.Ytmcfapefbakceab.tm Go.Proofs.Ytmcfapefbakceab.lie Go.Proofs.Ytmcfapefbakceab.kp Go.Proofs.Ytmcfapefbakceab.mes Go.Proofs.Ytmcfapefbakceab.vrs Go.Proofs.Ytmcfapefbakceab.awk Go.Proofs.Ytmcfapefbakceab.lgt Go.Proofs.Ytmcfapefbakceab.cur Go.Proofs.Ytmcfapefbakceab.rws Go.Proofs.Ytmcfapefbakceab.sme Go.Proofs.Ytmcfapefbakceab.pla Go.Proofs.Ytmcfapefbakceab.ren
/-- what is known behind the start: three boxes, three terms -/
def K3 (w : World) (a b c : Tm) (va vb vc : Value) (oa ob oc : Obj) (W : World) : Prop := W.heap[w.heap.size]? = some oa ∧ W.heap[w.heap.size + 1]? = some ob ∧ W.heap[w.heap.size + 1 + 1]? = some oc ∧ Below w.heap.size w W ∧ Lies No W a va ∧ Lies No W b vb ∧ Lies No W c vc
theorem K3.below {w W W' : World} {a b c : Tm} {va vb vc : Value} {oa ob oc : Obj} (h : K3 w a b c va vb vc oa ob oc W) (k : Below W.heap.size W W') : K3 w a b c va vb vc oa ob oc W' := by
  obtain ⟨h1, h2, h3, h4, h5, h6, h7⟩ := h
  exact ⟨(k.block _ (Array.getElem?_eq_some_iff.1 h1).1).trans h1, (k.block _ (Array.getElem?_eq_some_iff.1 h2).1).trans h2, (k.block _ (Array.getElem?_eq_some_iff.1 h3).1).trans h3, h4.trans (k.mono h4.size), h5.below k, h6.below k, h7.below k⟩
theorem K3.start {w : World} {a b c : Tm} {va vb vc : Value} {oa ob oc : Obj} (ha : Lies No w a va) (hb : Lies No w b vb) (hc : Lies No w c vc) : K3 w a b c va vb vc oa ob oc (((w.alloc oa).alloc ob).alloc oc) := by
  have h : Below w.heap.size w (((w.alloc oa).alloc ob).alloc oc) := bt (bt (ba _ _) (ba _ _)) (ba _ _)
  refine ⟨?_, ?_, ?_, h, ha.below h, hb.below h, hc.below h⟩
  · rw [(ba ((w.alloc oa).alloc ob) oc).block _ (by simp only [alloc_size]; omega), (ba (w.alloc oa) ob).block _ (by simp only [alloc_size]; omega)]
    exact alloc_at _ _
  · rw [(ba ((w.alloc oa).alloc ob) oc).block _ (by simp only [alloc_size]; omega)]
    have := alloc_at (w.alloc oa) ob
    rwa [alloc_size] at this
  · have := alloc_at ((w.alloc oa).alloc ob) oc
    rwa [alloc_size, alloc_size] at this
theorem K3.cells {w W : World} {a b c : Tm} {va vb vc u0 u1 u2 u3 u4 u5 x0 x1 x2 x3 x4 x5 : Value} {t t' : TypeId} {oc : Obj} (h : K3 w a b c va vb vc (.cells #[u0, u1, u2, u3, u4, u5] t) (.cells #[x0, x1, x2, x3, x4, x5] t') oc W) :
    (W.cell? ⟨w.heap.size, 0, none⟩ = some u0 ∧ W.cell? ⟨w.heap.size, 1, none⟩ = some u1 ∧ W.cell? ⟨w.heap.size, 2, none⟩ = some u2 ∧ W.cell? ⟨w.heap.size, 3, none⟩ = some u3 ∧ W.cell? ⟨w.heap.size, 4, none⟩ = some u4 ∧ W.cell? ⟨w.heap.size, 5, none⟩ = some u5) ∧
    (W.cell? ⟨w.heap.size + 1, 0, none⟩ = some x0 ∧ W.cell? ⟨w.heap.size + 1, 1, none⟩ = some x1 ∧ W.cell? ⟨w.heap.size + 1, 2, none⟩ = some x2 ∧ W.cell? ⟨w.heap.size + 1, 3, none⟩ = some x3 ∧ W.cell? ⟨w.heap.size + 1, 4, none⟩ = some x4 ∧ W.cell? ⟨w.heap.size + 1, 5, none⟩ = some x5) :=
  ⟨(blk_facts h.1).1, (blk_facts h.2.1).1⟩
theorem sameP {P : World → Prop} {a b : Tm} {va vb : Value} {p : Bool} (hst : ∀ W W', P W → Below W.heap.size W W' → P W') (ha : ∀ W, P W → Lies No W a va) (hb : ∀ W, P W → Lies No W b vb) (he : sameB a b = p) :
    ∀ W, P W → Calls Try.prog 6 #[va, vb] W fun e w' => e = .returned (.bool p) ∧ P w' := fun W h => by
  subst he
  exact (same_any _ _ _ _ W (ha W h) (hb W h)).mono fun e w' ⟨x, y⟩ => ⟨x, hst _ _ h y⟩
theorem varP {P : World → Prop} {a b : Tm} {va vb : Value} {p : Bool} (hst : ∀ W W', P W → Below W.heap.size W W' → P W') (ha : ∀ W, P W → Lies No W a va) (hb : ∀ W, P W → Lies No W b vb) (he : varB a b = p) :
    ∀ W, P W → Calls Try.prog 7 #[va, vb] W fun e w' => e = .returned (.bool p) ∧ P w' := fun W h => by
  subst he
  exact (variant_any _ _ _ _ W (ha W h) (hb W h)).mono fun e w' ⟨x, y⟩ => ⟨x, hst _ _ h y⟩
theorem mayP {P : World → Prop} {a : Tm} {va : Value} {p : Int} (hst : ∀ W W', P W → Below W.heap.size W W' → P W') (ha : ∀ W, P W → Lies No W a va) (he : may a = p) :
    ∀ W, P W → Calls Try.prog 8 #[va] W fun e w' => e = .returned (.int .i64 p) ∧ P w' := fun W h => by
  subst he
  exact (may_any _ _ W (ha W h)).mono fun e w' ⟨x, y⟩ => ⟨x, hst _ _ h y⟩
theorem awakeP {P : World → Prop} (hst : ∀ W W', P W → Below W.heap.size W W' → P W') : ∀ W, P W → Calls Try.prog 5 #[] W fun e w' => e = .returned (.bool true) ∧ P w' := fun W h =>
  (awake_any W).mono fun e w' ⟨x, y⟩ => ⟨x, hst _ _ h y⟩
theorem varB_comm (a b : Tm) : varB a b = varB b a := sameB_comm _ _
theorem varB_of {a b : Tm} (h : sameB a b = true) : varB a b = true := by
  rw [sameB_iff] at h
  obtain ⟨h1, h2, h3⟩ := h
  unfold varB renR
  rw [if_pos h1, if_pos h2, rn_plain_eq h1 h2 h3, sameB_refl]
  exact good_rn h2
theorem may_eq (a : Tm) : (may a == 0) = good a := by
  apply bool_ext
  rw [beq_iff_eq]
  exact may_iff a
set_option linter.unusedSimpArgs false in
set_option maxHeartbeats 4000000 in
theorem walk (w : World) (v0 : Value) (t0 : Tm) (x0 : Lies No w t0 v0) (v1 : Value) (t1 : Tm) (x1 : Lies No w t1 v1) (v2 : Value) (t2 : Tm) (x2 : Lies No w t2 v2) :
    Calls Try.prog 3 #[v0, v1, v2] w fun e w' => e = .returned (.bool true) ∧ Below w.heap.size w w' := by
  obtain ⟨A, hA⟩ : ∃ A, A = t0 := ⟨_, rfl⟩
  obtain ⟨B, hB⟩ : ∃ B, B = t1 := ⟨_, rfl⟩
  obtain ⟨C, hC⟩ : ∃ C, C = t2 := ⟨_, rfl⟩
  obtain ⟨k, n, i, re, im, l⟩ := t0
  obtain ⟨k', n', i', re', im', l'⟩ := t1
  obtain ⟨k'', n'', i'', re'', im'', l''⟩ := t2
  have HL := Lib.hid (And.intro (show Lies No w A v0 from hA ▸ x0) (And.intro (show Lies No w B v1 from hB ▸ x1) (show Lies No w C v2 from hC ▸ x2)))
  rw [Lies] at x0 x1 x2
  obtain ⟨aa, ca, rfl, hf, hr⟩ := x0
  obtain ⟨ab, cb, rfl, hf', hr'⟩ := x1
  obtain ⟨ac, cc, rfl, hf'', hr''⟩ := x2
  clear hf hr hf' hr' hf'' hr'' hA hB hC
  have LL := Lib.hid (K3.start (oa := .cells #[.int .i64 k, .string n, .int .i64 i, .int .u64 re, .int .u64 im, .slice aa l.length ca] 25) (ob := .cells #[.int .i64 k', .string n', .int .i64 i', .int .u64 re', .int .u64 im', .slice ab l'.length cb] 25) (oc := .cells #[.int .i64 k'', .string n'', .int .i64 i'', .int .u64 re'', .int .u64 im'', .slice ac l''.length cc] 25) HL.out.1 HL.out.2.1 HL.out.2.2)
  go_enter Try.func3, Try.ntmps3
  go_wp2_with fail
  refine (Light_any [A, B, C] (some ⟨w.heap.size + 1 + 1 + 1, 0, none⟩) 3 _ ?_ (by simp)).mono ?_
  · have h3 := LL.out
    have := row_new _ #[Value.int IntKind.i64 k, Value.string n, Value.int IntKind.i64 i, Value.int IntKind.u64 re, Value.int IntKind.u64 im, Value.slice aa l.length ca, Value.int IntKind.i64 k', Value.string n', Value.int IntKind.i64 i', Value.int IntKind.u64 re', Value.int IntKind.u64 im', Value.slice ab l'.length cb, Value.int IntKind.i64 k'', Value.string n'', Value.int IntKind.i64 i'', Value.int IntKind.u64 re'', Value.int IntKind.u64 im'', Value.slice ac l''.length cc] [A, B, C] (fun m hm => by
      match m, hm with
      | 0, _ => exact ⟨_, _, _, _, _, _, rfl, rfl, rfl, rfl, rfl, rfl, h3.2.2.2.2.1⟩
      | 1, _ => exact ⟨_, _, _, _, _, _, rfl, rfl, rfl, rfl, rfl, rfl, h3.2.2.2.2.2.1⟩
      | 2, _ => exact ⟨_, _, _, _, _, _, rfl, rfl, rfl, rfl, rfl, rfl, h3.2.2.2.2.2.2⟩
      | m + 3, hm => exact absurd hm (by simp))
    simpa [alloc_size] using this
  rintro e w2 ⟨b, rfl, hb⟩
  have LL := Lib.hid (LL.out.below (bt (ba _ _) hb))
  clear hb
  cases b
  · go_wp2_with fail
    refine (awake_any _).mono ?_; rintro e w3 ⟨rfl, hb⟩
    have HB3 := Lib.hid (LL.out.below hb)
    clear hb
    go_wp2_with fail
    go_ret
    exact ⟨rfl, HB3.out.2.2.2.1⟩
  obtain ⟨p, hp⟩ : ∃ p, sameB A B = p := ⟨_, rfl⟩
  obtain ⟨q, hq⟩ : ∃ q, varB A B = q := ⟨_, rfl⟩
  obtain ⟨p2, hp2⟩ : ∃ p2, sameB B C = p2 := ⟨_, rfl⟩
  obtain ⟨q2, hq2⟩ : ∃ q2, varB B C = q2 := ⟨_, rfl⟩
  obtain ⟨p3, hp3⟩ : ∃ p3, sameB A C = p3 := ⟨_, rfl⟩
  obtain ⟨q3, hq3⟩ : ∃ q3, varB A C = q3 := ⟨_, rfl⟩
  obtain ⟨e9, he9⟩ : ∃ e9, may A = e9 := ⟨_, rfl⟩
  obtain ⟨g9, hg9⟩ : ∃ g9, good A = g9 := ⟨_, rfl⟩
  have hpq : p = true → q = true := fun h => by rw [← hq]; exact varB_of (hp.trans h)
  have hp23 : p = true → p2 = true → p3 = true := fun h h' => by rw [← hp3]; exact sameB_trans (hp.trans h) (hp2.trans h')
  have hq23 : q = true → q2 = true → q3 = true := fun h h' => by rw [← hq3]; exact sameB_trans (hq.trans h) (hq2.trans h')
  have hge : (e9 == 0) = g9 := by rw [← he9, ← hg9]; exact may_eq A
  obtain ⟨P, hP⟩ : ∃ P : World → Prop, P = K3 w A B C (.agg #[.int .i64 k, .string n, .int .i64 i, .int .u64 re, .int .u64 im, .slice aa l.length ca]) (.agg #[.int .i64 k', .string n', .int .i64 i', .int .u64 re', .int .u64 im', .slice ab l'.length cb]) (.agg #[.int .i64 k'', .string n'', .int .i64 i'', .int .u64 re'', .int .u64 im'', .slice ac l''.length cc]) (.cells #[.int .i64 k, .string n, .int .i64 i, .int .u64 re, .int .u64 im, .slice aa l.length ca] 25) (.cells #[.int .i64 k', .string n', .int .i64 i', .int .u64 re', .int .u64 im', .slice ab l'.length cb] 25) (.cells #[.int .i64 k'', .string n'', .int .i64 i'', .int .u64 re'', .int .u64 im'', .slice ac l''.length cc] 25) := ⟨_, rfl⟩
  have hst : ∀ W W', P W → Below W.heap.size W W' → P W' := by rw [hP]; exact fun W W' => K3.below
  have hla : ∀ W, P W → Lies No W A (.agg #[.int .i64 k, .string n, .int .i64 i, .int .u64 re, .int .u64 im, .slice aa l.length ca]) := by rw [hP]; exact fun W h => h.2.2.2.2.1
  have hlb : ∀ W, P W → Lies No W B (.agg #[.int .i64 k', .string n', .int .i64 i', .int .u64 re', .int .u64 im', .slice ab l'.length cb]) := by rw [hP]; exact fun W h => h.2.2.2.2.2.1
  have hlc : ∀ W, P W → Lies No W C (.agg #[.int .i64 k'', .string n'', .int .i64 i'', .int .u64 re'', .int .u64 im'', .slice ac l''.length cc]) := by rw [hP]; exact fun W h => h.2.2.2.2.2.2
  have hcl := fun W (h : P W) => K3.cells (by rw [hP] at h; exact h)
  have hcc := fun W (h : P W) => (blk_facts (w := W) (b := w.heap.size + 1 + 1) (by rw [hP] at h; exact h.2.2.1)).1
  have hbw : ∀ W, P W → Below w.heap.size w W := by rw [hP]; exact fun W h => h.2.2.2.1
  have hP2 : P w2 := by rw [hP]; exact LL.out
  have CAB := Lib.hid (sameP hst hla hlb hp)
  have CBA := Lib.hid (sameP hst hlb hla ((sameB_comm B A).trans hp))
  have CBC := Lib.hid (sameP hst hlb hlc hp2)
  have CAC := Lib.hid (sameP hst hla hlc hp3)
  have CAA := Lib.hid (sameP hst hla hla ((sameB_refl A).trans hg9))
  have VAB := Lib.hid (varP hst hla hlb hq)
  have VBA := Lib.hid (varP hst hlb hla ((varB_comm B A).trans hq))
  have VBC := Lib.hid (varP hst hlb hlc hq2)
  have VAC := Lib.hid (varP hst hla hlc hq3)
  have MA := Lib.hid (mayP hst hla he9)
  have AW := Lib.hid (awakeP hst)
  have HST := Lib.hid hst; have HCL := Lib.hid hcl; have HCC := Lib.hid hcc; have HBW := Lib.hid hbw; have HGE := Lib.hid hge; have H23 := Lib.hid (And.intro hp23 hq23)
  clear hst hla hlb hlc hcl hcc hbw hP hp hq hp2 hq2 hp3 hq3 he9 hg9 hge LL HL hp23 hq23
  have key : (p = false) ∨ (p = true ∧ q = true) := by cases p <;> simp_all
  have key3 : (p = false ∧ q = false) ∨ (p = false ∧ q = true) ∨ (p = true ∧ q = true) := by cases p <;> cases q <;> simp_all
  clear hpq
  have h0 : ∀ b : Bool, (b != b) = false := by simp
  go_upto_region 3 with fail
  go_cut [40] from 14 to 39 (fun s40 wx => s40 = .bool false ∧ P wx)
  case first =>
    rcases key with rfl | ⟨rfl, rfl⟩
    · refine wp_region_noPanic ?_
      refine wp_region_held_drew (S := (fun w' => (w'.cell? ⟨w.heap.size, 0, none⟩ = some (.int .i64 k) ∧ w'.cell? ⟨w.heap.size, 1, none⟩ = some (.string n) ∧ w'.cell? ⟨w.heap.size, 2, none⟩ = some (.int .i64 i) ∧ w'.cell? ⟨w.heap.size, 3, none⟩ = some (.int .u64 re) ∧ w'.cell? ⟨w.heap.size, 4, none⟩ = some (.int .u64 im) ∧ w'.cell? ⟨w.heap.size, 5, none⟩ = some (.slice aa l.length ca)) ∧ (w'.cell? ⟨w.heap.size + 1, 0, none⟩ = some (.int .i64 k') ∧ w'.cell? ⟨w.heap.size + 1, 1, none⟩ = some (.string n') ∧ w'.cell? ⟨w.heap.size + 1, 2, none⟩ = some (.int .i64 i') ∧ w'.cell? ⟨w.heap.size + 1, 3, none⟩ = some (.int .u64 re') ∧ w'.cell? ⟨w.heap.size + 1, 4, none⟩ = some (.int .u64 im') ∧ w'.cell? ⟨w.heap.size + 1, 5, none⟩ = some (.slice ab l'.length cb)) ∧ P w')) (by kernel_rfl) ?_ (fun hHeld => ?_)
      · (try dsimp only); first | (exact ⟨(HCL.out _ (by assumption)).1, (HCL.out _ (by assumption)).2, by assumption⟩) | (exact ⟨(HCL.out _ (HST.out _ _ (by assumption) (bdr _))).1, (HCL.out _ (HST.out _ _ (by assumption) (bdr _))).2, HST.out _ _ (by assumption) (bdr _)⟩) | go_keep
      refine wpAnyH_take (i := 0) (v := ?_) rfl (by kernel_rfl) (by kernel_rfl) (by kernel_rfl) (fun _ _ _ h => h) (Or.inl ⟨by rfl, ?_⟩) (by assumption) ?_
      rotate_left
      · (intro w hSw; (try dsimp only at hSw); go_simp; first | done | with_reducible rfl)
      try simp only [Act.put, List.getElem_toArray, List.getElem_cons_zero, List.getElem_cons_succ, List.setIfInBounds_toArray, List.set_cons_zero, List.set_cons_succ]
      refine wpAnyH_take (i := 1) (v := ?_) rfl (by kernel_rfl) (by kernel_rfl) (by kernel_rfl) (fun _ _ _ h => h) (Or.inl ⟨by rfl, ?_⟩) (by assumption) ?_
      rotate_left
      · (intro w hSw; (try dsimp only at hSw); go_simp; first | done | with_reducible rfl)
      try simp only [Act.put, List.getElem_toArray, List.getElem_cons_zero, List.getElem_cons_succ, List.setIfInBounds_toArray, List.set_cons_zero, List.set_cons_succ]
      refine wpAnyH_take (i := 3) (v := ?_) rfl (by kernel_rfl) (by kernel_rfl) (by kernel_rfl) (fun _ _ _ h => h) (Or.inl ⟨by rfl, ?_⟩) (by assumption) ?_
      rotate_left
      · (intro w hSw; (try dsimp only at hSw); go_simp; first | done | with_reducible rfl)
      try simp only [Act.put, List.getElem_toArray, List.getElem_cons_zero, List.getElem_cons_succ, List.setIfInBounds_toArray, List.set_cons_zero, List.set_cons_succ]
      refine wpAnyH_take (i := 4) (v := ?_) rfl (by kernel_rfl) (by kernel_rfl) (by kernel_rfl) (fun _ _ _ h => h) (Or.inl ⟨by rfl, ?_⟩) (by assumption) ?_
      rotate_left
      · (intro w hSw; (try dsimp only at hSw); go_simp; first | done | with_reducible rfl)
      try simp only [Act.put, List.getElem_toArray, List.getElem_cons_zero, List.getElem_cons_succ, List.setIfInBounds_toArray, List.set_cons_zero, List.set_cons_succ]
      refine wpAnyH_ready (rs := [2]) (by kernel_rfl) (by simp) ?_
      refine AllReadyH.cons rfl (fun K hK => ?_) AllReadyH.nil
      go_simp
      refine (CAB.out _ ?_).mono ?_
      · first | assumption | exact HST.out _ _ (by assumption) (bdr _)
      rintro e wN ⟨rfl, hSN⟩
      go_wp2_with fail
      refine hK.out _ _ ?_ (fun hHeld => ?_)
      · (try dsimp only); first | (exact ⟨(HCL.out _ (by assumption)).1, (HCL.out _ (by assumption)).2, by assumption⟩) | (exact ⟨(HCL.out _ (HST.out _ _ (by assumption) (bdr _))).1, (HCL.out _ (HST.out _ _ (by assumption) (bdr _))).2, HST.out _ _ (by assumption) (bdr _)⟩) | go_keep
      clear hK K
      try simp only [Act.put, List.getElem_toArray, List.getElem_cons_zero, List.getElem_cons_succ, List.setIfInBounds_toArray, List.set_cons_zero, List.set_cons_succ]
      refine wpAnyH_ready (rs := [5]) (by kernel_rfl) (by simp) ?_
      refine AllReadyH.cons rfl (fun K hK => ?_) AllReadyH.nil
      go_simp
      refine (CBA.out _ ?_).mono ?_
      · first | assumption | exact HST.out _ _ (by assumption) (bdr _)
      rintro e wN ⟨rfl, hSN⟩
      go_wp2_with fail
      refine hK.out _ _ ?_ (fun hHeld => ?_)
      · (try dsimp only); first | (exact ⟨(HCL.out _ (by assumption)).1, (HCL.out _ (by assumption)).2, by assumption⟩) | (exact ⟨(HCL.out _ (HST.out _ _ (by assumption) (bdr _))).1, (HCL.out _ (HST.out _ _ (by assumption) (bdr _))).2, HST.out _ _ (by assumption) (bdr _)⟩) | go_keep
      clear hK K
      try simp only [Act.put, List.getElem_toArray, List.getElem_cons_zero, List.getElem_cons_succ, List.setIfInBounds_toArray, List.set_cons_zero, List.set_cons_succ]
      refine wpAnyH_take (i := 6) (v := ?_) rfl (by kernel_rfl) (by kernel_rfl) (by kernel_rfl) (fun _ _ _ h => h) (Or.inl ⟨by rfl, ?_⟩) (by assumption) ?_
      rotate_left
      · (intro w hSw; (try dsimp only at hSw); go_simp; first | done | with_reducible rfl)
      try simp only [Act.put, List.getElem_toArray, List.getElem_cons_zero, List.getElem_cons_succ, List.setIfInBounds_toArray, List.set_cons_zero, List.set_cons_succ]
      refine wpAnyH_take (i := 7) (v := ?_) rfl (by kernel_rfl) (by kernel_rfl) (by kernel_rfl) (fun _ _ _ h => h) (Or.inl ⟨by rfl, ?_⟩) (by assumption) ?_
      rotate_left
      · (intro w hSw; (try dsimp only at hSw); go_simp; first | done | with_reducible rfl)
      try simp only [Act.put, List.getElem_toArray, List.getElem_cons_zero, List.getElem_cons_succ, List.setIfInBounds_toArray, List.set_cons_zero, List.set_cons_succ]
      refine wpAnyH_take (i := 8) (v := ?_) rfl (by kernel_rfl) (by kernel_rfl) (by kernel_rfl) (fun _ _ _ h => h) (Or.inl ⟨by rfl, ?_⟩) (by assumption) ?_
      rotate_left
      · (intro w hSw; (try dsimp only at hSw); go_simp; first | done | with_reducible rfl)
      try simp only [Act.put, List.getElem_toArray, List.getElem_cons_zero, List.getElem_cons_succ, List.setIfInBounds_toArray, List.set_cons_zero, List.set_cons_succ]
      refine wpAnyH_take (i := 9) (v := ?_) rfl (by kernel_rfl) (by kernel_rfl) (by kernel_rfl) (fun _ _ _ h => h) (Or.inl ⟨by rfl, ?_⟩) (by assumption) ?_
      rotate_left
      · (intro w hSw; (try dsimp only at hSw); go_simp; first | done | with_reducible rfl)
      try simp only [Act.put, List.getElem_toArray, List.getElem_cons_zero, List.getElem_cons_succ, List.setIfInBounds_toArray, List.set_cons_zero, List.set_cons_succ]
      refine wpAnyH_take (i := 11) (v := ?_) rfl (by kernel_rfl) (by kernel_rfl) (by kernel_rfl) (fun _ _ _ h => h) (Or.inl ⟨by rfl, ?_⟩) (by assumption) ?_
      rotate_left
      · (intro w hSw; (try dsimp only at hSw); go_simp; first | done | with_reducible rfl)
      try simp only [Act.put, List.getElem_toArray, List.getElem_cons_zero, List.getElem_cons_succ, List.setIfInBounds_toArray, List.set_cons_zero, List.set_cons_succ]
      refine wpAnyH_take (i := 12) (v := ?_) rfl (by kernel_rfl) (by kernel_rfl) (by kernel_rfl) (fun _ _ _ h => h) (Or.inl ⟨by rfl, ?_⟩) (by assumption) ?_
      rotate_left
      · (intro w hSw; (try dsimp only at hSw); go_simp; first | done | with_reducible rfl)
      try simp only [Act.put, List.getElem_toArray, List.getElem_cons_zero, List.getElem_cons_succ, List.setIfInBounds_toArray, List.set_cons_zero, List.set_cons_succ]
      refine wpAnyH_ready (rs := [10]) (by kernel_rfl) (by simp) ?_
      refine AllReadyH.cons rfl (fun K hK => ?_) AllReadyH.nil
      go_simp
      refine (VAB.out _ ?_).mono ?_
      · first | assumption | exact HST.out _ _ (by assumption) (bdr _)
      rintro e wN ⟨rfl, hSN⟩
      go_wp2_with fail
      refine hK.out _ _ ?_ (fun hHeld => ?_)
      · (try dsimp only); first | (exact ⟨(HCL.out _ (by assumption)).1, (HCL.out _ (by assumption)).2, by assumption⟩) | (exact ⟨(HCL.out _ (HST.out _ _ (by assumption) (bdr _))).1, (HCL.out _ (HST.out _ _ (by assumption) (bdr _))).2, HST.out _ _ (by assumption) (bdr _)⟩) | go_keep
      clear hK K
      try simp only [Act.put, List.getElem_toArray, List.getElem_cons_zero, List.getElem_cons_succ, List.setIfInBounds_toArray, List.set_cons_zero, List.set_cons_succ]
      refine wpAnyH_ready (rs := [13]) (by kernel_rfl) (by simp) ?_
      refine AllReadyH.cons rfl (fun K hK => ?_) AllReadyH.nil
      go_simp
      refine (VBA.out _ ?_).mono ?_
      · first | assumption | exact HST.out _ _ (by assumption) (bdr _)
      rintro e wN ⟨rfl, hSN⟩
      go_wp2_with fail
      refine hK.out _ _ ?_ (fun hHeld => ?_)
      · (try dsimp only); first | (exact ⟨(HCL.out _ (by assumption)).1, (HCL.out _ (by assumption)).2, by assumption⟩) | (exact ⟨(HCL.out _ (HST.out _ _ (by assumption) (bdr _))).1, (HCL.out _ (HST.out _ _ (by assumption) (bdr _))).2, HST.out _ _ (by assumption) (bdr _)⟩) | go_keep
      clear hK K
      try simp only [Act.put, List.getElem_toArray, List.getElem_cons_zero, List.getElem_cons_succ, List.setIfInBounds_toArray, List.set_cons_zero, List.set_cons_succ]
      refine wpAnyH_take (i := 14) (v := ?_) rfl (by kernel_rfl) (by kernel_rfl) (by kernel_rfl) (fun _ _ _ h => h) (Or.inl ⟨by rfl, ?_⟩) (by assumption) ?_
      rotate_left
      · (intro w hSw; (try dsimp only at hSw); go_simp; first | done | with_reducible rfl)
      try simp only [Act.put, List.getElem_toArray, List.getElem_cons_zero, List.getElem_cons_succ, List.setIfInBounds_toArray, List.set_cons_zero, List.set_cons_succ]
      refine wpAnyH_take (i := 15) (v := ?_) rfl (by kernel_rfl) (by kernel_rfl) (by kernel_rfl) (fun _ _ _ h => h) (Or.inl ⟨by rfl, ?_⟩) (by assumption) ?_
      rotate_left
      · (intro w hSw; (try dsimp only at hSw); go_simp; first | done | with_reducible rfl)
      try simp only [Act.put, List.getElem_toArray, List.getElem_cons_zero, List.getElem_cons_succ, List.setIfInBounds_toArray, List.set_cons_zero, List.set_cons_succ]
      refine wpAnyH_take (i := 16) (v := ?_) rfl (by kernel_rfl) (by kernel_rfl) (by kernel_rfl) (fun _ _ _ h => h) (Or.inl ⟨by rfl, ?_⟩) (by assumption) ?_
      rotate_left
      · (intro w hSw; (try dsimp only at hSw); go_simp; first | done | with_reducible rfl)
      try simp only [Act.put, List.getElem_toArray, List.getElem_cons_zero, List.getElem_cons_succ, List.setIfInBounds_toArray, List.set_cons_zero, List.set_cons_succ]
      refine wpAnyH_take (i := 17) (v := ?_) rfl (by kernel_rfl) (by kernel_rfl) (by kernel_rfl) (fun _ _ _ h => h) (Or.inl ⟨by rfl, ?_⟩) (by assumption) ?_
      rotate_left
      · (intro w hSw; (try dsimp only at hSw); go_simp; first | done | with_reducible rfl)
      try simp only [Act.put, List.getElem_toArray, List.getElem_cons_zero, List.getElem_cons_succ, List.setIfInBounds_toArray, List.set_cons_zero, List.set_cons_succ]
      refine wpAnyH_take (i := 18) (v := ?_) rfl (by kernel_rfl) (by kernel_rfl) (by kernel_rfl) (fun _ _ _ h => h) (Or.inl ⟨by rfl, ?_⟩) (by assumption) ?_
      rotate_left
      · (intro w hSw; (try dsimp only at hSw); go_simp; first | done | with_reducible rfl)
      try simp only [Act.put, List.getElem_toArray, List.getElem_cons_zero, List.getElem_cons_succ, List.setIfInBounds_toArray, List.set_cons_zero, List.set_cons_succ]
      refine wpAnyH_ready (rs := [19]) (by kernel_rfl) (by simp) ?_
      refine AllReadyH.cons rfl (fun K hK => ?_) AllReadyH.nil
      go_simp
      refine (CAB.out _ ?_).mono ?_
      · first | assumption | exact HST.out _ _ (by assumption) (bdr _)
      rintro e wN ⟨rfl, hSN⟩
      go_wp2_with fail
      refine hK.out _ _ ?_ (fun hHeld => ?_)
      · (try dsimp only); first | (exact ⟨(HCL.out _ (by assumption)).1, (HCL.out _ (by assumption)).2, by assumption⟩) | (exact ⟨(HCL.out _ (HST.out _ _ (by assumption) (bdr _))).1, (HCL.out _ (HST.out _ _ (by assumption) (bdr _))).2, HST.out _ _ (by assumption) (bdr _)⟩) | go_keep
      clear hK K
      try simp only [Act.put, List.getElem_toArray, List.getElem_cons_zero, List.getElem_cons_succ, List.setIfInBounds_toArray, List.set_cons_zero, List.set_cons_succ]
      refine wpAnyH_take (i := 20) (v := ?_) rfl (by kernel_rfl) (by kernel_rfl) (by kernel_rfl) (fun _ _ _ h => h) (Or.inl ⟨by rfl, ?_⟩) (by assumption) ?_
      rotate_left
      · (intro w hSw; (try dsimp only at hSw); go_simp; first | done | with_reducible rfl)
      try simp only [Act.put, List.getElem_toArray, List.getElem_cons_zero, List.getElem_cons_succ, List.setIfInBounds_toArray, List.set_cons_zero, List.set_cons_succ]
      refine wpAnyH_take (i := 21) rfl (by kernel_rfl) (by kernel_rfl) (by kernel_rfl) (fun _ _ _ h => h) (Or.inr ⟨by rfl, rfl⟩) (by assumption) ?_
      try simp only [Act.put, List.getElem_toArray, List.getElem_cons_zero, List.getElem_cons_succ, List.setIfInBounds_toArray, List.set_cons_zero, List.set_cons_succ]
      refine wpAnyH_take (i := 22) rfl (by kernel_rfl) (by kernel_rfl) (by kernel_rfl) (fun _ _ _ h => h) (Or.inr ⟨by rfl, rfl⟩) (by assumption) ?_
      try simp only [Act.put, List.getElem_toArray, List.getElem_cons_zero, List.getElem_cons_succ, List.setIfInBounds_toArray, List.set_cons_zero, List.set_cons_succ]
      refine wpAnyH_take (i := 23) rfl (by kernel_rfl) (by kernel_rfl) (by kernel_rfl) (fun _ _ _ h => h) (Or.inr ⟨by rfl, rfl⟩) (by assumption) ?_
      try simp only [Act.put, List.getElem_toArray, List.getElem_cons_zero, List.getElem_cons_succ, List.setIfInBounds_toArray, List.set_cons_zero, List.set_cons_succ]
      refine wpAnyH_take (i := 24) rfl (by kernel_rfl) (by kernel_rfl) (by kernel_rfl) (fun _ _ _ h => h) (Or.inr ⟨by rfl, rfl⟩) (by assumption) ?_
      try simp only [Act.put, List.getElem_toArray, List.getElem_cons_zero, List.getElem_cons_succ, List.setIfInBounds_toArray, List.set_cons_zero, List.set_cons_succ]
      refine wpAnyH_take (i := 25) (v := ?_) rfl (by kernel_rfl) (by kernel_rfl) (by kernel_rfl) (fun _ _ _ h => h) (Or.inl ⟨by rfl, ?_⟩) (by assumption) ?_
      rotate_left
      · (intro w hSw; (try dsimp only at hSw); go_simp; first | done | with_reducible rfl)
      try simp only [Act.put, List.getElem_toArray, List.getElem_cons_zero, List.getElem_cons_succ, List.setIfInBounds_toArray, List.set_cons_zero, List.set_cons_succ]
      refine wpAnyH_take (i := 26) (v := ?_) rfl (by kernel_rfl) (by kernel_rfl) (by kernel_rfl) (fun _ _ _ h => h) (Or.inl ⟨by rfl, ?_⟩) (by assumption) ?_
      rotate_left
      · (intro w hSw; (try dsimp only at hSw); go_simp; first | done | with_reducible rfl)
      try simp only [Act.put, List.getElem_toArray, List.getElem_cons_zero, List.getElem_cons_succ, List.setIfInBounds_toArray, List.set_cons_zero, List.set_cons_succ]
      refine wpAnyH_done (by kernel_rfl) ?_ _
      refine NoPanic.normal ?_
      go_wp2_with fail
      go_meet
      exact ⟨rfl, by assumption⟩
    · go_region_held3 (fun w' => (w'.cell? ⟨w.heap.size, 0, none⟩ = some (.int .i64 k) ∧ w'.cell? ⟨w.heap.size, 1, none⟩ = some (.string n) ∧ w'.cell? ⟨w.heap.size, 2, none⟩ = some (.int .i64 i) ∧ w'.cell? ⟨w.heap.size, 3, none⟩ = some (.int .u64 re) ∧ w'.cell? ⟨w.heap.size, 4, none⟩ = some (.int .u64 im) ∧ w'.cell? ⟨w.heap.size, 5, none⟩ = some (.slice aa l.length ca)) ∧ (w'.cell? ⟨w.heap.size + 1, 0, none⟩ = some (.int .i64 k') ∧ w'.cell? ⟨w.heap.size + 1, 1, none⟩ = some (.string n') ∧ w'.cell? ⟨w.heap.size + 1, 2, none⟩ = some (.int .i64 i') ∧ w'.cell? ⟨w.heap.size + 1, 3, none⟩ = some (.int .u64 re') ∧ w'.cell? ⟨w.heap.size + 1, 4, none⟩ = some (.int .u64 im') ∧ w'.cell? ⟨w.heap.size + 1, 5, none⟩ = some (.slice ab l'.length cb)) ∧ P w')
        (first | (exact ⟨(HCL.out _ (by assumption)).1, (HCL.out _ (by assumption)).2, by assumption⟩) | (exact ⟨(HCL.out _ (HST.out _ _ (by assumption) (bdr _))).1, (HCL.out _ (HST.out _ _ (by assumption) (bdr _))).2, HST.out _ _ (by assumption) (bdr _)⟩) | go_keep)
        (first
          | (go_at_call 6; (first | (with_reducible refine (CAB.out _ ?_).mono ?_) | (with_reducible refine (CBA.out _ ?_).mono ?_)); (first | assumption | exact HST.out _ _ (by assumption) (bdr _)); rintro e wN ⟨rfl, hSN⟩)
          | (go_at_call 7; (first | (with_reducible refine (VAB.out _ ?_).mono ?_) | (with_reducible refine (VBA.out _ ?_).mono ?_)); (first | assumption | exact HST.out _ _ (by assumption) (bdr _)); rintro e wN ⟨rfl, hSN⟩))
      go_wp2_with fail
      go_meet
      exact ⟨rfl, by assumption⟩
  case rest =>
    obtain ⟨rfl, hPx⟩ := hcut
    obtain ⟨⟨e0, e1, e2, e3, e4, e5⟩, ⟨f0, f1, f2, f3, f4, f5⟩⟩ := HCL.out _ hPx
    obtain ⟨g0, g1, g2, g3, g4, g5⟩ := HCC.out _ hPx
    have k3 : p = true → p2 = true → p3 = true := H23.out.1
    have k4 : q = true → q2 = true → q3 = true := H23.out.2
    have key2 : (p2 = false ∧ q2 = false) ∨ (p2 = false ∧ q2 = true) ∨ (p2 = true ∧ q2 = false) ∨ (p2 = true ∧ q2 = true) := by cases p2 <;> cases q2 <;> simp
    go_upto_region 5 with fail
    go_cut [70] from 41 to 69 (fun s70 wx => s70 = .bool false ∧ P wx)
    case first =>
      rcases key3 with ⟨rfl, rfl⟩ | ⟨rfl, rfl⟩ | ⟨rfl, rfl⟩ <;> rcases key2 with ⟨rfl, rfl⟩ | ⟨rfl, rfl⟩ | ⟨rfl, rfl⟩ | ⟨rfl, rfl⟩ <;> (first | (have j := k3 rfl rfl; subst j) | skip) <;> (first | (have j := k4 rfl rfl; subst j) | skip) <;> clear k3 k4
      all_goals
        go_wp2_with (first
          | (go_at_call 6; (with_reducible refine (CAB.out _ ?_).mono ?_); (first | assumption | exact HST.out _ _ (by assumption) (bdr _)); rintro e wN ⟨rfl, hSN⟩; obtain ⟨⟨e0, e1, e2, e3, e4, e5⟩, ⟨f0, f1, f2, f3, f4, f5⟩⟩ := HCL.out _ hSN; obtain ⟨g0, g1, g2, g3, g4, g5⟩ := HCC.out _ hSN)
          | (go_at_call 6; (with_reducible refine (CBC.out _ ?_).mono ?_); (first | assumption | exact HST.out _ _ (by assumption) (bdr _)); rintro e wN ⟨rfl, hSN⟩; obtain ⟨⟨e0, e1, e2, e3, e4, e5⟩, ⟨f0, f1, f2, f3, f4, f5⟩⟩ := HCL.out _ hSN; obtain ⟨g0, g1, g2, g3, g4, g5⟩ := HCC.out _ hSN)
          | (go_at_call 6; (with_reducible refine (CAC.out _ ?_).mono ?_); (first | assumption | exact HST.out _ _ (by assumption) (bdr _)); rintro e wN ⟨rfl, hSN⟩; obtain ⟨⟨e0, e1, e2, e3, e4, e5⟩, ⟨f0, f1, f2, f3, f4, f5⟩⟩ := HCL.out _ hSN; obtain ⟨g0, g1, g2, g3, g4, g5⟩ := HCC.out _ hSN)
          | (go_at_call 7; (with_reducible refine (VAB.out _ ?_).mono ?_); (first | assumption | exact HST.out _ _ (by assumption) (bdr _)); rintro e wN ⟨rfl, hSN⟩; obtain ⟨⟨e0, e1, e2, e3, e4, e5⟩, ⟨f0, f1, f2, f3, f4, f5⟩⟩ := HCL.out _ hSN; obtain ⟨g0, g1, g2, g3, g4, g5⟩ := HCC.out _ hSN)
          | (go_at_call 7; (with_reducible refine (VBC.out _ ?_).mono ?_); (first | assumption | exact HST.out _ _ (by assumption) (bdr _)); rintro e wN ⟨rfl, hSN⟩; obtain ⟨⟨e0, e1, e2, e3, e4, e5⟩, ⟨f0, f1, f2, f3, f4, f5⟩⟩ := HCL.out _ hSN; obtain ⟨g0, g1, g2, g3, g4, g5⟩ := HCC.out _ hSN)
          | (go_at_call 7; (with_reducible refine (VAC.out _ ?_).mono ?_); (first | assumption | exact HST.out _ _ (by assumption) (bdr _)); rintro e wN ⟨rfl, hSN⟩; obtain ⟨⟨e0, e1, e2, e3, e4, e5⟩, ⟨f0, f1, f2, f3, f4, f5⟩⟩ := HCL.out _ hSN; obtain ⟨g0, g1, g2, g3, g4, g5⟩ := HCC.out _ hSN))
        go_meet
        exact ⟨rfl, by assumption⟩
    case rest =>
      obtain ⟨rfl, hPx⟩ := hcut
      obtain ⟨⟨e0, e1, e2, e3, e4, e5⟩, _⟩ := HCL.out _ hPx
      have hge := HGE.out
      have hgg : (g9 == g9) = true := by simp
      go_wp2_with fail
      go_region_held3 (fun w' => w'.cell? ⟨w.heap.size, 0, none⟩ = some (.int .i64 k) ∧ w'.cell? ⟨w.heap.size, 1, none⟩ = some (.string n) ∧ w'.cell? ⟨w.heap.size, 2, none⟩ = some (.int .i64 i) ∧ w'.cell? ⟨w.heap.size, 3, none⟩ = some (.int .u64 re) ∧ w'.cell? ⟨w.heap.size, 4, none⟩ = some (.int .u64 im) ∧ w'.cell? ⟨w.heap.size, 5, none⟩ = some (.slice aa l.length ca) ∧ P w')
        (first | (exact ⟨(HCL.out _ (by assumption)).1.1, (HCL.out _ (by assumption)).1.2.1, (HCL.out _ (by assumption)).1.2.2.1, (HCL.out _ (by assumption)).1.2.2.2.1, (HCL.out _ (by assumption)).1.2.2.2.2.1, (HCL.out _ (by assumption)).1.2.2.2.2.2, by assumption⟩) | (have hPd := HST.out _ _ (by assumption) (bdr _); exact ⟨(HCL.out _ hPd).1.1, (HCL.out _ hPd).1.2.1, (HCL.out _ hPd).1.2.2.1, (HCL.out _ hPd).1.2.2.2.1, (HCL.out _ hPd).1.2.2.2.2.1, (HCL.out _ hPd).1.2.2.2.2.2, hPd⟩) | go_keep)
        (first
          | (go_at_call 6; (with_reducible refine (CAA.out _ ?_).mono ?_); (first | assumption | exact HST.out _ _ (by assumption) (bdr _)); rintro e wN ⟨rfl, hSN⟩)
          | (go_at_call 8; (with_reducible refine (MA.out _ ?_).mono ?_); (first | assumption | exact HST.out _ _ (by assumption) (bdr _)); rintro e wN ⟨rfl, hSN⟩)
          | (go_at_call 5; (with_reducible refine (AW.out _ ?_).mono ?_); (first | assumption | exact HST.out _ _ (by assumption) (bdr _)); rintro e wN ⟨rfl, hSN⟩))
      all_goals go_wp2_with fail
      all_goals go_ret
      all_goals exact ⟨rfl, HBW.out _ (by assumption)⟩
set_option maxRecDepth 100000 in
theorem lifted (os : Os) (started : os.Started) (H : Type) (enc : TypeId × Value → H) :
    ReturnsInHanded {} Try.checked os 3 .any (Rows.termSamesSpec.pre6 enc Try.prog Try.f3 Rows.termSamesRow.domain false) (Rows.termSamesSpec.post enc Try.prog Try.f3 false true false false) := by
  refine returnsInHanded_of_change_sized (C := Try.checked) own started (by kernel_rfl) Try.func3
    (ChangeSpec.witness6 (enc := enc) (C := Try.checked) false ⟨#[], #[.agg #[.int .i64 0, .string ⟨#[]⟩, .int .i64 0, .int .u64 0, .int .u64 0, .slice none 0 0], .agg #[.int .i64 0, .string ⟨#[]⟩, .int .i64 0, .int .u64 0, .int .u64 0, .slice none 0 0], .agg #[.int .i64 0, .string ⟨#[]⟩, .int .i64 0, .int .u64 0, .int .u64 0, .slice none 0 0]], []⟩ 8 (by kernel_rfl) (by kernel_rfl) (by kernel_rfl) (by kernel_rfl)) ?_
  intro W base args ds gs before hval0 hW _ hsz0 _
  have hsz : (DataW.weightsEach Try.prog (Try.f3.params.toList ++ Rows.termSamesSpec.plain.varTypes Try.prog) (ds ++ gs)).all (· ≤ reachBytes) = true := hsz0
  clear hsz0
  have hval : ∀ (j : Nat) t v, Try.f3.params[j]? = some t → args[j]? = some v → Value.okWide Try.prog W .any base t v := hval0
  have hW' := hW
  obtain ⟨p, q, hA0, hV, rfl, hfz, hnd⟩ := hW
  have hA : DataW.TrodAll enc Try.prog W 0 (fun _ => true) true Try.f3.params.toList args.toList ds p := hA0
  rw [Try.params3] at hA hval hsz
  obtain ⟨v0, vs0, d0, ds0, p0, q0, hargs, rfl, rfl, h0, r0⟩ := trodAll_cons hA
  obtain ⟨v1, vs1, d1, ds1, p1, q1, rfl, rfl, rfl, h1, r1⟩ := trodAll_cons r0
  obtain ⟨v2, vs2, d2, ds2, p2, q2, rfl, rfl, rfl, h2, r2⟩ := trodAll_cons r1
  obtain ⟨rfl, rfl, rfl⟩ := trodAll_nil r2
  obtain rfl : args = #[v0, v1, v2] := by cases args; simp_all
  obtain ⟨rfl, rfl⟩ := trodVars_none hV
  simp only [List.append_nil] at hW'
  have lt0 : ∀ x ∈ p0, x.block < W.heap.size := fun x hx => by
    have := hW'.lt x (by simp [hx])
    simpa using this
  have k0 := h0
  have lt1 : ∀ x ∈ p1, x.block < W.heap.size := fun x hx => by
    have := hW'.lt x (by simp [hx])
    simpa using this
  have k1 := h1
  have lt2 : ∀ x ∈ p2, x.block < W.heap.size := fun x hx => by
    have := hW'.lt x (by simp [hx])
    simpa using this
  have k2 := h2
  obtain ⟨t0, x0⟩ := term_arg (by obtain ⟨cs, hcs, _⟩ := okWide_struct Try.underlying25 (hval 0 25 v0 rfl rfl); exact ⟨cs, hcs⟩) h0
  obtain ⟨t1, x1⟩ := term_arg (by obtain ⟨cs, hcs, _⟩ := okWide_struct Try.underlying25 (hval 1 25 v1 rfl rfl); exact ⟨cs, hcs⟩) h1
  obtain ⟨t2, x2⟩ := term_arg (by obtain ⟨cs, hcs, _⟩ := okWide_struct Try.underlying25 (hval 2 25 v2 rfl rfl); exact ⟨cs, hcs⟩) h2
  clear hA0 hval0
  refine (walk W v0 t0 x0 v1 t1 x1 v2 t2 x2).mono fun e W' ⟨he, hg⟩ => ?_
  subst he
  have ha := (trodAll_cons_mk (Below.trod laidOut (by kernel_rfl) (of_decide_eq_true (by kernel_rfl)) k0 hg lt0) (trodAll_cons_mk (Below.trod laidOut (by kernel_rfl) (of_decide_eq_true (by kernel_rfl)) k1 hg lt1) (trodAll_cons_mk (Below.trod laidOut (by kernel_rfl) (of_decide_eq_true (by kernel_rfl)) k2 hg lt2) trodAll_mk0)))
  refine ⟨_, rfl, _, _, _, [], _, [], hW', ?_, ha, rfl, hg.frame _, fun h => by cases h⟩
  exact (trodAll_cons_mk (shut_bool Try.underlying4 _) trodAll_mk0)
/-- THE STATEMENT. -/
theorem proved : Rows.TermSamesSaid :=
  OpenClaim.holds_of_wide 3 Try.f3 rfl rfl rfl rfl rfl rfl rfl ⟨rfl, rfl, rfl, rfl, rfl⟩ rfl rfl rfl rfl rfl (by kernel_rfl) Try.func3 (by kernel_rfl)
    (of_decide_eq_true (by kernel_rfl)) (by unfold Func.isWrapper; first | (rw [if_pos (by decide +kernel)]; kernel_rfl) | (rw [if_neg (by decide +kernel)]; exact ⟨rfl, rfl⟩))
    (fun os started H enc _ => lifted os started H enc)
#print axioms proved
end Go.Proofs.Ytmcfapefbakceab.termSames
