/- Package order: merge, sortParts. -/
import Derived.Test.YtgkcbiabkpcblaaOrE
import Derived.StillTailTactics
import Derived.Deep.LoopGhost
import Derived.Deep.RegionHeld3
import Derived.Deep.QuietTactic
import Derived.BigQuiet
namespace Go.Proofs.Ytgkcbiabkpcblaa.odf
open Go.ChangeShapes Go.WideShapes Go.ChangeAt Go.RowKit
set_option linter.unusedVariables false
open Go.Proofs.Ytgkcbiabkpcblaa.tm Go.Proofs.Ytgkcbiabkpcblaa.lie Go.Proofs.Ytgkcbiabkpcblaa.kp Go.Proofs.Ytgkcbiabkpcblaa.cur Go.Proofs.Ytgkcbiabkpcblaa.rws Go.Proofs.Ytgkcbiabkpcblaa.pla Go.Proofs.Ytgkcbiabkpcblaa.lev Go.Proofs.Ytgkcbiabkpcblaa.odm Go.Proofs.Ytgkcbiabkpcblaa.odb Go.Proofs.Ytgkcbiabkpcblaa.odc Go.Proofs.Ytgkcbiabkpcblaa.ods Go.Proofs.Ytgkcbiabkpcblaa.ode
theorem isz : (Try.prog.info? 25).map (·.size) = some 6 := by
  obtain ⟨ij, h, _, h2, _⟩ := Go.Proofs.Ytgkcbiabkpcblaa.ow6.info_t
  rw [h, Option.map_some, h2]
theorem run_copy6 (w : World) (ty : TypeId) (g o n dCap : Nat) (a : Addr) (sCap : Nat) (cur : Array Value) (t : TypeId) (cs : List Value)
    (hg : w.heap[g]? = some (.cells cur t (0, 0))) (hn : cs.length = n * 6)
    (hsrc : ∀ j v, cs[j]? = some v → w.cell? (a.add j) = some v) (hfit : o + cs.length ≤ cur.size) (h1 : ∀ v ∈ cs, v.oneCell' = true) :
    (Builtin.copy_ #[23, 23] ty #[.slice (some ⟨g, o, none⟩) n dCap, .slice (some a) n sCap]).run Try.prog w =
      .ok (goInt n) (w.setRow g (cur.toList.take o ++ cs ++ cur.toList.drop (o + cs.length)).toArray) := by
  have hl := run_loadCells_list (P := Try.prog) w a cs hsrc
  have hst := run_storeCells_at Try.prog g o t cs 0 cur w hg (by simpa using hfit) h1
  cases hq : Try.prog.info? 25 with
  | none => have := isz; rw [hq] at this; cases this
  | some i =>
    have hi : i.size = 6 := by have := isz; rw [hq] at this; simpa using this
    have hu : Try.prog.underlying 23 = some (.slice 25) := Try.underlying23
    simp [Builtin.copy_, run_underlying hu, Builtin.lenOf, Builtin.firstCells, sizeOf, typeInfo, hq, hi, ← hn, hl, hst]
theorem one_of {X : Nat → Prop} {w : World} {e : E} (h : Lies X w e.t e.v) : ∀ v ∈ e.cs, v.oneCell' = true := by
  obtain ⟨k, n, i, re, im, l, a, c, ⟨h0, h1, h2, h3, h4, h5⟩, _⟩ := lies_form h
  intro v hv
  simp only [E.cs, List.mem_cons, List.not_mem_nil, or_false] at hv
  rcases hv with rfl | rfl | rfl | rfl | rfl | rfl
  · rw [h0]; rfl
  · rw [h1]; rfl
  · rw [h2]; rfl
  · rw [h3]; rfl
  · rw [h4]; rfl
  · rw [h5]; rfl
/-- the window of P from o1 on, n terms, is copied to the window of Q from o2 on -/
theorem so_copy {W w : World} {P Q o1 o2 n c1 c2 : Nat} {a1 a2 : Option Addr} {A B : List E} {sp sq : List Value} (h : SO W P Q A B sp sq w) (h1 : Win P o1 a1 n c1) (h2 : Win Q o2 a2 n c2) (hA : o1 + n ≤ A.length) (hB : o2 + n ≤ B.length) (hn : 0 < n) :
    ∃ w', (∀ ty, (Builtin.copy_ #[23, 23] ty #[.slice a2 n c2, .slice a1 n c1]).run Try.prog w = .ok (goInt n) w') ∧ SO W P Q A (B.take o2 ++ ((A.drop o1).take n ++ B.drop (o2 + n))) sp sq w' := by
  obtain ⟨M, hM⟩ : ∃ M, M = (A.drop o1).take n := ⟨_, rfl⟩
  have hMl : M.length = n := by rw [hM, List.length_take, List.length_drop]; omega
  have hMm : ∀ e ∈ M, e ∈ A := fun e he => by rw [hM] at he; exact List.mem_of_mem_drop (List.mem_of_mem_take he)
  have hsrc : ∀ j v, (flat M)[j]? = some v → w.cell? ((⟨P, o1 * 6, none⟩ : Addr).add j) = some v := by
    intro j v hj
    have hjl : j < n * 6 := by have := (List.getElem?_eq_some_iff.1 hj).1; rw [flat_len, hMl] at this; exact this
    have e : (⟨P, o1 * 6, none⟩ : Addr).add j = ⟨P, o1 * 6 + j, none⟩ := by unfold Addr.add; split <;> simp_all
    rw [e]
    simp only [World.cell?, h.pa]
    have : (flat A ++ sp)[o1 * 6 + j]? = some v := by
      rw [List.getElem?_append_left (by rw [flat_len]; omega), ← List.getElem?_drop, flat_drop]
      rw [hM, ← flat_take, List.getElem?_take, if_pos hjl] at hj
      exact hj
    simpa using this
  have hfit : o2 * 6 + (flat M).length ≤ (flat B ++ sq).toArray.size := by simp [flat_len, hMl]; omega
  have hone : ∀ v ∈ flat M, v.oneCell' = true := by
    intro v hv
    obtain ⟨e, he, hv⟩ := List.mem_flatMap.1 hv
    exact one_of (h.la e (hMm e he)) v hv
  have hrun := fun ty => run_copy6 w ty Q (o2 * 6) n c2 ⟨P, o1 * 6, none⟩ c1 (flat B ++ sq).toArray 25 (flat M) h.qa (by rw [flat_len, hMl]) hsrc hfit hone
  rw [h1.pos hn, h2.pos hn]
  refine ⟨_, hrun, ?_⟩
  obtain ⟨w', hw'⟩ : ∃ w', w' = w.setRow Q ((flat B ++ sq).toArray.toList.take (o2 * 6) ++ flat M ++ (flat B ++ sq).toArray.toList.drop (o2 * 6 + (flat M).length)).toArray := ⟨_, rfl⟩
  rw [← hw']
  have hk : Keep (fun k => k = Q) w w' := by
    rw [hw']
    exact ⟨rfl, rfl, rfl, by simp [World.setRow], fun k _ hk => setRow_other w Q k _ hk⟩
  have kO := hk.mono (G := Nw W) fun k q => by subst q; exact h.hq
  have lk : ∀ x : E, Lies (Nw W) w x.t x.v → Lies (Nw W) w' x.t x.v := fun x hx => Lies.keep kO (fun _ _ => id) _ _ hx
  refine ⟨(hk.block P (Array.getElem?_eq_some_iff.1 h.pa).1 h.ne).trans h.pa, ?_, fun x hx => lk x (h.la x hx), ?_, h.ne, h.hp, h.hq, h.bel.trans (hk.to_below (fun k q => by subst q; exact h.hq) h.bel.size)⟩
  · rw [hw', setRow_heap w Q _ _ 25 _ h.qa, ← hM]
    congr 3
    simp only [flat_append]
    rw [flat_len, hMl, ← Nat.add_mul, List.take_append_of_le_length (by rw [flat_len]; omega), List.drop_append_of_le_length (by rw [flat_len]; omega), flat_take, flat_drop]
    simp
  · intro x hx
    rcases List.mem_append.1 hx with q | q
    · exact lk x (h.lb x (List.mem_of_mem_take q))
    · rcases List.mem_append.1 q with q | q
      · rw [← hM] at q; exact lk x (h.la x (hMm x q))
      · exact lk x (h.lb x (List.mem_of_mem_drop q))
/-! ### merge -/
/-- F and S, each rising, laid together so far: i1 of the one, i2 of the other -/
structure MS (F S : List E) (i1 i2 : Nat) (M : List E) : Prop where
  ml : M.length = i1 + i2
  pm : M.Perm (F.take i1 ++ S.take i2)
  up : Up (M.map E.t)
  le : ∀ x ∈ M, ∀ y ∈ F.drop i1 ++ S.drop i2, ord x.t y.t ≤ 0
theorem MS.nil (F S : List E) : MS F S 0 0 [] := ⟨rfl, by simp, by simp [Up], by simp⟩
theorem up_snoc {M : List E} {e : E} (h : Up (M.map E.t)) (he : ∀ x ∈ M, ord x.t e.t ≤ 0) : Up ((M ++ [e]).map E.t) := by
  rw [List.map_append]
  refine List.pairwise_append.2 ⟨h, by simp, ?_⟩
  intro a ha b hb
  obtain ⟨x, hx, rfl⟩ := List.mem_map.1 ha
  simp at hb; subst hb
  exact he x hx
theorem up_head {F : List E} (h : Up (F.map E.t)) {i : Nat} (hi : i < F.length) (hs : ∀ x ∈ F, sound x.t = true) : ∀ y ∈ F.drop i, ord F[i].t y.t ≤ 0 := by
  intro y hy
  rw [List.drop_eq_getElem_cons hi] at hy
  rcases List.mem_cons.1 hy with q | q
  · subst q; rw [ord_refl _ (hs _ (List.getElem_mem hi))]; omega
  · obtain ⟨j, hj, rfl⟩ := List.mem_iff_getElem.1 q
    simp only [List.length_drop] at hj
    rw [List.getElem_drop]
    have := List.pairwise_iff_getElem.1 h i (i + 1 + j) (by simp; omega) (by simp; omega) (by omega)
    simpa using this
theorem dH {S : List E} {i : Nat} (hi : i < S.length) : S[i] ∈ S.drop i := by rw [List.drop_eq_getElem_cons hi]; exact List.mem_cons_self
theorem dS {S : List E} {i : Nat} {y : E} (hi : i < S.length) (r : y ∈ S.drop (i + 1)) : y ∈ S.drop i := by rw [List.drop_eq_getElem_cons hi]; exact List.mem_cons_of_mem _ r
theorem MS.second {F S M : List E} {i1 i2 : Nat} (h : MS F S i1 i2 M) (hi : i2 < S.length) (hs : ∀ x ∈ S, sound x.t = true) (uS : Up (S.map E.t)) (hF : ∀ y ∈ F.drop i1, ord S[i2].t y.t ≤ 0) : MS F S i1 (i2 + 1) (M ++ [S[i2]]) := by
  have hm : S[i2] ∈ F.drop i1 ++ S.drop i2 := List.mem_append.2 (Or.inr (dH hi))
  refine ⟨by simp [h.ml]; omega, ?_, up_snoc h.up fun x hx => h.le x hx _ hm, ?_⟩
  · rw [List.take_succ_eq_append_getElem hi, ← List.append_assoc]; exact h.pm.append_right _
  · intro x hx y hy
    rcases List.mem_append.1 hx with q | q
    · refine h.le x q y ?_
      rcases List.mem_append.1 hy with r | r
      · exact List.mem_append.2 (Or.inl r)
      · exact List.mem_append.2 (Or.inr (dS hi r))
    · simp at q; subst q
      rcases List.mem_append.1 hy with r | r
      · exact hF y r
      · exact up_head uS hi hs y (dS hi r)
theorem MS.first {F S M : List E} {i1 i2 : Nat} (h : MS F S i1 i2 M) (hi : i1 < F.length) (hs : ∀ x ∈ F, sound x.t = true) (uF : Up (F.map E.t)) (hS : ∀ y ∈ S.drop i2, ord F[i1].t y.t ≤ 0) : MS F S (i1 + 1) i2 (M ++ [F[i1]]) := by
  have hm : F[i1] ∈ F.drop i1 ++ S.drop i2 := List.mem_append.2 (Or.inl (dH hi))
  refine ⟨by simp [h.ml]; omega, ?_, up_snoc h.up fun x hx => h.le x hx _ hm, ?_⟩
  · rw [List.take_succ_eq_append_getElem hi]
    refine (h.pm.append_right _).trans ?_
    rw [List.append_assoc, List.append_assoc]
    exact List.perm_append_comm.append_left _
  · intro x hx y hy
    rcases List.mem_append.1 hx with q | q
    · refine h.le x q y ?_
      rcases List.mem_append.1 hy with r | r
      · exact List.mem_append.2 (Or.inl (dS hi r))
      · exact List.mem_append.2 (Or.inr r)
    · simp at q; subst q
      rcases List.mem_append.1 hy with r | r
      · exact up_head uF hi hs y (dS hi r)
      · exact hS y r
theorem set_mid {A M : List E} {o i : Nat} {e : E} (hm : M.length = i) (h : o + i < A.length) : (A.take o ++ (M ++ A.drop (o + i))).set (o + i) e = A.take o ++ ((M ++ [e]) ++ A.drop (o + (i + 1))) := by
  have hl : (A.take o).length = o := by rw [List.length_take]; omega
  rw [List.set_append_right _ _ (by omega), hl, Nat.add_sub_cancel_left, List.set_append_right _ _ (by omega), hm, Nat.sub_self, List.drop_eq_getElem_cons h]
  simp [List.append_assoc, Nat.add_assoc]
/-- the merge's loop -/
def MRel (W : World) (P Q : Nat) (A B : List E) (sp sq : List Value) (o o1 o2 : Nat) (F S : List E) (g : Nat) (s1 s2 s9 : Value) (wr : World) : Prop :=
  ∃ (i i1 i2 : Nat) (M : List E) (a1 a2 : Option Addr) (c1 c2 : Nat), i = i1 + i2 ∧ i1 ≤ F.length ∧ i2 ≤ S.length ∧ g = F.length + S.length - i ∧ s9 = .int .i64 i ∧ s1 = .slice a1 (F.length - i1 : Nat) c1 ∧ s2 = .slice a2 (S.length - i2 : Nat) c2 ∧
    Win Q (o1 + i1) a1 (F.length - i1) c1 ∧ Win Q (o2 + i2) a2 (S.length - i2) c2 ∧ MS F S i1 i2 M ∧ SO W P Q (A.take o ++ (M ++ A.drop (o + i))) B sp sq wr
theorem win_at {B F : List E} {o i : Nat} (h : F = (B.drop o).take F.length) (hi : i < F.length) : ∃ hb : o + i < B.length, B[o + i] = F[i] := by
  have h1 : F[i]? = B[o + i]? := by
    rw [h, List.getElem?_take, if_pos hi, List.getElem?_drop]
  rw [List.getElem?_eq_getElem hi] at h1
  obtain ⟨hb, he⟩ := List.getElem?_eq_some_iff.1 h1.symm
  exact ⟨hb, he⟩
/-- looking at a term of the other block -/
theorem so_look {W w : World} {P Q : Nat} {A B F : List E} {sp sq : List Value} {o i : Nat} (h : SO W P Q A B sp sq w) (hF : F = (B.drop o).take F.length) (hi : i < F.length) :
    ∃ k n ii re im a l c t, F[i] = ⟨.int .i64 k, .string n, .int .i64 ii, .int .u64 re, .int .u64 im, .slice a l c, t⟩ ∧ Six w Q ((o + i) * 6) (.int .i64 k) (.string n) (.int .i64 ii) (.int .u64 re) (.int .u64 im) (.slice a l c) ∧
      Lies (Nw W) w t (.agg #[.int .i64 k, .string n, .int .i64 ii, .int .u64 re, .int .u64 im, .slice a l c]) := by
  obtain ⟨hb, he⟩ := win_at hF hi
  have h6 := (blk_six h.qa hb).1
  have hl := h.lb _ (List.getElem_mem hb)
  rw [he] at h6 hl
  obtain ⟨x, hx⟩ : ∃ x, x = F[i] := ⟨_, rfl⟩
  rw [← hx] at h6 hl ⊢
  obtain ⟨v0, v1, v2, v3, v4, v5, t⟩ := x
  obtain ⟨k, n, ii, re, im, l, a, c, ⟨rfl, rfl, rfl, rfl, rfl, rfl⟩, _⟩ := lies_form hl
  exact ⟨k, n, ii, re, im, a, l, c, t, rfl, h6, hl⟩
theorem so_place {W w : World} {P Q : Nat} {A B : List E} {sp sq : List Value} {m : Nat} (h : SO W P Q A B sp sq w) (hm : m < A.length) : ∃ t0 t1 t2 t3 t4 t5, Six w P (m * 6) t0 t1 t2 t3 t4 t5 ∧ ∀ o, w.frozen? ⟨P, o, none⟩ = false :=
  ⟨_, _, _, _, _, _, blk_six h.pa hm⟩
/-- behind the question which comes next -/
def MCut (W : World) (P Q : Nat) (A B : List E) (sp sq : List Value) (o : Nat) (F S : List E) (i i1 i2 : Nat) (M : List E) (s10 s29 : Value) (wx : World) : Prop :=
  ∃ b : Bool, s29 = .bool b ∧ SO W P Q (A.take o ++ (M ++ A.drop (o + i))) B sp sq wx ∧ (b = true → ∃ h : i2 < S.length, ∀ y ∈ F.drop i1, ord S[i2].t y.t ≤ 0) ∧ (b = false → ∃ h : i1 < F.length, ∀ y ∈ S.drop i2, ord F[i1].t y.t ≤ 0)
set_option maxRecDepth 100000 in
set_option maxHeartbeats 4000000 in
theorem merge_any {W w : World} {P Q o o1 o2 n c c1 c2 : Nat} {a a1 a2 : Option Addr} {A B F S : List E} {sp sq : List Value} (h : SO W P Q A B sp sq w) (hn : n = F.length + S.length) (h0 : Win P o a n c) (h1 : Win Q o1 a1 F.length c1) (h2 : Win Q o2 a2 S.length c2)
    (hA : o + n ≤ A.length) (hF : F = (B.drop o1).take F.length) (hS : S = (B.drop o2).take S.length) (sF : ∀ x ∈ F, sound x.t = true) (sS : ∀ x ∈ S, sound x.t = true) (uF : Up (F.map E.t)) (uS : Up (S.map E.t)) (hb1 : o1 + F.length ≤ B.length) (hb2 : o2 + S.length ≤ B.length) (hbig : n ≤ 1000000000) :
    Calls Try.prog 63 #[.slice a n c, .slice a1 F.length c1, .slice a2 S.length c2] w fun e w' => e = .returned (.tuple #[]) ∧ ∃ M : List E, M.Perm (F ++ S) ∧ Up (M.map E.t) ∧ SO W P Q (A.take o ++ (M ++ A.drop (o + n))) B sp sq w' := by
  have HH := Lib.hid h
  have HW := Lib.hid (And.intro h0 (And.intro h1 h2))
  have HF := Lib.hid (And.intro hF (And.intro hS (And.intro sF (And.intro sS (And.intro uF uS)))))
  have HN := Lib.hid hn
  clear h h0 h1 h2 hF hS sF sS uF uS hn
  go_enter Try.func63, Try.ntmps63
  go_wp2_with fail
  go_loopg [1, 2, 9] n (MRel W P Q A B sp sq o o1 o2 F S)
  case atStart => exact ⟨0, 0, 0, [], a1, a2, c1, c2, rfl, by omega, by omega, HN.out, rfl, rfl, rfl, HW.out.2.1, HW.out.2.2, MS.nil _ _, by simpa using HH.out⟩
  case round =>
    obtain ⟨i, i1, i2, M, b1, b2, d1, d2, hi, hi1, hi2, rfl, rfl, rfl, rfl, hw1, hw2, hms, hso⟩ := hrel
    have HI0 := Lib.hid (And.intro hi (And.intro hi1 hi2))
    have HS := Lib.hid (And.intro hw1 (And.intro hw2 (And.intro hms hso)))
    clear hw1 hw2 hms hso hi hi1 hi2
    by_cases hlt : i < n
    · go_upto_region 3 with fail
      go_cut [10, 29] from 12 to 28 (MCut W P Q A B sp sq o F S i i1 i2 M)
      case first =>
        by_cases g1 : i1 = F.length
        · have e1 : (((F.length - i1 : Nat) : Int) == 0) = true := by rw [beq_iff_eq]; have := HI0.out; omega
          have G1 := Lib.hid g1
          clear g1
          go_wp2_with fail
          go_quiet (fail)
          go_wp2_with fail
          go_meet
          exact ⟨true, rfl, HS.out.2.2.2.below (below_drewN _ _), fun _ => ⟨by have := HN.out; have := G1.out; have := HI0.out; omega, by have := G1.out; rw [List.drop_of_length_le (by omega)]; simp⟩, (fun q => by cases q)⟩
        · by_cases g2 : i2 = S.length
          · have e2 : decide (((S.length - i2 : Nat) : Int) > 0) = false := by simp; omega
            have e1 : (((F.length - i1 : Nat) : Int) == 0) = false := by rw [beq_eq_false_iff_ne]; have := HI0.out; omega
            have e3 : decide (i2 < S.length) = false := by simp; omega
            have e4 : S.length ≤ i2 := by omega
            have G2 := Lib.hid (And.intro g1 g2)
            clear g1 g2
            go_wp2_with fail
            go_quiet (fail)
            go_wp2_with fail
            go_meet
            exact ⟨false, rfl, HS.out.2.2.2.below (below_drewN _ _), (fun q => by cases q), fun _ => ⟨by have := HN.out; have := G2.out; have := HI0.out; omega, by have := G2.out; rw [List.drop_of_length_le (by omega)]; simp⟩⟩
          · have e1 : (((F.length - i1 : Nat) : Int) == 0) = false := by rw [beq_eq_false_iff_ne]; have := HI0.out; omega
            have e2 : 0 < S.length - i2 := by have := HI0.out; omega
            have e3' : decide (0 < S.length - i2) = true := by simpa using e2
            have hi1' : i1 < F.length := by have := HI0.out; omega
            have hi2' : i2 < S.length := by have := HI0.out; omega
            have x1 := fun w => (HS.out.1.ix (m := 0) (by omega) w)
            have x2 := fun w => (HS.out.2.1.ix (m := 0) (by omega) w)
            simp only [Nat.add_zero, Int.natCast_zero] at x1 x2
            obtain ⟨kq, nq, iq, req, imq, aq, lq, cq, tq, hq, ⟨e0, e1', e2', e3, e4, e5⟩, hlq⟩ := so_look HS.out.2.2.2 HF.out.1 hi1'
            obtain ⟨kp, np, ip, rp, mp, ap, lp, cp, tp, hp, ⟨f0, f1, f2, f3, f4, f5⟩, hlp⟩ := so_look HS.out.2.2.2 HF.out.2.1 hi2'
            have HL := Lib.hid (And.intro hq (And.intro hp (And.intro hlq hlp)))
            have HI := Lib.hid (And.intro hi1' hi2')
            clear hq hp hlq hlp g1 g2
            go_wp2_with fail
            go_still_tail 14, (by kernel_rfl)
            change wpList _ _ _ _ _ wr.drew
            obtain ⟨wd, hwd⟩ : ∃ wd, wd = wr.drew := ⟨_, rfl⟩
            have HD := Lib.hid (show Below wr.heap.size wr wd by rw [hwd]; exact bdr wr)
            rw [← hwd]
            clear hwd e0 e1' e2' e3 e4 e5 f0 f1 f2 f3 f4 f5
            go_wp2_with fail
            refine (compare_any _ _ _ _ _ ((HL.out.2.2.2.below HD.out).off fun _ _ h => h.elim) ((HL.out.2.2.1.below HD.out).off fun _ _ h => h.elim) (by have := HF.out.2.2.2.1 _ (List.getElem_mem HI.out.2); rw [HL.out.2.1] at this; exact this) (by have := HF.out.2.2.1 _ (List.getElem_mem HI.out.1); rw [HL.out.1] at this; exact this)).mono ?_
            rintro e w4 ⟨rfl, hb4⟩
            have HB4 := Lib.hid (bt HD.out hb4)
            clear hb4
            go_wp2_with fail
            go_meet
            refine ⟨_, rfl, HS.out.2.2.2.below HB4.out, fun q => ⟨HI.out.2, fun y hy => ?_⟩, fun q => ⟨HI.out.1, fun y hy => ?_⟩⟩
            · have q' : ord tp tq < 0 := by simpa using q
              have s1 : F[i1].t = tq := by rw [HL.out.1]
              have s2 : S[i2].t = tp := by rw [HL.out.2.1]
              have h1 := up_head HF.out.2.2.2.2.1 HI.out.1 HF.out.2.2.1 y hy
              have sy := HF.out.2.2.1 y (List.mem_of_mem_drop hy)
              have sp1 := HF.out.2.2.1 _ (List.getElem_mem HI.out.1)
              have sp2 := HF.out.2.2.2.1 _ (List.getElem_mem HI.out.2)
              exact ord_trans _ _ _ sp2 sp1 sy (by rw [s1, s2]; omega) h1
            · have q' : ¬ ord tp tq < 0 := by simpa using q
              have s1 : F[i1].t = tq := by rw [HL.out.1]
              have s2 : S[i2].t = tp := by rw [HL.out.2.1]
              have h1 := up_head HF.out.2.2.2.2.2 HI.out.2 HF.out.2.2.2.1 y hy
              have sy := HF.out.2.2.2.1 y (List.mem_of_mem_drop hy)
              have sp1 := HF.out.2.2.1 _ (List.getElem_mem HI.out.1)
              have sp2 := HF.out.2.2.2.1 _ (List.getElem_mem HI.out.2)
              exact ord_trans _ _ _ sp1 sp2 sy (by rw [s1, s2, ord_neg tp]; omega) h1
      case rest =>
        obtain ⟨b, rfl, hso, hT, hFf⟩ := hcut
        cases b
        · have HI := Lib.hid (hFf rfl)
          obtain ⟨hii, hle⟩ := hFf rfl
          obtain ⟨kp, np, ip, rp, mp, ap, lp, cp, tp, hp, ⟨f0, f1, f2, f3, f4, f5⟩, hlp⟩ := so_look hso HF.out.1 hii
          have x1 := fun w => (HS.out.1.ix (m := 0) (by omega) w)
          simp only [Nat.add_zero, Int.natCast_zero] at x1
          obtain ⟨a', ha', y1', y2'⟩ := HS.out.1.lo (k := 1) (by omega)
          have y1 := fun w => (show (Instr.slice 23 (.slice b1 (F.length - i1 : Nat) d1) (some (.int .i64 1)) none none).run Try.prog w = _ from y1' w)
          have y2 := fun w => (show (Instr.sliceAt 23 (.slice b1 (F.length - i1 : Nat) d1) (some (.int .i64 1)) none none).run Try.prog w = _ from y2' w)
          clear y1' y2'
          have z1 := fun w => (HW.out.1.ix (m := i) hlt w)
          have hAl : o + i < (A.take o ++ (M ++ A.drop (o + i))).length := by have := HI0.out; have := HS.out.2.2.1.ml; simp only [List.length_append, List.length_take, List.length_drop]; omega
          obtain ⟨t0, t1, t2, t3, t4, t5, ⟨p0, p1, p2, p3, p4, p5⟩, pf⟩ := so_place hso hAl
          have g0 := pf ((o + i) * 6)
          have g1 := pf ((o + i) * 6 + 1)
          have g2 := pf ((o + i) * 6 + 2)
          have g3 := pf ((o + i) * 6 + 3)
          have g4 := pf ((o + i) * 6 + 4)
          have g5 := pf ((o + i) * 6 + 5)
          have HQ := Lib.hid (And.intro hp (And.intro hlp (And.intro hso hAl)))
          have HA := Lib.hid ha'
          have HMS := Lib.hid (MS.first HS.out.2.2.1 hii HF.out.2.2.1 HF.out.2.2.2.2.1 hle)
          clear hp hlp hso hT hFf ha' pf hle hAl
          go_wp2_with fail
          go_region
          go_wp2_with fail
          go_roundg (F.length + S.length - (i + 1))
          case measure => have := HI0.out; have := HN.out; omega
          case rel =>
            have hset := HQ.out.2.2.1.set HQ.out.2.2.2 F[i1] (by rw [HQ.out.1]; exact HQ.out.2.1)
            rw [set_mid (by have := HI0.out; have := HS.out.2.2.1.ml; omega) (by have := HI0.out; omega)] at hset
            simp only [HQ.out.1] at hset
            have hi' := HI0.out
            exact ⟨i + 1, i1 + 1, i2, M ++ [F[i1]], a', b2, d1 - 1, d2, by omega, by omega, by omega, rfl, by go_num, by rw [show F.length - (i1 + 1) = F.length - i1 - 1 by omega], rfl, by have := HA.out; rwa [Nat.add_assoc, Nat.sub_sub] at this, HS.out.2.1, HMS.out, by have := hset.below (bdr _); rw [HQ.out.1]; exact this⟩
        · have HI := Lib.hid (hT rfl)
          obtain ⟨hii, hle⟩ := hT rfl
          obtain ⟨kp, np, ip, rp, mp, ap, lp, cp, tp, hp, ⟨f0, f1, f2, f3, f4, f5⟩, hlp⟩ := so_look hso HF.out.2.1 hii
          have x1 := fun w => (HS.out.2.1.ix (m := 0) (by omega) w)
          simp only [Nat.add_zero, Int.natCast_zero] at x1
          obtain ⟨a', ha', y1', y2'⟩ := HS.out.2.1.lo (k := 1) (by omega)
          have y1 := fun w => (show (Instr.slice 23 (.slice b2 (S.length - i2 : Nat) d2) (some (.int .i64 1)) none none).run Try.prog w = _ from y1' w)
          have y2 := fun w => (show (Instr.sliceAt 23 (.slice b2 (S.length - i2 : Nat) d2) (some (.int .i64 1)) none none).run Try.prog w = _ from y2' w)
          clear y1' y2'
          have z1 := fun w => (HW.out.1.ix (m := i) hlt w)
          have hAl : o + i < (A.take o ++ (M ++ A.drop (o + i))).length := by have := HI0.out; have := HS.out.2.2.1.ml; simp only [List.length_append, List.length_take, List.length_drop]; omega
          obtain ⟨t0, t1, t2, t3, t4, t5, ⟨p0, p1, p2, p3, p4, p5⟩, pf⟩ := so_place hso hAl
          have g0 := pf ((o + i) * 6)
          have g1 := pf ((o + i) * 6 + 1)
          have g2 := pf ((o + i) * 6 + 2)
          have g3 := pf ((o + i) * 6 + 3)
          have g4 := pf ((o + i) * 6 + 4)
          have g5 := pf ((o + i) * 6 + 5)
          have HQ := Lib.hid (And.intro hp (And.intro hlp (And.intro hso hAl)))
          have HA := Lib.hid ha'
          have HMS := Lib.hid (MS.second HS.out.2.2.1 hii HF.out.2.2.2.1 HF.out.2.2.2.2.2 hle)
          clear hp hlp hso hT hFf ha' pf hle hAl
          go_wp2_with fail
          go_region
          go_wp2_with fail
          go_roundg (F.length + S.length - (i + 1))
          case measure => have := HI0.out; have := HN.out; omega
          case rel =>
            have hset := HQ.out.2.2.1.set HQ.out.2.2.2 S[i2] (by rw [HQ.out.1]; exact HQ.out.2.1)
            rw [set_mid (by have := HI0.out; have := HS.out.2.2.1.ml; omega) (by have := HI0.out; omega)] at hset
            simp only [HQ.out.1] at hset
            have hi' := HI0.out
            exact ⟨i + 1, i1, i2 + 1, M ++ [S[i2]], b1, a', d1, d2 - 1, by omega, by omega, by omega, rfl, by go_num, rfl, by rw [show S.length - (i2 + 1) = S.length - i2 - 1 by omega], HS.out.1, by have := HA.out; rwa [Nat.add_assoc, Nat.sub_sub] at this, HMS.out, by have := hset.below (bdr _); rw [HQ.out.1]; exact this⟩
    · have hin : i = n := by have := HI0.out; have := HN.out; omega
      have HD := Lib.hid hin
      go_wp2_with fail
      go_end0
      refine ⟨rfl, M, ?_, HS.out.2.2.1.up, ?_⟩
      · have h := HI0.out; have hn := HN.out; have hd := HD.out
        have e1 : i1 = F.length := by omega
        have e2 : i2 = S.length := by omega
        have := HS.out.2.2.1.pm
        rwa [e1, e2, List.take_length, List.take_length] at this
      · have := HS.out.2.2.2; rwa [HD.out] at this
end Go.Proofs.Ytgkcbiabkpcblaa.odf
