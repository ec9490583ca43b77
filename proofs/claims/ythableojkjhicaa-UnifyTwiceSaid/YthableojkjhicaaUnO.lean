/- Does a variable stand in a laid term; what comes of making both one. The mathematics of UnifyOccurs. -/
import Derived.Test.YthableojkjhicaaUnL
import Derived.Test.YthableojkjhicaaUnM
namespace Go.Proofs.Ythableojkjhicaa.un
open Go.ChangeShapes Go.WideShapes Go.ChangeAt Go.RowKit
open Go.Proofs.Ythableojkjhicaa.hp Go.Proofs.Ythableojkjhicaa.cel Go.Proofs.Ythableojkjhicaa.kp Go.Proofs.Ythableojkjhicaa.tm Go.Proofs.Ythableojkjhicaa.pm Go.Proofs.Ythableojkjhicaa.sl Go.Proofs.Ythableojkjhicaa.ren
open Go.Proofs.Ythableojkjhicaa.rpt (putT)
open Go.Proofs.Ythableojkjhicaa.atm (nv ne nx l0)
open Go.Proofs.Ythableojkjhicaa.pgt (getT)
set_option linter.unusedVariables false
theorem kids_cat (l : List Int) (q n : Nat) (td : List Int) (v : Int) (k : Nat) : contW l v k (kids l (q : Int) (n + 1) ++ td) = occW l v k (l.getD q 0) (kids l ((q + 1 : Nat) : Int) n ++ td) := by
  rw [kids, List.cons_append, contW, gvD]; rfl
theorem look_one {s : S} (hv : Vs NN s) {i j c : Int} (hi : pm.look s.v i = some c) (hj : pm.look s.v j = some c) : i = j :=
  pl_inj hv (A := fun x => x = i ∨ x = j) (fun x hx => by rcases hx with rfl | rfl; exact ⟨_, hi⟩; exact ⟨_, hj⟩) _ _ (Or.inl rfl) (Or.inr rfl) (by unfold pm.pl; rw [hi, hj])
theorem nd_5 {s : S} {n : ByteArray} {i re im : Int} {l : List Tm} {p j : Nat} (hg : sound (.mk 5 n i re im l) = true) (hl : s.h.length ≤ 1048576) (hp : p + l.length < s.h.length) (hj : j < 4096) (hf : s.h.getD p 0 = jn 6 ((j : Int) * 256 + l.length)) :
    nd s.h (jn 1 (p : Int)) = ⟨5, jn 6 ((j : Int) * 256 + l.length), 0, (p : Int) + 1, (l.length : Int), true⟩ := by
  have hlen := comp_len hg
  obtain ⟨e1, e2⟩ := jn_at (t := 1) (by omega) (by omega) p (by omega)
  obtain ⟨f1, f2⟩ := jn6 hj hlen.1 hlen.2
  unfold nd
  rw [if_neg (by omega), if_pos e1, e2]
  unfold cn
  rw [gvD, hf, f1, f2, if_pos (show fo (j : Int) (l.length : Int) = true from decide_eq_true ⟨by omega, by omega, by omega, by omega⟩), show (p : Int) + (l.length : Int) = ((p + l.length : Nat) : Int) by omega, gbD hp]
theorem var_isV {s : S} (hv : Vs NN s) {i c : Int} (h : pm.look s.v i = some c) : isV s.h c = true ∧ ∃ p : Nat, c = (p : Int) * 8 ∧ p < s.h.length := by
  obtain ⟨p, e, _, hp, hc⟩ := hv.cell i c h
  refine ⟨?_, p, e, hp⟩
  unfold isV
  have e2 : c / 8 = (p : Int) := by omega
  rw [decide_eq_true (show c % 8 = 0 by omega), e2, gbD hp, gvD, hc]; simp
theorem occ_rep {s : S} (hv : Vs NN s) (hl : s.h.length ≤ 1048576) {i c0 : Int} (hi : pm.look s.v i = some c0) (T : Tm) : ∀ (c : Int) (k : Nat) (td : List Int), Rep NN s T c → sound T = true → tm.size T ≤ k →
    (i ∈ occ T → ∃ k', occW s.h c0 k c td = (true, 0, k')) ∧ (i ∉ occ T → occW s.h c0 k c td = contW s.h c0 (k - tm.size T) td) := by
  obtain ⟨_, p0, hc0, hp0⟩ := var_isV hv hi
  induction T using Tm.ind with
  | h k n j re im l ih =>
    intro c f td hr hs hf
    have hdr := rep_dr hv hr s.h.length
    have h1 : 1 ≤ tm.size (.mk k n j re im l) := tm.size_pos _
    obtain ⟨f, rfl⟩ : ∃ f', f = f' + 1 := ⟨f - 1, by omega⟩
    rw [occ_succ, hdr]
    by_cases k1 : k = 1
    · subst k1
      have ho : occ (.mk 1 n j re im l) = [j] := by simp [occ]
      have hz : tm.size (.mk 1 n j re im l) = 1 := by simp [tm.size]
      rw [ho, hz]
      rw [Rep, if_neg (by decide), if_neg (by decide), if_neg (by decide), if_pos rfl] at hr
      obtain ⟨hV, p, hcp, _⟩ := var_isV hv hr
      have hnd : nd s.h c = ⟨1, 0, 0, 0, 0, true⟩ := by unfold nd; rw [if_pos (by omega), hV]
      refine ⟨fun h => ?_, fun h => ?_⟩
      · have : i = j := by simpa using h
        subst this
        rw [hi] at hr; injection hr with hr
        rw [if_pos hr.symm]; exact ⟨f, rfl⟩
      · rw [if_neg (fun e => h (by rw [e] at hr; simp [look_one hv hi hr])), hnd]
        simp
    · obtain ⟨hc8, hok, hk, _⟩ := rep_hd hr hs k1 hl
      have hne : ¬ c = c0 := fun e => hc8 (by rw [e, hc0]; omega)
      rw [if_neg hne, if_neg (by rw [hok]; simp)]
      by_cases k5 : k = 5
      · subst k5
        have ho : occ (.mk 5 n j re im l) = occL l := by simp [occ]
        have hz : tm.size (.mk 5 n j re im l) = 1 + sizeL l := by simp [tm.size]
        rw [ho, hz]
        rw [hz] at hf
        rw [Rep, if_neg (by decide), if_neg (by decide), if_neg (by decide), if_neg (by decide)] at hr
        obtain ⟨p, jj, rfl, _, hp, hjj, hfc, _, hL⟩ := hr
        rw [nd_5 hs hl hp hjj hfc, if_pos rfl]
        dsimp only
        rw [show ((p : Int) + 1) = ((p + 1 : Nat) : Int) by omega, show ((l.length : Int)).toNat = l.length by omega]
        have key : ∀ (l : List Tm), (∀ x ∈ l, ∀ (c : Int) (k : Nat) (td : List Int), Rep NN s x c → sound x = true → tm.size x ≤ k → (i ∈ occ x → ∃ k', occW s.h c0 k c td = (true, 0, k')) ∧ (i ∉ occ x → occW s.h c0 k c td = contW s.h c0 (k - tm.size x) td)) →
            (∀ x ∈ l, sound x = true) → ∀ (q k : Nat) (td : List Int), RepL NN s l q → sizeL l ≤ k → (i ∈ occL l → ∃ k', contW s.h c0 k (kids s.h (q : Int) l.length ++ td) = (true, 0, k')) ∧ (i ∉ occL l → contW s.h c0 k (kids s.h (q : Int) l.length ++ td) = contW s.h c0 (k - sizeL l) td) := by
          intro l
          induction l with
          | nil => intro _ _ q k td _ _; exact ⟨fun h => by simp [occL] at h, fun _ => by simp [kids, sizeL]⟩
          | cons t r ihr =>
            intro hx hss q k td hq hk
            rw [RepL] at hq
            simp only [sizeL] at hk
            have ht := hx t (by simp) (s.h.getD q 0) k (kids s.h ((q + 1 : Nat) : Int) r.length ++ td) hq.2.2.1 (hss t (by simp)) (by omega)
            rw [List.length_cons, kids_cat]
            refine ⟨fun h => ?_, fun h => ?_⟩
            · by_cases hm : i ∈ occ t
              · exact ht.1 hm
              · rw [ht.2 hm]
                exact (ihr (fun x hx' => hx x (by simp [hx'])) (fun x hx' => hss x (by simp [hx'])) (q + 1) (k - tm.size t) td hq.2.2.2 (by omega)).1 (by rw [occL, List.mem_append] at h; exact h.resolve_left hm)
            · rw [occL, List.mem_append] at h
              rw [ht.2 (fun hm => h (Or.inl hm)), (ihr (fun x hx' => hx x (by simp [hx'])) (fun x hx' => hss x (by simp [hx'])) (q + 1) (k - tm.size t) td hq.2.2.2 (by omega)).2 (fun hm => h (Or.inr hm))]
              rw [sizeL, Nat.sub_sub]
        have := key l ih (sound_args hs rfl) (p + 1) f td hL (by omega)
        rw [show f + 1 - (1 + sizeL l) = f - sizeL l by omega]
        exact this
      · have ho : occ (.mk k n j re im l) = [] := by simp [occ, k1, k5]
        have hz : tm.size (.mk k n j re im l) = 1 := by simp [tm.size, k5]
        rw [ho, hz, hk, if_neg k5]
        exact ⟨fun h => by simp at h, fun _ => by simp⟩
/-! ### a variable that stands nowhere makes no difference -/
theorem look_skip {v : List (Int × Int)} {i c j : Int} (h : j ≠ i) : pm.look ((i, c) :: v) j = pm.look v j := by
  unfold pm.look
  rw [List.find?_cons, decide_eq_false (show ¬ i = j from fun e => h e.symm)]
theorem put_irr (m : Int) (i c0 : Int) (t : Tm) : ∀ (own : Int) (h : List Int) (a : List ByteArray) (v : List (Int × Int)), i ∉ occ t → sound t = true →
    put m t own ⟨h, a, (i, c0) :: v⟩ = ((put m t own ⟨h, a, v⟩).1, (put m t own ⟨h, a, v⟩).2.1, ⟨(put m t own ⟨h, a, v⟩).2.2.h, (put m t own ⟨h, a, v⟩).2.2.a, (i, c0) :: (put m t own ⟨h, a, v⟩).2.2.v⟩) := by
  induction t using Tm.ind with
  | h k n j re im l ih =>
    intro own h a v ho hs
    rw [put, put]
    by_cases k2 : k = 2
    · rw [if_pos k2, if_pos k2]; dsimp only; split <;> rfl
    rw [if_neg k2, if_neg k2]
    by_cases k3 : k = 3
    · rw [if_pos k3, if_pos k3]; dsimp only
      split
      · rfl
      · split <;> rfl
    rw [if_neg k3, if_neg k3]
    by_cases k4 : k = 4
    · rw [if_pos k4, if_pos k4]; dsimp only
      split
      · split <;> rfl
      · rfl
    rw [if_neg k4, if_neg k4]
    by_cases k1 : k = 1
    · subst k1
      rw [if_pos rfl, if_pos rfl]
      have hji : j ≠ i := fun e => ho (by simp [occ, e])
      dsimp only
      rw [look_skip hji]
      cases pm.look v j with
      | some c => rfl
      | none =>
        dsimp only
        split
        · split <;> rfl
        · rfl
    rw [if_neg k1, if_neg k1]
    dsimp only
    have k5 : k = 5 := by rcases chkk (sound_chk hs) with h | ⟨h, _⟩ | h | h | ⟨h, _⟩ <;> first | exact h | (exfalso; omega)
    subst k5
    have hoL : i ∉ occL l := fun h => ho (by simpa [occ] using h)
    have key : ∀ (l : List Tm), (∀ x ∈ l, ∀ (own : Int) (h : List Int) (a : List ByteArray) (v : List (Int × Int)), i ∉ occ x → sound x = true → put m x own ⟨h, a, (i, c0) :: v⟩ = ((put m x own ⟨h, a, v⟩).1, (put m x own ⟨h, a, v⟩).2.1, ⟨(put m x own ⟨h, a, v⟩).2.2.h, (put m x own ⟨h, a, v⟩).2.2.a, (i, c0) :: (put m x own ⟨h, a, v⟩).2.2.v⟩)) →
        i ∉ occL l → (∀ x ∈ l, sound x = true) → ∀ (p : Nat) (h : List Int) (a : List ByteArray) (v : List (Int × Int)), putL m l p ⟨h, a, (i, c0) :: v⟩ = ((putL m l p ⟨h, a, v⟩).1, ⟨(putL m l p ⟨h, a, v⟩).2.h, (putL m l p ⟨h, a, v⟩).2.a, (i, c0) :: (putL m l p ⟨h, a, v⟩).2.v⟩) := by
      intro l
      induction l with
      | nil => intro _ _ _ p h a v; rw [putL, putL]
      | cons t r ihr =>
        intro hx hoo hss p h a v
        rw [occL, List.mem_append] at hoo
        rw [putL, putL, hx t (by simp) p h a v (fun h => hoo (Or.inl h)) (hss t (by simp))]
        generalize put m t p ⟨h, a, v⟩ = P
        obtain ⟨c, e, s1⟩ := P
        dsimp only
        split
        · exact ihr (fun x hx' => hx x (by simp [hx'])) (fun h => hoo (Or.inr h)) (fun x hx' => hss x (by simp [hx'])) (p + 1) _ _ _
        · rfl
    split
    · split
      · generalize more m l.length (h ++ [jn 6 (nv a n * 256 + l.length)]) = eh
        obtain ⟨e, h1⟩ := eh
        dsimp only
        split
        · rw [key l ih hoL (sound_args hs rfl)]
          generalize putL m l (h.length + 1) ⟨h1, nx a n, v⟩ = Q
          obtain ⟨e2, s2⟩ := Q
          dsimp only
          split <;> rfl
        · rfl
      · rfl
    · rfl
/-! ### made one -/
structure OccR (i : Int) (T : Tm) (s : S) (y : Int) : Prop where
  occ : occT s.h 0 y = (decide (i ∈ occ T), 0)
  e : (uniT s.h [] 0 y).e = 0
  is : (uniT s.h [] 0 y).is = decide (i ∉ tm.occ T ∨ T.kind = 1)
  got : ∃ g, getT (uL (uniT s.h [] 0 y) s.h) s.a [] y = (rn T, g) ∧ g.e = 0
  wy : W64 y
  sml : Sml s.a
  al : s.a.length ≤ 4096
  hl : (uL (uniT s.h [] 0 y) s.h).length ≤ 20000
theorem good_var {i : Int} (h : 0 ≤ i) : good (var i) = true := by simp [good, var, tm.size, tm.height, sound, chk, h]
theorem put_var {i : Int} (h : 0 ≤ i) : putT 20000 (var i) ⟨[], l0, []⟩ = (0, 0, ⟨[0], l0, [(i, 0)]⟩) := by
  unfold rpt.putT
  rw [if_pos ((may_iff (var i)).2 (good_var h))]
  unfold var
  rw [put, if_neg (by decide), if_neg (by decide), if_neg (by decide), if_pos rfl]
  rfl
set_option maxRecDepth 100000 in
theorem occurs_all {i : Int} (hp0 : 0 ≤ i) {T : Tm} (hg : good T = true) (hi9 : ints T) (hz : tm.size T ≤ 200) : ∃ y s, putT 20000 T ⟨[0], l0, [(i, 0)]⟩ = (y, 0, s) ∧ OccR i T s y := by
  have hl0 : l0.length = 2 := rfl
  have h0 : may T = 0 := (may_iff T).2 hg
  have hsd := good_sound hg
  have h3 := nd_size T
  obtain ⟨c1, s1, e1, l1, _, _, _, _, m1⟩ := put_laid_m (T := var i) 20000 ⟨[], l0, []⟩ (good_var hp0) (Vs.none _ _) (by simp [var, tm.size]) (by decide) (by simp [var, tm.size, hl0])
  rw [put_var hp0] at e1
  injection e1 with e1 e2
  injection e2 with _ e2
  subst e1 e2
  obtain ⟨y, s, e2, lT, x2, _, h2, a2, m2⟩ := put_laid_m 20000 ⟨[0], l0, [(i, 0)]⟩ hg l1.vs (by simp; omega) (by decide) (by simp [hl0]; omega)
  refine ⟨y, s, e2, ?_⟩
  have hhl : s.h.length ≤ 1000 := by simp at h2; omega
  have hal : s.a.length ≤ 4096 := by simp [hl0] at a2; omega
  have hsm : Sml s.a := m2 (m1 (by intro x hx; simp [l0] at hx; rcases hx with rfl | rfl <;> decide))
  have hii : pm.look s.v i = some 0 := by
    obtain ⟨b, hb⟩ := x2.v
    rw [hb]; exact look_add (v := [(i, 0)]) (by simp [pm.look])
  obtain ⟨hV0, _⟩ := var_isV lT.vs hii
  have d0 : dr s.h s.h.length 0 = 0 := dr_off (v_off hV0) _
  have dy : dr s.h s.h.length y = y := rep_dr lT.vs lT.rep _
  have hoc := fun k hk => occ_rep lT.vs (by omega) hii T y k [] lT.rep hsd hk
  have n0' : nd s.h 0 = ⟨1, 0, 0, 0, 0, true⟩ := by unfold nd; rw [if_pos (by decide), hV0]
  have hoccT : occT s.h 0 y = (decide (i ∈ occ T), 0) := by
    unfold occT
    rw [d0, if_pos hV0]
    by_cases hm : i ∈ occ T
    · obtain ⟨k', hk⟩ := (hoc 100000 (by omega)).1 hm
      rw [hk, decide_eq_true hm]
    · rw [(hoc 100000 (by omega)).2 hm, decide_eq_false hm]; rfl
  have wy := rep_w lT (by omega)
  by_cases k1 : T.kind = 1
  · -- a variable
    obtain ⟨k, n, j, re, im, l⟩ := T
    simp only [Tm.kind] at k1
    subst k1
    have hr := lT.rep
    rw [Rep, if_neg (by decide), if_neg (by decide), if_neg (by decide), if_pos rfl] at hr
    obtain ⟨hVy, _⟩ := var_isV lT.vs hr
    have ny : (nd s.h y).ok = true := by
      obtain ⟨hy8, _⟩ := isV_gb hVy
      unfold nd; rw [if_pos hy8]; exact hVy
    have hU : uniT s.h [] 0 y = ⟨true, 0, bl s.h 0 y, bL s.h [] 0 y, 99999⟩ := by
      unfold uniT
      rw [uni_step, d0, dy]
      unfold stepU
      rw [if_neg (by rw [n0', ny]; simp), if_pos (Or.inl (by rw [n0']))]
      unfold bdW bdY
      rw [if_pos hV0, if_pos hVy]
      rfl
    refine ⟨hoccT, by rw [hU], by rw [hU]; simp [Tm.kind], ?_, wy, hsm, hal, ?_⟩
    · rw [hU]
      show ∃ g, getT (bl s.h 0 y) s.a [] y = _ ∧ _
      by_cases hy0 : y = 0
      · have hb : bl s.h 0 y = s.h := by unfold bl bw; rw [if_pos hV0, if_pos hy0.symm]
        rw [hb]
        exact getT_rn lT hg hi9 (by omega) hal
      · have hji : j ≠ i := fun e => hy0 (by rw [e, hii] at hr; injection hr with hr; exact hr.symm)
        have hp2 : putT 20000 (.mk 1 n j re im l) ⟨[0], l0, [(i, 0)]⟩ = (8, 0, ⟨[0, 8], l0, [(i, 0), (j, 8)]⟩) := by
          unfold rpt.putT
          rw [if_pos h0, put, if_neg (by decide), if_neg (by decide), if_neg (by decide), if_pos rfl]
          dsimp only
          rw [look_skip hji, show pm.look [] j = none from rfl]
          rfl
        rw [hp2] at e2
        injection e2 with e2 e3
        injection e3 with _ e3
        subst e2 e3
        have hrn : rn (.mk 1 n j re im l) = var 0 := by
          have hv1 : vars (.mk 1 n j re im l) = [j] := by unfold vars; rw [if_pos hg]; simp [tm.occ, addv]
          unfold rn
          rw [hv1]
          simp [sub, ix0]
        rw [hrn]
        exact ⟨_, rfl, rfl⟩
    · rw [hU]
      show (bl s.h 0 y).length ≤ _
      rw [bl_len]; omega
  · have hy8 : y % 8 ≠ 0 ∧ (nd s.h y).ok = true := by
      obtain ⟨k, n, j, re, im, l⟩ := T
      obtain ⟨g1, g2, _⟩ := rep_hd lT.rep hsd k1 (by omega)
      exact ⟨g1, g2⟩
    have hVy : ¬ isV s.h y = true := fun h => hy8.1 (isV_gb h).1
    have hU : uniT s.h [] 0 y = (match (St.go (bdW s.h [] 99999 0 y).k (bdW s.h [] 99999 0 y).l (bdW s.h [] 99999 0 y).L [] : St), (St.fin ⟨false, (bdW s.h [] 99999 0 y).e, s.h, [], (bdW s.h [] 99999 0 y).k⟩ : St) with
        | a, b => if (bdW s.h [] 99999 0 y).is = true then ⟨true, 0, (bdW s.h [] 99999 0 y).l, (bdW s.h [] 99999 0 y).L, (bdW s.h [] 99999 0 y).k⟩ else ⟨false, (bdW s.h [] 99999 0 y).e, s.h, [], (bdW s.h [] 99999 0 y).k⟩) := by
      unfold uniT
      rw [uni_step, d0, dy]
      unfold stepU
      rw [if_neg (by rw [n0', hy8.2]; simp), if_pos (Or.inl (by rw [n0']))]
      by_cases hb : (bdW s.h [] 99999 0 y).is = true
      · rw [if_pos hb]; dsimp only; rw [if_pos hb]; rfl
      · rw [if_neg hb]; dsimp only; rw [if_neg hb]
    by_cases hm : i ∈ occ T
    · obtain ⟨k', hk⟩ := (hoc 99999 (by omega)).1 hm
      have hB : bdW s.h [] 99999 0 y = ⟨false, 0, s.h, [], k'⟩ := by
        unfold bdW bdY
        rw [if_pos hV0, if_neg hVy, hk, if_pos (Or.inl rfl)]
      rw [hB] at hU
      dsimp only at hU
      rw [if_neg (by decide)] at hU
      refine ⟨hoccT, by rw [hU], by rw [hU]; simp [hm, k1], ?_, wy, hsm, hal, ?_⟩
      · rw [hU]
        exact getT_rn lT hg hi9 (by omega) hal
      · rw [hU]; show s.h.length ≤ _; omega
    · have hk := (hoc 99999 (by omega)).2 hm
      have hB : bdW s.h [] 99999 0 y = ⟨true, 0, bl s.h 0 y, bL s.h [] 0 y, 99999 - tm.size T⟩ := by
        unfold bdW bdY
        rw [if_pos hV0, if_neg hVy, hk]
        unfold contW
        rw [if_neg (by simp)]
      rw [hB] at hU
      dsimp only at hU
      rw [if_pos rfl] at hU
      have hbl : bl s.h 0 y = s.h.set 0 y := by
        unfold bl bw
        rw [if_pos hV0, if_neg (fun e => by rw [← e] at hy8; exact hy8.1 (by decide)), if_neg (fun h => hVy h.1)]
        show sx s.h (0 / 8) y = _
        rw [sx_set hV0]; rfl
      -- laid without the variable
      have hpi := put_irr 20000 i 0 T (-1) [0] l0 [] hm hsd
      obtain ⟨y', u, eu, ok⟩ := put_ok 20000 T (-1) ⟨[0], l0, []⟩ (fun q => q = 0) hsd ⟨fun i c e => (by rw [show pm.look (S.v ⟨[0], l0, []⟩) i = Option.none from rfl] at e; cases e), by simp [keys], by simp⟩ (fun q h => by simp [h]) (Or.inl (by decide)) (by simp; omega) (by simp [hl0]; omega)
      rw [eu] at hpi
      dsimp only at hpi
      have e2' : put 20000 T (-1) ⟨[0], l0, [(i, 0)]⟩ = (y, 0, s) := by unfold rpt.putT at e2; rw [if_pos h0] at e2; exact e2
      rw [hpi] at e2'
      injection e2' with q1 q2
      injection q2 with _ q2
      subst q1
      obtain ⟨hvu, hru⟩ : Vs (fun q => q = 0) u ∧ Rep (fun q => q = 0) u T y' := by
        rcases ok.rep with ⟨p, _, hp, _⟩ | h
        · omega
        · exact h
      have hx : Ext (fun q => q = 0) u ⟨u.h.set 0 y', u.a, u.v⟩ := ⟨⟨by simp, fun q hq ho => by rw [List.getD_eq_getElem?_getD, List.getElem?_set_ne (fun e => ho e.symm), ← List.getD_eq_getElem?_getD]⟩, ⟨[], by simp⟩, ⟨[], by simp⟩⟩
      have lN : Laid ⟨u.h.set 0 y', u.a, u.v⟩ T y' := ⟨(hvu.ext hx rfl).less fun _ h => h.elim, Rep.less (fun _ h => h.elim) _ _ (Rep.ext hx _ _ hru)⟩
      have hsu : s.h = u.h ∧ s.a = u.a := by rw [← q2]; exact ⟨rfl, rfl⟩
      refine ⟨hoccT, by rw [hU], by rw [hU]; simp [hm], ?_, wy, hsm, hal, ?_⟩
      · rw [hU]
        show ∃ g, getT (bl s.h 0 y') s.a [] y' = _ ∧ _
        rw [hbl, hsu.1, hsu.2]
        exact getT_rn lN hg hi9 (by show (u.h.set 0 y').length ≤ _; rw [List.length_set, ← hsu.1]; omega) (by show u.a.length ≤ _; rw [← hsu.2]; exact hal)
      · rw [hU]
        show (bl s.h 0 y').length ≤ _
        rw [bl_len]; omega
end Go.Proofs.Ythableojkjhicaa.un
