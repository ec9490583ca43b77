/- Package unify's bind: a variable and what stands on the other side. -/
import Derived.Test.YthableojkjhicaaUnE
namespace Go.Proofs.Ythableojkjhicaa.un
open Go.ChangeShapes Go.WideShapes Go.ChangeAt Go.RowKit Go.Maps
open Go.Proofs.Ythableojkjhicaa.kp Go.Proofs.Ythableojkjhicaa.cel Go.Proofs.Ythableojkjhicaa.hp Go.Proofs.Ythableojkjhicaa.ob
set_option linter.unusedVariables false
section
variable {w w' : World} {p q b k : Nat} {N : Nat → Prop} {l : List Int} {m : Int} {L : List Wr}
set_option maxHeartbeats 1000000 in
theorem ubd_vv (h : HW p q b l m L k w N) (hk : k ≤ 100000) (hL : L.length < 1099511627776) (x y : Int) (hx : W64 x) (hy : W64 y) (ox : ¬ on l x) (oy : ¬ on l y) (vx : isV l x = true) (vy : isV l y = true) :
    Calls Try.prog 88 #[.pointer (some ⟨b, 0, none⟩), .pointer (some ⟨q, 0, none⟩), .int .u64 x, .int .u64 y] w fun e w' => e = .returned (.tuple #[.bool (bdW l L k x y).is, .int .i64 (bdW l L k x y).e]) ∧ Nx (HW p q b (bdW l L k x y).l m (bdW l L k x y).L (bdW l L k x y).k) w N w' := by
  obtain ⟨K, hs, hb, hKb, lift⟩ := HW_lift (k' := 0) (l' := []) (L' := []) (w1 := w) (w2 := w) h
  have dx := dr_off ox l.length
  have dy := dr_off oy l.length
  obtain ⟨⟨F, G, hpp, ht, hd, hKF⟩, hg⟩ := id hs
  have hFb : ¬ F b := fun hf => hKb ((hKF b).2 (Or.inl hf))
  have hvx := uvar_any hpp x hx
  have hvy := uvar_any hpp y hy
  obtain ⟨c0, c1, f0, f1⟩ := walker hb
  have hbd := ubind_any hs hL x y hx hy
  rw [dx, dy, vx] at hbd
  rw [vx] at hvx
  rw [vy] at hvy
  have HB := Lib.hid (show bdW l L k x y = ⟨true, 0, bl l x y, bL l L x y, k⟩ by unfold bdW bdY; rw [if_pos vx, if_pos vy])
  have HF := Lib.hid (fun w2 sn => (lift w k (Keep.refl _ _) hb).2 (bl l x y) (bL l L x y) w2 sn)
  clear h hs hb hKb lift dx dy hpp ht hd hKF hg hFb ox oy
  generalize bdW l L k x y = B at *
  go_enter Try.func88, Try.ntmps88; go_wp2_with fail
  refine hvx.mono ?_; rintro e w' ⟨rfl, rfl⟩
  go_wp2_with fail
  refine hvy.mono ?_; rintro e w' ⟨rfl, rfl⟩
  go_wp2_with fail
  refine hbd.mono ?_; rintro e w' ⟨rfl, sn⟩
  have X := Lib.hid (HF.out _ sn)
  clear sn
  go_wp2_with fail
  go_ret2
  rw [HB.out]
  exact ⟨rfl, X.out⟩
set_option maxHeartbeats 1000000 in
theorem ubd_vo (h : HW p q b l m L k w N) (hk : k ≤ 100000) (hL : L.length < 1099511627776) (x y : Int) (hx : W64 x) (hy : W64 y) (ox : ¬ on l x) (oy : ¬ on l y) (vx : isV l x = true) (vy : isV l y = false) :
    Calls Try.prog 88 #[.pointer (some ⟨b, 0, none⟩), .pointer (some ⟨q, 0, none⟩), .int .u64 x, .int .u64 y] w fun e w' => e = .returned (.tuple #[.bool (bdW l L k x y).is, .int .i64 (bdW l L k x y).e]) ∧ Nx (HW p q b (bdW l L k x y).l m (bdW l L k x y).L (bdW l L k x y).k) w N w' := by
  obtain ⟨K, hs, hb, hKb, lift⟩ := HW_lift (k' := 0) (l' := []) (L' := []) (w1 := w) (w2 := w) h
  have dx := dr_off ox l.length
  have dy := dr_off oy l.length
  obtain ⟨⟨F, G, hpp, ht, hd, hKF⟩, hg⟩ := id hs
  have hFb : ¬ F b := fun hf => hKb ((hKF b).2 (Or.inl hf))
  have hvx := uvar_any hpp x hx
  have hvy := uvar_any hpp y hy
  obtain ⟨c0, c1, f0, f1⟩ := walker hb
  have hoc := uocc_any hpp hFb hb hk x y hx hy _ rfl
  have HKO := Lib.hid (occ_k l x k y [])
  have HL := Lib.hid (fun w1 (hb1 : w1.heap[b]? = some (UW p ((occW l x k y []).2.2 : Int))) (k1 : Keep (fun i => i = b) w w1) => lift w1 _ k1 hb1)
  rw [vx] at hvx
  rw [vy] at hvy
  by_cases hf : (occW l x k y []).1 = true ∨ ¬ (occW l x k y []).2.1 = 0
  · have HB := Lib.hid (show bdW l L k x y = ⟨false, (occW l x k y []).2.1, l, L, (occW l x k y []).2.2⟩ by unfold bdW bdY; rw [if_pos vx, if_neg (by rw [vy]; decide), if_pos hf])
    have hf2 : (occW l x k y []).1 = true ∨ ((occW l x k y []).1 = false ∧ ((occW l x k y []).2.1 == 0) = false) := by
      cases hh : (occW l x k y []).1 with
      | true => exact Or.inl rfl
      | false =>
        rcases hf with hf | hf
        · rw [hh] at hf; cases hf
        · exact Or.inr ⟨rfl, by rw [beq_eq_false_iff_ne]; exact hf⟩
    have HSS := Lib.hid hs
    clear h hs hb hKb lift dx dy hpp ht hd hKF hg hFb hf ox oy
    generalize bdW l L k x y = B at *
    generalize occW l x k y [] = O at *
    obtain ⟨o1, o2, o3⟩ := O
    dsimp only at *
    rcases hf2 with rfl | ⟨rfl, hne⟩
    all_goals
      go_enter Try.func88, Try.ntmps88; go_wp2_with fail
      refine hvx.mono ?_; rintro e w' ⟨rfl, rfl⟩
      go_wp2_with fail
      refine hvy.mono ?_; rintro e w' ⟨rfl, rfl⟩
      go_wp2_with fail
      refine hoc.mono ?_; rintro e w1 ⟨rfl, hb1, k1⟩
      obtain ⟨hs1, up⟩ := HL.out w1 hb1 k1
      have X := Lib.hid (up l L w1 (SN.same hs1))
      clear up hs1 hb1 k1
      go_wp2_with fail
      go_ret2
      rw [HB.out]
      exact ⟨rfl, X.out⟩
  · have h1 : (occW l x k y []).1 = false := by cases hh : (occW l x k y []).1 with | true => exact absurd (Or.inl hh) hf | false => rfl
    have h2 : (occW l x k y []).2.1 = 0 := Decidable.byContradiction fun hh => hf (Or.inr hh)
    have HB := Lib.hid (show bdW l L k x y = ⟨true, 0, bl l x y, bL l L x y, (occW l x k y []).2.2⟩ by unfold bdW bdY; rw [if_pos vx, if_neg (by rw [vy]; decide), if_neg hf])
    have HBD := Lib.hid (fun w1 (hs1 : hp.Sys TH TP w1 p q K l m L) => show Calls Try.prog 122 #[.pointer (some ⟨p, 0, none⟩), .pointer (some ⟨q, 0, none⟩), .int .u64 x, .int .u64 y] w1 (fun e w' => e = .returned (.bool true) ∧ SN TH TP w1 p q K (bl l x y) m (bL l L x y) w') by
      have hbd := ubind_any hs1 hL x y hx hy
      rw [dx, dy, vx] at hbd
      exact hbd)
    clear h hs hb hKb lift dx dy hpp ht hd hKF hg hFb hf ox oy
    generalize bdW l L k x y = B at *
    generalize occW l x k y [] = O at *
    obtain ⟨o1, o2, o3⟩ := O
    dsimp only at *
    subst h1 h2
    go_enter Try.func88, Try.ntmps88; go_wp2_with fail
    refine hvx.mono ?_; rintro e w' ⟨rfl, rfl⟩
    go_wp2_with fail
    refine hvy.mono ?_; rintro e w' ⟨rfl, rfl⟩
    go_wp2_with fail
    refine hoc.mono ?_; rintro e w1 ⟨rfl, hb1, k1⟩
    obtain ⟨hs1, up⟩ := HL.out w1 hb1 k1
    have UP := Lib.hid up
    have hbd := HBD.out w1 hs1
    obtain ⟨c0, c1, f0, f1⟩ := walker hb1
    clear up hs1 hb1 k1
    go_wp2_with fail
    refine hbd.mono ?_; rintro e w' ⟨rfl, sn⟩
    have X := Lib.hid (UP.out _ _ _ sn)
    clear sn
    go_wp2_with fail
    go_ret2
    rw [HB.out]
    exact ⟨rfl, X.out⟩
set_option maxHeartbeats 1000000 in
theorem ubd_ov (h : HW p q b l m L k w N) (hk : k ≤ 100000) (hL : L.length < 1099511627776) (x y : Int) (hx : W64 x) (hy : W64 y) (ox : ¬ on l x) (oy : ¬ on l y) (vy : isV l y = true) (vx : isV l x = false) :
    Calls Try.prog 88 #[.pointer (some ⟨b, 0, none⟩), .pointer (some ⟨q, 0, none⟩), .int .u64 x, .int .u64 y] w fun e w' => e = .returned (.tuple #[.bool (bdW l L k x y).is, .int .i64 (bdW l L k x y).e]) ∧ Nx (HW p q b (bdW l L k x y).l m (bdW l L k x y).L (bdW l L k x y).k) w N w' := by
  obtain ⟨K, hs, hb, hKb, lift⟩ := HW_lift (k' := 0) (l' := []) (L' := []) (w1 := w) (w2 := w) h
  have dx := dr_off ox l.length
  have dy := dr_off oy l.length
  obtain ⟨⟨F, G, hpp, ht, hd, hKF⟩, hg⟩ := id hs
  have hFb : ¬ F b := fun hf => hKb ((hKF b).2 (Or.inl hf))
  have hvx := uvar_any hpp x hx
  have hvy := uvar_any hpp y hy
  obtain ⟨c0, c1, f0, f1⟩ := walker hb
  have hoc := uocc_any hpp hFb hb hk y x hy hx _ rfl
  have HKO := Lib.hid (occ_k l y k x [])
  have HL := Lib.hid (fun w1 (hb1 : w1.heap[b]? = some (UW p ((occW l y k x []).2.2 : Int))) (k1 : Keep (fun i => i = b) w w1) => lift w1 _ k1 hb1)
  rw [vy] at hvy
  rw [vx] at hvx
  by_cases hf : (occW l y k x []).1 = true ∨ ¬ (occW l y k x []).2.1 = 0
  · have HB := Lib.hid (show bdW l L k x y = ⟨false, (occW l y k x []).2.1, l, L, (occW l y k x []).2.2⟩ by unfold bdW bdY; rw [if_neg (by rw [vx]; decide), if_neg (by rw [vx]; decide), if_pos hf])
    have hf2 : (occW l y k x []).1 = true ∨ ((occW l y k x []).1 = false ∧ ((occW l y k x []).2.1 == 0) = false) := by
      cases hh : (occW l y k x []).1 with
      | true => exact Or.inl rfl
      | false =>
        rcases hf with hf | hf
        · rw [hh] at hf; cases hf
        · exact Or.inr ⟨rfl, by rw [beq_eq_false_iff_ne]; exact hf⟩
    have HSS := Lib.hid hs
    clear h hs hb hKb lift dx dy hpp ht hd hKF hg hFb hf ox oy
    generalize bdW l L k x y = B at *
    generalize occW l y k x [] = O at *
    obtain ⟨o1, o2, o3⟩ := O
    dsimp only at *
    rcases hf2 with rfl | ⟨rfl, hne⟩
    all_goals
      go_enter Try.func88, Try.ntmps88; go_wp2_with fail
      refine hvx.mono ?_; rintro e w' ⟨rfl, rfl⟩
      go_wp2_with fail
      refine hvx.mono ?_; rintro e w' ⟨rfl, rfl⟩
      go_wp2_with fail
      refine hoc.mono ?_; rintro e w1 ⟨rfl, hb1, k1⟩
      obtain ⟨hs1, up⟩ := HL.out w1 hb1 k1
      have X := Lib.hid (up l L w1 (SN.same hs1))
      clear up hs1 hb1 k1
      go_wp2_with fail
      go_ret2
      rw [HB.out]
      exact ⟨rfl, X.out⟩
  · have h1 : (occW l y k x []).1 = false := by cases hh : (occW l y k x []).1 with | true => exact absurd (Or.inl hh) hf | false => rfl
    have h2 : (occW l y k x []).2.1 = 0 := Decidable.byContradiction fun hh => hf (Or.inr hh)
    have HB := Lib.hid (show bdW l L k x y = ⟨true, 0, bl l y x, bL l L y x, (occW l y k x []).2.2⟩ by unfold bdW bdY; rw [if_neg (by rw [vx]; decide), if_neg (by rw [vx]; decide), if_neg hf])
    have HBD := Lib.hid (fun w1 (hs1 : hp.Sys TH TP w1 p q K l m L) => show Calls Try.prog 122 #[.pointer (some ⟨p, 0, none⟩), .pointer (some ⟨q, 0, none⟩), .int .u64 y, .int .u64 x] w1 (fun e w' => e = .returned (.bool true) ∧ SN TH TP w1 p q K (bl l y x) m (bL l L y x) w') by
      have hbd := ubind_any hs1 hL y x hy hx
      rw [dx, dy, vy] at hbd
      exact hbd)
    clear h hs hb hKb lift dx dy hpp ht hd hKF hg hFb hf ox oy
    generalize bdW l L k x y = B at *
    generalize occW l y k x [] = O at *
    obtain ⟨o1, o2, o3⟩ := O
    dsimp only at *
    subst h1 h2
    go_enter Try.func88, Try.ntmps88; go_wp2_with fail
    refine hvx.mono ?_; rintro e w' ⟨rfl, rfl⟩
    go_wp2_with fail
    refine hvx.mono ?_; rintro e w' ⟨rfl, rfl⟩
    go_wp2_with fail
    refine hoc.mono ?_; rintro e w1 ⟨rfl, hb1, k1⟩
    obtain ⟨hs1, up⟩ := HL.out w1 hb1 k1
    have UP := Lib.hid up
    have hbd := HBD.out w1 hs1
    obtain ⟨c0, c1, f0, f1⟩ := walker hb1
    clear up hs1 hb1 k1
    go_wp2_with fail
    refine hbd.mono ?_; rintro e w' ⟨rfl, sn⟩
    have X := Lib.hid (UP.out _ _ _ sn)
    clear sn
    go_wp2_with fail
    go_ret2
    rw [HB.out]
    exact ⟨rfl, X.out⟩
theorem ubd_any (h : HW p q b l m L k w N) (hk : k ≤ 100000) (hL : L.length < 1099511627776) (x y : Int) (hx : W64 x) (hy : W64 y) (ox : ¬ on l x) (oy : ¬ on l y) (hv : isV l x = true ∨ isV l y = true) :
    Calls Try.prog 88 #[.pointer (some ⟨b, 0, none⟩), .pointer (some ⟨q, 0, none⟩), .int .u64 x, .int .u64 y] w fun e w' => e = .returned (.tuple #[.bool (bdW l L k x y).is, .int .i64 (bdW l L k x y).e]) ∧ Nx (HW p q b (bdW l L k x y).l m (bdW l L k x y).L (bdW l L k x y).k) w N w' := by
  cases vx : isV l x with
  | true =>
    cases vy : isV l y with
    | true => exact ubd_vv h hk hL x y hx hy ox oy vx vy
    | false => exact ubd_vo h hk hL x y hx hy ox oy vx vy
  | false =>
    have vy : isV l y = true := hv.resolve_left (by rw [vx]; decide)
    exact ubd_ov h hk hL x y hx hy ox oy vy vx
end
end Go.Proofs.Ythableojkjhicaa.un
