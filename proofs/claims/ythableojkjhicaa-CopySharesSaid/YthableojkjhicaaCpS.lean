/- What is shared is copied once: a compound with one cell in three places. The mathematics. -/
import Derived.Test.YthableojkjhicaaCpF
namespace Go.Proofs.Ythableojkjhicaa.cpy
open Go.ChangeShapes Go.WideShapes Go.ChangeAt Go.RowKit Go.Maps
open Go.Proofs.Ythableojkjhicaa.kp Go.Proofs.Ythableojkjhicaa.cel Go.Proofs.Ythableojkjhicaa.hp Go.Proofs.Ythableojkjhicaa.tm Go.Proofs.Ythableojkjhicaa.lie Go.Proofs.Ythableojkjhicaa.pm Go.Proofs.Ythableojkjhicaa.ren
open Go.Proofs.Ythableojkjhicaa.atm (nv ne nx l0)
open Go.Proofs.Ythableojkjhicaa.rpt (putT)
open Go.Proofs.Ythableojkjhicaa.pgt (getT)
set_option linter.unusedVariables false
abbrev fN : ByteArray := ⟨#[102]⟩
def t3 : Tm := comp fN [var 0, var 0, var 0]
def c3 (A : Tm) : Tm := comp fN [A, A, A]
def FX (a : List ByteArray) : Int := jn 6 (nv a fN * 256 + 3)
theorem fold_in : ∀ (l acc : List Int), (∀ x ∈ l, x ∈ acc) → l.foldl addv acc = acc
  | [], acc, _ => rfl
  | x :: l, acc, h => by
    rw [List.foldl_cons, show addv acc x = acc by unfold addv; rw [if_pos (h x (by simp))]]
    exact fold_in l acc fun y hy => h y (by simp [hy])
theorem good_c3 {A : Tm} (hg : good A = true) (hs : tm.size A ≤ 300) (hh : tm.height A ≤ 400) : good (c3 A) = true := by
  have hs0 := good_sound hg
  have e1 : tm.size (c3 A) = 1 + (tm.size A + (tm.size A + (tm.size A + 0))) := by simp [c3, comp, tm.size, sizeL]
  have e2 : tm.height (c3 A) ≤ 1 + tm.height A := by simp [c3, comp, tm.height, heightL]
  have e3 : sound (c3 A) = true := by
    unfold c3 comp
    rw [tm.sound, if_pos rfl]
    simp [soundL, hs0, chk]
    decide
  simp only [good, Bool.and_eq_true, decide_eq_true_eq]
  simp only [good, Bool.and_eq_true, decide_eq_true_eq] at hg
  exact ⟨⟨by omega, by omega⟩, e3⟩
theorem rn_c3 {A : Tm} (hg : good A = true) (hs : tm.size A ≤ 300) (hh : tm.height A ≤ 400) : rn (c3 A) = c3 (rn A) := by
  have h3 := good_c3 hg hs hh
  have ho : occ (c3 A) = occ A ++ (occ A ++ (occ A ++ [])) := by simp [c3, comp, occ, occL]
  have hv : vars (c3 A) = vars A := by
    unfold vars
    rw [if_pos h3, if_pos hg, ho, List.foldl_append, List.foldl_append, List.append_nil]
    have hin : ∀ x ∈ occ A, x ∈ (occ A).foldl addv [] := fun x hx => fold_has (Or.inl hx)
    rw [fold_in _ _ hin, fold_in _ _ hin]
  unfold rn
  rw [hv]
  simp [c3, comp, sub, subL]
theorem getD_app (h l : List Int) (i : Nat) : (h ++ l).getD (h.length + i) 0 = l.getD i 0 := by
  rw [List.getD_eq_getElem?_getD, List.getElem?_append_right (by omega), Nat.add_sub_cancel_left, ← List.getD_eq_getElem?_getD]
theorem set3_app (h : List Int) (F x y z c : Int) : (((h ++ [F, x, y, z]).set (h.length + 1) c).set (h.length + 2) c).set (h.length + 3) c = h ++ [F, c, c, c] := by
  simp [List.set_append_right]
/-- three times one variable, which is there -/
theorem put_t3 (h : List Int) (a : List ByteArray) (c : Int) (hm : (h.length : Int) + 4 ≤ 10000) (ha : a.length < 4096) :
    putT 10000 t3 ⟨h, a, [(0, c)]⟩ = (jn 1 h.length, 0, ⟨h ++ [FX a, c, c, c], nx a fN, [(0, c)]⟩) := by
  have h0 : may t3 = 0 := by decide
  obtain ⟨q1, q2, q3, _, _⟩ := name_ok (n := fN) (by decide) ha
  have hl : (h ++ [FX a]).length = h.length + 1 := by simp
  have hv : vrs 3 (h ++ [FX a]) = h ++ [FX a, ((h.length + 1 : Nat) : Int) * 8, ((h.length + 2 : Nat) : Int) * 8, ((h.length + 3 : Nat) : Int) * 8] := by
    simp [vrs]
  have hvar : ∀ (own : Int) (s : S), s.v = [(0, c)] → put 10000 (var 0) own s = (c, 0, s) := fun own s hs => by
    unfold var
    rw [put, if_neg (by decide), if_neg (by decide), if_neg (by decide), if_pos rfl, hs]
    rfl
  have hp3 : ∀ (x : Nat) (hh : List Int) (aa : List ByteArray), putL 10000 [var 0, var 0, var 0] x ⟨hh, aa, [(0, c)]⟩ = (0, ⟨((hh.set x c).set (x + 1) c).set (x + 2) c, aa, [(0, c)]⟩) := fun x hh aa => by
    rw [putL, hvar _ _ rfl]
    dsimp only
    rw [if_pos rfl, putL, hvar _ _ rfl]
    dsimp only
    rw [if_pos rfl, putL, hvar _ _ rfl]
    dsimp only
    rw [if_pos rfl, putL]
  unfold rpt.putT
  rw [if_pos h0]
  unfold t3 comp
  rw [put, if_neg (by decide), if_neg (by decide), if_neg (by decide), if_neg (by decide), q1, if_pos rfl, if_pos (by dsimp only; omega)]
  rw [show ((([var 0, var 0, var 0] : List Tm).length : Nat) : Int) = 3 from rfl, show ([var 0, var 0, var 0] : List Tm).length = 3 from rfl]
  rw [more_vrs 10000 3 _ (by simp; omega)]
  dsimp only
  rw [if_pos rfl, show h ++ [jn 6 (nv a fN * 256 + 3)] = h ++ [FX a] from rfl, hv]
  rw [hp3]
  dsimp only
  rw [if_pos rfl, set3_app]
/-- it stands for the compound of three -/
theorem laid_c3 {A : Tm} {c : Int} {s1 : S} (hL : Laid s1 A c) (ha : s1.a.length < 4096) : Laid ⟨s1.h ++ [FX s1.a, c, c, c], nx s1.a fN, s1.v⟩ (c3 A) (jn 1 s1.h.length) := by
  obtain ⟨b, hb, _⟩ := nx_pre s1.a fN
  have hx : Ext NN s1 ⟨s1.h ++ [FX s1.a, c, c, c], nx s1.a fN, s1.v⟩ := Ext.of_pre (Pre.add _ _) ⟨b, hb⟩ ⟨[], by simp⟩
  have hr := Rep.ext hx A c hL.rep
  obtain ⟨q1, q2, q3, q4, _⟩ := name_ok (n := fN) (by decide) ha
  refine ⟨hL.vs.ext hx rfl, ?_⟩
  have g0 : (s1.h ++ [FX s1.a, c, c, c]).getD s1.h.length 0 = FX s1.a := getD_app s1.h [FX s1.a, c, c, c] 0
  have g1 : (s1.h ++ [FX s1.a, c, c, c]).getD (s1.h.length + 1) 0 = c := getD_app s1.h [FX s1.a, c, c, c] 1
  have g2 : (s1.h ++ [FX s1.a, c, c, c]).getD (s1.h.length + 1 + 1) 0 = c := getD_app s1.h [FX s1.a, c, c, c] 2
  have g3 : (s1.h ++ [FX s1.a, c, c, c]).getD (s1.h.length + 1 + 1 + 1) 0 = c := getD_app s1.h [FX s1.a, c, c, c] 3
  unfold c3 comp
  rw [Rep, if_neg (by decide), if_neg (by decide), if_neg (by decide), if_neg (by decide)]
  refine ⟨s1.h.length, (nv s1.a fN).toNat, rfl, id, by simp, by omega, ?_, q4, ?_⟩
  · rw [Int.toNat_of_nonneg q2]; exact g0
  · rw [RepL, RepL, RepL, RepL]
    dsimp only
    rw [g1, g2, g3]
    exact ⟨id, by simp, hr, id, by simp, hr, id, by simp, hr, trivial⟩
/-- its copy: the shared term once -/
theorem copy_c3 {A : Tm} {c : Int} {s1 : S} {d : Int} {u : S} (hg : good A = true) (hs : tm.size A ≤ 300) (K : Cop A c s1 d u) :
    ∃ (d1 : Int) (u5 : S) (M : List (Int × Int)), cp (s1.h ++ [FX s1.a, c, c, c]) (c3 A) (jn 1 s1.h.length) (-1) ⟨[], nx s1.a fN, []⟩ = (1, ⟨u5.h, nx s1.a fN, M⟩) ∧ u5.a = nx s1.a fN ∧ Laid u5 (c3 A) 1 ∧ u5.h.length ≤ 4 + ns A := by
  have h1 := nd_3 A
  have h2 := ns_le A
  have z1 := K.z1
  have a1 := K.a1
  have hl0 : l0.length = 2 := rfl
  obtain ⟨b, hb, hb1⟩ := nx_pre s1.a fN
  have hnl : (nx s1.a fN).length ≤ 303 := by rw [hb, List.length_append]; omega
  obtain ⟨q1, q2, q3, q4, _⟩ := name_ok (n := fN) (a := s1.a) (by decide) (by omega)
  have g0 : (s1.h ++ [FX s1.a, c, c, c]).getD s1.h.length 0 = FX s1.a := getD_app s1.h [FX s1.a, c, c, c] 0
  have g1 : (s1.h ++ [FX s1.a, c, c, c]).getD (s1.h.length + 1) 0 = c := getD_app s1.h [FX s1.a, c, c, c] 1
  have g2 : (s1.h ++ [FX s1.a, c, c, c]).getD (s1.h.length + 1 + 1) 0 = c := getD_app s1.h [FX s1.a, c, c, c] 2
  have g3 : (s1.h ++ [FX s1.a, c, c, c]).getD (s1.h.length + 1 + 1 + 1) 0 = c := getD_app s1.h [FX s1.a, c, c, c] 3
  have cp8 : jn 1 (s1.h.length : Int) / 8 = (s1.h.length : Int) := jn_val _ _ (by decide) (by decide) (by omega) (by omega)
  have cpm : jn 1 (s1.h.length : Int) % 8 = 1 := jn_tag _ _ (by decide) (by decide)
  obtain ⟨L2, hL2⟩ : ∃ L2, L2 = s1.h ++ [FX s1.a, c, c, c] := ⟨_, rfl⟩
  obtain ⟨u0, hu0⟩ : ∃ u0 : S, u0 = ⟨[FX s1.a, 8, 16, 24], nx s1.a fN, []⟩ := ⟨_, rfl⟩
  obtain ⟨O, hO⟩ : ∃ O : Nat → Prop, O = fun q => q = 1 ∨ q = 2 ∨ q = 3 := ⟨_, rfl⟩
  have hul : u0.h.length = 4 := by rw [hu0]; rfl
  have hua : u0.a = nx s1.a fN := by rw [hu0]
  have hO4 : ∀ q, O q → q < u0.h.length := fun q h => by rw [hO] at h; rw [hul]; omega
  have hown : ∀ q, O q → u0.h.getD q 0 = (q : Int) * 8 := fun q h => by
    rw [hO] at h; rw [hu0]
    rcases h with rfl | rfl | rfl <;> rfl
  have hv0 : Vs O u0 := by
    rw [hu0]
    exact ⟨fun i c e => (by rw [show pm.look (S.v ⟨[FX s1.a, 8, 16, 24], nx s1.a fN, []⟩) i = Option.none from rfl] at e; cases e), by simp [keys], by simp⟩
  have hO1 : O 1 := by rw [hO]; exact Or.inl rfl
  -- the first argument
  obtain ⟨d1, u1, M1, p1, c1, a1', _, _⟩ := sim (m := 10000) (m' := 10000) (L := L2) (B := s1.h.length) (A := nx s1.a fN) (by omega) A (-1) 1 ⟨[], l0, []⟩ NN c s1 u0 [(jn 1 s1.h.length, jn 1 0)] (good_sound hg) (Vs.none _ _) (fun _ h => h.elim) (Or.inl (by decide)) (by simp; omega) (by simp [l0]; omega) K.run
    (fun q hq _ => by rw [hL2, List.getD_eq_getElem?_getD, List.getElem?_append_left hq, ← List.getD_eq_getElem?_getD]) (Nat.le_refl _) ⟨b, hb⟩ hua (by rw [hul]; omega)
    ⟨fun i c hi => by simp [pm.look] at hi, fun i _ => by rw [hu0]; rfl, fun c d hc h8 => by
        by_cases e : jn 1 (s1.h.length : Int) = c
        · subst e; omega
        · simp [pm.look, e] at hc, fun c d hc h8 => by
        by_cases e : jn 1 (s1.h.length : Int) = c
        · subst e; right; omega
        · simp [pm.look, e] at hc⟩
  obtain ⟨d1', u1', e1, ok⟩ := put_ok 10000 A 1 u0 O (good_sound hg) hv0 hO4 (Or.inr ⟨1, rfl, hO1, hown 1 hO1⟩) (by rw [hul]; omega) (by rw [hua]; omega)
  rw [p1] at e1
  injection e1 with e1 e2
  injection e2 with _ e2
  subst e1 e2
  obtain ⟨hlen, hv2, hr2⟩ := arg_ok (p := 1) hO4 ⟨hO1, hown 1 hO1⟩ ok
  rw [hul] at hlen
  have hp0 : u1.h.getD 0 0 = FX s1.a := by rw [ok.pre.2 0 (by omega), hu0]; rfl
  obtain ⟨H5, hH5⟩ : ∃ H5, H5 = ((u1.h.set 1 d1).set 2 d1).set 3 d1 := ⟨_, rfl⟩
  have l5 : H5.length = u1.h.length := by rw [hH5]; simp
  have k0 : H5.getD 0 0 = FX s1.a := by rw [hH5, getD_set (by simp; omega), if_neg (by decide), getD_set (by simp; omega), if_neg (by decide), getD_set (by omega), if_neg (by decide)]; exact hp0
  have k1 : H5.getD 1 0 = d1 := by rw [hH5, getD_set (by simp; omega), if_neg (by decide), getD_set (by simp; omega), if_neg (by decide), getD_set (by omega), if_pos rfl]
  have k2 : H5.getD 2 0 = d1 := by rw [hH5, getD_set (by simp; omega), if_neg (by decide), getD_set (by simp; omega), if_pos rfl]
  have k3 : H5.getD 3 0 = d1 := by rw [hH5, getD_set (by simp; omega), if_pos rfl]
  have hx5 : Ext (fun q => O q ∧ q ≠ 1) ⟨u1.h.set 1 d1, u1.a, u1.v⟩ ⟨H5, nx s1.a fN, u1.v⟩ := by
    refine ⟨⟨by show (u1.h.set 1 d1).length ≤ H5.length; simp [l5], fun q hq ho => ?_⟩, ⟨[], by simp [a1']⟩, ⟨[], by simp⟩⟩
    show H5.getD q 0 = (u1.h.set 1 d1).getD q 0
    have h2 : q ≠ 2 := fun e => ho ⟨by rw [hO]; exact Or.inr (Or.inl e), by omega⟩
    have h3 : q ≠ 3 := fun e => ho ⟨by rw [hO]; exact Or.inr (Or.inr e), by omega⟩
    rw [hH5, getD_set (by simp; omega), if_neg h3, getD_set (by simp; omega), if_neg h2]
  have hr5 : Rep NN ⟨H5, nx s1.a fN, u1.v⟩ A d1 := Rep.less (fun _ h => h.elim) _ _ (Rep.ext hx5 _ _ hr2)
  have hv5 : Vs NN ⟨H5, nx s1.a fN, u1.v⟩ := (hv2.ext hx5 rfl).less fun _ h => h.elim
  refine ⟨d1, ⟨H5, nx s1.a fN, u1.v⟩, M1, ?_, rfl, ⟨hv5, ?_⟩, ?_⟩
  · have hF : vrs 3 ([] ++ [FX s1.a]) = [FX s1.a, 8, 16, 24] := rfl
    rw [← hL2] at g0 g1 g2 g3
    rw [← hL2]
    unfold c3 comp
    rw [cp, if_neg (by simp)]
    rw [show pm.look (S.v ⟨[], nx s1.a fN, []⟩) (jn 1 (s1.h.length : Int)) = none from rfl]
    dsimp only
    rw [if_neg (by decide), if_neg (by decide), if_neg (by decide), cp8, Int.toNat_natCast, g0]
    rw [show ([A, A, A] : List Tm).length = 3 from rfl, hF]
    have c1' : cp L2 A c (((0 + 1 : Nat)) : Int) ⟨[FX s1.a, 8, 16, 24], nx s1.a fN, [] ++ [(jn 1 s1.h.length, jn 1 0)]⟩ = (d1, ⟨u1.h, nx s1.a fN, M1⟩) := by rw [hu0] at c1; exact c1
    have ha : ∀ (own : Int) (s : S), s.v = M1 → cp L2 A c own s = (d1, s) := fun own s hs => cp_again L2 A c d1 _ own _ _ c1' s hs
    rw [cpL, g1]
    rw [show (([] : List Int).length : Nat) = 0 from rfl]
    rw [show jn 1 ((0 : Nat) : Int) = jn 1 0 from rfl, c1']
    dsimp only
    rw [cpL, g2, ha _ _ rfl]
    dsimp only
    rw [cpL, g3, ha _ _ rfl]
    dsimp only
    rw [cpL, hH5]
    rfl
  · unfold c3 comp
    rw [Rep, if_neg (by decide), if_neg (by decide), if_neg (by decide), if_neg (by decide)]
    refine ⟨0, (nv s1.a fN).toNat, rfl, id, by show 0 + 3 < H5.length; omega, by omega, ?_, q4, ?_⟩
    · rw [Int.toNat_of_nonneg q2]; exact k0
    · rw [RepL, RepL, RepL, RepL]
      dsimp only
      rw [show (0 + 1 : Nat) = 1 from rfl, show (1 + 1 : Nat) = 2 from rfl, show (2 + 1 : Nat) = 3 from rfl, k1, k2, k3]
      exact ⟨id, by omega, hr5, id, by omega, hr5, id, by omega, hr5, trivial⟩
  · show H5.length ≤ _
    have h9 : pm.nd A ≤ ns A := by
      unfold ns
      by_cases hk : A.kind = 1
      · rw [if_pos hk]
        obtain ⟨k, n, i, re, im, l⟩ := A; simp only [Tm.kind] at hk; subst hk; simp [pm.nd]
      · rw [if_neg hk]; exact Nat.le_refl _
    omega
end Go.Proofs.Ythableojkjhicaa.cpy
