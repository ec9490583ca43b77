/- Renaming one for one changes no renamed term; two variables made one do: the mathematics. -/
import Derived.Test.YtibepkljcofpdaaRm
namespace Go.Proofs.Ytibepkljcofpdaa.tm
set_option linter.unusedVariables false
open Go.Proofs.Ytibepkljcofpdaa.vrs Go.Proofs.Ytibepkljcofpdaa.ren
/-- f tells apart what stands in S -/
def Inj (f : Int → Int) (S : Int → Prop) : Prop := ∀ x y, S x → S y → f x = f y → x = y
theorem mem_map_inj {f : Int → Int} {S : Int → Prop} (h : Inj f S) {l : List Int} (hl : ∀ x ∈ l, S x) {n : Int} (hn : S n) : f n ∈ l.map f ↔ n ∈ l := by
  rw [List.mem_map]
  constructor
  · rintro ⟨y, hy, he⟩
    rw [← h y n (hl y hy) hn he]; exact hy
  · exact fun hm => ⟨n, hm, rfl⟩
theorem fold_map {f : Int → Int} {S : Int → Prop} (h : Inj f S) : ∀ (l acc : List Int), (∀ x ∈ l, S x) → (∀ x ∈ acc, S x) → (l.map f).foldl addv (acc.map f) = (l.foldl addv acc).map f
  | [], _, _, _ => rfl
  | x :: l, acc, hl, ha => by
    have hx := hl x (by simp)
    have e : addv (acc.map f) (f x) = (addv acc x).map f := by
      unfold addv
      by_cases hm : x ∈ acc
      · rw [if_pos ((mem_map_inj h ha hx).2 hm), if_pos hm]
      · rw [if_neg fun q => hm ((mem_map_inj h ha hx).1 q), if_neg hm]; simp
    simp only [List.map_cons, List.foldl_cons, e]
    refine fold_map h l _ (fun y hy => hl y (by simp [hy])) fun y hy => ?_
    unfold addv at hy
    split at hy
    · exact ha y hy
    · rcases List.mem_append.1 hy with hy | hy
      · exact ha y hy
      · rw [List.mem_singleton] at hy; rw [hy]; exact hx
theorem idxOf_map {f : Int → Int} {S : Int → Prop} (h : Inj f S) {n : Int} (hn : S n) : ∀ l : List Int, (∀ x ∈ l, S x) → (l.map f).idxOf (f n) = l.idxOf n
  | [], _ => rfl
  | x :: l, hl => by
    have hx := hl x (by simp)
    have ih := idxOf_map h hn l fun y hy => hl y (by simp [hy])
    simp only [List.map_cons, List.idxOf_cons]
    by_cases e : x = n
    · subst e; simp
    · have e2 : ¬ f x = f n := fun q => e (h x n hx hn q)
      have b1 : (x == n) = false := by simpa using e
      have b2 : (f x == f n) = false := by simpa using e2
      rw [b1, b2, ih]
theorem mem_vars {t : Tm} (hg : good t = true) (n : Int) : n ∈ vars t ↔ n ∈ occ t := by
  unfold vars; rw [if_pos hg]; simpa using fold_mem (occ t) [] n
theorem ren_good {f : Int → Int} {t : Tm} (hg : good t = true) (h0 : ∀ n ∈ occ t, 0 ≤ f n) : good (sub (fun n => var (f n)) t) = true := good_sub (fun n hn => var_ok (h0 n hn)) hg
/-- renamed one for one: the renamed term is the same -/
theorem rn_inj {f : Int → Int} {t : Tm} (hg : good t = true) (h0 : ∀ n ∈ occ t, 0 ≤ f n) (h : Inj f fun n => n ∈ occ t) : rn (sub (fun n => var (f n)) t) = rn t := by
  have hu := ren_good hg h0
  have hv : vars (sub (fun n => var (f n)) t) = (vars t).map f := by
    unfold vars
    rw [if_pos hu, if_pos hg, occ_ren]
    exact fold_map h (occ t) [] (fun x hx => hx) (by simp)
  have hS : ∀ x ∈ vars t, x ∈ occ t := fun x hx => (mem_vars hg x).1 hx
  unfold rn
  rw [hv, sub_sub]
  refine sub_congr t fun n hn => ?_
  rw [sub_var]
  congr 1
  unfold ix0
  have hm := (mem_vars hg n).2 hn
  rw [if_pos ((mem_map_inj h hS hn).2 hm), if_pos hm, idxOf_map h hn _ hS]
theorem ix0_inj {vs : List Int} {x y : Int} (hx : x ∈ vs) (hy : y ∈ vs) (h : ix0 vs x = ix0 vs y) : x = y := by
  unfold ix0 at h
  rw [if_pos hx, if_pos hy] at h
  have h' : vs.idxOf x = vs.idxOf y := by omega
  have e1 := List.getElem_idxOf (List.idxOf_lt_length_of_mem hx)
  have e2 := List.getElem_idxOf (List.idxOf_lt_length_of_mem hy)
  rw [← e1, ← e2]
  simp only [h']
theorem rn_rn {t : Tm} (hg : good t = true) : rn (rn t) = rn t :=
  rn_inj hg (fun n _ => (ix0_range _ n).1) fun x y hx hy h => ix0_inj ((mem_vars hg x).2 hx) ((mem_vars hg y).2 hy) h
/-- p made q -/
def mg (p q n : Int) : Int := if n = p then q else n
theorem mg_self (p : Int) (t : Tm) : sub (fun n => var (mg p p n)) t = plain t := by
  unfold plain
  refine sub_congr t fun n _ => ?_
  unfold mg; split
  · rename_i h; rw [h]
  · rfl
theorem rn_merge {t : Tm} {p q : Int} (hg : good t = true) (hp : p ∈ occ t) (hq : q ∈ occ t) (hpq : p ≠ q) : rn (sub (fun n => var (mg p q n)) t) ≠ rn t := by
  intro h
  have ho := congrArg occ h
  have e1 : occ (rn t) = (occ t).map (ix0 (vars t)) := occ_ren _ _
  have e2 : occ (rn (sub (fun n => var (mg p q n)) t)) = ((occ t).map (mg p q)).map (ix0 (vars (sub (fun n => var (mg p q n)) t))) := by
    rw [← occ_ren (mg p q) t]; exact occ_ren _ _
  rw [e1, e2, List.map_map] at ho
  have key : ∀ n ∈ occ t, ix0 (vars (sub (fun n => var (mg p q n)) t)) (mg p q n) = ix0 (vars t) n := List.map_inj_left.1 ho
  have a := key p hp
  have b := key q hq
  have m1 : mg p q p = q := by simp [mg]
  have m2 : mg p q q = q := by unfold mg; split <;> rfl
  rw [m1] at a; rw [m2] at b
  exact hpq (ix0_inj ((mem_vars hg p).2 hp) ((mem_vars hg q).2 hq) (a.symm.trans b))
/-- the law's words, on terms -/
theorem renR_good {t : Tm} (h : good t = true) : renR t = rn t := by unfold renR; rw [if_pos h]
theorem same_rn {a b : Tm} (ha : good a = true) (h : rn b = rn a) : sameB (rn b) (rn a) = true := by
  rw [h, sameB_refl]; exact good_rn ha
end Go.Proofs.Ytibepkljcofpdaa.tm
