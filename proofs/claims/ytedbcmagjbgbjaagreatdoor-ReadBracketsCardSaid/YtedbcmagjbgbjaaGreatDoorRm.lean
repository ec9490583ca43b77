/- Renaming, the mathematics: replaced twice; what a renamed term is. Renaming one for one changes no renamed term; two variables made one do: the mathematics. -/
import Derived.Test.YtedbcmagjbgbjaaGreatDoorTm
import Derived.Test.YtedbcmagjbgbjaaGreatDoorPl
namespace Go.Proofs.YtedbcmagjbgbjaaGreatDoor.tm
set_option linter.unusedVariables false
open Go.Proofs.YtedbcmagjbgbjaaGreatDoor.vrs Go.Proofs.YtedbcmagjbgbjaaGreatDoor.ren
theorem occ_mem5 {n : ByteArray} {i re im v : Int} {l : List Tm} {x : Tm} (hx : x ∈ l) (hv : v ∈ occ x) : v ∈ occ (.mk 5 n i re im l) := by
  simp [occ, occL_flat]; exact ⟨x, hx, hv⟩
theorem sub_sub (s r : Int → Tm) (t : Tm) : sub s (sub r t) = sub (fun n => sub s (r n)) t := by
  induction t using Tm.ind with
  | h k n i re im l ih =>
    by_cases h1 : k = 1
    · subst h1; simp [sub]
    by_cases h2 : k = 2
    · subst h2; simp [sub]
    by_cases h3 : k = 3
    · subst h3; simp [sub]
    by_cases h4 : k = 4
    · subst h4; simp [sub]
    by_cases h5 : k = 5
    · subst h5
      have : subL s (subL r l) = subL (fun n => sub s (r n)) l := by
        rw [subL_map, subL_map, subL_map, List.map_map]
        exact List.map_congr_left fun x hx => ih x hx
      simp [sub, this]
    · simp [sub, h1, h2, h3, h4, h5]
theorem sub_var (s : Int → Tm) (n : Int) : sub s (var n) = s n := by simp [var, sub]
theorem sub_plain (s : Int → Tm) (t : Tm) : sub s (plain t) = sub s t := by
  unfold plain; rw [sub_sub]; congr 1
theorem sub_congr {s r : Int → Tm} (t : Tm) : (∀ n ∈ occ t, s n = r n) → sub s t = sub r t := by
  induction t using Tm.ind with
  | h k n i re im l ih =>
    intro h
    by_cases h1 : k = 1
    · subst h1; simp only [sub, if_true]; exact h i (by simp [occ])
    by_cases h5 : k = 5
    · subst h5
      have : subL s l = subL r l := by
        rw [subL_map, subL_map]
        exact List.map_congr_left fun x hx => ih x hx fun n hn => h n (occ_mem5 hx hn)
      simp [sub, this]
    · simp [sub, h1, h5]
theorem occ_sub (s : Int → Tm) (t : Tm) : occ (sub s t) = (occ t).flatMap fun n => occ (s n) := by
  induction t using Tm.ind with
  | h k n i re im l ih =>
    by_cases h1 : k = 1
    · subst h1; simp [sub, occ]
    by_cases h2 : k = 2
    · subst h2; simp [sub, occ]
    by_cases h3 : k = 3
    · subst h3; simp [sub, occ]
    by_cases h4 : k = 4
    · subst h4; simp [sub, occ]
    by_cases h5 : k = 5
    · subst h5
      have : occL (subL s l) = (occL l).flatMap fun n => occ (s n) := by
        rw [occL_flat, occL_flat, subL_map, List.flatMap_map, List.flatMap_assoc]
        simp only [List.flatMap_def]; congr 1
        exact List.map_congr_left fun x hx => ih x hx
      simp [sub, occ, this]
    · simp [sub, occ, h1, h2, h3, h4, h5]
theorem occ_var (n : Int) : occ (var n) = [n] := by simp [var, occ]
theorem occ_plain (t : Tm) : occ (plain t) = occ t := by
  unfold plain; rw [occ_sub]; simp [occ_var]
theorem occ_ren (f : Int → Int) (t : Tm) : occ (sub (fun n => var (f n)) t) = (occ t).map f := by
  rw [occ_sub]; simp only [occ_var]; exact (List.map_eq_flatMap).symm
theorem size_sub {s : Int → Tm} (t : Tm) : (∀ n ∈ occ t, size (s n) = 1 ∧ height (s n) = 1 ∧ sound (s n) = true) → size (sub s t) = size t ∧ height (sub s t) = height t ∧ (sound t = true → sound (sub s t) = true) := by
  induction t using Tm.ind with
  | h k n i re im l ih =>
    intro h
    by_cases h1 : k = 1
    · subst h1
      obtain ⟨a, b, c⟩ := h i (by simp [occ])
      simp [sub, size, height, a, b, c]
    by_cases h2 : k = 2
    · subst h2; simp [sub, size, height, sound, chk]
    by_cases h3 : k = 3
    · subst h3; simp [sub, size, height, sound, chk]
    by_cases h4 : k = 4
    · subst h4; simp [sub, size, height, sound, chk]
    by_cases h5 : k = 5
    · subst h5
      have hl : ∀ x ∈ l, size (sub s x) = size x ∧ height (sub s x) = height x ∧ (sound x = true → sound (sub s x) = true) := fun x hx => ih x hx fun n hn => h n (occ_mem5 hx hn)
      have e1 : sizeL (subL s l) = sizeL l := by
        rw [sizeL_sum, sizeL_sum, subL_map, List.map_map]
        exact congrArg List.sum (List.map_congr_left fun x hx => (hl x hx).1)
      have e2 : heightL (subL s l) = heightL l := by
        rw [subL_map]
        clear h ih e1
        induction l with
        | nil => rfl
        | cons t r ihr => simp only [List.map_cons, heightL]; rw [(hl t (by simp)).2.1, ihr fun x hx => hl x (by simp [hx])]
      refine ⟨by simp [sub, size, e1], by simp [sub, height, e2], fun hs => ?_⟩
      have hs' := sound_args hs rfl
      have hc := sound_chk hs
      show sound (.mk 5 n 0 0 0 (subL s l)) = true
      simp only [sound, Bool.and_eq_true, decide_eq_true_eq, if_true]
      refine ⟨?_, ?_⟩
      · simp only [chk, subL_map, List.length_map] at hc ⊢
        simpa using hc
      · simp only [soundL_all, subL_map, List.all_eq_true, List.mem_map]
        rintro x ⟨y, hy, rfl⟩
        exact (hl y hy).2.2 (hs' y hy)
    · simp [sub, size, height, sound, h1, h2, h3, h4, h5, chk]
theorem good_sub {s : Int → Tm} {t : Tm} (h : ∀ n ∈ occ t, size (s n) = 1 ∧ height (s n) = 1 ∧ sound (s n) = true) (hg : good t = true) : good (sub s t) = true := by
  obtain ⟨h1, h2, h3⟩ := size_sub t h
  simp only [good, Bool.and_eq_true, decide_eq_true_eq] at *
  rw [h1, h2]
  exact ⟨hg.1, h3 hg.2⟩
theorem var_ok {n : Int} (h : 0 ≤ n) : size (var n) = 1 ∧ height (var n) = 1 ∧ sound (var n) = true := by
  simp [var, size, height, sound, chk]; omega
theorem good_rn {t : Tm} (h : good t = true) : good (rn t) = true := good_sub (fun n _ => var_ok (ix0_range _ n).1) h
theorem good_plain {t : Tm} (h : good t = true) (hs : sound t = true) : good (plain t) = true := by
  refine good_sub (fun n hn => var_ok ?_) h
  have f := pre_facts t 1
  rw [← f.2.2.1, List.mem_filterMap] at hn
  obtain ⟨x, hx, he⟩ := hn
  have hc := f.2.1.2 hs x hx
  obtain ⟨⟨k, nn, i, re, im, l⟩, d⟩ := x
  simp only [Tm.kind, Tm.int] at he
  by_cases hk : k = 1
  · subst hk
    simp only [if_true, Option.some.injEq] at he
    subst he
    simp only [chk, if_true] at hc
    omega
  · simp [hk] at he
theorem plain_rn (t : Tm) : plain (rn t) = rn t := by
  unfold rn; rw [plain, sub_sub]; congr 1
theorem rn_plain_eq {a b : Tm} (ha : good a = true) (hb : good b = true) (h : plain a = plain b) : rn a = rn b := by
  have ho : occ a = occ b := by rw [← occ_plain a, ← occ_plain b, h]
  have hv : vars a = vars b := by unfold vars; rw [if_pos ha, if_pos hb, ho]
  unfold rn
  rw [hv, ← sub_plain _ a, ← sub_plain _ b, h]
end Go.Proofs.YtedbcmagjbgbjaaGreatDoor.tm
namespace Go.Proofs.YtedbcmagjbgbjaaGreatDoor.tm
set_option linter.unusedVariables false
open Go.Proofs.YtedbcmagjbgbjaaGreatDoor.vrs Go.Proofs.YtedbcmagjbgbjaaGreatDoor.ren
/-- f tells apart what stands in S -/
def Inj (f : Int → Int) (S : Int → Prop) : Prop := ∀ x y, S x → S y → f x = f y → x = y
theorem mem_map_inj {f : Int → Int} {S : Int → Prop} (h : Inj f S) {l : List Int} (hl : ∀ x ∈ l, S x) {n : Int} (hn : S n) : f n ∈ l.map f ↔ n ∈ l := by
  rw [List.mem_map]
  constructor
  · rintro ⟨y, hy, he⟩
    rw [← h y n (hl y hy) hn he]; exact hy
  · exact fun hm => ⟨n, hm, rfl⟩
theorem fold_map {f : Int → Int} {S : Int → Prop} (h : Inj f S) : ∀ (l acc : List Int), (∀ x ∈ l, S x) → (∀ x ∈ acc, S x) → (l.map f).foldl addv (acc.map f) = (l.foldl addv acc).map f
  | [], _, _, _ => rfl
  | x :: l, acc, hl, ha => by
    have hx := hl x (by simp)
    have e : addv (acc.map f) (f x) = (addv acc x).map f := by
      unfold addv
      by_cases hm : x ∈ acc
      · rw [if_pos ((mem_map_inj h ha hx).2 hm), if_pos hm]
      · rw [if_neg fun q => hm ((mem_map_inj h ha hx).1 q), if_neg hm]; simp
    simp only [List.map_cons, List.foldl_cons, e]
    refine fold_map h l _ (fun y hy => hl y (by simp [hy])) fun y hy => ?_
    unfold addv at hy
    split at hy
    · exact ha y hy
    · rcases List.mem_append.1 hy with hy | hy
      · exact ha y hy
      · rw [List.mem_singleton] at hy; rw [hy]; exact hx
theorem idxOf_map {f : Int → Int} {S : Int → Prop} (h : Inj f S) {n : Int} (hn : S n) : ∀ l : List Int, (∀ x ∈ l, S x) → (l.map f).idxOf (f n) = l.idxOf n
  | [], _ => rfl
  | x :: l, hl => by
    have hx := hl x (by simp)
    have ih := idxOf_map h hn l fun y hy => hl y (by simp [hy])
    simp only [List.map_cons, List.idxOf_cons]
    by_cases e : x = n
    · subst e; simp
    · have e2 : ¬ f x = f n := fun q => e (h x n hx hn q)
      have b1 : (x == n) = false := by simpa using e
      have b2 : (f x == f n) = false := by simpa using e2
      rw [b1, b2, ih]
theorem mem_vars {t : Tm} (hg : good t = true) (n : Int) : n ∈ vars t ↔ n ∈ occ t := by
  unfold vars; rw [if_pos hg]; simpa using fold_mem (occ t) [] n
theorem ren_good {f : Int → Int} {t : Tm} (hg : good t = true) (h0 : ∀ n ∈ occ t, 0 ≤ f n) : good (sub (fun n => var (f n)) t) = true := good_sub (fun n hn => var_ok (h0 n hn)) hg
/-- renamed one for one: the renamed term is the same -/
theorem rn_inj {f : Int → Int} {t : Tm} (hg : good t = true) (h0 : ∀ n ∈ occ t, 0 ≤ f n) (h : Inj f fun n => n ∈ occ t) : rn (sub (fun n => var (f n)) t) = rn t := by
  have hu := ren_good hg h0
  have hv : vars (sub (fun n => var (f n)) t) = (vars t).map f := by
    unfold vars
    rw [if_pos hu, if_pos hg, occ_ren]
    exact fold_map h (occ t) [] (fun x hx => hx) (by simp)
  have hS : ∀ x ∈ vars t, x ∈ occ t := fun x hx => (mem_vars hg x).1 hx
  unfold rn
  rw [hv, sub_sub]
  refine sub_congr t fun n hn => ?_
  rw [sub_var]
  congr 1
  unfold ix0
  have hm := (mem_vars hg n).2 hn
  rw [if_pos ((mem_map_inj h hS hn).2 hm), if_pos hm, idxOf_map h hn _ hS]
theorem ix0_inj {vs : List Int} {x y : Int} (hx : x ∈ vs) (hy : y ∈ vs) (h : ix0 vs x = ix0 vs y) : x = y := by
  unfold ix0 at h
  rw [if_pos hx, if_pos hy] at h
  have h' : vs.idxOf x = vs.idxOf y := by omega
  have e1 := List.getElem_idxOf (List.idxOf_lt_length_of_mem hx)
  have e2 := List.getElem_idxOf (List.idxOf_lt_length_of_mem hy)
  rw [← e1, ← e2]
  simp only [h']
theorem rn_rn {t : Tm} (hg : good t = true) : rn (rn t) = rn t :=
  rn_inj hg (fun n _ => (ix0_range _ n).1) fun x y hx hy h => ix0_inj ((mem_vars hg x).2 hx) ((mem_vars hg y).2 hy) h
/-- p made q -/
def mg (p q n : Int) : Int := if n = p then q else n
theorem mg_self (p : Int) (t : Tm) : sub (fun n => var (mg p p n)) t = plain t := by
  unfold plain
  refine sub_congr t fun n _ => ?_
  unfold mg; split
  · rename_i h; rw [h]
  · rfl
theorem rn_merge {t : Tm} {p q : Int} (hg : good t = true) (hp : p ∈ occ t) (hq : q ∈ occ t) (hpq : p ≠ q) : rn (sub (fun n => var (mg p q n)) t) ≠ rn t := by
  intro h
  have ho := congrArg occ h
  have e1 : occ (rn t) = (occ t).map (ix0 (vars t)) := occ_ren _ _
  have e2 : occ (rn (sub (fun n => var (mg p q n)) t)) = ((occ t).map (mg p q)).map (ix0 (vars (sub (fun n => var (mg p q n)) t))) := by
    rw [← occ_ren (mg p q) t]; exact occ_ren _ _
  rw [e1, e2, List.map_map] at ho
  have key : ∀ n ∈ occ t, ix0 (vars (sub (fun n => var (mg p q n)) t)) (mg p q n) = ix0 (vars t) n := List.map_inj_left.1 ho
  have a := key p hp
  have b := key q hq
  have m1 : mg p q p = q := by simp [mg]
  have m2 : mg p q q = q := by unfold mg; split <;> rfl
  rw [m1] at a; rw [m2] at b
  exact hpq (ix0_inj ((mem_vars hg p).2 hp) ((mem_vars hg q).2 hq) (a.symm.trans b))
/-- the law's words, on terms -/
theorem renR_good {t : Tm} (h : good t = true) : renR t = rn t := by unfold renR; rw [if_pos h]
theorem same_rn {a b : Tm} (ha : good a = true) (h : rn b = rn a) : sameB (rn b) (rn a) = true := by
  rw [h, sameB_refl]; exact good_rn ha
end Go.Proofs.YtedbcmagjbgbjaaGreatDoor.tm
