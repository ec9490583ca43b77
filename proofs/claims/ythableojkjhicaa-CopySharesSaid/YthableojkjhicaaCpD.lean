/- Package copy: node of any term; what is still to be copied, as a stack: the mathematics. Package copy: lay, a row of what is still to be copied, two labels. -/
import Derived.Test.YthableojkjhicaaCpA
import Derived.Test.YthableojkjhicaaSLG
namespace Go.Proofs.Ythableojkjhicaa.cpy
open Go.ChangeShapes Go.WideShapes Go.ChangeAt Go.RowKit Go.Maps
open Go.Proofs.Ythableojkjhicaa.kp Go.Proofs.Ythableojkjhicaa.cel Go.Proofs.Ythableojkjhicaa.hp Go.Proofs.Ythableojkjhicaa.ob Go.Proofs.Ythableojkjhicaa.tm Go.Proofs.Ythableojkjhicaa.pm
open Go.Proofs.Ythableojkjhicaa.rpt (HB frHB zeroC)
open Go.Proofs.Ythableojkjhicaa.ppt (kidsT kids5 kidsN)
set_option linter.unusedVariables false
/-- a node that is copied but for some arguments: its cell, where it goes, these, the first one's place where it is copied from, and there -/
abbrev Fc := Int × Int × List Tm × Nat × Nat
/-- a node by itself -/
def nodeC (l : List Int) : Tm → Int → Int → S → Fc × S
  | .mk k n i re im ts, c, own, s =>
    if k = 2 ∨ (k = 3 ∧ so i = true) then ((c, own, [], 0, 0), s) else
    match pm.look s.v c with
    | some d => ((d, own, [], 0, 0), s)
    | none =>
      if k = 1 then (if own < 0 then (((s.h.length : Int) * 8, own, [], 0, 0), ⟨s.h ++ [(s.h.length : Int) * 8], s.a, s.v ++ [(c, (s.h.length : Int) * 8)]⟩) else ((own * 8, own, [], 0, 0), ⟨s.h, s.a, s.v ++ [(c, own * 8)]⟩))
      else if k = 3 then ((jn 4 s.h.length, own, [], 0, 0), ⟨s.h ++ [l.getD (c / 8).toNat 0], s.a, s.v ++ [(c, jn 4 s.h.length)]⟩)
      else if k = 4 then ((jn 5 s.h.length, own, [], 0, 0), ⟨s.h ++ [l.getD (c / 8).toNat 0] ++ [l.getD ((c / 8).toNat + 1) 0], s.a, s.v ++ [(c, jn 5 s.h.length)]⟩)
      else ((jn 1 s.h.length, own, ts, (c / 8).toNat + 1, s.h.length + 1), ⟨vrs ts.length (s.h ++ [l.getD (c / 8).toNat 0]), s.a, s.v ++ [(c, jn 1 s.h.length)]⟩)
def finC (l : List Int) : List Fc → S → Int × S
  | [], s => (0, s)
  | f :: r, s => if f.2.1 = -1 then (f.1, cpL l f.2.2.1 f.2.2.2.1 f.2.2.2.2 s) else finC l r ⟨(cpL l f.2.2.1 f.2.2.2.1 f.2.2.2.2 s).h.set f.2.1.toNat f.1, (cpL l f.2.2.1 f.2.2.2.1 f.2.2.2.2 s).a, (cpL l f.2.2.1 f.2.2.2.1 f.2.2.2.2 s).v⟩
def dnC (l : List Int) (t : Tm) (c own : Int) (r : List Fc) (s : S) : Int × S :=
  if own = -1 then cp l t c own s else finC l r ⟨(cp l t c own s).2.h.set own.toNat (cp l t c own s).1, (cp l t c own s).2.a, (cp l t c own s).2.v⟩
theorem cp_node (l : List Int) (t : Tm) (c own : Int) (s : S) : cp l t c own s = ((nodeC l t c own s).1.1, cpL l (nodeC l t c own s).1.2.2.1 (nodeC l t c own s).1.2.2.2.1 (nodeC l t c own s).1.2.2.2.2 (nodeC l t c own s).2) := by
  obtain ⟨k, n, i, re, im, ts⟩ := t
  rw [cp, nodeC]
  by_cases hl : k = 2 ∨ (k = 3 ∧ so i = true)
  · rw [if_pos hl, if_pos hl, cpL]
  rw [if_neg hl, if_neg hl]
  cases hm : pm.look s.v c with
  | some d => dsimp only; rw [cpL]
  | none =>
    dsimp only
    by_cases k1 : k = 1
    · rw [if_pos k1, if_pos k1]; split <;> rw [cpL]
    rw [if_neg k1, if_neg k1]
    by_cases k3 : k = 3
    · rw [if_pos k3, if_pos k3, cpL]
    rw [if_neg k3, if_neg k3]
    by_cases k4 : k = 4
    · rw [if_pos k4, if_pos k4, cpL]
    rw [if_neg k4, if_neg k4]
theorem node_own (l : List Int) (t : Tm) (c own : Int) (s : S) : (nodeC l t c own s).1.2.1 = own := by
  obtain ⟨k, n, i, re, im, ts⟩ := t
  rw [nodeC]
  repeat' split
  all_goals rfl
theorem dnC_step (l : List Int) (t : Tm) (c own : Int) (r : List Fc) (s : S) : dnC l t c own r s = finC l ((nodeC l t c own s).1 :: r) (nodeC l t c own s).2 := by
  rw [finC, node_own, dnC, cp_node]
theorem finC_step (l : List Int) (d own : Int) (t : Tm) (ts : List Tm) (y x : Nat) (r : List Fc) (s : S) : finC l ((d, own, t :: ts, y, x) :: r) s = dnC l t (l.getD y 0) x ((d, own, ts, y + 1, x + 1) :: r) s := by
  rw [finC, dnC, if_neg (show ¬ (x : Int) = -1 by omega), finC, cpL]
  simp only [Int.toNat_natCast]
theorem finC_nil (l : List Int) (d own : Int) (y x : Nat) (r : List Fc) (s : S) : finC l ((d, own, [], y, x) :: r) s = if own = -1 then (d, s) else finC l r ⟨s.h.set own.toNat d, s.a, s.v⟩ := by
  rw [finC, cpL]
/-! ### how much is left -/
def restS : List Fc → Nat | [] => 0 | f :: r => sizeL f.2.2.1 + restS r
def restN : List Fc → Nat | [] => 0 | f :: r => ndL f.2.2.1 + restN r
def weiC : List Fc → Nat | [] => 0 | f :: r => 2 + 4 * sizeL f.2.2.1 + weiC r
structure Fo (s0 : S) (hn b : Nat) (f : Fc) : Prop where
  w : W64 f.1
  s : ∀ t ∈ f.2.2.1, sound t = true
  r : RepL NN s0 f.2.2.1 f.2.2.2.1
  x : f.2.2.1 = [] ∨ (b ≤ f.2.2.2.2 ∧ f.2.2.2.2 + f.2.2.1.length ≤ hn)
  y : f.2.2.2.1 ≤ 1048577 ∧ f.2.2.2.2 ≤ 1048577 ∧ f.2.2.1.length ≤ 20
theorem Fo.mono {s0 : S} {hn hn' b : Nat} {f : Fc} (h : Fo s0 hn b f) (hh : hn ≤ hn') : Fo s0 hn' b f := ⟨h.w, h.s, h.r, h.x.imp id fun g => ⟨g.1, by omega⟩, h.y⟩
def FokC (s0 : S) (hn b : Nat) : List Fc → Prop
  | [] => True
  | f :: r => Fo s0 hn b f ∧ ((f.2.1 = -1 ∧ r = []) ∨ ((b : Int) ≤ f.2.1 ∧ f.2.1 < (hn : Int) ∧ r ≠ [])) ∧ FokC s0 hn b r
theorem FokC.mono {s0 : S} {hn hn' b : Nat} (hh : hn ≤ hn') : ∀ {r : List Fc}, FokC s0 hn b r → FokC s0 hn' b r
  | [], _ => trivial
  | f :: r, ⟨h1, h2, h3⟩ => ⟨h1.mono hh, h2.imp id fun g => ⟨g.1, by omega, g.2.2⟩, FokC.mono hh h3⟩
theorem kids_nd (t : Tm) : 1 + sizeL (kidsT t) ≤ size t := by have := ppt.kids_size t; omega
/-- what a node makes -/
theorem node_fo {s0 : S} {t : Tm} {c : Int} (hL : Laid s0 t c) (hs : sound t = true) (hl : s0.h.length ≤ 1048576) (own : Int) (s : S) (b : Nat) (hb : b ≤ s.h.length) (hh : s.h.length + pm.nd t ≤ 1048576) (ho : own = -1 ∨ (0 ≤ own ∧ own < 1048576)) (hw : ∀ d, pm.look s.v c = some d → W64 d) :
    Fo s0 (nodeC s0.h t c own s).2.h.length b (nodeC s0.h t c own s).1 ∧ s.h.length ≤ (nodeC s0.h t c own s).2.h.length ∧ (nodeC s0.h t c own s).2.h.length + ndL (nodeC s0.h t c own s).1.2.2.1 ≤ s.h.length + pm.nd t + (if own < 0 then 1 else 0) ∧
      (nodeC s0.h t c own s).2.v.length ≤ s.v.length + 1 ∧ 1 + sizeL (nodeC s0.h t c own s).1.2.2.1 ≤ size t ∧ ((nodeC s0.h t c own s).1.2.2.1 = [] → (nodeC s0.h t c own s).1.2.2.2 = (0, 0)) := by
  have hcw := rep_w hL hl
  obtain ⟨hv, hr⟩ := hL
  obtain ⟨k, n, i, re, im, ts⟩ := t
  have hk := chkk (sound_chk hs)
  have h1 : 1 ≤ size (.mk k n i re im ts) := by rw [tm.size]; omega
  have emp : ∀ (d : Int) (hn : Nat), W64 d → Fo s0 hn b (d, own, [], 0, 0) := fun d hn hd => ⟨hd, fun t ht => by simp at ht, by rw [RepL]; trivial, Or.inl rfl, by show (0 : Nat) ≤ _ ∧ (0 : Nat) ≤ _ ∧ _; simp⟩
  rw [nodeC]
  by_cases hlf : k = 2 ∨ (k = 3 ∧ so i = true)
  · rw [if_pos hlf]
    refine ⟨emp c _ hcw, Nat.le_refl _, ?_, Nat.le_succ _, by simp [sizeL]; omega, fun _ => rfl⟩
    simp only [ndL]; omega
  rw [if_neg hlf]
  cases hm : pm.look s.v c with
  | some d =>
    dsimp only
    refine ⟨emp d _ (hw d hm), Nat.le_refl _, ?_, Nat.le_succ _, by simp [sizeL]; omega, fun _ => rfl⟩
    simp only [ndL]; omega
  | none =>
    dsimp only
    by_cases k1 : k = 1
    · subst k1
      rw [if_pos rfl]
      by_cases h0 : own < 0
      · rw [if_pos h0]
        refine ⟨emp _ _ ⟨by omega, by omega⟩, by simp, ?_, by simp, by simp [sizeL]; omega, fun _ => rfl⟩
        rw [if_pos h0]; simp [ndL]
      · rw [if_neg h0]
        refine ⟨emp _ _ ⟨by omega, by omega⟩, by simp, ?_, by simp, by simp [sizeL]; omega, fun _ => rfl⟩
        simp only [ndL]; omega
    rw [if_neg k1]
    by_cases k3 : k = 3
    · subst k3
      rw [if_pos rfl]
      have hso : ¬ so i = true := fun h => hlf (Or.inr ⟨rfl, h⟩)
      refine ⟨emp _ _ (jn_w _ (by decide) (by decide)), by simp, ?_, by simp, by simp [sizeL]; omega, fun _ => rfl⟩
      simp [ndL, pm.nd, hso]
    rw [if_neg k3]
    by_cases k4 : k = 4
    · subst k4
      rw [if_pos rfl]
      refine ⟨emp _ _ (jn_w _ (by decide) (by decide)), by simp, ?_, by simp, by simp [sizeL]; omega, fun _ => rfl⟩
      simp [ndL, pm.nd]
    rw [if_neg k4]
    have k2 : k ≠ 2 := fun h => hlf (Or.inl h)
    have k5 : k = 5 := by rcases hk with h | ⟨h, _⟩ | h | h | ⟨h, _⟩ <;> first | exact h | (exfalso; omega)
    subst k5
    rw [Rep, if_neg (by decide), if_neg (by decide), if_neg (by decide), if_neg (by decide)] at hr
    obtain ⟨p, j, rfl, _, hp, hj, hf, hn2, hl2⟩ := hr
    have cp8 : jn 1 (p : Int) / 8 = (p : Int) := jn_val _ _ (by decide) (by decide) (by omega) (by omega)
    have h20 : 1 ≤ ts.length ∧ ts.length ≤ 20 := by rcases hk with h | ⟨h, _⟩ | h | h | ⟨_, _, h⟩ <;> first | exact h | (exfalso; omega)
    have hnd : pm.nd (.mk 5 n i re im ts) = 1 + ts.length + ndL ts := by simp [pm.nd]
    have hvl : (vrs ts.length (s.h ++ [s0.h.getD (jn 1 (p : Int) / 8).toNat 0])).length = s.h.length + 1 + ts.length := by rw [vrs_len]; simp
    have hsz : size (.mk 5 n i re im ts) = 1 + sizeL ts := by simp [tm.size]
    dsimp only
    refine ⟨⟨jn_w _ (by decide) (by decide), sound_args hs rfl, by show RepL NN s0 ts _; rw [cp8, Int.toNat_natCast]; exact hl2, Or.inr ⟨by show b ≤ s.h.length + 1; omega, by show s.h.length + 1 + ts.length ≤ _; omega⟩, by show (jn 1 (p : Int) / 8).toNat + 1 ≤ _ ∧ s.h.length + 1 ≤ _ ∧ ts.length ≤ 20; rw [cp8, Int.toNat_natCast]; omega⟩, by omega, ?_, by simp, by omega, fun h => ?_⟩
    · rw [hvl, hnd]; omega
    · rw [h] at h20; simp at h20
section
variable {E : List Int → Ob} {m : Int} {b : Nat} {p q mb pb : Nat} {s s0 : S} {n : Int} {C : Ob} {w0 wr w' : World} {N : Nat → Prop}
theorem XC.look_w (v : Env p q s0.h m b E) (fC : Fr C) {i c : Int} (h : XC w0 N E p q mb pb (s0.h.length : Int) s n C wr) (hi : W64 i) (hl : pm.look s.v i = some c) : W64 c := by
  obtain ⟨D, hD, hv, _⟩ := h.vars v fC
  have hkey : keyOf Try.prog 23 (.int .u64 i) = some (CU i) := keyOf_int_mk Try.underlying23 (WalkArith.wf_u64 (by obtain ⟨h1, h2⟩ := hi; omega))
  have hv2 := (hv i).2
  rw [hl] at hv2
  obtain ⟨c8, hlk, hat, hwc⟩ := hD.lookup_int lawU Try.underlying113 Try.underlying23 (zeroC _) hkey
  rw [hat] at hv2
  injection hv2 with e; injection e with _ e
  rw [← show c8 = c from e]
  exact cel.w64_wf hwc
/-- a frame as node tells it -/
def FV (f : Fc) : Value := LV f.1 f.2.1 (f.2.2.2.1 : Int) (f.2.2.2.2 : Int) (f.2.2.1.length : Int)
theorem cnode_any (v : Env p q s0.h m b E) (fC : Fr C) (h : XC w0 N E p q mb pb (s0.h.length : Int) s n C wr) {t : Tm} {c : Int} (hL : Laid s0 t c) (hs : sound t = true) (own : Int) (ho : own = -1 ∨ (0 ≤ own ∧ own < 1048576)) (hm : (s.h.length : Int) + pm.nd t + (if own < 0 then 1 else 0) ≤ m) (hlen : s.v.length < 1000000) (hn : 0 ≤ n ∧ n < 100000) :
    Calls Try.prog 76 #[.pointer (some ⟨pb, 0, none⟩), .int .u64 c, .int .i64 own] wr (NdP w0 N E p q mb pb s0.h (nodeC s0.h t c own s).2 n C (FV (nodeC s0.h t c own s).1)) := by
  have hll := v.ll
  have hml := v.ml
  have hcw := rep_w hL hll
  obtain ⟨hv, hr⟩ := hL
  obtain ⟨k, nm, i, re, im, ts⟩ := t
  have hk := chkk (sound_chk hs)
  rw [Rep] at hr
  rw [nodeC]
  by_cases k2 : k = 2
  · subst k2
    rw [if_pos rfl] at hr
    obtain ⟨j, rfl, hj, _⟩ := hr
    have h8 := jn_tag 2 (j : Int) (by decide) (by decide)
    rw [if_pos (Or.inl rfl)]
    exact cnode_leaf v fC h _ own hcw (Or.inl (by omega)) (fun C n w _ _ => csize_23 _ hcw (Or.inl h8)) hn
  rw [if_neg k2] at hr
  by_cases k3 : k = 3
  · subst k3
    rw [if_pos rfl] at hr
    by_cases hso : so i = true
    · rw [if_pos hso] at hr
      subst hr
      have h8 := sv_tag hso
      rw [if_pos (Or.inr ⟨rfl, hso⟩)]
      exact cnode_leaf v fC h _ own hcw (Or.inl (by omega)) (fun C n w _ _ => csize_23 _ hcw (Or.inr h8)) hn
    · rw [if_neg hso] at hr
      obtain ⟨x, rfl, _, hx, _⟩ := hr
      have h8 := jn_tag 4 (x : Int) (by decide) (by decide)
      have h9 := jn_val 4 (x : Int) (by decide) (by decide) (by omega) (by omega)
      have hnd : pm.nd (.mk 3 nm i re im ts) = 1 := by simp [pm.nd, hso]
      rw [hnd] at hm
      have hsz : SzAt w0 N E p q mb pb s0.h s (jn 4 (x : Int)) 1 := fun C n w fC h => csize_45 v fC h x 1 (Or.inl rfl) (by omega)
      rw [if_neg (by simp [hso])]
      cases hlk : pm.look s.v (jn 4 (x : Int)) with
      | some d => exact cnode_met v fC h _ own 1 d hcw (Or.inl (by omega)) hsz ⟨by decide, by decide⟩ hlk hn
      | none =>
        dsimp only
        rw [if_neg (by decide), if_pos rfl]
        have hfs : FsAt w0 N E p q mb pb s0.h s (jn 4 (x : Int)) 1 own (jn 4 (s.h.length : Int)) (fs s0.h 4 x 1 s.h) := fun C n w fC h => cfirst_any v fC h 4 x 1 own (Or.inr (Or.inr (Or.inl rfl))) (by omega) (by omega)
        have := cnode_new v fC h _ own 1 _ _ hcw (jn_w _ (by decide) (by decide)) (Or.inl (by omega)) hsz hfs ⟨by decide, by decide⟩ (by omega) hlk hlen hn
        rw [fs_4] at this
        rw [h9, Int.toNat_natCast]
        exact this
  rw [if_neg k3] at hr
  by_cases k4 : k = 4
  · subst k4
    rw [if_pos rfl] at hr
    obtain ⟨x, rfl, _, _, hx, _⟩ := hr
    have h8 := jn_tag 5 (x : Int) (by decide) (by decide)
    have h9 := jn_val 5 (x : Int) (by decide) (by decide) (by omega) (by omega)
    have hnd : pm.nd (.mk 4 nm i re im ts) = 2 := by simp [pm.nd]
    rw [hnd] at hm
    have hsz : SzAt w0 N E p q mb pb s0.h s (jn 5 (x : Int)) 2 := fun C n w fC h => csize_45 v fC h x 2 (Or.inr rfl) (by omega)
    rw [if_neg (by simp)]
    cases hlk : pm.look s.v (jn 5 (x : Int)) with
    | some d => exact cnode_met v fC h _ own 2 d hcw (Or.inl (by omega)) hsz ⟨by decide, by decide⟩ hlk hn
    | none =>
      dsimp only
      rw [if_neg (by decide), if_neg (by decide), if_pos rfl]
      have hfs : FsAt w0 N E p q mb pb s0.h s (jn 5 (x : Int)) 2 own (jn 5 (s.h.length : Int)) (fs s0.h 5 x 2 s.h) := fun C n w fC h => cfirst_any v fC h 5 x 2 own (Or.inr (Or.inr (Or.inr rfl))) (by omega) (by omega)
      have := cnode_new v fC h _ own 2 _ _ hcw (jn_w _ (by decide) (by decide)) (Or.inl (by omega)) hsz hfs ⟨by decide, by decide⟩ (by omega) hlk hlen hn
      rw [fs_5] at this
      rw [h9, Int.toNat_natCast]
      exact this
  rw [if_neg k4] at hr
  by_cases k1 : k = 1
  · subst k1
    rw [if_pos rfl] at hr
    obtain ⟨x, hcx, _, hx, hcell⟩ := hv.cell i c hr
    have he : Ends1 s0.h c := Or.inr ⟨x, hcx, hx, hcell⟩
    have hsz : SzAt w0 N E p q mb pb s0.h s c 1 := fun C n w fC h => csize_0 v fC h c x hcx hx hcell
    rw [if_neg (by simp)]
    cases hlk : pm.look s.v c with
    | some d => exact cnode_met v fC h _ own 1 d hcw he hsz ⟨by decide, by decide⟩ hlk hn
    | none =>
      dsimp only
      rw [if_pos rfl]
      by_cases h0 : own < 0
      · rw [if_pos h0] at hm ⊢
        have ho1 : own = -1 := by omega
        have hjx : jn 0 (x : Int) = c := by unfold jn; omega
        have hjs : jn 0 (s.h.length : Int) = (s.h.length : Int) * 8 := by unfold jn; omega
        have hfs : FsAt w0 N E p q mb pb s0.h s c 1 own ((s.h.length : Int) * 8) (fs s0.h 0 x 1 s.h) := fun C n w fC h => by
          have := cfirst_any v fC h 0 x 1 own (Or.inl ⟨rfl, ho1⟩) (by omega) (by simp [pm.nd] at hm; omega)
          rw [hjx, hjs] at this
          exact this
        have := cnode_new v fC h _ own 1 _ _ hcw ⟨by omega, by omega⟩ he hsz hfs ⟨by decide, by decide⟩ (by omega) hlk hlen hn
        rw [fs_0] at this
        exact this
      · rw [if_neg h0]
        have hfs : FsAt w0 N E p q mb pb s0.h s c 1 own (own * 8) s.h := fun C n w fC h =>
          (cfirst_own c 1 own hcw (by omega) (by omega) (by omega)).mono fun e w' ⟨h1, h2⟩ => ⟨h1, h2 ▸ h⟩
        exact cnode_new v fC h _ own 1 _ _ hcw ⟨by omega, by omega⟩ he hsz hfs ⟨by decide, by decide⟩ (by omega) hlk hlen hn
  rw [if_neg k1] at hr
  have k5 : k = 5 := by rcases hk with h | ⟨h, _⟩ | h | h | ⟨h, _⟩ <;> first | exact h | (exfalso; omega)
  subst k5
  have h20 : 1 ≤ ts.length ∧ ts.length ≤ 20 := by rcases hk with h | ⟨h, _⟩ | h | h | ⟨_, _, h⟩ <;> first | exact h | (exfalso; omega)
  obtain ⟨x, j, rfl, _, hx, hj, hf, _, _⟩ := hr
  have h8 := jn_tag 1 (x : Int) (by decide) (by decide)
  have h9 := jn_val 1 (x : Int) (by decide) (by decide) (by omega) (by omega)
  have hnd : pm.nd (.mk 5 nm i re im ts) = 1 + ts.length + ndL ts := by simp [pm.nd]
  rw [hnd] at hm
  have hsz : SzAt w0 N E p q mb pb s0.h s (jn 1 (x : Int)) (1 + (ts.length : Int)) := fun C n w fC h => csize_1 v fC h x ts.length j h20 hj hx hf
  rw [if_neg (by simp)]
  cases hlk : pm.look s.v (jn 1 (x : Int)) with
  | some d => exact cnode_met v fC h _ own _ d hcw (Or.inl (by omega)) hsz ⟨by omega, by omega⟩ hlk hn
  | none =>
    dsimp only
    rw [if_neg (by decide), if_neg (by decide), if_neg (by decide)]
    have hfs : FsAt w0 N E p q mb pb s0.h s (jn 1 (x : Int)) (1 + (ts.length : Int)) own (jn 1 (s.h.length : Int)) (fs s0.h 1 x (ts.length + 1) s.h) := fun C n w fC h => by
      have := cfirst_any v fC h 1 x (ts.length + 1) own (Or.inr (Or.inl rfl)) (by omega) (by omega)
      rw [show ((ts.length + 1 : Nat) : Int) = 1 + (ts.length : Int) by omega] at this
      exact this
    have := cnode_comp v fC h _ own _ _ _ hcw (jn_w _ (by decide) (by decide)) (Or.inl (by omega)) hsz hfs ⟨by omega, by omega⟩ h8 hlk hlen hn
    have g9 := jn_val 1 (s.h.length : Int) (by decide) (by decide) (by omega) (by omega)
    rw [fs_1, h9, g9, show 1 + (ts.length : Int) - 1 = (ts.length : Int) by omega] at this
    rw [h9, Int.toNat_natCast]
    exact this
end
end Go.Proofs.Ythableojkjhicaa.cpy
namespace Go.Proofs.Ythableojkjhicaa.cpy
open Go.ChangeShapes Go.WideShapes Go.ChangeAt Go.RowKit Go.Maps
open Go.Proofs.Ythableojkjhicaa.kp Go.Proofs.Ythableojkjhicaa.cel Go.Proofs.Ythableojkjhicaa.hp Go.Proofs.Ythableojkjhicaa.ob Go.Proofs.Ythableojkjhicaa.tm Go.Proofs.Ythableojkjhicaa.pm
open Go.Proofs.Ythableojkjhicaa.rpt (HB frHB zeroC)
open Go.Proofs.Ythableojkjhicaa.ppt (wp_scope_du du du_le)
set_option linter.unusedVariables false
/-- the stack's cells, the lowest first -/
def cellsC : List Fc → List Value
  | [] => []
  | f :: r => cellsC r ++ [.int .u64 f.1, .int .i64 f.2.1, .int .i64 (f.2.2.2.1 : Int), .int .i64 (f.2.2.2.2 : Int), .int .i64 (f.2.2.1.length : Int)]
theorem cellsC_len : ∀ r : List Fc, (cellsC r).length = r.length * 5
  | [] => rfl
  | f :: r => by rw [cellsC, List.length_append, cellsC_len r]; simp only [List.length_cons, List.length_nil]; omega
theorem infoC : (Try.prog.info? 118).map (fun i => (i.zero, i.size, i.bytes)) = some (some (.agg #[.int .u64 0, .int .i64 0, .int .i64 0, .int .i64 0, .int .i64 0]), 5, 40) := by kernel_rfl
theorem ixC_rule {g n c k : Nat} (hk : k < n) (w : World) : (Instr.indexAt 116 (.slice (some ⟨g, 0, none⟩) n c) (.int .i64 (k : Int))).run Try.prog w = .ok (.pointer (some ⟨g, k * 5, none⟩)) w := by
  have he : Try.prog.elem 116 = 118 := by kernel_rfl
  have hz : (sizeOf 118).run Try.prog w = .ok 5 w := by kernel_rfl
  rw [run_indexAt_slice w 116 _ _ _ _ _ (by rw [he]; exact Try.underlying116), if_pos ⟨by omega, by omega⟩, he, hz]
  simp [Result.andThen, Addr.add]
  omega
theorem cell_five_new (w : World) (x0 x1 x2 x3 x4 : Value) (t : TypeId) : ∀ j u, [x0, x1, x2, x3, x4][j]? = some u → (w.alloc (.cells #[x0, x1, x2, x3, x4] t)).cell? ((⟨w.heap.size, 0, none⟩ : Addr).add j) = some u := by
  intro j u hj
  have h := kp.alloc_at w (.cells #[x0, x1, x2, x3, x4] t)
  have e : (⟨w.heap.size, 0, none⟩ : Addr).add j = ⟨w.heap.size, j, none⟩ := by simp [Addr.add]; omega
  rw [e]
  simp only [World.cell?, h]
  simpa using hj
section
variable {E : List Int → Ob} {m : Int} {b : Nat} {p q mb pb : Nat} {s s' s0 : S} {n : Int} {C : Ob} {w0 wr w w' : World} {N : Nat → Prop} {e : Int}
/-- the row's last element -/
theorem XC.top (v9 : Env p q s0.h m b E) {xs0 ys : List Value} {v : Value} {j : Nat} (h : XC w0 N E p q mb pb e s n (Row 118 5 v (j + 1) (xs0 ++ ys)) wr) (hl : xs0.length = j * 5) (hy : ys.length = 5) : ∃ g c, v = .slice (some ⟨g, 0, none⟩) (j + 1) c ∧ j + 1 ≤ c ∧
    (∀ i, i < 5 → wr.cell? ⟨g, j * 5 + i, none⟩ = ys[i]?) ∧ (∀ i, wr.frozen? ⟨g, i, none⟩ = false) ∧
    (∀ i u, i < 5 → XC w0 N E p q mb pb e s n (Row 118 5 (.slice (some ⟨g, 0, none⟩) (j + 1) c) (j + 1) (xs0 ++ ys.set i u)) (wr.setCell ⟨g, j * 5 + i, none⟩ u)) ∧
    XC w0 N E p q mb pb e s n (Row 118 5 (.slice (some ⟨g, 0, none⟩) j c) j xs0) wr := by
  obtain ⟨M, ⟨hr, hM⟩, up⟩ := h.open2 v9
  rcases hr.2 with ⟨_, e0⟩ | ⟨g, c, cur, hv, _, hg, hc, _⟩
  · omega
  subst hv
  refine ⟨g, c, rfl, hc, fun i hi => ?_, hr.frozenAt, fun i u hi => ?_, ?_⟩
  · rw [hr.cellAt _ (by rw [Nat.add_mul]; omega), List.getElem?_append_right (by omega), hl]
    congr 1; omega
  · refine up _ _ ⟨M, ⟨?_, hM⟩, Keep.setCell wr ((hM g).2 rfl) u, fun _ => Or.inl⟩
    have := (hr.stored (j * 5 + i) u).1
    rw [List.set_append_right _ _ (by omega), hl, Nat.add_sub_cancel_left] at this
    exact this
  · refine up _ _ ⟨M, ⟨?_, fun k => by rw [hM k]; rfl⟩, Keep.refl _ _, fun _ => Or.inl⟩
    have := own_cut hr (k := j) (by omega)
    rw [List.take_append_of_le_length (by omega), List.take_of_length_le (by omega)] at this
    exact this
theorem XC.set3 (v9 : Env p q s0.h m b E) {xs0 : List Value} {x0 x1 x2 x3 x4 : Value} {j g c : Nat} (h : XC w0 N E p q mb pb e s n (Row 118 5 (.slice (some ⟨g, 0, none⟩) (j + 1) c) (j + 1) (xs0 ++ [x0, x1, x2, x3, x4])) wr) (hl : xs0.length = j * 5) (y2 y3 y4 : Value) :
    XC w0 N E p q mb pb e s n (Row 118 5 (.slice (some ⟨g, 0, none⟩) (j + 1) c) (j + 1) (xs0 ++ [x0, x1, y2, y3, y4])) (((wr.setCell ⟨g, j * 5 + 2, none⟩ y2).setCell ⟨g, j * 5 + 3, none⟩ y3).setCell ⟨g, j * 5 + 4, none⟩ y4) := by
  obtain ⟨g1, c1, e1, _, _, _, s1, _⟩ := XC.top v9 h hl rfl
  injection e1 with e1 _ e3
  injection e1 with e1
  injection e1 with e1
  subst e1 e3
  obtain ⟨g2, c2, e2, _, _, _, s2, _⟩ := XC.top v9 (s1 2 y2 (by omega)) hl rfl
  injection e2 with e2 _ e4
  injection e2 with e2
  injection e2 with e2
  subst e2 e4
  obtain ⟨g3, c3, e3, _, _, _, s3, _⟩ := XC.top v9 (s2 3 y3 (by omega)) hl rfl
  injection e3 with e3 _ e5
  injection e3 with e3
  injection e3 with e3
  subst e3 e5
  exact s3 4 y4 (by omega)
theorem XC.shape (v9 : Env p q s0.h m b E) {xs : List Value} {v : Value} {k : Nat} (h : XC w0 N E p q mb pb e s n (Row 118 5 v k xs) wr) : ∃ a c, v = .slice a k c := by
  obtain ⟨M, r, _⟩ := h.open2 v9
  exact r.shape
theorem XC.cutRow {xs : List Value} {v : Value} {k : Nat} (h : XC w0 N E p q mb pb e s n (Row 118 5 v k xs) wr) : Nx (CB E p q mb pb e s n) w0 N wr := by
  obtain ⟨K, ⟨K1, M1, a, bb, d, ee⟩, kk, sub⟩ := h
  exact ⟨K1, a, kk, fun i hi => sub i ((ee i).2 (Or.inl hi))⟩
theorem XC.begin (h : CB E p q mb pb e s n w N) : XC w N E p q mb pb e s n (Row 118 5 (.slice none 0 0) 0 []) w :=
  ⟨N, ⟨N, fun _ => False, h, Row.nil w, fun _ _ => id, fun i => by simp⟩, Keep.refl _ _, fun _ => Or.inl⟩
end
def J1 (w : World) (N : Nat → Prop) (E : List Int → Ob) (p q mb pb b : Nat) (m : Int) (s0 : S) (R : Int × S) (n9 : Nat) (a' : Act) (w' : World) : Prop :=
  ∃ (f : Fc) (r : List Fc) (v : Value) (s : S) (n : Int) (U : Nat → Value), n9 = weiC (f :: r) + 1 ∧ FokC s0 s.h.length b (f :: r) ∧ finC s0.h (f :: r) s = R ∧ (0 ≤ n ∧ n + restS (f :: r) ≤ 100000) ∧ s.v.length + restS (f :: r) ≤ 900000 ∧ (s.h.length : Int) + restN (f :: r) ≤ m ∧ (f :: r).length + restS (f :: r) ≤ 5000 ∧ b ≤ s.h.length ∧ XC w N E p q mb pb (s0.h.length : Int) s n (Row 118 5 v (f :: r).length (cellsC (f :: r))) w' ∧
    a' = { tmps := (.pointer (some ⟨pb, 0, none⟩) :: U 1 :: U 2 :: U 3 :: U 4 :: U 5 :: v :: U 7 :: U 8 :: U 9 :: U 10 :: U 11 :: U 12 :: U 13 :: U 14 :: U 15 :: U 16 :: U 17 :: U 18 :: U 19 :: U 20 :: U 21 :: U 22 :: U 23 :: U 24 :: U 25 :: U 26 :: U 27 :: U 28 :: U 29 :: U 30 :: U 31 :: U 32 :: U 33 :: U 34 :: U 35 :: U 36 :: U 37 :: U 38 :: U 39 :: U 40 :: U 41 :: U 42 :: U 43 :: U 44 :: U 45 :: U 46 :: U 47 :: U 48 :: U 49 :: U 50 :: U 51 :: U 52 :: U 53 :: U 54 :: U 55 :: U 56 :: U 57 :: U 58 :: U 59 :: U 60 :: U 61 :: U 62 :: U 63 :: U 64 :: U 65 :: U 66 :: U 67 :: U 68 :: U 69 :: U 70 :: U 71 :: U 72 :: U 73 :: U 74 :: U 75 :: U 76 :: U 77 :: U 78 :: U 79 :: U 80 :: U 81 :: U 82 :: U 83 :: U 84 :: U 85 :: U 86 :: U 87 :: U 88 :: U 89 :: U 90 :: U 91 :: U 92 :: U 93 :: U 94 :: U 95 :: U 96 :: U 97 :: U 98 :: []).toArray, defers := [] }
theorem J1.mk {w : World} {N : Nat → Prop} {E : List Int → Ob} {p q mb pb b : Nat} {m : Int} {s0 : S} {R : Int × S} {n9 : Nat} {a' : Act} {w' : World} (f : Fc) (r : List Fc) (v : Value) (s : S) (n : Int) (h0 : n9 = weiC (f :: r) + 1) (h1 : FokC s0 s.h.length b (f :: r)) (h2 : finC s0.h (f :: r) s = R) (h3 : (0 ≤ n ∧ n + restS (f :: r) ≤ 100000)) (h4 : s.v.length + restS (f :: r) ≤ 900000) (h5 : (s.h.length : Int) + restN (f :: r) ≤ m) (h6 : (f :: r).length + restS (f :: r) ≤ 5000) (h7 : b ≤ s.h.length) (h8 : XC w N E p q mb pb (s0.h.length : Int) s n (Row 118 5 v (f :: r).length (cellsC (f :: r))) w')
    (h : a' = { tmps := (.pointer (some ⟨pb, 0, none⟩) :: a'.tmps.getD 1 undef :: a'.tmps.getD 2 undef :: a'.tmps.getD 3 undef :: a'.tmps.getD 4 undef :: a'.tmps.getD 5 undef :: v :: a'.tmps.getD 7 undef :: a'.tmps.getD 8 undef :: a'.tmps.getD 9 undef :: a'.tmps.getD 10 undef :: a'.tmps.getD 11 undef :: a'.tmps.getD 12 undef :: a'.tmps.getD 13 undef :: a'.tmps.getD 14 undef :: a'.tmps.getD 15 undef :: a'.tmps.getD 16 undef :: a'.tmps.getD 17 undef :: a'.tmps.getD 18 undef :: a'.tmps.getD 19 undef :: a'.tmps.getD 20 undef :: a'.tmps.getD 21 undef :: a'.tmps.getD 22 undef :: a'.tmps.getD 23 undef :: a'.tmps.getD 24 undef :: a'.tmps.getD 25 undef :: a'.tmps.getD 26 undef :: a'.tmps.getD 27 undef :: a'.tmps.getD 28 undef :: a'.tmps.getD 29 undef :: a'.tmps.getD 30 undef :: a'.tmps.getD 31 undef :: a'.tmps.getD 32 undef :: a'.tmps.getD 33 undef :: a'.tmps.getD 34 undef :: a'.tmps.getD 35 undef :: a'.tmps.getD 36 undef :: a'.tmps.getD 37 undef :: a'.tmps.getD 38 undef :: a'.tmps.getD 39 undef :: a'.tmps.getD 40 undef :: a'.tmps.getD 41 undef :: a'.tmps.getD 42 undef :: a'.tmps.getD 43 undef :: a'.tmps.getD 44 undef :: a'.tmps.getD 45 undef :: a'.tmps.getD 46 undef :: a'.tmps.getD 47 undef :: a'.tmps.getD 48 undef :: a'.tmps.getD 49 undef :: a'.tmps.getD 50 undef :: a'.tmps.getD 51 undef :: a'.tmps.getD 52 undef :: a'.tmps.getD 53 undef :: a'.tmps.getD 54 undef :: a'.tmps.getD 55 undef :: a'.tmps.getD 56 undef :: a'.tmps.getD 57 undef :: a'.tmps.getD 58 undef :: a'.tmps.getD 59 undef :: a'.tmps.getD 60 undef :: a'.tmps.getD 61 undef :: a'.tmps.getD 62 undef :: a'.tmps.getD 63 undef :: a'.tmps.getD 64 undef :: a'.tmps.getD 65 undef :: a'.tmps.getD 66 undef :: a'.tmps.getD 67 undef :: a'.tmps.getD 68 undef :: a'.tmps.getD 69 undef :: a'.tmps.getD 70 undef :: a'.tmps.getD 71 undef :: a'.tmps.getD 72 undef :: a'.tmps.getD 73 undef :: a'.tmps.getD 74 undef :: a'.tmps.getD 75 undef :: a'.tmps.getD 76 undef :: a'.tmps.getD 77 undef :: a'.tmps.getD 78 undef :: a'.tmps.getD 79 undef :: a'.tmps.getD 80 undef :: a'.tmps.getD 81 undef :: a'.tmps.getD 82 undef :: a'.tmps.getD 83 undef :: a'.tmps.getD 84 undef :: a'.tmps.getD 85 undef :: a'.tmps.getD 86 undef :: a'.tmps.getD 87 undef :: a'.tmps.getD 88 undef :: a'.tmps.getD 89 undef :: a'.tmps.getD 90 undef :: a'.tmps.getD 91 undef :: a'.tmps.getD 92 undef :: a'.tmps.getD 93 undef :: a'.tmps.getD 94 undef :: a'.tmps.getD 95 undef :: a'.tmps.getD 96 undef :: a'.tmps.getD 97 undef :: a'.tmps.getD 98 undef :: []).toArray, defers := [] }) : J1 w N E p q mb pb b m s0 R n9 a' w' :=
  ⟨f, r, v, s, n, fun i => a'.tmps.getD i undef, h0, h1, h2, h3, h4, h5, h6, h7, h8, h⟩
def J0 (w : World) (N : Nat → Prop) (E : List Int → Ob) (p q mb pb b : Nat) (m : Int) (s0 : S) (R : Int × S) (n9 : Nat) (a' : Act) (w' : World) : Prop :=
  ∃ (t : Tm) (c own : Int) (r : List Fc) (v : Value) (s : S) (n : Int) (U : Nat → Value), n9 = 4 * tm.size t + weiC r ∧ ((own = -1 ∧ r = []) ∨ ((b : Int) ≤ own ∧ own < (s.h.length : Int) ∧ r ≠ [])) ∧ FokC s0 s.h.length b r ∧ (sound t = true ∧ Laid s0 t c) ∧ dnC s0.h t c own r s = R ∧ (0 ≤ n ∧ n + (tm.size t + restS r) ≤ 100000) ∧ s.v.length + (tm.size t + restS r) ≤ 900000 ∧ (s.h.length : Int) + pm.nd t + restN r + (if own < 0 then 1 else 0) ≤ m ∧ r.length + (tm.size t + restS r) ≤ 5000 ∧ b ≤ s.h.length ∧ XC w N E p q mb pb (s0.h.length : Int) s n (Row 118 5 v r.length (cellsC r)) w' ∧
    a' = { tmps := (.pointer (some ⟨pb, 0, none⟩) :: .int .u64 c :: U 2 :: U 3 :: U 4 :: U 5 :: v :: .int .i64 own :: U 8 :: U 9 :: U 10 :: U 11 :: U 12 :: U 13 :: U 14 :: U 15 :: U 16 :: U 17 :: U 18 :: U 19 :: U 20 :: U 21 :: U 22 :: U 23 :: U 24 :: U 25 :: U 26 :: U 27 :: U 28 :: U 29 :: U 30 :: U 31 :: U 32 :: U 33 :: U 34 :: U 35 :: U 36 :: U 37 :: U 38 :: U 39 :: U 40 :: U 41 :: U 42 :: U 43 :: U 44 :: U 45 :: U 46 :: U 47 :: U 48 :: U 49 :: U 50 :: U 51 :: U 52 :: U 53 :: U 54 :: U 55 :: U 56 :: U 57 :: U 58 :: U 59 :: U 60 :: U 61 :: U 62 :: U 63 :: U 64 :: U 65 :: U 66 :: U 67 :: U 68 :: U 69 :: U 70 :: U 71 :: U 72 :: U 73 :: U 74 :: U 75 :: U 76 :: U 77 :: U 78 :: U 79 :: U 80 :: U 81 :: U 82 :: U 83 :: U 84 :: U 85 :: U 86 :: U 87 :: U 88 :: U 89 :: U 90 :: U 91 :: U 92 :: U 93 :: U 94 :: U 95 :: U 96 :: U 97 :: U 98 :: []).toArray, defers := [] }
theorem J0.mk {w : World} {N : Nat → Prop} {E : List Int → Ob} {p q mb pb b : Nat} {m : Int} {s0 : S} {R : Int × S} {n9 : Nat} {a' : Act} {w' : World} (t : Tm) (c own : Int) (r : List Fc) (v : Value) (s : S) (n : Int) (h0 : n9 = 4 * tm.size t + weiC r) (h1 : ((own = -1 ∧ r = []) ∨ ((b : Int) ≤ own ∧ own < (s.h.length : Int) ∧ r ≠ []))) (h2 : FokC s0 s.h.length b r) (h3 : (sound t = true ∧ Laid s0 t c)) (h4 : dnC s0.h t c own r s = R) (h5 : (0 ≤ n ∧ n + (tm.size t + restS r) ≤ 100000)) (h6 : s.v.length + (tm.size t + restS r) ≤ 900000) (h7 : (s.h.length : Int) + pm.nd t + restN r + (if own < 0 then 1 else 0) ≤ m) (h8 : r.length + (tm.size t + restS r) ≤ 5000) (h9 : b ≤ s.h.length) (h10 : XC w N E p q mb pb (s0.h.length : Int) s n (Row 118 5 v r.length (cellsC r)) w')
    (h : a' = { tmps := (.pointer (some ⟨pb, 0, none⟩) :: .int .u64 c :: a'.tmps.getD 2 undef :: a'.tmps.getD 3 undef :: a'.tmps.getD 4 undef :: a'.tmps.getD 5 undef :: v :: .int .i64 own :: a'.tmps.getD 8 undef :: a'.tmps.getD 9 undef :: a'.tmps.getD 10 undef :: a'.tmps.getD 11 undef :: a'.tmps.getD 12 undef :: a'.tmps.getD 13 undef :: a'.tmps.getD 14 undef :: a'.tmps.getD 15 undef :: a'.tmps.getD 16 undef :: a'.tmps.getD 17 undef :: a'.tmps.getD 18 undef :: a'.tmps.getD 19 undef :: a'.tmps.getD 20 undef :: a'.tmps.getD 21 undef :: a'.tmps.getD 22 undef :: a'.tmps.getD 23 undef :: a'.tmps.getD 24 undef :: a'.tmps.getD 25 undef :: a'.tmps.getD 26 undef :: a'.tmps.getD 27 undef :: a'.tmps.getD 28 undef :: a'.tmps.getD 29 undef :: a'.tmps.getD 30 undef :: a'.tmps.getD 31 undef :: a'.tmps.getD 32 undef :: a'.tmps.getD 33 undef :: a'.tmps.getD 34 undef :: a'.tmps.getD 35 undef :: a'.tmps.getD 36 undef :: a'.tmps.getD 37 undef :: a'.tmps.getD 38 undef :: a'.tmps.getD 39 undef :: a'.tmps.getD 40 undef :: a'.tmps.getD 41 undef :: a'.tmps.getD 42 undef :: a'.tmps.getD 43 undef :: a'.tmps.getD 44 undef :: a'.tmps.getD 45 undef :: a'.tmps.getD 46 undef :: a'.tmps.getD 47 undef :: a'.tmps.getD 48 undef :: a'.tmps.getD 49 undef :: a'.tmps.getD 50 undef :: a'.tmps.getD 51 undef :: a'.tmps.getD 52 undef :: a'.tmps.getD 53 undef :: a'.tmps.getD 54 undef :: a'.tmps.getD 55 undef :: a'.tmps.getD 56 undef :: a'.tmps.getD 57 undef :: a'.tmps.getD 58 undef :: a'.tmps.getD 59 undef :: a'.tmps.getD 60 undef :: a'.tmps.getD 61 undef :: a'.tmps.getD 62 undef :: a'.tmps.getD 63 undef :: a'.tmps.getD 64 undef :: a'.tmps.getD 65 undef :: a'.tmps.getD 66 undef :: a'.tmps.getD 67 undef :: a'.tmps.getD 68 undef :: a'.tmps.getD 69 undef :: a'.tmps.getD 70 undef :: a'.tmps.getD 71 undef :: a'.tmps.getD 72 undef :: a'.tmps.getD 73 undef :: a'.tmps.getD 74 undef :: a'.tmps.getD 75 undef :: a'.tmps.getD 76 undef :: a'.tmps.getD 77 undef :: a'.tmps.getD 78 undef :: a'.tmps.getD 79 undef :: a'.tmps.getD 80 undef :: a'.tmps.getD 81 undef :: a'.tmps.getD 82 undef :: a'.tmps.getD 83 undef :: a'.tmps.getD 84 undef :: a'.tmps.getD 85 undef :: a'.tmps.getD 86 undef :: a'.tmps.getD 87 undef :: a'.tmps.getD 88 undef :: a'.tmps.getD 89 undef :: a'.tmps.getD 90 undef :: a'.tmps.getD 91 undef :: a'.tmps.getD 92 undef :: a'.tmps.getD 93 undef :: a'.tmps.getD 94 undef :: a'.tmps.getD 95 undef :: a'.tmps.getD 96 undef :: a'.tmps.getD 97 undef :: a'.tmps.getD 98 undef :: []).toArray, defers := [] }) : J0 w N E p q mb pb b m s0 R n9 a' w' :=
  ⟨t, c, own, r, v, s, n, fun i => a'.tmps.getD i undef, h0, h1, h2, h3, h4, h5, h6, h7, h8, h9, h10, h⟩

section
variable {E : List Int → Ob} {m : Int} {b : Nat} {p q mb pb : Nat} {s s0 : S} {n : Int} {w w' : World} {N : Nat → Prop}
set_option maxRecDepth 100000 in
set_option maxHeartbeats 8000000 in
theorem clay_any (v9 : Env p q s0.h m b E) (h : CB E p q mb pb (s0.h.length : Int) s n w N) {t : Tm} {c : Int} (hL : Laid s0 t c) (hs : sound t = true) (hn : 0 ≤ n ∧ n + tm.size t ≤ 100000) (hv : s.v.length + tm.size t ≤ 900000) (hz : tm.size t ≤ 4000) (hm : (s.h.length : Int) + pm.nd t + 1 ≤ m) (hb : b ≤ s.h.length) (R : Int × S) (hR : cp s0.h t c (-1) s = R) :
    Calls Try.prog 48 #[.pointer (some ⟨pb, 0, none⟩), .int .u64 c] w fun e w' => e = .returned (.tuple #[.int .u64 R.1, .int .i64 0]) ∧ ∃ n', Nx (CB E p q mb pb (s0.h.length : Int) R.2 n') w N w' := by
  have X1 := Lib.hid (XC.begin h)
  have HV := Lib.hid v9
  have HN := Lib.hid (And.intro hL (And.intro hs (And.intro hn (And.intro hv (And.intro hz (And.intro hm (And.intro hb hR)))))))
  clear h v9 hL hs hn hv hz hm hb hR
  go_enter Try.func48, Try.ntmps48
  go_wp2_with fail
  refine wp_scope_du (J0 w N E p q mb pb b m s0 R) (J1 w N E p q mb pb b m s0 R) rfl rfl ?_ ?_ ?_
  · rintro n9 a9 w9 ⟨⟨fd, fo, fl, fy, fx⟩, r, v, s', n', U, hn, hok, hfin, hvis, hv', hm', hd', hb', x, rfl⟩
    have hl0 := cellsC_len r
    rw [cellsC] at x
    obtain ⟨g, cg, rfl, hcg, hcell, hfz, hset, hpop⟩ := XC.top HV.out x hl0 rfl
    have z0 := hcell 0 (by omega)
    have z1 := hcell 1 (by omega)
    have z2 := hcell 2 (by omega)
    have z3 := hcell 3 (by omega)
    have z4 := hcell 4 (by omega)
    simp only [Nat.add_zero, List.getElem?_cons_zero, List.getElem?_cons_succ] at z0 z1 z2 z3 z4
    have fz2 := hfz (r.length * 5 + 2)
    have fz3 := hfz (r.length * 5 + 3)
    have fz4 := hfz (r.length * 5 + 4)
    have ix := fun w => ixC_rule (g := g) (n := r.length + 1) (c := cg) (k := r.length) (by omega) w
    obtain ⟨⟨c0, c1, c2, c3, c4⟩, f4⟩ := x.five HV.out Fr.row
    obtain ⟨kfo, kown, kok⟩ := hok
    simp only [List.length_cons] at hd'
    have hd9 : r.length + 1 ≤ 5000 := by omega
    dsimp only at *
    cases fl with
    | nil =>
      have HF := Lib.hid (show (if fo = -1 then (fd, s') else finC s0.h r ⟨s'.h.set fo.toNat fd, s'.a, s'.v⟩) = R by rw [← hfin, finC_nil])
      have HX := Lib.hid x
      have HS := Lib.hid (And.intro hn (And.intro kfo (And.intro kok (And.intro hvis (And.intro hv' (And.intro hm' (And.intro hd' (And.intro hb' hl0))))))))
      simp only [List.length_nil] at z4
      by_cases hfo : fo = -1
      · subst hfo
        clear hn kfo kown kok hvis hv' hm' hd' hb' hl0 hfin x hset hpop hcell hfz
        go_wp2_with fail
        simp only [du]
        change bodyPost _ _ _ Exit.ret _ _
        go_ret2
        have hf := HF.out
        first | rw [if_pos rfl] at hf | rw [if_pos trivial] at hf
        rw [← hf]
        exact ⟨rfl, _, HX.out.cutRow⟩
      · rcases kown with ⟨e, _⟩ | ⟨f0, f1, hne⟩
        · exact absurd e hfo
        obtain ⟨on, hon⟩ := Int.eq_ofNat_of_zero_le (show 0 ≤ fo by omega)
        subst hon
        have hneq : ((on : Int) == -1) = false := by rw [beq_eq_false_iff_ne]; exact hfo
        have hset2 := fun wx (hx : XC w N E p q mb pb (s0.h.length : Int) s' n' (Row 118 5 (.slice (some ⟨g, 0, none⟩) r.length cg) r.length (cellsC r)) wx) => cSet HV.out Fr.row hx on fd (by omega) (by omega) kfo.w
        have HP := Lib.hid (And.intro hpop (And.intro hne hfo))
        clear hn kfo kok hvis hv' hm' hd' hb' hl0 hfin x hset hpop hcell hfz f0 f1 hne hfo
        generalize hoi : (on : Int) = oi at *
        go_wp2_with fail
        go_still_tail 12, (by kernel_rfl)
        change wpList _ _ _ _ _ w9.drew
        have h1 := hset2 w9.drew (HP.out.1.drew HV.out Fr.row)
        generalize w9.drew = wd at *
        clear hset2 z0 z1 z2 z3 z4 fz2 fz3 fz4 c0 c1 c2 c3 c4 f4
        go_wp2_with fail
        refine h1.mono ?_; rintro e w2 ⟨rfl, x2⟩
        have X2 := Lib.hid x2
        clear x2 h1
        go_wp2_with fail
        go_step3
        obtain ⟨hn, kfo, kok, hvis, hv', hm', hd', hb', hl0⟩ := HS.out
        have hf := HF.out
        rw [if_neg (by subst hoi; exact HP.out.2.2), show oi.toNat = on by omega] at hf
        cases r with
        | nil => exact absurd rfl HP.out.2.1
        | cons f' r' =>
          have hr1 : restS ((fd, oi, [], fy, fx) :: f' :: r') = restS (f' :: r') := by show sizeL [] + _ = _; rw [sizeL]; omega
          have hr3 : restN ((fd, oi, [], fy, fx) :: f' :: r') = restN (f' :: r') := by show ndL [] + _ = _; rw [ndL]; omega
          have hr2 : weiC ((fd, oi, [], fy, fx) :: f' :: r') = 2 + weiC (f' :: r') := by show 2 + 4 * sizeL [] + _ = _; rw [sizeL]
          rw [hr1] at hvis hv' hd'
          rw [hr3] at hm'
          have hsl : (s'.h.set on fd).length = s'.h.length := by simp
          refine ⟨weiC (f' :: r') + 1, by omega, Or.inr ⟨rfl, J1.mk f' r' _ ⟨s'.h.set on fd, s'.a, s'.v⟩ n' rfl (kok.mono (by show s'.h.length ≤ (s'.h.set on fd).length; omega)) hf hvis hv' (by show ((s'.h.set on fd).length : Int) + _ ≤ m; rw [hsl]; exact hm') (by omega) (by show b ≤ (s'.h.set on fd).length; omega) X2.out rfl⟩⟩
    | cons t1 l1 =>
      have HF := Lib.hid (show dnC s0.h t1 (s0.h.getD fy 0) fx ((fd, fo, l1, fy + 1, fx + 1) :: r) s' = R by rw [← hfin, finC_step])
      have hrl := kfo.r
      dsimp only at hrl
      rw [RepL] at hrl
      obtain ⟨_, hy1, hy2, hy3⟩ := hrl
      have hgt := cget_any HV.out Fr.row x fy hy1
      have HS := Lib.hid (And.intro hn (And.intro kfo (And.intro kok (And.intro hvis (And.intro hv' (And.intro hm' (And.intro hd' (And.intro hb' (And.intro hl0 (And.intro hy2 (And.intro hy3 (And.intro hy1 kown))))))))))))
      have HX := Lib.hid x
      have hfy : (fy : Int) ≤ 1048577 := by have := kfo.y.1; dsimp only at this; omega
      have hfx : (fx : Int) ≤ 1048577 := by have := kfo.y.2.1; dsimp only at this; omega
      have hlw : (l1.length : Int) + 1 ≤ 21 := by have := kfo.y.2.2; simp only [List.length_cons] at this; omega
      simp only [List.length_cons] at z4
      rw [show ((l1.length + 1 : Nat) : Int) = (l1.length : Int) + 1 by omega] at z4
      have hl9 : 0 ≤ (l1.length : Int) := by omega
      have hfy0 : 0 ≤ (fy : Int) := by omega
      have hfx0 : 0 ≤ (fx : Int) := by omega
      clear hn kfo kown kok hvis hv' hm' hd' hb' hl0 hfin x hset hpop hcell hfz hy1 hy2 hy3
      obtain ⟨c1v, hc1v⟩ : ∃ c1v, c1v = s0.h.getD fy 0 := ⟨_, rfl⟩
      rw [← hc1v] at hgt
      have HC := Lib.hid hc1v
      clear hc1v
      go_wp2_with fail
      refine hgt.mono ?_; rintro e w' ⟨rfl, rfl⟩
      clear hgt
      go_upto_region 11 with fail
      go_region
      obtain ⟨w1, hw1⟩ : ∃ w1, w1 = (((w9.setCell ⟨g, r.length * 5 + 2, none⟩ (.int .i64 ((fy : Int) + 1))).setCell ⟨g, r.length * 5 + 3, none⟩ (.int .i64 ((fx : Int) + 1))).setCell ⟨g, r.length * 5 + 4, none⟩ (.int .i64 (l1.length : Int))).drew := ⟨_, rfl⟩
      have x1 : XC w N E p q mb pb (s0.h.length : Int) s' n' (Row 118 5 (.slice (some ⟨g, 0, none⟩) (r.length + 1) cg) (r.length + 1) (cellsC r ++ [.int .u64 fd, .int .i64 fo, .int .i64 ((fy : Int) + 1), .int .i64 ((fx : Int) + 1), .int .i64 (l1.length : Int)])) w1 := by
        rw [hw1]; exact (XC.set3 HV.out HX.out HS.out.2.2.2.2.2.2.2.2.1 _ _ _).drew HV.out Fr.row
      have X1' := Lib.hid x1
      rw [← hw1]
      clear hw1 x1 z0 z1 z2 z3 z4 fz2 fz3 fz4 c0 c1 c2 c3 c4 f4
      go_wp2_with fail
      go_step3
      obtain ⟨hn, kfo, kok, hvis, hv', hm', hd', hb', hl0, hy2, hy3, hy1, kown⟩ := HS.out
      have hrs : restS ((fd, fo, t1 :: l1, fy, fx) :: r) = tm.size t1 + restS ((fd, fo, l1, fy + 1, fx + 1) :: r) := by
        show sizeL (t1 :: l1) + restS r = _ + (sizeL l1 + restS r)
        rw [sizeL]; omega
      have hrn : restN ((fd, fo, t1 :: l1, fy, fx) :: r) = pm.nd t1 + restN ((fd, fo, l1, fy + 1, fx + 1) :: r) := by
        show ndL (t1 :: l1) + restN r = _ + (ndL l1 + restN r)
        rw [ndL]; omega
      have hws : weiC ((fd, fo, t1 :: l1, fy, fx) :: r) = 4 * tm.size t1 + weiC ((fd, fo, l1, fy + 1, fx + 1) :: r) := by
        show 2 + 4 * sizeL (t1 :: l1) + weiC r = _ + (2 + 4 * sizeL l1 + weiC r)
        rw [sizeL]; omega
      rw [hrs] at hvis hv' hd'
      rw [hrn] at hm'
      have kx := kfo.x.resolve_left (by simp)
      have ky := kfo.y
      simp only [List.length_cons] at kx ky
      have kfo2 : Fo s0 s'.h.length b (fd, fo, l1, fy + 1, fx + 1) := ⟨kfo.w, fun t ht => kfo.s t (List.mem_cons_of_mem _ ht), hy3, Or.inr ⟨by show b ≤ fx + 1; omega, by show fx + 1 + l1.length ≤ _; omega⟩, by
        show fy + 1 ≤ _ ∧ fx + 1 ≤ _ ∧ l1.length ≤ 20
        have := HV.out.ll
        have := HV.out.ml
        omega⟩
      refine ⟨4 * tm.size t1 + weiC ((fd, fo, l1, fy + 1, fx + 1) :: r), by omega, Or.inl ⟨rfl, J0.mk t1 c1v fx ((fd, fo, l1, fy + 1, fx + 1) :: r) _ s' n' rfl (Or.inr ⟨by omega, by omega, by simp⟩) ⟨kfo2, kown, kok⟩ ⟨kfo.s t1 List.mem_cons_self, ?_⟩ (by rw [HC.out]; exact HF.out) ⟨hvis.1, by omega⟩ (by omega) (by rw [if_neg (by omega)]; omega) (by simp only [List.length_cons]; omega) hb' ?_ rfl⟩⟩
      · rw [HC.out]; exact ⟨HN.out.1.vs, hy2⟩
      · have := X1'.out
        rw [cellsC]
        exact this
  · rintro up n9 a9 w9 ⟨t, c, own, r, v, s', n', U, hn, hown, hok, ⟨hs, hL⟩, hdn, hvis, hv', hm', hd', hb', x, rfl⟩
    have UP := Lib.hid up
    have hll := HV.out.ll
    have hml := HV.out.ml
    have hcw := rep_w hL hll
    have ho : own = -1 ∨ (0 ≤ own ∧ own < 1048576) := hown.imp (fun h => h.1) (fun h => ⟨by omega, by omega⟩)
    have hks := tm.size_pos t
    have hnode := cnode_any HV.out Fr.row x hL hs own ho (by omega) (by omega) ⟨hvis.1, by omega⟩
    have hfo := node_fo hL hs hll own s' b hb' (by split at hm' <;> omega) ho (fun d hd => x.look_w HV.out Fr.row hcw hd)
    have hown2 := node_own s0.h t c own s'
    rw [dnC_step] at hdn
    obtain ⟨fr, s1, hN⟩ : ∃ fr s1, nodeC s0.h t c own s' = (fr, s1) := ⟨_, _, rfl⟩
    rw [hN] at hnode hfo hown2 hdn
    obtain ⟨fd, fo, fl, fy, fx⟩ := fr
    dsimp only at hown2
    subst hown2
    obtain ⟨q1, q2, q3, q4, q5, q6⟩ := hfo
    dsimp only [FV] at hnode q1 q2 q3 q4 q5 q6
    have HS := Lib.hid (And.intro hn (And.intro hown (And.intro hok (And.intro hdn (And.intro hvis (And.intro hv' (And.intro hm' (And.intro hd' (And.intro hb' (And.intro q1 (And.intro q2 (And.intro q3 (And.intro q4 q5)))))))))))))
    have hrl : r.length ≤ 5000 := by omega
    clear up hn hown hok hs hL hdn hvis hv' hm' hd' hb' x hcw ho hks hN q1 q2 q3 q4 q5 q6 hll hml
    obtain ⟨gy, hgy⟩ : ∃ gy, gy = (fy : Int) := ⟨_, rfl⟩
    obtain ⟨gx, hgx⟩ : ∃ gx, gx = (fx : Int) := ⟨_, rfl⟩
    obtain ⟨gl, hgl⟩ : ∃ gl, gl = (fl.length : Int) := ⟨_, rfl⟩
    rw [← hgy, ← hgx, ← hgl] at hnode
    have HG := Lib.hid (And.intro hgy (And.intro hgx hgl))
    clear hgy hgx hgl
    go_wp2_with fail
    refine hnode.mono ?_; rintro e w2 ⟨rfl, x2⟩
    clear hnode
    obtain ⟨w3, hw3⟩ : ∃ w3, w3 = w2.alloc (LO fd fo gy gx gl) := ⟨_, rfl⟩
    obtain ⟨r3, hr3⟩ : ∃ r3, r3 = w2.heap.size := ⟨_, rfl⟩
    have x3 := XC.below HV.out Fr.row x2 (show Below w2.heap.size w2 w3 by rw [hw3]; exact ba w2 _)
    have hz3 : w3.heap[r3]? = some (LO fd fo gy gx gl) := by rw [hw3, hr3]; exact alloc_at w2 _
    obtain ⟨⟨z0, z1, z2, z3, z4⟩, y0, y1, y2, y3, y4⟩ := un.five hz3
    have HW3 := Lib.hid (And.intro hw3 hr3)
    obtain ⟨M, hR, upR⟩ := x3.open2 HV.out
    have hR0 := hR.1
    obtain ⟨i0, hi, hz0, hz1, hz2⟩ := info_parts infoC
    have HI := Lib.hid (And.intro hi (And.intro hz0 (And.intro hz1 hz2)))
    have HO := Lib.hid hR0
    have PU := Lib.hid (fun (v' : Value) (w4 : World) (hr3 : w4.ownsRow 0 118 5 v' (r.length + 1) (cellsC r ++ [.int .u64 fd, .int .i64 fo, .int .i64 gy, .int .i64 gx, .int .i64 gl])) g3 hat => upR _ _ (Row.push hR (kp.ba w3 (.cells #[.int .u64 fd, .int .i64 fo, .int .i64 gy, .int .i64 gx, .int .i64 gl] 118)) hr3 g3 hat))
    clear x2 x3 hR upR hR0 hi hz0 hz1 hz2 hw3 hr3 hz3
    go_upto_region 6 with fail
    change Code.wp _ _ _ _ (w2.alloc (LO fd fo gy gx gl))
    rw [← HW3.out.2, ← HW3.out.1]
    go_wp2_with (at_builtin; refine wpList_append_own_at _ rfl (.tmp 21) (.tmp 23) 116 rfl 0 118 i0 (.agg #[.int .u64 0, .int .i64 0, .int .i64 0, .int .i64 0, .int .i64 0]) 5 40 Try.underlying116 HI.out.1 HI.out.2.1 HI.out.2.2.1 HI.out.2.2.2 rfl (by decide) _ _ _ rfl (HO.out.alloc _) ⟨w3.heap.size, 0, none⟩ 1 1 [.int .u64 fd, .int .i64 fo, .int .i64 gy, .int .i64 gx, .int .i64 gl] rfl rfl (cell_five_new _ _ _ _ _ _ _) ?c2 ?b1 ?b2 ?b3 ?_)
    case c2 => intro z hz; simp at hz; rcases hz with rfl | rfl | rfl | rfl | rfl <;> rfl
    case b1 => unfold maxLen; omega
    case b2 => omega
    case b3 => simp
    intro v' w4 hr4 g4 _ hat
    have x4 := PU.out v' w4 hr4 g4 (by simpa using hat)
    clear hr4 g4 hat PU HO
    go_wp2_with fail
    refine wp_label ?_
    obtain ⟨hn, hown, hok, hdn, hvis, hv', hm', hd', hb', q1, q2, q3, q4, q5⟩ := HS.out
    have hrs : restS ((fd, fo, fl, fy, fx) :: r) = sizeL fl + restS r := rfl
    have hrn : restN ((fd, fo, fl, fy, fx) :: r) = ndL fl + restN r := rfl
    have hws : weiC ((fd, fo, fl, fy, fx) :: r) = 2 + 4 * sizeL fl + weiC r := rfl
    have hle9 : weiC ((fd, fo, fl, fy, fx) :: r) + 1 ≤ n9 := by rw [hws]; omega
    have hok9 : FokC s0 s1.h.length b ((fd, fo, fl, fy, fx) :: r) := ⟨q1, hown.imp id (fun g => ⟨g.1, by have := g.2.1; show fo < (s1.h.length : Int); omega, g.2.2⟩), hok.mono q2⟩
    refine (by assumption : ∀ a w, Code.wp Try.prog _ _ a w → _) _ _ ?_
    refine wp_mono (UP.out (weiC ((fd, fo, fl, fy, fx) :: r) + 1) _ _ ?hj1) (fun e a w h => du_le hle9 e a w h)
    case hj1 =>
      refine J1.mk (fd, fo, fl, fy, fx) r v' s1 (n' + 1) rfl hok9 hdn ⟨by omega, by rw [hrs]; omega⟩ (by rw [hrs]; omega) (by rw [hrn]; split at q3 <;> split at hm' <;> omega) (by rw [hrs, List.length_cons]; omega) (by omega) ?_ rfl
      have := x4
      rw [HG.out.1, HG.out.2.1, HG.out.2.2] at this
      exact this
  · intro down
    refine ⟨4 * tm.size t + 1, ?_⟩
    go_wp2_with fail
    refine wp_label ?_
    refine (by assumption : ∀ a w, Code.wp Try.prog _ _ a w → _) _ _ ?_
    refine wp_mono (down (4 * tm.size t) _ _ ?hj0) (fun e a w h => du_le (Nat.le_succ _) e a w h)
    case hj0 =>
      obtain ⟨hL, hs, hn, hv, hz, hm, hb, hR⟩ := HN.out
      exact J0.mk t c (-1) [] _ s n rfl (Or.inl ⟨rfl, rfl⟩) trivial ⟨hs, hL⟩ (by rw [dnC, if_pos rfl]; exact hR) ⟨hn.1, by show _ + ((tm.size t + 0 : Nat) : Int) ≤ _; omega⟩ (by show _ + (tm.size t + 0) ≤ _; omega) (by show (s.h.length : Int) + _ + (0 : Nat) + _ ≤ m; rw [if_pos (by decide)]; omega) (by show 0 + (tm.size t + 0) ≤ _; omega) hb X1.out rfl
end
end Go.Proofs.Ythableojkjhicaa.cpy
