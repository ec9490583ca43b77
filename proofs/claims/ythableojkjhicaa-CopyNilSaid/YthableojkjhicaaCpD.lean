/- Package copy: node of any term; what is still to be copied, as a stack: the mathematics. -/
import Derived.Test.YthableojkjhicaaCpC
import Derived.Test.YthableojkjhicaaSLG
namespace Go.Proofs.Ythableojkjhicaa.cpy
open Go.ChangeShapes Go.WideShapes Go.ChangeAt Go.RowKit Go.Maps
open Go.Proofs.Ythableojkjhicaa.kp Go.Proofs.Ythableojkjhicaa.cel Go.Proofs.Ythableojkjhicaa.hp Go.Proofs.Ythableojkjhicaa.ob Go.Proofs.Ythableojkjhicaa.tm Go.Proofs.Ythableojkjhicaa.pm
open Go.Proofs.Ythableojkjhicaa.rpt (HB frHB zeroC)
open Go.Proofs.Ythableojkjhicaa.ppt (kidsT kids5 kidsN)
set_option linter.unusedVariables false
/-- a node that is copied but for some arguments: its cell, where it goes, these, the first one's place where it is copied from, and there -/
abbrev Fc := Int × Int × List Tm × Nat × Nat
/-- a node by itself -/
def nodeC (l : List Int) : Tm → Int → Int → S → Fc × S
  | .mk k n i re im ts, c, own, s =>
    if k = 2 ∨ (k = 3 ∧ so i = true) then ((c, own, [], 0, 0), s) else
    match pm.look s.v c with
    | some d => ((d, own, [], 0, 0), s)
    | none =>
      if k = 1 then (if own < 0 then (((s.h.length : Int) * 8, own, [], 0, 0), ⟨s.h ++ [(s.h.length : Int) * 8], s.a, s.v ++ [(c, (s.h.length : Int) * 8)]⟩) else ((own * 8, own, [], 0, 0), ⟨s.h, s.a, s.v ++ [(c, own * 8)]⟩))
      else if k = 3 then ((jn 4 s.h.length, own, [], 0, 0), ⟨s.h ++ [l.getD (c / 8).toNat 0], s.a, s.v ++ [(c, jn 4 s.h.length)]⟩)
      else if k = 4 then ((jn 5 s.h.length, own, [], 0, 0), ⟨s.h ++ [l.getD (c / 8).toNat 0] ++ [l.getD ((c / 8).toNat + 1) 0], s.a, s.v ++ [(c, jn 5 s.h.length)]⟩)
      else ((jn 1 s.h.length, own, ts, (c / 8).toNat + 1, s.h.length + 1), ⟨vrs ts.length (s.h ++ [l.getD (c / 8).toNat 0]), s.a, s.v ++ [(c, jn 1 s.h.length)]⟩)
def finC (l : List Int) : List Fc → S → Int × S
  | [], s => (0, s)
  | f :: r, s => if f.2.1 = -1 then (f.1, cpL l f.2.2.1 f.2.2.2.1 f.2.2.2.2 s) else finC l r ⟨(cpL l f.2.2.1 f.2.2.2.1 f.2.2.2.2 s).h.set f.2.1.toNat f.1, (cpL l f.2.2.1 f.2.2.2.1 f.2.2.2.2 s).a, (cpL l f.2.2.1 f.2.2.2.1 f.2.2.2.2 s).v⟩
def dnC (l : List Int) (t : Tm) (c own : Int) (r : List Fc) (s : S) : Int × S :=
  if own = -1 then cp l t c own s else finC l r ⟨(cp l t c own s).2.h.set own.toNat (cp l t c own s).1, (cp l t c own s).2.a, (cp l t c own s).2.v⟩
theorem cp_node (l : List Int) (t : Tm) (c own : Int) (s : S) : cp l t c own s = ((nodeC l t c own s).1.1, cpL l (nodeC l t c own s).1.2.2.1 (nodeC l t c own s).1.2.2.2.1 (nodeC l t c own s).1.2.2.2.2 (nodeC l t c own s).2) := by
  obtain ⟨k, n, i, re, im, ts⟩ := t
  rw [cp, nodeC]
  by_cases hl : k = 2 ∨ (k = 3 ∧ so i = true)
  · rw [if_pos hl, if_pos hl, cpL]
  rw [if_neg hl, if_neg hl]
  cases hm : pm.look s.v c with
  | some d => dsimp only; rw [cpL]
  | none =>
    dsimp only
    by_cases k1 : k = 1
    · rw [if_pos k1, if_pos k1]; split <;> rw [cpL]
    rw [if_neg k1, if_neg k1]
    by_cases k3 : k = 3
    · rw [if_pos k3, if_pos k3, cpL]
    rw [if_neg k3, if_neg k3]
    by_cases k4 : k = 4
    · rw [if_pos k4, if_pos k4, cpL]
    rw [if_neg k4, if_neg k4]
theorem node_own (l : List Int) (t : Tm) (c own : Int) (s : S) : (nodeC l t c own s).1.2.1 = own := by
  obtain ⟨k, n, i, re, im, ts⟩ := t
  rw [nodeC]
  repeat' split
  all_goals rfl
theorem dnC_step (l : List Int) (t : Tm) (c own : Int) (r : List Fc) (s : S) : dnC l t c own r s = finC l ((nodeC l t c own s).1 :: r) (nodeC l t c own s).2 := by
  rw [finC, node_own, dnC, cp_node]
theorem finC_step (l : List Int) (d own : Int) (t : Tm) (ts : List Tm) (y x : Nat) (r : List Fc) (s : S) : finC l ((d, own, t :: ts, y, x) :: r) s = dnC l t (l.getD y 0) x ((d, own, ts, y + 1, x + 1) :: r) s := by
  rw [finC, dnC, if_neg (show ¬ (x : Int) = -1 by omega), finC, cpL]
  simp only [Int.toNat_natCast]
theorem finC_nil (l : List Int) (d own : Int) (y x : Nat) (r : List Fc) (s : S) : finC l ((d, own, [], y, x) :: r) s = if own = -1 then (d, s) else finC l r ⟨s.h.set own.toNat d, s.a, s.v⟩ := by
  rw [finC, cpL]
/-! ### how much is left -/
def restS : List Fc → Nat | [] => 0 | f :: r => sizeL f.2.2.1 + restS r
def restN : List Fc → Nat | [] => 0 | f :: r => ndL f.2.2.1 + restN r
def weiC : List Fc → Nat | [] => 0 | f :: r => 2 + 4 * sizeL f.2.2.1 + weiC r
structure Fo (s0 : S) (hn b : Nat) (f : Fc) : Prop where
  w : W64 f.1
  s : ∀ t ∈ f.2.2.1, sound t = true
  r : RepL NN s0 f.2.2.1 f.2.2.2.1
  x : f.2.2.1 = [] ∨ (b ≤ f.2.2.2.2 ∧ f.2.2.2.2 + f.2.2.1.length ≤ hn)
  y : f.2.2.2.1 ≤ 1048577 ∧ f.2.2.2.2 ≤ 1048577 ∧ f.2.2.1.length ≤ 20
theorem Fo.mono {s0 : S} {hn hn' b : Nat} {f : Fc} (h : Fo s0 hn b f) (hh : hn ≤ hn') : Fo s0 hn' b f := ⟨h.w, h.s, h.r, h.x.imp id fun g => ⟨g.1, by omega⟩, h.y⟩
def FokC (s0 : S) (hn b : Nat) : List Fc → Prop
  | [] => True
  | f :: r => Fo s0 hn b f ∧ ((f.2.1 = -1 ∧ r = []) ∨ ((b : Int) ≤ f.2.1 ∧ f.2.1 < (hn : Int) ∧ r ≠ [])) ∧ FokC s0 hn b r
theorem FokC.mono {s0 : S} {hn hn' b : Nat} (hh : hn ≤ hn') : ∀ {r : List Fc}, FokC s0 hn b r → FokC s0 hn' b r
  | [], _ => trivial
  | f :: r, ⟨h1, h2, h3⟩ => ⟨h1.mono hh, h2.imp id fun g => ⟨g.1, by omega, g.2.2⟩, FokC.mono hh h3⟩
theorem kids_nd (t : Tm) : 1 + sizeL (kidsT t) ≤ size t := by have := ppt.kids_size t; omega
/-- what a node makes -/
theorem node_fo {s0 : S} {t : Tm} {c : Int} (hL : Laid s0 t c) (hs : sound t = true) (hl : s0.h.length ≤ 1048576) (own : Int) (s : S) (b : Nat) (hb : b ≤ s.h.length) (hh : s.h.length + pm.nd t ≤ 1048576) (ho : own = -1 ∨ (0 ≤ own ∧ own < 1048576)) (hw : ∀ d, pm.look s.v c = some d → W64 d) :
    Fo s0 (nodeC s0.h t c own s).2.h.length b (nodeC s0.h t c own s).1 ∧ s.h.length ≤ (nodeC s0.h t c own s).2.h.length ∧ (nodeC s0.h t c own s).2.h.length + ndL (nodeC s0.h t c own s).1.2.2.1 ≤ s.h.length + pm.nd t + (if own < 0 then 1 else 0) ∧
      (nodeC s0.h t c own s).2.v.length ≤ s.v.length + 1 ∧ 1 + sizeL (nodeC s0.h t c own s).1.2.2.1 ≤ size t ∧ ((nodeC s0.h t c own s).1.2.2.1 = [] → (nodeC s0.h t c own s).1.2.2.2 = (0, 0)) := by
  have hcw := rep_w hL hl
  obtain ⟨hv, hr⟩ := hL
  obtain ⟨k, n, i, re, im, ts⟩ := t
  have hk := chkk (sound_chk hs)
  have h1 : 1 ≤ size (.mk k n i re im ts) := by rw [tm.size]; omega
  have emp : ∀ (d : Int) (hn : Nat), W64 d → Fo s0 hn b (d, own, [], 0, 0) := fun d hn hd => ⟨hd, fun t ht => by simp at ht, by rw [RepL]; trivial, Or.inl rfl, by show (0 : Nat) ≤ _ ∧ (0 : Nat) ≤ _ ∧ _; simp⟩
  rw [nodeC]
  by_cases hlf : k = 2 ∨ (k = 3 ∧ so i = true)
  · rw [if_pos hlf]
    refine ⟨emp c _ hcw, Nat.le_refl _, ?_, Nat.le_succ _, by simp [sizeL]; omega, fun _ => rfl⟩
    simp only [ndL]; omega
  rw [if_neg hlf]
  cases hm : pm.look s.v c with
  | some d =>
    dsimp only
    refine ⟨emp d _ (hw d hm), Nat.le_refl _, ?_, Nat.le_succ _, by simp [sizeL]; omega, fun _ => rfl⟩
    simp only [ndL]; omega
  | none =>
    dsimp only
    by_cases k1 : k = 1
    · subst k1
      rw [if_pos rfl]
      by_cases h0 : own < 0
      · rw [if_pos h0]
        refine ⟨emp _ _ ⟨by omega, by omega⟩, by simp, ?_, by simp, by simp [sizeL]; omega, fun _ => rfl⟩
        rw [if_pos h0]; simp [ndL]
      · rw [if_neg h0]
        refine ⟨emp _ _ ⟨by omega, by omega⟩, by simp, ?_, by simp, by simp [sizeL]; omega, fun _ => rfl⟩
        simp only [ndL]; omega
    rw [if_neg k1]
    by_cases k3 : k = 3
    · subst k3
      rw [if_pos rfl]
      have hso : ¬ so i = true := fun h => hlf (Or.inr ⟨rfl, h⟩)
      refine ⟨emp _ _ (jn_w _ (by decide) (by decide)), by simp, ?_, by simp, by simp [sizeL]; omega, fun _ => rfl⟩
      simp [ndL, pm.nd, hso]
    rw [if_neg k3]
    by_cases k4 : k = 4
    · subst k4
      rw [if_pos rfl]
      refine ⟨emp _ _ (jn_w _ (by decide) (by decide)), by simp, ?_, by simp, by simp [sizeL]; omega, fun _ => rfl⟩
      simp [ndL, pm.nd]
    rw [if_neg k4]
    have k2 : k ≠ 2 := fun h => hlf (Or.inl h)
    have k5 : k = 5 := by rcases hk with h | ⟨h, _⟩ | h | h | ⟨h, _⟩ <;> first | exact h | (exfalso; omega)
    subst k5
    rw [Rep, if_neg (by decide), if_neg (by decide), if_neg (by decide), if_neg (by decide)] at hr
    obtain ⟨p, j, rfl, _, hp, hj, hf, hn2, hl2⟩ := hr
    have cp8 : jn 1 (p : Int) / 8 = (p : Int) := jn_val _ _ (by decide) (by decide) (by omega) (by omega)
    have h20 : 1 ≤ ts.length ∧ ts.length ≤ 20 := by rcases hk with h | ⟨h, _⟩ | h | h | ⟨_, _, h⟩ <;> first | exact h | (exfalso; omega)
    have hnd : pm.nd (.mk 5 n i re im ts) = 1 + ts.length + ndL ts := by simp [pm.nd]
    have hvl : (vrs ts.length (s.h ++ [s0.h.getD (jn 1 (p : Int) / 8).toNat 0])).length = s.h.length + 1 + ts.length := by rw [vrs_len]; simp
    have hsz : size (.mk 5 n i re im ts) = 1 + sizeL ts := by simp [tm.size]
    dsimp only
    refine ⟨⟨jn_w _ (by decide) (by decide), sound_args hs rfl, by show RepL NN s0 ts _; rw [cp8, Int.toNat_natCast]; exact hl2, Or.inr ⟨by show b ≤ s.h.length + 1; omega, by show s.h.length + 1 + ts.length ≤ _; omega⟩, by show (jn 1 (p : Int) / 8).toNat + 1 ≤ _ ∧ s.h.length + 1 ≤ _ ∧ ts.length ≤ 20; rw [cp8, Int.toNat_natCast]; omega⟩, by omega, ?_, by simp, by omega, fun h => ?_⟩
    · rw [hvl, hnd]; omega
    · rw [h] at h20; simp at h20
section
variable {E : List Int → Ob} {m : Int} {b : Nat} {p q mb pb : Nat} {s s0 : S} {n : Int} {C : Ob} {w0 wr w' : World} {N : Nat → Prop}
theorem XC.look_w (v : Env p q s0.h m b E) (fC : Fr C) {i c : Int} (h : XC w0 N E p q mb pb (s0.h.length : Int) s n C wr) (hi : W64 i) (hl : pm.look s.v i = some c) : W64 c := by
  obtain ⟨D, hD, hv, _⟩ := h.vars v fC
  have hkey : keyOf Try.prog 23 (.int .u64 i) = some (CU i) := keyOf_int_mk Try.underlying23 (WalkArith.wf_u64 (by obtain ⟨h1, h2⟩ := hi; omega))
  have hv2 := (hv i).2
  rw [hl] at hv2
  obtain ⟨c8, hlk, hat, hwc⟩ := hD.lookup_int lawU Try.underlying113 Try.underlying23 (zeroC _) hkey
  rw [hat] at hv2
  injection hv2 with e; injection e with _ e
  rw [← show c8 = c from e]
  exact cel.w64_wf hwc
/-- a frame as node tells it -/
def FV (f : Fc) : Value := LV f.1 f.2.1 (f.2.2.2.1 : Int) (f.2.2.2.2 : Int) (f.2.2.1.length : Int)
theorem cnode_any (v : Env p q s0.h m b E) (fC : Fr C) (h : XC w0 N E p q mb pb (s0.h.length : Int) s n C wr) {t : Tm} {c : Int} (hL : Laid s0 t c) (hs : sound t = true) (own : Int) (ho : own = -1 ∨ (0 ≤ own ∧ own < 1048576)) (hm : (s.h.length : Int) + pm.nd t + (if own < 0 then 1 else 0) ≤ m) (hlen : s.v.length < 1000000) (hn : 0 ≤ n ∧ n < 100000) :
    Calls Try.prog 76 #[.pointer (some ⟨pb, 0, none⟩), .int .u64 c, .int .i64 own] wr (NdP w0 N E p q mb pb s0.h (nodeC s0.h t c own s).2 n C (FV (nodeC s0.h t c own s).1)) := by
  have hll := v.ll
  have hml := v.ml
  have hcw := rep_w hL hll
  obtain ⟨hv, hr⟩ := hL
  obtain ⟨k, nm, i, re, im, ts⟩ := t
  have hk := chkk (sound_chk hs)
  rw [Rep] at hr
  rw [nodeC]
  by_cases k2 : k = 2
  · subst k2
    rw [if_pos rfl] at hr
    obtain ⟨j, rfl, hj, _⟩ := hr
    have h8 := jn_tag 2 (j : Int) (by decide) (by decide)
    rw [if_pos (Or.inl rfl)]
    exact cnode_leaf v fC h _ own hcw (Or.inl (by omega)) (fun C n w _ _ => csize_23 _ hcw (Or.inl h8)) hn
  rw [if_neg k2] at hr
  by_cases k3 : k = 3
  · subst k3
    rw [if_pos rfl] at hr
    by_cases hso : so i = true
    · rw [if_pos hso] at hr
      subst hr
      have h8 := sv_tag hso
      rw [if_pos (Or.inr ⟨rfl, hso⟩)]
      exact cnode_leaf v fC h _ own hcw (Or.inl (by omega)) (fun C n w _ _ => csize_23 _ hcw (Or.inr h8)) hn
    · rw [if_neg hso] at hr
      obtain ⟨x, rfl, _, hx, _⟩ := hr
      have h8 := jn_tag 4 (x : Int) (by decide) (by decide)
      have h9 := jn_val 4 (x : Int) (by decide) (by decide) (by omega) (by omega)
      have hnd : pm.nd (.mk 3 nm i re im ts) = 1 := by simp [pm.nd, hso]
      rw [hnd] at hm
      have hsz : SzAt w0 N E p q mb pb s0.h s (jn 4 (x : Int)) 1 := fun C n w fC h => csize_45 v fC h x 1 (Or.inl rfl) (by omega)
      rw [if_neg (by simp [hso])]
      cases hlk : pm.look s.v (jn 4 (x : Int)) with
      | some d => exact cnode_met v fC h _ own 1 d hcw (Or.inl (by omega)) hsz ⟨by decide, by decide⟩ hlk hn
      | none =>
        dsimp only
        rw [if_neg (by decide), if_pos rfl]
        have hfs : FsAt w0 N E p q mb pb s0.h s (jn 4 (x : Int)) 1 own (jn 4 (s.h.length : Int)) (fs s0.h 4 x 1 s.h) := fun C n w fC h => cfirst_any v fC h 4 x 1 own (Or.inr (Or.inr (Or.inl rfl))) (by omega) (by omega)
        have := cnode_new v fC h _ own 1 _ _ hcw (jn_w _ (by decide) (by decide)) (Or.inl (by omega)) hsz hfs ⟨by decide, by decide⟩ (by omega) hlk hlen hn
        rw [fs_4] at this
        rw [h9, Int.toNat_natCast]
        exact this
  rw [if_neg k3] at hr
  by_cases k4 : k = 4
  · subst k4
    rw [if_pos rfl] at hr
    obtain ⟨x, rfl, _, _, hx, _⟩ := hr
    have h8 := jn_tag 5 (x : Int) (by decide) (by decide)
    have h9 := jn_val 5 (x : Int) (by decide) (by decide) (by omega) (by omega)
    have hnd : pm.nd (.mk 4 nm i re im ts) = 2 := by simp [pm.nd]
    rw [hnd] at hm
    have hsz : SzAt w0 N E p q mb pb s0.h s (jn 5 (x : Int)) 2 := fun C n w fC h => csize_45 v fC h x 2 (Or.inr rfl) (by omega)
    rw [if_neg (by simp)]
    cases hlk : pm.look s.v (jn 5 (x : Int)) with
    | some d => exact cnode_met v fC h _ own 2 d hcw (Or.inl (by omega)) hsz ⟨by decide, by decide⟩ hlk hn
    | none =>
      dsimp only
      rw [if_neg (by decide), if_neg (by decide), if_pos rfl]
      have hfs : FsAt w0 N E p q mb pb s0.h s (jn 5 (x : Int)) 2 own (jn 5 (s.h.length : Int)) (fs s0.h 5 x 2 s.h) := fun C n w fC h => cfirst_any v fC h 5 x 2 own (Or.inr (Or.inr (Or.inr rfl))) (by omega) (by omega)
      have := cnode_new v fC h _ own 2 _ _ hcw (jn_w _ (by decide) (by decide)) (Or.inl (by omega)) hsz hfs ⟨by decide, by decide⟩ (by omega) hlk hlen hn
      rw [fs_5] at this
      rw [h9, Int.toNat_natCast]
      exact this
  rw [if_neg k4] at hr
  by_cases k1 : k = 1
  · subst k1
    rw [if_pos rfl] at hr
    obtain ⟨x, hcx, _, hx, hcell⟩ := hv.cell i c hr
    have he : Ends1 s0.h c := Or.inr ⟨x, hcx, hx, hcell⟩
    have hsz : SzAt w0 N E p q mb pb s0.h s c 1 := fun C n w fC h => csize_0 v fC h c x hcx hx hcell
    rw [if_neg (by simp)]
    cases hlk : pm.look s.v c with
    | some d => exact cnode_met v fC h _ own 1 d hcw he hsz ⟨by decide, by decide⟩ hlk hn
    | none =>
      dsimp only
      rw [if_pos rfl]
      by_cases h0 : own < 0
      · rw [if_pos h0] at hm ⊢
        have ho1 : own = -1 := by omega
        have hjx : jn 0 (x : Int) = c := by unfold jn; omega
        have hjs : jn 0 (s.h.length : Int) = (s.h.length : Int) * 8 := by unfold jn; omega
        have hfs : FsAt w0 N E p q mb pb s0.h s c 1 own ((s.h.length : Int) * 8) (fs s0.h 0 x 1 s.h) := fun C n w fC h => by
          have := cfirst_any v fC h 0 x 1 own (Or.inl ⟨rfl, ho1⟩) (by omega) (by simp [pm.nd] at hm; omega)
          rw [hjx, hjs] at this
          exact this
        have := cnode_new v fC h _ own 1 _ _ hcw ⟨by omega, by omega⟩ he hsz hfs ⟨by decide, by decide⟩ (by omega) hlk hlen hn
        rw [fs_0] at this
        exact this
      · rw [if_neg h0]
        have hfs : FsAt w0 N E p q mb pb s0.h s c 1 own (own * 8) s.h := fun C n w fC h =>
          (cfirst_own c 1 own hcw (by omega) (by omega) (by omega)).mono fun e w' ⟨h1, h2⟩ => ⟨h1, h2 ▸ h⟩
        exact cnode_new v fC h _ own 1 _ _ hcw ⟨by omega, by omega⟩ he hsz hfs ⟨by decide, by decide⟩ (by omega) hlk hlen hn
  rw [if_neg k1] at hr
  have k5 : k = 5 := by rcases hk with h | ⟨h, _⟩ | h | h | ⟨h, _⟩ <;> first | exact h | (exfalso; omega)
  subst k5
  have h20 : 1 ≤ ts.length ∧ ts.length ≤ 20 := by rcases hk with h | ⟨h, _⟩ | h | h | ⟨_, _, h⟩ <;> first | exact h | (exfalso; omega)
  obtain ⟨x, j, rfl, _, hx, hj, hf, _, _⟩ := hr
  have h8 := jn_tag 1 (x : Int) (by decide) (by decide)
  have h9 := jn_val 1 (x : Int) (by decide) (by decide) (by omega) (by omega)
  have hnd : pm.nd (.mk 5 nm i re im ts) = 1 + ts.length + ndL ts := by simp [pm.nd]
  rw [hnd] at hm
  have hsz : SzAt w0 N E p q mb pb s0.h s (jn 1 (x : Int)) (1 + (ts.length : Int)) := fun C n w fC h => csize_1 v fC h x ts.length j h20 hj hx hf
  rw [if_neg (by simp)]
  cases hlk : pm.look s.v (jn 1 (x : Int)) with
  | some d => exact cnode_met v fC h _ own _ d hcw (Or.inl (by omega)) hsz ⟨by omega, by omega⟩ hlk hn
  | none =>
    dsimp only
    rw [if_neg (by decide), if_neg (by decide), if_neg (by decide)]
    have hfs : FsAt w0 N E p q mb pb s0.h s (jn 1 (x : Int)) (1 + (ts.length : Int)) own (jn 1 (s.h.length : Int)) (fs s0.h 1 x (ts.length + 1) s.h) := fun C n w fC h => by
      have := cfirst_any v fC h 1 x (ts.length + 1) own (Or.inr (Or.inl rfl)) (by omega) (by omega)
      rw [show ((ts.length + 1 : Nat) : Int) = 1 + (ts.length : Int) by omega] at this
      exact this
    have := cnode_comp v fC h _ own _ _ _ hcw (jn_w _ (by decide) (by decide)) (Or.inl (by omega)) hsz hfs ⟨by omega, by omega⟩ h8 hlk hlen hn
    have g9 := jn_val 1 (s.h.length : Int) (by decide) (by decide) (by omega) (by omega)
    rw [fs_1, h9, g9, show 1 + (ts.length : Int) - 1 = (ts.length : Int) by omega] at this
    rw [h9, Int.toNat_natCast]
    exact this
end
end Go.Proofs.Ythableojkjhicaa.cpy
