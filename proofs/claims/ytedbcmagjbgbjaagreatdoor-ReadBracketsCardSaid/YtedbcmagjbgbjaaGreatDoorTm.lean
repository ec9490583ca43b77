/- Terms as trees: the plain mathematics; no program. Terms' variables: the plain mathematics; no program. Terms that are alike: the plain mathematics; no program. -/
import Derived.Test.YtedbcmagjbgbjaaGreatDoorRows
namespace Go.Proofs.YtedbcmagjbgbjaaGreatDoor.tm
inductive Tm where
  | mk (kind : Int) (name : ByteArray) (int re im : Int) (args : List Tm)
abbrev E : ByteArray := ⟨#[]⟩
def Tm.kind : Tm → Int | .mk k _ _ _ _ _ => k
def Tm.name : Tm → ByteArray | .mk _ n _ _ _ _ => n
def Tm.int : Tm → Int | .mk _ _ i _ _ _ => i
def Tm.re : Tm → Int | .mk _ _ _ r _ _ => r
def Tm.im : Tm → Int | .mk _ _ _ _ i _ => i
def Tm.args : Tm → List Tm | .mk _ _ _ _ _ l => l
theorem Tm.ind {p : Tm → Prop} (h : ∀ k n i re im l, (∀ x ∈ l, p x) → p (.mk k n i re im l)) : ∀ t, p t := fun t =>
  Tm.rec (motive_1 := p) (motive_2 := fun l => ∀ x ∈ l, p x) (fun k n i re im l hl => h k n i re im l hl) (by simp) (fun a l ha hl => by
    intro x hx
    rcases List.mem_cons.1 hx with rfl | hx
    · exact ha
    · exact hl x hx) t
def zero : Tm := .mk 0 E 0 0 0 []
def var (n : Int) : Tm := .mk 1 E n 0 0 []
def atom (n : ByteArray) : Tm := .mk 2 n 0 0 0 []
def comp (n : ByteArray) (l : List Tm) : Tm := .mk 5 n 0 0 0 l
/-- what is asked of a node by itself -/
def chk : Tm → Int
  | .mk k n i _ _ l => if k = 1 then (if i < 0 then 1 else 0) else if k = 2 then (if 200 < n.size then 3 else 0) else if k = 3 then 0 else if k = 4 then 0
    else if k = 5 then (if l.length = 0 then 1 else if 20 < l.length then 3 else if 200 < n.size then 3 else 0) else 1
mutual
/-- the nodes, a term ahead of its arguments, each with its depth -/
def pre (d : Nat) : Tm → List (Tm × Nat)
  | .mk k n i re im l => (.mk k n i re im l, d) :: (if k = 5 then preL (d + 1) l else [])
def preL (d : Nat) : List Tm → List (Tm × Nat)
  | [] => []
  | t :: r => pre d t ++ preL d r
end
mutual
def size : Tm → Nat
  | .mk k _ _ _ _ l => 1 + (if k = 5 then sizeL l else 0)
def sizeL : List Tm → Nat
  | [] => 0
  | t :: r => size t + sizeL r
end
mutual
def height : Tm → Nat
  | .mk k _ _ _ _ l => 1 + (if k = 5 then heightL l else 0)
def heightL : List Tm → Nat
  | [] => 0
  | t :: r => max (height t) (heightL r)
end
mutual
/-- each node is right by itself -/
def sound : Tm → Bool
  | .mk k n i re im l => decide (chk (.mk k n i re im l) = 0) && (if k = 5 then soundL l else true)
def soundL : List Tm → Bool
  | [] => true
  | t :: r => sound t && soundL r
end
mutual
def occ : Tm → List Int
  | .mk k _ i _ _ l => if k = 1 then [i] else if k = 5 then occL l else []
def occL : List Tm → List Int
  | [] => []
  | t :: r => occ t ++ occL r
end
mutual
/-- what a kind gives no meaning left out; the variable n replaced by s n -/
def sub (s : Int → Tm) : Tm → Tm
  | .mk k n i re im l => if k = 1 then s i else if k = 2 then .mk 2 n 0 0 0 [] else if k = 3 then .mk 3 E i 0 0 [] else if k = 4 then .mk 4 E 0 re im []
    else if k = 5 then .mk 5 n 0 0 0 (subL s l) else .mk k E 0 0 0 []
def subL (s : Int → Tm) : List Tm → List Tm
  | [] => []
  | t :: r => sub s t :: subL s r
end
mutual
def like : Tm → Tm → Bool
  | .mk k n i re im l, .mk k' n' i' re' im' l' => decide (k = k') && (if k = 1 then decide (i = i') else if k = 3 then decide (i = i') else if k = 2 then decide (n = n')
    else if k = 4 then decide (re = re') && decide (im = im') else decide (n = n') && likeL l l')
def likeL : List Tm → List Tm → Bool
  | [], [] => true
  | a :: l, b :: l' => like a b && likeL l l'
  | _, _ => false
end
def plain (t : Tm) : Tm := sub var t
theorem subL_map (s : Int → Tm) : ∀ l, subL s l = l.map (sub s) | [] => rfl | t :: r => by simp [subL, subL_map s r]
theorem sizeL_sum : ∀ l, sizeL l = (l.map size).sum | [] => rfl | t :: r => by simp [sizeL, sizeL_sum r]
theorem soundL_all : ∀ l, soundL l = l.all sound | [] => rfl | t :: r => by simp [soundL, soundL_all r]
theorem occL_flat : ∀ l, occL l = l.flatMap occ | [] => rfl | t :: r => by simp [occL, occL_flat r]
theorem heightL_le {l : List Tm} {m : Nat} : heightL l ≤ m ↔ ∀ x ∈ l, height x ≤ m := by
  induction l with
  | nil => simp [heightL]
  | cons t r ih => simp [heightL, Nat.max_le, ih]
theorem preL_append (d : Nat) : ∀ a b, preL d (a ++ b) = preL d a ++ preL d b | [], b => rfl | t :: r, b => by simp [preL, preL_append d r b]
/-- the pre-order's facts, by one induction -/
theorem pre_facts (t : Tm) : ∀ d, (pre d t).length = size t ∧ ((∀ x ∈ pre d t, chk x.1 = 0) ↔ sound t = true) ∧ ((pre d t).filterMap fun x => if x.1.kind = 1 then some x.1.int else none) = occ t
    ∧ (∀ m, (∀ x ∈ pre d t, x.2 ≤ m) ↔ d + height t ≤ m + 1) := by
  induction t using Tm.ind with
  | h k n i re im l ih =>
    intro d
    have hl : ∀ (l : List Tm), (∀ x ∈ l, ∀ d, (pre d x).length = size x ∧ ((∀ y ∈ pre d x, chk y.1 = 0) ↔ sound x = true) ∧ ((pre d x).filterMap fun x => if x.1.kind = 1 then some x.1.int else none) = occ x ∧ (∀ m, (∀ y ∈ pre d x, y.2 ≤ m) ↔ d + height x ≤ m + 1)) →
        ∀ d, (preL d l).length = sizeL l ∧ ((∀ x ∈ preL d l, chk x.1 = 0) ↔ soundL l = true) ∧ ((preL d l).filterMap fun x => if x.1.kind = 1 then some x.1.int else none) = occL l ∧ (l ≠ [] → ∀ m, (∀ y ∈ preL d l, y.2 ≤ m) ↔ d + heightL l ≤ m + 1) := by
      intro l
      induction l with
      | nil => intro _ d; simp [preL, sizeL, soundL, occL]
      | cons t r ihr =>
        intro h d
        obtain ⟨h1, h2, h3, h4⟩ := h t (by simp) d
        obtain ⟨g1, g2, g3, g4⟩ := ihr (fun x hx => h x (by simp [hx])) d
        refine ⟨by simp [preL, sizeL, h1, g1], ?_, by simp [preL, occL, h3, g3], fun _ m => ?_⟩
        · simp only [preL, List.mem_append, soundL, Bool.and_eq_true]
          exact ⟨fun q => ⟨h2.1 fun x hx => q x (.inl hx), g2.1 fun x hx => q x (.inr hx)⟩, fun q x hx => hx.elim (h2.2 q.1 x) (g2.2 q.2 x)⟩
        · simp only [preL, List.mem_append, heightL]
          by_cases hr : r = []
          · subst hr
            simp only [preL, List.not_mem_nil, or_false, heightL, Nat.max_zero]
            exact h4 m
          · have g := g4 hr m
            constructor
            · intro q
              have a := (h4 m).1 fun x hx => q x (.inl hx)
              have b := g.1 fun x hx => q x (.inr hx)
              omega
            · intro q x hx
              rcases hx with hx | hx
              · exact (h4 m).2 (by omega) x hx
              · exact g.2 (by omega) x hx
    obtain ⟨g1, g2, g3, g4⟩ := hl l (fun x hx => ih x hx) (d + 1)
    by_cases hk : k = 5
    · subst hk
      refine ⟨by simp [pre, size, g1]; omega, ?_, ?_, fun m => ?_⟩
      · simp only [pre, if_true, List.mem_cons, sound, Bool.and_eq_true, decide_eq_true_eq]
        exact ⟨fun q => ⟨q _ (.inl rfl), g2.1 fun x hx => q x (.inr hx)⟩, fun q x hx => hx.elim (fun e => e ▸ q.1) (g2.2 q.2 x)⟩
      · have e : (Tm.mk 5 n i re im l).kind = 5 := rfl
        simp [pre, occ, e, g3]
      · simp only [pre, if_true, List.mem_cons, height]
        by_cases hn : l = []
        · subst hn
          simp only [preL, List.not_mem_nil, or_false, heightL]
          exact ⟨fun q => by have := q _ rfl; simp at this; omega, fun q x hx => by subst hx; simp; omega⟩
        · have g := g4 hn m
          constructor
          · intro q
            have b := g.1 fun x hx => q x (.inr hx)
            omega
          · intro q x hx
            rcases hx with rfl | hx
            · simp; omega
            · exact g.2 (by omega) x hx
    · refine ⟨by simp [pre, size, hk], ?_, ?_, fun m => ?_⟩
      · simp only [pre, if_neg hk, List.mem_singleton, sound, Bool.and_true, decide_eq_true_eq]
        exact ⟨fun q => q _ rfl, fun q x hx => hx ▸ q⟩
      · by_cases h1 : k = 1 <;> simp [pre, occ, Tm.kind, Tm.int, hk, h1]
      · simp only [pre, if_neg hk, List.mem_singleton, height]
        exact ⟨fun q => by have := q _ rfl; simp at this; omega, fun q x hx => by subst hx; simp; omega⟩
/-! ### may a term be -/
def meas : List (Tm × Nat) → Nat → Nat → Int × Int × Int
  | [], n, d => (n, d, 0)
  | (t, k) :: r, n, d => if n = 2000 then (0, 0, 3) else if 500 < k then (0, 0, 3) else if chk t ≠ 0 then (0, 0, chk t) else meas r (n + 1) (max d k)
def deepest (L : List (Tm × Nat)) (d : Nat) : Nat := L.foldl (fun m x => max m x.2) d
theorem chk_cases (t : Tm) : chk t = 0 ∨ chk t = 1 ∨ chk t = 3 := by
  cases t with | mk k n i re im l =>
  simp only [chk]
  repeat' split
  all_goals simp
theorem meas_ok : ∀ (L : List (Tm × Nat)) (n d : Nat), n + L.length ≤ 2000 → (∀ x ∈ L, x.2 ≤ 500) → (∀ x ∈ L, chk x.1 = 0) → meas L n d = (((n + L.length : Nat) : Int), ((deepest L d : Nat) : Int), 0)
  | [], n, d, _, _, _ => by simp [meas, deepest]
  | (t, k) :: r, n, d, h1, h2, h3 => by
    have a1 := h2 (t, k) (by simp)
    have a2 := h3 (t, k) (by simp)
    simp only [List.length_cons] at h1
    simp only at a1 a2
    rw [meas, if_neg (by omega), if_neg (by omega), if_neg (by simp [a2]), meas_ok r (n + 1) (max d k) (by omega) (fun x hx => h2 x (by simp [hx])) (fun x hx => h3 x (by simp [hx]))]
    simp only [List.length_cons, deepest, List.foldl_cons, Prod.mk.injEq, and_true]
    omega
theorem meas_bad : ∀ (L : List (Tm × Nat)) (n d : Nat), n ≤ 2000 → ¬(n + L.length ≤ 2000 ∧ (∀ x ∈ L, x.2 ≤ 500) ∧ (∀ x ∈ L, chk x.1 = 0)) → ∃ e, meas L n d = (0, 0, e) ∧ (e = 1 ∨ e = 3)
  | [], n, d, h, h1 => by simp at h1; omega
  | (t, k) :: r, n, d, h, h1 => by
    rw [meas]
    by_cases a0 : n = 2000
    · rw [if_pos a0]; exact ⟨3, rfl, .inr rfl⟩
    rw [if_neg a0]
    by_cases a1 : 500 < k
    · rw [if_pos a1]; exact ⟨3, rfl, .inr rfl⟩
    rw [if_neg a1]
    by_cases a2 : chk t = 0
    · rw [if_neg (by simp [a2])]
      refine meas_bad r (n + 1) (max d k) (by omega) fun q => h1 ?_
      simp only [List.length_cons, List.mem_cons]
      exact ⟨by omega, fun x hx => hx.elim (fun e => by subst e; simp; omega) (q.2.1 x), fun x hx => hx.elim (fun e => by subst e; exact a2) (q.2.2 x)⟩
    · rw [if_pos a2]
      exact ⟨_, rfl, (chk_cases t).elim (fun e => absurd e a2) id⟩
def may (t : Tm) : Int := (meas (pre 1 t) 0 0).2.2
def nodes (t : Tm) : Int := (meas (pre 1 t) 0 0).1
def depth (t : Tm) : Int := (meas (pre 1 t) 0 0).2.1
/-- the term may be -/
def good (t : Tm) : Bool := decide (size t ≤ 2000) && decide (height t ≤ 500) && sound t
theorem deepest_max : ∀ (L : List (Tm × Nat)) (d : Nat), (∀ m, deepest L d ≤ m ↔ d ≤ m ∧ ∀ x ∈ L, x.2 ≤ m)
  | [], d, m => by simp [deepest]
  | x :: r, d, m => by
    have := deepest_max r (max d x.2) m
    simp only [deepest, List.foldl_cons] at this ⊢
    rw [this]
    simp only [List.mem_cons, forall_eq_or_imp, Nat.max_le]
    exact ⟨fun ⟨⟨a, b⟩, c⟩ => ⟨a, b, c⟩, fun ⟨a, b, c⟩ => ⟨⟨a, b⟩, c⟩⟩
theorem height_pos (t : Tm) : 1 ≤ height t := by cases t; simp only [height]; omega
theorem size_pos (t : Tm) : 1 ≤ size t := by cases t; simp only [size]; omega
theorem deepest_pre (t : Tm) : deepest (pre 1 t) 0 = height t := by
  have h := fun m => deepest_max (pre 1 t) 0 m
  have g := (pre_facts t 1).2.2.2
  have := height_pos t
  apply Nat.le_antisymm
  · exact (h _).2 ⟨by omega, (g _).2 (by omega)⟩
  · have := (g (deepest (pre 1 t) 0)).1 ((h _).1 (Nat.le_refl _)).2
    omega
theorem meas_good {t : Tm} (h : good t = true) : meas (pre 1 t) 0 0 = ((size t : Int), (height t : Int), 0) := by
  simp only [good, Bool.and_eq_true, decide_eq_true_eq] at h
  obtain ⟨g1, g2, g3, g4⟩ := pre_facts t 1
  rw [meas_ok _ 0 0 (by omega) ((g4 500).2 (by omega)) (g2.2 h.2), deepest_pre, g1]
  simp
theorem meas_nogood {t : Tm} (h : good t = false) : ∃ e, meas (pre 1 t) 0 0 = (0, 0, e) ∧ (e = 1 ∨ e = 3) := by
  obtain ⟨g1, g2, g3, g4⟩ := pre_facts t 1
  refine meas_bad _ 0 0 (by omega) fun q => ?_
  have : good t = true := by
    simp only [good, Bool.and_eq_true, decide_eq_true_eq]
    exact ⟨⟨by omega, by have := (g4 500).1 q.2.1; omega⟩, g2.1 q.2.2⟩
  rw [h] at this
  exact absurd this (by simp)
theorem may_good {t : Tm} (h : good t = true) : may t = 0 := by rw [may, meas_good h]
theorem nodes_good {t : Tm} (h : good t = true) : nodes t = size t := by rw [nodes, meas_good h]
theorem depth_good {t : Tm} (h : good t = true) : depth t = height t := by rw [depth, meas_good h]
theorem may_nogood {t : Tm} (h : good t = false) : may t = 1 ∨ may t = 3 := by obtain ⟨e, h, h'⟩ := meas_nogood h; rw [may, h]; exact h'
theorem nodes_nogood {t : Tm} (h : good t = false) : nodes t = 0 := by obtain ⟨e, h, h'⟩ := meas_nogood h; rw [nodes, h]
theorem depth_nogood {t : Tm} (h : good t = false) : depth t = 0 := by obtain ⟨e, h, h'⟩ := meas_nogood h; rw [depth, h]
theorem may_iff (t : Tm) : may t = 0 ↔ good t = true := by
  cases h : good t
  · have := may_nogood h
    simp; omega
  · simp [may_good h]
/-! ### the reference's way -/
def rst (s : Int × Int) (x : Tm × Nat) : Int × Int :=
  if s.2 ≠ 0 then s else (s.1 + 1, if 2000 < s.1 + 1 then 3 else if 500 < x.2 then 3 else chk x.1)
theorem rst_bad {s : Int × Int} (h : s.2 ≠ 0) (L : List (Tm × Nat)) : L.foldl rst s = s := by
  induction L with
  | nil => rfl
  | cons x r ih => rw [List.foldl_cons, rst, if_pos h]; exact ih
theorem rst_meas : ∀ (L : List (Tm × Nat)) (n d : Nat), n ≤ 2000 → (L.foldl rst ((n : Int), 0)).2 = (meas L n d).2.2 ∧ ((L.foldl rst ((n : Int), 0)).2 = 0 → (L.foldl rst ((n : Int), 0)).1 = (meas L n d).1)
  | [], n, d, _ => by simp [meas]
  | (t, k) :: r, n, d, h => by
    rw [List.foldl_cons, meas]
    simp only [rst, ne_eq, not_true_eq_false, if_false]
    by_cases a0 : n = 2000
    · rw [if_pos a0, if_pos (by omega), rst_bad (by simp)]; simp
    rw [if_neg a0, if_neg (by omega)]
    by_cases a1 : 500 < k
    · rw [if_pos a1, if_pos a1, rst_bad (by simp)]; simp
    rw [if_neg a1, if_neg a1]
    by_cases a2 : chk t = 0
    · rw [if_neg (by simp [a2]), a2]
      have := rst_meas r (n + 1) (max d k) (by omega)
      rwa [show ((n + 1 : Nat) : Int) = (n : Int) + 1 by omega] at this
    · rw [if_pos a2, rst_bad a2]
      exact ⟨rfl, fun q => absurd q a2⟩
theorem rst_may (t : Tm) : ((pre 1 t).foldl rst (0, 0)).2 = may t := (rst_meas _ 0 0 (by omega)).1
theorem rst_nodes (t : Tm) : (if ((pre 1 t).foldl rst (0, 0)).2 = 0 then ((pre 1 t).foldl rst (0, 0)).1 else 0) = nodes t := by
  have h := rst_meas (pre 1 t) 0 0 (by omega)
  simp only [Int.natCast_zero] at h
  by_cases e : ((pre 1 t).foldl rst (0, 0)).2 = 0
  · rw [if_pos e, h.2 e]; rfl
  · rw [if_neg e]
    rw [h.1] at e
    cases hg : good t
    · rw [nodes_nogood hg]
    · exact absurd (may_good hg) e
end Go.Proofs.YtedbcmagjbgbjaaGreatDoor.tm
namespace Go.Proofs.YtedbcmagjbgbjaaGreatDoor.tm
/-! ### variables -/
def addv (acc : List Int) (v : Int) : List Int := if v ∈ acc then acc else acc ++ [v]
def vars (t : Tm) : List Int := if good t = true then (occ t).foldl addv [] else []
/-- the variables of these nodes, as they are met -/
def occP (L : List (Tm × Nat)) : List Int := L.filterMap fun x => if x.1.kind = 1 then some x.1.int else none
theorem addv_len (acc : List Int) (v : Int) : (addv acc v).length ≤ acc.length + 1 := by
  unfold addv; split <;> simp
theorem addv_nodup {acc : List Int} (h : acc.Nodup) (v : Int) : (addv acc v).Nodup := by
  unfold addv
  split
  · exact h
  · rename_i hv
    rw [List.nodup_append]
    exact ⟨h, by simp, fun a ha b hb => by simp at hb; subst hb; exact fun e => hv (e ▸ ha)⟩
theorem fold_nodup : ∀ (l : List Int) {acc : List Int}, acc.Nodup → (l.foldl addv acc).Nodup
  | [], _, h => h
  | v :: l, _, h => fold_nodup l (addv_nodup h v)
theorem fold_mem : ∀ (l : List Int) (acc : List Int) (x : Int), x ∈ l.foldl addv acc ↔ x ∈ acc ∨ x ∈ l
  | [], acc, x => by simp
  | v :: l, acc, x => by
    rw [List.foldl_cons, fold_mem l]
    unfold addv
    split
    · rename_i h
      simp only [List.mem_cons]
      exact ⟨fun h => h.imp id Or.inr, fun h => h.elim Or.inl fun h => h.elim (fun e => Or.inl (by subst e; assumption)) Or.inr⟩
    · simp [List.mem_append, List.mem_cons, or_assoc]
theorem fold_len : ∀ (l : List Int) (acc : List Int), (l.foldl addv acc).length ≤ acc.length + l.length
  | [], acc => by simp
  | v :: l, acc => by
    have := fold_len l (addv acc v)
    have := addv_len acc v
    simp only [List.foldl_cons, List.length_cons]; omega
theorem occ_pre (t : Tm) : occP (pre 1 t) = occ t := (pre_facts t 1).2.2.1
theorem occ_len (t : Tm) : (occ t).length ≤ size t := by
  rw [← occ_pre t, ← (pre_facts t 1).1]
  exact List.length_filterMap_le _ _
end Go.Proofs.YtedbcmagjbgbjaaGreatDoor.tm
namespace Go.Proofs.YtedbcmagjbgbjaaGreatDoor.tm
set_option linter.unusedVariables false
/-- two nodes are alike but for their arguments -/
def sn : Tm → Tm → Bool
  | .mk k n i re im l, .mk k' n' i' re' im' l' => decide (k = k') && (if k = 2 then decide (n = n') else if k = 4 then decide (re = re') && decide (im = im') else if k = 5 then decide (n = n') && decide (l.length = l'.length) else decide (i = i'))
/-- node by node: each of the first row is alike the second row's -/
def pf : List (Tm × Nat) → List (Tm × Nat) → Bool
  | [], _ => true
  | _ :: _, [] => false
  | x :: l, y :: l' => sn x.1 y.1 && pf l l'
theorem chk_kind {t : Tm} (h : chk t = 0) : t.kind = 1 ∨ t.kind = 2 ∨ t.kind = 3 ∨ t.kind = 4 ∨ t.kind = 5 := by
  obtain ⟨k, n, i, re, im, l⟩ := t
  simp only [chk] at h
  simp only [Tm.kind]
  by_cases h1 : k = 1
  · exact Or.inl h1
  by_cases h2 : k = 2
  · exact Or.inr (Or.inl h2)
  by_cases h3 : k = 3
  · exact Or.inr (Or.inr (Or.inl h3))
  by_cases h4 : k = 4
  · exact Or.inr (Or.inr (Or.inr (Or.inl h4)))
  by_cases h5 : k = 5
  · exact Or.inr (Or.inr (Or.inr (Or.inr h5)))
  · simp [h1, h2, h3, h4, h5] at h
theorem sound_chk {t : Tm} (h : sound t = true) : chk t = 0 := by
  obtain ⟨k, n, i, re, im, l⟩ := t
  simp only [sound, Bool.and_eq_true, decide_eq_true_eq] at h
  exact h.1
theorem sound_args {k : Int} {n : ByteArray} {i re im : Int} {l : List Tm} (h : sound (.mk k n i re im l) = true) (hk : k = 5) : ∀ x ∈ l, sound x = true := by
  subst hk
  simp only [sound, Bool.and_eq_true, if_true, soundL_all, List.all_eq_true] at h
  exact h.2
theorem likeL_len : ∀ {l l' : List Tm}, likeL l l' = true → l.length = l'.length
  | [], [], _ => rfl
  | _ :: l, _ :: l', h => by
    simp only [likeL, Bool.and_eq_true] at h
    simp [likeL_len h.2]
  | [], _ :: _, h => by simp [likeL] at h
  | _ :: _, [], h => by simp [likeL] at h
theorem pf_pre (a : Tm) : ∀ (b : Tm), sound a = true → sound b = true → ∀ d d' X Y, pf (pre d a ++ X) (pre d' b ++ Y) = (like a b && pf X Y) := by
  induction a using Tm.ind with
  | h k n i re im l ih =>
    intro b ha hb d d' X Y
    obtain ⟨k', n', i', re', im', l'⟩ := b
    have hc := chk_kind (sound_chk ha)
    simp only [Tm.kind] at hc
    by_cases hk : k = k'
    · subst hk
      rcases hc with rfl | rfl | rfl | rfl | rfl
      · simp [pre, pf, sn, like]
      · simp [pre, pf, sn, like]
      · simp [pre, pf, sn, like]
      · simp [pre, pf, sn, like]
      · have hL : ∀ (l : List Tm), (∀ x ∈ l, ∀ (b : Tm), sound x = true → sound b = true → ∀ d d' X Y, pf (pre d x ++ X) (pre d' b ++ Y) = (like x b && pf X Y)) → (∀ x ∈ l, sound x = true) →
            ∀ l' : List Tm, l.length = l'.length → (∀ x ∈ l', sound x = true) → ∀ d d' X Y, pf (preL d l ++ X) (preL d' l' ++ Y) = (likeL l l' && pf X Y) := by
          intro l
          induction l with
          | nil =>
            intro _ _ l' hl _ d d' X Y
            have : l' = [] := List.eq_nil_of_length_eq_zero hl.symm
            subst this
            simp [preL, likeL]
          | cons t r ihr =>
            intro h hs l' hl hs' d d' X Y
            cases l' with
            | nil => simp at hl
            | cons t' r' =>
              simp only [preL, List.append_assoc, likeL]
              rw [h t (by simp) t' (hs t (by simp)) (hs' t' (by simp)), ihr (fun x hx => h x (by simp [hx])) (fun x hx => hs x (by simp [hx])) r' (by simpa using hl) (fun x hx => hs' x (by simp [hx]))]
              rw [Bool.and_assoc]
        simp only [pre, if_true, List.cons_append, pf, sn, like]
        by_cases hl : l.length = l'.length
        · rw [hL l ih (sound_args ha rfl) l' hl (sound_args hb rfl)]
          simp [hl, Bool.and_assoc]
        · have : likeL l l' = false := by
            cases h : likeL l l'
            · rfl
            · exact absurd (likeL_len h) hl
          simp [hl, this]
    · have e1 : like (.mk k n i re im l) (.mk k' n' i' re' im' l') = false := by simp [like, hk]
      rw [e1]
      by_cases h5 : k = 5 <;> by_cases h5' : k' = 5 <;> simp [pre, pf, sn, hk]
theorem pf_like {a b : Tm} (ha : sound a = true) (hb : sound b = true) : pf (pre 1 a) (pre 1 b) = like a b := by
  have := pf_pre a b ha hb 1 1 [] []
  simpa [pf] using this
theorem like_plain (a : Tm) : ∀ (b : Tm), sound a = true → sound b = true → (like a b = true ↔ plain a = plain b) := by
  induction a using Tm.ind with
  | h k n i re im l ih =>
    intro b ha hb
    obtain ⟨k', n', i', re', im', l'⟩ := b
    have hc := chk_kind (sound_chk ha)
    have hc' := chk_kind (sound_chk hb)
    simp only [Tm.kind] at hc hc'
    by_cases hk : k = k'
    · subst hk
      rcases hc with rfl | rfl | rfl | rfl | rfl
      · simp [like, plain, sub, var]
      · simp [like, plain, sub]
      · simp [like, plain, sub]
      · simp [like, plain, sub]
      · have hL : ∀ (l : List Tm), (∀ x ∈ l, ∀ (b : Tm), sound x = true → sound b = true → (like x b = true ↔ plain x = plain b)) → (∀ x ∈ l, sound x = true) →
            ∀ l' : List Tm, (∀ x ∈ l', sound x = true) → (likeL l l' = true ↔ subL var l = subL var l') := by
          intro l
          induction l with
          | nil =>
            intro _ _ l' _
            cases l' <;> simp [likeL, subL]
          | cons t r ihr =>
            intro h hs l' hs'
            cases l' with
            | nil => simp [likeL, subL]
            | cons t' r' =>
              simp only [likeL, subL, Bool.and_eq_true, List.cons.injEq]
              rw [h t (by simp) t' (hs t (by simp)) (hs' t' (by simp)), ihr (fun x hx => h x (by simp [hx])) (fun x hx => hs x (by simp [hx])) r' (fun x hx => hs' x (by simp [hx]))]
              rfl
        have := hL l ih (sound_args ha rfl) l' (sound_args hb rfl)
        simp [like, plain, sub, this]
    · have e1 : like (.mk k n i re im l) (.mk k' n' i' re' im' l') = false := by simp [like, hk]
      rw [e1]
      constructor
      · intro h; cases h
      · intro h
        exfalso
        have := congrArg Tm.kind h
        rcases hc with rfl | rfl | rfl | rfl | rfl <;> rcases hc' with rfl | rfl | rfl | rfl | rfl <;> simp_all [plain, sub, var]
/-- Same's answer -/
def sameB (a b : Tm) : Bool := good a && good b && like a b
theorem good_sound {t : Tm} (h : good t = true) : sound t = true := by simp only [good, Bool.and_eq_true] at h; exact h.2
theorem sameB_iff (a b : Tm) : sameB a b = true ↔ good a = true ∧ good b = true ∧ plain a = plain b := by
  unfold sameB
  simp only [Bool.and_eq_true]
  constructor
  · rintro ⟨⟨h1, h2⟩, h3⟩
    exact ⟨h1, h2, (like_plain a b (good_sound h1) (good_sound h2)).1 h3⟩
  · rintro ⟨h1, h2, h3⟩
    exact ⟨⟨h1, h2⟩, (like_plain a b (good_sound h1) (good_sound h2)).2 h3⟩
theorem bool_ext {x y : Bool} (h : x = true ↔ y = true) : x = y := by cases x <;> cases y <;> simp_all
theorem sameB_comm (a b : Tm) : sameB a b = sameB b a := bool_ext (by rw [sameB_iff, sameB_iff]; exact ⟨fun ⟨x, y, z⟩ => ⟨y, x, z.symm⟩, fun ⟨x, y, z⟩ => ⟨y, x, z.symm⟩⟩)
theorem sameB_refl (a : Tm) : sameB a a = good a := bool_ext (by rw [sameB_iff]; exact ⟨fun h => h.1, fun h => ⟨h, h, rfl⟩⟩)
theorem sameB_trans {a b c : Tm} (h : sameB a b = true) (k : sameB b c = true) : sameB a c = true := by
  rw [sameB_iff] at *
  exact ⟨h.1, k.2.1, h.2.2.trans k.2.2⟩
end Go.Proofs.YtedbcmagjbgbjaaGreatDoor.tm
