/- Terms in memory: which value is which term; what stays when memory turns elsewhere. Package term: what is asked of one node. Package term: the way through a term (begin, next). The way through a term, node by node: what next tells, in terms of the nodes that are still to come. Package term: measure, May, Nodes, Depth. Package term: one node without what has no meaning (plainNode, variable). A term that is being laid in new memory, level by level: what is filled, what is open. The open places of a term that is being laid: the stack of slices beside the levels. The way through a term, told by its rows (for what is laid level by level). -/
import Derived.Test.YtedbcmagjbgbjaaGreatDoorTm
import Derived.Test.YtedbcmagjbgbjaaGreatDoorKeep
import Derived.WalkKit
import Derived.Lib.SmallJoins
import Derived.ScopeJumps
import Derived.WalkMore
import Derived.Deep.AppendLies
import Derived.Deep.RegionLaw
import Derived.Deep.LoopGhost
import Derived.RegionTactic
namespace Go.Proofs.YtedbcmagjbgbjaaGreatDoor.lie
open Go.ChangeShapes Go.WideShapes Go.ChangeAt Go.RowKit
open Go.Proofs.YtedbcmagjbgbjaaGreatDoor.tm
open Go.Proofs.YtedbcmagjbgbjaaGreatDoor.kp
/-- the six cells of a term at (b, o) -/
def Six (w : World) (b o : Nat) (v0 v1 v2 v3 v4 v5 : Value) : Prop :=
  w.cell? ⟨b, o, none⟩ = some v0 ∧ w.cell? ⟨b, o + 1, none⟩ = some v1 ∧ w.cell? ⟨b, o + 2, none⟩ = some v2 ∧ w.cell? ⟨b, o + 3, none⟩ = some v3 ∧ w.cell? ⟨b, o + 4, none⟩ = some v4 ∧ w.cell? ⟨b, o + 5, none⟩ = some v5
structure Fit (k : Int) (n : ByteArray) (i re im : Int) (len c : Nat) : Prop where
  k0 : -9223372036854775808 ≤ k
  k1 : k ≤ 9223372036854775807
  n1 : n.size ≤ 9223372036854775807
  i0 : -9223372036854775808 ≤ i
  i1 : i ≤ 9223372036854775807
  r0 : 0 ≤ re
  r1 : re ≤ 18446744073709551615
  m0 : 0 ≤ im
  m1 : im ≤ 18446744073709551615
  l1 : len ≤ c
  c1 : c ≤ 9223372036854775807
mutual
/-- the value v is the term; its arguments lie in blocks that are none of X -/
def Lies (X : Nat → Prop) (w : World) : Tm → Value → Prop
  | .mk k n i re im l, v => ∃ a c, v = .agg #[.int .i64 k, .string n, .int .i64 i, .int .u64 re, .int .u64 im, .slice a l.length c] ∧ Fit k n i re im l.length c ∧ TRow X w l a 0
/-- behind the address a lie these terms, from place j on -/
def TRow (X : Nat → Prop) (w : World) : List Tm → Option Addr → Nat → Prop
  | [], _, _ => True
  | t :: r, a, j => (∃ b o v0 v1 v2 v3 v4 v5, a = some ⟨b, o, none⟩ ∧ ¬ X b ∧ Six w b (o + j * 6) v0 v1 v2 v3 v4 v5 ∧ Lies X w t (.agg #[v0, v1, v2, v3, v4, v5])) ∧ TRow X w r a (j + 1)
end
/-- the value v is a slice of these terms -/
def Slc (X : Nat → Prop) (w : World) (l : List Tm) (v : Value) : Prop := ∃ a c, v = .slice a l.length c ∧ l.length ≤ c ∧ c ≤ maxLen ∧ TRow X w l a 0
theorem cell_lt {w : World} {b o : Nat} {v : Value} (h : w.cell? ⟨b, o, none⟩ = some v) : b < w.heap.size := by
  apply Classical.byContradiction
  intro hn
  have : w.heap[b]? = none := Array.getElem?_eq_none (by omega)
  simp [World.cell?, this] at h
theorem Six.keep {w w' : World} {b o : Nat} {v0 v1 v2 v3 v4 v5 : Value} {X : Nat → Prop} (h : Six w b o v0 v1 v2 v3 v4 v5) (hk : Keep X w w') (hX : ¬ X b) : Six w' b o v0 v1 v2 v3 v4 v5 := by
  have hb := hk.block b (cell_lt h.1) hX
  have e : ∀ o, w'.cell? ⟨b, o, none⟩ = w.cell? ⟨b, o, none⟩ := fun o => by simp only [World.cell?, hb]
  obtain ⟨h0, h1, h2, h3, h4, h5⟩ := h
  exact ⟨(e _).trans h0, (e _).trans h1, (e _).trans h2, (e _).trans h3, (e _).trans h4, (e _).trans h5⟩
theorem Lies.keep {w w' : World} {X Y : Nat → Prop} (hk : Keep X w w') (hY : ∀ b, b < w.heap.size → Y b → X b) : ∀ (t : Tm) (v : Value), Lies X w t v → Lies Y w' t v := by
  intro t
  induction t using Tm.ind with
  | h k n i re im l ih =>
    intro v h
    rw [Lies] at h ⊢
    obtain ⟨a, c, hv, hf, hr⟩ := h
    refine ⟨a, c, hv, hf, ?_⟩
    have hl : ∀ (l : List Tm), (∀ x ∈ l, ∀ v, Lies X w x v → Lies Y w' x v) → ∀ j, TRow X w l a j → TRow Y w' l a j := by
      intro l
      induction l with
      | nil => intro _ j _; rw [TRow]; trivial
      | cons t r ihr =>
        intro h j hr
        rw [TRow] at hr ⊢
        obtain ⟨⟨b, o, v0, v1, v2, v3, v4, v5, ha, hb, hs, ht⟩, hr⟩ := hr
        exact ⟨⟨b, o, v0, v1, v2, v3, v4, v5, ha, fun q => hb (hY b (cell_lt hs.1) q), hs.keep hk hb, h t (by simp) _ ht⟩, ihr (fun x hx => h x (by simp [hx])) _ hr⟩
    exact hl l (fun x hx => ih x hx) 0 hr
theorem TRow.keep {w w' : World} {X Y : Nat → Prop} (hk : Keep X w w') (hY : ∀ b, b < w.heap.size → Y b → X b) {a : Option Addr} : ∀ (l : List Tm) (j : Nat), TRow X w l a j → TRow Y w' l a j
  | [], j, _ => by rw [TRow]; trivial
  | t :: r, j, h => by
    rw [TRow] at h ⊢
    obtain ⟨⟨b, o, v0, v1, v2, v3, v4, v5, ha, hb, hs, ht⟩, hr⟩ := h
    exact ⟨⟨b, o, v0, v1, v2, v3, v4, v5, ha, fun q => hb (hY b (cell_lt hs.1) q), hs.keep hk hb, Lies.keep hk hY t _ ht⟩, TRow.keep hk hY r _ hr⟩
theorem Slc.keep {w w' : World} {X Y : Nat → Prop} (hk : Keep X w w') (hY : ∀ b, b < w.heap.size → Y b → X b) {l : List Tm} {v : Value} (h : Slc X w l v) : Slc Y w' l v := by
  obtain ⟨a, c, hv, h1, h2, h3⟩ := h
  exact ⟨a, c, hv, h1, h2, TRow.keep hk hY l 0 h3⟩
abbrev No : Nat → Prop := fun _ => False
theorem Lies.below {w w' : World} {X : Nat → Prop} (hb : Below w.heap.size w w') {t : Tm} {v : Value} (h : Lies X w t v) : Lies X w' t v :=
  Lies.keep (Keep.of_below hb) (fun _ _ => id) t v h
theorem TRow.below {w w' : World} {X : Nat → Prop} (hb : Below w.heap.size w w') {l : List Tm} {a : Option Addr} {j : Nat} (h : TRow X w l a j) : TRow X w' l a j :=
  TRow.keep (Keep.of_below hb) (fun _ _ => id) l j h
theorem Slc.below {w w' : World} {X : Nat → Prop} (hb : Below w.heap.size w w') {l : List Tm} {v : Value} (h : Slc X w l v) : Slc X w' l v :=
  Slc.keep (Keep.of_below hb) (fun _ _ => id) h
/-- what lies in old memory lies off all blocks that are new, whatever they are -/
theorem Lies.off {w : World} {X Y : Nat → Prop} (hY : ∀ b, b < w.heap.size → Y b → X b) {t : Tm} {v : Value} (h : Lies X w t v) : Lies Y w t v :=
  Lies.keep (Keep.refl X w) hY t v h
theorem TRow.off {w : World} {X Y : Nat → Prop} (hY : ∀ b, b < w.heap.size → Y b → X b) {l : List Tm} {a : Option Addr} {j : Nat} (h : TRow X w l a j) : TRow Y w l a j :=
  TRow.keep (Keep.refl X w) hY l j h
theorem Slc.off {w : World} {X Y : Nat → Prop} (hY : ∀ b, b < w.heap.size → Y b → X b) {l : List Tm} {v : Value} (h : Slc X w l v) : Slc Y w l v :=
  Slc.keep (Keep.refl X w) hY h
theorem TRow.at {w : World} {X : Nat → Prop} {a : Option Addr} : ∀ {l : List Tm} {j : Nat} (_ : TRow X w l a j) (m : Nat) (hm : m < l.length),
    ∃ b o v0 v1 v2 v3 v4 v5, a = some ⟨b, o, none⟩ ∧ ¬ X b ∧ Six w b (o + (j + m) * 6) v0 v1 v2 v3 v4 v5 ∧ Lies X w l[m] (.agg #[v0, v1, v2, v3, v4, v5])
  | t :: r, j, h, 0, _ => by rw [TRow] at h; exact h.1
  | t :: r, j, h, m + 1, hm => by
    rw [TRow] at h
    have := TRow.at h.2 m (by simpa using hm)
    simpa [show j + 1 + m = j + (m + 1) by omega] using this
theorem TRow.mk {w : World} {X : Nat → Prop} {a : Option Addr} : ∀ (l : List Tm) (j : Nat) (_ : ∀ (m : Nat) (hm : m < l.length),
    ∃ b o v0 v1 v2 v3 v4 v5, a = some ⟨b, o, none⟩ ∧ ¬ X b ∧ Six w b (o + (j + m) * 6) v0 v1 v2 v3 v4 v5 ∧ Lies X w l[m] (.agg #[v0, v1, v2, v3, v4, v5])), TRow X w l a j
  | [], j, _ => by rw [TRow]; trivial
  | t :: r, j, h => by
    rw [TRow]
    refine ⟨h 0 (by simp), TRow.mk r (j + 1) fun m hm => ?_⟩
    have := h (m + 1) (by simpa using hm)
    simpa [show j + (m + 1) = j + 1 + m by omega] using this
/-- looking at place m of a slice of terms: where it is, what stands there -/
theorem TRow.look {w : World} {X : Nat → Prop} {a : Option Addr} {l : List Tm} (h : TRow X w l a 0) {m : Nat} (hm : m < l.length) :
    ∃ b o v0 v1 v2 v3 v4 v5, b < w.heap.size ∧ ¬ X b ∧ Six w b o v0 v1 v2 v3 v4 v5 ∧ Lies X w l[m] (.agg #[v0, v1, v2, v3, v4, v5]) ∧
      ∀ (c : Nat) (w' : World), (Instr.indexAt 25 (.slice a l.length c) (.int .i64 (m : Int))).run Tryz.prog w' = .ok (.pointer (some ⟨b, o, none⟩)) w' := by
  obtain ⟨b, o, v0, v1, v2, v3, v4, v5, rfl, hX, hs, ht⟩ := h.at m hm
  refine ⟨b, o + m * 6, v0, v1, v2, v3, v4, v5, cell_lt hs.1, hX, by simpa using hs, ht, fun c w' => ?_⟩
  have he : Tryz.prog.elem 25 = 27 := by kernel_rfl
  have hz : (sizeOf 27).run Tryz.prog w' = .ok 6 w' := by kernel_rfl
  rw [run_indexAt_slice w' 25 _ _ _ _ _ (by rw [he]; exact Tryz.underlying25), if_pos ⟨by omega, by omega⟩, he, hz]
  simp [Result.andThen, Addr.add]
end Go.Proofs.YtedbcmagjbgbjaaGreatDoor.lie
namespace Go.Proofs.YtedbcmagjbgbjaaGreatDoor.may
open Go.ChangeShapes Go.WideShapes Go.ChangeAt Go.RowKit
open Go.Proofs.YtedbcmagjbgbjaaGreatDoor.tm Go.Proofs.YtedbcmagjbgbjaaGreatDoor.lie Go.Proofs.YtedbcmagjbgbjaaGreatDoor.kp
def nmv (n : ByteArray) : Int := if 200 < n.size then 3 else 0
theorem mayName_any (n : ByteArray) (w : World) (hn : n.size ≤ 9223372036854775807) :
    Calls Tryz.prog 169 #[.string n] w fun e w' => e = .returned (.int .i64 (nmv n)) ∧ w = w' := by
  by_cases h : 200 < n.size
  · have hd : decide (((n.size : Nat) : Int) > 200) = true := by simp; omega
    go_enter Tryz.func169, Tryz.ntmps169
    go_wp2_with fail
    go_ret
    exact ⟨ri (by rw [nmv, if_pos h]), rfl⟩
  · go_enter Tryz.func169, Tryz.ntmps169
    go_wp2_with fail
    go_ret
    exact ⟨ri (by rw [nmv, if_neg h]), rfl⟩
def chkv (k : Int) (n : ByteArray) (i : Int) (len : Nat) : Int :=
  if k = 1 then (if i < 0 then 1 else 0) else if k = 2 then nmv n else if k = 3 then 0 else if k = 4 then 0
    else if k = 5 then (if len = 0 then 1 else if 20 < len then 3 else nmv n) else 1
set_option maxHeartbeats 1000000 in
theorem mayNode_any (k : Int) (n : ByteArray) (i re im : Int) (a : Option Addr) (len c : Nat) (w : World) (f : Fit k n i re im len c) :
    Calls Tryz.prog 136 #[.agg #[.int .i64 k, .string n, .int .i64 i, .int .u64 re, .int .u64 im, .slice a len c]] w fun e w' => e = .returned (.int .i64 (chkv k n i len)) ∧ Below w.heap.size w w' := by
  obtain ⟨k0, k1, n1, i0, i1, r0, r1, m0, m1, l1, c1⟩ := f
  by_cases h1 : k = 1
  · subst h1
    by_cases hi : i < 0
    all_goals
      go_enter Tryz.func136, Tryz.ntmps136
      go_wp2_with fail
      go_ret
      exact ⟨ri (by simp [chkv]; omega), ba _ _⟩
  by_cases h2 : k = 2
  · subst h2
    go_enter Tryz.func136, Tryz.ntmps136
    go_wp2_with fail
    refine (mayName_any n _ n1).mono ?_
    rintro e w' ⟨rfl, rfl⟩
    go_wp2_with fail
    go_ret
    exact ⟨ri (by simp [chkv]), ba _ _⟩
  by_cases h3 : k = 3
  · subst h3
    go_enter Tryz.func136, Tryz.ntmps136
    go_wp2_with fail
    go_ret
    exact ⟨ri (by simp [chkv]), ba _ _⟩
  by_cases h4 : k = 4
  · subst h4
    go_enter Tryz.func136, Tryz.ntmps136
    go_wp2_with fail
    go_ret
    exact ⟨ri (by simp [chkv]), ba _ _⟩
  by_cases h5 : k = 5
  · subst h5
    by_cases g0 : len = 0
    · subst g0
      go_enter Tryz.func136, Tryz.ntmps136
      go_wp2_with fail
      go_ret
      exact ⟨ri (by simp [chkv]), ba _ _⟩
    have g0' : ((len : Int) == 0) = false := by rw [beq_eq_false_iff_ne]; omega
    by_cases g1 : 20 < len
    · go_enter Tryz.func136, Tryz.ntmps136
      go_wp2_with fail
      go_ret
      exact ⟨ri (by simp [chkv, g0, g1]), ba _ _⟩
    · go_enter Tryz.func136, Tryz.ntmps136
      go_wp2_with fail
      refine (mayName_any n _ n1).mono ?_
      rintro e w' ⟨rfl, rfl⟩
      go_wp2_with fail
      go_ret
      exact ⟨ri (by simp [chkv, g0]; intro _; omega), ba _ _⟩
  have e1 : (k == 1) = false := by rw [beq_eq_false_iff_ne]; exact h1
  have e2 : (k == 2) = false := by rw [beq_eq_false_iff_ne]; exact h2
  have e3 : (k == 3) = false := by rw [beq_eq_false_iff_ne]; exact h3
  have e4 : (k == 4) = false := by rw [beq_eq_false_iff_ne]; exact h4
  have e5 : (k == 5) = false := by rw [beq_eq_false_iff_ne]; exact h5
  have H : Hid _ := Lib.hid (And.intro h1 (And.intro h2 (And.intro h3 (And.intro h4 h5))))
  clear h1 h2 h3 h4 h5
  go_enter Tryz.func136, Tryz.ntmps136
  go_wp2_with fail
  go_ret
  obtain ⟨h1, h2, h3, h4, h5⟩ := H.out
  exact ⟨ri (by simp [chkv, h1, h2, h3, h4, h5]), ba _ _⟩
theorem chkv_chk (k : Int) (n : ByteArray) (i re im : Int) (l : List Tm) : chkv k n i l.length = chk (.mk k n i re im l) := by simp only [chkv, chk, nmv]
end Go.Proofs.YtedbcmagjbgbjaaGreatDoor.may
namespace Go.Proofs.YtedbcmagjbgbjaaGreatDoor.wlk
set_option linter.unusedVariables false
open Go.ChangeShapes Go.WideShapes Go.ChangeAt Go.RowKit
open Go.Proofs.YtedbcmagjbgbjaaGreatDoor.tm Go.Proofs.YtedbcmagjbgbjaaGreatDoor.lie Go.Proofs.YtedbcmagjbgbjaaGreatDoor.kp
/-- each value is a slice of the terms of its row -/
def All (X : Nat → Prop) (w : World) : List (List Tm) → List Value → Prop
  | [], [] => True
  | r :: R, x :: xs => Slc X w r x ∧ All X w R xs
  | _, _ => False
theorem All.len {X : Nat → Prop} {w : World} : ∀ {R : List (List Tm)} {xs : List Value}, All X w R xs → xs.length = R.length
  | [], [], _ => rfl
  | _ :: _, _ :: _, h => by simp [All.len h.2]
  | [], _ :: _, h => h.elim
  | _ :: _, [], h => h.elim
theorem All.map {X Y : Nat → Prop} {w w' : World} (f : ∀ l v, Slc X w l v → Slc Y w' l v) : ∀ {R : List (List Tm)} {xs : List Value}, All X w R xs → All Y w' R xs
  | [], [], _ => trivial
  | _ :: _, _ :: _, h => ⟨f _ _ h.1, All.map f h.2⟩
  | [], _ :: _, h => h.elim
  | _ :: _, [], h => h.elim
theorem All.append {X : Nat → Prop} {w : World} : ∀ {R S : List (List Tm)} {xs ys : List Value}, All X w R xs → All X w S ys → All X w (R ++ S) (xs ++ ys)
  | [], _, [], _, _, h => h
  | _ :: _, _, _ :: _, _, h, k => ⟨h.1, All.append h.2 k⟩
  | [], _, _ :: _, _, h, _ => h.elim
  | _ :: _, _, [], _, h, _ => h.elim
theorem All.split {X : Nat → Prop} {w : World} : ∀ {R S : List (List Tm)} {xs : List Value}, All X w (R ++ S) xs → All X w R (xs.take R.length) ∧ All X w S (xs.drop R.length)
  | [], _, xs, h => by simpa [All] using h
  | _ :: R, _, x :: xs, h => by
    have := All.split (R := R) h.2
    exact ⟨⟨h.1, this.1⟩, this.2⟩
  | _ :: _, _, [], h => h.elim
/-- all that is new from block B on, but for the block r (the root's own row) -/
abbrev Off (B r : Nat) : Nat → Prop := fun k => B ≤ k ∧ k ≠ r
/-- THE WAY at block p, what is still to be met: R (the root's row first); F: its own blocks; the terms lie off all that is new but r. -/
def TWay (B r : Nat) (w : World) (p : Nat) (F : Nat → Prop) (R : List (List Tm)) : Prop :=
  ∃ g c xs, w.heap[p]? = some (.cells #[.slice (some ⟨g, 0, none⟩) R.length c] 194 (0, 0)) ∧ w.ownsRow B 25 1 (.slice (some ⟨g, 0, none⟩) R.length c) R.length xs ∧ All (Off B r) w R xs ∧
    p ≠ g ∧ (∀ k, F k ↔ k = p ∨ k = g) ∧ (∀ k, F k → Off B r k)
theorem TWay.lt {B r : Nat} {w : World} {p : Nat} {F : Nat → Prop} {R : List (List Tm)} (h : TWay B r w p F R) : ∀ k, F k → B ≤ k ∧ k ≠ r ∧ k < w.heap.size := by
  obtain ⟨g, c, xs, hp, ho, _, _, hF, hO⟩ := h
  intro k hk
  refine ⟨(hO k hk).1, (hO k hk).2, ?_⟩
  rcases (hF k).1 hk with rfl | rfl
  · exact (Array.getElem?_eq_some_iff.1 hp).1
  · exact (ho.lt _ rfl).2
theorem TWay.keep {B r : Nat} {w w' : World} {p : Nat} {F G : Nat → Prop} {R : List (List Tm)} (h : TWay B r w p F R) (hk : Keep G w w') (hd : ∀ k, F k → ¬ G k) (hG : ∀ k, G k → B ≤ k ∧ k ≠ r) : TWay B r w' p F R := by
  have hlt := h.lt
  obtain ⟨g, c, xs, hp, ho, ha, h1, hF, hO⟩ := h
  have hb : ∀ k, F k → w'.heap[k]? = w.heap[k]? := fun k f => hk.block k (hlt k f).2.2 (hd k f)
  refine ⟨g, c, xs, (hb p ((hF p).2 (Or.inl rfl))).trans hp, ?_, ha.map fun l v h => Slc.keep (hk.mono hG) (fun _ _ => id) h, h1, hF, hO⟩
  obtain ⟨hl, hr⟩ := ho
  refine ⟨hl, ?_⟩
  rcases hr with hr | ⟨g', cap, cur, hg, hg0, hgc, r⟩
  · exact Or.inl hr
  · have : g' = g := by simp at hg; exact hg.1.symm
    subst this
    exact Or.inr ⟨g', cap, cur, hg, hg0, (hb g' ((hF g').2 (Or.inr rfl))).trans hgc, r⟩
/-- a new way -/
def Begun (B : Nat) (t : Tm) (w : World) (e : Ending) (w' : World) : Prop := ∃ p F r, e = .returned (.pointer (some ⟨p, 0, none⟩)) ∧ TWay B r w' p F [[t]] ∧ Below w.heap.size w w' ∧ (∀ k, F k → w.heap.size ≤ k) ∧ w.heap.size ≤ r ∧ r < w'.heap.size
theorem six_alloc (w : World) (v0 v1 v2 v3 v4 v5 : Value) (t : TypeId) : Six (w.alloc (.cells #[v0, v1, v2, v3, v4, v5] t)) w.heap.size 0 v0 v1 v2 v3 v4 v5 := by
  refine ⟨?_, ?_, ?_, ?_, ?_, ?_⟩ <;> exact alloc_cell w _ _ t _ _ rfl rfl
theorem begin_any (B : Nat) (t : Tm) (v : Value) (w : World) (hB : B ≤ w.heap.size) (ht : Lies (fun k => B ≤ k) w t v) :
    Calls Tryz.prog 134 #[v] w (Begun B t w) := by
  obtain ⟨k, n, i, re, im, l⟩ := t
  have HT := Lib.hid ht
  rw [Lies] at ht
  obtain ⟨a, c, rfl, hf, hr⟩ := ht
  have HF := Lib.hid hf
  clear hr hf
  have HB := Lib.hid hB
  clear hB
  go_enter Tryz.func134, Tryz.ntmps134
  go_wp2_with fail
  go_ret
  have hB := HB.out
  have hb1 := ba w (.cells #[.int .i64 k, .string n, .int .i64 i, .int .u64 re, .int .u64 im, .slice a l.length c] 27)
  generalize hw1 : w.alloc (.cells #[.int .i64 k, .string n, .int .i64 i, .int .u64 re, .int .u64 im, .slice a l.length c] 27) = w1 at hb1 ⊢
  have hs1 : w1.heap.size = w.heap.size + 1 := by rw [← hw1, alloc_size]
  have hb2 := ba w1 (.cells #[.int .i64 k, .string n, .int .i64 i, .int .u64 re, .int .u64 im, .slice a l.length c] 27)
  have h6 := six_alloc w1 (.int .i64 k) (.string n) (.int .i64 i) (.int .u64 re) (.int .u64 im) (.slice a l.length c) 27
  generalize hw2 : w1.alloc (.cells #[.int .i64 k, .string n, .int .i64 i, .int .u64 re, .int .u64 im, .slice a l.length c] 27) = w2 at hb2 h6 ⊢
  have hs2 : w2.heap.size = w.heap.size + 1 + 1 := by rw [← hw2, alloc_size, hs1]
  have hb3 := ba w2 (.cells #[.slice (some ⟨w.heap.size + 1, 0, none⟩) 1 1] 25)
  generalize hw3 : w2.alloc (.cells #[.slice (some ⟨w.heap.size + 1, 0, none⟩) 1 1] 25) = w3 at hb3 ⊢
  have hs3 : w3.heap.size = w.heap.size + 1 + 1 + 1 := by rw [← hw3, alloc_size, hs2]
  have hb4 := ba w3 (.cells #[.slice (some ⟨w.heap.size + 1 + 1, 0, none⟩) 1 1] 194)
  have hb34 := bt hb3 hb4
  have hb := bt (bt hb1 hb2) hb34
  refine ⟨w.heap.size + 1 + 1 + 1, fun k => k = w.heap.size + 1 + 1 + 1 ∨ k = w.heap.size + 1 + 1, w.heap.size + 1, rfl, ?_, hb, fun k hk => by omega, by omega, by rw [alloc_size, hs3]; omega⟩
  refine ⟨w.heap.size + 1 + 1, 1, [.slice (some ⟨w.heap.size + 1, 0, none⟩) 1 1], ?_, ⟨rfl, Or.inr ⟨w.heap.size + 1 + 1, 1, #[.slice (some ⟨w.heap.size + 1, 0, none⟩) 1 1], rfl, by omega, ?_, by simp, by simp [maxLen], rfl, rfl⟩⟩, ⟨⟨some ⟨w.heap.size + 1, 0, none⟩, 1, rfl, by simp, by simp [maxLen], ?_⟩, trivial⟩, by omega, fun k => Iff.rfl, fun k hk => ⟨by omega, by omega⟩⟩
  · rw [← hs3]; exact alloc_at _ _
  · have : (w3.alloc (Obj.cells #[Value.slice (some ⟨w.heap.size + 1 + 1, 0, none⟩) 1 1] 194)).heap[w.heap.size + 1 + 1]? = w3.heap[w.heap.size + 1 + 1]? := hb4.block _ (by omega)
    rw [this, ← hw3, ← hs2]; exact alloc_at _ _
  · rw [TRow]
    refine ⟨⟨w.heap.size + 1, 0, .int .i64 k, .string n, .int .i64 i, .int .u64 re, .int .u64 im, .slice a l.length c, rfl, by omega, ?_, ?_⟩, by rw [TRow]; trivial⟩
    · have := h6.keep (X := No) (Keep.of_below hb34) id
      simpa [hs1] using this
    · exact (HT.out.off (fun k _ h => h.1)).below hb
/-- slicing off the first: what stands behind it -/
theorem TRow.tail {X : Nat → Prop} {w : World} {t : Tm} {r : List Tm} {a : Option Addr} {c : Nat} (h : TRow X w (t :: r) a 0) (hc : r.length + 1 ≤ c) :
    ∃ a', TRow X w r a' 0 ∧ ∀ w', (Instr.slice 25 (.slice a (r.length + 1) c) (some (.int .i64 1)) none none).run Tryz.prog w' = .ok (.slice a' r.length (c - 1)) w' := by
  rw [TRow] at h
  obtain ⟨⟨b, o, v0, v1, v2, v3, v4, v5, rfl, _⟩, hr⟩ := h
  refine ⟨if c = 1 then some ⟨b, o, none⟩ else some ⟨b, o + 6, none⟩, ?_, fun w' => ?_⟩
  · by_cases e : c = 1
    · have : r = [] := List.eq_nil_of_length_eq_zero (by omega)
      subst this
      rw [TRow]; trivial
    · rw [if_neg e]
      refine TRow.mk _ _ fun m hm => ?_
      obtain ⟨b', o', v0, v1, v2, v3, v4, v5, ha, hX, hs, ht⟩ := hr.at m hm
      cases ha
      exact ⟨b, o + 6, v0, v1, v2, v3, v4, v5, rfl, hX, by rw [show o + 6 + (0 + m) * 6 = o + (0 + 1 + m) * 6 by omega]; exact hs, ht⟩
  · have he : Tryz.prog.elem 25 = 27 := by kernel_rfl
    have hz : (sizeOf 27).run Tryz.prog w' = .ok 6 w' := by kernel_rfl
    rw [run_slice_l w' 25 _ _ _ (by rw [he]; exact Tryz.underlying25) _ _ (by omega) (by omega), he, hz]
    simp only [Result.andThen, sliced]
    by_cases e : c = 1
    · subst e
      have : r = [] := List.eq_nil_of_length_eq_zero (by omega)
      subst this
      rfl
    · have e' : ¬ c = (1 : Int).toNat := e
      rw [if_neg e, if_neg e']
      simp [Addr.add]
/-- a scope that begins with its label -/
theorem wp_scope_label {P : Program} {Q : Exit → Act → World → Prop} {a : Act} {w : World} {rest : Code} (l : Nat) (J : Act → World → Prop) (μ : Act → World → Nat) 
    (hJ : J a w) (pass : ∀ a w, J a w → rest.wp P (Exit.jump l (fun a' w' => J a' w' ∧ μ a' w' < μ a w) Q) a w) : (Code.scope ((Code.label l).seq rest)).wp P Q a w := by
  refine wp_scope_jumps l J μ (rest := Code.skip.seq rest) (by simp [findLabel]) ?_ fun a w h => wp_seq (wp_skip (pass a w h))
  refine wp_seq (wp_label ?_)
  show rest.wp P _ a w
  refine wp_mono (pass a w hJ) fun e a' w' h => ?_
  cases e <;> first | exact ⟨h.1, h.2.1⟩ | exact h
theorem own_cell {w : World} {B e g n c : Nat} {xs : List Value} (ho : w.ownsRow B e 1 (.slice (some ⟨g, 0, none⟩) n c) n xs) {m : Nat} (hm : m < n) :
    w.cell? ⟨g, m, none⟩ = xs[m]? ∧ w.frozen? ⟨g, m, none⟩ = false ∧ g < w.heap.size ∧ n ≤ c ∧ B ≤ g := by
  obtain ⟨hl, hr⟩ := ho
  rcases hr with ⟨hr, _⟩ | ⟨g', cap, cur, hg, hg0, hgc, h1, h2, h3, h4⟩
  · cases hr
  · simp only [Value.slice.injEq, Option.some.injEq, Addr.mk.injEq, and_true, true_and] at hg
    obtain ⟨rfl, rfl⟩ := hg
    refine ⟨?_, ?_, (Array.getElem?_eq_some_iff.1 hgc).1, h1, hg0⟩
    · subst h4
      rw [List.getElem?_take, if_pos (by omega)]
      simp [World.cell?, hgc]
    · simp [World.frozen?, hgc]
theorem All.at {X : Nat → Prop} {w : World} : ∀ {R : List (List Tm)} {xs : List Value} (_ : All X w R xs) {m : Nat} {row : List Tm} (_ : R[m]? = some row), ∃ x, xs[m]? = some x ∧ Slc X w row x
  | [], [], _, m, _, hm => by simp at hm
  | _ :: _, x :: _, h, 0, _, hm => by simp only [List.getElem?_cons_zero, Option.some.injEq] at hm; exact ⟨x, rfl, hm ▸ h.1⟩
  | _ :: R, _ :: xs, h, m + 1, _, hm => by simpa using All.at h.2 (by simpa using hm)
  | [], _ :: _, h, _, _, _ => h.elim
  | _ :: _, [], h, _, _, _ => h.elim
abbrev ZT : Obj := .cells #[.int .i64 0, .string ⟨#[]⟩, .int .i64 0, .int .u64 0, .int .u64 0, .slice none 0 0] 27
theorem six_set {w : World} {b : Nat} {v0 v1 v2 v3 v4 v5 u0 u1 u2 u3 u4 u5 : Value} {t : TypeId} (h : w.heap[b]? = some (.cells #[u0, u1, u2, u3, u4, u5] t (0, 0))) :
    Six ((((((w.setCell ⟨b, 0, none⟩ v0).setCell ⟨b, 1, none⟩ v1).setCell ⟨b, 2, none⟩ v2).setCell ⟨b, 3, none⟩ v3).setCell ⟨b, 4, none⟩ v4).setCell ⟨b, 5, none⟩ v5) b 0 v0 v1 v2 v3 v4 v5 := by
  have e := fun (w : World) (i : Nat) (cs : Array Value) (v : Value) (hg : w.heap[b]? = some (.cells cs t (0, 0))) => heap_setCell_same w b i cs t v hg
  have hf := e _ 5 _ v5 (e _ 4 _ v4 (e _ 3 _ v3 (e _ 2 _ v2 (e _ 1 _ v1 (e w 0 _ v0 h)))))
  refine ⟨?_, ?_, ?_, ?_, ?_, ?_⟩ <;> simp [World.cell?, hf]
theorem keep_set6 (w : World) (b : Nat) (v0 v1 v2 v3 v4 v5 : Value) :
    Keep (fun k => k = b) w ((((((w.setCell ⟨b, 0, none⟩ v0).setCell ⟨b, 1, none⟩ v1).setCell ⟨b, 2, none⟩ v2).setCell ⟨b, 3, none⟩ v3).setCell ⟨b, 4, none⟩ v4).setCell ⟨b, 5, none⟩ v5) := by
  have k (w : World) (o : Nat) (u : Value) : Keep (fun k => k = b) w (w.setCell ⟨b, o, none⟩ u) := Keep.setCell (F := fun k => k = b) w rfl u
  exact ((((((k _ _ _).trans (k _ _ _) fun _ => Or.inl).trans (k _ _ _) fun _ => Or.inl).trans (k _ _ _) fun _ => Or.inl).trans (k _ _ _) fun _ => Or.inl).trans (k _ _ _) fun _ => Or.inl)
/-- at a jump: n rows are left, the others were empty -/
def Jn (w : World) (p g c lo hi : Nat) (a' : Act) (w' : World) : Prop :=
  ∃ (n : Nat) (U : Nat → Value), lo ≤ n ∧ n ≤ hi ∧ a' = { tmps := (.pointer (some ⟨p, 0, none⟩) :: undef :: .pointer (some ⟨w.heap.size, 0, none⟩) :: .int .i64 0 :: .bool false :: U 5 :: U 6 :: U 7 :: U 8 :: U 9 :: U 10 :: U 11 :: U 12 :: U 13 :: U 14 :: U 15 :: U 16 :: U 17 :: U 18 :: U 19 :: U 20 :: U 21 :: U 22 :: U 23 :: U 24 :: U 25 :: U 26 :: U 27 :: U 28 :: U 29 :: U 30 :: U 31 :: U 32 :: U 33 :: U 34 :: U 35 :: U 36 :: U 37 :: U 38 :: U 39 :: U 40 :: U 41 :: U 42 :: U 43 :: U 44 :: U 45 :: U 46 :: U 47 :: U 48 :: U 49 :: U 50 :: U 51 :: U 52 :: U 53 :: U 54 :: U 55 :: U 56 :: U 57 :: U 58 :: U 59 :: U 60 :: U 61 :: U 62 :: U 63 :: []).toArray, defers := [] } ∧
    Keep (fun k => k = p) (w.alloc ZT) w' ∧ w'.heap[p]? = some (.cells #[.slice (some ⟨g, 0, none⟩) n c] 194 (0, 0))
theorem Jn.mk {w : World} {p g c lo hi : Nat} {a' : Act} {w' : World} (n : Nat) (h0 : lo ≤ n) (h1 : n ≤ hi)
    (h : a' = { tmps := (.pointer (some ⟨p, 0, none⟩) :: undef :: .pointer (some ⟨w.heap.size, 0, none⟩) :: .int .i64 0 :: .bool false :: a'.tmps.getD 5 undef :: a'.tmps.getD 6 undef :: a'.tmps.getD 7 undef :: a'.tmps.getD 8 undef :: a'.tmps.getD 9 undef :: a'.tmps.getD 10 undef :: a'.tmps.getD 11 undef :: a'.tmps.getD 12 undef :: a'.tmps.getD 13 undef :: a'.tmps.getD 14 undef :: a'.tmps.getD 15 undef :: a'.tmps.getD 16 undef :: a'.tmps.getD 17 undef :: a'.tmps.getD 18 undef :: a'.tmps.getD 19 undef :: a'.tmps.getD 20 undef :: a'.tmps.getD 21 undef :: a'.tmps.getD 22 undef :: a'.tmps.getD 23 undef :: a'.tmps.getD 24 undef :: a'.tmps.getD 25 undef :: a'.tmps.getD 26 undef :: a'.tmps.getD 27 undef :: a'.tmps.getD 28 undef :: a'.tmps.getD 29 undef :: a'.tmps.getD 30 undef :: a'.tmps.getD 31 undef :: a'.tmps.getD 32 undef :: a'.tmps.getD 33 undef :: a'.tmps.getD 34 undef :: a'.tmps.getD 35 undef :: a'.tmps.getD 36 undef :: a'.tmps.getD 37 undef :: a'.tmps.getD 38 undef :: a'.tmps.getD 39 undef :: a'.tmps.getD 40 undef :: a'.tmps.getD 41 undef :: a'.tmps.getD 42 undef :: a'.tmps.getD 43 undef :: a'.tmps.getD 44 undef :: a'.tmps.getD 45 undef :: a'.tmps.getD 46 undef :: a'.tmps.getD 47 undef :: a'.tmps.getD 48 undef :: a'.tmps.getD 49 undef :: a'.tmps.getD 50 undef :: a'.tmps.getD 51 undef :: a'.tmps.getD 52 undef :: a'.tmps.getD 53 undef :: a'.tmps.getD 54 undef :: a'.tmps.getD 55 undef :: a'.tmps.getD 56 undef :: a'.tmps.getD 57 undef :: a'.tmps.getD 58 undef :: a'.tmps.getD 59 undef :: a'.tmps.getD 60 undef :: a'.tmps.getD 61 undef :: a'.tmps.getD 62 undef :: a'.tmps.getD 63 undef :: []).toArray, defers := [] })
    (hk : Keep (fun k => k = p) (w.alloc ZT) w') (hp : w'.heap[p]? = some (.cells #[.slice (some ⟨g, 0, none⟩) n c] 194 (0, 0))) : Jn w p g c lo hi a' w' :=
  ⟨n, fun k => a'.tmps.getD k undef, h0, h1, h, hk, hp⟩
def Mn (p : Nat) (w' : World) : Nat := match w'.cell? ⟨p, 0, none⟩ with | some (.slice _ n _) => n | _ => 0
theorem Mn_eq {w : World} {p g n c : Nat} {t : TypeId} (h : w.heap[p]? = some (.cells #[.slice (some ⟨g, 0, none⟩) n c] t (0, 0))) : Mn p w = n := by
  have : w.cell? ⟨p, 0, none⟩ = some (.slice (some ⟨g, 0, none⟩) n c) := by simp [World.cell?, h]
  rw [Mn, this]
def Step (B r : Nat) (w : World) (p : Nat) (F : Nat → Prop) (R : List (List Tm)) (w' : World) : Prop := ∃ F', TWay B r w' p F' R ∧ Keep F w w' ∧ ∀ k, F' k → F k ∨ w.heap.size ≤ k
def NextNone (F : Nat → Prop) (w : World) (e : Ending) (w' : World) : Prop :=
  e = .returned (.tuple #[.agg #[.int .i64 0, .string ⟨#[]⟩, .int .i64 0, .int .u64 0, .int .u64 0, .slice none 0 0], .int .i64 0, .bool false]) ∧ Keep F w w'
set_option maxRecDepth 100000 in
theorem next_none (B r : Nat) (w : World) (p : Nat) (F : Nat → Prop) (R : List (List Tm)) (h : TWay B r w p F R) (hR : ∀ x ∈ R, x = []) (h9 : R.length ≤ 1000) :
    Calls Tryz.prog 135 #[.pointer (some ⟨p, 0, none⟩)] w (NextNone F w) := by
  obtain ⟨g, c, xs, hp, ho, ha, hpg, hF, hO⟩ := h
  have H := Lib.hid (And.intro hp (And.intro ho (And.intro ha (And.intro hpg (And.intro hF (And.intro hO hR))))))
  clear ho ha hF hO hR
  have hc0 : w.cell? ⟨p, 0, none⟩ = some (.slice (some ⟨g, 0, none⟩) R.length c) := by simp [World.cell?, hp]
  have hf0 : w.frozen? ⟨p, 0, none⟩ = false := by simp [World.frozen?, hp]
  have hlt : p < w.heap.size := (Array.getElem?_eq_some_iff.1 hp).1
  clear hp
  go_enter Tryz.func135, Tryz.ntmps135
  go_wp2_with fail
  refine wp_scope_label 0 (Jn w p g c 0 R.length) (fun _ => Mn p) ?_ ?_
  · refine ⟨R.length, fun _ => undef, by omega, by omega, rfl, Keep.refl _ _, ?_⟩
    rw [(ba w ZT).block p hlt]; exact H.out.1
  · rintro a' w' ⟨n, U, h0, hn, rfl, hk, hp'⟩
    have HM := Lib.hid (Mn_eq hp')
    have hz : w'.heap[w.heap.size]? = some ZT := by rw [hk.block _ (by rw [alloc_size]; omega) (by omega)]; exact alloc_at _ _
    have HK := Lib.hid hk
    have HP := Lib.hid hp'
    have HN := Lib.hid hn
    have q1 : w'.cell? ⟨p, 0, none⟩ = some (.slice (some ⟨g, 0, none⟩) n c) := by simp [World.cell?, hp']
    have q2 : w'.frozen? ⟨p, 0, none⟩ = false := by simp [World.frozen?, hp']
    clear hk hp' hn hc0 hf0 hlt h0 hpg
    rcases n with _ | m
    · have HZ := Lib.hid hz
      have y0 : Six w' w.heap.size 0 (.int .i64 0) (.string ⟨#[]⟩) (.int .i64 0) (.int .u64 0) (.int .u64 0) (.slice none 0 0) := by refine ⟨?_, ?_, ?_, ?_, ?_, ?_⟩ <;> simp [World.cell?, hz]
      have y1 : ∀ j, j < 6 → w'.frozen? ⟨w.heap.size, j, none⟩ = false := fun j hj => by simp [World.frozen?, hz]
      obtain ⟨z0, z1, z2, z3, z4, z5⟩ := y0
      have y10 := y1 0 (by omega)
      have y11 := y1 1 (by omega)
      have y12 := y1 2 (by omega)
      have y13 := y1 3 (by omega)
      have y14 := y1 4 (by omega)
      have y15 := y1 5 (by omega)
      clear hz y1
      go_wp2_with fail
      simp only [Exit.jump]
      have hk := HK.out
      have hz := HZ.out
      have hF := H.out.2.2.2.2.1
      generalize hW : ((((((w'.setCell ⟨w.heap.size, 0, none⟩ (.int .i64 0)).setCell ⟨w.heap.size, 1, none⟩ (.string ⟨#[]⟩)).setCell ⟨w.heap.size, 2, none⟩ (.int .i64 0)).setCell ⟨w.heap.size, 3, none⟩ (.int .u64 0)).setCell ⟨w.heap.size, 4, none⟩ (.int .u64 0)).setCell ⟨w.heap.size, 5, none⟩ (.slice none 0 0)) = W
      have h6 : Six W w.heap.size 0 (.int .i64 0) (.string ⟨#[]⟩) (.int .i64 0) (.int .u64 0) (.int .u64 0) (.slice none 0 0) := by rw [← hW]; exact six_set hz
      have hkk : Keep (fun k => k = p ∨ k = w.heap.size) (w.alloc ZT) W := by rw [← hW]; exact (hk.mono fun _ => Or.inl).trans (keep_set6 w' w.heap.size _ _ _ _ _ _) fun i h => Or.inl (Or.inr h)
      obtain ⟨e0, e1, e2, e3, e4, e5⟩ := h6
      refine bodyPost_ret (v := .tuple #[.agg #[.int .i64 0, .string ⟨#[]⟩, .int .i64 0, .int .u64 0, .int .u64 0, .slice none 0 0], .int .i64 0, .bool false]) (by simp [results, Tryz.results135, go_sem, e0, e1, e2, e3, e4, e5]) rfl ⟨rfl, ?_⟩
      exact ⟨hkk.os, hkk.tape, hkk.output, by have := hkk.size; rw [alloc_size] at this; omega, fun k h1 h2 => (hkk.block k (by rw [alloc_size]; omega) (fun e => e.elim (fun e => h2 ((hF k).2 (.inl e))) (by omega))).trans ((ba w ZT).block k h1)⟩
    · have hx : ∃ a c', w.cell? ⟨g, m, none⟩ = some (.slice a 0 c') := by
        obtain ⟨_, ho, ha, _, _, _, hR⟩ := H.out
        have hm : m < R.length := HN.out
        obtain ⟨x, hx, hs⟩ := ha.at (m := m) (row := R[m]) (by simp [hm])
        have := hR R[m] (List.getElem_mem hm)
        rw [this] at hs
        obtain ⟨a, c', rfl, _⟩ := hs
        exact ⟨a, c', (own_cell ho hm).1.trans hx⟩
      have hg : ∀ k, w'.cell? ⟨g, k, none⟩ = w.cell? ⟨g, k, none⟩ := fun k => by
        obtain ⟨_, ho, _, hpg, _⟩ := H.out
        have hm : m < R.length := HN.out
        have := (own_cell ho hm).2.2.1
        simp only [World.cell?]
        rw [HK.out.block g (by rw [alloc_size]; omega) (by omega), (ba w ZT).block g this]
      obtain ⟨a, c', hx⟩ := hx
      have hx' := (hg m).trans hx
      have hmc : m + 1 ≤ c := by
        obtain ⟨_, ho, _⟩ := H.out
        have hm : m < R.length := HN.out
        have := own_cell ho hm
        omega
      have hm9 : m + 1 ≤ 1000 := Nat.le_trans HN.out h9
      clear hx hg hz h9
      go_wp2_with fail
      go_step3
      have hp' := heap_setCell_same w' p 0 _ 194 (.slice (some ⟨g, 0, none⟩) m c) HP.out
      refine ⟨rfl, Jn.mk m (by omega) (by have := HN.out; omega) rfl (HK.out.trans (Keep.setCell (F := fun k => k = p) _ rfl _) fun _ => Or.inl) hp', ?_⟩
      rw [Mn_eq hp', HM.out]
      omega
/-- behind the copy of the node -/
theorem facts1 {w w' w1 : World} {p g c m n : Nat} {v0 v1 v2 v3 v4 v5 x : Value} (hpg : p ≠ g) (hg : g < w.heap.size) (hK : Keep (fun k => k = p) (w.alloc ZT) w')
    (hp : w'.heap[p]? = some (.cells #[.slice (some ⟨g, 0, none⟩) n c] 194 (0, 0))) (hz : w'.heap[w.heap.size]? = some ZT) (hw : w1 = w'.alloc (.cells #[v0, v1, v2, v3, v4, v5] 27))
    (hx : w'.cell? ⟨g, m, none⟩ = some x) (hf : w'.frozen? ⟨g, m, none⟩ = false) :
    w1.cell? ⟨p, 0, none⟩ = some (.slice (some ⟨g, 0, none⟩) n c) ∧ w1.frozen? ⟨p, 0, none⟩ = false ∧ w1.cell? ⟨g, m, none⟩ = some x ∧ w1.frozen? ⟨g, m, none⟩ = false ∧
    w1.cell? ⟨w'.heap.size, 0, none⟩ = some v0 ∧ w1.cell? ⟨w'.heap.size, 1, none⟩ = some v1 ∧ w1.cell? ⟨w'.heap.size, 2, none⟩ = some v2 ∧ w1.cell? ⟨w'.heap.size, 3, none⟩ = some v3 ∧ w1.cell? ⟨w'.heap.size, 4, none⟩ = some v4 ∧ w1.cell? ⟨w'.heap.size, 5, none⟩ = some v5 ∧
    g < w'.heap.size ∧ p < w'.heap.size ∧ w.heap.size < w'.heap.size := by
  subst hw
  have hp1 : p < w'.heap.size := (Array.getElem?_eq_some_iff.1 hp).1
  have hz1 : w.heap.size < w'.heap.size := (Array.getElem?_eq_some_iff.1 hz).1
  have hg1 := cell_lt hx
  have e : ∀ b o, b < w'.heap.size → (w'.alloc (.cells #[v0, v1, v2, v3, v4, v5] 27)).cell? ⟨b, o, none⟩ = w'.cell? ⟨b, o, none⟩ := fun b o h => (ba w' _).cell (p := ⟨b, o, none⟩) h
  have f : ∀ b o, b < w'.heap.size → (w'.alloc (.cells #[v0, v1, v2, v3, v4, v5] 27)).frozen? ⟨b, o, none⟩ = w'.frozen? ⟨b, o, none⟩ := fun b o h => (ba w' _).frozen (p := ⟨b, o, none⟩) h
  obtain ⟨a0, a1, a2, a3, a4, a5⟩ := six_alloc w' v0 v1 v2 v3 v4 v5 27
  refine ⟨(e _ _ hp1).trans (by simp [World.cell?, hp]), (f _ _ hp1).trans (by simp [World.frozen?, hp]), (e _ _ hg1).trans hx, (f _ _ hg1).trans hf, a0, a1, a2, a3, a4, a5, hg1, hp1, hz1⟩
/-- behind the store of the row -/
theorem facts2 {w w' w1 w2 : World} {p g c m n : Nat} {v0 v1 v2 v3 v4 v5 x y : Value} (hpg : p ≠ g) (hz : w'.heap[w.heap.size]? = some ZT)
    (h : w1 = w'.alloc (.cells #[v0, v1, v2, v3, v4, v5] 27) ∧ w1.cell? ⟨p, 0, none⟩ = some (.slice (some ⟨g, 0, none⟩) n c) ∧ w1.frozen? ⟨p, 0, none⟩ = false ∧ w1.cell? ⟨g, m, none⟩ = some x ∧ w1.frozen? ⟨g, m, none⟩ = false ∧
      w1.cell? ⟨w'.heap.size, 0, none⟩ = some v0 ∧ w1.cell? ⟨w'.heap.size, 1, none⟩ = some v1 ∧ w1.cell? ⟨w'.heap.size, 2, none⟩ = some v2 ∧ w1.cell? ⟨w'.heap.size, 3, none⟩ = some v3 ∧ w1.cell? ⟨w'.heap.size, 4, none⟩ = some v4 ∧ w1.cell? ⟨w'.heap.size, 5, none⟩ = some v5 ∧
      g < w'.heap.size ∧ p < w'.heap.size ∧ w.heap.size < w'.heap.size) (hgw : g ≠ w.heap.size) (hw : w2 = (w1.setCell ⟨g, m, none⟩ y).drew) :
    Keep (fun k => k = g) w1 w2 ∧ w2.cell? ⟨p, 0, none⟩ = some (.slice (some ⟨g, 0, none⟩) n c) ∧ w2.frozen? ⟨p, 0, none⟩ = false ∧
      w2.cell? ⟨w'.heap.size, 0, none⟩ = some v0 ∧ w2.cell? ⟨w'.heap.size, 1, none⟩ = some v1 ∧ w2.cell? ⟨w'.heap.size, 2, none⟩ = some v2 ∧ w2.cell? ⟨w'.heap.size, 3, none⟩ = some v3 ∧ w2.cell? ⟨w'.heap.size, 4, none⟩ = some v4 ∧ w2.cell? ⟨w'.heap.size, 5, none⟩ = some v5 ∧
      w2.cell? ⟨w.heap.size, 0, none⟩ = some (.int .i64 0) ∧ w2.cell? ⟨w.heap.size, 1, none⟩ = some (.string ⟨#[]⟩) ∧ w2.cell? ⟨w.heap.size, 2, none⟩ = some (.int .i64 0) ∧ w2.cell? ⟨w.heap.size, 3, none⟩ = some (.int .u64 0) ∧ w2.cell? ⟨w.heap.size, 4, none⟩ = some (.int .u64 0) ∧ w2.cell? ⟨w.heap.size, 5, none⟩ = some (.slice none 0 0) ∧
      w2.frozen? ⟨w.heap.size, 0, none⟩ = false ∧ w2.frozen? ⟨w.heap.size, 1, none⟩ = false ∧ w2.frozen? ⟨w.heap.size, 2, none⟩ = false ∧ w2.frozen? ⟨w.heap.size, 3, none⟩ = false ∧ w2.frozen? ⟨w.heap.size, 4, none⟩ = false ∧ w2.frozen? ⟨w.heap.size, 5, none⟩ = false := by
  obtain ⟨h1, a1, a2, _, _, c0, c1, c2, c3, c4, c5, l1, l2, l3⟩ := h
  have k2 : Keep (fun k => k = g) w1 w2 := by
    rw [hw]; exact (Keep.setCell (F := fun k => k = g) (p := ⟨g, m, none⟩) w1 rfl y).trans (Keep.drew (fun k => k = g) _) fun _ => Or.inl
  have hs : w1.heap.size = w'.heap.size + 1 := by rw [h1, alloc_size]
  have hzz : w2.heap[w.heap.size]? = some ZT := by rw [k2.block _ (by omega) (by omega), h1, (ba w' _).block _ l3]; exact hz
  have e : ∀ b o, b < w1.heap.size → b ≠ g → w2.cell? ⟨b, o, none⟩ = w1.cell? ⟨b, o, none⟩ := fun b o h1 h2 => k2.cell h1 h2
  have f : ∀ b o, b < w1.heap.size → b ≠ g → w2.frozen? ⟨b, o, none⟩ = w1.frozen? ⟨b, o, none⟩ := fun b o h1 h2 => k2.frozen h1 h2
  refine ⟨k2, (e _ _ (by omega) hpg).trans a1, (f _ _ (by omega) hpg).trans a2, (e _ _ (by omega) (by omega)).trans c0, (e _ _ (by omega) (by omega)).trans c1, (e _ _ (by omega) (by omega)).trans c2, (e _ _ (by omega) (by omega)).trans c3, (e _ _ (by omega) (by omega)).trans c4, (e _ _ (by omega) (by omega)).trans c5, ?_, ?_, ?_, ?_, ?_, ?_, ?_, ?_, ?_, ?_, ?_, ?_⟩ <;> simp [World.cell?, World.frozen?, hzz]
theorem own_keep {w w' : World} {B e g n c : Nat} {xs : List Value} (h : w.ownsRow B e 1 (.slice (some ⟨g, 0, none⟩) n c) n xs) (hb : w'.heap[g]? = w.heap[g]?) : w'.ownsRow B e 1 (.slice (some ⟨g, 0, none⟩) n c) n xs := by
  obtain ⟨hl, hr⟩ := h
  refine ⟨hl, ?_⟩
  rcases hr with hr | ⟨g', cap, cur, hg, hg0, hgc, r⟩
  · exact Or.inl hr
  · have : g' = g := by simp at hg; exact hg.1.symm
    subst this
    exact Or.inr ⟨g', cap, cur, hg, hg0, hb.trans hgc, r⟩
theorem own_set {w : World} {B e g n c m : Nat} {xs : List Value} {y : Value} (h : w.ownsRow B e 1 (.slice (some ⟨g, 0, none⟩) n c) n xs) (hm : m < n) :
    (w.setCell ⟨g, m, none⟩ y).ownsRow B e 1 (.slice (some ⟨g, 0, none⟩) (m + 1) c) (m + 1) (xs.take m ++ [y]) := by
  obtain ⟨hl, hr⟩ := h
  rcases hr with ⟨hr, _⟩ | ⟨g', cap, cur, hg, hg0, hgc, h1, h2, h3, h4⟩
  · cases hr
  · simp only [Value.slice.injEq, Option.some.injEq, Addr.mk.injEq, and_true, true_and] at hg
    obtain ⟨rfl, rfl⟩ := hg
    refine ⟨by simp at hl ⊢; omega, Or.inr ⟨g, c, cur.setIfInBounds m y, rfl, hg0, heap_setCell_same w g m cur e y hgc, by omega, h2, by simpa using h3, ?_⟩⟩
    subst h4
    have hs : m < cur.toList.length := by simp; omega
    simp only [Array.toList_setIfInBounds, Nat.mul_one, List.take_take]
    rw [List.take_succ_eq_append_getElem (by simp; omega), List.take_set_of_le (Nat.le_refl m)]
    simp [Nat.min_eq_left (Nat.le_of_lt hm)]
theorem zt2 {w w' w1 w2 : World} {p g c m n : Nat} {v0 v1 v2 v3 v4 v5 x : Value} (hpg : p ≠ g) (hz : w'.heap[w.heap.size]? = some ZT)
    (h : w1 = w'.alloc (.cells #[v0, v1, v2, v3, v4, v5] 27) ∧ w1.cell? ⟨p, 0, none⟩ = some (.slice (some ⟨g, 0, none⟩) n c) ∧ w1.frozen? ⟨p, 0, none⟩ = false ∧ w1.cell? ⟨g, m, none⟩ = some x ∧ w1.frozen? ⟨g, m, none⟩ = false ∧
      w1.cell? ⟨w'.heap.size, 0, none⟩ = some v0 ∧ w1.cell? ⟨w'.heap.size, 1, none⟩ = some v1 ∧ w1.cell? ⟨w'.heap.size, 2, none⟩ = some v2 ∧ w1.cell? ⟨w'.heap.size, 3, none⟩ = some v3 ∧ w1.cell? ⟨w'.heap.size, 4, none⟩ = some v4 ∧ w1.cell? ⟨w'.heap.size, 5, none⟩ = some v5 ∧
      g < w'.heap.size ∧ p < w'.heap.size ∧ w.heap.size < w'.heap.size) (k2 : Keep (fun k => k = g) w1 w2) (hgw : g ≠ w.heap.size) : w2.heap[w.heap.size]? = some ZT := by
  obtain ⟨h1, a1, a2, _, _, c0, c1, c2, c3, c4, c5, l1, l2, l3⟩ := h
  have hs : w1.heap.size = w'.heap.size + 1 := by rw [h1, alloc_size]
  rw [k2.block _ (by omega) (by omega), h1, (ba w' _).block _ l3]; exact hz
theorem infoSl : (Tryz.prog.info? 25).map (fun i => (i.zero, i.size, i.bytes)) = some (some (.slice none 0 0), 1, 24) := by kernel_rfl
theorem own2 {B r : Nat} {w w' w1 w2 : World} {p g c c' : Nat} {F : Nat → Prop} {R0 E : List (List Tm)} {t : Tm} {row : List Tm} {xs : List Value} {a' : Option Addr} {v0 v1 v2 v3 v4 v5 x : Value}
    (H : w.heap[p]? = some (.cells #[.slice (some ⟨g, 0, none⟩) (R0 ++ (t :: row) :: E).length c] 194 (0, 0)) ∧ w.ownsRow B 25 1 (.slice (some ⟨g, 0, none⟩) (R0 ++ (t :: row) :: E).length c) (R0 ++ (t :: row) :: E).length xs ∧ All (Off B r) w (R0 ++ (t :: row) :: E) xs ∧
      p ≠ g ∧ (∀ k, F k ↔ k = p ∨ k = g) ∧ (∀ k, F k → Off B r k) ∧ ∀ x ∈ E, x = []) (HL : (R0 ++ (t :: row) :: E).length = R0.length + 1 + E.length)
    (HK : Keep (fun k => k = p) (w.alloc ZT) w')
    (H1 : w1 = w'.alloc (.cells #[v0, v1, v2, v3, v4, v5] 27) ∧ w1.cell? ⟨p, 0, none⟩ = some (.slice (some ⟨g, 0, none⟩) (R0.length + 1) c) ∧ w1.frozen? ⟨p, 0, none⟩ = false ∧ w1.cell? ⟨g, R0.length, none⟩ = some x ∧ w1.frozen? ⟨g, R0.length, none⟩ = false ∧
      w1.cell? ⟨w'.heap.size, 0, none⟩ = some v0 ∧ w1.cell? ⟨w'.heap.size, 1, none⟩ = some v1 ∧ w1.cell? ⟨w'.heap.size, 2, none⟩ = some v2 ∧ w1.cell? ⟨w'.heap.size, 3, none⟩ = some v3 ∧ w1.cell? ⟨w'.heap.size, 4, none⟩ = some v4 ∧ w1.cell? ⟨w'.heap.size, 5, none⟩ = some v5 ∧
      g < w'.heap.size ∧ p < w'.heap.size ∧ w.heap.size < w'.heap.size)
    (H2 : w2 = (w1.setCell ⟨g, R0.length, none⟩ (.slice a' row.length (c' - 1))).drew ∧ Keep (fun k => k = g) w1 w2) :
    w2.ownsRow B 25 1 (.slice (some ⟨g, 0, none⟩) (R0.length + 1) c) (R0.length + 1) (xs.take R0.length ++ [.slice a' row.length (c' - 1)]) ∧ g < w2.heap.size := by
  obtain ⟨hp, ho, ha, hpg, hF, hO, hE⟩ := H
  obtain ⟨h1, _, _, _, _, _, _, _, _, _, _, l1, l2, l3⟩ := H1
  obtain ⟨h2, k2⟩ := H2
  have hgw : g < w.heap.size := (own_cell ho (m := R0.length) (by rw [HL]; omega)).2.2.1
  have hg1 : w1.heap[g]? = w.heap[g]? := by rw [h1, (ba w' _).block g l1, HK.block g (by rw [alloc_size]; omega) (by omega), (ba w ZT).block g hgw]
  have o1 := own_set (m := R0.length) (y := .slice a' row.length (c' - 1)) (own_keep ho hg1) (by rw [HL]; omega)
  exact ⟨by rw [h2]; exact o1, by have := k2.size; rw [h1, alloc_size] at this; omega⟩
theorem grown2 {w2 w4 : World} {g n c : Nat} {o : Obj} (h : ((w2.alloc o).drew).grownBy w4 (Value.slice (some ⟨g, 0, none⟩) n c).ownBlock) : Keep (fun k => k = g) w2 w4 := by
  have k1 : Keep (fun k => k = g) w2 (w2.alloc o).drew := (Keep.of_below (ba w2 o)).trans (F' := fun k => k = g) (Keep.drew (fun k => k = g) _) fun _ => Or.inl
  exact k1.trans (Keep.of_grown (F := fun k => k = g) h fun k e => by simpa [Value.ownBlock, eq_comm] using e) fun _ => Or.inl
/-- the way behind the store of the row, wherever else memory has turned -/
theorem fin2 {B r : Nat} {w w' w1 w2 W : World} {p g c c' : Nat} {F : Nat → Prop} {R0 E : List (List Tm)} {t : Tm} {row : List Tm} {xs : List Value} {a' : Option Addr} {v0 v1 v2 v3 v4 v5 x : Value}
    (H : w.heap[p]? = some (.cells #[.slice (some ⟨g, 0, none⟩) (R0 ++ (t :: row) :: E).length c] 194 (0, 0)) ∧ w.ownsRow B 25 1 (.slice (some ⟨g, 0, none⟩) (R0 ++ (t :: row) :: E).length c) (R0 ++ (t :: row) :: E).length xs ∧ All (Off B r) w (R0 ++ (t :: row) :: E) xs ∧
      p ≠ g ∧ (∀ k, F k ↔ k = p ∨ k = g) ∧ (∀ k, F k → Off B r k) ∧ ∀ x ∈ E, x = []) (HL : (R0 ++ (t :: row) :: E).length = R0.length + 1 + E.length)
    (HK : Keep (fun k => k = p) (w.alloc ZT) w') (HP : w'.heap[p]? = some (.cells #[.slice (some ⟨g, 0, none⟩) (R0.length + 1) c] 194 (0, 0)))
    (H1 : w1 = w'.alloc (.cells #[v0, v1, v2, v3, v4, v5] 27) ∧ w1.cell? ⟨p, 0, none⟩ = some (.slice (some ⟨g, 0, none⟩) (R0.length + 1) c) ∧ w1.frozen? ⟨p, 0, none⟩ = false ∧ w1.cell? ⟨g, R0.length, none⟩ = some x ∧ w1.frozen? ⟨g, R0.length, none⟩ = false ∧
      w1.cell? ⟨w'.heap.size, 0, none⟩ = some v0 ∧ w1.cell? ⟨w'.heap.size, 1, none⟩ = some v1 ∧ w1.cell? ⟨w'.heap.size, 2, none⟩ = some v2 ∧ w1.cell? ⟨w'.heap.size, 3, none⟩ = some v3 ∧ w1.cell? ⟨w'.heap.size, 4, none⟩ = some v4 ∧ w1.cell? ⟨w'.heap.size, 5, none⟩ = some v5 ∧
      g < w'.heap.size ∧ p < w'.heap.size ∧ w.heap.size < w'.heap.size)
    (H2 : w2 = (w1.setCell ⟨g, R0.length, none⟩ (.slice a' row.length (c' - 1))).drew ∧ Keep (fun k => k = g) w1 w2) (hW : Keep (fun k => k = w.heap.size) w2 W) (hT : TRow (Off B r) w row a' 0) (hc : row.length + 1 ≤ c' ∧ c' ≤ maxLen) :
    TWay B r W p F (R0 ++ [row]) ∧ Keep F w W := by
  obtain ⟨hp, ho, ha, hpg, hF, hO, hE⟩ := H
  obtain ⟨h1, _, _, _, _, _, _, _, _, _, _, l1, l2, l3⟩ := H1
  obtain ⟨h2, k2⟩ := H2
  have hgw : g < w.heap.size := (own_cell ho (m := R0.length) (by rw [HL]; omega)).2.2.1
  have hpw : p < w.heap.size := (Array.getElem?_eq_some_iff.1 hp).1
  have hs1 : w1.heap.size = w'.heap.size + 1 := by rw [h1, alloc_size]
  have hs2 := k2.size
  have kw : Keep F w W := by
    have ka : Keep F w (w.alloc ZT) := Keep.of_below (ba w ZT)
    have kb : Keep F w w' := ka.trans HK fun i h => Or.inl ((hF i).2 (Or.inl h))
    have kc : Keep F w w1 := kb.trans (F' := No) (Keep.of_below (by rw [h1]; exact ba w' _)) fun i h => h.elim
    have kd : Keep F w w2 := kc.trans k2 fun i h => Or.inl ((hF i).2 (Or.inr h))
    exact kd.trans hW fun i h => Or.inr (by omega)
  refine ⟨⟨g, c, xs.take R0.length ++ [.slice a' row.length (c' - 1)], ?_, ?_, ?_, hpg, hF, hO⟩, kw⟩
  · rw [hW.block p (by omega) (by omega), k2.block p (by omega) hpg, h1, (ba w' _).block p l2, HP]; simp
  · have hg1 : w1.heap[g]? = w.heap[g]? := by rw [h1, (ba w' _).block g l1, HK.block g (by rw [alloc_size]; omega) (by omega), (ba w ZT).block g hgw]
    have o1 := own_set (m := R0.length) (y := .slice a' row.length (c' - 1)) (own_keep ho hg1) (by rw [HL]; omega)
    have : W.heap[g]? = (w1.setCell ⟨g, R0.length, none⟩ (.slice a' row.length (c' - 1))).heap[g]? := by
      rw [hW.block g (by omega) (by omega), h2]; rfl
    have o2 := own_keep o1 this
    simpa using o2
  · refine All.append ((ha.split (R := R0)).1.map fun l v h => Slc.keep (kw.mono hO) (fun _ _ => id) h) ⟨⟨a', c' - 1, rfl, by omega, by omega, TRow.keep (kw.mono hO) (fun _ _ => id) _ _ hT⟩, trivial⟩
theorem facts3 {w w' w1 w2 w4 w5 : World} {p g c m n : Nat} {v0 v1 v2 v3 v4 v5 x y : Value} (hpg : p ≠ g) (hg : g < w.heap.size) (hp : p < w.heap.size) (hK : Keep (fun k => k = p) (w.alloc ZT) w') (hz : w'.heap[w.heap.size]? = some ZT)
    (h : w1 = w'.alloc (.cells #[v0, v1, v2, v3, v4, v5] 27) ∧ w1.cell? ⟨p, 0, none⟩ = some (.slice (some ⟨g, 0, none⟩) n c) ∧ w1.frozen? ⟨p, 0, none⟩ = false ∧ w1.cell? ⟨g, m, none⟩ = some x ∧ w1.frozen? ⟨g, m, none⟩ = false ∧
      w1.cell? ⟨w'.heap.size, 0, none⟩ = some v0 ∧ w1.cell? ⟨w'.heap.size, 1, none⟩ = some v1 ∧ w1.cell? ⟨w'.heap.size, 2, none⟩ = some v2 ∧ w1.cell? ⟨w'.heap.size, 3, none⟩ = some v3 ∧ w1.cell? ⟨w'.heap.size, 4, none⟩ = some v4 ∧ w1.cell? ⟨w'.heap.size, 5, none⟩ = some v5 ∧
      g < w'.heap.size ∧ p < w'.heap.size ∧ w.heap.size < w'.heap.size) (k2 : Keep (fun k => k = g) w1 w2) (kk : Keep (fun k => k = g) w2 w4) (hw : w5 = w4.setCell ⟨p, 0, none⟩ y) :
      w5.cell? ⟨w'.heap.size, 0, none⟩ = some v0 ∧ w5.cell? ⟨w'.heap.size, 1, none⟩ = some v1 ∧ w5.cell? ⟨w'.heap.size, 2, none⟩ = some v2 ∧ w5.cell? ⟨w'.heap.size, 3, none⟩ = some v3 ∧ w5.cell? ⟨w'.heap.size, 4, none⟩ = some v4 ∧ w5.cell? ⟨w'.heap.size, 5, none⟩ = some v5 ∧
      w5.cell? ⟨w.heap.size, 0, none⟩ = some (.int .i64 0) ∧ w5.cell? ⟨w.heap.size, 1, none⟩ = some (.string ⟨#[]⟩) ∧ w5.cell? ⟨w.heap.size, 2, none⟩ = some (.int .i64 0) ∧ w5.cell? ⟨w.heap.size, 3, none⟩ = some (.int .u64 0) ∧ w5.cell? ⟨w.heap.size, 4, none⟩ = some (.int .u64 0) ∧ w5.cell? ⟨w.heap.size, 5, none⟩ = some (.slice none 0 0) ∧
      w5.frozen? ⟨w.heap.size, 0, none⟩ = false ∧ w5.frozen? ⟨w.heap.size, 1, none⟩ = false ∧ w5.frozen? ⟨w.heap.size, 2, none⟩ = false ∧ w5.frozen? ⟨w.heap.size, 3, none⟩ = false ∧ w5.frozen? ⟨w.heap.size, 4, none⟩ = false ∧ w5.frozen? ⟨w.heap.size, 5, none⟩ = false := by
  obtain ⟨h1, a1, a2, _, _, c0, c1, c2, c3, c4, c5, l1, l2, l3⟩ := h
  have k5 : Keep (fun k => k = p) w4 w5 := by rw [hw]; exact Keep.setCell (F := fun k => k = p) (p := ⟨p, 0, none⟩) w4 rfl y
  have hs : w1.heap.size = w'.heap.size + 1 := by rw [h1, alloc_size]
  have s2 := k2.size
  have s4 := kk.size
  have hb : ∀ b, b < w1.heap.size → b ≠ g → b ≠ p → w5.heap[b]? = w1.heap[b]? := fun b h1 h2 h3 => by
    rw [k5.block b (by omega) h3, kk.block b (by omega) h2, k2.block b h1 h2]
  have hzz : w5.heap[w.heap.size]? = some ZT := by rw [hb _ (by omega) (by omega) (by omega), h1, (ba w' _).block _ l3]; exact hz
  have e : ∀ o, w5.cell? ⟨w'.heap.size, o, none⟩ = w1.cell? ⟨w'.heap.size, o, none⟩ := fun o => by simp only [World.cell?, hb w'.heap.size (by omega) (by omega) (by omega)]
  refine ⟨(e _).trans c0, (e _).trans c1, (e _).trans c2, (e _).trans c3, (e _).trans c4, (e _).trans c5, ?_, ?_, ?_, ?_, ?_, ?_, ?_, ?_, ?_, ?_, ?_, ?_⟩ <;> simp [World.cell?, World.frozen?, hzz]
theorem fin5 {B r : Nat} {w w' w1 w2 w4 w5 W : World} {p g c c' g' cap' : Nat} {F : Nat → Prop} {R0 E : List (List Tm)} {t : Tm} {row l : List Tm} {xs : List Value} {a' al : Option Addr} {cl : Nat} {v0 v1 v2 v3 v4 v5 u0 u1 u2 u3 u4 u5 x : Value}
    (H : w.heap[p]? = some (.cells #[.slice (some ⟨g, 0, none⟩) (R0 ++ (t :: row) :: E).length c] 194 (0, 0)) ∧ w.ownsRow B 25 1 (.slice (some ⟨g, 0, none⟩) (R0 ++ (t :: row) :: E).length c) (R0 ++ (t :: row) :: E).length xs ∧ All (Off B r) w (R0 ++ (t :: row) :: E) xs ∧
      p ≠ g ∧ (∀ k, F k ↔ k = p ∨ k = g) ∧ (∀ k, F k → Off B r k) ∧ ∀ x ∈ E, x = []) (HL : (R0 ++ (t :: row) :: E).length = R0.length + 1 + E.length)
    (HK : Keep (fun k => k = p) (w.alloc ZT) w') (HP : w'.heap[p]? = some (.cells #[.slice (some ⟨g, 0, none⟩) (R0.length + 1) c] 194 (0, 0))) (HZ : w'.heap[w.heap.size]? = some ZT)
    (H1 : w1 = w'.alloc (.cells #[v0, v1, v2, v3, v4, v5] 27) ∧ w1.cell? ⟨p, 0, none⟩ = some (.slice (some ⟨g, 0, none⟩) (R0.length + 1) c) ∧ w1.frozen? ⟨p, 0, none⟩ = false ∧ w1.cell? ⟨g, R0.length, none⟩ = some x ∧ w1.frozen? ⟨g, R0.length, none⟩ = false ∧
      w1.cell? ⟨w'.heap.size, 0, none⟩ = some v0 ∧ w1.cell? ⟨w'.heap.size, 1, none⟩ = some v1 ∧ w1.cell? ⟨w'.heap.size, 2, none⟩ = some v2 ∧ w1.cell? ⟨w'.heap.size, 3, none⟩ = some v3 ∧ w1.cell? ⟨w'.heap.size, 4, none⟩ = some v4 ∧ w1.cell? ⟨w'.heap.size, 5, none⟩ = some v5 ∧
      g < w'.heap.size ∧ p < w'.heap.size ∧ w.heap.size < w'.heap.size)
    (H2 : w2 = (w1.setCell ⟨g, R0.length, none⟩ (.slice a' row.length (c' - 1))).drew ∧ Keep (fun k => k = g) w1 w2)
    (H4 : w4.ownsRow B 25 1 (.slice (some ⟨g', 0, none⟩) (R0.length + 1 + 1) cap') (R0.length + 1 + 1) ((xs.take R0.length ++ [.slice a' row.length (c' - 1)]) ++ [.slice al l.length cl]) ∧ ((Value.slice (some ⟨g, 0, none⟩) (R0.length + 1) c).ownBlock = some g' ∨ g' = (w2.alloc (.cells #[.slice al l.length cl] 25)).drew.heap.size) ∧ g' < w4.heap.size ∧
      Keep (fun k => k = g) w2 w4 ∧ w5 = w4.setCell ⟨p, 0, none⟩ (.slice (some ⟨g', 0, none⟩) (R0.length + 1 + 1) cap'))
    (hT : TRow (Off B r) w row a' 0) (hc : row.length + 1 ≤ c' ∧ c' ≤ maxLen) (hTl : TRow (Off B r) w l al 0) (hcl : l.length ≤ cl) (hcm : cl ≤ maxLen)
    (hrw : r < w.heap.size) (hW : W = ((((((w5.setCell ⟨w.heap.size, 0, none⟩ u0).setCell ⟨w.heap.size, 1, none⟩ u1).setCell ⟨w.heap.size, 2, none⟩ u2).setCell ⟨w.heap.size, 3, none⟩ u3).setCell ⟨w.heap.size, 4, none⟩ u4).setCell ⟨w.heap.size, 5, none⟩ u5)) :
    ∃ F', Six W w.heap.size 0 u0 u1 u2 u3 u4 u5 ∧ TWay B r W p F' (R0 ++ [row] ++ [l]) ∧ Keep F w W ∧ ∀ k, F' k → F k ∨ w.heap.size ≤ k := by
  obtain ⟨hp, ho, ha, hpg, hF, hO, hE⟩ := H
  obtain ⟨h1, _, _, _, _, _, _, _, _, _, _, l1, l2, l3⟩ := H1
  obtain ⟨h2, k2⟩ := H2
  obtain ⟨ho4, ha4, hl4, kk, h5⟩ := H4
  have hgw : g < w.heap.size := (own_cell ho (m := R0.length) (by rw [HL]; omega)).2.2.1
  have hpw : p < w.heap.size := (Array.getElem?_eq_some_iff.1 hp).1
  have hs1 : w1.heap.size = w'.heap.size + 1 := by rw [h1, alloc_size]
  have hs2 := k2.size
  have hs4 := kk.size
  have hgB : Off B r g := hO g ((hF g).2 (Or.inr rfl))
  have hg' : g' = g ∨ w.heap.size < g' := by
    rcases ha4 with e | e
    · left; simp [Value.ownBlock] at e; exact e.symm
    · right; rw [e]; show w.heap.size < (w2.alloc _).heap.size; rw [alloc_size]; omega
  have hpg' : p ≠ g' := by rcases hg' with e | e <;> omega
  have k5 : Keep (fun k => k = p) w4 w5 := by rw [h5]; exact Keep.setCell (F := fun k => k = p) (p := ⟨p, 0, none⟩) w4 rfl _
  have hs5 := k5.size
  have kW : Keep (fun k => k = w.heap.size) w5 W := by rw [hW]; exact keep_set6 w5 w.heap.size _ _ _ _ _ _
  have kw : Keep F w W := by
    have ka : Keep F w (w.alloc ZT) := Keep.of_below (ba w ZT)
    have kb : Keep F w w' := ka.trans HK fun i h => Or.inl ((hF i).2 (Or.inl h))
    have kc : Keep F w w1 := kb.trans (F' := No) (Keep.of_below (by rw [h1]; exact ba w' _)) fun i h => h.elim
    have kd : Keep F w w2 := kc.trans k2 fun i h => Or.inl ((hF i).2 (Or.inr h))
    have ke : Keep F w w4 := kd.trans kk fun i h => Or.inl ((hF i).2 (Or.inr h))
    have kf : Keep F w w5 := ke.trans k5 fun i h => Or.inl ((hF i).2 (Or.inl h))
    exact kf.trans kW fun i h => Or.inr (by omega)
  have hz5 : w5.heap[w.heap.size]? = some ZT := by
    rw [k5.block _ (by omega) (by omega), kk.block _ (by omega) (by omega), k2.block _ (by omega) (by omega), h1, (ba w' _).block _ l3]; exact HZ
  refine ⟨fun k => k = p ∨ k = g', by rw [hW]; exact six_set hz5, ⟨g', cap', (xs.take R0.length ++ [.slice a' row.length (c' - 1)]) ++ [.slice al l.length cl], ?_, ?_, ?_, hpg', fun k => Iff.rfl, ?_⟩, kw, ?_⟩
  · have hp4 : w4.heap[p]? = some (.cells #[.slice (some ⟨g, 0, none⟩) (R0.length + 1) c] 194 (0, 0)) := by
      rw [kk.block p (by omega) hpg, k2.block p (by omega) hpg, h1, (ba w' _).block p l2, HP]
    rw [kW.block p (by omega) (by omega), h5, heap_setCell_same w4 p 0 _ 194 _ hp4]; simp
  · have : W.heap[g']? = w4.heap[g']? := by
      rw [kW.block g' (by omega) (by omega), k5.block g' hl4 (fun e => hpg' e.symm)]
    have o2 := own_keep ho4 this
    simpa using o2
  · refine All.append (All.append ((ha.split (R := R0)).1.map fun l v h => Slc.keep (kw.mono hO) (fun _ _ => id) h) ⟨⟨a', c' - 1, rfl, by omega, by omega, TRow.keep (kw.mono hO) (fun _ _ => id) _ _ hT⟩, trivial⟩) ⟨⟨al, cl, rfl, hcl, hcm, TRow.keep (kw.mono hO) (fun _ _ => id) _ _ hTl⟩, trivial⟩
  · intro k hk
    rcases hk with rfl | rfl
    · exact hO _ ((hF _).2 (Or.inl rfl))
    · refine ⟨?_, ?_⟩
      · exact (ho4.lt _ rfl).1
      · rcases hg' with e | e
        · rw [e]; exact hgB.2
        · omega
  · intro k hk
    rcases hk with rfl | rfl
    · exact Or.inl ((hF _).2 (Or.inl rfl))
    · rcases hg' with e | e
      · exact Or.inl ((hF _).2 (Or.inr e))
      · exact Or.inr (by omega)
/-- the rows behind a step: of a compound its arguments -/
def kids : Tm → List (List Tm) | .mk k _ _ _ _ l => if k = 5 then [l] else []
def NextSome (B r : Nat) (t : Tm) (d : Int) (p : Nat) (F : Nat → Prop) (R : List (List Tm)) (w : World) (e : Ending) (w' : World) : Prop :=
  ∃ v, e = .returned (.tuple #[v, .int .i64 d, .bool true]) ∧ Lies (Off B r) w' t v ∧ Step B r w p F R w'
set_option maxRecDepth 100000 in
theorem next_some (B r : Nat) (w : World) (p : Nat) (F : Nat → Prop) (R0 E : List (List Tm)) (t : Tm) (row : List Tm) (h : TWay B r w p F (R0 ++ (t :: row) :: E)) (hE : ∀ x ∈ E, x = []) (h9 : R0.length + 1 + E.length ≤ 1000) (hrw : r < w.heap.size) :
    Calls Tryz.prog 135 #[.pointer (some ⟨p, 0, none⟩)] w (NextSome B r t (R0.length + 1 : Nat) p F (R0 ++ [row] ++ kids t) w) := by
  obtain ⟨g, c, xs, hp, ho, ha, hpg, hF, hO⟩ := h
  have H := Lib.hid (And.intro hp (And.intro ho (And.intro ha (And.intro hpg (And.intro hF (And.intro hO hE))))))
  clear ho ha hF hO hE
  have hlen : (R0 ++ (t :: row) :: E).length = R0.length + 1 + E.length := by simp; omega
  have hc0 : w.cell? ⟨p, 0, none⟩ = some (.slice (some ⟨g, 0, none⟩) (R0 ++ (t :: row) :: E).length c) := by simp [World.cell?, hp]
  have hf0 : w.frozen? ⟨p, 0, none⟩ = false := by simp [World.frozen?, hp]
  have hlt : p < w.heap.size := (Array.getElem?_eq_some_iff.1 hp).1
  have HL := Lib.hid hlen
  have HRW := Lib.hid hrw
  clear hp hlen hrw
  go_enter Tryz.func135, Tryz.ntmps135
  go_wp2_with fail
  refine wp_scope_label 0 (Jn w p g c (R0.length + 1) (R0.length + 1 + E.length)) (fun _ => Mn p) ?_ ?_
  · refine ⟨R0.length + 1 + E.length, fun _ => undef, by omega, by omega, rfl, Keep.refl _ _, ?_⟩
    rw [(ba w ZT).block p hlt, ← HL.out]; exact H.out.1
  · rintro a' w' ⟨n, U, h0, hn, rfl, hk, hp'⟩
    have HM := Lib.hid (Mn_eq hp')
    have hz : w'.heap[w.heap.size]? = some ZT := by rw [hk.block _ (by rw [alloc_size]; omega) (by omega)]; exact alloc_at _ _
    have HK := Lib.hid hk
    have HP := Lib.hid hp'
    have HN := Lib.hid (And.intro h0 hn)
    have q1 : w'.cell? ⟨p, 0, none⟩ = some (.slice (some ⟨g, 0, none⟩) n c) := by simp [World.cell?, hp']
    have q2 : w'.frozen? ⟨p, 0, none⟩ = false := by simp [World.frozen?, hp']
    obtain ⟨m, rfl⟩ : ∃ m, n = m + 1 := ⟨n - 1, by omega⟩
    have hg : ∀ k, w'.cell? ⟨g, k, none⟩ = w.cell? ⟨g, k, none⟩ ∧ w'.frozen? ⟨g, k, none⟩ = w.frozen? ⟨g, k, none⟩ := fun k => by
      obtain ⟨_, ho, _, hpg, _⟩ := H.out
      have := (own_cell ho (m := m) (by rw [HL.out]; omega)).2.2.1
      simp only [World.cell?, World.frozen?]
      rw [HK.out.block g (by rw [alloc_size]; omega) (by omega), (ba w ZT).block g this]
      exact ⟨rfl, rfl⟩
    have hmc : m + 1 ≤ c := by
      obtain ⟨_, ho, _⟩ := H.out
      have := own_cell ho (m := m) (by rw [HL.out]; omega)
      rw [HL.out] at this
      omega
    have hm9 : m + 1 ≤ 1000 := by omega
    by_cases hm : m = R0.length
    · subst hm
      have hx : ∃ a c', w'.cell? ⟨g, R0.length, none⟩ = some (.slice a (row.length + 1) c') ∧ row.length + 1 ≤ c' ∧ c' ≤ maxLen ∧ TRow (Off B r) w (t :: row) a 0 := by
        obtain ⟨_, ho, ha, _, _, _, hE⟩ := H.out
        have he : (R0 ++ (t :: row) :: E)[R0.length]? = some (t :: row) := by simp
        obtain ⟨x, hx, hs⟩ := ha.at he
        obtain ⟨a, c', rfl, hs⟩ := hs
        exact ⟨a, c', (hg _).1.trans ((own_cell ho (by rw [HL.out]; omega)).1.trans hx), hs⟩
      obtain ⟨a, c', hx, hc1, hc2, hT⟩ := hx
      have hgf : w'.frozen? ⟨g, R0.length, none⟩ = false := by
        obtain ⟨_, ho, _⟩ := H.out
        exact (hg _).2.trans (own_cell ho (by rw [HL.out]; omega)).2.1
      obtain ⟨a', hT', htail⟩ := TRow.tail (r := row) hT hc1
      obtain ⟨b, o, v0, v1, v2, v3, v4, v5, hbw, hbX, h6, hlt0, hlook⟩ := TRow.look (l := t :: row) hT (m := 0) (by simp)
      have hb : w'.heap[b]? = w.heap[b]? := by
        have hpO := H.out.2.2.2.2.2.1 p ((H.out.2.2.2.2.1 p).2 (.inl rfl))
        rw [HK.out.block b (by rw [alloc_size]; omega) (fun e => hbX (e ▸ hpO)), (ba w ZT).block b hbw]
      have h6' : Six w' b o v0 v1 v2 v3 v4 v5 := by
        simp only [Six, World.cell?, hb]; exact h6
      have HT' := Lib.hid (And.intro hT' (And.intro hlt0 (And.intro hbX (And.intro hbw (And.intro hc1 hc2)))))
      obtain ⟨e0, e1, e2, e3, e4, e5⟩ := h6'
      have hl1 := hlook c' 
      simp only [List.length_cons, Int.natCast_zero] at hl1
      obtain ⟨k, nn, i, re, im, l⟩ := t
      change Lies _ _ (Tm.mk k nn i re im l) _ at hlt0
      rw [Lies] at hlt0
      obtain ⟨al, cl, hv, hf, hrl⟩ := hlt0
      simp only [Value.agg.injEq, Array.mk.injEq, List.cons.injEq, and_true] at hv
      obtain ⟨rfl, rfl, rfl, rfl, rfl, rfl⟩ := hv
      have HFit := Lib.hid (And.intro hf hrl)
      have HB := Lib.hid (And.intro h9 hbw)
      have HG := Lib.hid hg
      have HZ := Lib.hid hz
      clear hk hp' hn hc0 hf0 hlt h0 hpg hz hg h9 hT hlook h6 hbX hbw hT' hf hrl hb hc1 hc2
      by_cases hk5 : k = 5
      · subst hk5
        go_wp2_with fail
        obtain ⟨w1, hw1⟩ : ∃ w1, w1 = w'.alloc (.cells #[.int .i64 5, .string nn, .int .i64 i, .int .u64 re, .int .u64 im, .slice al l.length cl] 27) := ⟨_, rfl⟩
        rw [← hw1]
        have F1 := facts1 H.out.2.2.2.1 (own_cell H.out.2.1 (m := R0.length) (by rw [HL.out]; omega)).2.2.1 HK.out HP.out HZ.out hw1 hx hgf
        have HW1 := Lib.hid (And.intro hw1 F1)
        obtain ⟨g1, g2, g3, g4, g5, g6, g7, g8, g9, g10, s1, s2, s3⟩ := F1
        clear hw1 q1 q2 hx hgf e0 e1 e2 e3 e4 e5
        go_region
        obtain ⟨w2, hw2⟩ : ∃ w2, w2 = (w1.setCell ⟨g, R0.length, none⟩ (.slice a' row.length (c' - 1))).drew := ⟨_, rfl⟩
        rw [← hw2]
        have F2 := facts2 H.out.2.2.2.1 HZ.out HW1.out (by have := (own_cell H.out.2.1 (m := R0.length) (by rw [HL.out]; omega)).2.2.1; omega) hw2
        obtain ⟨k2, g1, g2, g5, g6, g7, g8, g9, g10, z0, z1, z2, z3, z4, z5, f0, f1, f2, f3, f4, f5⟩ := F2
        have HW2 := Lib.hid (And.intro hw2 k2)
        have HO2 := Lib.hid (own2 H.out HL.out HK.out HW1.out HW2.out)
        have hl2 : p < w2.heap.size ∧ w.heap.size < w2.heap.size ∧ w'.heap.size < w2.heap.size := by
          have a1 := HW1.out.1
          have a2 := k2.size
          rw [a1, alloc_size] at a2
          omega
        obtain ⟨l21, l22, l23⟩ := hl2
        obtain ⟨i0, hi, hi0, hi1, hi2⟩ := info_parts infoSl
        have HI := Lib.hid (And.intro hi (And.intro hi0 (And.intro hi1 hi2)))
        clear hw2 k2 hi hi0 hi1 hi2
        go_wp2_with fail
        go_region_law (refine step_append_lies _ rfl (.tmp 54) (.tmp 57) 192 rfl B 25 i0 (.slice none 0 0) 1 24 Tryz.underlying192 HI.out.1 HI.out.2.1 HI.out.2.2.1 HI.out.2.2.2 rfl (by decide) (.slice (some ⟨g, 0, none⟩) (R0.length + 1) c) (R0.length + 1) (xs.take R0.length ++ [.slice a' row.length (c' - 1)]) rfl (own_keep HO2.out.1 ((ba w2 _).block g HO2.out.2)) ⟨w2.heap.size, 0, none⟩ 1 1 [.slice al l.length cl] rfl rfl (cell_one_new w2 _ _) (by simp [Value.oneCell']) (by omega) (by unfold maxLen; omega) (by omega) (by have := HO2.out.1.lt _ rfl; simp; omega) _ rfl ?_; intro g' cap' w4 ho4 hg4 ha4 hl4; have kk := grown2 hg4; have y1 : w4.cell? ⟨p, 0, none⟩ = some (.slice (some ⟨g, 0, none⟩) (R0.length + 1) c) := (kk.cell l21 H.out.2.2.2.1).trans g1; have y2 : w4.frozen? ⟨p, 0, none⟩ = false := (kk.frozen l21 H.out.2.2.2.1).trans g2)
        all_goals
          obtain ⟨w5, hw5⟩ : ∃ w5, w5 = w4.setCell ⟨p, 0, none⟩ (.slice (some ⟨g', 0, none⟩) (R0.length + 1 + 1) cap') := ⟨_, rfl⟩
          rw [← hw5]
          have hgw : g < w.heap.size := (own_cell H.out.2.1 (m := R0.length) (by rw [HL.out]; omega)).2.2.1
          have F3 := facts3 H.out.2.2.2.1 hgw (Array.getElem?_eq_some_iff.1 H.out.1).1 HK.out HZ.out HW1.out HW2.out.2 kk hw5
          obtain ⟨g5, g6, g7, g8, g9, g10, z0, z1, z2, z3, z4, z5, f0, f1, f2, f3, f4, f5⟩ := F3
          have HF := Lib.hid (And.intro ho4 (And.intro ha4 (And.intro hl4 (And.intro kk hw5))))
          clear ho4 hg4 ha4 hl4 kk y1 y2 hw5 hgw g1 g2
          go_wp2_with fail
          obtain ⟨W, hW⟩ : ∃ W, W = ((((((w5.setCell ⟨w.heap.size, 0, none⟩ (.int .i64 5)).setCell ⟨w.heap.size, 1, none⟩ (.string nn)).setCell ⟨w.heap.size, 2, none⟩ (.int .i64 i)).setCell ⟨w.heap.size, 3, none⟩ (.int .u64 re)).setCell ⟨w.heap.size, 4, none⟩ (.int .u64 im)).setCell ⟨w.heap.size, 5, none⟩ (.slice al l.length cl)) := ⟨_, rfl⟩
          rw [← hW]
          have hall := fin5 H.out HL.out HK.out HP.out HZ.out HW1.out HW2.out HF.out HT'.out.1 HT'.out.2.2.2.2 HFit.out.2 HFit.out.1.l1 (by have := HFit.out.1.c1; unfold maxLen; exact this) HRW.out hW
          obtain ⟨F', ⟨e0, e1, e2, e3, e4, e5⟩, hway, hkp, hFF⟩ := hall
          refine bodyPost_ret (v := .tuple #[.agg #[.int .i64 5, .string nn, .int .i64 i, .int .u64 re, .int .u64 im, .slice al l.length cl], .int .i64 (R0.length + 1), .bool true]) (by simp [results, Tryz.results135, go_sem, e0, e1, e2, e3, e4, e5]) rfl ⟨_, by simp, Lies.keep (hkp.mono H.out.2.2.2.2.2.1) (fun _ _ => id) _ _ HT'.out.2.1, F', ?_, hkp, hFF⟩
          have hkd : kids (Tm.mk 5 nn i re im l) = [l] := by rw [kids, if_pos rfl]
          rw [hkd]
          exact hway
      · have hk5' : (k == 5) = false := by rw [beq_eq_false_iff_ne]; exact hk5
        have HK5 := Lib.hid hk5
        clear hk5
        go_wp2_with fail
        obtain ⟨w1, hw1⟩ : ∃ w1, w1 = w'.alloc (.cells #[.int .i64 k, .string nn, .int .i64 i, .int .u64 re, .int .u64 im, .slice al l.length cl] 27) := ⟨_, rfl⟩
        rw [← hw1]
        have F1 := facts1 H.out.2.2.2.1 (own_cell H.out.2.1 (m := R0.length) (by rw [HL.out]; omega)).2.2.1 HK.out HP.out HZ.out hw1 hx hgf
        have HW1 := Lib.hid (And.intro hw1 F1)
        obtain ⟨g1, g2, g3, g4, g5, g6, g7, g8, g9, g10, s1, s2, s3⟩ := F1
        clear hw1 q1 q2 hx hgf e0 e1 e2 e3 e4 e5
        go_region
        obtain ⟨w2, hw2⟩ : ∃ w2, w2 = (w1.setCell ⟨g, R0.length, none⟩ (.slice a' row.length (c' - 1))).drew := ⟨_, rfl⟩
        rw [← hw2]
        have F2 := facts2 H.out.2.2.2.1 HZ.out HW1.out (by have := (own_cell H.out.2.1 (m := R0.length) (by rw [HL.out]; omega)).2.2.1; omega) hw2
        obtain ⟨k2, g1, g2, g5, g6, g7, g8, g9, g10, z0, z1, z2, z3, z4, z5, f0, f1, f2, f3, f4, f5⟩ := F2
        have HW2 := Lib.hid (And.intro hw2 k2)
        clear hw2 k2
        go_wp2_with fail
        obtain ⟨W, hW⟩ : ∃ W, W = ((((((w2.setCell ⟨w.heap.size, 0, none⟩ (.int .i64 k)).setCell ⟨w.heap.size, 1, none⟩ (.string nn)).setCell ⟨w.heap.size, 2, none⟩ (.int .i64 i)).setCell ⟨w.heap.size, 3, none⟩ (.int .u64 re)).setCell ⟨w.heap.size, 4, none⟩ (.int .u64 im)).setCell ⟨w.heap.size, 5, none⟩ (.slice al l.length cl)) := ⟨_, rfl⟩
        rw [← hW]
        have hz2 : w2.heap[w.heap.size]? = some ZT := zt2 H.out.2.2.2.1 HZ.out HW1.out HW2.out.2 (by have := (own_cell H.out.2.1 (m := R0.length) (by rw [HL.out]; omega)).2.2.1; omega)
        have h6 : Six W w.heap.size 0 (.int .i64 k) (.string nn) (.int .i64 i) (.int .u64 re) (.int .u64 im) (.slice al l.length cl) := by rw [hW]; exact six_set hz2
        have hk2 : Keep (fun k => k = w.heap.size) w2 W := by rw [hW]; exact keep_set6 w2 w.heap.size _ _ _ _ _ _
        have hall := fin2 H.out HL.out HK.out HP.out HW1.out HW2.out hk2 HT'.out.1 HT'.out.2.2.2.2
        obtain ⟨e0, e1, e2, e3, e4, e5⟩ := h6
        refine bodyPost_ret (v := .tuple #[.agg #[.int .i64 k, .string nn, .int .i64 i, .int .u64 re, .int .u64 im, .slice al l.length cl], .int .i64 (R0.length + 1), .bool true]) (by simp [results, Tryz.results135, go_sem, e0, e1, e2, e3, e4, e5]) rfl ⟨_, by simp, Lies.keep (hall.2.mono H.out.2.2.2.2.2.1) (fun _ _ => id) _ _ HT'.out.2.1, F, ?_, hall.2, fun _ => Or.inl⟩
        have hkd : kids (Tm.mk k nn i re im l) = [] := by rw [kids, if_neg HK5.out]
        rw [hkd, List.append_nil]
        exact hall.1
    · have hx : ∃ a c', w'.cell? ⟨g, m, none⟩ = some (.slice a 0 c') := by
        obtain ⟨_, ho, ha, _, _, _, hE⟩ := H.out
        have he : (R0 ++ (t :: row) :: E)[m]? = E[m - R0.length - 1]? := by
          rw [List.getElem?_append_right (by omega), show m - R0.length = (m - R0.length - 1) + 1 by omega, List.getElem?_cons_succ]
          simp
        have hl : m - R0.length - 1 < E.length := by omega
        rw [List.getElem?_eq_getElem hl] at he
        obtain ⟨x, hx, hs⟩ := ha.at he
        rw [hE _ (List.getElem_mem hl)] at hs
        obtain ⟨a, c', rfl, _⟩ := hs
        exact ⟨a, c', (hg m).1.trans ((own_cell ho (by rw [HL.out]; omega)).1.trans hx)⟩
      obtain ⟨a, c', hx⟩ := hx
      have HB := Lib.hid (And.intro hm h9)
      clear hk hp' hn hc0 hf0 hlt h0 hpg hz hg hm h9
      go_wp2_with fail
      go_step3
      have hp' := heap_setCell_same w' p 0 _ 194 (.slice (some ⟨g, 0, none⟩) m c) HP.out
      refine ⟨rfl, Jn.mk m (by have := HN.out; have := HB.out; omega) (by have := HN.out; omega) rfl (HK.out.trans (Keep.setCell (F := fun k => k = p) _ rfl _) fun _ => Or.inl) hp', ?_⟩
      rw [Mn_eq hp', HM.out]
      omega
end Go.Proofs.YtedbcmagjbgbjaaGreatDoor.wlk
namespace Go.Proofs.YtedbcmagjbgbjaaGreatDoor.cur
set_option linter.unusedVariables false
open Go.ChangeShapes Go.WideShapes Go.ChangeAt Go.RowKit
open Go.Proofs.YtedbcmagjbgbjaaGreatDoor.tm Go.Proofs.YtedbcmagjbgbjaaGreatDoor.lie Go.Proofs.YtedbcmagjbgbjaaGreatDoor.kp Go.Proofs.YtedbcmagjbgbjaaGreatDoor.wlk
/-- what is still to come, the last row first -/
def flatR : List (List Tm) → List (Tm × Nat)
  | [] => []
  | row :: R => preL (R.length + 1) row ++ flatR R
def flat (R : List (List Tm)) : List (Tm × Nat) := flatR R.reverse
theorem flatR_empty : ∀ {S : List (List Tm)}, (∀ x ∈ S, x = []) → ∀ T, flatR (S ++ T) = flatR T
  | [], _, T => rfl
  | x :: S, h, T => by
    have : x = [] := h x (by simp)
    subst this
    rw [List.cons_append, flatR, flatR_empty (fun x hx => h x (by simp [hx]))]
    simp [preL]
theorem decomp : ∀ (S : List (List Tm)), (∀ x ∈ S, x = []) ∨ ∃ (E : List (List Tm)) (t : Tm) (row : List Tm) (T : List (List Tm)), S = E ++ (t :: row) :: T ∧ ∀ x ∈ E, x = []
  | [] => Or.inl (by simp)
  | (t :: row) :: S => Or.inr ⟨[], t, row, S, rfl, by simp⟩
  | [] :: S => by
    rcases decomp S with h | ⟨E, t, row, T, rfl, h⟩
    · exact Or.inl (by simpa using h)
    · exact Or.inr ⟨[] :: E, t, row, T, rfl, by simpa using h⟩
theorem flatR_kids (t : Tm) (row : List Tm) (T : List (List Tm)) : flatR ((t :: row) :: T) = (t, T.length + 1) :: flatR ((kids t).reverse ++ row :: T) := by
  obtain ⟨k, n, i, re, im, l⟩ := t
  by_cases h : k = 5
  · subst h
    simp [flatR, kids, preL, pre]
  · simp [flatR, kids, preL, pre, h]
theorem kids_len (t : Tm) : (kids t).length ≤ 1 := by
  obtain ⟨k, n, i, re, im, l⟩ := t
  by_cases h : k = 5 <;> simp [kids, h]
/-- the rows: nothing is left, or one node is next -/
theorem flat_cases (R : List (List Tm)) : (flat R = [] ∧ ∀ x ∈ R, x = []) ∨
    ∃ (R0 E : List (List Tm)) (t : Tm) (row : List Tm), R = R0 ++ (t :: row) :: E ∧ (∀ x ∈ E, x = []) ∧ flat R = (t, R0.length + 1) :: flat (R0 ++ [row] ++ kids t) := by
  rcases decomp R.reverse with h | ⟨E, t, row, T, h, hE⟩
  · left
    refine ⟨?_, fun x hx => h x (by simpa using hx)⟩
    have := flatR_empty h []
    simpa [flat, flatR] using this
  · right
    refine ⟨T.reverse, E.reverse, t, row, ?_, fun x hx => hE x (by simpa using hx), ?_⟩
    · have := congrArg List.reverse h
      simpa using this
    · rw [flat, h, flatR_empty hE, flatR_kids]
      simp [flat]
def After (B r : Nat) (L : List (Tm × Nat)) (p : Nat) (F : Nat → Prop) (w : World) (k0 : Int) (n0 : ByteArray) (i0 re0 im0 : Int) (a0 : Option Addr) (l0 c0 : Nat) (d : Int) (b : Bool) (w' : World) : Prop :=
  Keep F w w' ∧ ((L = [] ∧ b = false) ∨ ∃ t k L' R' F', L = (t, k) :: L' ∧ d = (k : Nat) ∧ b = true ∧ Lies (Off B r) w' t (.agg #[.int .i64 k0, .string n0, .int .i64 i0, .int .u64 re0, .int .u64 im0, .slice a0 l0 c0]) ∧ TWay B r w' p F' R' ∧ flat R' = L' ∧ R'.length ≤ k + 1 ∧ ∀ i, F' i → F i ∨ w.heap.size ≤ i)
def NextAny (B r : Nat) (L : List (Tm × Nat)) (p : Nat) (F : Nat → Prop) (w : World) (e : Ending) (w' : World) : Prop :=
  ∃ k0 n0 i0 re0 im0 a0 l0 c0 d b, e = .returned (.tuple #[.agg #[.int .i64 k0, .string n0, .int .i64 i0, .int .u64 re0, .int .u64 im0, .slice a0 l0 c0], .int .i64 d, .bool b]) ∧ After B r L p F w k0 n0 i0 re0 im0 a0 l0 c0 d b w'
theorem next_flat (B r : Nat) (w : World) (p : Nat) (F : Nat → Prop) (R : List (List Tm)) (h : TWay B r w p F R) (h9 : R.length ≤ 1000) (hr : r < w.heap.size) :
    Calls Tryz.prog 135 #[.pointer (some ⟨p, 0, none⟩)] w (NextAny B r (flat R) p F w) := by
  rcases flat_cases R with ⟨h0, hR⟩ | ⟨R0, E, t, row, rfl, hE, hL⟩
  · refine (next_none B r w p F R h hR h9).mono fun e w' ⟨he, hk⟩ => ?_
    exact ⟨_, _, _, _, _, _, _, _, _, _, he, hk, Or.inl ⟨h0, rfl⟩⟩
  · have hl : (R0 ++ (t :: row) :: E).length = R0.length + 1 + E.length := by simp; omega
    refine (next_some B r w p F R0 E t row h hE (by omega) hr).mono fun e w' ⟨v, he, hv, F', hw, hk, hF⟩ => ?_
    have hv' := hv
    obtain ⟨k, n, i, re, im, l⟩ := t
    rw [Lies] at hv'
    obtain ⟨a, c, rfl, _⟩ := hv'
    refine ⟨_, _, _, _, _, _, _, _, _, _, he, hk, Or.inr ⟨_, _, _, _, F', hL, rfl, rfl, hv, hw, rfl, ?_, hF⟩⟩
    have := kids_len (Tm.mk k n i re im l)
    simp only [List.length_append, List.length_cons, List.length_nil]; omega
/-- THE CURSOR: the node in block nb, d its depth, b whether there is one; L: it and all that come behind it -/
def Cur (B r : Nat) (L : List (Tm × Nat)) (p : Nat) (w : World) (nb : Nat) (k0 : Int) (n0 : ByteArray) (i0 re0 im0 : Int) (a0 : Option Addr) (l0 c0 : Nat) (d : Int) (b : Bool) : Prop :=
  w.heap[nb]? = some (.cells #[.int .i64 k0, .string n0, .int .i64 i0, .int .u64 re0, .int .u64 im0, .slice a0 l0 c0] 27 (0, 0)) ∧ ((L = [] ∧ b = false) ∨ ∃ t k L' R F, L = (t, k) :: L' ∧ d = (k : Nat) ∧ b = true ∧ Lies (Off B r) w t (.agg #[.int .i64 k0, .string n0, .int .i64 i0, .int .u64 re0, .int .u64 im0, .slice a0 l0 c0]) ∧ TWay B r w p F R ∧ flat R = L' ∧ R.length ≤ k + 1 ∧ r < w.heap.size ∧ ¬ F nb ∧ Off B r nb)
theorem After.first {B r p : Nat} {L : List (Tm × Nat)} {F : Nat → Prop} {w w' : World} {k0 : Int} {n0 : ByteArray} {i0 re0 im0 : Int} {a0 : Option Addr} {l0 c0 : Nat} {d : Int} {b : Bool} (h : After B r L p F w k0 n0 i0 re0 im0 a0 l0 c0 d b w') (hB : B ≤ w.heap.size) (hr : r < w.heap.size) :
    Cur B r L p (w'.alloc (.cells #[.int .i64 k0, .string n0, .int .i64 i0, .int .u64 re0, .int .u64 im0, .slice a0 l0 c0] 27)) w'.heap.size k0 n0 i0 re0 im0 a0 l0 c0 d b := by
  obtain ⟨hk, h⟩ := h
  have hs := hk.size
  refine ⟨alloc_at _ _, ?_⟩
  rcases h with h | ⟨t, k, L', R', F', rfl, rfl, rfl, hv, hw, hf, hl, hF⟩
  · exact Or.inl h
  · exact Or.inr ⟨t, k, L', R', F', rfl, rfl, rfl, hv.below (ba _ _), hw.keep (G := No) (Keep.of_below (ba _ _)) (fun _ _ => id) (fun _ h => h.elim), hf, hl, by rw [alloc_size]; omega, fun h => by have := (hw.lt _ h).2.2; omega, by omega, by omega⟩
theorem After.store {B r p nb : Nat} {L : List (Tm × Nat)} {F : Nat → Prop} {w w' : World} {k0 : Int} {n0 : ByteArray} {i0 re0 im0 : Int} {a0 : Option Addr} {l0 c0 : Nat} {u0 u1 u2 u3 u4 u5 : Value} {d : Int} {b : Bool} (h : After B r L p F w k0 n0 i0 re0 im0 a0 l0 c0 d b w') (hr : r < w.heap.size)
    (hn : w.heap[nb]? = some (.cells #[u0, u1, u2, u3, u4, u5] 27 (0, 0))) (hF0 : ¬ F nb) (ho : Off B r nb) :
    Cur B r L p ((((((w'.setCell ⟨nb, 0, none⟩ (.int .i64 k0)).setCell ⟨nb, 1, none⟩ (.string n0)).setCell ⟨nb, 2, none⟩ (.int .i64 i0)).setCell ⟨nb, 3, none⟩ (.int .u64 re0)).setCell ⟨nb, 4, none⟩ (.int .u64 im0)).setCell ⟨nb, 5, none⟩ (.slice a0 l0 c0)) nb k0 n0 i0 re0 im0 a0 l0 c0 d b := by
  obtain ⟨hk, h⟩ := h
  have hs := hk.size
  have hnb : nb < w.heap.size := (Array.getElem?_eq_some_iff.1 hn).1
  have hn' := (hk.block nb hnb hF0).trans hn
  have k6 := keep_set6 w' nb (.int .i64 k0) (.string n0) (.int .i64 i0) (.int .u64 re0) (.int .u64 im0) (.slice a0 l0 c0)
  refine ⟨?_, ?_⟩
  · have e := fun (w : World) (i : Nat) (cs : Array Value) (v : Value) (hg : w.heap[nb]? = some (.cells cs 27 (0, 0))) => heap_setCell_same w nb i cs 27 v hg
    have := e _ 5 _ (.slice a0 l0 c0) (e _ 4 _ (.int .u64 im0) (e _ 3 _ (.int .u64 re0) (e _ 2 _ (.int .i64 i0) (e _ 1 _ (.string n0) (e w' 0 _ (.int .i64 k0) hn')))))
    simpa using this
  rcases h with h | ⟨t, k, L', R', F', rfl, rfl, rfl, hv, hw, hf, hl, hF⟩
  · exact Or.inl h
  · have hnF : ¬ F' nb := fun h => (hF _ h).elim hF0 fun e => by omega
    refine Or.inr ⟨t, k, L', R', F', rfl, rfl, rfl, Lies.keep (k6.mono (G := Off B r) fun i h => by subst h; exact ho) (fun _ _ => id) _ _ hv, hw.keep k6 (fun i h e => hnF (e ▸ h)) (fun i h => by subst h; exact ho), hf, hl, ?_, hnF, ho⟩
    have := k6.size
    omega
theorem blk_facts {w : World} {b : Nat} {v0 v1 v2 v3 v4 v5 : Value} {t : TypeId} (h : w.heap[b]? = some (.cells #[v0, v1, v2, v3, v4, v5] t (0, 0))) :
    (w.cell? ⟨b, 0, none⟩ = some v0 ∧ w.cell? ⟨b, 1, none⟩ = some v1 ∧ w.cell? ⟨b, 2, none⟩ = some v2 ∧ w.cell? ⟨b, 3, none⟩ = some v3 ∧ w.cell? ⟨b, 4, none⟩ = some v4 ∧ w.cell? ⟨b, 5, none⟩ = some v5) ∧
    w.frozen? ⟨b, 0, none⟩ = false ∧ w.frozen? ⟨b, 1, none⟩ = false ∧ w.frozen? ⟨b, 2, none⟩ = false ∧ w.frozen? ⟨b, 3, none⟩ = false ∧ w.frozen? ⟨b, 4, none⟩ = false ∧ w.frozen? ⟨b, 5, none⟩ = false := by
  refine ⟨⟨?_, ?_, ?_, ?_, ?_, ?_⟩, ?_, ?_, ?_, ?_, ?_, ?_⟩ <;> simp [World.cell?, World.frozen?, h]
end Go.Proofs.YtedbcmagjbgbjaaGreatDoor.cur
namespace Go.Proofs.YtedbcmagjbgbjaaGreatDoor.mes
set_option linter.unusedVariables false
open Go.ChangeShapes Go.WideShapes Go.ChangeAt Go.RowKit
open Go.Proofs.YtedbcmagjbgbjaaGreatDoor.tm Go.Proofs.YtedbcmagjbgbjaaGreatDoor.lie Go.Proofs.YtedbcmagjbgbjaaGreatDoor.kp Go.Proofs.YtedbcmagjbgbjaaGreatDoor.wlk Go.Proofs.YtedbcmagjbgbjaaGreatDoor.cur Go.Proofs.YtedbcmagjbgbjaaGreatDoor.may
theorem mayNode_t {X : Nat → Prop} (k : Int) (n : ByteArray) (i re im : Int) (a : Option Addr) (len c : Nat) (t : Tm) (w w0 : World) (h : Lies X w0 t (.agg #[.int .i64 k, .string n, .int .i64 i, .int .u64 re, .int .u64 im, .slice a len c])) (e0 : Int) (he : chk t = e0) :
    Calls Tryz.prog 136 #[.agg #[.int .i64 k, .string n, .int .i64 i, .int .u64 re, .int .u64 im, .slice a len c]] w fun e w' => e = .returned (.int .i64 e0) ∧ Below w.heap.size w w' := by
  obtain ⟨k', n', i', re', im', l⟩ := t
  rw [Lies] at h
  obtain ⟨a', c', hv, hf, _⟩ := h
  simp only [Value.agg.injEq, Array.mk.injEq, List.cons.injEq, Value.int.injEq, Value.string.injEq, Value.slice.injEq, and_true, true_and] at hv
  obtain ⟨rfl, rfl, rfl, rfl, rfl, rfl, rfl, rfl⟩ := hv
  rw [← he, ← chkv_chk]
  exact mayNode_any _ _ _ _ _ _ _ _ w hf
def Tell (t : Tm) (w : World) (e : Ending) (w' : World) : Prop :=
  e = .returned (.tuple #[.int .i64 (nodes t), .int .i64 (depth t), .int .i64 (may t)]) ∧ Below w.heap.size w w'
theorem tell_mk {t : Tm} {w w' : World} (n m e : Int) (h : meas (pre 1 t) 0 0 = (n, m, e)) (hb : Below w.heap.size w w') : Tell t w (.returned (.tuple #[.int .i64 n, .int .i64 m, .int .i64 e])) w' := by
  refine ⟨?_, hb⟩
  simp only [nodes, depth, may, h]
/-- the loop: what is still to come, what has been counted -/
def Rel (B r p : Nat) (w : World) (t : Tm) (g : Nat) (s5 s6 s8 s9 s10 : Value) (wr : World) : Prop :=
  ∃ (L : List (Tm × Nat)) (n m nb : Nat) (k0 : Int) (n0 : ByteArray) (i0 re0 im0 : Int) (a0 : Option Addr) (l0 c0 : Nat) (d : Int) (b : Bool), g = L.length ∧ s5 = .int .i64 n ∧ s6 = .int .i64 m ∧ s8 = .pointer (some ⟨nb, 0, none⟩) ∧ s9 = .int .i64 d ∧ s10 = .bool b ∧
    Cur B r L p wr nb k0 n0 i0 re0 im0 a0 l0 c0 d b ∧ Below B w wr ∧ n ≤ 2000 ∧ m ≤ 500 ∧ meas L n m = meas (pre 1 t) 0 0
set_option maxRecDepth 100000 in
set_option maxHeartbeats 1000000 in
theorem measure_any (t : Tm) (v : Value) (w : World) (ht : Lies No w t v) : Calls Tryz.prog 91 #[v] w (Tell t w) := by
  have ht0 : Lies (fun k => w.heap.size ≤ k) w t v := ht.off fun b h1 h2 => absurd h1 (by omega)
  obtain ⟨k, n, i, re, im, l⟩ := t
  rw [Lies] at ht
  obtain ⟨a, c, rfl, hf, hr⟩ := ht
  have HT := Lib.hid ht0
  clear hf hr ht0
  go_enter Tryz.func91, Tryz.ntmps91
  go_wp2_with fail
  refine (begin_any w.heap.size _ _ _ (by simp) (HT.out.below (ba _ _))).mono ?_
  rintro e w1 ⟨p, F, r, rfl, hw, hb, hF, hr1, hr2⟩
  have HB := Lib.hid (bt (ba w _) hb)
  have HW := Lib.hid (And.intro hw (And.intro hr1 hr2))
  clear hw hb hF hr1 hr2
  go_wp2_with fail
  refine (next_flat w.heap.size r _ p F _ HW.out.1 (by simp) HW.out.2.2).mono ?_
  rintro e w2 ⟨k0, n0, i0, re0, im0, a0, l0, c0, d, b, rfl, hA⟩
  have HA := Lib.hid hA
  clear hA
  go_wp2_with fail
  go_loopg [5, 6, 8, 9, 10] (pre 1 (Tm.mk k n i re im l)).length (Rel w.heap.size r p w (Tm.mk k n i re im l))
  case atStart =>
    have hb1 := HB.out
    have hs := hb1.size
    refine ⟨pre 1 (Tm.mk k n i re im l), 0, 0, w2.heap.size, k0, n0, i0, re0, im0, a0, l0, c0, d, b, rfl, rfl, rfl, rfl, rfl, rfl, ?_, ?_, by omega, by omega, rfl⟩
    · have hA := HA.out
      have hfl : flat [[Tm.mk k n i re im l]] = pre 1 (Tm.mk k n i re im l) := by simp [flat, flatR, preL]
      rw [hfl] at hA
      exact hA.first (by omega) HW.out.2.2
    · exact (hb1.trans (HA.out.1.to_below (fun i h => (HW.out.1.lt i h).1) (by omega))).trans ((ba w2 _).mono (by have := HA.out.1.size; omega))
  case round =>
    obtain ⟨L, nn, m, nb, k0, n0, i0, re0, im0, a0, l0, c0, d, b, rfl, rfl, rfl, rfl, rfl, rfl, hc, hb, hn, hm, hme⟩ := hrel
    obtain ⟨hblk, hc⟩ := hc
    have hnbl : nb < wr.heap.size := (Array.getElem?_eq_some_iff.1 hblk).1
    have c6 : Six wr nb 0 (.int .i64 k0) (.string n0) (.int .i64 i0) (.int .u64 re0) (.int .u64 im0) (.slice a0 l0 c0) := by refine ⟨?_, ?_, ?_, ?_, ?_, ?_⟩ <;> simp [World.cell?, hblk]
    obtain ⟨e0, e1, e2, e3, e4, e5⟩ := c6
    simp only [Nat.zero_add] at e1 e2 e3 e4 e5
    rcases hc with ⟨rfl, rfl⟩ | ⟨t', kk, L', R, F', rfl, rfl, rfl, hL, hW, hfl, hRl, hr, hFn, hO⟩
    · have HE := Lib.hid (And.intro hb hme)
      clear hb hme hblk hn hm
      go_wp2_with fail
      go_ret3
      obtain ⟨hb, hme⟩ := HE.out
      exact tell_mk nn m 0 (by rw [← hme, meas]) hb
    · have HA2 := Lib.hid (And.intro hblk (And.intro hL (And.intro hW (And.intro hfl (And.intro hRl (And.intro hr (And.intro hFn (And.intro hO (And.intro hb hme)))))))))
      clear hblk hL hW hfl hRl hr hFn hO hb hme
      by_cases h1 : nn = 2000
      · subst h1
        go_wp2_with fail
        go_ret3
        obtain ⟨_, _, _, _, _, _, _, _, hb, hme⟩ := HA2.out
        exact tell_mk 0 0 3 (by rw [← hme, meas, if_pos rfl]) hb
      have h1' : ((nn : Int) == 2000) = false := by rw [beq_eq_false_iff_ne]; omega
      by_cases h2 : 500 < kk
      · have H1 := Lib.hid h1
        clear h1
        go_wp2_with fail
        go_ret3
        obtain ⟨_, _, _, _, _, _, _, _, hb, hme⟩ := HA2.out
        exact tell_mk 0 0 3 (by rw [← hme, meas, if_neg H1.out, if_pos h2]) hb
      have H12 := Lib.hid (And.intro h1 h2)
      have h2' : decide ((kk : Int) > 500) = false := by simp; omega
      have h2'' : (kk : Int) ≤ 500 := by omega
      have hn9 : nn + 1 ≤ 2000 := by omega
      clear h1 h2 hn
      by_cases h3 : chk t' = 0
      · have H3 := Lib.hid h3
        clear h3
        go_wp2_with fail
        refine (mayNode_t _ _ _ _ _ _ _ _ t' _ _ HA2.out.2.1 0 H3.out).mono ?_
        rintro e w3 ⟨rfl, hb3⟩
        have HB3 := Lib.hid hb3
        have e0 := (hb3.cell (p := ⟨nb, 0, none⟩) hnbl).trans e0
        have e1 := (hb3.cell (p := ⟨nb, 1, none⟩) hnbl).trans e1
        have e2 := (hb3.cell (p := ⟨nb, 2, none⟩) hnbl).trans e2
        have e3 := (hb3.cell (p := ⟨nb, 3, none⟩) hnbl).trans e3
        have e4 := (hb3.cell (p := ⟨nb, 4, none⟩) hnbl).trans e4
        have e5 := (hb3.cell (p := ⟨nb, 5, none⟩) hnbl).trans e5
        clear hb3
        go_wp2_with fail
        all_goals
          obtain ⟨w4, hw4⟩ : ∃ w4, w4 = w3.alloc (.cells #[.int .i64 k0, .string n0, .int .i64 i0, .int .u64 re0, .int .u64 im0, .slice a0 l0 c0] 27) := ⟨_, rfl⟩
          rw [← hw4]
          have hb4 : Below wr.heap.size wr w4 := by rw [hw4]; exact bt HB3.out (ba w3 _)
          have hz4 : w4.heap.size = w3.heap.size + 1 := by rw [hw4, alloc_size]
          have hat4 : w4.heap[w3.heap.size]? = some (.cells #[.int .i64 k0, .string n0, .int .i64 i0, .int .u64 re0, .int .u64 im0, .slice a0 l0 c0] 27 (0, 0)) := by rw [hw4]; exact alloc_at _ _
          have hW4 := HA2.out.2.2.1.keep (G := No) (Keep.of_below hb4) (fun _ _ => id) (fun _ h => h.elim)
          have hFn4 : ¬ F' w3.heap.size := fun h => by have := (HA2.out.2.2.1.lt _ h).2.2; have := HB3.out.size; omega
          have HW4 := Lib.hid (And.intro hw4 (And.intro hb4 (And.intro hz4 (And.intro hat4 (And.intro hW4 hFn4)))))
          clear hw4 hb4 hz4 hat4 hW4 hFn4
          refine (next_flat w.heap.size r _ p F' R HW4.out.2.2.2.2.1 (by have := HA2.out.2.2.2.2.1; omega) (by have := HA2.out.2.2.2.2.2.1; have := HW4.out.2.1.size; omega)).mono ?_
          rintro e w5 ⟨k0', n0', i0', re0', im0', a0', l0', c0', d', b', rfl, hA5⟩
          have hat5 := (hA5.1.block w3.heap.size (by rw [HW4.out.2.2.1]; omega) HW4.out.2.2.2.2.2).trans HW4.out.2.2.2.1
          obtain ⟨⟨x0, x1, x2, x3, x4, x5⟩, y0, y1, y2, y3, y4, y5⟩ := blk_facts hat5
          have HA5 := Lib.hid hA5
          clear hA5 hat5 e0 e1 e2 e3 e4 e5
          go_wp2_with fail
          go_roundg L'.length
          case measure => simp
          case rel =>
            obtain ⟨hblk, hL, hW, hfl, hRl, hr, hFn, hO, hb, hme⟩ := HA2.out
            obtain ⟨hw4, hb4, hz4, hat4, hW4, hFn4⟩ := HW4.out
            have s3 := HB3.out.size
            have sb := hb.size
            have hoff : Off w.heap.size r w3.heap.size := ⟨by omega, by omega⟩
            have k6 := keep_set6 w5 w3.heap.size (.int .i64 k0') (.string n0') (.int .i64 i0') (.int .u64 re0') (.int .u64 im0') (.slice a0' l0' c0')
            have hcur := HA5.out.store (by omega) hat4 hFn4 hoff
            rw [hfl] at hcur
            refine ⟨L', nn + 1, max m kk, w3.heap.size, k0', n0', i0', re0', im0', a0', l0', c0', d', b', rfl, by go_num, ?_, rfl, rfl, rfl, hcur, ?_, by omega, by omega, ?_⟩
            · first | (rw [Nat.max_eq_left (by omega)]; done) | (rw [Nat.max_eq_right (by omega)]; done) | (rw [Nat.max_eq_left (by omega)]; rfl) | (rw [Nat.max_eq_right (by omega)]; rfl)
            · have s5 := HA5.out.1.size
              exact ((hb.trans (hb4.mono sb)).trans (HA5.out.1.to_below (fun i h => (hW4.lt i h).1) (by omega))).trans (k6.to_below (fun i h => by subst h; omega) (by omega))
            · rw [← hme, meas, if_neg H12.out.1, if_neg H12.out.2, if_neg (by simp [H3.out])]
      · have H3 := Lib.hid h3
        have h3' : (chk t' == 0) = false := by rw [beq_eq_false_iff_ne]; exact h3
        have h3'' : (chk t' != 0) = true := by rw [bne_iff_ne]; exact h3
        clear h3
        go_wp2_with fail
        refine (mayNode_t _ _ _ _ _ _ _ _ t' _ _ HA2.out.2.1 _ rfl).mono ?_
        rintro e w3 ⟨rfl, hb3⟩
        have HB3 := Lib.hid hb3
        clear hb3
        go_wp2_with fail
        go_ret3
        obtain ⟨_, _, _, _, _, _, _, _, hb, hme⟩ := HA2.out
        exact tell_mk 0 0 _ (by rw [← hme, meas, if_neg H12.out.1, if_neg H12.out.2, if_pos H3.out]) (hb.trans (HB3.out.mono hb.size))
theorem may_any (t : Tm) (v : Value) (w : World) (ht : Lies No w t v) : Calls Tryz.prog 58 #[v] w fun e w' => e = .returned (.int .i64 (may t)) ∧ Below w.heap.size w w' := by
  obtain ⟨k, n, i, re, im, l⟩ := t
  have HT := Lib.hid ht
  rw [Lies] at ht
  obtain ⟨a, c, rfl, hf, hr⟩ := ht
  clear hf hr
  go_enter Tryz.func58, Tryz.ntmps58
  go_wp2_with fail
  refine (measure_any _ _ _ (HT.out.below (ba _ _))).mono ?_
  rintro e w1 ⟨rfl, hb⟩
  have HB := Lib.hid (bt (ba w _) hb)
  clear hb
  go_wp2_with fail
  go_ret
  exact ⟨rfl, HB.out⟩
end Go.Proofs.YtedbcmagjbgbjaaGreatDoor.mes
namespace Go.Proofs.YtedbcmagjbgbjaaGreatDoor.pln
set_option linter.unusedVariables false
open Go.ChangeShapes Go.WideShapes Go.ChangeAt Go.RowKit
open Go.Proofs.YtedbcmagjbgbjaaGreatDoor.tm Go.Proofs.YtedbcmagjbgbjaaGreatDoor.lie Go.Proofs.YtedbcmagjbgbjaaGreatDoor.kp Go.Proofs.YtedbcmagjbgbjaaGreatDoor.wlk Go.Proofs.YtedbcmagjbgbjaaGreatDoor.cur Go.Proofs.YtedbcmagjbgbjaaGreatDoor.may
abbrev ZV : Value := .agg #[.int .i64 0, .string ⟨#[]⟩, .int .i64 0, .int .u64 0, .int .u64 0, .slice none 0 0]
/-- the cells of n zero terms -/
def MC (n : Nat) : Array Value := madeCells ZV.cells (n * 6)
theorem MC_size (n : Nat) : (MC n).size = n * 6 := by unfold MC; simp [madeCells]
theorem infoT : (Tryz.prog.info? 27).map (fun i => (i.zero, i.size, i.bytes)) = some (some ZV, 6, 72) := by kernel_rfl
theorem make_run (n : Nat) (h : n ≤ 1000000) (w : World) :
    (Instr.makeSlice 25 (.int .i64 (n : Int)) (.int .i64 (n : Int))).run Tryz.prog w = .ok (.slice (some ⟨w.heap.size, 0, none⟩) n n) (w.alloc (.cells (MC n) 27)) := by
  obtain ⟨i, hi, hz, hs, hb⟩ := info_parts infoT
  have hr := run_make (P := Tryz.prog) w 25 27 i ZV Tryz.underlying25 hi hz .i64 .i64 n n (by omega) (Int.le_refl _) (by rw [hb]; omega) (by omega)
  simp only [Int.toNat_natCast, hs] at hr
  exact hr
/-- a compound: its arguments' places are new -/
def Laid5 (n : ByteArray) (len : Nat) (w : World) (e : Ending) (w' : World) : Prop :=
  ∃ q cur, e = .returned (.agg #[.int .i64 5, .string n, .int .i64 0, .int .u64 0, .int .u64 0, .slice (some ⟨q, 0, none⟩) len len]) ∧ Below w.heap.size w w' ∧ w.heap.size ≤ q ∧ w'.heap[q]? = some (.cells cur 27 (0, 0)) ∧ cur.size = len * 6
theorem lies_2 (X : Nat → Prop) (s : Int → Tm) (n : ByteArray) (i re im : Int) (l : List Tm) (c : Nat) (w : World) (f : Fit 2 n i re im l.length c) : Lies X w (sub s (.mk 2 n i re im l)) (.agg #[.int .i64 2, .string n, .int .i64 0, .int .u64 0, .int .u64 0, .slice none 0 0]) := by
  obtain ⟨k0, k1, n1, i0, i1, r0, r1, m0, m1, l1, c1⟩ := f
  simp only [sub]
  simp only [show ¬ (2 : Int) = 1 by decide, if_false, if_true]
  rw [Lies]
  exact ⟨none, 0, rfl, ⟨by omega, by omega, n1, by omega, by omega, by omega, by omega, by omega, by omega, by simp, by simp⟩, by rw [TRow]; trivial⟩
theorem lies_3 (X : Nat → Prop) (s : Int → Tm) (n : ByteArray) (i re im : Int) (l : List Tm) (c : Nat) (w : World) (f : Fit 3 n i re im l.length c) : Lies X w (sub s (.mk 3 n i re im l)) (.agg #[.int .i64 3, .string ⟨#[]⟩, .int .i64 i, .int .u64 0, .int .u64 0, .slice none 0 0]) := by
  obtain ⟨k0, k1, n1, i0, i1, r0, r1, m0, m1, l1, c1⟩ := f
  simp only [sub]
  simp only [show ¬ (3 : Int) = 1 by decide, if_false, if_true, show ¬ (3 : Int) = 2 by decide]
  rw [Lies]
  exact ⟨none, 0, rfl, ⟨by omega, by omega, show (0 : Nat) ≤ 9223372036854775807 by omega, by omega, by omega, by omega, by omega, by omega, by omega, by simp, by simp⟩, by rw [TRow]; trivial⟩
theorem lies_4 (X : Nat → Prop) (s : Int → Tm) (n : ByteArray) (i re im : Int) (l : List Tm) (c : Nat) (w : World) (f : Fit 4 n i re im l.length c) : Lies X w (sub s (.mk 4 n i re im l)) (.agg #[.int .i64 4, .string ⟨#[]⟩, .int .i64 0, .int .u64 re, .int .u64 im, .slice none 0 0]) := by
  obtain ⟨k0, k1, n1, i0, i1, r0, r1, m0, m1, l1, c1⟩ := f
  simp only [sub]
  simp only [show ¬ (4 : Int) = 1 by decide, if_false, if_true, show ¬ (4 : Int) = 2 by decide, show ¬ (4 : Int) = 3 by decide]
  rw [Lies]
  exact ⟨none, 0, rfl, ⟨by omega, by omega, show (0 : Nat) ≤ 9223372036854775807 by omega, by omega, by omega, by omega, by omega, by omega, by omega, by simp, by simp⟩, by rw [TRow]; trivial⟩
end Go.Proofs.YtedbcmagjbgbjaaGreatDoor.pln
namespace Go.Proofs.YtedbcmagjbgbjaaGreatDoor.lev
set_option linter.unusedVariables false
open Go.ChangeShapes Go.WideShapes Go.ChangeAt Go.RowKit
open Go.Proofs.YtedbcmagjbgbjaaGreatDoor.tm Go.Proofs.YtedbcmagjbgbjaaGreatDoor.lie Go.Proofs.YtedbcmagjbgbjaaGreatDoor.kp Go.Proofs.YtedbcmagjbgbjaaGreatDoor.wlk Go.Proofs.YtedbcmagjbgbjaaGreatDoor.cur
/-- the first places of block b hold these terms; what they hold lies off X -/
def FRow (X : Nat → Prop) (w : World) (b : Nat) : List Tm → Nat → Prop
  | [], _ => True
  | t :: r, j => (∃ v0 v1 v2 v3 v4 v5, Six w b (j * 6) v0 v1 v2 v3 v4 v5 ∧ Lies X w t (.agg #[v0, v1, v2, v3, v4, v5])) ∧ FRow X w b r (j + 1)
theorem FRow.toT {X Y : Nat → Prop} {w : World} {b : Nat} (hb : ¬ Y b) (hY : ∀ k, k < w.heap.size → Y k → X k) : ∀ {l : List Tm} {j : Nat}, FRow X w b l j → TRow Y w l (some ⟨b, 0, none⟩) j
  | [], _, _ => by rw [TRow]; trivial
  | t :: r, j, h => by
    rw [TRow]
    obtain ⟨⟨v0, v1, v2, v3, v4, v5, h6, ht⟩, hr⟩ := h
    exact ⟨⟨b, 0, v0, v1, v2, v3, v4, v5, rfl, hb, by rw [Nat.zero_add]; exact h6, ht.off hY⟩, FRow.toT hb hY hr⟩
theorem FRow.keep {X Y G : Nat → Prop} {w w' : World} {b : Nat} (hk : Keep G w w') (hG : ∀ k, G k → X k) (hb : ¬ G b) (hY : ∀ k, k < w.heap.size → Y k → X k) : ∀ {l : List Tm} {j : Nat}, FRow X w b l j → FRow Y w' b l j
  | [], _, _ => trivial
  | t :: r, j, h => by
    obtain ⟨⟨v0, v1, v2, v3, v4, v5, h6, ht⟩, hr⟩ := h
    exact ⟨⟨v0, v1, v2, v3, v4, v5, h6.keep hk hb, Lies.keep (hk.mono hG) hY _ _ ht⟩, FRow.keep hk hG hb hY hr⟩
theorem FRow.snoc {X : Nat → Prop} {w : World} {b : Nat} {t : Tm} {v0 v1 v2 v3 v4 v5 : Value} : ∀ {l : List Tm} {j : Nat}, FRow X w b l j → Six w b ((j + l.length) * 6) v0 v1 v2 v3 v4 v5 → Lies X w t (.agg #[v0, v1, v2, v3, v4, v5]) → FRow X w b (l ++ [t]) j
  | [], j, _, h6, ht => ⟨⟨v0, v1, v2, v3, v4, v5, by simpa using h6, ht⟩, trivial⟩
  | x :: r, j, h, h6, ht => ⟨h.1, FRow.snoc (j := j + 1) h.2 (by rw [show j + 1 + r.length = j + (x :: r).length by simp; omega]; exact h6) ht⟩
/-- six cells of block b from o on are set -/
def set6 (w : World) (b o : Nat) (v0 v1 v2 v3 v4 v5 : Value) : World :=
  (((((w.setCell ⟨b, o, none⟩ v0).setCell ⟨b, o + 1, none⟩ v1).setCell ⟨b, o + 2, none⟩ v2).setCell ⟨b, o + 3, none⟩ v3).setCell ⟨b, o + 4, none⟩ v4).setCell ⟨b, o + 5, none⟩ v5
theorem set6_keep (w : World) (b o : Nat) (v0 v1 v2 v3 v4 v5 : Value) : Keep (fun k => k = b) w (set6 w b o v0 v1 v2 v3 v4 v5) := by
  have k (w : World) (o : Nat) (u : Value) : Keep (fun k => k = b) w (w.setCell ⟨b, o, none⟩ u) := Keep.setCell (F := fun k => k = b) (p := ⟨b, o, none⟩) w rfl u
  exact ((((((k _ _ _).trans (k _ _ _) fun _ => Or.inl).trans (k _ _ _) fun _ => Or.inl).trans (k _ _ _) fun _ => Or.inl).trans (k _ _ _) fun _ => Or.inl).trans (k _ _ _) fun _ => Or.inl)
theorem set6_heap {w : World} {b o : Nat} {v0 v1 v2 v3 v4 v5 : Value} {cur : Array Value} {t : TypeId} (h : w.heap[b]? = some (.cells cur t (0, 0))) :
    (set6 w b o v0 v1 v2 v3 v4 v5).heap[b]? = some (.cells ((((((cur.setIfInBounds o v0).setIfInBounds (o + 1) v1).setIfInBounds (o + 2) v2).setIfInBounds (o + 3) v3).setIfInBounds (o + 4) v4).setIfInBounds (o + 5) v5) t (0, 0)) := by
  have e := fun (w : World) (i : Nat) (cs : Array Value) (v : Value) (hg : w.heap[b]? = some (.cells cs t (0, 0))) => heap_setCell_same w b i cs t v hg
  exact e _ (o + 5) _ v5 (e _ (o + 4) _ v4 (e _ (o + 3) _ v3 (e _ (o + 2) _ v2 (e _ (o + 1) _ v1 (e w o _ v0 h)))))
theorem set6_six {w : World} {b o : Nat} {v0 v1 v2 v3 v4 v5 : Value} {cur : Array Value} {t : TypeId} (h : w.heap[b]? = some (.cells cur t (0, 0))) (ho : o + 6 ≤ cur.size) : Six (set6 w b o v0 v1 v2 v3 v4 v5) b o v0 v1 v2 v3 v4 v5 := by
  have hh := set6_heap (o := o) (v0 := v0) (v1 := v1) (v2 := v2) (v3 := v3) (v4 := v4) (v5 := v5) h
  refine ⟨?_, ?_, ?_, ?_, ?_, ?_⟩ <;> simp only [World.cell?, hh] <;> simp [Array.getElem?_setIfInBounds] <;> omega
theorem set6_other {w : World} {b o o' : Nat} {v0 v1 v2 v3 v4 v5 u0 u1 u2 u3 u4 u5 : Value} {cur : Array Value} {t : TypeId} (h : w.heap[b]? = some (.cells cur t (0, 0))) (ho : o' + 6 ≤ o) (h6 : Six w b o' u0 u1 u2 u3 u4 u5) :
    Six (set6 w b o v0 v1 v2 v3 v4 v5) b o' u0 u1 u2 u3 u4 u5 := by
  have hh := set6_heap (o := o) (v0 := v0) (v1 := v1) (v2 := v2) (v3 := v3) (v4 := v4) (v5 := v5) h
  have e : ∀ j, j < o → (set6 w b o v0 v1 v2 v3 v4 v5).cell? ⟨b, j, none⟩ = w.cell? ⟨b, j, none⟩ := by
    intro j hj
    simp only [World.cell?, hh, h]
    simp only [Array.getElem?_setIfInBounds, if_neg (show ¬ o + 5 = j by omega), if_neg (show ¬ o + 4 = j by omega), if_neg (show ¬ o + 3 = j by omega), if_neg (show ¬ o + 2 = j by omega), if_neg (show ¬ o + 1 = j by omega), if_neg (show ¬ o = j by omega)]
  obtain ⟨a0, a1, a2, a3, a4, a5⟩ := h6
  exact ⟨(e _ (by omega)).trans a0, (e _ (by omega)).trans a1, (e _ (by omega)).trans a2, (e _ (by omega)).trans a3, (e _ (by omega)).trans a4, (e _ (by omega)).trans a5⟩
theorem FRow.set {X : Nat → Prop} {w : World} {b o : Nat} {v0 v1 v2 v3 v4 v5 : Value} {cur : Array Value} {t : TypeId} (hX : X b) (h : w.heap[b]? = some (.cells cur t (0, 0))) : ∀ {l : List Tm} {j : Nat}, FRow X w b l j → (j + l.length) * 6 ≤ o → FRow X (set6 w b o v0 v1 v2 v3 v4 v5) b l j
  | [], _, _, _ => trivial
  | x :: r, j, hl, ho => by
    obtain ⟨⟨u0, u1, u2, u3, u4, u5, h6, ht⟩, hr⟩ := hl
    simp only [List.length_cons] at ho
    exact ⟨⟨u0, u1, u2, u3, u4, u5, set6_other h (by omega) h6, Lies.keep ((set6_keep w b o v0 v1 v2 v3 v4 v5).mono (G := X) fun k e => e ▸ hX) (fun _ _ => id) _ _ ht⟩, FRow.set hX h hr (by omega)⟩
/-! ### levels -/
/-- the last level: block b, its first places are filled, m are open -/
def LvTop (X : Nat → Prop) (w : World) (b : Nat) (done : List Tm) (m : Nat) : Prop :=
  X b ∧ FRow X w b done 0 ∧ ∃ cur, w.heap[b]? = some (.cells cur 27 (0, 0)) ∧ cur.size = (done.length + m) * 6
/-- a level ahead: behind what is filled stands the compound nm, whose arguments are block b' -/
def LvMid (X : Nat → Prop) (w : World) (b : Nat) (done : List Tm) (nm : ByteArray) (b' n' m : Nat) : Prop :=
  X b ∧ FRow X w b done 0 ∧ Six w b (done.length * 6) (.int .i64 5) (.string nm) (.int .i64 0) (.int .u64 0) (.int .u64 0) (.slice (some ⟨b', 0, none⟩) n' n') ∧ Fit 5 nm 0 0 0 n' n' ∧
    ∃ cur, w.heap[b]? = some (.cells cur 27 (0, 0)) ∧ cur.size = (done.length + 1 + m) * 6
abbrev Lev := Nat × List Tm × ByteArray
def Mids (X : Nat → Prop) (w : World) (rb : Nat) : Nat → Nat → List Lev → List (List Tm) → Prop
  | b', n', [], [] => b' = rb ∧ n' = 1
  | b', n', (b, done, nm) :: M, row :: R => LvMid X w b done nm b' n' row.length ∧ Mids X w rb b (done.length + 1 + row.length) M R
  | _, _, _, _ => False
/-- ALL LEVELS, the last first -/
structure Lvs (X : Nat → Prop) (w : World) (rb b : Nat) (done : List Tm) (row : List Tm) (M : List Lev) (R : List (List Tm)) : Prop where
  top : LvTop X w b done row.length
  mids : Mids X w rb b (done.length + row.length) M R
  nodup : (b :: M.map (·.1)).Nodup
/-- what the root's row will be -/
def close (s : Int → Tm) (inner : List Tm) : List Lev → List (List Tm) → List Tm
  | (_, done, nm) :: M, row :: R => close s (done ++ [comp nm inner] ++ subL s row) M R
  | _, _ => inner
theorem LvMid.keep {X Y G : Nat → Prop} {w w' : World} {b b' n' m : Nat} {done : List Tm} {nm : ByteArray} (h : LvMid X w b done nm b' n' m) (hk : Keep G w w') (hG : ∀ k, G k → X k) (hb : ¬ G b) (hY : ∀ k, k < w.heap.size → Y k → X k) (hYb : Y b) : LvMid Y w' b done nm b' n' m := by
  obtain ⟨h1, h2, h3, h4, cur, h5, h6⟩ := h
  exact ⟨hYb, h2.keep hk hG hb hY, h3.keep hk hb, h4, cur, (hk.block b (Array.getElem?_eq_some_iff.1 h5).1 hb).trans h5, h6⟩
theorem Mids.keep {X Y G : Nat → Prop} {w w' : World} {rb : Nat} (hk : Keep G w w') (hG : ∀ k, G k → X k) (hY : ∀ k, k < w.heap.size → Y k → X k) : ∀ {M : List Lev} {R : List (List Tm)} {b' n' : Nat}, Mids X w rb b' n' M R → (∀ k ∈ M.map (·.1), ¬ G k ∧ Y k) → Mids Y w' rb b' n' M R
  | [], [], _, _, h, _ => h
  | (b, done, nm) :: M, row :: R, _, _, h, hb => ⟨h.1.keep hk hG (hb b (by simp)).1 hY (hb b (by simp)).2, Mids.keep hk hG hY h.2 fun k hk => hb k (by simp at hk ⊢; exact Or.inr hk)⟩
  | [], _ :: _, _, _, h, _ => h.elim
  | (_, _, _) :: _, [], _, _, h, _ => h.elim
theorem Mids.mem {X : Nat → Prop} {w : World} {rb : Nat} : ∀ {M : List Lev} {R : List (List Tm)} {b' n' : Nat}, Mids X w rb b' n' M R → ∀ k ∈ M.map (·.1), X k ∧ k < w.heap.size
  | [], [], _, _, h, k, hk => by simp at hk
  | (b, done, nm) :: M, row :: R, _, _, h, k, hk => by
    simp only [List.map_cons, List.mem_cons] at hk
    rcases hk with rfl | hk
    · obtain ⟨h1, _, _, _, cur, h5, _⟩ := h.1
      exact ⟨h1, (Array.getElem?_eq_some_iff.1 h5).1⟩
    · exact Mids.mem h.2 k hk
  | [], _ :: _, _, _, h, _, _ => h.elim
  | (_, _, _) :: _, [], _, _, h, _, _ => h.elim
theorem Mids.len {X : Nat → Prop} {w : World} {rb : Nat} : ∀ {M : List Lev} {R : List (List Tm)} {b' n' : Nat}, Mids X w rb b' n' M R → M.length = R.length
  | [], [], _, _, _ => rfl
  | (_, _, _) :: M, _ :: R, _, _, h => by simp [Mids.len h.2]
  | [], _ :: _, _, _, h => h.elim
  | (_, _, _) :: _, [], _, _, h => h.elim
theorem Lvs.keep {X Y G : Nat → Prop} {w w' : World} {rb b : Nat} {done row : List Tm} {M : List Lev} {R : List (List Tm)} (h : Lvs X w rb b done row M R) (hk : Keep G w w') (hG : ∀ k, G k → X k) (hd : ∀ k ∈ b :: M.map (·.1), ¬ G k ∧ Y k) (hY : ∀ k, k < w.heap.size → Y k → X k) : Lvs Y w' rb b done row M R := by
  obtain ⟨⟨h1, h2, cur, h3, h4⟩, h5, h6⟩ := h
  have hb := hd b (by simp)
  exact ⟨⟨hb.2, h2.keep hk hG hb.1 hY, cur, (hk.block b (Array.getElem?_eq_some_iff.1 h3).1 hb.1).trans h3, h4⟩, h5.keep hk hG hY fun k hk => hd k (by simp at hk ⊢; exact Or.inr hk), h6⟩
theorem Lvs.mem {X : Nat → Prop} {w : World} {rb b : Nat} {done row : List Tm} {M : List Lev} {R : List (List Tm)} (h : Lvs X w rb b done row M R) : ∀ k ∈ b :: M.map (·.1), X k ∧ k < w.heap.size := by
  intro k hk
  rcases List.mem_cons.1 hk with rfl | hk
  · obtain ⟨h1, _, cur, h3, _⟩ := h.top
    exact ⟨h1, (Array.getElem?_eq_some_iff.1 h3).1⟩
  · exact h.mids.mem k hk
/-- a level that is full is closed -/
theorem Lvs.pop {X : Nat → Prop} {w : World} {rb b b1 : Nat} {done done1 row1 : List Tm} {nm : ByteArray} {M : List Lev} {R : List (List Tm)} (h : Lvs X w rb b done [] ((b1, done1, nm) :: M) (row1 :: R)) :
    Lvs (fun k => X k ∧ k ≠ b) w rb b1 (done1 ++ [comp nm done]) row1 M R := by
  obtain ⟨⟨h1, h2, cur, h3, h4⟩, ⟨⟨g1, g2, g3, g4, cur1, g5, g6⟩, h5⟩, h6⟩ := h
  simp only [List.map_cons, List.nodup_cons, List.mem_cons, not_or] at h6
  obtain ⟨⟨hbb, hbM⟩, hb1M, hM⟩ := h6
  have hY : ∀ k, k < w.heap.size → (X k ∧ k ≠ b) → X k := fun _ _ h => h.1
  have no : ∀ k, No k → X k := fun _ h => h.elim
  refine ⟨⟨⟨g1, fun e => hbb e.symm⟩, ?_, cur1, g5, ?_⟩, ?_, ?_⟩
  · refine FRow.snoc (g2.keep (Keep.refl No w) no id hY) (by simpa using g3) ?_
    rw [comp, Lies]
    refine ⟨some ⟨b, 0, none⟩, done.length, ?_, by simpa using g4, h2.toT (by simp) hY⟩
    simp
  · rw [g6]; simp
  · have := h5.keep (Keep.refl No w) no hY fun k hk => ⟨id, (Mids.mem h5 k hk).1, fun e => hbM (e ▸ hk)⟩
    simpa using this
  · simp only [List.nodup_cons]
    exact ⟨hb1M, hM⟩
/-- the next place is filled -/
theorem Lvs.fill {X : Nat → Prop} {w : World} {rb b : Nat} {done row : List Tm} {t x : Tm} {M : List Lev} {R : List (List Tm)} {v0 v1 v2 v3 v4 v5 : Value} (h : Lvs X w rb b done (x :: row) M R) (ht : Lies X w t (.agg #[v0, v1, v2, v3, v4, v5])) :
    Lvs X (set6 w b (done.length * 6) v0 v1 v2 v3 v4 v5) rb b (done ++ [t]) row M R := by
  obtain ⟨⟨h1, h2, cur, h3, h4⟩, h5, h6⟩ := h
  have k6 := set6_keep w b (done.length * 6) v0 v1 v2 v3 v4 v5
  have hk6 : Keep X w (set6 w b (done.length * 6) v0 v1 v2 v3 v4 v5) := k6.mono fun k e => e ▸ h1
  simp only [List.length_cons] at h4 h5
  have h6' := h6
  simp only [List.nodup_cons] at h6'
  refine ⟨⟨h1, FRow.snoc (FRow.set h1 h3 h2 (by omega)) (by rw [Nat.zero_add]; exact set6_six h3 (by rw [h4]; omega)) (Lies.keep hk6 (fun _ _ => id) _ _ ht), _, set6_heap h3, ?_⟩, ?_, h6⟩
  · simp only [Array.size_setIfInBounds, h4, List.length_append, List.length_singleton]; omega
  · have := h5.keep k6 (fun k e => e ▸ h1) (fun _ _ => id) fun k hk => ⟨fun e => h6'.1 (e ▸ hk), (Mids.mem h5 k hk).1⟩
    rw [show (done ++ [t]).length + row.length = done.length + (row.length + 1) by simp; omega]
    exact this
/-- the next place is a compound, whose arguments are open -/
theorem Lvs.push {X : Nat → Prop} {w : World} {rb b q : Nat} {done row l : List Tm} {x : Tm} {nm : ByteArray} {M : List Lev} {R : List (List Tm)} {curq : Array Value} (h : Lvs X w rb b done (x :: row) M R) (hX : X q) (hq : w.heap[q]? = some (.cells curq 27 (0, 0))) (hs : curq.size = l.length * 6)
    (hn : ∀ k ∈ b :: M.map (·.1), k ≠ q) (hf : Fit 5 nm 0 0 0 l.length l.length) :
    Lvs X (set6 w b (done.length * 6) (.int .i64 5) (.string nm) (.int .i64 0) (.int .u64 0) (.int .u64 0) (.slice (some ⟨q, 0, none⟩) l.length l.length)) rb q [] l ((b, done, nm) :: M) (row :: R) := by
  obtain ⟨⟨h1, h2, cur, h3, h4⟩, h5, h6⟩ := h
  have k6 := set6_keep w b (done.length * 6) (.int .i64 5) (.string nm) (.int .i64 0) (.int .u64 0) (.int .u64 0) (.slice (some ⟨q, 0, none⟩) l.length l.length)
  simp only [List.length_cons] at h4 h5
  have h6' := h6
  simp only [List.nodup_cons] at h6'
  have hqb : q ≠ b := fun e => hn b (by simp) e.symm
  refine ⟨⟨hX, trivial, curq, (k6.block q (Array.getElem?_eq_some_iff.1 hq).1 hqb).trans hq, by simpa using hs⟩, ⟨⟨h1, FRow.set h1 h3 h2 (by omega), ?_, by simpa using hf, _, set6_heap h3, ?_⟩, ?_⟩, ?_⟩
  · have := set6_six (v0 := .int .i64 5) (v1 := .string nm) (v2 := .int .i64 0) (v3 := .int .u64 0) (v4 := .int .u64 0) (v5 := .slice (some ⟨q, 0, none⟩) l.length l.length) h3 (o := done.length * 6) (by rw [h4]; omega)
    simpa using this
  · simp only [Array.size_setIfInBounds, h4]; omega
  · have := h5.keep k6 (fun k e => e ▸ h1) (fun _ _ => id) fun k hk => ⟨fun e => h6'.1 (e ▸ hk), (Mids.mem h5 k hk).1⟩
    rw [show done.length + 1 + row.length = done.length + (row.length + 1) by omega]
    exact this
  · simp only [List.map_cons]
    rw [List.nodup_cons]
    exact ⟨fun hm => hn q hm rfl, h6⟩
end Go.Proofs.YtedbcmagjbgbjaaGreatDoor.lev
namespace Go.Proofs.YtedbcmagjbgbjaaGreatDoor.lay
set_option linter.unusedVariables false
open Go.ChangeShapes Go.WideShapes Go.ChangeAt Go.RowKit
open Go.Proofs.YtedbcmagjbgbjaaGreatDoor.tm Go.Proofs.YtedbcmagjbgbjaaGreatDoor.lie Go.Proofs.YtedbcmagjbgbjaaGreatDoor.kp Go.Proofs.YtedbcmagjbgbjaaGreatDoor.wlk Go.Proofs.YtedbcmagjbgbjaaGreatDoor.cur Go.Proofs.YtedbcmagjbgbjaaGreatDoor.lev
/-- the open places of a level, as a slice -/
def OpenV (b filled : Nat) (row : List Tm) (y : Value) : Prop := ∃ a c, y = .slice a row.length c ∧ row.length ≤ c ∧ c ≤ maxLen ∧ (row ≠ [] → a = some ⟨b, filled * 6, none⟩)
def OpM : List Lev → List (List Tm) → List Value → Prop
  | [], [], [] => True
  | (b, done, _) :: M, row :: R, y :: ys => OpenV b (done.length + 1) row y ∧ OpM M R ys
  | _, _, _ => False
theorem OpM.len : ∀ {M : List Lev} {R : List (List Tm)} {ys : List Value}, OpM M R ys → ys.length = R.length
  | [], [], [], _ => rfl
  | (_, _, _) :: M, _ :: R, _ :: ys, h => by simp [OpM.len h.2]
  | [], [], _ :: _, h => h.elim
  | [], _ :: _, _, h => h.elim
  | (_, _, _) :: _, [], _, h => h.elim
  | (_, _, _) :: _, _ :: _, [], h => h.elim
theorem Lvs.pops {s : Int → Tm} {w : World} {rb : Nat} : ∀ (E : List (List Tm)) {X : Nat → Prop} {b : Nat} {done row : List Tm} {M : List Lev} {R : List (List Tm)} {y : Value} {ys : List Value} {r0 : List Tm} {T : List (List Tm)}, (∀ x ∈ E, x = []) → row :: R = E ++ r0 :: T →
    Lvs X w rb b done row M R → OpenV b done.length row y → OpM M R ys →
    ∃ X' b' done' M' y' ys', Lvs X' w rb b' done' r0 M' T ∧ OpenV b' done'.length r0 y' ∧ OpM M' T ys' ∧ (y :: ys).drop E.length = y' :: ys' ∧ (∀ k, X' k → X k) ∧ (∀ k, X k → k ∉ b :: M.map (·.1) → X' k) ∧ (∀ k ∈ b' :: M'.map (·.1), k ∈ b :: M.map (·.1)) ∧
      close s (done' ++ subL s r0) M' T = close s (done ++ subL s row) M R
  | [], X, b, done, row, M, R, y, ys, r0, T, _, he, h, hy, hys => by
    simp only [List.nil_append, List.cons.injEq] at he
    obtain ⟨rfl, rfl⟩ := he
    exact ⟨X, b, done, M, y, ys, h, hy, hys, rfl, fun _ => id, fun _ h _ => h, fun _ => id, rfl⟩
  | e :: E, X, b, done, row, M, R, y, ys, r0, T, hE, he, h, hy, hys => by
    have e0 : e = [] := hE e (by simp)
    subst e0
    simp only [List.cons_append, List.cons.injEq] at he
    obtain ⟨rfl, rfl⟩ := he
    obtain ⟨row1, R1, hR⟩ : ∃ row1 R1, E ++ r0 :: T = row1 :: R1 := by
      cases hh : E ++ r0 :: T with
      | nil => simp at hh
      | cons a l => exact ⟨a, l, rfl⟩
    rw [hR] at h hys ⊢
    match M, ys, h, hys with
    | (b1, done1, nm) :: M, y1 :: ys, h, hys =>
      obtain ⟨X', b', done', M', y', ys', g1, g2, g3, g4, g5, g6, g7, g8⟩ := Lvs.pops (s := s) E (y := y1) (ys := ys) (r0 := r0) (T := T) (fun x hx => hE x (by simp [hx])) hR.symm h.pop (by simpa using hys.1) hys.2
      refine ⟨X', b', done', M', y', ys', g1, g2, g3, by simpa using g4, fun k hk => (g5 k hk).1, fun k h1 h2 => ?_, fun k hk => ?_, ?_⟩
      · simp only [List.map_cons, List.mem_cons, not_or] at h2
        exact g6 k ⟨h1, h2.1⟩ (by simp only [List.mem_cons, not_or]; exact h2.2)
      · have := g7 k hk
        simp only [List.map_cons, List.mem_cons] at this ⊢
        exact Or.inr this
      · rw [g8]
        simp [close, subL]
    | [], ys, h, hys => exact h.mids.elim
    | (_, _, _) :: _, [], h, hys => exact hys.elim
/-- ALL that a round knows: levels, open places, what will come of it -/
structure LayS (B r : Nat) (Z : Nat → Prop) (s : Int → Tm) (res : Tm) (X : Nat → Prop) (w : World) (rb og oc n b : Nat) (done row : List Tm) (M : List Lev) (R : List (List Tm)) (y : Value) (ys : List Value) : Prop where
  lvs : Lvs X w rb b done row M R
  openv : OpenV b done.length row y
  opm : OpM M R ys
  own : w.ownsRow B 25 1 (.slice (some ⟨og, 0, none⟩) n oc) n (ys.reverse ++ [y])
  res : close s (done ++ subL s row) M R = [res]
  hog : X og
  ogn : og ∉ b :: M.map (·.1)
  off : ∀ k, X k → Z k ∨ Off B r k
  hz : ∀ k, Z k → X k ∧ k < B
  lvo : ∀ k ∈ b :: M.map (·.1), B ≤ k
theorem LayS.keep {B r : Nat} {Z : Nat → Prop} {s : Int → Tm} {res : Tm} {X Y G : Nat → Prop} {w w' : World} {rb og oc n b : Nat} {done row : List Tm} {M : List Lev} {R : List (List Tm)} {y : Value} {ys : List Value} (h : LayS B r Z s res X w rb og oc n b done row M R y ys)
    (hk : Keep G w w') (hG : ∀ k, G k → X k) (hd : ∀ k ∈ b :: M.map (·.1), ¬ G k) (hog : ¬ G og) (hY : ∀ k, k < w.heap.size → Y k → X k) (hXY : ∀ k, X k → k < w.heap.size → Y k) (hoff : ∀ k, Y k → Z k ∨ Off B r k) : LayS B r Z s res Y w' rb og oc n b done row M R y ys := by
  have hol : og < w.heap.size := (h.own.lt _ rfl).2
  refine ⟨h.lvs.keep hk hG (fun k hm => ⟨hd k hm, hXY k (h.lvs.mem k hm).1 (h.lvs.mem k hm).2⟩) hY, h.openv, h.opm, own_keep h.own (hk.block og hol hog), h.res, hXY og h.hog hol, h.ogn, hoff, fun k hk => ⟨hXY k (h.hz k hk).1 (by have := (h.hz k hk).2; have := (h.own.lt og rfl).1; omega), (h.hz k hk).2⟩, h.lvo⟩
/-- the open rows, from the root's on -/
def Lay (B r : Nat) (Z : Nat → Prop) (s : Int → Tm) (res : Tm) (X : Nat → Prop) (w : World) (rb og oc : Nat) (R : List (List Tm)) (lv : List Nat) : Prop :=
  ∃ b done row M T y ys, R.reverse = row :: T ∧ lv = b :: M.map (·.1) ∧ LayS B r Z s res X w rb og oc R.length b done row M T y ys
theorem own_at {w : World} {B e g n c : Nat} {ys : List Value} {y : Value} (ho : w.ownsRow B e 1 (.slice (some ⟨g, 0, none⟩) n c) n (ys.reverse ++ [y])) {j : Nat} {zs : List Value} {y' : Value} (hd : (y :: ys).drop j = y' :: zs) :
    (ys.reverse ++ [y])[zs.length]? = some y' ∧ zs.length < n ∧ zs.length + 1 + j = n ∧ (ys.reverse ++ [y]).take zs.length = zs.reverse := by
  have hl := ho.1
  simp only [List.length_append, List.length_reverse, List.length_singleton, Nat.mul_one] at hl
  have e : ys.reverse ++ [y] = (y :: ys).reverse := by simp
  have h2 := congrArg List.length hd
  simp only [List.length_drop, List.length_cons] at h2
  have hsp : (y :: ys) = (y :: ys).take j ++ (y' :: zs) := by rw [← hd, List.take_append_drop]
  have hr : (y :: ys).reverse = zs.reverse ++ (y' :: ((y :: ys).take j).reverse) := by
    conv => lhs; rw [hsp]
    simp
  refine ⟨?_, by omega, by omega, ?_⟩
  · rw [e, hr, List.getElem?_append_right (by simp)]; simp
  · rw [e, hr, List.take_append_of_le_length (by simp), List.take_of_length_le (by simp)]
/-- the next node is met: what its place is, and what is left when it has been taken off -/
theorem Lay.take {B r : Nat} {Z : Nat → Prop} {s : Int → Tm} {res t : Tm} {X : Nat → Prop} {w : World} {rb og oc : Nat} {R0 E : List (List Tm)} {row : List Tm} {lv : List Nat} (h : Lay B r Z s res X w rb og oc (R0 ++ (t :: row) :: E) lv) (hE : ∀ x ∈ E, x = []) :
    ∃ X' b done M ys c, w.cell? ⟨og, R0.length, none⟩ = some (.slice (some ⟨b, done.length * 6, none⟩) (row.length + 1) c) ∧ w.frozen? ⟨og, R0.length, none⟩ = false ∧ row.length + 1 ≤ c ∧ c ≤ maxLen ∧ R0.length + 1 ≤ oc ∧
      (∀ k, X' k → X k) ∧ (∀ k, X k → k ∉ lv → X' k) ∧ (∀ k ∈ b :: M.map (·.1), k ∈ lv) ∧ og < w.heap.size ∧
      ∀ y, OpenV b (done.length + 1) row y → ∀ w1, w1 = w.setCell ⟨og, R0.length, none⟩ y → 
        Lvs X' w1 rb b done (t :: row) M R0.reverse ∧ OpM M R0.reverse ys ∧ w1.ownsRow B 25 1 (.slice (some ⟨og, 0, none⟩) (R0.length + 1) oc) (R0.length + 1) (ys.reverse ++ [y]) ∧ close s (done ++ subL s (t :: row)) M R0.reverse = [res] ∧ X' og ∧ og ∉ b :: M.map (·.1) := by
  obtain ⟨b, done, rw0, M, T, y, ys, hR, rfl, hl⟩ := h
  have hrev : rw0 :: T = E.reverse ++ (t :: row) :: R0.reverse := by rw [← hR]; simp
  obtain ⟨X', b', done', M', y', ys', g1, g2, g3, g4, g5, g6, g7, g8⟩ := Lvs.pops (s := s) E.reverse (fun x hx => hE x (by simpa using hx)) hrev hl.lvs hl.openv hl.opm
  obtain ⟨a, c, rfl, hc1, hc2, ha⟩ := g2
  have ha' := ha (by simp)
  subst ha'
  have hlen := g3.len
  simp only [List.length_reverse] at hlen
  obtain ⟨o1, o2, o3, o4⟩ := own_at hl.own g4
  rw [hlen] at o1 o2 o3 o4
  obtain ⟨c1, c2, c3, c4, c5⟩ := own_cell hl.own o2
  have hol : og < w.heap.size := c3
  refine ⟨X', b', done', M', ys', c, c1.trans (by simpa using o1), c2, by simpa using hc1, hc2, by omega, g5, g6, g7, hol, fun y hy w1 hw1 => ?_⟩
  have hX' : X' og := g6 og hl.hog hl.ogn
  have hogn : og ∉ b' :: M'.map (·.1) := fun hm => hl.ogn (g7 og hm)
  have k1 : Keep (fun k => k = og) w w1 := by rw [hw1]; exact Keep.setCell (F := fun k => k = og) (p := ⟨og, R0.length, none⟩) w rfl y
  refine ⟨g1.keep k1 (fun k e => e ▸ hX') (fun k hk => ⟨fun e => hogn (e ▸ hk), (g1.mem k hk).1⟩) (fun _ _ => id), g3, ?_, by rw [g8]; exact hl.res, hX', hogn⟩
  rw [hw1]
  have := own_set (y := y) hl.own o2
  rwa [o4] at this
/-- at the end: the root's place holds what was to come -/
theorem Lay.last {B r : Nat} {Z : Nat → Prop} {s : Int → Tm} {res : Tm} {X : Nat → Prop} {w : World} {rb og oc : Nat} {R : List (List Tm)} {lv : List Nat} (h : Lay B r Z s res X w rb og oc R lv) (hE : ∀ x ∈ R, x = []) {rv : Nat} (hX : X rv) (hrl : rv ∉ lv) :
    ∃ v0 v1 v2 v3 v4 v5, Six w rb 0 v0 v1 v2 v3 v4 v5 ∧ Lies (fun k => k = rv ∨ Z k) w res (.agg #[v0, v1, v2, v3, v4, v5]) := by
  obtain ⟨b, done, rw0, M, T, y, ys, hR, rfl, hl⟩ := h
  have hRl : R ≠ [] := by intro e; subst e; simp at hR
  obtain ⟨E, r0, hsp⟩ : ∃ (E : List (List Tm)) (r0 : List Tm), rw0 :: T = E ++ [r0] := by
    exact ⟨(rw0 :: T).dropLast, (rw0 :: T).getLast (by simp), (List.dropLast_concat_getLast (by simp)).symm⟩
  have hall : ∀ x ∈ rw0 :: T, x = [] := fun x hx => hE x (by rw [← hR] at hx; simpa using hx)
  have hr0 : r0 = [] := hall r0 (by rw [hsp]; simp)
  subst hr0
  obtain ⟨X', b', done', M', y', ys', g1, g2, g3, g4, g5, g6, g7, g8⟩ := Lvs.pops (s := s) E (fun x hx => hall x (by rw [hsp]; simp [hx])) hsp hl.lvs hl.openv hl.opm
  have hM : M' = [] := List.eq_nil_of_length_eq_zero (by simpa using g1.mids.len)
  subst hM
  rw [hl.res] at g8
  simp only [close, subL, List.append_nil] at g8
  subst g8
  obtain ⟨hb, hn⟩ := g1.mids
  subst hb
  obtain ⟨_, hf, _⟩ := g1.top
  obtain ⟨⟨v0, v1, v2, v3, v4, v5, h6, ht⟩, _⟩ := hf
  exact ⟨v0, v1, v2, v3, v4, v5, by simpa using h6, ht.off fun k _ h => h.elim (fun e => e ▸ g6 _ hX hrl) fun h => g6 k (hl.hz k h).1 fun hm => by have := hl.lvo k hm; have := (hl.hz k h).2; omega⟩
/-- slicing off the first of open places -/
theorem slice_run (b o n c : Nat) (hc : n + 1 ≤ c) : ∃ a', (c ≠ 1 → a' = some ⟨b, o + 6, none⟩) ∧ ∀ w', (Instr.slice 25 (.slice (some ⟨b, o, none⟩) (n + 1) c) (some (.int .i64 1)) none none).run Tryz.prog w' = .ok (.slice a' n (c - 1)) w' := by
  refine ⟨if c = 1 then some ⟨b, o, none⟩ else some ⟨b, o + 6, none⟩, fun h => if_neg h, fun w' => ?_⟩
  have he : Tryz.prog.elem 25 = 27 := by kernel_rfl
  have hz : (sizeOf 27).run Tryz.prog w' = .ok 6 w' := by kernel_rfl
  rw [run_slice_l w' 25 _ _ _ (by rw [he]; exact Tryz.underlying25) _ _ (by omega) (by omega), he, hz]
  simp only [Result.andThen, sliced]
  by_cases e : c = 1
  · subst e
    have : n = 0 := by omega
    subst this
    rfl
  · have e' : ¬ c = (1 : Int).toNat := e
    rw [if_neg e, if_neg e']
    simp [Addr.add]
theorem open_tail {b filled n c : Nat} {row : List Tm} {a' : Option Addr} (hn : n = row.length) (hc : n + 1 ≤ c) (hm : c ≤ maxLen) (ha : c ≠ 1 → a' = some ⟨b, filled * 6 + 6, none⟩) : OpenV b (filled + 1) row (.slice a' n (c - 1)) := by
  subst hn
  refine ⟨a', c - 1, rfl, by omega, by omega, fun hne => ?_⟩
  have : 0 < row.length := List.length_pos_iff.2 hne
  rw [ha (by omega), show (filled + 1) * 6 = filled * 6 + 6 by omega]
end Go.Proofs.YtedbcmagjbgbjaaGreatDoor.lay
namespace Go.Proofs.YtedbcmagjbgbjaaGreatDoor.rws
set_option linter.unusedVariables false
open Go.ChangeShapes Go.WideShapes Go.ChangeAt Go.RowKit
open Go.Proofs.YtedbcmagjbgbjaaGreatDoor.tm Go.Proofs.YtedbcmagjbgbjaaGreatDoor.lie Go.Proofs.YtedbcmagjbgbjaaGreatDoor.kp Go.Proofs.YtedbcmagjbgbjaaGreatDoor.wlk Go.Proofs.YtedbcmagjbgbjaaGreatDoor.cur Go.Proofs.YtedbcmagjbgbjaaGreatDoor.lev Go.Proofs.YtedbcmagjbgbjaaGreatDoor.lay Go.Proofs.YtedbcmagjbgbjaaGreatDoor.pln
theorem flat_step {R0 E : List (List Tm)} {t : Tm} {row : List Tm} (hE : ∀ x ∈ E, x = []) : flat (R0 ++ (t :: row) :: E) = (t, R0.length + 1) :: flat (R0 ++ [row] ++ kids t) := by
  have h : (R0 ++ (t :: row) :: E).reverse = E.reverse ++ (t :: row) :: R0.reverse := by simp
  rw [flat, h, flatR_empty (fun x hx => hE x (by simpa using hx)), flatR_kids]
  simp [flat]
theorem flat_none {R : List (List Tm)} (h : ∀ x ∈ R, x = []) : flat R = [] := by
  have := flatR_empty (S := R.reverse) (fun x hx => h x (by simpa using hx)) []
  simpa [flat, flatR] using this
def AfterR (B r : Nat) (R : List (List Tm)) (p : Nat) (F : Nat → Prop) (w : World) (k0 : Int) (n0 : ByteArray) (i0 re0 im0 : Int) (a0 : Option Addr) (l0 c0 : Nat) (d : Int) (b : Bool) (w' : World) : Prop :=
  Keep F w w' ∧ (((∀ x ∈ R, x = []) ∧ b = false) ∨ ∃ R0 E t row F', R = R0 ++ (t :: row) :: E ∧ (∀ x ∈ E, x = []) ∧ d = (R0.length + 1 : Nat) ∧ b = true ∧ Lies (Off B r) w' t (.agg #[.int .i64 k0, .string n0, .int .i64 i0, .int .u64 re0, .int .u64 im0, .slice a0 l0 c0]) ∧
    TWay B r w' p F' (R0 ++ [row] ++ kids t) ∧ ∀ i, F' i → F i ∨ w.heap.size ≤ i)
def NextR (B r : Nat) (R : List (List Tm)) (p : Nat) (F : Nat → Prop) (w : World) (e : Ending) (w' : World) : Prop :=
  ∃ k0 n0 i0 re0 im0 a0 l0 c0 d b, e = .returned (.tuple #[.agg #[.int .i64 k0, .string n0, .int .i64 i0, .int .u64 re0, .int .u64 im0, .slice a0 l0 c0], .int .i64 d, .bool b]) ∧ AfterR B r R p F w k0 n0 i0 re0 im0 a0 l0 c0 d b w'
theorem next_rows (B r : Nat) (w : World) (p : Nat) (F : Nat → Prop) (R : List (List Tm)) (h : TWay B r w p F R) (h9 : R.length ≤ 1000) (hr : r < w.heap.size) :
    Calls Tryz.prog 135 #[.pointer (some ⟨p, 0, none⟩)] w (NextR B r R p F w) := by
  rcases flat_cases R with ⟨h0, hR⟩ | ⟨R0, E, t, row, rfl, hE, hL⟩
  · refine (next_none B r w p F R h hR h9).mono fun e w' ⟨he, hk⟩ => ?_
    exact ⟨_, _, _, _, _, _, _, _, _, _, he, hk, Or.inl ⟨hR, rfl⟩⟩
  · have hl : (R0 ++ (t :: row) :: E).length = R0.length + 1 + E.length := by simp; omega
    refine (next_some B r w p F R0 E t row h hE (by omega) hr).mono fun e w' ⟨v, he, hv, F', hw, hk, hF⟩ => ?_
    have hv' := hv
    obtain ⟨k, n, i, re, im, l⟩ := t
    rw [Lies] at hv'
    obtain ⟨a, c, rfl, _⟩ := hv'
    exact ⟨_, _, _, _, _, _, _, _, _, _, he, hk, Or.inr ⟨_, _, _, _, F', rfl, hE, rfl, rfl, hv, hw, hF⟩⟩
/-- what six cells of a term look like -/
theorem lies_form {X : Nat → Prop} {w : World} {t : Tm} {v0 v1 v2 v3 v4 v5 : Value} (h : Lies X w t (.agg #[v0, v1, v2, v3, v4, v5])) :
    ∃ k n i re im l a c, (v0 = .int .i64 k ∧ v1 = .string n ∧ v2 = .int .i64 i ∧ v3 = .int .u64 re ∧ v4 = .int .u64 im ∧ v5 = .slice a l c) ∧ True := by
  obtain ⟨k', n', i', re', im', l⟩ := t
  rw [Lies] at h
  obtain ⟨a', c', hv, hf, hr⟩ := h
  simp only [Value.agg.injEq, Array.mk.injEq, List.cons.injEq, and_true] at hv
  exact ⟨k', n', i', re', im', l.length, a', c', hv, trivial⟩
/-- a term's value tells its parts -/
theorem lies_parts {X : Nat → Prop} {w : World} {t : Tm} {k : Int} {n : ByteArray} {i re im : Int} {a : Option Addr} {len c : Nat} (h : Lies X w t (.agg #[.int .i64 k, .string n, .int .i64 i, .int .u64 re, .int .u64 im, .slice a len c])) :
    ∃ l, t = .mk k n i re im l ∧ l.length = len ∧ Fit k n i re im len c ∧ TRow X w l a 0 := by
  obtain ⟨k', n', i', re', im', l⟩ := t
  rw [Lies] at h
  obtain ⟨a', c', hv, hf, hr⟩ := h
  simp only [Value.agg.injEq, Array.mk.injEq, List.cons.injEq, Value.int.injEq, Value.string.injEq, Value.slice.injEq, and_true, true_and] at hv
  obtain ⟨rfl, rfl, rfl, rfl, rfl, rfl, rfl, rfl⟩ := hv
  exact ⟨l, rfl, rfl, hf, hr⟩
/-- THE STATE of a round: cursor, levels, open places -/
def St (B r : Nat) (Z : Nat → Prop) (s : Int → Tm) (t0 : Tm) (R : List (List Tm)) (p rv : Nat) (w : World) (nb rb og oc : Nat) (k0 : Int) (n0 : ByteArray) (i0 re0 im0 : Int) (a0 : Option Addr) (l0 c0 : Nat) (d : Int) (b : Bool) : Prop :=
  ∃ (X F : Nat → Prop) (lv : List Nat), Lay B r Z s (sub s t0) X w rb og oc R lv ∧ X nb ∧ nb ∉ lv ∧ nb ≠ og ∧ (∀ k, F k → X k ∧ k ∉ lv ∧ k ≠ og ∧ k ≠ nb) ∧ r < w.heap.size ∧ (X rv ∧ rv ∉ lv ∧ rv ≠ og ∧ rv ≠ nb ∧ ¬ F rv) ∧ w.heap[rv]? = some ZT ∧
    w.heap[nb]? = some (.cells #[.int .i64 k0, .string n0, .int .i64 i0, .int .u64 re0, .int .u64 im0, .slice a0 l0 c0] 27 (0, 0)) ∧
    (((∀ x ∈ R, x = []) ∧ b = false) ∨ ∃ R0 E t row, R = R0 ++ (t :: row) :: E ∧ (∀ x ∈ E, x = []) ∧ d = (R0.length + 1 : Nat) ∧ b = true ∧ Lies (Off B r) w t (.agg #[.int .i64 k0, .string n0, .int .i64 i0, .int .u64 re0, .int .u64 im0, .slice a0 l0 c0]) ∧
      TWay B r w p F (R0 ++ [row] ++ kids t))
/-- what holds of each node that is still to come -/
def Sane (t0 : Tm) (R : List (List Tm)) : Prop := ∀ x ∈ flat R, chk x.1 = 0 ∧ x.2 ≤ 500 ∧ (x.1.kind = 1 → x.1.int ∈ occ t0)
theorem sane_start {t : Tm} (h : good t = true) : Sane t [[t]] := by
  have hfl : flat [[t]] = pre 1 t := by simp [flat, flatR, preL]
  intro x hx
  rw [hfl] at hx
  simp only [good, Bool.and_eq_true, decide_eq_true_eq] at h
  obtain ⟨g1, g2, g3, g4⟩ := pre_facts t 1
  refine ⟨g2.2 h.2 x hx, (g4 500).2 (by omega) x hx, fun hk => ?_⟩
  rw [← g3]
  exact List.mem_filterMap.2 ⟨x, hx, by rw [if_pos hk]⟩
theorem Sane.step {t0 t : Tm} {R0 E : List (List Tm)} {row : List Tm} (h : Sane t0 (R0 ++ (t :: row) :: E)) (hE : ∀ x ∈ E, x = []) : Sane t0 (R0 ++ [row] ++ kids t) := by
  intro x hx
  exact h x (by rw [flat_step hE]; exact List.mem_cons_of_mem _ hx)
theorem Sane.here {t0 t : Tm} {R0 E : List (List Tm)} {row : List Tm} (h : Sane t0 (R0 ++ (t :: row) :: E)) (hE : ∀ x ∈ E, x = []) : chk t = 0 ∧ R0.length + 1 ≤ 500 ∧ (t.kind = 1 → t.int ∈ occ t0) :=
  h (t, R0.length + 1) (by rw [flat_step hE]; simp)
theorem chk_kind {k : Int} {n : ByteArray} {i re im : Int} {l : List Tm} (h : chk (.mk k n i re im l) = 0) : k = 1 ∨ k = 2 ∨ k = 3 ∨ k = 4 ∨ (k = 5 ∧ 0 < l.length ∧ l.length ≤ 20 ∧ n.size ≤ 200) := by
  simp only [chk] at h
  by_cases h1 : k = 1; · exact Or.inl h1
  by_cases h2 : k = 2; · exact Or.inr (Or.inl h2)
  by_cases h3 : k = 3; · exact Or.inr (Or.inr (Or.inl h3))
  by_cases h4 : k = 4; · exact Or.inr (Or.inr (Or.inr (Or.inl h4)))
  by_cases h5 : k = 5
  · refine Or.inr (Or.inr (Or.inr (Or.inr ⟨h5, ?_⟩)))
    rw [if_neg h1, if_neg h2, if_neg h3, if_neg h4, if_pos h5] at h
    by_cases g1 : l.length = 0; · rw [if_pos g1] at h; cases h
    by_cases g2 : 20 < l.length; · rw [if_neg g1, if_pos g2] at h; cases h
    by_cases g3 : 200 < n.size; · rw [if_neg g1, if_neg g2, if_pos g3] at h; cases h
    omega
  · rw [if_neg h1, if_neg h2, if_neg h3, if_neg h4, if_neg h5] at h; cases h
/-- a new root, a new stack of open places -/
theorem St.start {r p : Nat} {Z : Nat → Prop} {s : Int → Tm} {t : Tm} {w w0 w1 w2 : World} {o : Obj} {F : Nat → Prop} {k0 : Int} {n0 : ByteArray} {i0 re0 im0 : Int} {a0 : Option Addr} {l0 c0 : Nat} {d : Int} {b : Bool}
    (hZ : ∀ k, Z k → k < w.heap.size) (hw0 : w0 = (((w.alloc o).alloc ZT).alloc (.cells (MC 1) 27)).alloc (.cells #[.slice (some ⟨w.heap.size + 1 + 1, 0, none⟩) 1 1] 25)) (hb : Below w0.heap.size w0 w1) (hW : TWay w.heap.size r w1 p F [[t]]) (hF : ∀ k, F k → w0.heap.size ≤ k) (hr : w0.heap.size ≤ r) (hr1 : r < w1.heap.size)
    (hA : AfterR w.heap.size r [[t]] p F w1 k0 n0 i0 re0 im0 a0 l0 c0 d b w2) :
    St w.heap.size r Z s t [[t]] p (w.heap.size + 1) (w2.alloc (.cells #[.int .i64 k0, .string n0, .int .i64 i0, .int .u64 re0, .int .u64 im0, .slice a0 l0 c0] 27)) w2.heap.size (w.heap.size + 1 + 1) (w.heap.size + 1 + 1 + 1) 1 k0 n0 i0 re0 im0 a0 l0 c0 d b ∧
    Below w.heap.size w (w2.alloc (.cells #[.int .i64 k0, .string n0, .int .i64 i0, .int .u64 re0, .int .u64 im0, .slice a0 l0 c0] 27)) := by
  obtain ⟨hk, hA⟩ := hA
  have s0 : w0.heap.size = w.heap.size + 4 := by rw [hw0]; simp only [alloc_size]
  have s1 := hb.size
  have s2 := hk.size
  have hold : ∀ q, q < w0.heap.size → (w2.alloc (.cells #[.int .i64 k0, .string n0, .int .i64 i0, .int .u64 re0, .int .u64 im0, .slice a0 l0 c0] 27)).heap[q]? = w0.heap[q]? := fun q hq => by
    rw [(ba w2 _).block q (by omega), hk.block q (by omega) (fun h => by have := hF q h; omega), hb.block q hq]
  have at0 : w0.heap[w.heap.size + 1]? = some ZT := by
    have hh := fun (w : World) (o : Obj) (n : Nat) (h : n = w.heap.size) => (h ▸ alloc_at w o : (w.alloc o).heap[n]? = some o)
    rw [hw0, (ba _ _).block _ (by simp only [alloc_size]; omega), (ba _ _).block _ (by simp only [alloc_size]; omega)]
    exact hh _ _ _ (by rw [alloc_size])
  have at1 : w0.heap[w.heap.size + 1 + 1]? = some (.cells (MC 1) 27 (0, 0)) := by
    have hh := fun (w : World) (o : Obj) (n : Nat) (h : n = w.heap.size) => (h ▸ alloc_at w o : (w.alloc o).heap[n]? = some o)
    rw [hw0, (ba _ _).block _ (by simp only [alloc_size]; omega)]
    exact hh _ _ _ (by simp only [alloc_size])
  have at2 : w0.heap[w.heap.size + 1 + 1 + 1]? = some (.cells #[.slice (some ⟨w.heap.size + 1 + 1, 0, none⟩) 1 1] 25 (0, 0)) := by
    have hh := fun (w : World) (o : Obj) (n : Nat) (h : n = w.heap.size) => (h ▸ alloc_at w o : (w.alloc o).heap[n]? = some o)
    rw [hw0]
    exact hh _ _ _ (by simp only [alloc_size])
  have hb0 : Below w.heap.size w w0 := by rw [hw0]; exact bt (bt (bt (ba w _) (ba _ _)) (ba _ _)) (ba _ _)
  have hbB := (hb0.trans (hb.mono (by omega))).trans ((hk.to_below (fun i h => by have := hF i h; omega) (by omega) : Below w.heap.size w1 w2))
  refine ⟨?_, hbB.trans ((ba w2 _).mono (by omega))⟩
  have key : ∀ (F' : Nat → Prop), (∀ k, F' k → w0.heap.size ≤ k ∧ k ≠ r ∧ k < w2.heap.size) → (((∀ x ∈ [[t]], x = []) ∧ b = false) ∨ ∃ R0 E t' row, [[t]] = R0 ++ (t' :: row) :: E ∧ (∀ x ∈ E, x = []) ∧ d = (R0.length + 1 : Nat) ∧ b = true ∧
      Lies (Off w.heap.size r) (w2.alloc (.cells #[.int .i64 k0, .string n0, .int .i64 i0, .int .u64 re0, .int .u64 im0, .slice a0 l0 c0] 27)) t' (.agg #[.int .i64 k0, .string n0, .int .i64 i0, .int .u64 re0, .int .u64 im0, .slice a0 l0 c0]) ∧
      TWay w.heap.size r (w2.alloc (.cells #[.int .i64 k0, .string n0, .int .i64 i0, .int .u64 re0, .int .u64 im0, .slice a0 l0 c0] 27)) p F' (R0 ++ [row] ++ kids t')) →
      St w.heap.size r Z s t [[t]] p (w.heap.size + 1) (w2.alloc (.cells #[.int .i64 k0, .string n0, .int .i64 i0, .int .u64 re0, .int .u64 im0, .slice a0 l0 c0] 27)) w2.heap.size (w.heap.size + 1 + 1) (w.heap.size + 1 + 1 + 1) 1 k0 n0 i0 re0 im0 a0 l0 c0 d b := by
    intro F' hF' hd
    refine ⟨fun k => Z k ∨ (w.heap.size + 1 ≤ k ∧ k ≠ r), F', [w.heap.size + 1 + 1], ⟨w.heap.size + 1 + 1, [], [t], [], [], .slice (some ⟨w.heap.size + 1 + 1, 0, none⟩) 1 1, [], by simp, rfl, ?_⟩, Or.inr ⟨by omega, by omega⟩, by simp; omega, by omega, fun k hk => ?_, by rw [alloc_size]; omega, ⟨Or.inr ⟨by omega, by omega⟩, by simp, by omega, by omega, fun h => by have := hF' _ h; omega⟩, ?_, alloc_at _ _, hd⟩
    · refine ⟨⟨⟨Or.inr ⟨by omega, by omega⟩, trivial, MC 1, (hold _ (by omega)).trans at1, by rw [MC_size]; rfl⟩, ⟨rfl, rfl⟩, by simp⟩, ⟨some ⟨w.heap.size + 1 + 1, 0, none⟩, 1, rfl, by simp, by simp [maxLen], fun _ => rfl⟩, trivial, ?_, rfl, Or.inr ⟨by omega, by omega⟩, by simp, fun k hk => hk.imp id fun hk => ⟨by omega, hk.2⟩, fun k hk => ⟨Or.inl hk, hZ k hk⟩, fun k hk => by simp at hk; omega⟩
      refine ⟨rfl, Or.inr ⟨_, 1, _, rfl, by omega, (hold _ (by omega)).trans at2, by simp, by simp [maxLen], rfl, rfl⟩⟩
    · have h1 := hF' k hk
      refine ⟨Or.inr ⟨by omega, h1.2.1⟩, by simp; omega, by omega, by omega⟩
    · rw [hold _ (by omega)]; exact at0
  rcases hA with ⟨h1, h2⟩ | ⟨R0, E, t', row, F', hR, hE, hd, hb', hL, hW', hF'⟩
  · exact key F (fun k h => by have := hF k h; have := hW.lt k h; omega) (Or.inl ⟨h1, h2⟩)
  · refine key F' (fun k h => ?_) (Or.inr ⟨R0, E, t', row, hR, hE, hd, hb', hL.below (ba _ _), hW'.keep (G := No) (Keep.of_below (ba _ _)) (fun _ _ => id) (fun _ h => h.elim)⟩)
    have h3 := hW'.lt k h
    rcases hF' k h with h4 | h4
    · have := hF k h4; omega
    · omega
end Go.Proofs.YtedbcmagjbgbjaaGreatDoor.rws
