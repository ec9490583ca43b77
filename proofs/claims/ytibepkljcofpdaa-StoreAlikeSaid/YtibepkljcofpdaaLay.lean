/- The open places of a term that is being laid: the stack of slices beside the levels. -/
import Derived.Test.YtibepkljcofpdaaLev
namespace Go.Proofs.Ytibepkljcofpdaa.lay
set_option linter.unusedVariables false
open Go.ChangeShapes Go.WideShapes Go.ChangeAt Go.RowKit
open Go.Proofs.Ytibepkljcofpdaa.tm Go.Proofs.Ytibepkljcofpdaa.lie Go.Proofs.Ytibepkljcofpdaa.kp Go.Proofs.Ytibepkljcofpdaa.wlk Go.Proofs.Ytibepkljcofpdaa.cur Go.Proofs.Ytibepkljcofpdaa.lev
/-- the open places of a level, as a slice -/
def OpenV (b filled : Nat) (row : List Tm) (y : Value) : Prop := ∃ a c, y = .slice a row.length c ∧ row.length ≤ c ∧ c ≤ maxLen ∧ (row ≠ [] → a = some ⟨b, filled * 6, none⟩)
def OpM : List Lev → List (List Tm) → List Value → Prop
  | [], [], [] => True
  | (b, done, _) :: M, row :: R, y :: ys => OpenV b (done.length + 1) row y ∧ OpM M R ys
  | _, _, _ => False
theorem OpM.len : ∀ {M : List Lev} {R : List (List Tm)} {ys : List Value}, OpM M R ys → ys.length = R.length
  | [], [], [], _ => rfl
  | (_, _, _) :: M, _ :: R, _ :: ys, h => by simp [OpM.len h.2]
  | [], [], _ :: _, h => h.elim
  | [], _ :: _, _, h => h.elim
  | (_, _, _) :: _, [], _, h => h.elim
  | (_, _, _) :: _, _ :: _, [], h => h.elim
theorem Lvs.pops {s : Int → Tm} {w : World} {rb : Nat} : ∀ (E : List (List Tm)) {X : Nat → Prop} {b : Nat} {done row : List Tm} {M : List Lev} {R : List (List Tm)} {y : Value} {ys : List Value} {r0 : List Tm} {T : List (List Tm)}, (∀ x ∈ E, x = []) → row :: R = E ++ r0 :: T →
    Lvs X w rb b done row M R → OpenV b done.length row y → OpM M R ys →
    ∃ X' b' done' M' y' ys', Lvs X' w rb b' done' r0 M' T ∧ OpenV b' done'.length r0 y' ∧ OpM M' T ys' ∧ (y :: ys).drop E.length = y' :: ys' ∧ (∀ k, X' k → X k) ∧ (∀ k, X k → k ∉ b :: M.map (·.1) → X' k) ∧ (∀ k ∈ b' :: M'.map (·.1), k ∈ b :: M.map (·.1)) ∧
      close s (done' ++ subL s r0) M' T = close s (done ++ subL s row) M R
  | [], X, b, done, row, M, R, y, ys, r0, T, _, he, h, hy, hys => by
    simp only [List.nil_append, List.cons.injEq] at he
    obtain ⟨rfl, rfl⟩ := he
    exact ⟨X, b, done, M, y, ys, h, hy, hys, rfl, fun _ => id, fun _ h _ => h, fun _ => id, rfl⟩
  | e :: E, X, b, done, row, M, R, y, ys, r0, T, hE, he, h, hy, hys => by
    have e0 : e = [] := hE e (by simp)
    subst e0
    simp only [List.cons_append, List.cons.injEq] at he
    obtain ⟨rfl, rfl⟩ := he
    obtain ⟨row1, R1, hR⟩ : ∃ row1 R1, E ++ r0 :: T = row1 :: R1 := by
      cases hh : E ++ r0 :: T with
      | nil => simp at hh
      | cons a l => exact ⟨a, l, rfl⟩
    rw [hR] at h hys ⊢
    match M, ys, h, hys with
    | (b1, done1, nm) :: M, y1 :: ys, h, hys =>
      obtain ⟨X', b', done', M', y', ys', g1, g2, g3, g4, g5, g6, g7, g8⟩ := Lvs.pops (s := s) E (y := y1) (ys := ys) (r0 := r0) (T := T) (fun x hx => hE x (by simp [hx])) hR.symm h.pop (by simpa using hys.1) hys.2
      refine ⟨X', b', done', M', y', ys', g1, g2, g3, by simpa using g4, fun k hk => (g5 k hk).1, fun k h1 h2 => ?_, fun k hk => ?_, ?_⟩
      · simp only [List.map_cons, List.mem_cons, not_or] at h2
        exact g6 k ⟨h1, h2.1⟩ (by simp only [List.mem_cons, not_or]; exact h2.2)
      · have := g7 k hk
        simp only [List.map_cons, List.mem_cons] at this ⊢
        exact Or.inr this
      · rw [g8]
        simp [close, subL]
    | [], ys, h, hys => exact h.mids.elim
    | (_, _, _) :: _, [], h, hys => exact hys.elim
/-- ALL that a round knows: levels, open places, what will come of it -/
structure LayS (B r : Nat) (Z : Nat → Prop) (s : Int → Tm) (res : Tm) (X : Nat → Prop) (w : World) (rb og oc n b : Nat) (done row : List Tm) (M : List Lev) (R : List (List Tm)) (y : Value) (ys : List Value) : Prop where
  lvs : Lvs X w rb b done row M R
  openv : OpenV b done.length row y
  opm : OpM M R ys
  own : w.ownsRow B 22 1 (.slice (some ⟨og, 0, none⟩) n oc) n (ys.reverse ++ [y])
  res : close s (done ++ subL s row) M R = [res]
  hog : X og
  ogn : og ∉ b :: M.map (·.1)
  off : ∀ k, X k → Z k ∨ Off B r k
  hz : ∀ k, Z k → X k ∧ k < B
  lvo : ∀ k ∈ b :: M.map (·.1), B ≤ k
theorem LayS.keep {B r : Nat} {Z : Nat → Prop} {s : Int → Tm} {res : Tm} {X Y G : Nat → Prop} {w w' : World} {rb og oc n b : Nat} {done row : List Tm} {M : List Lev} {R : List (List Tm)} {y : Value} {ys : List Value} (h : LayS B r Z s res X w rb og oc n b done row M R y ys)
    (hk : Keep G w w') (hG : ∀ k, G k → X k) (hd : ∀ k ∈ b :: M.map (·.1), ¬ G k) (hog : ¬ G og) (hY : ∀ k, k < w.heap.size → Y k → X k) (hXY : ∀ k, X k → k < w.heap.size → Y k) (hoff : ∀ k, Y k → Z k ∨ Off B r k) : LayS B r Z s res Y w' rb og oc n b done row M R y ys := by
  have hol : og < w.heap.size := (h.own.lt _ rfl).2
  refine ⟨h.lvs.keep hk hG (fun k hm => ⟨hd k hm, hXY k (h.lvs.mem k hm).1 (h.lvs.mem k hm).2⟩) hY, h.openv, h.opm, own_keep h.own (hk.block og hol hog), h.res, hXY og h.hog hol, h.ogn, hoff, fun k hk => ⟨hXY k (h.hz k hk).1 (by have := (h.hz k hk).2; have := (h.own.lt og rfl).1; omega), (h.hz k hk).2⟩, h.lvo⟩
/-- the open rows, from the root's on -/
def Lay (B r : Nat) (Z : Nat → Prop) (s : Int → Tm) (res : Tm) (X : Nat → Prop) (w : World) (rb og oc : Nat) (R : List (List Tm)) (lv : List Nat) : Prop :=
  ∃ b done row M T y ys, R.reverse = row :: T ∧ lv = b :: M.map (·.1) ∧ LayS B r Z s res X w rb og oc R.length b done row M T y ys
theorem own_at {w : World} {B e g n c : Nat} {ys : List Value} {y : Value} (ho : w.ownsRow B e 1 (.slice (some ⟨g, 0, none⟩) n c) n (ys.reverse ++ [y])) {j : Nat} {zs : List Value} {y' : Value} (hd : (y :: ys).drop j = y' :: zs) :
    (ys.reverse ++ [y])[zs.length]? = some y' ∧ zs.length < n ∧ zs.length + 1 + j = n ∧ (ys.reverse ++ [y]).take zs.length = zs.reverse := by
  have hl := ho.1
  simp only [List.length_append, List.length_reverse, List.length_singleton, Nat.mul_one] at hl
  have e : ys.reverse ++ [y] = (y :: ys).reverse := by simp
  have h2 := congrArg List.length hd
  simp only [List.length_drop, List.length_cons] at h2
  have hsp : (y :: ys) = (y :: ys).take j ++ (y' :: zs) := by rw [← hd, List.take_append_drop]
  have hr : (y :: ys).reverse = zs.reverse ++ (y' :: ((y :: ys).take j).reverse) := by
    conv => lhs; rw [hsp]
    simp
  refine ⟨?_, by omega, by omega, ?_⟩
  · rw [e, hr, List.getElem?_append_right (by simp)]; simp
  · rw [e, hr, List.take_append_of_le_length (by simp), List.take_of_length_le (by simp)]
/-- the next node is met: what its place is, and what is left when it has been taken off -/
theorem Lay.take {B r : Nat} {Z : Nat → Prop} {s : Int → Tm} {res t : Tm} {X : Nat → Prop} {w : World} {rb og oc : Nat} {R0 E : List (List Tm)} {row : List Tm} {lv : List Nat} (h : Lay B r Z s res X w rb og oc (R0 ++ (t :: row) :: E) lv) (hE : ∀ x ∈ E, x = []) :
    ∃ X' b done M ys c, w.cell? ⟨og, R0.length, none⟩ = some (.slice (some ⟨b, done.length * 6, none⟩) (row.length + 1) c) ∧ w.frozen? ⟨og, R0.length, none⟩ = false ∧ row.length + 1 ≤ c ∧ c ≤ maxLen ∧ R0.length + 1 ≤ oc ∧
      (∀ k, X' k → X k) ∧ (∀ k, X k → k ∉ lv → X' k) ∧ (∀ k ∈ b :: M.map (·.1), k ∈ lv) ∧ og < w.heap.size ∧
      ∀ y, OpenV b (done.length + 1) row y → ∀ w1, w1 = w.setCell ⟨og, R0.length, none⟩ y → 
        Lvs X' w1 rb b done (t :: row) M R0.reverse ∧ OpM M R0.reverse ys ∧ w1.ownsRow B 22 1 (.slice (some ⟨og, 0, none⟩) (R0.length + 1) oc) (R0.length + 1) (ys.reverse ++ [y]) ∧ close s (done ++ subL s (t :: row)) M R0.reverse = [res] ∧ X' og ∧ og ∉ b :: M.map (·.1) := by
  obtain ⟨b, done, rw0, M, T, y, ys, hR, rfl, hl⟩ := h
  have hrev : rw0 :: T = E.reverse ++ (t :: row) :: R0.reverse := by rw [← hR]; simp
  obtain ⟨X', b', done', M', y', ys', g1, g2, g3, g4, g5, g6, g7, g8⟩ := Lvs.pops (s := s) E.reverse (fun x hx => hE x (by simpa using hx)) hrev hl.lvs hl.openv hl.opm
  obtain ⟨a, c, rfl, hc1, hc2, ha⟩ := g2
  have ha' := ha (by simp)
  subst ha'
  have hlen := g3.len
  simp only [List.length_reverse] at hlen
  obtain ⟨o1, o2, o3, o4⟩ := own_at hl.own g4
  rw [hlen] at o1 o2 o3 o4
  obtain ⟨c1, c2, c3, c4, c5⟩ := own_cell hl.own o2
  have hol : og < w.heap.size := c3
  refine ⟨X', b', done', M', ys', c, c1.trans (by simpa using o1), c2, by simpa using hc1, hc2, by omega, g5, g6, g7, hol, fun y hy w1 hw1 => ?_⟩
  have hX' : X' og := g6 og hl.hog hl.ogn
  have hogn : og ∉ b' :: M'.map (·.1) := fun hm => hl.ogn (g7 og hm)
  have k1 : Keep (fun k => k = og) w w1 := by rw [hw1]; exact Keep.setCell (F := fun k => k = og) (p := ⟨og, R0.length, none⟩) w rfl y
  refine ⟨g1.keep k1 (fun k e => e ▸ hX') (fun k hk => ⟨fun e => hogn (e ▸ hk), (g1.mem k hk).1⟩) (fun _ _ => id), g3, ?_, by rw [g8]; exact hl.res, hX', hogn⟩
  rw [hw1]
  have := own_set (y := y) hl.own o2
  rwa [o4] at this
/-- at the end: the root's place holds what was to come -/
theorem Lay.last {B r : Nat} {Z : Nat → Prop} {s : Int → Tm} {res : Tm} {X : Nat → Prop} {w : World} {rb og oc : Nat} {R : List (List Tm)} {lv : List Nat} (h : Lay B r Z s res X w rb og oc R lv) (hE : ∀ x ∈ R, x = []) {rv : Nat} (hX : X rv) (hrl : rv ∉ lv) :
    ∃ v0 v1 v2 v3 v4 v5, Six w rb 0 v0 v1 v2 v3 v4 v5 ∧ Lies (fun k => k = rv ∨ Z k) w res (.agg #[v0, v1, v2, v3, v4, v5]) := by
  obtain ⟨b, done, rw0, M, T, y, ys, hR, rfl, hl⟩ := h
  have hRl : R ≠ [] := by intro e; subst e; simp at hR
  obtain ⟨E, r0, hsp⟩ : ∃ (E : List (List Tm)) (r0 : List Tm), rw0 :: T = E ++ [r0] := by
    exact ⟨(rw0 :: T).dropLast, (rw0 :: T).getLast (by simp), (List.dropLast_concat_getLast (by simp)).symm⟩
  have hall : ∀ x ∈ rw0 :: T, x = [] := fun x hx => hE x (by rw [← hR] at hx; simpa using hx)
  have hr0 : r0 = [] := hall r0 (by rw [hsp]; simp)
  subst hr0
  obtain ⟨X', b', done', M', y', ys', g1, g2, g3, g4, g5, g6, g7, g8⟩ := Lvs.pops (s := s) E (fun x hx => hall x (by rw [hsp]; simp [hx])) hsp hl.lvs hl.openv hl.opm
  have hM : M' = [] := List.eq_nil_of_length_eq_zero (by simpa using g1.mids.len)
  subst hM
  rw [hl.res] at g8
  simp only [close, subL, List.append_nil] at g8
  subst g8
  obtain ⟨hb, hn⟩ := g1.mids
  subst hb
  obtain ⟨_, hf, _⟩ := g1.top
  obtain ⟨⟨v0, v1, v2, v3, v4, v5, h6, ht⟩, _⟩ := hf
  exact ⟨v0, v1, v2, v3, v4, v5, by simpa using h6, ht.off fun k _ h => h.elim (fun e => e ▸ g6 _ hX hrl) fun h => g6 k (hl.hz k h).1 fun hm => by have := hl.lvo k hm; have := (hl.hz k h).2; omega⟩
/-- slicing off the first of open places -/
theorem slice_run (b o n c : Nat) (hc : n + 1 ≤ c) : ∃ a', (c ≠ 1 → a' = some ⟨b, o + 6, none⟩) ∧ ∀ w', (Instr.slice 22 (.slice (some ⟨b, o, none⟩) (n + 1) c) (some (.int .i64 1)) none none).run Try.prog w' = .ok (.slice a' n (c - 1)) w' := by
  refine ⟨if c = 1 then some ⟨b, o, none⟩ else some ⟨b, o + 6, none⟩, fun h => if_neg h, fun w' => ?_⟩
  have he : Try.prog.elem 22 = 36 := by kernel_rfl
  have hz : (sizeOf 36).run Try.prog w' = .ok 6 w' := by kernel_rfl
  rw [run_slice_l w' 22 _ _ _ (by rw [he]; exact Try.underlying22) _ _ (by omega) (by omega), he, hz]
  simp only [Result.andThen, sliced]
  by_cases e : c = 1
  · subst e
    have : n = 0 := by omega
    subst this
    rfl
  · have e' : ¬ c = (1 : Int).toNat := e
    rw [if_neg e, if_neg e']
    simp [Addr.add]
theorem open_tail {b filled n c : Nat} {row : List Tm} {a' : Option Addr} (hn : n = row.length) (hc : n + 1 ≤ c) (hm : c ≤ maxLen) (ha : c ≠ 1 → a' = some ⟨b, filled * 6 + 6, none⟩) : OpenV b (filled + 1) row (.slice a' n (c - 1)) := by
  subst hn
  refine ⟨a', c - 1, rfl, by omega, by omega, fun hne => ?_⟩
  have : 0 < row.length := List.length_pos_iff.2 hne
  rw [ha (by omega), show (filled + 1) * 6 = filled * 6 + 6 by omega]
end Go.Proofs.Ytibepkljcofpdaa.lay
