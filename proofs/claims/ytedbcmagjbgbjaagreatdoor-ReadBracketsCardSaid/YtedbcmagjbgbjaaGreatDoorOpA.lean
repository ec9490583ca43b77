/- Operators: the plain mathematics; no program. -/
import Derived.Test.YtedbcmagjbgbjaaGreatDoorKit
import Derived.Lib.Bytealg
namespace Go.Proofs.YtedbcmagjbgbjaaGreatDoor.opa
set_option linter.unusedVariables false
/-- an operator -/
structure D where
  n : List UInt8
  k : Int
  p : Int
theorem D.ext' {a b : D} (h1 : a.n = b.n) (h2 : a.k = b.k) (h3 : a.p = b.p) : a = b := by cases a; cases b; simp_all
instance : DecidableEq D := fun a b => if h : a.n = b.n ∧ a.k = b.k ∧ a.p = b.p then isTrue (D.ext' h.1 h.2.1 h.2.2) else isFalse fun e => h ⟨by rw [e], by rw [e], by rw [e]⟩
/-! ### texts -/
abbrev cb := Lib.compareBytes
theorem cb_cons (a b : UInt8) (x y : List UInt8) : cb (a :: x) (b :: y) = if a < b then -1 else if b < a then 1 else cb x y := rfl
theorem cb_bd : ∀ a b, -1 ≤ cb a b ∧ cb a b ≤ 1
  | [], [] => by simp [cb, Lib.compareBytes]
  | [], _ :: _ => by simp [cb, Lib.compareBytes]
  | _ :: _, [] => by simp [cb, Lib.compareBytes]
  | a :: x, b :: y => by
    have := cb_bd x y
    rw [cb_cons]; split <;> (try split) <;> omega
theorem cb_neg : ∀ a b, cb b a = - cb a b
  | [], [] => rfl
  | [], _ :: _ => rfl
  | _ :: _, [] => rfl
  | a :: x, b :: y => by
    rw [cb_cons, cb_cons]
    by_cases h : a < b
    · have hn : ¬ b < a := fun q => absurd (UInt8.lt_trans h q) (UInt8.lt_irrefl _)
      simp [h, hn]
    · by_cases g : b < a
      · simp only [if_pos g, if_neg h]
      · simp only [if_neg g, if_neg h]; exact cb_neg x y
theorem cb_zero : ∀ a b, cb a b = 0 ↔ a = b
  | [], [] => by simp [cb, Lib.compareBytes]
  | [], _ :: _ => by simp [cb, Lib.compareBytes]
  | _ :: _, [] => by simp [cb, Lib.compareBytes]
  | a :: x, b :: y => by
    rw [cb_cons]
    by_cases h : a < b
    · rw [if_pos h]; simp; rintro rfl; exact absurd h (UInt8.lt_irrefl _)
    · rw [if_neg h]
      by_cases g : b < a
      · rw [if_pos g]; simp; rintro rfl; exact absurd g (UInt8.lt_irrefl _)
      · rw [if_neg g, cb_zero x y]
        have e : a = b := UInt8.le_antisymm (UInt8.not_lt.1 g) (UInt8.not_lt.1 h)
        simp [e]
theorem cb_trans : ∀ a b c, cb a b < 0 → cb b c < 0 → cb a c < 0
  | [], [], _, h, _ => by simp [cb, Lib.compareBytes] at h
  | _ :: _, [], _, h, _ => by simp [cb, Lib.compareBytes] at h
  | _, _ :: _, [], _, h => by simp [cb, Lib.compareBytes] at h
  | [], _ :: _, _ :: _, _, _ => by simp [cb, Lib.compareBytes]
  | a :: x, b :: y, c :: z, h, k => by
    rw [cb_cons] at h k ⊢
    by_cases h1 : a < b
    · by_cases k1 : b < c
      · rw [if_pos (UInt8.lt_trans h1 k1)]; decide
      · rw [if_neg k1] at k
        by_cases k2 : c < b
        · rw [if_pos k2] at k; cases k
        · have e : b = c := UInt8.le_antisymm (UInt8.not_lt.1 k2) (UInt8.not_lt.1 k1)
          rw [← e, if_pos h1]; decide
    · rw [if_neg h1] at h
      by_cases h2 : b < a
      · rw [if_pos h2] at h; cases h
      · rw [if_neg h2] at h
        have e : a = b := UInt8.le_antisymm (UInt8.not_lt.1 h2) (UInt8.not_lt.1 h1)
        subst e
        by_cases k1 : a < c
        · rw [if_pos k1]; decide
        · rw [if_neg k1] at k ⊢
          by_cases k2 : c < a
          · rw [if_pos k2] at k; cases k
          · rw [if_neg k2] at k ⊢; exact cb_trans x y z h k
theorem cb_less : ∀ a b, Op.bytesLess a b = decide (cb a b < 0)
  | [], [] => rfl
  | [], _ :: _ => rfl
  | _ :: _, [] => rfl
  | a :: x, b :: y => by
    rw [cb_cons, Op.bytesLess, cb_less x y]
    by_cases h : a < b
    · simp [h]
    · by_cases g : b < a
      · have e : (a == b) = false := by rw [beq_eq_false_iff_ne]; rintro rfl; exact UInt8.lt_irrefl _ g
        simp [h, g, e]
      · have e : a = b := UInt8.le_antisymm (UInt8.not_lt.1 g) (UInt8.not_lt.1 h)
        subst e; simp [UInt8.lt_irrefl]
/-! ### the order of operators -/
def cw (a b : Int) : Int := if a < b then -1 else if b < a then 1 else 0
def fr (k : Int) : Bool := decide (k = 4) || decide (k = 5)
def pl (k : Int) : Int := if fr k then 0 else 1
theorem pl_fr (a b : Int) : pl a = pl b ↔ fr a = fr b := by unfold pl; cases fr a <;> cases fr b <;> simp
def cd (a b : D) : Int := if cb a.n b.n = 0 then cw (pl a.k) (pl b.k) else cb a.n b.n
theorem cw_neg (a b : Int) : cw b a = - cw a b := by unfold cw; repeat' split
                                                     all_goals omega
theorem cw_zero (a b : Int) : cw a b = 0 ↔ a = b := by unfold cw; repeat' split
                                                       all_goals omega
theorem cw_neg' (a b : Int) : cw a b < 0 ↔ a < b := by unfold cw; repeat' split
                                                       all_goals omega
theorem cd_neg (a b : D) : cd b a = - cd a b := by
  unfold cd
  rw [cb_neg a.n b.n]
  by_cases h : cb a.n b.n = 0
  · rw [if_pos (by omega), if_pos h, cw_neg]
  · rw [if_neg (by omega), if_neg h]
theorem cd_zero (a b : D) : cd a b = 0 ↔ a.n = b.n ∧ fr a.k = fr b.k := by
  unfold cd
  by_cases h : cb a.n b.n = 0
  · rw [if_pos h, cw_zero, pl_fr]; have := (cb_zero _ _).1 h; simp [this]
  · rw [if_neg h]; have : a.n ≠ b.n := fun e => h ((cb_zero _ _).2 e)
    simp [h, this]
theorem cd_self (a : D) : cd a a = 0 := (cd_zero a a).2 ⟨rfl, rfl⟩
theorem cd_congL {a b : D} (h : cd a b = 0) (c : D) : cd a c = cd b c := by
  obtain ⟨h1, h2⟩ := (cd_zero a b).1 h
  unfold cd; rw [h1, (pl_fr _ _).2 h2]
theorem cd_congR {a b : D} (h : cd a b = 0) (c : D) : cd c a = cd c b := by rw [cd_neg a c, cd_neg b c, cd_congL h]
theorem cd_trans {a b c : D} (h : cd a b < 0) (k : cd b c < 0) : cd a c < 0 := by
  unfold cd at h k ⊢
  by_cases h1 : cb a.n b.n = 0
  · rw [if_pos h1] at h
    have e := (cb_zero _ _).1 h1
    rw [e]
    by_cases k1 : cb b.n c.n = 0
    · rw [if_pos k1] at k ⊢
      rw [cw_neg'] at h k ⊢; omega
    · rw [if_neg k1] at k ⊢; exact k
  · rw [if_neg h1] at h
    by_cases k1 : cb b.n c.n = 0
    · have e := (cb_zero _ _).1 k1
      rw [← e, if_neg h1]; exact h
    · rw [if_neg k1] at k
      have := cb_trans _ _ _ h k
      rw [if_neg (by omega)]; exact this
/-! ### tables -/
abbrev Srt (l : List D) : Prop := l.Pairwise fun a b => cd a b < 0
def lo (l : List D) (o : D) : List D := l.filter fun x => decide (cd x o < 0)
def md (l : List D) (o : D) : List D := l.filter fun x => decide (cd x o = 0)
def hi (l : List D) (o : D) : List D := l.filter fun x => decide (0 < cd x o)
theorem split_ {o : D} : ∀ {l : List D}, Srt l → l = lo l o ++ (md l o ++ hi l o)
  | [], _ => rfl
  | x :: r, h => by
    obtain ⟨h1, h2⟩ := List.pairwise_cons.1 h
    have ih := split_ (o := o) h2
    by_cases a : cd x o < 0
    · unfold lo md hi at ih ⊢
      rw [List.filter_cons_of_pos (by simpa using a), List.filter_cons_of_neg (by simp; omega), List.filter_cons_of_neg (by simp; omega), List.cons_append, ← ih]
    · have hr : ∀ y ∈ r, 0 < cd y o := fun y hy => by
        have q := h1 y hy
        by_cases b : cd x o = 0
        · have := cd_congL b y
          rw [cd_neg o y]; omega
        · have c : cd o x < 0 := by rw [cd_neg x o]; omega
          have := cd_trans c q; rw [cd_neg o y]; omega
      have e1 : r.filter (fun x => decide (cd x o < 0)) = [] := List.filter_eq_nil_iff.2 fun y hy => by have := hr y hy; simp; omega
      have e2 : r.filter (fun x => decide (cd x o = 0)) = [] := List.filter_eq_nil_iff.2 fun y hy => by have := hr y hy; simp; omega
      have e3 : r.filter (fun x => decide (0 < cd x o)) = r := List.filter_eq_self.2 fun y hy => by have := hr y hy; simpa using this
      unfold lo md hi
      by_cases b : cd x o = 0
      · rw [List.filter_cons_of_neg (by simp; omega), List.filter_cons_of_pos (by simpa using b), List.filter_cons_of_neg (by simp; omega), e1, e2, e3]; rfl
      · rw [List.filter_cons_of_neg (by simp; omega), List.filter_cons_of_neg (by simpa using b), List.filter_cons_of_pos (by simp; omega), e1, e2, e3]; rfl
theorem md_one {l : List D} (h : Srt l) (o : D) : md l o = [] ∨ ∃ x, md l o = [x] ∧ x ∈ l ∧ cd x o = 0 := by
  have hp : Srt (md l o) := h.filter _
  have hm : ∀ x ∈ md l o, x ∈ l ∧ cd x o = 0 := fun x hx => by have := List.mem_filter.1 hx; exact ⟨this.1, by simpa using this.2⟩
  cases e : md l o with
  | nil => exact Or.inl rfl
  | cons x r =>
    rw [e] at hp hm
    cases r with
    | nil => exact Or.inr ⟨x, rfl, (hm x (by simp)).1, (hm x (by simp)).2⟩
    | cons y r =>
      have h1 := (List.pairwise_cons.1 hp).1 y (by simp)
      have h2 := (hm x (by simp)).2
      have h3 := (hm y (by simp)).2
      rw [cd_congL h2, cd_neg y o] at h1
      omega
/-- where it stands, or would -/
def ix (l : List D) (o : D) : Nat := (lo l o).length
def is (l : List D) (o : D) : Bool := decide (md l o ≠ [])
theorem ix_le (l : List D) (o : D) : ix l o ≤ l.length := List.length_filter_le _ _
theorem ix_of {l : List D} {o : D} {i : Nat} (hi : i ≤ l.length) (h1 : ∀ m (h : m < l.length), m < i → cd l[m] o < 0) (h2 : ∀ m (h : m < l.length), i ≤ m → ¬ cd l[m] o < 0) : ix l o = i := by
  unfold ix lo
  conv => lhs; rw [← List.take_append_drop i l]
  rw [List.filter_append]
  have e1 : (l.take i).filter (fun x => decide (cd x o < 0)) = l.take i := List.filter_eq_self.2 fun y hy => by
    obtain ⟨m, hm, rfl⟩ := List.mem_iff_getElem.1 hy
    rw [List.getElem_take]
    rw [List.length_take] at hm
    simpa using h1 m (by omega) (by omega)
  have e2 : (l.drop i).filter (fun x => decide (cd x o < 0)) = [] := List.filter_eq_nil_iff.2 fun y hy => by
    obtain ⟨m, hm, rfl⟩ := List.mem_iff_getElem.1 hy
    rw [List.getElem_drop]
    rw [List.length_drop] at hm
    simpa using h2 (i + m) (by omega) (by omega)
  rw [e1, e2, List.append_nil, List.length_take]; omega
/-- at the place -/
theorem at_is {l : List D} (h : Srt l) {o : D} (hs : is l o = true) : ∃ x, md l o = [x] ∧ x ∈ l ∧ cd x o = 0 ∧ l = lo l o ++ x :: hi l o ∧ ix l o < l.length ∧ (∀ hx : ix l o < l.length, l[ix l o] = x) ∧ l.take (ix l o) = lo l o ∧ l.drop (ix l o + 1) = hi l o ∧ (lo l o ++ hi l o).length + 1 = l.length := by
  rcases md_one h o with e | ⟨x, e, hm, hc⟩
  · simp [is, e] at hs
  · have hl : l = lo l o ++ x :: hi l o := by have := split_ (o := o) h; rw [e] at this; exact this
    have hlen : l.length = (lo l o).length + ((hi l o).length + 1) := by
      have := congrArg List.length hl
      simpa using this
    refine ⟨x, e, hm, hc, hl, by unfold ix; omega, ?_, ?_, ?_, by rw [List.length_append]; omega⟩
    · intro hx
      unfold ix at hx ⊢
      have : (lo l o ++ x :: hi l o)[(lo l o).length]? = some x := by
        rw [List.getElem?_append_right (Nat.le_refl _)]; simp
      rw [← hl] at this
      rw [List.getElem?_eq_getElem hx] at this
      simpa using this
    · have := List.take_left (l₁ := lo l o) (l₂ := x :: hi l o)
      rw [← hl] at this; exact this
    · have : (lo l o ++ x :: hi l o).drop ((lo l o).length + 1) = hi l o := by rw [List.drop_append]; simp
      rw [← hl] at this; exact this
theorem at_no {l : List D} (h : Srt l) {o : D} (hs : is l o = false) : l = lo l o ++ hi l o ∧ md l o = [] ∧ l.take (ix l o) = lo l o ∧ l.drop (ix l o) = hi l o ∧ (∀ hx : ix l o < l.length, 0 < cd l[ix l o] o) := by
  have e : md l o = [] := by unfold is at hs; simpa using hs
  have hl : l = lo l o ++ hi l o := by have := split_ (o := o) h; rw [e] at this; exact this
  refine ⟨hl, e, ?_, ?_, ?_⟩
  · have := List.take_left (l₁ := lo l o) (l₂ := hi l o)
    rw [← hl] at this; exact this
  · have := List.drop_left (l₁ := lo l o) (l₂ := hi l o)
    rw [← hl] at this; exact this
  · intro hx
    have : (lo l o ++ hi l o)[(lo l o).length]? = (hi l o)[0]? := by
      rw [List.getElem?_append_right (Nat.le_refl _), Nat.sub_self]
    rw [← hl] at this
    unfold ix at hx ⊢
    rw [List.getElem?_eq_getElem hx] at this
    have := List.mem_of_getElem? this.symm
    simpa using (List.mem_filter.1 this).2
theorem is_at {l : List D} (h : Srt l) (o : D) : is l o = (if hx : ix l o < l.length then decide (cd l[ix l o] o = 0) else false) := by
  cases hs : is l o
  · obtain ⟨_, _, _, _, q⟩ := at_no h hs
    split
    · rename_i hx; have := q hx; symm; rw [decide_eq_false_iff_not]; omega
    · rfl
  · obtain ⟨x, _, _, hc, _, hx, q, _⟩ := at_is h hs
    rw [dif_pos hx, q hx]; simpa using hc
/-! ### Set -/
def isOp (o : D) : Bool := !(decide (o.n = []) || decide (o.n = [44]) || decide (o.n = [124]) || decide (o.n = [91, 93])) && decide (1 ≤ o.k ∧ o.k ≤ 5 ∧ 0 ≤ o.p ∧ o.p ≤ 1200 ∧ o.n.length ≤ 200)
def ins (l : List D) (o : D) : List D := lo l o ++ o :: hi l o
def setL (l : List D) (o : D) : List D := if isOp o = false then l else if o.p = 0 then lo l o ++ hi l o else if 100 ≤ (lo l o ++ hi l o).length then l else ins l o
def setE (l : List D) (o : D) : Int := if isOp o = false then 1 else if o.p = 0 then 0 else if 100 ≤ (lo l o ++ hi l o).length then 8 else 0
/-- what a table may hold -/
structure Inv (l : List D) : Prop where
  srt : Srt l
  len : l.length ≤ 100
  ok : ∀ x ∈ l, 1 ≤ x.p ∧ x.p ≤ 1200 ∧ 1 ≤ x.k ∧ x.k ≤ 5 ∧ x.n.length ≤ 200
theorem lo_lt {l : List D} {o x : D} (h : x ∈ lo l o) : x ∈ l ∧ cd x o < 0 := by have := List.mem_filter.1 h; exact ⟨this.1, by simpa using this.2⟩
theorem hi_gt {l : List D} {o x : D} (h : x ∈ hi l o) : x ∈ l ∧ 0 < cd x o := by have := List.mem_filter.1 h; exact ⟨this.1, by simpa using this.2⟩
theorem srt_rest {l : List D} (h : Srt l) (o : D) : Srt (lo l o ++ hi l o) := by
  refine List.pairwise_append.2 ⟨h.filter _, h.filter _, fun a ha b hb => ?_⟩
  have h1 := (lo_lt ha).2
  have h2 := (hi_gt hb).2
  exact cd_trans h1 (by rw [cd_neg b o]; omega)
theorem srt_ins {l : List D} (h : Srt l) (o : D) : Srt (ins l o) := by
  refine List.pairwise_append.2 ⟨h.filter _, List.pairwise_cons.2 ⟨fun b hb => ?_, h.filter _⟩, fun a ha b hb => ?_⟩
  · have h2 := (hi_gt hb).2
    rw [cd_neg b o]; omega
  · have h1 := (lo_lt ha).2
    rcases List.mem_cons.1 hb with rfl | hb
    · exact h1
    · have h2 := (hi_gt hb).2
      exact cd_trans h1 (by rw [cd_neg b o]; omega)
theorem rest_le (l : List D) (o : D) (h : Srt l) : (lo l o ++ hi l o).length ≤ l.length := by
  have := congrArg List.length (split_ (o := o) h)
  simp only [List.length_append] at this ⊢; omega
theorem mem_rest {l : List D} {o x : D} (h : x ∈ lo l o ++ hi l o) : x ∈ l := by
  rcases List.mem_append.1 h with h | h
  · exact (lo_lt h).1
  · exact (hi_gt h).1
theorem mem_ins {l : List D} {o x : D} (h : x ∈ ins l o) : x = o ∨ x ∈ l := by
  rcases List.mem_append.1 h with h | h
  · exact Or.inr (lo_lt h).1
  · rcases List.mem_cons.1 h with h | h
    · exact Or.inl h
    · exact Or.inr (hi_gt h).1
theorem isOp_ok {o : D} (h : isOp o = true) : 1 ≤ o.k ∧ o.k ≤ 5 ∧ 0 ≤ o.p ∧ o.p ≤ 1200 ∧ o.n.length ≤ 200 ∧ o.n ≠ [] ∧ o.n ≠ [44] ∧ o.n ≠ [124] ∧ o.n ≠ [91, 93] := by
  unfold isOp at h
  simp only [Bool.and_eq_true, Bool.not_eq_true', Bool.or_eq_false_iff, decide_eq_false_iff_not, decide_eq_true_eq] at h
  obtain ⟨⟨⟨⟨a, b⟩, c⟩, d⟩, e1, e2, e3, e4, e5⟩ := h
  exact ⟨e1, e2, e3, e4, e5, a, b, c, d⟩
theorem Inv.rest {l : List D} (h : Inv l) (o : D) : Inv (lo l o ++ hi l o) :=
  ⟨srt_rest h.srt o, Nat.le_trans (rest_le l o h.srt) h.len, fun x hx => h.ok x (mem_rest hx)⟩
theorem Inv.ins {l : List D} (h : Inv l) {o : D} (ho : 1 ≤ o.p ∧ o.p ≤ 1200 ∧ 1 ≤ o.k ∧ o.k ≤ 5 ∧ o.n.length ≤ 200) (hl : (lo l o ++ hi l o).length < 100) : Inv (ins l o) := by
  refine ⟨srt_ins h.srt o, ?_, fun x hx => ?_⟩
  · unfold opa.ins; rw [List.length_append] at hl ⊢; rw [List.length_cons]; omega
  · rcases mem_ins hx with rfl | hx
    · exact ho
    · exact h.ok x hx
theorem Inv.setL {l : List D} (h : Inv l) (o : D) : Inv (setL l o) := by
  unfold opa.setL
  split
  · exact h
  · split
    · exact h.rest o
    · split
      · exact h
      · rename_i a b c
        have := isOp_ok (by simpa using a)
        exact h.ins ⟨by omega, by omega, by omega, by omega, by omega⟩ (by omega)
theorem Inv.nil : Inv [] := ⟨List.Pairwise.nil, by simp, by simp⟩
/-! ### the operators that there are at first -/
def new0 : List D := [⟨[58, 45], 1, 1200⟩, ⟨[58, 45], 5, 1200⟩, ⟨[59], 2, 1100⟩, ⟨[45, 62], 2, 1050⟩, ⟨[44], 2, 1000⟩, ⟨[92, 43], 4, 900⟩, ⟨[43], 3, 500⟩, ⟨[45], 3, 500⟩, ⟨[42], 3, 400⟩, ⟨[47, 47], 3, 400⟩, ⟨[109, 111, 100], 3, 400⟩, ⟨[114, 101, 109], 3, 400⟩, ⟨[94], 2, 200⟩, ⟨[45], 4, 200⟩]
def new1 : List (List UInt8) := [[61], [92, 61], [61, 61], [92, 61, 61], [64, 60], [64, 62], [64, 61, 60], [64, 62, 61], [105, 115], [61, 58, 61], [61, 92, 61], [60], [62], [61, 60], [62, 61], [61, 46, 46]]
def allO : List D := new0 ++ new1.map fun n => ({ n := n, k := 1, p := 700 } : D)
def newL : List D := allO.foldl ins []
theorem Inv.fold : ∀ (m : List D) {l : List D}, Inv l → (∀ o ∈ m, 1 ≤ o.p ∧ o.p ≤ 1200 ∧ 1 ≤ o.k ∧ o.k ≤ 5 ∧ o.n.length ≤ 200) → l.length + m.length ≤ 100 → Inv (m.foldl opa.ins l) ∧ (m.foldl opa.ins l).length ≤ l.length + m.length
  | [], l, h, _, _ => ⟨h, Nat.le_refl _⟩
  | o :: r, l, h, ho, hl => by
    have hr := rest_le l o h.srt
    rw [List.length_cons] at hl
    have h1 : Inv (opa.ins l o) := h.ins (ho o (by simp)) (by omega)
    have h2 : (opa.ins l o).length ≤ l.length + 1 := by unfold opa.ins; rw [List.length_append] at hr ⊢; rw [List.length_cons]; omega
    have := Inv.fold r h1 (fun x hx => ho x (by simp [hx])) (by omega)
    rw [List.foldl_cons, List.length_cons]
    exact ⟨this.1, by omega⟩
theorem allO_ok : ∀ o ∈ allO, 1 ≤ o.p ∧ o.p ≤ 1200 ∧ 1 ≤ o.k ∧ o.k ≤ 5 ∧ o.n.length ≤ 200 := by decide
theorem newL_inv : Inv newL := (Inv.fold allO Inv.nil allO_ok (by decide)).1
theorem newL_len : newL.length = 30 := by kernel_rfl
end Go.Proofs.YtedbcmagjbgbjaaGreatDoor.opa
