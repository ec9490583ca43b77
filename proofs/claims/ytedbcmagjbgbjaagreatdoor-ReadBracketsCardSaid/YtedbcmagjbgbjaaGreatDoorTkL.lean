/- What the laws ask of tokens: words, blanks; the law's lower and remark. -/
import Derived.Test.YtedbcmagjbgbjaaGreatDoorTkG
namespace Go.Proofs.YtedbcmagjbgbjaaGreatDoor.tk
open Go.ChangeShapes Go.WideShapes Go.ChangeAt Go.RowKit Go.Maps
open Go.Proofs.YtedbcmagjbgbjaaGreatDoor.kp Go.Proofs.YtedbcmagjbgbjaaGreatDoor.num Go.Proofs.YtedbcmagjbgbjaaGreatDoor.dec
set_option linter.unusedVariables false
/-- a token in front of what is still to come -/
def cons1 (x : Tk) (R : List Tk × Nat × Int) : List Tk × Nat × Int := if R.2.2 = 0 then (x :: R.1, 0, 0) else ([], R.2.1, R.2.2)
theorem lex_one {N f : Nat} {la : Int × List UInt8} {l r : List UInt8} {c : UInt8} {k : Int} {t : List UInt8} {n : Int} {re im : Nat} {rest : List UInt8} (h1 : sk .bt l l = (true, c :: r))
    (h2 : tok (if (c :: r).length = l.length then la else (0, [])) c r = .ok k t n re im rest) : lex N (f + 1) la l = cons1 ⟨k, t, n, re, im, N - (c :: r).length⟩ (lex N f (k, t) rest) := by
  simp only [lex, h1, h2]
  unfold cons1
  generalize lex N f (k, t) rest = R
  obtain ⟨ts, p, e⟩ := R
  rfl
theorem lex_end {N f : Nat} {la : Int × List UInt8} {l : List UInt8} (h1 : sk .bt l l = (true, [])) : lex N (f + 1) la l = ([], 0, 0) := by simp only [lex, h1]
/-- a byte that begins a token of its own -/
def fresh (c : UInt8) : Bool := !mem blankL c && (decide (c ≠ 37) && decide (c ≠ 47))
theorem sk_fresh {c : UInt8} (r b : List UInt8) (h : fresh c = true) : sk .bt b (c :: r) = (true, c :: r) := by
  unfold fresh at h
  simp only [Bool.and_eq_true, Bool.not_eq_true', decide_eq_true_eq] at h
  rw [sk, if_neg (by rw [h.1]; decide), if_neg h.2.1, if_neg (fun h2 => h.2.2 h2.1)]
theorem sm_fresh : ∀ n : Fin 256, sm (UInt8.ofNat n.val) = true → fresh (UInt8.ofNat n.val) = true ∧ wd (UInt8.ofNat n.val) = true := by decide +kernel
theorem byte_all {P : UInt8 → Prop} (h : ∀ n : Fin 256, P (UInt8.ofNat n.val)) (c : UInt8) : P c := by
  have := h ⟨c.toNat, c.toNat_lt⟩
  simpa using this
theorem sm_fresh' (c : UInt8) (h : sm c = true) : fresh c = true ∧ wd c = true := byte_all (P := fun c => sm c = true → fresh c = true ∧ wd c = true) sm_fresh c h
theorem take_all {p : UInt8 → Bool} {a r : List UInt8} (h : a.all p = true) (hr : ∀ c ∈ r.head?, p c = false) : (a ++ r).takeWhile p = a ∧ (a ++ r).dropWhile p = r := by
  induction a with
  | nil =>
    cases r with
    | nil => exact ⟨rfl, rfl⟩
    | cons c r => have := hr c (by simp); simp [this]
  | cons x a ih =>
    simp only [List.all_cons, Bool.and_eq_true] at h
    have := ih h.2
    simp [h.1, this.1, this.2]
theorem txt_ok {k : Int} {q rest : List UInt8} (h : q.length ≤ 200) : txt k q rest = .ok k q 0 0 0 rest := by unfold txt; rw [if_pos h]
/-- a word of small letters -/
theorem lex_word {N f : Nat} {la : Int × List UInt8} {a r : List UInt8} (ha : a ≠ []) (hall : a.all sm = true) (h200 : a.length ≤ 200) (hr : ∀ c ∈ r.head?, wd c = false) :
    lex N (f + 1) la (a ++ r) = cons1 ⟨1, a, 0, 0, 0, N - (a ++ r).length⟩ (lex N f (1, a) r) := by
  cases a with
  | nil => exact absurd rfl ha
  | cons c a =>
    simp only [List.all_cons, Bool.and_eq_true] at hall
    obtain ⟨h1, h2⟩ := sm_fresh' c hall.1
    have hw : a.all wd = true := by
      rw [List.all_eq_true] at *
      intro x hx
      exact (sm_fresh' x (hall.2 x hx)).2
    obtain ⟨e1, e2⟩ := take_all hw hr
    refine lex_one (c := c) (r := a ++ r) (sk_fresh _ _ h1) ?_
    unfold tok
    rw [if_pos hall.1, e1, e2, txt_ok h200]
theorem lex_blank {N f : Nat} {la : Int × List UInt8} {c : UInt8} {r : List UInt8} (h : mem blankL c = true) : lex N (f + 1) la (c :: r) = lex N (f + 1) (0, []) r := by
  have e : sk .bt (c :: r) (c :: r) = sk .bt r r := by rw [sk, if_pos h]
  simp only [lex, e]
  cases hs : sk .bt r r with
  | mk ok s =>
    cases ok with
    | false => rfl
    | true =>
      cases s with
      | nil => rfl
      | cons x y =>
        have h1 := (sk_ok hs).length_le
        simp only
        rw [if_neg (by simp only [List.length_cons] at *; omega)]
        have e2 : (if (x :: y).length = r.length then ((0, []) : Int × List UInt8) else (0, [])) = (0, []) := by split <;> rfl
        rw [e2]
theorem lex_nil0 {N f : Nat} {la : Int × List UInt8} : lex N (f + 1) la [] = ([], 0, 0) := lex_end rfl
theorem cons1_ok (x : Tk) (ts : List Tk) (p : Nat) : cons1 x (ts, p, 0) = (x :: ts, 0, 0) := by simp [cons1]
section
variable {a b : List UInt8}
theorem words_two (ha : a ≠ []) (hb : b ≠ []) (sa : a.all sm = true) (sb : b.all sm = true) (la : a.length ≤ 60) (lb : b.length ≤ 60) :
    allT (a ++ [32] ++ b) = ([⟨1, a, 0, 0, 0, 0⟩, ⟨1, b, 0, 0, 0, a.length + 1⟩], 0, 0) := by
  unfold allT
  rw [if_pos (by simp; omega)]
  rw [List.append_assoc, lex_word ha sa (by omega) (by intro c hc; simp at hc; subst hc; decide)]
  obtain ⟨f, hf⟩ : ∃ f, (a ++ ([32] ++ b)).length = f + 3 := by
    cases a with
    | nil => exact absurd rfl ha
    | cons => cases b with
      | nil => exact absurd rfl hb
      | cons x b => rename_i y a; exact ⟨a.length + b.length, by simp; omega⟩
  rw [hf, List.singleton_append, show f + 3 = f + 2 + 1 from rfl, lex_blank (by decide)]
  have := lex_word (N := f + 3) (f := f + 2) (la := (0, [])) (r := []) hb sb (by omega) (by intro c hc; cases hc)
  rw [List.append_nil] at this
  rw [this, show f + 2 = f + 1 + 1 from rfl, lex_nil0, cons1_ok, cons1_ok]
  simp only [List.length_append, List.length_cons, List.length_nil] at hf
  have e2 : f + 3 - b.length = a.length + 1 := by omega
  rw [e2]
  simp
theorem words_one (ha : a ≠ []) (sa : a.all sm = true) (sb : b.all sm = true) (la : a.length ≤ 60) (lb : b.length ≤ 60) :
    allT (a ++ b) = ([⟨1, a ++ b, 0, 0, 0, 0⟩], 0, 0) := by
  unfold allT
  rw [if_pos (by simp; omega)]
  have hne : a ++ b ≠ [] := by simp [ha]
  have := lex_word (N := (a ++ b).length) (f := (a ++ b).length) (la := (0, [])) (r := []) hne (by rw [List.all_append, sa, sb]; rfl) (by simp; omega) (by intro c hc; cases hc)
  rw [List.append_nil] at this
  rw [this]
  obtain ⟨f, hf⟩ : ∃ f, (a ++ b).length = f + 1 := ⟨(a ++ b).length - 1, by have := List.length_pos_iff.2 hne; omega⟩
  rw [hf, lex_nil0, cons1_ok]
  simp
theorem words_call (ha : a ≠ []) (hb : b ≠ []) (sa : a.all sm = true) (sb : b.all sm = true) (la : a.length ≤ 60) (lb : b.length ≤ 60) :
    ∃ x0 x2 x3 q, allT (a ++ [40] ++ b ++ [41]) = ([x0, ⟨7, [], 0, 0, 0, q⟩, x2, x3], 0, 0) := by
  unfold allT
  rw [if_pos (by simp; omega)]
  obtain ⟨f, hf⟩ : ∃ f, (a ++ [40] ++ b ++ [41]).length = f + 4 := by
    cases a with
    | nil => exact absurd rfl ha
    | cons => cases b with
      | nil => exact absurd rfl hb
      | cons x b => rename_i y a; exact ⟨a.length + b.length, by simp; omega⟩
  have e : a ++ [40] ++ b ++ [41] = a ++ (40 :: (b ++ [41])) := by simp
  rw [hf, e]
  rw [lex_word ha sa (by omega) (by intro c hc; simp at hc; subst hc; decide)]
  have h40 : tok (if (40 :: (b ++ [41])).length = (40 :: (b ++ [41])).length then ((1, a) : Int × List UInt8) else (0, [])) 40 (b ++ [41]) = .ok 7 [] 0 0 0 (b ++ [41]) := by
    rw [if_pos rfl]; unfold tok
    rw [if_neg (by decide), if_neg (by decide), if_neg (by decide), if_neg (by decide), if_neg (by decide), if_pos (by decide), if_pos ⟨rfl, Or.inl rfl⟩]
  rw [show f + 4 = f + 3 + 1 from rfl, lex_one (sk_fresh (b ++ [41]) _ (by decide)) h40]
  rw [show f + 3 = f + 2 + 1 from rfl, lex_word hb sb (by omega) (by intro c hc; simp at hc; subst hc; decide)]
  have h41 : tok (if ([41] : List UInt8).length = ([41] : List UInt8).length then ((1, b) : Int × List UInt8) else (0, [])) 41 [] = .ok 6 [41] 0 0 0 [] := by
    rw [if_pos rfl]; unfold tok
    rw [if_neg (by decide), if_neg (by decide), if_neg (by decide), if_neg (by decide), if_neg (by decide), if_pos (by decide), if_neg (fun h => absurd h.1 (by decide))]; rfl
  rw [show f + 2 = f + 1 + 1 from rfl, lex_one (sk_fresh [] _ (by decide)) h41, lex_nil0, cons1_ok, cons1_ok, cons1_ok, cons1_ok]
  exact ⟨_, _, _, _, rfl⟩
end
theorem all_is (S : List UInt8) {ts : List Tk} {q : Nat} {e : Int} (ha : allT S = (ts, q, e)) (hS : S.length ≤ 140737488351232) (w : World) (hv : VR w.heap.size w) :
    Calls Tryz.prog 34 #[.string ⟨S.toArray⟩] w fun x w' => (∃ v, x = .returned (.tuple #[v, .int .i64 (q : Int), .int .i64 e]) ∧ Toks w.heap.size w' v ts) ∧ Below w.heap.size w w' := by
  have h := all_any S hS w hv
  unfold AllEnd at h
  rw [ha] at h
  exact h
theorem VR.start {w : World} {tp : TypeId} {q : Value} (h : w.var? Tryz.prog "strconv.ErrRange" = some #[.iface tp q]) : VR w.heap.size w := ⟨w, ⟨tp, q, h⟩, kp.br w, Nat.le_refl _⟩
theorem VR.up {w w' : World} (h : VR w.heap.size w) (b : Below w.heap.size w w') : VR w'.heap.size w' := by
  obtain ⟨W, a, b1, c⟩ := h.below b
  exact ⟨W, a, b1, Nat.le_trans c b.size⟩
end Go.Proofs.YtedbcmagjbgbjaaGreatDoor.tk
