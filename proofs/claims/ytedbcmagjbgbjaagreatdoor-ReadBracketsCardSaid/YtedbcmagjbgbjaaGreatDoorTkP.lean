/- Places of tokens: the mathematics. -/
import Derived.Test.YtedbcmagjbgbjaaGreatDoorTkL
namespace Go.Proofs.YtedbcmagjbgbjaaGreatDoor.tk
open Go.ChangeShapes Go.WideShapes Go.ChangeAt Go.RowKit Go.Maps
open Go.Proofs.YtedbcmagjbgbjaaGreatDoor.kp Go.Proofs.YtedbcmagjbgbjaaGreatDoor.num Go.Proofs.YtedbcmagjbgbjaaGreatDoor.dec
set_option linter.unusedVariables false
/-- a token begins with what it is -/
def Beg (S : List UInt8) (x : Tk) : Prop := (x.k = 1 ∨ x.k = 3 ∨ x.k = 6 → x.t <+: S.drop x.a) ∧ (x.k = 7 → (∃ r, S.drop x.a = 40 :: r) ∧ x.t = []) ∧ (x.k = 8 → ∃ r, S.drop x.a = 46 :: r)
def Fine (S : List UInt8) : Nat → List Tk → Prop
  | _, [] => True
  | lo, x :: r => lo ≤ x.a ∧ x.a < S.length ∧ Beg S x ∧ Fine S (x.a + 1) r
theorem Fine.mono {S : List UInt8} {lo lo' : Nat} {ts : List Tk} (h : Fine S lo ts) (hl : lo' ≤ lo) : Fine S lo' ts := by
  cases ts with
  | nil => trivial
  | cons x r => exact ⟨Nat.le_trans hl h.1, h.2⟩
theorem txt_t {k : Int} {q rest : List UInt8} {k' : Int} {t : List UInt8} {n : Int} {re im : Nat} {r : List UInt8} (h : txt k q rest = .ok k' t n re im r) : k' = k ∧ t = q := by
  unfold txt at h; split at h
  · cases h; exact ⟨rfl, rfl⟩
  · cases h
theorem take_pre (p : UInt8 → Bool) (c : UInt8) (r : List UInt8) : c :: r.takeWhile p <+: c :: r := by
  obtain ⟨s, hs⟩ := List.takeWhile_prefix (l := r) p
  exact ⟨s, by rw [List.cons_append, hs]⟩
theorem tok_beg {la : Int × List UInt8} {c : UInt8} {r : List UInt8} {k : Int} {t : List UInt8} {n : Int} {re im : Nat} {rest : List UInt8} (h : tok la c r = .ok k t n re im rest) :
    (k = 1 ∨ k = 3 ∨ k = 6 → t <+: c :: r) ∧ (k = 7 → c = 40 ∧ t = []) ∧ (k = 8 → c = 46) := by
  have T : ∀ k' q rest', txt k' q rest' = .ok k t n re im rest → q <+: c :: r → (k' = 1 ∨ k' = 2 ∨ k' = 3 ∨ k' = 6) → (k = 1 ∨ k = 3 ∨ k = 6 → t <+: c :: r) ∧ (k = 7 → c = 40 ∧ t = []) ∧ (k = 8 → c = 46) := by
    intro k' q rest' h hq hk
    obtain ⟨rfl, rfl⟩ := txt_t h
    exact ⟨fun _ => hq, fun h7 => by omega, fun h8 => by omega⟩
  have one : [c] <+: c :: r := ⟨r, rfl⟩
  unfold tok at h
  split at h
  · exact T _ _ _ h (take_pre _ _ _) (by decide)
  · split at h
    · exact T _ _ _ h (take_pre _ _ _) (by decide)
    · split at h
      · unfold nmb at h
        repeat' split at h
        all_goals first | (cases h; exact ⟨fun h => by omega, fun h => by omega, fun h => by omega⟩) | cases h
      · split at h
        · split at h
          · rename_i hc
            cases h
            have := hc.1
            injection this with h1 h2
            exact ⟨fun h => by omega, fun h => by omega, fun _ => h1⟩
          · exact T _ _ _ h (take_pre _ _ _) (by decide)
        · split at h
          · exact T _ _ _ h one (by decide)
          · split at h
            · split at h
              · rename_i hc; cases h; exact ⟨fun h => by omega, fun _ => ⟨hc.1, rfl⟩, fun h => by omega⟩
              · exact T _ _ _ h one (by decide)
            · split at h
              · split at h
                · cases h
                · obtain ⟨hk, -⟩ := txt_t h
                  exact ⟨fun h => by omega, fun h => by omega, fun h => by omega⟩
              · cases h
theorem drop_of {S l : List UInt8} (h : l <:+ S) : S.drop (S.length - l.length) = l := by
  obtain ⟨q, rfl⟩ := h
  simp
theorem sk_no_ne {l s : List UInt8} : ∀ (m : Md) (b : List UInt8), (m = .bt ∨ b ≠ []) → sk m b l = (false, s) → s ≠ [] := by
  induction l with
  | nil =>
    intro m b hb h
    cases m <;> simp only [sk] at h
    · cases h
    · cases h
    · cases h; exact hb.resolve_left (fun h => nomatch h)
    · cases h; exact hb.resolve_left (fun h => nomatch h)
    · cases h; exact hb.resolve_left (fun h => nomatch h)
  | cons c r ih =>
    intro m b hb h
    cases m <;> simp only [sk] at h
    · split at h
      · exact ih _ _ (Or.inl rfl) h
      · split at h
        · exact ih _ _ (Or.inr (by simp)) h
        · split at h
          · exact ih _ _ (Or.inr (by simp)) h
          · cases h
    · split at h
      · exact ih _ _ (Or.inl rfl) h
      · exact ih _ _ (Or.inr (hb.resolve_left (fun h => nomatch h))) h
    · exact ih _ _ (Or.inr (hb.resolve_left (fun h => nomatch h))) h
    · split at h
      · exact ih _ _ (Or.inr (hb.resolve_left (fun h => nomatch h))) h
      · exact ih _ _ (Or.inr (hb.resolve_left (fun h => nomatch h))) h
    · exact ih _ _ (Or.inl rfl) h
theorem lex_fine {S : List UInt8} : ∀ f la l, l <:+ S → ∀ ts p e, lex S.length f la l = (ts, p, e) → (e = 0 → Fine S (S.length - l.length) ts) ∧ (e ≠ 0 → p < S.length) := by
  intro f
  induction f with
  | zero => intro la l hl ts p e h; simp only [lex] at h; cases h; exact ⟨fun _ => trivial, fun h => absurd rfl h⟩
  | succ f ih =>
    intro la l hl ts p e h
    simp only [lex] at h
    split at h
    · rename_i s hs
      cases h
      refine ⟨fun h => absurd h (by decide), fun _ => ?_⟩
      have h1 := sk_no_ne _ _ (Or.inl rfl) hs
      have h2 := ((sk_no hs).trans hl).length_le
      have h3 := List.length_pos_iff.2 h1
      omega
    · cases h; exact ⟨fun _ => trivial, fun h => absurd rfl h⟩
    · rename_i c r hs
      have h1 := sk_ok hs
      have h2 := (h1.trans hl)
      have h3 := h2.length_le
      have h4 := h1.length_le
      simp only [List.length_cons] at h3 h4
      split at h
      · rename_i er ht
        injection h with ha hb; injection hb with hb hc
        refine ⟨fun h => absurd (hc.trans h) (tok_er ht), fun _ => ?_⟩
        rw [← hb]; simp only [List.length_cons]; omega
      · rename_i k t n re im rest ht
        have h5 := tok_suf ht
        have h6 := h5.length_le
        have ih2 := ih (k, t) rest (h5.trans ((List.suffix_cons _ _).trans h2)) _ _ _ rfl
        split at h
        · rename_i he
          injection h with ha hb; injection hb with hb hc
          subst ha hc
          refine ⟨fun _ => ⟨by simp only [List.length_cons]; omega, by simp only [List.length_cons]; omega, ?_, (ih2.1 he).mono (by simp only [List.length_cons]; omega)⟩, fun h => absurd rfl h⟩
          have hd := drop_of h2
          have hb := tok_beg ht
          unfold Beg
          dsimp only
          rw [hd]
          exact ⟨hb.1, fun h7 => ⟨⟨r, by rw [(hb.2.1 h7).1]⟩, (hb.2.1 h7).2⟩, fun h8 => ⟨r, by rw [hb.2.2 h8]⟩⟩
        · rename_i hne
          injection h with ha hb; injection hb with hb hc
          subst hc
          exact ⟨fun h => absurd h hne, fun h => by rw [← hb]; exact ih2.2 h⟩
theorem lex_len {N : Nat} : ∀ f la l, (lex N f la l).1.length ≤ l.length := by
  intro f
  induction f with
  | zero => intro la l; simp [lex]
  | succ f ih =>
    intro la l
    generalize h : lex N (f + 1) la l = R
    simp only [lex] at h
    split at h
    · subst h; simp
    · subst h; simp
    · rename_i c r hs
      have h4 := (sk_ok hs).length_le
      simp only [List.length_cons] at h4
      split at h
      · subst h; simp
      · rename_i k t n re im rest ht
        have h6 := (tok_suf ht).length_le
        have ih2 := ih (k, t) rest
        split at h
        · subst h; simp only [List.length_cons]; omega
        · subst h; simp
theorem all_len {S : List UInt8} {ts : List Tk} {p : Nat} {e : Int} (h : allT S = (ts, p, e)) : ts.length ≤ S.length := by
  unfold allT at h
  split at h
  · have := lex_len (N := S.length) (S.length + 1) (0, []) S; rw [h] at this; exact this
  · injection h with h1 h2; rw [← h1]; simp
theorem all_fine {S : List UInt8} (hS : S.length ≤ 65536) {ts : List Tk} {p : Nat} {e : Int} (h : allT S = (ts, p, e)) : (e = 0 → Fine S 0 ts) ∧ (e ≠ 0 → p < S.length ∧ ts = []) := by
  unfold allT at h; rw [if_pos hS] at h
  have h1 := lex_fine _ _ _ (List.suffix_refl S) _ _ _ h
  exact ⟨fun he => (h1.1 he).mono (Nat.zero_le _), fun he => ⟨h1.2 he, lex_bad _ _ _ _ _ _ h he⟩⟩
theorem Fine.at_ {S : List UInt8} : ∀ {ts : List Tk} {lo : Nat} (_ : Fine S lo ts) {k : Nat} {x : Tk}, ts[k]? = some x → x.a < S.length ∧ Beg S x ∧ lo ≤ x.a ∧ (∀ y, ts[k + 1]? = some y → x.a < y.a)
  | [], _, _, k, x, hx => by simp at hx
  | y :: r, lo, h, 0, x, hx => by
    simp at hx; subst hx
    refine ⟨h.2.1, h.2.2.1, h.1, fun z hz => ?_⟩
    simp only [Nat.zero_add, List.getElem?_cons_succ] at hz
    exact (Fine.at_ h.2.2.2 hz).2.2.1
  | y :: r, lo, h, k + 1, x, hx => by
    simp only [List.getElem?_cons_succ] at hx ⊢
    obtain ⟨a, b, c, d⟩ := Fine.at_ h.2.2.2 hx
    exact ⟨a, b, by have := h.1; omega, d⟩
theorem tok_kind8 {la : Int × List UInt8} {c : UInt8} {r : List UInt8} {k : Int} {t : List UInt8} {n : Int} {re im : Nat} {rest : List UInt8} (h : tok la c r = .ok k t n re im rest) : 1 ≤ k ∧ k ≤ 8 := tok_kind h
end Go.Proofs.YtedbcmagjbgbjaaGreatDoor.tk
