/- A map that counts numbers: how many keys it has, what it counts. No translation. -/
import Derived.Test.YtjdbppdanckfnaaTab
namespace Go.Proofs.Ytjdbppdanckfnaa.atm
open Go.ChangeShapes Go.WideShapes Go.ChangeAt Go.RowKit Go.Maps
abbrev CK (i : Int) : Lit := .int .i64 i
abbrev Z : DataW Unit := .lit (.int .i64 0)
/-- D counts numbers below n, all from 2 on; each at most c times. -/
def Cnt (D : DataW Unit) (n c : Nat) : Prop :=
  2 ≤ n ∧ (∀ i : Int, has D (CK i) = true → 0 ≤ i ∧ i < n ∧ ∃ v : Int, D.atKey (CK i) Z = .lit (.int .i64 v) ∧ 1 ≤ v ∧ v ≤ c) ∧ (∀ i : Nat, 2 ≤ i → i < n → has D (CK i) = true) ∧
  size D = (n - 2) + (has D (CK 0)).toNat + (has D (CK 1)).toNat
theorem Cnt_nil : Cnt (.map []) 2 0 := ⟨Nat.le_refl _, fun i h => by simp [has] at h, fun i h1 h2 => by omega, by simp [has, Go.Maps.size]⟩
theorem CK_ne {i j : Int} (h : i ≠ j) : CK i ≠ CK j := fun e => h (by injection e)
theorem Cnt_bound {D : DataW Unit} {n c : Nat} (h : Cnt D n c) {i v : Int} (hat : D.atKey (CK i) Z = .lit (.int .i64 v)) : 0 ≤ v ∧ v ≤ c := by
  obtain ⟨_, h1, _, _⟩ := h
  cases hh : has D (CK i)
  · rw [atKey_of_not_has hh] at hat; injection hat with e; injection e with _ e; omega
  · obtain ⟨_, _, u, hu, _, _⟩ := h1 i hh
    rw [hu] at hat; injection hat with e; injection e with _ e; omega
theorem Cnt_put {D : DataW Unit} {n n' c : Nat} (h : Cnt D n c) (ht : Tidy D) {i : Nat} (hi : (i < n ∧ n' = n) ∨ (i = n ∧ n' = n + 1)) {v : Int} (hat : D.atKey (CK i) Z = .lit (.int .i64 v)) :
    Cnt (D.put (CK i) (.lit (.int .i64 (v + 1)))) n' (c + 1) := by
  have hb := Cnt_bound h hat
  obtain ⟨h0, h1, h2, h3⟩ := h
  have hk : WideAt.IsKeyLit (CK i) := by simp [WideAt.IsKeyLit]
  have hs := size_put (k := CK i) ht (.lit (.int .i64 (v + 1)))
  have same : has (D.put (CK i) (.lit (.int .i64 (v + 1)))) (CK i) = true := has_put_same ht.isMap hk _
  have oth : ∀ j : Int, j ≠ i → has (D.put (CK i) (.lit (.int .i64 (v + 1)))) (CK j) = has D (CK j) := fun j hj => has_put_other (CK_ne hj) _
  refine ⟨by omega, fun j hj => ?_, fun j j1 j2 => ?_, ?_⟩
  · by_cases e : j = i
    · subst e
      exact ⟨by omega, by omega, v + 1, atKey_put_same ht.isMap hk _ _, by omega, by omega⟩
    · rw [oth j e] at hj
      obtain ⟨a, b, u, hu, c1, c2⟩ := h1 j hj
      exact ⟨a, by omega, u, by rw [atKey_put_other (CK_ne e)]; exact hu, c1, by omega⟩
  · by_cases e : j = i
    · subst e; exact same
    · rw [oth j (by omega)]; exact h2 j j1 (by omega)
  · rcases hi with ⟨hi, rfl⟩ | ⟨rfl, rfl⟩
    · cases hh : has D (CK i)
      · have i2 : i < 2 := by
          apply Classical.byContradiction; intro hn
          rw [h2 i (by omega) hi] at hh; cases hh
        rw [hh] at hs
        rcases (show i = 0 ∨ i = 1 by omega) with rfl | rfl
        · rw [hs, show CK 0 = CK ((0 : Nat) : Int) from rfl, same, oth 1 (by decide), h3]; simp at hh; simp [hh]; omega
        · rw [hs, show CK 1 = CK ((1 : Nat) : Int) from rfl, same, oth 0 (by decide), h3]; simp at hh; simp [hh]
      · rw [hh] at hs
        have z : ∀ j : Int, has (D.put (CK i) (.lit (.int .i64 (v + 1)))) (CK j) = has D (CK j) := fun j => by
          by_cases e : j = i
          · subst e; rw [same, hh]
          · exact oth j e
        rw [hs, z, z, h3]; simp
    · have hh : has D (CK i) = false := by
        cases hh : has D (CK i)
        · rfl
        · have := (h1 i hh).2.1; omega
      rw [hh] at hs
      rw [hs, oth 0 (by omega), oth 1 (by omega), h3]; simp; omega
theorem Cnt_size {D : DataW Unit} {n c : Nat} (h : Cnt D n c) : size D ≤ n ∧ n ≤ size D + 2 := by
  obtain ⟨h0, h1, h2, h3⟩ := h
  cases h4 : has D (CK 0) <;> cases h5 : has D (CK 1) <;> simp [h4, h5] at h3 <;> omega
theorem Cnt_at {D : DataW Unit} {n c : Nat} (h : Cnt D n c) {i v : Int} (hh : has D (CK i) = true) (hat : D.atKey (CK i) Z = .lit (.int .i64 v)) : 1 ≤ v := by
  obtain ⟨_, _, u, hu, _, _⟩ := h.2.1 i hh
  rw [hu] at hat; injection hat with e; injection e with _ e; omega
/-- the first k strings that count are names, and counted -/
def Seen (t l : List ByteArray) (D : DataW Unit) (k : Nat) : Prop := ∀ j, j < k → j < 100 → (t.getD j ByteArray.empty).size ≤ 200 → t.getD j ByteArray.empty ∈ l ∧ has D (CK (l.idxOf (t.getD j ByteArray.empty))) = true
theorem Seen.zero (t l : List ByteArray) (D : DataW Unit) : Seen t l D 0 := fun j h => by omega
theorem Seen.skip {t l : List ByteArray} {D : DataW Unit} {k : Nat} (h : Seen t l D k) (hk : 100 ≤ k ∨ 200 < (t.getD k ByteArray.empty).size) : Seen t l D (k + 1) := fun j h1 h2 h3 => by
  by_cases e : j = k
  · subst e; omega
  · exact h j (by omega) h2 h3
end Go.Proofs.Ytjdbppdanckfnaa.atm
