/- What get tells without an error is a term that may be. -/
import Derived.Test.YtickdmfcdfocmaaPGE
namespace Go.Proofs.Ytickdmfcdfocmaa.gg
set_option linter.unusedVariables false
open Go.Proofs.Ytickdmfcdfocmaa.hp Go.Proofs.Ytickdmfcdfocmaa.cel Go.Proofs.Ytickdmfcdfocmaa.kp Go.Proofs.Ytickdmfcdfocmaa.pm Go.Proofs.Ytickdmfcdfocmaa.tm Go.Proofs.Ytickdmfcdfocmaa.lie Go.Proofs.Ytickdmfcdfocmaa.wlk
open Go.Proofs.Ytickdmfcdfocmaa.pgt (VOK nod get_nod Nd kont getT)
theorem leaf_good {l : List Int} {a : List ByteArray} (hs : ∀ x ∈ a, x.size ≤ 200) {v v' : List (Int × Int)} {c : Int} (hc : 0 ≤ c) {t : Tm} (h : nod l a v c = .leaf t v') (hv : VOK v) : VOK v' ∧ size t = 1 ∧ height t = 1 ∧ sound t = true ∧ t.kind ≠ 0 ∧ plain t = t := by
  have hm : ∀ k, k < a.length → (a.getD k ByteArray.empty).size ≤ 200 := fun k hk => by
    rw [List.getD_eq_getElem?_getD, List.getElem?_eq_getElem hk]; exact hs _ (List.getElem_mem hk)
  unfold nod at h
  split at h
  · split at h
    · split at h
      · rename_i k hk
        injection h with h1 h; subst h; subst h1
        have := (hv _ _ hk).1
        exact ⟨hv, by simp [var, size], by simp [var, height], by simp [var, sound, chk]; omega, by simp [var, Tm.kind], by simp [plain, var, sub]⟩
      · rename_i hl
        injection h with h1 h; subst h; subst h1
        exact ⟨hv.add hl, by simp [var, size], by simp [var, height], by simp [var, sound, chk], by simp [var, Tm.kind], by simp [plain, var, sub]⟩
    · cases h
  · split at h
    · split at h
      · rename_i hlt
        injection h with h1 h; subst h; subst h1
        have := hm (c / 8).toNat (by omega)
        rw [List.getD_eq_getElem?_getD] at this
        exact ⟨hv, by simp [atom, size], by simp [atom, height], by simp [atom, sound, chk]; omega, by simp [atom, Tm.kind], by simp [plain, atom, sub]⟩
      · cases h
    · split at h
      · injection h with h1 h; subst h; subst h1
        exact ⟨hv, by simp [size], by simp [height], by simp [sound, chk], by simp [Tm.kind], by simp [plain, sub]⟩
      · split at h
        · split at h
          · injection h with h1 h; subst h; subst h1
            exact ⟨hv, by simp [size], by simp [height], by simp [sound, chk], by simp [Tm.kind], by simp [plain, sub]⟩
          · cases h
        · split at h
          · split at h
            · injection h with h1 h; subst h; subst h1
              exact ⟨hv, by simp [size], by simp [height], by simp [sound, chk], by simp [Tm.kind], by simp [plain, sub]⟩
            · cases h
          · split at h
            · split at h <;> cases h
            · cases h
theorem comp_good {l : List Int} {a : List ByteArray} (hs : ∀ x ∈ a, x.size ≤ 200) {v : List (Int × Int)} {c : Int} (hc : ∀ p, 0 ≤ gv l p) {n : ByteArray} {k p : Nat} (h : nod l a v c = .comp n k p) : n.size ≤ 200 ∧ 1 ≤ k ∧ k ≤ 20 := by
  unfold nod at h
  split at h
  · split at h
    · split at h <;> cases h
    · cases h
  · split at h
    · split at h <;> cases h
    · split at h
      · cases h
      · split at h
        · split at h <;> cases h
        · split at h
          · split at h <;> cases h
          · split at h
            · rename_i hk
              split at h
              · rename_i hlt
                injection h with h1 h2 h3
                have hf := hk.2
                unfold fok at hf
                simp only [Bool.and_eq_true, decide_eq_true_eq] at hf
                obtain ⟨⟨⟨⟨_, _⟩, h3⟩, h4⟩, _⟩ := hf
                have h0 := hc (c / 8)
                have hlt2 : (gv l (c / 8) / 8 / 256).toNat < a.length := by omega
                have : n ∈ a := by rw [← h1, List.getD_eq_getElem?_getD, List.getElem?_eq_getElem hlt2]; exact List.getElem_mem hlt2
                exact ⟨hs _ this, by omega, by omega⟩
              · cases h
            · cases h
/-- told so far, rightly -/
structure Right (r : Nat) (g g' : G) (k : Nat) (ts : List Tm) : Prop where
  e : g.e = 0
  v : VOK g'.v
  n : g.n + sizeL ts ≤ g'.n
  top : g.n ≤ 2000 → g'.n ≤ 2000
  h : heightL ts ≤ r
  s : soundL ts = true
  len : ts.length = k
  p : subL var ts = ts
theorem getL_good {r : Nat} {f : Int → G → Tm × G} (l : List Int) (hf : ∀ c g t g', W64 c → VOK g.v → f c g = (t, g') → g'.e = 0 → g.e = 0 ∧ VOK g'.v ∧ g'.n ≤ 2000 ∧ g.n + size t ≤ g'.n ∧ height t ≤ r ∧ sound t = true ∧ t.kind ≠ 0 ∧ plain t = t)
    (hw : ∀ c ∈ l, W64 c) : ∀ (k p : Nat) (g : G) (ts : List Tm) (g' : G), VOK g.v → g.e = 0 → getL f l k p g = (ts, g') → g'.e = 0 → Right r g g' k ts
  | 0, p, g, ts, g', hv, he, h, h0 => by
    rw [getL] at h; injection h with h1 h2; subst h1; subst h2
    exact ⟨he, hv, by simp [sizeL], id, by simp [heightL], by simp [soundL], rfl, by simp [subL]⟩
  | k + 1, p, g, ts, g', hv, he, h, h0 => by
    rw [getL, if_pos he] at h
    have hwc : W64 (l.getD p 0) := by
      by_cases hp : p < l.length
      · rw [List.getD_eq_getElem?_getD, List.getElem?_eq_getElem hp]; exact hw _ (List.getElem_mem hp)
      · rw [List.getD_eq_getElem?_getD, List.getElem?_eq_none (by omega)]; exact ⟨by decide, by decide⟩
    have hf1 := hf (l.getD p 0) g
    revert h hf1
    cases f (l.getD p 0) g with
    | mk t g1 =>
      cases hx : getL f l k (p + 1) g1 with
      | mk us g2 =>
        intro h hf1
        simp only [hx] at h
        injection h with h1 h2; subst h1; subst h2
        have h1e : g1.e = 0 := by
          by_cases h1 : g1.e = 0
          · exact h1
          · have : getL f l k (p + 1) g1 = ([], g1) := by
              cases k with
              | zero => rw [getL]
              | succ k => rw [getL, if_neg h1]
            rw [this] at hx; injection hx with _ hx; rw [← hx] at h0; exact absurd h0 h1
        obtain ⟨q1, q2, q3, q4, q5, q6, q7, q8⟩ := hf1 t g1 hwc hv rfl h1e
        have R := getL_good l hf hw k (p + 1) g1 us g2 q2 h1e hx h0
        exact ⟨he, R.v, by rw [sizeL]; have := R.n; omega, fun _ => R.top q3, by rw [heightL]; have := R.h; omega, by rw [soundL, q6, R.s]; rfl, by simp [R.len], by rw [subL, R.p]; unfold plain at q8; rw [q8]⟩
theorem get_good (l : List Int) (a : List ByteArray) (hs : ∀ x ∈ a, x.size ≤ 200) (hw : ∀ c ∈ l, W64 c) : ∀ (r : Nat) (c : Int) (g : G) (t : Tm) (g' : G), W64 c → VOK g.v → pm.get l a r c g = (t, g') → g'.e = 0 → g.e = 0 ∧ VOK g'.v ∧ g'.n ≤ 2000 ∧ g.n + size t ≤ g'.n ∧ height t ≤ r ∧ sound t = true ∧ t.kind ≠ 0 ∧ plain t = t
  | 0, c, g, t, g', hc, hv, h, h0 => by
    rw [pm.get] at h
    split at h
    · injection h with _ h; rw [← h] at h0; exact absurd h0 (show ¬ (3 : Int) = 0 by decide)
    · rename_i he; injection h with _ h; rw [← h] at h0; exact absurd h0 he
  | r + 1, c, g, t, g', hc, hv, h, h0 => by
    by_cases he : g.e = 0
    · by_cases hl : 2000 ≤ g.n
      · rw [pm.get, if_pos he, if_pos hl] at h
        injection h with _ h; rw [← h] at h0; exact absurd h0 (show ¬ (3 : Int) = 0 by decide)
      · rw [get_nod l a r c g he (by omega)] at h
        have hd := dr_w hw l.length c hc
        cases hn9 : nod l a g.v (dr l l.length c) with
        | bad => rw [hn9] at h; injection h with _ h; rw [← h] at h0; exact absurd h0 (show ¬ (2 : Int) = 0 by decide)
        | leaf t1 v =>
          rw [hn9] at h; injection h with h1 h; subst h1; subst h
          obtain ⟨q1, q2, q3, q4, q5, q6⟩ := leaf_good hs hd.1 hn9 hv
          exact ⟨he, q1, by show g.n + 1 ≤ 2000; omega, by show g.n + _ ≤ g.n + 1; omega, by omega, q4, q5, q6⟩
        | comp n k p =>
          rw [hn9] at h
          obtain ⟨m1, m2, m3⟩ := comp_good hs (fun p => (gv_w hw p).1) hn9
          cases hx : getL (pm.get l a r) l k p ⟨g.n + 1, g.v, 0⟩ with
          | mk ts g2 =>
            simp only [hx] at h
            injection h with h1 h2; subst h1; subst h2
            have R := getL_good l (fun c g t g' => get_good l a hs hw r c g t g') hw k p ⟨g.n + 1, g.v, 0⟩ ts g2 hv rfl hx h0
            have hL := R.len
            exact ⟨he, R.v, R.top (by show g.n + 1 ≤ 2000; omega), by have := R.n; simp only [comp, size, if_true] at this ⊢; omega, by have := R.h; simp only [comp, height, if_true]; omega,
              by simp only [comp, sound, if_true, chk, R.s]; rw [if_neg (by omega), if_neg (by omega), if_neg (by omega), if_neg (by omega), if_neg (by omega), if_neg (by omega), if_neg (by omega)]; rfl, by simp [comp, Tm.kind], by simp [plain, comp, sub, R.p]⟩
    · have : pm.get l a (r + 1) c g = (zero, g) := by rw [pm.get, if_neg he]
      rw [this] at h; injection h with _ h; rw [← h] at h0; exact absurd h0 he
/-- what getT tells without an error may be -/
theorem getT_good {l : List Int} {a : List ByteArray} (hs : ∀ x ∈ a, x.size ≤ 200) (hw : ∀ c ∈ l, W64 c) {c : Int} (hc : W64 c) {v : List (Int × Int)} (hv : VOK v) {T : Tm} {g : G} (h : getT l a v c = (T, g)) (h0 : g.e = 0) : good T = true ∧ T.kind ≠ 0 ∧ plain T = T ∧ pm.get l a 500 c ⟨0, v, 0⟩ = (T, g) := by
  unfold getT at h
  cases hx : pm.get l a 500 c ⟨0, v, 0⟩ with
  | mk t g1 =>
    rw [hx, kont] at h
    split at h
    · injection h with h1 h2; subst h1; subst h2
      obtain ⟨_, _, q3, q4, q5, q6, q7, q8⟩ := get_good l a hs hw 500 c ⟨0, v, 0⟩ t g1 hc hv hx h0
      simp only [Nat.zero_add] at q4
      exact ⟨by unfold good; rw [q6]; simp; omega, q7, q8, rfl⟩
    · rename_i hne; injection h with _ h; rw [← h] at h0; exact absurd h0 hne
theorem getT_err {l : List Int} {a : List ByteArray} {c : Int} {v : List (Int × Int)} {T : Tm} {g : G} (h : getT l a v c = (T, g)) : (pm.get l a 500 c ⟨0, v, 0⟩).2 = g := by
  unfold getT at h
  cases hx : pm.get l a 500 c ⟨0, v, 0⟩ with
  | mk t g1 =>
    rw [hx, kont] at h
    split at h <;> (injection h)
end Go.Proofs.Ytickdmfcdfocmaa.gg
