/- What a laid term's cell is to unify: its kind, its words; terms of unlike heads are never made one. -/
import Derived.Test.YthableojkjhicaaUnI
namespace Go.Proofs.Ythableojkjhicaa.un
open Go.ChangeShapes Go.WideShapes Go.ChangeAt Go.RowKit
open Go.Proofs.Ythableojkjhicaa.hp Go.Proofs.Ythableojkjhicaa.cel Go.Proofs.Ythableojkjhicaa.kp Go.Proofs.Ythableojkjhicaa.tm Go.Proofs.Ythableojkjhicaa.pm Go.Proofs.Ythableojkjhicaa.sl
set_option linter.unusedVariables false
theorem gvD {l : List Int} (p : Nat) : gv l (p : Int) = l.getD p 0 := by
  unfold gv
  by_cases h : p < l.length
  · rw [if_pos ⟨by omega, by omega⟩]; simp
  · rw [if_neg (by omega), List.getD_eq_getElem?_getD, List.getElem?_eq_none (by omega)]; rfl
theorem gbD {l : List Int} {p : Nat} (h : p < l.length) : gb l (p : Int) = true := decide_eq_true ⟨by omega, by omega⟩
theorem jn_at {t : Int} (h0 : 0 ≤ t) (h1 : t < 8) (p : Nat) (hp : p ≤ 1048576) : jn t p % 8 = t ∧ jn t p / 8 = (p : Int) := by
  unfold jn; omega
theorem jn6 {j n : Nat} (hj : j < 4096) (h1 : 1 ≤ n) (h2 : n ≤ 20) : pa (jn 6 ((j : Int) * 256 + n)) = (j : Int) ∧ pk (jn 6 ((j : Int) * 256 + n)) = (n : Int) := by
  have e : jn 6 ((j : Int) * 256 + n) = ((j : Int) * 256 + n) * 8 + 6 := by unfold jn; omega
  rw [e]
  unfold pa pk
  rw [if_pos (by omega), if_pos (by omega)]
  omega
/-- what the cell of a laid term is, that is no variable -/
def Hd (s : S) (k : Int) (n : ByteArray) (i re im : Int) (len : Nat) (d : ND) : Prop :=
  d.ok = true ∧ d.k = k ∧ (k = 2 → ∃ j : Nat, d.w0 = (j : Int) ∧ d.w1 = 0 ∧ s.a[j]? = some n) ∧ (k = 3 → d.w0 = u64 i ∧ d.w1 = 0) ∧ (k = 4 → d.w0 = re ∧ d.w1 = im) ∧
    (k = 5 → ∃ j : Nat, j < 4096 ∧ d.w0 = jn 6 ((j : Int) * 256 + len) ∧ d.w1 = 0 ∧ s.a[j]? = some n ∧ d.a = (len : Int))
theorem u64_jn3 {i : Int} (h : so i = true) : IntKind.u64.wrap (sg (sv i)) = u64 i ∧ sv i % 8 = 3 := by
  have h := of_decide_eq_true h
  unfold sv
  rw [if_pos h]
  unfold u64 sg jn wrap64
  rw [IntKind.wrap_u64, IntKind.wrap_u64]
  constructor <;> omega
theorem rep_hd {s : S} {k : Int} {n : ByteArray} {i re im : Int} {l : List Tm} {c : Int} (h : Rep NN s (.mk k n i re im l) c) (hg : sound (.mk k n i re im l) = true) (hk : k ≠ 1) (hl : s.h.length ≤ 1048576) : c % 8 ≠ 0 ∧ Hd s k n i re im l.length (nd s.h c) := by
  have hs : chk (.mk k n i re im l) = 0 := by
    rw [sound] at hg
    simp only [Bool.and_eq_true, decide_eq_true_eq] at hg
    exact hg.1
  rw [Rep] at h
  unfold Hd
  by_cases k2 : k = 2
  · subst k2
    rw [if_pos rfl] at h
    obtain ⟨j, rfl, hj, ha⟩ := h
    obtain ⟨e1, e2⟩ := jn_at (t := 2) (by omega) (by omega) j (by omega)
    have hn : nd s.h (jn 2 (j : Int)) = ⟨2, (j : Int), 0, 0, 0, true⟩ := by unfold nd; rw [if_neg (by omega), if_neg (by omega), if_pos e1, e2]
    rw [hn]
    exact ⟨by omega, rfl, rfl, fun _ => ⟨j, rfl, rfl, ha⟩, fun h => by omega, fun h => by omega, fun h => by omega⟩
  rw [if_neg k2] at h
  by_cases k3 : k = 3
  · subst k3
    rw [if_pos rfl] at h
    by_cases hso : so i = true
    · rw [if_pos hso] at h
      subst h
      obtain ⟨e1, e2⟩ := u64_jn3 hso
      have hn : nd s.h (sv i) = ⟨3, u64 i, 0, 0, 0, true⟩ := by unfold nd; rw [if_neg (by omega), if_neg (by omega), if_neg (by omega), if_pos e2, e1]
      rw [hn]
      exact ⟨by omega, rfl, rfl, fun h => by omega, fun _ => ⟨rfl, rfl⟩, fun h => by omega, fun h => by omega⟩
    · rw [if_neg hso] at h
      obtain ⟨p, rfl, _, hp, hv⟩ := h
      obtain ⟨e1, e2⟩ := jn_at (t := 4) (by omega) (by omega) p (by omega)
      have hn : nd s.h (jn 4 (p : Int)) = ⟨3, u64 i, 0, 0, 0, true⟩ := by unfold nd; rw [if_neg (by omega), if_neg (by omega), if_neg (by omega), if_neg (by omega), if_pos e1, e2, gvD, hv, gbD hp]
      rw [hn]
      exact ⟨by omega, rfl, rfl, fun h => by omega, fun _ => ⟨rfl, rfl⟩, fun h => by omega, fun h => by omega⟩
  rw [if_neg k3] at h
  by_cases k4 : k = 4
  · subst k4
    rw [if_pos rfl] at h
    obtain ⟨p, rfl, _, _, hp, hv, hv2⟩ := h
    obtain ⟨e1, e2⟩ := jn_at (t := 5) (by omega) (by omega) p (by omega)
    have hn : nd s.h (jn 5 (p : Int)) = ⟨4, re, im, 0, 0, true⟩ := by
      unfold nd
      rw [if_neg (by omega), if_neg (by omega), if_neg (by omega), if_neg (by omega), if_neg (by omega), if_pos e1, e2, show (p : Int) + 1 = ((p + 1 : Nat) : Int) by omega, gvD, gvD, hv, hv2, gbD hp]
    rw [hn]
    exact ⟨by omega, rfl, rfl, fun h => by omega, fun h => by omega, fun _ => ⟨rfl, rfl⟩, fun h => by omega⟩
  rw [if_neg k4, if_neg hk] at h
  have k5 : k = 5 := by
    rw [chk, if_neg hk, if_neg k2, if_neg k3, if_neg k4] at hs
    by_cases h5 : k = 5
    · exact h5
    · rw [if_neg h5] at hs; cases hs
  subst k5
  have hlen : 1 ≤ l.length ∧ l.length ≤ 20 := by
    rw [chk, if_neg hk, if_neg k2, if_neg k3, if_neg k4, if_pos rfl] at hs
    split at hs
    · cases hs
    split at hs
    · cases hs
    omega
  obtain ⟨p, j, rfl, _, hp, hj, hf, ha, hL⟩ := h
  obtain ⟨e1, e2⟩ := jn_at (t := 1) (by omega) (by omega) p (by omega)
  obtain ⟨f1, f2⟩ := jn6 hj hlen.1 hlen.2
  have hn : nd s.h (jn 1 (p : Int)) = ⟨5, jn 6 ((j : Int) * 256 + l.length), 0, (p : Int) + 1, (l.length : Int), true⟩ := by
    unfold nd
    rw [if_neg (by omega), if_pos e1, e2]
    unfold cn
    rw [gvD, hf, f1, f2, if_pos (show fo (j : Int) (l.length : Int) = true from decide_eq_true ⟨by omega, by omega, by omega, by omega⟩), show (p : Int) + (l.length : Int) = ((p + l.length : Nat) : Int) by omega, gbD hp]
  rw [hn]
  exact ⟨by omega, rfl, rfl, fun h => by omega, fun h => by omega, fun h => by omega, fun _ => ⟨j, hj, rfl, rfl, ha, rfl⟩⟩
theorem comp_len {n : ByteArray} {i re im : Int} {l : List Tm} (h : sound (.mk 5 n i re im l) = true) : 1 ≤ l.length ∧ l.length ≤ 20 := by
  rw [sound] at h
  simp only [Bool.and_eq_true, decide_eq_true_eq] at h
  have hs := h.1
  rw [chk, if_neg (by decide), if_neg (by decide), if_neg (by decide), if_neg (by decide), if_pos rfl] at hs
  split at hs
  · cases hs
  split at hs
  · cases hs
  omega
theorem tag_off {l : List Int} {c : Int} (h : c % 8 ≠ 0) : dr l l.length c = c := dr_off (fun hh => h hh.1) _
/-- unlike heads -/
def Unl : Tm → Tm → Prop
  | .mk k n i re im l, .mk k' n' i' re' im' l' => k ≠ 1 ∧ k' ≠ 1 ∧ (k ≠ k' ∨ (k = 5 ∧ (n ≠ n' ∨ l.length ≠ l'.length)) ∨ (k = 2 ∧ n ≠ n') ∨ (k = 3 ∧ i ≠ i') ∨ (k = 4 ∧ ¬ (re = re' ∧ im = im')))
theorem u64_inj {i j : Int} (hi : I64 i) (hj : I64 j) (h : u64 i = u64 j) : i = j := by
  unfold u64 at h
  rw [IntKind.wrap_u64, IntKind.wrap_u64] at h
  unfold I64 at hi hj
  omega
theorem uni_unlike {s : S} {A B : Tm} {x y : Int} (ha : Laid s A x) (hb : Laid s B y) (ga : good A = true) (gb : good B = true) (ia : ints A) (ib : ints B) (hl : s.h.length ≤ 1048576) (hu : Unl A B) (L : List Wr) : (uniT s.h L x y).is = false ∧ (uniT s.h L x y).e = 0 := by
  obtain ⟨k, n, i, re, im, l⟩ := A
  obtain ⟨k', n', i', re', im', l'⟩ := B
  obtain ⟨u1, u2, u3⟩ := hu
  obtain ⟨x0, x1, x2, x3, x4, x5, x6⟩ := rep_hd ha.rep (good_sound ga) u1 hl
  obtain ⟨y0, y1, y2, y3, y4, y5, y6⟩ := rep_hd hb.rep (good_sound gb) u2 hl
  have e : uniT s.h L x y = ⟨false, 0, s.h, L, 99999⟩ := by
    unfold uniT
    rw [show (100001 : Nat) = 100000 + 1 from rfl, show (100000 : Nat) = 99999 + 1 from rfl]
    rw [uni_step, tag_off x0, tag_off y0]
    unfold stepU
    rw [x1, y1, if_neg (by simp), if_neg (by rw [x2, y2]; exact fun h => h.elim u1 u2), if_pos ?_]
    rw [x2, y2]
    by_cases hk : k = k'
    · right
      subst hk
      rintro ⟨h1, h2⟩
      rcases u3 with h | ⟨h5, h⟩ | ⟨h2k, h⟩ | ⟨h3k, h⟩ | ⟨h4k, h⟩
      · exact h rfl
      · obtain ⟨j, hj, e0, _, ea, _⟩ := x6 h5
        obtain ⟨j', hj', e0', _, ea', _⟩ := y6 h5
        rw [e0, e0'] at h1
        have hla : l.length ≤ 20 ∧ l'.length ≤ 20 := by
          have g1 := good_sound ga
          have g2 := good_sound gb
          subst h5
          exact ⟨(comp_len g1).2, (comp_len g2).2⟩
        have hjj : j = j' ∧ l.length = l'.length := by unfold jn at h1; omega
        obtain ⟨rfl, hll⟩ := hjj
        rw [ea] at ea'
        injection ea' with ea'
        exact h.elim (fun h => h ea') (fun h => h hll)
      · obtain ⟨j, e0, _, ea⟩ := x3 h2k
        obtain ⟨j', e0', _, ea'⟩ := y3 h2k
        rw [e0, e0'] at h1
        obtain rfl : j = j' := by omega
        rw [ea] at ea'
        injection ea' with ea'
        exact h ea'
      · rw [(x4 h3k).1, (y4 h3k).1] at h1
        subst h3k
        rw [ints] at ia ib
        exact h (u64_inj (ia.1 rfl) (ib.1 rfl) h1)
      · rw [(x5 h4k).1, (y5 h4k).1] at h1
        rw [(x5 h4k).2, (y5 h4k).2] at h2
        exact h ⟨h1, h2⟩
    · exact Or.inl hk
  rw [e]
  exact ⟨rfl, rfl⟩
end Go.Proofs.Ythableojkjhicaa.un
