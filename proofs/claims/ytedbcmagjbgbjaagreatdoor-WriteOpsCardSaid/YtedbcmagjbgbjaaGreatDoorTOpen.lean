/- Terms that came in as arguments: each value that reads as one is one. -/
import Derived.Test.YtedbcmagjbgbjaaGreatDoorWalk
import Derived.WalkKit
import Derived.ProofKit
import Derived.OpenShut
import Derived.SizedLaws
namespace Go.Proofs.YtedbcmagjbgbjaaGreatDoor.top
set_option linter.unusedVariables false
open Go.ChangeShapes Go.WideShapes Go.ChangeAt Go.RowKit
open Go.Proofs.YtedbcmagjbgbjaaGreatDoor.tm Go.Proofs.YtedbcmagjbgbjaaGreatDoor.lie Go.Proofs.YtedbcmagjbgbjaaGreatDoor.kp
set_option maxRecDepth 100000 in
theorem c25 : Tryz.prog.cellsOf 27 = 6 := by kernel_rfl
set_option maxRecDepth 100000 in
theorem one (t : TypeId) (h : Tryz.prog.cellsOf t = 1) (cs : List Value) (j : Nat) (v : Value) (hj : cs[j]? = some v) : (cs.drop j).take (Tryz.prog.cellsOf t) = [v] := by
  rw [h]
  obtain ⟨hl, rfl⟩ := List.getElem?_eq_some_iff.1 hj
  rw [List.drop_eq_getElem_cons hl]
  rfl
set_option maxRecDepth 100000 in
theorem wf_bounds64 {n : Int} (h : (Lit.int .i64 n).wf = true) : -9223372036854775808 ≤ n ∧ n ≤ 9223372036854775807 := by
  have e1 : IntKind.i64.min = -9223372036854775808 := by decide
  have e2 : IntKind.i64.max = 9223372036854775807 := by decide
  simp only [Lit.wf, e1, e2, Bool.and_eq_true, decide_eq_true_eq] at h
  exact h
set_option maxRecDepth 100000 in
theorem wf_boundsU {n : Int} (h : (Lit.int .u64 n).wf = true) : 0 ≤ n ∧ n ≤ 18446744073709551615 := by
  have e1 : IntKind.u64.min = 0 := by decide
  have e2 : IntKind.u64.max = 18446744073709551615 := by decide
  simp only [Lit.wf, e1, e2, Bool.and_eq_true, decide_eq_true_eq] at h
  exact h
set_option maxRecDepth 100000 in
/-- as many terms as there are places -/
theorem row_of {W : World} {base : Nat} {a : Addr} : ∀ (len : Nat), (∀ j, j < len → ∃ (t : Tm) (v0 v1 v2 v3 v4 v5 : Value), W.cells? base (a.add (j * 6)) 6 = some [v0, v1, v2, v3, v4, v5] ∧ Lies No W t (.agg #[v0, v1, v2, v3, v4, v5])) →
    ∃ l : List Tm, l.length = len ∧ TRow No W l (some a) 0 := by
  intro len key
  have hch : ∃ f : Nat → Tm, ∀ j, j < len → ∃ (v0 v1 v2 v3 v4 v5 : Value), W.cells? base (a.add (j * 6)) 6 = some [v0, v1, v2, v3, v4, v5] ∧ Lies No W (f j) (.agg #[v0, v1, v2, v3, v4, v5]) :=
    ⟨fun j => if h : j < len then Classical.choose (key j h) else zero, fun j hj => by simp only [dif_pos hj]; exact Classical.choose_spec (key j hj)⟩
  obtain ⟨f, hf⟩ := hch
  refine ⟨(List.range len).map f, by simp, TRow.mk _ _ fun m hm => ?_⟩
  simp only [List.length_map, List.length_range] at hm
  obtain ⟨v0, v1, v2, v3, v4, v5, hc, hl⟩ := hf m hm
  obtain ⟨_, _, hcell⟩ := World.cells?_some hc
  obtain ⟨b, o, spot⟩ := a
  have hspot : spot = none := by
    obtain ⟨u0, u1, u2, u3, u4, u5, hc0, _⟩ := hf 0 (by omega)
    have h0 := (World.cells?_some hc0).2.2 0 (by omega)
    simpa [Addr.add] using World.cell?_spot h0
  subst hspot
  refine ⟨b, o, v0, v1, v2, v3, v4, v5, rfl, id, ?_, by simpa using hl⟩
  have e : ∀ i v, i < 6 → [v0, v1, v2, v3, v4, v5][i]? = some v → W.cell? ⟨b, o + (0 + m) * 6 + i, none⟩ = some v := fun i v hi hv => by
    have := hcell i hi
    rw [hv, add_plain, add_plain] at this
    rw [Nat.zero_add]
    exact this
  exact ⟨e 0 _ (by omega) rfl, e 1 _ (by omega) rfl, e 2 _ (by omega) rfl, e 3 _ (by omega) rfl, e 4 _ (by omega) rfl, e 5 _ (by omega) rfl⟩
set_option maxRecDepth 100000 in
theorem term_open {H : Type} {enc : TypeId × Value → H} {W : World} {base : Nat} {sp : Nat → Bool} {held : Bool} : ∀ (fuel : Nat) (cs : List Value) (x : DataW H × List MemPlace),
    DataW.trod enc Tryz.prog W base sp held fuel 27 cs = some x → ∃ (t : Tm) (v0 v1 v2 v3 v4 v5 : Value), cs = [v0, v1, v2, v3, v4, v5] ∧ Lies No W t (.agg #[v0, v1, v2, v3, v4, v5]) := by
  intro fuel
  induction fuel using Nat.strongRecOn with
  | _ fuel ih =>
    intro cs x h
    obtain ⟨xs, n, hn, hx, hl, hxl, hf⟩ := DataW.trod_struct Tryz.underlying27 h
    rw [c25] at hl
    match cs, hl with
    | [u0, u1, u2, u3, u4, u5], _ =>
      have f0 := hf 0 _ rfl
      have f1 := hf 1 _ rfl
      have f2 := hf 2 _ rfl
      have f3 := hf 3 _ rfl
      have f4 := hf 4 _ rfl
      have f5 := hf 5 _ rfl
      rw [one _ (by kernel_rfl) _ _ u0 rfl] at f0
      rw [one _ (by kernel_rfl) _ _ u1 rfl] at f1
      rw [one _ (by kernel_rfl) _ _ u2 rfl] at f2
      rw [one _ (by kernel_rfl) _ _ u3 rfl] at f3
      rw [one _ (by kernel_rfl) _ _ u4 rfl] at f4
      rw [one _ (by kernel_rfl) _ _ u5 rfl] at f5
      have hxs : ∀ j, j < 6 → ∃ y, xs[j]? = some y := fun j hj => ⟨_, List.getElem?_eq_getElem (by rw [hxl]; exact hj)⟩
      obtain ⟨y0, e0⟩ := hxs 0 (by omega)
      obtain ⟨y1, e1⟩ := hxs 1 (by omega)
      obtain ⟨y2, e2⟩ := hxs 2 (by omega)
      obtain ⟨y3, e3⟩ := hxs 3 (by omega)
      obtain ⟨y4, e4⟩ := hxs 4 (by omega)
      obtain ⟨y5, e5⟩ := hxs 5 (by omega)
      obtain ⟨k, hk, _, wk⟩ := DataW.trod_int Tryz.underlying3 (f0.trans e0)
      obtain ⟨s, hs, _, ws⟩ := DataW.trod_string Tryz.underlying9 (f1.trans e1)
      obtain ⟨i, hi, _, wi⟩ := DataW.trod_int Tryz.underlying2 (f2.trans e2)
      obtain ⟨re, hre, _, wre⟩ := DataW.trod_int Tryz.underlying22 (f3.trans e3)
      obtain ⟨im, him, _, wim⟩ := DataW.trod_int Tryz.underlying22 (f4.trans e4)
      simp only [List.cons.injEq, and_true] at hk hs hi hre him
      subst hk; subst hs; subst hi; subst hre; subst him
      have bk := wf_bounds64 wk
      have bi := wf_bounds64 wi
      have bre := wf_boundsU wre
      have bim := wf_boundsU wim
      unfold maxLen at ws
      rcases DataW.trod_slice Tryz.underlying25 (f5.trans e5) with ⟨h5, _⟩ | ⟨a, len, cap, elems, rest, m, hm, h5, _, hb, hlc, hcm, hlen, hel, _⟩
      · simp only [List.cons.injEq, and_true] at h5
        subst h5
        refine ⟨.mk k s i re im [], _, _, _, _, _, _, rfl, ?_⟩
        rw [Lies]
        exact ⟨none, 0, rfl, ⟨bk.1, bk.2, ws, bi.1, bi.2, bre.1, bre.2, bim.1, bim.2, by simp, by simp⟩, by rw [TRow]; trivial⟩
      · simp only [List.cons.injEq, and_true] at h5
        subst h5
        have key : ∀ j, j < len → ∃ (t : Tm) (v0 v1 v2 v3 v4 v5 : Value), W.cells? base (a.add (j * 6)) 6 = some [v0, v1, v2, v3, v4, v5] ∧ Lies No W t (.agg #[v0, v1, v2, v3, v4, v5]) := by
          intro j hj
          have := hel j hj
          rw [c25, List.getElem?_eq_getElem (by omega)] at this
          obtain ⟨cs', hc, ht⟩ := Option.bind_eq_some_iff.1 this
          obtain ⟨t, v0, v1, v2, v3, v4, v5, rfl, hl⟩ := ih m (by omega) cs' _ ht
          exact ⟨t, v0, v1, v2, v3, v4, v5, hc, hl⟩
        obtain ⟨l, hl, hr⟩ := row_of len key
        subst hl
        refine ⟨.mk k s i re im l, _, _, _, _, _, _, rfl, ?_⟩
        rw [Lies]
        exact ⟨some a, cap, rfl, ⟨bk.1, bk.2, ws, bi.1, bi.2, bre.1, bre.2, bim.1, bim.2, hlc, by unfold maxLen at hcm; exact hcm⟩, hr⟩
set_option maxRecDepth 100000 in
theorem cells_agg (cs : Array Value) : (Value.agg cs).cells.toList = cs.toList := by simp [Value.cells]
set_option maxRecDepth 100000 in
/-- an argument that is a term -/
theorem term_arg {H : Type} {enc : TypeId × Value → H} {W : World} {base : Nat} {sp : Nat → Bool} {held : Bool} {v : Value} {d : DataW H} {p : List MemPlace} (hv : ∃ cs, v = .agg cs) (h : DataW.Trod enc Tryz.prog W base sp held 27 v d p) : ∃ t, Lies No W t v := by
  obtain ⟨cs, rfl⟩ := hv
  obtain ⟨fuel, hf⟩ := h
  obtain ⟨t, v0, v1, v2, v3, v4, v5, hc, hl⟩ := term_open fuel _ _ hf
  rw [cells_agg] at hc
  have : cs = #[v0, v1, v2, v3, v4, v5] := Array.ext' hc
  subst this
  exact ⟨t, hl⟩
set_option maxRecDepth 100000 in
/-- an argument that is a slice of terms -/
theorem slice_arg {H : Type} {enc : TypeId × Value → H} {W : World} {base : Nat} {sp : Nat → Bool} {held : Bool} {a : Option Addr} {n c : Nat} {d : DataW H} {p : List MemPlace} (h : DataW.Trod enc Tryz.prog W base sp held 25 (.slice a n c) d p)
    (hsz : ∀ x y, d = .slice x y → (x.length + y.length) * Tryz.prog.bytesOf 27 ≤ reachBytes) : ∃ l : List Tm, l.length = n ∧ TRow No W l a 0 ∧ n ≤ c ∧ c ≤ maxLen ∧ n * 72 ≤ 140737488351232 := by
  have hb : Tryz.prog.bytesOf 27 = 72 := by kernel_rfl
  have hr : reachBytes = 140737488351232 := by decide
  obtain ⟨fuel, hf⟩ := h
  rcases DataW.trod_slice Tryz.underlying25 hf with ⟨h5, _⟩ | ⟨a', len, cap, elems, rest, m, hm, h5, hx, hb', hlc, hcm, hlen, hel, _⟩
  · simp [Value.cells] at h5
    obtain ⟨rfl, rfl, rfl⟩ := h5
    exact ⟨[], rfl, by rw [TRow]; trivial, by omega, by simp [maxLen], by omega⟩
  · simp [Value.cells] at h5
    obtain ⟨rfl, rfl, rfl⟩ := h5
    simp only [Prod.mk.injEq] at hx
    obtain ⟨rfl, rfl⟩ := hx
    have h1 := hsz _ _ rfl
    rw [hb, hr] at h1
    simp only [List.length_map] at h1
    obtain ⟨l, hl, hrow⟩ := row_of (W := W) (base := base) (a := a') n (fun j hj => by
      have := hel j hj
      rw [c25, List.getElem?_eq_getElem (by omega)] at this
      obtain ⟨cs', hc, ht⟩ := Option.bind_eq_some_iff.1 this
      obtain ⟨t, v0, v1, v2, v3, v4, v5, rfl, hl⟩ := term_open m cs' _ ht
      exact ⟨t, v0, v1, v2, v3, v4, v5, hc, hl⟩)
    exact ⟨l, hl, hrow, hlc, hcm, by omega⟩
end Go.Proofs.YtedbcmagjbgbjaaGreatDoor.top
