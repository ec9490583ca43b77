/- The laws' own: awake; the reference's Var, Atom, Comp. -/
import Derived.Test.YtjgkgceigbimoaaRen
namespace Go.Proofs.Ytjgkgceigbimoaa.awk
set_option linter.unusedVariables false
open Go.ChangeShapes Go.WideShapes Go.ChangeAt Go.RowKit
open Go.Proofs.Ytjgkgceigbimoaa.tm Go.Proofs.Ytjgkgceigbimoaa.lie Go.Proofs.Ytjgkgceigbimoaa.kp Go.Proofs.Ytjgkgceigbimoaa.wlk Go.Proofs.Ytjgkgceigbimoaa.cur Go.Proofs.Ytjgkgceigbimoaa.rws Go.Proofs.Ytjgkgceigbimoaa.pln Go.Proofs.Ytjgkgceigbimoaa.mes Go.Proofs.Ytjgkgceigbimoaa.vrs Go.Proofs.Ytjgkgceigbimoaa.pla Go.Proofs.Ytjgkgceigbimoaa.ren
theorem rVar_any (n : Int) (w : World) :
    Calls Try.prog 24 #[.int .i64 n] w fun e w' => e = .returned (.agg #[.int .i64 1, .string ⟨#[]⟩, .int .i64 n, .int .u64 0, .int .u64 0, .slice none 0 0]) ∧ Below w.heap.size w w' := by
  go_enter Try.func24, Try.ntmps24
  go_wp2_with fail
  exact bodyPost_ret (v := .agg #[.int .i64 1, .string ⟨#[]⟩, .int .i64 n, .int .u64 0, .int .u64 0, .slice none 0 0]) (by simp [results, Try.results24, go_sem]) rfl ⟨rfl, ba w _⟩
theorem rAtom_any (n : ByteArray) (w : World) :
    Calls Try.prog 19 #[.string n] w fun e w' => e = .returned (.agg #[.int .i64 2, .string n, .int .i64 0, .int .u64 0, .int .u64 0, .slice none 0 0]) ∧ Below w.heap.size w w' := by
  go_enter Try.func19, Try.ntmps19
  go_wp2_with fail
  exact bodyPost_ret (v := .agg #[.int .i64 2, .string n, .int .i64 0, .int .u64 0, .int .u64 0, .slice none 0 0]) (by simp [results, Try.results19, go_sem]) rfl ⟨rfl, ba w _⟩
theorem rComp_any (n : ByteArray) (a : Option Addr) (len c : Nat) (w : World) :
    Calls Try.prog 28 #[.string n, .slice a len c] w fun e w' => e = .returned (.agg #[.int .i64 5, .string n, .int .i64 0, .int .u64 0, .int .u64 0, .slice a len c]) ∧ Below w.heap.size w w' := by
  go_enter Try.func28, Try.ntmps28
  go_wp2_with fail
  exact bodyPost_ret (v := .agg #[.int .i64 5, .string n, .int .i64 0, .int .u64 0, .int .u64 0, .slice a len c]) (by simp [results, Try.results28, go_sem]) rfl ⟨rfl, ba w _⟩
theorem renT : renR (comp ⟨#[102]⟩ [var 7, var 3, var 7]) = comp ⟨#[102]⟩ [var 0, var 1, var 0] := by rfl
/-- a compound in memory -/
theorem comp_lies {X : Nat → Prop} {w : World} {n : ByteArray} {l : List Tm} {a : Option Addr} {c : Nat} (hn : n.size ≤ 9223372036854775807) (hl : l.length ≤ c) (hc : c ≤ maxLen) (hr : TRow X w l a 0) :
    Lies X w (comp n l) (.agg #[.int .i64 5, .string n, .int .i64 0, .int .u64 0, .int .u64 0, .slice a l.length c]) := by
  rw [comp, Lies]
  exact ⟨a, c, rfl, ⟨by omega, by omega, hn, by omega, by omega, by omega, by omega, by omega, by omega, hl, by unfold maxLen at hc; exact hc⟩, hr⟩
theorem atom_lies (X : Nat → Prop) (n : ByteArray) (w : World) (hn : n.size ≤ 9223372036854775807) : Lies X w (atom n) (.agg #[.int .i64 2, .string n, .int .i64 0, .int .u64 0, .int .u64 0, .slice none 0 0]) := by
  rw [atom, Lies]
  exact ⟨none, 0, rfl, ⟨by omega, by omega, hn, by omega, by omega, by omega, by omega, by omega, by omega, by simp, by simp⟩, by rw [TRow]; trivial⟩
/-- terms side by side in a new block -/
theorem row_new (w : World) (cs : Array Value) (l : List Tm) (h : ∀ (m : Nat) (hm : m < l.length), ∃ v0 v1 v2 v3 v4 v5, cs[m * 6]? = some v0 ∧ cs[m * 6 + 1]? = some v1 ∧ cs[m * 6 + 2]? = some v2 ∧ cs[m * 6 + 3]? = some v3 ∧ cs[m * 6 + 4]? = some v4 ∧ cs[m * 6 + 5]? = some v5 ∧
    Lies No w l[m] (.agg #[v0, v1, v2, v3, v4, v5])) : TRow No (w.alloc (.cells cs 25)) l (some ⟨w.heap.size, 0, none⟩) 0 := by
  refine TRow.mk l 0 fun m hm => ?_
  obtain ⟨v0, v1, v2, v3, v4, v5, h0, h1, h2, h3, h4, h5, ht⟩ := h m hm
  have e := fun j x (hj : cs[j]? = some x) => alloc_cell w (.cells cs 25) cs 25 x j rfl hj
  refine ⟨w.heap.size, 0, v0, v1, v2, v3, v4, v5, rfl, id, ?_, ht.below (ba w _)⟩
  simp only [Nat.zero_add]
  exact ⟨e _ _ h0, e _ _ h1, e _ _ h2, e _ _ h3, e _ _ h4, e _ _ h5⟩
theorem awake_any (w : World) : Calls Try.prog 7 #[] w fun e w' => e = .returned (.bool true) ∧ Below w.heap.size w w' := by
  go_enter Try.func7, Try.ntmps7
  go_wp2_with fail
  refine (rVar_any 7 _).mono ?_
  rintro e w1 ⟨rfl, hb1⟩
  have H1 := Lib.hid hb1
  clear hb1
  go_wp2_with fail
  refine (rVar_any 3 _).mono ?_
  rintro e w2 ⟨rfl, hb2⟩
  have H2 := Lib.hid (bt H1.out hb2)
  clear hb2
  go_wp2_with fail
  refine (rVar_any 7 _).mono ?_
  rintro e w3 ⟨rfl, hb3⟩
  have H3 := Lib.hid (bt H2.out hb3)
  clear hb3
  go_wp2_with fail
  refine (rComp_any _ _ _ _ _).mono ?_
  rintro e w4 ⟨rfl, hb4⟩
  have hrow := row_new w3 #[.int .i64 1, .string ⟨#[]⟩, .int .i64 7, .int .u64 0, .int .u64 0, .slice none 0 0, .int .i64 1, .string ⟨#[]⟩, .int .i64 3, .int .u64 0, .int .u64 0, .slice none 0 0, .int .i64 1, .string ⟨#[]⟩, .int .i64 7, .int .u64 0, .int .u64 0, .slice none 0 0] [var 7, var 3, var 7] (fun m hm => by
    match m, hm with
    | 0, _ => exact ⟨_, _, _, _, _, _, rfl, rfl, rfl, rfl, rfl, rfl, var_lies No 7 w3 (by omega) (by omega)⟩
    | 1, _ => exact ⟨_, _, _, _, _, _, rfl, rfl, rfl, rfl, rfl, rfl, var_lies No 3 w3 (by omega) (by omega)⟩
    | 2, _ => exact ⟨_, _, _, _, _, _, rfl, rfl, rfl, rfl, rfl, rfl, var_lies No 7 w3 (by omega) (by omega)⟩)
  have hl4 := comp_lies (n := ⟨#[102]⟩) (c := 3) (show (1 : Nat) ≤ 9223372036854775807 by omega) (by simp) (by simp [maxLen]) (hrow.below hb4)
  have H4 := Lib.hid (And.intro hl4 (bt (bt H3.out (ba w3 _)) hb4))
  clear hrow hl4 hb4
  go_wp2_with fail
  refine (ren_any _ _ _ H4.out.1).mono ?_
  rintro e w5 ⟨kq, nq, iq, req, imq, aq, lq, cq, rfl, hb5, hq⟩
  rw [renT] at hq
  obtain ⟨l5, he, hlen, hfit, hT⟩ := lies_parts hq
  simp only [comp, Tm.mk.injEq] at he
  obtain ⟨rfl, rfl, rfl, rfl, rfl, rfl⟩ := he
  simp only [List.length_cons, List.length_nil] at hlen
  subst hlen
  obtain ⟨b0, o0, a0, a1, a2, a3, a4, a5, _, _, h60, ht0, hk0⟩ := hT.look (m := 0) (by simp)
  obtain ⟨b1, o1, c0, c1, c2, c3, c4, c5, _, _, h61, ht1, hk1⟩ := hT.look (m := 1) (by simp)
  obtain ⟨b2, o2, d0, d1, d2, d3, d4, d5, _, _, h62, ht2, hk2⟩ := hT.look (m := 2) (by simp)
  have g0 : (a2 = .int .i64 0) := by
    change Lies _ _ (var 0) _ at ht0
    rw [var, Lies] at ht0
    obtain ⟨_, _, hv, _⟩ := ht0
    simp only [Value.agg.injEq, Array.mk.injEq, List.cons.injEq, and_true] at hv
    exact hv.2.2.1
  have g1 : (c2 = .int .i64 1) := by
    change Lies _ _ (var 1) _ at ht1
    rw [var, Lies] at ht1
    obtain ⟨_, _, hv, _⟩ := ht1
    simp only [Value.agg.injEq, Array.mk.injEq, List.cons.injEq, and_true] at hv
    exact hv.2.2.1
  have g2 : (d2 = .int .i64 0) := by
    change Lies _ _ (var 0) _ at ht2
    rw [var, Lies] at ht2
    obtain ⟨_, _, hv, _⟩ := ht2
    simp only [Value.agg.injEq, Array.mk.injEq, List.cons.injEq, and_true] at hv
    exact hv.2.2.1
  subst g0; subst g1; subst g2
  have m0 := fun (o : Obj) => ((ba w5 o).cell (p := ⟨b0, o0 + 2, none⟩) (cell_lt h60.1)).trans h60.2.2.1
  have m1 := fun (o : Obj) => ((ba w5 o).cell (p := ⟨b1, o1 + 2, none⟩) (cell_lt h61.1)).trans h61.2.2.1
  have m2 := fun (o : Obj) => ((ba w5 o).cell (p := ⟨b2, o2 + 2, none⟩) (cell_lt h62.1)).trans h62.2.2.1
  have k0 : ∀ (w' : World), (Instr.indexAt 22 (.slice aq 3 cq) (.int .i64 0)).run Try.prog w' = .ok (.pointer (some ⟨b0, o0, none⟩)) w' := fun w' => hk0 cq w'
  have k1 : ∀ (w' : World), (Instr.indexAt 22 (.slice aq 3 cq) (.int .i64 1)).run Try.prog w' = .ok (.pointer (some ⟨b1, o1, none⟩)) w' := fun w' => hk1 cq w'
  have k2 : ∀ (w' : World), (Instr.indexAt 22 (.slice aq 3 cq) (.int .i64 2)).run Try.prog w' = .ok (.pointer (some ⟨b2, o2, none⟩)) w' := fun w' => hk2 cq w'
  have H5 := Lib.hid (bt H4.out.2 hb5)
  clear hb5 hq hfit hT h60 h61 h62 ht0 ht1 ht2 hk0 hk1 hk2
  go_wp2_with fail
  go_ret
  exact ⟨rfl, bt H5.out (ba w5 _)⟩
end Go.Proofs.Ytjgkgceigbimoaa.awk
