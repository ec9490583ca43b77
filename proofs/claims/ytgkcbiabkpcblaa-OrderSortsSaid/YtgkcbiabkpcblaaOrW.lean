/- Law 9's awake: an order that every program must know. -/
import Derived.Test.YtgkcbiabkpcblaaOrI
namespace Go.Proofs.Ytgkcbiabkpcblaa.odw
open Go.ChangeShapes Go.WideShapes Go.ChangeAt Go.RowKit
set_option linter.unusedVariables false
open Go.Proofs.Ytgkcbiabkpcblaa.tm Go.Proofs.Ytgkcbiabkpcblaa.lie Go.Proofs.Ytgkcbiabkpcblaa.kp Go.Proofs.Ytgkcbiabkpcblaa.cur Go.Proofs.Ytgkcbiabkpcblaa.rws Go.Proofs.Ytgkcbiabkpcblaa.pla Go.Proofs.Ytgkcbiabkpcblaa.lev Go.Proofs.Ytgkcbiabkpcblaa.pln Go.Proofs.Ytgkcbiabkpcblaa.ow6 Go.Proofs.Ytgkcbiabkpcblaa.mes Go.Proofs.Ytgkcbiabkpcblaa.odm Go.Proofs.Ytgkcbiabkpcblaa.odb Go.Proofs.Ytgkcbiabkpcblaa.odc Go.Proofs.Ytgkcbiabkpcblaa.ods Go.Proofs.Ytgkcbiabkpcblaa.ode Go.Proofs.Ytgkcbiabkpcblaa.odf Go.Proofs.Ytgkcbiabkpcblaa.odg Go.Proofs.Ytgkcbiabkpcblaa.odh Go.Proofs.Ytgkcbiabkpcblaa.odi Go.Proofs.Ytgkcbiabkpcblaa.awk
theorem rInt_any (n : Int) (w : World) :
    Calls Try.prog 28 #[.int .i64 n] w fun e w' => e = .returned (.agg #[.int .i64 3, .string ⟨#[]⟩, .int .i64 n, .int .u64 0, .int .u64 0, .slice none 0 0]) ∧ Below w.heap.size w w' := by
  go_enter Try.func28, Try.ntmps28
  go_wp2_with fail
  exact bodyPost_ret (v := .agg #[.int .i64 3, .string ⟨#[]⟩, .int .i64 n, .int .u64 0, .int .u64 0, .slice none 0 0]) (by simp [results, Try.results28, go_sem]) rfl ⟨rfl, ba w _⟩
def int3 : Tm := .mk 3 tm.E 3 0 0 []
def fa : Tm := comp ⟨#[102]⟩ [atom ⟨#[97]⟩]
theorem int_lies (X : Nat → Prop) (w : World) : Lies X w int3 (.agg #[.int .i64 3, .string ⟨#[]⟩, .int .i64 3, .int .u64 0, .int .u64 0, .slice none 0 0]) := by
  rw [int3, Lies]
  exact ⟨none, 0, rfl, ⟨by omega, by omega, by decide, by omega, by omega, by omega, by omega, by omega, by omega, by simp, by simp⟩, by rw [TRow]; trivial⟩
theorem ord_kind {a b : Tm} (h : a.kind ≠ b.kind) : ord a b = Go.Proofs.Ytgkcbiabkpcblaa.num.cw (rk a.kind) (rk b.kind) := by
  obtain ⟨k, n, i, re, im, l⟩ := a
  obtain ⟨k', n', i', re', im', l'⟩ := b
  simp only [Tm.kind] at h ⊢
  rw [ord, if_neg h]
theorem lt_kind {a b : Tm} (h : rk a.kind < rk b.kind) : ord a b ≤ 0 := by
  rw [ord_kind fun e => by rw [e] at h; omega]
  unfold Go.Proofs.Ytgkcbiabkpcblaa.num.cw; rw [if_pos h]; decide
def four : List Tm := [atom ⟨#[98]⟩, fa, int3, var 0]
def done4 : List Tm := [var 0, int3, atom ⟨#[98]⟩, fa]
theorem G4 : G four = four := by rfl
theorem sort4 : SortR four done4 := by
  refine ⟨?_, ?_⟩
  · rw [G4]
    exact (List.Perm.cons _ (List.Perm.cons _ (List.Perm.swap _ _ _))).trans (List.reverse_perm four)
  · unfold Up done4
    have h (a b : Tm) (q : rk a.kind < rk b.kind) := lt_kind q
    refine List.pairwise_cons.2 ⟨?_, List.pairwise_cons.2 ⟨?_, List.pairwise_cons.2 ⟨?_, List.pairwise_cons.2 ⟨?_, List.Pairwise.nil⟩⟩⟩⟩ <;> intro x hx <;> simp only [List.mem_cons, List.not_mem_nil, or_false] at hx
    · rcases hx with rfl | rfl | rfl <;> exact h _ _ (by decide)
    · rcases hx with rfl | rfl <;> exact h _ _ (by decide)
    · rcases hx with rfl; exact h _ _ (by decide)
theorem awake_any (w : World) : Calls Try.prog 13 #[] w fun e w' => e = .returned (.bool true) ∧ Below w.heap.size w w' := by
  go_enter Try.func13, Try.ntmps13
  go_wp2_with fail
  refine (rAtom_any _ _).mono ?_
  rintro e w1 ⟨rfl, hb1⟩
  have H1 := Lib.hid hb1
  clear hb1
  go_wp2_with fail
  refine (rAtom_any _ _).mono ?_
  rintro e w2 ⟨rfl, hb2⟩
  have H2 := Lib.hid (bt H1.out hb2)
  clear hb2
  go_wp2_with fail
  refine (rComp_any _ _ _ _ _).mono ?_
  rintro e w3 ⟨rfl, hb3⟩
  have hrow := row_new w2 #[.int .i64 2, .string ⟨#[97]⟩, .int .i64 0, .int .u64 0, .int .u64 0, .slice none 0 0] [atom ⟨#[97]⟩] (fun m hm => by
    match m, hm with
    | 0, _ => exact ⟨_, _, _, _, _, _, rfl, rfl, rfl, rfl, rfl, rfl, atom_lies No _ w2 (by decide)⟩)
  have hl3 : Lies No w3 fa _ := comp_lies (n := ⟨#[102]⟩) (c := 1) (show (1 : Nat) ≤ 9223372036854775807 by omega) (by simp) (by simp [maxLen]) (hrow.below hb3)
  have H3 := Lib.hid (And.intro hl3 (bt (bt H2.out (ba w2 _)) hb3))
  clear hrow hl3 hb3
  go_wp2_with fail
  refine (rInt_any 3 _).mono ?_
  rintro e w4 ⟨rfl, hb4⟩
  have H4 := Lib.hid (And.intro (H3.out.1.below hb4) (bt H3.out.2 hb4))
  clear hb4
  go_wp2_with fail
  refine (rVar_any 0 _).mono ?_
  rintro e w5 ⟨rfl, hb5⟩
  have H5 := Lib.hid (And.intro (H4.out.1.below hb5) (bt H4.out.2 hb5))
  clear hb5
  go_wp2_with fail
  refine (sort_any four (some ⟨w5.heap.size, 0, none⟩) 4 _ ?_ (by decide)).mono ?_
  · exact row_new w5 _ four (fun m hm => by
      match m, hm with
      | 0, _ => exact ⟨_, _, _, _, _, _, rfl, rfl, rfl, rfl, rfl, rfl, atom_lies No _ w5 (by decide)⟩
      | 1, _ => exact ⟨_, _, _, _, _, _, rfl, rfl, rfl, rfl, rfl, rfl, H5.out.1⟩
      | 2, _ => exact ⟨_, _, _, _, _, _, rfl, rfl, rfl, rfl, rfl, rfl, int_lies No w5⟩
      | 3, _ => exact ⟨_, _, _, _, _, _, rfl, rfl, rfl, rfl, rfl, rfl, var_lies No 0 w5 (by omega) (by omega)⟩)
  rintro e w6 ⟨M, a, c, hM, rfl, _, _, hT, hb6⟩
  have hMe := hM.uniq sort4
  subst hMe
  have H6 := Lib.hid (bt (bt H5.out.2 (ba w5 _)) hb6)
  obtain ⟨b0, o0, a0, a1, a2, a3, a4, a5, _, _, h60, ht0, hk0⟩ := hT.look (m := 0) (by decide)
  obtain ⟨b1, o1, c0, c1, c2, c3, c4, c5, _, _, h61, ht1, hk1⟩ := hT.look (m := 1) (by decide)
  obtain ⟨b2, o2, d0, d1, d2, d3, d4, d5, _, _, h62, ht2, hk2⟩ := hT.look (m := 2) (by decide)
  obtain ⟨b3, o3, f0, f1, f2, f3, f4, f5, _, _, h63, ht3, hk3⟩ := hT.look (m := 3) (by decide)
  have g0 : (a0 = .int .i64 1) := by
    change Lies _ _ (var 0) _ at ht0
    rw [var, Lies] at ht0
    obtain ⟨_, _, hv, _⟩ := ht0
    simp only [Value.agg.injEq, Array.mk.injEq, List.cons.injEq, and_true] at hv
    exact hv.1
  have g1 : (c2 = .int .i64 3) := by
    change Lies _ _ int3 _ at ht1
    rw [int3, Lies] at ht1
    obtain ⟨_, _, hv, _⟩ := ht1
    simp only [Value.agg.injEq, Array.mk.injEq, List.cons.injEq, and_true] at hv
    exact hv.2.2.1
  have g2 : (d1 = .string ⟨#[98]⟩) := by
    change Lies _ _ (atom ⟨#[98]⟩) _ at ht2
    rw [atom, Lies] at ht2
    obtain ⟨_, _, hv, _⟩ := ht2
    simp only [Value.agg.injEq, Array.mk.injEq, List.cons.injEq, and_true] at hv
    exact hv.2.1
  have g3 : (f1 = .string ⟨#[102]⟩) := by
    change Lies _ _ fa _ at ht3
    rw [fa, comp, Lies] at ht3
    obtain ⟨_, _, hv, _⟩ := ht3
    simp only [Value.agg.injEq, Array.mk.injEq, List.cons.injEq, and_true] at hv
    exact hv.2.1
  subst g0; subst g1; subst g2; subst g3
  have hl4 : done4.length = 4 := rfl
  rw [hl4] at hk0 hk1 hk2 hk3 ⊢
  have k0 : ∀ (w' : World), (Instr.indexAt 23 (.slice a 4 c) (.int .i64 0)).run Try.prog w' = .ok (.pointer (some ⟨b0, o0, none⟩)) w' := fun w' => hk0 c w'
  have k1 : ∀ (w' : World), (Instr.indexAt 23 (.slice a 4 c) (.int .i64 1)).run Try.prog w' = .ok (.pointer (some ⟨b1, o1, none⟩)) w' := fun w' => hk1 c w'
  have k2 : ∀ (w' : World), (Instr.indexAt 23 (.slice a 4 c) (.int .i64 2)).run Try.prog w' = .ok (.pointer (some ⟨b2, o2, none⟩)) w' := fun w' => hk2 c w'
  have k3 : ∀ (w' : World), (Instr.indexAt 23 (.slice a 4 c) (.int .i64 3)).run Try.prog w' = .ok (.pointer (some ⟨b3, o3, none⟩)) w' := fun w' => hk3 c w'
  have m0 := h60.1
  have m1 := h61.2.2.1
  have m2 := h62.2.1
  have m3 := h63.2.1
  clear hb6 hT h60 h61 h62 h63 ht0 ht1 ht2 ht3 hk0 hk1 hk2 hk3 hM hl4
  go_wp2_with fail
  go_ret
  exact ⟨rfl, H6.out⟩
end Go.Proofs.Ytgkcbiabkpcblaa.odw
