/- The laws' own: awake; the reference's Var, Atom, Comp. -/
import Derived.Test.YtibepkljcofpdaaRen
namespace Go.Proofs.Ytibepkljcofpdaa.awk
set_option linter.unusedVariables false
open Go.ChangeShapes Go.WideShapes Go.ChangeAt Go.RowKit
open Go.Proofs.Ytibepkljcofpdaa.tm Go.Proofs.Ytibepkljcofpdaa.lie Go.Proofs.Ytibepkljcofpdaa.kp Go.Proofs.Ytibepkljcofpdaa.wlk Go.Proofs.Ytibepkljcofpdaa.cur Go.Proofs.Ytibepkljcofpdaa.rws Go.Proofs.Ytibepkljcofpdaa.pln Go.Proofs.Ytibepkljcofpdaa.mes Go.Proofs.Ytibepkljcofpdaa.vrs Go.Proofs.Ytibepkljcofpdaa.pla Go.Proofs.Ytibepkljcofpdaa.ren
theorem rVar_any (n : Int) (w : World) :
    Calls Try.prog 38 #[.int .i64 n] w fun e w' => e = .returned (.agg #[.int .i64 1, .string ⟨#[]⟩, .int .i64 n, .int .u64 0, .int .u64 0, .slice none 0 0]) ∧ Below w.heap.size w w' := by
  go_enter Try.func38, Try.ntmps38
  go_wp2_with fail
  exact bodyPost_ret (v := .agg #[.int .i64 1, .string ⟨#[]⟩, .int .i64 n, .int .u64 0, .int .u64 0, .slice none 0 0]) (by simp [results, Try.results38, go_sem]) rfl ⟨rfl, ba w _⟩
theorem rAtom_any (n : ByteArray) (w : World) :
    Calls Try.prog 42 #[.string n] w fun e w' => e = .returned (.agg #[.int .i64 2, .string n, .int .i64 0, .int .u64 0, .int .u64 0, .slice none 0 0]) ∧ Below w.heap.size w w' := by
  go_enter Try.func42, Try.ntmps42
  go_wp2_with fail
  exact bodyPost_ret (v := .agg #[.int .i64 2, .string n, .int .i64 0, .int .u64 0, .int .u64 0, .slice none 0 0]) (by simp [results, Try.results42, go_sem]) rfl ⟨rfl, ba w _⟩
theorem rComp_any (n : ByteArray) (a : Option Addr) (len c : Nat) (w : World) :
    Calls Try.prog 41 #[.string n, .slice a len c] w fun e w' => e = .returned (.agg #[.int .i64 5, .string n, .int .i64 0, .int .u64 0, .int .u64 0, .slice a len c]) ∧ Below w.heap.size w w' := by
  go_enter Try.func41, Try.ntmps41
  go_wp2_with fail
  exact bodyPost_ret (v := .agg #[.int .i64 5, .string n, .int .i64 0, .int .u64 0, .int .u64 0, .slice a len c]) (by simp [results, Try.results41, go_sem]) rfl ⟨rfl, ba w _⟩
theorem renT : renR (comp ⟨#[102]⟩ [var 7, var 3, var 7]) = comp ⟨#[102]⟩ [var 0, var 1, var 0] := by rfl
/-- a compound in memory -/
theorem comp_lies {X : Nat → Prop} {w : World} {n : ByteArray} {l : List Tm} {a : Option Addr} {c : Nat} (hn : n.size ≤ 9223372036854775807) (hl : l.length ≤ c) (hc : c ≤ maxLen) (hr : TRow X w l a 0) :
    Lies X w (comp n l) (.agg #[.int .i64 5, .string n, .int .i64 0, .int .u64 0, .int .u64 0, .slice a l.length c]) := by
  rw [comp, Lies]
  exact ⟨a, c, rfl, ⟨by omega, by omega, hn, by omega, by omega, by omega, by omega, by omega, by omega, hl, by unfold maxLen at hc; exact hc⟩, hr⟩
theorem atom_lies (X : Nat → Prop) (n : ByteArray) (w : World) (hn : n.size ≤ 9223372036854775807) : Lies X w (atom n) (.agg #[.int .i64 2, .string n, .int .i64 0, .int .u64 0, .int .u64 0, .slice none 0 0]) := by
  rw [atom, Lies]
  exact ⟨none, 0, rfl, ⟨by omega, by omega, hn, by omega, by omega, by omega, by omega, by omega, by omega, by simp, by simp⟩, by rw [TRow]; trivial⟩
/-- terms side by side in a new block -/
theorem row_new (w : World) (cs : Array Value) (l : List Tm) (h : ∀ (m : Nat) (hm : m < l.length), ∃ v0 v1 v2 v3 v4 v5, cs[m * 6]? = some v0 ∧ cs[m * 6 + 1]? = some v1 ∧ cs[m * 6 + 2]? = some v2 ∧ cs[m * 6 + 3]? = some v3 ∧ cs[m * 6 + 4]? = some v4 ∧ cs[m * 6 + 5]? = some v5 ∧
    Lies No w l[m] (.agg #[v0, v1, v2, v3, v4, v5])) : TRow No (w.alloc (.cells cs 36)) l (some ⟨w.heap.size, 0, none⟩) 0 := by
  refine TRow.mk l 0 fun m hm => ?_
  obtain ⟨v0, v1, v2, v3, v4, v5, h0, h1, h2, h3, h4, h5, ht⟩ := h m hm
  have e := fun j x (hj : cs[j]? = some x) => alloc_cell w (.cells cs 36) cs 36 x j rfl hj
  refine ⟨w.heap.size, 0, v0, v1, v2, v3, v4, v5, rfl, id, ?_, ht.below (ba w _)⟩
  simp only [Nat.zero_add]
  exact ⟨e _ _ h0, e _ _ h1, e _ _ h2, e _ _ h3, e _ _ h4, e _ _ h5⟩
end Go.Proofs.Ytibepkljcofpdaa.awk
