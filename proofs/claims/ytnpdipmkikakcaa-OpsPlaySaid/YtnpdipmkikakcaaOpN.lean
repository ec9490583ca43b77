/- More for the laws: the row that came in, a table in the making, what is found. -/
import Derived.Test.YtnpdipmkikakcaaOpL
import Derived.Test.YtnpdipmkikakcaaOpM
import Derived.Test.YtnpdipmkikakcaaOpJ
namespace Go.Proofs.Ytnpdipmkikakcaa.opn
open Go.ChangeShapes Go.WideShapes Go.ChangeAt Go.RowKit
open Go.Proofs.Ytnpdipmkikakcaa.kp Go.Proofs.Ytnpdipmkikakcaa.opa Go.Proofs.Ytnpdipmkikakcaa.opb Go.Proofs.Ytnpdipmkikakcaa.opc Go.Proofs.Ytnpdipmkikakcaa.opd Go.Proofs.Ytnpdipmkikakcaa.ope Go.Proofs.Ytnpdipmkikakcaa.opf Go.Proofs.Ytnpdipmkikakcaa.opg Go.Proofs.Ytnpdipmkikakcaa.oph Go.Proofs.Ytnpdipmkikakcaa.opi Go.Proofs.Ytnpdipmkikakcaa.opj Go.Proofs.Ytnpdipmkikakcaa.opk Go.Proofs.Ytnpdipmkikakcaa.opl Go.Proofs.Ytnpdipmkikakcaa.opm
set_option linter.unusedVariables false
theorem row_below {w w' : World} {a : Option Addr} {n : Nat} {t : List D} (h : ORow w a n t) (hb : Below w.heap.size w w') : ORow w' a n t := by
  refine ⟨h.len, h.reach, fun k hk => ?_⟩
  obtain ⟨b, o, e, hl, c0, c1, c2⟩ := h.place k hk
  have c := fun (o : Nat) => (Keep.of_below (F := fun _ => False) hb).cell (o := o) hl id
  exact ⟨b, o, e, Nat.lt_of_lt_of_le hl hb.size, (c _).trans c0, (c _).trans c1, (c _).trans c2⟩
theorem found {l : List D} (h : Srt l) {x y : D} (hx : x ∈ l) (hc : cd x y = 0) : gd l y = x ∧ is l y = true := by
  have hm : x ∈ md l y := List.mem_filter.2 ⟨hx, by simpa using hc⟩
  rcases md_one h y with e | ⟨z, e, _, _⟩
  · rw [e] at hm; cases hm
  · rw [e] at hm
    simp only [List.mem_singleton] at hm
    subst hm
    exact ⟨by simp [gd, e], by simp [is, e]⟩
theorem cd_key (n : List UInt8) (k p k' p' : Int) (h : fr k = fr k') : cd ⟨n, k, p⟩ ⟨n, k', p'⟩ = 0 := (cd_zero _ _).2 ⟨rfl, h⟩
/-- the row of what was to be set, its first thirty: the table behind -/
def O1 (w : World) (p n : Nat) (g : Nat) (s : Value) (wr : World) : Prop :=
  ∃ (k : Nat) (l : List D), k ≤ n ∧ g = n - k ∧ s = .int .i64 k ∧ Inv l ∧ Own w p l wr
theorem own_set {w w1 w2 : World} {p : Nat} {l l' : List D} {F : Nat → Prop} (hb : Below w.heap.size w w1) (hF : ∀ j, F j → w.heap.size ≤ j) (n : opb.Next w1 p F l' w2) : Own w p l' w2 := Own.step hb hF n
end Go.Proofs.Ytnpdipmkikakcaa.opn
