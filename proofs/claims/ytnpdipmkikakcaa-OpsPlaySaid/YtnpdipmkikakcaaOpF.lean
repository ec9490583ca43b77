/- slices.Clone over operators; All, Copy; the law's same. -/
import Derived.Test.YtnpdipmkikakcaaOpE
import Derived.Maps.AppendAt
namespace Go.Proofs.Ytnpdipmkikakcaa.opf
open Go.ChangeShapes Go.WideShapes Go.ChangeAt Go.RowKit
open Go.Proofs.Ytnpdipmkikakcaa.kp Go.Proofs.Ytnpdipmkikakcaa.opa Go.Proofs.Ytnpdipmkikakcaa.opb Go.Proofs.Ytnpdipmkikakcaa.opc Go.Proofs.Ytnpdipmkikakcaa.opd Go.Proofs.Ytnpdipmkikakcaa.ope
set_option linter.unusedVariables false
def NewRow (w : World) (l : List D) (e : Ending) (w' : World) : Prop :=
  ∃ a c, e = .returned (.slice a l.length c) ∧ Rw w' a c l ∧ Below w.heap.size w w' ∧ ∀ k, (Value.slice a l.length c).ownBlock = some k → w.heap.size ≤ k
theorem eq_nil (w : World) : Sem.run Try.prog (binOp BinOp.eql 22 (.slice none 0 0) (.slice none 0 0)) w = .ok (.bool true) w := by kernel_rfl
theorem eq_some (g n c : Nat) (w : World) : Sem.run Try.prog (binOp BinOp.eql 22 (.slice (some ⟨g, 0, none⟩) n c) (.slice none 0 0)) w = .ok (.bool false) w := by kernel_rfl
set_option maxRecDepth 100000 in
set_option maxHeartbeats 4000000 in
theorem clone_any {a : Option Addr} {c : Nat} {l : List D} (w : World) (h : Rw w a c l) (hl : l.length ≤ 1000) :
    Calls Try.prog 26 #[.slice a l.length c] w (NewRow w l) := by
  obtain ⟨i, hi1, hi2, hi3, hi4⟩ := info_o
  have hcap := h.caps
  rcases h.2 with ⟨e, h0⟩ | ⟨g, cap, cur, hv, hg0, hgc, h1, h2, h3, h4⟩
  · injection e with e1 e2 e3
    subst e1; subst e3
    have hl0 : l = [] := List.eq_nil_of_length_eq_zero h0
    subst hl0
    have H := Lib.hid h
    clear h hi1 hi2 hi3 hi4 e2 hcap
    have q := eq_nil
    go_enter Try.func26, Try.ntmps26
    go_wp2_with fail
    go_ret
    exact ⟨none, 0, rfl, H.out, br _, fun k e => by cases e⟩
  · injection hv with e1 e2 e3
    subst e1; subst e3
    have HI := Lib.hid (And.intro hi1 (And.intro hi2 (And.intro hi3 hi4)))
    have H := Lib.hid h
    clear h hi1 hi2 hi3 hi4 e2 h2 h3 h4 hgc hg0
    have q := eq_some g l.length c
    go_enter Try.func26, Try.ntmps26
    go_wp2_with (at_builtin; refine wpList_append_own_at _ rfl (.tmp 5) (.tmp 6) 22 rfl w.heap.size 32 i ZV 3 32 Try.underlying22 HI.out.1 HI.out.2.1 HI.out.2.2.1 HI.out.2.2.2 rfl (by decide) _ 0 [] rfl (World.ownsRow_made w #[] 0 (Nat.le_refl _) (by simp [maxLen]) rfl) ⟨g, 0, none⟩ l.length c (flat l) rfl (flat_len l) ?ac0 (flat_one l) ?ac1 ?ac2 ?ac3 ?ac4)
    case ac0 =>
      intro j u hj
      have h5 := H.out.below (ba w (.cells #[] 32))
      have e : (⟨g, 0, none⟩ : Addr).add j = ⟨g, j, none⟩ := by unfold Addr.add; split <;> simp_all
      have hjl : j < l.length * 3 := by have := (List.getElem?_eq_some_iff.1 hj).1; rwa [flat_len] at this
      rw [e, World.ownsRow.cellAt h5 j hjl]; exact hj
    case ac1 => unfold maxLen; omega
    case ac2 => omega
    case ac3 => rw [alloc_size]; omega
    case ac4 =>
      intro v' w' hown hgrow _ _
      obtain ⟨a', c', rfl⟩ := kp.shape hown
      have hb : Below w.heap.size w w' := (ba w (.cells #[] 32)).trans ((Keep.of_grown (F := fun k => k = w.heap.size) hgrow fun k e => by simp [Value.ownBlock] at e; exact e.symm).to_below (fun k e => by omega) (by rw [alloc_size]; omega))
      have HH := Lib.hid (And.intro hown hb)
      clear hown hgrow hb
      go_wp2_with fail
      go_ret
      refine ⟨a', c', by simp, ?_, HH.out.2, fun k e => (World.ownsRow.lt HH.out.1 k e).1⟩
      have ho := HH.out.1
      obtain ⟨q1, q2⟩ := ho
      refine ⟨q1, ?_⟩
      rcases q2 with q2 | ⟨g', cap', cur', e, _, r⟩
      · exact Or.inl q2
      · exact Or.inr ⟨g', cap', cur', e, Nat.zero_le _, r⟩
theorem all_nil (w : World) : Calls Try.prog 12 #[.pointer none] w fun e w' => e = .returned (.slice none 0 0) ∧ w = w' := by
  go_enter Try.func12, Try.ntmps12; go_wp2; go_ret; exact ⟨rfl, rfl⟩
set_option maxRecDepth 100000 in
theorem all_any {p : Nat} {F : Nat → Prop} {l : List D} (w : World) (h : Tb w p F l) (hl : l.length ≤ 1000) :
    Calls Try.prog 12 #[.pointer (some ⟨p, 0, none⟩)] w (NewRow w l) := by
  obtain ⟨a, c, e0, _, hr⟩ := h.open_
  have HR := Lib.hid hr
  clear h hr
  go_enter Try.func12, Try.ntmps12
  go_wp2_with fail
  refine (clone_any _ HR.out hl).mono ?_
  rintro e w4 ⟨a', c', rfl, h4⟩
  have H4 := Lib.hid h4
  clear h4
  go_wp2_with fail
  go_ret
  exact ⟨a', c', rfl, H4.out⟩
theorem copy_nil (w : World) : Calls Try.prog 19 #[.pointer none] w fun e w' => e = .returned (.pointer none) ∧ w = w' := by
  go_enter Try.func19, Try.ntmps19; go_wp2; go_ret; exact ⟨rfl, rfl⟩
/-- a new table of l -/
def NewT (w : World) (l : List D) (e : Ending) (w' : World) : Prop := ∃ p, e = .returned (.pointer (some ⟨p, 0, none⟩)) ∧ w.heap.size ≤ p ∧ Made w l p w'
set_option maxRecDepth 100000 in
theorem copy_any {p : Nat} {F : Nat → Prop} {l : List D} (w : World) (h : Tb w p F l) (hl : l.length ≤ 1000) :
    Calls Try.prog 19 #[.pointer (some ⟨p, 0, none⟩)] w (NewT w l) := by
  have HR := Lib.hid h
  clear h
  go_enter Try.func19, Try.ntmps19
  go_wp2_with fail
  refine (all_any _ HR.out hl).mono ?_
  rintro e w4 ⟨a', c', rfl, hr4, hb4, ho4⟩
  have H4 := Lib.hid (And.intro hr4 (And.intro hb4 ho4))
  clear hr4 hb4 ho4
  go_wp2_with fail
  go_ret
  have hs := H4.out.2.1.size
  refine ⟨w4.heap.size, rfl, hs, fun k => k = w4.heap.size ∨ (Value.slice a' l.length c').ownBlock = some k, ⟨a', c', alloc_at _ _, H4.out.1.below (ba _ _), fun e => ?_, fun _ => Iff.rfl⟩, H4.out.2.1.trans ((ba _ _).mono hs), ?_⟩
  · have := (World.ownsRow.lt H4.out.1 _ e).2; omega
  · rintro k (rfl | e)
    · exact hs
    · exact H4.out.2.2 k e
end Go.Proofs.Ytnpdipmkikakcaa.opf
