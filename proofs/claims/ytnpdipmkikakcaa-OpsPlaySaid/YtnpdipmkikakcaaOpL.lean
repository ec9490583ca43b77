/- The law's awake and same. -/
import Derived.Test.YtnpdipmkikakcaaOpK
import Derived.Laws.StructEq
namespace Go.Proofs.Ytnpdipmkikakcaa.opl
open Go.ChangeShapes Go.WideShapes Go.ChangeAt Go.RowKit
open Go.Proofs.Ytnpdipmkikakcaa.kp Go.Proofs.Ytnpdipmkikakcaa.opa Go.Proofs.Ytnpdipmkikakcaa.opb Go.Proofs.Ytnpdipmkikakcaa.opc Go.Proofs.Ytnpdipmkikakcaa.opd Go.Proofs.Ytnpdipmkikakcaa.ope Go.Proofs.Ytnpdipmkikakcaa.opf Go.Proofs.Ytnpdipmkikakcaa.opg Go.Proofs.Ytnpdipmkikakcaa.oph Go.Proofs.Ytnpdipmkikakcaa.opi Go.Proofs.Ytnpdipmkikakcaa.opk
set_option linter.unusedVariables false
def opIs : D := ⟨[105, 115], 1, 700⟩
def opMinus : D := ⟨[45], 4, 200⟩
theorem gd_isop : gd newL ⟨[105, 115], 1, 0⟩ = opIs ∧ is newL ⟨[105, 115], 1, 0⟩ = true := by
  have h : (decide (gd newL ⟨[105, 115], 1, 0⟩ = opIs) && is newL ⟨[105, 115], 1, 0⟩) = true := by kernel_rfl
  simpa using h
theorem gd_minus : gd newL ⟨[45], 4, 0⟩ = opMinus ∧ is newL ⟨[45], 4, 0⟩ = true := by
  have h : (decide (gd newL ⟨[45], 4, 0⟩ = opMinus) && is newL ⟨[45], 4, 0⟩) = true := by kernel_rfl
  simpa using h
set_option maxRecDepth 100000 in
set_option maxHeartbeats 4000000 in
theorem awake_any (w : World) : Calls Try.prog 18 #[] w fun e w' => e = .returned (.bool true) ∧ Below w.heap.size w w' := by
  have hl : newL.length ≤ 1000 := by rw [newL_len]; decide
  have HL := Lib.hid hl
  clear hl
  go_enter Try.func18, Try.ntmps18
  go_wp2_with fail
  refine (new_any _).mono ?_
  rintro e w1 ⟨p, rfl, hp, F, ht, hb1, hF⟩
  have H1 := Lib.hid (And.intro ht hb1)
  clear ht hb1 hF hp
  go_wp2_with fail
  refine (infix_any [105, 115] _ H1.out.1 newL_inv.srt HL.out).mono ?_
  rintro e w2 ⟨rfl, hb2⟩
  rw [gd_isop.1, gd_isop.2]
  simp only [opIs, D.v]
  have H2 := Lib.hid (H1.out.2.trans (hb2.mono H1.out.2.size))
  clear hb2 H1
  go_wp2_with fail
  have hx2 := alloc_at w2 (.cells opIs.cs.toArray 32)
  have hb3 := ba w2 (.cells opIs.cs.toArray 32)
  generalize hw3 : w2.alloc (.cells #[.string ⟨#[105, 115]⟩, .int .i64 1, .int .i64 700] 32) = w3
  have H3 : Hid (w3.heap[w2.heap.size]? = some (.cells opIs.cs.toArray 32 (0, 0)) ∧ Below w.heap.size w w3) := Lib.hid (by rw [← hw3]; exact ⟨hx2, H2.out.trans (hb3.mono H2.out.size)⟩)
  clear hx2 hb3 hw3
  generalize hb2 : w2.heap.size = b2
  rw [hb2] at H3
  refine (new_any _).mono ?_
  rintro e w4 ⟨p4, rfl, hp, F4, ht4, hb4, hF⟩
  have H4 := Lib.hid (And.intro ht4 hb4)
  clear ht4 hb4 hF hp hb2
  go_wp2_with fail
  refine (prefix_any [45] _ H4.out.1 newL_inv.srt HL.out).mono ?_
  rintro e w5 ⟨rfl, hb5⟩
  rw [gd_minus.1, gd_minus.2]
  simp only [opMinus, D.v]
  have hb35 := H4.out.2.trans (hb5.mono H4.out.2.size)
  have hx5 := (hb35.block _ (Array.getElem?_eq_some_iff.1 H3.out.1).1).trans H3.out.1
  obtain ⟨z0, z1, z2, _⟩ := box_cells hx5
  simp only [opIs] at z1 z2
  have H5 := Lib.hid (H3.out.2.trans (hb35.mono H3.out.2.size))
  have hlt2 := (Array.getElem?_eq_some_iff.1 hx5).1
  clear hb5 hb35 hx5
  go_wp2_with fail
  go_ret
  exact ⟨rfl, H5.out.trans ((ba w5 _).mono H5.out.size)⟩
theorem neqD (x y : D) (w : World) : Sem.run Try.prog (binOp .neq 32 x.v y.v) w = .ok (.bool (decide (x ≠ y))) w := by
  have u3 := Try.underlying3
  have a3 := Try.isAgg3
  have z3 := Try.sizeOf3
  have u9 := Try.underlying9
  have a9 := Try.isAgg9
  have z9 := Try.sizeOf9
  have hS : Try.prog.underlying 32 = some (.struct (Try.prog.fieldsOf 32)) := by kernel_rfl
  have hp : Try.prog.stoodInHeld 32 = false := by kernel_rfl
  obtain ⟨n, k, p⟩ := x
  obtain ⟨n', k', p'⟩ := y
  simp only [D.v]
  rw [run_neq_struct, show (10000 : Nat) = 9999 + 1 from rfl, run_equalIn_agg w 9999 32 _ _ hS hp]
  simp only [Program.fieldsOf, Try.underlying32]
  go_simp
  by_cases h1 : n = n' <;> by_cases h2 : k = k' <;> by_cases h3 : p = p' <;> simp [h1, h2, h3]
def SRel (w : World) (a b : Option Addr) (c c' : Nat) (l l' : List D) (g : Nat) (s : Value) (wr : World) : Prop :=
  ∃ k : Nat, k ≤ l.length ∧ g = l.length - k ∧ s = .int .i64 k ∧ l.take k = l'.take k ∧ Rw wr a c l ∧ Rw wr b c' l' ∧ Below w.heap.size w wr
set_option maxRecDepth 100000 in
set_option maxHeartbeats 4000000 in
theorem same_any {a b : Option Addr} {c c' : Nat} {l l' : List D} (w : World) (h : Rw w a c l) (h' : Rw w b c' l') (hl : l.length ≤ 1000) :
    Calls Try.prog 11 #[.slice a l.length c, .slice b l'.length c'] w fun e w' => e = .returned (.bool (decide (l = l'))) ∧ Below w.heap.size w w' := by
  have HH := Lib.hid (And.intro h h')
  clear h h'
  by_cases hn : l.length = l'.length
  · have q : ((l.length : Int) != (l'.length : Int)) = false := by rw [bne_eq_false_iff_eq]; omega
    have HN := Lib.hid hn
    clear hn
    go_enter Try.func11, Try.ntmps11
    go_wp2_with fail
    go_loopg [13] l.length (SRel w a b c c' l l')
    case atStart => exact ⟨0, by omega, by omega, rfl, by simp, HH.out.1, HH.out.2, br _⟩
    case round =>
      obtain ⟨k, hk, rfl, rfl, ht, hr, hr', hb⟩ := hrel
      by_cases hlt : k < l.length
      · have hlt' : k < l'.length := by have := HN.out; omega
        obtain ⟨P, rfl, _, e0, e1, e2, _, hix⟩ := hr.look hlt
        obtain ⟨P', rfl, _, f0, f1, f2, _, hix'⟩ := hr'.look hlt'
        obtain ⟨x, hx⟩ : ∃ x, x = l[k] := ⟨_, rfl⟩
        obtain ⟨y, hy⟩ : ∃ y, y = l'[k] := ⟨_, rfl⟩
        rw [← hx] at e0 e1 e2
        rw [← hy] at f0 f1 f2
        have hne := neqD x y
        simp only [D.v] at hne
        have HX := Lib.hid (And.intro hx (And.intro hy (And.intro ht (And.intro hr (And.intro hr' hb)))))
        clear hx hy ht hr hr' hb
        by_cases hxy : x = y
        · rw [decide_eq_false (by simpa using hxy)] at hne
          have HE := Lib.hid hxy
          clear hxy
          go_wp2_with fail
          go_quiet (fail)
          go_wp2_with fail
          go_roundg (l.length - (k + 1))
          case measure => omega
          case rel =>
            have hb := drewN_below wr nq
            exact ⟨k + 1, hlt, rfl, by go_num, by rw [List.take_succ_eq_append_getElem hlt, List.take_succ_eq_append_getElem hlt', HX.out.2.2.1, ← HX.out.1, ← HX.out.2.1, HE.out], HX.out.2.2.2.1.below hb, HX.out.2.2.2.2.1.below hb, HX.out.2.2.2.2.2.trans (hb.mono HX.out.2.2.2.2.2.size)⟩
        · rw [decide_eq_true (by simpa using hxy)] at hne
          have HE := Lib.hid hxy
          clear hxy
          go_wp2_with fail
          go_quiet (fail)
          go_wp2_with fail
          go_ret
          have hb := drewN_below wr nq
          exact ⟨rb (decide_eq_false fun e => HE.out (by rw [HX.out.1, HX.out.2.1]; simp only [e])).symm, HX.out.2.2.2.2.2.trans (hb.mono HX.out.2.2.2.2.2.size)⟩
      · have hk' : k = l.length := by omega
        subst hk'
        have HX := Lib.hid (And.intro ht hb)
        clear ht hr hr' hb
        go_wp2_with fail
        go_ret
        have he : l = l' := by have := HX.out.1; rw [List.take_length, HN.out, List.take_length] at this; exact this
        exact ⟨rb (decide_eq_true he).symm, HX.out.2⟩
  · have q : ((l.length : Int) != (l'.length : Int)) = true := by rw [bne_iff_ne]; omega
    have HE : Hid (decide (l = l') = false) := Lib.hid (decide_eq_false fun e => hn (by rw [e]))
    clear hn
    go_enter Try.func11, Try.ntmps11
    go_wp2_with fail
    go_ret
    exact ⟨rb HE.out.symm, br _⟩
end Go.Proofs.Ytnpdipmkikakcaa.opl
