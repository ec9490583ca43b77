/- New. -/
import Derived.Test.YtnpdipmkikakcaaOpI
namespace Go.Proofs.Ytnpdipmkikakcaa.opk
open Go.ChangeShapes Go.WideShapes Go.ChangeAt Go.RowKit
open Go.Proofs.Ytnpdipmkikakcaa.kp Go.Proofs.Ytnpdipmkikakcaa.opa Go.Proofs.Ytnpdipmkikakcaa.opb Go.Proofs.Ytnpdipmkikakcaa.opc Go.Proofs.Ytnpdipmkikakcaa.opd Go.Proofs.Ytnpdipmkikakcaa.ope Go.Proofs.Ytnpdipmkikakcaa.opf Go.Proofs.Ytnpdipmkikakcaa.opg Go.Proofs.Ytnpdipmkikakcaa.oph Go.Proofs.Ytnpdipmkikakcaa.opi
set_option linter.unusedVariables false
def Ln (k : Nat) : List D := (allO.take k).foldl ins []
theorem allO_len : allO.length = 30 := by decide
theorem Ln_new : ((List.range 30).all fun k => !is (Ln k) (allO.getD k ⟨[], 0, 0⟩)) = true := by kernel_rfl
theorem Ln_is {k : Nat} (h : k < allO.length) : is (Ln k) allO[k] = false := by
  have h1 := List.all_eq_true.1 Ln_new k (List.mem_range.2 (by rw [allO_len] at h; exact h))
  have e : allO.getD k ⟨[], 0, 0⟩ = allO[k] := by rw [List.getD_eq_getElem?_getD, List.getElem?_eq_getElem h]; rfl
  rw [e] at h1
  simpa using h1
theorem Ln_succ {k : Nat} (h : k < allO.length) : ins (Ln k) allO[k] = Ln (k + 1) := by
  unfold Ln
  rw [List.take_succ_eq_append_getElem h, List.foldl_append]; rfl
theorem Ln_inv (k : Nat) : Inv (Ln k) := (Inv.fold (allO.take k) Inv.nil (fun o ho => allO_ok o (List.mem_of_mem_take ho)) (by rw [List.length_take, allO_len]; simp; omega)).1
theorem Ln_end : Ln 30 = newL := by unfold Ln newL; rw [List.take_of_length_le (by rw [allO_len]; exact Nat.le_refl _)]
theorem all_0 {k : Nat} (h : k < new0.length) (h' : k < allO.length) : allO[k] = new0[k] := by
  have : allO[k]? = new0[k]? := by unfold allO; exact List.getElem?_append_left h
  rw [List.getElem?_eq_getElem h', List.getElem?_eq_getElem h] at this
  injection this
theorem all_1 {k : Nat} (h : k < new1.length) (h' : 14 + k < allO.length) : allO[14 + k] = ⟨new1[k], 1, 700⟩ := by
  have h0 : new0.length = 14 := rfl
  have : allO[14 + k]? = (new1.map fun n => ({ n := n, k := 1, p := 700 } : D))[k]? := by
    unfold allO
    rw [List.getElem?_append_right (by omega), h0, Nat.add_sub_cancel_left]
  rw [List.getElem?_eq_getElem h', List.getElem?_map, List.getElem?_eq_getElem h] at this
  simpa using this
/-- a row of operators that is only read -/
theorem rd_rw {w : World} {g : Nat} {l : List D} (h : w.heap[g]? = some (.cells (flat l).toArray 32 (0, 0))) (hl : l.length ≤ 1000) : Rw w (some ⟨g, 0, none⟩) l.length l :=
  Bk.rw (sp := []) ⟨by rw [List.append_nil]; exact h, Nat.le_refl _, by unfold maxLen; omega, by rw [List.append_nil, flat_len]⟩
/-- a table made behind w that has none of the blocks X -/
def OwnX (w : World) (X : Nat → Prop) (p : Nat) (l : List D) (wr : World) : Prop := ∃ F, Tb wr p F l ∧ Below w.heap.size w wr ∧ ∀ j, F j → w.heap.size ≤ j ∧ ¬ X j
theorem OwnX.below {w w1 w2 : World} {X : Nat → Prop} {p : Nat} {l : List D} (h : OwnX w X p l w1) (hb : Below w1.heap.size w1 w2) : OwnX w X p l w2 := by
  obtain ⟨F, a, b, c⟩ := h
  exact ⟨F, a.below hb, b.trans (hb.mono b.size), c⟩
theorem OwnX.step {w w1 w2 : World} {X : Nat → Prop} {p : Nat} {l' : List D} {F : Nat → Prop} (hb : Below w.heap.size w w1) (hF : ∀ j, F j → w.heap.size ≤ j ∧ ¬ X j) (hX : ∀ j, X j → j < w1.heap.size) (n : opb.Next w1 p F l' w2) :
    OwnX w X p l' w2 ∧ ∀ g, g < w1.heap.size → X g → w2.heap[g]? = w1.heap[g]? := by
  obtain ⟨G, t, k, s⟩ := n
  refine ⟨⟨G, t, hb.trans (k.to_below (fun j hj => (hF j hj).1) hb.size), fun j hj => ?_⟩, fun g hg hx => k.block g hg fun hf => (hF g hf).2 hx⟩
  rcases s j hj with h | h
  · exact hF j h
  · exact ⟨Nat.le_trans hb.size h, fun hx => by have := hX j hx; omega⟩
def N1 (w : World) (p g : Nat) (gg : Nat) (s : Value) (wr : World) : Prop :=
  ∃ k : Nat, k ≤ 14 ∧ gg = 14 - k ∧ s = .int .i64 k ∧ OwnX w (fun j => j = g) p (Ln k) wr ∧ wr.heap[g]? = some (.cells (flat new0).toArray 32 (0, 0)) ∧ w.heap.size ≤ g ∧ g ≠ p
def names : List Value := new1.map fun n => .string ⟨n.toArray⟩
theorem names_at {w : World} {g k : Nat} (h : w.heap[g]? = some (.cells names.toArray 9 (0, 0))) (hk : k < new1.length) : w.cell? ⟨g, k, none⟩ = some (.string ⟨new1[k].toArray⟩) := by
  simp only [World.cell?, h, names]
  simp [hk]
theorem elS : Try.prog.elem 50 = 9 := by kernel_rfl
theorem szS (w : World) : (sizeOf 9).run Try.prog w = .ok 1 w := by kernel_rfl
theorem names_ix (g k : Nat) (hk : k < 16) (w : World) : (Instr.indexAt 50 (.slice (some ⟨g, 0, none⟩) 16 16) (.int .i64 (k : Int))).run Try.prog w = .ok (.pointer (some ⟨g, k, none⟩)) w := by
  rw [run_indexAt_slice w 50 _ _ _ _ _ (by rw [elS]; exact Try.underlying50), if_pos ⟨by omega, by omega⟩, elS, szS]
  simp [Result.andThen, add0]
def N2 (w : World) (p g : Nat) (gg : Nat) (s : Value) (wr : World) : Prop :=
  ∃ k : Nat, k ≤ 16 ∧ gg = 16 - k ∧ s = .int .i64 k ∧ OwnX w (fun j => j = g) p (Ln (14 + k)) wr ∧ wr.heap[g]? = some (.cells names.toArray 9 (0, 0)) ∧ w.heap.size ≤ g ∧ g ≠ p
set_option maxRecDepth 100000 in
set_option maxHeartbeats 8000000 in
theorem new_any (w : World) : Calls Try.prog 9 #[] w (NewT w newL) := by
  go_enter Try.func9, Try.ntmps9
  go_wp2_with fail
  go_loopg [24] 14 (N1 w w.heap.size (w.heap.size + 1))
  case atStart =>
    refine ⟨0, by omega, by omega, rfl, ?_, ?_, by omega, by omega⟩
    · refine ⟨fun k => k = w.heap.size, ⟨none, 0, ?_, World.ownsRow_nil _ _ _ _, by simp [Value.ownBlock], fun k => by simp [Value.ownBlock]⟩, bt (ba _ _) (ba _ _), fun k e => ⟨by omega, by omega⟩⟩
      exact ((ba (w.alloc (.cells #[.slice none 0 0] 48)) _).block _ (by simp)).trans (alloc_at _ _)
    · have := alloc_at (w.alloc (.cells #[.slice none 0 0] 48)) (.cells (flat new0).toArray 32)
      rwa [alloc_size] at this
  case round =>
    obtain ⟨k, hk, rfl, rfl, how, hg, hgw, hgp⟩ := hrel
    have hR := rd_rw hg (by decide)
    have hsz : w.heap.size ≤ wr.heap.size := by have := how.choose_spec.2.1.size; omega
    by_cases hlt : k < 14
    · have hk0 : k < new0.length := hlt
      have hk1 : k < allO.length := by rw [allO_len]; omega
      obtain ⟨P, hP, _, e0, e1, e2, _, hix0⟩ := hR.look hk0
      injection hP with hP; injection hP with hP
      subst hP
      have hix : ∀ w', (Instr.indexAt 22 (.slice (some ⟨w.heap.size + 1, 0, none⟩) 14 14) (.int .i64 (k : Int))).run Try.prog w' = .ok (.pointer (some ⟨w.heap.size + 1, k * 3, none⟩)) w' := hix0
      have hgl := (Array.getElem?_eq_some_iff.1 hg).1
      have HH := Lib.hid (And.intro how (And.intro hg (And.intro hk0 (And.intro hk1 (And.intro hsz hgl)))))
      clear how hg hR hix0 hsz hgl
      obtain ⟨x, hx⟩ : ∃ x, x = new0[k] := ⟨_, rfl⟩
      rw [← hx] at e0 e1 e2
      have HX := Lib.hid hx
      clear hx
      go_wp2_with fail
      have hkw := ba wr (.cells x.cs.toArray 32)
      obtain ⟨Fo, hT, hbT, hFT⟩ := HH.out.1.below hkw
      refine (add_any x _ hT (Ln_inv k).srt (by rw [HX.out, ← all_0 HH.out.2.2.1 HH.out.2.2.2.1]; exact Ln_is HH.out.2.2.2.1) (by have := (Ln_inv k).len; omega)).mono ?_
      rintro e w5 ⟨rfl, hN⟩
      have hgl := HH.out.2.2.2.2.2
      obtain ⟨hO, hg5⟩ := OwnX.step hbT hFT (fun j e => by have := hkw.size; omega) hN
      have hg6 := (hg5 _ (by have := hkw.size; omega) rfl).trans ((hkw.block _ hgl).trans HH.out.2.1)
      have H5 := Lib.hid (And.intro hO hg6)
      clear hkw hT hbT hFT hO hg5 hg6 hgl hN
      go_wp2_with fail
      go_roundg (14 - (k + 1))
      case measure => omega
      case rel => exact ⟨k + 1, by omega, rfl, by go_num, by rw [← Ln_succ HH.out.2.2.2.1, all_0 HH.out.2.2.1 HH.out.2.2.2.1, ← HX.out]; exact H5.out.1, H5.out.2, by omega, by omega⟩
    · have hk14 : k = 14 := by omega
      subst hk14
      have HH := Lib.hid (And.intro how hg)
      clear how hg hR
      go_wp2_with fail
      obtain ⟨g, hg⟩ : ∃ g, g = wr.heap.size := ⟨_, rfl⟩
      rw [← hg]
      go_loopg [34] 16 (N2 w w.heap.size g)
      case atStart =>
        have hsz1 := hsz
        obtain ⟨F, a, b, c⟩ := HH.out.1
        refine ⟨0, by omega, by omega, rfl, ⟨F, a.below (ba _ _), b.trans ((ba _ _).mono b.size), fun j hj => ⟨(c j hj).1, fun e => ?_⟩⟩, ?_, by omega, ?_⟩
        · have := a.lt j hj; have e' : j = g := e; omega
        · rw [hg]; exact alloc_at wr (.cells names.toArray 9)
        · have := a.lt _ a.mine; omega
      case round =>
        obtain ⟨k, hk, rfl, rfl, how, hgb, hgw, hgp⟩ := hrel
        by_cases hlt2 : k < 16
        · have hk0 : k < new1.length := hlt2
          have hk1 : 14 + k < allO.length := by rw [allO_len]; omega
          have e0 := names_at hgb hk0
          have hix := names_ix g k hlt2
          have hgl := (Array.getElem?_eq_some_iff.1 hgb).1
          have H2 := Lib.hid (And.intro how (And.intro hgb (And.intro hk1 hgl)))
          obtain ⟨x, hx⟩ : ∃ x, x = new1[k] := ⟨_, rfl⟩
          rw [← hx] at e0
          have HX := Lib.hid hx
          clear how hgb hgl hx hg
          go_wp2_with fail
          obtain ⟨Fo, hT, hbT, hFT⟩ := H2.out.1
          refine (add_any ⟨x, 1, 700⟩ _ hT (Ln_inv (14 + k)).srt (by rw [HX.out, ← all_1 hk0 H2.out.2.2.1]; exact Ln_is H2.out.2.2.1) (by have := (Ln_inv (14 + k)).len; omega)).mono ?_
          rintro e w5 ⟨rfl, hN⟩
          have hgl := H2.out.2.2.2
          obtain ⟨hO, hg5⟩ := OwnX.step hbT hFT (fun j e => by have e' : j = g := e; omega) hN
          have hg6 := (hg5 _ hgl rfl).trans H2.out.2.1
          have H5 := Lib.hid (And.intro hO hg6)
          clear hT hbT hFT hO hg5 hg6 hgl hN e0 hix
          go_wp2_with fail
          go_roundg (16 - (k + 1))
          case measure => omega
          case rel => exact ⟨k + 1, by omega, rfl, by go_num, by rw [← Nat.add_assoc, ← Ln_succ H2.out.2.2.1, all_1 hk0 H2.out.2.2.1, ← HX.out]; exact H5.out.1, H5.out.2, by omega, by omega⟩
        · have hk16 : k = 16 := by omega
          subst hk16
          have H2 := Lib.hid how
          clear how hgb hg
          go_wp2_with fail
          go_ret
          obtain ⟨F, a, b, c⟩ := H2.out
          refine ⟨w.heap.size, rfl, Nat.le_refl _, F, ?_, b, fun j hj => (c j hj).1⟩
          rw [← Ln_end]; exact a
end Go.Proofs.Ytnpdipmkikakcaa.opk
