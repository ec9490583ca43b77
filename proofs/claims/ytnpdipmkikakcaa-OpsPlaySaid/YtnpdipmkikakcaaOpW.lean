/- The reference's Find. -/
import Derived.Test.YtnpdipmkikakcaaOpV
import Derived.Test.YtnpdipmkikakcaaOpN
namespace Go.Proofs.Ytnpdipmkikakcaa.opw
open Go.ChangeShapes Go.WideShapes Go.ChangeAt Go.RowKit
open Go.Proofs.Ytnpdipmkikakcaa.kp Go.Proofs.Ytnpdipmkikakcaa.opa Go.Proofs.Ytnpdipmkikakcaa.opb Go.Proofs.Ytnpdipmkikakcaa.opb2 Go.Proofs.Ytnpdipmkikakcaa.opc Go.Proofs.Ytnpdipmkikakcaa.opd Go.Proofs.Ytnpdipmkikakcaa.ope Go.Proofs.Ytnpdipmkikakcaa.opf Go.Proofs.Ytnpdipmkikakcaa.opg Go.Proofs.Ytnpdipmkikakcaa.oph Go.Proofs.Ytnpdipmkikakcaa.opi Go.Proofs.Ytnpdipmkikakcaa.opk Go.Proofs.Ytnpdipmkikakcaa.opn Go.Proofs.Ytnpdipmkikakcaa.opq Go.Proofs.Ytnpdipmkikakcaa.opr Go.Proofs.Ytnpdipmkikakcaa.ops_ Go.Proofs.Ytnpdipmkikakcaa.opt Go.Proofs.Ytnpdipmkikakcaa.opu Go.Proofs.Ytnpdipmkikakcaa.opv
set_option linter.unusedVariables false
def RF (wc : World) (l : List D) (y : D) (g : Nat) (s : Value) (wr : World) : Prop :=
  ∃ k : Nat, k ≤ l.length ∧ g = l.length - k ∧ s = .int .i64 k ∧ (∀ x ∈ l.take k, cd x y ≠ 0) ∧ Below wc.heap.size wc wr
theorem no_next {l : List D} {y : D} {k : Nat} (hk : k < l.length) (h : ∀ x ∈ l.take k, cd x y ≠ 0) (hc : cd l[k] y ≠ 0) : ∀ x ∈ l.take (k + 1), cd x y ≠ 0 := by
  intro x hx
  rw [List.take_succ_eq_append_getElem hk] at hx
  rcases List.mem_append.1 hx with q | q
  · exact h x q
  · rw [List.mem_singleton.1 q]; exact hc
theorem no_is {l : List D} {y : D} (h : ∀ x ∈ l, cd x y ≠ 0) : is l y = false := by
  unfold is
  rw [decide_eq_false]
  intro q
  refine q (List.filter_eq_nil_iff.2 fun x hx => ?_)
  simpa using h x hx
set_option linter.unusedSimpArgs false
set_option maxRecDepth 100000 in
set_option maxHeartbeats 8000000 in
theorem rfind_any {p : Nat} {F : Nat → Prop} {l : List D} (n : List UInt8) (kk : Int) (b : Bool) (hkb : fr kk = b) (w : World) (h : RTb w p F l) (hs : Srt l) (hl : l.length ≤ 1000) :
    Calls Try.prog 16 #[.pointer (some ⟨p, 0, none⟩), .string ⟨n.toArray⟩, .bool b] w fun e w' => e = .returned (.tuple #[(gd l ⟨n, kk, 0⟩).v, .bool (is l ⟨n, kk, 0⟩)]) ∧ Below w.heap.size w w' := by
  have hb := ba w (.cells (D.cs ⟨[], 0, 0⟩).toArray 32)
  have hz := alloc_at w (.cells (D.cs ⟨[], 0, 0⟩).toArray 32)
  obtain ⟨a, c, f0, g0, hrw⟩ := (h.below hb).open_
  have H0 := Lib.hid (And.intro hrw (And.intro hs (And.intro hb (And.intro hz hl))))
  have HK := Lib.hid hkb
  simp only [D.cs] at f0 g0
  clear h hs hb hz hrw hkb
  go_enter Try.func16, Try.ntmps16
  go_wp2_with fail
  clear f0 g0
  go_loopg [18] l.length (RF (w.alloc (.cells (D.cs ⟨[], 0, 0⟩).toArray 32)) l ⟨n, kk, 0⟩)
  case atStart => exact ⟨0, by omega, by omega, rfl, by simp, br _⟩
  case round =>
    obtain ⟨j, hj, rfl, rfl, hno, hbr⟩ := hrel
    have hz1 := (hbr.block _ (by simp)).trans H0.out.2.2.2.1
    have hbw : Below w.heap.size w wr := H0.out.2.2.1.trans (hbr.mono (by simp))
    have HR := Lib.hid (And.intro (H0.out.1.below hbr) (And.intro hno (And.intro hbw (And.intro hz1 hbr))))
    clear hno hbr hz1 hbw
    by_cases hlt : j < l.length
    · obtain ⟨P, hP, _, e0, e1, e2, _, hix⟩ := HR.out.1.look hlt
      obtain ⟨x, hx⟩ : ∃ x, x = l[j] := ⟨_, rfl⟩
      rw [← hx] at e0 e1 e2
      have HX := Lib.hid hx
      have hg : decide ((j : Int) < l.length) = true := decide_eq_true (by omega)
      obtain ⟨xn, xk, xp⟩ := x
      simp only [] at e0 e1 e2
      have hbx := ba wr (.cells (D.cs ⟨xn, xk, xp⟩).toArray 32)
      have hbA := alloc_at wr (.cells (D.cs ⟨xn, xk, xp⟩).toArray 32)
      have hsz : w.heap.size < wr.heap.size := (Array.getElem?_eq_some_iff.1 HR.out.2.2.2.1).1
      obtain ⟨y0, y1, y2, _⟩ := box_cells hbA
      simp only [D.cs] at y0 y1 y2
      have HB := Lib.hid (And.intro hbx (And.intro hbA hsz))
      clear hx hP hbx hbA hsz
      by_cases hn : xn = n
      · subst hn
        go_wp2_with fail
        refine (rfront_any ⟨xn, xk, xp⟩ _).mono ?_
        rintro e wN ⟨rfl, hbN⟩
        have hbN' : Below wr.heap.size wr wN := HB.out.1.trans (hbN.mono HB.out.1.size)
        have hz5 : wN.heap[w.heap.size]? = some (.cells (D.cs ⟨[], 0, 0⟩).toArray 32 (0, 0)) := (hbN'.block _ HB.out.2.2).trans HR.out.2.2.2.1
        have hx5 : wN.heap[wr.heap.size]? = some (.cells (D.cs ⟨xn, xk, xp⟩).toArray 32 (0, 0)) := (hbN.block _ (by simp)).trans HB.out.2.1
        have H5 := Lib.hid (And.intro hz5 (And.intro (HR.out.2.2.1.trans (hbN'.mono HR.out.2.2.1.size)) (HR.out.2.2.2.2.trans (hbN'.mono HR.out.2.2.2.2.size))))
        obtain ⟨z0, z1, z2, hzf⟩ := box_cells hz5
        have g0 := hzf 0
        have g1 := hzf 1
        have g2 := hzf 2
        have hlt5 := (Array.getElem?_eq_some_iff.1 hz5).1
        have HL5 := Lib.hid hlt5
        clear y0 y1 y2
        obtain ⟨y0, y1, y2, _⟩ := box_cells hx5
        clear hbN hbN' hz5 hx5 hzf e0 e1 e2 hix
        by_cases hf : fr xk = b
        · have HC : Hid (gd l ⟨xn, kk, 0⟩ = ⟨xn, xk, xp⟩ ∧ is l ⟨xn, kk, 0⟩ = true) := Lib.hid (found H0.out.2.1 (by rw [HX.out]; exact List.getElem_mem hlt) ((cd_zero _ _).2 ⟨rfl, hf.trans HK.out.symm⟩))
          have hbb : (fr xk == b) = true := by rw [hf]; exact beq_self_eq_true b
          clear hf
          go_wp2_with fail
          have hz9 := set3_block (d := ⟨xn, xk, xp⟩) H5.out.1
          obtain ⟨v0, v1, v2, _⟩ := box_cells hz9
          have hb9 := (set3_keep wN w.heap.size 0 ⟨xn, xk, xp⟩).to_below (B := w.heap.size) (fun k e => by subst e; omega) (by have := HL5.out; omega)
          simp only [set3] at v0 v1 v2 hb9
          exact bodyPost_ret (v := .tuple #[D.v ⟨xn, xk, xp⟩, .bool true]) (by simp [results, Try.results16, go_sem, v0, v1, v2, D.v]) rfl ⟨by rw [HC.out.1, HC.out.2], H5.out.2.1.trans hb9⟩
        · have HC : Hid (cd l[j] ⟨xn, kk, 0⟩ ≠ 0) := Lib.hid (by rw [← HX.out]; intro q; exact hf (((cd_zero _ _).1 q).2.trans HK.out))
          have hbb : (fr xk == b) = false := by rw [beq_eq_false_iff_ne]; exact hf
          clear hf
          go_wp2_with fail
          go_roundg (l.length - (j + 1))
          case measure => omega
          case rel => exact ⟨j + 1, hlt, rfl, by have := H0.out.2.2.2.2; first | rw [show wrap64 ((j : Int) + 1) = ((j + 1 : Nat) : Int) by unfold wrap64; omega] | rfl | simp, no_next hlt HR.out.2.1 HC.out, H5.out.2.2⟩
      · have tne : (xn == n) = false := by rw [beq_eq_false_iff_ne]; exact hn
        have HC : Hid (cd l[j] ⟨n, kk, 0⟩ ≠ 0) := Lib.hid (by rw [← HX.out]; intro q; exact hn ((cd_zero _ _).1 q).1)
        clear hn
        go_wp2_with fail
        go_roundg (l.length - (j + 1))
        case measure => omega
        case rel => exact ⟨j + 1, hlt, rfl, by have := H0.out.2.2.2.2; first | rw [show wrap64 ((j : Int) + 1) = ((j + 1 : Nat) : Int) by unfold wrap64; omega] | rfl | simp, no_next hlt HR.out.2.1 HC.out, HR.out.2.2.2.2.trans (HB.out.1.mono HR.out.2.2.2.2.size)⟩
    · have hjl : j = l.length := by omega
      subst hjl
      have HC : Hid (is l ⟨n, kk, 0⟩ = false) := Lib.hid (no_is (by have := HR.out.2.1; rwa [List.take_length] at this))
      have hg : decide ((l.length : Int) < l.length) = false := by simp
      obtain ⟨z0, z1, z2, hzf⟩ := box_cells HR.out.2.2.2.1
      have g0 := hzf 0
      have g1 := hzf 1
      have g2 := hzf 2
      have hlt5 := (Array.getElem?_eq_some_iff.1 HR.out.2.2.2.1).1
      clear hzf
      go_wp2_with fail
      have hz9 := set3_block (d := ⟨[], 0, 0⟩) HR.out.2.2.2.1
      obtain ⟨v0, v1, v2, _⟩ := box_cells hz9
      have hb9 := (set3_keep wr w.heap.size 0 ⟨[], 0, 0⟩).to_below (B := w.heap.size) (fun k e => by subst e; omega) (by omega)
      simp only [set3] at v0 v1 v2 hb9
      exact bodyPost_ret (v := .tuple #[ZV, .bool false]) (by simp [results, Try.results16, go_sem, v0, v1, v2, ZV]) rfl ⟨by rw [gd_no HC.out, HC.out]; rfl, HR.out.2.2.1.trans hb9⟩
end Go.Proofs.Ytnpdipmkikakcaa.opw
