/- The law's same: two rows of tokens. -/
import Derived.Test.YtdcidfpoojodmaaGreatDoorTkG
namespace Go.Proofs.YtdcidfpoojodmaaGreatDoor.tr
open Go.ChangeShapes Go.WideShapes Go.ChangeAt Go.RowKit Go.Maps
open Go.Proofs.YtdcidfpoojodmaaGreatDoor.kp Go.Proofs.YtdcidfpoojodmaaGreatDoor.num Go.Proofs.YtdcidfpoojodmaaGreatDoor.dec Go.Proofs.YtdcidfpoojodmaaGreatDoor.tk
set_option linter.unusedVariables false
set_option linter.unusedSimpArgs false
theorem neqT (x y : Tk) (w : World) : Sem.run Tryz.prog (binOp .neq 32 (.agg (tkc x).toArray) (.agg (tkc y).toArray)) w = .ok (.bool (decide (x ≠ y))) w := by
  have u3 := Tryz.underlying3
  have a3 := Tryz.isAgg3
  have z3 := Tryz.sizeOf3
  have u9 := Tryz.underlying9
  have a9 := Tryz.isAgg9
  have z9 := Tryz.sizeOf9
  have u8 := Tryz.underlying30
  have a8 := Tryz.isAgg30
  have z8 := Tryz.sizeOf30
  have hS : Tryz.prog.underlying 32 = some (.struct (Tryz.prog.fieldsOf 32)) := by kernel_rfl
  have hp : Tryz.prog.stoodInHeld 32 = false := by kernel_rfl
  obtain ⟨k, t, n, re, im, a⟩ := x
  obtain ⟨k', t', n', re', im', a'⟩ := y
  have cc : ∀ a b : Nat, ((a : Int) = (b : Int)) = (a = b) := fun a b => propext ⟨fun h => by omega, fun h => by omega⟩
  simp only [tkc]
  rw [run_neq_struct, show (10000 : Nat) = 9999 + 1 from rfl, run_equalIn_agg w 9999 32 _ _ hS hp]
  simp only [Program.fieldsOf, Tryz.underlying32]
  go_simp
  by_cases h1 : k = k' <;> by_cases h2 : t = t' <;> by_cases h3 : n = n' <;> by_cases h4 : re = re' <;> by_cases h5 : im = im' <;> by_cases h6 : a = a' <;> simp [h1, h2, h3, h4, h5, h6, cc]
def SRel (B B' : Nat) (w : World) (a b : Option Addr) (c c' : Nat) (l l' : List Tk) (g : Nat) (s : Value) (wr : World) : Prop :=
  ∃ k : Nat, k ≤ l.length ∧ g = l.length - k ∧ s = .int .i64 k ∧ l.take k = l'.take k ∧ Toks B wr (.slice a l.length c) l ∧ Toks B' wr (.slice b l'.length c') l' ∧ Below w.heap.size w wr
set_option maxRecDepth 100000 in
set_option maxHeartbeats 4000000 in
theorem same_any {a b : Option Addr} {c c' : Nat} {l l' : List Tk} {B B' : Nat} (w : World) (h : Toks B w (.slice a l.length c) l) (h' : Toks B' w (.slice b l'.length c') l') (hl : l.length ≤ 100000) :
    Calls Tryz.prog 7 #[.slice a l.length c, .slice b l'.length c'] w fun e w' => e = .returned (.bool (decide (l = l'))) ∧ Below w.heap.size w w' := by
  have HH := Lib.hid (And.intro h h')
  clear h h'
  by_cases hn : l.length = l'.length
  · have q : ((l.length : Int) != (l'.length : Int)) = false := by rw [bne_eq_false_iff_eq]; omega
    have HN := Lib.hid hn
    clear hn
    go_enter Tryz.func7, Tryz.ntmps7
    go_wp2_with fail
    go_loopg [13] l.length (SRel B B' w a b c c' l l')
    case atStart => exact ⟨0, by omega, by omega, rfl, by simp, HH.out.1, HH.out.2, kp.br _⟩
    case round =>
      obtain ⟨k, hk, rfl, rfl, ht, hr, hr', hb⟩ := hrel
      by_cases hlt : k < l.length
      · have hlt' : k < l'.length := by have := HN.out; omega
        obtain ⟨P, cP, hv, -, -, hP⟩ := hr.look (by intro e; rw [e] at hlt; simp at hlt)
        obtain ⟨P', cP', hv', -, -, hP'⟩ := hr'.look (by intro e; rw [e] at hlt'; simp at hlt')
        injection hv with hv1 hv2 hv3
        injection hv' with hv1' hv2' hv3'
        subst hv1; subst hv1'; subst hv3; subst hv3'
        have hix := fun w => ixT (g := P) (c := c) hlt w
        have hix' := fun w => ixT (g := P') (c := c') hlt' w
        have e := hP k _ (List.getElem?_eq_getElem hlt)
        have f := hP' k _ (List.getElem?_eq_getElem hlt')
        obtain ⟨x, hx⟩ : ∃ x, x = l[k] := ⟨_, rfl⟩
        obtain ⟨y, hy⟩ : ∃ y, y = l'[k] := ⟨_, rfl⟩
        rw [← hx] at e
        rw [← hy] at f
        obtain ⟨e0, e1, e2, e3, e4, e5⟩ := e
        obtain ⟨f0, f1, f2, f3, f4, f5⟩ := f
        clear hP hP'
        have hne := neqT x y
        simp only [tkc] at hne
        have HX := Lib.hid (And.intro hx (And.intro hy (And.intro ht (And.intro hr (And.intro hr' hb)))))
        clear hx hy ht hr hr' hb
        by_cases hxy : x = y
        · rw [decide_eq_false (by simpa using hxy)] at hne
          have HE := Lib.hid hxy
          clear hxy
          go_wp2_with fail
          go_quiet (fail)
          go_wp2_with fail
          go_roundg (l.length - (k + 1))
          case measure => omega
          case rel =>
            have hb := drewN_below wr nq
            exact ⟨k + 1, hlt, rfl, by first | go_num | rw [show wrap64 ((k : Int) + 1) = ((k + 1 : Nat) : Int) by unfold wrap64; omega], by rw [List.take_succ_eq_append_getElem hlt, List.take_succ_eq_append_getElem hlt', HX.out.2.2.1, ← HX.out.1, ← HX.out.2.1, HE.out], HX.out.2.2.2.1.below hb, HX.out.2.2.2.2.1.below hb, HX.out.2.2.2.2.2.trans (hb.mono HX.out.2.2.2.2.2.size)⟩
        · rw [decide_eq_true (by simpa using hxy)] at hne
          have HE := Lib.hid hxy
          clear hxy
          go_wp2_with fail
          go_quiet (fail)
          go_wp2_with fail
          go_ret
          have hb := drewN_below wr nq
          exact ⟨kp.rb (decide_eq_false fun e => HE.out (by rw [HX.out.1, HX.out.2.1]; simp only [e])).symm, HX.out.2.2.2.2.2.trans (hb.mono HX.out.2.2.2.2.2.size)⟩
      · have hk' : k = l.length := by omega
        subst hk'
        have HX := Lib.hid (And.intro ht hb)
        clear ht hr hr' hb
        go_wp2_with fail
        go_ret
        have he : l = l' := by have := HX.out.1; rw [List.take_length, HN.out, List.take_length] at this; exact this
        exact ⟨kp.rb (decide_eq_true he).symm, HX.out.2⟩
  · have q : ((l.length : Int) != (l'.length : Int)) = true := by rw [bne_iff_ne]; omega
    have HE : Hid (decide (l = l') = false) := Lib.hid (decide_eq_false fun e => hn (by rw [e]))
    clear hn
    go_enter Tryz.func7, Tryz.ntmps7
    go_wp2_with fail
    go_ret
    exact ⟨kp.rb HE.out.symm, kp.br _⟩
end Go.Proofs.YtdcidfpoojodmaaGreatDoor.tr
