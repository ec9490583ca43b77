/- The reference's Cons, Nil. -/
import Derived.Test.YtjgkgceigbimoaaRSm
import Derived.Test.YtjgkgceigbimoaaLst
namespace Go.Proofs.Ytjgkgceigbimoaa.rcn
set_option linter.unusedVariables false
open Go.ChangeShapes Go.WideShapes Go.ChangeAt Go.RowKit
open Go.Proofs.Ytjgkgceigbimoaa.tm Go.Proofs.Ytjgkgceigbimoaa.lie Go.Proofs.Ytjgkgceigbimoaa.kp Go.Proofs.Ytjgkgceigbimoaa.cur Go.Proofs.Ytjgkgceigbimoaa.rws Go.Proofs.Ytjgkgceigbimoaa.sme Go.Proofs.Ytjgkgceigbimoaa.lst
def consB (t : Tm) : Bool := decide (t.kind = 5) && decide (t.name = DOT) && decide (t.args.length = 2)
def nilB (t : Tm) : Bool := decide (t.kind = 2) && decide (t.name = NIL)
theorem nil_any (t : Tm) (v : Value) (w : World) (ht : Lies No w t v) : Calls Try.prog 33 #[v] w fun e w' => e = .returned (.bool (nilB t)) ∧ Below w.heap.size w w' := by
  obtain ⟨k, n, i, re, im, l⟩ := t
  rw [Lies] at ht
  obtain ⟨a, c, rfl, hf, hr⟩ := ht
  clear hf hr
  by_cases hk : k = 2
  · subst hk
    by_cases hn : n = NIL
    · subst hn
      go_enter Try.func33, Try.ntmps33
      go_wp2_with fail
      go_ret
      exact ⟨rb (by simp [nilB, Tm.kind, Tm.name]), ba w _⟩
    · have q := tl_ne hn
      have q2 : ¬ n.toList = [91, 93] := by simpa using q
      have HN := Lib.hid hn
      clear hn
      go_enter Try.func33, Try.ntmps33
      go_wp2_with fail
      go_ret
      exact ⟨rb (by simp [nilB, Tm.kind, Tm.name, HN.out, q2]), ba w _⟩
  · have q : (k == 2) = false := by rw [beq_eq_false_iff_ne]; exact hk
    have HK := Lib.hid hk
    clear hk
    go_enter Try.func33, Try.ntmps33
    go_wp2_with fail
    go_ret
    exact ⟨rb (by simp [nilB, Tm.kind, HK.out]), ba w _⟩
theorem cons_any (t : Tm) (v : Value) (w : World) (ht : Lies No w t v) : Calls Try.prog 31 #[v] w fun e w' => e = .returned (.bool (consB t)) ∧ Below w.heap.size w w' := by
  obtain ⟨k, n, i, re, im, l⟩ := t
  rw [Lies] at ht
  obtain ⟨a, c, rfl, hf, hr⟩ := ht
  clear hf hr
  by_cases hk : k = 5
  · subst hk
    by_cases hn : n = DOT
    · subst hn
      go_enter Try.func31, Try.ntmps31
      go_wp2_with fail
      go_ret
      have hb : ((l.length : Int) == 2) = decide (l.length = 2) := by rw [bd]; exact decide_eq_decide.2 (by omega)
      exact ⟨rb (by simp only [consB, Tm.kind, Tm.name, Tm.args, decide_true, Bool.true_and]; exact hb), ba w _⟩
    · have q := tl_ne hn
      have q2 : ¬ n.toList = [46] := by simpa using q
      have HN := Lib.hid hn
      clear hn
      go_enter Try.func31, Try.ntmps31
      go_wp2_with fail
      go_ret
      exact ⟨rb (by simp [consB, Tm.kind, Tm.name, HN.out]), ba w _⟩
  · have q : (k == 5) = false := by rw [beq_eq_false_iff_ne]; exact hk
    have HK := Lib.hid hk
    clear hk
    go_enter Try.func31, Try.ntmps31
    go_wp2_with fail
    go_ret
    exact ⟨rb (by simp [consB, Tm.kind, HK.out]), ba w _⟩
end Go.Proofs.Ytjgkgceigbimoaa.rcn
