/- The contracts of the page's own texts of complex numbers, of words, and of their order. -/
import Derived.Test.YtfobladliokfoaaDoorHexP
import Derived.Test.YtfobladliokfoaaDoorFmt
import Derived.Test.YtfobladliokfoaaDoorCpxR
import Derived.Test.YtfobladliokfoaaDoorCmp
namespace Go.Proofs.YtfobladliokfoaaDoor.num
open Go.ChangeShapes Go.WideShapes Go.ChangeAt Go.RowKit
set_option linter.unusedVariables false
theorem rtextC_any (p q : Nat) (w : World) (hp : p < 18446744073709551616) (hq : q < 18446744073709551616) (h : Shift w) :
    Calls Tryd.prog 12 #[.int .u64 (p : Int), .int .u64 (q : Int)] w fun e w' => e = .returned (.string ⟨(cpx p q).toArray⟩) ∧ Below w.heap.size w w' := by
  have lp := hex16_length p
  have lq := hex16_length q
  have H := Lib.hid h; clear h
  go_enter Tryd.func12, Tryd.ntmps12
  go_wp2_with fail
  refine (rhex_any p _ hp H.out).mono ?_; rintro e w1 ⟨rfl, b1⟩
  go_wp2_with fail
  refine (rhex_any q _ hq (shift_on H.out b1)).mono ?_; rintro e w2 ⟨rfl, b2⟩
  go_wp2_with fail
  go_ret
  exact ⟨congrArg (fun s => Ending.returned (.string s)) (ByteArray.ext (by simp [cpx])), bt b1 b2⟩
end Go.Proofs.YtfobladliokfoaaDoor.num
