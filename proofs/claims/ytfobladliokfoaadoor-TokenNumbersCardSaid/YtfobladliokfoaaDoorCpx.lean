/- The contracts of the calls on complex numbers, by the bits of their parts: what is no number is the one of the document. -/
import Derived.Test.YtfobladliokfoaaDoorKit
import Derived.Test.YtfobladliokfoaaDoorFlt
import Derived.Laws.Cover3
import Derived.Laws.Externs
import Derived.Laws.ComplexArith
namespace Go.Proofs.YtfobladliokfoaaDoor.num
open Go.ChangeShapes Go.WideShapes Go.ChangeAt Go.RowKit
set_option linter.unusedVariables false
def nan64 : Nat := 9221120237041090561
def cl1 (x : Nat) : Nat := if Ieee.double.order x x == some .eq then x else nan64
theorem ret_f64 {x y : Nat} (h : x = y) : Ending.returned (.float .f64 x) = .returned (.float .f64 y) := by rw [h]
theorem order_self (d : Ieee.Datum) (h : d.isNaN = false) : Ieee.Datum.order d d = some .eq := by
  cases d with
  | number s m i => simp [Ieee.Datum.order]
  | infinity s => simp [Ieee.Datum.order]
  | nan s t => simp [Ieee.Datum.isNaN] at h
theorem read_le (s : Bool) (r : Nat) (h : r ≤ 9218868437227405312) : (Ieee.double.read (Ieee.double.word s r)).isNaN = false := by
  have w1 : Ieee.double.signWeight = 9223372036854775808 := by decide
  have w3 : Ieee.double.infRung = 9218868437227405312 := by decide
  have e2 : Ieee.double.word s r % 9223372036854775808 = r := by unfold Ieee.Format.word; rw [w1]; cases s <;> simp <;> omega
  unfold Ieee.Format.read
  simp only [w1, w3, e2]
  split
  · rfl
  · split
    · rfl
    · split
      · rfl
      · omega
theorem write_self (d : Ieee.Datum) (h : d.isNaN = false) : Ieee.double.order (Ieee.double.write d) (Ieee.double.write d) = some .eq := by
  have w3 : Ieee.double.infRung = 9218868437227405312 := by decide
  refine order_self _ ?_
  cases d with
  | number s m i =>
    show (Ieee.double.read (Ieee.double.nearest s m i)).isNaN = false
    unfold Ieee.Format.nearest
    dsimp only
    split
    · exact read_le _ _ (by omega)
    · exact read_le _ _ (by rw [w3]; exact Nat.min_le_right ..)
  | infinity s => exact read_le _ _ (by rw [w3]; exact Nat.le_refl _)
  | nan s t => simp [Ieee.Datum.isNaN] at h
theorem sum_nn (a b d : Ieee.Datum) (h : Ieee.Datum.sum a b = some d) : d.isNaN = false := by
  unfold Ieee.Datum.sum at h
  (repeat' split at h) <;> simp at h <;> subst h <;> rfl
theorem prod_nn (a b d : Ieee.Datum) (h : Ieee.Datum.product a b = some d) : d.isNaN = false := by
  unfold Ieee.Datum.product at h
  (repeat' split at h) <;> simp at h <;> subst h <;> rfl
/-- what a float operation gives: its value, which is a number or an infinity; or, where it has none, some word that is no number -/
def NF (o : Option Nat) (r : Nat) : Prop := (o = some r ∧ Ieee.double.order r r = some .eq) ∨ (o = none ∧ (Ieee.double.read r).isNaN = true)
theorem map_nf (o : Option Ieee.Datum) (r : Nat) (h : o.map Ieee.double.write = some r) (hn : ∀ d, o = some d → d.isNaN = false) : NF (o.map Ieee.double.write) r := by
  cases o with
  | none => simp at h
  | some d =>
    simp only [Option.map_some, Option.some.injEq] at h
    subst h
    exact Or.inl ⟨rfl, write_self d (hn d rfl)⟩
theorem float_nf (op : BinOp) (hop : op = .add ∨ op = .sub ∨ op = .mul) (x y r : Nat) (h : floatBits op .f64 x y = some r) : NF (floatBits op .f64 x y) r := by
  rcases hop with rfl | rfl | rfl
  · exact map_nf _ r h (fun d hd => sum_nn _ _ d hd)
  · exact map_nf _ r h (fun d hd => sum_nn _ _ d hd)
  · exact map_nf _ r h (fun d hd => prod_nn _ _ d hd)
theorem nan_draw (t : Nat) : (Ieee.double.read ((t % 2) * 2 ^ 63 + 0x7ff0000000000000 + 1 + (t / 2) % (2 ^ 52 - 1))).isNaN = true := by
  have w1 : Ieee.double.signWeight = 9223372036854775808 := by decide
  have w2 : Ieee.double.binade = 4503599627370496 := by decide
  have w3 : Ieee.double.infRung = 9218868437227405312 := by decide
  have hu : (t / 2) % (2 ^ 52 - 1) < 4503599627370495 := Nat.mod_lt _ (by decide)
  generalize (t / 2) % (2 ^ 52 - 1) = u at *
  have ht : t % 2 = 0 ∨ t % 2 = 1 := by omega
  have e : (t % 2 * 2 ^ 63 + 0x7ff0000000000000 + 1 + u) % 9223372036854775808 = 9218868437227405313 + u := by rcases ht with h | h <;> rw [h] <;> omega
  unfold Ieee.Format.read
  simp only [w1, w2, w3, e]
  rw [if_neg (by omega), if_neg (by omega), if_neg (by omega)]
  rfl
theorem float_run {P : Program} (op : BinOp) (hop : op = .add ∨ op = .sub ∨ op = .mul) (t : TypeId) (x y : Nat) (w : World) :
    ∃ r w1, (binOp op t (.float .f64 x) (.float .f64 y)).run P w = .ok (.float .f64 r) w1 ∧ Below w.heap.size w w1 ∧ NF (floatBits op .f64 x y) r := by
  cases h : floatBits op .f64 x y with
  | some r => exact ⟨r, w, run_float_arith w op t .f64 x y r h, br w, h ▸ float_nf op hop x y r h⟩
  | none =>
    refine ⟨_, w.drew, ?_, bdr w, Or.inr ⟨rfl, nan_draw (w.tape w.drawn (.nanBits .f64 x y))⟩⟩
    unfold floatBits at h
    rcases hop with rfl | rfl | rfl <;> simp only at h <;> simp [binOp, Op.floatArith, h, Question.forced, Question.cut]
theorem nan_order (x : Nat) (h : (Ieee.double.read x).isNaN = true) (y : Nat) : Ieee.double.order x y = none := by
  unfold Ieee.Format.order
  cases hx : Ieee.double.read x <;> simp [hx, Ieee.Datum.isNaN] at h
  rfl
theorem cl_nf {o : Option Nat} {r : Nat} (h : NF o r) : cl1 r = o.getD nan64 := by
  rcases h with ⟨rfl, h⟩ | ⟨rfl, h⟩
  · simp [cl1, h]
  · simp [cl1, nan_order r h]
/-- an operation on two values that there may not be -/
def on2 (op : BinOp) : Option Nat → Option Nat → Option Nat
  | some u, some v => floatBits op .f64 u v
  | _, _ => none
theorem nan_left (op : BinOp) (hop : op = .add ∨ op = .sub) (x y : Nat) (h : (Ieee.double.read x).isNaN = true) : floatBits op .f64 x y = none := by
  cases hx : Ieee.double.read x <;> simp [hx, Ieee.Datum.isNaN] at h
  rcases hop with rfl | rfl
  · show Ieee.double.add x y = none
    unfold Ieee.Format.add; rw [hx]; rfl
  · show Ieee.double.sub x y = none
    unfold Ieee.Format.sub; rw [hx]; rfl
theorem nan_right (op : BinOp) (hop : op = .add ∨ op = .sub) (x y : Nat) (h : (Ieee.double.read y).isNaN = true) : floatBits op .f64 x y = none := by
  cases hy : Ieee.double.read y <;> simp [hy, Ieee.Datum.isNaN] at h
  rcases hop with rfl | rfl
  · show Ieee.double.add x y = none
    unfold Ieee.Format.add; rw [hy]; cases Ieee.double.read x <;> rfl
  · show Ieee.double.sub x y = none
    unfold Ieee.Format.sub; rw [hy]; cases Ieee.double.read x <;> rfl
theorem nf_on2 (op : BinOp) (hop : op = .add ∨ op = .sub) {o1 o2 : Option Nat} {u v r : Nat} (h1 : NF o1 u) (h2 : NF o2 v) (h : NF (floatBits op .f64 u v) r) : NF (on2 op o1 o2) r := by
  rcases h1 with ⟨rfl, h1⟩ | ⟨rfl, h1⟩
  · rcases h2 with ⟨rfl, h2⟩ | ⟨rfl, h2⟩
    · exact h
    · rw [nan_right op hop u v h2] at h; exact h
  · rw [nan_left op hop u v h1] at h; exact h
def av (op : BinOp) (x y : Nat) : Nat := (floatBits op .f64 x y).getD nan64
def mre (p q r s : Nat) : Nat := (on2 .sub (floatBits .mul .f64 p r) (floatBits .mul .f64 q s)).getD nan64
def mim (p q r s : Nat) : Nat := (on2 .add (floatBits .mul .f64 p s) (floatBits .mul .f64 q r)).getD nan64
theorem av_add {x y : Nat} {a b : Int} (hx : flt.Is x a) (hy : flt.Is y b) (h : (a + b).natAbs < 9007199254740992) : flt.Is (av .add x y) (a + b) := by
  obtain ⟨r, hr, h⟩ := flt.is_sum x y a b hx hy h
  have e : av .add x y = r := by show ((Ieee.double.add x y).getD nan64) = r; rw [hr]; rfl
  rw [e]; exact h
theorem av_sub {x y : Nat} {a b : Int} (hx : flt.Is x a) (hy : flt.Is y b) (h : (a - b).natAbs < 9007199254740992) : flt.Is (av .sub x y) (a - b) := by
  obtain ⟨r, hr, h⟩ := flt.is_sub x y a b hx hy h
  have e : av .sub x y = r := by show ((Ieee.double.sub x y).getD nan64) = r; rw [hr]; rfl
  rw [e]; exact h
theorem mre_is {p q r s : Nat} {a b c d : Int} (hp : flt.Is p a) (hq : flt.Is q b) (hr : flt.Is r c) (hs : flt.Is s d) (h1 : (a * c).natAbs < 9007199254740992) (h2 : (b * d).natAbs < 9007199254740992)
    (h : (a * c - b * d).natAbs < 9007199254740992) : flt.Is (mre p q r s) (a * c - b * d) := by
  obtain ⟨u, hu, iu⟩ := flt.is_mul p r a c hp hr h1
  obtain ⟨v, hv, iv⟩ := flt.is_mul q s b d hq hs h2
  obtain ⟨z, hz, iz⟩ := flt.is_sub u v _ _ iu iv h
  have e : mre p q r s = z := by
    show (on2 .sub (Ieee.double.mul p r) (Ieee.double.mul q s)).getD nan64 = z
    rw [hu, hv]; show (Ieee.double.sub u v).getD nan64 = z; rw [hz]; rfl
  rw [e]; exact iz
theorem mim_is {p q r s : Nat} {a b c d : Int} (hp : flt.Is p a) (hq : flt.Is q b) (hr : flt.Is r c) (hs : flt.Is s d) (h1 : (a * d).natAbs < 9007199254740992) (h2 : (b * c).natAbs < 9007199254740992)
    (h : (a * d + b * c).natAbs < 9007199254740992) : flt.Is (mim p q r s) (a * d + b * c) := by
  obtain ⟨u, hu, iu⟩ := flt.is_mul p s a d hp hs h1
  obtain ⟨v, hv, iv⟩ := flt.is_mul q r b c hq hr h2
  obtain ⟨z, hz, iz⟩ := flt.is_sum u v _ _ iu iv h
  have e : mim p q r s = z := by
    show (on2 .add (Ieee.double.mul p s) (Ieee.double.mul q r)).getD nan64 = z
    rw [hu, hv]; show (Ieee.double.add u v).getD nan64 = z; rw [hz]; rfl
  rw [e]; exact iz
theorem eqo {x y : Nat} {a : Int} (hx : flt.Is x a) (hy : flt.Is y a) : FloatKind.f64.format.order x y = some .eq := by
  have h := flt.is_order x y a a hx hy
  have e : compare a a = .eq := by simp
  rw [e] at h
  exact h
theorem mre_comm (p q r s : Nat) : mre p q r s = mre r s p q := by
  have e1 : floatBits .mul .f64 p r = floatBits .mul .f64 r p := flt.mul_comm p r
  have e2 : floatBits .mul .f64 q s = floatBits .mul .f64 s q := flt.mul_comm q s
  unfold mre; rw [e1, e2]
theorem mim_comm (p q r s : Nat) : mim p q r s = mim r s p q := by
  have e1 : floatBits .mul .f64 p s = floatBits .mul .f64 s p := flt.mul_comm p s
  have e2 : floatBits .mul .f64 q r = floatBits .mul .f64 r q := flt.mul_comm q r
  unfold mim; rw [e1, e2]
  cases floatBits .mul .f64 s p <;> cases floatBits .mul .f64 r q <;> simp [on2]
  rename_i u v
  have e3 : floatBits .add .f64 u v = floatBits .add .f64 v u := flt.add_comm u v
  rw [e3]
theorem ret_c {a b c d : Nat} (h : a = c) (g : b = d) : Ending.returned (.complex .f64 a b) = .returned (.complex .f64 c d) := by rw [h, g]

end Go.Proofs.YtfobladliokfoaaDoor.num
