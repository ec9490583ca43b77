/- The law AtomsRise holds: for every input its Go function returns true and leaves its arguments as they were. No condition beyond the row's own. -/
import Derived.Test.YtjdbppdanckfnaaRows
import Derived.WalkKit
import Derived.ProofKit
import Derived.OpenShut
import Derived.SizedLaws
import Derived.Test.YtjdbppdanckfnaaAtoms
import Derived.Test.YtjdbppdanckfnaaStrs
namespace Go.Proofs.Ytjdbppdanckfnaa.atomsRise
open Go.ChangeShapes Go.WideShapes Go.ChangeAt Go.RowKit
open Go.ChangeMaps (open_string)
open Go.Proofs.Ytjdbppdanckfnaa.atm
set_option linter.unusedVariables false
theorem own : ownKnob Try.prog.godebug = none := by kernel_rfl
theorem laidOut : laidOutB Try.prog = true := by kernel_rfl
/-- what holds at each round's head -/
def R (W : World) (n : Nat) (i : Value) (wr : World) : Prop := ∃ k : Nat, ∃ F l, k ≤ n ∧ i = .int .i64 k ∧ Tab wr W.heap.size F l ∧ l.length ≤ 2 + min k 60 ∧ Below W.heap.size W wr ∧ ∀ j, F j → W.heap.size ≤ j
theorem R.skip {W wr : World} {n k : Nat} {F : Nat → Prop} {l : List ByteArray} (hk : k < n) (t : Tab wr W.heap.size F l) (hl : l.length ≤ 2 + min k 60) (b : Below W.heap.size W wr) (s : ∀ j, F j → W.heap.size ≤ j) : R W n (.int .i64 ((k : Int) + 1)) wr :=
  ⟨k + 1, F, l, hk, by simp, t, by omega, b, s⟩
theorem R.more {W wr w2 : World} {n k : Nat} {F : Nat → Prop} {l l' : List ByteArray} (hk : k < n) (h60 : k < 60) (t : atm.Next wr W.heap.size F l' w2) (hl : l.length ≤ 2 + min k 60) (hl' : l'.length ≤ l.length + 1) (b : Below W.heap.size W wr) (s : ∀ j, F j → W.heap.size ≤ j) : R W n (.int .i64 ((k : Int) + 1)) w2 := by
  obtain ⟨F', t', kp, s'⟩ := t
  exact ⟨k + 1, F', l', hk, by simp, t', by omega, b.trans (kp.to_below s b.size), fun j hj => (s' j hj).elim (s j) fun h => Nat.le_trans b.size h⟩
set_option maxHeartbeats 4000000 in
set_option maxRecDepth 100000 in
theorem walk (w : World) (a0 : Option Addr) (n0 c0 : Nat) (t0 : List ByteArray) (x0 : Strs w a0 n0 t0) :
    Calls Try.prog 8 #[.slice a0 n0 c0] w fun e w' => e = .returned (.bool true) ∧ Below w.heap.size w w' := by
  have hn : n0 ≤ 8796093022208 := by have := x0.reach; omega
  have X := Lib.hid x0
  clear x0
  go_enter Try.func8, Try.ntmps8
  go_wp2_with fail
  refine (new_any w).mono ?_; rintro e w1 ⟨rfl, M⟩
  have M' := Lib.hid M
  clear M
  go_wp2_with fail
  go_loopw [14] (fun i wr => R w n0 i wr) (fun i _ => n0 - (intOf i).toNat)
  case atStart =>
    obtain ⟨F, t, b, s⟩ := M'.out
    exact ⟨0, F, l0, Nat.zero_le _, rfl, t, by simp [l0], b, s⟩
  case round =>
    obtain ⟨k, F, l, hk, rfl, t, hl, b, s⟩ := hrel
    have T := Lib.hid t
    have B := Lib.hid b
    have SS := Lib.hid s
    by_cases hlt : k < n0
    · obtain ⟨A, hA, hc, hix⟩ := X.out.look hlt
      have hc' := (b.cell hA).trans hc
      have hx := X.out.at_size hlt
      generalize t0.getD k ByteArray.empty = x at *
      clear hc t b s
      by_cases h60 : 60 ≤ k
      · go_wp2_with fail
        go_roundw
        case rel => exact R.skip hlt T.out hl B.out SS.out
        case measure => simp [intOf]; omega
      have hxm : x.size ≤ 9223372036854775807 := by unfold maxLen at hx; omega
      by_cases hs : 200 < x.size
      · go_wp2_with fail
        go_roundw
        case rel => exact R.skip hlt T.out hl B.out SS.out
        case measure => simp [intOf]; omega
      have cl := Lib.hid (len_any T.out)
      have cf := Lib.hid (find_any T.out x hx)
      by_cases hi : x ∈ l
      · have cn := Lib.hid (num_old T.out x (by omega) hi)
        have hb : l.idxOf x < l.length := List.idxOf_lt_length_of_mem hi
        have cf' := Lib.hid (by have := cf.out; rw [show fb l x = true by simp [fb, hi], show fi l x = l.idxOf x by simp [fi, hi]] at this; exact this)
        clear cf hi
        go_wp2_with fail
        refine cl.out.mono ?_; rintro e w' ⟨rfl, rfl⟩
        go_wp2_with fail
        refine cf'.out.mono ?_; rintro e w' ⟨rfl, rfl⟩
        go_wp2_with fail
        refine cn.out.mono ?_; rintro e w2 ⟨rfl, N⟩
        obtain ⟨F2, t2, k2, s2⟩ := N
        have N := Lib.hid (show atm.Next wr w.heap.size F l w2 from ⟨F2, t2, k2, s2⟩)
        have cl2 := Lib.hid (len_any t2)
        clear t2 k2 s2
        go_wp2_with fail
        refine cl2.out.mono ?_; rintro e w' ⟨rfl, rfl⟩
        go_wp2_with fail
        go_roundw
        case rel => exact R.more hlt (by omega) N.out hl (by omega) B.out SS.out
        case measure => simp [intOf]; omega
      · have cn := Lib.hid (num_new T.out x (by omega) hi (by omega))
        have cf' := Lib.hid (by have := cf.out; rw [show fb l x = false by simp [fb, hi], show fi l x = 0 by simp [fi, hi]] at this; exact this)
        clear cf hi
        go_wp2_with fail
        refine cl.out.mono ?_; rintro e w' ⟨rfl, rfl⟩
        go_wp2_with fail
        refine cf'.out.mono ?_; rintro e w' ⟨rfl, rfl⟩
        go_wp2_with fail
        refine cn.out.mono ?_; rintro e w2 ⟨rfl, N⟩
        obtain ⟨F2, t2, k2, s2⟩ := N
        have N := Lib.hid (show atm.Next wr w.heap.size F (l ++ [x]) w2 from ⟨F2, t2, k2, s2⟩)
        have cl2 := Lib.hid (by have := len_any t2; rw [List.length_append] at this; exact this)
        clear t2 k2 s2
        go_wp2_with fail
        refine cl2.out.mono ?_; rintro e w' ⟨rfl, rfl⟩
        go_wp2_with fail
        go_roundw
        case rel => exact R.more hlt (by omega) N.out hl (by simp) B.out SS.out
        case measure => simp [intOf]; omega
    · clear t b s
      go_wp2_with fail
      refine (awake_any _).mono ?_; rintro e w' ⟨rfl, hb⟩
      go_wp2_with fail
      go_ret
      exact ⟨rfl, B.out.trans (hb.mono B.out.size)⟩
set_option maxRecDepth 100000 in
theorem lifted (os : Os) (started : os.Started) (H : Type) (enc : TypeId × Value → H) :
    ReturnsInHanded {} Try.checked os 8 .any (Rows.atomsRiseSpec.pre6 enc Try.prog Try.f8 Rows.atomsRiseRow.domain false) (Rows.atomsRiseSpec.post enc Try.prog Try.f8 false true false false) := by
  refine returnsInHanded_of_change_sized (C := Try.checked) own started (by kernel_rfl) Try.func8
    (ChangeSpec.witness6 (enc := enc) (C := Try.checked) false ⟨#[], #[.slice none 0 0], []⟩ 8 (by kernel_rfl) (by kernel_rfl) (by kernel_rfl) (by kernel_rfl)) ?_
  intro W base args ds gs before hval0 hW _ hsz0 _
  have hsz : (DataW.weightsEach Try.prog (Try.f8.params.toList ++ Rows.atomsRiseSpec.plain.varTypes Try.prog) (ds ++ gs)).all (· ≤ reachBytes) = true := hsz0
  clear hsz0
  have hval : ∀ (j : Nat) t v, Try.f8.params[j]? = some t → args[j]? = some v → Value.okWide Try.prog W .any base t v := hval0
  have hW' := hW
  obtain ⟨p, q, hA0, hV, rfl, hfz, hnd⟩ := hW
  have hA : DataW.TrodAll enc Try.prog W 0 (fun _ => true) true Try.f8.params.toList args.toList ds p := hA0
  rw [Try.params8] at hA hval hsz
  obtain ⟨v0, vs0, d0, ds0, p0, q0, hargs, rfl, rfl, h0, r0⟩ := trodAll_cons hA
  obtain ⟨rfl, rfl, rfl⟩ := trodAll_nil r0
  obtain rfl : args = #[v0] := by cases args; simp_all
  obtain ⟨rfl, rfl⟩ := trodVars_none hV
  simp only [List.append_nil] at hW'
  have lt0 : ∀ x ∈ p0, x.block < W.heap.size := fun x hx => by
    have := hW'.lt x (by simp [hx])
    simpa using this
  have k0 := h0
  obtain ⟨a0, n0, c0, rfl⟩ := okWide_slice Try.underlying22 (hval 0 22 v0 rfl rfl)
  obtain ⟨t0, x0⟩ := h0.elim fun fuel hf => strs_open hf (lt0) (fun x y e => sized_slice hsz (j := 0) (t := 22) (e := 9) rfl (by rw [← e]; rfl) Try.underlying22)
  clear hA0 hval0
  refine (walk W a0 n0 c0 t0 x0).mono fun e W' ⟨he, hg⟩ => ?_
  subst he
  have ha := (trodAll_cons_mk (Below.trod laidOut (by kernel_rfl) (of_decide_eq_true (by kernel_rfl)) k0 hg lt0) trodAll_mk0)
  refine ⟨_, rfl, _, _, _, [], _, [], hW', ?_, ha, rfl, hg.frame _, fun h => by cases h⟩
  exact (trodAll_cons_mk (shut_bool Try.underlying4 _) trodAll_mk0)
/-- THE STATEMENT. -/
theorem proved : Rows.AtomsRiseSaid :=
  OpenClaim.holds_of_wide 8 Try.f8 rfl rfl rfl rfl rfl rfl rfl ⟨rfl, rfl, rfl, rfl, rfl⟩ rfl rfl rfl rfl rfl (by kernel_rfl) Try.func8 (by kernel_rfl)
    (of_decide_eq_true (by kernel_rfl)) (by unfold Func.isWrapper; first | (rw [if_pos (by decide +kernel)]; kernel_rfl) | (rw [if_neg (by decide +kernel)]; exact ⟨rfl, rfl⟩))
    (fun os started H enc _ => lifted os started H enc)
#print axioms proved
end Go.Proofs.Ytjdbppdanckfnaa.atomsRise
