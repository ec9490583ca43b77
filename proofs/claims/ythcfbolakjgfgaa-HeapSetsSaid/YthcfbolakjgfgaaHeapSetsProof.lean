/- The law HeapSets holds: for every input its Go function returns true and leaves its arguments as they were. No condition beyond the row's own. -/
import Derived.Test.YthcfbolakjgfgaaRows
import Derived.WalkKit
import Derived.ProofKit
import Derived.OpenShut
import Derived.SizedLaws
import Derived.Test.YthcfbolakjgfgaaHeap
import Derived.Test.YthcfbolakjgfgaaH5
import Derived.Test.YthcfbolakjgfgaaInts
import Derived.LoopTactic
namespace Go.Proofs.Ythcfbolakjgfgaa.heapSets
open Go.ChangeShapes Go.WideShapes Go.ChangeAt Go.RowKit
open Go.ChangeMaps (open_string)
open Go.Proofs.Ythcfbolakjgfgaa.arg
open Go.Proofs.Ythcfbolakjgfgaa.hp Go.Proofs.Ythcfbolakjgfgaa.cel Go.Proofs.Ythcfbolakjgfgaa.kp
set_option linter.unusedVariables false
theorem own : ownKnob Try.prog.godebug = none := by kernel_rfl
theorem laidOut : laidOutB Try.prog = true := by kernel_rfl
def R1 (W : World) (p n : Nat) (t : List Int) (i : Value) (wr : World) : Prop := ∃ k : Nat, k ≤ n ∧ i = .int .i64 k ∧ Own TH W p (t.take k) 60 wr
def R2 (W : World) (p n : Nat) (l : List Int) (i : Value) (wr : World) : Prop := ∃ k : Nat, k ≤ n ∧ i = .int .i64 k ∧ Own TH W p l 60 wr
theorem q_in (a : Int) (n : Nat) (h : 0 < n) (h1 : n ≤ 60) : 0 ≤ wrap64 ((IntKind.u64.wrap a).tmod n) ∧ wrap64 ((IntKind.u64.wrap a).tmod n) < n := by
  have h0 : 0 ≤ IntKind.u64.wrap a := by rw [IntKind.wrap_u64]; omega
  rw [Int.tmod_eq_emod_of_nonneg h0]
  have e1 := Int.emod_nonneg (IntKind.u64.wrap a) (b := n) (by omega)
  have e2 := Int.emod_lt_of_pos (IntKind.u64.wrap a) (b := n) (by omega)
  unfold wrap64; omega
theorem take_snoc {t : List Int} {k : Nat} (h : k < t.length) : t.take (k + 1) = t.take k ++ [t.getD k 0] := by
  rw [List.take_succ_eq_append_getElem h, List.getD_eq_getElem?_getD, List.getElem?_eq_getElem h]; rfl
theorem gv_set (t : List Int) (q k : Nat) (c : Int) (hq : q < t.length) (hk : k < t.length) : gv (t.set q c) k = if k = q then c else t.getD k 0 := by
  unfold gv; rw [if_pos ⟨by omega, by rw [List.length_set]; omega⟩]
  simp only [Int.toNat_natCast, List.getD_eq_getElem?_getD, List.getElem?_set]
  by_cases e : k = q
  · subst e; simp [hk]
  · have e' : ¬ q = k := fun h => e h.symm
    simp [e, e']
theorem walk (w : World) (a0 : Option Addr) (n0 c0 : Nat) (t0 : List Int) (x0 : Ints w a0 n0 t0) (a1 : Int) (w1 : (Lit.int .i64 a1).wf = true) (a2 : Int) (w2 : (Lit.int .u64 a2).wf = true) :
    Calls Try.prog 8 #[.slice a0 n0 c0, .int .i64 a1, .int .u64 a2] w fun e w' => e = .returned (.bool true) ∧ Below w.heap.size w w' := by
  have hc : W64 a2 := w64_wf w2
  have hlen := x0.len
  have X0 := Lib.hid x0
  have HC := Lib.hid hc
  clear w1 w2 x0 hc
  by_cases hz : n0 = 0 ∨ 60 < n0
  · rcases hz with hz | hz
    · have d0 : decide ((n0 : Int) = 0) = true := by simp [hz]
      have d1 : ((n0 : Int) == 0) = true := by simp [hz]
      have d2 : decide ((60 : Int) < n0) = false := by simp [hz]
      clear hz hlen
      go_enter Try.func8, Try.ntmps8
      go_wp2_with fail
      refine (awake_any _).mono ?_; rintro e w3 ⟨rfl, b3⟩
      go_wp2_with fail
      go_ret
      exact ⟨rfl, b3⟩
    · clear hlen
      go_enter Try.func8, Try.ntmps8
      go_wp2_with fail
      refine (awake_any _).mono ?_; rintro e w3 ⟨rfl, b3⟩
      go_wp2_with fail
      go_ret
      exact ⟨rfl, b3⟩
  · obtain ⟨hz0, hz1⟩ : 0 < n0 ∧ n0 ≤ 60 := by omega
    have HQ := Lib.hid (q_in a1 n0 hz0 hz1)
    have HL := Lib.hid hlen
    have d0 : decide ((n0 : Int) = 0) = false := by simp; omega
    have d1 : ((n0 : Int) == 0) = false := by simp; omega
    clear hz hlen
    go_enter Try.func8, Try.ntmps8
    go_wp2_with fail
    refine (new_any 60 w).mono ?_; rintro e w1 ⟨rfl, made⟩
    rw [show max 0 (min (60 : Int) 1048576) = 60 by omega] at made
    have OW := Lib.hid (Own.made (br w) made)
    clear made
    obtain ⟨p, hp⟩ : ∃ p, p = w.heap.size := ⟨_, rfl⟩
    rw [← hp] at OW ⊢
    clear hp
    go_wp2_with fail
    go_loopw [9, 26] (fun _ i wr => R1 w p n0 t0 i wr) (fun _ i _ => n0 - (intOf i).toNat)
    case atStart => exact ⟨0, by omega, rfl, by rw [List.take_zero]; exact OW.out⟩
    case round =>
      obtain ⟨k, hk, rfl, F, hh, b, f⟩ := hrel
      have HB := Lib.hid b
      have HF := Lib.hid f
      have hlk : (t0.take k).length = k := by rw [List.length_take, HL.out]; omega
      by_cases hlt : k < n0
      · obtain ⟨A, hA, hcell, hix⟩ := X0.out.look hlt
        have hc' := (b.cell hA).trans hcell
        have hpu := push_any hh (t0.getD k 0) (X0.out.at_wf k)
        have e3 : px (t0.take k) 60 (t0.getD k 0) = t0.take (k + 1) := by
          unfold px; rw [if_pos (by omega), take_snoc (by rw [HL.out]; exact hlt)]
        rw [e3] at hpu
        generalize t0.getD k 0 = x at *
        clear hcell hh b f hlk e3
        go_wp2_with fail
        refine hpu.mono ?_; rintro e w2 ⟨rfl, nx⟩
        have O2 := Lib.hid (Own.step HB.out HF.out nx)
        clear nx
        go_wp2_with fail
        go_roundw
        case rel => exact ⟨k + 1, by omega, by go_num, O2.out⟩
        case measure => simp [intOf]; omega
      · obtain rfl : k = n0 := by omega
        have et : t0.take k = t0 := by rw [List.take_of_length_le (by rw [HL.out]; exact Nat.le_refl _)]
        rw [et] at hh hlk
        have HLK := Lib.hid hlk
        clear et b f hlk
        go_wp2_with fail
        generalize wrap64 ((IntKind.u64.wrap a1).tmod k) = Q at *
        obtain ⟨q, rfl⟩ := Int.eq_ofNat_of_zero_le HQ.out.1
        have hq : q < k := by have := HQ.out.2; omega
        have hs := set_any hh q a2 HC.out
        rw [show gb t0 q = true from decide_eq_true ⟨by omega, by rw [HL.out]; omega⟩, show sx t0 q a2 = t0.set q a2 by unfold sx; rw [if_pos ⟨by omega, by rw [HL.out]; omega⟩]; simp] at hs
        clear hh HQ
        refine hs.mono ?_; rintro e w2 ⟨rfl, nx⟩
        obtain ⟨F2, h2, b2, f2⟩ := Own.step HB.out HF.out nx
        have B2 := Lib.hid b2; have G2 := Lib.hid f2
        have hlen2 : (t0.set q a2).length = k := by rw [List.length_set]; exact HL.out
        have hs := set_any h2 (k : Nat) a2 HC.out
        rw [show gb (t0.set q a2) (k : Nat) = false from decide_eq_false (by rw [hlen2]; omega), show sx (t0.set q a2) (k : Nat) a2 = t0.set q a2 by unfold sx; rw [if_neg (by rw [hlen2]; omega)]] at hs
        clear nx h2 b2 f2 hlen2
        go_wp2_with fail
        refine hs.mono ?_; rintro e w3 ⟨rfl, nx⟩
        obtain ⟨F3, h3, b3, f3⟩ := Own.step B2.out G2.out nx
        have B3 := Lib.hid b3; have G3 := Lib.hid f3
        have hs := set_any h3 (-1) a2 HC.out
        rw [show gb (t0.set q a2) (-1) = false from decide_eq_false (by omega), show sx (t0.set q a2) (-1) a2 = t0.set q a2 by unfold sx; rw [if_neg (by omega)]] at hs
        clear nx h3 b3 f3
        go_wp2_with fail
        refine hs.mono ?_; rintro e w4 ⟨rfl, nx⟩
        have O4 := Lib.hid (Own.step B3.out G3.out nx)
        clear nx hs
        go_wp2_with fail
        obtain ⟨n0, hn0⟩ : ∃ n0, n0 = k := ⟨_, rfl⟩
        rw [← hn0] at hq HL X0 ⊢
        have hz0' : 0 < n0 := by omega
        have hz1' : n0 ≤ 60 := by omega
        clear hn0
        go_loopw [10, 11, 60] (fun _ _ i wr => R2 w p n0 (t0.set q a2) i wr) (fun _ _ i _ => n0 - (intOf i).toNat)
        case atStart => exact ⟨0, by omega, rfl, O4.out⟩
        case round =>
          obtain ⟨j, hj, rfl, F5, h5, b5, f5⟩ := hrel
          have B5 := Lib.hid b5; have F5' := Lib.hid f5; have H5 := Lib.hid h5
          by_cases hlt : j < n0
          · obtain ⟨A, hA, hcell, hix⟩ := X0.out.look hlt
            have hc' := (b5.cell hA).trans hcell
            have hg := get_any h5 (j : Nat)
            rw [gv_set t0 q j a2 (by rw [HL.out]; exact hq) (by rw [HL.out]; exact hlt), show gb (t0.set q a2) (j : Nat) = true from decide_eq_true ⟨by omega, by rw [List.length_set, HL.out]; omega⟩] at hg
            by_cases e : j = q
            · subst e
              rw [if_pos rfl] at hg
              generalize t0.getD j 0 = x at *
              clear hcell h5 b5 f5
              go_wp2_with fail
              refine hg.mono ?_; rintro e w' ⟨rfl, rfl⟩
              go_wp2_with fail
              go_roundw
              case rel => exact ⟨j + 1, by omega, by go_num, F5, H5.out, B5.out, F5'.out⟩
              case measure => simp [intOf]; omega
            · rw [if_neg e] at hg
              generalize t0.getD j 0 = x at *
              clear hcell h5 b5 f5
              have d0 : decide ((j : Int) = q) = false := decide_eq_false (by omega)
              have d1 : ((j : Int) == q) = false := by rw [beq_eq_false_iff_ne]; omega
              go_wp2_with fail
              refine hg.mono ?_; rintro e w' ⟨rfl, rfl⟩
              go_wp2_with fail
              go_roundw
              case rel => exact ⟨j + 1, by omega, by go_num, F5, H5.out, B5.out, F5'.out⟩
              case measure => simp [intOf]; omega
          · have hd := deref_any h5 42 ⟨by omega, by omega⟩
            rw [dr_off (c := 42) (fun h => by have := h.1; omega)] at hd
            have hmk := fun w => rmake_any 2 5 w (by omega) (by omega) ⟨by omega, by omega⟩
            rw [show jn 2 5 = 42 by decide] at hmk
            have HMK := fun w => Lib.hid (hmk w)
            clear h5 b5 f5 hmk
            go_wp2_with fail
            refine (HMK _).out.mono ?_; rintro e w' ⟨rfl, rfl⟩
            go_wp2_with fail
            refine hd.mono ?_; rintro e w' ⟨rfl, rfl⟩
            go_wp2_with fail
            refine (HMK _).out.mono ?_; rintro e w' ⟨rfl, rfl⟩
            go_wp2_with fail
            refine (awake_any _).mono ?_; rintro e w6 ⟨rfl, b6⟩
            go_wp2_with fail
            go_ret
            exact ⟨rfl, B5.out.trans (b6.mono B5.out.size)⟩
set_option maxRecDepth 100000 in
theorem lifted (os : Os) (started : os.Started) (H : Type) (enc : TypeId × Value → H) :
    ReturnsInHanded {} Try.checked os 8 .any (Rows.heapSetsSpec.pre6 enc Try.prog Try.f8 Rows.heapSetsRow.domain false) (Rows.heapSetsSpec.post enc Try.prog Try.f8 false true false false) := by
  refine returnsInHanded_of_change_sized (C := Try.checked) own started (by kernel_rfl) Try.func8
    (ChangeSpec.witness6 (enc := enc) (C := Try.checked) false ⟨#[], #[.slice none 0 0, .int .i64 0, .int .u64 0], []⟩ 8 (by kernel_rfl) (by kernel_rfl) (by kernel_rfl) (by kernel_rfl)) ?_
  intro W base args ds gs before hval0 hW _ hsz0 _
  have hsz : (DataW.weightsEach Try.prog (Try.f8.params.toList ++ Rows.heapSetsSpec.plain.varTypes Try.prog) (ds ++ gs)).all (· ≤ reachBytes) = true := hsz0
  clear hsz0
  have hval : ∀ (j : Nat) t v, Try.f8.params[j]? = some t → args[j]? = some v → Value.okWide Try.prog W .any base t v := hval0
  have hW' := hW
  obtain ⟨p, q, hA0, hV, rfl, hfz, hnd⟩ := hW
  have hA : DataW.TrodAll enc Try.prog W 0 (fun _ => true) true Try.f8.params.toList args.toList ds p := hA0
  rw [Try.params8] at hA hval hsz
  obtain ⟨v0, vs0, d0, ds0, p0, q0, hargs, rfl, rfl, h0, r0⟩ := trodAll_cons hA
  obtain ⟨v1, vs1, d1, ds1, p1, q1, rfl, rfl, rfl, h1, r1⟩ := trodAll_cons r0
  obtain ⟨v2, vs2, d2, ds2, p2, q2, rfl, rfl, rfl, h2, r2⟩ := trodAll_cons r1
  obtain ⟨rfl, rfl, rfl⟩ := trodAll_nil r2
  obtain rfl : args = #[v0, v1, v2] := by cases args; simp_all
  obtain ⟨rfl, rfl⟩ := trodVars_none hV
  simp only [List.append_nil] at hW'
  have lt0 : ∀ x ∈ p0, x.block < W.heap.size := fun x hx => by
    have := hW'.lt x (by simp [hx])
    simpa using this
  have k0 := h0
  have lt1 : ∀ x ∈ p1, x.block < W.heap.size := fun x hx => by
    have := hW'.lt x (by simp [hx])
    simpa using this
  have k1 := h1
  have lt2 : ∀ x ∈ p2, x.block < W.heap.size := fun x hx => by
    have := hW'.lt x (by simp [hx])
    simpa using this
  have k2 := h2
  obtain ⟨a0, n0, c0, rfl⟩ := okWide_slice Try.underlying30 (hval 0 30 v0 rfl rfl)
  obtain ⟨t0, x0⟩ := h0.elim fun fuel hf => ints_open hf (lt0) (fun x y e => sized_slice hsz (j := 0) (t := 30) (e := 24) rfl (by rw [← e]; rfl) Try.underlying30)
  obtain ⟨a1, rfl, rfl, rfl, w1⟩ := open_int Try.underlying3 (hval 1 3 v1 rfl rfl) h1
  obtain ⟨a2, rfl, rfl, rfl, w2⟩ := open_int Try.underlying24 (hval 2 24 v2 rfl rfl) h2
  clear hA0 hval0
  refine (walk W a0 n0 c0 t0 x0 a1 w1 a2 w2).mono fun e W' ⟨he, hg⟩ => ?_
  subst he
  have ha := (trodAll_cons_mk (Below.trod laidOut (by kernel_rfl) (of_decide_eq_true (by kernel_rfl)) k0 hg lt0) (trodAll_cons_mk (Below.trod laidOut (by kernel_rfl) (of_decide_eq_true (by kernel_rfl)) k1 hg lt1) (trodAll_cons_mk (Below.trod laidOut (by kernel_rfl) (of_decide_eq_true (by kernel_rfl)) k2 hg lt2) trodAll_mk0)))
  refine ⟨_, rfl, _, _, _, [], _, [], hW', ?_, ha, rfl, hg.frame _, fun h => by cases h⟩
  exact (trodAll_cons_mk (shut_bool Try.underlying4 _) trodAll_mk0)
/-- THE STATEMENT. -/
theorem proved : Rows.HeapSetsSaid :=
  OpenClaim.holds_of_wide 8 Try.f8 rfl rfl rfl rfl rfl rfl rfl ⟨rfl, rfl, rfl, rfl, rfl⟩ rfl rfl rfl rfl rfl (by kernel_rfl) Try.func8 (by kernel_rfl)
    (of_decide_eq_true (by kernel_rfl)) (by unfold Func.isWrapper; first | (rw [if_pos (by decide +kernel)]; kernel_rfl) | (rw [if_neg (by decide +kernel)]; exact ⟨rfl, rfl⟩))
    (fun os started H enc _ => lifted os started H enc)
#print axioms proved
end Go.Proofs.Ythcfbolakjgfgaa.heapSets
