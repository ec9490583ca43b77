/- The law HeapStands holds: for every input its Go function returns true and leaves its arguments as they were. No condition beyond the row's own. -/
import Derived.Test.YthcfbolakjgfgaaRows
import Derived.WalkKit
import Derived.ProofKit
import Derived.OpenShut
import Derived.SizedLaws
import Derived.Test.YthcfbolakjgfgaaHeap
import Derived.Test.YthcfbolakjgfgaaH5
import Derived.Test.YthcfbolakjgfgaaInts
import Derived.LoopTactic
namespace Go.Proofs.Ythcfbolakjgfgaa.heapStands
open Go.ChangeShapes Go.WideShapes Go.ChangeAt Go.RowKit
open Go.ChangeMaps (open_string)
open Go.Proofs.Ythcfbolakjgfgaa.arg
open Go.Proofs.Ythcfbolakjgfgaa.hp Go.Proofs.Ythcfbolakjgfgaa.cel Go.Proofs.Ythcfbolakjgfgaa.kp
set_option linter.unusedVariables false
theorem own : ownKnob Try.prog.godebug = none := by kernel_rfl
theorem laidOut : laidOutB Try.prog = true := by kernel_rfl
/-- the cells behind the variable at n: each a reference to the one ahead -/
def ch (n : Nat) : Nat → List Int
  | 0 => []
  | j + 1 => ch n j ++ [((n : Int) + j) * 8]
theorem ch_len (n : Nat) : ∀ j, (ch n j).length = j
  | 0 => rfl
  | j + 1 => by rw [ch, List.length_append, ch_len n j]; rfl
theorem ch_at (n : Nat) : ∀ j i, i < j → (ch n j)[i]? = some (((n : Int) + i) * 8)
  | 0, i, h => by omega
  | j + 1, i, h => by
    rw [ch]
    by_cases e : i < j
    · rw [List.getElem?_append_left (by rw [ch_len]; exact e)]; exact ch_at n j i e
    · obtain rfl : i = j := by omega
      rw [List.getElem?_append_right (by rw [ch_len]; exact Nat.le_refl _), ch_len]; simp
/-- n cells, a variable, a chain of j behind it -/
def al (t : List Int) (n j : Nat) : List Int := t.take n ++ [(n : Int) * 8] ++ ch n j
theorem al_len {t : List Int} {n : Nat} (h : n ≤ t.length) (j : Nat) : (al t n j).length = n + 1 + j := by
  unfold al; rw [List.length_append, List.length_append, List.length_take, ch_len]; simp; omega
theorem al_at {t : List Int} {n : Nat} (h : n ≤ t.length) (j i : Nat) (hi : i < j) : (al t n j).getD (n + (i + 1)) 0 = ((n : Int) + i) * 8 := by
  unfold al
  rw [List.getD_eq_getElem?_getD, List.getElem?_append_right (by rw [List.length_append, List.length_take]; simp; omega)]
  rw [show n + (i + 1) - (t.take n ++ [(n : Int) * 8]).length = i by rw [List.length_append, List.length_take]; simp; omega, ch_at n j i hi]; rfl
theorem al_var {t : List Int} {n : Nat} (h : n ≤ t.length) (j : Nat) : (al t n j).getD n 0 = (n : Int) * 8 := by
  unfold al
  rw [List.getD_eq_getElem?_getD, List.getElem?_append_left (by rw [List.length_append, List.length_take]; simp; omega), List.getElem?_append_right (by rw [List.length_take]; omega)]
  rw [show n - (t.take n).length = 0 by rw [List.length_take]; omega]; rfl
theorem al_low {t : List Int} {n : Nat} (h : n ≤ t.length) (j q : Nat) (hq : q ≤ n) (x : Int) : ((al t n j).set n x).take q = t.take q := by
  unfold al
  apply List.ext_getElem?
  intro i
  rw [List.getElem?_take, List.getElem?_take]
  by_cases hi : i < q
  · rw [if_pos hi, if_pos hi, List.getElem?_set_ne (by omega), List.append_assoc, List.getElem?_append_left (by rw [List.length_take]; omega), List.getElem?_take, if_pos (by omega)]
  · rw [if_neg hi, if_neg hi]
theorem dr_al {t : List Int} {n : Nat} (h : n ≤ t.length) (j : Nat) : ∀ c f, c ≤ j → c ≤ f → dr (al t n j) f (((n : Int) + c) * 8) = (n : Int) * 8
  | 0, f, _, _ => by
    rw [dr_off]
    · simp
    · rintro ⟨_, h1, h2⟩
      apply h2
      rw [show ((((n : Int) + (0 : Nat)) * 8) / 8).toNat = n by omega, al_var h]; simp
  | c + 1, f, hc, hf => by
    obtain ⟨f, rfl⟩ : ∃ g, f = g + 1 := ⟨f - 1, by omega⟩
    have e : ((((n : Int) + ((c + 1 : Nat) : Int)) * 8) / 8).toNat = n + (c + 1) := by omega
    rw [dr_on ⟨by omega, by rw [al_len h]; omega, by rw [e, al_at h j c (by omega)]; omega⟩, e, al_at h j c (by omega)]
    exact dr_al h j c f (by omega) (by omega)
theorem dr_set {t : List Int} {n : Nat} (h : n ≤ t.length) (j : Nat) : ∀ c f, c ≤ j → c + 1 ≤ f → dr ((al t n j).set n 58) f (((n : Int) + c) * 8) = 58
  | 0, f, _, hf => by
    obtain ⟨f, rfl⟩ : ∃ g, f = g + 1 := ⟨f - 1, by omega⟩
    have e : ((((n : Int) + (0 : Nat)) * 8) / 8).toNat = n := by omega
    have ev : ((al t n j).set n 58).getD n 0 = 58 := by rw [List.getD_eq_getElem?_getD, List.getElem?_set_self (by rw [al_len h]; omega)]; rfl
    rw [dr_on ⟨by omega, by rw [List.length_set, al_len h]; omega, by rw [e, ev]; omega⟩, e, ev]
    exact dr_off (fun h => by have := h.1; omega) f
  | c + 1, f, hc, hf => by
    obtain ⟨f, rfl⟩ : ∃ g, f = g + 1 := ⟨f - 1, by omega⟩
    have e : ((((n : Int) + ((c + 1 : Nat) : Int)) * 8) / 8).toNat = n + (c + 1) := by omega
    have ev : ((al t n j).set n 58).getD (n + (c + 1)) 0 = ((n : Int) + c) * 8 := by
      rw [List.getD_eq_getElem?_getD, List.getElem?_set_ne (by omega), ← List.getD_eq_getElem?_getD, al_at h j c (by omega)]
    rw [dr_on ⟨by omega, by rw [List.length_set, al_len h]; omega, by rw [e, ev]; omega⟩, e, ev]
    exact dr_set h j c f (by omega) (by omega)
theorem take_snoc {t : List Int} {k : Nat} (h : k < t.length) : t.take (k + 1) = t.take k ++ [t.getD k 0] := by
  rw [List.take_succ_eq_append_getElem h, List.getD_eq_getElem?_getD, List.getElem?_eq_getElem h]; rfl
def R1 (W : World) (p n : Nat) (t : List Int) (i : Value) (wr : World) : Prop := ∃ k : Nat, k ≤ n ∧ i = .int .i64 k ∧ Own TH W p (t.take k) 500 wr
def R2 (W : World) (p n c : Nat) (t : List Int) (v i : Value) (wr : World) : Prop := ∃ j : Nat, j ≤ c ∧ i = .int .u64 j ∧ v = .int .i64 ((n : Int) + j) ∧ Own TH W p (al t n j) 500 wr
def R3 (W : World) (p n : Nat) (l : List Int) (i : Value) (wr : World) : Prop := ∃ k : Nat, k ≤ n ∧ i = .int .i64 k ∧ Own TH W p l 500 wr
theorem q_in (a : Int) (n : Nat) (h1 : n ≤ 100) : 0 ≤ wrap64 ((IntKind.u64.wrap a).tmod ((n : Int) + 1)) ∧ wrap64 ((IntKind.u64.wrap a).tmod ((n : Int) + 1)) ≤ n := by
  have h0 : 0 ≤ IntKind.u64.wrap a := by rw [IntKind.wrap_u64]; omega
  rw [Int.tmod_eq_emod_of_nonneg h0]
  have e1 := Int.emod_nonneg (IntKind.u64.wrap a) (b := (n : Int) + 1) (by omega)
  have e2 := Int.emod_lt_of_pos (IntKind.u64.wrap a) (b := (n : Int) + 1) (by omega)
  unfold wrap64; omega
theorem c_in (a : Int) : 0 ≤ (IntKind.u64.wrap a).tmod 50 ∧ (IntKind.u64.wrap a).tmod 50 < 50 := by
  rw [IntKind.wrap_u64, Int.tmod_eq_emod_of_nonneg (by omega)]; omega
theorem walk (w : World) (a0 : Option Addr) (n0 c0 : Nat) (t0 : List Int) (x0 : Ints w a0 n0 t0) (a1 : Int) (w1 : (Lit.int .i64 a1).wf = true) (a2 : Int) (w2 : (Lit.int .i64 a2).wf = true) :
    Calls Try.prog 5 #[.slice a0 n0 c0, .int .i64 a1, .int .i64 a2] w fun e w' => e = .returned (.bool true) ∧ Below w.heap.size w w' := by
  have hlen := x0.len
  have X0 := Lib.hid x0
  have HL := Lib.hid hlen
  obtain ⟨N, hN⟩ : ∃ N, N = min n0 100 := ⟨_, rfl⟩
  have HQ := Lib.hid (q_in a1 N (by omega))
  have HC := Lib.hid (c_in a2)
  have hN1 : N ≤ 100 := by omega
  have hN2 : N ≤ n0 := by omega
  clear w1 w2 x0 hlen
  go_enter Try.func5, Try.ntmps5
  go_wp2_with fail
  refine (new_any 500 w).mono ?_; rintro e w1 ⟨rfl, made⟩
  rw [show max 0 (min (500 : Int) 1048576) = 500 by omega] at made
  have OW := Lib.hid (Own.made (br w) made)
  clear made
  obtain ⟨p, hp⟩ : ∃ p, p = w.heap.size := ⟨_, rfl⟩
  rw [← hp] at OW ⊢
  clear hp
  have HN := Lib.hid hN
  clear hN
  go_wp2_with fail
  go_loopw [8, 9, 10, 11, 26] (fun _ _ _ _ i wr => R1 w p N t0 i wr) (fun _ _ _ _ i _ => N - (intOf i).toNat)
  case atStart => exact ⟨0, by omega, rfl, by rw [List.take_zero]; exact OW.out⟩
  case round =>
    obtain ⟨k, hk, rfl, F, hh, b, f⟩ := hrel
    have HB := Lib.hid b
    have HF := Lib.hid f
    have hlk : (t0.take k).length = k := by rw [List.length_take, HL.out]; omega
    by_cases hlt : k < N
    · obtain ⟨A, hA, hcell, hix⟩ := X0.out.look (k := k) (by omega)
      have hc' := (b.cell hA).trans hcell
      have hpu := push_any hh (t0.getD k 0) (X0.out.at_wf k)
      have e1 : pv (t0.take k) 500 = k := by unfold pv; rw [if_pos (by omega), hlk]
      have e2 : pe (t0.take k) 500 = 0 := by unfold pe; rw [if_pos (by omega)]
      have e3 : px (t0.take k) 500 (t0.getD k 0) = t0.take (k + 1) := by
        unfold px; rw [if_pos (by omega), take_snoc (by rw [HL.out]; omega)]
      rw [e1, e2, e3] at hpu
      generalize t0.getD k 0 = x at *
      have hkn : k < n0 := by omega
      have hk1 : k < 100 := by omega
      clear hcell hh b f hlk e1 e2 e3
      go_wp2_with fail
      refine hpu.mono ?_; rintro e w2 ⟨rfl, nx⟩
      have O2 := Lib.hid (Own.step HB.out HF.out nx)
      clear nx
      go_wp2_with fail
      go_roundw
      case rel => exact ⟨k + 1, by omega, by go_num, O2.out⟩
      case measure => simp [intOf]; omega
    · have hkN : k = N := by omega
      have hv := var_any hh
      rw [show pv (t0.take k) 500 = k by unfold pv; rw [if_pos (by omega), hlk], show pe (t0.take k) 500 = 0 by unfold pe; rw [if_pos (by omega)], show px (t0.take k) 500 ((t0.take k).length * 8) = al t0 k 0 by unfold px al; rw [if_pos (by omega), hlk]; simp [ch]] at hv
      have HK := Lib.hid hkN
      rw [← hkN] at HQ
      have HT : Hid (k ≤ t0.length) := Lib.hid (by rw [HL.out]; have := HN.out; omega)
      have hk100 : k ≤ 100 := by omega
      rcases (Nat.lt_or_ge 100 n0).symm with h100 | h100
      case' inl =>
        have e0 : k = n0 := by have := HN.out; omega
        clear hkN hlt hh b f hlk HN HK
        subst e0
        have hkk : k ≤ k := Nat.le_refl _
        have hlt : ¬ k < k := by omega
        go_wp2_with fail
      case' inr =>
        have e0 : k = 100 := by have := HN.out; omega
        have HE := Lib.hid e0
        have d0 : decide ((100 : Int) ≤ k) = true := decide_eq_true (by omega)
        have d1 : (100 : Int) ≤ k := by omega
        have d2 : k < n0 := by omega
        have d3 : (100 : Int) ≤ n0 := by omega
        obtain ⟨A, hA, hcell, hix⟩ := X0.out.look (k := k) (by omega)
        have hc' := (b.cell hA).trans hcell
        generalize t0.getD k 0 = x at *
        have hkk : k ≤ n0 := by omega
        clear hkN hk hlt hh b f hlk e0 hcell
        go_wp2_with fail
        rw [show (100 : Int) = k by have := HE.out; omega]
        clear d0 d1 d3 hix hc'
      all_goals
        refine hv.mono ?_; rintro e w2 ⟨rfl, nx⟩
        have O2 := Lib.hid (Own.step HB.out HF.out nx)
        clear nx hv h100
        go_wp2_with fail
        generalize (IntKind.u64.wrap a2).tmod 50 = C at *
        obtain ⟨c, rfl⟩ := Int.eq_ofNat_of_zero_le HC.out.1
        have hc50 : c < 50 := by have := HC.out.2; omega
        clear HC
        go_loopw [15, 16, 17, 66] (fun v _ _ i wr => R2 w p k c t0 v i wr) (fun _ _ _ i _ => c - (intOf i).toNat)
        case atStart => exact ⟨0, by omega, rfl, by simp, O2.out⟩
        case round =>
          obtain ⟨j, hj, rfl, rfl, F5, h5, b5, f5⟩ := hrel
          have B5 := Lib.hid b5; have F5' := Lib.hid f5
          have hla : (al t0 k j).length = k + 1 + j := al_len HT.out j
          by_cases hlt : j < c
          · have hpu := push_any h5 (((k : Int) + j) * 8) ⟨by omega, by omega⟩
            rw [show pv (al t0 k j) 500 = (k : Int) + ((j : Int) + 1) by unfold pv; rw [if_pos (by omega), hla]; omega, show pe (al t0 k j) 500 = 0 by unfold pe; rw [if_pos (by omega)], show px (al t0 k j) 500 (((k : Int) + j) * 8) = al t0 k (j + 1) by unfold px al; rw [if_pos (by have := hla; unfold al at this; omega), ch, ← List.append_assoc]] at hpu
            clear h5 b5 f5 hla
            go_wp2_with fail
            refine (ref_any _ _ (by omega) (by omega)).mono ?_; rintro e w' ⟨rfl, rfl⟩
            go_wp2_with fail
            refine hpu.mono ?_; rintro e w3 ⟨rfl, nx⟩
            have O3 := Lib.hid (Own.step B5.out F5'.out nx)
            clear nx
            go_wp2_with fail
            go_roundw
            case rel => exact ⟨j + 1, by omega, by go_num, by go_num, O3.out⟩
            case measure => simp [intOf]; omega
          · have hjc : j = c := by omega
            subst hjc
            have hd := deref_any h5 (((k : Int) + j) * 8) ⟨by omega, by omega⟩
            rw [dr_al HT.out j j _ (Nat.le_refl _) (by rw [hla]; omega)] at hd
            have hs := set_any h5 k 58 ⟨by omega, by omega⟩
            rw [show gb (al t0 k j) k = true from decide_eq_true ⟨by omega, by rw [hla]; omega⟩, show sx (al t0 k j) k 58 = (al t0 k j).set k 58 by unfold sx; rw [if_pos ⟨by omega, by rw [hla]; omega⟩]; simp] at hs
            have hmk := fun w => Lib.hid (rmake_any 2 7 w (by omega) (by omega) ⟨by omega, by omega⟩)
            rw [show jn 2 7 = 58 by decide] at hmk
            have HLA := Lib.hid hla
            clear h5 b5 f5 hla
            go_wp2_with fail
            refine (ref_any _ _ (by omega) (by omega)).mono ?_; rintro e w' ⟨rfl, rfl⟩
            go_wp2_with fail
            refine hd.mono ?_; rintro e w' ⟨rfl, rfl⟩
            go_wp2_with fail
            refine (ref_any _ _ (by omega) (by omega)).mono ?_; rintro e w' ⟨rfl, rfl⟩
            go_wp2_with fail
            refine (hmk _).out.mono ?_; rintro e w' ⟨rfl, rfl⟩
            go_wp2_with fail
            refine hs.mono ?_; rintro e w3 ⟨rfl, nx⟩
            obtain ⟨F6, h6, b6, f6⟩ := Own.step B5.out F5'.out nx
            have hd := deref_any h6 (((k : Int) + j) * 8) ⟨by omega, by omega⟩
            rw [dr_set HT.out j j _ (Nat.le_refl _) (by rw [List.length_set, HLA.out]; omega)] at hd
            have O6 := Lib.hid (show Own TH w p ((al t0 k j).set k 58) 500 w3 from ⟨F6, h6, b6, f6⟩)
            clear nx h6 b6 f6 hs
            go_wp2_with fail
            refine (ref_any _ _ (by omega) (by omega)).mono ?_; rintro e w' ⟨rfl, rfl⟩
            go_wp2_with fail
            refine hd.mono ?_; rintro e w' ⟨rfl, rfl⟩
            go_wp2_with fail
            refine (hmk _).out.mono ?_; rintro e w' ⟨rfl, rfl⟩
            clear hmk hd
            go_wp2_with fail
            generalize wrap64 ((IntKind.u64.wrap a1).tmod ((k : Int) + 1)) = Q at *
            obtain ⟨q, rfl⟩ := Int.eq_ofNat_of_zero_le HQ.out.1
            have hq : q ≤ k := by have := HQ.out.2; omega
            clear HQ
            obtain ⟨F6, h6, b6, f6⟩ := O6.out
            have hct := cut_any h6 q
            rw [show cb ((al t0 k j).set k 58) q = true from decide_eq_true ⟨by omega, by rw [List.length_set, HLA.out]; omega⟩, show cx ((al t0 k j).set k 58) q = t0.take q by unfold cx; rw [if_pos ⟨by omega, by rw [List.length_set, HLA.out]; omega⟩, Int.toNat_natCast, al_low HT.out j q hq]] at hct
            have B6 := Lib.hid b6; have F6' := Lib.hid f6
            clear h6 b6 f6
            refine hct.mono ?_; rintro e w4 ⟨rfl, nx⟩
            obtain ⟨F7, h7, b7, f7⟩ := Own.step B6.out F6'.out nx
            have hlq : (t0.take q).length = q := by rw [List.length_take]; have := HT.out; omega
            have HLQ := Lib.hid hlq
            have hln := len_any h7
            rw [hlq] at hln
            have O7 := Lib.hid (show Own TH w p (t0.take q) 500 w4 from ⟨F7, h7, b7, f7⟩)
            clear nx h7 b7 f7 hct hlq
            go_wp2_with fail
            refine hln.mono ?_; rintro e w' ⟨rfl, rfl⟩
            go_wp2_with fail
            go_loopw [18, 19, 20, 118] (fun _ _ _ i wr => R3 w p q (t0.take q) i wr) (fun _ _ _ i _ => q - (intOf i).toNat)
            case atStart => exact ⟨0, by omega, rfl, O7.out⟩
            case round =>
              obtain ⟨i, hi, rfl, F8, h8, b8, f8⟩ := hrel
              have B8 := Lib.hid b8; have F8' := Lib.hid f8; have H8 := Lib.hid h8
              by_cases hlt : i < q
              · obtain ⟨A, hA, hcell, hix⟩ := X0.out.look (k := i) (by omega)
                have hc' := (b8.cell hA).trans hcell
                have hg := get_any h8 (i : Nat)
                rw [show gb (t0.take q) (i : Nat) = true from decide_eq_true ⟨by omega, by rw [HLQ.out]; omega⟩, show gv (t0.take q) (i : Nat) = t0.getD i 0 by unfold gv; rw [if_pos ⟨by omega, by rw [HLQ.out]; omega⟩, Int.toNat_natCast, List.getD_eq_getElem?_getD, List.getElem?_take, if_pos hlt, ← List.getD_eq_getElem?_getD]] at hg
                generalize t0.getD i 0 = x at *
                clear hcell h8 b8 f8
                go_wp2_with fail
                refine hg.mono ?_; rintro e w' ⟨rfl, rfl⟩
                go_wp2_with fail
                go_roundw
                case rel => exact ⟨i + 1, by omega, by go_num, F8, H8.out, B8.out, F8'.out⟩
                case measure => simp [intOf]; omega
              · obtain rfl : i = q := by omega
                have hg := get_any h8 (i : Nat)
                rw [show gb (t0.take i) (i : Nat) = false from decide_eq_false (by rw [HLQ.out]; omega), show gv (t0.take i) (i : Nat) = 0 by unfold gv; rw [if_neg (by rw [HLQ.out]; omega)]] at hg
                clear h8 b8 f8
                go_wp2_with fail
                refine hg.mono ?_; rintro e w' ⟨rfl, rfl⟩
                go_wp2_with fail
                refine (awake_any _).mono ?_; rintro e w9 ⟨rfl, b9⟩
                go_wp2_with fail
                go_ret
                exact ⟨rfl, B8.out.trans (b9.mono B8.out.size)⟩
set_option maxRecDepth 100000 in
theorem lifted (os : Os) (started : os.Started) (H : Type) (enc : TypeId × Value → H) :
    ReturnsInHanded {} Try.checked os 5 .any (Rows.heapStandsSpec.pre6 enc Try.prog Try.f5 Rows.heapStandsRow.domain false) (Rows.heapStandsSpec.post enc Try.prog Try.f5 false true false false) := by
  refine returnsInHanded_of_change_sized (C := Try.checked) own started (by kernel_rfl) Try.func5
    (ChangeSpec.witness6 (enc := enc) (C := Try.checked) false ⟨#[], #[.slice none 0 0, .int .i64 0, .int .i64 0], []⟩ 8 (by kernel_rfl) (by kernel_rfl) (by kernel_rfl) (by kernel_rfl)) ?_
  intro W base args ds gs before hval0 hW _ hsz0 _
  have hsz : (DataW.weightsEach Try.prog (Try.f5.params.toList ++ Rows.heapStandsSpec.plain.varTypes Try.prog) (ds ++ gs)).all (· ≤ reachBytes) = true := hsz0
  clear hsz0
  have hval : ∀ (j : Nat) t v, Try.f5.params[j]? = some t → args[j]? = some v → Value.okWide Try.prog W .any base t v := hval0
  have hW' := hW
  obtain ⟨p, q, hA0, hV, rfl, hfz, hnd⟩ := hW
  have hA : DataW.TrodAll enc Try.prog W 0 (fun _ => true) true Try.f5.params.toList args.toList ds p := hA0
  rw [Try.params5] at hA hval hsz
  obtain ⟨v0, vs0, d0, ds0, p0, q0, hargs, rfl, rfl, h0, r0⟩ := trodAll_cons hA
  obtain ⟨v1, vs1, d1, ds1, p1, q1, rfl, rfl, rfl, h1, r1⟩ := trodAll_cons r0
  obtain ⟨v2, vs2, d2, ds2, p2, q2, rfl, rfl, rfl, h2, r2⟩ := trodAll_cons r1
  obtain ⟨rfl, rfl, rfl⟩ := trodAll_nil r2
  obtain rfl : args = #[v0, v1, v2] := by cases args; simp_all
  obtain ⟨rfl, rfl⟩ := trodVars_none hV
  simp only [List.append_nil] at hW'
  have lt0 : ∀ x ∈ p0, x.block < W.heap.size := fun x hx => by
    have := hW'.lt x (by simp [hx])
    simpa using this
  have k0 := h0
  have lt1 : ∀ x ∈ p1, x.block < W.heap.size := fun x hx => by
    have := hW'.lt x (by simp [hx])
    simpa using this
  have k1 := h1
  have lt2 : ∀ x ∈ p2, x.block < W.heap.size := fun x hx => by
    have := hW'.lt x (by simp [hx])
    simpa using this
  have k2 := h2
  obtain ⟨a0, n0, c0, rfl⟩ := okWide_slice Try.underlying30 (hval 0 30 v0 rfl rfl)
  obtain ⟨t0, x0⟩ := h0.elim fun fuel hf => ints_open hf (lt0) (fun x y e => sized_slice hsz (j := 0) (t := 30) (e := 24) rfl (by rw [← e]; rfl) Try.underlying30)
  obtain ⟨a1, rfl, rfl, rfl, w1⟩ := open_int Try.underlying3 (hval 1 3 v1 rfl rfl) h1
  obtain ⟨a2, rfl, rfl, rfl, w2⟩ := open_int Try.underlying3 (hval 2 3 v2 rfl rfl) h2
  clear hA0 hval0
  refine (walk W a0 n0 c0 t0 x0 a1 w1 a2 w2).mono fun e W' ⟨he, hg⟩ => ?_
  subst he
  have ha := (trodAll_cons_mk (Below.trod laidOut (by kernel_rfl) (of_decide_eq_true (by kernel_rfl)) k0 hg lt0) (trodAll_cons_mk (Below.trod laidOut (by kernel_rfl) (of_decide_eq_true (by kernel_rfl)) k1 hg lt1) (trodAll_cons_mk (Below.trod laidOut (by kernel_rfl) (of_decide_eq_true (by kernel_rfl)) k2 hg lt2) trodAll_mk0)))
  refine ⟨_, rfl, _, _, _, [], _, [], hW', ?_, ha, rfl, hg.frame _, fun h => by cases h⟩
  exact (trodAll_cons_mk (shut_bool Try.underlying4 _) trodAll_mk0)
/-- THE STATEMENT. -/
theorem proved : Rows.HeapStandsSaid :=
  OpenClaim.holds_of_wide 5 Try.f5 rfl rfl rfl rfl rfl rfl rfl ⟨rfl, rfl, rfl, rfl, rfl⟩ rfl rfl rfl rfl rfl (by kernel_rfl) Try.func5 (by kernel_rfl)
    (of_decide_eq_true (by kernel_rfl)) (by unfold Func.isWrapper; first | (rw [if_pos (by decide +kernel)]; kernel_rfl) | (rw [if_neg (by decide +kernel)]; exact ⟨rfl, rfl⟩))
    (fun os started H enc _ => lifted os started H enc)
#print axioms proved
end Go.Proofs.Ythcfbolakjgfgaa.heapStands
