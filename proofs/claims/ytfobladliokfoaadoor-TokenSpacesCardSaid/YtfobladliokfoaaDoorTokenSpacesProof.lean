/- The law TokenSpaces holds, as its tied card says: for every input its Go function returns true and leaves its arguments as they were. The listed package-level variables start as the program's text lays them. -/
import Derived.Test.YtfobladliokfoaaDoorRows
import Derived.Test.YtfobladliokfoaaDoorCards
import Derived.Test.YtfobladliokfoaaDoorTie
import Derived.WalkKit
import Derived.ProofKit
import Derived.OpenShut
import Derived.LaidMore
import Derived.LaidLaws
import Derived.SizedLaws
import Derived.MakeChecks
import Derived.SevenTiedAt
import Derived.Stop.Joined
import Derived.Test.YtfobladliokfoaaDoorTkS
import Derived.Test.YtfobladliokfoaaDoorTkP
namespace Go.Proofs.YtfobladliokfoaaDoor.tokenSpaces
open Go.ChangeShapes Go.WideShapes Go.ChangeAt Go.RowKit
open Go.ChangeMaps (open_string shut_string)
set_option linter.unusedVariables false
theorem own : ownKnob Tryd.prog.godebug = none := by kernel_rfl
abbrev laidL : List (String × DataW Unit) := [("math/bits.deBruijn32tab", Rows.laid_math_bits_deBruijn32tab), ("math/bits.deBruijn64tab", Rows.laid_math_bits_deBruijn64tab), ("internal/strconv.uint64pow10", Rows.laid_internal_strconv_uint64pow10), ("strconv.ErrRange", Rows.laid_strconv_ErrRange), ("strconv.ErrSyntax", Rows.laid_strconv_ErrSyntax)]
theorem door_met (os : Os) (args : Array Value) : laidMetH Tryd.prog laidL ((World.doorLaid Tryd.prog 400 os).forCall (fun _ _ => 0) ⟨#[], args, []⟩).memory :=
  laidMetH_of_parts3 (fuel := 8) (laidMet_of_run' 8 (by kernel_rfl) (by kernel_rfl)) (by kernel_rfl) (by kernel_rfl)
open Go.Proofs.YtfobladliokfoaaDoor.num Go.Proofs.YtfobladliokfoaaDoor.tk Go.Proofs.YtfobladliokfoaaDoor.kp
theorem cat_w (x y : List UInt8) : (⟨x.toArray⟩ : ByteArray) ++ ⟨y.toArray⟩ = ⟨(x ++ y).toArray⟩ := by
  apply ByteArray.ext; simp
theorem u64_nonneg (a : Int) : 0 ≤ IntKind.u64.wrap a := by rw [IntKind.wrap_u64]; omega
abbrev gapsV : Value := .agg #[.string ⟨#[32]⟩, .string ⟨#[10, 9, 32]⟩, .string ⟨#[32, 37, 32, 97, 32, 114, 101, 109, 97, 114, 107, 10]⟩, .string ⟨#[32, 47, 42, 32, 97, 110, 111, 116, 104, 101, 114, 32, 42, 32, 47, 32, 111, 110, 101, 32, 42, 47, 32]⟩]
theorem gap_ix (m : Nat) (hm : m ≤ 3) (w : World) : (Instr.index 31 gapsV (.int .i64 (m : Int))).run Tryd.prog w = .ok (.string ⟨(gapL m).toArray⟩) w := by
  match m, hm with
  | 0, _ => rfl
  | 1, _ => rfl
  | 2, _ => rfl
  | 3, _ => rfl
/-- behind k tokens -/
def RS (w0 : World) (n : Nat) (i : Value) (wr : World) : Prop := ∃ k : Nat, k ≤ n ∧ i = .int .i64 k ∧ Below w0.heap.size w0 wr
/-- may it end within a remark? -/
def rmk (l : List UInt8) : Bool := l.any fun c => decide (c = 37)
theorem remark_any (l : List UInt8) (hl : l.length ≤ 1000) (w : World) : Calls Tryd.prog 10 #[.string ⟨l.toArray⟩] w fun e w' => e = .returned (.bool (rmk l)) ∧ w = w' := by
  go_enter Tryd.func10, Tryd.ntmps10; go_wp2_with fail
  go_loop [6] (fun i => ∃ k : Nat, k ≤ l.length ∧ i = .int .i64 k ∧ rmk (l.take k) = false) (fun i => l.length - (intOf i).toNat)
  case atStart => exact ⟨0, by omega, rfl, rfl⟩
  case round =>
    obtain ⟨k, hk, rfl, hall⟩ := hrel
    have HA := Lib.hid hall; clear hall
    by_cases hlt : k < l.length
    · obtain ⟨x, hx1⟩ : ∃ x, l[k] = x := ⟨_, rfl⟩
      have hT : rmk (l.take (k + 1)) = decide (x = 37) := by
        have := HA.out
        unfold rmk at this ⊢
        rw [List.take_succ_eq_append_getElem hlt, List.any_append, this, hx1]; simp
      have HT := Lib.hid hT
      have HN : Hid (x = 37 → rmk l = true) := Lib.hid (fun h => by
        unfold rmk; rw [List.any_eq_true]; exact ⟨l[k], List.getElem_mem hlt, by rw [hx1, h]; rfl⟩)
      have gk : ∀ h, (⟨l.toArray⟩ : ByteArray)[k]'h = x := fun _ => hx1
      have hb := beq_byte x 37 37 rfl
      clear hx1 hT
      by_cases hs : x = 37
      · rw [decide_eq_true hs] at hb
        have hb := show ((x.toNat : Int) == 37) = true from hb
        have e1 := Lib.hid (HN.out hs)
        clear hs
        go_wp2_with fail
        go_ret; exact ⟨kp.rb e1.out.symm, rfl⟩
      · rw [decide_eq_false hs] at hb
        have hb := show ((x.toNat : Int) == 37) = false from hb
        have e1 := Lib.hid (decide_eq_false hs)
        clear hs
        go_wp2_with fail
        go_round
        case rel => exact ⟨k + 1, by omega, by go_num, by rw [HT.out]; exact e1.out⟩
        case measure => simp [intOf]; omega
    · have ht : Hid (l.take k = l) := Lib.hid (List.take_of_length_le (by omega))
      have e1 : Hid (rmk l = false) := Lib.hid (by have := HA.out; rw [ht.out] at this; exact this)
      go_wp2_with fail
      go_ret; exact ⟨kp.rb e1.out.symm, rfl⟩
theorem rmk_no {l : List UInt8} (h : rmk l = false) : ∀ x ∈ l, x ≠ 37 := by
  intro x hx e
  unfold rmk at h
  rw [List.any_eq_false] at h
  exact h x hx (by simp [e])
set_option maxRecDepth 100000 in
set_option maxHeartbeats 8000000 in
theorem walk (l0 : List UInt8) (s0 : l0.length ≤ 140737488351232) (l1 : List UInt8) (s1 : l1.length ≤ 140737488351232) (a2 : Int) (w2 : (Lit.int .i64 a2).wf = true) (w : World) (HL : laidMet Tryd.prog laidL w) :
    Calls Tryd.prog 4 #[.string ⟨l0.toArray⟩, .string ⟨l1.toArray⟩, .int .i64 a2] w fun e w' => e = .returned (.bool true) ∧ Below w.heap.size w w' := by
  have u2 := u64_nonneg a2
  obtain ⟨pp, hv⟩ := range_of (HL.tail.tail.tail)
  have V0 := Lib.hid (VR.start hv)
  clear hv HL
  have haw := awake_any w V0.out
  have AW := Lib.hid awake_any
  obtain ⟨m, hm⟩ : ∃ m : Nat, (IntKind.u64.wrap a2).tmod 4 = (m : Int) := ⟨((IntKind.u64.wrap a2).tmod 4).toNat, by rw [Int.tmod_eq_emod_of_nonneg u2]; omega⟩
  have hm4 : m ≤ 3 := by rw [Int.tmod_eq_emod_of_nonneg u2] at hm; omega
  clear u2
  by_cases h1 : l0.length ≤ 1000
  · by_cases h2 : l1.length ≤ 1000
    · have hrm := remark_any l0 h1 w
      cases hr : rmk l0 with
      | true =>
        rw [hr] at hrm
        clear hm hm4 hr
        go_enter Tryd.func4, Tryd.ntmps4
        go_wp2_with fail
        refine hrm.mono ?_; rintro e w' ⟨rfl, rfl⟩
        go_wp2_with fail
        refine haw.mono ?_; rintro e w1 ⟨rfl, b⟩
        go_wp2_with fail
        go_ret; exact ⟨rfl, b⟩
      | false =>
        rw [hr] at hrm
        obtain ⟨x, p, e1, hx⟩ : ∃ x p e, allT (l0 ++ [32]) = (x, p, e) := ⟨_, _, _, rfl⟩
        obtain ⟨y, q, e2, hy⟩ : ∃ x p e, allT l1 = (x, p, e) := ⟨_, _, _, rfl⟩
        have A1 := all_is (l0 ++ [32]) hx (by simp; omega) w V0.out
        rw [← cat_w] at A1
        replace A1 := Lib.hid A1
        have A2 := Lib.hid (all_is l1 hy (by omega))
        have H37 := Lib.hid (rmk_no hr)
        clear hr haw
        by_cases he1 : e1 = 0
        · by_cases he2 : e2 = 0
          · subst he1 he2
            have HZ := Lib.hid (fun j => spaces H37.out h1 h2 hx hy j)
            have HFY := Lib.hid ((all_fine (by omega) hy).1 rfl)
            have hlx := all_len hx
            have hly := all_len hy
            clear hx hy
            go_enter Tryd.func4, Tryd.ntmps4
            go_wp2_with fail
            refine hrm.mono ?_; rintro e w' ⟨rfl, rfl⟩
            go_wp2_with fail
            with_reducible refine Calls.mono A1.out ?_; rintro e w1 ⟨⟨v1, rfl, t1⟩, b1⟩
            have V1 := Lib.hid (V0.out.up b1)
            have B1 := Lib.hid b1
            have T1 := Lib.hid t1
            clear b1 t1 A1
            go_wp2_with fail
            with_reducible refine Calls.mono (A2.out _ V1.out) ?_; rintro e w2 ⟨⟨v2, rfl, t2⟩, b2⟩
            have V2 := Lib.hid (V1.out.up b2)
            have B2 := Lib.hid (kp.bt B1.out b2)
            have T1b := Lib.hid (T1.out.below b2)
            have T2 := Lib.hid t2
            clear b2 t2 A2 T1
            have hix := gap_ix m hm4
            have hlg := gap_len m
            obtain ⟨G, hG⟩ : ∃ G, gapL m = G := ⟨_, rfl⟩
            have hz := HZ.out m
            simp only [hG] at hix hlg hz
            have A3 := all_is (l0 ++ (G ++ l1)) hz (by simp; omega)
            rw [← List.append_assoc, ← cat_w, ← cat_w] at A3
            replace A3 := Lib.hid A3
            have HLX := Lib.hid (And.intro hlx hly)
            have hlx9 : x.length ≤ 2000 := by have := hlx; simp at this; omega
            have hly9 : y.length ≤ 2000 := by omega
            clear hz hG HZ hlx hly
            go_wp2_with fail
            with_reducible refine Calls.mono (A3.out _ V2.out) ?_; rintro e w3 ⟨⟨v3, rfl, t3⟩, b3⟩
            have V3 := Lib.hid (V2.out.up b3)
            have B3 := Lib.hid (kp.bt B2.out b3)
            have T1c := Lib.hid (T1b.out.below b3)
            have T2c := Lib.hid (T2.out.below b3)
            have T3 := Lib.hid t3
            obtain ⟨s3, d3, rfl⟩ := t3.shape
            obtain ⟨s1, d1, rfl⟩ := T1c.out.shape
            obtain ⟨s2, d2, rfl⟩ := T2c.out.shape
            clear b3 t3 A3 T1b T2 hix
            obtain ⟨nz, hnz⟩ : ∃ nz, (x ++ y.map (sh (l0.length + G.length))).length = nz := ⟨_, rfl⟩
            have hnz2 : nz = x.length + y.length := by rw [← hnz]; simp
            have HNZ := Lib.hid (And.intro hnz hnz2)
            rw [hnz]
            have hne : ((nz : Int) != (x.length : Int) + (y.length : Int)) = false := by rw [bne, show (nz : Int) = (x.length : Int) + (y.length : Int) by omega]; simp
            have hnz9 : nz ≤ 4000 := by omega
            clear hnz hnz2
            go_wp2_with fail
            go_loopw [83] (fun i wr => RS w3 nz i wr) (fun i _ => nz - (intOf i).toNat)
            case atStart => exact ⟨0, by omega, rfl, kp.br _⟩
            case round =>
              obtain ⟨k, hk, rfl, hb⟩ := hrel
              by_cases hlt : k < nz
              · have hl3 : k < (x ++ y.map (sh (l0.length + G.length))).length := by rw [HNZ.out.1]; exact hlt
                obtain ⟨X, hX⟩ : ∃ X, (x ++ y.map (sh (l0.length + G.length)))[k]? = some X := ⟨_, List.getElem?_eq_getElem hl3⟩
                obtain ⟨g3, c3, hv3, hgs3, -, look3⟩ := (T3.out.below hb).look (by intro h; rw [h] at hl3; cases hl3)
                rw [HNZ.out.1] at hv3
                injection hv3 with hv31 _ hv33
                subst hv31 hv33
                have tk3 := look3 k X hX
                obtain ⟨k0, k1, k2, k3, k4, k5⟩ := tk3
                have ix3 := fun w => ixT (g := g3) (n := nz) (c := d3) (k := k) hlt w
                obtain ⟨tb, htb⟩ : ∃ tb, tb = wr.heap.size := ⟨_, rfl⟩
                obtain ⟨wa, hwa⟩ : ∃ wa, wa = wr.alloc (TO X.k X.t X.n X.re X.im X.a) := ⟨_, rfl⟩
                obtain ⟨wb, hwb⟩ : ∃ wb, wb = wa.alloc (TO 0 [] 0 0 0 0) := ⟨_, rfl⟩
                have hsa : wa.heap.size = tb + 1 := by rw [hwa, alloc_size, htb]
                have hTa : wb.heap[tb]? = some (TO X.k X.t X.n X.re X.im X.a) := by
                  have h1 : wa.heap[tb]? = some (TO X.k X.t X.n X.re X.im X.a) := by rw [hwa, htb]; exact alloc_at wr _
                  rw [hwb]; exact ((kp.ba wa _).block tb (by omega)).trans h1
                have hTb : wb.heap[tb + 1]? = some (TO 0 [] 0 0 0 0) := by rw [hwb, ← hsa]; exact alloc_at wa _
                have hbb : Below wr.heap.size wr wb := by rw [hwb, hwa]; exact (kp.ba wr _).trans ((kp.ba _ _).mono (by rw [alloc_size]; omega))
                have HBB := Lib.hid (And.intro hb hbb)
                have HTA := Lib.hid (And.intro hTa hTb)
                have HW := Lib.hid (And.intro htb (And.intro hwa (And.intro hwb hsa)))
                have HLT := Lib.hid hlt
                have hk9 : (k : Int) < 4000 := by omega
                obtain ⟨⟨z0, z1, z2, z3, z4, z5⟩, y0, y1, y2, y3, y4, y5⟩ := six hTb
                clear hb hbb hTa hTb hwa hwb look3 hl3
                by_cases hkx : k < x.length
                · have hXx : x[k]? = some X := by rw [List.getElem?_append_left hkx] at hX; exact hX
                  obtain ⟨g1, c1, hv1, hgs1, -, look1⟩ := (T1c.out.below HBB.out.1).look (by intro h; rw [h] at hkx; cases hkx)
                  injection hv1 with hv11 _ hv13
                  subst hv11 hv13
                  obtain ⟨q0, q1, q2, q3, q4, q5⟩ := (look1 k X hXx).below HBB.out.2 hgs1
                  have ix1 := fun w => ixT (g := g1) (n := x.length) (c := d1) (k := k) hkx w
                  have hkx' : (k : Int) < (x.length : Int) := by omega
                  clear look1 hX hXx hsa htb
                  go_upto_region 14 with fail
                  change Code.wp _ _ _ _ (wr.alloc (TO X.k X.t X.n X.re X.im X.a))
                  rw [← HW.out.1, ← HW.out.2.1]
                  clear k0 k1 k2 k3 k4 k5
                  go_upto_region 15 with fail
                  change Code.wp _ _ _ _ (wa.alloc (TO 0 [] 0 0 0 0))
                  rw [HW.out.2.2.2, ← HW.out.2.2.1]
                  go_upto_region 19 with fail
                  obtain ⟨W, hW, N⟩ := fin6 HTA.out.2 (.int .i64 X.k) (.string ⟨X.t.toArray⟩) (.int .i64 X.n) (.int .u64 X.re) (.int .u64 X.im) (.int .i64 X.a)
                  rw [hW]
                  have hTa2 := (N.2.block tb (Nw.lt HTA.out.1) (by omega)).trans HTA.out.1
                  have HBW := Lib.hid (show Below w3.heap.size w3 W from HBB.out.1.trans ((HBB.out.2.trans (N.2.to_below (fun i hi => by rw [hi, HW.out.1]; omega) HBB.out.2.size)).mono HBB.out.1.size))
                  obtain ⟨⟨a0, a1, a2, a3, a4, a5⟩, -⟩ := six hTa2
                  obtain ⟨⟨b0, b1, b2, b3, b4, b5⟩, -⟩ := six N.1
                  clear hTa2 N hW z0 z1 z2 z3 z4 z5 y0 y1 y2 y3 y4 y5 q0 q1 q2 q3 q4 q5
                  go_wp2_with fail
                  go_roundw
                  case rel => exact ⟨k + 1, by have := HLT.out; omega, by go_num, HBW.out⟩
                  case measure => have := HLT.out; simp [intOf]; omega
                · obtain ⟨j, rfl⟩ : ∃ j, k = x.length + j := ⟨k - x.length, by omega⟩
                  have hjy : j < y.length := by have := HNZ.out.2; have := HLT.out; omega
                  obtain ⟨Y, hY⟩ : ∃ Y, y[j]? = some Y := ⟨_, List.getElem?_eq_getElem hjy⟩
                  have hXY : X = sh (l0.length + G.length) Y := by
                    rw [List.getElem?_append_right (by omega), Nat.add_sub_cancel_left, List.getElem?_map, hY] at hX
                    exact (Option.some.inj hX).symm
                  have hYa := (HFY.out.at_ hY).1
                  obtain ⟨AA, hAA⟩ : ∃ AA : Int, AA = (Y.a : Int) + ((l0.length : Int) + (G.length : Int)) := ⟨_, rfl⟩
                  have hAX : (X.a : Int) = AA := by rw [hXY, hAA]; simp [sh]
                  have e1 : X.k = Y.k := by rw [hXY]; rfl
                  have e2 : X.t = Y.t := by rw [hXY]; rfl
                  have e3 : X.n = Y.n := by rw [hXY]; rfl
                  have e4 : X.re = Y.re := by rw [hXY]; rfl
                  have e5 : X.im = Y.im := by rw [hXY]; rfl
                  simp only [hAX, e1, e2, e3, e4, e5] at k0 k1 k2 k3 k4 k5 HTA HW
                  obtain ⟨g2, c2, hv2, hgs2, -, look2⟩ := (T2c.out.below HBB.out.1).look (by intro h; rw [h] at hjy; cases hjy)
                  injection hv2 with hv21 _ hv23
                  subst hv21 hv23
                  obtain ⟨q0, q1, q2, q3, q4, q5⟩ := (look2 j Y hY).below HBB.out.2 hgs2
                  have ix2 := fun w => ixT (g := g2) (n := y.length) (c := d2) (k := j) hjy w
                  rw [show (j : Int) = ((x.length + j : Nat) : Int) - (x.length : Int) by omega] at ix2
                  have hkx' : ¬ ((x.length + j : Nat) : Int) < (x.length : Int) := by omega
                  have hYb : (Y.a : Int) < 1000 := by omega
                  have hlb : (l0.length : Int) ≤ 1000 := by omega
                  have hlg2 : (G.length : Int) ≤ 30 := by omega
                  have HAA := Lib.hid hAA
                  generalize hK : ((x.length + j : Nat) : Int) = K at *
                  clear look2 hX hXY hY hsa htb hAX e1 e2 e3 e4 e5 hAA hYa
                  go_upto_region 14 with fail
                  change Code.wp _ _ _ _ (wr.alloc (TO Y.k Y.t Y.n Y.re Y.im AA))
                  rw [← HW.out.1, ← HW.out.2.1]
                  clear k0 k1 k2 k3 k4 k5
                  go_upto_region 15 with fail
                  change Code.wp _ _ _ _ (wa.alloc (TO 0 [] 0 0 0 0))
                  rw [HW.out.2.2.2, ← HW.out.2.2.1]
                  go_upto_region 18 with fail
                  obtain ⟨W, hW, N⟩ := fin6 HTA.out.2 (.int .i64 Y.k) (.string ⟨Y.t.toArray⟩) (.int .i64 Y.n) (.int .u64 Y.re) (.int .u64 Y.im) (.int .i64 Y.a)
                  rw [hW]
                  have hTa2 := (N.2.block tb (Nw.lt HTA.out.1) (by omega)).trans HTA.out.1
                  obtain ⟨W2, hW2⟩ : ∃ W2, W2 = W.setCell ⟨tb + 1, 5, none⟩ (.int .i64 ((Y.a : Int) + ((l0.length : Int) + (G.length : Int)))) := ⟨_, rfl⟩
                  have N2 := N.trans (Nw.set N.1 5 (.int .i64 ((Y.a : Int) + ((l0.length : Int) + (G.length : Int)))))
                  rw [← hW2] at N2
                  have hTa3 := (N2.2.block tb (Nw.lt HTA.out.1) (by omega)).trans HTA.out.1
                  have hN2 : W2.heap[tb + 1]? = some (TO Y.k Y.t Y.n Y.re Y.im AA) := by rw [HAA.out]; simpa using N2.1
                  have HBW := Lib.hid (show Below w3.heap.size w3 W2 from HBB.out.1.trans ((HBB.out.2.trans (N2.2.to_below (fun i hi => by rw [hi, HW.out.1]; omega) HBB.out.2.size)).mono HBB.out.1.size))
                  have HN2 := Lib.hid (And.intro hTa3 (And.intro hN2 hW2))
                  obtain ⟨⟨b0, b1, b2, b3, b4, b5⟩, f0, f1, f2, f3, f4, f5⟩ := six N.1
                  clear hTa2 N hW z0 z1 z2 z3 z4 z5 y0 y1 y2 y3 y4 y5 q0 q1 q2 q3 q4 q5 hW2 N2 hTa3 hN2 ix2 ix3
                  go_upto_region 19 with fail
                  rw [← HN2.out.2.2]
                  clear b0 b1 b2 b3 b4 b5 f0 f1 f2 f3 f4 f5
                  obtain ⟨⟨a0, a1, a2, a3, a4, a5⟩, -⟩ := six HN2.out.1
                  obtain ⟨⟨b0, b1, b2, b3, b4, b5⟩, -⟩ := six HN2.out.2.1
                  go_wp2_with fail
                  go_roundw
                  case rel => exact ⟨x.length + j + 1, by have := HLT.out; omega, by rw [← hK]; go_num, HBW.out⟩
                  case measure => have := HLT.out; rw [← hK]; simp [intOf]; omega
              · obtain rfl : k = nz := by omega
                have V4 := Lib.hid (V3.out.up hb)
                have B4 := Lib.hid (kp.bt B3.out hb)
                have haw := AW.out wr V4.out
                clear hb
                go_wp2_with fail
                refine haw.mono ?_; rintro e w5 ⟨rfl, b5⟩
                have B5 := Lib.hid (kp.bt B4.out b5)
                clear b5
                go_wp2_with fail
                go_ret; exact ⟨rfl, B5.out⟩
          · have hne : (e2 != 0) = true := by rw [bne_iff_ne]; exact he2
            subst he1
            clear hx hy hm hm4 he2
            go_enter Tryd.func4, Tryd.ntmps4
            go_wp2_with fail
            refine hrm.mono ?_; rintro e w' ⟨rfl, rfl⟩
            go_wp2_with fail
            with_reducible refine Calls.mono A1.out ?_; rintro e w1 ⟨⟨v1, rfl, t1⟩, b1⟩
            have V1 := Lib.hid (V0.out.up b1)
            have B1 := Lib.hid b1
            clear b1 t1 A1
            go_wp2_with fail
            with_reducible refine Calls.mono (A2.out _ V1.out) ?_; rintro e w2 ⟨⟨v2, rfl, t2⟩, b2⟩
            have V2 := Lib.hid (V1.out.up b2)
            have B2 := Lib.hid (kp.bt B1.out b2)
            have haw := AW.out _ V2.out
            clear b2 t2 A2
            go_wp2_with fail
            refine haw.mono ?_; rintro e w3 ⟨rfl, b3⟩
            have B3 := Lib.hid (kp.bt B2.out b3)
            clear b3
            go_wp2_with fail
            go_ret; exact ⟨rfl, B3.out⟩
        · have hne : (e1 != 0) = true := by rw [bne_iff_ne]; exact he1
          clear hx hy hm hm4 he1
          go_enter Tryd.func4, Tryd.ntmps4
          go_wp2_with fail
          refine hrm.mono ?_; rintro e w' ⟨rfl, rfl⟩
          go_wp2_with fail
          with_reducible refine Calls.mono A1.out ?_; rintro e w1 ⟨⟨v1, rfl, t1⟩, b1⟩
          have V1 := Lib.hid (V0.out.up b1)
          have B1 := Lib.hid b1
          clear b1 t1 A1
          go_wp2_with fail
          with_reducible refine Calls.mono (A2.out _ V1.out) ?_; rintro e w2 ⟨⟨v2, rfl, t2⟩, b2⟩
          have V2 := Lib.hid (V1.out.up b2)
          have B2 := Lib.hid (kp.bt B1.out b2)
          have haw := AW.out _ V2.out
          clear b2 t2 A2
          go_wp2_with fail
          refine haw.mono ?_; rintro e w3 ⟨rfl, b3⟩
          have B3 := Lib.hid (kp.bt B2.out b3)
          clear b3
          go_wp2_with fail
          go_ret; exact ⟨rfl, B3.out⟩
    · clear hm hm4
      go_enter Tryd.func4, Tryd.ntmps4
      go_wp2_with fail
      refine haw.mono ?_; rintro e w1 ⟨rfl, b⟩
      go_wp2_with fail
      go_ret; exact ⟨rfl, b⟩
  · clear hm hm4
    go_enter Tryd.func4, Tryd.ntmps4
    go_wp2_with fail
    refine haw.mono ?_; rintro e w1 ⟨rfl, b⟩
    go_wp2_with fail
    go_ret; exact ⟨rfl, b⟩
set_option maxRecDepth 100000 in
theorem lifted (os : Os) (started : os.Started) (H : Type) (enc : TypeId × Value → H) :
    ReturnsInHanded {} Tryd.checked os 4 .any (fun w args => (Rows.tokenSpacesSpec.pre enc Tryd.prog Tryd.f4 Rows.tokenSpacesRow.domain false w args ∧ laidMetH Tryd.prog laidL w) ∧ sizedMet enc Tryd.prog Tryd.f4 (OpenSpec.ofChange Rows.tokenSpacesSpec) false w args)
      (Rows.tokenSpacesSpec.post enc Tryd.prog Tryd.f4 false true false false) := by
  refine returnsInHanded_of_change_and (C := Tryd.checked) (X := fun w _ => laidMetH Tryd.prog laidL w) (fun _ _ _ hh h => h.of_heap hh) own started (by kernel_rfl) Tryd.func4
    (ChangeSpec.witness_shaped (enc := enc) (C := Tryd.checked) (os := os) (X := fun w _ => laidMetH Tryd.prog laidL w) false (World.doorLaid Tryd.prog 400 os) #[.string ⟨#[]⟩, .string ⟨#[]⟩, .int .i64 0] 8 rfl (World.shaped_of_RefB (by kernel_rfl) (by kernel_rfl)) (by kernel_rfl) (by kernel_rfl) (by kernel_rfl) (door_met os _)) ?_
  intro W base args ds gs before hval0 hW _ hsz0 hL _
  have hsz : (DataW.weightsEach Tryd.prog (Tryd.f4.params.toList ++ Rows.tokenSpacesSpec.plain.varTypes Tryd.prog) (ds ++ gs)).all (· ≤ reachBytes) = true := hsz0
  clear hsz0
  have hval : ∀ (j : Nat) t v, Tryd.f4.params[j]? = some t → args[j]? = some v → Value.okWide Tryd.prog W .any base t v := hval0
  have hW' := hW
  obtain ⟨p, q, hA0, hV, rfl, hfz, hnd⟩ := hW
  have hA : DataW.TrodAll enc Tryd.prog W 0 (fun _ => true) true Tryd.f4.params.toList args.toList ds p := hA0
  rw [Tryd.params4] at hA hval hsz
  obtain ⟨v0, vs0, d0, ds0, p0, q0, hargs, rfl, rfl, h0, r0⟩ := trodAll_cons hA
  obtain ⟨v1, vs1, d1, ds1, p1, q1, rfl, rfl, rfl, h1, r1⟩ := trodAll_cons r0
  obtain ⟨v2, vs2, d2, ds2, p2, q2, rfl, rfl, rfl, h2, r2⟩ := trodAll_cons r1
  obtain ⟨rfl, rfl, rfl⟩ := trodAll_nil r2
  obtain rfl : args = #[v0, v1, v2] := by cases args; simp_all
  obtain ⟨rfl, rfl⟩ := trodVars_none hV
  obtain ⟨t0, rfl, rfl, rfl, u0⟩ := open_string Tryd.underlying9 (hval 0 9 v0 rfl rfl) h0
  obtain ⟨t1, rfl, rfl, rfl, u1⟩ := open_string Tryd.underlying9 (hval 1 9 v1 rfl rfl) h1
  obtain ⟨a2, rfl, rfl, rfl, w2⟩ := open_int Tryd.underlying3 (hval 2 3 v2 rfl rfl) h2
  clear hA0 hval0
  simp only [List.append_nil] at hW'
  have z0 : t0.data.toList.length ≤ 140737488351232 := by
    have h1 := sized_string hsz (j := 0) (t := 9) rfl rfl
    have e3 : reachBytes = 140737488351232 := by decide
    omega
  obtain ⟨l0, rfl⟩ : ∃ l : List UInt8, t0 = ⟨l.toArray⟩ := ⟨t0.data.toList, by cases t0; simp⟩
  have s0 : l0.length ≤ 140737488351232 := by simpa using z0
  have z1 : t1.data.toList.length ≤ 140737488351232 := by
    have h1 := sized_string hsz (j := 1) (t := 9) rfl rfl
    have e3 : reachBytes = 140737488351232 := by decide
    omega
  obtain ⟨l1, rfl⟩ : ∃ l : List UInt8, t1 = ⟨l.toArray⟩ := ⟨t1.data.toList, by cases t1; simp⟩
  have s1 : l1.length ≤ 140737488351232 := by simpa using z1
  have HL : laidMet Tryd.prog laidL W := by rw [MakeChecks.laidMetH_plain _ _ _ (by kernel_rfl)] at hL; exact hL
  refine (walk l0 s0 l1 s1 a2 w2 W HL).mono fun e W' ⟨he, hg⟩ => ?_
  subst he
  refine ⟨_, rfl, _, _, _, [], [], [], hW', ?_, ?_, rfl, hg.frame _, fun h => by cases h⟩
  · exact (trodAll_cons_mk (shut_bool Tryd.underlying4 _) trodAll_mk0)
  · exact (trodAll_cons_mk (shut_string Tryd.underlying9 u0) (trodAll_cons_mk (shut_string Tryd.underlying9 u1) (trodAll_cons_mk (shut_int Tryd.underlying3 w2) trodAll_mk0)))
theorem holds : Rows.TokenSpacesSaid :=
  OpenClaim.holds_of_wide 4 Tryd.f4 rfl rfl rfl rfl rfl rfl rfl ⟨rfl, rfl, rfl, rfl, rfl⟩ rfl rfl rfl rfl rfl (by kernel_rfl) Tryd.func4 (by kernel_rfl)
    (of_decide_eq_true (by kernel_rfl)) (by unfold Func.isWrapper; first | (rw [if_pos (by decide +kernel)]; kernel_rfl) | (rw [if_neg (by decide +kernel)]; exact ⟨rfl, rfl⟩))
    (fun os started H enc _ => lifted os started H enc)
/-- THE STATEMENT: the tied card. -/
theorem proved : Rows.TokenSpacesCardSaid :=
  Claim7.holds_tied_plain_at .later [] [.data, .data, .data, .sentinel, .sentinel] true (true, "a69b515a8f321eaead757f0fb19489d5dc92af181670f5b344fa82c7a27d3371") true
    holds (fun _ h => by cases h) (by kernel_rfl) (fun _ h => by cases h) tokenSpaces_row_tie rfl ⟨rfl, rfl⟩ (by kernel_rfl) rfl
    (fun f fn hf hfn => by
      obtain rfl : f = 4 := Option.some.inj ((show Tryd.prog.funcNamed "elenchus/elenchuslaw11.TokenSpaces" = some 4 by kernel_rfl).symm.trans hf) |>.symm
      obtain rfl : fn = Tryd.f4 := (Option.some.inj (Tryd.func4.symm.trans hfn)).symm
      exact ⟨by kernel_rfl, fun j t ht => by
        rw [Tryd.params4] at ht
        have hm : t ∈ [9, 3] := by simpa using Array.mem_of_getElem? ht
        have hall : ([9, 3].all fun u => !(Tryd.prog.wantsStandIn u)) = true := by kernel_rfl
        exact (show Tryd.prog.wantsStandIn t = false by simpa using List.all_eq_true.1 hall t hm)⟩)
    (by kernel_rfl)
#print axioms proved
end Go.Proofs.YtfobladliokfoaaDoor.tokenSpaces
