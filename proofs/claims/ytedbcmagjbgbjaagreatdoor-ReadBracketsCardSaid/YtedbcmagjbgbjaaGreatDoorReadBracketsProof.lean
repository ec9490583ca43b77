/- The law ReadBrackets holds, as its tied card says: for every input its Go function returns true and leaves its arguments as they were. The listed package-level variables start as the program's text lays them. -/
import Derived.Test.YtedbcmagjbgbjaaGreatDoorRows
import Derived.Test.YtedbcmagjbgbjaaGreatDoorCards
import Derived.Test.YtedbcmagjbgbjaaGreatDoorTie
import Derived.WalkKit
import Derived.ProofKit
import Derived.OpenShut
import Derived.LaidMore
import Derived.LaidLaws
import Derived.SizedLaws
import Derived.MakeChecks
import Derived.SevenTiedAt
import Derived.Stop.Joined
import Derived.Test.YtedbcmagjbgbjaaGreatDoorRaG
import Derived.Test.YtedbcmagjbgbjaaGreatDoorRdY
import Derived.Test.YtedbcmagjbgbjaaGreatDoorRDp
namespace Go.Proofs.YtedbcmagjbgbjaaGreatDoor.readBrackets
open Go.ChangeShapes Go.WideShapes Go.ChangeAt Go.RowKit
open Go.ChangeMaps (open_string shut_string)
set_option linter.unusedVariables false
theorem own : ownKnob Tryz.prog.godebug = none := by kernel_rfl
abbrev laidL : List (String × DataW Unit) := [("math/bits.deBruijn32tab", Rows.laid_math_bits_deBruijn32tab), ("math/bits.deBruijn64tab", Rows.laid_math_bits_deBruijn64tab), ("internal/strconv.uint64pow10", Rows.laid_internal_strconv_uint64pow10), ("strconv.ErrRange", Rows.laid_strconv_ErrRange), ("strconv.ErrSyntax", Rows.laid_strconv_ErrSyntax)]
theorem door_met (os : Os) (args : Array Value) : laidMetH Tryz.prog laidL ((World.doorLaid Tryz.prog 400 os).forCall (fun _ _ => 0) ⟨#[], args, []⟩).memory :=
  laidMetH_of_parts3 (fuel := 8) (laidMet_of_run' 8 (by kernel_rfl) (by kernel_rfl)) (by kernel_rfl) (by kernel_rfl)
open Go.Proofs.YtedbcmagjbgbjaaGreatDoor.num Go.Proofs.YtedbcmagjbgbjaaGreatDoor.tk Go.Proofs.YtedbcmagjbgbjaaGreatDoor.kp Go.Proofs.YtedbcmagjbgbjaaGreatDoor.rd
theorem catb (x y : List UInt8) : (⟨x.toArray⟩ : ByteArray) ++ ⟨y.toArray⟩ = ⟨(x ++ y).toArray⟩ := by
  apply ByteArray.ext; simp
def BRl (l : List UInt8) (W : World) (g : Nat) (s : Value) (wr : World) : Prop := ∃ k : Nat, k ≤ l.length ∧ g = l.length - k ∧ s = .int .i64 k ∧ wr = W ∧ ∀ j (h : j < k) (h2 : j < l.length), l[j] ≠ 37 ∧ l[j] ≠ 46
def QRl (w2 : World) (g : Nat) (s : Value) (wr : World) : Prop := ∃ k : Nat, k ≤ 3 ∧ g = 3 - k ∧ s = .int .i64 (k : Int) ∧ Below w2.heap.size w2 wr
theorem ix3_0 (x y z : ByteArray) : ∀ w9 : World, (Instr.index 24 (.agg #[.string x, .string y, .string z]) (.int .i64 0)).run Tryz.prog w9 = .ok (.string x) w9 := fun w9 => by kernel_rfl
theorem ix3_1 (x y z : ByteArray) : ∀ w9 : World, (Instr.index 24 (.agg #[.string x, .string y, .string z]) (.int .i64 1)).run Tryz.prog w9 = .ok (.string y) w9 := fun w9 => by kernel_rfl
theorem ix3_2 (x y z : ByteArray) : ∀ w9 : World, (Instr.index 24 (.agg #[.string x, .string y, .string z]) (.int .i64 2)).run Tryz.prog w9 = .ok (.string z) w9 := fun w9 => by kernel_rfl
theorem fin6 {w : World} {r : Nat} {u0 u1 u2 u3 u4 u5 : Value} {ty : TypeId} (h : w.heap[r]? = some (.cells #[u0, u1, u2, u3, u4, u5] ty (0, 0))) (v0 v1 v2 v3 v4 v5 : Value) : ∃ W,
    ((((((w.setCell ⟨r, 0, none⟩ v0).setCell ⟨r, 1, none⟩ v1).setCell ⟨r, 2, none⟩ v2).setCell ⟨r, 3, none⟩ v3).setCell ⟨r, 4, none⟩ v4).setCell ⟨r, 5, none⟩ v5) = W ∧
      Nw r (.cells #[v0, v1, v2, v3, v4, v5] ty (0, 0)) w W := by
  have a := (((((Nw.set h 0 v0).trans (Nw.set (Nw.set h 0 v0).1 1 v1)))))
  have b := a.trans (Nw.set a.1 2 v2)
  have c := b.trans (Nw.set b.1 3 v3)
  have d := c.trans (Nw.set c.1 4 v4)
  have e := d.trans (Nw.set d.1 5 v5)
  refine ⟨_, rfl, ?_⟩
  simpa using e
theorem byte_ne {c : UInt8} {d : Nat} (hd : d < 256) (h : c ≠ UInt8.ofNat d) : ((c.toNat : Int) == (d : Int)) = false := by
  rw [beq_eq_false_iff_ne]; intro e
  apply h
  apply UInt8.toNat_inj.1
  have : (UInt8.ofNat d).toNat = d := by simp; omega
  omega
/-- a good term as an argument alone is good, if it is not too great -/
theorem comp_may {t : tm.Tm} (hg : tm.good t = true) (h1 : tm.size t ≤ 500) (h2 : tm.height t ≤ 400) : tm.may (tm.comp (nm [102]) [t]) = 0 := by
  refine (tm.may_iff _).2 ?_
  have hs := tm.good_sound hg
  unfold tm.comp
  simp only [tm.good, tm.size, tm.height, tm.sound, tm.sizeL, tm.heightL, tm.soundL, tm.chk, hs, Bool.and_eq_true, decide_eq_true_eq, if_true]
  refine ⟨⟨by omega, ?_⟩, ?_⟩
  · have : max (tm.height t) 0 = tm.height t := by omega
    rw [this]; omega
  · simp [nm]
    decide
set_option maxRecDepth 100000 in
set_option maxHeartbeats 8000000 in
theorem walk (l0 : List UInt8) (s0 : l0.length ≤ 140737488351232) (w : World) (HL : laidMet Tryz.prog laidL w) :
    Calls Tryz.prog 4 #[.string ⟨l0.toArray⟩] w fun e w' => e = .returned (.bool true) ∧ Below w.heap.size w w' := by
  obtain ⟨pp, hv⟩ := range_of (HL.tail.tail.tail)
  have V0 := Lib.hid (VR.start hv)
  clear hv HL
  have AW := Lib.hid (fun (w9 : World) (hb : Below w.heap.size w w9) => awake_any w9 (V0.out.up hb))
  by_cases hS : l0.length ≤ 1000
  rotate_left
  · have hd : decide ((l0.length : Int) > 1000) = true := decide_eq_true (by omega)
    clear hS
    go_enter Tryz.func4, Tryz.ntmps4
    go_wp2_with fail
    refine (AW.out w (kp.br w)).mono ?_; rintro e w1 ⟨rfl, b1⟩
    have B1 := Lib.hid b1
    clear b1
    go_wp2_with fail
    go_ret; exact ⟨rfl, B1.out⟩
  have hd : decide ((l0.length : Int) > 1000) = false := decide_eq_false (by omega)
  by_cases h0 : l0.length = 0
  · have hd2 : ((l0.length : Int) == 0) = true := beq_iff_eq.2 (by omega)
    clear hS h0
    go_enter Tryz.func4, Tryz.ntmps4
    go_wp2_with fail
    refine (AW.out w (kp.br w)).mono ?_; rintro e w1 ⟨rfl, b1⟩
    have B1 := Lib.hid b1
    clear b1
    go_wp2_with fail
    go_ret; exact ⟨rfl, B1.out⟩
  have hd2 : ((l0.length : Int) == 0) = false := beq_eq_false_iff_ne.2 (by omega)
  have HS := Lib.hid hS
  clear hS h0
  go_enter Tryz.func4, Tryz.ntmps4
  go_wp2_with fail
  clear hd hd2
  go_loopg [25] l0.length (BRl l0 w)
  case atStart => exact ⟨0, by omega, by omega, rfl, rfl, fun j h => by omega⟩
  case round =>
    obtain ⟨k, hk, hgk, rfl, rfl, h37⟩ := hrel
    have HGK := Lib.hid hgk
    have H37 := Lib.hid h37
    clear hgk h37
    by_cases hlt : k < l0.length
    · have hlt' : (k : Int) < (l0.length : Int) := by omega
      have HLT := Lib.hid hlt
      obtain ⟨c, hcc⟩ : ∃ c, c = l0[k] := ⟨_, rfl⟩
      have hb : ∀ h, (⟨l0.toArray⟩ : ByteArray)[k]'h = c := fun h => hcc.symm
      have HC := Lib.hid hcc
      clear hcc
      by_cases h37 : c = 37
      · have e1 : ((c.toNat : Int) == 37) = true := by rw [h37]; rfl
        clear h37
        go_wp2_with fail
        refine (AW.out wr (kp.br wr)).mono ?_; rintro e w5 ⟨rfl, b5⟩
        have HB5 := Lib.hid b5
        clear b5
        go_wp2_with fail
        go_ret; exact ⟨rfl, HB5.out⟩
      have e1 : ((c.toNat : Int) == 37) = false := byte_ne (d := 37) (by decide) h37
      by_cases h46 : c = 46
      · have e2 : ((c.toNat : Int) == 46) = true := by rw [h46]; rfl
        clear h46 h37
        go_wp2_with fail
        refine (AW.out wr (kp.br wr)).mono ?_; rintro e w5 ⟨rfl, b5⟩
        have HB5 := Lib.hid b5
        clear b5
        go_wp2_with fail
        go_ret; exact ⟨rfl, HB5.out⟩
      have e2 : ((c.toNat : Int) == 46) = false := byte_ne (d := 46) (by decide) h46
      have HC2 := Lib.hid (And.intro h37 h46)
      clear h37 h46
      by_cases h42 : c = 42
      · have e3 : ((c.toNat : Int) == 42) = true := by rw [h42]; rfl
        clear h42
        go_wp2_with fail
        refine (AW.out wr (kp.br wr)).mono ?_; rintro e w5 ⟨rfl, b5⟩
        have HB5 := Lib.hid b5
        clear b5
        go_wp2_with fail
        go_ret; exact ⟨rfl, HB5.out⟩
      have e3 : ((c.toNat : Int) == 42) = false := byte_ne (d := 42) (by decide) h42
      clear h42
      go_wp2_with fail
      go_roundg (l0.length - (k + 1))
      case measure => have := HGK.out; have := HLT.out; omega
      case rel =>
        refine ⟨k + 1, HLT.out, rfl, congrArg (Value.int .i64) (by omega), rfl, fun j hj h2 => ?_⟩
        by_cases hjk : j < k
        · exact H37.out j hjk h2
        · have : j = k := by omega
          subst this
          exact ⟨fun h => HC2.out.1 (HC.out.trans h), fun h => HC2.out.2 (HC.out.trans h)⟩
    · have hk' : k = l0.length := by omega
      have hall : rd.Calm l0 := by
        intro x hx
        obtain ⟨j, hj, rfl⟩ := List.getElem_of_mem hx
        exact H37.out j (by omega) hj
      have HALL := Lib.hid hall
      have hl0 : l0.length ≤ 1000 := HS.out
      clear hall
      go_wp2_with fail
      refine (opk.new_any wr).mono ?_; rintro e w1 ⟨tab, rfl, -, FT, hT, hb1, -⟩
      have hcat : (⟨l0.toArray⟩ : ByteArray) ++ ⟨#[32, 46]⟩ = ⟨(l0 ++ [32, 46]).toArray⟩ := by rw [show (⟨#[32, 46]⟩ : ByteArray) = ⟨[32, 46].toArray⟩ from rfl, catb]
      have hte := term_any (l0 ++ [32, 46]) (by simp; omega) w1 (VR.up V0.out hb1) hT opa.newL_inv
      obtain ⟨R, hR⟩ : ∃ R, R = readT opa.newL (l0 ++ [32, 46]) := ⟨_, rfl⟩
      rw [← hR, ← hcat] at hte
      have HTM := Lib.hid hte
      have HRR := Lib.hid hR
      have HB1 := Lib.hid hb1
      clear hT hb1 hte hR hcat H37 HGK hk hlt hk'
      go_wp2_with fail
      refine HTM.out.mono ?_
      cases R with
      | er n a =>
        rintro e w2 ⟨rfl, hn0, hb2⟩
        have e1 : (n != 0) = true := by rw [bne_iff_ne]; exact hn0
        have hB2 := HB1.out.trans (hb2.mono HB1.out.size)
        have H2 := Lib.hid hB2
        unfold Z0 tmV
        obtain ⟨⟨a0, a1, a2, a3, a4, a5⟩, b0, b1, b2, b3, b4, b5⟩ := six (alloc_at w2 TZ)
        clear hn0 hb2 hB2
        go_upto_region 10 with fail
        refine nmw (K := fun W => Below w2.heap.size w2 W) (kp.ba w2 _) (fun W hW => ?_)
        have HB := Lib.hid (H2.out.trans (hW.mono H2.out.size))
        clear a0 a1 a2 a3 a4 a5 b0 b1 b2 b3 b4 b5 hW
        go_wp2_with fail
        refine (AW.out W HB.out).mono ?_; rintro e w5 ⟨rfl, b5⟩
        have HB5 := Lib.hid (HB.out.trans (b5.mono HB.out.size))
        clear b5
        go_wp2_with fail
        go_ret; exact ⟨rfl, HB5.out⟩
      | ok t ns a9 r9 =>
        rintro e w2 ⟨v0, v1, v2, v3, v4, xa, xl, xc, na, nc, rfl, hb2, hL, hrow⟩
        obtain ⟨hmay, hB1, hB2', hB3⟩ := brackets HALL.out hl0 HRR.out.symm
        have hg := (tm.may_iff t).1 hmay
        have hB2 := HB1.out.trans (hb2.mono HB1.out.size)
        have H2 := Lib.hid (And.intro hB2 (And.intro hL (And.intro hg (And.intro hB1 (And.intro hB2' hB3)))))
        obtain ⟨⟨a0, a1, a2, a3, a4, a5⟩, b0, b1, b2, b3, b4, b5⟩ := six (alloc_at w2 TZ)
        clear hb2 hB2 hL hrow hmay hg hB1 hB2' hB3
        go_upto_region 10 with fail
        obtain ⟨r1, hr1⟩ : ∃ r1, r1 = w2.heap.size := ⟨_, rfl⟩
        refine nmw (K := fun W => Below w2.heap.size w2 W ∧ W.heap[r1]? = some (TC (.int .i64 v0) (.string v1) (.int .i64 v2) (.int .u64 v3) (.int .u64 v4) (.slice xa xl xc))) ⟨kp.ba w2 _, by rw [hr1]; exact alloc_at w2 _⟩ (fun W hW => ?_)
        rw [← hr1]
        have HBX := Lib.hid hW.2
        have HW := Lib.hid (And.intro (H2.out.1.trans (hW.1.mono H2.out.1.size)) (lie.Lies.below hW.1 (lie.Lies.off (Y := lie.No) (fun _ _ h => h.elim) H2.out.2.1)))
        obtain ⟨⟨c0, c1, c2, c3, c4, c5⟩, -⟩ := six hW.2
        clear a0 a1 a2 a3 a4 a5 b0 b1 b2 b3 b4 b5 hW hr1
        go_wp2_with fail
        refine (rdp.rNodes_good t _ W HW.out.2 H2.out.2.2.1).mono ?_; rintro e w3 ⟨rfl, b3⟩
        have H3 := Lib.hid (And.intro (HW.out.1.trans (b3.mono HW.out.1.size)) (And.intro (lie.Lies.below b3 HW.out.2) ((b3.block _ (Array.getElem?_eq_some_iff.1 HBX.out).1).trans HBX.out)))
        clear b3 c0 c1 c2 c3 c4 c5 HW HBX
        by_cases hn : tm.size t ≤ 500
        rotate_left
        · have e1 : decide ((tm.size t : Int) > 500) = true := decide_eq_true (by omega)
          clear hn
          go_wp2_with fail
          refine (AW.out w3 H3.out.1).mono ?_; rintro e w5 ⟨rfl, b5⟩
          have HB5 := Lib.hid (H3.out.1.trans (b5.mono H3.out.1.size))
          clear b5
          go_wp2_with fail
          go_ret; exact ⟨rfl, HB5.out⟩
        have e1 : decide ((tm.size t : Int) > 500) = false := decide_eq_false (by omega)
        have HN := Lib.hid hn
        clear hn
        obtain ⟨⟨c0, c1, c2, c3, c4, c5⟩, -⟩ := six H3.out.2.2
        go_wp2_with fail
        refine (rdp.rDepth_good t _ w3 H3.out.2.1 H2.out.2.2.1).mono ?_; rintro e w4 ⟨rfl, b4⟩
        have H4 := Lib.hid (And.intro (H3.out.1.trans (b4.mono H3.out.1.size)) (And.intro (lie.Lies.below b4 H3.out.2.1) ((b4.block _ (Array.getElem?_eq_some_iff.1 H3.out.2.2).1).trans H3.out.2.2)))
        clear b4 c0 c1 c2 c3 c4 c5 H3
        by_cases hh : tm.height t ≤ 400
        rotate_left
        · have e2 : decide ((tm.height t : Int) > 400) = true := decide_eq_true (by omega)
          clear hh
          go_wp2_with fail
          refine (AW.out w4 H4.out.1).mono ?_; rintro e w5 ⟨rfl, b5⟩
          have HB5 := Lib.hid (H4.out.1.trans (b5.mono H4.out.1.size))
          clear b5
          go_wp2_with fail
          go_ret; exact ⟨rfl, HB5.out⟩
        have e2 : decide ((tm.height t : Int) > 400) = false := decide_eq_false (by omega)
        have HH := Lib.hid hh
        clear hh
        obtain ⟨a1, hR1⟩ := H2.out.2.2.2.1
        obtain ⟨a2, hR2⟩ := H2.out.2.2.2.2.1
        obtain ⟨a3, hR3⟩ := H2.out.2.2.2.2.2 (comp_may H2.out.2.2.1 HN.out HH.out)
        obtain ⟨Y0, hY0⟩ : ∃ Y, Y = 32 :: (l0 ++ [32, 41, 32, 46]) := ⟨_, rfl⟩
        obtain ⟨Y1, hY1⟩ : ∃ Y, Y = 32 :: 40 :: 32 :: (l0 ++ [32, 41, 32, 41, 32, 46]) := ⟨_, rfl⟩
        obtain ⟨Y2, hY2⟩ : ∃ Y, Y = 40 :: 32 :: 40 :: 32 :: (l0 ++ [32, 41, 32, 41, 32, 46]) := ⟨_, rfl⟩
        have hx0 : (⟨#[40, 32]⟩ : ByteArray) ++ ⟨l0.toArray⟩ ++ ⟨#[32, 41, 32, 46]⟩ = ⟨(40 :: Y0).toArray⟩ := by
          rw [hY0, show (⟨#[40, 32]⟩ : ByteArray) = ⟨[40, 32].toArray⟩ from rfl, show (⟨#[32, 41, 32, 46]⟩ : ByteArray) = ⟨[32, 41, 32, 46].toArray⟩ from rfl, catb, catb]; simp
        have hx1 : (⟨#[40, 32, 40, 32]⟩ : ByteArray) ++ ⟨l0.toArray⟩ ++ ⟨#[32, 41, 32, 41, 32, 46]⟩ = ⟨(40 :: Y1).toArray⟩ := by
          rw [hY1, show (⟨#[40, 32, 40, 32]⟩ : ByteArray) = ⟨[40, 32, 40, 32].toArray⟩ from rfl, show (⟨#[32, 41, 32, 41, 32, 46]⟩ : ByteArray) = ⟨[32, 41, 32, 41, 32, 46].toArray⟩ from rfl, catb, catb]; simp
        have hx2 : (⟨#[102, 40, 32, 40, 32]⟩ : ByteArray) ++ ⟨l0.toArray⟩ ++ ⟨#[32, 41, 32, 41, 32, 46]⟩ = ⟨(102 :: Y2).toArray⟩ := by
          rw [hY2, show (⟨#[102, 40, 32, 40, 32]⟩ : ByteArray) = ⟨[102, 40, 32, 40, 32].toArray⟩ from rfl, show (⟨#[32, 41, 32, 41, 32, 46]⟩ : ByteArray) = ⟨[32, 41, 32, 41, 32, 46].toArray⟩ from rfl, catb, catb]; simp
        have hR1' : readT opa.newL (40 :: Y0) = .ok t ns a1 [] := by rw [hY0]; simpa using hR1
        have hR2' : readT opa.newL (40 :: Y1) = .ok t ns a2 [] := by rw [hY1]; simpa using hR2
        have hR3' : readT opa.newL (102 :: Y2) = .ok (tm.comp (nm [102]) [t]) ns a3 [] := by rw [hY2]; simpa using hR3
        have hl1 : Y0.length ≤ 1100 := by rw [hY0]; simp; omega
        have hl2 : Y1.length ≤ 1100 := by rw [hY1]; simp; omega
        have hl3 : Y2.length ≤ 1100 := by rw [hY2]; simp; omega
        have HR1 := Lib.hid hR1'
        have HR2 := Lib.hid hR2'
        have HR3 := Lib.hid hR3'
        have HX0 := Lib.hid hx0
        have HX1 := Lib.hid hx1
        have HX2 := Lib.hid hx2
        clear hR1 hR2 hR3 hR1' hR2' hR3' hY0 hY1 hY2 hx0 hx1 hx2
        go_wp2_with fail
        rw [HX0.out, HX1.out, HX2.out]
        clear HX0 HX1 HX2 e1 e2
        go_loopg [78] 3 (QRl w4)
        case atStart => exact ⟨0, by omega, rfl, rfl, kp.br w4⟩
        case round =>
          obtain ⟨k, hk, hg, rfl, hb⟩ := hrel
          by_cases h0 : k = 0
          · subst h0
            have hte := fun w5 tab FT hb hT => term_any (tl := opa.newL) (FT := FT) (tab := tab) (40 :: Y0) (by simp; omega) w5 (VR.up V0.out hb) hT opa.newL_inv
            rw [HR1.out] at hte
            have HTE := Lib.hid hte
            have HBR := Lib.hid (H4.out.1.trans (hb.mono H4.out.1.size))
            have HBQ := Lib.hid hb
            have HGG := Lib.hid hg
            have ixr := ix3_0 ⟨(40 :: Y0).toArray⟩ ⟨(40 :: Y1).toArray⟩ ⟨(102 :: Y2).toArray⟩
            have hb0 : ∀ h, (⟨(40 :: Y0).toArray⟩ : ByteArray)[0]'h = 40 := fun _ => rfl
            clear hte hb hg hk
            go_wp2_with fail
            refine (opk.new_any wr).mono ?_; rintro e w5 ⟨tab, rfl, -, FT, hT, hb5, -⟩
            have HT5 := Lib.hid (HTE.out w5 tab FT (HBR.out.trans (hb5.mono HBR.out.size)) hT)
            have HB5 := Lib.hid hb5
            clear hT hb5
            go_wp2_with fail
            refine Calls.mono HT5.out ?_
            rintro e w6 ⟨p0, p1, p2, p3, p4, ya, yl, yc, nb, nd, rfl, hb6, hL6, hrow6⟩
            have hB6 := HB5.out.trans (hb6.mono HB5.out.size)
            have HQ6 := Lib.hid (lie.Lies.off (Y := lie.No) (fun _ _ h => h.elim) hL6)
            have H6 := Lib.hid hB6
            obtain ⟨⟨a0, a1, a2, a3, a4, a5⟩, b0, b1, b2, b3, b4, b5⟩ := six (alloc_at w6 TZ)
            clear hb6 hB6 hL6 hrow6
            go_upto_region 16 with fail
            obtain ⟨r2, hr2⟩ : ∃ r2, r2 = w6.heap.size := ⟨_, rfl⟩
            refine nmw (K := fun W => Below w6.heap.size w6 W ∧ W.heap[r2]? = some (TC (.int .i64 p0) (.string p1) (.int .i64 p2) (.int .u64 p3) (.int .u64 p4) (.slice ya yl yc))) ⟨kp.ba w6 _, by rw [hr2]; exact alloc_at w6 _⟩ (fun W2 hW2 => ?_)
            rw [← hr2]
            have HR2S := Lib.hid (show w6.heap.size ≤ r2 by omega)
            have HBW := Lib.hid (HBR.out.trans ((H6.out.trans (hW2.1.mono H6.out.size)).mono HBR.out.size))
            have HBW2 := Lib.hid (HBQ.out.trans ((H6.out.trans (hW2.1.mono H6.out.size)).mono HBQ.out.size))
            have HWR := Lib.hid (And.intro (H6.out.trans (hW2.1.mono H6.out.size)) hW2)
            have hr1 : W2.heap[r1]? = some (TC (.int .i64 v0) (.string v1) (.int .i64 v2) (.int .u64 v3) (.int .u64 v4) (.slice xa xl xc)) := by
              have h := HBQ.out.trans (HWR.out.1.mono HBQ.out.size)
              exact (h.block _ (Array.getElem?_eq_some_iff.1 H4.out.2.2).1).trans H4.out.2.2
            have hlt := lie.Lies.below (HBQ.out.trans (HWR.out.1.mono HBQ.out.size)) H4.out.2.1
            obtain ⟨⟨c0, c1, c2, c3, c4, c5⟩, -⟩ := six hr1
            obtain ⟨⟨d0, d1, d2, d3, d4, d5⟩, f0, f1, f2, f3, f4, f5⟩ := six hW2.2
            clear a0 a1 a2 a3 a4 a5 b0 b1 b2 b3 b4 b5 hr2
            have HSM := Lib.hid (rsm.rsame_any t t _ _ W2 hlt (lie.Lies.below hW2.1 HQ6.out))
            have hsb : tm.sameB t t = true := by rw [tm.sameB_refl]; exact H2.out.2.2.1
            rw [hsb] at HSM
            clear hW2 hlt hr1 hsb
            go_wp2_with fail
            refine HSM.out.mono ?_; rintro e w8 ⟨rfl, b8⟩
            have HB8 := Lib.hid (HBW2.out.trans (b8.mono HBW2.out.size))
            clear b8 c0 c1 c2 c3 c4 c5 d0 d1 d2 d3 d4 d5 f0 f1 f2 f3 f4 f5
            go_wp2_with fail
            go_roundg 2
            case measure => have := HGG.out; omega
            case rel => exact ⟨1, by omega, rfl, rfl, HB8.out⟩
          by_cases h1 : k = 1
          · subst h1
            have hte := fun w5 tab FT hb hT => term_any (tl := opa.newL) (FT := FT) (tab := tab) (40 :: Y1) (by simp; omega) w5 (VR.up V0.out hb) hT opa.newL_inv
            rw [HR2.out] at hte
            have HTE := Lib.hid hte
            have HBR := Lib.hid (H4.out.1.trans (hb.mono H4.out.1.size))
            have HBQ := Lib.hid hb
            have HGG := Lib.hid hg
            have ixr := ix3_1 ⟨(40 :: Y0).toArray⟩ ⟨(40 :: Y1).toArray⟩ ⟨(102 :: Y2).toArray⟩
            have hb0 : ∀ h, (⟨(40 :: Y1).toArray⟩ : ByteArray)[0]'h = 40 := fun _ => rfl
            clear hte hb hg hk
            go_wp2_with fail
            refine (opk.new_any wr).mono ?_; rintro e w5 ⟨tab, rfl, -, FT, hT, hb5, -⟩
            have HT5 := Lib.hid (HTE.out w5 tab FT (HBR.out.trans (hb5.mono HBR.out.size)) hT)
            have HB5 := Lib.hid hb5
            clear hT hb5
            go_wp2_with fail
            refine Calls.mono HT5.out ?_
            rintro e w6 ⟨p0, p1, p2, p3, p4, ya, yl, yc, nb, nd, rfl, hb6, hL6, hrow6⟩
            have hB6 := HB5.out.trans (hb6.mono HB5.out.size)
            have HQ6 := Lib.hid (lie.Lies.off (Y := lie.No) (fun _ _ h => h.elim) hL6)
            have H6 := Lib.hid hB6
            obtain ⟨⟨a0, a1, a2, a3, a4, a5⟩, b0, b1, b2, b3, b4, b5⟩ := six (alloc_at w6 TZ)
            clear hb6 hB6 hL6 hrow6
            go_upto_region 16 with fail
            obtain ⟨r2, hr2⟩ : ∃ r2, r2 = w6.heap.size := ⟨_, rfl⟩
            refine nmw (K := fun W => Below w6.heap.size w6 W ∧ W.heap[r2]? = some (TC (.int .i64 p0) (.string p1) (.int .i64 p2) (.int .u64 p3) (.int .u64 p4) (.slice ya yl yc))) ⟨kp.ba w6 _, by rw [hr2]; exact alloc_at w6 _⟩ (fun W2 hW2 => ?_)
            rw [← hr2]
            have HR2S := Lib.hid (show w6.heap.size ≤ r2 by omega)
            have HBW := Lib.hid (HBR.out.trans ((H6.out.trans (hW2.1.mono H6.out.size)).mono HBR.out.size))
            have HBW2 := Lib.hid (HBQ.out.trans ((H6.out.trans (hW2.1.mono H6.out.size)).mono HBQ.out.size))
            have HWR := Lib.hid (And.intro (H6.out.trans (hW2.1.mono H6.out.size)) hW2)
            have hr1 : W2.heap[r1]? = some (TC (.int .i64 v0) (.string v1) (.int .i64 v2) (.int .u64 v3) (.int .u64 v4) (.slice xa xl xc)) := by
              have h := HBQ.out.trans (HWR.out.1.mono HBQ.out.size)
              exact (h.block _ (Array.getElem?_eq_some_iff.1 H4.out.2.2).1).trans H4.out.2.2
            have hlt := lie.Lies.below (HBQ.out.trans (HWR.out.1.mono HBQ.out.size)) H4.out.2.1
            obtain ⟨⟨c0, c1, c2, c3, c4, c5⟩, -⟩ := six hr1
            obtain ⟨⟨d0, d1, d2, d3, d4, d5⟩, f0, f1, f2, f3, f4, f5⟩ := six hW2.2
            clear a0 a1 a2 a3 a4 a5 b0 b1 b2 b3 b4 b5 hr2
            have HSM := Lib.hid (rsm.rsame_any t t _ _ W2 hlt (lie.Lies.below hW2.1 HQ6.out))
            have hsb : tm.sameB t t = true := by rw [tm.sameB_refl]; exact H2.out.2.2.1
            rw [hsb] at HSM
            clear hW2 hlt hr1 hsb
            go_wp2_with fail
            refine HSM.out.mono ?_; rintro e w8 ⟨rfl, b8⟩
            have HB8 := Lib.hid (HBW2.out.trans (b8.mono HBW2.out.size))
            clear b8 c0 c1 c2 c3 c4 c5 d0 d1 d2 d3 d4 d5 f0 f1 f2 f3 f4 f5
            go_wp2_with fail
            go_roundg 1
            case measure => have := HGG.out; omega
            case rel => exact ⟨2, by omega, rfl, rfl, HB8.out⟩
          by_cases h2 : k = 2
          · subst h2
            have hte := fun w5 tab FT hb hT => term_any (tl := opa.newL) (FT := FT) (tab := tab) (102 :: Y2) (by simp; omega) w5 (VR.up V0.out hb) hT opa.newL_inv
            rw [HR3.out] at hte
            have HTE := Lib.hid hte
            have HBR := Lib.hid (H4.out.1.trans (hb.mono H4.out.1.size))
            have HBQ := Lib.hid hb
            have HGG := Lib.hid hg
            have ixr := ix3_2 ⟨(40 :: Y0).toArray⟩ ⟨(40 :: Y1).toArray⟩ ⟨(102 :: Y2).toArray⟩
            have hb0 : ∀ h, (⟨(102 :: Y2).toArray⟩ : ByteArray)[0]'h = 102 := fun _ => rfl
            clear hte hb hg hk
            go_wp2_with fail
            refine (opk.new_any wr).mono ?_; rintro e w5 ⟨tab, rfl, -, FT, hT, hb5, -⟩
            have HT5 := Lib.hid (HTE.out w5 tab FT (HBR.out.trans (hb5.mono HBR.out.size)) hT)
            have HB5 := Lib.hid hb5
            clear hT hb5
            go_wp2_with fail
            refine Calls.mono HT5.out ?_
            rintro e w6 ⟨p0, p1, p2, p3, p4, ya, yl, yc, nb, nd, rfl, hb6, hL6, hrow6⟩
            have hB6 := HB5.out.trans (hb6.mono HB5.out.size)
            have hLc := hL6
            unfold tm.comp at hLc
            rw [lie.Lies] at hLc
            obtain ⟨yy, yd, hv, hf, hrw⟩ := hLc
            simp only [Value.agg.injEq, Array.mk.injEq, List.cons.injEq, Value.int.injEq, Value.string.injEq, Value.slice.injEq, and_true, true_and] at hv
            obtain ⟨rfl, rfl, rfl, rfl, rfl, rfl, rfl, rfl⟩ := hv
            obtain ⟨q1, o1, x0, x1, x2, x3, x4, x5, hql, hqx, hq6, hqt, hqi⟩ := hrw.look (m := 0) (by simp)
            simp only [List.getElem_cons_zero, List.length_cons, List.length_nil, Nat.zero_add] at hqt hqi
            obtain ⟨kx, nx, ix, rx, mx, lx, ax, cx, hv2, _⟩ := rws.lies_form hqt
            obtain ⟨rfl, rfl, rfl, rfl, rfl, rfl⟩ := hv2
            have hqi0 := hqi yc
            simp only [Int.natCast_zero] at hqi0
            have HQ6 := Lib.hid (And.intro hql (And.intro hq6 (lie.Lies.off (Y := lie.No) (fun _ _ h => h.elim) hqt)))
            clear hql hqx hq6 hqt hqi hf hrw
            simp only [List.length_cons, List.length_nil, Nat.zero_add]
            have H6 := Lib.hid hB6
            obtain ⟨⟨a0, a1, a2, a3, a4, a5⟩, b0, b1, b2, b3, b4, b5⟩ := six (alloc_at w6 TZ)
            clear hb6 hB6 hL6 hrow6
            go_upto_region 16 with fail
            obtain ⟨r2, hr2⟩ : ∃ r2, r2 = w6.heap.size := ⟨_, rfl⟩
            refine nmw (K := fun W => Below w6.heap.size w6 W ∧ W.heap[r2]? = some (TC (.int .i64 5) (.string (nm [102])) (.int .i64 0) (.int .u64 0) (.int .u64 0) (.slice ya 1 yc))) ⟨kp.ba w6 _, by rw [hr2]; exact alloc_at w6 _⟩ (fun W2 hW2 => ?_)
            rw [← hr2]
            have HR2S := Lib.hid (show w6.heap.size ≤ r2 by omega)
            have HBW := Lib.hid (HBR.out.trans ((H6.out.trans (hW2.1.mono H6.out.size)).mono HBR.out.size))
            have HBW2 := Lib.hid (HBQ.out.trans ((H6.out.trans (hW2.1.mono H6.out.size)).mono HBQ.out.size))
            have HWR := Lib.hid (And.intro (H6.out.trans (hW2.1.mono H6.out.size)) hW2)
            have hr1 : W2.heap[r1]? = some (TC (.int .i64 v0) (.string v1) (.int .i64 v2) (.int .u64 v3) (.int .u64 v4) (.slice xa xl xc)) := by
              have h := HBQ.out.trans (HWR.out.1.mono HBQ.out.size)
              exact (h.block _ (Array.getElem?_eq_some_iff.1 H4.out.2.2).1).trans H4.out.2.2
            have hlt := lie.Lies.below (HBQ.out.trans (HWR.out.1.mono HBQ.out.size)) H4.out.2.1
            obtain ⟨⟨c0, c1, c2, c3, c4, c5⟩, -⟩ := six hr1
            obtain ⟨⟨d0, d1, d2, d3, d4, d5⟩, f0, f1, f2, f3, f4, f5⟩ := six hW2.2
            clear a0 a1 a2 a3 a4 a5 b0 b1 b2 b3 b4 b5 hr2
            have hq6' := HQ6.out.2.1.keep (X := lie.No) (Keep.of_below hW2.1) id
            obtain ⟨g0, g1, g2, g3, g4, g5⟩ := hq6'
            have hqL : lie.Lies (fun b => b = r2) W2 t (.agg #[.int .i64 kx, .string nx, .int .i64 ix, .int .u64 rx, .int .u64 mx, .slice ax lx cx]) := lie.Lies.below hW2.1 (lie.Lies.off (fun b hb e => absurd hb (by have := HR2S.out; omega)) HQ6.out.2.2)
            have hlt2 : lie.Lies (fun b => b = r2) W2 t (.agg #[.int .i64 v0, .string v1, .int .i64 v2, .int .u64 v3, .int .u64 v4, .slice xa xl xc]) := lie.Lies.below hW2.1 (lie.Lies.off (fun b hb e => absurd hb (by have := HR2S.out; omega)) (lie.Lies.below (HBQ.out.trans (H6.out.mono HBQ.out.size)) H4.out.2.1))
            have hne : r1 ≠ r2 := by
              have h2 := (Array.getElem?_eq_some_iff.1 H4.out.2.2).1
              have h3 := HBQ.out.size
              have h4 := H6.out.size
              have h5 := HR2S.out
              omega
            have H7 := Lib.hid (And.intro hW2.2 (And.intro hqL (And.intro hlt2 (And.intro hr1 hne))))
            clear hW2 hlt hlt2 hr1 hqL hne
            go_upto_region 22 with fail
            obtain ⟨W3, hW3, hn3⟩ := fin6 H7.out.1 (.int .i64 kx) (.string nx) (.int .i64 ix) (.int .u64 rx) (.int .u64 mx) (.slice ax lx cx)
            rw [hW3]
            have hr13 : W3.heap[r1]? = some (TC (.int .i64 v0) (.string v1) (.int .i64 v2) (.int .u64 v3) (.int .u64 v4) (.slice xa xl xc)) := (hn3.2.block r1 (Array.getElem?_eq_some_iff.1 H7.out.2.2.2.1).1 H7.out.2.2.2.2).trans H7.out.2.2.2.1
            have hk3 : Keep (fun b => b = r2) W2 W3 := hn3.2
            have HSM := Lib.hid (rsm.rsame_any t t _ _ W3 (lie.Lies.off (fun _ _ h => h.elim) (lie.Lies.keep (Y := fun b => b = r2) hk3 (fun _ _ => id) _ _ H7.out.2.2.1)) (lie.Lies.off (fun _ _ h => h.elim) (lie.Lies.keep (Y := fun b => b = r2) hk3 (fun _ _ => id) _ _ H7.out.2.1)))
            have hsb : tm.sameB t t = true := by rw [tm.sameB_refl]; exact H2.out.2.2.1
            rw [hsb] at HSM
            have HB3 := Lib.hid (HBW2.out.trans (hk3.to_below (B := w4.heap.size) (fun i hi => by have h3 := HBQ.out.size; have h4 := H6.out.size; have h5 := HR2S.out; omega) HBW2.out.size))
            clear c0 c1 c2 c3 c4 c5 d0 d1 d2 d3 d4 d5 f0 f1 f2 f3 f4 f5 g0 g1 g2 g3 g4 g5 hsb hW3
            obtain ⟨⟨c0, c1, c2, c3, c4, c5⟩, -⟩ := six hr13
            obtain ⟨⟨d0, d1, d2, d3, d4, d5⟩, -⟩ := six hn3.1
            clear hr13 hk3 hn3
            go_wp2_with fail
            refine HSM.out.mono ?_; rintro e w8 ⟨rfl, b8⟩
            have HB8 := Lib.hid (HB3.out.trans (b8.mono HB3.out.size))
            clear b8 c0 c1 c2 c3 c4 c5 d0 d1 d2 d3 d4 d5
            go_wp2_with fail
            go_roundg 0
            case measure => have := HGG.out; omega
            case rel => exact ⟨3, by omega, rfl, rfl, HB8.out⟩
          have h3 : k = 3 := by omega
          subst h3
          have HB9 := Lib.hid (H4.out.1.trans (hb.mono H4.out.1.size))
          clear hb hk hg h0 h1 h2
          go_wp2_with fail
          refine (AW.out wr HB9.out).mono ?_; rintro e w9 ⟨rfl, b9⟩
          have HF := Lib.hid (HB9.out.trans (b9.mono HB9.out.size))
          clear b9
          go_wp2_with fail
          go_ret; exact ⟨rfl, HF.out⟩
set_option maxRecDepth 100000 in
theorem lifted (os : Os) (started : os.Started) (H : Type) (enc : TypeId × Value → H) :
    ReturnsInHanded {} Tryz.checked os 4 .any (fun w args => (Rows.readBracketsSpec.pre enc Tryz.prog Tryz.f4 Rows.readBracketsRow.domain false w args ∧ laidMetH Tryz.prog laidL w) ∧ sizedMet enc Tryz.prog Tryz.f4 (OpenSpec.ofChange Rows.readBracketsSpec) false w args)
      (Rows.readBracketsSpec.post enc Tryz.prog Tryz.f4 false true false false) := by
  refine returnsInHanded_of_change_and (C := Tryz.checked) (X := fun w _ => laidMetH Tryz.prog laidL w) (fun _ _ _ hh h => h.of_heap hh) own started (by kernel_rfl) Tryz.func4
    (ChangeSpec.witness_shaped (enc := enc) (C := Tryz.checked) (os := os) (X := fun w _ => laidMetH Tryz.prog laidL w) false (World.doorLaid Tryz.prog 400 os) #[.string ⟨#[]⟩] 8 rfl (World.shaped_of_RefB (by kernel_rfl) (by kernel_rfl)) (by kernel_rfl) (by kernel_rfl) (by kernel_rfl) (door_met os _)) ?_
  intro W base args ds gs before hval0 hW _ hsz0 hL _
  have hsz : (DataW.weightsEach Tryz.prog (Tryz.f4.params.toList ++ Rows.readBracketsSpec.plain.varTypes Tryz.prog) (ds ++ gs)).all (· ≤ reachBytes) = true := hsz0
  clear hsz0
  have hval : ∀ (j : Nat) t v, Tryz.f4.params[j]? = some t → args[j]? = some v → Value.okWide Tryz.prog W .any base t v := hval0
  have hW' := hW
  obtain ⟨p, q, hA0, hV, rfl, hfz, hnd⟩ := hW
  have hA : DataW.TrodAll enc Tryz.prog W 0 (fun _ => true) true Tryz.f4.params.toList args.toList ds p := hA0
  rw [Tryz.params4] at hA hval hsz
  obtain ⟨v0, vs0, d0, ds0, p0, q0, hargs, rfl, rfl, h0, r0⟩ := trodAll_cons hA
  obtain ⟨rfl, rfl, rfl⟩ := trodAll_nil r0
  obtain rfl : args = #[v0] := by cases args; simp_all
  obtain ⟨rfl, rfl⟩ := trodVars_none hV
  obtain ⟨t0, rfl, rfl, rfl, u0⟩ := open_string Tryz.underlying9 (hval 0 9 v0 rfl rfl) h0
  clear hA0 hval0
  simp only [List.append_nil] at hW'
  have z0 : t0.data.toList.length ≤ 140737488351232 := by
    have h1 := sized_string hsz (j := 0) (t := 9) rfl rfl
    have e3 : reachBytes = 140737488351232 := by decide
    omega
  obtain ⟨l0, rfl⟩ : ∃ l : List UInt8, t0 = ⟨l.toArray⟩ := ⟨t0.data.toList, by cases t0; simp⟩
  have s0 : l0.length ≤ 140737488351232 := by simpa using z0
  have HL : laidMet Tryz.prog laidL W := by rw [MakeChecks.laidMetH_plain _ _ _ (by kernel_rfl)] at hL; exact hL
  refine (walk l0 s0 W HL).mono fun e W' ⟨he, hg⟩ => ?_
  subst he
  refine ⟨_, rfl, _, _, _, [], [], [], hW', ?_, ?_, rfl, hg.frame _, fun h => by cases h⟩
  · exact (trodAll_cons_mk (shut_bool Tryz.underlying4 _) trodAll_mk0)
  · exact (trodAll_cons_mk (shut_string Tryz.underlying9 u0) trodAll_mk0)
theorem holds : Rows.ReadBracketsSaid :=
  OpenClaim.holds_of_wide 4 Tryz.f4 rfl rfl rfl rfl rfl rfl rfl ⟨rfl, rfl, rfl, rfl, rfl⟩ rfl rfl rfl rfl rfl (by kernel_rfl) Tryz.func4 (by kernel_rfl)
    (of_decide_eq_true (by kernel_rfl)) (by unfold Func.isWrapper; first | (rw [if_pos (by decide +kernel)]; kernel_rfl) | (rw [if_neg (by decide +kernel)]; exact ⟨rfl, rfl⟩))
    (fun os started H enc _ => lifted os started H enc)
/-- THE STATEMENT: the tied card. -/
theorem proved : Rows.ReadBracketsCardSaid :=
  Claim7.holds_tied_plain_at .later [] [.data, .data, .data, .sentinel, .sentinel] true (true, "db4c560b7b05b555484bdc7e4ea4373fa0315a09f8e93b3cbef9aa63f2928fd1") true
    holds (fun _ h => by cases h) (by kernel_rfl) (fun _ h => by cases h) readBrackets_row_tie rfl ⟨rfl, rfl⟩ (by kernel_rfl) rfl
    (fun f fn hf hfn => by
      obtain rfl : f = 4 := Option.some.inj ((show Tryz.prog.funcNamed "elenchus/elenchuslaw13.ReadBrackets" = some 4 by kernel_rfl).symm.trans hf) |>.symm
      obtain rfl : fn = Tryz.f4 := (Option.some.inj (Tryz.func4.symm.trans hfn)).symm
      exact ⟨by kernel_rfl, fun j t ht => by
        rw [Tryz.params4] at ht
        have hm : t ∈ [9] := by simpa using Array.mem_of_getElem? ht
        have hall : ([9].all fun u => !(Tryz.prog.wantsStandIn u)) = true := by kernel_rfl
        exact (show Tryz.prog.wantsStandIn t = false by simpa using List.all_eq_true.1 hall t hm)⟩)
    (by kernel_rfl)
#print axioms proved
end Go.Proofs.YtedbcmagjbgbjaaGreatDoor.readBrackets
