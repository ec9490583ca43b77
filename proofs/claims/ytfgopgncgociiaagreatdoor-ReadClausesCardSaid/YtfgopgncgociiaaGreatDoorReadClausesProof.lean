/- The law ReadClauses holds, as its tied card says: for every input its Go function returns true and leaves its arguments as they were. The listed package-level variables start as the program's text lays them. -/
import Derived.Test.YtfgopgncgociiaaGreatDoorRows
import Derived.Test.YtfgopgncgociiaaGreatDoorCards
import Derived.Test.YtfgopgncgociiaaGreatDoorTie
import Derived.WalkKit
import Derived.ProofKit
import Derived.OpenShut
import Derived.LaidMore
import Derived.LaidLaws
import Derived.SizedLaws
import Derived.MakeChecks
import Derived.SevenTiedAt
import Derived.Stop.Joined
import Derived.Test.YtfgopgncgociiaaGreatDoorRaD
namespace Go.Proofs.YtfgopgncgociiaaGreatDoor.readClauses
open Go.ChangeShapes Go.WideShapes Go.ChangeAt Go.RowKit
open Go.ChangeMaps (open_string shut_string)
set_option linter.unusedVariables false
theorem own : ownKnob Tryz.prog.godebug = none := by kernel_rfl
abbrev laidL : List (String × DataW Unit) := [("math/bits.deBruijn32tab", Rows.laid_math_bits_deBruijn32tab), ("math/bits.deBruijn64tab", Rows.laid_math_bits_deBruijn64tab), ("internal/strconv.uint64pow10", Rows.laid_internal_strconv_uint64pow10), ("strconv.ErrRange", Rows.laid_strconv_ErrRange), ("strconv.ErrSyntax", Rows.laid_strconv_ErrSyntax)]
theorem door_met (os : Os) (args : Array Value) : laidMetH Tryz.prog laidL ((World.doorLaid Tryz.prog 400 os).forCall (fun _ _ => 0) ⟨#[], args, []⟩).memory :=
  laidMetH_of_parts3 (fuel := 8) (laidMet_of_run' 8 (by kernel_rfl) (by kernel_rfl)) (by kernel_rfl) (by kernel_rfl)
open Go.Proofs.YtfgopgncgociiaaGreatDoor.num Go.Proofs.YtfgopgncgociiaaGreatDoor.tk Go.Proofs.YtfgopgncgociiaaGreatDoor.kp Go.Proofs.YtfgopgncgociiaaGreatDoor.rd
def CRl (n : Nat) (W : World) (g : Nat) (s : Value) (wr : World) : Prop := ∃ k : Nat, k ≤ n ∧ g = n - k ∧ s = .int .i64 k ∧ Below W.heap.size W wr
def BRl (l : List UInt8) (W : World) (g : Nat) (s : Value) (wr : World) : Prop := ∃ k : Nat, k ≤ l.length ∧ g = l.length - k ∧ s = .int .i64 k ∧ wr = W ∧ ∀ j (h : j < k) (h2 : j < l.length), l[j] ≠ 37
theorem rall_out {FT : Nat → Prop} {tl : List opa.D} {w : World} (S : List UInt8) (hS : S.length ≤ 140737488351232) (hv : VR w.heap.size w) {tab : Nat} (hT : opb.Tb w tab FT tl) (hi : opa.Inv tl) {l : List Cl3} {p : Nat} {er : Int} (hR : (l, p, er) = readA tl S) :
    Calls Tryz.prog 15 #[.string ⟨S.toArray⟩, .pointer (some ⟨tab, 0, none⟩)] w fun e w' => ∃ a c, e = .returned (.tuple #[.slice a l.length c, .int .i64 (p : Int), .int .i64 er]) ∧ Below w.heap.size w w' ∧ ∃ B, AC B l (.slice a l.length c) w' := by
  have h := rall_any S hS w hv hT hi
  rw [← hR] at h
  exact h.mono fun e w' h => by obtain ⟨a, c, h1, h2, B, -, h3⟩ := h; exact ⟨a, c, h1, h2, B, h3⟩
theorem two_alloc (w : World) (A B : Obj) : Below w.heap.size w ((w.alloc A).alloc B) ∧ ((w.alloc A).alloc B).heap[w.heap.size]? = some A ∧ ((w.alloc A).alloc B).heap[w.heap.size + 1]? = some B := by
  have e : (w.alloc A).heap.size = w.heap.size + 1 := by show (w.heap.push A).size = _; simp
  have b2 := kp.ba (w.alloc A) B
  refine ⟨(kp.ba w A).trans (b2.mono (by omega)), (b2.block _ (by omega)).trans (alloc_at w A), ?_⟩
  have := alloc_at (w.alloc A) B
  rwa [e] at this
theorem eight {w : World} {p : Nat} {v0 v1 v2 v3 v4 v5 v6 v7 : Value} {ty : TypeId} (h : w.heap[p]? = some (.cells #[v0, v1, v2, v3, v4, v5, v6, v7] ty (0, 0))) :
    (w.cell? ⟨p, 0, none⟩ = some v0 ∧ w.cell? ⟨p, 1, none⟩ = some v1 ∧ w.cell? ⟨p, 2, none⟩ = some v2 ∧ w.cell? ⟨p, 3, none⟩ = some v3 ∧ w.cell? ⟨p, 4, none⟩ = some v4 ∧ w.cell? ⟨p, 5, none⟩ = some v5 ∧ w.cell? ⟨p, 6, none⟩ = some v6 ∧ w.cell? ⟨p, 7, none⟩ = some v7) ∧
      w.frozen? ⟨p, 0, none⟩ = false ∧ w.frozen? ⟨p, 1, none⟩ = false ∧ w.frozen? ⟨p, 2, none⟩ = false ∧ w.frozen? ⟨p, 3, none⟩ = false ∧ w.frozen? ⟨p, 4, none⟩ = false ∧ w.frozen? ⟨p, 5, none⟩ = false ∧ w.frozen? ⟨p, 6, none⟩ = false ∧ w.frozen? ⟨p, 7, none⟩ = false := by
  refine ⟨⟨?_, ?_, ?_, ?_, ?_, ?_, ?_, ?_⟩, ?_, ?_, ?_, ?_, ?_, ?_, ?_, ?_⟩ <;> simp [World.cell?, World.frozen?, h]
theorem fin8 {w : World} {r : Nat} {u0 u1 u2 u3 u4 u5 u6 u7 : Value} {ty : TypeId} (h : w.heap[r]? = some (.cells #[u0, u1, u2, u3, u4, u5, u6, u7] ty (0, 0))) (v0 v1 v2 v3 v4 v5 v6 v7 : Value) : ∃ W,
    ((((((((w.setCell ⟨r, 0, none⟩ v0).setCell ⟨r, 1, none⟩ v1).setCell ⟨r, 2, none⟩ v2).setCell ⟨r, 3, none⟩ v3).setCell ⟨r, 4, none⟩ v4).setCell ⟨r, 5, none⟩ v5).setCell ⟨r, 6, none⟩ v6).setCell ⟨r, 7, none⟩ v7) = W ∧
      Nw r (.cells #[v0, v1, v2, v3, v4, v5, v6, v7] ty (0, 0)) w W := by
  have a := (((((Nw.set h 0 v0).trans (Nw.set (Nw.set h 0 v0).1 1 v1)))))
  have b := a.trans (Nw.set a.1 2 v2)
  have c := b.trans (Nw.set b.1 3 v3)
  have d := c.trans (Nw.set c.1 4 v4)
  have e := d.trans (Nw.set d.1 5 v5)
  have f := e.trans (Nw.set e.1 6 v6)
  have g := f.trans (Nw.set f.1 7 v7)
  refine ⟨_, rfl, ?_⟩
  simpa using g
theorem l_y {q a b n : Nat} (h : n = a + b) (h1 : q < n) (h2 : ¬ q < a) : q - a < b := by omega
theorem l_sub {q a n : Nat} (hn : n ≤ 9223372036854775807) (h1 : q < n) (h2 : ¬ q < a) : wrap64 ((q : Int) - (a : Int)) = ((q - a : Nat) : Int) ∧ wrap64 ((q - a : Nat) : Int) = ((q - a : Nat) : Int) ∧ (q : Int) - (a : Int) = ((q - a : Nat) : Int) := by
  have e : (q : Int) - (a : Int) = ((q - a : Nat) : Int) := by omega
  refine ⟨?_, ?_, e⟩
  · rw [e]; unfold wrap64; omega
  · unfold wrap64; omega
theorem l_off {a : Nat} (h : a ≤ 1500) : wrap64 ((a : Int) + 1) = ((a + 1 : Nat) : Int) := by unfold wrap64; omega
theorem l_at {a b c : Nat} (h : a = b + c) (h4 : a ≤ 4000) : wrap64 ((b : Int) + (c : Int)) = (a : Int) ∧ wrap64 ((a : Int)) = (a : Int) ∧ wrap64 ((b : Int) + ((c : Nat) : Int)) = (a : Int) := by
  have e : (b : Int) + (c : Int) = (a : Int) := by omega
  rw [e]; refine ⟨?_, ?_, ?_⟩ <;> (unfold wrap64; omega)
theorem l_at1 {a : Nat} (h4 : a ≤ 4000) : wrap64 ((a : Int)) = (a : Int) := by unfold wrap64; omega
theorem l_at2 {a b c : Nat} (h : a = b + (c + 1)) (h4 : a ≤ 4000) : wrap64 ((b : Int) + ((c + 1 : Nat) : Int)) = (a : Int) ∧ wrap64 ((b : Int) + ((c : Int) + 1)) = (a : Int) := by
  constructor <;> (unfold wrap64; omega)
theorem l_lt {a b c d : Nat} (h1 : a = b) (h2 : c = a + 1) : b ≤ c ∧ a ≠ c := by omega
theorem cell_up {w W : World} (b : Below w.heap.size w W) {g o : Nat} {v : Value} (h : w.cell? ⟨g, o, none⟩ = some v) : W.cell? ⟨g, o, none⟩ = some v := by
  by_cases hg : g < w.heap.size
  · have e := b.block g hg
    simp only [World.cell?] at h ⊢
    rw [e]; exact h
  · have e : w.heap[g]? = none := by simp; omega
    simp [World.cell?, e] at h
theorem l_nx {v : Int} {q n : Nat} (h : v = (q : Int)) (hn : n ≤ 9223372036854775807) (hq : q < n) : wrap64 (v + 1) = ((q + 1 : Nat) : Int) := by unfold wrap64; omega
theorem l_ge {v : Int} {q a : Nat} (h : v = (q : Int)) (h1 : a ≤ q) : decide (v < (a : Int)) = false := decide_eq_false (by omega)
theorem l_ms {g n q : Nat} (h : g = n - q) (h1 : q < n) : n - (q + 1) < g := by omega
theorem l_nn {q n : Nat} (hn : n ≤ 9223372036854775807) (hq : q < n) : (q : Int) + 1 = ((q + 1 : Nat) : Int) ∧ wrap64 ((q : Int) + 1) = ((q + 1 : Nat) : Int) := by
  refine ⟨by omega, ?_⟩
  unfold wrap64; omega
theorem ac_most {B : Nat} {l : List Cl3} {a : Option Addr} {c : Nat} {w : World} (h : AC B l (.slice a l.length c) w) : l.length ≤ maxLen := by
  obtain ⟨xs, ⟨-, hr⟩, -⟩ := h
  rcases hr with ⟨h, h0⟩ | ⟨g', cap, cur, h, -, -, q1, q2, -⟩
  · omega
  · cases h; omega
set_option maxRecDepth 100000 in
set_option maxHeartbeats 8000000 in
theorem walk (l0 : List UInt8) (s0 : l0.length ≤ 140737488351232) (l1 : List UInt8) (s1 : l1.length ≤ 140737488351232) (w : World) (HL : laidMet Tryz.prog laidL w) :
    Calls Tryz.prog 4 #[.string ⟨l0.toArray⟩, .string ⟨l1.toArray⟩] w fun e w' => e = .returned (.bool true) ∧ Below w.heap.size w w' := by
  obtain ⟨pp, hv⟩ := range_of (HL.tail.tail.tail)
  have V0 := Lib.hid (VR.start hv)
  clear hv HL
  have AW := Lib.hid awake_any
  by_cases hS : l0.length ≤ 1500 ∧ l1.length ≤ 1500
  rotate_left
  · have hd : (decide ((l0.length : Int) > 1500) = true) ∨ (decide ((l0.length : Int) > 1500) = false ∧ decide ((l1.length : Int) > 1500) = true) := by
      by_cases h : l0.length ≤ 1500
      · exact Or.inr ⟨decide_eq_false (by omega), decide_eq_true (by omega)⟩
      · exact Or.inl (decide_eq_true (by omega))
    clear hS
    rcases hd with hd | ⟨hd, hd2⟩
    all_goals
      go_enter Tryz.func4, Tryz.ntmps4
      go_wp2_with fail
      refine (AW.out w V0.out).mono ?_; rintro e w1 ⟨rfl, b1⟩
      have B1 := Lib.hid b1
      clear b1
      go_wp2_with fail
      go_ret; exact ⟨rfl, B1.out⟩
  have hd1 : decide ((l0.length : Int) > 1500) = false := decide_eq_false (by omega)
  have hd2 : decide ((l1.length : Int) > 1500) = false := decide_eq_false (by omega)
  have HS := Lib.hid hS
  clear hS
  go_enter Tryz.func4, Tryz.ntmps4
  go_wp2_with fail
  clear hd1 hd2
  go_loopg [30] l0.length (BRl l0 w)
  case atStart => exact ⟨0, by omega, by omega, rfl, rfl, fun j h => by omega⟩
  case round =>
    obtain ⟨k, hk, hgk, rfl, rfl, h37⟩ := hrel
    have HGK := Lib.hid hgk
    have H37 := Lib.hid h37
    clear hgk h37
    by_cases hlt : k < l0.length
    · have hlt' : (k : Int) < (l0.length : Int) := by omega
      have HLT := Lib.hid hlt
      obtain ⟨c, hcc⟩ : ∃ c, c = l0[k] := ⟨_, rfl⟩
      have hb : ∀ h, (⟨l0.toArray⟩ : ByteArray)[k]'h = c := fun h => hcc.symm
      have HC := Lib.hid hcc
      clear hcc
      by_cases h37 : c = 37
      · have e1 : ((c.toNat : Int) == 37) = true := by rw [h37]; rfl
        clear h37
        go_wp2_with fail
        refine (AW.out wr V0.out).mono ?_; rintro e w5 ⟨rfl, b5⟩
        have HB5 := Lib.hid b5
        clear b5
        go_wp2_with fail
        go_ret; exact ⟨rfl, HB5.out⟩
      · have e1 : ((c.toNat : Int) == 37) = false := by
          rw [beq_eq_false_iff_ne]; intro e; exact h37 (UInt8.toNat_inj.1 (by have h9 : (37 : UInt8).toNat = 37 := rfl; omega))
        have HC37 := Lib.hid h37
        clear h37
        go_wp2_with fail
        go_roundg (l0.length - (k + 1))
        case measure => have := HGK.out; have := HLT.out; omega
        case rel =>
          refine ⟨k + 1, HLT.out, rfl, congrArg (Value.int .i64) (by omega), rfl, fun j hj h2 => ?_⟩
          by_cases hjk : j < k
          · exact H37.out j hjk h2
          · have : j = k := by omega
            subst this
            exact fun h => HC37.out (HC.out.trans h)
    · have hk' : k = l0.length := by omega
      have hall : ∀ x ∈ l0, x ≠ 37 := by
        intro x hx
        obtain ⟨j, hj, rfl⟩ := List.getElem_of_mem hx
        exact H37.out j (by omega) hj
      have HALL := Lib.hid hall
      have hcat : (⟨l0.toArray⟩ : ByteArray) ++ ⟨#[32]⟩ ++ ⟨l1.toArray⟩ = ⟨(l0 ++ 32 :: l1).toArray⟩ := by
        rw [show (⟨#[32]⟩ : ByteArray) = ⟨[32].toArray⟩ from rfl, cat_l, cat_l]; simp
      have HCAT := Lib.hid hcat
      subst hk'
      obtain ⟨x, px, ex, hX⟩ : ∃ x px ex, (x, px, ex) = readA opa.newL l0 := ⟨_, _, _, rfl⟩
      obtain ⟨y, py, ey, hY⟩ : ∃ y py ey, (y, py, ey) = readA opa.newL l1 := ⟨_, _, _, rfl⟩
      obtain ⟨z, pz, ez, hZ⟩ : ∃ z pz ez, (z, pz, ez) = readA opa.newL (l0 ++ 32 :: l1) := ⟨_, _, _, rfl⟩
      have HX := Lib.hid hX
      have HY := Lib.hid hY
      have HZ := Lib.hid hZ
      have h12 : decide (l0.length < l0.length) = false := decide_eq_false (by omega)
      clear hlt hall hcat hX hY hZ
      go_wp2_with fail
      refine (opk.new_any _).mono ?_; rintro e w1 ⟨tab, rfl, hpl, FT, hT, hb1, hFT⟩
      have HRA := Lib.hid (rall_out l0 s0 (VR.up V0.out hb1) hT opa.newL_inv HX.out)
      have HB1 := Lib.hid hb1
      clear hT hb1 hFT hpl
      go_wp2_with fail
      refine HRA.out.mono ?_; rintro e w2 ⟨xa, xc, rfl, hb2, BX, hX⟩
      have HB2 := Lib.hid (And.intro (HB1.out.trans (hb2.mono HB1.out.size)) hX)
      clear hb2 hX HRA
      go_wp2_with fail
      refine (opk.new_any _).mono ?_; rintro e w3 ⟨tab3, rfl, hpl, FT3, hT, hb3, hFT⟩
      have HB3 := Lib.hid (And.intro (HB2.out.1.trans (hb3.mono HB2.out.1.size)) (HB2.out.2.below hb3))
      have HRA := Lib.hid (rall_out l1 s1 (VR.up V0.out HB3.out.1) hT opa.newL_inv HY.out)
      clear hT hb3 hFT hpl
      go_wp2_with fail
      refine HRA.out.mono ?_; rintro e w4 ⟨ya, yc, rfl, hb4, BY, hY⟩
      have HB4 := Lib.hid (And.intro (HB3.out.1.trans (hb4.mono HB3.out.1.size)) (And.intro (HB3.out.2.below hb4) hY))
      clear hb4 hY HRA
      go_wp2_with fail
      refine (opk.new_any _).mono ?_; rintro e w5 ⟨tab5, rfl, hpl, FT5, hT, hb5, hFT⟩
      have HB5 := Lib.hid (And.intro (HB4.out.1.trans (hb5.mono HB4.out.1.size)) (And.intro (HB4.out.2.1.below hb5) (HB4.out.2.2.below hb5)))
      have hra := rall_out (l0 ++ 32 :: l1) (by have := HS.out; simp; omega) (VR.up V0.out HB5.out.1) hT opa.newL_inv HZ.out
      rw [← HCAT.out] at hra
      have HRA := Lib.hid hra
      clear hT hb5 hFT hpl hra
      go_wp2_with fail
      refine HRA.out.mono ?_; rintro e w6 ⟨za, zc, rfl, hb6, BZ, hZ⟩
      have HB6 := Lib.hid (And.intro (HB5.out.1.trans (hb6.mono HB5.out.1.size)) (And.intro (HB5.out.2.1.below hb6) (And.intro (HB5.out.2.2.below hb6) hZ)))
      clear hb6 hZ HRA
      by_cases hc : ex = 0 ∧ ey = 0
      rotate_left
      · have hd : ((ex != 0) = true) ∨ ((ex != 0) = false ∧ (ey != 0) = true) := by
          by_cases h : ex = 0
          · exact Or.inr ⟨by rw [h]; rfl, by rw [bne_iff_ne]; intro e; exact hc ⟨h, e⟩⟩
          · exact Or.inl (by rw [bne_iff_ne]; exact h)
        clear hc
        rcases hd with hd | ⟨hd, hd2⟩
        all_goals
          go_wp2_with fail
          refine (AW.out w6 (VR.up V0.out HB6.out.1)).mono ?_; rintro e w7 ⟨rfl, b7⟩
          have HB7 := Lib.hid (HB6.out.1.trans (b7.mono HB6.out.1.size))
          clear b7
          go_wp2_with fail
          go_ret; exact ⟨rfl, HB7.out⟩
      · obtain ⟨rfl, rfl⟩ := hc
        obtain ⟨hx1, hx2⟩ := HS.out
        have htwo := readA_two HALL.out hx1 hx2 HX.out.symm HY.out.symm
        rw [← HZ.out] at htwo
        injection htwo with hz1 hz2
        injection hz2 with hz2 hz3
        subst hz2 hz3
        have hzl : z.length = x.length + y.length := by rw [hz1]; simp
        have HZL := Lib.hid (And.intro hz1 hzl)
        have hm := ac_most HB6.out.2.2.2
        have hws : wrap64 ((x.length : Int) + (y.length : Int)) = (z.length : Int) := by unfold maxLen at hm; unfold wrap64; omega
        have HM := Lib.hid (show z.length ≤ 9223372036854775807 by unfold maxLen at hm; omega)
        clear hx1 hx2 hz1 hzl hm
        go_wp2_with fail
        clear hws
        go_loopg [84] z.length (CRl z.length w6)
        case atStart => exact ⟨0, by omega, by omega, rfl, Below.refl _ _⟩
        case round =>
          obtain ⟨q, hq, hgq, rfl, hbq⟩ := hrel
          have HGQ := Lib.hid (And.intro hgq hbq)
          clear hgq hbq
          by_cases hlt : q < z.length
          rotate_left
          · have hd1 : decide (q < z.length) = false := decide_eq_false hlt
            have hd2 : z.length ≤ q := Nat.le_of_not_lt hlt
            have HB7 := Lib.hid (HB6.out.1.trans (HGQ.out.2.mono HB6.out.1.size))
            clear hlt
            go_wp2_with fail
            refine (AW.out _ (VR.up V0.out HB7.out)).mono ?_; rintro e w8 ⟨rfl, b8⟩
            have HB8 := Lib.hid (HB7.out.trans (b8.mono HB7.out.size))
            clear b8
            go_wp2_with fail
            go_ret; exact ⟨rfl, HB8.out⟩
          · have hd1 : decide (q < z.length) = true := decide_eq_true hlt
            have hB : Below w6.heap.size w6 wr := HGQ.out.2
            have aZ := AC.look (HB6.out.2.2.2.below hB) (by intro e; rw [e] at hlt; simp at hlt)
            obtain ⟨gz, rfl, aZ⟩ := aZ
            obtain ⟨cz, hcz⟩ : ∃ c, c = z[q] := ⟨_, rfl⟩
            obtain ⟨xz, hxz, hcv, hcell⟩ := aZ q hlt
            rw [← hcz] at hcv
            obtain ⟨v0, v1, v2, v3, v4, ta, tn, tc, na, nc, rfl, hl, hr, -⟩ := hcv
            have c0 := hcell 0 (by decide)
            have c1 := hcell 1 (by decide)
            have c2 := hcell 2 (by decide)
            have c3 := hcell 3 (by decide)
            have c4 := hcell 4 (by decide)
            have c5 := hcell 5 (by decide)
            have c6 := hcell 6 (by decide)
            have c7 := hcell 7 (by decide)
            simp only [List.getElem?_cons_zero, List.getElem?_cons_succ, Nat.add_zero] at c0 c1 c2 c3 c4 c5 c6 c7
            have ixz := fun w => cl_ix (g := gz) (c := zc) hlt w
            have HLZ := Lib.hid (And.intro (lie.Lies.off (Y := lie.No) (fun _ _ h => h.elim) hl) hr)
            have HLT := Lib.hid hlt
            clear hcell hxz hl hr aZ hB
            have hmay := readA_may (by have := HS.out; simp; omega) HZ.out.symm cz (hcz ▸ List.getElem_mem hlt)
            obtain ⟨t, ns, at9⟩ := cz
            dsimp only at c0 c1 c2 c3 c4 c5 c6 c7 HLZ hmay
            have HMAY := Lib.hid (And.intro hmay.1 (show at9 ≤ 4000 by have h9 := hmay.2; rw [List.length_append, List.length_cons] at h9; have := HS.out; omega))
            clear hmay
            go_upto_region 20 with fail
            refine nmw (K := fun W => Below wr.heap.size wr W ∧ W.heap[wr.heap.size]? = some (.cells #[.int .i64 v0, .string v1, .int .i64 v2, .int .u64 v3, .int .u64 v4, .slice ta tn tc, .slice na ns.length nc, .int .i64 (at9 : Int)] 44 (0, 0)) ∧ W.heap[wr.heap.size + 1]? = some (.cells #[.int .i64 0, .string ⟨#[]⟩, .int .i64 0, .int .u64 0, .int .u64 0, .slice none 0 0, .slice none 0 0, .int .i64 0] 44 (0, 0))) (two_alloc wr _ _) (fun W hW => ?_)
            obtain ⟨r1, hr1⟩ : ∃ r, r = wr.heap.size := ⟨_, rfl⟩
            rw [← hr1] at hW ⊢
            obtain ⟨r2, hr2⟩ : ∃ r, r = r1 + 1 := ⟨_, rfl⟩
            rw [← hr2] at hW ⊢
            have HW := Lib.hid (And.intro (show Below wr.heap.size wr W from hr1 ▸ hW.1) hW.2)
            have HR12 := Lib.hid (And.intro hr1 hr2)
            obtain ⟨⟨g0, g1, g2, g3, g4, g5, g6, g7⟩, f0, f1, f2, f3, f4, f5, f6, f7⟩ := eight hW.2.2
            have HCZ := Lib.hid hcz
            clear c0 c1 c2 c3 c4 c5 c6 c7 ixz hW hr1 hr2 hcz
            by_cases hqx : q < x.length
            · have hd3 : decide (q < x.length) = true := decide_eq_true hqx
              have hzx : x[q] = (t, ns, at9) := by rw [HCZ.out]; simp only [HZL.out.1]; rw [List.getElem_append_left hqx]
              have aX := AC.look (HB6.out.2.1.below HGQ.out.2) (by intro e; rw [e] at hqx; simp at hqx)
              obtain ⟨gx, rfl, aX⟩ := aX
              obtain ⟨xx, hxx, hcv, hcell⟩ := aX q hqx
              rw [hzx] at hcv
              obtain ⟨u0, u1, u2, u3, u4, sa, sn, sc, ma, mc, rfl, hl, hr, -⟩ := hcv
              have d0 := hcell 0 (by decide)
              have d1 := hcell 1 (by decide)
              have d2 := hcell 2 (by decide)
              have d3 := hcell 3 (by decide)
              have d4 := hcell 4 (by decide)
              have d5 := hcell 5 (by decide)
              have d6 := hcell 6 (by decide)
              have d7 := hcell 7 (by decide)
              simp only [List.getElem?_cons_zero, List.getElem?_cons_succ, Nat.add_zero] at d0 d1 d2 d3 d4 d5 d6 d7
              replace d0 := cell_up HW.out.1 d0
              replace d1 := cell_up HW.out.1 d1
              replace d2 := cell_up HW.out.1 d2
              replace d3 := cell_up HW.out.1 d3
              replace d4 := cell_up HW.out.1 d4
              replace d5 := cell_up HW.out.1 d5
              replace d6 := cell_up HW.out.1 d6
              replace d7 := cell_up HW.out.1 d7
              have ixx := fun w => cl_ix (g := gx) (c := xc) hqx w
              obtain ⟨U, hU, hNU⟩ := fin8 HW.out.2.2 (.int .i64 u0) (.string u1) (.int .i64 u2) (.int .u64 u3) (.int .u64 u4) (.slice sa sn sc) (.slice ma ns.length mc) (.int .i64 ((at9 : Nat) : Int))
              have HLX := Lib.hid (And.intro (lie.Lies.off (Y := lie.No) (fun _ _ h => h.elim) hl) (And.intro hr hNU))
              clear hcell hxx hl hr aX HCZ hlt hNU
              go_upto_region 24 with fail
              have hlt9 := l_lt (d := 0) HR12.out.1 HR12.out.2
              have hK1 : U.heap[r1]? = _ := (HLX.out.2.2.2.block r1 (Nw.lt HW.out.2.1) hlt9.2).trans HW.out.2.1
              obtain ⟨⟨a0, a1, a2, a3, a4, a5, a6, a7⟩, -⟩ := eight hK1
              obtain ⟨⟨b0, b1, b2, b3, b4, b5, b6, b7⟩, -⟩ := eight HLX.out.2.2.1
              have hbU : Below wr.heap.size wr U := HW.out.1.trans (HLX.out.2.2.2.to_below (fun i hi => by rw [hi]; exact hlt9.1) HW.out.1.size)
              have hg := (tm.may_iff t).1 HMAY.out.1
              have hkd : t.kind ≠ 0 := by
                have := tm.chk_kind (tm.sound_chk (tm.good_sound hg)); omega
              have hE := rsm.requal_k t t _ _ U (lie.Lies.below hbU HLZ.out.1) (lie.Lies.below hbU HLX.out.1) hkd hkd
              rw [tm.sameB_refl, hg] at hE
              have HE := Lib.hid hE
              have HBU := Lib.hid hbU
              clear hE hbU hkd hg hK1 hlt9 hU f0 f1 f2 f3 f4 f5 f6 f7 g0 g1 g2 g3 g4 g5 g6 g7 d0 d1 d2 d3 d4 d5 d6 d7 ixx
              go_wp2_with fail
              refine HE.out.mono ?_; rintro e w9 ⟨rfl, hb9⟩
              replace a6 := cell_up hb9 a6
              replace a7 := cell_up hb9 a7
              replace b6 := cell_up hb9 b6
              replace b7 := cell_up hb9 b7
              have hb9' := HBU.out.trans (hb9.mono HBU.out.size)
              have HNM := Lib.hid (rnames_any w9 (ow_keep HLZ.out.2 fun i e => hb9'.block i (HLZ.out.2.lt i e).2) (ow_keep HLX.out.2.1 fun i e => hb9'.block i (HLX.out.2.1.lt i e).2))
              have HB9 := Lib.hid hb9'
              clear hb9 hb9' a0 a1 a2 a3 a4 a5 b0 b1 b2 b3 b4 b5
              have hat1 := l_at1 HMAY.out.2
              go_wp2_with fail
              refine HNM.out.mono ?_; rintro e w10 ⟨rfl, hb10⟩
              have HB10 := Lib.hid (HB9.out.trans (hb10.mono HB9.out.size))
              clear hb10
              go_wp2_with fail
              go_roundg (z.length - (q + 1))
              case measure => exact l_ms HGQ.out.1 HLT.out
              case rel => exact ⟨q + 1, HLT.out, rfl, congrArg (Value.int .i64) (by first | exact (l_nn HM.out HLT.out).1 | exact (l_nn HM.out HLT.out).2), HGQ.out.2.trans (HB10.out.mono HGQ.out.2.size)⟩
            · have hqy : q - x.length < y.length := l_y HZL.out.2 hlt hqx
              obtain ⟨hsub, hsub2, hsub3⟩ := l_sub HM.out hlt hqx
              have HGE := Lib.hid (show x.length ≤ q from Nat.le_of_not_lt hqx)
              obtain ⟨q2, hq2⟩ : ∃ q2, q2 = q - x.length := ⟨_, rfl⟩
              rw [← hq2] at hqy hsub hsub3
              have hsub2 : wrap64 (q2 : Int) = (q2 : Int) := by rw [hq2]; exact hsub2
              have hoff := l_off HS.out.1
              have hzx : ∃ at8, y[q2] = (t, ns, at8) ∧ at9 = at8 + (l0.length + 1) := by
                have e : (t, ns, at9) = Go.Proofs.YtfgopgncgociiaaGreatDoor.rd.mv (l0.length + 1) y[q2] := by
                  rw [HCZ.out]; simp only [HZL.out.1]; rw [List.getElem_append_right HGE.out, List.getElem_map]; simp only [hq2]
                generalize y[q2] = c9 at e ⊢
                obtain ⟨t', n', a'⟩ := c9
                unfold Go.Proofs.YtfgopgncgociiaaGreatDoor.rd.mv at e
                injection e with e1 e2
                injection e2 with e2 e3
                exact ⟨a', by rw [e1, e2], e3⟩
              obtain ⟨at8, hzx, hat⟩ := hzx
              have HQ2 := Lib.hid (And.intro hq2 hat)
              obtain ⟨v, hv⟩ : ∃ v : Int, v = (q : Int) := ⟨_, rfl⟩
              rw [← hv] at hsub ⊢
              have hd3 : decide (v < (x.length : Int)) = false := l_ge hv HGE.out
              have HV := Lib.hid hv
              clear hq2 hat hsub3 hqx hv
              have aX := AC.look (HB6.out.2.2.1.below HGQ.out.2) (by intro e; rw [e] at hqy; simp at hqy)
              obtain ⟨gx, rfl, aX⟩ := aX
              obtain ⟨xx, hxx, hcv, hcell⟩ := aX q2 hqy
              rw [hzx] at hcv
              obtain ⟨u0, u1, u2, u3, u4, sa, sn, sc, ma, mc, rfl, hl, hr, -⟩ := hcv
              have d0 := hcell 0 (by decide)
              have d1 := hcell 1 (by decide)
              have d2 := hcell 2 (by decide)
              have d3 := hcell 3 (by decide)
              have d4 := hcell 4 (by decide)
              have d5 := hcell 5 (by decide)
              have d6 := hcell 6 (by decide)
              have d7 := hcell 7 (by decide)
              simp only [List.getElem?_cons_zero, List.getElem?_cons_succ, Nat.add_zero] at d0 d1 d2 d3 d4 d5 d6 d7
              replace d0 := cell_up HW.out.1 d0
              replace d1 := cell_up HW.out.1 d1
              replace d2 := cell_up HW.out.1 d2
              replace d3 := cell_up HW.out.1 d3
              replace d4 := cell_up HW.out.1 d4
              replace d5 := cell_up HW.out.1 d5
              replace d6 := cell_up HW.out.1 d6
              replace d7 := cell_up HW.out.1 d7
              have ixx := fun w => cl_ix (g := gx) (c := yc) hqy w
              obtain ⟨U, hU, hNU⟩ := fin8 HW.out.2.2 (.int .i64 u0) (.string u1) (.int .i64 u2) (.int .u64 u3) (.int .u64 u4) (.slice sa sn sc) (.slice ma ns.length mc) (.int .i64 ((at8 : Nat) : Int))
              have HLX := Lib.hid (And.intro (lie.Lies.off (Y := lie.No) (fun _ _ h => h.elim) hl) (And.intro hr hNU))
              clear hcell hxx hl hr aX HCZ hlt hNU
              clear hzx hqy hq s0 s1
              go_upto_region 24 with fail
              have hlt9 := l_lt (d := 0) HR12.out.1 HR12.out.2
              have hK1 : U.heap[r1]? = _ := (HLX.out.2.2.2.block r1 (Nw.lt HW.out.2.1) hlt9.2).trans HW.out.2.1
              obtain ⟨⟨a0, a1, a2, a3, a4, a5, a6, a7⟩, -⟩ := eight hK1
              obtain ⟨⟨b0, b1, b2, b3, b4, b5, b6, b7⟩, -⟩ := eight HLX.out.2.2.1
              have hbU : Below wr.heap.size wr U := HW.out.1.trans (HLX.out.2.2.2.to_below (fun i hi => by rw [hi]; exact hlt9.1) HW.out.1.size)
              have hg := (tm.may_iff t).1 HMAY.out.1
              have hkd : t.kind ≠ 0 := by
                have := tm.chk_kind (tm.sound_chk (tm.good_sound hg)); omega
              have hE := rsm.requal_k t t _ _ U (lie.Lies.below hbU HLZ.out.1) (lie.Lies.below hbU HLX.out.1) hkd hkd
              rw [tm.sameB_refl, hg] at hE
              have HE := Lib.hid hE
              have HBU := Lib.hid hbU
              clear hE hbU hkd hg hK1 hlt9 hU f0 f1 f2 f3 f4 f5 f6 f7 g0 g1 g2 g3 g4 g5 g6 g7 d0 d1 d2 d3 d4 d5 d6 d7 ixx
              go_wp2_with fail
              refine HE.out.mono ?_; rintro e w9 ⟨rfl, hb9⟩
              replace a6 := cell_up hb9 a6
              replace a7 := cell_up hb9 a7
              replace b6 := cell_up hb9 b6
              replace b7 := cell_up hb9 b7
              have hb9' := HBU.out.trans (hb9.mono HBU.out.size)
              have HNM := Lib.hid (rnames_any w9 (ow_keep HLZ.out.2 fun i e => hb9'.block i (HLZ.out.2.lt i e).2) (ow_keep HLX.out.2.1 fun i e => hb9'.block i (HLX.out.2.1.lt i e).2))
              have HB9 := Lib.hid hb9'
              clear hb9 hb9' a0 a1 a2 a3 a4 a5 b0 b1 b2 b3 b4 b5
              obtain ⟨hat1, hat2⟩ := l_at2 HQ2.out.2 HMAY.out.2
              go_wp2_with fail
              refine HNM.out.mono ?_; rintro e w10 ⟨rfl, hb10⟩
              have HB10 := Lib.hid (HB9.out.trans (hb10.mono HB9.out.size))
              clear hb10
              go_wp2_with fail
              go_roundg (z.length - (q + 1))
              case measure => exact l_ms HGQ.out.1 HLT.out
              case rel => exact ⟨q + 1, HLT.out, rfl, congrArg (Value.int .i64) (by first | exact l_nx HV.out HM.out HLT.out | (rw [HV.out]; exact (l_nn HM.out HLT.out).1)), HGQ.out.2.trans (HB10.out.mono HGQ.out.2.size)⟩
set_option maxRecDepth 100000 in
theorem lifted (os : Os) (started : os.Started) (H : Type) (enc : TypeId × Value → H) :
    ReturnsInHanded {} Tryz.checked os 4 .any (fun w args => (Rows.readClausesSpec.pre enc Tryz.prog Tryz.f4 Rows.readClausesRow.domain false w args ∧ laidMetH Tryz.prog laidL w) ∧ sizedMet enc Tryz.prog Tryz.f4 (OpenSpec.ofChange Rows.readClausesSpec) false w args)
      (Rows.readClausesSpec.post enc Tryz.prog Tryz.f4 false true false false) := by
  refine returnsInHanded_of_change_and (C := Tryz.checked) (X := fun w _ => laidMetH Tryz.prog laidL w) (fun _ _ _ hh h => h.of_heap hh) own started (by kernel_rfl) Tryz.func4
    (ChangeSpec.witness_shaped (enc := enc) (C := Tryz.checked) (os := os) (X := fun w _ => laidMetH Tryz.prog laidL w) false (World.doorLaid Tryz.prog 400 os) #[.string ⟨#[]⟩, .string ⟨#[]⟩] 8 rfl (World.shaped_of_RefB (by kernel_rfl) (by kernel_rfl)) (by kernel_rfl) (by kernel_rfl) (by kernel_rfl) (door_met os _)) ?_
  intro W base args ds gs before hval0 hW _ hsz0 hL _
  have hsz : (DataW.weightsEach Tryz.prog (Tryz.f4.params.toList ++ Rows.readClausesSpec.plain.varTypes Tryz.prog) (ds ++ gs)).all (· ≤ reachBytes) = true := hsz0
  clear hsz0
  have hval : ∀ (j : Nat) t v, Tryz.f4.params[j]? = some t → args[j]? = some v → Value.okWide Tryz.prog W .any base t v := hval0
  have hW' := hW
  obtain ⟨p, q, hA0, hV, rfl, hfz, hnd⟩ := hW
  have hA : DataW.TrodAll enc Tryz.prog W 0 (fun _ => true) true Tryz.f4.params.toList args.toList ds p := hA0
  rw [Tryz.params4] at hA hval hsz
  obtain ⟨v0, vs0, d0, ds0, p0, q0, hargs, rfl, rfl, h0, r0⟩ := trodAll_cons hA
  obtain ⟨v1, vs1, d1, ds1, p1, q1, rfl, rfl, rfl, h1, r1⟩ := trodAll_cons r0
  obtain ⟨rfl, rfl, rfl⟩ := trodAll_nil r1
  obtain rfl : args = #[v0, v1] := by cases args; simp_all
  obtain ⟨rfl, rfl⟩ := trodVars_none hV
  obtain ⟨t0, rfl, rfl, rfl, u0⟩ := open_string Tryz.underlying9 (hval 0 9 v0 rfl rfl) h0
  obtain ⟨t1, rfl, rfl, rfl, u1⟩ := open_string Tryz.underlying9 (hval 1 9 v1 rfl rfl) h1
  clear hA0 hval0
  simp only [List.append_nil] at hW'
  have z0 : t0.data.toList.length ≤ 140737488351232 := by
    have h1 := sized_string hsz (j := 0) (t := 9) rfl rfl
    have e3 : reachBytes = 140737488351232 := by decide
    omega
  obtain ⟨l0, rfl⟩ : ∃ l : List UInt8, t0 = ⟨l.toArray⟩ := ⟨t0.data.toList, by cases t0; simp⟩
  have s0 : l0.length ≤ 140737488351232 := by simpa using z0
  have z1 : t1.data.toList.length ≤ 140737488351232 := by
    have h1 := sized_string hsz (j := 1) (t := 9) rfl rfl
    have e3 : reachBytes = 140737488351232 := by decide
    omega
  obtain ⟨l1, rfl⟩ : ∃ l : List UInt8, t1 = ⟨l.toArray⟩ := ⟨t1.data.toList, by cases t1; simp⟩
  have s1 : l1.length ≤ 140737488351232 := by simpa using z1
  have HL : laidMet Tryz.prog laidL W := by rw [MakeChecks.laidMetH_plain _ _ _ (by kernel_rfl)] at hL; exact hL
  refine (walk l0 s0 l1 s1 W HL).mono fun e W' ⟨he, hg⟩ => ?_
  subst he
  refine ⟨_, rfl, _, _, _, [], [], [], hW', ?_, ?_, rfl, hg.frame _, fun h => by cases h⟩
  · exact (trodAll_cons_mk (shut_bool Tryz.underlying4 _) trodAll_mk0)
  · exact (trodAll_cons_mk (shut_string Tryz.underlying9 u0) (trodAll_cons_mk (shut_string Tryz.underlying9 u1) trodAll_mk0))
theorem holds : Rows.ReadClausesSaid :=
  OpenClaim.holds_of_wide 4 Tryz.f4 rfl rfl rfl rfl rfl rfl rfl ⟨rfl, rfl, rfl, rfl, rfl⟩ rfl rfl rfl rfl rfl (by kernel_rfl) Tryz.func4 (by kernel_rfl)
    (of_decide_eq_true (by kernel_rfl)) (by unfold Func.isWrapper; first | (rw [if_pos (by decide +kernel)]; kernel_rfl) | (rw [if_neg (by decide +kernel)]; exact ⟨rfl, rfl⟩))
    (fun os started H enc _ => lifted os started H enc)
/-- THE STATEMENT: the tied card. -/
theorem proved : Rows.ReadClausesCardSaid :=
  Claim7.holds_tied_plain_at .later [] [.data, .data, .data, .sentinel, .sentinel] true (true, "ce9ef31f276c67021f0b2f7cd1b5711bd01267a27b87858ce72aef04b7ae5617") true
    holds (fun _ h => by cases h) (by kernel_rfl) (fun _ h => by cases h) readClauses_row_tie rfl ⟨rfl, rfl⟩ (by kernel_rfl) rfl
    (fun f fn hf hfn => by
      obtain rfl : f = 4 := Option.some.inj ((show Tryz.prog.funcNamed "elenchus/elenchuslaw13.ReadClauses" = some 4 by kernel_rfl).symm.trans hf) |>.symm
      obtain rfl : fn = Tryz.f4 := (Option.some.inj (Tryz.func4.symm.trans hfn)).symm
      exact ⟨by kernel_rfl, fun j t ht => by
        rw [Tryz.params4] at ht
        have hm : t ∈ [9] := by simpa using Array.mem_of_getElem? ht
        have hall : ([9].all fun u => !(Tryz.prog.wantsStandIn u)) = true := by kernel_rfl
        exact (show Tryz.prog.wantsStandIn t = false by simpa using List.all_eq_true.1 hall t hm)⟩)
    (by kernel_rfl)
#print axioms proved
end Go.Proofs.YtfgopgncgociiaaGreatDoor.readClauses
