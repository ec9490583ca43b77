/- The law ReadApart holds, as its tied card says: for every input its Go function returns true and leaves its arguments as they were. The listed package-level variables start as the program's text lays them. -/
import Derived.Test.YtedbcmagjbgbjaaGreatDoorRows
import Derived.Test.YtedbcmagjbgbjaaGreatDoorCards
import Derived.Test.YtedbcmagjbgbjaaGreatDoorTie
import Derived.WalkKit
import Derived.ProofKit
import Derived.OpenShut
import Derived.LaidMore
import Derived.LaidLaws
import Derived.SizedLaws
import Derived.MakeChecks
import Derived.SevenTiedAt
import Derived.Stop.Joined
import Derived.Test.YtedbcmagjbgbjaaGreatDoorRaB
import Derived.Test.YtedbcmagjbgbjaaGreatDoorRRn
namespace Go.Proofs.YtedbcmagjbgbjaaGreatDoor.readApart
open Go.ChangeShapes Go.WideShapes Go.ChangeAt Go.RowKit
open Go.ChangeMaps (open_string shut_string)
set_option linter.unusedVariables false
theorem own : ownKnob Tryz.prog.godebug = none := by kernel_rfl
abbrev laidL : List (String × DataW Unit) := [("math/bits.deBruijn32tab", Rows.laid_math_bits_deBruijn32tab), ("math/bits.deBruijn64tab", Rows.laid_math_bits_deBruijn64tab), ("internal/strconv.uint64pow10", Rows.laid_internal_strconv_uint64pow10), ("strconv.ErrRange", Rows.laid_strconv_ErrRange), ("strconv.ErrSyntax", Rows.laid_strconv_ErrSyntax)]
theorem door_met (os : Os) (args : Array Value) : laidMetH Tryz.prog laidL ((World.doorLaid Tryz.prog 400 os).forCall (fun _ _ => 0) ⟨#[], args, []⟩).memory :=
  laidMetH_of_parts3 (fuel := 8) (laidMet_of_run' 8 (by kernel_rfl) (by kernel_rfl)) (by kernel_rfl) (by kernel_rfl)
open Go.Proofs.YtedbcmagjbgbjaaGreatDoor.num Go.Proofs.YtedbcmagjbgbjaaGreatDoor.tk Go.Proofs.YtedbcmagjbgbjaaGreatDoor.kp Go.Proofs.YtedbcmagjbgbjaaGreatDoor.rd
theorem u64_nonneg (a : Int) : 0 ≤ IntKind.u64.wrap a := by
  simp only [IntKind.wrap, IntKind.signed, IntKind.bits]
  simp
  omega
theorem wz {z n : Nat} (hz : z < 9) (hn : n = z + 1) : IntKind.i64.wrap (z : Int) = (z : Int) ∧ IntKind.i64.wrap ((z : Int) + 1) = (n : Int) ∧ wrap64 ((z : Int) + 1) = (n : Int) ∧ (z : Int) + 1 = (n : Int) ∧ wrap64 (n : Int) = (n : Int) := by
  refine ⟨?_, ?_, ?_, ?_, ?_⟩
  · rw [IntKind.wrap_i64]; omega
  · rw [IntKind.wrap_i64]; omega
  · unfold wrap64; omega
  · omega
  · unfold wrap64; omega
theorem rl {n : Nat} (h : n ≤ 9) : (rowL n).length ≤ 100 := by rw [rowL_len]; omega
theorem rl1 {n : Nat} {s : List UInt8} (h : (rowL n).length ≤ 100) (hs : s = rowL n ++ [41]) : s.length ≤ 101 := by rw [hs]; simp; omega
theorem rowk_any' (n : Nat) (hn : n ≤ 100) (w : World) : Calls Tryz.prog 23 #[.int .i64 (n : Int)] w fun e w' => e = .returned (.string ⟨(rowL n ++ [41]).toArray⟩) ∧ w = w' :=
  (rowk_any n hn w).mono fun e w' h => ⟨h.1, h.2.symm⟩
theorem rall_out {FT : Nat → Prop} {tl : List opa.D} {w : World} (S : List UInt8) (hS : S.length ≤ 140737488351232) (hv : VR w.heap.size w) {tab : Nat} (hT : opb.Tb w tab FT tl) (hi : opa.Inv tl) {l : List Cl3} {p : Nat} {er : Int} (hR : (l, p, er) = readA tl S) :
    Calls Tryz.prog 24 #[.string ⟨S.toArray⟩, .pointer (some ⟨tab, 0, none⟩)] w fun e w' => ∃ a c, e = .returned (.tuple #[.slice a l.length c, .int .i64 (p : Int), .int .i64 er]) ∧ Below w.heap.size w w' ∧ ∃ B, AC B l (.slice a l.length c) w' := by
  have h := rall_any S hS w hv hT hi
  rw [← hR] at h
  exact h.mono fun e w' h => by obtain ⟨a, c, h1, h2, B, -, h3⟩ := h; exact ⟨a, c, h1, h2, B, h3⟩
theorem cell_up {w W : World} (b : Below w.heap.size w W) {g o : Nat} {v : Value} (h : w.cell? ⟨g, o, none⟩ = some v) : W.cell? ⟨g, o, none⟩ = some v := by
  by_cases hg : g < w.heap.size
  · have e := b.block g hg
    simp only [World.cell?] at h ⊢
    rw [e]; exact h
  · have e : w.heap[g]? = none := by simp; omega
    simp [World.cell?, e] at h
theorem wn9 {n : Nat} (h : n ≤ 9) : wrap64 ((n : Int) + 1) = (n : Int) + 1 ∧ wrap64 (2 * (n : Int)) = 2 * (n : Int) ∧ wrap64 (2 * (n : Int) + 1) = 2 * (n : Int) + 1 := by
  refine ⟨?_, ?_, ?_⟩ <;> (unfold wrap64; omega)
theorem ix2a (x y : Int) : ∀ w9 : World, (Instr.index 42 (.agg #[.int .i64 x, .int .i64 y]) (.int .i64 0)).run Tryz.prog w9 = .ok (.int .i64 x) w9 := fun w9 => by kernel_rfl
theorem ix2b (x y : Int) : ∀ w9 : World, (Instr.index 42 (.agg #[.int .i64 x, .int .i64 y]) (.int .i64 1)).run Tryz.prog w9 = .ok (.int .i64 y) w9 := fun w9 => by kernel_rfl
def QRl (w2 : World) (g : Nat) (s : Value) (wr : World) : Prop := ∃ k : Nat, k ≤ 2 ∧ g = 2 - k ∧ s = .int .i64 (k : Int) ∧ Below w2.heap.size w2 wr
def PRl (w : World) (W : World) (g : Nat) (s : Value) (wr : World) : Prop := ∃ k : Nat, k ≤ 2 ∧ g = 2 - k ∧ s = .int .i64 k ∧ Below W.heap.size W wr ∧ Below w.heap.size w wr
set_option maxRecDepth 100000 in
set_option maxHeartbeats 8000000 in
theorem walk (a0 : Int) (w0 : (Lit.int .i64 a0).wf = true) (a1 : Int) (w1 : (Lit.int .i64 a1).wf = true) (w : World) (HL : laidMet Tryz.prog laidL w) :
    Calls Tryz.prog 6 #[.int .i64 a0, .int .i64 a1] w fun e w' => e = .returned (.bool true) ∧ Below w.heap.size w w' := by
  obtain ⟨pp, hv⟩ := range_of (HL.tail.tail.tail)
  have V0 := Lib.hid (VR.start hv)
  clear hv HL
  have AW := Lib.hid awake_any
  have u0 := u64_nonneg a0
  have u1 := u64_nonneg a1
  obtain ⟨z0, hz0⟩ : ∃ z : Nat, IntKind.u64.wrap a0 % 9 = (z : Int) := ⟨(IntKind.u64.wrap a0 % 9).toNat, by omega⟩
  obtain ⟨z1, hz1⟩ : ∃ z : Nat, IntKind.u64.wrap a1 % 9 = (z : Int) := ⟨(IntKind.u64.wrap a1 % 9).toNat, by omega⟩
  have hz09 : z0 < 9 := by omega
  have hz19 : z1 < 9 := by omega
  have e1 : (IntKind.u64.wrap a0).tmod 9 = (z0 : Int) := by rw [Int.tmod_eq_emod_of_nonneg u0]; exact hz0
  have e2 : (IntKind.u64.wrap a1).tmod 9 = (z1 : Int) := by rw [Int.tmod_eq_emod_of_nonneg u1]; exact hz1
  obtain ⟨ca, cb, q, hR, hca, hcb⟩ := ap_is hz09 hz19
  obtain ⟨n, hn⟩ : ∃ n, n = z0 + 1 := ⟨_, rfl⟩
  obtain ⟨m, hm⟩ : ∃ m, m = z1 + 1 := ⟨_, rfl⟩
  rw [← hn] at hR hca
  rw [← hm] at hR hcb
  have HC := Lib.hid (And.intro hca hcb)
  have HR := Lib.hid hR
  have HB := Lib.hid (show n ≤ 9 ∧ m ≤ 9 by omega)
  obtain ⟨w1e, w3e, w5e, w7e, w9e⟩ := wz hz09 hn
  obtain ⟨w2e, w4e, w6e, w8e, w10e⟩ := wz hz19 hm
  have l1e := rl HB.out.1
  have l2e := rl HB.out.2
  clear hz0 hz1 hca hcb hR hz09 hz19 u0 u1 hn hm
  go_enter Tryz.func6, Tryz.ntmps6
  go_upto_region 3 with fail
  clear e1 e2 w1e w2e w3e w4e w5e w6e w7e w8e
  obtain ⟨sN, hsN⟩ : ∃ s, s = rowL n ++ [41] := ⟨_, rfl⟩
  obtain ⟨sM, hsM⟩ : ∃ s, s = rowL m ++ [41] := ⟨_, rfl⟩
  have RN := Lib.hid (fun W => rowk_any' n (by have := HB.out; omega) W)
  have RM := Lib.hid (fun W => rowk_any' m (by have := HB.out; omega) W)
  rw [← hsN] at RN
  rw [← hsM] at RM
  have lN := rl1 l1e hsN
  have lM := rl1 l2e hsM
  have HSS := Lib.hid (And.intro hsN hsM)
  clear l1e l2e hsN hsM
  go_wp2_with fail
  refine (RN.out _).mono ?_; rintro e x0 ⟨rfl, rfl⟩
  go_wp2_with fail
  refine (RM.out _).mono ?_; rintro e x0 ⟨rfl, rfl⟩
  go_wp2_with fail
  refine (opk.new_any _).mono ?_; rintro e w1 ⟨tab, rfl, -, FT, hT, hb1, -⟩
  have hcat : (⟨sN.toArray⟩ : ByteArray) ++ ⟨#[46, 32]⟩ ++ ⟨sM.toArray⟩ ++ ⟨#[46]⟩ = ⟨(apT n m).toArray⟩ := by
    rw [HSS.out.1, HSS.out.2, show (⟨#[46, 32]⟩ : ByteArray) = ⟨[46, 32].toArray⟩ from rfl, show (⟨#[46]⟩ : ByteArray) = ⟨[46].toArray⟩ from rfl, cat_l, cat_l, cat_l]; rfl
  have hra := rall_out (apT n m) (by have h1 := rl HB.out.1; have h2 := rl HB.out.2; unfold apT; simp; omega) (VR.up V0.out hb1) hT opa.newL_inv HR.out.symm
  rw [← hcat] at hra
  have HRA := Lib.hid hra
  have HB1 := Lib.hid hb1
  clear hT hb1 hra hcat
  go_wp2_with fail
  refine Calls.mono HRA.out ?_
  rintro e w2 ⟨a, c, rfl, b2, B, hac⟩
  obtain ⟨g, rfl, hlook⟩ := hac.look (by simp)
  obtain ⟨x, hx8, hcl, hce⟩ := hlook 0 (by simp)
  obtain ⟨y, hy8, hdl, hde⟩ := hlook 1 (by simp)
  simp only [List.getElem_cons_zero, List.getElem_cons_succ] at hcl hdl
  obtain ⟨v0, v1, v2, v3, v4, xa, xc, gN, nc, gA, oA, rfl, hx1, hx2, hx3, hx4, hx5, -⟩ := ap_facts hcl HC.out.1
  obtain ⟨d0, d1, d2, d3, d4, ya, yc, gM, mc, gD, oD, rfl, hy1, hy2, hy3, hy4, hy5, -⟩ := ap_facts hdl HC.out.2
  have HCE := Lib.hid hce
  have HDE := Lib.hid hde
  have H2 := Lib.hid (And.intro (HB1.out.trans (b2.mono HB1.out.size)) (And.intro hx1 (And.intro hx2 (And.intro hx3 (And.intro hx5 (And.intro hy1 (And.intro hy2 (And.intro hy3 hy5))))))))
  simp only [List.length_cons, List.length_nil, Nat.zero_add, Nat.reduceAdd] at hx4 hy4 ⊢
  have HW := Lib.hid (And.intro (wn9 HB.out.1) (wn9 HB.out.2))
  clear b2 hac hlook hx8 hy8 hcl hdl hce hde hx1 hx2 hx3 hx5 hy1 hy2 hy3 hy5 HRA HB1 lN lM RN RM
  go_wp2_with fail
  clear HC
  have RV := Lib.hid (fun (T : tm.Tm) (tv : Value) (w9 : World) (hl : lie.Lies lie.No w9 T tv) => rvs.rVars_any T tv w9 hl)
  go_loopg [46] 2 (QRl w2)
  case atStart => exact ⟨0, by omega, rfl, rfl, kp.br w2⟩
  case round =>
    obtain ⟨k, hk, hg, rfl, hb⟩ := hrel
    by_cases h0 : k = 0
    · subst h0
      have e0 : wr.cell? ⟨g, 0, none⟩ = some (.int .i64 v0) := cell_up hb (by simpa using HCE.out 0 (by decide))
      have e1 : wr.cell? ⟨g, 1, none⟩ = some (.string v1) := cell_up hb (by simpa using HCE.out 1 (by decide))
      have e2 : wr.cell? ⟨g, 2, none⟩ = some (.int .i64 v2) := cell_up hb (by simpa using HCE.out 2 (by decide))
      have e3 : wr.cell? ⟨g, 3, none⟩ = some (.int .u64 v3) := cell_up hb (by simpa using HCE.out 3 (by decide))
      have e4 : wr.cell? ⟨g, 4, none⟩ = some (.int .u64 v4) := cell_up hb (by simpa using HCE.out 4 (by decide))
      have e5 : wr.cell? ⟨g, 5, none⟩ = some (.slice xa (2 * n + 1) xc) := cell_up hb (by simpa using HCE.out 5 (by decide))
      have e6 : wr.cell? ⟨g, 6, none⟩ = some (.slice (some ⟨gN, 0, none⟩) (n + 1) nc) := cell_up hb (by simpa using HCE.out 6 (by decide))
      have eX := cell_up hb H2.out.2.1
      have eA := cell_up hb H2.out.2.2.2.1
      have hL := lie.Lies.below hb H2.out.2.2.1
      have ixc : ∀ w9 : World, (Instr.indexAt 50 (.slice (some ⟨g, 0, none⟩) 2 c) (.int .i64 0)).run Tryz.prog w9 = .ok (.pointer (some ⟨g, 0, none⟩)) w9 := fun w9 => by simpa using cl_ix (g := g) (n := 2) (c := c) (k := 0) (by decide) w9
      have ixn : ∀ w9 : World, (Instr.indexAt 28 (.slice (some ⟨gN, 0, none⟩) (n + 1) nc) (.int .i64 0)).run Tryz.prog w9 = .ok (.pointer (some ⟨gN, 0, none⟩)) w9 := fun w9 => by simpa using str_ix (g := gN) (n := n + 1) (c := nc) (k := 0) (by omega) w9
      have ixa := hx4
      have ixr := ix2a (n : Int) (m : Int)
      obtain ⟨wa, wb, wc⟩ := HW.out.1
      have HB2 := Lib.hid (And.intro hb hL)
      have HG2 := Lib.hid hg
      clear hb hL hg
      go_wp2_with fail
      refine (RV.out _ _ wr HB2.out.2).mono ?_
      rintro e w3 ⟨vv, rfl, ow, b3⟩
      obtain ⟨av, cv, rfl⟩ := kp.shape ow
      rw [H2.out.2.2.2.2.1]
      have f0 := cell_up b3 e0
      have f1 := cell_up b3 e1
      have f2 := cell_up b3 e2
      have f3 := cell_up b3 e3
      have f4 := cell_up b3 e4
      have f5 := cell_up b3 e5
      have f6 := cell_up b3 e6
      have fX := cell_up b3 eX
      have fA := cell_up b3 eA
      have HB3 := Lib.hid (HB2.out.1.trans (b3.mono HB2.out.1.size))
      clear e0 e1 e2 e3 e4 e5 e6 eX eA b3 ow
      go_wp2_with fail
      go_roundg 1
      case measure => have := HG2.out; omega
      case rel => exact ⟨1, by omega, rfl, rfl, HB3.out⟩
    by_cases h1 : k = 1
    · subst h1
      have e0 : wr.cell? ⟨g, 8, none⟩ = some (.int .i64 d0) := cell_up hb (by simpa using HDE.out 0 (by decide))
      have e1 : wr.cell? ⟨g, 9, none⟩ = some (.string d1) := cell_up hb (by simpa using HDE.out 1 (by decide))
      have e2 : wr.cell? ⟨g, 10, none⟩ = some (.int .i64 d2) := cell_up hb (by simpa using HDE.out 2 (by decide))
      have e3 : wr.cell? ⟨g, 11, none⟩ = some (.int .u64 d3) := cell_up hb (by simpa using HDE.out 3 (by decide))
      have e4 : wr.cell? ⟨g, 12, none⟩ = some (.int .u64 d4) := cell_up hb (by simpa using HDE.out 4 (by decide))
      have e5 : wr.cell? ⟨g, 13, none⟩ = some (.slice ya (2 * m + 1) yc) := cell_up hb (by simpa using HDE.out 5 (by decide))
      have e6 : wr.cell? ⟨g, 14, none⟩ = some (.slice (some ⟨gM, 0, none⟩) (m + 1) mc) := cell_up hb (by simpa using HDE.out 6 (by decide))
      have eX := cell_up hb H2.out.2.2.2.2.2.1
      have eA := cell_up hb H2.out.2.2.2.2.2.2.2.1
      have hL := lie.Lies.below hb H2.out.2.2.2.2.2.2.1
      have ixc : ∀ w9 : World, (Instr.indexAt 50 (.slice (some ⟨g, 0, none⟩) 2 c) (.int .i64 1)).run Tryz.prog w9 = .ok (.pointer (some ⟨g, 8, none⟩)) w9 := fun w9 => by simpa using cl_ix (g := g) (n := 2) (c := c) (k := 1) (by decide) w9
      have ixn : ∀ w9 : World, (Instr.indexAt 28 (.slice (some ⟨gM, 0, none⟩) (m + 1) mc) (.int .i64 0)).run Tryz.prog w9 = .ok (.pointer (some ⟨gM, 0, none⟩)) w9 := fun w9 => by simpa using str_ix (g := gM) (n := m + 1) (c := mc) (k := 0) (by omega) w9
      have ixa := hy4
      have ixr := ix2b (n : Int) (m : Int)
      obtain ⟨wa, wb, wc⟩ := HW.out.2
      have HB2 := Lib.hid (And.intro hb hL)
      have HG2 := Lib.hid hg
      clear hb hL hg
      go_wp2_with fail
      refine (RV.out _ _ wr HB2.out.2).mono ?_
      rintro e w3 ⟨vv, rfl, ow, b3⟩
      obtain ⟨av, cv, rfl⟩ := kp.shape ow
      rw [H2.out.2.2.2.2.2.2.2.2]
      have f0 := cell_up b3 e0
      have f1 := cell_up b3 e1
      have f2 := cell_up b3 e2
      have f3 := cell_up b3 e3
      have f4 := cell_up b3 e4
      have f5 := cell_up b3 e5
      have f6 := cell_up b3 e6
      have fX := cell_up b3 eX
      have fA := cell_up b3 eA
      have HB3 := Lib.hid (HB2.out.1.trans (b3.mono HB2.out.1.size))
      clear e0 e1 e2 e3 e4 e5 e6 eX eA b3 ow
      go_wp2_with fail
      go_roundg 0
      case measure => have := HG2.out; omega
      case rel => exact ⟨2, by omega, rfl, rfl, HB3.out⟩
    · have h2 : k = 2 := by omega
      subst h2
      have HB2 := Lib.hid (H2.out.1.trans (hb.mono H2.out.1.size))
      clear hb hk hg h0 h1
      go_wp2_with fail
      refine (AW.out wr (VR.up V0.out HB2.out)).mono ?_; rintro e w9 ⟨rfl, b9⟩
      have HF := Lib.hid (HB2.out.trans (b9.mono HB2.out.size))
      clear b9 HB2
      go_wp2_with fail
      go_ret; exact ⟨rfl, HF.out⟩
set_option maxRecDepth 100000 in
theorem lifted (os : Os) (started : os.Started) (H : Type) (enc : TypeId × Value → H) :
    ReturnsInHanded {} Tryz.checked os 6 .any (fun w args => (Rows.readApartSpec.pre enc Tryz.prog Tryz.f6 Rows.readApartRow.domain false w args ∧ laidMetH Tryz.prog laidL w) ∧ sizedMet enc Tryz.prog Tryz.f6 (OpenSpec.ofChange Rows.readApartSpec) false w args)
      (Rows.readApartSpec.post enc Tryz.prog Tryz.f6 false true false false) := by
  refine returnsInHanded_of_change_and (C := Tryz.checked) (X := fun w _ => laidMetH Tryz.prog laidL w) (fun _ _ _ hh h => h.of_heap hh) own started (by kernel_rfl) Tryz.func6
    (ChangeSpec.witness_shaped (enc := enc) (C := Tryz.checked) (os := os) (X := fun w _ => laidMetH Tryz.prog laidL w) false (World.doorLaid Tryz.prog 400 os) #[.int .i64 0, .int .i64 0] 8 rfl (World.shaped_of_RefB (by kernel_rfl) (by kernel_rfl)) (by kernel_rfl) (by kernel_rfl) (by kernel_rfl) (door_met os _)) ?_
  intro W base args ds gs before hval0 hW _ hsz0 hL _
  have hsz : (DataW.weightsEach Tryz.prog (Tryz.f6.params.toList ++ Rows.readApartSpec.plain.varTypes Tryz.prog) (ds ++ gs)).all (· ≤ reachBytes) = true := hsz0
  clear hsz0
  have hval : ∀ (j : Nat) t v, Tryz.f6.params[j]? = some t → args[j]? = some v → Value.okWide Tryz.prog W .any base t v := hval0
  have hW' := hW
  obtain ⟨p, q, hA0, hV, rfl, hfz, hnd⟩ := hW
  have hA : DataW.TrodAll enc Tryz.prog W 0 (fun _ => true) true Tryz.f6.params.toList args.toList ds p := hA0
  rw [Tryz.params6] at hA hval hsz
  obtain ⟨v0, vs0, d0, ds0, p0, q0, hargs, rfl, rfl, h0, r0⟩ := trodAll_cons hA
  obtain ⟨v1, vs1, d1, ds1, p1, q1, rfl, rfl, rfl, h1, r1⟩ := trodAll_cons r0
  obtain ⟨rfl, rfl, rfl⟩ := trodAll_nil r1
  obtain rfl : args = #[v0, v1] := by cases args; simp_all
  obtain ⟨rfl, rfl⟩ := trodVars_none hV
  obtain ⟨a0, rfl, rfl, rfl, w0⟩ := open_int Tryz.underlying3 (hval 0 3 v0 rfl rfl) h0
  obtain ⟨a1, rfl, rfl, rfl, w1⟩ := open_int Tryz.underlying3 (hval 1 3 v1 rfl rfl) h1
  clear hA0 hval0
  simp only [List.append_nil] at hW'

  have HL : laidMet Tryz.prog laidL W := by rw [MakeChecks.laidMetH_plain _ _ _ (by kernel_rfl)] at hL; exact hL
  refine (walk a0 w0 a1 w1 W HL).mono fun e W' ⟨he, hg⟩ => ?_
  subst he
  refine ⟨_, rfl, _, _, _, [], [], [], hW', ?_, ?_, rfl, hg.frame _, fun h => by cases h⟩
  · exact (trodAll_cons_mk (shut_bool Tryz.underlying4 _) trodAll_mk0)
  · exact (trodAll_cons_mk (shut_int Tryz.underlying3 w0) (trodAll_cons_mk (shut_int Tryz.underlying3 w1) trodAll_mk0))
theorem holds : Rows.ReadApartSaid :=
  OpenClaim.holds_of_wide 6 Tryz.f6 rfl rfl rfl rfl rfl rfl rfl ⟨rfl, rfl, rfl, rfl, rfl⟩ rfl rfl rfl rfl rfl (by kernel_rfl) Tryz.func6 (by kernel_rfl)
    (of_decide_eq_true (by kernel_rfl)) (by unfold Func.isWrapper; first | (rw [if_pos (by decide +kernel)]; kernel_rfl) | (rw [if_neg (by decide +kernel)]; exact ⟨rfl, rfl⟩))
    (fun os started H enc _ => lifted os started H enc)
/-- THE STATEMENT: the tied card. -/
theorem proved : Rows.ReadApartCardSaid :=
  Claim7.holds_tied_plain_at .later [] [.data, .data, .data, .sentinel, .sentinel] true (true, "db4c560b7b05b555484bdc7e4ea4373fa0315a09f8e93b3cbef9aa63f2928fd1") true
    holds (fun _ h => by cases h) (by kernel_rfl) (fun _ h => by cases h) readApart_row_tie rfl ⟨rfl, rfl⟩ (by kernel_rfl) rfl
    (fun f fn hf hfn => by
      obtain rfl : f = 6 := Option.some.inj ((show Tryz.prog.funcNamed "elenchus/elenchuslaw13.ReadApart" = some 6 by kernel_rfl).symm.trans hf) |>.symm
      obtain rfl : fn = Tryz.f6 := (Option.some.inj (Tryz.func6.symm.trans hfn)).symm
      exact ⟨by kernel_rfl, fun j t ht => by
        rw [Tryz.params6] at ht
        have hm : t ∈ [3] := by simpa using Array.mem_of_getElem? ht
        have hall : ([3].all fun u => !(Tryz.prog.wantsStandIn u)) = true := by kernel_rfl
        exact (show Tryz.prog.wantsStandIn t = false by simpa using List.all_eq_true.1 hall t hm)⟩)
    (by kernel_rfl)
#print axioms proved
end Go.Proofs.YtedbcmagjbgbjaaGreatDoor.readApart
