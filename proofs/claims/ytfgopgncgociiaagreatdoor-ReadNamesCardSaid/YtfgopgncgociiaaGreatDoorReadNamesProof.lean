/- The law ReadNames holds, as its tied card says: for every input its Go function returns true and leaves its arguments as they were. The listed package-level variables start as the program's text lays them. -/
import Derived.Test.YtfgopgncgociiaaGreatDoorRows
import Derived.Test.YtfgopgncgociiaaGreatDoorCards
import Derived.Test.YtfgopgncgociiaaGreatDoorTie
import Derived.WalkKit
import Derived.ProofKit
import Derived.OpenShut
import Derived.LaidMore
import Derived.LaidLaws
import Derived.SizedLaws
import Derived.MakeChecks
import Derived.SevenTiedAt
import Derived.Stop.Joined
import Derived.Test.YtfgopgncgociiaaGreatDoorRdY
import Derived.Test.YtfgopgncgociiaaGreatDoorRdZ
import Derived.Test.YtfgopgncgociiaaGreatDoorRRn
namespace Go.Proofs.YtfgopgncgociiaaGreatDoor.readNames
open Go.ChangeShapes Go.WideShapes Go.ChangeAt Go.RowKit
open Go.ChangeMaps (open_string shut_string)
set_option linter.unusedVariables false
theorem own : ownKnob Tryz.prog.godebug = none := by kernel_rfl
abbrev laidL : List (String × DataW Unit) := [("math/bits.deBruijn32tab", Rows.laid_math_bits_deBruijn32tab), ("math/bits.deBruijn64tab", Rows.laid_math_bits_deBruijn64tab), ("internal/strconv.uint64pow10", Rows.laid_internal_strconv_uint64pow10), ("strconv.ErrRange", Rows.laid_strconv_ErrRange), ("strconv.ErrSyntax", Rows.laid_strconv_ErrSyntax)]
theorem door_met (os : Os) (args : Array Value) : laidMetH Tryz.prog laidL ((World.doorLaid Tryz.prog 400 os).forCall (fun _ _ => 0) ⟨#[], args, []⟩).memory :=
  laidMetH_of_parts3 (fuel := 8) (laidMet_of_run' 8 (by kernel_rfl) (by kernel_rfl)) (by kernel_rfl) (by kernel_rfl)
open Go.Proofs.YtfgopgncgociiaaGreatDoor.num Go.Proofs.YtfgopgncgociiaaGreatDoor.tk Go.Proofs.YtfgopgncgociiaaGreatDoor.kp Go.Proofs.YtfgopgncgociiaaGreatDoor.rd
theorem Rg_len (n : Nat) : (Rg n).length = n := by unfold Rg; simp
theorem Rg_at {n i : Nat} (h : i < (Rg n).length) : (Rg n)[i] = (i : Int) := by simp [Rg]
theorem readT_ok {tl : List opa.D} {S : List UInt8} {t : tm.Tm} {ns : Names} {a : Nat} {r : List Tk} (h : readT tl S = .ok t ns a r) : tm.good t = true ∧ tm.vars t = Rg ns.length ∧ Nd ns := by
  unfold readT at h
  split at h
  · cases h
  · unfold termOf at h
    split at h
    · cases h
    · rename_i t' n' a' r' hc
      split at h
      · cases h
        obtain ⟨h1, h2, h3⟩ := clause_names hc
        have hg := (tm.may_iff t).1 h1
        exact ⟨hg, h2 h1 hg, h3⟩
      · cases h
def NOut (W : World) (n : Nat) (g : Nat) (s : Value) (wr : World) : Prop := ∃ k : Nat, k ≤ n ∧ g = n - k ∧ s = .int .i64 k ∧ wr = W
set_option maxRecDepth 100000 in
set_option maxHeartbeats 8000000 in
theorem walk (l0 : List UInt8) (s0 : l0.length ≤ 140737488351232) (w : World) (HL : laidMet Tryz.prog laidL w) :
    Calls Tryz.prog 5 #[.string ⟨l0.toArray⟩] w fun e w' => e = .returned (.bool true) ∧ Below w.heap.size w w' := by
  obtain ⟨pp, hv⟩ := range_of (HL.tail.tail.tail)
  have V0 := Lib.hid (VR.start hv)
  clear hv HL
  have haw := awake_any w V0.out
  have AW := Lib.hid awake_any
  by_cases hS : l0.length ≤ 3000
  rotate_left
  · have hd : decide ((l0.length : Int) > 3000) = true := decide_eq_true (by omega)
    have HAW := Lib.hid haw
    clear haw hS
    go_enter Tryz.func5, Tryz.ntmps5
    go_wp2_with fail
    refine HAW.out.mono ?_; rintro e w1 ⟨rfl, b1⟩
    have B1 := Lib.hid b1
    clear b1
    go_wp2_with fail
    go_ret; exact ⟨rfl, B1.out⟩
  have hd : decide ((l0.length : Int) > 3000) = false := decide_eq_false (by omega)
  have HS := Lib.hid hS
  clear haw hS
  go_enter Tryz.func5, Tryz.ntmps5
  go_wp2_with fail
  refine (opk.new_any w).mono ?_; rintro e w1 ⟨tab, rfl, hpl, FT, hT, hb1, hFT⟩
  have H1 := Lib.hid (And.intro hT hb1)
  have HTM := Lib.hid (term_any l0 s0 w1 (VR.up V0.out hb1) hT opa.newL_inv)
  obtain ⟨R, hR⟩ : ∃ R, R = readT opa.newL l0 := ⟨_, rfl⟩
  rw [← hR] at HTM
  have HRR := Lib.hid hR
  clear hT hb1 hFT hpl hR
  go_wp2_with fail
  refine HTM.out.mono ?_
  cases R with
  | er n a =>
    rintro e w2 ⟨rfl, hn0, hb2⟩
    have e1 : (n != 0) = true := by rw [bne_iff_ne]; exact hn0
    have hal := readT_place (S := l0) (by have := HS.out; omega) HRR.out.symm
    have hB2 := H1.out.2.trans (hb2.mono H1.out.2.size)
    have H2 := Lib.hid (And.intro hB2 hn0)
    unfold Z0 tmV
    obtain ⟨⟨a0, a1, a2, a3, a4, a5⟩, b0, b1, b2, b3, b4, b5⟩ := six (alloc_at w2 TZ)
    have hd1 : decide ((a : Int) ≥ 0) = true := decide_eq_true (by omega)
    have hd2 : decide ((a : Int) ≤ (l0.length : Int)) = true := decide_eq_true (by omega)
    have hd3 : decide (a ≤ l0.length) = true := decide_eq_true hal
    clear hn0 hb2 hB2 hal
    go_upto_region 4 with fail
    refine nmw (K := fun W => Below w2.heap.size w2 W ∧ W.heap[w2.heap.size]? = some (TC (.int .i64 0) (.string ⟨#[]⟩) (.int .i64 0) (.int .u64 0) (.int .u64 0) (.slice none 0 0))) ⟨kp.ba w2 _, alloc_at w2 _⟩ (fun W hW => ?_)
    obtain ⟨r1, hr1⟩ : ∃ r1, r1 = w2.heap.size := ⟨_, rfl⟩
    rw [← hr1] at hW ⊢
    obtain ⟨⟨c0, c1, c2, c3, c4, c5⟩, -⟩ := six hW.2
    have HB := Lib.hid (H2.out.1.trans ((hr1 ▸ hW.1 : Below w2.heap.size w2 W).mono H2.out.1.size))
    clear a0 a1 a2 a3 a4 a5 b0 b1 b2 b3 b4 b5 hW hr1
    go_wp2_with fail
    refine (AW.out W (V0.out.up HB.out)).mono ?_; rintro e w5 ⟨rfl, b5⟩
    have HB5 := Lib.hid (HB.out.trans (b5.mono HB.out.size))
    clear b5
    go_wp2_with fail
    go_ret; exact ⟨rfl, HB5.out⟩
  | ok t ns a9 r9 =>
    rintro e w2 ⟨v0, v1, v2, v3, v4, xa, xl, xc, na, nc, rfl, hb2, hL, hrow⟩
    obtain ⟨hg, hvr, hnd⟩ := readT_ok HRR.out.symm
    have hB2 := H1.out.2.trans (hb2.mono H1.out.2.size)
    have H2 := Lib.hid (And.intro hB2 (And.intro hL (And.intro hrow (And.intro hvr hnd))))
    obtain ⟨⟨a0, a1, a2, a3, a4, a5⟩, b0, b1, b2, b3, b4, b5⟩ := six (alloc_at w2 TZ)
    clear hb2 hB2 hL hrow hvr hnd hg
    go_upto_region 4 with fail
    refine nmw (K := fun W => Below w2.heap.size w2 W ∧ W.heap[w2.heap.size]? = some (TC (.int .i64 v0) (.string v1) (.int .i64 v2) (.int .u64 v3) (.int .u64 v4) (.slice xa xl xc))) ⟨kp.ba w2 _, alloc_at w2 _⟩ (fun W hW => ?_)
    have HBW := Lib.hid hW.1
    obtain ⟨r1, hr1⟩ : ∃ r1, r1 = w2.heap.size := ⟨_, rfl⟩
    rw [← hr1] at hW ⊢
    obtain ⟨⟨c0, c1, c2, c3, c4, c5⟩, -⟩ := six hW.2
    have HVS := Lib.hid (rvs.rVars_any t (.agg #[.int .i64 v0, .string v1, .int .i64 v2, .int .u64 v3, .int .u64 v4, .slice xa xl xc]) W (lie.Lies.below HBW.out (lie.Lies.off (Y := lie.No) (fun _ _ h => h.elim) H2.out.2.1)))
    rw [H2.out.2.2.2.1] at HVS
    clear a0 a1 a2 a3 a4 a5 b0 b1 b2 b3 b4 b5 hW hr1
    go_wp2_with fail
    refine HVS.out.mono ?_; rintro e w3 ⟨vv, rfl, hvr, hb3⟩
    have hsh : ∃ va vc, vv = .slice va ns.length vc := by obtain ⟨x, y, h⟩ := kp.shape hvr; rw [Rg_len] at h; exact ⟨x, y, h⟩
    obtain ⟨va, vc, rfl⟩ := hsh
    have hB3 := H2.out.1.trans ((HBW.out.trans (hb3.mono HBW.out.size)).mono H2.out.1.size)
    have hrow3 : w3.ownsRow w1.heap.size 9 1 (.slice na ns.length nc) ns.length (ns.map sv) :=
      ow_keep (ow_keep H2.out.2.2.1 fun i e => HBW.out.block i (H2.out.2.2.1.lt i e).2) fun i e => hb3.block i (by have := (H2.out.2.2.1.lt i e).2; have := HBW.out.size; omega)
    have H3 := Lib.hid (And.intro hB3 (And.intro hrow3 hvr))
    clear hB3 hrow3 hvr hb3 c0 c1 c2 c3 c4 c5
    go_wp2_with fail
    go_loopg [60] ns.length (NOut w3 ns.length)
    case atStart => exact ⟨0, by omega, by omega, rfl, rfl⟩
    case round =>
      obtain ⟨k, hk, hgk, rfl, rfl⟩ := hrel
      have HGK := Lib.hid hgk
      clear hgk
      by_cases hlt : k < ns.length
      rotate_left
      · have hd1 : decide (k < ns.length) = false := decide_eq_false hlt
        have hd2 : ns.length ≤ k := Nat.le_of_not_lt hlt
        clear hlt
        go_wp2_with fail
        refine (AW.out wr (V0.out.up H3.out.1)).mono ?_; rintro e w5 ⟨rfl, b5⟩
        have HB5 := Lib.hid (H3.out.1.trans (b5.mono H3.out.1.size))
        clear b5
        go_wp2_with fail
        go_ret; exact ⟨rfl, HB5.out⟩
      · have hd1 : decide (k < ns.length) = true := decide_eq_true hlt
        have hne : ns ≠ [] := by intro e; rw [e] at hlt; simp at hlt
        obtain ⟨g, rfl, hgl, hcell⟩ := str_row H3.out.2.1 hne
        obtain ⟨g2, c2', hv2, hgl2, hcell2⟩ := int_row H3.out.2.2 (by intro e; have := congrArg List.length e; rw [Rg_len] at this; simp at this; exact hne this)
        rw [Rg_len] at hv2
        cases hv2
        have q1 := hcell k hlt
        have q2 := hcell2 k (by rw [Rg_len]; exact hlt)
        rw [Rg_at] at q2
        have ix1 := fun w => str_ix (g := g) (c := nc) hlt w
        have ix2 := fun w => int_ix (g := g2) (c := vc) hlt w
        obtain ⟨u, hu⟩ : ∃ u, u = ns[k] := ⟨_, rfl⟩
        rw [← hu] at q1
        have HX := Lib.hid (And.intro hlt (And.intro hcell hu))
        have hcap2 : ns.length ≤ nc ∧ nc ≤ maxLen := by
          obtain ⟨-, hr⟩ := H3.out.2.1
          rcases hr with ⟨h, -⟩ | ⟨g', cap, cur, h, -, -, h1, h2, -⟩
          · cases h
          · cases h; exact ⟨h1, h2⟩
        have hcap := hcap2.1
        have HBN := Lib.hid (show ns.length ≤ 9223372036854775807 by have := hcap2.2; unfold maxLen at this; omega)
        clear hcap2
        have hkc : k ≤ nc := by omega
        clear hne hgl hgl2 hcell hcell2 hu
        go_wp2_with fail
        go_loopg [75] k (NOut wr k)
        case atStart => exact ⟨0, by omega, by omega, rfl, rfl⟩
        case round =>
          obtain ⟨j, hj, hgj, rfl, rfl⟩ := hrel
          have HGJ := Lib.hid hgj
          clear hgj
          by_cases hlt2 : j < k
          rotate_left
          · have hd3 : decide (j < k) = false := decide_eq_false hlt2
            have hd4 : k ≤ j := Nat.le_of_not_lt hlt2
            clear hlt2
            go_wp2_with fail
            go_roundg (ns.length - (k + 1))
            case measure => have := HGK.out; have := HX.out.1; omega
            case rel => exact ⟨k + 1, HX.out.1, rfl, congrArg (Value.int .i64) (show wrap64 ((k : Int) + 1) = ((k + 1 : Nat) : Int) by have := HBN.out; have := HX.out.1; unfold wrap64; omega), rfl⟩
          · have hd3 : decide (j < k) = true := decide_eq_true hlt2
            have q3 := HX.out.2.1 j (by have := HX.out.1; omega)
            have ix3 := fun w => str_ix (g := g) (c := nc) hlt2 w
            obtain ⟨x, hx⟩ : ∃ x, x = ns[j]'(by have := HX.out.1; omega) := ⟨_, rfl⟩
            rw [← hx] at q3
            have hn2 : (x == u) = true → (!u == [95]) = false := fun e => by
              have e1 : x = u := by simpa using e
              have e2 := H2.out.2.2.2.2 j k (by have := HX.out.1; omega) HX.out.1 hlt2 (by rw [← hx, ← HX.out.2.2, e1])
              rw [← hx, e1] at e2
              rw [e2]; rfl
            have HLT2 := Lib.hid hlt2
            clear hlt2 hx
            cases e : x == u with
            | true =>
              have e9 := hn2 e
              clear hn2
              go_wp2_with fail
              go_roundg (k - (j + 1))
              case measure => have := HGJ.out; have := HLT2.out; omega
              case rel => exact ⟨j + 1, HLT2.out, rfl, congrArg (Value.int .i64) (show wrap64 ((j : Int) + 1) = ((j + 1 : Nat) : Int) by have := HBN.out; have := HX.out.1; have := HLT2.out; unfold wrap64; omega), rfl⟩
            | false =>
              clear hn2
              go_wp2_with fail
              go_roundg (k - (j + 1))
              case measure => have := HGJ.out; have := HLT2.out; omega
              case rel => exact ⟨j + 1, HLT2.out, rfl, congrArg (Value.int .i64) (show wrap64 ((j : Int) + 1) = ((j + 1 : Nat) : Int) by have := HBN.out; have := HX.out.1; have := HLT2.out; unfold wrap64; omega), rfl⟩
set_option maxRecDepth 100000 in
theorem lifted (os : Os) (started : os.Started) (H : Type) (enc : TypeId × Value → H) :
    ReturnsInHanded {} Tryz.checked os 5 .any (fun w args => (Rows.readNamesSpec.pre enc Tryz.prog Tryz.f5 Rows.readNamesRow.domain false w args ∧ laidMetH Tryz.prog laidL w) ∧ sizedMet enc Tryz.prog Tryz.f5 (OpenSpec.ofChange Rows.readNamesSpec) false w args)
      (Rows.readNamesSpec.post enc Tryz.prog Tryz.f5 false true false false) := by
  refine returnsInHanded_of_change_and (C := Tryz.checked) (X := fun w _ => laidMetH Tryz.prog laidL w) (fun _ _ _ hh h => h.of_heap hh) own started (by kernel_rfl) Tryz.func5
    (ChangeSpec.witness_shaped (enc := enc) (C := Tryz.checked) (os := os) (X := fun w _ => laidMetH Tryz.prog laidL w) false (World.doorLaid Tryz.prog 400 os) #[.string ⟨#[]⟩] 8 rfl (World.shaped_of_RefB (by kernel_rfl) (by kernel_rfl)) (by kernel_rfl) (by kernel_rfl) (by kernel_rfl) (door_met os _)) ?_
  intro W base args ds gs before hval0 hW _ hsz0 hL _
  have hsz : (DataW.weightsEach Tryz.prog (Tryz.f5.params.toList ++ Rows.readNamesSpec.plain.varTypes Tryz.prog) (ds ++ gs)).all (· ≤ reachBytes) = true := hsz0
  clear hsz0
  have hval : ∀ (j : Nat) t v, Tryz.f5.params[j]? = some t → args[j]? = some v → Value.okWide Tryz.prog W .any base t v := hval0
  have hW' := hW
  obtain ⟨p, q, hA0, hV, rfl, hfz, hnd⟩ := hW
  have hA : DataW.TrodAll enc Tryz.prog W 0 (fun _ => true) true Tryz.f5.params.toList args.toList ds p := hA0
  rw [Tryz.params5] at hA hval hsz
  obtain ⟨v0, vs0, d0, ds0, p0, q0, hargs, rfl, rfl, h0, r0⟩ := trodAll_cons hA
  obtain ⟨rfl, rfl, rfl⟩ := trodAll_nil r0
  obtain rfl : args = #[v0] := by cases args; simp_all
  obtain ⟨rfl, rfl⟩ := trodVars_none hV
  obtain ⟨t0, rfl, rfl, rfl, u0⟩ := open_string Tryz.underlying9 (hval 0 9 v0 rfl rfl) h0
  clear hA0 hval0
  simp only [List.append_nil] at hW'
  have z0 : t0.data.toList.length ≤ 140737488351232 := by
    have h1 := sized_string hsz (j := 0) (t := 9) rfl rfl
    have e3 : reachBytes = 140737488351232 := by decide
    omega
  obtain ⟨l0, rfl⟩ : ∃ l : List UInt8, t0 = ⟨l.toArray⟩ := ⟨t0.data.toList, by cases t0; simp⟩
  have s0 : l0.length ≤ 140737488351232 := by simpa using z0
  have HL : laidMet Tryz.prog laidL W := by rw [MakeChecks.laidMetH_plain _ _ _ (by kernel_rfl)] at hL; exact hL
  refine (walk l0 s0 W HL).mono fun e W' ⟨he, hg⟩ => ?_
  subst he
  refine ⟨_, rfl, _, _, _, [], [], [], hW', ?_, ?_, rfl, hg.frame _, fun h => by cases h⟩
  · exact (trodAll_cons_mk (shut_bool Tryz.underlying4 _) trodAll_mk0)
  · exact (trodAll_cons_mk (shut_string Tryz.underlying9 u0) trodAll_mk0)
theorem holds : Rows.ReadNamesSaid :=
  OpenClaim.holds_of_wide 5 Tryz.f5 rfl rfl rfl rfl rfl rfl rfl ⟨rfl, rfl, rfl, rfl, rfl⟩ rfl rfl rfl rfl rfl (by kernel_rfl) Tryz.func5 (by kernel_rfl)
    (of_decide_eq_true (by kernel_rfl)) (by unfold Func.isWrapper; first | (rw [if_pos (by decide +kernel)]; kernel_rfl) | (rw [if_neg (by decide +kernel)]; exact ⟨rfl, rfl⟩))
    (fun os started H enc _ => lifted os started H enc)
/-- THE STATEMENT: the tied card. -/
theorem proved : Rows.ReadNamesCardSaid :=
  Claim7.holds_tied_plain_at .later [] [.data, .data, .data, .sentinel, .sentinel] true (true, "ce9ef31f276c67021f0b2f7cd1b5711bd01267a27b87858ce72aef04b7ae5617") true
    holds (fun _ h => by cases h) (by kernel_rfl) (fun _ h => by cases h) readNames_row_tie rfl ⟨rfl, rfl⟩ (by kernel_rfl) rfl
    (fun f fn hf hfn => by
      obtain rfl : f = 5 := Option.some.inj ((show Tryz.prog.funcNamed "elenchus/elenchuslaw13.ReadNames" = some 5 by kernel_rfl).symm.trans hf) |>.symm
      obtain rfl : fn = Tryz.f5 := (Option.some.inj (Tryz.func5.symm.trans hfn)).symm
      exact ⟨by kernel_rfl, fun j t ht => by
        rw [Tryz.params5] at ht
        have hm : t ∈ [9] := by simpa using Array.mem_of_getElem? ht
        have hall : ([9].all fun u => !(Tryz.prog.wantsStandIn u)) = true := by kernel_rfl
        exact (show Tryz.prog.wantsStandIn t = false by simpa using List.all_eq_true.1 hall t hm)⟩)
    (by kernel_rfl)
#print axioms proved
end Go.Proofs.YtfgopgncgociiaaGreatDoor.readNames
