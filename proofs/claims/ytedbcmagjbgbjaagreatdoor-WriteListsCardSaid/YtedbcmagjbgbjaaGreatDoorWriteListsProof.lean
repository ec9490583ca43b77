/- The law WriteLists holds, as its tied card says: for every input its Go function returns true and leaves its arguments as they were. The listed package-level variables start as the program's text lays them. -/
import Derived.Test.YtedbcmagjbgbjaaGreatDoorRows
import Derived.Test.YtedbcmagjbgbjaaGreatDoorCards
import Derived.Test.YtedbcmagjbgbjaaGreatDoorTie
import Derived.WalkKit
import Derived.ProofKit
import Derived.OpenShut
import Derived.LaidMore
import Derived.LaidLaws
import Derived.SizedLaws
import Derived.MakeChecks
import Derived.SevenTiedAt
import Derived.Stop.Joined
import Derived.Test.YtedbcmagjbgbjaaGreatDoorTOpen
import Derived.Test.YtedbcmagjbgbjaaGreatDoorWrH
import Derived.Test.YtedbcmagjbgbjaaGreatDoorRSm
import Derived.Test.YtedbcmagjbgbjaaGreatDoorLgt
namespace Go.Proofs.YtedbcmagjbgbjaaGreatDoor.writeLists
open Go.Proofs.YtedbcmagjbgbjaaGreatDoor.tm Go.Proofs.YtedbcmagjbgbjaaGreatDoor.lie Go.Proofs.YtedbcmagjbgbjaaGreatDoor.kp Go.Proofs.YtedbcmagjbgbjaaGreatDoor.top
open Go.ChangeShapes Go.WideShapes Go.ChangeAt Go.RowKit
open Go.ChangeMaps (open_string shut_string)
set_option linter.unusedVariables false
theorem own : ownKnob Tryz.prog.godebug = none := by kernel_rfl
theorem laidOut : laidOutB Tryz.prog = true := by kernel_rfl
abbrev laidL : List (String × DataW Unit) := [("math/bits.deBruijn32tab", Rows.laid_math_bits_deBruijn32tab), ("math/bits.deBruijn64tab", Rows.laid_math_bits_deBruijn64tab), ("internal/strconv.uint64pow10", Rows.laid_internal_strconv_uint64pow10), ("strconv.ErrRange", Rows.laid_strconv_ErrRange), ("strconv.ErrSyntax", Rows.laid_strconv_ErrSyntax)]
theorem door_met (os : Os) (args : Array Value) : laidMetH Tryz.prog laidL ((World.doorLaid Tryz.prog 400 os).forCall (fun _ _ => 0) ⟨#[], args, []⟩).memory :=
  laidMetH_of_parts3 (fuel := 8) (laidMet_of_run' 8 (by kernel_rfl) (by kernel_rfl)) (by kernel_rfl) (by kernel_rfl)
open Go.Proofs.YtedbcmagjbgbjaaGreatDoor.tk Go.Proofs.YtedbcmagjbgbjaaGreatDoor.wr
open Go.Proofs.YtedbcmagjbgbjaaGreatDoor.num (range_of tab_of)
/-- what the loop knows -/
def QRel (w : World) (l : List Tm) (g : Nat) (s3 s4 s18 : Value) (wr : World) : Prop :=
  ∃ (k : Nat) (Y : LB) (n : Nat), k ≤ l.length ∧ g = l.length - k ∧ s18 = .int .i64 (k : Int) ∧ s4 = .string ⟨Y.toArray⟩ ∧ s3 = .int .i64 (n : Int) ∧ Y = [91] ++ rowT ((l.take k).map (wt W0)) ∧ Y.length ≤ 10 + k * 900001 ∧ n = sizeL (l.take k) + k + 1 ∧ n ≤ 1 + k * 2001 ∧ (∀ x ∈ l.take k, good x = true ∧ height x ≤ 400) ∧ Below w.heap.size w wr
theorem can_len {T : Tm} {tv : Value} {w : World} (hg : good T = true) (hl : Lies No w T tv) : (wt W0 T).length ≤ 900000 := by
  have h1 := (w2_len W0 T (good_sound hg) (lies_rg T tv hl)).1
  have h2 := good_size hg
  omega
theorem rowNil : rowT ([] : List LB) = [] := rfl
theorem take_more {P : Tm → Prop} {l : List Tm} {k : Nat} (hlt : k < l.length) (h : ∀ x ∈ l.take k, P x) (hx : P l[k]) : ∀ x ∈ l.take (k + 1), P x := by
  intro x hm
  rw [List.take_succ_eq_append_getElem hlt, List.mem_append, List.mem_singleton] at hm
  rcases hm with hm | rfl
  · exact h x hm
  · exact hx
theorem sizeL_app : ∀ a b : List Tm, sizeL (a ++ b) = sizeL a + sizeL b
  | [], b => by simp [sizeL]
  | t :: r, b => by rw [List.cons_append, sizeL, sizeL, sizeL_app r b]; omega
theorem size_take {l : List Tm} {k : Nat} (hlt : k < l.length) : sizeL (l.take (k + 1)) = sizeL (l.take k) + tm.size l[k] := by
  rw [List.take_succ_eq_append_getElem hlt, sizeL_app]
  simp [sizeL]
theorem lists_good {l : List Tm} {k : Nat} (h1 : l.length ≤ 20) (hg : ∀ x ∈ l, good x = true ∧ height x ≤ 400) (hn : sizeL l + l.length + 1 ≤ 2000) : good (lst.lst l (atom ⟨#[91, 93]⟩)) = true := by
  have e1 := lst_size l
  have e2 := lst_height l fun x hx => (hg x hx).2
  exact good_of (by omega) (by omega) (lst_sound l fun x hx => good_sound (hg x hx).1)
set_option maxRecDepth 100000 in
set_option maxHeartbeats 8000000 in
theorem walk (w : World) (a0 : Option Addr) (n0 c0 : Nat) (l0 : List Tm) (e0 : l0.length = n0) (x0 : TRow No w l0 a0 0) (m0 : n0 ≤ c0) (y0 : c0 ≤ maxLen) (z0 : n0 * 72 ≤ 140737488351232) (HL : laidMet Tryz.prog laidL w) :
    Calls Tryz.prog 8 #[.slice a0 n0 c0] w fun e w' => e = .returned (.bool true) ∧ Below w.heap.size w w' := by
  obtain ⟨pp, hv⟩ := range_of (HL.tail.tail.tail)
  have hV := VR.start hv
  have hTb := Lib.tabBelow_of_tabIs (tab_of HL.tail.tail)
  clear hv HL
  subst e0
  have AWK := Lib.hid (fun (w9 : World) (hb : Below w.heap.size w w9) => awake_any w9 (hV.up hb) (tab_up hTb hb))
  have CAN := Lib.hid (fun (w9 : World) (t : Tm) (tv : Value) (hb : Below w.heap.size w w9) (hg : good t = true) (hl : Lies No w9 t tv) => canon_any (hV.up hb) (tab_up hTb hb) hg hl)
  have R0 := Lib.hid x0
  have MC := Lib.hid (And.intro m0 (And.intro y0 z0))
  clear hV hTb x0 m0 y0 z0
  by_cases h8 : l0.length ≤ 20
  rotate_left
  · have d8 : decide ((l0.length : Int) > 20) = true := decide_eq_true (by omega)
    clear h8
    go_enter Tryz.func8, Tryz.ntmps8
    go_wp2_with fail
    refine (AWK.out _ (Below.refl w.heap.size w)).mono ?_; rintro e w99 ⟨rfl, b99⟩
    have HF := Lib.hid (((Below.refl w.heap.size w)).trans (b99.mono ((Below.refl w.heap.size w)).size))
    clear b99
    go_wp2_with fail
    go_ret; exact ⟨rfl, HF.out⟩
  have d8 : decide ((l0.length : Int) > 20) = false := decide_eq_false (by omega)
  have H08 := Lib.hid h8
  clear h8
  go_enter Tryz.func8, Tryz.ntmps8
  go_wp2_with fail
  refine (lgt.Light_any l0 _ c0 _ R0.out (by have := H08.out; omega)).mono ?_
  rintro e w1 ⟨b, rfl, b1⟩
  have B1 := Lib.hid b1
  clear b1
  cases b with
  | false =>
    go_wp2_with fail
    refine (AWK.out _ B1.out).mono ?_; rintro e w99 ⟨rfl, b99⟩
    have HF := Lib.hid ((B1.out).trans (b99.mono (B1.out).size))
    clear b99
    go_wp2_with fail
    go_ret; exact ⟨rfl, HF.out⟩
  | true =>
    clear d8
    go_wp2_with fail
    go_loopg [3, 4, 18] l0.length (QRel w l0)
    case atStart => exact ⟨0, [91], 1, Nat.zero_le _, by omega, rfl, rfl, rfl, by simp [rowNil], by simp, by simp [sizeL], by simp, by simp, B1.out⟩
    case round =>
      obtain ⟨k, Y, n, hk, hg, rfl, rfl, rfl, hY, hYk, hn0, hnk, hgd, hb⟩ := hrel
      have HY := Lib.hid (And.intro hY (And.intro hYk (And.intro hn0 hnk)))
      have hYl : Y.length ≤ 20000000 := by have := H08.out; omega
      have hnl : n ≤ 50000 := by have := H08.out; omega
      clear hY hYk hn0 hnk
      by_cases hlt : k < l0.length
      · have hkb : k < 100000 := by have := H08.out; omega
        obtain ⟨p1, o1, u0, u1, u2, u3, u4, u5, hbl, hnx, h6, hlx, hix⟩ := R0.out.look hlt
        have h6' := h6.keep (X := No) (Keep.of_below hb) id
        have hlx' := hlx.below hb
        have hix' := hix c0
        obtain ⟨kp, np, ip, rp, mp, lp, ap, cp, hv, _⟩ := rws.lies_form hlx
        obtain ⟨rfl, rfl, rfl, rfl, rfl, rfl⟩ := hv
        obtain ⟨f0, f1, f2, f3, f4, f5⟩ := h6'
        have hd : decide ((k : Int) < (l0.length : Int)) = true := decide_eq_true (by omega)
        have hbA := ba wr (.cells #[.int .i64 kp, .string np, .int .i64 ip, .int .u64 rp, .int .u64 mp, .slice ap lp cp] 27)
        have H0 := Lib.hid (And.intro hb (And.intro hgd (And.intro (hlx'.below hbA) (And.intro hbA (TB.new kp np ip rp mp (.slice ap lp cp) wr)))))
        clear hb hgd hlx hlx' h6 hix hnx hbl hbA hk
        go_upto_region 8 with fail
        obtain ⟨wA, hwA⟩ : ∃ wA, wA = wr.alloc (.cells #[.int .i64 kp, .string np, .int .i64 ip, .int .u64 rp, .int .u64 mp, .slice ap lp cp] 27) := ⟨_, rfl⟩
        obtain ⟨q, hq⟩ : ∃ q, q = wr.heap.size := ⟨_, rfl⟩
        obtain ⟨T, hT⟩ : ∃ T, T = l0[k] := ⟨_, rfl⟩
        have HA : Hid (Below w.heap.size w wA ∧ (∀ x ∈ l0.take k, good x = true ∧ height x ≤ 400) ∧ Lies No wA T (.agg #[.int .i64 kp, .string np, .int .i64 ip, .int .u64 rp, .int .u64 mp, .slice ap lp cp]) ∧ TB q kp np ip rp mp (.slice ap lp cp) wA) :=
          Lib.hid (by rw [hwA, hq, hT]; exact ⟨H0.out.1.trans (H0.out.2.2.2.1.mono H0.out.1.size), H0.out.2.1, H0.out.2.2.1, H0.out.2.2.2.2⟩)
        rw [← hwA, ← hq]
        have HTk := Lib.hid hT
        clear hwA hq hT H0 f0 f1 f2 f3 f4 f5
        obtain ⟨f0, f1, f2, f3, f4, f5⟩ := HA.out.2.2.2.cells
        go_wp2_with fail
        refine (rmy.rMay_any T _ wA HA.out.2.2.1).mono ?_; rintro e w2 ⟨rfl, b2⟩
        have H2 := Lib.hid (And.intro (HA.out.1.trans (b2.mono HA.out.1.size)) (And.intro HA.out.2.1 (And.intro (HA.out.2.2.1.below b2) (HA.out.2.2.2.below b2))))
        clear b2 HA f0 f1 f2 f3 f4 f5
        obtain ⟨f0, f1, f2, f3, f4, f5⟩ := H2.out.2.2.2.cells
        by_cases hm : may T = 0
        rotate_left
        · have e1 : (may T != 0) = true := by rw [bne_iff_ne]; exact hm
          clear hm
          go_wp2_with fail
          refine (AWK.out _ H2.out.1).mono ?_; rintro e w99 ⟨rfl, b99⟩
          have HF := Lib.hid ((H2.out.1).trans (b99.mono (H2.out.1).size))
          clear b99
          go_wp2_with fail
          go_ret; exact ⟨rfl, HF.out⟩
        rw [hm]
        have G := Lib.hid ((may_iff T).1 hm)
        clear hm
        go_wp2_with fail
        refine (rdp.rDepth_good T _ w2 H2.out.2.2.1 G.out).mono ?_; rintro e w4 ⟨rfl, b4⟩
        have H4 := Lib.hid (And.intro (H2.out.1.trans (b4.mono H2.out.1.size)) (And.intro H2.out.2.1 (And.intro (H2.out.2.2.1.below b4) (H2.out.2.2.2.below b4))))
        clear b4 H2 f0 f1 f2 f3 f4 f5
        obtain ⟨f0, f1, f2, f3, f4, f5⟩ := H4.out.2.2.2.cells
        by_cases hh : height T ≤ 400
        rotate_left
        · have e2 : decide ((height T : Int) > 400) = true := decide_eq_true (by omega)
          clear hh
          go_wp2_with fail
          refine (AWK.out _ H4.out.1).mono ?_; rintro e w99 ⟨rfl, b99⟩
          have HF := Lib.hid ((H4.out.1).trans (b99.mono (H4.out.1).size))
          clear b99
          go_wp2_with fail
          go_ret; exact ⟨rfl, HF.out⟩
        have e2 : decide ((height T : Int) > 400) = false := decide_eq_false (by omega)
        have HH := Lib.hid hh
        clear hh
        obtain ⟨z, hz⟩ : ∃ z, z = tm.size T := ⟨_, rfl⟩
        have hzl : z ≤ 2000 := by rw [hz]; exact good_size G.out
        have hnod := rnodes_good T _ w4 H4.out.2.2.1 G.out
        rw [← hz] at hnod
        have HND := Lib.hid hnod
        have HZZ := Lib.hid hz
        clear hnod hz
        go_wp2_with fail
        refine HND.out.mono ?_; rintro e w5 ⟨rfl, b5⟩
        have H5 := Lib.hid (And.intro (H4.out.1.trans (b5.mono H4.out.1.size)) (And.intro H4.out.2.1 (And.intro (H4.out.2.2.1.below b5) (H4.out.2.2.2.below b5))))
        clear b5 H4 f0 f1 f2 f3 f4 f5 HND
        obtain ⟨f0, f1, f2, f3, f4, f5⟩ := H5.out.2.2.2.cells
        obtain ⟨Z, hZ⟩ : ∃ Z, Z = wt W0 T := ⟨_, rfl⟩
        have hZl : Z.length ≤ 900000 := by rw [hZ]; exact can_len G.out H5.out.2.2.1
        have hcan := CAN.out w5 T _ H5.out.1 G.out H5.out.2.2.1
        rw [← hZ] at hcan
        have HC := Lib.hid hcan
        have HZ := Lib.hid hZ
        clear hcan hZ
        have w64 : wrap64 ((n : Int) + ((z : Int) + 1)) = ((n + z + 1 : Nat) : Int) := by rw [show (n : Int) + ((z : Int) + 1) = ((n + z + 1 : Nat) : Int) from by omega]; unfold wrap64; omega
        have w65 : wrap64 ((z : Int) + 1) = ((z + 1 : Nat) : Int) := by unfold wrap64; omega
        by_cases hk0 : k = 0
        · subst hk0
          go_wp2_with fail
          refine HC.out.mono ?_; rintro e w6 ⟨rfl, b6⟩
          have H6 := Lib.hid (And.intro (H5.out.1.trans (b6.mono H5.out.1.size)) H5.out.2.1)
          clear b6 H5 f0 f1 f2 f3 f4 f5
          go_wp2_with fail
          go_roundg (l0.length - (0 + 1))
          case measure => omega
          case rel =>
            refine ⟨0 + 1, Y ++ Z, n + z + 1, by omega, rfl, by go_num, ?_, ?_, ?_, ?_, ?_, ?_, ?_, H6.out.1⟩
            · first | rfl | rw [catX]
            · first | rfl | (congr 1; unfold wrap64; omega) | (simp; omega)
            · have h1 : rowT ((l0.take (0 + 1)).map (wt W0)) = wt W0 T := by rw [HTk.out]; simpa using rowT_take (wt W0) l0 0 hlt
              rw [h1, HZ.out, HY.out.1]
              simp [rowNil]
            · have := HY.out.2.1; rw [List.length_append]; omega
            · have h1 := size_take hlt; have h2 := HY.out.2.2.1; rw [h1, ← HTk.out, ← HZZ.out, h2]; omega
            · have h2 := HY.out.2.2.2; omega
            · exact take_more hlt H6.out.2 (by rw [← HTk.out]; exact ⟨G.out, HH.out⟩)
        · have e3 : decide ((k : Int) > 0) = true := by simp; omega
          have e4 : decide (0 < (k : Int)) = true := by simp; omega
          have e5 : 0 < k := by omega
          have HK := Lib.hid hk0
          clear hk0
          go_wp2_with fail
          refine HC.out.mono ?_; rintro e w6 ⟨rfl, b6⟩
          have H6 := Lib.hid (And.intro (H5.out.1.trans (b6.mono H5.out.1.size)) H5.out.2.1)
          clear b6 H5 f0 f1 f2 f3 f4 f5
          go_wp2_with fail
          go_roundg (l0.length - (k + 1))
          case measure => omega
          case rel =>
            refine ⟨k + 1, Y ++ 44 :: Z, n + z + 1, by omega, rfl, by go_num, ?_, ?_, ?_, ?_, ?_, ?_, ?_, H6.out.1⟩
            · first | rfl | (simp [catX]; done)
            · first | rfl | (congr 1; unfold wrap64; omega) | (simp; omega)
            · have h1 := rowT_take (wt W0) l0 k hlt
              rw [if_neg HK.out, ← HTk.out] at h1
              rw [h1, HZ.out, HY.out.1]
              simp
            · have := HY.out.2.1; simp only [List.length_append, List.length_cons]; omega
            · have h1 := size_take hlt; have h2 := HY.out.2.2.1; rw [h1, ← HTk.out, ← HZZ.out, h2]; omega
            · have h2 := HY.out.2.2.2; omega
            · exact take_more hlt H6.out.2 (by rw [← HTk.out]; exact ⟨G.out, HH.out⟩)
      · have hk' : k = l0.length := by omega
        subst hk'
        rw [List.take_length] at hgd
        have HY2 := HY.out
        rw [List.take_length] at HY2
        have HY3 := Lib.hid HY2
        clear HY2 HY
        have hd : decide ((l0.length : Int) < (l0.length : Int)) = false := decide_eq_false (by omega)
        have HB := Lib.hid (And.intro hb hgd)
        clear hb hgd hk hg
        by_cases hn2 : n ≤ 2000
        rotate_left
        · have d2 : decide ((n : Int) > 2000) = true := decide_eq_true (by omega)
          clear hn2
          go_wp2_with fail
          refine (AWK.out _ HB.out.1).mono ?_; rintro e w99 ⟨rfl, b99⟩
          have HF := Lib.hid ((HB.out.1).trans (b99.mono (HB.out.1).size))
          clear b99
          go_wp2_with fail
          go_ret; exact ⟨rfl, HF.out⟩
        have d2 : decide ((n : Int) > 2000) = false := decide_eq_false (by omega)
        have HN2 := Lib.hid hn2
        clear hn2
        go_wp2_with fail
        refine (awk.rAtom_any ⟨#[91, 93]⟩ _).mono ?_; rintro e w5 ⟨rfl, b5⟩
        have H5 := Lib.hid (HB.out.1.trans (b5.mono HB.out.1.size))
        clear b5
        go_wp2_with fail
        refine (rls.rlist_any l0 (atom ⟨#[91, 93]⟩) _ c0 _ w5 (R0.out.below H5.out) (awk.atom_lies No ⟨#[91, 93]⟩ w5 (by decide)) (by have := H08.out; omega)).mono ?_
        rintro e w6 ⟨ka, na, ia, ra, ma, aa, la, ca, rfl, b6, hq⟩
        have hgl := lists_good (k := 0) H08.out HB.out.2 (by have h1 := HY3.out.2.2.1; have h2 := HN2.out; omega)
        obtain ⟨hgp, htx⟩ := plain_text hgl W0
        have hpr : pla.plainR (lst.lst l0 (atom ⟨#[91, 93]⟩)) = plain (lst.lst l0 (atom ⟨#[91, 93]⟩)) := by unfold pla.plainR; rw [if_pos hgl]
        rw [hpr] at hq
        have hb6 := H5.out.trans (b6.mono H5.out.size)
        have hcan := CAN.out w6 _ _ hb6 hgp (hq.off fun _ _ h => h.elim)
        rw [htx, lst_text, ← HY3.out.1] at hcan
        have H6 := Lib.hid (And.intro hb6 hcan)
        have heq : ((Y ++ [93]) == ((⟨Y.toArray⟩ : ByteArray) ++ ⟨#[93]⟩).toList) = true := by
          rw [show (⟨#[93]⟩ : ByteArray) = ⟨[93].toArray⟩ from rfl, catX, ByteArray.toList_eq]; simp
        clear b6 hq hgl hgp htx hpr hb6 hcan HB H5
        go_wp2_with fail
        refine H6.out.2.mono ?_; rintro e w7 ⟨rfl, b7⟩
        have H7 := Lib.hid (H6.out.1.trans (b7.mono H6.out.1.size))
        clear b7 H6
        go_wp2_with fail
        refine (AWK.out _ H7.out).mono ?_; rintro e w99 ⟨rfl, b99⟩
        have HF := Lib.hid (H7.out.trans (b99.mono H7.out.size))
        clear b99
        go_wp2_with fail
        go_ret; exact ⟨rfl, HF.out⟩
set_option maxRecDepth 100000 in
theorem lifted (os : Os) (started : os.Started) (H : Type) (enc : TypeId × Value → H) :
    ReturnsInHanded {} Tryz.checked os 8 .any (fun w args => (Rows.writeListsSpec.pre enc Tryz.prog Tryz.f8 Rows.writeListsRow.domain false w args ∧ laidMetH Tryz.prog laidL w) ∧ sizedMet enc Tryz.prog Tryz.f8 (OpenSpec.ofChange Rows.writeListsSpec) false w args)
      (Rows.writeListsSpec.post enc Tryz.prog Tryz.f8 false true false false) := by
  refine returnsInHanded_of_change_and (C := Tryz.checked) (X := fun w _ => laidMetH Tryz.prog laidL w) (fun _ _ _ hh h => h.of_heap hh) own started (by kernel_rfl) Tryz.func8
    (ChangeSpec.witness_shaped (enc := enc) (C := Tryz.checked) (os := os) (X := fun w _ => laidMetH Tryz.prog laidL w) false (World.doorLaid Tryz.prog 400 os) #[.slice none 0 0] 8 rfl (World.shaped_of_RefB (by kernel_rfl) (by kernel_rfl)) (by kernel_rfl) (by kernel_rfl) (by kernel_rfl) (door_met os _)) ?_
  intro W base args ds gs before hval0 hW _ hsz0 hL _
  have hsz : (DataW.weightsEach Tryz.prog (Tryz.f8.params.toList ++ Rows.writeListsSpec.plain.varTypes Tryz.prog) (ds ++ gs)).all (· ≤ reachBytes) = true := hsz0
  clear hsz0
  have hval : ∀ (j : Nat) t v, Tryz.f8.params[j]? = some t → args[j]? = some v → Value.okWide Tryz.prog W .any base t v := hval0
  have hW' := hW
  obtain ⟨p, q, hA0, hV, rfl, hfz, hnd⟩ := hW
  have hA : DataW.TrodAll enc Tryz.prog W 0 (fun _ => true) true Tryz.f8.params.toList args.toList ds p := hA0
  rw [Tryz.params8] at hA hval hsz
  obtain ⟨v0, vs0, d0, ds0, p0, q0, hargs, rfl, rfl, h0, r0⟩ := trodAll_cons hA
  obtain ⟨rfl, rfl, rfl⟩ := trodAll_nil r0
  obtain rfl : args = #[v0] := by cases args; simp_all
  obtain ⟨rfl, rfl⟩ := trodVars_none hV
  simp only [List.append_nil] at hW'
  have lt0 : ∀ x ∈ p0, x.block < W.heap.size := fun x hx => by
    have := hW'.lt x (by simp [hx])
    simpa using this
  have k0 := h0
  obtain ⟨a0, n0, c0, rfl⟩ := okWide_slice Tryz.underlying25 (hval 0 25 v0 rfl rfl)
  obtain ⟨l0, g0, x0, m0, y0, z0⟩ := slice_arg h0 (fun x y e => sized_slice hsz (j := 0) (t := 25) (e := 27) rfl (by rw [← e]; rfl) Tryz.underlying25)
  clear hA0 hval0

  have HL : laidMet Tryz.prog laidL W := by rw [MakeChecks.laidMetH_plain _ _ _ (by kernel_rfl)] at hL; exact hL
  refine (walk W a0 n0 c0 l0 g0 x0 m0 y0 z0 HL).mono fun e W' ⟨he, hg⟩ => ?_
  subst he
  have ha := (trodAll_cons_mk (Below.trod laidOut (by kernel_rfl) (of_decide_eq_true (by kernel_rfl)) k0 hg lt0) trodAll_mk0)
  refine ⟨_, rfl, _, _, _, [], _, [], hW', ?_, ha, rfl, hg.frame _, fun h => by cases h⟩
  exact (trodAll_cons_mk (shut_bool Tryz.underlying4 _) trodAll_mk0)
theorem holds : Rows.WriteListsSaid :=
  OpenClaim.holds_of_wide 8 Tryz.f8 rfl rfl rfl rfl rfl rfl rfl ⟨rfl, rfl, rfl, rfl, rfl⟩ rfl rfl rfl rfl rfl (by kernel_rfl) Tryz.func8 (by kernel_rfl)
    (of_decide_eq_true (by kernel_rfl)) (by unfold Func.isWrapper; first | (rw [if_pos (by decide +kernel)]; kernel_rfl) | (rw [if_neg (by decide +kernel)]; exact ⟨rfl, rfl⟩))
    (fun os started H enc _ => lifted os started H enc)
/-- THE STATEMENT: the tied card. -/
theorem proved : Rows.WriteListsCardSaid :=
  Claim7.holds_tied_plain_at .later [] [.data, .data, .data, .sentinel, .sentinel] true (true, "db4c560b7b05b555484bdc7e4ea4373fa0315a09f8e93b3cbef9aa63f2928fd1") true
    holds (fun _ h => by cases h) (by kernel_rfl) (fun _ h => by cases h) writeLists_row_tie rfl ⟨rfl, rfl⟩ (by kernel_rfl) rfl
    (fun f fn hf hfn => by
      obtain rfl : f = 8 := Option.some.inj ((show Tryz.prog.funcNamed "elenchus/elenchuslaw14.WriteLists" = some 8 by kernel_rfl).symm.trans hf) |>.symm
      obtain rfl : fn = Tryz.f8 := (Option.some.inj (Tryz.func8.symm.trans hfn)).symm
      exact ⟨by kernel_rfl, fun j t ht => by
        rw [Tryz.params8] at ht
        have hm : t ∈ [25] := by simpa using Array.mem_of_getElem? ht
        have hall : ([25].all fun u => !(Tryz.prog.wantsStandIn u)) = true := by kernel_rfl
        exact (show Tryz.prog.wantsStandIn t = false by simpa using List.all_eq_true.1 hall t hm)⟩)
    (by kernel_rfl)
#print axioms proved
end Go.Proofs.YtedbcmagjbgbjaaGreatDoor.writeLists
