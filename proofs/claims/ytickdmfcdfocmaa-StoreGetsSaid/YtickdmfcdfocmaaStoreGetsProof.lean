/- The law StoreGets holds: for every input its Go function returns true and leaves its arguments as they were. No condition beyond the row's own. -/
import Derived.Test.YtickdmfcdfocmaaRows
import Derived.WalkKit
import Derived.ProofKit
import Derived.OpenShut
import Derived.SizedLaws
import Derived.Test.YtickdmfcdfocmaaStG
import Derived.Test.YtickdmfcdfocmaaSL
import Derived.Test.YtickdmfcdfocmaaInts
import Derived.Test.YtickdmfcdfocmaaStrs
import Derived.Test.YtickdmfcdfocmaaRSm
namespace Go.Proofs.Ytickdmfcdfocmaa.storeGets
open Go.ChangeShapes Go.WideShapes Go.ChangeAt Go.RowKit
open Go.ChangeMaps (open_string)
open Go.Proofs.Ytickdmfcdfocmaa.hp Go.Proofs.Ytickdmfcdfocmaa.cel Go.Proofs.Ytickdmfcdfocmaa.kp Go.Proofs.Ytickdmfcdfocmaa.ob Go.Proofs.Ytickdmfcdfocmaa.tm Go.Proofs.Ytickdmfcdfocmaa.lie Go.Proofs.Ytickdmfcdfocmaa.ppt Go.Proofs.Ytickdmfcdfocmaa.cur Go.Proofs.Ytickdmfcdfocmaa.pm Go.Proofs.Ytickdmfcdfocmaa.rgh
open Go.Proofs.Ytickdmfcdfocmaa.rpt (HB frHB RO frR)
open Go.Proofs.Ytickdmfcdfocmaa.pgt (SC6 nv6 zv getT OT frOT GetP VOK VOK.nil)
open Go.Proofs.Ytickdmfcdfocmaa.atm (l0 nx)
open Go.Proofs.Ytickdmfcdfocmaa.arg
open Go.Proofs.Ytickdmfcdfocmaa.atm
set_option linter.unusedVariables false
theorem own : ownKnob Try.prog.godebug = none := by kernel_rfl
theorem laidOut : laidOutB Try.prog = true := by kernel_rfl
def R1 (w : World) (p q p2 q2 n : Nat) (i : Value) (wr : World) : Prop := ∃ (k : Nat) (l : List Int), k ≤ n ∧ i = .int .i64 k ∧ l.length ≤ k ∧ SG w p q p2 q2 l l0 wr
def R2_ (w : World) (p q p2 q2 : Nat) (l : List Int) (n : Nat) (i : Value) (wr : World) : Prop := ∃ (k : Nat) (a : List ByteArray), k ≤ n ∧ i = .int .i64 k ∧ a.length ≤ 2 + k ∧ pm.Sml a ∧ SG w p q p2 q2 l a wr
theorem px_len (l : List Int) (u : Int) : (px l 100 u).length ≤ l.length + 1 := by unfold px; split <;> simp
set_option maxHeartbeats 8000000 in
set_option maxRecDepth 100000 in
theorem walk (w : World) (a0 : Option Addr) (n0 c0 : Nat) (t0 : List Int) (x0 : Ints w a0 n0 t0) (a1 : Option Addr) (n1 c1 : Nat) (t1 : List ByteArray) (x1 : Strs w a1 n1 t1) (a2 : Int) (w2 : (Lit.int .u64 a2).wf = true) :
    Calls Try.prog 3 #[.slice a0 n0 c0, .slice a1 n1 c1, .int .u64 a2] w fun e w' => e = .returned (.bool true) ∧ Below w.heap.size w w' := by
  have hc : W64 a2 := w64_wf w2
  have HC := Lib.hid hc
  have X0 := Lib.hid x0
  have X1 := Lib.hid x1
  clear w2 hc
  by_cases hbig : 80 < n0 ∨ 20 < n1
  · by_cases h1 : 80 < n0
    · have d1 : decide ((80 : Int) < (n0 : Int)) = true := decide_eq_true (by omega)
      clear x0 x1 hbig h1
      go_enter Try.func3, Try.ntmps3
      go_wp2_with fail
      refine (s7.awake_any _).mono ?_; rintro e w2 ⟨rfl, hb⟩
      go_wp2_with fail
      go_ret
      exact ⟨rfl, hb⟩
    · have d1 : decide ((80 : Int) < (n0 : Int)) = false := decide_eq_false (by omega)
      have d2 : decide ((20 : Int) < (n1 : Int)) = true := decide_eq_true (by omega)
      clear x0 x1 hbig h1
      go_enter Try.func3, Try.ntmps3
      go_wp2_with fail
      refine (s7.awake_any _).mono ?_; rintro e w2 ⟨rfl, hb⟩
      go_wp2_with fail
      go_ret
      exact ⟨rfl, hb⟩
  have d1 : decide ((80 : Int) < (n0 : Int)) = false := decide_eq_false (by omega)
  have d2 : decide ((20 : Int) < (n1 : Int)) = false := decide_eq_false (by omega)
  have hn0 : n0 ≤ 80 := by omega
  have hn1 : n1 ≤ 20 := by omega
  have HN := Lib.hid (And.intro hn0 hn1)
  clear x0 x1 hbig
  go_enter Try.func3, Try.ntmps3
  go_wp2_with fail
  refine (new_any 100 w).mono ?_; rintro e w2 ⟨rfl, made⟩
  rw [show max 0 (min (100 : Int) 1048576) = 100 by decide] at made
  have M1 := Lib.hid made
  clear made d1 d2
  go_wp2_with fail
  refine (atm.new_any w2).mono ?_; rintro e w3 ⟨rfl, made⟩
  have M2 := Lib.hid made
  clear made
  go_wp2_with fail
  refine (rnew_any 100 w3).mono ?_; rintro e w4 ⟨rfl, made⟩
  rw [show max 0 (min (100 : Int) 1048576) = 100 by decide] at made
  have M3 := Lib.hid made
  clear made
  go_wp2_with fail
  refine (atm.rnew_any w4).mono ?_; rintro e w5 ⟨rfl, made⟩
  have S5 := Lib.hid (SG.mk_ M1.out M2.out M3.out made)
  clear made M1 M2 M3
  obtain ⟨p, hp⟩ : ∃ p, p = w.heap.size := ⟨_, rfl⟩
  obtain ⟨q, hq⟩ : ∃ q, q = w2.heap.size := ⟨_, rfl⟩
  obtain ⟨p2, hp2⟩ : ∃ p2, p2 = w3.heap.size := ⟨_, rfl⟩
  obtain ⟨q2, hq2⟩ : ∃ q2, q2 = w4.heap.size + 1 := ⟨_, rfl⟩
  rw [← hp, ← hq, ← hp2, ← hq2] at S5 ⊢
  clear hp hq hp2 hq2
  go_wp2_with fail
  go_loopw [34] (fun i wr => R1 w p q p2 q2 n0 i wr) (fun i _ => n0 - (intOf i).toNat)
  case atStart => exact ⟨0, [], Nat.zero_le _, rfl, Nat.le_refl _, S5.out⟩
  case round =>
    obtain ⟨k, l, hk, rfl, hl, sg⟩ := hrel
    by_cases hlt : k < n0
    · obtain ⟨A, hA, hcell, hix⟩ := X0.out.look hlt
      have hc' := (sg.bel.cell hA).trans hcell
      have hx : W64 (t0.getD k 0) := X0.out.at_wf k
      generalize t0.getD k 0 = x at *
      have hp1 := push2 sg x hx
      have HX := Lib.hid hx
      clear hcell hx sg
      go_wp2_with fail
      refine hp1.mono ?_; rintro e w6 ⟨rfl, m6⟩
      have hp2 := rpush2 m6 x HX.out
      clear m6 hp1 hc'
      go_wp2_with fail
      refine hp2.mono ?_; rintro e w7 ⟨rfl, m7⟩
      have M7 := Lib.hid m7
      clear m7 hp2
      go_wp2_with fail
      go_roundw
      case rel => exact ⟨k + 1, px l 100 x, by omega, by go_num, by have := px_len l x; omega, M7.out⟩
      case measure => simp [intOf]; omega
    · have S6 := Lib.hid sg
      have hl80 : l.length ≤ 80 := by omega
      have HL := Lib.hid hl80
      clear sg hl80 hl hk S5
      go_wp2_with fail
      go_loopw [47] (fun i wr => R2_ w p q p2 q2 l n1 i wr) (fun i _ => n1 - (intOf i).toNat)
      case atStart => exact ⟨0, l0, Nat.zero_le _, rfl, by simp [l0], by intro x hx; simp [l0] at hx; rcases hx with rfl | rfl <;> decide, S6.out⟩
      case round =>
        obtain ⟨k1, a, hk1, rfl, hal, hsm, sg⟩ := hrel
        by_cases hlt1 : k1 < n1
        · obtain ⟨A, hA, hcell, hix⟩ := X1.out.look hlt1
          have hc' := (sg.bel.cell hA).trans hcell
          have hx := X1.out.at_size hlt1
          generalize t1.getD k1 ByteArray.empty = x at *
          have hp1 := num2 sg x hx
          have HX := Lib.hid (And.intro hx hsm)
          clear hcell hx sg hsm
          go_wp2_with fail
          refine hp1.mono ?_; rintro e w6 ⟨⟨v6, rfl⟩, m6⟩
          have hp2 := rnum2 m6 x HX.out.1 (by omega)
          clear m6 hp1 hc'
          go_wp2_with fail
          refine hp2.mono ?_; rintro e w7 ⟨⟨v7, rfl⟩, m7⟩
          have M7 := Lib.hid m7
          clear m7 hp2
          go_wp2_with fail
          go_roundw
          case rel => exact ⟨k1 + 1, nx a x, by omega, by go_num, by have := (atm.nx_len a x).2; omega, HX.out.2.nx x, M7.out⟩
          case measure => simp [intOf]; omega
        · have ha40 : a.length ≤ 4096 := by omega
          have HA := Lib.hid (And.intro ha40 hsm)
          obtain ⟨T, g, hT⟩ : ∃ T g, getT l a [] a2 = (T, g) := ⟨_, _, rfl⟩
          have HT := Lib.hid hT
          have hsg : SG w p q p2 q2 l a wr := sg
          obtain ⟨M, hM, hs, hb, up⟩ := sl.Mine.one frRA hsg
          have hwl : ∀ c ∈ l, W64 c := by obtain ⟨K, _, h1, _⟩ := hM; exact h1.wf
          have HWL := Lib.hid hwl
          have hget := pgt.pGet_new a2 HC.out HA.out.1 (fun x hx => by have := HA.out.2 x hx; omega) (by have := HL.out; omega) hM (T, g) hT
          have UP := Lib.hid (fun A' w' (nn : Nx A' wr M w') => (up A' w' nn))
          clear hM hs hb up sg hsg hT ha40 hsm hal hk1 hwl S6
          go_wp2_with fail
          refine hget.mono ?_; rintro e w6 hP
          by_cases he : g.e = 0
          · have HE := Lib.hid he
            obtain ⟨hgood, hkind, hplain, hpm⟩ := gg.getT_good HA.out.2 HWL.out HC.out VOK.nil HT.out he
            have HG := Lib.hid (And.intro hgood (And.intro hkind hpm))
            rcases hP with ⟨_, k1', nm, i, re, im, aa, sll, sc, rfl, nn⟩ | ⟨h, _⟩
            case inr => exact absurd he h
            have M6 := UP.out _ _ nn
            clear nn hget he hgood hkind hplain hpm UP
            have m7 := sl.OX.mk_ frLA frRA M6
            obtain ⟨w7, hw7⟩ : ∃ w7, w7 = w6.alloc (SC6 41 (.int .i64 k1') (.string nm) (.int .i64 i) (.int .u64 re) (.int .u64 im) (.slice aa sll sc)) := ⟨_, rfl⟩
            obtain ⟨b1, hb1⟩ : ∃ b1, b1 = w6.heap.size := ⟨_, rfl⟩
            have HW7 := Lib.hid (And.intro hb1 hw7)
            rw [← hb1, ← hw7] at m7
            have M7 := Lib.hid m7
            clear M6 m7 hb1 hw7
            obtain ⟨N7, hN7, hs7, hb7, up7⟩ := sl.Mine.two frLA M7.out
            obtain ⟨K7, hK7, upK⟩ := Tim.at1 sl.frOX hN7
            have hrg := rGet_new a2 HC.out HA.out.1 (fun x hx => by have := HA.out.2 x hx; omega) hK7 _ HG.out.2.2
            have UP := Lib.hid (fun (A' : Ob) (w' : World) (nn : Nx A' w7 K7 w') => up7 _ w' (upK A' w' nn))
            clear hN7 hs7 hb7 up7 hK7 upK
            go_upto_region 18 with fail
            change Code.wp _ _ _ _ (w6.alloc (SC6 41 (.int .i64 k1') (.string nm) (.int .i64 i) (.int .u64 re) (.int .u64 im) (.slice aa sll sc)))
            rw [← HW7.out.1, ← HW7.out.2]
            go_wp2_with fail
            refine hrg.mono ?_; rintro e w8 hP2
            rcases hP2 with ⟨_, k2', nm2, i2, re2, im2, aa2, sl2, sc2, rfl, hl2, nn⟩ | ⟨h, _⟩
            case inr => exact absurd HE.out h
            have M8 := Lib.hid (UP.out _ _ nn)
            obtain ⟨w9, hw9⟩ : ∃ w9, w9 = w8.alloc (SC6 41 (.int .i64 k2') (.string nm2) (.int .i64 i2) (.int .u64 re2) (.int .u64 im2) (.slice aa2 sl2 sc2)) := ⟨_, rfl⟩
            obtain ⟨b2, hb2⟩ : ∃ b2, b2 = w8.heap.size := ⟨_, rfl⟩
            have B9 := show Below w8.heap.size w8 w9 by rw [hw9]; exact ba w8 _
            have HW9 := Lib.hid (And.intro hb2 hw9)
            have hblk := show w9.heap[b2]? = some (SC6 41 (.int .i64 k2') (.string nm2) (.int .i64 i2) (.int .u64 re2) (.int .u64 im2) (.slice aa2 sl2 sc2)) by rw [hb2, hw9]; exact alloc_at w8 _
            have M9 := Lib.hid (Mine.below (frLA.tim (frRA.tim sl.frOX)) M8.out B9)
            have LB := Lib.hid ((hl2.below B9).off (Y := No) fun _ _ h => h.elim)
            have hOX : ∃ N, sl.OX T b1 k1' nm i re im (.slice aa sll sc) w9 N := by
              obtain ⟨N, ⟨_, _, _, ⟨_, _, _, h2, _⟩, _⟩, _⟩ := M9.out
              exact ⟨_, h2⟩
            obtain ⟨NX, hX⟩ := hOX
            obtain ⟨⟨x0, x1, x2, x3, x4, x5⟩, la⟩ := hX.six
            obtain ⟨⟨y0, y1, y2, y3, y4, y5⟩, _⟩ := blk_facts hblk
            have heq := rsm.requal_k T T _ _ w9 la LB.out HG.out.2.1 HG.out.2.1
            rw [sameB_refl, HG.out.1] at heq
            clear hrg UP M7 nn hl2 hb2 hw9 B9 hblk hX la M8
            go_upto_region 19 with fail
            change Code.wp _ _ _ _ (w8.alloc (SC6 41 (.int .i64 k2') (.string nm2) (.int .i64 i2) (.int .u64 re2) (.int .u64 im2) (.slice aa2 sl2 sc2)))
            rw [← HW9.out.1, ← HW9.out.2]
            go_wp2_with fail
            refine heq.mono ?_; rintro e w10 ⟨rfl, hb10⟩
            have m10 := Mine.below (frLA.tim (frRA.tim sl.frOX)) M9.out hb10
            obtain ⟨N10, hN10, hs10, hbb10, up10⟩ := sl.Mine.one (frRA.tim sl.frOX) m10
            have hsd := pgt.pSound_any a2 HC.out HA.out.1 (fun x hx => by have := HA.out.2 x hx; omega) (by have := HL.out; omega) hN10 (T, g) HT.out
            rw [show (T, g).2.e = 0 from HE.out] at hsd
            have UP := Lib.hid (fun (A' : Ob) (w' : World) (nn : Nx A' w10 N10 w') => Mine.bel (up10 A' w' nn))
            clear m10 hN10 hs10 hbb10 up10 heq hb10 x0 x1 x2 x3 x4 x5 y0 y1 y2 y3 y4 y5 M9
            go_wp2_with fail
            refine hsd.mono ?_; rintro e w11 ⟨rfl, nn⟩
            have B11 := Lib.hid (UP.out _ _ nn)
            clear nn hsd UP
            go_wp2_with fail
            refine (s7.awake_any _).mono ?_; rintro e w12 ⟨rfl, hb⟩
            have B12 := Lib.hid (bt B11.out hb)
            clear hb
            go_wp2_with fail
            go_ret
            exact ⟨rfl, B12.out⟩
          · have HE := Lib.hid he
            rcases hP with ⟨h, _⟩ | ⟨_, rfl, nn⟩
            case inl => exact absurd h he
            have M6 := UP.out _ _ nn
            clear nn hget he UP
            obtain ⟨R9, hR9⟩ : ∃ R9, pm.get l a 500 a2 ⟨0, [], 0⟩ = R9 := ⟨_, rfl⟩
            have hRe : R9.2 = g := by rw [← hR9]; exact gg.getT_err HT.out
            obtain ⟨w7, hw7⟩ : ∃ w7, w7 = w6.alloc wlk.ZT := ⟨_, rfl⟩
            obtain ⟨b1, hb1⟩ : ∃ b1, b1 = w6.heap.size := ⟨_, rfl⟩
            have B7 := show Below w6.heap.size w6 w7 by rw [hw7]; exact ba w6 _
            have HW7 := Lib.hid (And.intro hb1 hw7)
            have hblk := show w7.heap[b1]? = some wlk.ZT by rw [hb1, hw7]; exact alloc_at w6 _
            have m7 := Mine.blk (frLA.tim frRA) M6 wlk.ZT
            rw [← hb1, ← hw7] at m7
            have M7 := Lib.hid (m7.imp fun N t => Tim.right_ t)
            clear M6 m7 hb1 hw7 B7 hblk
            obtain ⟨N7, hN7, hs7, hb7, up7⟩ := sl.Mine.two frLA M7.out
            obtain ⟨K7, hK7, upK⟩ := Tim.at1 (Fr.blk _ _) hN7
            have hrg := rGet_new a2 HC.out HA.out.1 (fun x hx => by have := HA.out.2 x hx; omega) hK7 _ hR9
            have UP := Lib.hid (fun (A' : Ob) (w' : World) (nn : Nx A' w7 K7 w') => up7 _ w' (upK A' w' nn))
            have HRE := Lib.hid hRe
            clear hN7 hs7 hb7 up7 hK7 upK hR9 hRe
            go_upto_region 18 with fail
            change Code.wp _ _ _ _ (w6.alloc wlk.ZT)
            rw [← HW7.out.1, ← HW7.out.2]
            go_wp2_with fail
            refine hrg.mono ?_; rintro e w8 hP2
            rcases hP2 with ⟨h, _⟩ | ⟨_, rfl, nn⟩
            case inl => exact absurd (by rw [← HRE.out]; exact h) HE.out
            have M8 := Lib.hid (UP.out _ _ nn)
            obtain ⟨w9, hw9⟩ : ∃ w9, w9 = w8.alloc wlk.ZT := ⟨_, rfl⟩
            obtain ⟨b2, hb2⟩ : ∃ b2, b2 = w8.heap.size := ⟨_, rfl⟩
            have B9 := show Below w8.heap.size w8 w9 by rw [hw9]; exact ba w8 _
            have HW9 := Lib.hid (And.intro hb2 hw9)
            have hblk := show w9.heap[b2]? = some wlk.ZT by rw [hb2, hw9]; exact alloc_at w8 _
            have M9 := Lib.hid (Mine.below (frLA.tim (frRA.tim (Fr.blk _ _))) M8.out B9)
            have hbx : w9.heap[b1]? = some wlk.ZT := by
              obtain ⟨N, ⟨_, _, _, ⟨_, _, _, h2, _⟩, _⟩, _⟩ := M9.out
              exact h2.1
            obtain ⟨⟨x0, x1, x2, x3, x4, x5⟩, _⟩ := blk_facts hbx
            obtain ⟨⟨y0, y1, y2, y3, y4, y5⟩, _⟩ := blk_facts hblk
            have heq := rsm.requal_zero zv zv w9 (rgt.zero_lies2 _ _) (rgt.zero_lies2 _ _)
            obtain ⟨ge, hge⟩ : ∃ ge, ge = g.e := ⟨_, rfl⟩
            rw [HRE.out] at *
            clear hrg UP M7 nn hb2 hw9 B9 hblk hbx M8
            simp only [← hge]
            have HGE := Lib.hid hge
            clear hge
            go_upto_region 19 with fail
            change Code.wp _ _ _ _ (w8.alloc wlk.ZT)
            rw [← HW9.out.1, ← HW9.out.2]
            go_wp2_with fail
            refine heq.mono ?_; rintro e w10 ⟨rfl, hb10⟩
            have m10 := Mine.below (frLA.tim (frRA.tim (Fr.blk _ _))) M9.out hb10
            obtain ⟨N10, hN10, hs10, hbb10, up10⟩ := sl.Mine.one (frRA.tim (Fr.blk _ _)) m10
            have hsd := pgt.pSound_any a2 HC.out HA.out.1 (fun x hx => by have := HA.out.2 x hx; omega) (by have := HL.out; omega) hN10 (T, g) HT.out
            rw [show (T, g).2.e = ge from HGE.out.symm] at hsd
            have UP := Lib.hid (fun (A' : Ob) (w' : World) (nn : Nx A' w10 N10 w') => Mine.bel (up10 A' w' nn))
            clear m10 hN10 hs10 hbb10 up10 heq hb10 x0 x1 x2 x3 x4 x5 y0 y1 y2 y3 y4 y5 M9
            go_wp2_with fail
            refine hsd.mono ?_; rintro e w11 ⟨rfl, nn⟩
            have B11 := Lib.hid (UP.out _ _ nn)
            clear nn hsd UP
            go_wp2_with fail
            refine (s7.awake_any _).mono ?_; rintro e w12 ⟨rfl, hb⟩
            have B12 := Lib.hid (bt B11.out hb)
            clear hb
            go_wp2_with fail
            go_ret
            exact ⟨rfl, B12.out⟩
set_option maxRecDepth 100000 in
theorem lifted (os : Os) (started : os.Started) (H : Type) (enc : TypeId × Value → H) :
    ReturnsInHanded {} Try.checked os 3 .any (Rows.storeGetsSpec.pre6 enc Try.prog Try.f3 Rows.storeGetsRow.domain false) (Rows.storeGetsSpec.post enc Try.prog Try.f3 false true false false) := by
  refine returnsInHanded_of_change_sized (C := Try.checked) own started (by kernel_rfl) Try.func3
    (ChangeSpec.witness6 (enc := enc) (C := Try.checked) false ⟨#[], #[.slice none 0 0, .slice none 0 0, .int .u64 0], []⟩ 8 (by kernel_rfl) (by kernel_rfl) (by kernel_rfl) (by kernel_rfl)) ?_
  intro W base args ds gs before hval0 hW _ hsz0 _
  have hsz : (DataW.weightsEach Try.prog (Try.f3.params.toList ++ Rows.storeGetsSpec.plain.varTypes Try.prog) (ds ++ gs)).all (· ≤ reachBytes) = true := hsz0
  clear hsz0
  have hval : ∀ (j : Nat) t v, Try.f3.params[j]? = some t → args[j]? = some v → Value.okWide Try.prog W .any base t v := hval0
  have hW' := hW
  obtain ⟨p, q, hA0, hV, rfl, hfz, hnd⟩ := hW
  have hA : DataW.TrodAll enc Try.prog W 0 (fun _ => true) true Try.f3.params.toList args.toList ds p := hA0
  rw [Try.params3] at hA hval hsz
  obtain ⟨v0, vs0, d0, ds0, p0, q0, hargs, rfl, rfl, h0, r0⟩ := trodAll_cons hA
  obtain ⟨v1, vs1, d1, ds1, p1, q1, rfl, rfl, rfl, h1, r1⟩ := trodAll_cons r0
  obtain ⟨v2, vs2, d2, ds2, p2, q2, rfl, rfl, rfl, h2, r2⟩ := trodAll_cons r1
  obtain ⟨rfl, rfl, rfl⟩ := trodAll_nil r2
  obtain rfl : args = #[v0, v1, v2] := by cases args; simp_all
  obtain ⟨rfl, rfl⟩ := trodVars_none hV
  simp only [List.append_nil] at hW'
  have lt0 : ∀ x ∈ p0, x.block < W.heap.size := fun x hx => by
    have := hW'.lt x (by simp [hx])
    simpa using this
  have k0 := h0
  have lt1 : ∀ x ∈ p1, x.block < W.heap.size := fun x hx => by
    have := hW'.lt x (by simp [hx])
    simpa using this
  have k1 := h1
  have lt2 : ∀ x ∈ p2, x.block < W.heap.size := fun x hx => by
    have := hW'.lt x (by simp [hx])
    simpa using this
  have k2 := h2
  obtain ⟨a0, n0, c0, rfl⟩ := okWide_slice Try.underlying22 (hval 0 22 v0 rfl rfl)
  obtain ⟨t0, x0⟩ := h0.elim fun fuel hf => ints_open hf (lt0) (fun x y e => sized_slice hsz (j := 0) (t := 22) (e := 25) rfl (by rw [← e]; rfl) Try.underlying22)
  obtain ⟨a1, n1, c1, rfl⟩ := okWide_slice Try.underlying23 (hval 1 23 v1 rfl rfl)
  obtain ⟨t1, x1⟩ := h1.elim fun fuel hf => strs_open hf (lt1) (fun x y e => sized_slice hsz (j := 1) (t := 23) (e := 9) rfl (by rw [← e]; rfl) Try.underlying23)
  obtain ⟨a2, rfl, rfl, rfl, w2⟩ := open_int Try.underlying25 (hval 2 25 v2 rfl rfl) h2
  clear hA0 hval0
  refine (walk W a0 n0 c0 t0 x0 a1 n1 c1 t1 x1 a2 w2).mono fun e W' ⟨he, hg⟩ => ?_
  subst he
  have ha := (trodAll_cons_mk (Below.trod laidOut (by kernel_rfl) (of_decide_eq_true (by kernel_rfl)) k0 hg lt0) (trodAll_cons_mk (Below.trod laidOut (by kernel_rfl) (of_decide_eq_true (by kernel_rfl)) k1 hg lt1) (trodAll_cons_mk (Below.trod laidOut (by kernel_rfl) (of_decide_eq_true (by kernel_rfl)) k2 hg lt2) trodAll_mk0)))
  refine ⟨_, rfl, _, _, _, [], _, [], hW', ?_, ha, rfl, hg.frame _, fun h => by cases h⟩
  exact (trodAll_cons_mk (shut_bool Try.underlying4 _) trodAll_mk0)
/-- THE STATEMENT. -/
theorem proved : Rows.StoreGetsSaid :=
  OpenClaim.holds_of_wide 3 Try.f3 rfl rfl rfl rfl rfl rfl rfl ⟨rfl, rfl, rfl, rfl, rfl⟩ rfl rfl rfl rfl rfl (by kernel_rfl) Try.func3 (by kernel_rfl)
    (of_decide_eq_true (by kernel_rfl)) (by unfold Func.isWrapper; first | (rw [if_pos (by decide +kernel)]; kernel_rfl) | (rw [if_neg (by decide +kernel)]; exact ⟨rfl, rfl⟩))
    (fun os started H enc _ => lifted os started H enc)
#print axioms proved
end Go.Proofs.Ytickdmfcdfocmaa.storeGets
