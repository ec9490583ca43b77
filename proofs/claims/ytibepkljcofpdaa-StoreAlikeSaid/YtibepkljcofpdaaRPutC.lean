/- The reference's put of a variable. -/
import Derived.Test.YtibepkljcofpdaaRPutB
import Derived.Deep.RegionHeld3
namespace Go.Proofs.Ytibepkljcofpdaa.rpt
set_option linter.unusedVariables false
open Go.ChangeShapes Go.WideShapes Go.ChangeAt Go.RowKit Go.Maps
open Go.Proofs.Ytibepkljcofpdaa.hp Go.Proofs.Ytibepkljcofpdaa.cel Go.Proofs.Ytibepkljcofpdaa.kp Go.Proofs.Ytibepkljcofpdaa.ob Go.Proofs.Ytibepkljcofpdaa.pm Go.Proofs.Ytibepkljcofpdaa.tm Go.Proofs.Ytibepkljcofpdaa.lie
open Go.Proofs.Ytibepkljcofpdaa.atm (nv ne nx)
section
variable {p q mb : Nat} {m own : Int} {s : S} {w : World} {N : Nat → Prop} {n : ByteArray} {i re im : Int} {a : Option Addr} {len c : Nat} {l : List Tm}
abbrev BT (k : Int) (n : ByteArray) (i re im : Int) (a : Option Addr) (len c : Nat) : Obj := .cells #[.int .i64 k, .string n, .int .i64 i, .int .u64 re, .int .u64 im, .slice a len c] 36 (0, 0)
set_option maxRecDepth 100000 in
set_option maxHeartbeats 1000000 in
/-- a variable that has a cell -/
theorem rput_1old (h : PB p q mb m s w N) (hi : I64 i) {c0 : Int} (hl : pm.look s.v i = some c0) :
    Calls Try.prog 47 #[.pointer (some ⟨p, 0, none⟩), .pointer (some ⟨q, 0, none⟩), .agg #[.int .i64 1, .string n, .int .i64 i, .int .u64 re, .int .u64 im, .slice a len c], .map (some mb), .int .i64 own] w (PutsR p q mb m (.mk 1 n i re im l) own s w N) := by
  have X1 := Lib.hid (XX.start h (BT 1 n i re im a len c))
  have hput := Lib.hid (show put m (.mk 1 n i re im l) own s = (c0, 0, s) by rw [put, if_neg (by decide), if_neg (by decide), if_neg (by decide), if_pos rfl, hl])
  obtain ⟨D, hD, hv, up⟩ := X1.out.vars (Fr.blk _ _)
  have hkey : keyOf Try.prog 2 (.int .i64 i) = some (CK i) := keyOf_int_mk Try.underlying2 (WalkArith.wf_i64 (by have := hi.1; have := hi.2; omega))
  have hv2 := hv i
  rw [hl] at hv2
  have HD := Lib.hid hD
  have HV := Lib.hid hv2
  clear h hi hD hv up hv2 hl
  go_enter Try.func47, Try.ntmps47
  have hsome : (some c0).isSome = true := rfl
  go_wp2_with (at_lookup; refine wpList_lookup_own_ok_int _ rfl _ _ 34 rfl 2 37 .u64 law Try.underlying34 Try.underlying37 (zeroC _) mb _ D rfl HD.out _ _ rfl hkey ?_; intro c9 hat hwc; rw [HV.out.1, hsome])
  have hc : c9 = c0 := by
    have h2 := HV.out.2
    rw [hat] at h2
    injection h2 with e; injection e with _ e
  subst hc
  have HW := Lib.hid (w64_wf hwc)
  clear hat hwc
  go_ret2
  exact PutsR.of hput.out (fun _ => rfl) HW.out X1.out.drop
/-- the map is written, and read -/
theorem XX.put {b : Nat} {o : Obj} {wr : World} (h : XX w N p q mb m s (Blk b o) wr) {D : DataW Unit} (hD : wr.ownsMap Try.prog 2 (plainElem (H := Unit) Try.prog 37) mb s.v.length D) (hv : VM D s.v) {i c : Int} (hi : pm.look s.v i = none) {w7 : World}
    (hm : w7.ownsMap Try.prog 2 (plainElem (H := Unit) Try.prog 37) mb (s.v.length + 1) (D.put (CK i) (.lit (.int .u64 c)))) (g : wr.grownBy w7 (some mb)) : XX w N p q mb m ⟨s.h, s.a, s.v ++ [(i, c)]⟩ (Blk b o) w7 := by
  obtain ⟨D', hD', hv', up, hz⟩ := h.vars (Fr.blk _ _)
  exact up _ _ w7 (by rw [List.length_append]; exact hm) (hv.put hD.isMap hi) (size_new hD hv hi (size_same hD hv hD' hv' hz)) g
set_option maxRecDepth 100000 in
set_option maxHeartbeats 2000000 in
/-- a new variable whose cell is there -/
theorem rput_1own (h : PB p q mb m s w N) (hi : I64 i) (hl : pm.look s.v i = none) (h0 : 0 ≤ own) (h1 : own < 1048576) (hv9 : s.v.length < 1000000) :
    Calls Try.prog 47 #[.pointer (some ⟨p, 0, none⟩), .pointer (some ⟨q, 0, none⟩), .agg #[.int .i64 1, .string n, .int .i64 i, .int .u64 re, .int .u64 im, .slice a len c], .map (some mb), .int .i64 own] w (PutsR p q mb m (.mk 1 n i re im l) own s w N) := by
  have X1 := Lib.hid (XX.start h (BT 1 n i re im a len c))
  have hput := Lib.hid (show put m (.mk 1 n i re im l) own s = (own * 8, 0, ⟨s.h, s.a, s.v ++ [(i, own * 8)]⟩) by rw [put, if_neg (by decide), if_neg (by decide), if_neg (by decide), if_pos rfl, hl]; dsimp only; rw [if_neg (by omega)])
  obtain ⟨D, hD, hv, up⟩ := X1.out.vars (Fr.blk _ _)
  have hkey : keyOf Try.prog 2 (.int .i64 i) = some (CK i) := keyOf_int_mk Try.underlying2 (WalkArith.wf_i64 (by have := hi.1; have := hi.2; omega))
  have hv2 := hv i
  rw [hl] at hv2
  have HD := Lib.hid hD
  have HV := Lib.hid hv2
  have HVM := Lib.hid hv
  have HL := Lib.hid hl
  have hm := fun w => rmake_any 0 own w (by omega) (by omega) ⟨by omega, by omega⟩
  rw [show jn 0 own = own * 8 by unfold jn; omega] at hm
  have hcv : IntKind.u64.wrap own = own := by rw [IntKind.wrap_u64]; omega
  have hwf : (Lit.int .u64 (own * 8)).wf = true := WalkArith.wf_u64 (by omega)
  have HW := Lib.hid hwf
  have HK := Lib.hid hkey
  have hnone : (none : Option Int).isSome = false := rfl
  have HV9 := Lib.hid (show s.v.length < maxLen by unfold maxLen; omega)
  clear h hi hD hv up hv2 hl hwf hv9
  go_enter Try.func47, Try.ntmps47
  go_upto_region 27 with (at_lookup; refine wpList_lookup_own_ok_int _ rfl _ _ 34 rfl 2 37 .u64 law Try.underlying34 Try.underlying37 (zeroC _) mb _ D rfl HD.out _ _ rfl hkey ?_; intro c9 hat hwc; rw [HV.out.1, hnone])
  obtain ⟨w7, hrun, hm7, hg7⟩ := World.ownsMap.update (mapC_keep HD.out rfl : (w.alloc (BT 1 n i re im a len c)).drew.ownsMap Try.prog 2 (plainElem (H := Unit) Try.prog 37) mb s.v.length D) law Try.underlying34 HV9.out HK.out (plainElem_int Try.underlying37 HW.out)
  have X7 := Lib.hid (XX.put (X1.out.drew (Fr.blk _ _)) (mapC_keep HD.out rfl) HVM.out HL.out hm7 hg7)
  clear hm7 hg7 hkey
  go_cut [] (fun wx => wx = w7)
  case first =>
    go_region_with (first
      | (go_at_call 43; refine (hm _).mono ?_; rintro e w' ⟨rfl, rfl⟩))
    all_goals (go_wp2_with fail; go_meet; rfl)
  case rest =>
    subst hcut
    obtain ⟨D2, hD2, hv2, _⟩ := X7.out.vars (Fr.blk _ _)
    have hat2 := (hv2 i).2
    rw [look_new HL.out] at hat2
    obtain ⟨c8, hlk, hat, hwc⟩ := hD2.lookup_int law Try.underlying34 Try.underlying37 (zeroC _) HK.out
    have hc : c8 = own * 8 := by
      rw [hat] at hat2
      injection hat2 with e; injection e with _ e
    subst hc
    obtain ⟨y0, y1, y2, y3, y4, y5⟩ := XX.cells X7.out
    clear hat hwc hat2 hv2 hD2 hrun hm
    go_wp2_with fail
    go_ret2
    exact PutsR.of hput.out (fun _ => rfl) ⟨by omega, by omega⟩ X7.out.drop
set_option maxRecDepth 100000 in
set_option maxHeartbeats 2000000 in
/-- a new variable by itself -/
theorem rput_1new (h : PB p q mb m s w N) (hi : I64 i) (hl : pm.look s.v i = none) (h0 : own < 0) (hv9 : s.v.length < 1000000) :
    Calls Try.prog 47 #[.pointer (some ⟨p, 0, none⟩), .pointer (some ⟨q, 0, none⟩), .agg #[.int .i64 1, .string n, .int .i64 i, .int .u64 re, .int .u64 im, .slice a len c], .map (some mb), .int .i64 own] w (PutsR p q mb m (.mk 1 n i re im l) own s w N) := by
  have X1 := Lib.hid (XX.start h (BT 1 n i re im a len c))
  have hput := Lib.hid (show put m (.mk 1 n i re im l) own s = if (s.h.length : Int) < m then ((s.h.length : Int) * 8, 0, ⟨s.h ++ [(s.h.length : Int) * 8], s.a, s.v ++ [(i, (s.h.length : Int) * 8)]⟩) else (0, 4, s) by rw [put, if_neg (by decide), if_neg (by decide), if_neg (by decide), if_pos rfl, hl]; dsimp only; rw [if_pos h0])
  obtain ⟨D, hD, hv, up⟩ := X1.out.vars (Fr.blk _ _)
  have hkey : keyOf Try.prog 2 (.int .i64 i) = some (CK i) := keyOf_int_mk Try.underlying2 (WalkArith.wf_i64 (by have := hi.1; have := hi.2; omega))
  have hv2 := hv i
  rw [hl] at hv2
  have HD := Lib.hid hD
  have HV := Lib.hid hv2
  have HL := Lib.hid hl
  have HK := Lib.hid hkey
  have hle := (X1.out.len (Fr.blk _ _)).1
  have hvar := xVar (Fr.blk _ _) X1.out
  have hnone : (none : Option Int).isSome = false := rfl
  have HV9 := Lib.hid (show s.v.length < maxLen by unfold maxLen; omega)
  clear h hi hD hv up hv2 hl hv9
  by_cases hr : (s.h.length : Int) < m
  · obtain ⟨e1, e2, e3⟩ := px_room (u := (s.h.length : Int) * 8) hr
    rw [e1, e2, e3] at hvar
    have HR := Lib.hid hr
    clear e1 e2 e3 hr X1
    go_enter Try.func47, Try.ntmps47
    go_wp2_with (at_lookup; refine wpList_lookup_own_ok_int _ rfl _ _ 34 rfl 2 37 .u64 law Try.underlying34 Try.underlying37 (zeroC _) mb _ D rfl HD.out _ _ rfl hkey ?_; intro c9 hat hwc; rw [HV.out.1, hnone])
    refine hvar.mono ?_; rintro e w5 ⟨rfl, x5⟩
    clear hvar
    go_upto_region 27 with fail
    clear hkey
    have X5 := Lib.hid x5
    obtain ⟨y0, y1, y2, y3, y4, y5⟩ := XX.cells (x5.drew (Fr.blk _ _))
    obtain ⟨D5, hD5, hv5, _⟩ := x5.vars (Fr.blk _ _)
    have HD5 := Lib.hid hD5
    have HV5 := Lib.hid hv5
    have hwf : (Lit.int .u64 ((s.h.length : Int) * 8)).wf = true := WalkArith.wf_u64 (by omega)
    obtain ⟨w7, hrun, hm7, hg7⟩ := World.ownsMap.update (mapC_keep HD5.out rfl : w5.drew.ownsMap Try.prog 2 (plainElem (H := Unit) Try.prog 37) mb s.v.length D5) law Try.underlying34 HV9.out HK.out (plainElem_int Try.underlying37 hwf)
    have X7 := Lib.hid (XX.put (X5.out.drew (Fr.blk _ _)) (mapC_keep HD5.out rfl) HV5.out HL.out hm7 hg7)
    have hm := fun w => rmake_any 0 (s.h.length : Int) w (by omega) (by omega) ⟨by omega, by omega⟩
    rw [show jn 0 (s.h.length : Int) = (s.h.length : Int) * 8 by unfold jn; omega] at hm
    have hcv : IntKind.u64.wrap (s.h.length : Int) = s.h.length := by rw [IntKind.wrap_u64]; omega
    clear hm7 hg7 x5 hD5 hv5 hwf
    go_cut [] (fun wx => wx = w7)
    case first =>
      go_region_with (first
        | (go_at_call 43; refine (hm _).mono ?_; rintro e w' ⟨rfl, rfl⟩))
      all_goals (go_wp2_with fail; go_meet; rfl)
    case rest =>
      subst hcut
      obtain ⟨D2, hD2, hv2, _⟩ := X7.out.vars (Fr.blk _ _)
      have hat2 := (hv2 i).2
      rw [look_new HL.out] at hat2
      obtain ⟨c8, hlk, hat, hwc⟩ := hD2.lookup_int law Try.underlying34 Try.underlying37 (zeroC _) HK.out
      have hc : c8 = (s.h.length : Int) * 8 := by
        rw [hat] at hat2
        injection hat2 with e; injection e with _ e
      subst hc
      clear y0 y1 y2 y3 y4 y5
      obtain ⟨y0, y1, y2, y3, y4, y5⟩ := XX.cells X7.out
      clear hat hwc hat2 hv2 hD2 hrun hm
      go_wp2_with fail
      go_ret2
      exact PutsR.of (by rw [hput.out, if_pos HR.out]) (fun _ => rfl) ⟨by omega, by omega⟩ X7.out.drop
  · obtain ⟨e1, e2, e3⟩ := px_none (u := (s.h.length : Int) * 8) hr
    rw [e1, e2, e3] at hvar
    have HR := Lib.hid hr
    clear e1 e2 e3 hr X1
    go_enter Try.func47, Try.ntmps47
    go_wp2_with (at_lookup; refine wpList_lookup_own_ok_int _ rfl _ _ 34 rfl 2 37 .u64 law Try.underlying34 Try.underlying37 (zeroC _) mb _ D rfl HD.out _ _ rfl hkey ?_; intro c9 hat hwc; rw [HV.out.1, hnone])
    refine hvar.mono ?_; rintro e w5 ⟨rfl, x5⟩
    have X5 := Lib.hid x5
    clear x5 hvar
    go_wp2_with fail
    go_ret2
    exact PutsR.of (c := 0) (s' := s) (by rw [hput.out, if_neg (by have := HR.out; omega)]) (fun h => by omega) ⟨by decide, by decide⟩ X5.out.drop
end
end Go.Proofs.Ytibepkljcofpdaa.rpt
