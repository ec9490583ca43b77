/- The putter's calls for a node by itself: tagged, place, variable, words, compound, node. -/
import Derived.Test.YtibepkljcofpdaaPPA
import Derived.Test.YtibepkljcofpdaaPutB
import Derived.Test.YtibepkljcofpdaaRPutD
import Derived.LoopTactic
import Derived.Deep.LoopGhost
import Derived.StillTailTactics
import Derived.Deep.RegionHeld3
namespace Go.Proofs.Ytibepkljcofpdaa.ppt
set_option linter.unusedVariables false
open Go.ChangeShapes Go.WideShapes Go.ChangeAt Go.RowKit Go.Maps
open Go.Proofs.Ytibepkljcofpdaa.hp Go.Proofs.Ytibepkljcofpdaa.cel Go.Proofs.Ytibepkljcofpdaa.kp Go.Proofs.Ytibepkljcofpdaa.ob Go.Proofs.Ytibepkljcofpdaa.pm Go.Proofs.Ytibepkljcofpdaa.tm
open Go.Proofs.Ytibepkljcofpdaa.atm (nv ne nx Tab)
open Go.Proofs.Ytibepkljcofpdaa.rpt (toA toK CK CK_ne law zeroC VM VO frV HB frHB mapC_keep px_room px_none more_e)
/-- a node by itself: its cell, an error, what there is then -/
def nodeM (m : Int) : Tm → Int → S → Int × Int × S
  | .mk k n i re im l, own, s =>
    if k = 5 then (if (s.h.length : Int) < m then
        (match more m l.length (s.h ++ [jn 6 (nv s.a n * 256 + l.length)]) with
          | (e, h) => if e = 0 then (jn 1 s.h.length, 0, ⟨h, nx s.a n, s.v⟩) else (0, e, ⟨h, nx s.a n, s.v⟩))
      else (0, 4, ⟨s.h, nx s.a n, s.v⟩))
    else put m (.mk k n i re im []) own s
theorem tagged_any (t n : Int) (w : World) (h0 : 0 ≤ t) (h1 : t ≤ 6) (h2 : 0 ≤ n) (h3 : n < 2305843009213693952) : Calls Try.prog 82 #[.int .i64 t, .int .i64 n] w fun e w' => e = .returned (.int .u64 (jn t n)) ∧ w = w' := by
  have hm := make_any t n w ⟨by omega, by omega⟩ ⟨h2, by omega⟩
  have e1 : mv t n = jn t n := by unfold mv; rw [if_pos ⟨h0, h1, h3⟩]
  have e2 : mo t n = true := decide_eq_true ⟨h0, h1, h3⟩
  have hcv : IntKind.u64.wrap n = n := by rw [IntKind.wrap_u64]; omega
  rw [e1, e2] at hm
  clear e1 e2
  go_enter Try.func82, Try.ntmps82
  go_wp2_with fail
  refine hm.mono ?_; rintro e w' ⟨rfl, rfl⟩
  go_wp2_with fail
  go_ret
  exact ⟨rfl, rfl⟩
theorem place_any (c : Int) (w : World) (h : W64 c) : Calls Try.prog 61 #[.int .u64 c] w fun e w' => e = .returned (.int .i64 (c / 8)) ∧ w = w' := by
  have hv := value_any c w h
  have hcv2 : wrap64 (c / 8) = c / 8 := by obtain ⟨h0, h1⟩ := h; unfold wrap64; omega
  go_enter Try.func61, Try.ntmps61
  go_wp2_with fail
  refine hv.mono ?_; rintro e w' ⟨rfl, rfl⟩
  go_wp2_with fail
  go_ret
  exact ⟨kp.ri hcv2, rfl⟩
section
variable {w w0 wr w' : World} {p q mb pb : Nat} {m : Int} {s s' : S} {C : Ob} {N K : Nat → Prop}
/-- the map is written -/
theorem XX.put (fC : Fr C) {wr : World} (h : XX w0 N p q mb m s C wr) {D : DataW Unit} (hD : wr.ownsMap Try.prog 2 (plainElem (H := Unit) Try.prog 37) mb s.v.length D) (hv : VM D s.v) {i c : Int} (hi : pm.look s.v i = none) {w7 : World}
    (hm : w7.ownsMap Try.prog 2 (plainElem (H := Unit) Try.prog 37) mb (s.v.length + 1) (D.put (CK i) (.lit (.int .u64 c)))) (g : wr.grownBy w7 (some mb)) : XX w0 N p q mb m ⟨s.h, s.a, s.v ++ [(i, c)]⟩ C w7 := by
  obtain ⟨D', hD', hv', up, hz⟩ := h.vars fC
  exact up _ _ w7 (by rw [List.length_append]; exact hm) (hv.put hD.isMap hi) (rpt.size_new hD hv hi (rpt.size_same hD hv hD' hv' hz)) g
/-- what a node's call answers -/
def PutsN (w0 : World) (N : Nat → Prop) (p q mb : Nat) (m : Int) (C : Ob) (r : Int × Int × S) (e : Ending) (w' : World) : Prop :=
  e = .returned (.tuple #[.int .u64 r.1, .int .i64 r.2.1]) ∧ XX w0 N p q mb m r.2.2 C w'
theorem PutsN.of {r : Int × Int × S} {c e1 : Int} {s' : S} (h : r = (c, e1, s')) (hn : XX w0 N p q mb m s' C w') : PutsN w0 N p q mb m C r (.returned (.tuple #[.int .u64 c, .int .i64 e1])) w' := by
  subst h; exact ⟨rfl, hn⟩
set_option maxRecDepth 100000 in
set_option maxHeartbeats 1000000 in
theorem variable_old (fC : Fr C) (n : ByteArray) (i re im own : Int) (h : XX w0 N p q mb m s (PK pb p q mb C) wr) (hi : I64 i) {c0 : Int} (hl : pm.look s.v i = some c0) :
    Calls Try.prog 81 #[.pointer (some ⟨pb, 0, none⟩), .int .i64 i, .int .i64 own] wr (PutsN w0 N p q mb m (PK pb p q mb C) (put m (.mk 1 n i re im []) own s)) := by
  have X1 := Lib.hid h
  have hput := Lib.hid (show put m (.mk 1 n i re im []) own s = (c0, 0, s) by rw [put, if_neg (by decide), if_neg (by decide), if_neg (by decide), if_pos rfl, hl])
  obtain ⟨b0, b1, b2⟩ := h.putter
  obtain ⟨D, hD, hv, up⟩ := h.vars (frPK fC)
  have hkey : keyOf Try.prog 2 (.int .i64 i) = some (CK i) := keyOf_int_mk Try.underlying2 (WalkArith.wf_i64 (by have := hi.1; have := hi.2; omega))
  have hv2 := hv i
  rw [hl] at hv2
  have HD := Lib.hid hD
  have HV := Lib.hid hv2
  clear h hi hD hv up hv2 hl
  go_enter Try.func81, Try.ntmps81
  have hsome : (some c0).isSome = true := rfl
  go_wp2_with (at_lookup; refine wpList_lookup_own_ok_int _ rfl _ _ 34 rfl 2 37 .u64 law Try.underlying34 Try.underlying37 (zeroC _) mb _ D rfl HD.out _ _ rfl hkey ?_; intro c9 hat hwc; rw [HV.out.1, hsome])
  have hc : c9 = c0 := by
    have h2 := HV.out.2
    rw [hat] at h2
    injection h2 with e; injection e with _ e
  subst hc
  clear hat hwc
  go_ret2
  exact PutsN.of hput.out X1.out
set_option maxRecDepth 100000 in
set_option maxHeartbeats 2000000 in
theorem variable_own (fC : Fr C) (n : ByteArray) (i re im own : Int) (h : XX w0 N p q mb m s (PK pb p q mb C) wr) (hi : I64 i) (hl : pm.look s.v i = none) (h0 : 0 ≤ own) (h1 : own < 1048576) (hv9 : s.v.length < 1000000) :
    Calls Try.prog 81 #[.pointer (some ⟨pb, 0, none⟩), .int .i64 i, .int .i64 own] wr (PutsN w0 N p q mb m (PK pb p q mb C) (put m (.mk 1 n i re im []) own s)) := by
  have X1 := Lib.hid h
  have hput := Lib.hid (show put m (.mk 1 n i re im []) own s = (own * 8, 0, ⟨s.h, s.a, s.v ++ [(i, own * 8)]⟩) by rw [put, if_neg (by decide), if_neg (by decide), if_neg (by decide), if_pos rfl, hl]; dsimp only; rw [if_neg (by omega)])
  obtain ⟨b0, b1, b2⟩ := h.putter
  obtain ⟨D, hD, hv, up⟩ := h.vars (frPK fC)
  have hkey : keyOf Try.prog 2 (.int .i64 i) = some (CK i) := keyOf_int_mk Try.underlying2 (WalkArith.wf_i64 (by have := hi.1; have := hi.2; omega))
  have hv2 := hv i
  rw [hl] at hv2
  have HD := Lib.hid hD
  have HV := Lib.hid hv2
  have HVM := Lib.hid hv
  have HL := Lib.hid hl
  have ht := tagged_any 0 own wr (by omega) (by omega) h0 (by omega)
  rw [show jn 0 own = own * 8 by unfold jn; omega] at ht
  have hne : (own == -1) = false := by rw [beq_eq_false_iff_ne]; omega
  have hwf : (Lit.int .u64 (own * 8)).wf = true := WalkArith.wf_u64 (by omega)
  have HW := Lib.hid hwf
  have HK := Lib.hid hkey
  have hnone : (none : Option Int).isSome = false := rfl
  have HV9 := Lib.hid (show s.v.length < maxLen by unfold maxLen; omega)
  clear h hi hD hv up hv2 hl hwf hv9 h0 h1
  go_enter Try.func81, Try.ntmps81
  go_wp2_with (at_lookup; refine wpList_lookup_own_ok_int _ rfl _ _ 34 rfl 2 37 .u64 law Try.underlying34 Try.underlying37 (zeroC _) mb _ D rfl HD.out _ _ rfl hkey ?_; intro c9 hat hwc; rw [HV.out.1, hnone])
  refine ht.mono ?_; rintro e w' ⟨rfl, rfl⟩
  clear hat hwc
  go_wp2_with (at_mapUpdate; refine wpList_mapUpdate_own _ rfl _ _ _ 34 rfl 2 37 law Try.underlying34 _ mb s.v.length D rfl HD.out HV9.out _ _ _ rfl rfl HK.out _ [] (plainElem_int Try.underlying37 HW.out) ?_)
  intro w7 hm7 hg7
  have X7 := Lib.hid (XX.put (frPK fC) X1.out HD.out HVM.out HL.out hm7 hg7)
  clear hm7 hg7
  go_wp2_with fail
  go_ret2
  exact PutsN.of hput.out X7.out
set_option maxRecDepth 100000 in
set_option maxHeartbeats 2000000 in
theorem variable_new (fC : Fr C) (n : ByteArray) (i re im : Int) (h : XX w0 N p q mb m s (PK pb p q mb C) wr) (hi : I64 i) (hl : pm.look s.v i = none) (hv9 : s.v.length < 1000000) :
    Calls Try.prog 81 #[.pointer (some ⟨pb, 0, none⟩), .int .i64 i, .int .i64 (-1)] wr (PutsN w0 N p q mb m (PK pb p q mb C) (put m (.mk 1 n i re im []) (-1) s)) := by
  have X1 := Lib.hid h
  have hput := Lib.hid (show put m (.mk 1 n i re im []) (-1) s = if (s.h.length : Int) < m then ((s.h.length : Int) * 8, 0, ⟨s.h ++ [(s.h.length : Int) * 8], s.a, s.v ++ [(i, (s.h.length : Int) * 8)]⟩) else (0, 4, s) by rw [put, if_neg (by decide), if_neg (by decide), if_neg (by decide), if_pos rfl, hl]; dsimp only; rw [if_pos (by decide)])
  obtain ⟨b0, b1, b2⟩ := h.putter
  obtain ⟨D, hD, hv, up⟩ := h.vars (frPK fC)
  have hkey : keyOf Try.prog 2 (.int .i64 i) = some (CK i) := keyOf_int_mk Try.underlying2 (WalkArith.wf_i64 (by have := hi.1; have := hi.2; omega))
  have hv2 := hv i
  rw [hl] at hv2
  have HD := Lib.hid hD
  have HV := Lib.hid hv2
  have HL := Lib.hid hl
  have HK := Lib.hid hkey
  have hle := (h.len (frPK fC)).1
  have hvar := pVar (frPK fC) h
  have hnone : (none : Option Int).isSome = false := rfl
  have HV9 := Lib.hid (show s.v.length < maxLen by unfold maxLen; omega)
  clear h hi hD hv up hv2 hl hv9
  by_cases hr : (s.h.length : Int) < m
  · obtain ⟨e1, e2, e3⟩ := px_room (u := (s.h.length : Int) * 8) hr
    rw [e1, e2, e3] at hvar
    have HR := Lib.hid hr
    have ht := fun w => tagged_any 0 (s.h.length : Int) w (by omega) (by omega) (by omega) (by omega)
    rw [show jn 0 (s.h.length : Int) = (s.h.length : Int) * 8 by unfold jn; omega] at ht
    have hwf : (Lit.int .u64 ((s.h.length : Int) * 8)).wf = true := WalkArith.wf_u64 (by omega)
    have HW := Lib.hid hwf
    clear e1 e2 e3 hr X1 hwf
    go_enter Try.func81, Try.ntmps81
    go_wp2_with (at_lookup; refine wpList_lookup_own_ok_int _ rfl _ _ 34 rfl 2 37 .u64 law Try.underlying34 Try.underlying37 (zeroC _) mb _ D rfl HD.out _ _ rfl hkey ?_; intro c9 hat hwc; rw [HV.out.1, hnone])
    refine hvar.mono ?_; rintro e w5 ⟨rfl, x5⟩
    have X5 := Lib.hid x5
    clear hvar b0 b1 b2 hat hwc
    obtain ⟨b0, b1, b2⟩ := x5.putter
    obtain ⟨D5, hD5, hv5, _⟩ := x5.vars (frPK fC)
    have HD5 := Lib.hid hD5
    have HV5 := Lib.hid hv5
    clear x5 hD5 hv5
    go_wp2_with fail
    refine (ht _).mono ?_; rintro e w' ⟨rfl, rfl⟩
    go_wp2_with (at_mapUpdate; refine wpList_mapUpdate_own _ rfl _ _ _ 34 rfl 2 37 law Try.underlying34 _ mb s.v.length D5 rfl HD5.out HV9.out _ _ _ rfl rfl HK.out _ [] (plainElem_int Try.underlying37 HW.out) ?_)
    intro w7 hm7 hg7
    have X7 := Lib.hid (XX.put (frPK fC) X5.out HD5.out HV5.out HL.out hm7 hg7)
    clear hm7 hg7
    go_wp2_with fail
    go_ret2
    exact PutsN.of (by rw [hput.out, if_pos HR.out]) X7.out
  · obtain ⟨e1, e2, e3⟩ := px_none (u := (s.h.length : Int) * 8) hr
    rw [e1, e2, e3] at hvar
    have HR := Lib.hid hr
    clear e1 e2 e3 hr X1
    go_enter Try.func81, Try.ntmps81
    go_wp2_with (at_lookup; refine wpList_lookup_own_ok_int _ rfl _ _ 34 rfl 2 37 .u64 law Try.underlying34 Try.underlying37 (zeroC _) mb _ D rfl HD.out _ _ rfl hkey ?_; intro c9 hat hwc; rw [HV.out.1, hnone])
    refine hvar.mono ?_; rintro e w5 ⟨rfl, x5⟩
    have X5 := Lib.hid x5
    clear x5 hvar hat hwc
    go_wp2_with fail
    go_ret2
    exact PutsN.of (c := 0) (s' := s) (by rw [hput.out, if_neg (by have := HR.out; omega)]) X5.out
/-- words pushed one behind the other -/
def wds (m : Int) : List Int → List Int → Int × List Int
  | [], h => (0, h)
  | u :: r, h => if (h.length : Int) < m then wds m r (h ++ [u]) else (4, h)
def LW (w0 : World) (N : Nat → Prop) (p q mb pb : Nat) (m : Int) (C : Ob) (ws : List Int) (s : S) (g : Nat) (iv : Value) (wr : World) : Prop :=
  ∃ (k : Nat) (h' : List Int), k + g = ws.length ∧ iv = .int .i64 k ∧ wds m (ws.drop k) h' = wds m ws s.h ∧ XX w0 N p q mb m ⟨h', s.a, s.v⟩ (PK pb p q mb C) wr
/-- the words' memory -/
def Wo (C : Ob) (g : Nat) (ws : List Int) : Prop := ∀ wr K, C wr K → ∀ k x, ws[k]? = some x → wr.cell? ⟨g, k, none⟩ = some (.int .u64 x)
def CW (w0 : World) (N : Nat → Prop) (p q mb pb : Nat) (m : Int) (C : Ob) (s : S) (h2 : List Int) (wr : World) : Prop := XX w0 N p q mb m ⟨h2, s.a, s.v⟩ (PK pb p q mb C) wr
theorem XX.side (h : XX w0 N p q mb m s (PK pb p q mb C) wr) : ∃ K, C wr K := by
  obtain ⟨K, K1, K2, a, b, d, e⟩ := h.beside
  exact ⟨K2, b⟩
theorem wo_blk {D : Ob} {g : Nat} {ws : List Int} {t : TypeId} : Wo (Tim D (Blk g (.cells (ws.map (Value.int .u64)).toArray t (0, 0)))) g ws := by
  rintro wr K ⟨K1, K2, _, hb, _⟩ k x hx
  have := hb.1
  simp [World.cell?, this, hx]
set_option maxRecDepth 100000 in
set_option maxHeartbeats 2000000 in
theorem words_any (fC : Fr C) (tag : Int) (ht0 : 0 ≤ tag) (ht6 : tag ≤ 6) (ws : List Int) (g : Nat) (hw : Wo C g ws) (hu : ∀ u ∈ ws, W64 u) (h8 : ws.length ≤ 8) (h : XX w0 N p q mb m s (PK pb p q mb C) wr) (R : Int × Int × S) (hR : R = (if (wds m ws s.h).1 = 0 then jn tag s.h.length else 0, (wds m ws s.h).1, ⟨(wds m ws s.h).2, s.a, s.v⟩)) :
    Calls Try.prog 84 #[.pointer (some ⟨pb, 0, none⟩), .int .i64 tag, .slice (some ⟨g, 0, none⟩) ws.length ws.length] wr (PutsN w0 N p q mb m (PK pb p q mb C) R) := by
  have X1 := Lib.hid h
  have HR := Lib.hid hR
  obtain ⟨b0, b1, b2⟩ := h.putter
  have hlen := pLen (frPK fC) h
  have hle := (h.len (frPK fC)).1
  have HU := Lib.hid hu
  have HWO := Lib.hid hw
  have HT := Lib.hid (show 0 ≤ tag ∧ tag ≤ 6 from ⟨ht0, ht6⟩)
  clear h hu hw ht0 ht6 hR
  obtain ⟨z, hz⟩ : ∃ z, z = s.h.length := ⟨_, rfl⟩
  rw [← hz] at hlen hle
  have HZ := Lib.hid hz
  clear hz
  go_enter Try.func84, Try.ntmps84
  go_wp2_with fail
  refine hlen.mono ?_; rintro e w' ⟨rfl, rfl⟩
  clear hlen b0 b1 b2
  go_wp2_with fail
  go_loopg [20] ws.length (LW w0 N p q mb pb m C ws s)
  case atStart => exact ⟨0, s.h, by omega, rfl, rfl, X1.out⟩
  case round =>
    obtain ⟨k9, h', hkg, rfl, hst, x⟩ := hrel
    by_cases hlt : k9 < ws.length
    · obtain ⟨K, cK⟩ := x.side
      obtain ⟨b0, b1, b2⟩ := x.putter
      have hd : ws.drop k9 = ws[k9] :: ws.drop (k9 + 1) := List.drop_eq_getElem_cons hlt
      have hx := HWO.out _ _ cK k9 ws[k9] (List.getElem?_eq_getElem hlt)
      have hu := HU.out ws[k9] (List.getElem_mem hlt)
      rw [hd, wds] at hst
      obtain ⟨g9, rfl⟩ : ∃ g9, gk = g9 + 1 := ⟨gk - 1, by omega⟩
      have hki : (k9 : Int) < (ws.length : Int) := by omega
      have hpush := pPush (frPK fC) ws[k9] hu x
      dsimp only at hpush
      generalize ws[k9] = u at *
      have HS := Lib.hid hst
      have HX := Lib.hid x
      by_cases hr : (h'.length : Int) < m
      · obtain ⟨e1, e2, e3⟩ := px_room (u := u) hr
        rw [e1, e2, e3] at hpush
        have HRR := Lib.hid hr
        clear hst cK hd hu e1 e2 e3 hr x
        go_wp2_with fail
        refine hpush.mono ?_; rintro e w5 ⟨rfl, x5⟩
        have X5 := Lib.hid x5
        clear x5 hpush b0 b1 b2 hx
        go_wp2_with fail
        go_roundg g9
        case measure => omega
        case rel =>
          have h2 := HS.out
          rw [if_pos HRR.out] at h2
          exact ⟨k9 + 1, _, by omega, by go_num, h2, X5.out⟩
      · obtain ⟨e1, e2, e3⟩ := px_none (u := u) hr
        rw [e1, e2, e3] at hpush
        have HRR := Lib.hid hr
        clear hst cK hd hu e1 e2 e3 hr x
        go_wp2_with fail
        refine hpush.mono ?_; rintro e w5 ⟨rfl, x5⟩
        have X5 := Lib.hid x5
        clear x5 hpush b0 b1 b2 hx
        go_wp2_with fail
        go_ret2
        have h2 := HS.out
        rw [if_neg (by have := HRR.out; omega)] at h2
        have hr := HR.out
        rw [← h2] at hr
        exact PutsN.of hr X5.out
    · have hd : ws.drop k9 = [] := List.drop_eq_nil_of_le (by omega)
      rw [hd, wds] at hst
      have HS := Lib.hid hst
      have XW := Lib.hid x
      have hki : ¬ (k9 : Int) < (ws.length : Int) := by omega
      have ht := tagged_any tag (z : Int) wr HT.out.1 HT.out.2 (by omega) (by omega)
      clear hst x hd
      go_wp2_with fail
      refine ht.mono ?_; rintro e w' ⟨rfl, rfl⟩
      go_wp2_with fail
      go_ret2
      have hr := HR.out
      rw [← HS.out, ← HZ.out] at hr
      exact PutsN.of hr XW.out
/-! ### a compound -/
def K1 (w0 : World) (N : Nat → Prop) (p q mb pb : Nat) (m : Int) (C : Ob) (len : Nat) (h1 : List Int) (a : List ByteArray) (v : List (Int × Int)) (g : Nat) (ev iv : Value) (wr : World) : Prop :=
  ∃ (k : Nat) (l' : List Int) (e : Int), k + g = len ∧ iv = .int .i64 k ∧ ev = .int .i64 e ∧ ((e = 0 ∧ more m g l' = more m len h1) ∨ (e = 4 ∧ more m len h1 = (4, l') ∧ ¬ (l'.length : Int) < m)) ∧ XX w0 N p q mb m ⟨l', a, v⟩ (PK pb p q mb C) wr
def K2 (w0 : World) (N : Nat → Prop) (p q mb pb : Nat) (m : Int) (C : Ob) (len : Nat) (h1 : List Int) (a : List ByteArray) (v : List (Int × Int)) (ev : Value) (wr : World) : Prop :=
  ∃ (l' : List Int) (e : Int), ev = .int .i64 e ∧ more m len h1 = (e, l') ∧ XX w0 N p q mb m ⟨l', a, v⟩ (PK pb p q mb C) wr
theorem XX.tcell {b : Nat} {k : Int} {n : ByteArray} {i re im : Int} {a : Option Addr} {len c : Nat} {D : Ob} (h : XX w0 N p q mb m s (PK pb p q mb (Tim D (Blk b (rpt.BT k n i re im a len c)))) wr) :
    wr.cell? ⟨b, 0, none⟩ = some (.int .i64 k) ∧ wr.cell? ⟨b, 1, none⟩ = some (.string n) ∧ wr.cell? ⟨b, 2, none⟩ = some (.int .i64 i) ∧ wr.cell? ⟨b, 3, none⟩ = some (.int .u64 re) ∧ wr.cell? ⟨b, 4, none⟩ = some (.int .u64 im) ∧ wr.cell? ⟨b, 5, none⟩ = some (.slice a len c) := by
  obtain ⟨K, K1, K2, _, hb, _, _⟩ := h.side
  have := hb.1
  refine ⟨?_, ?_, ?_, ?_, ?_, ?_⟩ <;> simp [World.cell?, this]
/-- one block more beside the putter -/
theorem XX.more (fC : Fr C) (h : XX w0 N p q mb m s (PK pb p q mb C) wr) (o : Obj) : XX w0 N p q mb m s (PK pb p q mb (Tim C (Blk wr.heap.size o))) (wr.alloc o) := by
  obtain ⟨K, ⟨K1, K2, a, b, d, e⟩, k, sub⟩ := h.alloc (frPK fC) o
  exact ⟨K, ⟨K1, K2, a, b.right_, d, e⟩, k, sub⟩
theorem XX.back {D : Ob} (h : XX w0 N p q mb m s (PK pb p q mb (Tim C D)) wr) : XX w0 N p q mb m s (PK pb p q mb C) wr := by
  obtain ⟨K, ⟨K1, K2, a, ⟨K3, K4, b, ⟨K5, K6, c, g, d3, e3⟩, d2, e2⟩, d, e⟩, k, sub⟩ := h
  refine ⟨fun i => K1 i ∨ (K3 i ∨ K5 i), ⟨K1, fun i => K3 i ∨ K5 i, a, ⟨K3, K5, b, c, fun i h1 h2 => d2 i h1 ((e3 i).2 (Or.inl h2)), fun _ => Iff.rfl⟩, fun i h1 h2 => d i h1 ((e2 i).2 (h2.imp id fun h => (e3 i).2 (Or.inl h))), fun _ => Iff.rfl⟩, k, fun i hi => sub i ((e i).2 (hi.imp id fun h => (e2 i).2 (h.imp id fun h => (e3 i).2 (Or.inl h))))⟩
set_option maxRecDepth 100000 in
set_option maxHeartbeats 4000000 in
theorem compound_any (fC : Fr C) (n : ByteArray) (i re im : Int) (a : Option Addr) (l : List Tm) (c : Nat) (hn : n.size ≤ 200) (hl1 : 1 ≤ l.length) (hl2 : l.length ≤ 20) (ha : s.a.length < 4096) (h : XX w0 N p q mb m s (PK pb p q mb C) wr) (own : Int) (R : Int × Int × S) (hR : R = nodeM m (.mk 5 n i re im l) own s) :
    Calls Try.prog 85 #[.pointer (some ⟨pb, 0, none⟩), .agg #[.int .i64 5, .string n, .int .i64 i, .int .u64 re, .int .u64 im, .slice a l.length c]] wr (PutsN w0 N p q mb m (PK pb p q mb C) R) := by
  have X1 := Lib.hid (h.more fC (rpt.BT 5 n i re im a l.length c))
  obtain ⟨tb, htb⟩ : ∃ tb, tb = wr.heap.size := ⟨_, rfl⟩
  obtain ⟨Q, hQ⟩ : ∃ Q : Ob, Q = Tim C (Blk tb (rpt.BT 5 n i re im a l.length c)) := ⟨_, rfl⟩
  have fQ := Lib.hid (show Fr Q by rw [hQ]; exact fC.tim (Fr.blk _ _))
  obtain ⟨w1, hw1⟩ : ∃ w1, w1 = wr.alloc (.cells #[.int .i64 5, .string n, .int .i64 i, .int .u64 re, .int .u64 im, .slice a l.length c] 36) := ⟨_, rfl⟩
  rw [← htb, ← hQ, ← hw1] at X1
  obtain ⟨q1, q2, q3, _, _⟩ := name_ok hn ha
  have hnum : ∀ w2, XX w0 N p q mb m s (PK pb p q mb Q) w2 → Calls Try.prog 22 #[.pointer (some ⟨q, 0, none⟩), .string n] w2 fun e w' => e = .returned (.tuple #[.int .i64 (nv s.a n), .int .i64 0]) ∧ XX w0 N p q mb m ⟨s.h, nx s.a n, s.v⟩ (PK pb p q mb Q) w' := fun w2 x => by
    have := pNum (frPK fQ.out) n hn x
    rw [q1] at this; exact this
  have BK := Lib.hid (fun (s' : S) (w' : World) (x : XX w0 N p q mb m s' (PK pb p q mb Q) w') => XX.back (C := C) (show XX w0 N p q mb m s' (PK pb p q mb (Tim C _)) w' from hQ ▸ x))
  have TC := Lib.hid (fun (s' : S) (w' : World) (x : XX w0 N p q mb m s' (PK pb p q mb Q) w') => XX.tcell (D := C) (k := 5) (n := n) (i := i) (re := re) (im := im) (a := a) (len := l.length) (c := c) (b := tb) (show XX w0 N p q mb m s' (PK pb p q mb (Tim C _)) w' from hQ ▸ x))
  have HR := Lib.hid (show R = if (s.h.length : Int) < m then
        (match more m l.length (s.h ++ [jn 6 (nv s.a n * 256 + l.length)]) with
          | (e, h) => if e = 0 then (jn 1 s.h.length, 0, ⟨h, nx s.a n, s.v⟩) else (0, e, ⟨h, nx s.a n, s.v⟩))
      else (0, 4, ⟨s.h, nx s.a n, s.v⟩) by rw [hR, nodeM, if_pos rfl])
  obtain ⟨b0, b1, b2⟩ := X1.out.putter
  obtain ⟨y0, y1, y2, y3, y4, y5⟩ := TC.out _ _ X1.out
  obtain ⟨j, hj⟩ : ∃ j, j = nv s.a n := ⟨_, rfl⟩
  rw [← hj] at hnum q2 q3 HR
  have HJ := Lib.hid hj
  have HH := Lib.hid h
  clear h hR hj hQ fC q1 ha hn
  go_enter Try.func85, Try.ntmps85
  go_wp2_with fail
  rw [← htb, ← hw1]
  have hX1 := X1.out
  have SC : ∀ s' w', XX w0 N p q mb m s' (PK pb p q mb Q) w' → w'.cell? ⟨pb, 1, none⟩ = some (.pointer (some ⟨q, 0, none⟩)) ∧ w'.cell? ⟨tb, 1, none⟩ = some (.string n) := fun s' w' x => ⟨x.putter.2.1, (TC.out _ _ x).2.1⟩
  clear hw1 htb b0 b1 b2 y0 y1 y2 y3 y4 y5
  go_region_held3 (fun w' => w'.cell? ⟨pb, 1, none⟩ = some (.pointer (some ⟨q, 0, none⟩)) ∧ w'.cell? ⟨tb, 1, none⟩ = some (.string n))
    (first | exact SC _ _ (by assumption) | exact SC _ _ (XX.drew (frPK fQ.out) (by assumption)) | go_keep)
    (first | (go_at_call 22; refine (hnum _ ?_).mono ?_; (first | assumption | exact XX.drew (frPK fQ.out) (by assumption)); rintro e w2 ⟨rfl, x2⟩))
  clear SC hnum hX1 X1
  have X2 := Lib.hid x2
  obtain ⟨b0, b1, b2⟩ := x2.putter
  obtain ⟨y0, y1, y2, y3, y4, y5⟩ := TC.out _ _ x2
  have hle := (x2.len (frPK fQ.out)).1
  dsimp only at hle
  have hfun := functor_any j l.length w2 ⟨by omega, by omega⟩ ⟨by omega, by omega⟩
  have e1 : fv j l.length = jn 6 (j * 256 + l.length) := by unfold fv; rw [if_pos ⟨q2, q3, by omega, by omega⟩]
  have e2 : fo j l.length = true := decide_eq_true ⟨q2, q3, by omega, by omega⟩
  rw [e1, e2] at hfun
  have hpush := pPush (frPK fQ.out) (jn 6 (j * 256 + l.length)) (jn_w _ (by decide) (by decide)) x2
  dsimp only at hpush
  clear x2 e1 e2
  go_wp2_with fail
  refine hfun.mono ?_; rintro e w' ⟨rfl, rfl⟩
  go_wp2_with fail
  refine hpush.mono ?_; rintro e w3 ⟨rfl, x3⟩
  clear hfun hpush y0 y1 y2 y3 y4 y5 X2 b0 b1 b2
  obtain ⟨b0, b1, b2⟩ := x3.putter
  obtain ⟨y0, y1, y2, y3, y4, y5⟩ := TC.out _ _ x3
  obtain ⟨P, hP⟩ : ∃ P : Int × List Int, P = (pe s.h m, px s.h m (jn 6 (j * 256 + l.length))) := ⟨_, rfl⟩
  obtain ⟨pz, hpz⟩ : ∃ pz, pz = pv s.h m := ⟨_, rfl⟩
  obtain ⟨e3, h3⟩ := P
  injection hP with he3 hh3
  rw [← he3, ← hpz]
  rw [← hh3] at x3
  have hz : s.h.length < 2305843009213693952 := by omega
  have HZ := Lib.hid (show 0 ≤ pz ∧ pz < 2305843009213693952 by rw [hpz]; unfold pv; split <;> omega)
  have hM : (e3 = 0 ∧ more m l.length h3 = more m l.length (s.h ++ [jn 6 (j * 256 + l.length)]) ∧ (s.h.length : Int) < m ∧ pz = s.h.length) ∨ (e3 = 4 ∧ ¬ (s.h.length : Int) < m ∧ h3 = s.h) := by
    rw [he3, hh3, hpz]; unfold pe px pv
    by_cases hr : (s.h.length : Int) < m
    · rw [if_pos hr, if_pos hr, if_pos hr]; exact Or.inl ⟨rfl, rfl, hr, rfl⟩
    · rw [if_neg hr, if_neg hr, if_neg hr]; exact Or.inr ⟨rfl, hr, rfl⟩
  have HM := Lib.hid hM
  have X3 := Lib.hid x3
  clear x3 he3 hh3 hpz hM
  go_upto_block 0 with fail
  go_cut [7] (fun ev wx => ∃ e9 h9, ev = .int .i64 e9 ∧ ((e3 = 0 ∧ more m l.length h3 = (e9, h9)) ∨ (e3 = 4 ∧ e9 = 4 ∧ h9 = s.h)) ∧ XX w0 N p q mb m ⟨h9, nx s.a n, s.v⟩ (PK pb p q mb Q) wx)
  case first =>
    go_wp2_with fail
    go_loopg [7, 44] l.length (fun (g : Nat) (ev iv : Value) (wx : World) => ∃ (k : Nat) (e9 : Int) (h9 : List Int), k + g = l.length ∧ iv = .int .i64 k ∧ ev = .int .i64 e9 ∧ ((e3 = 0 ∧ e9 = 0 ∧ more m g h9 = more m l.length h3) ∨ (e3 = 0 ∧ e9 = 4 ∧ more m l.length h3 = (4, h9) ∧ ¬ (h9.length : Int) < m) ∨ (e3 = 4 ∧ e9 = 4 ∧ h9 = s.h)) ∧ XX w0 N p q mb m ⟨h9, nx s.a n, s.v⟩ (PK pb p q mb Q) wx)
    case atStart =>
      refine ⟨0, e3, h3, by omega, rfl, rfl, ?_, X3.out⟩
      rcases HM.out with h | h
      · exact Or.inl ⟨h.1, h.1, rfl⟩
      · exact Or.inr (Or.inr ⟨h.1, h.1, h.2.2⟩)
    case round =>
      obtain ⟨k9, e9, h9, hkg, rfl, rfl, hst, x⟩ := hrel
      clear b0 b1 b2 y0 y1 y2 y3 y4 y5
      obtain ⟨b0, b1, b2⟩ := x.putter
      have HST := Lib.hid hst
      have XW := Lib.hid x
      by_cases hlt : k9 < l.length
      · as_aux_lemma =>
        obtain ⟨g9, rfl⟩ : ∃ g9, gk = g9 + 1 := ⟨gk - 1, by omega⟩
        have hki : (k9 : Int) < (l.length : Int) := by omega
        have hvar := pVar (frPK fQ.out) x
        dsimp only at hvar
        clear x hst
        go_wp2_with fail
        refine hvar.mono ?_; rintro e w5 ⟨rfl, x5⟩
        have X5 := Lib.hid x5
        clear x5 hvar b0 b1 b2
        go_wp2_with fail
        go_roundg g9
        case measure => omega
        case rel =>
          refine ⟨k9 + 1, _, _, by omega, by go_num, rfl, ?_, X5.out⟩
          rcases HST.out with ⟨u1, u2, u3⟩ | ⟨u1, u2, u3, u4⟩ | ⟨u1, u2, u3⟩
          · rw [more] at u3
            by_cases hr : (h9.length : Int) < m
            · obtain ⟨v1, v2, v3⟩ := px_room (u := (h9.length : Int) * 8) hr
              rw [if_pos hr] at u3
              rw [v1, v3]
              exact Or.inl ⟨u1, rfl, u3⟩
            · obtain ⟨v1, v2, v3⟩ := px_none (u := (h9.length : Int) * 8) hr
              rw [if_neg hr] at u3
              rw [v1, v3]
              exact Or.inr (Or.inl ⟨u1, rfl, u3.symm, by omega⟩)
          · obtain ⟨v1, v2, v3⟩ := px_none (m := m) (u := (h9.length : Int) * 8) (l := h9) (by omega)
            rw [v1, v3]
            exact Or.inr (Or.inl ⟨u1, rfl, u3, by omega⟩)
          · have hr : ¬ (h9.length : Int) < m := by
              rcases HM.out with h | h
              · omega
              · rw [u3]; have := h.2.1; omega
            obtain ⟨v1, v2, v3⟩ := px_none (u := (h9.length : Int) * 8) hr
            rw [v1, v3]
            exact Or.inr (Or.inr ⟨u1, rfl, u3⟩)
      · as_aux_lemma =>
        obtain rfl : gk = 0 := by omega
        have hki : ¬ (k9 : Int) < (l.length : Int) := by omega
        clear x hst
        go_wp2_with fail
        go_meet
        refine ⟨e9, h9, rfl, ?_, XW.out⟩
        rcases HST.out with ⟨u1, u2, u3⟩ | ⟨u1, u2, u3, u4⟩ | ⟨u1, u2, u3⟩
        · exact Or.inl ⟨u1, by rw [← u3, u2]; rfl⟩
        · exact Or.inl ⟨u1, by rw [u3, u2]⟩
        · exact Or.inr ⟨u1, u2, u3⟩
  case rest =>
    obtain ⟨e9, h9, rfl, hst, x⟩ := hcut
    have HST := Lib.hid hst
    have X9 := Lib.hid (BK.out _ _ x)
    clear x hst b0 b1 b2 y0 y1 y2 y3 y4 y5
    have hr := HR.out
    by_cases he : e9 = 0
    · subst he
      have ht := fun w => tagged_any 1 pz w (by omega) (by omega) HZ.out.1 HZ.out.2
      clear hr
      go_wp2_with fail
      refine (ht _).mono ?_; rintro e w' ⟨rfl, rfl⟩
      go_wp2_with fail
      go_ret2
      have hr := HR.out
      rcases HM.out with ⟨u1, u2, u3, u4⟩ | ⟨u1, u2, u3⟩
      · rcases HST.out with ⟨_, v2⟩ | ⟨v1, _⟩
        · rw [if_pos u3, ← u2, v2] at hr
          dsimp only at hr
          rw [if_pos rfl] at hr
          rw [u4]
          exact PutsN.of hr X9.out
        · omega
      · rcases HST.out with ⟨v1, _⟩ | ⟨_, v2, _⟩ <;> omega
    · have hb : (e9 != 0) = true := by simpa using he
      have HE := Lib.hid he
      clear hr he
      go_wp2_with fail
      go_ret2
      have hr := HR.out
      have he := HE.out
      rcases HM.out with ⟨u1, u2, u3, u4⟩ | ⟨u1, u2, u3⟩
      · rcases HST.out with ⟨_, v2⟩ | ⟨v1, _⟩
        · rw [if_pos u3, ← u2, v2] at hr
          dsimp only at hr
          rw [if_neg he] at hr
          exact PutsN.of hr X9.out
        · omega
      · rcases HST.out with ⟨v1, _⟩ | ⟨_, v2, v3⟩
        · omega
        · rw [if_neg (by omega)] at hr
          have x9 := X9.out
          rw [v3] at x9
          rw [v2]
          exact PutsN.of hr x9
/-! ### a node -/
set_option maxRecDepth 100000 in
set_option maxHeartbeats 4000000 in
theorem node_1 (fC : Fr C) (n : ByteArray) (i re im : Int) (a : Option Addr) (len c : Nat) (l : List Tm) (own : Int) (hi : I64 i) (ho : own = -1 ∨ (0 ≤ own ∧ own < 1048576)) (hv : s.v.length < 1000000) (h : XX w0 N p q mb m s (PK pb p q mb C) wr) (R : Int × Int × S) (hR : R = nodeM m (.mk 1 n i re im l) own s) :
    Calls Try.prog 60 #[.pointer (some ⟨pb, 0, none⟩), .agg #[.int .i64 1, .string n, .int .i64 i, .int .u64 re, .int .u64 im, .slice a len c], .int .i64 own] wr (PutsN w0 N p q mb m (PK pb p q mb C) R) := by
  have hP : R = put m (.mk 1 n i re im []) own s := hR
  have X1 := Lib.hid (h.more fC (rpt.BT 1 n i re im a len c))
  obtain ⟨tb, htb⟩ : ∃ tb, tb = wr.heap.size := ⟨_, rfl⟩
  obtain ⟨Q, hQ⟩ : ∃ Q : Ob, Q = Tim C (Blk tb (rpt.BT 1 n i re im a len c)) := ⟨_, rfl⟩
  have fQ := Lib.hid (show Fr Q by rw [hQ]; exact fC.tim (Fr.blk _ _))
  obtain ⟨w1, hw1⟩ : ∃ w1, w1 = wr.alloc (.cells #[.int .i64 1, .string n, .int .i64 i, .int .u64 re, .int .u64 im, .slice a len c] 36) := ⟨_, rfl⟩
  rw [← htb, ← hQ, ← hw1] at X1
  have BK := Lib.hid (fun (s' : S) (w' : World) (x : XX w0 N p q mb m s' (PK pb p q mb Q) w') => XX.back (C := C) (show XX w0 N p q mb m s' (PK pb p q mb (Tim C _)) w' from hQ ▸ x))
  have TC := Lib.hid (fun (s' : S) (w' : World) (x : XX w0 N p q mb m s' (PK pb p q mb Q) w') => XX.tcell (D := C) (k := 1) (n := n) (i := i) (re := re) (im := im) (a := a) (len := len) (c := c) (b := tb) (show XX w0 N p q mb m s' (PK pb p q mb (Tim C _)) w' from hQ ▸ x))
  obtain ⟨y0, y1, y2, y3, y4, y5⟩ := TC.out _ _ X1.out
  obtain ⟨b0, b1, b2⟩ := X1.out.putter
  have HW := Lib.hid (And.intro htb hw1)
  have hcall : Calls Try.prog 81 #[.pointer (some ⟨pb, 0, none⟩), .int .i64 i, .int .i64 own] w1 (PutsN w0 N p q mb m (PK pb p q mb Q) R) := by
    rw [hP]
    cases e : pm.look s.v i with
    | some c0 => exact variable_old fQ.out n i re im own X1.out hi e
    | none =>
      rcases ho with rfl | ⟨h0, h1⟩
      · exact variable_new fQ.out n i re im X1.out hi e hv
      · exact variable_own fQ.out n i re im own X1.out hi e h0 h1 hv
  clear h hR hP hQ fC ho hv hi htb hw1
  go_enter Try.func60, Try.ntmps60
  go_wp2_with (rw [← HW.out.1, ← HW.out.2])
  refine hcall.mono ?_; rintro e w2 ⟨rfl, x2⟩
  have X2 := Lib.hid (BK.out _ _ x2)
  clear x2 hcall y0 y1 y2 y3 y4 y5 b0 b1 b2
  go_wp2_with fail
  go_ret2
  exact ⟨rfl, X2.out⟩
set_option maxRecDepth 100000 in
set_option maxHeartbeats 4000000 in
theorem node_2 (fC : Fr C) (n : ByteArray) (i re im : Int) (a : Option Addr) (len c : Nat) (l : List Tm) (own : Int) (hn : n.size ≤ 200) (ha : s.a.length < 4096) (h : XX w0 N p q mb m s (PK pb p q mb C) wr) (R : Int × Int × S) (hR : R = nodeM m (.mk 2 n i re im l) own s) :
    Calls Try.prog 60 #[.pointer (some ⟨pb, 0, none⟩), .agg #[.int .i64 2, .string n, .int .i64 i, .int .u64 re, .int .u64 im, .slice a len c], .int .i64 own] wr (PutsN w0 N p q mb m (PK pb p q mb C) R) := by
  have hP : R = put m (.mk 2 n i re im []) own s := hR
  have X1 := Lib.hid (h.more fC (rpt.BT 2 n i re im a len c))
  obtain ⟨tb, htb⟩ : ∃ tb, tb = wr.heap.size := ⟨_, rfl⟩
  obtain ⟨Q, hQ⟩ : ∃ Q : Ob, Q = Tim C (Blk tb (rpt.BT 2 n i re im a len c)) := ⟨_, rfl⟩
  have fQ := Lib.hid (show Fr Q by rw [hQ]; exact fC.tim (Fr.blk _ _))
  obtain ⟨w1, hw1⟩ : ∃ w1, w1 = wr.alloc (.cells #[.int .i64 2, .string n, .int .i64 i, .int .u64 re, .int .u64 im, .slice a len c] 36) := ⟨_, rfl⟩
  rw [← htb, ← hQ, ← hw1] at X1
  have BK := Lib.hid (fun (s' : S) (w' : World) (x : XX w0 N p q mb m s' (PK pb p q mb Q) w') => XX.back (C := C) (show XX w0 N p q mb m s' (PK pb p q mb (Tim C _)) w' from hQ ▸ x))
  have TC := Lib.hid (fun (s' : S) (w' : World) (x : XX w0 N p q mb m s' (PK pb p q mb Q) w') => XX.tcell (D := C) (k := 2) (n := n) (i := i) (re := re) (im := im) (a := a) (len := len) (c := c) (b := tb) (show XX w0 N p q mb m s' (PK pb p q mb (Tim C _)) w' from hQ ▸ x))
  obtain ⟨y0, y1, y2, y3, y4, y5⟩ := TC.out _ _ X1.out
  obtain ⟨b0, b1, b2⟩ := X1.out.putter
  have HW := Lib.hid (And.intro htb hw1)
  obtain ⟨q1, q2, q3, _, _⟩ := name_ok hn ha
  have hput := Lib.hid (show R = (jn 2 (nv s.a n), 0, ⟨s.h, nx s.a n, s.v⟩) by rw [hP, put, if_pos rfl, if_pos q1])
  have hnum : ∀ w2, XX w0 N p q mb m s (PK pb p q mb Q) w2 → Calls Try.prog 22 #[.pointer (some ⟨q, 0, none⟩), .string n] w2 fun e w' => e = .returned (.tuple #[.int .i64 (nv s.a n), .int .i64 0]) ∧ XX w0 N p q mb m ⟨s.h, nx s.a n, s.v⟩ (PK pb p q mb Q) w' := fun w2 x => by
    have := pNum (frPK fQ.out) n hn x
    rw [q1] at this; exact this
  obtain ⟨j, hj⟩ : ∃ j, j = nv s.a n := ⟨_, rfl⟩
  rw [← hj] at hnum q2 q3 hput
  have SC : ∀ s' w', XX w0 N p q mb m s' (PK pb p q mb Q) w' → w'.cell? ⟨pb, 1, none⟩ = some (.pointer (some ⟨q, 0, none⟩)) ∧ w'.cell? ⟨tb, 1, none⟩ = some (.string n) := fun s' w' x => ⟨x.putter.2.1, (TC.out _ _ x).2.1⟩
  have hX1 := X1.out
  have HJ := Lib.hid hj
  have ht := fun w => tagged_any 2 j w (by omega) (by omega) q2 (by omega)
  clear h hR hP hQ fC hn ha htb hw1 hj b0 b1 b2 y1 y2 y3 y4 y5 q1
  go_enter Try.func60, Try.ntmps60
  go_wp2_with (rw [← HW.out.1, ← HW.out.2])
  clear y0
  go_region_held3 (fun w' => w'.cell? ⟨pb, 1, none⟩ = some (.pointer (some ⟨q, 0, none⟩)) ∧ w'.cell? ⟨tb, 1, none⟩ = some (.string n))
    (first | exact SC _ _ (by assumption) | exact SC _ _ (XX.drew (frPK fQ.out) (by assumption)) | go_keep)
    (first | (go_at_call 22; refine (hnum _ ?_).mono ?_; (first | assumption | exact XX.drew (frPK fQ.out) (by assumption)); rintro e w2 ⟨rfl, x2⟩))
  have X2 := Lib.hid (BK.out _ _ x2)
  clear SC hnum hX1 x2
  go_wp2_with fail
  refine (ht _).mono ?_; rintro e w' ⟨rfl, rfl⟩
  go_wp2_with fail
  go_ret2
  exact PutsN.of hput.out X2.out
set_option maxRecDepth 100000 in
set_option maxHeartbeats 4000000 in
theorem node_3 (fC : Fr C) (n : ByteArray) (i re im : Int) (a : Option Addr) (len c : Nat) (l : List Tm) (own : Int) (hi : I64 i) (h : XX w0 N p q mb m s (PK pb p q mb C) wr) (R : Int × Int × S) (hR : R = nodeM m (.mk 3 n i re im l) own s) :
    Calls Try.prog 60 #[.pointer (some ⟨pb, 0, none⟩), .agg #[.int .i64 3, .string n, .int .i64 i, .int .u64 re, .int .u64 im, .slice a len c], .int .i64 own] wr (PutsN w0 N p q mb m (PK pb p q mb C) R) := by
  have hP : R = put m (.mk 3 n i re im []) own s := hR
  have X1 := Lib.hid (h.more fC (rpt.BT 3 n i re im a len c))
  obtain ⟨tb, htb⟩ : ∃ tb, tb = wr.heap.size := ⟨_, rfl⟩
  obtain ⟨Q, hQ⟩ : ∃ Q : Ob, Q = Tim C (Blk tb (rpt.BT 3 n i re im a len c)) := ⟨_, rfl⟩
  have fQ := Lib.hid (show Fr Q by rw [hQ]; exact fC.tim (Fr.blk _ _))
  obtain ⟨w1, hw1⟩ : ∃ w1, w1 = wr.alloc (.cells #[.int .i64 3, .string n, .int .i64 i, .int .u64 re, .int .u64 im, .slice a len c] 36) := ⟨_, rfl⟩
  rw [← htb, ← hQ, ← hw1] at X1
  have BK := Lib.hid (fun (s' : S) (w' : World) (x : XX w0 N p q mb m s' (PK pb p q mb Q) w') => XX.back (C := C) (show XX w0 N p q mb m s' (PK pb p q mb (Tim C _)) w' from hQ ▸ x))
  have TC := Lib.hid (fun (s' : S) (w' : World) (x : XX w0 N p q mb m s' (PK pb p q mb Q) w') => XX.tcell (D := C) (k := 3) (n := n) (i := i) (re := re) (im := im) (a := a) (len := len) (c := c) (b := tb) (show XX w0 N p q mb m s' (PK pb p q mb (Tim C _)) w' from hQ ▸ x))
  obtain ⟨y0, y1, y2, y3, y4, y5⟩ := TC.out _ _ X1.out
  obtain ⟨b0, b1, b2⟩ := X1.out.putter
  have HW := Lib.hid (And.intro htb hw1)
  have hs := fun w => small_any i w hi
  have hwu : W64 (u64 i) := by unfold u64 W64; rw [IntKind.wrap_u64]; omega
  obtain ⟨RW, hRW⟩ : ∃ RW : Int × Int × S, RW = (if (wds m [u64 i] s.h).1 = 0 then jn 4 s.h.length else 0, (wds m [u64 i] s.h).1, ⟨(wds m [u64 i] s.h).2, s.a, s.v⟩) := ⟨_, rfl⟩
  have hwd := words_any (fQ.out.tim (Fr.blk _ _)) 4 (by decide) (by decide) [u64 i] w1.heap.size (wo_blk (D := Q) (t := 25)) (by simpa using hwu) (by simp) (X1.out.more fQ.out _) RW hRW
  have HRW := Lib.hid hRW
  clear hRW
  have H3 := Lib.hid hP
  by_cases hso : so i = true
  · have hput := Lib.hid (show R = (sv i, 0, s) by rw [hP, put, if_neg (by decide), if_pos rfl, if_pos hso])
    rw [hso] at hs
    have X9 := Lib.hid (BK.out _ _ X1.out)
    clear h hR hP hQ fC htb hw1 hi hso H3
    go_enter Try.func60, Try.ntmps60
    go_wp2_with (rw [← HW.out.1, ← HW.out.2])
    refine (hs _).mono ?_; rintro e w' ⟨rfl, rfl⟩
    go_wp2_with fail
    go_ret2
    exact PutsN.of hput.out X9.out
  · have e1 : so i = false := by simpa using hso
    rw [e1] at hs
    have HS := Lib.hid hso
    unfold u64 at hwd
    simp only [List.map_cons, List.map_nil, List.length_singleton] at hwd
    clear h hR hP hQ fC htb hw1 hi hso e1 hwu
    go_enter Try.func60, Try.ntmps60
    go_wp2_with (rw [← HW.out.1, ← HW.out.2])
    refine (hs _).mono ?_; rintro e w' ⟨rfl, rfl⟩
    go_wp2_with fail
    refine hwd.mono ?_; rintro e w2 ⟨rfl, x2⟩
    have X2 := Lib.hid (BK.out _ _ x2.back)
    clear x2 hwd hs y0 y1 y2 y3 y4 y5 b0 b1 b2
    go_wp2_with fail
    go_ret2
    have hR : R = RW := by
      rw [H3.out, HRW.out, put, if_neg (by decide), if_pos rfl, if_neg HS.out]
      simp only [wds]
      by_cases hr : (s.h.length : Int) < m
      · simp only [if_pos hr, if_true]
      · simp only [if_neg hr]; rfl
    rw [hR]
    exact ⟨rfl, X2.out⟩
set_option maxRecDepth 100000 in
set_option maxHeartbeats 4000000 in
theorem node_4 (fC : Fr C) (n : ByteArray) (i re im : Int) (a : Option Addr) (len c : Nat) (l : List Tm) (own : Int) (hr : W64 re) (hi : W64 im) (h : XX w0 N p q mb m s (PK pb p q mb C) wr) (R : Int × Int × S) (hR : R = nodeM m (.mk 4 n i re im l) own s) :
    Calls Try.prog 60 #[.pointer (some ⟨pb, 0, none⟩), .agg #[.int .i64 4, .string n, .int .i64 i, .int .u64 re, .int .u64 im, .slice a len c], .int .i64 own] wr (PutsN w0 N p q mb m (PK pb p q mb C) R) := by
  have hP : R = put m (.mk 4 n i re im []) own s := hR
  have X1 := Lib.hid (h.more fC (rpt.BT 4 n i re im a len c))
  obtain ⟨tb, htb⟩ : ∃ tb, tb = wr.heap.size := ⟨_, rfl⟩
  obtain ⟨Q, hQ⟩ : ∃ Q : Ob, Q = Tim C (Blk tb (rpt.BT 4 n i re im a len c)) := ⟨_, rfl⟩
  have fQ := Lib.hid (show Fr Q by rw [hQ]; exact fC.tim (Fr.blk _ _))
  obtain ⟨w1, hw1⟩ : ∃ w1, w1 = wr.alloc (.cells #[.int .i64 4, .string n, .int .i64 i, .int .u64 re, .int .u64 im, .slice a len c] 36) := ⟨_, rfl⟩
  rw [← htb, ← hQ, ← hw1] at X1
  have BK := Lib.hid (fun (s' : S) (w' : World) (x : XX w0 N p q mb m s' (PK pb p q mb Q) w') => XX.back (C := C) (show XX w0 N p q mb m s' (PK pb p q mb (Tim C _)) w' from hQ ▸ x))
  have TC := Lib.hid (fun (s' : S) (w' : World) (x : XX w0 N p q mb m s' (PK pb p q mb Q) w') => XX.tcell (D := C) (k := 4) (n := n) (i := i) (re := re) (im := im) (a := a) (len := len) (c := c) (b := tb) (show XX w0 N p q mb m s' (PK pb p q mb (Tim C _)) w' from hQ ▸ x))
  obtain ⟨y0, y1, y2, y3, y4, y5⟩ := TC.out _ _ X1.out
  obtain ⟨b0, b1, b2⟩ := X1.out.putter
  have HW := Lib.hid (And.intro htb hw1)
  obtain ⟨RW, hRW⟩ : ∃ RW : Int × Int × S, RW = (if (wds m [re, im] s.h).1 = 0 then jn 5 s.h.length else 0, (wds m [re, im] s.h).1, ⟨(wds m [re, im] s.h).2, s.a, s.v⟩) := ⟨_, rfl⟩
  have hwd := words_any (fQ.out.tim (Fr.blk _ _)) 5 (by decide) (by decide) [re, im] w1.heap.size (wo_blk (D := Q) (t := 25)) (by simpa using ⟨hr, hi⟩) (by simp) (X1.out.more fQ.out _) RW hRW
  have HRW := Lib.hid hRW
  clear hRW
  have H3 := Lib.hid hP
  simp only [List.map_cons, List.map_nil, List.length_cons, List.length_nil] at hwd
  clear h hR hP hQ fC htb hw1 hi hr
  go_enter Try.func60, Try.ntmps60
  go_wp2_with (rw [← HW.out.1, ← HW.out.2])
  refine hwd.mono ?_; rintro e w2 ⟨rfl, x2⟩
  have X2 := Lib.hid (BK.out _ _ x2.back)
  clear x2 hwd y0 y1 y2 y3 y4 y5 b0 b1 b2
  go_wp2_with fail
  go_ret2
  have hR : R = RW := by
    rw [H3.out, HRW.out, put, if_neg (by decide), if_neg (by decide), if_pos rfl]
    have hl : ((s.h ++ [re]).length : Int) = s.h.length + 1 := by simp
    simp only [wds, hl]
    by_cases h1 : (s.h.length : Int) < m
    · simp only [if_pos h1]
      by_cases h2 : (s.h.length : Int) + 1 < m
      · simp only [if_pos h2, if_true]
      · simp only [if_neg h2]; rfl
    · simp only [if_neg h1]; rfl
  rw [hR]
  exact ⟨rfl, X2.out⟩
set_option maxRecDepth 100000 in
set_option maxHeartbeats 4000000 in
theorem node_5 (fC : Fr C) (n : ByteArray) (i re im : Int) (a : Option Addr) (c : Nat) (l : List Tm) (own : Int) (hn : n.size ≤ 200) (ha : s.a.length < 4096) (hl1 : 1 ≤ l.length) (hl2 : l.length ≤ 20) (h : XX w0 N p q mb m s (PK pb p q mb C) wr) (R : Int × Int × S) (hR : R = nodeM m (.mk 5 n i re im l) own s) :
    Calls Try.prog 60 #[.pointer (some ⟨pb, 0, none⟩), .agg #[.int .i64 5, .string n, .int .i64 i, .int .u64 re, .int .u64 im, .slice a l.length c], .int .i64 own] wr (PutsN w0 N p q mb m (PK pb p q mb C) R) := by
  have X1 := Lib.hid (h.more fC (rpt.BT 5 n i re im a l.length c))
  obtain ⟨tb, htb⟩ : ∃ tb, tb = wr.heap.size := ⟨_, rfl⟩
  obtain ⟨Q, hQ⟩ : ∃ Q : Ob, Q = Tim C (Blk tb (rpt.BT 5 n i re im a l.length c)) := ⟨_, rfl⟩
  have fQ := Lib.hid (show Fr Q by rw [hQ]; exact fC.tim (Fr.blk _ _))
  obtain ⟨w1, hw1⟩ : ∃ w1, w1 = wr.alloc (.cells #[.int .i64 5, .string n, .int .i64 i, .int .u64 re, .int .u64 im, .slice a l.length c] 36) := ⟨_, rfl⟩
  rw [← htb, ← hQ, ← hw1] at X1
  have BK := Lib.hid (fun (s' : S) (w' : World) (x : XX w0 N p q mb m s' (PK pb p q mb Q) w') => XX.back (C := C) (show XX w0 N p q mb m s' (PK pb p q mb (Tim C _)) w' from hQ ▸ x))
  have TC := Lib.hid (fun (s' : S) (w' : World) (x : XX w0 N p q mb m s' (PK pb p q mb Q) w') => XX.tcell (D := C) (k := 5) (n := n) (i := i) (re := re) (im := im) (a := a) (len := l.length) (c := c) (b := tb) (show XX w0 N p q mb m s' (PK pb p q mb (Tim C _)) w' from hQ ▸ x))
  obtain ⟨y0, y1, y2, y3, y4, y5⟩ := TC.out _ _ X1.out
  obtain ⟨b0, b1, b2⟩ := X1.out.putter
  have HW := Lib.hid (And.intro htb hw1)
  have hcall := compound_any fQ.out n i re im a l c hn hl1 hl2 ha X1.out own R hR
  clear h hR hQ fC htb hw1 hn ha hl1 hl2
  go_enter Try.func60, Try.ntmps60
  go_wp2_with (rw [← HW.out.1, ← HW.out.2])
  refine hcall.mono ?_; rintro e w2 ⟨rfl, x2⟩
  have X2 := Lib.hid (BK.out _ _ x2)
  clear x2 hcall y0 y1 y2 y3 y4 y5 b0 b1 b2
  go_wp2_with fail
  go_ret2
  exact ⟨rfl, X2.out⟩
/-- any node that may be -/
theorem node_any (fC : Fr C) (t : Tm) (vt : Value) {X : Nat → Prop} {w2 : World} (ht : lie.Lies X w2 t vt) (hs : sound t = true) (own : Int) (ho : own = -1 ∨ (0 ≤ own ∧ own < 1048576)) (hv : s.v.length < 1000000) (ha : s.a.length < 4096) (h : XX w0 N p q mb m s (PK pb p q mb C) wr) :
    Calls Try.prog 60 #[.pointer (some ⟨pb, 0, none⟩), vt, .int .i64 own] wr (PutsN w0 N p q mb m (PK pb p q mb C) (nodeM m t own s)) := by
  obtain ⟨k, n, i, re, im, l⟩ := t
  rw [lie.Lies] at ht
  obtain ⟨a, c, rfl, hf, hr⟩ := ht
  rcases pm.chkk (sound_chk hs) with rfl | ⟨rfl, hn⟩ | rfl | rfl | ⟨rfl, hn, hl1, hl2⟩
  · exact node_1 fC n i re im a l.length c l own ⟨hf.i0, hf.i1⟩ ho hv h _ rfl
  · exact node_2 fC n i re im a l.length c l own hn ha h _ rfl
  · exact node_3 fC n i re im a l.length c l own ⟨hf.i0, hf.i1⟩ h _ rfl
  · exact node_4 fC n i re im a l.length c l own ⟨hf.r0, by have := hf.r1; omega⟩ ⟨hf.m0, by have := hf.m1; omega⟩ h _ rfl
  · exact node_5 fC n i re im a c l own hn ha hl1 hl2 h _ rfl
end
end Go.Proofs.Ytibepkljcofpdaa.ppt
