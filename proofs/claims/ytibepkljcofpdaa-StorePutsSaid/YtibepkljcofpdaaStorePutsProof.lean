/- The law StorePuts holds: for every input its Go function returns true and leaves its arguments as they were. No condition beyond the row's own. -/
import Derived.Test.YtibepkljcofpdaaRows
import Derived.WalkKit
import Derived.ProofKit
import Derived.OpenShut
import Derived.SizedLaws
import Derived.Test.YtibepkljcofpdaaSL
import Derived.Test.YtibepkljcofpdaaSmP
import Derived.Test.YtibepkljcofpdaaRPutE
import Derived.Test.YtibepkljcofpdaaRefAtoms
import Derived.Test.YtibepkljcofpdaaRGetA
import Derived.Test.YtibepkljcofpdaaRHeap
import Derived.Test.YtibepkljcofpdaaTOpen
import Derived.Deep.RegionHeld3
import Derived.Maps.RangeWalk
import Derived.Deep.DeepCutAuto
import Derived.Deep.CutBlock
namespace Go.Proofs.Ytibepkljcofpdaa.storePuts
open Go.ChangeShapes Go.WideShapes Go.ChangeAt Go.RowKit
open Go.ChangeMaps (open_string)
open Go.Maps Go.Proofs.Ytibepkljcofpdaa.hp Go.Proofs.Ytibepkljcofpdaa.cel Go.Proofs.Ytibepkljcofpdaa.kp Go.Proofs.Ytibepkljcofpdaa.ob Go.Proofs.Ytibepkljcofpdaa.tm Go.Proofs.Ytibepkljcofpdaa.lie Go.Proofs.Ytibepkljcofpdaa.s7 Go.Proofs.Ytibepkljcofpdaa.top Go.Proofs.Ytibepkljcofpdaa.sl Go.Proofs.Ytibepkljcofpdaa.lgs Go.Proofs.Ytibepkljcofpdaa.cur Go.Proofs.Ytibepkljcofpdaa.pm
open Go.Proofs.Ytibepkljcofpdaa.rws
open Go.Proofs.Ytibepkljcofpdaa.rpt (putT HB frHB RO frR CK VM VO frV law zeroC)
open Go.Proofs.Ytibepkljcofpdaa.atm (Tab Ref)
set_option linter.unusedVariables false
theorem own : ownKnob Try.prog.godebug = none := by kernel_rfl
theorem laidOut : laidOutB Try.prog = true := by kernel_rfl
theorem m_in (a : Int) : 0 ≤ wrap64 ((IntKind.u64.wrap a).tmod 9000) ∧ wrap64 ((IntKind.u64.wrap a).tmod 9000) < 9000 := by
  rw [IntKind.wrap_u64, Int.tmod_eq_emod_of_nonneg (by omega)]; unfold wrap64; omega
/-- both sides with the same cells, names, variables' cells -/
def Bo (p q mb p2 q2 mb2 : Nat) (m : Int) (s : S) : Ob := Tim (ppt.PB p q mb m s) (rpt.PB p2 q2 mb2 m s)
theorem frBo {p q mb p2 q2 mb2 : Nat} {m : Int} {s : S} : Fr (Bo p q mb p2 q2 mb2 m s) := ppt.frP.tim rpt.frP
section
variable {w wr w' : World} {p q mb p2 q2 mb2 b : Nat} {m : Int} {s s' : S} {o : Obj} {C : Ob}
theorem bo_start {w1 w2 w3 w4 w5 : World} (hb : Below w.heap.size w w1) (h1 : hp.Made TH w1 [] m w2) (h2 : atm.Made w2 atm.l0 w3) (h3 : hp.Made RH w3 [] m w4) (h4 : atm.RMade w4 (w4.heap.size + 1) atm.l0 w5) :
    Mine w (Bo w1.heap.size w2.heap.size w5.heap.size w3.heap.size (w4.heap.size + 1) (w5.heap.size + 1) m ⟨[], atm.l0, []⟩) ((w5.alloc (.map #[] 0)).alloc (.map #[] 0)) := by
  obtain ⟨F1, a1, b1, s1⟩ := h1
  have m1 : Mine w (HB TH w1.heap.size [] m) w2 := ⟨F1, a1, hb.trans (b1.mono hb.size), fun k hk => Nat.le_trans hb.size (s1 k hk)⟩
  obtain ⟨F2, a2, b2, s2⟩ := h2
  have m2 := m1.more frHB b2 (B := ppt.PO w2.heap.size atm.l0) a2 s2
  obtain ⟨F3, a3, b3, s3⟩ := h3
  have m3 := m2.more (frHB.tim ppt.frPO) b3 (B := HB RH w3.heap.size [] m) a3 s3
  obtain ⟨F4, a4, b4, s4⟩ := h4
  have m4 := m3.more ((frHB.tim ppt.frPO).tim frHB) b4 (B := RO (w4.heap.size + 1) atm.l0) a4 s4
  have m5 := m4.more (((frHB.tim ppt.frPO).tim frHB).tim frR) (kp.ba w5 (.map #[] 0)) (B := VO w5.heap.size []) (M := fun k => k = w5.heap.size) ⟨⟨.map [], World.ownsMap_made w5 Try.prog 2 _, rpt.VM.nil, rfl⟩, fun _ => Iff.rfl⟩ (fun k hk => by omega)
  have hz : (w5.alloc (.map #[] 0)).heap.size = w5.heap.size + 1 := kp.alloc_size _ _
  have m6 := m5.more ((((frHB.tim ppt.frPO).tim frHB).tim frR).tim frV) (kp.ba (w5.alloc (.map #[] 0)) (.map #[] 0)) (B := VO (w5.heap.size + 1) []) (M := fun k => k = w5.heap.size + 1) ⟨⟨.map [], by have := World.ownsMap_made (H := Unit) (w5.alloc (.map #[] 0)) Try.prog 2 (plainElem (H := Unit) Try.prog 37); rwa [hz] at this, rpt.VM.nil, rfl⟩, fun _ => Iff.rfl⟩ (fun k hk => by omega)
  refine m6.imp fun N t => ?_
  exact (((t.map1 (fun _ u => (u.rot.map1 fun _ x => x.rot))).right_).right_).map1 (fun _ x => x.right_)
theorem bo_put (fC : Fr C) (h : Mine w (Tim (Bo p q mb p2 q2 mb2 m s) C) wr) {T : Tm} {v : Value} (ht : Lies No w T v) (ha : s.a.length + size T ≤ 4096) (hv : s.v.length + size T ≤ 900000) (R : Int × Int × S) (hR : R = putT m T s) :
    Calls Try.prog 16 #[.pointer (some ⟨p, 0, none⟩), .pointer (some ⟨q, 0, none⟩), v, .map (some mb)] wr fun e w' => e = .returned (.tuple #[.int .u64 R.1, .int .i64 R.2.1]) ∧ Mine w (Tim (Tim (ppt.PB p q mb m R.2.2) (rpt.PB p2 q2 mb2 m s)) C) w' := by
  have h2 : Mine w (Tim (ppt.PB p q mb m s) (Tim (rpt.PB p2 q2 mb2 m s) C)) wr := h.imp fun _ t => t.right_
  obtain ⟨M, hM, hs, hb, up⟩ := Mine.one (rpt.frP.tim fC) h2
  exact (ppt.pPut_any T v hM (lies_off ht hs hb) ha hv R hR).mono fun e w' ⟨he, nn⟩ => ⟨he, (up _ _ nn).imp fun _ t => Tim.left_ t⟩
theorem bo_rput (fC : Fr C) (h : Mine w (Tim (Tim (ppt.PB p q mb m s') (rpt.PB p2 q2 mb2 m s)) C) wr) {T : Tm} {v : Value} (ht : Lies No w T v) (ha : s.a.length + size T ≤ 4096) (hv : s.v.length + size T ≤ 900000) :
    Calls Try.prog 17 #[.pointer (some ⟨p2, 0, none⟩), .pointer (some ⟨q2, 0, none⟩), v, .map (some mb2)] wr fun e w' => e = .returned (.tuple #[.int .u64 (putT m T s).1, .int .i64 (putT m T s).2.1]) ∧ Mine w (Tim (Tim (ppt.PB p q mb m s') (rpt.PB p2 q2 mb2 m (putT m T s).2.2)) C) w' := by
  have h2 : Mine w (Tim (rpt.PB p2 q2 mb2 m s) (Tim (ppt.PB p q mb m s') C)) wr := h.imp fun _ t => (t.map1 fun _ x => x.swap).right_
  obtain ⟨M, hM, hs, hb, up⟩ := Mine.one (ppt.frP.tim fC) h2
  exact (rpt.rPut_any T v hM (lies_off ht hs hb) ha hv).mono fun e w' ⟨he, nn⟩ => ⟨he, (up _ _ nn).imp fun _ t => (Tim.left_ t).map1 fun _ x => x.swap⟩
theorem bo_box {kq : Int} {nq : ByteArray} {iq req imq : Int} {aq : Option Addr} {lq cq : Nat} {A : Ob} (h : Mine w (Tim A (Blk b (rpt.BT kq nq iq req imq aq lq cq))) wr) : wr.cell? ⟨b, 0, none⟩ = some (.int .i64 kq) ∧ wr.cell? ⟨b, 1, none⟩ = some (.string nq) ∧ wr.cell? ⟨b, 2, none⟩ = some (.int .i64 iq) ∧ wr.cell? ⟨b, 3, none⟩ = some (.int .u64 req) ∧ wr.cell? ⟨b, 4, none⟩ = some (.int .u64 imq) ∧ wr.cell? ⟨b, 5, none⟩ = some (.slice aq lq cq) := by
  obtain ⟨N, ⟨K, M, _, hb, _⟩, _⟩ := h
  have := hb.1
  refine ⟨?_, ?_, ?_, ?_, ?_, ?_⟩ <;> simp [World.cell?, this]
theorem bo_heaps (h : Mine w (Tim (Bo p q mb p2 q2 mb2 m s) C) wr) : (∃ F, Hp TH wr p F s.h m) ∧ (∃ F, Hp RH wr p2 F s.h m) ∧ (∃ F, Tab wr q F s.a) ∧ (∃ F, Ref wr q2 F s.a) := by
  obtain ⟨N, ⟨K, M, ⟨K1, K2, ⟨K3, K4, x, ⟨K5, K6, y, _⟩, _⟩, ⟨K7, K8, z, ⟨K9, K10, u, _⟩, _⟩, _⟩, _⟩, _⟩ := h
  exact ⟨⟨_, x⟩, ⟨_, z⟩, ⟨_, y⟩, ⟨_, u⟩⟩
theorem bo_maps (h : Mine w (Tim (Bo p q mb p2 q2 mb2 m s) C) wr) : (∃ D, wr.ownsMap Try.prog 2 (plainElem (H := Unit) Try.prog 37) mb s.v.length D ∧ VM D s.v ∧ Maps.size D = s.v.length) ∧ (∃ D, wr.ownsMap Try.prog 2 (plainElem (H := Unit) Try.prog 37) mb2 s.v.length D ∧ VM D s.v ∧ Maps.size D = s.v.length) := by
  obtain ⟨N, ⟨K, M, ⟨K1, K2, ⟨K3, K4, x, ⟨K5, K6, y, hm, _, _⟩, _, e4⟩, ⟨K7, K8, z, ⟨K9, K10, u, hm2, _, e10⟩, _, e8⟩, d, e⟩, _⟩, _⟩ := h
  exact ⟨hm.1, hm2.1⟩
/-- an iterator beside -/
def BoR (w : World) (p q mb p2 q2 mb2 : Nat) (m : Int) (s : S) (r : Nat) (wr : World) : Prop := ∃ N, Bo p q mb p2 q2 mb2 m s wr N ∧ Below w.heap.size w wr ∧ (∀ k, N k → w.heap.size ≤ k) ∧ ¬ N r ∧ w.heap.size ≤ r
theorem BoR.mk (h : Mine w (Bo p q mb p2 q2 mb2 m s) wr) (g : wr.grownBy w' none) : BoR w p q mb p2 q2 mb2 m s wr.heap.size w' := by
  obtain ⟨N, a, b, f⟩ := h
  have hlt := frBo.lt a
  have k : kp.Keep (fun _ => False) wr w' := kp.Keep.of_grown g fun k e => by cases e
  exact ⟨N, frBo.keep a k (fun _ _ => id), b.trans (k.to_below (fun _ h => h.elim) b.size), f, fun hn => by have := hlt _ hn; omega, b.size⟩
theorem BoR.step {r : Nat} (h : BoR w p q mb p2 q2 mb2 m s r wr) (g : wr.grownBy w' (some r)) : BoR w p q mb p2 q2 mb2 m s r w' := by
  obtain ⟨N, a, b, f, hr, hs⟩ := h
  have k : kp.Keep (fun k => k = r) wr w' := kp.Keep.of_grown g fun k e => by injection e with e; exact e.symm
  exact ⟨N, frBo.keep a k (fun k hk e => hr (e ▸ hk)), b.trans (k.to_below (fun k e => by omega) b.size), f, hr, hs⟩
theorem BoR.mine {r : Nat} (h : BoR w p q mb p2 q2 mb2 m s r wr) : Mine w (Bo p q mb p2 q2 mb2 m s) wr := by
  obtain ⟨N, a, b, f, _⟩ := h
  exact ⟨N, a, b, f⟩
set_option maxRecDepth 100000 in
theorem bo_look (h : Mine w (Bo p q mb p2 q2 mb2 m s) wr) {D2 : DataW Unit} (hv2 : VM D2 s.v) {x c : Int} (hw : (Lit.int .i64 x).wf = true) (hat : ∀ zd, D2.atKey (.int .i64 x) zd = .lit (.int .u64 c)) :
    (Instr.lookup 34 (.map (some mb)) (.int .i64 x) false).run Try.prog wr = .ok (.int .u64 c) wr := by
  obtain ⟨⟨D, hD, hv, _⟩, _⟩ := bo_maps (h.nob)
  have hkey : keyOf Try.prog 2 (.int .i64 x) = some (CK x) := keyOf_int_mk Try.underlying2 hw
  obtain ⟨c', hrun, hat', hwc⟩ := hD.lookup_int law Try.underlying34 Try.underlying37 (zeroC _) hkey
  have e1 := (hv x).2
  have e2 := (hv2 x).2
  rw [hat'] at e1
  rw [show D2.atKey (CK x) (.lit (.int .u64 0)) = _ from hat _] at e2
  injection e1 with e1; injection e1 with _ e1
  injection e2 with e2; injection e2 with _ e2
  rw [hrun, e1, e2]
def PRel (w : World) (l : List Tm) (p q mb p2 q2 mb2 : Nat) (m : Int) (g : Nat) (iv : Value) (wr : World) : Prop :=
  ∃ (k : Nat) (s : S), k ≤ l.length ∧ g = l.length - k ∧ iv = .int .i64 k ∧ s.a.length + sizeL (l.drop k) ≤ 4096 ∧ s.v.length + sizeL (l.drop k) ≤ 900000 ∧ Mine w (Bo p q mb p2 q2 mb2 m s) wr
theorem prel_next {l : List Tm} {k : Nat} {s s2 : S} {T : Tm} (h8 : ¬ 8 < l.length) (hk : (k : Int) < (l.length : Int)) (hA : s.a.length + (size T + sizeL (l.drop (k + 1))) ≤ 4096) (hV : s.v.length + (size T + sizeL (l.drop (k + 1))) ≤ 900000) (h1 : s2.a.length ≤ s.a.length + size T) (h2 : s2.v.length ≤ s.v.length + size T) (hm : Mine w (Bo p q mb p2 q2 mb2 m s2) wr) :
    PRel w l p q mb p2 q2 mb2 m (l.length - (k + 1)) (.int .i64 (wrap64 ((k : Int) + 1))) wr := by
  refine ⟨k + 1, s2, by omega, rfl, congrArg (Value.int .i64) ?_, by omega, by omega, hm⟩
  clear hA hV h1 h2; unfold wrap64; omega
theorem putT_grow (m : Int) (T : Tm) (s : S) : (putT m T s).2.2.a.length ≤ s.a.length + size T ∧ (putT m T s).2.2.v.length ≤ s.v.length + size T := by
  unfold putT
  by_cases h : may T = 0
  · rw [if_pos h]
    have := put_grow m T (good_sound ((may_iff T).1 h)) (-1) s
    exact ⟨this.a.2, this.v.2⟩
  · rw [if_neg h]; exact ⟨by show s.a.length ≤ _; omega, by show s.v.length ≤ _; omega⟩
theorem putT_zero (m : Int) (T : Tm) (s : S) : (putT m T s).2.1 ≠ 0 → (putT m T s).1 = 0 := by
  unfold putT
  by_cases h : may T = 0
  · rw [if_pos h]; exact rpt.put_zero m T (-1) s
  · rw [if_neg h]; intro _; rfl
end
set_option maxHeartbeats 16000000 in
set_option maxRecDepth 100000 in
theorem walk (w : World) (a0 : Option Addr) (n0 c0 : Nat) (l0 : List Tm) (e0 : l0.length = n0) (x0 : TRow No w l0 a0 0) (m0 : n0 ≤ c0) (y0 : c0 ≤ maxLen) (z0 : n0 * 72 ≤ 140737488351232) (a1 : Int) (w1 : (Lit.int .i64 a1).wf = true) :
    Calls Try.prog 3 #[.slice a0 n0 c0, .int .i64 a1] w fun e w' => e = .returned (.bool true) ∧ Below w.heap.size w w' := by
  subst e0
  have hM := Lib.hid (m_in a1)
  have HX := Lib.hid x0
  have hl9 : l0.length = l0.length := rfl
  by_cases h8 : 8 < l0.length
  · have h8' : decide ((l0.length : Int) > 8) = true := by simp; omega
    clear x0 m0 y0 z0 w1
    go_enter Try.func3, Try.ntmps3
    go_wp2_with fail
    refine (awake_any _).mono ?_; rintro e w2 ⟨rfl, hb⟩
    have HB := Lib.hid hb
    clear hb
    go_wp2_with fail
    go_ret
    exact ⟨rfl, HB.out⟩
  have h8' : decide ((l0.length : Int) > 8) = false := by simp; omega
  have H8 := Lib.hid h8
  have hlight := Light_any l0 a0 c0 w HX.out (by omega)
  clear x0 m0 y0 z0 w1 h8
  go_enter Try.func3, Try.ntmps3
  go_wp2_with fail
  refine hlight.mono ?_; rintro e w2 ⟨bl, rfl, hsz, hb⟩
  have B2 := Lib.hid hb
  clear hb hlight
  cases bl with
  | false =>
    go_wp2_with fail
    refine (awake_any _).mono ?_; rintro e w3 ⟨rfl, hb⟩
    have B3 := Lib.hid (B2.out.trans (hb.mono B2.out.size))
    clear hb
    go_wp2_with fail
    go_ret
    exact ⟨rfl, B3.out⟩
  | true =>
    have HS := Lib.hid (hsz rfl)
    clear hsz
    have hmm := @run_makeMap Try.prog
    go_wp2_with fail
    generalize wrap64 ((IntKind.u64.wrap a1).tmod 9000) = M9 at *
    refine (new_any M9 _).mono ?_; rintro e w3 ⟨rfl, h1⟩
    rw [show max 0 (min M9 1048576) = M9 by have := hM.out; omega] at h1
    have H1 := Lib.hid h1
    clear h1
    go_wp2_with fail
    refine (atm.new_any w3).mono ?_; rintro e w4 ⟨rfl, h2⟩
    have H2 := Lib.hid h2
    clear h2
    go_wp2_with fail
    refine (hp.rnew_any M9 w4).mono ?_; rintro e w5 ⟨rfl, h3⟩
    rw [show max 0 (min M9 1048576) = M9 by have := hM.out; omega] at h3
    have H3 := Lib.hid h3
    clear h3
    go_wp2_with fail
    refine (atm.rnew_any w5).mono ?_; rintro e w6 ⟨rfl, h4⟩
    obtain ⟨w7, hw7⟩ : ∃ w7, w7 = (w6.alloc (.map #[] 0)).alloc (.map #[] 0) := ⟨_, rfl⟩
    have M7 := Lib.hid (hw7 ▸ bo_start B2.out H1.out H2.out H3.out h4)
    have W7 := Lib.hid hw7
    clear h4 hw7
    go_upto_region 7 with fail
    obtain ⟨p, hp⟩ : ∃ p, p = w2.heap.size := ⟨_, rfl⟩
    obtain ⟨q, hq⟩ : ∃ q, q = w3.heap.size := ⟨_, rfl⟩
    obtain ⟨p2, hp2⟩ : ∃ p2, p2 = w4.heap.size := ⟨_, rfl⟩
    obtain ⟨q2, hq2⟩ : ∃ q2, q2 = w5.heap.size + 1 := ⟨_, rfl⟩
    obtain ⟨mb, hmb⟩ : ∃ mb, mb = w6.heap.size := ⟨_, rfl⟩
    obtain ⟨mb2, hmb2⟩ : ∃ mb2, mb2 = w6.heap.size + 1 := ⟨_, rfl⟩
    rw [← W7.out, ← hp, ← hq, ← hp2, ← hq2, ← hmb2, ← hmb]
    rw [← hp, ← hq, ← hp2, ← hq2, ← hmb2, ← hmb] at M7
    clear hp hq hp2 hq2 hmb hmb2 W7 H1 H2 H3 hM hmm
    go_wp2_with fail
    go_loopg [42] l0.length (PRel w l0 p q mb p2 q2 mb2 M9)
    case atStart => exact ⟨0, _, by omega, by omega, rfl, by have := HS.out; simp [atm.l0]; omega, by have := HS.out; simp; omega, M7.out⟩
    case round =>
      obtain ⟨k9, s9, hk9, rfl, rfl, hA, hV, hm9⟩ := hrel
      by_cases hlt : k9 < l0.length
      · as_aux_lemma =>
        have hd : l0.drop k9 = l0[k9] :: l0.drop (k9 + 1) := List.drop_eq_getElem_cons hlt
        rw [hd, sizeL] at hA hV
        obtain ⟨b, o, v0, v1, v2, v3, v4, v5, hbl, _, h6, hlx, hix⟩ := HX.out.look hlt
        have h6' := h6.keep (X := No) (Keep.of_below hm9.bel) id
        have hix' := hix c0
        generalize l0[k9] = T at *
        obtain ⟨kq, nq, iq, req, imq, lq, aq, cq, hv, _⟩ := lies_form hlx
        obtain ⟨rfl, rfl, rfl, rfl, rfl, rfl⟩ := hv
        obtain ⟨e0, e1, e2, e3, e4, e5⟩ := h6'
        obtain ⟨R, hR⟩ : ∃ R, R = putT M9 T s9 := ⟨_, rfl⟩
        have hgr := putT_grow M9 T s9
        have hzr := putT_zero M9 T s9
        obtain ⟨b9, hb9⟩ : ∃ b9, b9 = wr.heap.size := ⟨_, rfl⟩
        obtain ⟨w8, hw8⟩ : ∃ w8, w8 = wr.alloc (.cells #[.int .i64 kq, .string nq, .int .i64 iq, .int .u64 req, .int .u64 imq, .slice aq lq cq] 36) := ⟨_, rfl⟩
        have m8 : Mine w (Tim (Bo p q mb p2 q2 mb2 M9 s9) (Blk b9 (rpt.BT kq nq iq req imq aq lq cq))) w8 := by rw [hw8, hb9]; exact hm9.blk frBo _
        have hput := bo_put (Fr.blk _ _) m8 hlx (by omega) (by omega) R hR
        have hrput := fun wx (hx : Mine w (Tim (Tim (ppt.PB p q mb M9 R.2.2) (rpt.PB p2 q2 mb2 M9 s9)) (Blk b9 (rpt.BT kq nq iq req imq aq lq cq))) wx) => bo_rput (Fr.blk _ _) hx hlx (by omega) (by omega)
        rw [← hR] at hgr hzr hrput
        obtain ⟨cc, ee, s5⟩ := R
        dsimp only at hput hrput hgr hzr
        have HR := Lib.hid (And.intro hA (And.intro hV hgr))
        have hki : (k9 : Int) < (l0.length : Int) := by omega
        have W8 := Lib.hid (And.intro hb9 hw8)
        have hc8 := bo_box m8
        clear hd hA hV h6 hlx hix hm9 hR hgr hb9 hw8 m8
        clear hk9 hlt h8'
        go_upto_region 10 with fail
        rw [← W8.out.1, ← W8.out.2]
        obtain ⟨y0, y1, y2, y3, y4, y5⟩ := hc8
        clear e0 e1 e2 e3 e4 e5
        go_wp2_with fail
        refine hput.mono ?_; rintro e w9 ⟨rfl, m9⟩
        have hrp := hrput w9 m9
        obtain ⟨z0, z1, z2, z3, z4, z5⟩ := bo_box m9
        have HZ := Lib.hid hzr
        clear hput hrput m9 y0 y1 y2 y3 y4 y5 hzr
        go_wp2_with fail
        refine hrp.mono ?_; rintro e w10 ⟨rfl, m10⟩
        have M10 := Lib.hid (show Mine w (Bo p q mb p2 q2 mb2 M9 s5) w10 from Mine.fst m10)
        clear hrp m10 z0 z1 z2 z3 z4 z5
        go_upto_region 12 with fail
        go_cut [104] (fun sv wx => sv = .bool false ∧ ∃ n, wx = w10.drewN n)
        case first => as_aux_lemma =>
          obtain ⟨⟨F1, hH⟩, ⟨F2, hR2⟩, ⟨F3, hT⟩, ⟨F4, hN⟩⟩ := bo_heaps M10.out.nob
          obtain ⟨⟨D1, hD1, hv1, hz1⟩, ⟨D2, hD2, hv2, hz2⟩⟩ := bo_maps M10.out.nob
          have cs := fun n => Lib.hid (samep_any (hH.drewN n) (hR2.drewN n))
          have cl := fun n => Lib.hid (atm.len_any (hT.below (hp.drewN_below w10 n)))
          obtain ⟨qa, qc, q0, hqc, _⟩ := rgt.ref_cell hN
          have hl1 : ∀ n ty, (Builtin.len_ #[34] ty #[.map (some mb)]).run Try.prog (w10.drewN n) = .ok (.int .i64 (s5.v.length : Nat)) (w10.drewN n) := fun n ty => by
            have := (frV.drewN (A := VO mb s5.v) (N := fun k => k = mb) ⟨⟨D1, hD1, hv1, hz1⟩, fun _ => Iff.rfl⟩ n).1
            obtain ⟨D, hD, _, hz⟩ := this
            rw [← hz]; exact hD.len Try.underlying34 ty
          have hl2 : ∀ n ty, (Builtin.len_ #[34] ty #[.map (some mb2)]).run Try.prog (w10.drewN n) = .ok (.int .i64 (s5.v.length : Nat)) (w10.drewN n) := fun n ty => by
            have := (frV.drewN (A := VO mb2 s5.v) (N := fun k => k = mb2) ⟨⟨D2, hD2, hv2, hz2⟩, fun _ => Iff.rfl⟩ n).1
            obtain ⟨D, hD, _, hz⟩ := this
            rw [← hz]; exact hD.len Try.underlying34 ty
          clear hH hR2 hT hN hD1 hv1 hz1 hD2 hv2 hz2
          by_cases he : ee = 0
          · as_aux_lemma =>
            subst he
            go_quiet ((first | (go_at_call 18; exact Calls.quiet_of (cs _).out) | (go_at_call 19; exact quiet_left (cl _).out)))
            go_wp2_with fail
            go_meet
            exact ⟨rfl, _, rfl⟩
          · as_aux_lemma =>
            have e9 := HZ.out he
            subst e9
            have hb1 : (ee == 0) = false := by rw [beq_eq_false_iff_ne]; exact he
            have hb2 : (ee != 0) = true := by simpa using he
            clear he
            go_quiet ((first | (go_at_call 18; exact Calls.quiet_of (cs _).out) | (go_at_call 19; exact quiet_left (cl _).out)))
            go_wp2_with fail
            go_meet
            exact ⟨rfl, _, rfl⟩
        case rest => as_aux_lemma =>
          obtain ⟨rfl, j9, rfl⟩ := hcut
          have M11 := Lib.hid (M10.out.drewN frBo j9)
          generalize w10.drewN j9 = w11 at *
          clear M10
          obtain ⟨_, ⟨D2, hD2, hv2, hz2⟩⟩ := bo_maps M11.out.nob
          have HD2 := Lib.hid (And.intro hD2 hv2)
          clear hD2 hv2 hz2
          obtain ⟨r9, hr9⟩ : ∃ r9, r9 = w11.heap.size := ⟨_, rfl⟩
          have HR9 := Lib.hid hr9
          clear hr9
          go_wp2_with (at_range; refine wpList_range_own _ rfl _ 34 rfl 2 37 law Try.underlying34 _ mb2 s5.v.length D2 rfl HD2.out.1 ?_; intro w12 hrg0 hg0 hs0)
          go_frame
          have R12 := Lib.hid (And.intro (HR9.out.symm ▸ hrg0) (HR9.out.symm ▸ BoR.mk M11.out hg0))
          rw [← HR9.out]
          clear hrg0 hg0 hs0
          go_loopw [17] (fun _ wx => ∃ left cnt, wx.ranges Try.prog 2 (plainElem (H := Unit) Try.prog 37) mb2 r9 s5.v.length D2 left cnt ∧ BoR w p q mb p2 q2 mb2 M9 s5 r9 wx) (fun _ wx => wx.rangeLeft mb2 r9)
          case atStart => exact ⟨_, _, R12.out.1, R12.out.2⟩
          case round =>
            obtain ⟨left, cnt, hrg, hbo⟩ := hrel
            have RG := Lib.hid hrg
            have BO := Lib.hid hbo
            clear hrg hbo
            go_wp2_with (at_next; refine wpList_next_ranges_ii _ rfl _ rfl 2 37 .i64 .u64 law Try.underlying2 Try.underlying37 mb2 r9 s5.v.length D2 left cnt rfl RG.out ?_ ?_)
            · as_aux_lemma =>
              intro _ _
              have HM := Lib.hid BO.out.mine
              clear RG BO
              go_wp2_with fail
              go_roundg (l0.length - (k9 + 1))
              case measure => omega
              case rel =>
                obtain ⟨hA, hV, h1, h2⟩ := HR.out
                exact prel_next H8.out hki hA hV h1 h2 HM.out
            · as_aux_lemma =>
              intro x c w1 cnt1 hwx hwc hlx hat hrg1 hlt9 hg1 hs1 hen
              have BO1 := Lib.hid (BO.out.step hg1)
              have RG1 := Lib.hid (And.intro hrg1 hlt9)
              have hlk := bo_look BO1.out.mine HD2.out.2 hwx hat
              clear hwc hlx hat hrg1 hlt9 hg1 hs1
              go_wp2_with fail
              go_roundw
              case rel => exact ⟨_, _, RG1.out.1, BO1.out⟩
              case measure => rw [RG1.out.1.left_eq, RG.out.left_eq]; exact RG1.out.2
      · as_aux_lemma =>
        have hki : ¬ (k9 : Int) < (l0.length : Int) := by omega
        have HM := Lib.hid hm9
        clear hA hV hm9 hk9 hlt h8'
        go_wp2_with fail
        refine (awake_any _).mono ?_; rintro e w8 ⟨rfl, hb⟩
        have HB := Lib.hid hb
        clear hb
        go_wp2_with fail
        go_ret
        exact ⟨rfl, HM.out.bel.trans (HB.out.mono HM.out.bel.size)⟩
set_option maxRecDepth 100000 in
theorem lifted (os : Os) (started : os.Started) (H : Type) (enc : TypeId × Value → H) :
    ReturnsInHanded {} Try.checked os 3 .any (Rows.storePutsSpec.pre6 enc Try.prog Try.f3 Rows.storePutsRow.domain false) (Rows.storePutsSpec.post enc Try.prog Try.f3 false true false false) := by
  refine returnsInHanded_of_change_sized (C := Try.checked) own started (by kernel_rfl) Try.func3
    (ChangeSpec.witness6 (enc := enc) (C := Try.checked) false ⟨#[], #[.slice none 0 0, .int .i64 0], []⟩ 8 (by kernel_rfl) (by kernel_rfl) (by kernel_rfl) (by kernel_rfl)) ?_
  intro W base args ds gs before hval0 hW _ hsz0 _
  have hsz : (DataW.weightsEach Try.prog (Try.f3.params.toList ++ Rows.storePutsSpec.plain.varTypes Try.prog) (ds ++ gs)).all (· ≤ reachBytes) = true := hsz0
  clear hsz0
  have hval : ∀ (j : Nat) t v, Try.f3.params[j]? = some t → args[j]? = some v → Value.okWide Try.prog W .any base t v := hval0
  have hW' := hW
  obtain ⟨p, q, hA0, hV, rfl, hfz, hnd⟩ := hW
  have hA : DataW.TrodAll enc Try.prog W 0 (fun _ => true) true Try.f3.params.toList args.toList ds p := hA0
  rw [Try.params3] at hA hval hsz
  obtain ⟨v0, vs0, d0, ds0, p0, q0, hargs, rfl, rfl, h0, r0⟩ := trodAll_cons hA
  obtain ⟨v1, vs1, d1, ds1, p1, q1, rfl, rfl, rfl, h1, r1⟩ := trodAll_cons r0
  obtain ⟨rfl, rfl, rfl⟩ := trodAll_nil r1
  obtain rfl : args = #[v0, v1] := by cases args; simp_all
  obtain ⟨rfl, rfl⟩ := trodVars_none hV
  simp only [List.append_nil] at hW'
  have lt0 : ∀ x ∈ p0, x.block < W.heap.size := fun x hx => by
    have := hW'.lt x (by simp [hx])
    simpa using this
  have k0 := h0
  have lt1 : ∀ x ∈ p1, x.block < W.heap.size := fun x hx => by
    have := hW'.lt x (by simp [hx])
    simpa using this
  have k1 := h1
  obtain ⟨a0, n0, c0, rfl⟩ := okWide_slice Try.underlying22 (hval 0 22 v0 rfl rfl)
  obtain ⟨l0, g0, x0, m0, y0, z0⟩ := slice_arg h0 (fun x y e => sized_slice hsz (j := 0) (t := 22) (e := 36) rfl (by rw [← e]; rfl) Try.underlying22)
  obtain ⟨a1, rfl, rfl, rfl, w1⟩ := open_int Try.underlying3 (hval 1 3 v1 rfl rfl) h1
  clear hA0 hval0
  refine (walk W a0 n0 c0 l0 g0 x0 m0 y0 z0 a1 w1).mono fun e W' ⟨he, hg⟩ => ?_
  subst he
  have ha := (trodAll_cons_mk (Below.trod laidOut (by kernel_rfl) (of_decide_eq_true (by kernel_rfl)) k0 hg lt0) (trodAll_cons_mk (Below.trod laidOut (by kernel_rfl) (of_decide_eq_true (by kernel_rfl)) k1 hg lt1) trodAll_mk0))
  refine ⟨_, rfl, _, _, _, [], _, [], hW', ?_, ha, rfl, hg.frame _, fun h => by cases h⟩
  exact (trodAll_cons_mk (shut_bool Try.underlying4 _) trodAll_mk0)
/-- THE STATEMENT. -/
theorem proved : Rows.StorePutsSaid :=
  OpenClaim.holds_of_wide 3 Try.f3 rfl rfl rfl rfl rfl rfl rfl ⟨rfl, rfl, rfl, rfl, rfl⟩ rfl rfl rfl rfl rfl (by kernel_rfl) Try.func3 (by kernel_rfl)
    (of_decide_eq_true (by kernel_rfl)) (by unfold Func.isWrapper; first | (rw [if_pos (by decide +kernel)]; kernel_rfl) | (rw [if_neg (by decide +kernel)]; exact ⟨rfl, rfl⟩))
    (fun os started H enc _ => lifted os started H enc)
#print axioms proved
end Go.Proofs.Ytibepkljcofpdaa.storePuts
