/- The law StoreAlike holds: for every input its Go function returns true and leaves its arguments as they were. No condition beyond the row's own. -/
import Derived.Test.YtibepkljcofpdaaRows
import Derived.WalkKit
import Derived.ProofKit
import Derived.OpenShut
import Derived.SizedLaws
import Derived.Test.YtibepkljcofpdaaSL
import Derived.Test.YtibepkljcofpdaaPutB
import Derived.Test.YtibepkljcofpdaaSh
import Derived.Test.YtibepkljcofpdaaRVs
import Derived.Test.YtibepkljcofpdaaRMay
import Derived.Test.YtibepkljcofpdaaTOpen
import Derived.Test.YtibepkljcofpdaaRm
import Derived.Deep.RegionHeld3
import Derived.Laws.BitsAllLaws
import Derived.Deep.LoopGhost
namespace Go.Proofs.Ytibepkljcofpdaa.storeAlike
open Go.ChangeShapes Go.WideShapes Go.ChangeAt Go.RowKit
open Go.ChangeMaps (open_string)
open Go.Proofs.Ytibepkljcofpdaa.hp Go.Proofs.Ytibepkljcofpdaa.cel Go.Proofs.Ytibepkljcofpdaa.kp Go.Proofs.Ytibepkljcofpdaa.ob Go.Proofs.Ytibepkljcofpdaa.tm Go.Proofs.Ytibepkljcofpdaa.lie Go.Proofs.Ytibepkljcofpdaa.s7 Go.Proofs.Ytibepkljcofpdaa.ppt Go.Proofs.Ytibepkljcofpdaa.top Go.Proofs.Ytibepkljcofpdaa.sl Go.Proofs.Ytibepkljcofpdaa.lgs Go.Proofs.Ytibepkljcofpdaa.rmy Go.Proofs.Ytibepkljcofpdaa.cur Go.Proofs.Ytibepkljcofpdaa.pm Go.Proofs.Ytibepkljcofpdaa.sh Go.Proofs.Ytibepkljcofpdaa.rvs Go.Proofs.Ytibepkljcofpdaa.vrs Go.Proofs.Ytibepkljcofpdaa.rws Go.Proofs.Ytibepkljcofpdaa.pla Go.Proofs.Ytibepkljcofpdaa.awk Go.Proofs.Ytibepkljcofpdaa.ren
open Go.Proofs.Ytibepkljcofpdaa.rpt (putT HB frHB)
set_option linter.unusedVariables false
theorem own : ownKnob Try.prog.godebug = none := by kernel_rfl
theorem laidOut : laidOutB Try.prog = true := by kernel_rfl
def MC : Int := 1048576
/-- two heaps, behind W -/
def T0 (W : World) (p : Nat) (h : List Int) (p' : Nat) (h' : List Int) (wr : World) : Prop := Go.Proofs.Ytibepkljcofpdaa.ob.Mine W (Tim (HB TH p' h' MC) (HB TH p h MC)) wr
/-- with names for the second -/
def T1 (W : World) (p q : Nat) (h : List Int) (p' : Nat) (h' : List Int) (wr : World) : Prop := Go.Proofs.Ytibepkljcofpdaa.ob.Mine W (Tim (HB TH p' h' MC) (Tim (HB TH p h MC) (PO q atm.l0))) wr
section
variable {W wr w' : World} {p q p' : Nat} {h h' : List Int}
theorem T0.bel (x : T0 W p h p' h' wr) : Below W.heap.size W wr := Go.Proofs.Ytibepkljcofpdaa.ob.Mine.bel x
theorem T1.bel (x : T1 W p q h p' h' wr) : Below W.heap.size W wr := Go.Proofs.Ytibepkljcofpdaa.ob.Mine.bel x
theorem T0.below (x : T0 W p h p' h' wr) (b : Below wr.heap.size wr w') : T0 W p h p' h' w' := Go.Proofs.Ytibepkljcofpdaa.ob.Mine.below (frHB.tim frHB) x b
theorem T1.below (x : T1 W p q h p' h' wr) (b : Below wr.heap.size wr w') : T1 W p q h p' h' w' := Go.Proofs.Ytibepkljcofpdaa.ob.Mine.below (frHB.tim (frHB.tim frPO)) x b
theorem T0.swap (x : T0 W p h p' h' wr) : T0 W p' h' p h wr := x.imp fun _ t => t.swap
theorem T0.names (x : T0 W p h p' h' wr) (m : atm.Made wr atm.l0 w') : T1 W p wr.heap.size h p' h' w' := by
  obtain ⟨F, a, b, s⟩ := m
  have := Go.Proofs.Ytibepkljcofpdaa.ob.Mine.more (frHB.tim frHB) x b (B := PO wr.heap.size atm.l0) a s
  exact this.imp fun _ t => t.right_
theorem T1.put (x : T1 W p q [] p' h' wr) {T : Tm} {v : Value} (ht : Lies No W T v) (ha : size T ≤ 4000) (R : Int × Int × S) (hR : R = putT MC T ⟨[], atm.l0, []⟩) :
    Calls Try.prog 16 #[.pointer (some ⟨p, 0, none⟩), .pointer (some ⟨q, 0, none⟩), v, .map none] wr fun e w' => e = .returned (.tuple #[.int .u64 R.1, .int .i64 R.2.1]) ∧ T0 W p R.2.2.h p' h' w' := by
  obtain ⟨M, hM, hs, hb, up⟩ := Mine.two frHB x
  refine (pPut_new T v hM (lies_off ht hs hb) (by simp [atm.l0]; omega) R hR).mono fun e w' ⟨he, nn⟩ => ⟨he, ?_⟩
  exact Go.Proofs.Ytibepkljcofpdaa.ob.Mine.fst ((up _ _ nn).imp fun N t => Tim.left_ t)
theorem T0.heaps (x : T0 W p h p' h' wr) : (∃ F, Hp TH wr p F h MC) ∧ ∃ F, Hp TH wr p' F h' MC := by
  obtain ⟨N, ⟨K, M, a, b, _⟩, _⟩ := x
  exact ⟨⟨_, b⟩, ⟨_, a⟩⟩
end
/-- both terms are put the same way -/
theorem put_two {T : Tm} {bb : Int} (hg : good T = true) (hs : size T ≤ 4000) (h0 : 0 ≤ bb) (h1 : bb < 1048576) (hv : ∀ n ∈ occ T, 0 ≤ n ∧ n ≤ 1099511627776) :
    ∃ c s1 s2, putT MC T ⟨[], atm.l0, []⟩ = (c, 0, s1) ∧ putT MC (sub (fun n => var (fs bb n)) T) ⟨[], atm.l0, []⟩ = (c, 0, s2) ∧ s2.h = s1.h ∧ size (sub (fun n => var (fs bb n)) T) ≤ 4000 := by
  have hm : may T = 0 := (may_iff T).2 hg
  have hf : ∀ n ∈ occ T, fs bb n = n + bb := fun n hn => fs_eq h0 h1 (hv n hn).1 (hv n hn).2
  have hgu : good (sub (fun n => var (fs bb n)) T) = true := ren_good hg fun n hn => by rw [hf n hn]; have := hv n hn; omega
  have hmu := (may_iff _).2 hgu
  have hsz := size_sub (s := fun n => var (fs bb n)) T (fun n hn => by
    have := hv n hn
    have e := hf n hn
    refine ⟨by simp [var, size], by simp [var, height], ?_⟩
    simp [var, sound, chk]; omega)
  have hnd := nd_size T
  obtain ⟨c, s1, he, ok⟩ := put_ok MC T (-1) ⟨[], atm.l0, []⟩ (fun _ => False) (good_sound hg) ⟨fun i c h => (by rw [show pm.look (S.v ⟨[], atm.l0, []⟩) i = none from rfl] at h; cases h), by simp [keys], by simp⟩ (fun _ h => h.elim) (Or.inl (by omega)) (by simp [MC]; omega) (by simp [atm.l0]; omega)
  have hp := put_sub MC (f := fs bb) (A := fun n => n ∈ occ T) (fun x y hx hy e => by rw [hf x hx, hf y hy] at e; omega) T (good_sound hg) (fun n hn => hn) (-1) ⟨[], atm.l0, []⟩ (fun k hk => by simp [keys] at hk)
  rw [he, show mpS (fs bb) ⟨[], atm.l0, []⟩ = ⟨[], atm.l0, []⟩ from rfl] at hp
  obtain ⟨p1, p2, p3, _⟩ := hp
  refine ⟨c, s1, (put MC (sub (fun n => var (fs bb n)) T) (-1) ⟨[], atm.l0, []⟩).2.2, by unfold putT; rw [if_pos hm]; exact he, ?_, by rw [p3]; rfl, by rw [hsz.1]; exact hs⟩
  unfold putT
  rw [if_pos hmu]
  exact Prod.ext p1 (Prod.ext p2 rfl)
theorem and20 (x : Int) : 0 ≤ bits .and .i64 x 1048575 ∧ bits .and .i64 x 1048575 < 1048576 := by
  have h2 : (BitVec.ofInt 64 (1048575 : Int)).toNat = 2 ^ 20 - 1 := by decide
  have e : bits .and .i64 x 1048575 = (((BitVec.ofInt 64 x).toNat % 1048576 : Nat) : Int) := by
    show IntKind.i64.wrap ((BitVec.ofInt 64 x &&& BitVec.ofInt 64 1048575).toNat : Int) = _
    rw [BitVec.toNat_and, h2, Nat.and_two_pow_sub_one_eq_mod, IntKind.wrap_i64]
    omega
  rw [e]; omega
theorem occ0 {t : Tm} (hg : good t = true) : ∀ n ∈ occ t, 0 ≤ n := by
  intro n hn
  have f := pre_facts t 1
  rw [← f.2.2.1, List.mem_filterMap] at hn
  obtain ⟨x, hx, he⟩ := hn
  have hc := f.2.1.2 (good_sound hg) x hx
  obtain ⟨⟨k, nn, i, re, im, l⟩, d⟩ := x
  simp only [Tm.kind, Tm.int] at he
  by_cases hk : k = 1
  · subst hk
    simp only [if_true, Option.some.injEq] at he
    subst he
    simp only [chk, if_true] at hc
    split at hc
    · omega
    · omega
  · simp [hk] at he
/-- two boxes of the call's, and what stands behind -/
structure BX (w : World) (o : Obj) (b : Int) (wr : World) : Prop where
  bel : Below w.heap.size w wr
  box : wr.heap[w.heap.size]? = some o
  by_ : wr.heap[w.heap.size + 1]? = some (.cells #[.int .i64 b] 2 (0, 0))
theorem BX.mk0 (w : World) (o : Obj) (b : Int) : BX w o b ((w.alloc o).alloc (.cells #[.int .i64 b] 2 (0, 0))) := by
  have h2 := kp.alloc_at (w.alloc o) (.cells #[.int .i64 b] 2 (0, 0))
  rw [kp.alloc_size] at h2
  exact ⟨kp.bt (kp.ba w o) (kp.ba _ _), ((kp.ba (w.alloc o) _).block _ (by rw [kp.alloc_size]; omega)).trans (kp.alloc_at w o), h2⟩
theorem BX.step {w wr w' : World} {o : Obj} {b : Int} (h : BX w o b wr) (hb : Below wr.heap.size wr w') : BX w o b w' := ⟨h.bel.trans (hb.mono h.bel.size), (hb.block _ (Array.getElem?_eq_some_iff.1 h.box).1).trans h.box, (hb.block _ (Array.getElem?_eq_some_iff.1 h.by_).1).trans h.by_⟩
theorem BX.set {w wr : World} {o : Obj} {b : Int} (h : BX w o b wr) (c : Int) : BX w o c (wr.setCell ⟨w.heap.size + 1, 0, none⟩ (.int .i64 c)) :=
  ⟨h.bel.trans ((kp.Keep.setCell (F := fun k => k = w.heap.size + 1) wr (p := ⟨w.heap.size + 1, 0, none⟩) rfl _).to_below (fun k e => by omega) h.bel.size), (by rw [Below.heap_setCell _ _ _ _ (by simp)]; exact h.box), (by rw [heap_setCell_same wr _ 0 _ _ _ h.by_]; simp)⟩
theorem BX.cells {w wr : World} {v0 v1 v2 v3 v4 v5 : Value} {t : TypeId} {b : Int} (h : BX w (.cells #[v0, v1, v2, v3, v4, v5] t (0, 0)) b wr) : (wr.cell? ⟨w.heap.size, 0, none⟩ = some v0 ∧ wr.cell? ⟨w.heap.size, 1, none⟩ = some v1 ∧ wr.cell? ⟨w.heap.size, 2, none⟩ = some v2 ∧ wr.cell? ⟨w.heap.size, 3, none⟩ = some v3 ∧ wr.cell? ⟨w.heap.size, 4, none⟩ = some v4 ∧ wr.cell? ⟨w.heap.size, 5, none⟩ = some v5) ∧ wr.cell? ⟨w.heap.size + 1, 0, none⟩ = some (.int .i64 b) ∧ wr.frozen? ⟨w.heap.size + 1, 0, none⟩ = false := by
  have h1 := h.box
  have h2 := h.by_
  refine ⟨⟨?_, ?_, ?_, ?_, ?_, ?_⟩, ?_, ?_⟩ <;> simp [World.cell?, World.frozen?, h1, h2]
def small (l : List Int) : Prop := ∀ x ∈ l, x ≤ 1099511627776
def ARel (w3 : World) (vs : List Int) (g : Nat) (iv : Value) (wr : World) : Prop := ∃ k : Nat, k ≤ vs.length ∧ g = vs.length - k ∧ iv = .int .i64 k ∧ small (vs.take k) ∧ wr = w3
theorem small_next {vs : List Int} {k : Nat} (h : small (vs.take k)) (hk : k < vs.length) (hx : vs[k] ≤ 1099511627776) : small (vs.take (k + 1)) := by
  rw [List.take_succ_eq_append_getElem hk]
  intro x hm
  rcases List.mem_append.1 hm with hm | hm
  · exact h x hm
  · simp at hm; subst hm; exact hx
set_option maxHeartbeats 16000000 in
set_option maxRecDepth 100000 in
theorem walk (w : World) (v0 : Value) (t0 : Tm) (x0 : Lies No w t0 v0) (a1 : Int) (w1 : (Lit.int .i64 a1).wf = true) :
    Calls Try.prog 9 #[v0, .int .i64 a1] w fun e w' => e = .returned (.bool true) ∧ Below w.heap.size w w' := by
  have HT := Lib.hid x0
  obtain ⟨T, hT⟩ : ∃ T, T = t0 := ⟨_, rfl⟩
  rw [← hT] at HT
  obtain ⟨k, n, i, re, im, l⟩ := t0
  rw [Lies] at x0
  obtain ⟨a, c, rfl, hf, hr⟩ := x0
  have B0 := Lib.hid (BX.mk0 w (rpt.BT k n i re im a l.length c) a1)
  obtain ⟨w1', hw1'⟩ : ∃ w1', w1' = (w.alloc (.cells #[.int .i64 k, .string n, .int .i64 i, .int .u64 re, .int .u64 im, .slice a l.length c] 36)).alloc (.cells #[.int .i64 a1] 2) := ⟨_, rfl⟩
  have HW1 := Lib.hid hw1'
  have hs1 : w1'.heap.size = w.heap.size + 2 := by rw [hw1', kp.alloc_size, kp.alloc_size]
  have hlight := Light_any [T] (some ⟨w.heap.size + 2, 0, none⟩) 1 (w1'.alloc (.cells #[.int .i64 k, .string n, .int .i64 i, .int .u64 re, .int .u64 im, .slice a l.length c] 36)) (by
    have := one_row w1' rfl (HT.out.below (by rw [hw1']; exact kp.bt (kp.ba w _) (kp.ba _ _)))
    rwa [hs1] at this) (by simp)
  have B1 := Lib.hid (show BX w (rpt.BT k n i re im a l.length c) a1 w1' by rw [hw1']; exact B0.out)
  clear hf hr hT B0 w1 hw1'
  go_enter Try.func9, Try.ntmps9
  go_upto_region 1 with fail
  rw [← HW1.out]
  obtain ⟨⟨y0, y1, y2, y3, y4, y5⟩, yb, yf⟩ := B1.out.cells
  go_wp2_with (rw [hs1])
  refine hlight.mono ?_; rintro e w2 ⟨bl, rfl, hsz, hb⟩
  have B2 := Lib.hid ((B1.out.step (kp.ba _ _)).step hb)
  clear hb hlight y0 y1 y2 y3 y4 y5 yb yf hs1 HW1
  cases bl with
  | false =>
    go_wp2_with fail
    refine (s7.awake_any _).mono ?_; rintro e w3 ⟨rfl, hb⟩
    have B3 := Lib.hid (B2.out.step hb)
    clear hb
    go_wp2_with fail
    go_ret
    exact ⟨rfl, B3.out.bel⟩
  | true =>
    have HS := Lib.hid (size_one (hsz rfl))
    clear hsz
    obtain ⟨⟨y0, y1, y2, y3, y4, y5⟩, yb, yf⟩ := B2.out.cells
    have hmay := rMay_any T _ w2 (HT.out.below B2.out.bel)
    by_cases hg : may T = 0
    · rw [hg] at hmay
      have HG := Lib.hid ((may_iff T).1 hg)
      clear hg
      go_wp2_with fail
      refine hmay.mono ?_; rintro e w3 ⟨rfl, hb⟩
      have B3 := Lib.hid (B2.out.step hb)
      clear hb hmay y0 y1 y2 y3 y4 y5 yb yf B2
      obtain ⟨⟨y0, y1, y2, y3, y4, y5⟩, yb, yf⟩ := B3.out.cells
      go_upto_region 4 with fail
      have hb20 := and20 a1
      generalize bits .and .i64 a1 1048575 = bb at *
      obtain ⟨w4, hw4⟩ : ∃ w4, w4 = w3.setCell ⟨w.heap.size + 1, 0, none⟩ (.int .i64 bb) := ⟨_, rfl⟩
      have B4 := Lib.hid (show BX w (rpt.BT k n i re im a l.length c) bb w4 by rw [hw4]; exact B3.out.set bb)
      have HB20 := Lib.hid hb20
      rw [← hw4]
      clear hw4 y0 y1 y2 y3 y4 y5 yb yf B3 hb20
      obtain ⟨⟨y0, y1, y2, y3, y4, y5⟩, yb, yf⟩ := B4.out.cells
      go_wp2_with fail
      refine (rVars_any T _ _ (HT.out.below B4.out.bel)).mono ?_
      rintro e w5 ⟨v, rfl, hv, hb⟩
      obtain ⟨vs, hvs⟩ : ∃ vs, vs = vars T := ⟨_, rfl⟩
      rw [← hvs] at hv
      have hvl : vs.length ≤ 2000 := by
        rw [hvs]; unfold vars
        rw [if_pos HG.out]
        have h1 := fold_len (occ T) []
        have h2 := occ_len T
        have h3 := HG.out
        simp only [good, Bool.and_eq_true, decide_eq_true_eq] at h3
        simp only [List.length_nil] at h1
        omega
      obtain ⟨a2', c2', rfl⟩ := Go.Proofs.Ytibepkljcofpdaa.kp.shape hv
      have HV := Lib.hid (And.intro hvs hv)
      have B5 := Lib.hid (B4.out.step hb)
      clear hvs hv hb y0 y1 y2 y3 y4 y5 yb yf
      go_wp2_with fail
      go_loopg [34] vs.length (ARel w5 vs)
      case atStart => exact ⟨0, by omega, by omega, rfl, by simp [small], rfl⟩
      case round =>
        obtain ⟨kk, hk, rfl, rfl, hsm, rfl⟩ := hrel
        by_cases hlt : kk < vs.length
        · as_aux_lemma =>
          obtain ⟨g, hg1, hg2, hg3, hga, hg4⟩ := ints_look HV.out.2 hlt
          have hnx := fun hx => small_next hsm hlt hx
          generalize vs[kk] = x at *
          have HN := Lib.hid hnx
          clear hnx hg2 hg3 hga hsm
          by_cases hx : x > 1099511627776
          · clear hk
            go_wp2_with fail
            refine (s7.awake_any _).mono ?_; rintro e w6 ⟨rfl, hb⟩
            have B6 := Lib.hid (B5.out.step hb)
            clear hb
            go_wp2_with fail
            go_ret
            exact ⟨rfl, B6.out.bel⟩
          · have hx2 := HN.out (by omega)
            have HX2 := Lib.hid hx2
            clear hx2
            go_wp2_with fail
            go_roundg (vs.length - (kk + 1))
            case measure => omega
            case rel => exact ⟨kk + 1, hlt, rfl, by go_num, HX2.out, rfl⟩
        · as_aux_lemma =>
          rw [List.take_of_length_le (by omega)] at hsm
          have HSM := Lib.hid hsm
          have hki : ¬ (kk : Int) < (vs.length : Int) := by omega
          clear hsm hk hlt
          obtain ⟨⟨y0, y1, y2, y3, y4, y5⟩, yb, yf⟩ := B5.out.cells
          have hmap := mp3.map_any wr (fs bb) ⟨w.heap.size + 1, 0, none⟩ (at3 wr (w.heap.size + 1) bb yb) T _ wr (Below.refl _ _) (HT.out.below B5.out.bel) (good_sound HG.out)
          have hmf : ∀ (fn : Fn) (first cap : Array Value) (w : World), (Instr.makeFunc fn first cap).run Try.prog w = .ok (.func fn first cap) w := fun _ _ _ _ => rfl
          have hvv : ∀ n ∈ occ T, 0 ≤ n ∧ n ≤ 1099511627776 := fun n hn => ⟨occ0 HG.out n hn, HSM.out n (by rw [HV.out.1]; exact (mem_vars HG.out n).2 hn)⟩
          obtain ⟨cx, sx1, sx2, hp1, hp2, hh, hsu⟩ := put_two HG.out HS.out HB20.out.1 HB20.out.2 hvv
          have HPP := Lib.hid (And.intro hp1 (And.intro hp2 (And.intro hh hsu)))
          clear hvv hp1 hp2 hh hsu
          go_wp2_with fail
          refine hmap.mono ?_
          rintro e w6 ⟨ku, nu, iu, ru, mu, au, lu, cu, rfl, hb, hU⟩
          obtain ⟨U, hUU⟩ : ∃ U, U = sub (fun n => var (fs bb n)) T := ⟨_, rfl⟩
          rw [← hUU] at hU HPP
          obtain ⟨b7, hb7⟩ : ∃ b7, b7 = w6.heap.size := ⟨_, rfl⟩
          obtain ⟨w7, hw7⟩ : ∃ w7, w7 = w6.alloc (.cells #[.int .i64 ku, .string nu, .int .i64 iu, .int .u64 ru, .int .u64 mu, .slice au lu cu] 36) := ⟨_, rfl⟩
          have B7 := Lib.hid (show BX w (rpt.BT k n i re im a l.length c) bb w7 by rw [hw7]; exact (B5.out.step hb).step (kp.ba _ _))
          have HU7 := Lib.hid (show Lies No w7 U (.agg #[.int .i64 ku, .string nu, .int .i64 iu, .int .u64 ru, .int .u64 mu, .slice au lu cu]) by rw [hw7]; exact (hU.off fun _ _ h => h.elim).below (kp.ba _ _))
          have hu7 : w7.heap[b7]? = some (.cells #[.int .i64 ku, .string nu, .int .i64 iu, .int .u64 ru, .int .u64 mu, .slice au lu cu] 36 (0, 0)) := by rw [hw7, hb7]; exact kp.alloc_at _ _
          have HW7 := Lib.hid (And.intro hb7 hw7)
          have OLDT : ∀ wr, Below w7.heap.size w7 wr → wr.cell? ⟨w.heap.size, 0, none⟩ = some (.int .i64 k) ∧ wr.cell? ⟨w.heap.size, 1, none⟩ = some (.string n) ∧ wr.cell? ⟨w.heap.size, 2, none⟩ = some (.int .i64 i) ∧ wr.cell? ⟨w.heap.size, 3, none⟩ = some (.int .u64 re) ∧ wr.cell? ⟨w.heap.size, 4, none⟩ = some (.int .u64 im) ∧ wr.cell? ⟨w.heap.size, 5, none⟩ = some (.slice a l.length c) := fun wr b => (B7.out.step b).cells.1
          have OLDU : ∀ wr, Below w7.heap.size w7 wr → wr.cell? ⟨b7, 0, none⟩ = some (.int .i64 ku) ∧ wr.cell? ⟨b7, 1, none⟩ = some (.string nu) ∧ wr.cell? ⟨b7, 2, none⟩ = some (.int .i64 iu) ∧ wr.cell? ⟨b7, 3, none⟩ = some (.int .u64 ru) ∧ wr.cell? ⟨b7, 4, none⟩ = some (.int .u64 mu) ∧ wr.cell? ⟨b7, 5, none⟩ = some (.slice au lu cu) := fun wr b => by
            have h := (b.block _ (Array.getElem?_eq_some_iff.1 hu7).1).trans hu7
            refine ⟨?_, ?_, ?_, ?_, ?_, ?_⟩ <;> simp [World.cell?, h]
          have OT := Lib.hid OLDT
          have OU := Lib.hid OLDU
          clear hmap hb hU hUU hb7 hw7 hu7 OLDT OLDU y0 y1 y2 y3 y4 y5 yb yf hmf
          go_upto_region 11 with fail
          rw [← HW7.out.1, ← HW7.out.2]
          clear HW7 HV HSM HB20 B5
          go_wp2_with fail
          refine (new_any 1048576 w7).mono ?_; rintro e w8 ⟨rfl, made⟩
          rw [show max 0 (min (1048576 : Int) 1048576) = MC by decide] at made
          have M8 := Lib.hid made
          clear made
          go_wp2_with fail
          refine (new_any 1048576 w8).mono ?_; rintro e w9 ⟨rfl, made⟩
          rw [show max 0 (min (1048576 : Int) 1048576) = MC by decide] at made
          obtain ⟨p1, hp1⟩ : ∃ p1, p1 = w7.heap.size := ⟨_, rfl⟩
          obtain ⟨p2, hp2⟩ : ∃ p2, p2 = w8.heap.size := ⟨_, rfl⟩
          have t9 : T0 w7 p1 [] p2 [] w9 := by
            obtain ⟨F, a, b, s⟩ := M8.out
            have m1 : Go.Proofs.Ytibepkljcofpdaa.ob.Mine w7 (HB TH p1 [] MC) w8 := by rw [hp1]; exact ⟨F, a, b, s⟩
            obtain ⟨F2, a2, b2, s2⟩ := made
            have := Go.Proofs.Ytibepkljcofpdaa.ob.Mine.more frHB m1 b2 (B := HB TH w8.heap.size [] MC) a2 s2
            rw [← hp2] at this
            exact T0.swap this
          rw [← hp1, ← hp2]
          clear made M8 hp1 hp2
          obtain ⟨y0, y1, y2, y3, y4, y5⟩ := OT.out _ t9.bel
          go_wp2_with fail
          go_region_held3 (fun w' => w'.cell? ⟨w.heap.size, 0, none⟩ = some (.int .i64 k) ∧ w'.cell? ⟨w.heap.size, 1, none⟩ = some (.string n) ∧ w'.cell? ⟨w.heap.size, 2, none⟩ = some (.int .i64 i) ∧ w'.cell? ⟨w.heap.size, 3, none⟩ = some (.int .u64 re) ∧ w'.cell? ⟨w.heap.size, 4, none⟩ = some (.int .u64 im) ∧ w'.cell? ⟨w.heap.size, 5, none⟩ = some (.slice a l.length c))
            (first | exact OT.out _ (T0.bel (by assumption)) | exact OT.out _ (T0.bel (T0.below (by assumption) (kp.bdr _))) | exact OT.out _ (T1.bel (by assumption)) | exact OT.out _ (T1.bel (T1.below (by assumption) (kp.bdr _))) | go_keep)
            (first
            | (go_at_call 13; refine (atm.new_any _).mono ?_; rintro e wN ⟨rfl, made⟩; have t1 := T0.names (W := w7) (p := p1) (h := []) (p' := p2) (h' := []) (by first | assumption | exact T0.below (by assumption) (kp.bdr _)) made)
            | (go_at_call 16; refine (T1.put (W := w7) (p' := p2) (h' := []) (T := T) (by first | assumption | exact T1.below (by assumption) (kp.bdr _)) (HT.out.below B7.out.bel) HS.out _ HPP.out.1.symm).mono ?_; rintro e wP ⟨rfl, t0⟩))
          clear y0 y1 y2 y3 y4 y5 t1 t9
          have t2 := T0.swap t0
          clear t0
          obtain ⟨y0, y1, y2, y3, y4, y5⟩ := OU.out _ t2.bel
          go_wp2_with fail
          go_region_held3 (fun w' => w'.cell? ⟨b7, 0, none⟩ = some (.int .i64 ku) ∧ w'.cell? ⟨b7, 1, none⟩ = some (.string nu) ∧ w'.cell? ⟨b7, 2, none⟩ = some (.int .i64 iu) ∧ w'.cell? ⟨b7, 3, none⟩ = some (.int .u64 ru) ∧ w'.cell? ⟨b7, 4, none⟩ = some (.int .u64 mu) ∧ w'.cell? ⟨b7, 5, none⟩ = some (.slice au lu cu))
            (first | exact OU.out _ (T0.bel (by assumption)) | exact OU.out _ (T0.bel (T0.below (by assumption) (kp.bdr _))) | exact OU.out _ (T1.bel (by assumption)) | exact OU.out _ (T1.bel (T1.below (by assumption) (kp.bdr _))) | go_keep)
            (first
            | (go_at_call 13; refine (atm.new_any _).mono ?_; rintro e wN ⟨rfl, made⟩; have t1 := T0.names (W := w7) (p := p2) (h := []) (p' := p1) (h' := sx1.h) (by first | assumption | exact T0.below (by assumption) (kp.bdr _)) made)
            | (go_at_call 16; refine (T1.put (W := w7) (p' := p1) (h' := sx1.h) (T := U) (by first | assumption | exact T1.below (by assumption) (kp.bdr _)) HU7.out HPP.out.2.2.2 _ HPP.out.2.1.symm).mono ?_; rintro e wQ ⟨rfl, t0⟩))
          have t3 : T0 w7 p2 sx1.h p1 sx1.h wQ := by have := t0; rwa [HPP.out.2.2.1] at this
          obtain ⟨⟨F2, h2⟩, ⟨F1, h1⟩⟩ := t3.heaps
          have HT3 := Lib.hid t3
          clear y0 y1 y2 y3 y4 y5 t1 t2 t0 t3 OT OU HPP HU7
          generalize sx1.h = hx at *
          have hl1 := len_any h1
          have hl2 := len_any h2
          have HH := Lib.hid (And.intro h1 h2)
          have hle := h1.len_le
          clear h1 h2
          go_wp2_with fail
          refine hl1.mono ?_; rintro e w' ⟨rfl, rfl⟩
          go_wp2_with fail
          refine hl2.mono ?_; rintro e w' ⟨rfl, rfl⟩
          go_wp2_with fail
          refine hl1.mono ?_; rintro e w' ⟨rfl, rfl⟩
          go_wp2_with fail
          go_loopg [81] hx.length (fun (g : Nat) (iv : Value) (wz : World) => ∃ j : Nat, j ≤ hx.length ∧ g = hx.length - j ∧ iv = .int .i64 j ∧ wz = wQ)
          case atStart => exact ⟨0, by omega, by omega, rfl, rfl⟩
          case round =>
            obtain ⟨j, hj, hgj, rfl, hwz⟩ := hrel
            subst hgj
            by_cases hlt : j < hx.length
            · as_aux_lemma =>
              have hg1 := get_any HH.out.1 (j : Int)
              have hg2 := get_any HH.out.2 (j : Int)
              rw [← hwz] at hg1 hg2
              generalize gv hx (j : Int) = xv at *
              generalize gb hx (j : Int) = xb at *
              have hki : (j : Int) < (hx.length : Int) := by omega
              have HW := Lib.hid hwz
              have hle2 : hx.length ≤ 1048576 := by omega
              clear hl1 hl2 hwz hj hle
              go_wp2_with fail
              refine hg1.mono ?_; rintro e w' ⟨rfl, rfl⟩
              go_wp2_with fail
              refine hg2.mono ?_; rintro e w' ⟨rfl, rfl⟩
              go_wp2_with fail
              go_roundg (hx.length - (j + 1))
              case measure => omega
              case rel => exact ⟨j + 1, hlt, rfl, by go_num, HW.out⟩
            · as_aux_lemma =>
              have hki : ¬ (j : Int) < (hx.length : Int) := by omega
              have HW := Lib.hid hwz
              clear hl1 hl2 hwz hj hle
              go_wp2_with fail
              refine (s7.awake_any _).mono ?_; rintro e wR ⟨rfl, hb⟩
              have HB := Lib.hid hb
              clear hb
              go_wp2_with fail
              go_ret
              refine ⟨rfl, B7.out.bel.trans ((HT3.out.bel.trans ((HW.out ▸ HB.out).mono ?_)).mono B7.out.bel.size)⟩
              exact HT3.out.bel.size
    · have hne : (may T != 0) = true := by simpa using hg
      clear hg
      go_wp2_with fail
      refine hmay.mono ?_; rintro e w3 ⟨rfl, hb⟩
      have B3 := Lib.hid (B2.out.step hb)
      clear hb hmay y0 y1 y2 y3 y4 y5 yb yf
      go_wp2_with fail
      refine (s7.awake_any _).mono ?_; rintro e w4 ⟨rfl, hb⟩
      have B4 := Lib.hid (B3.out.step hb)
      clear hb
      go_wp2_with fail
      go_ret
      exact ⟨rfl, B4.out.bel⟩
set_option maxRecDepth 100000 in
theorem lifted (os : Os) (started : os.Started) (H : Type) (enc : TypeId × Value → H) :
    ReturnsInHanded {} Try.checked os 9 .any (Rows.storeAlikeSpec.pre6 enc Try.prog Try.f9 Rows.storeAlikeRow.domain false) (Rows.storeAlikeSpec.post enc Try.prog Try.f9 false true false false) := by
  refine returnsInHanded_of_change_sized (C := Try.checked) own started (by kernel_rfl) Try.func9
    (ChangeSpec.witness6 (enc := enc) (C := Try.checked) false ⟨#[], #[.agg #[.int .i64 0, .string ⟨#[]⟩, .int .i64 0, .int .u64 0, .int .u64 0, .slice none 0 0], .int .i64 0], []⟩ 8 (by kernel_rfl) (by kernel_rfl) (by kernel_rfl) (by kernel_rfl)) ?_
  intro W base args ds gs before hval0 hW _ hsz0 _
  have hsz : (DataW.weightsEach Try.prog (Try.f9.params.toList ++ Rows.storeAlikeSpec.plain.varTypes Try.prog) (ds ++ gs)).all (· ≤ reachBytes) = true := hsz0
  clear hsz0
  have hval : ∀ (j : Nat) t v, Try.f9.params[j]? = some t → args[j]? = some v → Value.okWide Try.prog W .any base t v := hval0
  have hW' := hW
  obtain ⟨p, q, hA0, hV, rfl, hfz, hnd⟩ := hW
  have hA : DataW.TrodAll enc Try.prog W 0 (fun _ => true) true Try.f9.params.toList args.toList ds p := hA0
  rw [Try.params9] at hA hval hsz
  obtain ⟨v0, vs0, d0, ds0, p0, q0, hargs, rfl, rfl, h0, r0⟩ := trodAll_cons hA
  obtain ⟨v1, vs1, d1, ds1, p1, q1, rfl, rfl, rfl, h1, r1⟩ := trodAll_cons r0
  obtain ⟨rfl, rfl, rfl⟩ := trodAll_nil r1
  obtain rfl : args = #[v0, v1] := by cases args; simp_all
  obtain ⟨rfl, rfl⟩ := trodVars_none hV
  simp only [List.append_nil] at hW'
  have lt0 : ∀ x ∈ p0, x.block < W.heap.size := fun x hx => by
    have := hW'.lt x (by simp [hx])
    simpa using this
  have k0 := h0
  have lt1 : ∀ x ∈ p1, x.block < W.heap.size := fun x hx => by
    have := hW'.lt x (by simp [hx])
    simpa using this
  have k1 := h1
  obtain ⟨t0, x0⟩ := term_arg (by obtain ⟨cs, hcs, _⟩ := okWide_struct Try.underlying36 (hval 0 36 v0 rfl rfl); exact ⟨cs, hcs⟩) h0
  obtain ⟨a1, rfl, rfl, rfl, w1⟩ := open_int Try.underlying2 (hval 1 2 v1 rfl rfl) h1
  clear hA0 hval0
  refine (walk W v0 t0 x0 a1 w1).mono fun e W' ⟨he, hg⟩ => ?_
  subst he
  have ha := (trodAll_cons_mk (Below.trod laidOut (by kernel_rfl) (of_decide_eq_true (by kernel_rfl)) k0 hg lt0) (trodAll_cons_mk (Below.trod laidOut (by kernel_rfl) (of_decide_eq_true (by kernel_rfl)) k1 hg lt1) trodAll_mk0))
  refine ⟨_, rfl, _, _, _, [], _, [], hW', ?_, ha, rfl, hg.frame _, fun h => by cases h⟩
  exact (trodAll_cons_mk (shut_bool Try.underlying4 _) trodAll_mk0)
/-- THE STATEMENT. -/
theorem proved : Rows.StoreAlikeSaid :=
  OpenClaim.holds_of_wide 9 Try.f9 rfl rfl rfl rfl rfl rfl rfl ⟨rfl, rfl, rfl, rfl, rfl⟩ rfl rfl rfl rfl rfl (by kernel_rfl) Try.func9 (by kernel_rfl)
    (of_decide_eq_true (by kernel_rfl)) (by unfold Func.isWrapper; first | (rw [if_pos (by decide +kernel)]; kernel_rfl) | (rw [if_neg (by decide +kernel)]; exact ⟨rfl, rfl⟩))
    (fun os started H enc _ => lifted os started H enc)
#print axioms proved
end Go.Proofs.Ytibepkljcofpdaa.storeAlike
