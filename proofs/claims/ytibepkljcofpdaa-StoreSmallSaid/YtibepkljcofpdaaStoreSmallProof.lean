/- The law StoreSmall holds: for every input its Go function returns true and leaves its arguments as they were. No condition beyond the row's own. -/
import Derived.Test.YtibepkljcofpdaaRows
import Derived.WalkKit
import Derived.ProofKit
import Derived.OpenShut
import Derived.SizedLaws
import Derived.Test.YtibepkljcofpdaaSL
import Derived.Test.YtibepkljcofpdaaSmC
import Derived.Test.YtibepkljcofpdaaRMay
import Derived.Test.YtibepkljcofpdaaTOpen
import Derived.Deep.RegionHeld3
import Derived.Laws.EntriesVeiled
namespace Go.Proofs.Ytibepkljcofpdaa.storeSmall
open Go.ChangeShapes Go.WideShapes Go.ChangeAt Go.RowKit
open Go.ChangeMaps (open_string)
open Go.Proofs.Ytibepkljcofpdaa.hp Go.Proofs.Ytibepkljcofpdaa.cel Go.Proofs.Ytibepkljcofpdaa.kp Go.Proofs.Ytibepkljcofpdaa.ob Go.Proofs.Ytibepkljcofpdaa.tm Go.Proofs.Ytibepkljcofpdaa.lie Go.Proofs.Ytibepkljcofpdaa.s7 Go.Proofs.Ytibepkljcofpdaa.ppt Go.Proofs.Ytibepkljcofpdaa.top Go.Proofs.Ytibepkljcofpdaa.sl Go.Proofs.Ytibepkljcofpdaa.smc Go.Proofs.Ytibepkljcofpdaa.lgs Go.Proofs.Ytibepkljcofpdaa.rmy Go.Proofs.Ytibepkljcofpdaa.cur Go.Proofs.Ytibepkljcofpdaa.pm
open Go.Proofs.Ytibepkljcofpdaa.rpt (putT HB frHB)
open Go.Proofs.Ytibepkljcofpdaa.atm (l0)
set_option linter.unusedVariables false
theorem own : ownKnob Try.prog.godebug = none := by kernel_rfl
theorem laidOut : laidOutB Try.prog = true := by kernel_rfl
structure BX (w : World) (o : Obj) (wr : World) : Prop where
  bel : Below w.heap.size w wr
  box : wr.heap[w.heap.size]? = some o
  bel2 : Below (w.alloc o).heap.size (w.alloc o) wr
theorem BX.mk0 (w : World) (o : Obj) : BX w o (w.alloc o) := ⟨kp.ba w o, kp.alloc_at w o, Below.refl _ _⟩
theorem BX.step {w wr w' : World} {o : Obj} (h : BX w o wr) (hb : Below wr.heap.size wr w') : BX w o w' := ⟨h.bel.trans (hb.mono h.bel.size), (hb.block _ (Array.getElem?_eq_some_iff.1 h.box).1).trans h.box, h.bel2.trans (hb.mono h.bel2.size)⟩
theorem BX.cells {w wr : World} {v0 v1 v2 v3 v4 v5 : Value} {t : TypeId} (h : BX w (.cells #[v0, v1, v2, v3, v4, v5] t (0, 0)) wr) : wr.cell? ⟨w.heap.size, 0, none⟩ = some v0 ∧ wr.cell? ⟨w.heap.size, 1, none⟩ = some v1 ∧ wr.cell? ⟨w.heap.size, 2, none⟩ = some v2 ∧ wr.cell? ⟨w.heap.size, 3, none⟩ = some v3 ∧ wr.cell? ⟨w.heap.size, 4, none⟩ = some v4 ∧ wr.cell? ⟨w.heap.size, 5, none⟩ = some v5 := by
  have := h.box
  refine ⟨?_, ?_, ?_, ?_, ?_, ?_⟩ <;> simp [World.cell?, this]
theorem vs0 : Vs (fun _ => False) ⟨[], l0, []⟩ := ⟨fun i c h => (by rw [show pm.look (S.v ⟨[], l0, []⟩) i = none from rfl] at h; cases h), by simp [keys], by simp⟩
/-- all of it, where a sound term is put into a large heap -/
theorem put_all {T : Tm} (hg : good T = true) (hs : size T ≤ 4000) : ∃ c s', putT 1048576 T ⟨[], l0, []⟩ = (c, 0, s') ∧ s'.h.length = ns true T := by
  have h0 : may T = 0 := (may_iff T).2 hg
  have hsz := nd_size T
  obtain ⟨c, s', he, ok⟩ := put_ok 1048576 T (-1) ⟨[], l0, []⟩ (fun _ => False) (good_sound hg) vs0 (fun _ h => h.elim) (Or.inl (by omega)) (by simp; omega) (by simp [l0]; omega)
  refine ⟨c, s', by unfold putT; rw [if_pos h0]; exact he, ?_⟩
  rw [ok.len]
  obtain ⟨k, n, i, re, im, l⟩ := T
  show 0 + (if k = 1 then _ else _) = _
  rw [ns]
  by_cases hk : k = 1
  · rw [if_pos hk, if_pos hk, if_pos rfl, if_pos ⟨by decide, rfl⟩]
  · rw [if_neg hk, if_neg hk]; omega
/-- heap, names, the term's box; the counter, the closure beside -/
def PZ (w : World) (b : Nat) (o : Obj) (p q : Nat) (h : List Int) (a : List ByteArray) (nb fb k : Nat) (wr : World) : Prop := Mine w (Tim (OB b o p q h 1048576 a) (Tim (Blk nb (.cells #[.int .i64 k] 3 (0, 0))) (Blk fb (.cells #[FN nb fb] 65 (0, 0))))) wr
theorem frPZ {b : Nat} {o : Obj} {p q : Nat} {h : List Int} {a : List ByteArray} {nb fb k : Nat} : Fr (Tim (OB b o p q h 1048576 a) (Tim (Blk nb (.cells #[.int .i64 k] 3 (0, 0))) (Blk fb (.cells #[FN nb fb] 65 (0, 0))))) := frOB.tim ((Fr.blk _ _).tim (Fr.blk _ _))
theorem PZ.below {w wr w' : World} {b : Nat} {o : Obj} {p q : Nat} {h : List Int} {a : List ByteArray} {nb fb k : Nat} (x : PZ w b o p q h a nb fb k wr) (hb : Below wr.heap.size wr w') : PZ w b o p q h a nb fb k w' := Mine.below frPZ x hb
theorem PZ.cn {w wr : World} {b : Nat} {o : Obj} {p q : Nat} {h : List Int} {a : List ByteArray} {nb fb k : Nat} (x : PZ w b o p q h a nb fb k wr) : Cn nb fb k wr := by
  obtain ⟨N, ⟨K, M, _, ⟨K1, K2, hn, hf, d, _⟩, _⟩, _⟩ := x
  exact ⟨hn.1, hf.1, fun e => d nb ((hn.2 _).2 rfl) ((hf.2 _).2 e)⟩
theorem PZ.turn {w wr w' : World} {b : Nat} {o : Obj} {p q : Nat} {h : List Int} {a : List ByteArray} {nb fb k j : Nat} (x : PZ w b o p q h a nb fb k wr) (kk : kp.Keep (fun q => q = nb) wr w') (c : Cn nb fb j w') : PZ w b o p q h a nb fb j w' := by
  obtain ⟨M, hM, hs, hb, up⟩ := Mine.two frOB x
  obtain ⟨M1, h1, up1⟩ := Tim.at1 (Fr.blk _ _) hM
  exact up _ _ (up1 _ _ (Nx.blk h1 kk c.n))
theorem walk (w : World) (v0 : Value) (t0 : Tm) (x0 : Lies No w t0 v0) :
    Calls Try.prog 7 #[v0] w fun e w' => e = .returned (.bool true) ∧ Below w.heap.size w w' := by
  have HT := Lib.hid x0
  obtain ⟨T, hT⟩ : ∃ T, T = t0 := ⟨_, rfl⟩
  rw [← hT] at HT
  obtain ⟨k, n, i, re, im, l⟩ := t0
  rw [Lies] at x0
  obtain ⟨a, c, rfl, hf, hr⟩ := x0
  have B0 := Lib.hid (BX.mk0 w (rpt.BT k n i re im a l.length c))
  have hlight := Light_any [T] (some ⟨w.heap.size + 1, 0, none⟩) 1 ((w.alloc (rpt.BT k n i re im a l.length c)).alloc (.cells #[.int .i64 k, .string n, .int .i64 i, .int .u64 re, .int .u64 im, .slice a l.length c] 36)) (by
    have := one_row (w.alloc (rpt.BT k n i re im a l.length c)) rfl (HT.out.below (kp.ba w (rpt.BT k n i re im a l.length c)))
    rwa [kp.alloc_size] at this) (by simp)
  clear hf hr hT
  go_enter Try.func7, Try.ntmps7
  go_wp2_with fail
  refine hlight.mono ?_; rintro e w2 ⟨bl, rfl, hsz, hb⟩
  have B2 := Lib.hid ((B0.out.step (kp.ba _ _)).step hb)
  clear hb hlight
  cases bl with
  | false =>
    go_wp2_with fail
    refine (awake_any _).mono ?_; rintro e w3 ⟨rfl, hb⟩
    have B3 := Lib.hid (B2.out.step hb)
    clear hb
    go_wp2_with fail
    go_ret
    exact ⟨rfl, B3.out.bel⟩
  | true =>
    have HS := Lib.hid (size_one (hsz rfl))
    clear hsz
    obtain ⟨y0, y1, y2, y3, y4, y5⟩ := B2.out.cells
    have hmay := rMay_any T _ w2 (HT.out.below B2.out.bel)
    by_cases hg : may T = 0
    · rw [hg] at hmay
      have HG := Lib.hid ((may_iff T).1 hg)
      clear hg
      go_wp2_with fail
      refine hmay.mono ?_; rintro e w3 ⟨rfl, hb⟩
      have B3 := Lib.hid (B2.out.step hb)
      clear hb hmay y0 y1 y2 y3 y4 y5 B2
      go_wp2_with fail
      refine (new_any 1048576 w3).mono ?_; rintro e w4 ⟨rfl, made⟩
      rw [show max 0 (min (1048576 : Int) 1048576) = 1048576 by decide] at made
      have M1 := Lib.hid made
      clear made
      go_wp2_with fail
      refine (atm.new_any w4).mono ?_; rintro e w5 ⟨rfl, made⟩
      have M5 := Lib.hid (Mine.nob (OB.start B3.out.bel2 M1.out made))
      clear made M1
      obtain ⟨p, hp⟩ : ∃ p, p = w3.heap.size := ⟨_, rfl⟩
      obtain ⟨q, hq⟩ : ∃ q, q = w4.heap.size := ⟨_, rfl⟩
      rw [← hp, ← hq] at M5 ⊢
      clear hp hq
      obtain ⟨cc, s', hput, hlen⟩ := put_all HG.out HS.out
      have hcall := OB.put Fr.nob M5.out HT.out (by have := HS.out; simp [l0]; omega) _ hput.symm
      have HL := Lib.hid hlen
      dsimp only at hcall
      obtain ⟨y0, y1, y2, y3, y4, y5⟩ := OB.box M5.out
      clear hput hlen
      go_wp2_with fail
      refine hcall.mono ?_; rintro e w6 ⟨rfl, m6⟩
      have M6 := Lib.hid m6
      clear hcall m6 y0 y1 y2 y3 y4 y5
      obtain ⟨y0, y1, y2, y3, y4, y5⟩ := OB.box M6.out
      obtain ⟨w7, hw7⟩ : ∃ w7, w7 = (w6.alloc (.cells #[.int .i64 0] 3)).alloc (.cells #[FN w6.heap.size (w6.heap.size + 1)] 65) := ⟨_, rfl⟩
      have P7 : PZ w w.heap.size (rpt.BT k n i re im a l.length c) p q s'.h s'.a w6.heap.size (w6.heap.size + 1) 0 w7 := by
        have m1 := (Mine.fst M6.out).blk frOB (.cells #[.int .i64 0] 3 (0, 0))
        have m2 := m1.blk (frOB.tim (Fr.blk _ _)) (.cells #[FN w6.heap.size (w6.heap.size + 1)] 65 (0, 0))
        rw [kp.alloc_size, ← hw7] at m2
        exact m2.imp fun _ t => t.right_
      obtain ⟨nb, hnb⟩ : ∃ nb, nb = w6.heap.size := ⟨_, rfl⟩
      have HNB := Lib.hid hnb
      rw [← hnb] at P7
      have HP7 := Lib.hid P7
      have HW7 := Lib.hid hw7
      clear P7 hw7 hnb
      go_upto_region 10 with fail
      rw [← HW7.out, ← HNB.out]
      clear y0 y1 y2 y3 y4 y5
      obtain ⟨y0, y1, y2, y3, y4, y5⟩ := OB.box HP7.out
      obtain ⟨z0, z1, z2⟩ := HP7.out.cn.cells
      have hcnt := count_any nb (nb + 1) T true _ 0 w7 HP7.out.cn (Lies.keep (X := No) (Keep.of_below (Mine.bel HP7.out)) (fun b hb e => by have := (Mine.bel M6.out).size; have := HNB.out; omega) _ _ HT.out) (by
        have h1 := nd_size T
        have h2 := HS.out
        have h3 : ns true T ≤ nd T + 1 := by obtain ⟨k, n, i, re, im, l⟩ := T; rw [ns]; split <;> simp
        omega)
      rw [Nat.zero_add] at hcnt
      have HL2 := Lib.hid (show (s'.h.length : Int) = (ns true T : Nat) by rw [HL.out])
      obtain ⟨K, hK⟩ : ∃ K, K = ns true T := ⟨_, rfl⟩
      rw [← hK] at hcnt HL2
      clear hK HL
      go_wp2_with fail
      refine hcnt.mono ?_; rintro e w8 ⟨rfl, k8, c8⟩
      have P8 : PZ w w.heap.size (rpt.BT k n i re im a l.length c) p q s'.h s'.a nb (nb + 1) K w8 := HP7.out.turn k8 c8
      clear k8 c8 hcnt y0 y1 y2 y3 y4 y5 z0 z1 z2
      obtain ⟨z0, z1, z2⟩ := P8.cn.cells
      have hlen : ∀ w', PZ w w.heap.size (rpt.BT k n i re im a l.length c) p q s'.h s'.a nb (nb + 1) K w' → Calls Try.prog 29 #[.pointer (some ⟨p, 0, none⟩)] w' fun e w2 => e = .returned (.int .i64 (K : Nat)) ∧ w' = w2 := fun w' x => by
        obtain ⟨F, hH⟩ := OB.heap x
        rw [← HL2.out]; exact len_any hH
      go_wp2_with fail
      go_region_held3 (fun w' => w'.cell? ⟨nb, 0, none⟩ = some (.int .i64 (K : Nat)))
        (first | exact (PZ.cn (by assumption)).cells.1 | exact (PZ.cn (PZ.below (by assumption) (kp.bdr _))).cells.1 | go_keep)
        (first
        | (go_at_call 29; refine (hlen _ (by first | assumption | exact PZ.below (by assumption) (kp.bdr _))).mono ?_; rintro e wL ⟨rfl, rfl⟩)
        | (go_at_call 11; refine (awake_any _).mono ?_; rintro e wA ⟨rfl, hbA⟩; have P9 : PZ w w.heap.size (rpt.BT k n i re im a l.length c) p q s'.h s'.a nb (nb + 1) K wA := PZ.below (by first | assumption | exact PZ.below (by assumption) (kp.bdr _)) hbA))
      all_goals go_wp2_with fail
      all_goals go_ret
      all_goals exact ⟨rfl, Mine.bel P9⟩
    · have hne : (may T != 0) = true := by simpa using hg
      clear hg
      go_wp2_with fail
      refine hmay.mono ?_; rintro e w3 ⟨rfl, hb⟩
      have B3 := Lib.hid (B2.out.step hb)
      clear hb hmay y0 y1 y2 y3 y4 y5
      go_wp2_with fail
      refine (awake_any _).mono ?_; rintro e w4 ⟨rfl, hb⟩
      have B4 := Lib.hid (B3.out.step hb)
      clear hb
      go_wp2_with fail
      go_ret
      exact ⟨rfl, B4.out.bel⟩
set_option maxRecDepth 100000 in
theorem lifted (os : Os) (started : os.Started) (H : Type) (enc : TypeId × Value → H) :
    ReturnsInHanded {} Try.checked os 7 .any (Rows.storeSmallSpec.pre6 enc Try.prog Try.f7 Rows.storeSmallRow.domain false) (Rows.storeSmallSpec.post enc Try.prog Try.f7 false true false false) := by
  refine returnsInHanded_of_change_sized (C := Try.checked) own started (by kernel_rfl) Try.func7
    (ChangeSpec.witness6 (enc := enc) (C := Try.checked) false ⟨#[], #[.agg #[.int .i64 0, .string ⟨#[]⟩, .int .i64 0, .int .u64 0, .int .u64 0, .slice none 0 0]], []⟩ 8 (by kernel_rfl) (by kernel_rfl) (by kernel_rfl) (by kernel_rfl)) ?_
  intro W base args ds gs before hval0 hW _ hsz0 _
  have hsz : (DataW.weightsEach Try.prog (Try.f7.params.toList ++ Rows.storeSmallSpec.plain.varTypes Try.prog) (ds ++ gs)).all (· ≤ reachBytes) = true := hsz0
  clear hsz0
  have hval : ∀ (j : Nat) t v, Try.f7.params[j]? = some t → args[j]? = some v → Value.okWide Try.prog W .any base t v := hval0
  have hW' := hW
  obtain ⟨p, q, hA0, hV, rfl, hfz, hnd⟩ := hW
  have hA : DataW.TrodAll enc Try.prog W 0 (fun _ => true) true Try.f7.params.toList args.toList ds p := hA0
  rw [Try.params7] at hA hval hsz
  obtain ⟨v0, vs0, d0, ds0, p0, q0, hargs, rfl, rfl, h0, r0⟩ := trodAll_cons hA
  obtain ⟨rfl, rfl, rfl⟩ := trodAll_nil r0
  obtain rfl : args = #[v0] := by cases args; simp_all
  obtain ⟨rfl, rfl⟩ := trodVars_none hV
  simp only [List.append_nil] at hW'
  have lt0 : ∀ x ∈ p0, x.block < W.heap.size := fun x hx => by
    have := hW'.lt x (by simp [hx])
    simpa using this
  have k0 := h0
  obtain ⟨t0, x0⟩ := term_arg (by obtain ⟨cs, hcs, _⟩ := okWide_struct Try.underlying36 (hval 0 36 v0 rfl rfl); exact ⟨cs, hcs⟩) h0
  clear hA0 hval0
  refine (walk W v0 t0 x0).mono fun e W' ⟨he, hg⟩ => ?_
  subst he
  have ha := (trodAll_cons_mk (Below.trod laidOut (by kernel_rfl) (of_decide_eq_true (by kernel_rfl)) k0 hg lt0) trodAll_mk0)
  refine ⟨_, rfl, _, _, _, [], _, [], hW', ?_, ha, rfl, hg.frame _, fun h => by cases h⟩
  exact (trodAll_cons_mk (shut_bool Try.underlying4 _) trodAll_mk0)
/-- THE STATEMENT. -/
theorem proved : Rows.StoreSmallSaid :=
  OpenClaim.holds_of_wide 7 Try.f7 rfl rfl rfl rfl rfl rfl rfl ⟨rfl, rfl, rfl, rfl, rfl⟩ rfl rfl rfl rfl rfl (by kernel_rfl) Try.func7 (by kernel_rfl)
    (of_decide_eq_true (by kernel_rfl)) (by unfold Func.isWrapper; first | (rw [if_pos (by decide +kernel)]; kernel_rfl) | (rw [if_neg (by decide +kernel)]; exact ⟨rfl, rfl⟩))
    (fun os started H enc _ => lifted os started H enc)
#print axioms proved
end Go.Proofs.Ytibepkljcofpdaa.storeSmall
