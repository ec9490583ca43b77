/- Package order: compare, compareCompounds, slices.CompareFunc over terms. -/
import Derived.Test.YtgkcbiabkpcblaaOrA
import Derived.Test.YtgkcbiabkpcblaaRSm
import Derived.Deep.QuietTactic
import Derived.BigQuiet
namespace Go.Proofs.Ytgkcbiabkpcblaa.odb
open Go.ChangeShapes Go.WideShapes Go.ChangeAt Go.RowKit
set_option linter.unusedVariables false
open Go.Proofs.Ytgkcbiabkpcblaa.tm Go.Proofs.Ytgkcbiabkpcblaa.lie Go.Proofs.Ytgkcbiabkpcblaa.kp Go.Proofs.Ytgkcbiabkpcblaa.cur Go.Proofs.Ytgkcbiabkpcblaa.rws Go.Proofs.Ytgkcbiabkpcblaa.sme Go.Proofs.Ytgkcbiabkpcblaa.odm Go.Proofs.Ytgkcbiabkpcblaa.oda
open Go.Proofs.Ytgkcbiabkpcblaa.num (cw cc cc_any cw_zero cc_zero)
theorem past {w : World} {p : Addr} {v : Value} (h : w.cell? p = some v) : ∀ o, (w.alloc o).cell? p = some v := fun o => by
  have hlt : p.block < w.heap.size := by
    rcases Nat.lt_or_ge p.block w.heap.size with h' | h'
    · exact h'
    · simp [World.cell?, Array.getElem?_eq_none h'] at h
  rw [← h]
  simp only [World.cell?, World.alloc, Array.getElem?_push, Nat.ne_of_lt hlt, if_false]
def CP (a : Tm) : Prop := ∀ (b : Tm) (va vb : Value) (w : World), Lies No w a va → Lies No w b vb → sound a = true → sound b = true → Calls Try.prog 25 #[va, vb] w fun e w' => e = .returned (.int .i64 (ord a b)) ∧ Below w.heap.size w w'
theorem ql {P : Program} {f : FuncId} {args : Array Value} {w : World} {n : Nat} {v : Value}
    (h : Calls P f args (w.drewN n) fun e w' => e = .returned v ∧ w.drewN n = w') : Calls P f args (w.drewN n) fun e w'' => e = .returned v ∧ ∃ m, w'' = w.drewN m :=
  h.mono fun _ _ ⟨he, hm⟩ => ⟨he, n, hm.symm⟩
theorem qal {P : Program} {f : FuncId} {args : Array Value} {w : World} {a n : Nat} {v : Value}
    (h : Calls P f args (w.drewN (a + n)) fun e w' => e = .returned v ∧ w.drewN (a + n) = w') :
    Calls P f args (w.drewN (a + n)) fun e w'' => e = .returned v ∧ ∃ m, w'' = w.drewN (a + m) :=
  h.mono fun _ _ ⟨he, hm⟩ => ⟨he, n, hm.symm⟩
theorem below_drewN (w : World) (n : Nat) : Below w.heap.size w (w.drewN n) := ⟨rfl, rfl, rfl, Nat.le_refl _, fun _ _ => rfl⟩
theorem ordL_drop {l l' : List Tm} {k : Nat} (h : k < l.length) (h' : k < l'.length) : ordL (l.drop k) (l'.drop k) = if ord l[k] l'[k] = 0 then ordL (l.drop (k + 1)) (l'.drop (k + 1)) else ord l[k] l'[k] := by
  rw [List.drop_eq_getElem_cons h, List.drop_eq_getElem_cons h', ordL]
def CRel (l l' : List Tm) (w : World) (g : Nat) (s13 : Value) (wr : World) : Prop :=
  ∃ k : Nat, k ≤ l.length ∧ g = l.length - k ∧ s13 = .int .i64 k ∧ Below w.heap.size w wr ∧ ordL l l' = ordL (l.drop k) (l'.drop k)
set_option maxRecDepth 100000 in
set_option maxHeartbeats 1000000 in
theorem cf_any (l l' : List Tm) (ih : ∀ x ∈ l, CP x) (a a' : Option Addr) (c c' : Nat) (w : World) (hr : TRow No w l a 0) (hr' : TRow No w l' a' 0) (hs : ∀ x ∈ l, sound x = true) (hs' : ∀ x ∈ l', sound x = true) (hl : l.length = l'.length) (h20 : l.length ≤ 20) :
    Calls Try.prog 58 #[.slice a l.length c, .slice a' l'.length c', .func (.func 25) #[] #[]] w fun e w' => e = .returned (.int .i64 (ordL l l')) ∧ Below w.heap.size w w' := by
  have HR := Lib.hid (And.intro hr hr')
  have IH := Lib.hid (And.intro ih (And.intro hs hs'))
  have HLL := Lib.hid hl
  rw [← hl]
  clear hr hr' ih hs hs' hl
  go_enter Try.func58, Try.ntmps58
  go_wp2_with fail
  go_loopg [13] l.length (CRel l l' w)
  case atStart => exact ⟨0, by omega, by omega, rfl, br _, rfl⟩
  case round =>
    obtain ⟨kk, hk, rfl, rfl, hb, he⟩ := hrel
    have HLLo := HLL.out
    have HE := Lib.hid he
    clear he
    by_cases hlt : kk < l.length
    · have hlt' : kk < l'.length := HLL.out ▸ hlt
      obtain ⟨b1, o1, v0, v1, v2, v3, v4, v5, hbl, _, h6, hlx, hix⟩ := HR.out.1.look hlt
      obtain ⟨b2, o2, u0, u1, u2, u3, u4, u5, hbl2, _, h62, hlx2, hix2⟩ := HR.out.2.look hlt'
      have h6' := h6.keep (X := No) (Keep.of_below hb) id
      have h62' := h62.keep (X := No) (Keep.of_below hb) id
      have hix' := hix c
      have hix2' := hix2 c'
      rw [← HLLo] at hix2'
      obtain ⟨kq, nq, iq, req, imq, lq, aq, cq, hv, _⟩ := lies_form hlx
      obtain ⟨rfl, rfl, rfl, rfl, rfl, rfl⟩ := hv
      obtain ⟨kp, np, ip, rp, mp, lp, ap, cp, hv, _⟩ := lies_form hlx2
      obtain ⟨rfl, rfl, rfl, rfl, rfl, rfl⟩ := hv
      obtain ⟨e0, e1, e2, e3, e4, e5⟩ := h6'
      obtain ⟨f0, f1, f2, f3, f4, f5⟩ := h62'
      have hmem := List.getElem_mem hlt
      have hmem2 := List.getElem_mem hlt'
      have HD := Lib.hid (ordL_drop hlt hlt')
      have HXX := Lib.hid (And.intro (hlx.below hb) (And.intro (hlx2.below hb) (And.intro hb (And.intro (IH.out.1 _ hmem) (And.intro (IH.out.2.1 _ hmem) (IH.out.2.2 _ hmem2))))))
      have f0' := past f0
      have f1' := past f1
      have f2' := past f2
      have f3' := past f3
      have f4' := past f4
      have f5' := past f5
      clear h6 h62 hlx hlx2 hix hix2 hb HLLo hmem hmem2 f0 f1 f2 f3 f4 f5
      go_wp2_with fail
      refine (HXX.out.2.2.2.1 _ _ _ _ ((HXX.out.1.below (ba _ _)).below (ba _ _)) ((HXX.out.2.1.below (ba _ _)).below (ba _ _)) HXX.out.2.2.2.2.1 HXX.out.2.2.2.2.2).mono ?_
      rintro e w4 ⟨rfl, hb4⟩
      have HB4 := Lib.hid (HXX.out.2.2.1.trans ((bt (bt (ba _ _) (ba _ _)) hb4).mono HXX.out.2.2.1.size))
      clear hb4 e0 e1 e2 e3 e4 e5 f0' f1' f2' f3' f4' f5'
      by_cases hz : ord l[kk] l'[kk] = 0
      · have HZ := Lib.hid hz
        have q : (ord l[kk] l'[kk] != 0) = false := by rw [bne_eq_false_iff_eq]; exact hz
        clear hz
        go_wp2_with fail
        go_roundg (l.length - (kk + 1))
        case measure => omega
        case rel => exact ⟨kk + 1, hlt, rfl, by go_num, HB4.out, by rw [HE.out, HD.out, if_pos HZ.out]⟩
      · have HZ := Lib.hid hz
        have q : (ord l[kk] l'[kk] != 0) = true := by rw [bne_iff_ne]; exact hz
        clear hz
        go_wp2_with fail
        go_ret
        exact ⟨rI (by rw [HE.out, HD.out, if_neg HZ.out]), HB4.out⟩
    · have HB := Lib.hid hb
      have hkk : kk = l.length := by omega
      clear hb
      go_wp2_with fail
      go_ret
      refine ⟨rI ?_, HB.out⟩
      rw [HE.out, List.drop_of_length_le (by omega), List.drop_of_length_le (by omega)]
      rfl
def CV (k : Int) (n : ByteArray) (i re im : Int) (a : Option Addr) (l : List Tm) (c : Nat) : Value := .agg #[.int .i64 k, .string n, .int .i64 i, .int .u64 re, .int .u64 im, .slice a l.length c]
set_option maxRecDepth 100000 in
set_option maxHeartbeats 1000000 in
theorem cc5_any (l l' : List Tm) (ih : ∀ x ∈ l, CP x) (n n' : ByteArray) (i i' re re' im im' : Int) (a a' : Option Addr) (c c' : Nat) (w : World) (hr : TRow No w l a 0) (hr' : TRow No w l' a' 0) (hs : ∀ x ∈ l, sound x = true) (hs' : ∀ x ∈ l', sound x = true) (h20 : l.length ≤ 20) (h20' : l'.length ≤ 20) :
    Calls Try.prog 44 #[.agg #[.int .i64 5, .string n, .int .i64 i, .int .u64 re, .int .u64 im, .slice a l.length c], .agg #[.int .i64 5, .string n', .int .i64 i', .int .u64 re', .int .u64 im', .slice a' l'.length c']] w fun e w' => e = .returned (.int .i64 (ord (.mk 5 n i re im l) (.mk 5 n' i' re' im' l'))) ∧ Below w.heap.size w w' := by
  have HR := Lib.hid (And.intro hr hr')
  have IH := Lib.hid (And.intro ih (And.intro hs hs'))
  have HW := Lib.hid (two_box (br ((w.alloc (.cells #[.int .i64 5, .string n, .int .i64 i, .int .u64 re, .int .u64 im, .slice a l.length c] 25)).alloc (.cells #[.int .i64 5, .string n', .int .i64 i', .int .u64 re', .int .u64 im', .slice a' l'.length c'] 25)))).2.2
  clear hr hr' ih hs hs'
  by_cases hl : l.length = l'.length
  · by_cases hn : n = n'
    · subst hn
      have HV : Hid (ord (.mk 5 n i re im l) (.mk 5 n i' re' im' l') = ordL l l') := Lib.hid (by rw [ord]; simp [hl])
      rw [HV.out]
      have HL := Lib.hid hl
      rw [← hl]
      rw [← hl] at HW
      clear hl
      go_enter Try.func44, Try.ntmps44
      go_wp2_with fail
      have hc := cf_any l l' IH.out.1 a a' c c' _ (HR.out.1.below HW.out) (HR.out.2.below HW.out) IH.out.2.1 IH.out.2.2 HL.out h20
      rw [← HL.out] at hc
      refine hc.mono ?_
      rintro e w4 ⟨rfl, hb4⟩
      have HB := Lib.hid (bt HW.out hb4)
      clear hb4
      go_wp2_with fail
      go_ret
      exact ⟨rfl, HB.out⟩
    · have HV : Hid (ord (.mk 5 n i re im l) (.mk 5 n' i' re' im' l') = sc n n') := Lib.hid (by rw [ord]; simp [hl, hn])
      rw [HV.out]
      have q := tl_ne hn
      rw [← hl]
      rw [← hl] at HW
      clear hl hn
      go_enter Try.func44, Try.ntmps44
      go_wp2_with fail
      refine (cmp_str _ _ _).mono ?_
      rintro e w4 ⟨rfl, rfl⟩
      go_wp2_with fail
      go_ret
      exact ⟨rfl, HW.out⟩
  · have HV : Hid (ord (.mk 5 n i re im l) (.mk 5 n' i' re' im' l') = cw l.length l'.length) := Lib.hid (by rw [ord]; simp [hl])
    rw [HV.out]
    have q : ((l.length : Int) != l'.length) = true := by rw [bne_iff_ne]; omega
    clear hl
    go_enter Try.func44, Try.ntmps44
    go_wp2_with fail
    refine (cmp_int _ _ _).mono ?_
    rintro e w4 ⟨rfl, rfl⟩
    go_wp2_with fail
    go_ret
    exact ⟨rfl, HW.out⟩
set_option maxRecDepth 100000 in
set_option maxHeartbeats 1000000 in
theorem compare_any (t : Tm) : CP t := by
  induction t using Tm.ind with
  | h k n i re im l ih =>
    intro b va vb w ha hb hsa hsb
    obtain ⟨k', n', i', re', im', l'⟩ := b
    have hk0 := Go.Proofs.Ytgkcbiabkpcblaa.tm.chk_kind (sound_chk hsa)
    have hk1 := Go.Proofs.Ytgkcbiabkpcblaa.tm.chk_kind (sound_chk hsb)
    simp only [Tm.kind] at hk0 hk1
    rw [Lies] at ha hb
    obtain ⟨a, c, rfl, hf, hr⟩ := ha
    obtain ⟨a', c', rfl, hf', hr'⟩ := hb
    have HR := Lib.hid (And.intro hr hr')
    have IH := Lib.hid ih
    have HS := Lib.hid (And.intro hsa hsb)
    have HW := Lib.hid (two_box (br ((w.alloc (.cells #[.int .i64 k, .string n, .int .i64 i, .int .u64 re, .int .u64 im, .slice a l.length c] 25)).alloc (.cells #[.int .i64 k', .string n', .int .i64 i', .int .u64 re', .int .u64 im', .slice a' l'.length c'] 25)))).2.2
    clear hf hf' hr hr' hsa hsb ih
    by_cases hk : k = k'
    · subst hk
      clear hk1
      rcases hk0 with rfl | rfl | rfl | rfl | rfl
      · have HV : Hid (ord (.mk 1 n i re im l) (.mk 1 n' i' re' im' l') = cw i i') := Lib.hid (by rw [ord]; simp)
        rw [HV.out]
        go_enter Try.func25, Try.ntmps25
        go_wp2_with fail
        refine (cmp_int64 _ _ _).mono ?_
        rintro e w4 ⟨rfl, rfl⟩
        go_wp2_with fail
        go_ret
        exact ⟨rfl, HW.out⟩
      · have HV : Hid (ord (.mk 2 n i re im l) (.mk 2 n' i' re' im' l') = sc n n') := Lib.hid (by rw [ord]; simp)
        rw [HV.out]
        go_enter Try.func25, Try.ntmps25
        go_wp2_with fail
        refine (cmp_str _ _ _).mono ?_
        rintro e w4 ⟨rfl, rfl⟩
        go_wp2_with fail
        go_ret
        exact ⟨rfl, HW.out⟩
      · have HV : Hid (ord (.mk 3 n i re im l) (.mk 3 n' i' re' im' l') = cw i i') := Lib.hid (by rw [ord]; simp)
        rw [HV.out]
        go_enter Try.func25, Try.ntmps25
        go_wp2_with fail
        refine (cmp_int64 _ _ _).mono ?_
        rintro e w4 ⟨rfl, rfl⟩
        go_wp2_with fail
        go_ret
        exact ⟨rfl, HW.out⟩
      · have HV : Hid (ord (.mk 4 n i re im l) (.mk 4 n' i' re' im' l') = cc re im re' im') := Lib.hid (by rw [ord]; simp)
        rw [HV.out]
        go_enter Try.func25, Try.ntmps25
        go_wp2_with fail
        refine (cc_any _ _ _ _ _).mono ?_
        rintro e w4 ⟨rfl, rfl⟩
        go_wp2_with fail
        go_ret
        exact ⟨rfl, HW.out⟩
      · have hl20 : l.length ≤ 20 := by have := sound_chk HS.out.1; simp only [chk] at this; simp at this; omega
        have hl20' : l'.length ≤ 20 := by have := sound_chk HS.out.2; simp only [chk] at this; simp at this; omega
        have HC := Lib.hid (fun w' => cc5_any l l' IH.out n n' i i' re re' im im' a a' c c' w')
        have HQ := Lib.hid (And.intro (sound_args HS.out.1 rfl) (And.intro (sound_args HS.out.2 rfl) (And.intro hl20 hl20')))
        clear hl20 hl20'
        go_enter Try.func25, Try.ntmps25
        go_wp2_with fail
        refine (HC.out _ (HR.out.1.below HW.out) (HR.out.2.below HW.out) HQ.out.1 HQ.out.2.1 HQ.out.2.2.1 HQ.out.2.2.2).mono ?_
        rintro e w4 ⟨rfl, hb4⟩
        have HB := Lib.hid (bt HW.out hb4)
        clear hb4
        go_wp2_with fail
        go_ret
        exact ⟨rfl, HB.out⟩
    · have HV : Hid (ord (.mk k n i re im l) (.mk k' n' i' re' im' l') = cw (rk k) (rk k')) := Lib.hid (by rw [ord]; simp [hk])
      have q : (k != k') = true := by rw [bne_iff_ne]; exact hk
      rw [HV.out]
      clear hk hk0 hk1
      go_enter Try.func25, Try.ntmps25
      go_wp2_with fail
      have r1 := fun w' => Lib.hid (rank_any k w')
      have r2 := fun w' => Lib.hid (rank_any k' w')
      have r3 := fun w' => Lib.hid (cmp_int (rk k) (rk k') w')
      go_quiet ((first | (go_at_call 41; first | with_reducible exact ql (r1 _).out | with_reducible exact ql (r2 _).out) | (go_at_call 40; exact ql (r3 _).out)))
      go_wp2_with fail
      go_ret
      exact ⟨rfl, bt HW.out (below_drewN _ _)⟩
end Go.Proofs.Ytgkcbiabkpcblaa.odb
