/- The reference's Put, with a map that is there. -/
import Derived.Test.YtibepkljcofpdaaRPutD
import Derived.Test.YtibepkljcofpdaaRMay
namespace Go.Proofs.Ytibepkljcofpdaa.rpt
set_option linter.unusedVariables false
open Go.ChangeShapes Go.WideShapes Go.ChangeAt Go.RowKit Go.Maps
open Go.Proofs.Ytibepkljcofpdaa.hp Go.Proofs.Ytibepkljcofpdaa.cel Go.Proofs.Ytibepkljcofpdaa.kp Go.Proofs.Ytibepkljcofpdaa.ob Go.Proofs.Ytibepkljcofpdaa.pm Go.Proofs.Ytibepkljcofpdaa.tm Go.Proofs.Ytibepkljcofpdaa.lie Go.Proofs.Ytibepkljcofpdaa.rmy
theorem put_zero (m : Int) (t : Tm) (own : Int) (s : S) : (put m t own s).2.1 ≠ 0 → (put m t own s).1 = 0 := by
  obtain ⟨k, n, i, re, im, l⟩ := t
  rw [put]
  repeat' split
  all_goals first
    | (intro h; rfl)
    | (intro h; exact absurd rfl h)
theorem qV (w : World) (r : Option Nat) : (binOp .eql 34 (.map r) (.map none)).run Try.prog w = .ok (.bool r.isNone) w := run_eql_map_nil w _ _ _ r Try.underlying34
/-- what Put answers, what there is behind it -/
def putT (m : Int) (t : Tm) (s : S) : Int × Int × S := if may t = 0 then put m t (-1) s else (0, may t, s)
section
variable {p q mb : Nat} {m : Int} {s : S} {w : World} {N : Nat → Prop}
set_option maxRecDepth 100000 in
set_option maxHeartbeats 2000000 in
theorem rPut_any (t : Tm) (vt : Value) (h : PB p q mb m s w N) (ht : Lies N w t vt) (ha : s.a.length + Go.Proofs.Ytibepkljcofpdaa.tm.size t ≤ 4096) (hv : s.v.length + Go.Proofs.Ytibepkljcofpdaa.tm.size t ≤ 900000) :
    Calls Try.prog 17 #[.pointer (some ⟨p, 0, none⟩), .pointer (some ⟨q, 0, none⟩), vt, .map (some mb)] w fun e w' => e = .returned (.tuple #[.int .u64 (putT m t s).1, .int .i64 (putT m t s).2.1]) ∧ Nx (PB p q mb m (putT m t s).2.2) w N w' := by
  have HT := Lib.hid ht
  obtain ⟨T, hT⟩ : ∃ T, T = t := ⟨_, rfl⟩
  rw [← hT] at HT ha hv ⊢
  obtain ⟨k, n, i, re, im, l⟩ := t
  rw [Lies] at ht
  obtain ⟨a, c, rfl, hf, hr⟩ := ht
  have X1 := Lib.hid (XX.start h (BT k n i re im a l.length c))
  have HN := Lib.hid (And.intro ha hv)
  have hmay := fun w' (b : Below w.heap.size w w') => rMay_any T _ w' ((HT.out.off (Y := No) (fun _ _ h => h.elim)).below b)
  have hnil : ∀ w' : World, (binOp .eql 34 (.map (some mb)) (.map none)).run Try.prog w' = .ok (.bool false) w' := fun w' => qV w' (some mb)
  have hb1 := kp.ba w (BT k n i re im a l.length c)
  clear h hf hr hT ha hv
  by_cases hg : may T = 0
  · have hput := Lib.hid (show putT m T s = put m T (-1) s by unfold putT; rw [if_pos hg])
    have HS := Lib.hid (good_sound ((may_iff T).1 hg))
    rw [hg] at hmay
    clear hg
    go_enter Try.func17, Try.ntmps17
    go_wp2_with fail
    refine (hmay _ hb1).mono ?_; rintro e w2 ⟨rfl, hb2⟩
    have x2 := X1.out.below (Fr.blk _ _) hb2
    obtain ⟨y0, y1, y2, y3, y4, y5⟩ := XX.cells x2
    obtain ⟨K, aK, sub, keepN, up⟩ := x2.open_ (Fr.blk _ _)
    have hl2 := Lies.keep keepN (Y := K) (fun b hb hK => (sub b hK).resolve_right (by omega)) _ _ HT.out
    obtain ⟨cc, ee, s5, hP, hgr, hcall⟩ := arg_put HS.out (rput_any p q mb m T (-1) s _ w2 K aK hl2 HS.out ⟨by omega, by omega⟩ HN.out.1 HN.out.2)
    rw [hP] at hput
    have hz := put_zero m T (-1) s
    rw [hP] at hz
    have HZ := Lib.hid hz
    have UP := Lib.hid up
    clear hmay hb1 hb2 x2 X1 aK sub keepN up hl2 hP hgr hz
    go_wp2_with fail
    refine hcall.mono ?_; rintro e w5 ⟨c0, rfl, hc0, hw0, hnx⟩
    have X5 := Lib.hid (UP.out _ _ hnx)
    have HC := Lib.hid hc0
    clear hcall hc0 hw0 hnx UP y0 y1 y2 y3 y4 y5
    by_cases he : ee = 0
    · subst he
      go_wp2_with fail
      go_ret2
      rw [hput.out]
      have e0 : c0 = cc := HC.out trivial
      subst e0
      exact ⟨rfl, X5.out.drop⟩
    · have HE := Lib.hid he
      have hb : (ee != 0) = true := by simpa using he
      clear he
      go_wp2_with fail
      go_ret2
      rw [hput.out]
      have e0 : cc = 0 := HZ.out HE.out
      subst e0
      exact ⟨rfl, X5.out.drop⟩
  · have hput := Lib.hid (show putT m T s = (0, may T, s) by unfold putT; rw [if_neg hg])
    have hb : (may T != 0) = true := by simpa using hg
    clear hg
    go_enter Try.func17, Try.ntmps17
    go_wp2_with fail
    refine (hmay _ hb1).mono ?_; rintro e w2 ⟨rfl, hb2⟩
    have X2 := Lib.hid (X1.out.below (Fr.blk _ _) hb2)
    clear hb2 X1 hmay
    go_wp2_with fail
    go_ret2
    rw [hput.out]
    exact ⟨rfl, X2.out.drop⟩
end
end Go.Proofs.Ytibepkljcofpdaa.rpt
