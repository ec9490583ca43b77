/- The reference's put of a term that is no compound. -/
import Derived.Test.YtibepkljcofpdaaRPutA
import Derived.Test.YtibepkljcofpdaaRows2
import Derived.Maps.OwnSet
import Derived.Deep.DeepCutAuto
import Derived.Deep.CutBlock
import Derived.BigRegion
import Derived.RegionTactic
namespace Go.Proofs.Ytibepkljcofpdaa.rpt
set_option linter.unusedVariables false
open Go.ChangeShapes Go.WideShapes Go.ChangeAt Go.RowKit Go.Maps
open Go.Proofs.Ytibepkljcofpdaa.hp Go.Proofs.Ytibepkljcofpdaa.cel Go.Proofs.Ytibepkljcofpdaa.kp Go.Proofs.Ytibepkljcofpdaa.ob Go.Proofs.Ytibepkljcofpdaa.pm Go.Proofs.Ytibepkljcofpdaa.tm Go.Proofs.Ytibepkljcofpdaa.lie
open Go.Proofs.Ytibepkljcofpdaa.atm (nv ne nx)
def PutsR (p q mb : Nat) (m : Int) (t : Tm) (own : Int) (s : S) (w : World) (N : Nat → Prop) (e : Ending) (w' : World) : Prop :=
  ∃ c0, e = .returned (.tuple #[.int .u64 c0, .int .i64 (put m t own s).2.1]) ∧ ((put m t own s).2.1 = 0 → c0 = (put m t own s).1) ∧ W64 c0 ∧ Nx (PB p q mb m (put m t own s).2.2) w N w'
theorem PutsR.of {p q mb : Nat} {m : Int} {t : Tm} {own : Int} {s s' : S} {w : World} {N : Nat → Prop} {c0 c e1 : Int} {w' : World} (h : put m t own s = (c, e1, s')) (hc : e1 = 0 → c0 = c) (hw : W64 c0) (hn : Nx (PB p q mb m s') w N w') : PutsR p q mb m t own s w N (.returned (.tuple #[.int .u64 c0, .int .i64 e1])) w' := by
  unfold PutsR; rw [h]; exact ⟨c0, rfl, hc, hw, hn⟩
theorem sv_w {i : Int} : W64 (sv i) := by unfold sv; split; exact jn_w _ (by decide) (by decide); exact ⟨by decide, by decide⟩
section
variable {p q mb : Nat} {m own : Int} {s : S} {w : World} {N : Nat → Prop} {n : ByteArray} {i re im : Int} {a : Option Addr} {len c : Nat} {l : List Tm}
set_option maxRecDepth 100000 in
set_option maxHeartbeats 1000000 in
theorem rput_2 (h : PB p q mb m s w N) (hn : n.size ≤ 200) (ha : s.a.length < 4096) :
    Calls Try.prog 47 #[.pointer (some ⟨p, 0, none⟩), .pointer (some ⟨q, 0, none⟩), .agg #[.int .i64 2, .string n, .int .i64 i, .int .u64 re, .int .u64 im, .slice a len c], .map (some mb), .int .i64 own] w (PutsR p q mb m (.mk 2 n i re im l) own s w N) := by
  have X1 := Lib.hid (XX.start h (.cells #[.int .i64 2, .string n, .int .i64 i, .int .u64 re, .int .u64 im, .slice a len c] 36))
  obtain ⟨q1, q2, q3, _, _⟩ := name_ok hn ha
  have hput := Lib.hid (show put m (.mk 2 n i re im l) own s = (jn 2 (nv s.a n), 0, ⟨s.h, nx s.a n, s.v⟩) by rw [put, if_pos rfl, if_pos q1])
  clear h
  go_enter Try.func47, Try.ntmps47
  go_wp2_with fail
  refine (xNum (Fr.blk _ _) n hn ha X1.out).mono ?_; rintro e w2 ⟨rfl, x2⟩
  have X2 := Lib.hid x2
  clear x2 X1
  generalize nv s.a n = j at *
  have hm := rmake_any 2 j w2 (by omega) (by omega) ⟨q2, by omega⟩
  have hcv : IntKind.u64.wrap j = j := by rw [IntKind.wrap_u64]; omega
  go_wp2_with fail
  refine hm.mono ?_; rintro e w' ⟨rfl, rfl⟩
  go_wp2_with fail
  go_ret2
  exact PutsR.of hput.out (fun _ => rfl) (jn_w _ (by decide) (by decide)) X2.out.drop
set_option maxRecDepth 100000 in
set_option maxHeartbeats 1000000 in
theorem rput_3 (h : PB p q mb m s w N) (hi : I64 i) :
    Calls Try.prog 47 #[.pointer (some ⟨p, 0, none⟩), .pointer (some ⟨q, 0, none⟩), .agg #[.int .i64 3, .string n, .int .i64 i, .int .u64 re, .int .u64 im, .slice a len c], .map (some mb), .int .i64 own] w (PutsR p q mb m (.mk 3 n i re im l) own s w N) := by
  have X1 := Lib.hid (XX.start h (.cells #[.int .i64 3, .string n, .int .i64 i, .int .u64 re, .int .u64 im, .slice a len c] 36))
  have HI := Lib.hid hi
  have hs := fun w => rsmall_any i w hi
  by_cases hso : so i = true
  · have hput := Lib.hid (show put m (.mk 3 n i re im l) own s = (sv i, 0, s) by rw [put, if_neg (by decide), if_pos rfl, if_pos hso])
    rw [hso] at hs
    clear h hi hso
    go_enter Try.func47, Try.ntmps47
    go_wp2_with fail
    refine (hs _).mono ?_; rintro e w' ⟨rfl, rfl⟩
    go_wp2_with fail
    go_ret2
    exact PutsR.of hput.out (fun _ => rfl) sv_w X1.out.drop
  · have hw : W64 (u64 i) := by unfold u64 W64; rw [IntKind.wrap_u64]; omega
    have hp1 := xPush (Fr.blk _ _) (u64 i) hw X1.out
    have hput := Lib.hid (show put m (.mk 3 n i re im l) own s = if (s.h.length : Int) < m then (jn 4 s.h.length, 0, ⟨s.h ++ [u64 i], s.a, s.v⟩) else (0, 4, s) by rw [put, if_neg (by decide), if_pos rfl, if_neg hso])
    have hle := (X1.out.len (Fr.blk _ _)).1
    simp only [Bool.not_eq_true] at hso
    rw [hso] at hs
    clear h hi hso
    unfold u64 at hp1
    go_enter Try.func47, Try.ntmps47
    go_wp2_with fail
    refine (hs _).mono ?_; rintro e w' ⟨rfl, rfl⟩
    go_wp2_with fail
    refine hp1.mono ?_; rintro e w2 ⟨rfl, x2⟩
    have X2 := Lib.hid x2
    have hpv : 0 ≤ pv s.h m ∧ pv s.h m ≤ 1048576 := by unfold pv; split <;> omega
    obtain ⟨j, hj⟩ : ∃ j, j = pv s.h m := ⟨_, rfl⟩
    rw [← hj] at hpv ⊢
    have HJ := Lib.hid hj
    obtain ⟨e1, he1⟩ : ∃ e1, e1 = pe s.h m := ⟨_, rfl⟩
    rw [← he1]
    have HE := Lib.hid he1
    have hm := rmake_any 4 j w2 (by omega) (by omega) ⟨by omega, by omega⟩
    have hcv : IntKind.u64.wrap j = j := by rw [IntKind.wrap_u64]; omega
    clear x2 X1 hs hp1 hj he1
    go_wp2_with fail
    refine hm.mono ?_; rintro e w' ⟨rfl, rfl⟩
    go_wp2_with fail
    go_ret2
    have hx := X2.out.drop
    have hp2 := hput.out
    unfold px at hx
    unfold pv at HJ; unfold pe at HE
    have h1 := HJ.out; have h2 := HE.out
    by_cases hr : (s.h.length : Int) < m
    · rw [if_pos hr] at h1 h2 hx hp2
      rw [h2, h1]; exact PutsR.of hp2 (fun _ => rfl) (jn_w _ (by decide) (by decide)) hx
    · rw [if_neg hr] at h1 h2 hx hp2
      rw [h2]; exact PutsR.of hp2 (fun h => by omega) (jn_w _ (by decide) (by decide)) hx
theorem px_room {l : List Int} {m u : Int} (h : (l.length : Int) < m) : px l m u = l ++ [u] ∧ pv l m = l.length ∧ pe l m = 0 := by unfold px pv pe; rw [if_pos h, if_pos h, if_pos h]; exact ⟨rfl, rfl, rfl⟩
theorem px_none {l : List Int} {m u : Int} (h : ¬ (l.length : Int) < m) : px l m u = l ∧ pv l m = 0 ∧ pe l m = 4 := by unfold px pv pe; rw [if_neg h, if_neg h, if_neg h]; exact ⟨rfl, rfl, rfl⟩
set_option maxRecDepth 100000 in
set_option maxHeartbeats 1000000 in
theorem rput_4 (h : PB p q mb m s w N) (hr : W64 re) (hi : W64 im) :
    Calls Try.prog 47 #[.pointer (some ⟨p, 0, none⟩), .pointer (some ⟨q, 0, none⟩), .agg #[.int .i64 4, .string n, .int .i64 i, .int .u64 re, .int .u64 im, .slice a len c], .map (some mb), .int .i64 own] w (PutsR p q mb m (.mk 4 n i re im l) own s w N) := by
  have X1 := Lib.hid (XX.start h (.cells #[.int .i64 4, .string n, .int .i64 i, .int .u64 re, .int .u64 im, .slice a len c] 36))
  have hle := (X1.out.len (Fr.blk _ _)).1
  have hp1 := xPush (Fr.blk _ _) re hr X1.out
  have HI := Lib.hid hi
  by_cases h1 : (s.h.length : Int) < m
  · obtain ⟨e1, e2, e3⟩ := px_room (u := re) h1
    rw [e1, e2, e3] at hp1
    have hl1 : (s.h ++ [re]).length = s.h.length + 1 := by simp
    by_cases h2 : (s.h.length : Int) + 1 < m
    · have hput := Lib.hid (show put m (.mk 4 n i re im l) own s = (jn 5 s.h.length, 0, ⟨s.h ++ [re] ++ [im], s.a, s.v⟩) by rw [put, if_neg (by decide), if_neg (by decide), if_pos rfl, if_pos h1, if_pos h2])
      obtain ⟨f1, f2, f3⟩ := px_room (l := s.h ++ [re]) (m := m) (u := im) (by rw [hl1]; omega)
      have HF := Lib.hid (And.intro f1 (And.intro f2 f3))
      have hm := fun w => rmake_any 5 (s.h.length : Int) w (by omega) (by omega) ⟨by omega, by omega⟩
      have hcv : IntKind.u64.wrap (s.h.length : Int) = s.h.length := by rw [IntKind.wrap_u64]; omega
      clear h hr hi X1 f1 f2 f3 h1 h2 e1 e2 e3
      go_enter Try.func47, Try.ntmps47
      go_wp2_with fail
      refine hp1.mono ?_; rintro e w2 ⟨rfl, x2⟩
      have hp2 := xPush (Fr.blk _ _) im HI.out x2
      dsimp only at hp2
      rw [HF.out.1, HF.out.2.1, HF.out.2.2] at hp2
      obtain ⟨y0, y1, y2, y3, y4, y5⟩ := XX.cells x2
      clear x2 hp1
      go_wp2_with fail
      refine hp2.mono ?_; rintro e w3 ⟨rfl, x3⟩
      have X3 := Lib.hid x3
      clear x3 hp2 y0 y1 y2 y3 y4 y5
      go_wp2_with fail
      refine (hm _).mono ?_; rintro e w' ⟨rfl, rfl⟩
      go_wp2_with fail
      go_ret2
      exact PutsR.of hput.out (fun _ => rfl) (jn_w _ (by decide) (by decide)) X3.out.drop
    · have hput := Lib.hid (show put m (.mk 4 n i re im l) own s = (0, 4, ⟨s.h ++ [re], s.a, s.v⟩) by rw [put, if_neg (by decide), if_neg (by decide), if_pos rfl, if_pos h1, if_neg h2])
      obtain ⟨f1, f2, f3⟩ := px_none (l := s.h ++ [re]) (m := m) (u := im) (by rw [hl1]; omega)
      have HF := Lib.hid (And.intro f1 (And.intro f2 f3))
      have hm := fun w => rmake_any 5 (s.h.length : Int) w (by omega) (by omega) ⟨by omega, by omega⟩
      have hcv : IntKind.u64.wrap (s.h.length : Int) = s.h.length := by rw [IntKind.wrap_u64]; omega
      clear h hr hi X1 f1 f2 f3 h1 h2 e1 e2 e3
      go_enter Try.func47, Try.ntmps47
      go_wp2_with fail
      refine hp1.mono ?_; rintro e w2 ⟨rfl, x2⟩
      have hp2 := xPush (Fr.blk _ _) im HI.out x2
      dsimp only at hp2
      rw [HF.out.1, HF.out.2.1, HF.out.2.2] at hp2
      obtain ⟨y0, y1, y2, y3, y4, y5⟩ := XX.cells x2
      clear x2 hp1
      go_wp2_with fail
      refine hp2.mono ?_; rintro e w3 ⟨rfl, x3⟩
      have X3 := Lib.hid x3
      clear x3 hp2 y0 y1 y2 y3 y4 y5
      go_wp2_with fail
      refine (hm _).mono ?_; rintro e w' ⟨rfl, rfl⟩
      go_wp2_with fail
      go_ret2
      exact PutsR.of hput.out (fun h => by omega) (jn_w _ (by decide) (by decide)) X3.out.drop
  · obtain ⟨e1, e2, e3⟩ := px_none (u := re) h1
    rw [e1, e2, e3] at hp1
    have hput := Lib.hid (show put m (.mk 4 n i re im l) own s = (0, 4, s) by rw [put, if_neg (by decide), if_neg (by decide), if_pos rfl, if_neg h1])
    have hm := fun w => rmake_any 5 0 w (by omega) (by omega) ⟨by omega, by omega⟩
    have hcv : IntKind.u64.wrap 0 = 0 := by rw [IntKind.wrap_u64]; omega
    clear h hr hi X1 h1 e1 e2 e3
    go_enter Try.func47, Try.ntmps47
    go_wp2_with fail
    refine hp1.mono ?_; rintro e w2 ⟨rfl, x2⟩
    have X2 := Lib.hid x2
    clear x2 hp1
    go_wp2_with fail
    refine (hm _).mono ?_; rintro e w' ⟨rfl, rfl⟩
    go_wp2_with fail
    go_ret2
    exact PutsR.of hput.out (fun h => by omega) (jn_w _ (by decide) (by decide)) X2.out.drop
end
end Go.Proofs.Ytibepkljcofpdaa.rpt
