/- The reference's put of any term that may be. The reference's Put, with a map that is there. -/
import Derived.Test.YtibepkljcofpdaaRPutC
import Derived.Test.YtibepkljcofpdaaPutB
import Derived.LoopTactic
import Derived.Deep.LoopGhost
import Derived.Test.YtibepkljcofpdaaRMay
namespace Go.Proofs.Ytibepkljcofpdaa.rpt
set_option linter.unusedVariables false
open Go.ChangeShapes Go.WideShapes Go.ChangeAt Go.RowKit Go.Maps
open Go.Proofs.Ytibepkljcofpdaa.hp Go.Proofs.Ytibepkljcofpdaa.cel Go.Proofs.Ytibepkljcofpdaa.kp Go.Proofs.Ytibepkljcofpdaa.ob Go.Proofs.Ytibepkljcofpdaa.pm Go.Proofs.Ytibepkljcofpdaa.tm Go.Proofs.Ytibepkljcofpdaa.lie
open Go.Proofs.Ytibepkljcofpdaa.atm (nv ne nx)
def L1 (w : World) (N : Nat → Prop) (p q mb : Nat) (m : Int) (C : Ob) (len : Nat) (h1 : List Int) (a : List ByteArray) (v : List (Int × Int)) (g : Nat) (ev iv : Value) (wr : World) : Prop :=
  ∃ (k : Nat) (l' : List Int) (e : Int), k + g = len ∧ iv = .int .i64 k ∧ ev = .int .i64 e ∧ ((e = 0 ∧ more m g l' = more m len h1) ∨ (e = 4 ∧ more m len h1 = (4, l'))) ∧ XX w N p q mb m ⟨l', a, v⟩ C wr
def C1 (w : World) (N : Nat → Prop) (p q mb : Nat) (m : Int) (C : Ob) (len : Nat) (h1 : List Int) (a : List ByteArray) (v : List (Int × Int)) (ev : Value) (wr : World) : Prop :=
  ∃ (l' : List Int) (e : Int), ev = .int .i64 e ∧ more m len h1 = (e, l') ∧ XX w N p q mb m ⟨l', a, v⟩ C wr
/-- what the second loop is to make -/
def fin (m : Int) (l : List Tm) (x e : Int) (p : Nat) (s : S) : Int × S := if e = 0 then putL m l p s else (e, s)
def L2 (w : World) (N : Nat → Prop) (p q mb : Nat) (m : Int) (C : Ob) (l : List Tm) (at' : Nat) (r : Int × S) (g : Nat) (ev iv : Value) (wr : World) : Prop :=
  ∃ (k : Nat) (s' : S) (e : Int), k ≤ l.length ∧ g = l.length - k ∧ iv = .int .i64 k ∧ ev = .int .i64 e ∧ ((e = 0 ∧ putL m (l.drop k) (at' + 1 + k) s' = r ∧ at' + 1 + l.length ≤ s'.h.length ∧ s'.a.length + sizeL (l.drop k) ≤ 4096 ∧ s'.v.length + sizeL (l.drop k) ≤ 900000) ∨ (e ≠ 0 ∧ r = (e, s'))) ∧ XX w N p q mb m s' C wr
def C2 (w : World) (N : Nat → Prop) (p q mb : Nat) (m : Int) (C : Ob) (r : Int × S) (ev : Value) (wr : World) : Prop := ∃ (s' : S) (e : Int), ev = .int .i64 e ∧ r = (e, s') ∧ XX w N p q mb m s' C wr
/-- arguments, where memory has turned elsewhere -/
theorem row_at {w wr : World} {N K : Nat → Prop} {l : List Tm} {a : Option Addr} (h : TRow N w l a 0) (k : kp.Keep N w wr) (sub : ∀ i, K i → N i ∨ w.heap.size ≤ i) : TRow K wr l a 0 :=
  TRow.keep k (fun b hb hK => (sub b hK).resolve_right (by omega)) l 0 h
theorem more_e (m : Int) : ∀ (n : Nat) (l : List Int), (more m n l).1 = 0 ∨ (more m n l).1 = 4
  | 0, l => Or.inl rfl
  | n + 1, l => by
    unfold more
    split
    · exact more_e m n _
    · exact Or.inr rfl
theorem wr1 {a : Nat} (h : a ≤ 1048576) : wrap64 ((a : Int) + 1) = (a : Int) + 1 := by unfold wrap64; omega
theorem wr2 {a k x : Nat} (hx : x = a + 1 + k) (h : x ≤ 1048576) : wrap64 ((a : Int) + 1 + (k : Int)) = (x : Int) := by unfold wrap64; omega
/-- an argument's put, what it makes by name -/
theorem arg_put {p q mb : Nat} {m own : Int} {t : Tm} {s : S} {vt : Value} {w : World} {N : Nat → Prop} (hs : sound t = true)
    (h : Calls Try.prog 47 #[.pointer (some ⟨p, 0, none⟩), .pointer (some ⟨q, 0, none⟩), vt, .map (some mb), .int .i64 own] w (PutsR p q mb m t own s w N)) :
    ∃ cc ee s5, put m t own s = (cc, ee, s5) ∧ Gr (Go.Proofs.Ytibepkljcofpdaa.tm.size t) s s5 ∧ Calls Try.prog 47 #[.pointer (some ⟨p, 0, none⟩), .pointer (some ⟨q, 0, none⟩), vt, .map (some mb), .int .i64 own] w fun e w' => ∃ c0, e = .returned (.tuple #[.int .u64 c0, .int .i64 ee]) ∧ (ee = 0 → c0 = cc) ∧ W64 c0 ∧ Nx (PB p q mb m s5) w N w' :=
  ⟨(put m t own s).1, (put m t own s).2.1, (put m t own s).2.2, rfl, put_grow m t hs own s, h⟩
theorem more_len (m : Int) : ∀ (n : Nat) (l : List Int), (more m n l).1 = 0 → (more m n l).2.length = l.length + n
  | 0, l, _ => rfl
  | n + 1, l, h => by
    unfold more at h ⊢
    split at h
    · rename_i hr
      rw [if_pos hr]
      have := more_len m n _ h
      rw [this]; simp; omega
    · cases h
theorem put_of {m : Int} {l : List Tm} {h1 h2 : List Int} {e9 : Int} {r : Int × S} {P : Int × Int × S} {a : List ByteArray} {v : List (Int × Int)} {at' : Nat} (hm : more m l.length h1 = (e9, h2)) (hr : r = if e9 = 0 then putL m l (at' + 1) ⟨h2, a, v⟩ else (e9, ⟨h2, a, v⟩))
    (hP : P = (match more m l.length h1 with
          | (e, h) => if e = 0 then (match putL m l (at' + 1) ⟨h, a, v⟩ with
              | (e, s') => if e = 0 then (jn 1 at', 0, s') else (0, e, s'))
            else (0, e, ⟨h, a, v⟩))) : P = if r.1 = 0 then (jn 1 at', 0, r.2) else (0, r.1, r.2) := by
  rw [hm] at hP
  dsimp only at hP
  by_cases he : e9 = 0
  · rw [if_pos he] at hP hr
    rw [hP, hr]
  · rw [if_neg he] at hP hr
    rw [hP, hr, if_neg he]
set_option maxRecDepth 100000 in
set_option maxHeartbeats 4000000 in
theorem rput_any (p q mb : Nat) (m : Int) (t : Tm) : ∀ (own : Int) (s : S) (vt : Value) (w : World) (N : Nat → Prop), PB p q mb m s w N → Lies N w t vt → sound t = true → (-1 ≤ own ∧ own < 1048576) → s.a.length + Go.Proofs.Ytibepkljcofpdaa.tm.size t ≤ 4096 → s.v.length + Go.Proofs.Ytibepkljcofpdaa.tm.size t ≤ 900000 →
    Calls Try.prog 47 #[.pointer (some ⟨p, 0, none⟩), .pointer (some ⟨q, 0, none⟩), vt, .map (some mb), .int .i64 own] w (PutsR p q mb m t own s w N) := by
  induction t using Tm.ind with
  | h k n i re im l ih =>
    intro own s vt w N h ht hs ho ha hv
    rw [Lies] at ht
    obtain ⟨a, c, rfl, hf, hr⟩ := ht
    have hc := sound_chk hs
    have hk := pm.chkk hc
    have hsz : 1 ≤ Go.Proofs.Ytibepkljcofpdaa.tm.size (.mk k n i re im l) := by rw [tm.size]; omega
    rcases hk with rfl | ⟨rfl, hn⟩ | rfl | rfl | ⟨rfl, hn, hl1, hl2⟩
    · cases e : pm.look s.v i with
      | some c0 => exact rput_1old h ⟨hf.i0, hf.i1⟩ e
      | none =>
        by_cases h0 : own < 0
        · exact rput_1new h ⟨hf.i0, hf.i1⟩ e h0 (by omega)
        · exact rput_1own h ⟨hf.i0, hf.i1⟩ e (by omega) ho.2 (by omega)
    · exact rput_2 h hn (by omega)
    · exact rput_3 h ⟨hf.i0, hf.i1⟩
    · exact rput_4 h ⟨hf.r0, by have := hf.r1; omega⟩ ⟨hf.m0, by have := hf.m1; omega⟩
    · have hsz5 : Go.Proofs.Ytibepkljcofpdaa.tm.size (.mk 5 n i re im l) = 1 + sizeL l := by simp [tm.size]
      rw [hsz5] at ha hv
      have X1 := Lib.hid (XX.start h (BT 5 n i re im a l.length c))
      obtain ⟨q1, q2, q3, _, _⟩ := name_ok hn (show s.a.length < 4096 by omega)
      have hnum := xNum (Fr.blk _ _) n hn (by omega) X1.out
      have ROW := Lib.hid hr
      have HSS := Lib.hid (sound_args hs rfl)
      have IH := Lib.hid ih
      have hng := nx_gr s.a n
      have HB := Lib.hid (show (nx s.a n).length + sizeL l ≤ 4096 ∧ s.v.length + sizeL l ≤ 900000 by omega)
      have hput := Lib.hid (show put m (.mk 5 n i re im l) own s = if (s.h.length : Int) < m then
        (match more m l.length (s.h ++ [jn 6 (nv s.a n * 256 + l.length)]) with
          | (e, h) => if e = 0 then (match putL m l (s.h.length + 1) ⟨h, nx s.a n, s.v⟩ with
              | (e, s') => if e = 0 then (jn 1 s.h.length, 0, s') else (0, e, s'))
            else (0, e, ⟨h, nx s.a n, s.v⟩))
        else (0, 4, ⟨s.h, nx s.a n, s.v⟩) by rw [put, if_neg (by decide), if_neg (by decide), if_neg (by decide), if_neg (by decide), if_pos q1])
      clear h hf hr hc hs ih ha hv hsz hsz5 hng
      obtain ⟨j, hj⟩ : ∃ j, j = nv s.a n := ⟨_, rfl⟩
      rw [← hj] at hnum q2 q3 hput
      have HJ := Lib.hid hj
      clear hj
      go_enter Try.func47, Try.ntmps47
      go_wp2_with fail
      refine hnum.mono ?_; rintro e w2 ⟨rfl, x2⟩
      have X2 := Lib.hid x2
      obtain ⟨y0, y1, y2, y3, y4, y5⟩ := XX.cells x2
      have hfun := rfunctor_any j l.length w2 q2 q3 (by omega) (by omega)
      have hpush := xPush (Fr.blk _ _) (jn 6 (j * 256 + l.length)) (jn_w _ (by decide) (by decide)) x2
      dsimp only at hpush
      have hle := (x2.len (Fr.blk _ _)).1
      dsimp only at hle
      clear x2 hnum X1
      go_wp2_with fail
      refine hfun.mono ?_; rintro e w' ⟨rfl, rfl⟩
      go_wp2_with fail
      refine hpush.mono ?_; rintro e w3 ⟨rfl, x3⟩
      clear hfun hpush y0 y1 y2 y3 y4 y5 X2
      by_cases hr : (s.h.length : Int) < m
      · obtain ⟨e1, e2, e3⟩ := px_room (u := jn 6 (j * 256 + l.length)) hr
        rw [e1] at x3
        rw [e2, e3]
        have hp2 := hput.out
        rw [if_pos hr] at hp2
        have HP := Lib.hid hp2
        have X3 := Lib.hid x3
        have HR := Lib.hid hr
        have hh1 : (s.h ++ [jn 6 (j * 256 + (l.length : Int))]).length = s.h.length + 1 := by simp
        obtain ⟨h1, hh⟩ : ∃ h1, h1 = s.h ++ [jn 6 (j * 256 + (l.length : Int))] := ⟨_, rfl⟩
        rw [← hh] at hh1
        have HH := Lib.hid hh
        have X3 : Hid (XX w N p q mb m ⟨h1, nx s.a n, s.v⟩ (Blk w.heap.size (BT 5 n i re im a l.length c)) w3) := by rw [hh]; exact X3
        have HP : Hid (put m (.mk 5 n i re im l) own s = (match more m l.length h1 with
          | (e, h) => if e = 0 then (match putL m l (s.h.length + 1) ⟨h, nx s.a n, s.v⟩ with
              | (e, s') => if e = 0 then (jn 1 s.h.length, 0, s') else (0, e, s'))
            else (0, e, ⟨h, nx s.a n, s.v⟩))) := by rw [hh]; exact HP
        clear x3 e1 e2 e3 hp2 hput hr hh
        go_upto_block 1 with fail
        go_cut [25] (fun ev wx => C1 w N p q mb m (Blk w.heap.size (BT 5 n i re im a l.length c)) l.length h1 (nx s.a n) s.v ev wx)
        case first =>
          go_wp2_with fail
          go_loopg [25, 27] l.length (L1 w N p q mb m (Blk w.heap.size (BT 5 n i re im a l.length c)) l.length h1 (nx s.a n) s.v)
          case atStart => exact ⟨0, h1, 0, by omega, rfl, rfl, Or.inl ⟨rfl, rfl⟩, X3.out⟩
          case round =>
            obtain ⟨k9, l', e9, hkg, rfl, rfl, hst, x⟩ := hrel
            obtain ⟨y0, y1, y2, y3, y4, y5⟩ := XX.cells x
            have HST := Lib.hid hst
            have XW := Lib.hid x
            by_cases he : e9 = 0
            · subst he
              by_cases hlt : k9 < l.length
              · as_aux_lemma =>
                have hst : more m gk l' = more m l.length h1 := (HST.out.resolve_right fun h => by omega).2
                obtain ⟨g9, rfl⟩ : ∃ g9, gk = g9 + 1 := ⟨gk - 1, by omega⟩
                have HS := Lib.hid hst
                have hki : (k9 : Int) < (l.length : Int) := by omega
                have hvar := xVar (Fr.blk _ _) x
                dsimp only at hvar
                clear x hst HST
                go_wp2_with fail
                refine hvar.mono ?_; rintro e w5 ⟨rfl, x5⟩
                have X5 := Lib.hid x5
                clear x5 hvar y0 y1 y2 y3 y4 y5
                go_wp2_with fail
                go_roundg g9
                case measure => omega
                case rel =>
                  have h2 := HS.out
                  rw [more] at h2
                  have x6 := X5.out
                  by_cases hr : (l'.length : Int) < m
                  · obtain ⟨e1, e2, e3⟩ := px_room (u := (l'.length : Int) * 8) hr
                    rw [if_pos hr] at h2
                    rw [e1] at x6
                    exact ⟨k9 + 1, _, 0, by omega, by go_num, by rw [e3], Or.inl ⟨rfl, h2⟩, x6⟩
                  · obtain ⟨e1, e2, e3⟩ := px_none (u := (l'.length : Int) * 8) hr
                    rw [if_neg hr] at h2
                    rw [e1] at x6
                    exact ⟨k9 + 1, _, 4, by omega, by go_num, by rw [e3], Or.inr ⟨rfl, h2.symm⟩, x6⟩
              · as_aux_lemma =>
                obtain rfl : gk = 0 := by omega
                have hst : more m 0 l' = more m l.length h1 := (HST.out.resolve_right fun h => by omega).2
                have HS := Lib.hid (show more m l.length h1 = (0, l') by rw [← hst]; rfl)
                clear x hst HST
                go_wp2_with fail
                go_meet
                exact ⟨l', 0, rfl, HS.out, XW.out⟩
            · obtain ⟨e94, hst2⟩ := HST.out.resolve_left fun h => he h.1
              subst e94
              have HS := Lib.hid hst2
              by_cases hlt : k9 < l.length
              · as_aux_lemma =>
                have hki : (k9 : Int) < (l.length : Int) := by omega
                clear x hst hst2 HST he
                go_wp2_with fail
                go_meet
                exact ⟨l', 4, rfl, HS.out, XW.out⟩
              · as_aux_lemma =>
                have hki : ¬ (k9 : Int) < (l.length : Int) := by omega
                clear x hst hst2 HST he
                go_wp2_with fail
                go_meet
                exact ⟨l', 4, rfl, HS.out, XW.out⟩
        case rest =>
          obtain ⟨h2, e9, rfl, hm, x⟩ := hcut
          obtain ⟨r, hr⟩ : ∃ r, r = if e9 = 0 then putL m l (s.h.length + 1) ⟨h2, nx s.a n, s.v⟩ else (e9, ⟨h2, nx s.a n, s.v⟩) := ⟨_, rfl⟩
          have HF := Lib.hid (put_of hm hr HP.out)
          have HR2 := Lib.hid hr
          have HM := Lib.hid hm
          have X9 := Lib.hid x
          clear HP hm hr x X3
          go_upto_block 3 with fail
          go_cut [25] (fun ev wx => C2 w N p q mb m (Blk w.heap.size (BT 5 n i re im a l.length c)) r ev wx)
          case first =>
            go_wp2_with fail
            go_loopg [25, 28] l.length (L2 w N p q mb m (Blk w.heap.size (BT 5 n i re im a l.length c)) l s.h.length r)
            case atStart =>
              refine ⟨0, _, e9, by omega, by omega, rfl, rfl, ?_, X9.out⟩
              have hr := HR2.out
              by_cases he : e9 = 0
              · rw [if_pos he] at hr
                have hl := more_len m l.length h1 (by rw [HM.out]; exact he)
                rw [HM.out] at hl
                have hl3 : h2.length = h1.length + l.length := hl
                exact Or.inl ⟨he, by rw [hr]; rfl, by show _ ≤ h2.length; omega, by simpa using HB.out.1, by simpa using HB.out.2⟩
              · rw [if_neg he] at hr
                exact Or.inr ⟨he, hr⟩
            case round =>
              obtain ⟨k9, s9, e8, hk9, hg9, rfl, rfl, hst, x⟩ := hrel
              obtain ⟨y0, y1, y2, y3, y4, y5⟩ := XX.cells x
              have HST := Lib.hid hst
              have XW := Lib.hid x
              by_cases he : e8 = 0
              · subst he
                obtain ⟨_, q5, q6, q7, q8⟩ := HST.out.resolve_right fun h => h.1 rfl
                by_cases hlt : k9 < l.length
                · obtain ⟨K, aK, sub, keepN, up⟩ := x.open_ (Fr.blk _ _)
                  have row := row_at ROW.out keepN sub
                  obtain ⟨b, o, v0, v1, v2, v3, v4, v5, hb, hXb, ⟨z0, z1, z2, z3, z4, z5⟩, hlies, hix⟩ := row.look hlt
                  have hmem : l[k9] ∈ l := List.getElem_mem hlt
                  have hbd := (x.len (Fr.blk _ _)).1
                  have hdrop : l.drop k9 = l[k9] :: l.drop (k9 + 1) := List.drop_eq_getElem_cons hlt
                  rw [hdrop, sizeL] at q7 q8
                  rw [hdrop, putL] at q5
                  obtain ⟨x9, hx9⟩ : ∃ x9 : Nat, x9 = s.h.length + 1 + k9 := ⟨_, rfl⟩
                  rw [← hx9] at q5
                  have hih := IH.out l[k9] hmem (x9 : Int) s9 _ wr K aK hlies (HSS.out _ hmem) ⟨by omega, by omega⟩ (by omega) (by omega)
                  obtain ⟨cc, ee, s5, hP9, hgr, hih⟩ := arg_put (HSS.out _ hmem) hih
                  rw [hP9] at q5
                  dsimp only at q5
                  have hx20 : x9 ≤ 1048576 := by omega
                  have hx21 : s.h.length ≤ 1048576 := by omega
                  have hki : (k9 : Int) < (l.length : Int) := by omega
                  have HX9 := Lib.hid hx9
                  have HG := Lib.hid (show x9 < s5.h.length by have := hgr.h; omega)
                  have HQ := Lib.hid q5
                  have HS7 := Lib.hid (show s.h.length + 1 + l.length ≤ s5.h.length ∧ s5.a.length + sizeL (l.drop (k9 + 1)) ≤ 4096 ∧ s5.v.length + sizeL (l.drop (k9 + 1)) ≤ 900000 from ⟨by have := hgr.h; omega, by have := hgr.a.2; omega, by have := hgr.v.2; omega⟩)
                  have UP := Lib.hid up
                  rw [show (x9 : Int) = (s.h.length : Int) + 1 + (k9 : Int) by omega] at hih
                  clear hP9 hx20 hx21 hst HST q5 q6 q7 q8 x row hlies hmem hdrop hgr hx9 aK sub keepN up hXb hb hbd
                  go_wp2_with fail
                  refine hih.mono ?_; rintro e w5 ⟨c0, rfl, hc0, hw0, hnx⟩
                  have X5 := Lib.hid (UP.out _ _ hnx)
                  have HC := Lib.hid (And.intro hc0 hw0)
                  clear hki hih hc0 hw0 hnx UP z0 z1 z2 z3 z4 z5 hix y0 y1 y2 y3 y4 y5
                  by_cases he : ee = 0
                  · as_aux_lemma =>
                    subst he
                    obtain ⟨g, cp, d0, hcap, hcell, hfz, hset⟩ := X5.out.place (Fr.blk _ _) (k := s.h.length + 1 + k9) (by have := HG.out; have := HX9.out; omega)
                    have hgi : (s.h.length : Int) + 1 + (k9 : Int) < (s5.h.length : Int) := by have := HG.out; have := HX9.out; omega
                    have X6 := Lib.hid (hset c0 HC.out.2)
                    clear hset
                    go_wp2_with fail
                    go_roundg (l.length - (k9 + 1))
                    case measure => omega
                    case rel =>
                      have e0 := HC.out.1 trivial
                      have hq := HQ.out
                      rw [if_pos trivial, ← e0] at hq
                      rw [HX9.out] at hq
                      refine ⟨k9 + 1, ⟨s5.h.set (s.h.length + 1 + k9) c0, s5.a, s5.v⟩, 0, by omega, rfl, by go_num, rfl, Or.inl ⟨rfl, ?_, by show _ ≤ (s5.h.set (s.h.length + 1 + k9) c0).length; rw [List.length_set]; exact HS7.out.1, HS7.out.2.1, HS7.out.2.2⟩, X6.out⟩
                      rw [show s.h.length + 1 + (k9 + 1) = s.h.length + 1 + k9 + 1 by omega]
                      exact hq
                  · as_aux_lemma =>
                    have hb : (ee == 0) = false := by simpa using he
                    have HE := Lib.hid he
                    clear he
                    go_wp2_with fail
                    go_roundg (l.length - (k9 + 1))
                    case measure => omega
                    case rel =>
                      have hq := HQ.out
                      rw [if_neg HE.out] at hq
                      exact ⟨k9 + 1, s5, ee, by omega, rfl, by go_num, rfl, Or.inr ⟨HE.out, hq.symm⟩, X5.out⟩
                · as_aux_lemma =>
                  obtain rfl : k9 = l.length := by omega
                  rw [List.drop_length, putL] at q5
                  have HS := Lib.hid q5
                  clear x hst HST q5 q6 q7 q8
                  go_wp2_with fail
                  go_meet
                  exact ⟨s9, 0, rfl, HS.out.symm, XW.out⟩
              · have hst2 := (HST.out.resolve_left fun h => he h.1).2
                have HS := Lib.hid hst2
                by_cases hlt : k9 < l.length
                · as_aux_lemma =>
                  have hki : (k9 : Int) < (l.length : Int) := by omega
                  have hb : (e8 == 0) = false := by simpa using he
                  clear x hst hst2 HST he
                  go_wp2_with fail
                  go_meet
                  exact ⟨s9, e8, rfl, HS.out, XW.out⟩
                · as_aux_lemma =>
                  have hki : ¬ (k9 : Int) < (l.length : Int) := by omega
                  clear x hst hst2 HST he
                  go_wp2_with fail
                  go_meet
                  exact ⟨s9, e8, rfl, HS.out, XW.out⟩
          case rest =>
            obtain ⟨s9, e8, rfl, hr9, x⟩ := hcut
            have X8 := Lib.hid x
            have HR9 := Lib.hid hr9
            have hm := fun w => rmake_any 1 (s.h.length : Int) w (by omega) (by omega) ⟨by omega, by omega⟩
            have hcv : IntKind.u64.wrap (s.h.length : Int) = s.h.length := by rw [IntKind.wrap_u64]; omega
            clear x hr9
            go_wp2_with fail
            refine (hm _).mono ?_; rintro e w' ⟨rfl, rfl⟩
            go_wp2_with fail
            go_ret2
            have hf := HF.out
            rw [HR9.out] at hf
            dsimp only at hf
            by_cases he : e8 = 0
            · rw [if_pos he] at hf
              subst he
              exact PutsR.of hf (fun _ => rfl) (jn_w _ (by decide) (by decide)) X8.out.drop
            · rw [if_neg he] at hf
              exact PutsR.of hf (fun h => absurd h he) (jn_w _ (by decide) (by decide)) X8.out.drop
      · obtain ⟨e1, e2, e3⟩ := px_none (u := jn 6 (j * 256 + l.length)) hr
        rw [e1] at x3
        rw [e2, e3]
        have hp2 := hput.out
        rw [if_neg hr] at hp2
        have HP := Lib.hid hp2
        have X3 := Lib.hid x3
        have hm := fun w => rmake_any 1 0 w (by omega) (by omega) ⟨by omega, by omega⟩
        have hcv : IntKind.u64.wrap 0 = 0 := by rw [IntKind.wrap_u64]; omega
        have hpos : (0 : Int) < (l.length : Int) := by omega
        clear x3 e1 e2 e3 hp2 hput hr
        go_upto_block 1 with fail
        go_cut [25] (fun ev wx => ev = .int .i64 4 ∧ XX w N p q mb m ⟨s.h, nx s.a n, s.v⟩ (Blk w.heap.size (BT 5 n i re im a l.length c)) wx)
        case first =>
          go_wp2_with fail
          go_loopg [25, 27] 0 (fun g ev iv wr => ev = .int .i64 4 ∧ iv = .int .i64 0 ∧ XX w N p q mb m ⟨s.h, nx s.a n, s.v⟩ (Blk w.heap.size (BT 5 n i re im a l.length c)) wr)
          case atStart => exact ⟨rfl, rfl, X3.out⟩
          case round =>
            obtain ⟨rfl, rfl, x⟩ := hrel
            obtain ⟨y0, y1, y2, y3, y4, y5⟩ := XX.cells x
            have X4 := Lib.hid x
            clear x
            go_wp2_with fail
            go_meet
            exact ⟨rfl, X4.out⟩
        case rest =>
          obtain ⟨rfl, x⟩ := hcut
          have X5 := Lib.hid x
          clear x
          go_upto_block 3 with fail
          go_cut [25] (fun ev wx => ev = .int .i64 4 ∧ XX w N p q mb m ⟨s.h, nx s.a n, s.v⟩ (Blk w.heap.size (BT 5 n i re im a l.length c)) wx)
          case first =>
            go_wp2_with fail
            go_loopg [25, 28] 0 (fun g ev iv wr => ev = .int .i64 4 ∧ iv = .int .i64 0 ∧ XX w N p q mb m ⟨s.h, nx s.a n, s.v⟩ (Blk w.heap.size (BT 5 n i re im a l.length c)) wr)
            case atStart => exact ⟨rfl, rfl, X5.out⟩
            case round =>
              obtain ⟨rfl, rfl, x⟩ := hrel
              obtain ⟨y0, y1, y2, y3, y4, y5⟩ := XX.cells x
              have X4 := Lib.hid x
              clear x
              go_wp2_with fail
              go_meet
              exact ⟨rfl, X4.out⟩
          case rest =>
            obtain ⟨rfl, x⟩ := hcut
            have X6 := Lib.hid x
            clear x
            go_wp2_with fail
            refine (hm _).mono ?_; rintro e w' ⟨rfl, rfl⟩
            go_wp2_with fail
            go_ret2
            exact PutsR.of HP.out (fun h => by omega) (jn_w _ (by decide) (by decide)) X6.out.drop
end Go.Proofs.Ytibepkljcofpdaa.rpt
namespace Go.Proofs.Ytibepkljcofpdaa.rpt
set_option linter.unusedVariables false
open Go.ChangeShapes Go.WideShapes Go.ChangeAt Go.RowKit Go.Maps
open Go.Proofs.Ytibepkljcofpdaa.hp Go.Proofs.Ytibepkljcofpdaa.cel Go.Proofs.Ytibepkljcofpdaa.kp Go.Proofs.Ytibepkljcofpdaa.ob Go.Proofs.Ytibepkljcofpdaa.pm Go.Proofs.Ytibepkljcofpdaa.tm Go.Proofs.Ytibepkljcofpdaa.lie Go.Proofs.Ytibepkljcofpdaa.rmy
theorem put_zero (m : Int) (t : Tm) (own : Int) (s : S) : (put m t own s).2.1 ≠ 0 → (put m t own s).1 = 0 := by
  obtain ⟨k, n, i, re, im, l⟩ := t
  rw [put]
  repeat' split
  all_goals first
    | (intro h; rfl)
    | (intro h; exact absurd rfl h)
theorem qV (w : World) (r : Option Nat) : (binOp .eql 34 (.map r) (.map none)).run Try.prog w = .ok (.bool r.isNone) w := run_eql_map_nil w _ _ _ r Try.underlying34
/-- what Put answers, what there is behind it -/
def putT (m : Int) (t : Tm) (s : S) : Int × Int × S := if may t = 0 then put m t (-1) s else (0, may t, s)
section
variable {p q mb : Nat} {m : Int} {s : S} {w : World} {N : Nat → Prop}
set_option maxRecDepth 100000 in
set_option maxHeartbeats 2000000 in
theorem rPut_any (t : Tm) (vt : Value) (h : PB p q mb m s w N) (ht : Lies N w t vt) (ha : s.a.length + Go.Proofs.Ytibepkljcofpdaa.tm.size t ≤ 4096) (hv : s.v.length + Go.Proofs.Ytibepkljcofpdaa.tm.size t ≤ 900000) :
    Calls Try.prog 17 #[.pointer (some ⟨p, 0, none⟩), .pointer (some ⟨q, 0, none⟩), vt, .map (some mb)] w fun e w' => e = .returned (.tuple #[.int .u64 (putT m t s).1, .int .i64 (putT m t s).2.1]) ∧ Nx (PB p q mb m (putT m t s).2.2) w N w' := by
  have HT := Lib.hid ht
  obtain ⟨T, hT⟩ : ∃ T, T = t := ⟨_, rfl⟩
  rw [← hT] at HT ha hv ⊢
  obtain ⟨k, n, i, re, im, l⟩ := t
  rw [Lies] at ht
  obtain ⟨a, c, rfl, hf, hr⟩ := ht
  have X1 := Lib.hid (XX.start h (BT k n i re im a l.length c))
  have HN := Lib.hid (And.intro ha hv)
  have hmay := fun w' (b : Below w.heap.size w w') => rMay_any T _ w' ((HT.out.off (Y := No) (fun _ _ h => h.elim)).below b)
  have hnil : ∀ w' : World, (binOp .eql 34 (.map (some mb)) (.map none)).run Try.prog w' = .ok (.bool false) w' := fun w' => qV w' (some mb)
  have hb1 := kp.ba w (BT k n i re im a l.length c)
  clear h hf hr hT ha hv
  by_cases hg : may T = 0
  · have hput := Lib.hid (show putT m T s = put m T (-1) s by unfold putT; rw [if_pos hg])
    have HS := Lib.hid (good_sound ((may_iff T).1 hg))
    rw [hg] at hmay
    clear hg
    go_enter Try.func17, Try.ntmps17
    go_wp2_with fail
    refine (hmay _ hb1).mono ?_; rintro e w2 ⟨rfl, hb2⟩
    have x2 := X1.out.below (Fr.blk _ _) hb2
    obtain ⟨y0, y1, y2, y3, y4, y5⟩ := XX.cells x2
    obtain ⟨K, aK, sub, keepN, up⟩ := x2.open_ (Fr.blk _ _)
    have hl2 := Lies.keep keepN (Y := K) (fun b hb hK => (sub b hK).resolve_right (by omega)) _ _ HT.out
    obtain ⟨cc, ee, s5, hP, hgr, hcall⟩ := arg_put HS.out (rput_any p q mb m T (-1) s _ w2 K aK hl2 HS.out ⟨by omega, by omega⟩ HN.out.1 HN.out.2)
    rw [hP] at hput
    have hz := put_zero m T (-1) s
    rw [hP] at hz
    have HZ := Lib.hid hz
    have UP := Lib.hid up
    clear hmay hb1 hb2 x2 X1 aK sub keepN up hl2 hP hgr hz
    go_wp2_with fail
    refine hcall.mono ?_; rintro e w5 ⟨c0, rfl, hc0, hw0, hnx⟩
    have X5 := Lib.hid (UP.out _ _ hnx)
    have HC := Lib.hid hc0
    clear hcall hc0 hw0 hnx UP y0 y1 y2 y3 y4 y5
    by_cases he : ee = 0
    · subst he
      go_wp2_with fail
      go_ret2
      rw [hput.out]
      have e0 : c0 = cc := HC.out trivial
      subst e0
      exact ⟨rfl, X5.out.drop⟩
    · have HE := Lib.hid he
      have hb : (ee != 0) = true := by simpa using he
      clear he
      go_wp2_with fail
      go_ret2
      rw [hput.out]
      have e0 : cc = 0 := HZ.out HE.out
      subst e0
      exact ⟨rfl, X5.out.drop⟩
  · have hput := Lib.hid (show putT m T s = (0, may T, s) by unfold putT; rw [if_neg hg])
    have hb : (may T != 0) = true := by simpa using hg
    clear hg
    go_enter Try.func17, Try.ntmps17
    go_wp2_with fail
    refine (hmay _ hb1).mono ?_; rintro e w2 ⟨rfl, hb2⟩
    have X2 := Lib.hid (X1.out.below (Fr.blk _ _) hb2)
    clear hb2 X1 hmay
    go_wp2_with fail
    go_ret2
    rw [hput.out]
    exact ⟨rfl, X2.out.drop⟩
end
end Go.Proofs.Ytibepkljcofpdaa.rpt
