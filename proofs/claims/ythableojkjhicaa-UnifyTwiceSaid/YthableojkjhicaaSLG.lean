/- What is laid is told: Put into what there is, Get of it. The mathematics. What the laws of the store share: Put and Get of a heap and names beside other objects; a term that was told, in its box. -/
import Derived.Test.YthableojkjhicaaPutM
import Derived.Test.YthableojkjhicaaPGE
import Derived.Test.YthableojkjhicaaSL
import Derived.Test.YthableojkjhicaaRRn
namespace Go.Proofs.Ythableojkjhicaa.pm
set_option linter.unusedVariables false
open Go.ChangeShapes Go.WideShapes Go.ChangeAt Go.RowKit
open Go.Proofs.Ythableojkjhicaa.tm Go.Proofs.Ythableojkjhicaa.hp Go.Proofs.Ythableojkjhicaa.cel Go.Proofs.Ythableojkjhicaa.ren Go.Proofs.Ythableojkjhicaa.vrs Go.Proofs.Ythableojkjhicaa.lie
open Go.Proofs.Ythableojkjhicaa.atm (nv ne nx)
open Go.Proofs.Ythableojkjhicaa.rpt (putT)
open Go.Proofs.Ythableojkjhicaa.pgt (getT kont VOK)
/-- names that are short -/
def Sml (a : List ByteArray) : Prop := ∀ x ∈ a, x.size ≤ 200
theorem Sml.nx {a : List ByteArray} (h : Sml a) (n : ByteArray) : Sml (nx a n) := by
  unfold atm.nx
  split
  · exact h
  · split
    · exact h
    · split
      · exact h
      · intro x hx
        rcases List.mem_append.1 hx with hx | hx
        · exact h x hx
        · simp at hx; subst hx; omega
theorem putL_sml (m : Int) : ∀ (l : List Tm), (∀ x ∈ l, ∀ own s, Sml s.a → Sml (put m x own s).2.2.a) → ∀ p s, Sml s.a → Sml (putL m l p s).2.a
  | [], _, p, s, h => by rw [putL]; exact h
  | t :: r, hx, p, s, h => by
    rw [putL]
    have h1 := hx t (by simp) p s h
    generalize put m t p s = q at *
    obtain ⟨c, e, s'⟩ := q
    dsimp only at h1 ⊢
    split
    · exact putL_sml m r (fun x h => hx x (by simp [h])) (p + 1) ⟨s'.h.set p c, s'.a, s'.v⟩ h1
    · exact h1
theorem put_sml (m : Int) (t : Tm) : ∀ own s, Sml s.a → Sml (put m t own s).2.2.a := by
  induction t using Tm.ind with
  | h k n i re im l ih =>
    intro own s hs
    have hn := hs.nx n
    rw [put]
    by_cases k2 : k = 2
    · rw [if_pos k2]; split <;> assumption
    rw [if_neg k2]
    by_cases k3 : k = 3
    · rw [if_pos k3]; split
      · exact hs
      · split <;> exact hs
    rw [if_neg k3]
    by_cases k4 : k = 4
    · rw [if_pos k4]; split
      · split <;> exact hs
      · exact hs
    rw [if_neg k4]
    by_cases k1 : k = 1
    · rw [if_pos k1]; split
      · exact hs
      · split
        · split <;> exact hs
        · exact hs
    rw [if_neg k1]
    split
    · split
      · generalize more m l.length (s.h ++ [jn 6 (nv s.a n * 256 + l.length)]) = eh
        obtain ⟨e, h⟩ := eh
        dsimp only
        split
        · have h2 := putL_sml m l ih (s.h.length + 1) ⟨h, nx s.a n, s.v⟩ hn
          generalize putL m l (s.h.length + 1) ⟨h, nx s.a n, s.v⟩ = es at *
          obtain ⟨e2, s2⟩ := es
          dsimp only at h2 ⊢
          split <;> exact h2
        · exact hn
      · exact hn
    · exact hs
theorem putT_sml (m : Int) (t : Tm) (s : S) (h : Sml s.a) : Sml (putT m t s).2.2.a := by
  unfold rpt.putT
  split
  · exact put_sml m t _ s h
  · exact h
/-- a term in memory has numbers of 64 bits -/
theorem lies_ints {X : Nat → Prop} {w : World} (t : Tm) : ∀ v, Lies X w t v → ints t := by
  induction t using Tm.ind with
  | h k n i re im l ih =>
    intro v h
    rw [Lies] at h
    obtain ⟨a, c, rfl, hf, hr⟩ := h
    rw [ints]
    refine ⟨fun _ => ⟨hf.i0, hf.i1⟩, ?_⟩
    have key : ∀ (l : List Tm), (∀ x ∈ l, ∀ v, Lies X w x v → ints x) → ∀ j, TRow X w l a j → intsL l := by
      intro l
      induction l with
      | nil => intro _ j _; rw [intsL]; trivial
      | cons t r ihr =>
        intro hh j hr
        rw [TRow] at hr
        obtain ⟨⟨b, o, v0, v1, v2, v3, v4, v5, _, _, _, hl⟩, hr⟩ := hr
        rw [intsL]
        exact ⟨hh t (by simp) _ hl, ihr (fun x hx => hh x (by simp [hx])) _ hr⟩
    exact key l ih 0 hr
abbrev NN : Nat → Prop := fun _ => False
theorem Vs.none (h : List Int) (a : List ByteArray) : Vs NN ⟨h, a, []⟩ :=
  ⟨fun i c e => (by rw [show pm.look (S.v ⟨h, a, []⟩) i = Option.none from rfl] at e; cases e), by simp [keys], by simp⟩
/-- the cell c stands for T -/
structure Laid (s : S) (T : Tm) (c : Int) : Prop where
  vs : Vs NN s
  rep : Rep NN s T c
theorem rep_w {s : S} {T : Tm} {c : Int} (h : Laid s T c) (hl : s.h.length ≤ 1048576) : W64 c := by
  obtain ⟨hv, h⟩ := h
  obtain ⟨k, nm, i, re, im, l⟩ := T
  rw [Rep] at h
  by_cases k2 : k = 2
  · rw [if_pos k2] at h
    obtain ⟨j, rfl, hj, _⟩ := h
    unfold jn W64; omega
  rw [if_neg k2] at h
  by_cases k3 : k = 3
  · rw [if_pos k3] at h
    split at h
    · rename_i hso
      have := of_decide_eq_true hso
      rw [h]; unfold sv; rw [if_pos this]; unfold jn W64; omega
    · obtain ⟨p, rfl, _, hp, _⟩ := h
      unfold jn W64; omega
  rw [if_neg k3] at h
  by_cases k4 : k = 4
  · rw [if_pos k4] at h
    obtain ⟨p, rfl, _, _, hp, _⟩ := h
    unfold jn W64; omega
  rw [if_neg k4] at h
  by_cases k1 : k = 1
  · rw [if_pos k1] at h
    obtain ⟨p, rfl, _, hp, _⟩ := hv.cell i c h
    unfold W64; omega
  rw [if_neg k1] at h
  obtain ⟨p, j, rfl, _, hp, _⟩ := h
  unfold jn W64; omega
/-- more comes: it still stands for it -/
theorem Laid.more {s s' : S} {T : Tm} {c : Int} (h : Laid s T c) (hx : Ext NN s s') : Laid ⟨s'.h, s'.a, s.v⟩ T c :=
  have hx' : Ext NN s ⟨s'.h, s'.a, s.v⟩ := ⟨hx.h, hx.a, ⟨[], by simp⟩⟩
  ⟨h.vs.ext hx' rfl, Rep.ext hx' T c h.rep⟩
theorem Laid.ext {s s' : S} {T : Tm} {c : Int} (h : Laid s T c) (hx : Ext NN s s') (hv : Vs NN s') : Laid s' T c := ⟨hv, Rep.ext hx T c h.rep⟩
/-- Put of a good term where there is room -/
theorem put_laid {T : Tm} (s : S) (hg : good T = true) (hv : Vs NN s) (hm : (s.h.length : Int) + 3 * size T ≤ 1048576) (ha : s.a.length + size T ≤ 4096) :
    ∃ c s', putT 1048576 T s = (c, 0, s') ∧ Laid s' T c ∧ Ext NN s s' ∧ keys s'.v = (occ T).foldl addv (keys s.v) ∧ s'.h.length ≤ s.h.length + 3 * size T ∧ s'.a.length ≤ s.a.length + size T ∧ (Sml s.a → Sml s'.a) := by
  have hn := nd_size T
  have h0 : may T = 0 := (may_iff T).2 hg
  obtain ⟨c, s', he, ok⟩ := put_ok 1048576 T (-1) s NN (good_sound hg) hv (fun _ h => h.elim) (Or.inl (by omega)) (by omega) ha
  have hT : putT 1048576 T s = (c, 0, s') := by unfold rpt.putT; rw [if_pos h0]; exact he
  obtain ⟨b, hb, hbl⟩ := ok.a
  refine ⟨c, s', hT, ?_, Ext.of_pre ok.pre ⟨b, hb⟩ ok.v, ok.keys, ?_, by rw [hb, List.length_append]; omega, fun h => ?_⟩
  · rcases ok.rep with ⟨p, _, hp, _⟩ | ⟨h1, h2⟩
    · omega
    · exact ⟨h1, h2⟩
  · rw [ok.len]
    split
    · split
      · have : 1 ≤ size T := by obtain ⟨k, n, i, re, im, l⟩ := T; rw [size]; omega
        omega
      · omega
    · omega
  · have := putT_sml 1048576 T s h
    rwa [hT] at this
/-- each variable of what is laid has a cell -/
theorem rep_occ {O : Nat → Prop} {s : S} (t : Tm) : ∀ c, sound t = true → Rep O s t c → ∀ i ∈ occ t, ∃ d, look s.v i = some d := by
  induction t using Tm.ind with
  | h k n i re im l ih =>
    intro c hs h
    have hk := chk_kind (sound_chk hs)
    simp only [Tm.kind] at hk
    rw [Rep] at h
    intro j hj
    rcases hk with rfl | rfl | rfl | rfl | rfl
    · rw [if_neg (by decide), if_neg (by decide), if_neg (by decide), if_pos rfl] at h
      simp only [occ, if_true, List.mem_singleton] at hj
      subst hj
      exact ⟨c, h⟩
    · simp [occ] at hj
    · simp [occ] at hj
    · simp [occ] at hj
    · rw [if_neg (by decide), if_neg (by decide), if_neg (by decide), if_neg (by decide)] at h
      obtain ⟨p, _, _, _, _, _, _, _, hl⟩ := h
      have key : ∀ (l : List Tm), (∀ x ∈ l, ∀ c, sound x = true → Rep O s x c → ∀ i ∈ occ x, ∃ d, look s.v i = some d) → (∀ x ∈ l, sound x = true) → ∀ p, RepL O s l p → ∀ x ∈ l, ∀ i ∈ occ x, ∃ d, look s.v i = some d := by
        intro l
        induction l with
        | nil => intro _ _ p _ x hx; simp at hx
        | cons t r ihr =>
          intro hh hss p hr x hx
          rw [RepL] at hr
          rcases List.mem_cons.1 hx with rfl | hx
          · exact hh x (by simp) _ (hss x (by simp)) hr.2.2.1
          · exact ihr (fun x hx => hh x (by simp [hx])) (fun x hx => hss x (by simp [hx])) _ hr.2.2.2 x hx
      rw [occ, if_neg (by decide), if_pos rfl, occL_flat] at hj
      obtain ⟨x, hx, hxj⟩ := List.mem_flatMap.1 hj
      exact key l ih (sound_args hs rfl) _ hl x hx j hxj
theorem pl_inj {s : S} (hv : Vs NN s) {A : Int → Prop} (hA : ∀ i, A i → ∃ d, look s.v i = some d) : Inj (pl s) A := by
  intro x y hx hy e
  obtain ⟨c, hc⟩ := hA x hx
  obtain ⟨d, hd⟩ := hA y hy
  obtain ⟨p, hp, rfl, _⟩ := pl_of hv hc
  obtain ⟨q, hq, rfl, _⟩ := pl_of hv hd
  rw [hp, hq] at e
  have e : p = q := by omega
  subst e
  have hm1 := look_mem hc
  have hm2 := look_mem hd
  have hinj := hv.inj
  -- two pairs with one cell are one pair
  have key : ∀ (v : List (Int × Int)), (v.map (·.2)).Nodup → (x, (p : Int) * 8) ∈ v → (y, (p : Int) * 8) ∈ v → x = y := by
    intro v
    induction v with
    | nil => intro _ h; simp at h
    | cons z r ih =>
      intro hn h1 h2
      simp only [List.map_cons, List.nodup_cons] at hn
      rcases List.mem_cons.1 h1 with e1 | h1
      · rcases List.mem_cons.1 h2 with e2 | h2
        · rw [← e1] at e2; injection e2 with e2 _; exact e2.symm
        · exact (hn.1 (by rw [← e1]; exact List.mem_map.2 ⟨_, h2, rfl⟩)).elim
      · rcases List.mem_cons.1 h2 with e2 | h2
        · exact (hn.1 (by rw [← e2]; exact List.mem_map.2 ⟨_, h1, rfl⟩)).elim
        · exact ih hn.2 h1 h2
  exact key s.v hinj hm1 hm2
/-- told by itself it is renamed -/
theorem told_rn {s : S} {T : Tm} {c : Int} (h : Laid s T c) (hg : good T = true) : told s (((occ T).map (pl s)).foldl addv []) T = rn T := by
  have hocc := rep_occ T c (good_sound hg) h.rep
  have hi : Inj (pl s) fun n => n ∈ occ T := pl_inj h.vs hocc
  have hv : ((occ T).map (pl s)).foldl addv [] = (vars T).map (pl s) := by
    unfold vars; rw [if_pos hg]
    exact fold_map hi (occ T) [] (fun x hx => hx) (by simp)
  rw [hv]
  have hS : ∀ x ∈ vars T, x ∈ occ T := fun x hx => (mem_vars hg x).1 hx
  unfold told rn
  refine sub_congr T fun n hn => ?_
  congr 1
  unfold ix0
  have hm := (mem_vars hg n).2 hn
  rw [if_pos ((mem_map_inj hi hS hn).2 hm), if_pos hm, idxOf_map hi hn _ hS]
theorem num_vok {v : List (Int × Int)} (h : Num v) : VOK v := by
  intro x k hk
  rw [h x] at hk
  split at hk
  · rename_i hm
    injection hk with hk
    subst hk
    have := List.idxOf_lt_length_of_mem hm
    have hl : (keys v).length = v.length := by simp [keys]
    unfold ix0; rw [if_pos hm]; omega
  · cases hk
/-- Get of what is laid: the numbers of places go on -/
theorem getT_laid {s : S} {T : Tm} {c : Int} (h : Laid s T c) (hg : good T = true) (hi : ints T) (hl : s.h.length ≤ 1048576) (ha : s.a.length ≤ 4096) (v : List (Int × Int)) (hv : Num v) :
    ∃ g, getT s.h s.a v c = (told s (keys g.v) T, g) ∧ g.e = 0 ∧ Num g.v ∧ keys g.v = ((occ T).map (pl s)).foldl addv (keys v) := by
  simp only [good, Bool.and_eq_true, decide_eq_true_eq] at hg
  obtain ⟨g, he, hk⟩ := get_ok s NN h.vs hl ha T c 500 ⟨0, v, 0⟩ h.rep hg.2 hi hg.1.2 rfl hv (by show 0 + _ ≤ _; omega)
  refine ⟨g, ?_, hk.e, hk.num, hk.keys⟩
  unfold pgt.getT
  rw [he]
  simp only [kont, if_pos hk.e]
theorem getT_rn {s : S} {T : Tm} {c : Int} (h : Laid s T c) (hg : good T = true) (hi : ints T) (hl : s.h.length ≤ 1048576) (ha : s.a.length ≤ 4096) : ∃ g, getT s.h s.a [] c = (rn T, g) ∧ g.e = 0 := by
  obtain ⟨g, he, h0, hn, hk⟩ := getT_laid h hg hi hl ha [] Num.nil
  refine ⟨g, ?_, h0⟩
  rw [he, hk]
  congr 1
  exact told_rn h hg
end Go.Proofs.Ythableojkjhicaa.pm
namespace Go.Proofs.Ythableojkjhicaa.sl
set_option linter.unusedVariables false
open Go.ChangeShapes Go.WideShapes Go.ChangeAt Go.RowKit Go.Maps
open Go.Proofs.Ythableojkjhicaa.hp Go.Proofs.Ythableojkjhicaa.cel Go.Proofs.Ythableojkjhicaa.kp Go.Proofs.Ythableojkjhicaa.ob Go.Proofs.Ythableojkjhicaa.pm Go.Proofs.Ythableojkjhicaa.tm Go.Proofs.Ythableojkjhicaa.lie Go.Proofs.Ythableojkjhicaa.ppt Go.Proofs.Ythableojkjhicaa.cur
open Go.Proofs.Ythableojkjhicaa.rpt (putT HB frHB VO frV VM)
open Go.Proofs.Ythableojkjhicaa.rgt (VG frG VI)
open Go.Proofs.Ythableojkjhicaa.atm (l0)
open Go.Proofs.Ythableojkjhicaa.pgt (getT GO frGO OT frOT SC6 nv6 pGet_any pGet_new GetP VOK)
/-- a heap, names -/
def HP (p q : Nat) (h : List Int) (m : Int) (a : List ByteArray) : Ob := Tim (HB TH p h m) (PO q a)
theorem frHP {p q : Nat} {h : List Int} {m : Int} {a : List ByteArray} : Fr (HP p q h m a) := frHB.tim frPO
/-- a term that was told, and its box -/
def OX (t : Tm) (b : Nat) (k : Int) (n : ByteArray) (i re im : Int) (s : Value) : Ob := Tim (OT t (nv6 k n i re im s)) (Blk b (SC6 36 (.int .i64 k) (.string n) (.int .i64 i) (.int .u64 re) (.int .u64 im) s))
theorem frOX {t : Tm} {b : Nat} {k : Int} {n : ByteArray} {i re im : Int} {s : Value} : Fr (OX t b k n i re im s) := frOT.tim (Fr.blk _ _)
section
variable {W w wr w' : World} {p q mb : Nat} {h l : List Int} {m : Int} {a : List ByteArray} {v : List (Int × Int)} {C D : Ob} {s : S}
theorem OX.six {t : Tm} {b : Nat} {k : Int} {n : ByteArray} {i re im : Int} {s : Value} {N : Nat → Prop} (h : OX t b k n i re im s wr N) :
    (wr.cell? ⟨b, 0, none⟩ = some (.int .i64 k) ∧ wr.cell? ⟨b, 1, none⟩ = some (.string n) ∧ wr.cell? ⟨b, 2, none⟩ = some (.int .i64 i) ∧ wr.cell? ⟨b, 3, none⟩ = some (.int .u64 re) ∧ wr.cell? ⟨b, 4, none⟩ = some (.int .u64 im) ∧ wr.cell? ⟨b, 5, none⟩ = some s) ∧ Lies No wr t (nv6 k n i re im s) := by
  obtain ⟨K, M, ⟨h1, _⟩, ⟨h2, _⟩, _⟩ := h
  refine ⟨⟨?_, ?_, ?_, ?_, ?_, ?_⟩, h1.off (Y := No) fun _ _ h => h.elim⟩ <;> simp [World.cell?, h2]
/-- what stands beside, by itself -/
theorem Mine.snd_ (h : Mine W (Tim C D) wr) : ∃ N, D wr N := by
  obtain ⟨N, ⟨K, M, _, d, _⟩, _⟩ := h
  exact ⟨M, d⟩
theorem Mine.fst_ (h : Mine W (Tim C D) wr) : ∃ N, C wr N := by
  obtain ⟨N, ⟨K, M, c, _, _⟩, _⟩ := h
  exact ⟨K, c⟩
/-- a heap and names are made -/
theorem HP.mk_ {w1 w2 : World} (h1 : hp.Made TH W [] m w1) (h2 : atm.Made w1 l0 w2) : Mine W (HP W.heap.size w1.heap.size [] m l0) w2 := by
  obtain ⟨F, a, b, s⟩ := h1
  have m1 : Mine W (HB TH W.heap.size [] m) w1 := ⟨F, a, b, s⟩
  obtain ⟨F2, a2, b2, s2⟩ := h2
  exact m1.more frHB b2 (B := PO w1.heap.size l0) a2 s2
/-- Put of a term of the call's, without a map -/
theorem mPut_new (fC : Fr C) {T : Tm} {vt : Value} (hm : Mine W (Tim (HP p q h m a) C) wr) (ht : Lies No W T vt) (ha : a.length + size T ≤ 4096) {c e : Int} {s' : S} (hR : putT m T ⟨h, a, []⟩ = (c, e, s')) :
    Calls Try.prog 19 #[.pointer (some ⟨p, 0, none⟩), .pointer (some ⟨q, 0, none⟩), vt, .map none] wr fun e' w' => e' = .returned (.tuple #[.int .u64 c, .int .i64 e]) ∧ Mine W (Tim (HP p q s'.h m s'.a) C) w' := by
  obtain ⟨M, hM, hs, hb, up⟩ := Mine.one fC hm
  exact (pPut_new T vt hM (lies_off ht hs hb) ha _ hR.symm).mono fun e' w' ⟨he, nn⟩ => ⟨he, up _ _ nn⟩
/-- with one -/
theorem mPut_map (fC : Fr C) {T : Tm} {vt : Value} (hm : Mine W (Tim (PB p q mb m s) C) wr) (ht : Lies No W T vt) (ha : s.a.length + size T ≤ 4096) (hv : s.v.length + size T ≤ 900000) {c e : Int} {s' : S} (hR : putT m T s = (c, e, s')) :
    Calls Try.prog 19 #[.pointer (some ⟨p, 0, none⟩), .pointer (some ⟨q, 0, none⟩), vt, .map (some mb)] wr fun e' w' => e' = .returned (.tuple #[.int .u64 c, .int .i64 e]) ∧ Mine W (Tim (PB p q mb m s') C) w' := by
  obtain ⟨M, hM, hs, hb, up⟩ := Mine.one fC hm
  exact (pPut_any T vt hM (lies_off ht hs hb) ha hv _ hR.symm).mono fun e' w' ⟨he, nn⟩ => ⟨he, up _ _ nn⟩
/-- a map of cells is made -/
theorem HP.map_ (fC : Fr C) (hm : Mine W (Tim (HP p q h m a) C) wr) : Mine W (Tim (PB p q wr.heap.size m ⟨h, a, []⟩) C) (wr.alloc (.map #[] 0)) := by
  have h1 := Mine.blk (frHP.tim fC) hm (.map #[] 0)
  refine h1.imp fun N t => ?_
  have t2 := (Tim.rot t).map1 fun K t => Tim.right_ t
  refine t2.map1 fun K t => t.map2 fun K t => t.map2 fun K hb => ?_
  exact ⟨⟨.map [], World.ownsMap_made wr Try.prog 2 _, VM.nil, rfl⟩, hb.2⟩
/-- the map is put away -/
theorem PB.hp (hm : Mine W (Tim (PB p q mb m s) C) wr) : Mine W (Tim (HP p q s.h m s.a) C) wr :=
  Mine.fst (hm.imp fun N t => Tim.rot (t.map1 (A' := Tim (HP p q s.h m s.a) (VO mb s.v)) fun K t => Tim.left_ t))
/-- a map of numbers is made -/
theorem HP.go_ (fC : Fr C) (hm : Mine W (Tim (HP p q h m a) C) wr) : Mine W (Tim (GO p q wr.heap.size h m a []) C) (wr.alloc (.map #[] 0)) := by
  have h1 := Mine.blk (frHP.tim fC) hm (.map #[] 0)
  refine h1.imp fun N t => ?_
  have t2 := (Tim.rot t).map1 fun K t => Tim.right_ t
  refine t2.map1 fun K t => t.map2 fun K t => t.map2 fun K hb => ?_
  exact ⟨⟨.map [], World.ownsMap_made wr Try.prog 3 _, VI.nil, rfl⟩, hb.2⟩
theorem GO.hp (hm : Mine W (Tim (GO p q mb h m a v) C) wr) : Mine W (Tim (HP p q h m a) C) wr :=
  Mine.fst (hm.imp fun N t => Tim.rot (t.map1 (A' := Tim (HP p q h m a) (VG mb v)) fun K t => Tim.left_ t))
theorem OX.mk_ {A : Ob} {T : Tm} {k : Int} {n : ByteArray} {i re im : Int} {sv : Value} (fA : Fr A) (fC : Fr C) (hm : Mine W (Tim (Tim A (OT T (nv6 k n i re im sv))) C) w') :
    Mine W (Tim A (Tim C (OX T w'.heap.size k n i re im sv))) (w'.alloc (SC6 36 (.int .i64 k) (.string n) (.int .i64 i) (.int .u64 re) (.int .u64 im) sv)) := by
  have h1 := Mine.blk ((fA.tim frOT).tim fC) hm (SC6 36 (.int .i64 k) (.string n) (.int .i64 i) (.int .u64 re) (.int .u64 im) sv)
  refine h1.imp fun N t => ?_
  exact Tim.right_ ((Tim.right_ ((t.map1 fun K t => Tim.rot t))))
/-- Get of what is there, without a map; what is told in its box -/
theorem mGet_new (fC : Fr C) {c : Int} (hc : W64 c) (ha : a.length ≤ 4096) (ha2 : Sml a) (hl : h.length ≤ 1048576) (hm : Mine W (Tim (HP p q h m a) C) wr) {T : Tm} {g : G} (hR : getT h a [] c = (T, g)) (h0 : g.e = 0) :
    Calls Try.prog 20 #[.pointer (some ⟨p, 0, none⟩), .pointer (some ⟨q, 0, none⟩), .int .u64 c, .map none] wr fun e w' => ∃ k nm i re im aa sl sc, e = .returned (.tuple #[nv6 k nm i re im (.slice aa sl sc), .int .i64 0]) ∧
      Mine W (Tim (HP p q h m a) (Tim C (OX T w'.heap.size k nm i re im (.slice aa sl sc)))) (w'.alloc (SC6 36 (.int .i64 k) (.string nm) (.int .i64 i) (.int .u64 re) (.int .u64 im) (.slice aa sl sc))) := by
  obtain ⟨M, hM, hs, hb, up⟩ := Mine.one fC hm
  refine (pGet_new c hc ha (fun x hx => by have := ha2 x hx; omega) (by omega) hM _ hR).mono fun e w' hP => ?_
  rcases hP with ⟨_, k, nm, i, re, im, aa, sl, sc, he, nn⟩ | ⟨h1, _⟩
  · exact ⟨k, nm, i, re, im, aa, sl, sc, he, OX.mk_ frHP fC (up _ _ nn)⟩
  · exact absurd h0 h1
/-- with a map -/
theorem mGet_map (fC : Fr C) {c : Int} (hc : W64 c) (ha : a.length ≤ 4096) (ha2 : Sml a) (hl : h.length ≤ 1048576) (hV : VOK v) (hv : v.length ≤ 900000) (hm : Mine W (Tim (GO p q mb h m a v) C) wr) {T : Tm} {g : G} (hR : getT h a v c = (T, g)) (h0 : g.e = 0) :
    Calls Try.prog 20 #[.pointer (some ⟨p, 0, none⟩), .pointer (some ⟨q, 0, none⟩), .int .u64 c, .map (some mb)] wr fun e w' => ∃ k nm i re im aa sl sc, e = .returned (.tuple #[nv6 k nm i re im (.slice aa sl sc), .int .i64 0]) ∧
      Mine W (Tim (GO p q mb h m a g.v) (Tim C (OX T w'.heap.size k nm i re im (.slice aa sl sc)))) (w'.alloc (SC6 36 (.int .i64 k) (.string nm) (.int .i64 i) (.int .u64 re) (.int .u64 im) (.slice aa sl sc))) := by
  obtain ⟨M, hM, hs, hb, up⟩ := Mine.one fC hm
  refine (pGet_any c hc ha (fun x hx => by have := ha2 x hx; omega) hV hv (by omega) hM _ hR).mono fun e w' hP => ?_
  rcases hP with ⟨_, k, nm, i, re, im, aa, sl, sc, he, nn⟩ | ⟨h1, _⟩
  · exact ⟨k, nm, i, re, im, aa, sl, sc, he, OX.mk_ frGO fC (up _ _ nn)⟩
  · exact absurd h0 h1
theorem mLen (hm : Mine W (Tim (HP p q h m a) C) wr) : Calls Try.prog 22 #[.pointer (some ⟨p, 0, none⟩)] wr fun e w' => e = .returned (.int .i64 h.length) ∧ wr = w' := by
  obtain ⟨N, ⟨K, M, ⟨K1, M1, x, _⟩, _⟩, _⟩ := hm
  exact len_any x
end
end Go.Proofs.Ythableojkjhicaa.sl
