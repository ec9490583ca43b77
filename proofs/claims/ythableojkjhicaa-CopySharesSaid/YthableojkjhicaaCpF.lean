/- Package copy: begin, Term: from one heap to another, to its own; of no heap. Package copy beside heaps, names of the call's own; awake of law 10. Of what Put laid in an empty heap the copy is what Put lays. The mathematics of law 10. -/
import Derived.Test.YthableojkjhicaaCpD
import Derived.Test.YthableojkjhicaaUnL
import Derived.Test.YthableojkjhicaaOwn6
namespace Go.Proofs.Ythableojkjhicaa.cpy
open Go.ChangeShapes Go.WideShapes Go.ChangeAt Go.RowKit Go.Maps
open Go.Proofs.Ythableojkjhicaa.kp Go.Proofs.Ythableojkjhicaa.cel Go.Proofs.Ythableojkjhicaa.hp Go.Proofs.Ythableojkjhicaa.ob Go.Proofs.Ythableojkjhicaa.tm Go.Proofs.Ythableojkjhicaa.pm
open Go.Proofs.Ythableojkjhicaa.rpt (HB frHB zeroC px_room)
set_option linter.unusedVariables false
/-- two heaps -/
def ES (p q : Nat) (l : List Int) (mf m : Int) (T : List Int) : Ob := Tim (HB TH p l mf) (HB TH q T m)
/-- its own: l is there as it was -/
def EO (p : Nat) (l : List Int) (m : Int) (T : List Int) : Ob := fun w N => Hp TH w p N T m ∧ l.length ≤ T.length ∧ ∀ i, i < l.length → T.getD i 0 = l.getD i 0
section
variable {p q : Nat} {l T : List Int} {mf m : Int} {w w' : World} {N K : Nat → Prop}
theorem gv_pos {l : List Int} {n : Nat} (h : n < l.length) : gv l (n : Int) = l.getD n 0 ∧ gb l (n : Int) = true := ⟨gv_nat h, gb_nat h⟩
theorem envES {w0 : World} {F : Nat → Prop} (hf : Hp TH w0 p F l mf) {w1 : World} {G : Nat → Prop} {T1 : List Int} (hg : Hp TH w1 q G T1 m) : Env p q l m 0 (ES p q l mf m) where
  fr := fun T => frHB.tim frHB
  ml := hg.most
  ll := by have := hf.len_le; omega
  lw := hf.wf
  get := by
    rintro T w N ⟨K, M, a, b, d, e⟩ n hn
    have := get_any a (n : Int)
    rw [(gv_pos hn).1, (gv_pos hn).2] at this
    exact this
  len := by
    rintro T w N ⟨K, M, a, b, d, e⟩
    exact len_any b
  push := by
    rintro T w N h u hu hm
    obtain ⟨M, b, up⟩ := Tim.at2 frHB h
    have := push_any b u hu
    obtain ⟨e1, e2, e3⟩ := px_room (u := u) hm
    rw [e1, e2, e3] at this
    exact this.mono fun e w' ⟨h1, h2⟩ => ⟨h1, up (HB TH q (T ++ [u]) m) _ h2⟩
  var := by
    rintro T w N h hm
    obtain ⟨M, b, up⟩ := Tim.at2 frHB h
    have := var_any b
    obtain ⟨e1, e2, e3⟩ := px_room (u := (T.length : Int) * 8) hm
    rw [e1, e2, e3] at this
    exact this.mono fun e w' ⟨h1, h2⟩ => ⟨h1, up (HB TH q (T ++ [(T.length : Int) * 8]) m) _ h2⟩
  set := by
    rintro T w N h x c hb hx hc
    obtain ⟨M, b, up⟩ := Tim.at2 frHB h
    have := set_any b (x : Int) c hc
    rw [gb_nat hx, show sx T (x : Int) c = T.set x c by unfold sx; rw [if_pos ⟨by omega, by omega⟩]; simp] at this
    exact this.mono fun e w' ⟨h1, h2⟩ => ⟨h1, up (HB TH q (T.set x c) m) _ h2⟩
theorem envEO {w0 : World} {F : Nat → Prop} (hf : Hp TH w0 p F l m) : Env p p l m l.length (EO p l m) where
  fr := fun T => ⟨fun h => Hp.lt h.1, fun h k d => ⟨Hp.keep h.1 k d, h.2⟩⟩
  ml := hf.most
  ll := by have := hf.len_le; omega
  lw := hf.wf
  get := by
    rintro T w N ⟨a, hl, he⟩ n hn
    have := get_any a (n : Int)
    rw [(gv_pos (show n < T.length by omega)).1, (gv_pos (show n < T.length by omega)).2, he n hn] at this
    exact this
  len := by
    rintro T w N ⟨a, hl, he⟩
    exact len_any a
  push := by
    rintro T w N ⟨a, hl, he⟩ u hu hm
    have := push_any a u hu
    obtain ⟨e1, e2, e3⟩ := px_room (u := u) hm
    rw [e1, e2, e3] at this
    refine this.mono fun e w' ⟨h1, ⟨K', b, k, s⟩⟩ => ⟨h1, K', ⟨b, by rw [List.length_append]; omega, fun i hi => ?_⟩, k, s⟩
    rw [List.getD_eq_getElem?_getD, List.getElem?_append_left (by omega), ← List.getD_eq_getElem?_getD]; exact he i hi
  var := by
    rintro T w N ⟨a, hl, he⟩ hm
    have := var_any a
    obtain ⟨e1, e2, e3⟩ := px_room (u := (T.length : Int) * 8) hm
    rw [e1, e2, e3] at this
    refine this.mono fun e w' ⟨h1, ⟨K', b, k, s⟩⟩ => ⟨h1, K', ⟨b, by rw [List.length_append]; omega, fun i hi => ?_⟩, k, s⟩
    rw [List.getD_eq_getElem?_getD, List.getElem?_append_left (by omega), ← List.getD_eq_getElem?_getD]; exact he i hi
  set := by
    rintro T w N ⟨a, hl, he⟩ x c hb hx hc
    have := set_any a (x : Int) c hc
    rw [gb_nat hx, show sx T (x : Int) c = T.set x c by unfold sx; rw [if_pos ⟨by omega, by omega⟩]; simp] at this
    refine this.mono fun e w' ⟨h1, ⟨K', b, k, s⟩⟩ => ⟨h1, K', ⟨b, by rw [List.length_set]; omega, fun i hi => ?_⟩, k, s⟩
    rw [List.getD_eq_getElem?_getD, List.getElem?_set_ne (by omega), ← List.getD_eq_getElem?_getD]; exact he i hi
end
section
variable {E : List Int → Ob} {m : Int} {b : Nat} {p q mb pb : Nat} {s s0 : S} {n : Int} {w w' : World} {N : Nat → Prop} {T0 : List Int}
/-- the copier, at its beginning -/
theorem CB.new (v : Env p q s0.h m b E) (h : E T0 w N) : ∃ K, CB E p q w.heap.size (w.heap.size + 1) (s0.h.length : Int) ⟨T0, [], []⟩ 0 ((w.alloc (.map #[] 0)).alloc (CPB p (s0.h.length : Int) q w.heap.size 0)) K ∧ Below w.heap.size w ((w.alloc (.map #[] 0)).alloc (CPB p (s0.h.length : Int) q w.heap.size 0)) ∧ (∀ i, K i → N i ∨ w.heap.size ≤ i) ∧
    ∀ s' n' w2, Nx (CB E p q w.heap.size (w.heap.size + 1) (s0.h.length : Int) s' n') ((w.alloc (.map #[] 0)).alloc (CPB p (s0.h.length : Int) q w.heap.size 0)) K w2 → Nx (E s'.h) w N w2 := by
  obtain ⟨w1, hw1⟩ : ∃ w1, w1 = w.alloc (.map #[] 0) := ⟨_, rfl⟩
  have b1 : Below w.heap.size w w1 := by rw [hw1]; exact kp.ba w _
  have z1 : w1.heap.size = w.heap.size + 1 := by rw [hw1, kp.alloc_size]
  have b2 : Below w1.heap.size w1 (w1.alloc (CPB p (s0.h.length : Int) q w.heap.size 0)) := kp.ba w1 _
  have bb := b1.trans (b2.mono b1.size)
  rw [← hw1]
  have hlt := (v.fr T0).lt h
  have hE := (v.fr T0).below h bb
  have hmap : (w1.alloc (CPB p (s0.h.length : Int) q w.heap.size 0)).ownsMap Try.prog 23 (plainElem (H := Unit) Try.prog 23) w.heap.size 0 (.map []) := by
    have h0 : w1.ownsMap Try.prog 23 (plainElem (H := Unit) Try.prog 23) w.heap.size 0 (.map []) := by rw [hw1]; exact World.ownsMap_made w Try.prog 23 _
    exact mapU_keep h0 (b2.block w.heap.size (by omega))
  refine ⟨fun i => N i ∨ (i = w.heap.size ∨ i = w.heap.size + 1), ⟨N, fun i => i = w.heap.size ∨ i = w.heap.size + 1, hE, ⟨fun i => i = w.heap.size, fun i => i = w.heap.size + 1, ⟨⟨_, hmap, VMU.nil, rfl⟩, fun _ => Iff.rfl⟩, ⟨?_, fun _ => Iff.rfl⟩, fun i h1 h2 => by omega, fun _ => Iff.rfl⟩, fun i h1 h2 => by have := hlt i h1; omega, fun _ => Iff.rfl⟩, bb, fun i hi => hi.imp id fun h => by omega, fun s' n' w2 hn => ?_⟩
  · rw [← z1]; exact kp.alloc_at w1 _
  · obtain ⟨K', ⟨K1, M1, a, _, d, e⟩, k, sub⟩ := hn
    refine ⟨K1, a, ?_, fun i hi => ?_⟩
    · refine (Keep.of_below (F := N) bb).trans k fun i hi => hi.imp id fun h => by omega
    · have := bb.size
      rcases sub i ((e i).2 (Or.inl hi)) with h | h
      · rcases h with h | h
        · exact Or.inl h
        · exact Or.inr (by omega)
      · exact Or.inr (by omega)
set_option maxHeartbeats 1000000 in
theorem cTerm_any (v : Env p q s0.h m b E) (h : E T0 w N) (hlen : ∀ w', Below w.heap.size w w' → Calls Try.prog 22 #[.pointer (some ⟨p, 0, none⟩)] w' fun e w2 => e = .returned (.int .i64 (s0.h.length : Int)) ∧ w' = w2) {t : Tm} {c : Int} (hL : Laid s0 t c) (hs : sound t = true) (hz : tm.size t ≤ 4000) (hm : (T0.length : Int) + pm.nd t + 1 ≤ m) (hb : b ≤ T0.length) (A9 : List ByteArray) (R : Int × S) (hR : cp s0.h t c (-1) ⟨T0, A9, []⟩ = R) :
    Calls Try.prog 13 #[.pointer (some ⟨p, 0, none⟩), .pointer (some ⟨q, 0, none⟩), .int .u64 c] w fun e w' => e = .returned (.tuple #[.int .u64 R.1, .int .i64 0]) ∧ Nx (E R.2.h) w N w' := by
  have hl0 := hlen w (Below.refl _ _)
  obtain ⟨K, hcb, bb, sub, up⟩ := CB.new v h
  have hlay := clay_any (s := ⟨T0, A9, []⟩) v hcb hL hs ⟨by decide, by omega⟩ (by show 0 + tm.size t ≤ _; omega) hz hm hb R hR
  have UP := Lib.hid up
  have hbegin : Calls Try.prog 47 #[.pointer (some ⟨p, 0, none⟩), .pointer (some ⟨q, 0, none⟩)] w fun e w' => e = .returned (.pointer (some ⟨w.heap.size + 1, 0, none⟩)) ∧ w' = (w.alloc (.map #[] 0)).alloc (CPB p (s0.h.length : Int) q w.heap.size 0) := by
    have hmm := @run_makeMap Try.prog
    clear v h hlen hL hs hz hm hb hR hcb bb sub up hlay
    generalize (s0.h.length : Int) = z at *
    go_enter Try.func47, Try.ntmps47
    go_wp2_with fail
    refine hl0.mono ?_; rintro e w' ⟨rfl, rfl⟩
    go_wp2_with fail
    go_ret
    exact ⟨by simp, rfl⟩
  obtain ⟨w3, hw3⟩ : ∃ w3, w3 = (w.alloc (.map #[] 0)).alloc (CPB p (s0.h.length : Int) q w.heap.size 0) := ⟨_, rfl⟩
  rw [← hw3] at hlay hbegin
  have HW := Lib.hid hw3
  obtain ⟨pb, hpb⟩ : ∃ pb, pb = w.heap.size + 1 := ⟨_, rfl⟩
  rw [← hpb] at hlay hbegin
  have HPB := Lib.hid hpb
  clear v h hlen hL hs hz hm hb hR hcb bb sub up hl0 hw3 hpb
  go_enter Try.func13, Try.ntmps13
  go_wp2_with fail
  refine hbegin.mono ?_; rintro e w' ⟨rfl, rfl⟩
  go_wp2_with fail
  refine hlay.mono ?_; rintro e w5 ⟨rfl, n', nn⟩
  have X5 := Lib.hid (UP.out R.2 n' w5 (by rw [← HW.out, ← HPB.out]; exact nn))
  clear hlay nn
  go_wp2_with fail
  go_ret2
  exact ⟨rfl, X5.out⟩
theorem cTerm_nil1 (q : Option Addr) (c : Int) (w : World) : Calls Try.prog 13 #[.pointer none, .pointer q, .int .u64 c] w fun e w' => e = .returned (.tuple #[.int .u64 0, .int .i64 1]) ∧ w = w' := by
  go_enter Try.func13, Try.ntmps13
  go_wp2_with fail
  go_ret2
  exact ⟨rfl, rfl⟩
theorem cTerm_nil2 (p : Addr) (c : Int) (w : World) : Calls Try.prog 13 #[.pointer (some p), .pointer none, .int .u64 c] w fun e w' => e = .returned (.tuple #[.int .u64 0, .int .i64 1]) ∧ w = w' := by
  go_enter Try.func13, Try.ntmps13
  go_wp2_with fail
  go_ret2
  exact ⟨rfl, rfl⟩
theorem cCollect_nil (v : Value) (w : World) (hv : ∃ a n c, v = .slice a n c) : Calls Try.prog 14 #[.pointer none, v] w fun e w' => e = .returned (.tuple #[.pointer none, .slice none 0 0, .int .i64 1]) ∧ w = w' := by
  obtain ⟨a, n, c, rfl⟩ := hv
  go_enter Try.func14, Try.ntmps14
  go_wp2_with fail
  exact bodyPost_ret (v := .tuple #[.pointer none, .slice none 0 0, .int .i64 1]) (by simp [results, Try.results14, go_sem]) rfl ⟨rfl, rfl⟩
end
end Go.Proofs.Ythableojkjhicaa.cpy
namespace Go.Proofs.Ythableojkjhicaa.cpy
open Go.ChangeShapes Go.WideShapes Go.ChangeAt Go.RowKit Go.Maps
open Go.Proofs.Ythableojkjhicaa.kp Go.Proofs.Ythableojkjhicaa.cel Go.Proofs.Ythableojkjhicaa.hp Go.Proofs.Ythableojkjhicaa.ob Go.Proofs.Ythableojkjhicaa.tm Go.Proofs.Ythableojkjhicaa.lie Go.Proofs.Ythableojkjhicaa.sl Go.Proofs.Ythableojkjhicaa.pm Go.Proofs.Ythableojkjhicaa.ppt Go.Proofs.Ythableojkjhicaa.cur Go.Proofs.Ythableojkjhicaa.awk
open Go.Proofs.Ythableojkjhicaa.rpt (putT HB frHB frV)
open Go.Proofs.Ythableojkjhicaa.atm (l0)
open Go.Proofs.Ythableojkjhicaa.pgt (getT GO frGO OT frOT SC6 nv6)
open Go.Proofs.Ythableojkjhicaa.un (R2 lies_2 Tim.mid put_laid_m)
set_option linter.unusedVariables false
section
variable {A B C D : Ob} {W w w0 wr w' : World} {N : Nat → Prop} {p q k mb : Nat} {h T : List Int} {m mf : Int} {a : List ByteArray} {s0 : S}
/-- Term, from one heap to another -/
theorem mTermS (fD : Fr D) (hm : Mine W (Tim (ES p k s0.h mf m T) D) wr) {t : Tm} {c : Int} (hL : Laid s0 t c) (hs : sound t = true) (hz : tm.size t ≤ 4000) (hmm : (T.length : Int) + pm.nd t + 1 ≤ m) (A9 : List ByteArray) (R : Int × S) (hR : cp s0.h t c (-1) ⟨T, A9, []⟩ = R) :
    Calls Try.prog 13 #[.pointer (some ⟨p, 0, none⟩), .pointer (some ⟨k, 0, none⟩), .int .u64 c] wr fun e w' => e = .returned (.tuple #[.int .u64 R.1, .int .i64 0]) ∧ Mine W (Tim (ES p k s0.h mf m R.2.h) D) w' := by
  obtain ⟨M, hM, hs2, hb, up⟩ := Mine.one fD hm
  obtain ⟨K1, K2, h1, h2, d, e⟩ := id hM
  have v := envES (p := p) (q := k) h1 h2
  exact (cTerm_any v hM (fun w' b => len_any (h1.below b)) hL hs hz hmm (Nat.zero_le _) A9 R hR).mono fun e w' ⟨he, nn⟩ => ⟨he, up _ _ nn⟩
/-- Term, to its own heap -/
theorem mTermO (fD : Fr D) (hm : Mine W (Tim (HB TH p s0.h m) D) wr) {t : Tm} {c : Int} (hL : Laid s0 t c) (hs : sound t = true) (hz : tm.size t ≤ 4000) (hmm : (s0.h.length : Int) + pm.nd t + 1 ≤ m) (A9 : List ByteArray) (R : Int × S) (hR : cp s0.h t c (-1) ⟨s0.h, A9, []⟩ = R) :
    Calls Try.prog 13 #[.pointer (some ⟨p, 0, none⟩), .pointer (some ⟨p, 0, none⟩), .int .u64 c] wr fun e w' => e = .returned (.tuple #[.int .u64 R.1, .int .i64 0]) ∧ Mine W (Tim (HB TH p R.2.h m) D) w' := by
  obtain ⟨M, hM, hs2, hb, up⟩ := Mine.one fD hm
  have v := envEO (p := p) hM
  have hE : EO p s0.h m s0.h wr M := ⟨hM, Nat.le_refl _, fun _ _ => rfl⟩
  exact (cTerm_any v hE (fun w' b => len_any (Hp.below hM b)) hL hs hz hmm (Nat.le_refl _) A9 R hR).mono fun e w' ⟨he, ⟨K', a, kk, ss⟩⟩ => ⟨he, up (HB TH p R.2.h m) _ ⟨K', a.1, kk, ss⟩⟩
/-- a heap is made -/
theorem HB.mk_ (f : Fr A) (hm : Mine W A wr) (h2 : hp.Made TH wr [] m w') : Mine W (Tim A (HB TH wr.heap.size [] m)) w' := by
  obtain ⟨F, a, b, s⟩ := h2
  exact hm.more f b (B := HB TH wr.heap.size [] m) a s
/-- Put of a term that was made now, without a map: its row in a block of its own -/
theorem mPut_freshN (fC : Fr C) {T : Tm} {vt : Value} {R : Obj} (hm : Mine W (Tim (HP p q h m a) C) w0) (hb : Below (w0.heap.size + 1) (w0.alloc R) wr) (ht : ∀ X : Nat → Prop, ¬ X w0.heap.size → Lies X wr T vt)
    (ha : a.length + tm.size T ≤ 4096) {c e : Int} {s' : S} (hR : putT m T ⟨h, a, []⟩ = (c, e, s')) :
    Calls Try.prog 19 #[.pointer (some ⟨p, 0, none⟩), .pointer (some ⟨q, 0, none⟩), vt, .map none] wr fun e' w' => e' = .returned (.tuple #[.int .u64 c, .int .i64 e]) ∧ Mine W (Tim (HP p q s'.h m s'.a) C) w' := by
  obtain ⟨N, hN, h2, h3⟩ := hm
  have hlt := (frHP.tim fC).lt hN
  have hbb : Below w0.heap.size w0 wr := (kp.ba w0 R).trans (hb.mono (Nat.le_succ _))
  have hN' := (frHP.tim fC).below hN hbb
  have hl := ht N (fun hn => by have := hlt _ hn; omega)
  have hm' : Mine W (Tim (HP p q h m a) C) wr := ⟨N, hN', h2.trans (hbb.mono h2.size), h3⟩
  obtain ⟨K, M, hK, hM, d, ee⟩ := hN'
  refine (pPut_new T vt hK (hl.off fun k _ hk => (ee k).2 (Or.inl hk)) ha _ hR.symm).mono fun e' w' ⟨he, nn⟩ => ⟨he, ?_⟩
  obtain ⟨K', a', k, s1⟩ := s7.tim1 fC hM d ee nn
  have hb9 := hm'.bel
  exact ⟨K', a', hb9.trans (k.to_below h3 hb9.size), fun j hj => (s1 j hj).elim (h3 j) (Nat.le_trans hb9.size)⟩
theorem Mine.swap_ (hm : Mine W (Tim A B) wr) : Mine W (Tim B A) wr := hm.imp fun _ t => t.swap
end
abbrev vc (b : Nat) : Value := .agg #[.int .i64 5, .string ⟨#[102]⟩, .int .i64 0, .int .u64 0, .int .u64 0, .slice (some ⟨b, 0, none⟩) 2 2]
def tV : Tm := comp ⟨#[102]⟩ [var 0, var 0]
def hA : List Int := [0, jn 6 (2 * 256 + 2), 16, 16]
def hK : List Int := [jn 6 (2 * 256 + 2), 8, 8]
def aF : List ByteArray := l0 ++ [⟨#[102]⟩]
theorem putV : putT 50 tV ⟨[0], l0, []⟩ = (9, 0, ⟨hA, aF, [(0, 16)]⟩) := by rfl
theorem laidV : Laid ⟨hA, aF, [(0, 16)]⟩ tV 9 := by
  obtain ⟨c, s', e, l, _⟩ := put_laid_m (T := tV) 50 ⟨[0], l0, []⟩ (by decide) (Vs.none _ _) (by decide) (by decide) (by decide)
  rw [putV] at e
  injection e with e1 e2
  injection e2 with _ e2
  subst e1 e2
  exact l
theorem copV : ∃ s, cp hA tV 9 (-1) ⟨[], [], []⟩ = (1, s) ∧ s.h = hK := ⟨_, rfl, rfl⟩
theorem getV : ∃ g, getT hK aF [] 1 = (tV, g) ∧ g.e = 0 := ⟨_, rfl, rfl⟩
/-- what was told stands in its box, the heap beside -/
def SU (W : World) (b : Nat) (k : Int) (nm : ByteArray) (i re im : Int) (s : Value) (kk : Nat) (wr : World) : Prop := Below W.heap.size W wr ∧ (∃ N, OX tV b k nm i re im s wr N) ∧ ∃ F, Hp TH wr kk F hK 50
section
variable {W wr w' : World} {b kk : Nat} {k : Int} {nm : ByteArray} {i re im : Int} {s : Value}
theorem SU.below (h : SU W b k nm i re im s kk wr) (hb : Below wr.heap.size wr w') : SU W b k nm i re im s kk w' := ⟨h.1.trans (hb.mono h.1.size), ⟨_, frOX.below h.2.1.choose_spec hb⟩, ⟨_, Hp.below h.2.2.choose_spec hb⟩⟩
theorem SU.drew (h : SU W b k nm i re im s kk wr) : SU W b k nm i re im s kk wr.drew := h.below (kp.bdr wr)
theorem SU.c (h : SU W b k nm i re im s kk wr) : wr.cell? ⟨b, 0, none⟩ = some (.int .i64 k) ∧ wr.cell? ⟨b, 1, none⟩ = some (.string nm) ∧ wr.cell? ⟨b, 2, none⟩ = some (.int .i64 i) ∧ wr.cell? ⟨b, 3, none⟩ = some (.int .u64 re) ∧ wr.cell? ⟨b, 4, none⟩ = some (.int .u64 im) ∧ wr.cell? ⟨b, 5, none⟩ = some s := h.2.1.choose_spec.six.1
theorem SU.l (h : SU W b k nm i re im s kk wr) : Lies No wr tV (nv6 k nm i re im s) := h.2.1.choose_spec.six.2
theorem SU.bel (h : SU W b k nm i re im s kk wr) : Below W.heap.size W wr := h.1
theorem SU.len (h : SU W b k nm i re im s kk wr) : Calls Try.prog 22 #[.pointer (some ⟨kk, 0, none⟩)] wr fun e w' => e = .returned (.int .i64 3) ∧ wr = w' := len_any h.2.2.choose_spec
/-- the other term, too -/
def SW (W : World) (b : Nat) (k : Int) (nm : ByteArray) (i re im : Int) (s : Value) (kk : Nat) (x : Nat) (wr : World) : Prop := SU W b k nm i re im s kk wr ∧ Lies No wr tV (vc x)
theorem SW.drew {x : Nat} (h : SW W b k nm i re im s kk x wr) : SW W b k nm i re im s kk x wr.drew := ⟨h.1.drew, h.2.below (kp.bdr wr)⟩
theorem SW.mk {x : Nat} (h : SU W b k nm i re im s kk wr) (hx : x = wr.heap.size) (hb : Below (wr.heap.size + 1) (wr.alloc (R2 1 ⟨#[]⟩ 0 1 ⟨#[]⟩ 0)) w') : SW W b k nm i re im s kk x w' := by
  subst hx
  exact ⟨h.below ((kp.ba wr _).trans (hb.mono (Nat.le_succ _))), lies_2 wr id hb (pla.var_lies No 0 wr (by omega) (by omega)) (pla.var_lies No 0 wr (by omega) (by omega))⟩
end
set_option maxRecDepth 100000 in
set_option maxHeartbeats 2000000 in
theorem awake_any (w : World) : Calls Try.prog 15 #[] w fun e w' => e = .returned (.bool true) ∧ Below w.heap.size w w' := by
  go_enter Try.func15, Try.ntmps15
  go_wp2_with fail
  refine (new_any 50 w).mono ?_; rintro e w1 ⟨rfl, made⟩
  rw [show max 0 (min (50 : Int) 1048576) = 50 by omega] at made
  have M1 := Lib.hid made
  clear made
  go_wp2_with fail
  refine (atm.new_any w1).mono ?_; rintro e w2 ⟨rfl, made⟩
  have M2 := Lib.hid (HP.mk_ M1.out made)
  clear made M1
  obtain ⟨p, hp⟩ : ∃ p, p = w.heap.size := ⟨_, rfl⟩
  obtain ⟨q, hq⟩ : ∃ q, q = w1.heap.size := ⟨_, rfl⟩
  rw [← hp, ← hq] at M2 ⊢
  clear hp hq
  obtain ⟨M, hM, _, _, up⟩ := Mine.one frPO M2.out
  have hvar := var_any hM
  rw [show px [] 50 ((([] : List Int).length : Int) * 8) = [0] by decide] at hvar
  have UP := Lib.hid up
  clear hM up
  go_wp2_with fail
  refine hvar.mono ?_; rintro e w3 ⟨rfl, nn⟩
  have M3 := Lib.hid (show Mine w (HP p q [0] 50 l0) w3 from UP.out (HB TH p [0] 50) _ nn)
  clear nn hvar UP M2
  go_wp2_with fail
  refine (rVar_any 0 w3).mono ?_; rintro e w4 ⟨rfl, hb⟩
  have M4 := Lib.hid (M3.out.below frHP hb)
  clear hb M3
  go_wp2_with fail
  refine (rVar_any 0 w4).mono ?_; rintro e w5 ⟨rfl, hb⟩
  have M5 := Lib.hid (Mine.nob (M4.out.below frHP hb))
  clear hb M4
  obtain ⟨x6, hx6⟩ : ∃ x6, x6 = w5.heap.size := ⟨_, rfl⟩
  obtain ⟨w6, hw6⟩ : ∃ w6, w6 = w5.alloc (R2 1 ⟨#[]⟩ 0 1 ⟨#[]⟩ 0) := ⟨_, rfl⟩
  have HW6 := Lib.hid (And.intro hx6 hw6)
  clear hx6 hw6
  go_wp2_with fail
  change Calls _ _ _ (w5.alloc (R2 1 ⟨#[]⟩ 0 1 ⟨#[]⟩ 0)) _
  rw [← HW6.out.1, ← HW6.out.2]
  refine (rComp_any _ _ _ _ _).mono ?_; rintro e w8 ⟨rfl, hb⟩
  have hb8 : Below (w5.heap.size + 1) (w5.alloc (R2 1 ⟨#[]⟩ 0 1 ⟨#[]⟩ 0)) w8 := by rw [HW6.out.2, kp.alloc_size] at hb; exact hb
  have hcall := mPut_freshN Fr.nob M5.out hb8 (T := tV) (vt := vc x6) (fun X hX => by rw [HW6.out.1]; exact lies_2 w5 hX hb8 (pla.var_lies X 0 w5 (by omega) (by omega)) (pla.var_lies X 0 w5 (by omega) (by omega))) (by decide) putV
  clear hb hb8 M5
  go_wp2_with fail
  refine hcall.mono ?_; rintro e w9 ⟨rfl, m9⟩
  have M9 := Lib.hid (Mine.fst m9)
  clear m9 hcall HW6
  go_wp2_with fail
  refine (new_any 50 w9).mono ?_; rintro e w10 ⟨rfl, made⟩
  rw [show max 0 (min (50 : Int) 1048576) = 50 by omega] at made
  have M10 := Lib.hid (HB.mk_ frHP M9.out made)
  clear made M9
  obtain ⟨kk, hkk⟩ : ∃ kk, kk = w9.heap.size := ⟨_, rfl⟩
  rw [← hkk] at M10 ⊢
  clear hkk
  have m11 : Mine w (Tim (ES p kk hA 50 50 []) (PO q aF)) w10 := M10.out.imp fun _ t => Tim.rot t
  obtain ⟨sR, hcop, hsR⟩ := copV
  have hcall := mTermS (s0 := ⟨hA, aF, [(0, 16)]⟩) frPO m11 laidV (by decide) (by decide) (by decide) [] _ hcop
  clear m11 M10 hcop
  go_wp2_with fail
  refine hcall.mono ?_; rintro e w12 ⟨rfl, m12⟩
  rw [hsR] at m12
  have M12 := Lib.hid (show Mine w (Tim (HP kk q hK 50 aF) (HB TH p hA 50)) w12 from m12.imp fun _ t => Tim.rot (t.map1 fun _ t => t.swap))
  clear hcall m12 hsR
  obtain ⟨g, hg, hg0⟩ := getV
  have hcall := mGet_new frHB (c := 1) ⟨by decide, by decide⟩ (by decide) (by intro x hx; simp [aF, l0] at hx; rcases hx with rfl | rfl | rfl <;> decide) (by decide) M12.out hg hg0
  clear hg hg0 M12
  go_wp2_with fail
  refine hcall.mono ?_; rintro e w16 ⟨k1, nm1, i1, re1, im1, aa1, sl1, sc1, rfl, m⟩
  obtain ⟨w17, hw17⟩ : ∃ w17, w17 = w16.alloc (.cells #[.int .i64 k1, .string nm1, .int .i64 i1, .int .u64 re1, .int .u64 im1, .slice aa1 sl1 sc1] 36) := ⟨_, rfl⟩
  obtain ⟨b1, hb1⟩ : ∃ b1, b1 = w16.heap.size := ⟨_, rfl⟩
  have HW17 := Lib.hid (And.intro hw17 hb1)
  rw [← hw17, ← hb1] at m
  have hSU : SU w b1 k1 nm1 i1 re1 im1 (.slice aa1 sl1 sc1) kk w17 := by
    refine ⟨m.bel, ?_⟩
    obtain ⟨N, ⟨_, _, ⟨_, _, hH, _⟩, ⟨_, _, _, h2, _⟩, _⟩, _⟩ := m
    exact ⟨⟨_, h2⟩, ⟨_, hH⟩⟩
  clear hcall m hw17 hb1
  go_upto_region 7 with fail
  rw [← HW17.out.1, ← HW17.out.2]
  clear HW17
  obtain ⟨y0, y1, y2, y3, y4, y5⟩ := hSU.c
  go_region_held3 (fun w' => w'.cell? ⟨b1, 0, none⟩ = some (.int .i64 k1) ∧ w'.cell? ⟨b1, 1, none⟩ = some (.string nm1) ∧ w'.cell? ⟨b1, 2, none⟩ = some (.int .i64 i1) ∧ w'.cell? ⟨b1, 3, none⟩ = some (.int .u64 re1) ∧ w'.cell? ⟨b1, 4, none⟩ = some (.int .u64 im1) ∧ w'.cell? ⟨b1, 5, none⟩ = some (.slice aa1 sl1 sc1))
    (first | exact SU.c (by assumption) | exact SU.c (SU.drew (by assumption)) | exact SU.c (And.left (by assumption)) | exact SU.c (SU.drew (And.left (by assumption))) | go_keep)
    (first
    | (go_at_call 27; refine (rVar_any _ _).mono ?_; rintro e wA ⟨rfl, hbA⟩; have hSA : SU w b1 k1 nm1 i1 re1 im1 (.slice aa1 sl1 sc1) kk wA := SU.below (by first | assumption | exact SU.drew (by assumption)) hbA)
    | (go_at_call 22; refine (SU.len (W := w) (b := b1) (k := k1) (nm := nm1) (i := i1) (re := re1) (im := im1) (s := .slice aa1 sl1 sc1) (kk := kk) (by first | assumption | exact SU.drew (by assumption))).mono ?_; rintro e wL ⟨rfl, rfl⟩)
    | (go_at_call 26; refine (rComp_any _ _ _ _ _).mono ?_; rintro e wC ⟨rfl, hbC⟩; have hSC := SW.mk (W := w) (b := b1) (kk := kk) (by first | assumption | exact SU.drew (by assumption)) rfl (by first | exact hbC | (rw [← kp.alloc_size _ (R2 1 ⟨#[]⟩ 0 1 ⟨#[]⟩ 0)]; exact hbC)))
    | (go_at_call 28; refine (rsm.rsame_any tV tV _ _ _ (by first | exact SU.l (And.left (by assumption)) | exact SU.l (SU.drew (And.left (by assumption)))) (by first | exact And.right (by assumption) | exact And.right (SW.drew (by assumption)))).mono ?_; rintro e wS ⟨rfl, hbS⟩; have hSS := SU.below (And.left (by first | assumption | exact SW.drew (by assumption))) hbS))
  all_goals
    go_wp2_with fail
    go_ret
    exact ⟨by rfl, SU.bel hSS⟩
end Go.Proofs.Ythableojkjhicaa.cpy
namespace Go.Proofs.Ythableojkjhicaa.cpy
open Go.ChangeShapes Go.WideShapes Go.ChangeAt Go.RowKit Go.Maps
open Go.Proofs.Ythableojkjhicaa.kp Go.Proofs.Ythableojkjhicaa.cel Go.Proofs.Ythableojkjhicaa.hp Go.Proofs.Ythableojkjhicaa.tm Go.Proofs.Ythableojkjhicaa.lie Go.Proofs.Ythableojkjhicaa.pm Go.Proofs.Ythableojkjhicaa.ren
open Go.Proofs.Ythableojkjhicaa.rpt (putT)
open Go.Proofs.Ythableojkjhicaa.atm (l0)
open Go.Proofs.Ythableojkjhicaa.pgt (getT)
set_option linter.unusedVariables false
/-- how many cells a whole term takes -/
def ns (T : Tm) : Nat := if T.kind = 1 then 1 else pm.nd T
/-- Put of a good term behind what is there, its variables new -/
theorem put_new {T : Tm} (m : Int) (h : List Int) (a : List ByteArray) (hg : good T = true) (hm : (h.length : Int) + pm.nd T + 1 ≤ m) (ha : a.length + tm.size T ≤ 4096) :
    ∃ c s', putT m T ⟨h, a, []⟩ = (c, 0, s') ∧ put m T (-1) ⟨h, a, []⟩ = (c, 0, s') ∧ Laid s' T c ∧ Ext NN ⟨h, a, []⟩ s' ∧ s'.h.length = h.length + ns T ∧ s'.a.length ≤ a.length + tm.size T ∧ (Sml a → Sml s'.a) := by
  have h0 : may T = 0 := (may_iff T).2 hg
  obtain ⟨c, s', he, ok⟩ := put_ok m T (-1) ⟨h, a, []⟩ NN (good_sound hg) (Vs.none _ _) (fun _ h => h.elim) (Or.inl (by omega)) hm ha
  have hT : putT m T ⟨h, a, []⟩ = (c, 0, s') := by unfold rpt.putT; rw [if_pos h0]; exact he
  obtain ⟨b, hb, hbl⟩ := ok.a
  refine ⟨c, s', hT, he, ?_, Ext.of_pre ok.pre ⟨b, hb⟩ ok.v, ?_, by rw [hb, List.length_append]; dsimp only; omega, fun hh => ?_⟩
  · rcases ok.rep with ⟨p, _, hp, _⟩ | ⟨h1, h2⟩
    · omega
    · exact ⟨h1, h2⟩
  · rw [ok.len]
    unfold ns
    dsimp only
    by_cases hk : T.kind = 1
    · rw [if_pos hk, if_pos hk, if_pos ⟨by decide, rfl⟩]
    · rw [if_neg hk, if_neg hk]
  · have := putT_sml m T ⟨h, a, []⟩ hh
    rwa [hT] at this
theorem rel0 (B : Nat) (h h' : List Int) (a a' : List ByteArray) : Rel B ⟨h, a, []⟩ ⟨h', a', []⟩ [] :=
  ⟨fun i c hi => by simp [pm.look] at hi, fun i _ => rfl, fun c d hc => by simp [pm.look] at hc, fun c d hc => by simp [pm.look] at hc⟩
/-- and its copy, behind what is there -/
theorem copy_new {T : Tm} {m m' : Int} {a0 : List ByteArray} {c : Int} {s1 : S} (hg : good T = true) (hp : put m T (-1) ⟨[], a0, []⟩ = (c, 0, s1)) (hm : (pm.nd T : Int) + 1 ≤ m) (hms : m ≤ 1048576) (ha : a0.length + tm.size T ≤ 4096) (h : List Int) (hm' : (h.length : Int) + pm.nd T + 1 ≤ m') (ha' : s1.a.length + tm.size T ≤ 4096) :
    ∃ d u' M', put m' T (-1) ⟨h, s1.a, []⟩ = (d, 0, u') ∧ cp s1.h T c (-1) ⟨h, s1.a, []⟩ = (d, ⟨u'.h, s1.a, M'⟩) ∧ u'.a = s1.a ∧ Laid u' T d ∧ u'.h.length = h.length + ns T ∧ Ext NN ⟨h, s1.a, []⟩ u' := by
  obtain ⟨c', s', _, e1, l1, _, z1, _⟩ := put_new m [] a0 hg (by simpa using hm) ha
  rw [hp] at e1
  injection e1 with e1 e2
  injection e2 with _ e2
  subst e1 e2
  have hz : s1.h.length ≤ 1048576 := by
    have h1 : ns T ≤ pm.nd T + 1 := by unfold ns; split <;> omega
    simp only [List.length_nil] at z1; omega
  obtain ⟨d, u', M', p2, c2, a2, _, _⟩ := sim (m := m) (m' := m') (L := s1.h) (B := s1.h.length) (A := s1.a) (by omega) T (-1) (-1) ⟨[], a0, []⟩ NN c s1 ⟨h, s1.a, []⟩ [] (good_sound hg) (Vs.none _ _) (fun _ h => h.elim) (Or.inl (by decide)) (by simpa using hm) ha hp (fun _ _ _ => rfl) (Nat.le_refl _) ⟨[], by simp⟩ rfl hm' (rel0 _ _ _ _ _)
  obtain ⟨d', u2, _, e3, l3, x3, z3, _⟩ := put_new m' h s1.a hg hm' ha'
  rw [p2] at e3
  injection e3 with e3 e4
  injection e4 with _ e4
  subst e3 e4
  exact ⟨d, u', M', p2, c2, a2, l3, z3, x3⟩
theorem ns_le (T : Tm) : ns T ≤ pm.nd T + 1 := by unfold ns; split <;> omega
theorem nd_3 (T : Tm) : pm.nd T + 1 ≤ 3 * tm.size T := nd_size T
theorem sml0 : Sml l0 := by intro x hx; simp [l0] at hx; rcases hx with rfl | rfl <;> decide
/-- what the laws of copy begin with: laid, copied -/
structure Cop (T : Tm) (c : Int) (s1 : S) (d : Int) (u : S) : Prop where
  pt : putT 10000 T ⟨[], l0, []⟩ = (c, 0, s1)
  run : put 10000 T (-1) ⟨[], l0, []⟩ = (c, 0, s1)
  l1 : Laid s1 T c
  z1 : s1.h.length = ns T
  a1 : s1.a.length ≤ 302
  m1 : Sml s1.a
  cop : ∃ M, cp s1.h T c (-1) ⟨[], s1.a, []⟩ = (d, ⟨u.h, s1.a, M⟩)
  run2 : put 10000 T (-1) ⟨[], s1.a, []⟩ = (d, 0, u)
  a2 : u.a = s1.a
  l2 : Laid u T d
  z2 : u.h.length = ns T
theorem cop_new {T : Tm} (hg : good T = true) (hs : tm.size T ≤ 300) : ∃ c s1 d u, Cop T c s1 d u := by
  have h3 := nd_3 T
  obtain ⟨c, s1, e0, e1, l1, _, z1, a1, m1⟩ := put_new (T := T) 10000 [] l0 hg (by simp; omega) (by simp [l0]; omega)
  have hl0 : l0.length = 2 := rfl
  obtain ⟨d, u, M, p2, c2, a2, l2, z2, _⟩ := copy_new (m' := 10000) hg e1 (by omega) (by omega) (by omega) [] (by simp; omega) (by omega)
  exact ⟨c, s1, d, u, e0, e1, l1, by simpa using z1, by omega, m1 sml0, ⟨M, c2⟩, p2, a2, l2, by simpa using z2⟩
end Go.Proofs.Ythableojkjhicaa.cpy
