/- Package copy: begin, Term: from one heap to another, to its own; of no heap. -/
import Derived.Test.YthableojkjhicaaCpE
namespace Go.Proofs.Ythableojkjhicaa.cpy
open Go.ChangeShapes Go.WideShapes Go.ChangeAt Go.RowKit Go.Maps
open Go.Proofs.Ythableojkjhicaa.kp Go.Proofs.Ythableojkjhicaa.cel Go.Proofs.Ythableojkjhicaa.hp Go.Proofs.Ythableojkjhicaa.ob Go.Proofs.Ythableojkjhicaa.tm Go.Proofs.Ythableojkjhicaa.pm
open Go.Proofs.Ythableojkjhicaa.rpt (HB frHB zeroC px_room)
set_option linter.unusedVariables false
/-- two heaps -/
def ES (p q : Nat) (l : List Int) (mf m : Int) (T : List Int) : Ob := Tim (HB TH p l mf) (HB TH q T m)
/-- its own: l is there as it was -/
def EO (p : Nat) (l : List Int) (m : Int) (T : List Int) : Ob := fun w N => Hp TH w p N T m ∧ l.length ≤ T.length ∧ ∀ i, i < l.length → T.getD i 0 = l.getD i 0
section
variable {p q : Nat} {l T : List Int} {mf m : Int} {w w' : World} {N K : Nat → Prop}
theorem gv_pos {l : List Int} {n : Nat} (h : n < l.length) : gv l (n : Int) = l.getD n 0 ∧ gb l (n : Int) = true := ⟨gv_nat h, gb_nat h⟩
theorem envES {w0 : World} {F : Nat → Prop} (hf : Hp TH w0 p F l mf) {w1 : World} {G : Nat → Prop} {T1 : List Int} (hg : Hp TH w1 q G T1 m) : Env p q l m 0 (ES p q l mf m) where
  fr := fun T => frHB.tim frHB
  ml := hg.most
  ll := by have := hf.len_le; omega
  lw := hf.wf
  get := by
    rintro T w N ⟨K, M, a, b, d, e⟩ n hn
    have := get_any a (n : Int)
    rw [(gv_pos hn).1, (gv_pos hn).2] at this
    exact this
  len := by
    rintro T w N ⟨K, M, a, b, d, e⟩
    exact len_any b
  push := by
    rintro T w N h u hu hm
    obtain ⟨M, b, up⟩ := Tim.at2 frHB h
    have := push_any b u hu
    obtain ⟨e1, e2, e3⟩ := px_room (u := u) hm
    rw [e1, e2, e3] at this
    exact this.mono fun e w' ⟨h1, h2⟩ => ⟨h1, up (HB TH q (T ++ [u]) m) _ h2⟩
  var := by
    rintro T w N h hm
    obtain ⟨M, b, up⟩ := Tim.at2 frHB h
    have := var_any b
    obtain ⟨e1, e2, e3⟩ := px_room (u := (T.length : Int) * 8) hm
    rw [e1, e2, e3] at this
    exact this.mono fun e w' ⟨h1, h2⟩ => ⟨h1, up (HB TH q (T ++ [(T.length : Int) * 8]) m) _ h2⟩
  set := by
    rintro T w N h x c hb hx hc
    obtain ⟨M, b, up⟩ := Tim.at2 frHB h
    have := set_any b (x : Int) c hc
    rw [gb_nat hx, show sx T (x : Int) c = T.set x c by unfold sx; rw [if_pos ⟨by omega, by omega⟩]; simp] at this
    exact this.mono fun e w' ⟨h1, h2⟩ => ⟨h1, up (HB TH q (T.set x c) m) _ h2⟩
theorem envEO {w0 : World} {F : Nat → Prop} (hf : Hp TH w0 p F l m) : Env p p l m l.length (EO p l m) where
  fr := fun T => ⟨fun h => Hp.lt h.1, fun h k d => ⟨Hp.keep h.1 k d, h.2⟩⟩
  ml := hf.most
  ll := by have := hf.len_le; omega
  lw := hf.wf
  get := by
    rintro T w N ⟨a, hl, he⟩ n hn
    have := get_any a (n : Int)
    rw [(gv_pos (show n < T.length by omega)).1, (gv_pos (show n < T.length by omega)).2, he n hn] at this
    exact this
  len := by
    rintro T w N ⟨a, hl, he⟩
    exact len_any a
  push := by
    rintro T w N ⟨a, hl, he⟩ u hu hm
    have := push_any a u hu
    obtain ⟨e1, e2, e3⟩ := px_room (u := u) hm
    rw [e1, e2, e3] at this
    refine this.mono fun e w' ⟨h1, ⟨K', b, k, s⟩⟩ => ⟨h1, K', ⟨b, by rw [List.length_append]; omega, fun i hi => ?_⟩, k, s⟩
    rw [List.getD_eq_getElem?_getD, List.getElem?_append_left (by omega), ← List.getD_eq_getElem?_getD]; exact he i hi
  var := by
    rintro T w N ⟨a, hl, he⟩ hm
    have := var_any a
    obtain ⟨e1, e2, e3⟩ := px_room (u := (T.length : Int) * 8) hm
    rw [e1, e2, e3] at this
    refine this.mono fun e w' ⟨h1, ⟨K', b, k, s⟩⟩ => ⟨h1, K', ⟨b, by rw [List.length_append]; omega, fun i hi => ?_⟩, k, s⟩
    rw [List.getD_eq_getElem?_getD, List.getElem?_append_left (by omega), ← List.getD_eq_getElem?_getD]; exact he i hi
  set := by
    rintro T w N ⟨a, hl, he⟩ x c hb hx hc
    have := set_any a (x : Int) c hc
    rw [gb_nat hx, show sx T (x : Int) c = T.set x c by unfold sx; rw [if_pos ⟨by omega, by omega⟩]; simp] at this
    refine this.mono fun e w' ⟨h1, ⟨K', b, k, s⟩⟩ => ⟨h1, K', ⟨b, by rw [List.length_set]; omega, fun i hi => ?_⟩, k, s⟩
    rw [List.getD_eq_getElem?_getD, List.getElem?_set_ne (by omega), ← List.getD_eq_getElem?_getD]; exact he i hi
end
section
variable {E : List Int → Ob} {m : Int} {b : Nat} {p q mb pb : Nat} {s s0 : S} {n : Int} {w w' : World} {N : Nat → Prop} {T0 : List Int}
/-- the copier, at its beginning -/
theorem CB.new (v : Env p q s0.h m b E) (h : E T0 w N) : ∃ K, CB E p q w.heap.size (w.heap.size + 1) (s0.h.length : Int) ⟨T0, [], []⟩ 0 ((w.alloc (.map #[] 0)).alloc (CPB p (s0.h.length : Int) q w.heap.size 0)) K ∧ Below w.heap.size w ((w.alloc (.map #[] 0)).alloc (CPB p (s0.h.length : Int) q w.heap.size 0)) ∧ (∀ i, K i → N i ∨ w.heap.size ≤ i) ∧
    ∀ s' n' w2, Nx (CB E p q w.heap.size (w.heap.size + 1) (s0.h.length : Int) s' n') ((w.alloc (.map #[] 0)).alloc (CPB p (s0.h.length : Int) q w.heap.size 0)) K w2 → Nx (E s'.h) w N w2 := by
  obtain ⟨w1, hw1⟩ : ∃ w1, w1 = w.alloc (.map #[] 0) := ⟨_, rfl⟩
  have b1 : Below w.heap.size w w1 := by rw [hw1]; exact kp.ba w _
  have z1 : w1.heap.size = w.heap.size + 1 := by rw [hw1, kp.alloc_size]
  have b2 : Below w1.heap.size w1 (w1.alloc (CPB p (s0.h.length : Int) q w.heap.size 0)) := kp.ba w1 _
  have bb := b1.trans (b2.mono b1.size)
  rw [← hw1]
  have hlt := (v.fr T0).lt h
  have hE := (v.fr T0).below h bb
  have hmap : (w1.alloc (CPB p (s0.h.length : Int) q w.heap.size 0)).ownsMap Try.prog 23 (plainElem (H := Unit) Try.prog 23) w.heap.size 0 (.map []) := by
    have h0 : w1.ownsMap Try.prog 23 (plainElem (H := Unit) Try.prog 23) w.heap.size 0 (.map []) := by rw [hw1]; exact World.ownsMap_made w Try.prog 23 _
    exact mapU_keep h0 (b2.block w.heap.size (by omega))
  refine ⟨fun i => N i ∨ (i = w.heap.size ∨ i = w.heap.size + 1), ⟨N, fun i => i = w.heap.size ∨ i = w.heap.size + 1, hE, ⟨fun i => i = w.heap.size, fun i => i = w.heap.size + 1, ⟨⟨_, hmap, VMU.nil, rfl⟩, fun _ => Iff.rfl⟩, ⟨?_, fun _ => Iff.rfl⟩, fun i h1 h2 => by omega, fun _ => Iff.rfl⟩, fun i h1 h2 => by have := hlt i h1; omega, fun _ => Iff.rfl⟩, bb, fun i hi => hi.imp id fun h => by omega, fun s' n' w2 hn => ?_⟩
  · rw [← z1]; exact kp.alloc_at w1 _
  · obtain ⟨K', ⟨K1, M1, a, _, d, e⟩, k, sub⟩ := hn
    refine ⟨K1, a, ?_, fun i hi => ?_⟩
    · refine (Keep.of_below (F := N) bb).trans k fun i hi => hi.imp id fun h => by omega
    · have := bb.size
      rcases sub i ((e i).2 (Or.inl hi)) with h | h
      · rcases h with h | h
        · exact Or.inl h
        · exact Or.inr (by omega)
      · exact Or.inr (by omega)
set_option maxHeartbeats 1000000 in
theorem cTerm_any (v : Env p q s0.h m b E) (h : E T0 w N) (hlen : ∀ w', Below w.heap.size w w' → Calls Try.prog 22 #[.pointer (some ⟨p, 0, none⟩)] w' fun e w2 => e = .returned (.int .i64 (s0.h.length : Int)) ∧ w' = w2) {t : Tm} {c : Int} (hL : Laid s0 t c) (hs : sound t = true) (hz : tm.size t ≤ 4000) (hm : (T0.length : Int) + pm.nd t + 1 ≤ m) (hb : b ≤ T0.length) (R : Int × S) (hR : cp s0.h t c (-1) ⟨T0, [], []⟩ = R) :
    Calls Try.prog 13 #[.pointer (some ⟨p, 0, none⟩), .pointer (some ⟨q, 0, none⟩), .int .u64 c] w fun e w' => e = .returned (.tuple #[.int .u64 R.1, .int .i64 0]) ∧ Nx (E R.2.h) w N w' := by
  have hl0 := hlen w (Below.refl _ _)
  obtain ⟨K, hcb, bb, sub, up⟩ := CB.new v h
  have hlay := clay_any v hcb hL hs ⟨by decide, by omega⟩ (by show 0 + tm.size t ≤ _; omega) hz hm hb R hR
  have UP := Lib.hid up
  have hbegin : Calls Try.prog 47 #[.pointer (some ⟨p, 0, none⟩), .pointer (some ⟨q, 0, none⟩)] w fun e w' => e = .returned (.pointer (some ⟨w.heap.size + 1, 0, none⟩)) ∧ w' = (w.alloc (.map #[] 0)).alloc (CPB p (s0.h.length : Int) q w.heap.size 0) := by
    have hmm := @run_makeMap Try.prog
    clear v h hlen hL hs hz hm hb hR hcb bb sub up hlay
    generalize (s0.h.length : Int) = z at *
    go_enter Try.func47, Try.ntmps47
    go_wp2_with fail
    refine hl0.mono ?_; rintro e w' ⟨rfl, rfl⟩
    go_wp2_with fail
    go_ret
    exact ⟨by simp, rfl⟩
  obtain ⟨w3, hw3⟩ : ∃ w3, w3 = (w.alloc (.map #[] 0)).alloc (CPB p (s0.h.length : Int) q w.heap.size 0) := ⟨_, rfl⟩
  rw [← hw3] at hlay hbegin
  have HW := Lib.hid hw3
  obtain ⟨pb, hpb⟩ : ∃ pb, pb = w.heap.size + 1 := ⟨_, rfl⟩
  rw [← hpb] at hlay hbegin
  have HPB := Lib.hid hpb
  clear v h hlen hL hs hz hm hb hR hcb bb sub up hl0 hw3 hpb
  go_enter Try.func13, Try.ntmps13
  go_wp2_with fail
  refine hbegin.mono ?_; rintro e w' ⟨rfl, rfl⟩
  go_wp2_with fail
  refine hlay.mono ?_; rintro e w5 ⟨rfl, n', nn⟩
  have X5 := Lib.hid (UP.out R.2 n' w5 (by rw [← HW.out, ← HPB.out]; exact nn))
  clear hlay nn
  go_wp2_with fail
  go_ret2
  exact ⟨rfl, X5.out⟩
theorem cTerm_nil1 (q : Option Addr) (c : Int) (w : World) : Calls Try.prog 13 #[.pointer none, .pointer q, .int .u64 c] w fun e w' => e = .returned (.tuple #[.int .u64 0, .int .i64 1]) ∧ w = w' := by
  go_enter Try.func13, Try.ntmps13
  go_wp2_with fail
  go_ret2
  exact ⟨rfl, rfl⟩
theorem cTerm_nil2 (p : Addr) (c : Int) (w : World) : Calls Try.prog 13 #[.pointer (some p), .pointer none, .int .u64 c] w fun e w' => e = .returned (.tuple #[.int .u64 0, .int .i64 1]) ∧ w = w' := by
  go_enter Try.func13, Try.ntmps13
  go_wp2_with fail
  go_ret2
  exact ⟨rfl, rfl⟩
theorem cCollect_nil (v : Value) (w : World) (hv : ∃ a n c, v = .slice a n c) : Calls Try.prog 14 #[.pointer none, v] w fun e w' => e = .returned (.tuple #[.pointer none, .slice none 0 0, .int .i64 1]) ∧ w = w' := by
  obtain ⟨a, n, c, rfl⟩ := hv
  go_enter Try.func14, Try.ntmps14
  go_wp2_with fail
  exact bodyPost_ret (v := .tuple #[.pointer none, .slice none 0 0, .int .i64 1]) (by simp [results, Try.results14, go_sem]) rfl ⟨rfl, rfl⟩
end
end Go.Proofs.Ythableojkjhicaa.cpy
