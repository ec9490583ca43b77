/- The law TermLists holds: for every input its Go function returns true and leaves its arguments as they were. No condition beyond the row's own. -/
import Derived.Test.YtjgkgceigbimoaaRows
import Derived.WalkKit
import Derived.ProofKit
import Derived.OpenShut
import Derived.SizedLaws
import Derived.Test.YtjgkgceigbimoaaTOpen
import Derived.Test.YtjgkgceigbimoaaLgt
import Derived.Test.YtjgkgceigbimoaaRLs
import Derived.Test.YtjgkgceigbimoaaRItm
import Derived.Test.YtjgkgceigbimoaaRAp
import Derived.Test.YtjgkgceigbimoaaTg
import Derived.StillTailTactics
import Derived.Deep.RegionHeld3
import Derived.Deep.LoopGhost
namespace Go.Proofs.Ytjgkgceigbimoaa.termLists
open Go.ChangeShapes Go.WideShapes Go.ChangeAt Go.RowKit
open Go.ChangeMaps (open_string)
open Go.Proofs.Ytjgkgceigbimoaa.tm Go.Proofs.Ytjgkgceigbimoaa.lie Go.Proofs.Ytjgkgceigbimoaa.kp Go.Proofs.Ytjgkgceigbimoaa.top
set_option linter.unusedVariables false
theorem own : ownKnob Try.prog.godebug = none := by kernel_rfl
theorem laidOut : laidOutB Try.prog = true := by kernel_rfl
open Go.Proofs.Ytjgkgceigbimoaa.tm Go.Proofs.Ytjgkgceigbimoaa.lie Go.Proofs.Ytjgkgceigbimoaa.kp Go.Proofs.Ytjgkgceigbimoaa.awk Go.Proofs.Ytjgkgceigbimoaa.lgt Go.Proofs.Ytjgkgceigbimoaa.cur Go.Proofs.Ytjgkgceigbimoaa.rws Go.Proofs.Ytjgkgceigbimoaa.lst Go.Proofs.Ytjgkgceigbimoaa.rls Go.Proofs.Ytjgkgceigbimoaa.rsm Go.Proofs.Ytjgkgceigbimoaa.pla Go.Proofs.Ytjgkgceigbimoaa.sme Go.Proofs.Ytjgkgceigbimoaa.itm Go.Proofs.Ytjgkgceigbimoaa.app Go.Proofs.Ytjgkgceigbimoaa.rap Go.Proofs.Ytjgkgceigbimoaa.rcn
theorem requal_app (t : Tm) (l : List Tm) (va vb : Value) (w : World) (ha : Lies No w (appR t l) va) (hb : Lies No w (appR t l) vb) : Calls Try.prog 10 #[va, vb] w fun e w' => e = .returned (.bool true) ∧ Below w.heap.size w w' := by
  have hX : ∃ X, appR t l = plainR X := by
    unfold appR
    cases hg : good t
    · exact ⟨zero, by simp [plainR, good, zero, sound, chk]⟩
    · exact ⟨_, rfl⟩
  obtain ⟨X, hX⟩ := hX
  rw [hX] at ha hb
  exact requal_plain X va vb w ha hb
/-- what both tell of the items -/
def TB (L : List Tm) (b : Bool) (w : World) (e : Ending) (w' : World) : Prop := ∃ a c, e = .returned (.tuple #[.slice a L.length c, .bool b]) ∧ TRow No w' L a 0 ∧ Below w.heap.size w w'
theorem TB.of {L : List Tm} {E : Tm} {w : World} {e : Ending} {w' : World} (h : ToldI L E w e w') : TB (if nilB E = true then L else []) (nilB E) w e w' := by
  obtain ⟨hb, ⟨hn, a, c, he, _, hr⟩ | ⟨hn, he⟩⟩ := h
  · rw [hn]; exact ⟨a, c, he, hr, hb⟩
  · rw [hn]; exact ⟨none, 0, he, by simp [TRow], hb⟩
theorem its (t : Tm) : ∃ (L : List Tm) (b : Bool), L.length ≤ 2000 ∧ (∀ x ∈ L, good x = true) ∧ (∀ v w, Lies No w t v → Calls Try.prog 8 #[v] w (TB L b w)) ∧ (∀ v w, Lies No w t v → Calls Try.prog 9 #[v] w (TB L b w)) := by
  cases hg : good t with
  | false =>
    have hz : plainR t = zero := by unfold plainR; rw [hg]; rfl
    have hc : consB zero = false := by decide
    refine ⟨_, _, ?_, ?_, fun v w ht => (items_any t [] zero v w ht (by rw [hz]; exact Sp.stop _ hc) (by simp)).mono fun _ _ h => TB.of h, fun v w ht => (ritems_bad t [] v w ht hg).mono fun _ _ h => TB.of h⟩
    · split <;> simp
    · intro x hx; split at hx <;> simp at hx
  | true =>
    obtain ⟨L, E, hp⟩ := Sp.ex t
    have hpr : plainR t = plain t := by unfold plainR; rw [if_pos hg]
    have hL : L.length ≤ 2000 := by
      have h1 := hp.size_
      have h2 := hg
      simp only [good, Bool.and_eq_true, decide_eq_true_eq] at h2
      have := h2.1.1; omega
    have hgs := (hp.good_ hg).1
    have h1 : ∀ v w, Lies No w t v → Calls Try.prog 8 #[v] w (TB (if nilB E = true then L.map plain else []) (nilB E) w) := fun v w ht =>
      (items_any t (L.map plain) (plain E) v w ht (by rw [hpr]; exact hp.plain_) (by rw [List.length_map]; exact hL)).mono fun _ _ h => by
        have := TB.of h
        rw [nilB_plain] at this; exact this
    refine ⟨_, _, ?_, ?_, h1, fun v w ht => (ritems_good t L E v w ht hg hp hL).mono fun _ _ h => TB.of h⟩
    · split
      · rw [List.length_map]; exact hL
      · simp
    · intro x hx
      split at hx
      · obtain ⟨y, hy, rfl⟩ := List.mem_map.1 hx
        exact good_plain (hgs y hy) (good_sound (hgs y hy))
      · simp at hx
/-- what the last statement's loads rely on, whatever has been made meanwhile -/
def SV (w w7 : World) (A B : Array Value) (W : World) : Prop := Below w.heap.size w W ∧ W.heap[w.heap.size]? = some (.cells A 25 (0, 0)) ∧ W.heap[w.heap.size + 1]? = some (.cells B 25 (0, 0)) ∧ Below w7.heap.size w7 W
theorem SV.below {w w7 W W' : World} {A B : Array Value} (h : SV w w7 A B W) (hb : Below W.heap.size W W') : SV w w7 A B W' :=
  ⟨h.1.trans (hb.mono h.1.size), (hb.block _ (Array.getElem?_eq_some_iff.1 h.2.1).1).trans h.2.1, (hb.block _ (Array.getElem?_eq_some_iff.1 h.2.2.1).1).trans h.2.2.1, h.2.2.2.trans (hb.mono h.2.2.2.size)⟩
theorem SV.bel {w w7 W : World} {A B : Array Value} (h : SV w w7 A B W) : Below w.heap.size w W := h.1
theorem SV.bel7 {w w7 W : World} {A B : Array Value} (h : SV w w7 A B W) : Below w7.heap.size w7 W := h.2.2.2
theorem SV.cells {w w7 W : World} {p0 p1 p2 p3 p4 p5 q0 q1 q2 q3 q4 q5 : Value} (h : SV w w7 #[p0, p1, p2, p3, p4, p5] #[q0, q1, q2, q3, q4, q5] W) :
    W.cell? ⟨w.heap.size, 0, none⟩ = some p0 ∧ W.cell? ⟨w.heap.size, 1, none⟩ = some p1 ∧ W.cell? ⟨w.heap.size, 2, none⟩ = some p2 ∧ W.cell? ⟨w.heap.size, 3, none⟩ = some p3 ∧ W.cell? ⟨w.heap.size, 4, none⟩ = some p4 ∧ W.cell? ⟨w.heap.size, 5, none⟩ = some p5 ∧
    W.cell? ⟨w.heap.size + 1, 0, none⟩ = some q0 ∧ W.cell? ⟨w.heap.size + 1, 1, none⟩ = some q1 ∧ W.cell? ⟨w.heap.size + 1, 2, none⟩ = some q2 ∧ W.cell? ⟨w.heap.size + 1, 3, none⟩ = some q3 ∧ W.cell? ⟨w.heap.size + 1, 4, none⟩ = some q4 ∧ W.cell? ⟨w.heap.size + 1, 5, none⟩ = some q5 ∧ SV w w7 #[p0, p1, p2, p3, p4, p5] #[q0, q1, q2, q3, q4, q5] W := by
  obtain ⟨e0, e1, e2, e3, e4, e5⟩ := (blk_facts h.2.1).1
  obtain ⟨f0, f1, f2, f3, f4, f5⟩ := (blk_facts h.2.2.1).1
  exact ⟨e0, e1, e2, e3, e4, e5, f0, f1, f2, f3, f4, f5, h⟩
set_option maxHeartbeats 8000000 in
set_option maxRecDepth 100000 in
theorem walk (w : World) (a0 : Option Addr) (n0 c0 : Nat) (l0 : List Tm) (e0 : l0.length = n0) (x0 : TRow No w l0 a0 0) (m0 : n0 ≤ c0) (y0 : c0 ≤ maxLen) (z0 : n0 * 72 ≤ 140737488351232) (v1 : Value) (t1 : Tm) (x1 : Lies No w t1 v1) (v2 : Value) (t2 : Tm) (x2 : Lies No w t2 v2) (a3 : Option Addr) (n3 c3 : Nat) (l3 : List Tm) (e3 : l3.length = n3) (x3 : TRow No w l3 a3 0) (m3 : n3 ≤ c3) (y3 : c3 ≤ maxLen) (z3 : n3 * 72 ≤ 140737488351232) :
    Calls Try.prog 3 #[.slice a0 n0 c0, v1, v2, .slice a3 n3 c3] w fun e w' => e = .returned (.bool true) ∧ Below w.heap.size w w' := by
  subst e0
  subst e3
  obtain ⟨T1, hT1⟩ : ∃ T, T = t1 := ⟨_, rfl⟩
  have HT1 := Lib.hid (show Lies No w T1 v1 from hT1 ▸ x1)
  obtain ⟨k, n, i, re, im, tl⟩ := t1
  rw [Lies] at x1
  obtain ⟨a1, c1, rfl, hf, hr⟩ := x1
  clear hf hr hT1
  obtain ⟨T2, hT2⟩ : ∃ T, T = t2 := ⟨_, rfl⟩
  have HT2 := Lib.hid (show Lies No w T2 v2 from hT2 ▸ x2)
  obtain ⟨k', n', i', re', im', tl'⟩ := t2
  rw [Lies] at x2
  obtain ⟨a2, c2, rfl, hf, hr⟩ := x2
  clear hf hr hT2
  have HX0 := Lib.hid x0
  have HX3 := Lib.hid x3
  have hz0 : l0.length ≤ 140737488351232 ∧ l3.length ≤ 140737488351232 := by omega
  clear x0 x3 m0 y0 z0 m3 y3 z3 hz0
  have HBW := Lib.hid (fun W => @two_bx w W (.cells #[.int .i64 k, .string n, .int .i64 i, .int .u64 re, .int .u64 im, .slice a1 tl.length c1] 25) (.cells #[.int .i64 k', .string n', .int .i64 i', .int .u64 re', .int .u64 im', .slice a2 tl'.length c2] 25))
  by_cases h1 : 40 < l0.length
  · have h1' : decide ((l0.length : Int) > 40) = true := by simp; omega
    clear h1
    go_enter Try.func3, Try.ntmps3
    go_wp2_with fail
    refine (awake_any _).mono ?_; rintro e w2 ⟨rfl, hb⟩
    have HB := Lib.hid (HBW.out _ hb)
    clear hb
    go_wp2_with fail
    go_ret
    exact ⟨rfl, HB.out.2.2⟩
  have h1' : decide ((l0.length : Int) > 40) = false := by simp; omega
  have hl40 : l0.length ≤ 40 := by omega
  clear h1
  by_cases h2 : 10 < l3.length
  · have h2' : decide ((l3.length : Int) > 10) = true := by simp; omega
    clear h2
    go_enter Try.func3, Try.ntmps3
    go_wp2_with fail
    refine (awake_any _).mono ?_; rintro e w2 ⟨rfl, hb⟩
    have HB := Lib.hid (HBW.out _ hb)
    clear hb
    go_wp2_with fail
    go_ret
    exact ⟨rfl, HB.out.2.2⟩
  have h2' : decide ((l3.length : Int) > 10) = false := by simp; omega
  have hl10 : l3.length ≤ 10 := by omega
  clear h2
  obtain ⟨LLs, bb, hLl, hLg, hit, hrit⟩ := its T2
  have HL := Lib.hid (And.intro hLl hLg)
  have HIT := Lib.hid (And.intro hit hrit)
  clear hLl hLg hit hrit
  go_enter Try.func3, Try.ntmps3
  go_wp2_with fail
  refine (Light_any _ _ _ _ ((HX0.out.below (ba _ _)).below (ba _ _)) (by omega)).mono ?_
  rintro e w2 ⟨b, rfl, hb⟩
  have HB := Lib.hid (HBW.out _ hb)
  clear hb
  cases b
  · go_wp2_with fail
    refine (awake_any _).mono ?_; rintro e w3 ⟨rfl, hb⟩
    have HB3 := Lib.hid (HB.out.2.2.trans (hb.mono HB.out.2.2.size))
    clear hb
    go_wp2_with fail
    go_ret
    exact ⟨rfl, HB3.out⟩
  obtain ⟨⟨e0, e1, e2, e3, e4, e5⟩, _⟩ := blk_facts HB.out.1
  obtain ⟨⟨f0, f1, f2, f3, f4, f5⟩, _⟩ := blk_facts HB.out.2.1
  go_wp2_with fail
  refine (Light_any [T1, T2] (some ⟨w2.heap.size, 0, none⟩) 2 _ ?_ (by simp)).mono ?_
  · exact row_new w2 _ [T1, T2] (fun m hm => by
      match m, hm with
      | 0, _ => exact ⟨_, _, _, _, _, _, rfl, rfl, rfl, rfl, rfl, rfl, HT1.out.below HB.out.2.2⟩
      | 1, _ => exact ⟨_, _, _, _, _, _, rfl, rfl, rfl, rfl, rfl, rfl, HT2.out.below HB.out.2.2⟩
      | m + 2, hm => exact absurd hm (by simp))
  rintro e w3 ⟨b, rfl, hb⟩
  have hb3 : Below w2.heap.size w2 w3 := bt (ba _ _) hb
  have HB3 := Lib.hid (And.intro (HB.out.2.2.trans (hb3.mono HB.out.2.2.size)) (And.intro ((hb3.block _ (Array.getElem?_eq_some_iff.1 HB.out.1).1).trans HB.out.1) ((hb3.block _ (Array.getElem?_eq_some_iff.1 HB.out.2.1).1).trans HB.out.2.1)))
  clear hb hb3 e0 e1 e2 e3 e4 e5 f0 f1 f2 f3 f4 f5
  cases b
  · go_wp2_with fail
    refine (awake_any _).mono ?_; rintro e w4 ⟨rfl, hb⟩
    have HB4 := Lib.hid (HB3.out.1.trans (hb.mono HB3.out.1.size))
    clear hb
    go_wp2_with fail
    go_ret
    exact ⟨rfl, HB4.out⟩
  go_wp2_with fail
  refine (Light_any _ _ _ _ (HX3.out.below HB3.out.1) (by omega)).mono ?_
  rintro e w4 ⟨b, rfl, hb⟩
  have HB4 := Lib.hid (And.intro (HB3.out.1.trans (hb.mono HB3.out.1.size)) (And.intro ((hb.block _ (Array.getElem?_eq_some_iff.1 HB3.out.2.1).1).trans HB3.out.2.1) ((hb.block _ (Array.getElem?_eq_some_iff.1 HB3.out.2.2).1).trans HB3.out.2.2)))
  clear hb
  cases b
  · go_wp2_with fail
    refine (awake_any _).mono ?_; rintro e w5 ⟨rfl, hb⟩
    have HB5 := Lib.hid (HB4.out.1.trans (hb.mono HB4.out.1.size))
    clear hb
    go_wp2_with fail
    go_ret
    exact ⟨rfl, HB5.out⟩
  obtain ⟨⟨f0, f1, f2, f3, f4, f5⟩, _⟩ := blk_facts HB4.out.2.2
  go_wp2_with fail
  refine (HIT.out.1 _ _ (HT2.out.below HB4.out.1)).mono ?_
  rintro e w5 ⟨ag, cg, rfl, hrow, hb⟩
  have HB5 := Lib.hid (And.intro (HB4.out.1.trans (hb.mono HB4.out.1.size)) (And.intro ((hb.block _ (Array.getElem?_eq_some_iff.1 HB4.out.2.1).1).trans HB4.out.2.1) (And.intro ((hb.block _ (Array.getElem?_eq_some_iff.1 HB4.out.2.2).1).trans HB4.out.2.2) hrow)))
  clear hb hrow f0 f1 f2 f3 f4 f5
  obtain ⟨⟨f0, f1, f2, f3, f4, f5⟩, _⟩ := blk_facts HB5.out.2.2.1
  go_wp2_with fail
  refine (HIT.out.2 _ _ (HT2.out.below HB5.out.1)).mono ?_
  rintro e w6 ⟨ah, ch, rfl, hrow, hb⟩
  have HIA := Lib.hid (HB5.out.2.2.2.below hb)
  have HIB := Lib.hid hrow
  have hSN : SV w w6 #[.int .i64 k, .string n, .int .i64 i, .int .u64 re, .int .u64 im, .slice a1 tl.length c1] #[.int .i64 k', .string n', .int .i64 i', .int .u64 re', .int .u64 im', .slice a2 tl'.length c2] w6 :=
    ⟨HB5.out.1.trans (hb.mono HB5.out.1.size), (hb.block _ (Array.getElem?_eq_some_iff.1 HB5.out.2.1).1).trans HB5.out.2.1, (hb.block _ (Array.getElem?_eq_some_iff.1 HB5.out.2.2.1).1).trans HB5.out.2.2.1, Below.refl _ _⟩
  have HL4 := Lib.hid (show l0.length < 500 by omega)
  clear hb hrow f0 f1 f2 f3 f4 f5
  obtain ⟨e0, e1, e2, e3, e4, e5, f0, f1, f2, f3, f4, f5, _⟩ := hSN.cells
  go_wp2_with fail
  go_region_held3 (fun w' => w'.cell? ⟨w.heap.size, 0, none⟩ = some (.int .i64 k) ∧ w'.cell? ⟨w.heap.size, 1, none⟩ = some (.string n) ∧ w'.cell? ⟨w.heap.size, 2, none⟩ = some (.int .i64 i) ∧ w'.cell? ⟨w.heap.size, 3, none⟩ = some (.int .u64 re) ∧ w'.cell? ⟨w.heap.size, 4, none⟩ = some (.int .u64 im) ∧ w'.cell? ⟨w.heap.size, 5, none⟩ = some (.slice a1 tl.length c1) ∧ w'.cell? ⟨w.heap.size + 1, 0, none⟩ = some (.int .i64 k') ∧ w'.cell? ⟨w.heap.size + 1, 1, none⟩ = some (.string n') ∧ w'.cell? ⟨w.heap.size + 1, 2, none⟩ = some (.int .i64 i') ∧ w'.cell? ⟨w.heap.size + 1, 3, none⟩ = some (.int .u64 re') ∧ w'.cell? ⟨w.heap.size + 1, 4, none⟩ = some (.int .u64 im') ∧ w'.cell? ⟨w.heap.size + 1, 5, none⟩ = some (.slice a2 tl'.length c2) ∧ SV w w6 #[.int .i64 k, .string n, .int .i64 i, .int .u64 re, .int .u64 im, .slice a1 tl.length c1] #[.int .i64 k', .string n', .int .i64 i', .int .u64 re', .int .u64 im', .slice a2 tl'.length c2] w')
    (first | (exact (SV.cells (by assumption))) | (exact SV.cells (SV.below (by assumption) (bdr _))) | go_keep)
    (first
    | (go_at_call 11; refine (list_any l0 T1 _ _ _ _ (HX0.out.below ?_) (HT1.out.below ?_) HL4.out).mono ?_; exact SV.bel (by (first | assumption | exact SV.below (by assumption) (bdr _))); exact SV.bel (by (first | assumption | exact SV.below (by assumption) (bdr _))); rintro e wN ⟨kqa, nqa, iqa, rqa, mqa, aqa, lqa, cqa, rfl, hbN, hq⟩; (first | have QA := Lib.hid (QA.out.below hbN) | have QA := Lib.hid ((QA.out.below (bdr _)).below hbN) | skip); (first | have QB := Lib.hid (QB.out.below hbN) | have QB := Lib.hid ((QB.out.below (bdr _)).below hbN) | skip); (first | have PA := Lib.hid (PA.out.below hbN) | have PA := Lib.hid ((PA.out.below (bdr _)).below hbN) | skip); (first | have PB := Lib.hid (PB.out.below hbN) | have PB := Lib.hid ((PB.out.below (bdr _)).below hbN) | skip); have QA := Lib.hid (hq.off (Y := No) fun _ _ h => h.elim); have hSN := SV.below (by (first | assumption | exact SV.below (by assumption) (bdr _))) hbN; clear hq)
    | (go_at_call 12; refine (rlist_any l0 T1 _ _ _ _ (HX0.out.below ?_) (HT1.out.below ?_) HL4.out).mono ?_; exact SV.bel (by (first | assumption | exact SV.below (by assumption) (bdr _))); exact SV.bel (by (first | assumption | exact SV.below (by assumption) (bdr _))); rintro e wN ⟨kqb, nqb, iqb, rqb, mqb, aqb, lqb, cqb, rfl, hbN, hq⟩; (first | have QA := Lib.hid (QA.out.below hbN) | have QA := Lib.hid ((QA.out.below (bdr _)).below hbN) | skip); (first | have QB := Lib.hid (QB.out.below hbN) | have QB := Lib.hid ((QB.out.below (bdr _)).below hbN) | skip); (first | have PA := Lib.hid (PA.out.below hbN) | have PA := Lib.hid ((PA.out.below (bdr _)).below hbN) | skip); (first | have PB := Lib.hid (PB.out.below hbN) | have PB := Lib.hid ((PB.out.below (bdr _)).below hbN) | skip); have QB := Lib.hid (hq.off (Y := No) fun _ _ h => h.elim); have hSN := SV.below (by (first | assumption | exact SV.below (by assumption) (bdr _))) hbN; clear hq)
    | (go_at_call 14; refine (apply_any T2 _ _ l3 _ _ (HT2.out.below ?_) (HX3.out.below ?_)).mono ?_; exact SV.bel (by (first | assumption | exact SV.below (by assumption) (bdr _))); exact SV.bel (by (first | assumption | exact SV.below (by assumption) (bdr _))); rintro e wN ⟨kpa, npa, ipa, rpa, mpa, apa, lpa, cpa, rfl, hbN, hq⟩; (first | have QA := Lib.hid (QA.out.below hbN) | have QA := Lib.hid ((QA.out.below (bdr _)).below hbN) | skip); (first | have QB := Lib.hid (QB.out.below hbN) | have QB := Lib.hid ((QB.out.below (bdr _)).below hbN) | skip); (first | have PA := Lib.hid (PA.out.below hbN) | have PA := Lib.hid ((PA.out.below (bdr _)).below hbN) | skip); (first | have PB := Lib.hid (PB.out.below hbN) | have PB := Lib.hid ((PB.out.below (bdr _)).below hbN) | skip); have PA := Lib.hid (hq.off (Y := No) fun _ _ h => h.elim); have hSN := SV.below (by (first | assumption | exact SV.below (by assumption) (bdr _))) hbN; clear hq)
    | (go_at_call 15; refine (rapply_any T2 _ _ l3 _ _ (HT2.out.below ?_) (HX3.out.below ?_)).mono ?_; exact SV.bel (by (first | assumption | exact SV.below (by assumption) (bdr _))); exact SV.bel (by (first | assumption | exact SV.below (by assumption) (bdr _))); rintro e wN ⟨kpb, npb, ipb, rpb, mpb, apb, lpb, cpb, rfl, hbN, hq⟩; (first | have QA := Lib.hid (QA.out.below hbN) | have QA := Lib.hid ((QA.out.below (bdr _)).below hbN) | skip); (first | have QB := Lib.hid (QB.out.below hbN) | have QB := Lib.hid ((QB.out.below (bdr _)).below hbN) | skip); (first | have PA := Lib.hid (PA.out.below hbN) | have PA := Lib.hid ((PA.out.below (bdr _)).below hbN) | skip); (first | have PB := Lib.hid (PB.out.below hbN) | have PB := Lib.hid ((PB.out.below (bdr _)).below hbN) | skip); have PB := Lib.hid (hq.off (Y := No) fun _ _ h => h.elim); have hSN := SV.below (by (first | assumption | exact SV.below (by assumption) (bdr _))) hbN; clear hq)
    | (go_at_call 13; refine (rsameT_any LLs _ _ _ _ _ (HIA.out.below ?_) (HIB.out.below ?_) HL.out.1 HL.out.2).mono ?_; exact SV.bel7 (by (first | assumption | exact SV.below (by assumption) (bdr _))); exact SV.bel7 (by (first | assumption | exact SV.below (by assumption) (bdr _))); rintro e wN ⟨rfl, hbN⟩; (first | have QA := Lib.hid (QA.out.below hbN) | have QA := Lib.hid ((QA.out.below (bdr _)).below hbN) | skip); (first | have QB := Lib.hid (QB.out.below hbN) | have QB := Lib.hid ((QB.out.below (bdr _)).below hbN) | skip); (first | have PA := Lib.hid (PA.out.below hbN) | have PA := Lib.hid ((PA.out.below (bdr _)).below hbN) | skip); (first | have PB := Lib.hid (PB.out.below hbN) | have PB := Lib.hid ((PB.out.below (bdr _)).below hbN) | skip); have hSN := SV.below (by (first | assumption | exact SV.below (by assumption) (bdr _))) hbN)
    | (go_at_call 10; refine (requal_plain (lst l0 T1) _ _ _ ?_ ?_).mono ?_; (first | exact QA.out | exact QA.out.below (bdr _)); (first | exact QB.out | exact QB.out.below (bdr _)); rintro e wN ⟨rfl, hbN⟩; (first | have QA := Lib.hid (QA.out.below hbN) | have QA := Lib.hid ((QA.out.below (bdr _)).below hbN) | skip); (first | have QB := Lib.hid (QB.out.below hbN) | have QB := Lib.hid ((QB.out.below (bdr _)).below hbN) | skip); (first | have PA := Lib.hid (PA.out.below hbN) | have PA := Lib.hid ((PA.out.below (bdr _)).below hbN) | skip); (first | have PB := Lib.hid (PB.out.below hbN) | have PB := Lib.hid ((PB.out.below (bdr _)).below hbN) | skip); have hSN := SV.below (by (first | assumption | exact SV.below (by assumption) (bdr _))) hbN; have QD : True := trivial; clear QA QB)
    | (go_at_call 10; refine (requal_app T2 l3 _ _ _ ?_ ?_).mono ?_; (first | exact PA.out | exact PA.out.below (bdr _)); (first | exact PB.out | exact PB.out.below (bdr _)); rintro e wN ⟨rfl, hbN⟩; (first | have QA := Lib.hid (QA.out.below hbN) | have QA := Lib.hid ((QA.out.below (bdr _)).below hbN) | skip); (first | have QB := Lib.hid (QB.out.below hbN) | have QB := Lib.hid ((QB.out.below (bdr _)).below hbN) | skip); (first | have PA := Lib.hid (PA.out.below hbN) | have PA := Lib.hid ((PA.out.below (bdr _)).below hbN) | skip); (first | have PB := Lib.hid (PB.out.below hbN) | have PB := Lib.hid ((PB.out.below (bdr _)).below hbN) | skip); have hSN := SV.below (by (first | assumption | exact SV.below (by assumption) (bdr _))) hbN)
    | (go_at_call 7; refine (awake_any _).mono ?_; rintro e wN ⟨rfl, hbN⟩; have hSN := SV.below (by (first | assumption | exact SV.below (by assumption) (bdr _))) hbN))
  all_goals go_wp2_with fail
  all_goals go_ret
  all_goals exact ⟨rfl, (by assumption : SV w w6 #[.int .i64 k, .string n, .int .i64 i, .int .u64 re, .int .u64 im, .slice a1 tl.length c1] #[.int .i64 k', .string n', .int .i64 i', .int .u64 re', .int .u64 im', .slice a2 tl'.length c2] _).1⟩
set_option maxRecDepth 100000 in
theorem lifted (os : Os) (started : os.Started) (H : Type) (enc : TypeId × Value → H) :
    ReturnsInHanded {} Try.checked os 3 .any (Rows.termListsSpec.pre6 enc Try.prog Try.f3 Rows.termListsRow.domain false) (Rows.termListsSpec.post enc Try.prog Try.f3 false true false false) := by
  refine returnsInHanded_of_change_sized (C := Try.checked) own started (by kernel_rfl) Try.func3
    (ChangeSpec.witness6 (enc := enc) (C := Try.checked) false ⟨#[], #[.slice none 0 0, .agg #[.int .i64 0, .string ⟨#[]⟩, .int .i64 0, .int .u64 0, .int .u64 0, .slice none 0 0], .agg #[.int .i64 0, .string ⟨#[]⟩, .int .i64 0, .int .u64 0, .int .u64 0, .slice none 0 0], .slice none 0 0], []⟩ 8 (by kernel_rfl) (by kernel_rfl) (by kernel_rfl) (by kernel_rfl)) ?_
  intro W base args ds gs before hval0 hW _ hsz0 _
  have hsz : (DataW.weightsEach Try.prog (Try.f3.params.toList ++ Rows.termListsSpec.plain.varTypes Try.prog) (ds ++ gs)).all (· ≤ reachBytes) = true := hsz0
  clear hsz0
  have hval : ∀ (j : Nat) t v, Try.f3.params[j]? = some t → args[j]? = some v → Value.okWide Try.prog W .any base t v := hval0
  have hW' := hW
  obtain ⟨p, q, hA0, hV, rfl, hfz, hnd⟩ := hW
  have hA : DataW.TrodAll enc Try.prog W 0 (fun _ => true) true Try.f3.params.toList args.toList ds p := hA0
  rw [Try.params3] at hA hval hsz
  obtain ⟨v0, vs0, d0, ds0, p0, q0, hargs, rfl, rfl, h0, r0⟩ := trodAll_cons hA
  obtain ⟨v1, vs1, d1, ds1, p1, q1, rfl, rfl, rfl, h1, r1⟩ := trodAll_cons r0
  obtain ⟨v2, vs2, d2, ds2, p2, q2, rfl, rfl, rfl, h2, r2⟩ := trodAll_cons r1
  obtain ⟨v3, vs3, d3, ds3, p3, q3, rfl, rfl, rfl, h3, r3⟩ := trodAll_cons r2
  obtain ⟨rfl, rfl, rfl⟩ := trodAll_nil r3
  obtain rfl : args = #[v0, v1, v2, v3] := by cases args; simp_all
  obtain ⟨rfl, rfl⟩ := trodVars_none hV
  simp only [List.append_nil] at hW'
  have lt0 : ∀ x ∈ p0, x.block < W.heap.size := fun x hx => by
    have := hW'.lt x (by simp [hx])
    simpa using this
  have k0 := h0
  have lt1 : ∀ x ∈ p1, x.block < W.heap.size := fun x hx => by
    have := hW'.lt x (by simp [hx])
    simpa using this
  have k1 := h1
  have lt2 : ∀ x ∈ p2, x.block < W.heap.size := fun x hx => by
    have := hW'.lt x (by simp [hx])
    simpa using this
  have k2 := h2
  have lt3 : ∀ x ∈ p3, x.block < W.heap.size := fun x hx => by
    have := hW'.lt x (by simp [hx])
    simpa using this
  have k3 := h3
  obtain ⟨a0, n0, c0, rfl⟩ := okWide_slice Try.underlying22 (hval 0 22 v0 rfl rfl)
  obtain ⟨l0, g0, x0, m0, y0, z0⟩ := slice_arg h0 (fun x y e => sized_slice hsz (j := 0) (t := 22) (e := 25) rfl (by rw [← e]; rfl) Try.underlying22)
  obtain ⟨t1, x1⟩ := term_arg (by obtain ⟨cs, hcs, _⟩ := okWide_struct Try.underlying25 (hval 1 25 v1 rfl rfl); exact ⟨cs, hcs⟩) h1
  obtain ⟨t2, x2⟩ := term_arg (by obtain ⟨cs, hcs, _⟩ := okWide_struct Try.underlying25 (hval 2 25 v2 rfl rfl); exact ⟨cs, hcs⟩) h2
  obtain ⟨a3, n3, c3, rfl⟩ := okWide_slice Try.underlying22 (hval 3 22 v3 rfl rfl)
  obtain ⟨l3, g3, x3, m3, y3, z3⟩ := slice_arg h3 (fun x y e => sized_slice hsz (j := 3) (t := 22) (e := 25) rfl (by rw [← e]; rfl) Try.underlying22)
  clear hA0 hval0
  refine (walk W a0 n0 c0 l0 g0 x0 m0 y0 z0 v1 t1 x1 v2 t2 x2 a3 n3 c3 l3 g3 x3 m3 y3 z3).mono fun e W' ⟨he, hg⟩ => ?_
  subst he
  have ha := (trodAll_cons_mk (Below.trod laidOut (by kernel_rfl) (of_decide_eq_true (by kernel_rfl)) k0 hg lt0) (trodAll_cons_mk (Below.trod laidOut (by kernel_rfl) (of_decide_eq_true (by kernel_rfl)) k1 hg lt1) (trodAll_cons_mk (Below.trod laidOut (by kernel_rfl) (of_decide_eq_true (by kernel_rfl)) k2 hg lt2) (trodAll_cons_mk (Below.trod laidOut (by kernel_rfl) (of_decide_eq_true (by kernel_rfl)) k3 hg lt3) trodAll_mk0))))
  refine ⟨_, rfl, _, _, _, [], _, [], hW', ?_, ha, rfl, hg.frame _, fun h => by cases h⟩
  exact (trodAll_cons_mk (shut_bool Try.underlying4 _) trodAll_mk0)
/-- THE STATEMENT. -/
theorem proved : Rows.TermListsSaid :=
  OpenClaim.holds_of_wide 3 Try.f3 rfl rfl rfl rfl rfl rfl rfl ⟨rfl, rfl, rfl, rfl, rfl⟩ rfl rfl rfl rfl rfl (by kernel_rfl) Try.func3 (by kernel_rfl)
    (of_decide_eq_true (by kernel_rfl)) (by unfold Func.isWrapper; first | (rw [if_pos (by decide +kernel)]; kernel_rfl) | (rw [if_neg (by decide +kernel)]; exact ⟨rfl, rfl⟩))
    (fun os started H enc _ => lifted os started H enc)
#print axioms proved
end Go.Proofs.Ytjgkgceigbimoaa.termLists
