/- The law TermDeep holds: for every input its Go function returns true and leaves its arguments as they were. No condition beyond the row's own. -/
import Derived.Test.YtigmpjjcbaefcaaRows
import Derived.WalkKit
import Derived.ProofKit
import Derived.OpenShut
import Derived.SizedLaws
import Derived.Test.YtigmpjjcbaefcaaTOpen
import Derived.Test.YtigmpjjcbaefcaaTg
import Derived.Test.YtigmpjjcbaefcaaRMay
import Derived.Test.YtigmpjjcbaefcaaOwn6
import Derived.Deep.RegionWith
import Derived.Deep.RegionHeld3
namespace Go.Proofs.Ytigmpjjcbaefcaa.termDeep
open Go.ChangeShapes Go.WideShapes Go.ChangeAt Go.RowKit
open Go.ChangeMaps (open_string)
open Go.Proofs.Ytigmpjjcbaefcaa.tm Go.Proofs.Ytigmpjjcbaefcaa.lie Go.Proofs.Ytigmpjjcbaefcaa.kp Go.Proofs.Ytigmpjjcbaefcaa.top
set_option linter.unusedVariables false
theorem own : ownKnob Try.prog.godebug = none := by kernel_rfl
theorem laidOut : laidOutB Try.prog = true := by kernel_rfl
open Go.Proofs.Ytigmpjjcbaefcaa.tm Go.Proofs.Ytigmpjjcbaefcaa.lie Go.Proofs.Ytigmpjjcbaefcaa.kp Go.Proofs.Ytigmpjjcbaefcaa.mes Go.Proofs.Ytigmpjjcbaefcaa.vrs Go.Proofs.Ytigmpjjcbaefcaa.awk Go.Proofs.Ytigmpjjcbaefcaa.cur Go.Proofs.Ytigmpjjcbaefcaa.rws Go.Proofs.Ytigmpjjcbaefcaa.rmy Go.Proofs.Ytigmpjjcbaefcaa.ow6 Go.Proofs.Ytigmpjjcbaefcaa.rnd Go.Proofs.Ytigmpjjcbaefcaa.pln
set_option maxHeartbeats 4000000
set_option maxRecDepth 100000
theorem u64_nonneg (a : Int) : 0 ≤ IntKind.u64.wrap a := by
  simp only [IntKind.wrap, IntKind.signed, IntKind.bits]
  simp
  omega
theorem part (a k : Int) (hk : 0 < k) (hk9 : k ≤ 5) : ∃ m : Nat, (m : Int) < k ∧ wrap64 ((IntKind.u64.wrap a).tmod k) = (m : Int) := by
  have u := u64_nonneg a
  refine ⟨(IntKind.u64.wrap a % k).toNat, by have := Int.emod_lt_of_pos (IntKind.u64.wrap a) hk; have := Int.emod_nonneg (IntKind.u64.wrap a) (by omega : k ≠ 0); omega, ?_⟩
  rw [Int.tmod_eq_emod_of_nonneg u]
  have h1 := Int.emod_lt_of_pos (IntKind.u64.wrap a) hk
  have h2 := Int.emod_nonneg (IntKind.u64.wrap a) (by omega : k ≠ 0)
  generalize IntKind.u64.wrap a % k = r at h1 h2
  rw [IntWalk.wrap64_in r ⟨by omega, by omega⟩]
  omega
abbrev F : ByteArray := ⟨#[102]⟩
abbrev NA : ByteArray := ⟨#[97]⟩
def chain : Nat → Tm
  | 0 => atom NA
  | k + 1 => comp F [chain k]
theorem chain_facts : ∀ k, size (chain k) = k + 1 ∧ height (chain k) = k + 1 ∧ sound (chain k) = true
  | 0 => ⟨rfl, rfl, rfl⟩
  | k + 1 => by
    obtain ⟨h1, h2, h3⟩ := chain_facts k
    have e1 : size (chain (k + 1)) = 1 + (size (chain k) + 0) := rfl
    have e2 : height (chain (k + 1)) = 1 + max (height (chain k)) 0 := rfl
    have e3 : sound (chain (k + 1)) = (true && (sound (chain k) && true)) := rfl
    refine ⟨by omega, by rw [e2, h2]; omega, by rw [e3, h3]; rfl⟩
theorem chain_good (k : Nat) (hk : k ≤ 1000) : good (chain k) = decide (k + 1 ≤ 500) := by
  obtain ⟨h1, h2, h3⟩ := chain_facts k
  rw [good, h1, h2, h3, Bool.and_true, decide_eq_true (by omega : k + 1 ≤ 2000), Bool.true_and]
theorem row1 {X : Nat → Prop} {w : World} {t : Tm} {v0 v1 v2 v3 v4 v5 : Value} (h : Lies X w t (.agg #[v0, v1, v2, v3, v4, v5])) (hX : ¬ X w.heap.size) : TRow X (w.alloc (.cells #[v0, v1, v2, v3, v4, v5] 25)) [t] (some ⟨w.heap.size, 0, none⟩) 0 := by
  rw [TRow]
  refine ⟨⟨w.heap.size, 0, v0, v1, v2, v3, v4, v5, rfl, hX, ?_, h.below (ba w _)⟩, by rw [TRow]; trivial⟩
  exact Go.Proofs.Ytigmpjjcbaefcaa.wlk.six_alloc w v0 v1 v2 v3 v4 v5 25
/-- a compound of one argument is stored where the argument was -/
theorem wrap_step {w0 wr w2 : World} {b : Nat} {t : Tm} {kq : Int} {nq : ByteArray} {iq rq mq : Int} {aq : Option Addr} {lq cq : Nat} (hblk : wr.heap[b]? = some (NV kq nq iq rq mq aq lq cq)) (hL : Lies (fun q => q = b) wr t (.agg #[.int .i64 kq, .string nq, .int .i64 iq, .int .u64 rq, .int .u64 mq, .slice aq lq cq])) (hb : Below w0.heap.size w0 wr) (hB : w0.heap.size ≤ b)
    (hb2 : Below (wr.alloc (NV kq nq iq rq mq aq lq cq)).heap.size (wr.alloc (NV kq nq iq rq mq aq lq cq)) w2) : ∃ W, ((((((w2.setCell ⟨b, 0, none⟩ (.int .i64 5)).setCell ⟨b, 1, none⟩ (.string F)).setCell ⟨b, 2, none⟩ (.int .i64 0)).setCell ⟨b, 3, none⟩ (.int .u64 0)).setCell ⟨b, 4, none⟩ (.int .u64 0)).setCell ⟨b, 5, none⟩ (.slice (some ⟨wr.heap.size, 0, none⟩) 1 1)) = W ∧
      W.heap[b]? = some (NV 5 F 0 0 0 (some ⟨wr.heap.size, 0, none⟩) 1 1) ∧ Lies (fun q => q = b) W (comp F [t]) (.agg #[.int .i64 5, .string F, .int .i64 0, .int .u64 0, .int .u64 0, .slice (some ⟨wr.heap.size, 0, none⟩) 1 1]) ∧ Below w0.heap.size w0 W := by
  have hbl := (Array.getElem?_eq_some_iff.1 hblk).1
  have hs2 := hb2.size
  rw [alloc_size] at hs2
  have h2 : w2.heap[b]? = some (NV kq nq iq rq mq aq lq cq) := (hb2.block b (by rw [alloc_size]; omega)).trans (((ba wr _).block b hbl).trans hblk)
  have hrow := (row1 hL (by omega)).below hb2
  have hcl := comp_lies (n := F) (c := 1) (show (1 : Nat) ≤ 9223372036854775807 by omega) (by simp) (by simp [maxLen]) hrow
  have k6 := Go.Proofs.Ytigmpjjcbaefcaa.wlk.keep_set6 w2 b (.int .i64 5) (.string F) (.int .i64 0) (.int .u64 0) (.int .u64 0) (.slice (some ⟨wr.heap.size, 0, none⟩) 1 1)
  have e := fun (w : World) (i : Nat) (cs : Array Value) (v : Value) (hg : w.heap[b]? = some (.cells cs 25 (0, 0))) => heap_setCell_same w b i cs 25 v hg
  have hh := e _ 5 _ (.slice (some ⟨wr.heap.size, 0, none⟩) 1 1) (e _ 4 _ (.int .u64 0) (e _ 3 _ (.int .u64 0) (e _ 2 _ (.int .i64 0) (e _ 1 _ (.string F) (e w2 0 _ (.int .i64 5) h2)))))
  refine ⟨_, rfl, by simpa using hh, Lies.keep k6 (fun _ _ => id) _ _ hcl, (hb.trans ((bt (ba wr _) hb2).mono hb.size)).trans (k6.to_below (fun i h => by subst h; exact hB) (by have := hb.size; omega))⟩
theorem mayOk {t : Tm} {v : Value} {w : World} (hg : good t = true) (ht : Lies No w t v) : Calls Try.prog 23 #[v] w fun e w' => e = .returned (.int .i64 0) ∧ Below w.heap.size w w' := by
  have := may_any t v w ht
  rwa [may_good hg] at this
theorem rMayOk {t : Tm} {v : Value} {w : World} (hg : good t = true) (ht : Lies No w t v) : Calls Try.prog 24 #[v] w fun e w' => e = .returned (.int .i64 0) ∧ Below w.heap.size w w' := by
  have := rMay_any t v w ht
  rwa [may_good hg] at this
theorem mayE {t : Tm} {v : Value} {w : World} {e0 : Int} (he : may t = e0) (ht : Lies No w t v) : Calls Try.prog 23 #[v] w fun e w' => e = .returned (.int .i64 e0) ∧ Below w.heap.size w w' := by
  have := may_any t v w ht
  rwa [he] at this
theorem rMayE {t : Tm} {v : Value} {w : World} {e0 : Int} (he : may t = e0) (ht : Lies No w t v) : Calls Try.prog 24 #[v] w fun e w' => e = .returned (.int .i64 e0) ∧ Below w.heap.size w w' := by
  have := rMay_any t v w ht
  rwa [he] at this
def Rel2 (w : World) (b N g : Nat) (s9 s97 : Value) (wr : World) : Prop :=
  ∃ k : Nat, k ≤ N ∧ g = N - k ∧ s97 = .int .i64 k ∧ TOwn (b + 1) (List.replicate k (atom NA)) s9 wr ∧ wr.heap[b]? = some (NV 2 NA 0 0 0 none 0 0) ∧ Below w.heap.size w wr
theorem flat_good (k : Nat) (hk : 0 < k) (hk9 : k ≤ 100) : good (comp F (List.replicate k (atom NA))) = decide (k ≤ 20) := by
  have hs : sizeL (List.replicate k (atom NA)) = k := by
    rw [sizeL_sum, List.map_replicate, List.sum_replicate_nat]; simp [atom, size]
  have hh : heightL (List.replicate k (atom NA)) ≤ 1 := heightL_le.2 fun x hx => by
    have := List.eq_of_mem_replicate hx
    subst this; simp [atom, height]
  have hsd : soundL (List.replicate k (atom NA)) = true := by
    rw [soundL_all, List.all_eq_true]
    intro x hx
    have := List.eq_of_mem_replicate hx
    subst this; rfl
  have e1 : size (comp F (List.replicate k (atom NA))) = 1 + sizeL (List.replicate k (atom NA)) := rfl
  have e2 : height (comp F (List.replicate k (atom NA))) = 1 + heightL (List.replicate k (atom NA)) := rfl
  have e3 : sound (comp F (List.replicate k (atom NA))) = (decide (chk (comp F (List.replicate k (atom NA))) = 0) && soundL (List.replicate k (atom NA))) := rfl
  have e4 : chk (comp F (List.replicate k (atom NA))) = if k ≤ 20 then 0 else 3 := by
    simp only [comp, chk]
    rw [if_neg (by decide), if_neg (by decide), if_neg (by decide), if_neg (by decide), if_pos trivial, List.length_replicate, if_neg (by omega)]
    by_cases h : k ≤ 20
    · rw [if_neg (by omega), if_neg (by decide), if_pos h]
    · rw [if_pos (by omega), if_neg h]
  rw [good, e1, e2, e3, e4, hs, hsd, Bool.and_true, decide_eq_true (by omega : 1 + k ≤ 2000), decide_eq_true (by omega : 1 + heightL (List.replicate k (atom NA)) ≤ 500), Bool.true_and, Bool.true_and]
  by_cases h : k ≤ 20 <;> simp [h]
/-- the term so far, in its block -/
def Rel1 (w : World) (b N g : Nat) (s24 : Value) (wr : World) : Prop :=
  ∃ (k : Nat) (kq : Int) (nq : ByteArray) (iq rq mq : Int) (aq : Option Addr) (lq cq : Nat), k ≤ N ∧ g = N - k ∧ s24 = .int .i64 k ∧ wr.heap[b]? = some (NV kq nq iq rq mq aq lq cq) ∧ Lies (fun q => q = b) wr (chain k) (.agg #[.int .i64 kq, .string nq, .int .i64 iq, .int .u64 rq, .int .u64 mq, .slice aq lq cq]) ∧ Below w.heap.size w wr
theorem deep0 (w : World) (a0 a1 : Int) (m : Nat) (hE : wrap64 ((IntKind.u64.wrap a0).tmod 5) = (m : Int)) (hZ : wrap64 ((IntKind.u64.wrap a1).tmod 3) = ((0 : Nat) : Int)) (hm5 : m < 5) :
    Calls Try.prog 4 #[.int .i64 a0, .int .i64 a1] w fun e w' => e = .returned (.bool true) ∧ Below w.heap.size w w' := by
  go_enter Try.func4, Try.ntmps4
  go_wp2_with fail
  refine (rAtom_any _ _).mono ?_
  rintro e w1 ⟨rfl, hb1⟩
  have HB1 := Lib.hid hb1
  clear hb1
  go_wp2_with fail
  clear hE hZ
  go_loopg [24] (497 + m) (Rel1 w w1.heap.size (497 + m))
  case atStart =>
    exact ⟨0, _, _, _, _, _, _, _, _, by omega, by omega, rfl, alloc_at _ _, atom_lies _ _ _ (show (1 : Nat) ≤ 9223372036854775807 by omega), bt HB1.out (ba w1 _)⟩
  case round =>
    obtain ⟨k, kq, nq, iq, rq, mq, aq, lq, cq, hk, rfl, rfl, hblk, hL, hb⟩ := hrel
    obtain ⟨⟨e0, e1, e2, e3, e4, e5⟩, _⟩ := blk_facts hblk
    by_cases hlt : k < 497 + m
    · have HX := Lib.hid (And.intro hblk (And.intro hL hb))
      clear hblk hL hb hk
      go_wp2_with fail
      refine (rComp_any _ _ _ _ _).mono ?_
      rintro e w2 ⟨rfl, hb2⟩
      have hws := wrap_step HX.out.1 HX.out.2.1 HX.out.2.2 (by have := HB1.out.size; omega) hb2
      have HW := Lib.hid hws
      have hbl := (Array.getElem?_eq_some_iff.1 HX.out.1).1
      obtain ⟨_, f0, f1, f2, f3, f4, f5⟩ := blk_facts ((hb2.block w1.heap.size (by rw [alloc_size]; omega)).trans (((ba wr _).block _ hbl).trans HX.out.1))
      obtain ⟨⟨g0, g1, g2, g3, g4, g5⟩, _⟩ := blk_facts ((hb2.block w1.heap.size (by rw [alloc_size]; omega)).trans (((ba wr _).block _ hbl).trans HX.out.1))
      clear hws hb2 hbl e0 e1 e2 e3 e4 e5
      go_wp2_with fail
      obtain ⟨W, hW, hblkW, hLW, hbW⟩ := HW.out
      rw [hW]
      go_roundg (497 + m - (k + 1))
      case measure => omega
      case rel => exact ⟨k + 1, _, _, _, _, _, _, _, _, hlt, rfl, by go_num, hblkW, hLW, hbW⟩
    · have hkv : k = 497 + m := by omega
      subst hkv
      have hcg := chain_good (497 + m) (by omega)
      have HX := Lib.hid (And.intro hblk (And.intro (hL.off (Y := No) fun _ _ h => h.elim) (And.intro hb hcg)))
      clear hblk hL hb hcg hk
      by_cases hm2 : m ≤ 2
      · have hg : good (chain (497 + m)) = true := by rw [HX.out.2.2.2]; simp; omega
        have hd : decide ((m : Int) ≤ 2) = true := by simp; omega
        have HG := Lib.hid hg
        clear hg
        have LL := Lib.hid (And.intro (HX.out.2.1.below (bdr wr)) (And.intro HX.out.1 (HX.out.2.2.1.trans ((bdr wr).mono HX.out.2.2.1.size))))
        go_wp2_with fail
        go_region_with (first
          | (go_at_call 23; refine (mayOk HG.out LL.out.1).mono ?_; rintro e wN ⟨rfl, hbN⟩; have hbk := (hbN.block w1.heap.size (Array.getElem?_eq_some_iff.1 LL.out.2.1).1).trans LL.out.2.1; obtain ⟨⟨e0, e1, e2, e3, e4, e5⟩, _⟩ := blk_facts hbk; have LL := Lib.hid (And.intro (LL.out.1.below hbN) (And.intro hbk (LL.out.2.2.trans (hbN.mono LL.out.2.2.size)))); clear hbN hbk)
          | (go_at_call 24; refine (rMayOk HG.out LL.out.1).mono ?_; rintro e wN ⟨rfl, hbN⟩; have hbk := (hbN.block w1.heap.size (Array.getElem?_eq_some_iff.1 LL.out.2.1).1).trans LL.out.2.1; obtain ⟨⟨e0, e1, e2, e3, e4, e5⟩, _⟩ := blk_facts hbk; have LL := Lib.hid (And.intro (LL.out.1.below hbN) (And.intro hbk (LL.out.2.2.trans (hbN.mono LL.out.2.2.size)))); clear hbN hbk)
          | (go_at_call 12; refine (awake_any _).mono ?_; rintro e wN ⟨rfl, hbN⟩; have LL := Lib.hid (And.intro (LL.out.1.below hbN) (And.intro LL.out.2.1 (LL.out.2.2.trans (hbN.mono LL.out.2.2.size)))); clear hbN))
        all_goals go_wp2_with fail
        all_goals go_ret
        all_goals exact ⟨rfl, LL.out.2.2⟩
      · have hg : good (chain (497 + m)) = false := by rw [HX.out.2.2.2]; simp; omega
        have hd : decide ((m : Int) ≤ 2) = false := by simp; omega
        have hz := may_nogood hg
        obtain ⟨e0, he⟩ : ∃ e0, may (chain (497 + m)) = e0 := ⟨_, rfl⟩
        have h0 : (e0 == 0) = false := by rw [beq_eq_false_iff_ne]; omega
        have HE := Lib.hid he
        clear hg hz he
        have LL := Lib.hid (And.intro (HX.out.2.1.below (bdr wr)) (And.intro HX.out.1 (HX.out.2.2.1.trans ((bdr wr).mono HX.out.2.2.1.size))))
        go_wp2_with fail
        go_region_with (first
          | (go_at_call 23; refine (mayE HE.out LL.out.1).mono ?_; rintro e wN ⟨rfl, hbN⟩; have hbk := (hbN.block w1.heap.size (Array.getElem?_eq_some_iff.1 LL.out.2.1).1).trans LL.out.2.1; obtain ⟨⟨e00, e1, e2, e3, e4, e5⟩, _⟩ := blk_facts hbk; have LL := Lib.hid (And.intro (LL.out.1.below hbN) (And.intro hbk (LL.out.2.2.trans (hbN.mono LL.out.2.2.size)))); clear hbN hbk)
          | (go_at_call 24; refine (rMayE HE.out LL.out.1).mono ?_; rintro e wN ⟨rfl, hbN⟩; have hbk := (hbN.block w1.heap.size (Array.getElem?_eq_some_iff.1 LL.out.2.1).1).trans LL.out.2.1; obtain ⟨⟨e00, e1, e2, e3, e4, e5⟩, _⟩ := blk_facts hbk; have LL := Lib.hid (And.intro (LL.out.1.below hbN) (And.intro hbk (LL.out.2.2.trans (hbN.mono LL.out.2.2.size)))); clear hbN hbk)
          | (go_at_call 12; refine (awake_any _).mono ?_; rintro e wN ⟨rfl, hbN⟩; have LL := Lib.hid (And.intro (LL.out.1.below hbN) (And.intro LL.out.2.1 (LL.out.2.2.trans (hbN.mono LL.out.2.2.size)))); clear hbN))
        all_goals go_wp2_with fail
        all_goals go_ret
        all_goals exact ⟨rfl, LL.out.2.2⟩
abbrev GB : ByteArray := ⟨#[103]⟩
abbrev HB : ByteArray := ⟨#[104]⟩
def G4 : Tm := comp GB [atom NA, atom NA, atom NA, atom NA]
def H20 : Tm := comp HB (List.replicate 20 G4)
/-- the slice v owns these terms; what they hold lies off its own block and off all old memory -/
structure POwn (B : Nat) (l : List Tm) (v : Value) (w : World) : Prop where
  ex : ∃ xs, w.ownsRow B 25 6 v l.length xs ∧ ∀ (m : Nat) (hm : m < l.length), ∃ v0 v1 v2 v3 v4 v5, xs[m * 6]? = some v0 ∧ xs[m * 6 + 1]? = some v1 ∧ xs[m * 6 + 2]? = some v2 ∧ xs[m * 6 + 3]? = some v3 ∧ xs[m * 6 + 4]? = some v4 ∧ xs[m * 6 + 5]? = some v5 ∧
    Lies (fun k => k < B ∨ v.ownBlock = some k) w l[m] (.agg #[v0, v1, v2, v3, v4, v5])
theorem POwn.nil (B : Nat) (w : World) : POwn B [] (.slice none 0 0) w := ⟨⟨[], World.ownsRow_nil _ _ _ _, fun m hm => by simp at hm⟩⟩
theorem POwn.below {B : Nat} {l : List Tm} {v : Value} {w w' : World} (h : POwn B l v w) (hb : Below w.heap.size w w') : POwn B l v w' := by
  obtain ⟨xs, ho, hx⟩ := h.ex
  refine ⟨xs, row6_keep ho fun k e => hb.block k (ho.lt k e).2, fun m hm => ?_⟩
  obtain ⟨v0, v1, v2, v3, v4, v5, h0, h1, h2, h3, h4, h5, ht⟩ := hx m hm
  exact ⟨v0, v1, v2, v3, v4, v5, h0, h1, h2, h3, h4, h5, ht.below hb⟩
theorem POwn.row {B : Nat} {l : List Tm} {v : Value} {w : World} (h : POwn B l v w) : ∃ a c, v = .slice a l.length c ∧ l.length ≤ c ∧ c ≤ maxLen ∧ TRow (fun q => q < B) w l a 0 := by
  obtain ⟨xs, ho, hx⟩ := h.ex
  have hlt := ho.lt
  rcases ho.2 with ⟨rfl, h0⟩ | ⟨g, cap, cur, rfl, hg0, hgc, h1, h2, h3, h4⟩
  · have : l = [] := List.eq_nil_of_length_eq_zero h0
    subst this
    exact ⟨none, 0, rfl, by simp, by simp [maxLen], by rw [TRow]; trivial⟩
  · refine ⟨_, cap, rfl, h1, h2, TRow.mk l 0 fun m hm => ?_⟩
    obtain ⟨v0, v1, v2, v3, v4, v5, e0, e1, e2, e3, e4, e5, ht⟩ := hx m hm
    have e : ∀ j x, xs[j]? = some x → w.cell? ⟨g, j, none⟩ = some x := fun j x hj => by
      rw [← h4, List.getElem?_take] at hj
      split at hj
      · simp [World.cell?, hgc]; simpa using hj
      · cases hj
    have hgB := (hlt g rfl).1
    refine ⟨g, 0, v0, v1, v2, v3, v4, v5, rfl, (by omega : ¬ g < B), ?_, ht.off fun _ _ h => Or.inl h⟩
    simp only [Nat.zero_add]
    exact ⟨e _ _ e0, e _ _ e1, e _ _ e2, e _ _ e3, e _ _ e4, e _ _ e5⟩
theorem POwn.add {B g' c' : Nat} {l : List Tm} {t : Tm} {v : Value} {w w4 : World} {o : Obj} {v0 v1 v2 v3 v4 v5 : Value} {xs : List Value} (hx : ∀ (m : Nat) (hm : m < l.length), ∃ v0 v1 v2 v3 v4 v5, xs[m * 6]? = some v0 ∧ xs[m * 6 + 1]? = some v1 ∧ xs[m * 6 + 2]? = some v2 ∧ xs[m * 6 + 3]? = some v3 ∧ xs[m * 6 + 4]? = some v4 ∧ xs[m * 6 + 5]? = some v5 ∧
    Lies (fun k => k < B ∨ v.ownBlock = some k) w l[m] (.agg #[v0, v1, v2, v3, v4, v5])) (ho : w.ownsRow B 25 6 v l.length xs)
    (ht : Lies (fun k => k < B ∨ v.ownBlock = some k) w t (.agg #[v0, v1, v2, v3, v4, v5])) (ho4 : w4.ownsRow B 25 6 (.slice (some ⟨g', 0, none⟩) (l.length + 1) c') (l.length + 1) (xs ++ [v0, v1, v2, v3, v4, v5]))
    (hg4 : (w.alloc o).grownBy w4 v.ownBlock) (ha : v.ownBlock = some g' ∨ w.heap.size ≤ g') : POwn B (l ++ [t]) (.slice (some ⟨g', 0, none⟩) (l ++ [t]).length c') w4 ∧ Keep (fun k => v.ownBlock = some k) w w4 := by
  have hk0 : Keep (fun k => v.ownBlock = some k) w w4 := (Keep.of_below (F := fun k => v.ownBlock = some k) (ba w o)).trans (Keep.of_grown (F := fun k => v.ownBlock = some k) hg4 fun k e => e) fun _ => Or.inl
  have hk : Keep (fun k => k < B ∨ v.ownBlock = some k) w w4 := hk0.mono fun _ => Or.inr
  have hsub : ∀ b, b < w.heap.size → (b < B ∨ (Value.slice (some ⟨g', 0, none⟩) (l ++ [t]).length c').ownBlock = some b) → (b < B ∨ v.ownBlock = some b) := fun b hb e => by
    rcases e with e | e
    · exact Or.inl e
    simp only [Value.ownBlock, Option.some.injEq] at e
    subst e
    exact Or.inr (ha.elim id fun h => by omega)
  have hxl := ho.1
  refine ⟨⟨xs ++ [v0, v1, v2, v3, v4, v5], by simpa using ho4, fun m hm => ?_⟩, hk0⟩
  simp only [List.length_append, List.length_singleton] at hm
  by_cases hml : m < l.length
  · obtain ⟨u0, u1, u2, u3, u4, u5, h0, h1, h2, h3, h4, h5, hl⟩ := hx m hml
    have e : ∀ j x, xs[j]? = some x → (xs ++ [v0, v1, v2, v3, v4, v5])[j]? = some x := fun j x hj => by
      rw [List.getElem?_append_left (List.getElem?_eq_some_iff.1 hj).1]; exact hj
    rw [List.getElem_append_left hml]
    exact ⟨u0, u1, u2, u3, u4, u5, e _ _ h0, e _ _ h1, e _ _ h2, e _ _ h3, e _ _ h4, e _ _ h5, Lies.keep hk hsub _ _ hl⟩
  · have hm' : m = l.length := by omega
    subst hm'
    have e : ∀ j, (xs ++ [v0, v1, v2, v3, v4, v5])[l.length * 6 + j]? = [v0, v1, v2, v3, v4, v5][j]? := fun j => by
      rw [List.getElem?_append_right (by omega)]; congr 1; omega
    have ht' := Lies.keep hk hsub _ _ ht
    refine ⟨v0, v1, v2, v3, v4, v5, e 0, e 1, e 2, e 3, e 4, e 5, ?_⟩
    simpa using ht'
theorem row4 (X : Nat → Prop) (w : World) (hX : ¬ X w.heap.size) : TRow X (w.alloc (.cells #[.int .i64 2, .string NA, .int .i64 0, .int .u64 0, .int .u64 0, .slice none 0 0, .int .i64 2, .string NA, .int .i64 0, .int .u64 0, .int .u64 0, .slice none 0 0, .int .i64 2, .string NA, .int .i64 0, .int .u64 0, .int .u64 0, .slice none 0 0, .int .i64 2, .string NA, .int .i64 0, .int .u64 0, .int .u64 0, .slice none 0 0] 25)) [atom NA, atom NA, atom NA, atom NA] (some ⟨w.heap.size, 0, none⟩) 0 := by
  have hl := fun w => atom_lies X NA w (show (1 : Nat) ≤ 9223372036854775807 by omega)
  refine TRow.mk _ 0 fun m hm => ⟨w.heap.size, 0, .int .i64 2, .string NA, .int .i64 0, .int .u64 0, .int .u64 0, .slice none 0 0, rfl, hX, ?_, ?_⟩
  · have hm4 : m = 0 ∨ m = 1 ∨ m = 2 ∨ m = 3 := by simp at hm; omega
    rcases hm4 with rfl | rfl | rfl | rfl <;> refine ⟨?_, ?_, ?_, ?_, ?_, ?_⟩ <;> exact alloc_cell w _ _ 25 _ _ rfl rfl
  · have hm4 : m = 0 ∨ m = 1 ∨ m = 2 ∨ m = 3 := by simp at hm; omega
    rcases hm4 with rfl | rfl | rfl | rfl <;> exact hl _
theorem nodesE {t : Tm} {v : Value} {w : World} {e0 : Int} (he : nodes t = e0) (ht : Lies No w t v) : Calls Try.prog 25 #[v] w fun e w' => e = .returned (.int .i64 e0) ∧ Below w.heap.size w w' := by
  have := nodes_any t v w ht
  rwa [he] at this
def SU (w : World) (b : Nat) (t : Tm) (kq : Int) (nq : ByteArray) (iq rq mq : Int) (aq : Option Addr) (lq cq : Nat) (w' : World) : Prop :=
  Lies No w' t (.agg #[.int .i64 kq, .string nq, .int .i64 iq, .int .u64 rq, .int .u64 mq, .slice aq lq cq]) ∧ w'.heap[b]? = some (NV kq nq iq rq mq aq lq cq) ∧ Below w.heap.size w w'
theorem SU.below {w w' : World} {b : Nat} {t : Tm} {kq : Int} {nq : ByteArray} {iq rq mq : Int} {aq : Option Addr} {lq cq : Nat} {w2 : World} (h : SU w b t kq nq iq rq mq aq lq cq w') (hb : Below w'.heap.size w' w2) : SU w b t kq nq iq rq mq aq lq cq w2 :=
  ⟨h.1.below hb, (hb.block b (Array.getElem?_eq_some_iff.1 h.2.1).1).trans h.2.1, h.2.2.trans (hb.mono h.2.2.size)⟩
theorem SU.cells {w w' : World} {b : Nat} {t : Tm} {kq : Int} {nq : ByteArray} {iq rq mq : Int} {aq : Option Addr} {lq cq : Nat} (h : SU w b t kq nq iq rq mq aq lq cq w') :
    w'.cell? ⟨b, 0, none⟩ = some (.int .i64 kq) ∧ w'.cell? ⟨b, 1, none⟩ = some (.string nq) ∧ w'.cell? ⟨b, 2, none⟩ = some (.int .i64 iq) ∧ w'.cell? ⟨b, 3, none⟩ = some (.int .u64 rq) ∧ w'.cell? ⟨b, 4, none⟩ = some (.int .u64 mq) ∧ w'.cell? ⟨b, 5, none⟩ = some (.slice aq lq cq) ∧ SU w b t kq nq iq rq mq aq lq cq w' := by
  obtain ⟨⟨e0, e1, e2, e3, e4, e5⟩, _⟩ := blk_facts h.2.1
  exact ⟨e0, e1, e2, e3, e4, e5, h⟩
theorem mayES {w w' : World} {b : Nat} {t : Tm} {kq : Int} {nq : ByteArray} {iq rq mq : Int} {aq : Option Addr} {lq cq : Nat} {e0 : Int} (he : may t = e0) (h : SU w b t kq nq iq rq mq aq lq cq w') : Calls Try.prog 23 #[.agg #[.int .i64 kq, .string nq, .int .i64 iq, .int .u64 rq, .int .u64 mq, .slice aq lq cq]] w' fun e w2 => e = .returned (.int .i64 e0) ∧ SU w b t kq nq iq rq mq aq lq cq w2 :=
  (mayE he h.1).mono fun e w2 h2 => ⟨h2.1, h.below h2.2⟩
theorem rMayES {w w' : World} {b : Nat} {t : Tm} {kq : Int} {nq : ByteArray} {iq rq mq : Int} {aq : Option Addr} {lq cq : Nat} {e0 : Int} (he : may t = e0) (h : SU w b t kq nq iq rq mq aq lq cq w') : Calls Try.prog 24 #[.agg #[.int .i64 kq, .string nq, .int .i64 iq, .int .u64 rq, .int .u64 mq, .slice aq lq cq]] w' fun e w2 => e = .returned (.int .i64 e0) ∧ SU w b t kq nq iq rq mq aq lq cq w2 :=
  (rMayE he h.1).mono fun e w2 h2 => ⟨h2.1, h.below h2.2⟩
theorem nodesES {w w' : World} {b : Nat} {t : Tm} {kq : Int} {nq : ByteArray} {iq rq mq : Int} {aq : Option Addr} {lq cq : Nat} {e0 : Int} (he : nodes t = e0) (h : SU w b t kq nq iq rq mq aq lq cq w') : Calls Try.prog 25 #[.agg #[.int .i64 kq, .string nq, .int .i64 iq, .int .u64 rq, .int .u64 mq, .slice aq lq cq]] w' fun e w2 => e = .returned (.int .i64 e0) ∧ SU w b t kq nq iq rq mq aq lq cq w2 :=
  (nodesE he h.1).mono fun e w2 h2 => ⟨h2.1, h.below h2.2⟩
theorem awakeS {w w' : World} {b : Nat} {t : Tm} {kq : Int} {nq : ByteArray} {iq rq mq : Int} {aq : Option Addr} {lq cq : Nat} (h : SU w b t kq nq iq rq mq aq lq cq w') : Calls Try.prog 12 #[] w' fun e w2 => e = .returned (.bool true) ∧ SU w b t kq nq iq rq mq aq lq cq w2 :=
  (awake_any w').mono fun e w2 h2 => ⟨h2.1, h.below h2.2⟩
def RelO (w : World) (b g : Nat) (s6 s48 : Value) (wr : World) : Prop :=
  ∃ k : Nat, k ≤ 19 ∧ g = 19 - k ∧ s48 = .int .i64 k ∧ TOwn (b + 1) (List.replicate k H20) s6 wr ∧ wr.heap[b]? = some (NV 2 NA 0 0 0 none 0 0) ∧ Below w.heap.size w wr
def RelI (wo : World) (g : Nat) (s7 s50 : Value) (wr : World) : Prop :=
  ∃ k : Nat, k ≤ 20 ∧ g = 20 - k ∧ s50 = .int .i64 k ∧ POwn wo.heap.size (List.replicate k G4) s7 wr ∧ Below wo.heap.size wo wr
/-- the term built so far around u, in its block -/
def RelW (w : World) (b N g : Nat) (s72 : Value) (wr : World) : Prop :=
  ∃ (t : Tm) (k : Nat) (kq : Int) (nq : ByteArray) (iq rq mq : Int) (aq : Option Addr) (lq cq : Nat), k ≤ N ∧ g = N - k ∧ s72 = .int .i64 k ∧ wr.heap[b]? = some (NV kq nq iq rq mq aq lq cq) ∧ Lies (fun q => q = b) wr t (.agg #[.int .i64 kq, .string nq, .int .i64 iq, .int .u64 rq, .int .u64 mq, .slice aq lq cq]) ∧ Below w.heap.size w wr
theorem deep1 (w : World) (a0 a1 : Int) (m : Nat) (hE : wrap64 ((IntKind.u64.wrap a0).tmod 5) = (m : Int)) (hZ : wrap64 ((IntKind.u64.wrap a1).tmod 3) = ((1 : Nat) : Int)) (hm5 : m < 5) :
    Calls Try.prog 4 #[.int .i64 a0, .int .i64 a1] w fun e w' => e = .returned (.bool true) ∧ Below w.heap.size w w' := by
  go_enter Try.func4, Try.ntmps4
  go_wp2_with fail
  refine (rAtom_any _ _).mono ?_
  rintro e w1 ⟨rfl, hb1⟩
  have HB1 := Lib.hid hb1
  obtain ⟨ij, hi1, hi2, hi3, hi4⟩ := info_parts infoT
  have HI := Lib.hid (And.intro hi1 (And.intro hi2 (And.intro hi3 hi4)))
  clear hb1 hi1 hi2 hi3 hi4
  go_wp2_with fail
  clear hE hZ
  go_loopg [6, 48] 19 (RelO w w1.heap.size)
  case atStart => exact ⟨0, by omega, by omega, rfl, TOwn.nil _ _, alloc_at _ _, bt HB1.out (ba w1 _)⟩
  case round =>
    obtain ⟨k, hk, rfl, rfl, hown, hblk, hb⟩ := hrel
    by_cases hlt : k < 19
    · obtain ⟨wo, hwo⟩ : ∃ wo, wo = wr := ⟨_, rfl⟩
      subst hwo
      have HO := Lib.hid (And.intro hown (And.intro hblk hb))
      clear hown hblk hb hk
      have hd : decide ((k : Int) < 19) = true := by simp; omega
      go_wp2_with fail
      clear hd
      go_loopg [7, 50] 20 (RelI wo)
      case atStart => exact ⟨0, by omega, by omega, rfl, POwn.nil _ _, Below.refl _ _⟩
      case round =>
        obtain ⟨i, hi, rfl, rfl, howni, hbi⟩ := hrel
        have hblk := (hbi.block _ (Array.getElem?_eq_some_iff.1 HO.out.2.1).1).trans HO.out.2.1
        obtain ⟨⟨e0, e1, e2, e3, e4, e5⟩, _⟩ := blk_facts hblk
        by_cases hlti : i < 20
        · have HX := Lib.hid (And.intro howni hbi)
          clear howni hbi hi hblk
          go_wp2_with fail
          refine (rComp_any _ _ _ _ _).mono ?_
          rintro e w2 ⟨rfl, hb2⟩
          have hw2 := bt (ba wr _) hb2
          obtain ⟨xs, ho, hx⟩ := (HX.out.1.below hw2).ex
          have hlt7 := HX.out.1.ex.elim fun ys hy => hy.1.lt
          have hl := comp_lies (n := GB) (c := 4) (show (1 : Nat) ≤ 9223372036854775807 by omega) (by simp) (by simp [maxLen]) ((row4 (fun q => q < wo.heap.size ∨ Value.ownBlock u7 = some q) wr (fun e => by rcases e with e | e; (have := HX.out.2.size; omega); (have := (hlt7 _ e).2; omega))).below hb2)
          rw [List.length_replicate] at ho
          have HY := Lib.hid (And.intro ho (And.intro hx (And.intro hl hw2)))
          clear hb2 hw2 ho hx hlt7 hl e0 e1 e2 e3 e4 e5
          go_wp2_with (at_builtin; refine wpList_append_lies _ rfl (.tmp 52) (.tmp 59) 22 rfl wo.heap.size 25 ij ZV 6 72 Try.underlying22 HI.out.1 HI.out.2.1 HI.out.2.2.1 HI.out.2.2.2 rfl (by decide) _ i xs rfl (row6_keep HY.out.1 fun q e => (ba _ _).block q (HY.out.1.lt q e).2) ⟨w2.heap.size, 0, none⟩ 1 1 [.int .i64 5, .string GB, .int .i64 0, .int .u64 0, .int .u64 0, .slice (some ⟨wr.heap.size, 0, none⟩) 4 4] rfl rfl (news6 _ _ _ _ _ _ _ _) ?ac1 (by omega) ?ac2 ?ac3 ?ac4 _ rfl ?_)
          case ac1 => intro u hu; simp only [List.mem_cons, List.not_mem_nil, or_false] at hu; rcases hu with rfl | rfl | rfl | rfl | rfl | rfl <;> rfl
          case ac2 => unfold maxLen; omega
          case ac3 => omega
          case ac4 => have := HX.out.2.size; have := HY.out.2.2.2.size; rw [alloc_size]; omega
          intro g' c' w9 ho9 hg9 ha9 hl9
          have hadd := POwn.add (t := G4) HY.out.2.1 (by rw [List.length_replicate]; exact HY.out.1) HY.out.2.2.1 (by rw [List.length_replicate]; exact ho9) hg9 (ha9.imp id fun e => by omega)
          rw [← List.replicate_succ', List.length_replicate] at hadd
          have H9 := Lib.hid (And.intro hadd.1 ((HX.out.2.trans (HY.out.2.2.2.mono HX.out.2.size)).trans (hadd.2.to_below (fun q e => (HY.out.1.lt q e).1) (by have := HX.out.2.size; have := HY.out.2.2.2.size; omega))))
          clear ho9 hg9 ha9 hl9 hadd
          go_wp2_with fail
          go_roundg (20 - (i + 1))
          case measure => omega
          case rel => exact ⟨i + 1, hlti, rfl, by go_num, H9.out.1, H9.out.2⟩
        · have hiv : i = 20 := by omega
          subst hiv
          have hlto := HO.out.1.ex.elim fun ys hy => hy.1.lt
          obtain ⟨ak, ck, rfl, hlc, hcm, hrow⟩ := howni.row
          have hlies := comp_lies (n := HB) (c := ck) (show (1 : Nat) ≤ 9223372036854775807 by omega) hlc hcm (hrow.off (Y := fun q => Value.ownBlock u6 = some q) fun q _ e => (hlto q e).2)
          rw [List.length_replicate] at hlies ⊢
          have HX := Lib.hid (And.intro hlies hbi)
          clear howni hbi hblk hrow hlies hlc hcm hi hlto e0 e1 e2 e3 e4 e5
          go_wp2_with fail
          refine (rComp_any _ _ _ _ _).mono ?_
          rintro e w2 ⟨rfl, hb2⟩
          have hw2 : Below wo.heap.size wo w2 := HX.out.2.trans (hb2.mono HX.out.2.size)
          obtain ⟨xs, ho, hx⟩ := (HO.out.1.below hw2).ex
          rw [List.length_replicate] at ho
          have HY := Lib.hid (And.intro ho (And.intro hx (And.intro (HX.out.1.below hb2) hw2)))
          clear hb2 hw2 ho hx
          go_wp2_with (at_builtin; refine wpList_append_lies _ rfl (.tmp 62) (.tmp 65) 22 rfl (w1.heap.size + 1) 25 ij ZV 6 72 Try.underlying22 HI.out.1 HI.out.2.1 HI.out.2.2.1 HI.out.2.2.2 rfl (by decide) _ k xs rfl (row6_keep HY.out.1 fun q e => (ba _ _).block q (HY.out.1.lt q e).2) ⟨w2.heap.size, 0, none⟩ 1 1 [.int .i64 5, .string HB, .int .i64 0, .int .u64 0, .int .u64 0, .slice ak 20 ck] rfl rfl (news6 _ _ _ _ _ _ _ _) ?bc1 (by omega) ?bc2 ?bc3 ?bc4 _ rfl ?_)
          case bc1 => intro u hu; simp only [List.mem_cons, List.not_mem_nil, or_false] at hu; rcases hu with rfl | rfl | rfl | rfl | rfl | rfl <;> rfl
          case bc2 => unfold maxLen; omega
          case bc3 => omega
          case bc4 => have := (Array.getElem?_eq_some_iff.1 HO.out.2.1).1; have := HY.out.2.2.2.size; rw [alloc_size]; omega
          intro g' c' w9 ho9 hg9 ha9 hl9
          have hadd := TOwn.add (t := H20) HY.out.2.1 (by rw [List.length_replicate]; exact HY.out.1) HY.out.2.2.1 (by rw [List.length_replicate]; exact ho9) hg9 (ha9.imp id fun e => by omega)
          rw [← List.replicate_succ', List.length_replicate] at hadd
          have hbo := (Array.getElem?_eq_some_iff.1 HO.out.2.1).1
          have hb9 : w9.heap[w1.heap.size]? = some (NV 2 NA 0 0 0 none 0 0) := (hadd.2.block _ (by have := HY.out.2.2.2.size; omega) (fun e => by have := (HY.out.1.lt _ e).1; omega)).trans ((HY.out.2.2.2.block _ hbo).trans HO.out.2.1)
          have H9 := Lib.hid (And.intro hadd.1 (And.intro hb9 ((HO.out.2.2.trans (HY.out.2.2.2.mono HO.out.2.2.size)).trans (hadd.2.to_below (fun q e => by have := (HY.out.1.lt q e).1; have := HB1.out.size; omega) (by have := HO.out.2.2.size; have := HY.out.2.2.2.size; omega)))))
          clear ho9 hg9 ha9 hl9 hadd hb9 hbo
          go_wp2_with fail
          go_roundg (19 - (k + 1))
          case measure => omega
          case rel => exact ⟨k + 1, hlt, rfl, by go_num, H9.out.1, H9.out.2.1, H9.out.2.2⟩
    · have hkv : k = 19 := by omega
      subst hkv
      obtain ⟨al, cl, rfl, hlc, hcm, hrow⟩ := hown.row
      have hlies := comp_lies (n := F) (c := cl) (show (1 : Nat) ≤ 9223372036854775807 by omega) hlc hcm hrow
      rw [List.length_replicate] at hlies ⊢
      have HX := Lib.hid (And.intro hlies hb)
      clear hown hb hblk hrow hlies hlc hcm hk
      go_wp2_with fail
      refine (rComp_any _ _ _ _ _).mono ?_
      rintro e w2 ⟨rfl, hb2⟩
      have HB2 := Lib.hid (And.intro (HX.out.1.below hb2) (HX.out.2.trans (hb2.mono HX.out.2.size)))
      clear hb2
      go_wp2_with fail
      go_loopg [72] (77 + m) (RelW w w2.heap.size (77 + m))
      case atStart =>
        exact ⟨_, 0, _, _, _, _, _, _, _, _, by omega, by omega, rfl, alloc_at _ _, (HB2.out.1.off (Y := fun q => q = w2.heap.size) fun q hq e => by omega).below (ba w2 _), (HB2.out.2.alloc HB2.out.2.size _)⟩
      case round =>
        obtain ⟨t, k, kq, nq, iq, rq, mq, aq, lq, cq, hk, rfl, rfl, hblk, hL, hb⟩ := hrel
        obtain ⟨⟨e0, e1, e2, e3, e4, e5⟩, _⟩ := blk_facts hblk
        by_cases hlt : k < 77 + m
        · have HX := Lib.hid (And.intro hblk (And.intro hL hb))
          clear hblk hL hb hk
          go_wp2_with fail
          refine (rComp_any _ _ _ _ _).mono ?_
          rintro e w3 ⟨rfl, hb3⟩
          have hws := wrap_step HX.out.1 HX.out.2.1 HX.out.2.2 (by have := HB2.out.2.size; omega) hb3
          have HW := Lib.hid hws
          have hbl := (Array.getElem?_eq_some_iff.1 HX.out.1).1
          obtain ⟨_, f0, f1, f2, f3, f4, f5⟩ := blk_facts ((hb3.block w2.heap.size (by rw [alloc_size]; omega)).trans (((ba wr _).block _ hbl).trans HX.out.1))
          obtain ⟨⟨g0, g1, g2, g3, g4, g5⟩, _⟩ := blk_facts ((hb3.block w2.heap.size (by rw [alloc_size]; omega)).trans (((ba wr _).block _ hbl).trans HX.out.1))
          clear hws hb3 hbl e0 e1 e2 e3 e4 e5
          go_wp2_with fail
          obtain ⟨W, hW, hblkW, hLW, hbW⟩ := HW.out
          rw [hW]
          go_roundg (77 + m - (k + 1))
          case measure => omega
          case rel => exact ⟨_, k + 1, _, _, _, _, _, _, _, _, hlt, rfl, by go_num, hblkW, hLW, hbW⟩
        · have HX := Lib.hid (And.intro (hL.off (Y := No) fun _ _ h => h.elim) (And.intro hblk hb))
          clear hblk hL hb hk
          have hS : SU w w2.heap.size t kq nq iq rq mq aq lq cq wr := HX.out
          clear HX
          cases hg : good t
          · obtain ⟨e9, he⟩ : ∃ e9, may t = e9 := ⟨_, rfl⟩
            have hz := may_nogood hg
            have h0 : (e9 == 0) = false := by rw [beq_eq_false_iff_ne]; omega
            have HE := Lib.hid (And.intro he (nodes_nogood hg))
            clear hg hz he
            go_wp2_with fail
            go_region_held3 (fun w' => w'.cell? ⟨w2.heap.size, 0, none⟩ = some (.int .i64 kq) ∧ w'.cell? ⟨w2.heap.size, 1, none⟩ = some (.string nq) ∧ w'.cell? ⟨w2.heap.size, 2, none⟩ = some (.int .i64 iq) ∧ w'.cell? ⟨w2.heap.size, 3, none⟩ = some (.int .u64 rq) ∧ w'.cell? ⟨w2.heap.size, 4, none⟩ = some (.int .u64 mq) ∧ w'.cell? ⟨w2.heap.size, 5, none⟩ = some (.slice aq lq cq) ∧ SU w w2.heap.size t kq nq iq rq mq aq lq cq w')
              (first | (exact (SU.cells (by assumption))) | (exact SU.cells (SU.below (by assumption) (bdr _))) | go_keep)
              (first
                | (go_at_call 23; refine (mayES HE.out.1 (w := w) (b := w2.heap.size) ?_).mono ?_; (first | assumption | exact SU.below (by assumption) (bdr _)); rintro e wN ⟨rfl, hSN⟩)
                | (go_at_call 25; refine (nodesES HE.out.2 (w := w) (b := w2.heap.size) ?_).mono ?_; (first | assumption | exact SU.below (by assumption) (bdr _)); rintro e wN ⟨rfl, hSN⟩)
                | (go_at_call 24; refine (rMayES HE.out.1 (w := w) (b := w2.heap.size) ?_).mono ?_; (first | assumption | exact SU.below (by assumption) (bdr _)); rintro e wN ⟨rfl, hSN⟩)
                | (go_at_call 12; refine (awakeS (w := w) (b := w2.heap.size) (t := t) (kq := kq) (nq := nq) (iq := iq) (rq := rq) (mq := mq) (aq := aq) (lq := lq) (cq := cq) ?_).mono ?_; (first | assumption | exact SU.below (by assumption) (bdr _)); rintro e wN ⟨rfl, hSN⟩))
            all_goals go_wp2_with fail
            all_goals go_ret
            all_goals exact ⟨rfl, (by assumption : SU w w2.heap.size t kq nq iq rq mq aq lq cq _).2.2⟩
          · obtain ⟨n9, hn⟩ : ∃ n9, nodes t = n9 := ⟨_, rfl⟩
            have hp : decide (0 < n9) = true := by have := size_pos t; have := nodes_good hg; simp; omega
            have HE := Lib.hid (And.intro (may_good hg) hn)
            clear hg hn
            go_wp2_with fail
            go_region_held3 (fun w' => w'.cell? ⟨w2.heap.size, 0, none⟩ = some (.int .i64 kq) ∧ w'.cell? ⟨w2.heap.size, 1, none⟩ = some (.string nq) ∧ w'.cell? ⟨w2.heap.size, 2, none⟩ = some (.int .i64 iq) ∧ w'.cell? ⟨w2.heap.size, 3, none⟩ = some (.int .u64 rq) ∧ w'.cell? ⟨w2.heap.size, 4, none⟩ = some (.int .u64 mq) ∧ w'.cell? ⟨w2.heap.size, 5, none⟩ = some (.slice aq lq cq) ∧ SU w w2.heap.size t kq nq iq rq mq aq lq cq w')
              (first | (exact (SU.cells (by assumption))) | (exact SU.cells (SU.below (by assumption) (bdr _))) | go_keep)
              (first
                | (go_at_call 23; refine (mayES HE.out.1 (w := w) (b := w2.heap.size) ?_).mono ?_; (first | assumption | exact SU.below (by assumption) (bdr _)); rintro e wN ⟨rfl, hSN⟩)
                | (go_at_call 25; refine (nodesES HE.out.2 (w := w) (b := w2.heap.size) ?_).mono ?_; (first | assumption | exact SU.below (by assumption) (bdr _)); rintro e wN ⟨rfl, hSN⟩)
                | (go_at_call 24; refine (rMayES HE.out.1 (w := w) (b := w2.heap.size) ?_).mono ?_; (first | assumption | exact SU.below (by assumption) (bdr _)); rintro e wN ⟨rfl, hSN⟩)
                | (go_at_call 12; refine (awakeS (w := w) (b := w2.heap.size) (t := t) (kq := kq) (nq := nq) (iq := iq) (rq := rq) (mq := mq) (aq := aq) (lq := lq) (cq := cq) ?_).mono ?_; (first | assumption | exact SU.below (by assumption) (bdr _)); rintro e wN ⟨rfl, hSN⟩))
            all_goals go_wp2_with fail
            all_goals go_ret
            all_goals exact ⟨rfl, (by assumption : SU w w2.heap.size t kq nq iq rq mq aq lq cq _).2.2⟩
theorem deep2 (w : World) (a0 a1 : Int) (m : Nat) (hE : wrap64 ((IntKind.u64.wrap a0).tmod 5) = (m : Int)) (hZ : wrap64 ((IntKind.u64.wrap a1).tmod 3) = ((2 : Nat) : Int)) (hm5 : m < 5) :
    Calls Try.prog 4 #[.int .i64 a0, .int .i64 a1] w fun e w' => e = .returned (.bool true) ∧ Below w.heap.size w w' := by
  go_enter Try.func4, Try.ntmps4
  go_wp2_with fail
  refine (rAtom_any _ _).mono ?_
  rintro e w1 ⟨rfl, hb1⟩
  have HB1 := Lib.hid hb1
  obtain ⟨ij, hi1, hi2, hi3, hi4⟩ := info_parts infoT
  have HI := Lib.hid (And.intro hi1 (And.intro hi2 (And.intro hi3 hi4)))
  clear hb1 hi1 hi2 hi3 hi4
  go_wp2_with fail
  clear hE hZ
  go_loopg [9, 97] (18 + m) (Rel2 w w1.heap.size (18 + m))
  case atStart => exact ⟨0, by omega, by omega, rfl, TOwn.nil _ _, alloc_at _ _, bt HB1.out (ba w1 _)⟩
  case round =>
    obtain ⟨k, hk, rfl, rfl, hown, hblk, hb⟩ := hrel
    obtain ⟨⟨e0, e1, e2, e3, e4, e5⟩, _⟩ := blk_facts hblk
    by_cases hlt : k < 18 + m
    · obtain ⟨xs, ho, hx⟩ := hown.ex
      rw [List.length_replicate] at ho
      have HX := Lib.hid (And.intro ho (And.intro hx (And.intro hblk hb)))
      clear hown ho hx hblk hb hk
      go_wp2_with (at_builtin; refine wpList_append_lies _ rfl (.tmp 99) (.tmp 101) 22 rfl (w1.heap.size + 1) 25 ij ZV 6 72 Try.underlying22 HI.out.1 HI.out.2.1 HI.out.2.2.1 HI.out.2.2.2 rfl (by decide) _ k xs rfl (row6_keep HX.out.1 fun q e => (ba _ _).block q (HX.out.1.lt q e).2) ⟨wr.heap.size, 0, none⟩ 1 1 [.int .i64 2, .string NA, .int .i64 0, .int .u64 0, .int .u64 0, .slice none 0 0] rfl rfl (news6 _ _ _ _ _ _ _ _) ?ac1 (by omega) ?ac2 ?ac3 ?ac4 _ rfl ?_)
      case ac1 => intro u hu; simp only [List.mem_cons, List.not_mem_nil, or_false] at hu; rcases hu with rfl | rfl | rfl | rfl | rfl | rfl <;> rfl
      case ac2 => unfold maxLen; omega
      case ac3 => omega
      case ac4 => have := (Array.getElem?_eq_some_iff.1 HX.out.2.2.1).1; rw [alloc_size]; omega
      intro g' c' w9 ho9 hg9 ha9 hl9
      have hadd := TOwn.add (t := atom NA) HX.out.2.1 (by rw [List.length_replicate]; exact HX.out.1) (atom_lies _ NA _ (show (1 : Nat) ≤ 9223372036854775807 by omega)) (by rw [List.length_replicate]; exact ho9) hg9 (ha9.imp id fun e => by omega)
      rw [← List.replicate_succ', List.length_replicate] at hadd
      have hb9 : w9.heap[w1.heap.size]? = some (NV 2 NA 0 0 0 none 0 0) := (hadd.2.block _ (Array.getElem?_eq_some_iff.1 HX.out.2.2.1).1 (fun e => by have := (HX.out.1.lt _ e).1; omega)).trans HX.out.2.2.1
      have H9 := Lib.hid (And.intro hadd.1 (And.intro hb9 (HX.out.2.2.2.trans (hadd.2.to_below (fun q e => by have := (HX.out.1.lt q e).1; have := HB1.out.size; omega) HX.out.2.2.2.size))))
      clear ho9 hg9 ha9 hl9 hadd hb9 e0 e1 e2 e3 e4 e5
      go_wp2_with fail
      go_roundg (18 + m - (k + 1))
      case measure => omega
      case rel => exact ⟨k + 1, hlt, rfl, by go_num, H9.out.1, H9.out.2.1, H9.out.2.2⟩
    · have hkv : k = 18 + m := by omega
      subst hkv
      obtain ⟨ar, cr, rfl, hlc, hcm, hrow⟩ := hown.row
      have hfg := flat_good (18 + m) (by omega) (by omega)
      have hlies := comp_lies (n := F) (c := cr) (show (1 : Nat) ≤ 9223372036854775807 by omega) hlc hcm hrow
      rw [List.length_replicate] at hlies ⊢
      have HX := Lib.hid (And.intro hlies (And.intro hfg hb))
      clear hown hblk hb hrow hlies hfg hlc hcm hk
      by_cases hm2 : m ≤ 2
      · have hd : decide ((m : Int) ≤ 2) = true := by simp; omega
        have hg : good (comp F (List.replicate (18 + m) (atom NA))) = true := by rw [HX.out.2.1]; simp; omega
        have HG := Lib.hid hg
        clear hg
        go_wp2_with fail
        refine (rComp_any _ _ _ _ _).mono ?_
        rintro e w2 ⟨rfl, hb2⟩
        have HB2 := Lib.hid (And.intro (HX.out.2.2.trans (hb2.mono HX.out.2.2.size)) (HX.out.1.below hb2))
        clear hb2
        go_wp2_with fail
        refine (mayOk HG.out HB2.out.2).mono ?_
        rintro e w3 ⟨rfl, hb3⟩
        have HB3 := Lib.hid (HB2.out.1.trans (hb3.mono HB2.out.1.size))
        clear hb3
        go_wp2_with fail
        refine (awake_any _).mono ?_; rintro e w6 ⟨rfl, hb6⟩
        have HB6 := Lib.hid (HB3.out.trans (hb6.mono HB3.out.size))
        clear hb6
        go_wp2_with fail
        go_ret
        exact ⟨rfl, HB6.out⟩
      · have hd : decide ((m : Int) ≤ 2) = false := by simp; omega
        have hg : good (comp F (List.replicate (18 + m) (atom NA))) = false := by rw [HX.out.2.1]; simp; omega
        have hz := may_nogood hg
        obtain ⟨e9, he⟩ : ∃ e9, may (comp F (List.replicate (18 + m) (atom NA))) = e9 := ⟨_, rfl⟩
        have h0 : (e9 == 0) = false := by rw [beq_eq_false_iff_ne]; omega
        have HE := Lib.hid he
        clear hg hz he
        go_wp2_with fail
        refine (rComp_any _ _ _ _ _).mono ?_
        rintro e w2 ⟨rfl, hb2⟩
        have HB2 := Lib.hid (And.intro (HX.out.2.2.trans (hb2.mono HX.out.2.2.size)) (HX.out.1.below hb2))
        clear hb2
        go_wp2_with fail
        refine (mayE HE.out HB2.out.2).mono ?_
        rintro e w3 ⟨rfl, hb3⟩
        have HB3 := Lib.hid (HB2.out.1.trans (hb3.mono HB2.out.1.size))
        clear hb3
        go_wp2_with fail
        refine (awake_any _).mono ?_; rintro e w6 ⟨rfl, hb6⟩
        have HB6 := Lib.hid (HB3.out.trans (hb6.mono HB3.out.size))
        clear hb6
        go_wp2_with fail
        go_ret
        exact ⟨rfl, HB6.out⟩
theorem walk (w : World) (a0 : Int) (w0 : (Lit.int .i64 a0).wf = true) (a1 : Int) (w1 : (Lit.int .i64 a1).wf = true) :
    Calls Try.prog 4 #[.int .i64 a0, .int .i64 a1] w fun e w' => e = .returned (.bool true) ∧ Below w.heap.size w w' := by
  obtain ⟨m, hm, hE⟩ := part a0 5 (by omega) (by omega)
  obtain ⟨z, hz, hZ⟩ := part a1 3 (by omega) (by omega)
  have hm5 : m < 5 := by omega
  clear hm
  have hz3 : z = 0 ∨ z = 1 ∨ z = 2 := by omega
  clear hz
  rcases hz3 with rfl | rfl | rfl
  · exact deep0 w a0 a1 m hE hZ hm5
  · exact deep1 w a0 a1 m hE hZ hm5
  · exact deep2 w a0 a1 m hE hZ hm5
set_option maxRecDepth 100000 in
theorem lifted (os : Os) (started : os.Started) (H : Type) (enc : TypeId × Value → H) :
    ReturnsInHanded {} Try.checked os 4 .any (Rows.termDeepSpec.pre6 enc Try.prog Try.f4 Rows.termDeepRow.domain false) (Rows.termDeepSpec.post enc Try.prog Try.f4 false true false false) := by
  refine returnsInHanded_of_change_sized (C := Try.checked) own started (by kernel_rfl) Try.func4
    (ChangeSpec.witness6 (enc := enc) (C := Try.checked) false ⟨#[], #[.int .i64 0, .int .i64 0], []⟩ 8 (by kernel_rfl) (by kernel_rfl) (by kernel_rfl) (by kernel_rfl)) ?_
  intro W base args ds gs before hval0 hW _ hsz0 _
  have hsz : (DataW.weightsEach Try.prog (Try.f4.params.toList ++ Rows.termDeepSpec.plain.varTypes Try.prog) (ds ++ gs)).all (· ≤ reachBytes) = true := hsz0
  clear hsz0
  have hval : ∀ (j : Nat) t v, Try.f4.params[j]? = some t → args[j]? = some v → Value.okWide Try.prog W .any base t v := hval0
  have hW' := hW
  obtain ⟨p, q, hA0, hV, rfl, hfz, hnd⟩ := hW
  have hA : DataW.TrodAll enc Try.prog W 0 (fun _ => true) true Try.f4.params.toList args.toList ds p := hA0
  rw [Try.params4] at hA hval hsz
  obtain ⟨v0, vs0, d0, ds0, p0, q0, hargs, rfl, rfl, h0, r0⟩ := trodAll_cons hA
  obtain ⟨v1, vs1, d1, ds1, p1, q1, rfl, rfl, rfl, h1, r1⟩ := trodAll_cons r0
  obtain ⟨rfl, rfl, rfl⟩ := trodAll_nil r1
  obtain rfl : args = #[v0, v1] := by cases args; simp_all
  obtain ⟨rfl, rfl⟩ := trodVars_none hV
  simp only [List.append_nil] at hW'
  have lt0 : ∀ x ∈ p0, x.block < W.heap.size := fun x hx => by
    have := hW'.lt x (by simp [hx])
    simpa using this
  have k0 := h0
  have lt1 : ∀ x ∈ p1, x.block < W.heap.size := fun x hx => by
    have := hW'.lt x (by simp [hx])
    simpa using this
  have k1 := h1
  obtain ⟨a0, rfl, rfl, rfl, w0⟩ := open_int Try.underlying3 (hval 0 3 v0 rfl rfl) h0
  obtain ⟨a1, rfl, rfl, rfl, w1⟩ := open_int Try.underlying3 (hval 1 3 v1 rfl rfl) h1
  clear hA0 hval0
  refine (walk W a0 w0 a1 w1).mono fun e W' ⟨he, hg⟩ => ?_
  subst he
  have ha := (trodAll_cons_mk (Below.trod laidOut (by kernel_rfl) (of_decide_eq_true (by kernel_rfl)) k0 hg lt0) (trodAll_cons_mk (Below.trod laidOut (by kernel_rfl) (of_decide_eq_true (by kernel_rfl)) k1 hg lt1) trodAll_mk0))
  refine ⟨_, rfl, _, _, _, [], _, [], hW', ?_, ha, rfl, hg.frame _, fun h => by cases h⟩
  exact (trodAll_cons_mk (shut_bool Try.underlying4 _) trodAll_mk0)
/-- THE STATEMENT. -/
theorem proved : Rows.TermDeepSaid :=
  OpenClaim.holds_of_wide 4 Try.f4 rfl rfl rfl rfl rfl rfl rfl ⟨rfl, rfl, rfl, rfl, rfl⟩ rfl rfl rfl rfl rfl (by kernel_rfl) Try.func4 (by kernel_rfl)
    (of_decide_eq_true (by kernel_rfl)) (by unfold Func.isWrapper; first | (rw [if_pos (by decide +kernel)]; kernel_rfl) | (rw [if_neg (by decide +kernel)]; exact ⟨rfl, rfl⟩))
    (fun os started H enc _ => lifted os started H enc)
#print axioms proved
end Go.Proofs.Ytigmpjjcbaefcaa.termDeep
