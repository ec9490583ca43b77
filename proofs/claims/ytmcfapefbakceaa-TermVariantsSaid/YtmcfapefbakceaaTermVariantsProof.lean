/- The law TermVariants holds: for every input its Go function returns true and leaves its arguments as they were. No condition beyond the row's own. -/
import Derived.Test.YtmcfapefbakceaaRows
import Derived.WalkKit
import Derived.ProofKit
import Derived.OpenShut
import Derived.SizedLaws
import Derived.Test.YtmcfapefbakceaaTOpen
import Derived.Test.YtmcfapefbakceaaLgt
import Derived.Test.YtmcfapefbakceaaVar
import Derived.Test.YtmcfapefbakceaaRVs
import Derived.Test.YtmcfapefbakceaaCl
import Derived.Deep.RegionHeld3
import Derived.Deep.CutRange
namespace Go.Proofs.Ytmcfapefbakceaa.termVariants
open Go.ChangeShapes Go.WideShapes Go.ChangeAt Go.RowKit
open Go.ChangeMaps (open_string)
open Go.Proofs.Ytmcfapefbakceaa.tm Go.Proofs.Ytmcfapefbakceaa.lie Go.Proofs.Ytmcfapefbakceaa.kp Go.Proofs.Ytmcfapefbakceaa.top
set_option linter.unusedVariables false
theorem own : ownKnob Try.prog.godebug = none := by kernel_rfl
theorem laidOut : laidOutB Try.prog = true := by kernel_rfl
open Go.Proofs.Ytmcfapefbakceaa.tm Go.Proofs.Ytmcfapefbakceaa.lie Go.Proofs.Ytmcfapefbakceaa.kp Go.Proofs.Ytmcfapefbakceaa.mes Go.Proofs.Ytmcfapefbakceaa.vrs Go.Proofs.Ytmcfapefbakceaa.awk Go.Proofs.Ytmcfapefbakceaa.lgt Go.Proofs.Ytmcfapefbakceaa.cur Go.Proofs.Ytmcfapefbakceaa.rws Go.Proofs.Ytmcfapefbakceaa.pla Go.Proofs.Ytmcfapefbakceaa.ren Go.Proofs.Ytmcfapefbakceaa.sme Go.Proofs.Ytmcfapefbakceaa.rvs Go.Proofs.Ytmcfapefbakceaa.clo
/-- what is known: boxes, terms; all that is new apart, nothing has turned -/
def Kn (w : World) (bs : List (Nat × Obj)) (ts : List (Tm × Value)) (W : World) : Prop := Below w.heap.size w W ∧ (∀ x ∈ bs, W.heap[x.1]? = some x.2) ∧ ∀ y ∈ ts, Lies No W y.1 y.2
theorem Kn.below {w : World} {bs : List (Nat × Obj)} {ts : List (Tm × Value)} {W W' : World} (h : Kn w bs ts W) (k : Below W.heap.size W W') : Kn w bs ts W' :=
  ⟨h.1.trans (k.mono h.1.size), fun x hx => (k.block _ (Array.getElem?_eq_some_iff.1 (h.2.1 x hx)).1).trans (h.2.1 x hx), fun y hy => (h.2.2 y hy).below k⟩
theorem Kn.addb {w : World} {bs : List (Nat × Obj)} {ts : List (Tm × Value)} {W : World} (h : Kn w bs ts W) {b : Nat} {o : Obj} (hb : W.heap[b]? = some o) : Kn w ((b, o) :: bs) ts W :=
  ⟨h.1, fun x hx => by rcases List.mem_cons.1 hx with rfl | hx; exact hb; exact h.2.1 x hx, h.2.2⟩
theorem Kn.addt {w : World} {bs : List (Nat × Obj)} {ts : List (Tm × Value)} {W : World} (h : Kn w bs ts W) {t : Tm} {v : Value} (hb : Lies No W t v) : Kn w bs ((t, v) :: ts) W :=
  ⟨h.1, h.2.1, fun x hx => by rcases List.mem_cons.1 hx with rfl | hx; exact hb; exact h.2.2 x hx⟩
theorem Kn.box {w : World} {bs : List (Nat × Obj)} {ts : List (Tm × Value)} {W : World} (h : Kn w bs ts W) {b : Nat} {o : Obj} (hm : (b, o) ∈ bs) : W.heap[b]? = some o := h.2.1 _ hm
theorem Kn.lie {w : World} {bs : List (Nat × Obj)} {ts : List (Tm × Value)} {W : World} (h : Kn w bs ts W) {t : Tm} {v : Value} (hm : (t, v) ∈ ts) : Lies No W t v := h.2.2 _ hm
def all62 (l : List Int) : Bool := l.all fun v => decide (v < 4611686018427387904)
def VRel (w5 : World) (vs : List Int) (g : Nat) (s10 s36 : Value) (wr : World) : Prop := ∃ k : Nat, k ≤ vs.length ∧ g = vs.length - k ∧ s10 = .bool (all62 (vs.take k)) ∧ s36 = .int .i64 k ∧ wr = w5
theorem all_next {vs : List Int} {k : Nat} (hk : k < vs.length) : all62 (vs.take (k + 1)) = (all62 (vs.take k) && decide (vs[k] < 4611686018427387904)) := by
  unfold all62
  rw [List.take_succ_eq_append_getElem hk, List.all_append]
  simp only [List.all_cons, List.all_nil, Bool.and_true]
theorem and20 (x : Int) : 0 ≤ bits .and .i64 x 1048575 ∧ bits .and .i64 x 1048575 < 1048576 := by
  have h2 : (BitVec.ofInt 64 (1048575 : Int)).toNat = 2 ^ 20 - 1 := by decide
  have e : bits .and .i64 x 1048575 = (((BitVec.ofInt 64 x).toNat % 1048576 : Nat) : Int) := by
    show IntKind.i64.wrap ((BitVec.ofInt 64 x &&& BitVec.ofInt 64 1048575).toNat : Int) = _
    rw [BitVec.toNat_and, h2, Nat.and_two_pow_sub_one_eq_mod]
    exact w64s _ (by omega)
  rw [e]; omega
theorem occ0 {t : Tm} (hg : good t = true) : ∀ n ∈ occ t, 0 ≤ n := by
  intro n hn
  have f := pre_facts t 1
  rw [← f.2.2.1, List.mem_filterMap] at hn
  obtain ⟨x, hx, he⟩ := hn
  have hc := f.2.1.2 (good_sound hg) x hx
  obtain ⟨⟨k, nn, i, re, im, l⟩, d⟩ := x
  simp only [Tm.kind, Tm.int] at he
  by_cases hk : k = 1
  · subst hk
    simp only [if_true, Option.some.injEq] at he
    subst he
    simp only [chk, if_true] at hc
    omega
  · simp [hk] at he
theorem merge_law {t : Tm} {p q : Int} (hg : good t = true) (hp : p ∈ occ t) (hq : q ∈ occ t) : varB t (sub (fun n => var (mg p q n)) t) = (p == q) := by
  have hgr := good_rn hg
  by_cases e : p = q
  · subst e
    have hgp := good_plain hg (good_sound hg)
    have h1 : rn (plain t) = rn t := rn_plain_eq hgp hg (sub_plain var t)
    rw [mg_self]
    unfold varB
    rw [renR_good hg, renR_good hgp, h1, sameB_refl, hgr]
    simp
  · have hgv : good (sub (fun n => var (mg p q n)) t) = true := ren_good hg fun n hn => by
      unfold mg; split
      · exact occ0 hg q hq
      · exact occ0 hg n hn
    have hb : (p == q) = false := by rw [beq_eq_false_iff_ne]; exact e
    rw [hb]
    unfold varB
    rw [renR_good hg, renR_good hgv]
    cases h : sameB (rn t) (rn (sub (fun n => var (mg p q n)) t))
    · rfl
    · rw [sameB_iff, plain_rn, plain_rn] at h
      exact absurd h.2.2.symm (rn_merge hg hp hq e)
theorem at_ix (a : Int) {n : Nat} (h0 : 0 < n) (h : n ≤ 2000) : ∃ k : Nat, wrap64 ((IntKind.u64.wrap a).tmod (n : Int)) = (k : Int) ∧ k < n := by
  have hw : 0 ≤ IntKind.u64.wrap a := by rw [IntKind.wrap_u64]; omega
  have h1 : 0 ≤ (IntKind.u64.wrap a).tmod (n : Int) ∧ (IntKind.u64.wrap a).tmod (n : Int) < n := by
    rw [Int.tmod_eq_emod_of_nonneg hw]
    exact ⟨Int.emod_nonneg _ (by omega), Int.emod_lt_of_pos _ (by omega)⟩
  refine ⟨((IntKind.u64.wrap a).tmod (n : Int)).toNat, ?_, by omega⟩
  unfold wrap64; omega
theorem varP {P : World → Prop} {a b : Tm} {va vb : Value} {p : Bool} (hst : ∀ W W', P W → Below W.heap.size W W' → P W') (ha : ∀ W, P W → Lies No W a va) (hb : ∀ W, P W → Lies No W b vb) (he : varB a b = p) :
    ∀ W, P W → Calls Try.prog 49 #[va, vb] W fun e w' => e = .returned (.bool p) ∧ P w' := fun W h => by
  subst he
  exact (variant_any _ _ _ _ W (ha W h) (hb W h)).mono fun e w' ⟨x, y⟩ => ⟨x, hst _ _ h y⟩
theorem renP {P : World → Prop} {a q : Tm} {va : Value} (hst : ∀ W W', P W → Below W.heap.size W W' → P W') (ha : ∀ W, P W → Lies No W a va) (he : renR a = q) :
    ∀ W, P W → Calls Try.prog 48 #[va] W fun e w' => ∃ k nn i re im a len c, e = .returned (.agg #[.int .i64 k, .string nn, .int .i64 i, .int .u64 re, .int .u64 im, .slice a len c]) ∧ Lies No w' q (.agg #[.int .i64 k, .string nn, .int .i64 i, .int .u64 re, .int .u64 im, .slice a len c]) ∧ P w' := fun W h => by
  subst he
  exact (ren_any _ _ W (ha W h)).mono fun e w' ⟨k, nn, i, re, im, a, len, c, x, y, z⟩ => ⟨k, nn, i, re, im, a, len, c, x, z.off fun _ _ h => h.elim, hst _ _ h y⟩
theorem sameX {P : World → Prop} {b : Tm} {vb : Value} (hst : ∀ W W', P W → Below W.heap.size W W' → P W') (hb : ∀ W, P W → Lies No W b vb) (he : sameB b b = true) :
    ∀ W va, P W → Lies No W b va → Calls Try.prog 50 #[va, vb] W fun e w' => e = .returned (.bool true) ∧ P w' := fun W va h ha => by
  have := same_any _ _ va vb W ha (hb W h)
  rw [he] at this
  exact this.mono fun e w' ⟨x, y⟩ => ⟨x, hst _ _ h y⟩
set_option linter.unusedSimpArgs false in
set_option maxHeartbeats 4000000 in
theorem walk (w : World) (v0 : Value) (t0 : Tm) (x0 : Lies No w t0 v0) (a1 : Int) (w1 : (Lit.int .i64 a1).wf = true) (a2 : Int) (w2 : (Lit.int .i64 a2).wf = true) (a3 : Int) (w3 : (Lit.int .i64 a3).wf = true) :
    Calls Try.prog 10 #[v0, .int .i64 a1, .int .i64 a2, .int .i64 a3] w fun e w' => e = .returned (.bool true) ∧ Below w.heap.size w w' := by
  obtain ⟨T, hT⟩ : ∃ T, T = t0 := ⟨_, rfl⟩
  obtain ⟨k, n, i, re, im, l⟩ := t0
  have HL := Lib.hid (show Lies No w T v0 from hT ▸ x0)
  rw [Lies] at x0
  obtain ⟨at', ct, rfl, hf, hr⟩ := x0
  have hm := and20 a1
  clear hf hr hT w1
  have HI2 := Lib.hid w2; have HI3 := Lib.hid w3
  clear w2 w3
  generalize hbb : bits .and .i64 a1 1048575 = bb at hm
  have HBB := Lib.hid (And.intro hbb hm)
  clear hbb hm
  have hk0 : Kn w [(w.heap.size + 1, .cells #[.int .i64 a1] 2), (w.heap.size, .cells #[.int .i64 k, .string n, .int .i64 i, .int .u64 re, .int .u64 im, .slice at' l.length ct] 44)] [(T, .agg #[.int .i64 k, .string n, .int .i64 i, .int .u64 re, .int .u64 im, .slice at' l.length ct])] ((w.alloc (.cells #[.int .i64 k, .string n, .int .i64 i, .int .u64 re, .int .u64 im, .slice at' l.length ct] 44)).alloc (.cells #[.int .i64 a1] 2)) := by
    obtain ⟨h1, h2, h3⟩ := two_box (br ((w.alloc (.cells #[.int .i64 k, .string n, .int .i64 i, .int .u64 re, .int .u64 im, .slice at' l.length ct] 44)).alloc (.cells #[.int .i64 a1] 2)))
    exact ⟨h3, fun x hx => by simp only [List.mem_cons, List.not_mem_nil, or_false] at hx; rcases hx with rfl | rfl; exact h2; exact h1, fun y hy => by simp only [List.mem_singleton] at hy; subst hy; exact HL.out.below h3⟩
  have LL := Lib.hid hk0
  clear hk0
  go_enter Try.func10, Try.ntmps10
  go_wp2_with fail
  refine (Light_any [T] (some ⟨w.heap.size + 1 + 1, 0, none⟩) 1 _ ?_ (by simp)).mono ?_
  · have := row_new _ #[.int .i64 k, .string n, .int .i64 i, .int .u64 re, .int .u64 im, .slice at' l.length ct] [T] (fun m hm => by
      match m, hm with
      | 0, _ => exact ⟨_, _, _, _, _, _, rfl, rfl, rfl, rfl, rfl, rfl, LL.out.lie (by simp)⟩
      | m + 1, hm => exact absurd hm (by simp))
    simpa [alloc_size] using this
  rintro e w2 ⟨b, rfl, hb⟩
  have LL := Lib.hid (LL.out.below (bt (ba _ _) hb))
  clear hb
  cases b
  · go_wp2_with fail
    refine (awake_any _).mono ?_; rintro e w3 ⟨rfl, hb⟩
    have LL := Lib.hid (LL.out.below hb)
    clear hb
    go_wp2_with fail
    go_ret
    exact ⟨rfl, LL.out.1⟩
  obtain ⟨⟨e0, e1, e2, e3, e4, e5⟩, _⟩ := blk_facts (LL.out.box (b := w.heap.size) (List.mem_cons_of_mem _ List.mem_cons_self))
  cases hg : good T
  · have hne : (may T != 0) = true := by rw [bne_iff_ne]; have := may_nogood hg; omega
    clear hg
    go_wp2_with fail
    refine (may_any _ _ _ (LL.out.lie List.mem_cons_self)).mono ?_
    rintro e w3 ⟨rfl, hb⟩
    have LL := Lib.hid (LL.out.below hb)
    clear hb e0 e1 e2 e3 e4 e5
    go_wp2_with fail
    refine (awake_any _).mono ?_; rintro e w4 ⟨rfl, hb⟩
    have LL := Lib.hid (LL.out.below hb)
    clear hb
    go_wp2_with fail
    go_ret
    exact ⟨rfl, LL.out.1⟩
  have HG := Lib.hid hg
  clear hg
  go_wp2_with fail
  refine (may_ok HG.out _ _ (LL.out.lie List.mem_cons_self)).mono ?_
  rintro e w3 ⟨rfl, hb⟩
  have LL := Lib.hid (LL.out.below hb)
  have hby := LL.out.box (b := w.heap.size + 1) List.mem_cons_self
  have p1 : w3.cell? ⟨w.heap.size + 1, 0, none⟩ = some (.int .i64 a1) := by simp [World.cell?, hby]
  have p2 : w3.frozen? ⟨w.heap.size + 1, 0, none⟩ = false := by simp [World.frozen?, hby]
  have hsb := heap_setCell_same w3 (w.heap.size + 1) 0 _ 2 (.int .i64 bb) hby
  have ks : Keep (fun q => q = w.heap.size + 1) w3 (w3.setCell ⟨w.heap.size + 1, 0, none⟩ (.int .i64 bb)) := Keep.setCell (F := fun q => q = w.heap.size + 1) w3 rfl _
  have hT3 : Lies (fun q => q = w.heap.size + 1) w3 T (.agg #[.int .i64 k, .string n, .int .i64 i, .int .u64 re, .int .u64 im, .slice at' l.length ct]) := (HL.out.off fun q h1 h2 => by subst h2; omega).below LL.out.1
  have hk4 : Kn w [(w.heap.size + 1, .cells #[.int .i64 bb] 2), (w.heap.size, .cells #[.int .i64 k, .string n, .int .i64 i, .int .u64 re, .int .u64 im, .slice at' l.length ct] 44)] [(T, .agg #[.int .i64 k, .string n, .int .i64 i, .int .u64 re, .int .u64 im, .slice at' l.length ct])] (w3.setCell ⟨w.heap.size + 1, 0, none⟩ (.int .i64 bb)) := by
    refine ⟨LL.out.1.trans (ks.to_below (fun q h => by subst h; omega) LL.out.1.size), fun x hx => ?_, fun y hy => ?_⟩
    · simp only [List.mem_cons, List.not_mem_nil, or_false] at hx
      rcases hx with rfl | rfl
      · simpa using hsb
      · have h0 := LL.out.box (b := w.heap.size) (List.mem_cons_of_mem _ List.mem_cons_self)
        exact (ks.block _ (Array.getElem?_eq_some_iff.1 h0).1 (by simp)).trans h0
    · simp only [List.mem_singleton] at hy
      subst hy
      exact (Lies.keep ks (fun _ _ => id) _ _ hT3).off fun _ _ h => h.elim
  have HK4 := Lib.hid hk4
  clear hb hby hsb ks hT3 hk4 e0 e1 e2 e3 e4 e5
  obtain ⟨w4, hw4⟩ : ∃ w4, w4 = w3.setCell ⟨w.heap.size + 1, 0, none⟩ (.int .i64 bb) := ⟨_, rfl⟩
  rw [← hw4] at HK4
  obtain ⟨⟨e0, e1, e2, e3, e4, e5⟩, _⟩ := blk_facts (HK4.out.box (b := w.heap.size) (List.mem_cons_of_mem _ List.mem_cons_self))
  rw [hw4] at e0 e1 e2 e3 e4 e5
  have hbbo := HBB.out.1
  have HW4 := Lib.hid hw4
  have hmf : ∀ (fn : Fn) (first cap : Array Value) (w : World), (Instr.makeFunc fn first cap).run Try.prog w = .ok (.func fn first cap) w := fun _ _ _ _ => rfl
  clear hw4
  go_wp2_with fail
  rw [← HW4.out]
  have hcb : w4.cell? ⟨w.heap.size + 1, 0, none⟩ = some (.int .i64 bb) := by have := HK4.out.box (b := w.heap.size + 1) List.mem_cons_self; simp [World.cell?, this]
  refine (mp1.map_any w4 (fx bb) ⟨w.heap.size + 1, 0, none⟩ (at1 w4 _ bb hcb) T _ _ (br _) (HK4.out.lie List.mem_cons_self) (good_sound HG.out)).mono ?_
  rintro e w5 ⟨ku, nu, iu, ru, mu, au, lu, cu, rfl, hb, hq⟩
  obtain ⟨U, hU⟩ : ∃ U, U = sub (fun n => var (fx bb n)) T := ⟨_, rfl⟩
  rw [← hU] at hq
  have HU := Lib.hid hU
  obtain ⟨w6, hw6⟩ : ∃ w6, w6 = w5.alloc (.cells #[.int .i64 ku, .string nu, .int .i64 iu, .int .u64 ru, .int .u64 mu, .slice au lu cu] 44) := ⟨_, rfl⟩
  have hk6 := (((HK4.out.below hb).below (ba w5 (.cells #[.int .i64 ku, .string nu, .int .i64 iu, .int .u64 ru, .int .u64 mu, .slice au lu cu] 44))).addb (alloc_at w5 _)).addt ((hq.off (Y := No) fun _ _ h => h.elim).below (ba w5 (.cells #[.int .i64 ku, .string nu, .int .i64 iu, .int .u64 ru, .int .u64 mu, .slice au lu cu] 44)))
  rw [← hw6] at hk6
  have HK6 := Lib.hid hk6
  obtain ⟨⟨g0, g1, g2, g3, g4, g5⟩, _⟩ := blk_facts (HK6.out.box (b := w.heap.size) (List.mem_cons_of_mem _ (List.mem_cons_of_mem _ List.mem_cons_self)))
  rw [hw6] at g0 g1 g2 g3 g4 g5
  have HW6 := Lib.hid hw6
  clear hb hq hU hw6 hk6 hcb e0 e1 e2 e3 e4 e5 hmf
  go_wp2_with fail
  rw [← HW6.out]
  refine (rVars_any _ _ _ (HK6.out.lie (t := T) (List.mem_cons_of_mem _ List.mem_cons_self))).mono ?_
  rintro e w7 ⟨v, rfl, hv, hb⟩
  obtain ⟨vs, hvs⟩ : ∃ vs, vs = vars T := ⟨_, rfl⟩
  rw [← hvs] at hv
  have hvl : vs.length ≤ 2000 := by
    rw [hvs]; unfold vars
    rw [if_pos HG.out]
    have h1 := fold_len (occ T) []
    have h2 := occ_len T
    have h3 := HG.out
    simp only [good, Bool.and_eq_true, decide_eq_true_eq] at h3
    simp only [List.length_nil] at h1
    omega
  obtain ⟨a2', c2', rfl⟩ := Go.Proofs.Ytmcfapefbakceaa.kp.shape hv
  have HV := Lib.hid (And.intro hvs hv)
  have HK7 := Lib.hid (HK6.out.below hb)
  clear hvs hv hb g0 g1 g2 g3 g4 g5
  go_wp2_with fail
  go_loopg [10, 36] vs.length (VRel w7 vs)
  case atStart => exact ⟨0, by omega, by omega, by simp [all62], rfl, rfl⟩
  case round =>
    obtain ⟨kk, hk, rfl, rfl, rfl, rfl⟩ := hrel
    by_cases hlt : kk < vs.length
    · obtain ⟨g, hg1, hg2, hg3, hga, hg4⟩ := ints_look HV.out.2 hlt
      have hnx := all_next hlt
      generalize hx : vs[kk] = x at hg1 hnx
      have HN := Lib.hid (And.intro hnx hx)
      clear hnx hx hg2 hg3 hga
      cases hal : all62 (vs.take kk)
      · have HAL := Lib.hid hal
        go_wp2_with fail
        go_roundg (vs.length - (kk + 1))
        case measure => omega
        case rel => exact ⟨kk + 1, hlt, rfl, by rw [HN.out.1, HAL.out, Bool.false_and], by go_num, rfl⟩
      · have HAL := Lib.hid hal
        go_wp2_with fail
        go_roundg (vs.length - (kk + 1))
        case measure => omega
        case rel => exact ⟨kk + 1, hlt, rfl, by rw [HN.out.1, HAL.out, Bool.true_and], by go_num, rfl⟩
    · have hkv : kk = vs.length := by omega
      subst hkv
      rw [List.take_length]
      obtain ⟨sm, hsm⟩ : ∃ sm, all62 vs = sm := ⟨_, rfl⟩
      rw [hsm]
      have HSM := Lib.hid hsm
      clear hsm
      obtain ⟨⟨g0, g1, g2, g3, g4, g5⟩, _⟩ := blk_facts (HK7.out.box (b := w.heap.size) (List.mem_cons_of_mem _ (List.mem_cons_of_mem _ List.mem_cons_self)))
      go_wp2_with fail
      refine (ren_any T _ _ (HK7.out.lie (t := T) (List.mem_cons_of_mem _ List.mem_cons_self))).mono ?_
      rintro e w8 ⟨kr, nr, ir, rr, mr, ar, lr, cr, rfl, hb, hq⟩
      rw [renR_good HG.out] at hq
      obtain ⟨w9, hw9⟩ : ∃ w9, w9 = w8.alloc (.cells #[.int .i64 kr, .string nr, .int .i64 ir, .int .u64 rr, .int .u64 mr, .slice ar lr cr] 44) := ⟨_, rfl⟩
      have hk9 := (((HK7.out.below hb).below (ba w8 (.cells #[.int .i64 kr, .string nr, .int .i64 ir, .int .u64 rr, .int .u64 mr, .slice ar lr cr] 44))).addb (alloc_at w8 _)).addt ((hq.off (Y := No) fun _ _ h => h.elim).below (ba w8 (.cells #[.int .i64 kr, .string nr, .int .i64 ir, .int .u64 rr, .int .u64 mr, .slice ar lr cr] 44)))
      rw [← hw9] at hk9
      have HK9 := Lib.hid (And.intro hk9 hw9)
      clear hb hq hw9 hk9 g0 g1 g2 g3 g4 g5
      go_upto_region 12 with fail
      rw [← HK9.out.2]
      obtain ⟨P, hP⟩ : ∃ P : World → Prop, P = Kn w [(w8.heap.size, .cells #[.int .i64 kr, .string nr, .int .i64 ir, .int .u64 rr, .int .u64 mr, .slice ar lr cr] 44), (w5.heap.size, .cells #[.int .i64 ku, .string nu, .int .i64 iu, .int .u64 ru, .int .u64 mu, .slice au lu cu] 44), (w.heap.size + 1, .cells #[.int .i64 bb] 2), (w.heap.size, .cells #[.int .i64 k, .string n, .int .i64 i, .int .u64 re, .int .u64 im, .slice at' l.length ct] 44)] [(rn T, .agg #[.int .i64 kr, .string nr, .int .i64 ir, .int .u64 rr, .int .u64 mr, .slice ar lr cr]), (U, .agg #[.int .i64 ku, .string nu, .int .i64 iu, .int .u64 ru, .int .u64 mu, .slice au lu cu]), (T, .agg #[.int .i64 k, .string n, .int .i64 i, .int .u64 re, .int .u64 im, .slice at' l.length ct])] := ⟨_, rfl⟩
      have hst : ∀ W W', P W → Below W.heap.size W W' → P W' := by rw [hP]; exact fun W W' => Kn.below
      have hcl : ∀ W, P W → _ ∧ _ ∧ _ := fun W (h : P W) => ⟨(blk_facts (w := W) (b := w.heap.size) (by rw [hP] at h; exact h.box (List.mem_cons_of_mem _ (List.mem_cons_of_mem _ (List.mem_cons_of_mem _ List.mem_cons_self))))).1, (blk_facts (w := W) (b := w5.heap.size) (by rw [hP] at h; exact h.box (List.mem_cons_of_mem _ List.mem_cons_self))).1, (blk_facts (w := W) (b := w8.heap.size) (by rw [hP] at h; exact h.box List.mem_cons_self)).1⟩
      have hlr : ∀ W, P W → Lies No W (rn T) (.agg #[.int .i64 kr, .string nr, .int .i64 ir, .int .u64 rr, .int .u64 mr, .slice ar lr cr]) := by rw [hP]; exact fun W h => h.lie List.mem_cons_self
      have hlu : ∀ W, P W → Lies No W U (.agg #[.int .i64 ku, .string nu, .int .i64 iu, .int .u64 ru, .int .u64 mu, .slice au lu cu]) := by rw [hP]; exact fun W h => h.lie (List.mem_cons_of_mem _ List.mem_cons_self)
      have hlt : ∀ W, P W → Lies No W T (.agg #[.int .i64 k, .string n, .int .i64 i, .int .u64 re, .int .u64 im, .slice at' l.length ct]) := by rw [hP]; exact fun W h => h.lie (List.mem_cons_of_mem _ (List.mem_cons_of_mem _ List.mem_cons_self))
      have hP9 : P w9 := by rw [hP]; exact HK9.out.1
      have hgr := good_rn HG.out
      have hrr : renR (rn T) = rn T := by rw [renR_good hgr, rn_rn HG.out]
      have hss : sameB (rn T) (rn T) = true := by rw [sameB_refl]; exact hgr
      have htr : varB T (rn T) = true := by unfold varB; rw [renR_good HG.out, hrr]; exact hss
      have hUU : sm = true → renR U = rn T ∧ varB T U = true ∧ varB U T = true := fun h => by
        have hal : ∀ x ∈ occ T, x < 4611686018427387904 := fun x hx => by
          have h1 : all62 vs = true := HSM.out.trans h
          rw [HV.out.1] at h1
          have := (List.all_eq_true.1 h1) x ((mem_vars HG.out x).2 hx)
          simpa using this
        have hin : Inj (fx bb) fun n => n ∈ occ T := fun x y hx hy he => fx_inj HBB.out.2 ⟨occ0 HG.out x hx, hal x hx⟩ ⟨occ0 HG.out y hy, hal y hy⟩ he
        have h0 : ∀ n ∈ occ T, 0 ≤ fx bb n := fun n _ => (fx_range bb n).1
        have hgu : good U = true := by rw [HU.out]; exact ren_good HG.out h0
        have hru : renR U = rn T := by rw [renR_good hgu, HU.out]; exact rn_inj HG.out h0 hin
        refine ⟨hru, ?_, ?_⟩
        · unfold varB; rw [renR_good HG.out, hru]; exact hss
        · unfold varB; rw [renR_good HG.out, hru]; exact hss
      have RNR := Lib.hid (renP hst hlr hrr)
      have SXR := Lib.hid (sameX hst hlr hss)
      have VTR := Lib.hid (varP hst hlt hlr htr)
      have HST := Lib.hid hst; have HCL := Lib.hid hcl; have HLT := Lib.hid hlt; have HPE := Lib.hid hP; have HGR := Lib.hid hgr
      have VV : Hid (sm = true → (∀ W, P W → Calls Try.prog 49 #[.agg #[.int .i64 k, .string n, .int .i64 i, .int .u64 re, .int .u64 im, .slice at' l.length ct], .agg #[.int .i64 ku, .string nu, .int .i64 iu, .int .u64 ru, .int .u64 mu, .slice au lu cu]] W fun e w' => e = .returned (.bool true) ∧ P w') ∧ (∀ W, P W → Calls Try.prog 49 #[.agg #[.int .i64 ku, .string nu, .int .i64 iu, .int .u64 ru, .int .u64 mu, .slice au lu cu], .agg #[.int .i64 k, .string n, .int .i64 i, .int .u64 re, .int .u64 im, .slice at' l.length ct]] W fun e w' => e = .returned (.bool true) ∧ P w') ∧ _) := Lib.hid fun h => ⟨varP hst hlt hlu (hUU h).2.1, varP hst hlu hlt (hUU h).2.2, renP hst hlu (hUU h).1⟩
      clear hst hcl hlr hlu hlt hP hgr hrr hss htr hUU
      go_cut [80] from 48 to 79 (fun s80 wx => s80 = .bool false ∧ P wx)
      case first =>
        cases hs : sm
        · subst hs
          refine wp_region_noPanic ?_
          refine wp_region_held_drew (S := (fun w' => (w'.cell? ⟨w.heap.size, 0, none⟩ = some (.int .i64 k) ∧ w'.cell? ⟨w.heap.size, 1, none⟩ = some (.string n) ∧ w'.cell? ⟨w.heap.size, 2, none⟩ = some (.int .i64 i) ∧ w'.cell? ⟨w.heap.size, 3, none⟩ = some (.int .u64 re) ∧ w'.cell? ⟨w.heap.size, 4, none⟩ = some (.int .u64 im) ∧ w'.cell? ⟨w.heap.size, 5, none⟩ = some (.slice at' l.length ct)) ∧ (w'.cell? ⟨w5.heap.size, 0, none⟩ = some (.int .i64 ku) ∧ w'.cell? ⟨w5.heap.size, 1, none⟩ = some (.string nu) ∧ w'.cell? ⟨w5.heap.size, 2, none⟩ = some (.int .i64 iu) ∧ w'.cell? ⟨w5.heap.size, 3, none⟩ = some (.int .u64 ru) ∧ w'.cell? ⟨w5.heap.size, 4, none⟩ = some (.int .u64 mu) ∧ w'.cell? ⟨w5.heap.size, 5, none⟩ = some (.slice au lu cu)) ∧ (w'.cell? ⟨w8.heap.size, 0, none⟩ = some (.int .i64 kr) ∧ w'.cell? ⟨w8.heap.size, 1, none⟩ = some (.string nr) ∧ w'.cell? ⟨w8.heap.size, 2, none⟩ = some (.int .i64 ir) ∧ w'.cell? ⟨w8.heap.size, 3, none⟩ = some (.int .u64 rr) ∧ w'.cell? ⟨w8.heap.size, 4, none⟩ = some (.int .u64 mr) ∧ w'.cell? ⟨w8.heap.size, 5, none⟩ = some (.slice ar lr cr)) ∧ P w')) (by kernel_rfl) ?_ (fun hHeld => ?_)
          · (try dsimp only); first | (exact ⟨(HCL.out _ (by assumption)).1, (HCL.out _ (by assumption)).2.1, (HCL.out _ (by assumption)).2.2, by assumption⟩) | (have hPd := HST.out _ _ (by assumption) (bdr _); exact ⟨(HCL.out _ hPd).1, (HCL.out _ hPd).2.1, (HCL.out _ hPd).2.2, hPd⟩) | go_keep
          refine wpAnyH_take (i := 0) (v := ?_) rfl (by kernel_rfl) (by kernel_rfl) (by kernel_rfl) (fun _ _ _ h => h) (Or.inl ⟨by rfl, ?_⟩) (by assumption) ?_
          rotate_left
          · (intro w hSw; (try dsimp only at hSw); go_simp; first | done | with_reducible rfl)
          try simp only [Act.put, List.getElem_toArray, List.getElem_cons_zero, List.getElem_cons_succ, List.setIfInBounds_toArray, List.set_cons_zero, List.set_cons_succ]
          refine wpAnyH_take (i := 1) (v := ?_) rfl (by kernel_rfl) (by kernel_rfl) (by kernel_rfl) (fun _ _ _ h => h) (Or.inl ⟨by rfl, ?_⟩) (by assumption) ?_
          rotate_left
          · (intro w hSw; (try dsimp only at hSw); go_simp; first | done | with_reducible rfl)
          try simp only [Act.put, List.getElem_toArray, List.getElem_cons_zero, List.getElem_cons_succ, List.setIfInBounds_toArray, List.set_cons_zero, List.set_cons_succ]
          refine wpAnyH_take (i := 2) rfl (by kernel_rfl) (by kernel_rfl) (by kernel_rfl) (fun _ _ _ h => h) (Or.inr ⟨by rfl, rfl⟩) (by assumption) ?_
          try simp only [Act.put, List.getElem_toArray, List.getElem_cons_zero, List.getElem_cons_succ, List.setIfInBounds_toArray, List.set_cons_zero, List.set_cons_succ]
          refine wpAnyH_take (i := 3) rfl (by kernel_rfl) (by kernel_rfl) (by kernel_rfl) (fun _ _ _ h => h) (Or.inr ⟨by rfl, rfl⟩) (by assumption) ?_
          try simp only [Act.put, List.getElem_toArray, List.getElem_cons_zero, List.getElem_cons_succ, List.setIfInBounds_toArray, List.set_cons_zero, List.set_cons_succ]
          refine wpAnyH_take (i := 4) rfl (by kernel_rfl) (by kernel_rfl) (by kernel_rfl) (fun _ _ _ h => h) (Or.inr ⟨by rfl, rfl⟩) (by assumption) ?_
          try simp only [Act.put, List.getElem_toArray, List.getElem_cons_zero, List.getElem_cons_succ, List.setIfInBounds_toArray, List.set_cons_zero, List.set_cons_succ]
          refine wpAnyH_take (i := 5) rfl (by kernel_rfl) (by kernel_rfl) (by kernel_rfl) (fun _ _ _ h => h) (Or.inr ⟨by rfl, rfl⟩) (by assumption) ?_
          try simp only [Act.put, List.getElem_toArray, List.getElem_cons_zero, List.getElem_cons_succ, List.setIfInBounds_toArray, List.set_cons_zero, List.set_cons_succ]
          refine wpAnyH_take (i := 6) rfl (by kernel_rfl) (by kernel_rfl) (by kernel_rfl) (fun _ _ _ h => h) (Or.inr ⟨by rfl, rfl⟩) (by assumption) ?_
          try simp only [Act.put, List.getElem_toArray, List.getElem_cons_zero, List.getElem_cons_succ, List.setIfInBounds_toArray, List.set_cons_zero, List.set_cons_succ]
          refine wpAnyH_take (i := 7) rfl (by kernel_rfl) (by kernel_rfl) (by kernel_rfl) (fun _ _ _ h => h) (Or.inr ⟨by rfl, rfl⟩) (by assumption) ?_
          try simp only [Act.put, List.getElem_toArray, List.getElem_cons_zero, List.getElem_cons_succ, List.setIfInBounds_toArray, List.set_cons_zero, List.set_cons_succ]
          refine wpAnyH_take (i := 8) rfl (by kernel_rfl) (by kernel_rfl) (by kernel_rfl) (fun _ _ _ h => h) (Or.inr ⟨by rfl, rfl⟩) (by assumption) ?_
          try simp only [Act.put, List.getElem_toArray, List.getElem_cons_zero, List.getElem_cons_succ, List.setIfInBounds_toArray, List.set_cons_zero, List.set_cons_succ]
          refine wpAnyH_take (i := 9) rfl (by kernel_rfl) (by kernel_rfl) (by kernel_rfl) (fun _ _ _ h => h) (Or.inr ⟨by rfl, rfl⟩) (by assumption) ?_
          try simp only [Act.put, List.getElem_toArray, List.getElem_cons_zero, List.getElem_cons_succ, List.setIfInBounds_toArray, List.set_cons_zero, List.set_cons_succ]
          refine wpAnyH_take (i := 10) rfl (by kernel_rfl) (by kernel_rfl) (by kernel_rfl) (fun _ _ _ h => h) (Or.inr ⟨by rfl, rfl⟩) (by assumption) ?_
          try simp only [Act.put, List.getElem_toArray, List.getElem_cons_zero, List.getElem_cons_succ, List.setIfInBounds_toArray, List.set_cons_zero, List.set_cons_succ]
          refine wpAnyH_take (i := 11) rfl (by kernel_rfl) (by kernel_rfl) (by kernel_rfl) (fun _ _ _ h => h) (Or.inr ⟨by rfl, rfl⟩) (by assumption) ?_
          try simp only [Act.put, List.getElem_toArray, List.getElem_cons_zero, List.getElem_cons_succ, List.setIfInBounds_toArray, List.set_cons_zero, List.set_cons_succ]
          refine wpAnyH_take (i := 12) rfl (by kernel_rfl) (by kernel_rfl) (by kernel_rfl) (fun _ _ _ h => h) (Or.inr ⟨by rfl, rfl⟩) (by assumption) ?_
          try simp only [Act.put, List.getElem_toArray, List.getElem_cons_zero, List.getElem_cons_succ, List.setIfInBounds_toArray, List.set_cons_zero, List.set_cons_succ]
          refine wpAnyH_take (i := 13) rfl (by kernel_rfl) (by kernel_rfl) (by kernel_rfl) (fun _ _ _ h => h) (Or.inr ⟨by rfl, rfl⟩) (by assumption) ?_
          try simp only [Act.put, List.getElem_toArray, List.getElem_cons_zero, List.getElem_cons_succ, List.setIfInBounds_toArray, List.set_cons_zero, List.set_cons_succ]
          refine wpAnyH_take (i := 14) rfl (by kernel_rfl) (by kernel_rfl) (by kernel_rfl) (fun _ _ _ h => h) (Or.inr ⟨by rfl, rfl⟩) (by assumption) ?_
          try simp only [Act.put, List.getElem_toArray, List.getElem_cons_zero, List.getElem_cons_succ, List.setIfInBounds_toArray, List.set_cons_zero, List.set_cons_succ]
          refine wpAnyH_take (i := 15) rfl (by kernel_rfl) (by kernel_rfl) (by kernel_rfl) (fun _ _ _ h => h) (Or.inr ⟨by rfl, rfl⟩) (by assumption) ?_
          try simp only [Act.put, List.getElem_toArray, List.getElem_cons_zero, List.getElem_cons_succ, List.setIfInBounds_toArray, List.set_cons_zero, List.set_cons_succ]
          refine wpAnyH_take (i := 16) rfl (by kernel_rfl) (by kernel_rfl) (by kernel_rfl) (fun _ _ _ h => h) (Or.inr ⟨by rfl, rfl⟩) (by assumption) ?_
          try simp only [Act.put, List.getElem_toArray, List.getElem_cons_zero, List.getElem_cons_succ, List.setIfInBounds_toArray, List.set_cons_zero, List.set_cons_succ]
          refine wpAnyH_take (i := 17) rfl (by kernel_rfl) (by kernel_rfl) (by kernel_rfl) (fun _ _ _ h => h) (Or.inr ⟨by rfl, rfl⟩) (by assumption) ?_
          try simp only [Act.put, List.getElem_toArray, List.getElem_cons_zero, List.getElem_cons_succ, List.setIfInBounds_toArray, List.set_cons_zero, List.set_cons_succ]
          refine wpAnyH_take (i := 18) rfl (by kernel_rfl) (by kernel_rfl) (by kernel_rfl) (fun _ _ _ h => h) (Or.inr ⟨by rfl, rfl⟩) (by assumption) ?_
          try simp only [Act.put, List.getElem_toArray, List.getElem_cons_zero, List.getElem_cons_succ, List.setIfInBounds_toArray, List.set_cons_zero, List.set_cons_succ]
          refine wpAnyH_take (i := 19) (v := ?_) rfl (by kernel_rfl) (by kernel_rfl) (by kernel_rfl) (fun _ _ _ h => h) (Or.inl ⟨by rfl, ?_⟩) (by assumption) ?_
          rotate_left
          · (intro w hSw; (try dsimp only at hSw); go_simp; first | done | with_reducible rfl)
          try simp only [Act.put, List.getElem_toArray, List.getElem_cons_zero, List.getElem_cons_succ, List.setIfInBounds_toArray, List.set_cons_zero, List.set_cons_succ]
          refine wpAnyH_take (i := 20) (v := ?_) rfl (by kernel_rfl) (by kernel_rfl) (by kernel_rfl) (fun _ _ _ h => h) (Or.inl ⟨by rfl, ?_⟩) (by assumption) ?_
          rotate_left
          · (intro w hSw; (try dsimp only at hSw); go_simp; first | done | with_reducible rfl)
          try simp only [Act.put, List.getElem_toArray, List.getElem_cons_zero, List.getElem_cons_succ, List.setIfInBounds_toArray, List.set_cons_zero, List.set_cons_succ]
          refine wpAnyH_take (i := 21) (v := ?_) rfl (by kernel_rfl) (by kernel_rfl) (by kernel_rfl) (fun _ _ _ h => h) (Or.inl ⟨by rfl, ?_⟩) (by assumption) ?_
          rotate_left
          · (intro w hSw; (try dsimp only at hSw); go_simp; first | done | with_reducible rfl)
          try simp only [Act.put, List.getElem_toArray, List.getElem_cons_zero, List.getElem_cons_succ, List.setIfInBounds_toArray, List.set_cons_zero, List.set_cons_succ]
          refine wpAnyH_take (i := 23) (v := ?_) rfl (by kernel_rfl) (by kernel_rfl) (by kernel_rfl) (fun _ _ _ h => h) (Or.inl ⟨by rfl, ?_⟩) (by assumption) ?_
          rotate_left
          · (intro w hSw; (try dsimp only at hSw); go_simp; first | done | with_reducible rfl)
          try simp only [Act.put, List.getElem_toArray, List.getElem_cons_zero, List.getElem_cons_succ, List.setIfInBounds_toArray, List.set_cons_zero, List.set_cons_succ]
          refine wpAnyH_ready (rs := [22]) (by kernel_rfl) (by simp) ?_
          refine AllReadyH.cons rfl (fun K hK => ?_) AllReadyH.nil
          go_simp
          refine (RNR.out _ ?_).mono ?_
          · first | assumption | exact HST.out _ _ (by assumption) (bdr _)
          rintro e wN ⟨kx, nx, ix, rx, mx, ax, lx, cx, rfl, hq, hSN⟩
          have QX := Lib.hid hq
          clear hq
          go_wp2_with fail
          refine hK.out _ _ ?_ (fun hHeld => ?_)
          · (try dsimp only); first | (exact ⟨(HCL.out _ (by assumption)).1, (HCL.out _ (by assumption)).2.1, (HCL.out _ (by assumption)).2.2, by assumption⟩) | (have hPd := HST.out _ _ (by assumption) (bdr _); exact ⟨(HCL.out _ hPd).1, (HCL.out _ hPd).2.1, (HCL.out _ hPd).2.2, hPd⟩) | go_keep
          clear hK K
          try simp only [Act.put, List.getElem_toArray, List.getElem_cons_zero, List.getElem_cons_succ, List.setIfInBounds_toArray, List.set_cons_zero, List.set_cons_succ]
          refine wpAnyH_ready (rs := [24]) (by kernel_rfl) (by simp) ?_
          refine AllReadyH.cons rfl (fun K hK => ?_) AllReadyH.nil
          go_simp
          refine (SXR.out _ _ ?_ QX.out).mono ?_
          · first | assumption | exact HST.out _ _ (by assumption) (bdr _)
          rintro e wN ⟨rfl, hSN⟩
          go_wp2_with fail
          refine hK.out _ _ ?_ (fun hHeld => ?_)
          · (try dsimp only); first | (exact ⟨(HCL.out _ (by assumption)).1, (HCL.out _ (by assumption)).2.1, (HCL.out _ (by assumption)).2.2, by assumption⟩) | (have hPd := HST.out _ _ (by assumption) (bdr _); exact ⟨(HCL.out _ hPd).1, (HCL.out _ hPd).2.1, (HCL.out _ hPd).2.2, hPd⟩) | go_keep
          clear hK K
          try simp only [Act.put, List.getElem_toArray, List.getElem_cons_zero, List.getElem_cons_succ, List.setIfInBounds_toArray, List.set_cons_zero, List.set_cons_succ]
          refine wpAnyH_take (i := 25) (v := ?_) rfl (by kernel_rfl) (by kernel_rfl) (by kernel_rfl) (fun _ _ _ h => h) (Or.inl ⟨by rfl, ?_⟩) (by assumption) ?_
          rotate_left
          · (intro w hSw; (try dsimp only at hSw); go_simp; first | done | with_reducible rfl)
          try simp only [Act.put, List.getElem_toArray, List.getElem_cons_zero, List.getElem_cons_succ, List.setIfInBounds_toArray, List.set_cons_zero, List.set_cons_succ]
          refine wpAnyH_take (i := 26) (v := ?_) rfl (by kernel_rfl) (by kernel_rfl) (by kernel_rfl) (fun _ _ _ h => h) (Or.inl ⟨by rfl, ?_⟩) (by assumption) ?_
          rotate_left
          · (intro w hSw; (try dsimp only at hSw); go_simp; first | done | with_reducible rfl)
          try simp only [Act.put, List.getElem_toArray, List.getElem_cons_zero, List.getElem_cons_succ, List.setIfInBounds_toArray, List.set_cons_zero, List.set_cons_succ]
          refine wpAnyH_take (i := 27) (v := ?_) rfl (by kernel_rfl) (by kernel_rfl) (by kernel_rfl) (fun _ _ _ h => h) (Or.inl ⟨by rfl, ?_⟩) (by assumption) ?_
          rotate_left
          · (intro w hSw; (try dsimp only at hSw); go_simp; first | done | with_reducible rfl)
          try simp only [Act.put, List.getElem_toArray, List.getElem_cons_zero, List.getElem_cons_succ, List.setIfInBounds_toArray, List.set_cons_zero, List.set_cons_succ]
          refine wpAnyH_take (i := 28) (v := ?_) rfl (by kernel_rfl) (by kernel_rfl) (by kernel_rfl) (fun _ _ _ h => h) (Or.inl ⟨by rfl, ?_⟩) (by assumption) ?_
          rotate_left
          · (intro w hSw; (try dsimp only at hSw); go_simp; first | done | with_reducible rfl)
          try simp only [Act.put, List.getElem_toArray, List.getElem_cons_zero, List.getElem_cons_succ, List.setIfInBounds_toArray, List.set_cons_zero, List.set_cons_succ]
          refine wpAnyH_take (i := 29) (v := ?_) rfl (by kernel_rfl) (by kernel_rfl) (by kernel_rfl) (fun _ _ _ h => h) (Or.inl ⟨by rfl, ?_⟩) (by assumption) ?_
          rotate_left
          · (intro w hSw; (try dsimp only at hSw); go_simp; first | done | with_reducible rfl)
          try simp only [Act.put, List.getElem_toArray, List.getElem_cons_zero, List.getElem_cons_succ, List.setIfInBounds_toArray, List.set_cons_zero, List.set_cons_succ]
          refine wpAnyH_ready (rs := [30]) (by kernel_rfl) (by simp) ?_
          refine AllReadyH.cons rfl (fun K hK => ?_) AllReadyH.nil
          go_simp
          refine (VTR.out _ ?_).mono ?_
          · first | assumption | exact HST.out _ _ (by assumption) (bdr _)
          rintro e wN ⟨rfl, hSN⟩
          go_wp2_with fail
          refine hK.out _ _ ?_ (fun hHeld => ?_)
          · (try dsimp only); first | (exact ⟨(HCL.out _ (by assumption)).1, (HCL.out _ (by assumption)).2.1, (HCL.out _ (by assumption)).2.2, by assumption⟩) | (have hPd := HST.out _ _ (by assumption) (bdr _); exact ⟨(HCL.out _ hPd).1, (HCL.out _ hPd).2.1, (HCL.out _ hPd).2.2, hPd⟩) | go_keep
          clear hK K
          try simp only [Act.put, List.getElem_toArray, List.getElem_cons_zero, List.getElem_cons_succ, List.setIfInBounds_toArray, List.set_cons_zero, List.set_cons_succ]
          refine wpAnyH_take (i := 31) (v := ?_) rfl (by kernel_rfl) (by kernel_rfl) (by kernel_rfl) (fun _ _ _ h => h) (Or.inl ⟨by rfl, ?_⟩) (by assumption) ?_
          rotate_left
          · (intro w hSw; (try dsimp only at hSw); go_simp; first | done | with_reducible rfl)
          try simp only [Act.put, List.getElem_toArray, List.getElem_cons_zero, List.getElem_cons_succ, List.setIfInBounds_toArray, List.set_cons_zero, List.set_cons_succ]
          refine wpAnyH_take (i := 32) (v := ?_) rfl (by kernel_rfl) (by kernel_rfl) (by kernel_rfl) (fun _ _ _ h => h) (Or.inl ⟨by rfl, ?_⟩) (by assumption) ?_
          rotate_left
          · (intro w hSw; (try dsimp only at hSw); go_simp; first | done | with_reducible rfl)
          try simp only [Act.put, List.getElem_toArray, List.getElem_cons_zero, List.getElem_cons_succ, List.setIfInBounds_toArray, List.set_cons_zero, List.set_cons_succ]
          refine wpAnyH_done (by kernel_rfl) ?_ _
          refine NoPanic.normal ?_
          go_wp2_with fail
          go_meet
          exact ⟨rfl, by assumption⟩
        · subst hs
          have VTU := Lib.hid (VV.out rfl).1; have VUT := Lib.hid (VV.out rfl).2.1; have RNU := Lib.hid (VV.out rfl).2.2
          go_region_held3 (fun w' => (w'.cell? ⟨w.heap.size, 0, none⟩ = some (.int .i64 k) ∧ w'.cell? ⟨w.heap.size, 1, none⟩ = some (.string n) ∧ w'.cell? ⟨w.heap.size, 2, none⟩ = some (.int .i64 i) ∧ w'.cell? ⟨w.heap.size, 3, none⟩ = some (.int .u64 re) ∧ w'.cell? ⟨w.heap.size, 4, none⟩ = some (.int .u64 im) ∧ w'.cell? ⟨w.heap.size, 5, none⟩ = some (.slice at' l.length ct)) ∧ (w'.cell? ⟨w5.heap.size, 0, none⟩ = some (.int .i64 ku) ∧ w'.cell? ⟨w5.heap.size, 1, none⟩ = some (.string nu) ∧ w'.cell? ⟨w5.heap.size, 2, none⟩ = some (.int .i64 iu) ∧ w'.cell? ⟨w5.heap.size, 3, none⟩ = some (.int .u64 ru) ∧ w'.cell? ⟨w5.heap.size, 4, none⟩ = some (.int .u64 mu) ∧ w'.cell? ⟨w5.heap.size, 5, none⟩ = some (.slice au lu cu)) ∧ (w'.cell? ⟨w8.heap.size, 0, none⟩ = some (.int .i64 kr) ∧ w'.cell? ⟨w8.heap.size, 1, none⟩ = some (.string nr) ∧ w'.cell? ⟨w8.heap.size, 2, none⟩ = some (.int .i64 ir) ∧ w'.cell? ⟨w8.heap.size, 3, none⟩ = some (.int .u64 rr) ∧ w'.cell? ⟨w8.heap.size, 4, none⟩ = some (.int .u64 mr) ∧ w'.cell? ⟨w8.heap.size, 5, none⟩ = some (.slice ar lr cr)) ∧ P w')
            (first | (exact ⟨(HCL.out _ (by assumption)).1, (HCL.out _ (by assumption)).2.1, (HCL.out _ (by assumption)).2.2, by assumption⟩) | (have hPd := HST.out _ _ (by assumption) (bdr _); exact ⟨(HCL.out _ hPd).1, (HCL.out _ hPd).2.1, (HCL.out _ hPd).2.2, hPd⟩) | go_keep)
            (first
              | (go_at_call 49; (first | (with_reducible refine (VTU.out _ ?_).mono ?_) | (with_reducible refine (VUT.out _ ?_).mono ?_) | (with_reducible refine (VTR.out _ ?_).mono ?_)); (first | assumption | exact HST.out _ _ (by assumption) (bdr _)); rintro e wN ⟨rfl, hSN⟩)
              | (go_at_call 48; (first | (with_reducible refine (RNU.out _ ?_).mono ?_) | (with_reducible refine (RNR.out _ ?_).mono ?_)); (first | assumption | exact HST.out _ _ (by assumption) (bdr _)); rintro e wN ⟨kx, nx, ix, rx, mx, ax, lx, cx, rfl, hq, hSN⟩; have QX := Lib.hid hq; clear hq)
              | (go_at_call 50; (with_reducible refine (SXR.out _ _ ?_ QX.out).mono ?_); (first | assumption | exact HST.out _ _ (by assumption) (bdr _)); rintro e wN ⟨rfl, hSN⟩))
          go_wp2_with fail
          go_meet
          exact ⟨rfl, by assumption⟩
      case rest =>
        obtain ⟨rfl, hPx⟩ := hcut
        have hc3 := HCL.out _ hPx
        obtain ⟨⟨e0, e1, e2, e3, e4, e5⟩, _⟩ := hc3
        go_wp2_with fail
        refine (vars_any T _ _ (HLT.out _ hPx)).mono ?_
        rintro e w10 ⟨v, rfl, hv, hb⟩
        rw [← HV.out.1] at hv
        obtain ⟨a14, c14, rfl⟩ := Go.Proofs.Ytmcfapefbakceaa.kp.shape hv
        have hP10 := HST.out _ _ hPx hb
        have H10 := Lib.hid (And.intro hv hP10)
        clear hv hb hP10 hPx e0 e1 e2 e3 e4 e5
        by_cases hl2 : vs.length < 2
        · have hl2' : decide ((vs.length : Int) < 2) = true := by simp; omega
          clear hl2
          go_wp2_with fail
          refine (awake_any _).mono ?_
          rintro e w11 ⟨rfl, hb⟩
          have hbw : Below w.heap.size w w11 := by have h := H10.out.2; rw [HPE.out] at h; exact h.1.trans (hb.mono h.1.size)
          have HBW := Lib.hid hbw
          clear hb hbw
          go_wp2_with fail
          go_ret
          exact ⟨rfl, HBW.out⟩
        have hl2' : decide ((vs.length : Int) < 2) = false := by simp; omega
        have hz : ((vs.length : Int) == 0) = false := by rw [beq_eq_false_iff_ne]; omega
        obtain ⟨kp, hkp, hkl⟩ := at_ix a2 (n := vs.length) (by omega) hvl
        obtain ⟨kq, hkq, hkm⟩ := at_ix a3 (n := vs.length) (by omega) hvl
        obtain ⟨g1, hg1, hgb1, hgl1, hga1, hgi1⟩ := ints_look H10.out.1 hkl
        obtain ⟨g2, hg2, hgb2, hgl2, hga2, hgi2⟩ := ints_look H10.out.1 hkm
        have hg12 : g2 = g1 := by rw [hga1] at hga2; simpa using hga2.symm
        subst hg12
        obtain ⟨p, hp⟩ : ∃ p, vs[kp] = p := ⟨_, rfl⟩
        obtain ⟨q, hq⟩ : ∃ q, vs[kq] = q := ⟨_, rfl⟩
        rw [hp] at hg1; rw [hq] at hg2
        have hmp : p ∈ vs := hp ▸ List.getElem_mem hkl
        have hmq : q ∈ vs := hq ▸ List.getElem_mem hkm
        have HPQ := Lib.hid (And.intro hmp hmq)
        have hgA := ((ba w10 (.cells #[.int .i64 0] 2)).cell (p := ⟨g2, kp, none⟩) hgl1).trans hg1
        have hgB := ((ba w10 (.cells #[.int .i64 0] 2)).cell (p := ⟨g2, kq, none⟩) hgl1).trans hg2
        have hgA2 := ((ba (w10.alloc (.cells #[.int .i64 0] 2)) (.cells #[.int .i64 0] 2)).cell (p := ⟨g2, kp, none⟩) (show g2 < _ by rw [alloc_size]; omega)).trans hgA
        have hgB2 := ((ba (w10.alloc (.cells #[.int .i64 0] 2)) (.cells #[.int .i64 0] 2)).cell (p := ⟨g2, kq, none⟩) (show g2 < _ by rw [alloc_size]; omega)).trans hgB
        have hwl : IntKind.u64.wrap (vs.length : Int) = (vs.length : Int) := by rw [IntKind.wrap_u64]; omega
        have hz2 : ¬ (vs.length : Int) = 0 := by omega
        clear hp hq hmp hmq hl2 hgb1 hgb2 hga1 hga2
        go_upto_region 17 with fail
        go_cut [15, 16] from 87 to 106 (fun s15 s16 wx => ∃ b1 b2, s15 = .pointer (some ⟨b1, 0, none⟩) ∧ s16 = .pointer (some ⟨b2, 0, none⟩) ∧ wx.heap[b1]? = some (.cells #[.int .i64 p] 2 (0, 0)) ∧ wx.heap[b2]? = some (.cells #[.int .i64 q] 2 (0, 0)) ∧ Below w10.heap.size w10 wx)
        case first =>
          go_region
          all_goals go_wp2_with fail
          all_goals go_meet
          · have h1 := two_box (w := w10) (o := .cells #[.int .i64 p] 2) (o' := .cells #[.int .i64 q] 2) (bdr _)
            exact ⟨_, _, rfl, rfl, h1.1, h1.2.1, h1.2.2⟩
          · have h1 := two_box (w := w10) (o := .cells #[.int .i64 q] 2) (o' := .cells #[.int .i64 p] 2) (bdr _)
            exact ⟨_, _, rfl, rfl, h1.2.1, h1.1, h1.2.2⟩
        case rest =>
          obtain ⟨b1, b2, rfl, rfl, hb1, hb2, hb⟩ := hcut
          have hPx := HST.out _ _ H10.out.2 hb
          have hc3 := HCL.out _ hPx
          obtain ⟨⟨e0, e1, e2, e3, e4, e5⟩, _⟩ := hc3
          have c1 : wc.cell? ⟨b1, 0, none⟩ = some (.int .i64 p) := by simp [World.cell?, hb1]
          have c2 : wc.cell? ⟨b2, 0, none⟩ = some (.int .i64 q) := by simp [World.cell?, hb2]
          have hqr : -9223372036854775808 ≤ q ∧ q ≤ 9223372036854775807 := occ_bound _ _ (HLT.out _ hPx) q (by have := HPQ.out.2; rw [HV.out.1] at this; exact (mem_vars HG.out q).1 this)
          have hat := at2 wc b1 b2 p q c1 c2 hqr
          have HX := Lib.hid (And.intro hPx (And.intro hb1 (And.intro hb2 hat)))
          have hmf : ∀ (fn : Fn) (first cap : Array Value) (w : World), (Instr.makeFunc fn first cap).run Try.prog w = .ok (.func fn first cap) w := fun _ _ _ _ => rfl
          clear hPx hb1 hb2 hb c1 c2 hqr hat hg1 hg2 hgA hgB hgA2 hgB2 hgi1 hgi2 hwl hz hz2 hkp hkq
          go_wp2_with fail
          refine (mp2.map_any wc (mg p q) ⟨b1, 0, none⟩ ⟨b2, 0, none⟩ HX.out.2.2.2 T _ _ (br _) (HLT.out _ HX.out.1) (good_sound HG.out)).mono ?_
          rintro e w11 ⟨kv, nv, iv, rv, mv, av, lv, cv, rfl, hb, hq⟩
          obtain ⟨V, hV⟩ : ∃ V, V = sub (fun n => var (mg p q n)) T := ⟨_, rfl⟩
          rw [← hV] at hq
          obtain ⟨d, hd⟩ : ∃ d, (p == q) = d := ⟨_, rfl⟩
          have hvd : varB T V = d := by
            rw [← hd, hV]
            have hp := (mem_vars HG.out p).1 (by have := HPQ.out.1; rw [HV.out.1] at this; exact this)
            have hq := (mem_vars HG.out q).1 (by have := HPQ.out.2; rw [HV.out.1] at this; exact this)
            exact merge_law HG.out hp hq
          obtain ⟨w12, hw12⟩ : ∃ w12, w12 = w11.alloc (.cells #[.int .i64 kv, .string nv, .int .i64 iv, .int .u64 rv, .int .u64 mv, .slice av lv cv] 44) := ⟨_, rfl⟩
          have hbw := bt hb (ba w11 (.cells #[.int .i64 kv, .string nv, .int .i64 iv, .int .u64 rv, .int .u64 mv, .slice av lv cv] 44))
          obtain ⟨P2, hP2⟩ : ∃ P2 : World → Prop, P2 = fun W => P W ∧ W.heap[w11.heap.size]? = some (.cells #[.int .i64 kv, .string nv, .int .i64 iv, .int .u64 rv, .int .u64 mv, .slice av lv cv] 44 (0, 0)) ∧ W.heap[b1]? = some (.cells #[.int .i64 p] 2 (0, 0)) ∧ W.heap[b2]? = some (.cells #[.int .i64 q] 2 (0, 0)) ∧ Lies No W V (.agg #[.int .i64 kv, .string nv, .int .i64 iv, .int .u64 rv, .int .u64 mv, .slice av lv cv]) := ⟨_, rfl⟩
          have hst2 : ∀ W W', P2 W → Below W.heap.size W W' → P2 W' := by
            rw [hP2]
            exact fun W W' h k => ⟨HST.out _ _ h.1 k, (k.block _ (Array.getElem?_eq_some_iff.1 h.2.1).1).trans h.2.1, (k.block _ (Array.getElem?_eq_some_iff.1 h.2.2.1).1).trans h.2.2.1, (k.block _ (Array.getElem?_eq_some_iff.1 h.2.2.2.1).1).trans h.2.2.2.1, h.2.2.2.2.below k⟩
          have hcl2 : ∀ W, P2 W → _ ∧ _ ∧ W.cell? ⟨b1, 0, none⟩ = some (.int .i64 p) ∧ W.cell? ⟨b2, 0, none⟩ = some (.int .i64 q) := fun W (h : P2 W) => ⟨(HCL.out W (by rw [hP2] at h; exact h.1)).1, (blk_facts (w := W) (b := w11.heap.size) (by rw [hP2] at h; exact h.2.1)).1, by rw [hP2] at h; simp [World.cell?, h.2.2.1], by rw [hP2] at h; simp [World.cell?, h.2.2.2.1]⟩
          have hp12 : P2 w12 := by
            rw [hP2, hw12]
            exact ⟨HST.out _ _ HX.out.1 hbw, alloc_at _ _, (hbw.block _ (Array.getElem?_eq_some_iff.1 HX.out.2.1).1).trans HX.out.2.1, (hbw.block _ (Array.getElem?_eq_some_iff.1 HX.out.2.2.1).1).trans HX.out.2.2.1, (hq.off (Y := No) fun _ _ h => h.elim).below (ba _ _)⟩
          have VTV := Lib.hid (varP hst2 (fun W h => HLT.out W (by rw [hP2] at h; exact h.1)) (fun W h => by rw [hP2] at h; exact h.2.2.2.2) hvd)
          have AWK := Lib.hid (show ∀ W, P2 W → Calls Try.prog 30 #[] W fun e w' => e = .returned (.bool true) ∧ P2 w' from fun W h => (awake_any W).mono fun e w' ⟨x, y⟩ => ⟨x, hst2 _ _ h y⟩)
          have HBE := Lib.hid (show ∀ W, P2 W → Below w.heap.size w W from fun W h => by rw [hP2] at h; have h0 := h.1; rw [HPE.out] at h0; exact h0.1)
          have HST2 := Lib.hid hst2; have HCL2 := Lib.hid hcl2; have HW12 := Lib.hid hw12
          clear hb hq hV hvd hbw hP2 hst2 hcl2 hw12 e0 e1 e2 e3 e4 e5 hmf
          go_upto_region 19 with fail
          rw [← HW12.out]
          cases d
          all_goals
            go_region_held3 (fun w' => (w'.cell? ⟨w.heap.size, 0, none⟩ = some (.int .i64 k) ∧ w'.cell? ⟨w.heap.size, 1, none⟩ = some (.string n) ∧ w'.cell? ⟨w.heap.size, 2, none⟩ = some (.int .i64 i) ∧ w'.cell? ⟨w.heap.size, 3, none⟩ = some (.int .u64 re) ∧ w'.cell? ⟨w.heap.size, 4, none⟩ = some (.int .u64 im) ∧ w'.cell? ⟨w.heap.size, 5, none⟩ = some (.slice at' l.length ct)) ∧ (w'.cell? ⟨w11.heap.size, 0, none⟩ = some (.int .i64 kv) ∧ w'.cell? ⟨w11.heap.size, 1, none⟩ = some (.string nv) ∧ w'.cell? ⟨w11.heap.size, 2, none⟩ = some (.int .i64 iv) ∧ w'.cell? ⟨w11.heap.size, 3, none⟩ = some (.int .u64 rv) ∧ w'.cell? ⟨w11.heap.size, 4, none⟩ = some (.int .u64 mv) ∧ w'.cell? ⟨w11.heap.size, 5, none⟩ = some (.slice av lv cv)) ∧ w'.cell? ⟨b1, 0, none⟩ = some (.int .i64 p) ∧ w'.cell? ⟨b2, 0, none⟩ = some (.int .i64 q) ∧ P2 w')
              (first | (exact ⟨(HCL2.out _ (by assumption)).1, (HCL2.out _ (by assumption)).2.1, (HCL2.out _ (by assumption)).2.2.1, (HCL2.out _ (by assumption)).2.2.2, by assumption⟩) | (have hPd := HST2.out _ _ (by assumption) (bdr _); exact ⟨(HCL2.out _ hPd).1, (HCL2.out _ hPd).2.1, (HCL2.out _ hPd).2.2.1, (HCL2.out _ hPd).2.2.2, hPd⟩) | go_keep)
              (first
                | (go_at_call 49; (with_reducible refine (VTV.out _ ?_).mono ?_); (first | assumption | exact HST2.out _ _ (by assumption) (bdr _)); rintro e wN ⟨rfl, hSN⟩)
                | (go_at_call 30; (with_reducible refine (AWK.out _ ?_).mono ?_); (first | assumption | exact HST2.out _ _ (by assumption) (bdr _)); rintro e wN ⟨rfl, hSN⟩))
          all_goals go_wp2_with fail
          all_goals go_ret
          all_goals exact ⟨rfl, HBE.out _ (by assumption)⟩
set_option maxRecDepth 100000 in
theorem lifted (os : Os) (started : os.Started) (H : Type) (enc : TypeId × Value → H) :
    ReturnsInHanded {} Try.checked os 10 .any (Rows.termVariantsSpec.pre6 enc Try.prog Try.f10 Rows.termVariantsRow.domain false) (Rows.termVariantsSpec.post enc Try.prog Try.f10 false true false false) := by
  refine returnsInHanded_of_change_sized (C := Try.checked) own started (by kernel_rfl) Try.func10
    (ChangeSpec.witness6 (enc := enc) (C := Try.checked) false ⟨#[], #[.agg #[.int .i64 0, .string ⟨#[]⟩, .int .i64 0, .int .u64 0, .int .u64 0, .slice none 0 0], .int .i64 0, .int .i64 0, .int .i64 0], []⟩ 8 (by kernel_rfl) (by kernel_rfl) (by kernel_rfl) (by kernel_rfl)) ?_
  intro W base args ds gs before hval0 hW _ hsz0 _
  have hsz : (DataW.weightsEach Try.prog (Try.f10.params.toList ++ Rows.termVariantsSpec.plain.varTypes Try.prog) (ds ++ gs)).all (· ≤ reachBytes) = true := hsz0
  clear hsz0
  have hval : ∀ (j : Nat) t v, Try.f10.params[j]? = some t → args[j]? = some v → Value.okWide Try.prog W .any base t v := hval0
  have hW' := hW
  obtain ⟨p, q, hA0, hV, rfl, hfz, hnd⟩ := hW
  have hA : DataW.TrodAll enc Try.prog W 0 (fun _ => true) true Try.f10.params.toList args.toList ds p := hA0
  rw [Try.params10] at hA hval hsz
  obtain ⟨v0, vs0, d0, ds0, p0, q0, hargs, rfl, rfl, h0, r0⟩ := trodAll_cons hA
  obtain ⟨v1, vs1, d1, ds1, p1, q1, rfl, rfl, rfl, h1, r1⟩ := trodAll_cons r0
  obtain ⟨v2, vs2, d2, ds2, p2, q2, rfl, rfl, rfl, h2, r2⟩ := trodAll_cons r1
  obtain ⟨v3, vs3, d3, ds3, p3, q3, rfl, rfl, rfl, h3, r3⟩ := trodAll_cons r2
  obtain ⟨rfl, rfl, rfl⟩ := trodAll_nil r3
  obtain rfl : args = #[v0, v1, v2, v3] := by cases args; simp_all
  obtain ⟨rfl, rfl⟩ := trodVars_none hV
  simp only [List.append_nil] at hW'
  have lt0 : ∀ x ∈ p0, x.block < W.heap.size := fun x hx => by
    have := hW'.lt x (by simp [hx])
    simpa using this
  have k0 := h0
  have lt1 : ∀ x ∈ p1, x.block < W.heap.size := fun x hx => by
    have := hW'.lt x (by simp [hx])
    simpa using this
  have k1 := h1
  have lt2 : ∀ x ∈ p2, x.block < W.heap.size := fun x hx => by
    have := hW'.lt x (by simp [hx])
    simpa using this
  have k2 := h2
  have lt3 : ∀ x ∈ p3, x.block < W.heap.size := fun x hx => by
    have := hW'.lt x (by simp [hx])
    simpa using this
  have k3 := h3
  obtain ⟨t0, x0⟩ := term_arg (by obtain ⟨cs, hcs, _⟩ := okWide_struct Try.underlying44 (hval 0 44 v0 rfl rfl); exact ⟨cs, hcs⟩) h0
  obtain ⟨a1, rfl, rfl, rfl, w1⟩ := open_int Try.underlying2 (hval 1 2 v1 rfl rfl) h1
  obtain ⟨a2, rfl, rfl, rfl, w2⟩ := open_int Try.underlying2 (hval 2 2 v2 rfl rfl) h2
  obtain ⟨a3, rfl, rfl, rfl, w3⟩ := open_int Try.underlying2 (hval 3 2 v3 rfl rfl) h3
  clear hA0 hval0
  refine (walk W v0 t0 x0 a1 w1 a2 w2 a3 w3).mono fun e W' ⟨he, hg⟩ => ?_
  subst he
  have ha := (trodAll_cons_mk (Below.trod laidOut (by kernel_rfl) (of_decide_eq_true (by kernel_rfl)) k0 hg lt0) (trodAll_cons_mk (Below.trod laidOut (by kernel_rfl) (of_decide_eq_true (by kernel_rfl)) k1 hg lt1) (trodAll_cons_mk (Below.trod laidOut (by kernel_rfl) (of_decide_eq_true (by kernel_rfl)) k2 hg lt2) (trodAll_cons_mk (Below.trod laidOut (by kernel_rfl) (of_decide_eq_true (by kernel_rfl)) k3 hg lt3) trodAll_mk0))))
  refine ⟨_, rfl, _, _, _, [], _, [], hW', ?_, ha, rfl, hg.frame _, fun h => by cases h⟩
  exact (trodAll_cons_mk (shut_bool Try.underlying4 _) trodAll_mk0)
/-- THE STATEMENT. -/
theorem proved : Rows.TermVariantsSaid :=
  OpenClaim.holds_of_wide 10 Try.f10 rfl rfl rfl rfl rfl rfl rfl ⟨rfl, rfl, rfl, rfl, rfl⟩ rfl rfl rfl rfl rfl (by kernel_rfl) Try.func10 (by kernel_rfl)
    (of_decide_eq_true (by kernel_rfl)) (by unfold Func.isWrapper; first | (rw [if_pos (by decide +kernel)]; kernel_rfl) | (rw [if_neg (by decide +kernel)]; exact ⟨rfl, rfl⟩))
    (fun os started H enc _ => lifted os started H enc)
#print axioms proved
end Go.Proofs.Ytmcfapefbakceaa.termVariants
