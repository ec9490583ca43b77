/- The law TermApplies holds: for every input its Go function returns true and leaves its arguments as they were. No condition beyond the row's own. -/
import Derived.Test.YtmcfapefbakceaaRows
import Derived.WalkKit
import Derived.ProofKit
import Derived.OpenShut
import Derived.SizedLaws
import Derived.Test.YtmcfapefbakceaaTOpen
import Derived.Test.YtmcfapefbakceaaLgt
import Derived.Test.YtmcfapefbakceaaVar
import Derived.Test.YtmcfapefbakceaaVm
import Derived.Test.YtmcfapefbakceaaApp
import Derived.Test.YtmcfapefbakceaaRRn
import Derived.Test.YtmcfapefbakceaaLst
import Derived.Deep.RegionWith
import Derived.Deep.CutRange
import Derived.Deep.LoopGhost
namespace Go.Proofs.Ytmcfapefbakceaa.termApplies
open Go.ChangeShapes Go.WideShapes Go.ChangeAt Go.RowKit
open Go.ChangeMaps (open_string)
open Go.Proofs.Ytmcfapefbakceaa.tm Go.Proofs.Ytmcfapefbakceaa.lie Go.Proofs.Ytmcfapefbakceaa.kp Go.Proofs.Ytmcfapefbakceaa.top
set_option linter.unusedVariables false
theorem own : ownKnob Try.prog.godebug = none := by kernel_rfl
theorem laidOut : laidOutB Try.prog = true := by kernel_rfl
open Go.Proofs.Ytmcfapefbakceaa.tm Go.Proofs.Ytmcfapefbakceaa.lie Go.Proofs.Ytmcfapefbakceaa.kp Go.Proofs.Ytmcfapefbakceaa.mes Go.Proofs.Ytmcfapefbakceaa.vrs Go.Proofs.Ytmcfapefbakceaa.awk Go.Proofs.Ytmcfapefbakceaa.lgt Go.Proofs.Ytmcfapefbakceaa.cur Go.Proofs.Ytmcfapefbakceaa.rws Go.Proofs.Ytmcfapefbakceaa.pln Go.Proofs.Ytmcfapefbakceaa.pla Go.Proofs.Ytmcfapefbakceaa.ren Go.Proofs.Ytmcfapefbakceaa.sme Go.Proofs.Ytmcfapefbakceaa.rvs Go.Proofs.Ytmcfapefbakceaa.app Go.Proofs.Ytmcfapefbakceaa.rrn Go.Proofs.Ytmcfapefbakceaa.ow6 Go.Proofs.Ytmcfapefbakceaa.lst
/-- what is known: boxes, terms; all that is new apart, nothing has turned -/
def Kn (w : World) (bs : List (Nat × Obj)) (ts : List (Tm × Value)) (W : World) : Prop := Below w.heap.size w W ∧ (∀ x ∈ bs, W.heap[x.1]? = some x.2) ∧ ∀ y ∈ ts, Lies No W y.1 y.2
theorem Kn.below {w : World} {bs : List (Nat × Obj)} {ts : List (Tm × Value)} {W W' : World} (h : Kn w bs ts W) (k : Below W.heap.size W W') : Kn w bs ts W' :=
  ⟨h.1.trans (k.mono h.1.size), fun x hx => (k.block _ (Array.getElem?_eq_some_iff.1 (h.2.1 x hx)).1).trans (h.2.1 x hx), fun y hy => (h.2.2 y hy).below k⟩
theorem Kn.addb {w : World} {bs : List (Nat × Obj)} {ts : List (Tm × Value)} {W : World} (h : Kn w bs ts W) {b : Nat} {o : Obj} (hb : W.heap[b]? = some o) : Kn w ((b, o) :: bs) ts W :=
  ⟨h.1, fun x hx => by rcases List.mem_cons.1 hx with rfl | hx; exact hb; exact h.2.1 x hx, h.2.2⟩
theorem Kn.addt {w : World} {bs : List (Nat × Obj)} {ts : List (Tm × Value)} {W : World} (h : Kn w bs ts W) {t : Tm} {v : Value} (hb : Lies No W t v) : Kn w bs ((t, v) :: ts) W :=
  ⟨h.1, h.2.1, fun x hx => by rcases List.mem_cons.1 hx with rfl | hx; exact hb; exact h.2.2 x hx⟩
theorem Kn.box {w : World} {bs : List (Nat × Obj)} {ts : List (Tm × Value)} {W : World} (h : Kn w bs ts W) {b : Nat} {o : Obj} (hm : (b, o) ∈ bs) : W.heap[b]? = some o := h.2.1 _ hm
theorem Kn.lie {w : World} {bs : List (Nat × Obj)} {ts : List (Tm × Value)} {W : World} (h : Kn w bs ts W) {t : Tm} {v : Value} (hm : (t, v) ∈ ts) : Lies No W t v := h.2.2 _ hm
def vsl (n : Nat) : List Tm := (List.range n).map fun (i : Nat) => var (i : Int)
/-- the two rows: variables, copies of g -/
def ARel (w w5 : World) (g : Tm) (N : Nat) (gm : Nat) (s6 s7 s27 : Value) (wr : World) : Prop :=
  ∃ k : Nat, k ≤ N ∧ gm = N - k ∧ s27 = .int .i64 k ∧ XOwn (fun _ => True) w5.heap.size (vsl k) s6 wr ∧ XOwn (fun q => w.heap.size ≤ q) w5.heap.size (List.replicate k g) s7 wr ∧ (∀ q, s6.ownBlock = some q → ¬ s7.ownBlock = some q) ∧ Below w5.heap.size w5 wr
theorem xkeepZ {Z F : Nat → Prop} {B : Nat} {l : List Tm} {v : Value} {w w' : World} (h : XOwn Z B l v w) (hk : Keep F w w') (hF : ∀ k, F k → Z k) (hn : ∀ k, v.ownBlock = some k → ¬ F k) : XOwn Z B l v w' := by
  obtain ⟨xs, ho, hx⟩ := h.ex
  refine ⟨xs, row6_keep ho fun k e => hk.block k (ho.lt k e).2 (hn k e), fun m hm => ?_⟩
  obtain ⟨v0, v1, v2, v3, v4, v5, h0, h1, h2, h3, h4, h5, ht⟩ := hx m hm
  exact ⟨v0, v1, v2, v3, v4, v5, h0, h1, h2, h3, h4, h5, Lies.keep (hk.mono (G := fun k => Z k ∨ v.ownBlock = some k) fun i hi => Or.inl (hF i hi)) (fun _ _ => id) _ _ ht⟩
theorem vsl_len (n : Nat) : (vsl n).length = n := by simp [vsl]
theorem vsl_next (n : Nat) : vsl n ++ [var (n : Int)] = vsl (n + 1) := by simp [vsl, List.range_succ]
theorem aps_self {n : Nat} {x : Int} (h : 0 ≤ x) : aps (vsl n) x = var x := by
  unfold aps
  split
  · simp only [vsl, List.getElem_map, List.getElem_range]
    rw [Int.toNat_of_nonneg h]
  · rfl
theorem vars_rn {t : Tm} (hg : good t = true) : vars (rn t) = (vars t).map (ix0 (vars t)) := by
  unfold vars
  rw [if_pos (good_rn hg), if_pos hg]
  have e : occ (rn t) = (occ t).map (ix0 (vars t)) := occ_ren _ _
  rw [e]
  have h := fold_map (f := ix0 (vars t)) (S := fun n => n ∈ occ t) (fun x y hx hy h => ix0_inj ((mem_vars hg x).2 hx) ((mem_vars hg y).2 hy) h) (occ t) [] (fun x hx => hx) (by simp)
  rw [List.map_nil] at h
  rw [h]
  unfold vars
  rw [if_pos hg]
theorem occ_lt {t : Tm} (hg : good t = true) {x : Int} (hx : x ∈ occ (rn t)) : 0 ≤ x ∧ x.toNat < (vars (rn t)).length := by
  have e : occ (rn t) = (occ t).map (ix0 (vars t)) := occ_ren _ _
  rw [e, List.mem_map] at hx
  obtain ⟨y, hy, rfl⟩ := hx
  have hm := (mem_vars hg y).2 hy
  have h1 : ix0 (vars t) y = ((vars t).idxOf y : Int) := by unfold ix0; rw [if_pos hm]
  rw [vars_rn hg, List.length_map, h1]
  have := List.idxOf_lt_length_of_mem hm
  omega
theorem plain_idem (t : Tm) : plain (plain t) = plain t := sub_plain var t
theorem self_law {t : Tm} (hg : good t = true) : sameB (appR (rn t) (vsl (vars (rn t)).length)) (rn t) = true := by
  have hgr := good_rn hg
  have e : sub (aps (vsl (vars (rn t)).length)) (rn t) = plain (rn t) := sub_congr _ fun x hx => aps_self (occ_lt hg hx).1
  have hgp := good_plain hgr (good_sound hgr)
  unfold appR
  rw [if_pos hgr, e]
  unfold plainR
  rw [if_pos hgp, plain_idem, sameB_iff]
  exact ⟨hgp, hgr, plain_idem _⟩
theorem aps_all {n : Nat} {g : Tm} {x : Int} (h : x.toNat < n) : aps (List.replicate n g) x = g := by
  unfold aps
  simp [h]
theorem vars_nil {t : Tm} (hg : good t = true) (h : occ t = []) : vars t = [] := by
  unfold vars; rw [if_pos hg, h]; rfl
theorem all_vars {t g : Tm} (hg : good t = true) (hk : (appR (rn t) (List.replicate (vars (rn t)).length g)).kind ≠ 0) (hgg : good g = true) (hv : vars g = []) : vars (appR (rn t) (List.replicate (vars (rn t)).length g)) = [] := by
  have hgr := good_rn hg
  unfold appR at hk ⊢
  rw [if_pos hgr] at hk ⊢
  have hgx : good (sub (aps (List.replicate (vars (rn t)).length g)) (rn t)) = true := by
    cases h : good (sub (aps (List.replicate (vars (rn t)).length g)) (rn t))
    · exfalso; apply hk; unfold plainR; rw [h]; rfl
    · rfl
  have hog : occ g = [] := by
    cases h : occ g with
    | nil => rfl
    | cons x r => exfalso; have := (mem_vars hgg x).2 (by rw [h]; simp); rw [hv] at this; cases this
  unfold plainR
  rw [if_pos hgx]
  refine vars_nil (good_plain hgx (good_sound hgx)) ?_
  rw [occ_plain, occ_sub, List.flatMap_eq_nil_iff]
  intro x hx
  rw [aps_all (occ_lt hg hx).2, hog]
theorem all_none {t g : Tm} (hg : good t = true) (hn : (vars (rn t)).length = 0) : sameB (appR (rn t) (List.replicate (vars (rn t)).length g)) (rn t) = true := by
  have h := self_law hg
  rw [hn] at h ⊢
  simpa [vsl] using h
set_option maxHeartbeats 4000000 in
theorem walk (w : World) (v0 : Value) (t0 : Tm) (x0 : Lies No w t0 v0) (v1 : Value) (t1 : Tm) (x1 : Lies No w t1 v1) :
    Calls Try.prog 12 #[v0, v1] w fun e w' => e = .returned (.bool true) ∧ Below w.heap.size w w' := by
  obtain ⟨T, hT⟩ : ∃ T, T = t0 := ⟨_, rfl⟩
  obtain ⟨G, hG⟩ : ∃ G, G = t1 := ⟨_, rfl⟩
  obtain ⟨k, n, i, re, im, l⟩ := t0
  obtain ⟨k2, n2, i2, re2, im2, l2⟩ := t1
  have HL := Lib.hid (And.intro (show Lies No w T v0 from hT ▸ x0) (show Lies No w G v1 from hG ▸ x1))
  rw [Lies] at x0 x1
  obtain ⟨at', ct, rfl, hf, hr⟩ := x0
  obtain ⟨ag, cg, rfl, hf', hr'⟩ := x1
  clear hf hr hT hf' hr' hG
  have hk0 : Kn w [(w.heap.size + 1, .cells #[.int .i64 k2, .string n2, .int .i64 i2, .int .u64 re2, .int .u64 im2, .slice ag l2.length cg] 44), (w.heap.size, .cells #[.int .i64 k, .string n, .int .i64 i, .int .u64 re, .int .u64 im, .slice at' l.length ct] 44)] [(G, .agg #[.int .i64 k2, .string n2, .int .i64 i2, .int .u64 re2, .int .u64 im2, .slice ag l2.length cg]), (T, .agg #[.int .i64 k, .string n, .int .i64 i, .int .u64 re, .int .u64 im, .slice at' l.length ct])] ((w.alloc (.cells #[.int .i64 k, .string n, .int .i64 i, .int .u64 re, .int .u64 im, .slice at' l.length ct] 44)).alloc (.cells #[.int .i64 k2, .string n2, .int .i64 i2, .int .u64 re2, .int .u64 im2, .slice ag l2.length cg] 44)) := by
    obtain ⟨h1, h2, h3⟩ := two_box (br ((w.alloc (.cells #[.int .i64 k, .string n, .int .i64 i, .int .u64 re, .int .u64 im, .slice at' l.length ct] 44)).alloc (.cells #[.int .i64 k2, .string n2, .int .i64 i2, .int .u64 re2, .int .u64 im2, .slice ag l2.length cg] 44)))
    exact ⟨h3, fun x hx => by simp only [List.mem_cons, List.not_mem_nil, or_false] at hx; rcases hx with rfl | rfl; exact h2; exact h1, fun y hy => by simp only [List.mem_cons, List.not_mem_nil, or_false] at hy; rcases hy with rfl | rfl; exact HL.out.2.below h3; exact HL.out.1.below h3⟩
  have LL := Lib.hid hk0
  clear hk0
  go_enter Try.func12, Try.ntmps12
  go_wp2_with fail
  refine (Light_any [T, G] (some ⟨w.heap.size + 1 + 1, 0, none⟩) 2 _ ?_ (by simp)).mono ?_
  · have := row_new _ #[.int .i64 k, .string n, .int .i64 i, .int .u64 re, .int .u64 im, .slice at' l.length ct, .int .i64 k2, .string n2, .int .i64 i2, .int .u64 re2, .int .u64 im2, .slice ag l2.length cg] [T, G] (fun m hm => by
      match m, hm with
      | 0, _ => exact ⟨_, _, _, _, _, _, rfl, rfl, rfl, rfl, rfl, rfl, LL.out.lie (List.mem_cons_of_mem _ List.mem_cons_self)⟩
      | 1, _ => exact ⟨_, _, _, _, _, _, rfl, rfl, rfl, rfl, rfl, rfl, LL.out.lie List.mem_cons_self⟩
      | m + 2, hm => exact absurd hm (by simp))
    simpa [alloc_size] using this
  rintro e w2 ⟨b, rfl, hb⟩
  have LL := Lib.hid (LL.out.below (bt (ba _ _) hb))
  clear hb
  cases b
  · go_wp2_with fail
    refine (awake_any _).mono ?_; rintro e w3 ⟨rfl, hb⟩
    have LL := Lib.hid (LL.out.below hb)
    clear hb
    go_wp2_with fail
    go_ret
    exact ⟨rfl, LL.out.1⟩
  obtain ⟨⟨e0, e1, e2, e3, e4, e5⟩, _⟩ := blk_facts (LL.out.box (b := w.heap.size) (List.mem_cons_of_mem _ List.mem_cons_self))
  cases hg : good T
  · have hne : (may T != 0) = true := by rw [bne_iff_ne]; have := may_nogood hg; omega
    clear hg
    go_wp2_with fail
    refine (may_any _ _ _ (LL.out.lie (t := T) (List.mem_cons_of_mem _ List.mem_cons_self))).mono ?_
    rintro e w3 ⟨rfl, hb⟩
    have LL := Lib.hid (LL.out.below hb)
    clear hb e0 e1 e2 e3 e4 e5
    go_wp2_with fail
    refine (awake_any _).mono ?_; rintro e w4 ⟨rfl, hb⟩
    have LL := Lib.hid (LL.out.below hb)
    clear hb
    go_wp2_with fail
    go_ret
    exact ⟨rfl, LL.out.1⟩
  have HG := Lib.hid hg
  clear hg
  go_wp2_with fail
  refine (may_ok HG.out _ _ (LL.out.lie (List.mem_cons_of_mem _ List.mem_cons_self))).mono ?_
  rintro e w3 ⟨rfl, hb⟩
  have LL := Lib.hid (LL.out.below hb)
  obtain ⟨⟨p0, p1, p2, p3, p4, p5⟩, _⟩ := blk_facts (LL.out.box (b := w.heap.size) (List.mem_cons_of_mem _ List.mem_cons_self))
  clear hb e0 e1 e2 e3 e4 e5
  go_wp2_with fail
  refine (rren_good T _ _ (LL.out.lie (List.mem_cons_of_mem _ List.mem_cons_self)) HG.out).mono ?_
  rintro e w4 ⟨kr, nr, ir, rr, mr, ar, lr, cr, rfl, hb, hq⟩
  have LL4 := Lib.hid (LL.out.below hb)
  have hw3 : w.heap.size < w3.heap.size := (Array.getElem?_eq_some_iff.1 (LL.out.box (b := w.heap.size) (List.mem_cons_of_mem _ List.mem_cons_self))).1
  have hbx := LL4.out.box (b := w.heap.size) (List.mem_cons_of_mem _ List.mem_cons_self)
  obtain ⟨_, y0, y1, y2, y3, y4, y5⟩ := blk_facts hbx
  obtain ⟨⟨z0, z1, z2, z3, z4, z5⟩, _⟩ := blk_facts hbx
  have hqo : Lies (fun q => q = w.heap.size) w4 (rn T) (.agg #[.int .i64 kr, .string nr, .int .i64 ir, .int .u64 rr, .int .u64 mr, .slice ar lr cr]) := hq.off fun q _ h => by subst h; exact hw3
  have HQ := Lib.hid (And.intro hbx hqo)
  clear hb hq hbx hqo p0 p1 p2 p3 p4 p5
  go_wp2_with fail
  obtain ⟨W, hW, hboxW, k6⟩ := box_set HQ.out.1 (.int .i64 kr) (.string nr) (.int .i64 ir) (.int .u64 rr) (.int .u64 mr) (.slice ar lr cr)
  rw [hW]
  have hkW : Kn w [(w.heap.size, .cells #[.int .i64 kr, .string nr, .int .i64 ir, .int .u64 rr, .int .u64 mr, .slice ar lr cr] 44), (w.heap.size + 1, .cells #[.int .i64 k2, .string n2, .int .i64 i2, .int .u64 re2, .int .u64 im2, .slice ag l2.length cg] 44)] [(rn T, .agg #[.int .i64 kr, .string nr, .int .i64 ir, .int .u64 rr, .int .u64 mr, .slice ar lr cr]), (G, .agg #[.int .i64 k2, .string n2, .int .i64 i2, .int .u64 re2, .int .u64 im2, .slice ag l2.length cg])] W := by
    refine ⟨LL4.out.1.trans (k6.to_below (fun q h => by subst h; omega) LL4.out.1.size), fun x hx => ?_, fun y hy => ?_⟩
    · simp only [List.mem_cons, List.not_mem_nil, or_false] at hx
      rcases hx with rfl | rfl
      · exact hboxW
      · have h0 := LL4.out.box (b := w.heap.size + 1) List.mem_cons_self
        exact (k6.block _ (Array.getElem?_eq_some_iff.1 h0).1 (by simp)).trans h0
    · simp only [List.mem_cons, List.not_mem_nil, or_false] at hy
      rcases hy with rfl | rfl
      · exact (Lies.keep k6 (fun _ _ => id) _ _ HQ.out.2).off fun _ _ h => h.elim
      · exact (Lies.keep k6 (fun _ _ => id) _ _ ((HL.out.2.off (Y := fun q => q = w.heap.size) fun q h1 h2 => by subst h2; omega).below LL4.out.1)).off fun _ _ h => h.elim
  have LL := Lib.hid hkW
  obtain ⟨⟨p0, p1, p2, p3, p4, p5⟩, _⟩ := blk_facts hboxW
  clear hkW hboxW k6 hW z0 z1 z2 z3 z4 z5 y0 y1 y2 y3 y4 y5 hw3
  go_wp2_with fail
  refine (rVars_any _ _ _ (LL.out.lie List.mem_cons_self)).mono ?_
  rintro e w5 ⟨v, rfl, hv, hb⟩
  obtain ⟨N, hN⟩ : ∃ N, N = (vars (rn T)).length := ⟨_, rfl⟩
  rw [← hN] at hv
  have hN2 : N ≤ 2000 := by rw [hN]; exact (vs_facts (good_rn HG.out)).1
  obtain ⟨a5, c5, rfl⟩ := Go.Proofs.Ytmcfapefbakceaa.kp.shape hv
  have HN := Lib.hid hN
  have LL := Lib.hid (LL.out.below hb)
  obtain ⟨ij, hi1, hi2, hi3, hi4⟩ := info_t
  have HI := Lib.hid (And.intro hi1 (And.intro hi2 (And.intro hi3 hi4)))
  clear hb hv hN hi1 hi2 hi3 hi4 p0 p1 p2 p3 p4 p5
  go_wp2_with fail
  go_loopg [6, 7, 27] N (ARel w w5 G N)
  case atStart => exact ⟨0, by omega, by omega, rfl, XOwn.nil _ _ _, XOwn.nil _ _ _, fun q h => by simp [Value.ownBlock] at h, br _⟩
  case round =>
    obtain ⟨kk, hk, rfl, rfl, h6, h7, hdj, hbr⟩ := hrel
    by_cases hlt : kk < N
    · obtain ⟨a6, c6, rfl, _, _, _⟩ := h6.row (Y := No) fun _ h => h.elim
      obtain ⟨a7, c7, rfl, _, _, _⟩ := h7.row (Y := No) fun _ h => h.elim
      rw [vsl_len] at h6 hdj ⊢
      rw [List.length_replicate] at h7 hdj ⊢
      have HX := Lib.hid (And.intro h6 (And.intro h7 (And.intro hdj hbr)))
      have LLr := Lib.hid (LL.out.below hbr)
      clear h6 h7 hdj hbr
      go_wp2_with fail
      refine (rVar_any _ _).mono ?_
      rintro e w6 ⟨rfl, hb6⟩
      have hx6 := HX.out.1.below hb6
      obtain ⟨xs, ho, hx⟩ := hx6.ex
      rw [vsl_len] at ho
      have HY := Lib.hid (And.intro ho (And.intro hx hb6))
      have LL6 := Lib.hid (LLr.out.below hb6)
      clear hx6 ho hx hb6
      go_wp2_with (at_builtin; refine wpList_append_lies _ rfl (.tmp 30) (.tmp 33) 42 rfl w5.heap.size 44 ij ZV 6 72 Try.underlying42 HI.out.1 HI.out.2.1 HI.out.2.2.1 HI.out.2.2.2 rfl (by decide) _ kk xs rfl (row6_keep HY.out.1 fun q e => (ba _ _).block q (HY.out.1.lt q e).2) ⟨w6.heap.size, 0, none⟩ 1 1 [.int .i64 1, .string ⟨#[]⟩, .int .i64 kk, .int .u64 0, .int .u64 0, .slice none 0 0] rfl rfl (news6 _ _ _ _ _ _ _ _) ?ac1 (by omega) ?ac2 ?ac3 ?ac4 _ rfl ?_)
      case ac1 => intro u hu; simp only [List.mem_cons, List.not_mem_nil, or_false] at hu; rcases hu with rfl | rfl | rfl | rfl | rfl | rfl <;> rfl
      case ac2 => unfold maxLen; omega
      case ac3 => omega
      case ac4 => have := HX.out.2.2.2.size; have := HY.out.2.2.size; rw [alloc_size]; omega
      intro g' c' w9 ho9 hg9 ha9 hl9
      have hs6 := HX.out.2.2.2.size
      have hs7 := HY.out.2.2.size
      have ha6 := XOwn.add (Z := fun _ => True) (l := vsl kk) (t := var kk) (by exact HY.out.2.1) (by rw [vsl_len]; exact HY.out.1) (var_lies _ _ _ (by omega) (by omega)) (by rw [vsl_len]; exact ho9) hg9 (ha9.imp id fun e => by omega)
      rw [vsl_next, vsl_len] at ha6
      have hkp := ha6.2
      have hw05 := LL.out.1.size
      have hge : ∀ q, (Value.slice a6 kk c6).ownBlock = some q → w5.heap.size ≤ q := fun q e => (HY.out.1.lt q e).1
      have h7' := xkeepZ (HX.out.2.1.below HY.out.2.2) hkp (fun q e => by have := hge q e; omega) (fun q e e' => HX.out.2.2.1 q e' e)
      have hbg6 := LL6.out.box (b := w.heap.size + 1) (List.mem_cons_of_mem _ List.mem_cons_self)
      have hbg5 := (Array.getElem?_eq_some_iff.1 (LL.out.box (b := w.heap.size + 1) (List.mem_cons_of_mem _ List.mem_cons_self))).1
      have hbg9 := (hkp.block _ (Array.getElem?_eq_some_iff.1 hbg6).1 (fun e => by have := hge _ e; omega)).trans hbg6
      obtain ⟨⟨e0, e1, e2, e3, e4, e5⟩, _⟩ := blk_facts hbg9
      obtain ⟨xs7, ho7, hx7⟩ := h7'.ex
      rw [List.length_replicate] at ho7
      have HZ := Lib.hid (And.intro ha6.1 (And.intro hkp (And.intro h7' (And.intro ho7 (And.intro hx7 (ha9.imp id fun e => (show w6.heap.size ≤ g' by omega)))))))
      clear ho9 hg9 ha9 hl9 ha6 hkp hge h7' hbg6 hbg9 ho7 hx7
      go_wp2_with (at_builtin; refine wpList_append_lies _ rfl (.tmp 35) (.tmp 37) 42 rfl w5.heap.size 44 ij ZV 6 72 Try.underlying42 HI.out.1 HI.out.2.1 HI.out.2.2.1 HI.out.2.2.2 rfl (by decide) _ kk xs7 rfl (row6_keep HZ.out.2.2.2.1 fun q e => (ba _ _).block q (HZ.out.2.2.2.1.lt q e).2) ⟨w9.heap.size, 0, none⟩ 1 1 [.int .i64 k2, .string n2, .int .i64 i2, .int .u64 re2, .int .u64 im2, .slice ag l2.length cg] rfl rfl (news6 _ _ _ _ _ _ _ _) ?bc1 (by omega) ?bc2 ?bc3 ?bc4 _ rfl ?_)
      case bc1 => intro u hu; simp only [List.mem_cons, List.not_mem_nil, or_false] at hu; rcases hu with rfl | rfl | rfl | rfl | rfl | rfl <;> rfl
      case bc2 => unfold maxLen; omega
      case bc3 => omega
      case bc4 => have := HZ.out.2.1.size; rw [alloc_size]; omega
      intro g7 d7 w10 ho10 hg10 ha10 hl10
      have hs9 := HZ.out.2.1.size
      have hw0 : Below w.heap.size w w9 := (LLr.out.1.trans (HY.out.2.2.mono (by omega))).trans (HZ.out.2.1.to_below (fun q e => by have := (HY.out.1.lt q e).1; omega) (by omega))
      have ha7 := XOwn.add (Z := fun q => w.heap.size ≤ q) (l := List.replicate kk G) (t := G) HZ.out.2.2.2.2.1 (by rw [List.length_replicate]; exact HZ.out.2.2.2.1) ((HL.out.2.off (Y := fun q => w.heap.size ≤ q ∨ (Value.slice a7 kk c7).ownBlock = some q) fun q h1 h2 => by
        rcases h2 with h2 | h2
        · omega
        · have := (HZ.out.2.2.2.1.lt q h2).1; omega).below hw0) (by rw [List.length_replicate]; exact ho10) hg10 (ha10.imp id fun e => by omega)
      rw [← List.replicate_succ', List.length_replicate] at ha7
      have h6' := xkeepZ HZ.out.1 ha7.2 (fun _ _ => trivial) (fun q e e' => by
        simp only [Value.ownBlock, Option.some.injEq] at e
        subst e
        rcases HZ.out.2.2.2.2.2 with h | h
        · exact HX.out.2.2.1 _ h e'
        · obtain ⟨ys, hy, _⟩ := HX.out.2.1.ex
          have := (hy.lt _ e').2
          omega)
      have hdj : ∀ q, (Value.slice (some ⟨g', 0, none⟩) (kk + 1) c').ownBlock = some q → ¬ (Value.slice (some ⟨g7, 0, none⟩) (kk + 1) d7).ownBlock = some q := fun q e e' => by
        simp only [Value.ownBlock, Option.some.injEq] at e e'
        subst e
        have hlt9 : g7 < w9.heap.size := by
          obtain ⟨ys, hy, _⟩ := HZ.out.1.ex
          have := (hy.lt g' rfl).2
          omega
        rcases ha10 with h | h
        · rcases HZ.out.2.2.2.2.2 with h' | h'
          · exact HX.out.2.2.1 g' h' (by rw [← e']; exact h)
          · obtain ⟨ys, hy, _⟩ := HX.out.2.1.ex
            have := (hy.lt g7 h).2
            omega
        · omega
      have hb10 : Below w5.heap.size w5 w10 := ((HX.out.2.2.2.trans (HY.out.2.2.mono hs6)).trans (HZ.out.2.1.to_below (fun q e => (HY.out.1.lt q e).1) (by omega))).trans (ha7.2.to_below (fun q e => (HZ.out.2.2.2.1.lt q e).1) (by omega))
      have HF := Lib.hid (And.intro h6' (And.intro ha7.1 (And.intro hdj hb10)))
      clear ho10 hg10 ha10 hl10 ha7 h6' hdj hb10 hw0 e0 e1 e2 e3 e4 e5 hbg5
      go_wp2_with fail
      go_roundg (N - (kk + 1))
      case measure => omega
      case rel => exact ⟨kk + 1, hlt, rfl, by go_num, HF.out.1, HF.out.2.1, HF.out.2.2.1, HF.out.2.2.2⟩
    · have hkv : kk = N := by omega
      subst hkv
      obtain ⟨a6, c6, rfl, hc6, hm6, hr6⟩ := h6.row (Y := No) fun _ h => h.elim
      obtain ⟨a7, c7, rfl, hc7, hm7, hr7⟩ := h7.row (Y := No) fun _ h => h.elim
      rw [vsl_len, List.length_replicate]
      have LLr := Lib.hid (LL.out.below hbr)
      have HX := Lib.hid (And.intro hr6 hr7)
      clear h6 h7 hdj hbr hc6 hm6 hr6 hc7 hm7 hr7
      obtain ⟨P, hP⟩ : ∃ P : World → Prop, P = fun W => Kn w [(w.heap.size, .cells #[.int .i64 kr, .string nr, .int .i64 ir, .int .u64 rr, .int .u64 mr, .slice ar lr cr] 44), (w.heap.size + 1, .cells #[.int .i64 k2, .string n2, .int .i64 i2, .int .u64 re2, .int .u64 im2, .slice ag l2.length cg] 44)] [(rn T, .agg #[.int .i64 kr, .string nr, .int .i64 ir, .int .u64 rr, .int .u64 mr, .slice ar lr cr]), (G, .agg #[.int .i64 k2, .string n2, .int .i64 i2, .int .u64 re2, .int .u64 im2, .slice ag l2.length cg])] W ∧ TRow No W (vsl kk) a6 0 ∧ TRow No W (List.replicate kk G) a7 0 := ⟨_, rfl⟩
      have hst : ∀ W W', P W → Below W.heap.size W W' → P W' := by rw [hP]; exact fun W W' h k => ⟨h.1.below k, h.2.1.below k, h.2.2.below k⟩
      have hc2 : ∀ W, P W → _ := fun W (h : P W) => (blk_facts (w := W) (b := w.heap.size) (by rw [hP] at h; exact h.1.box List.mem_cons_self)).1
      have hc3 : ∀ W, P W → _ := fun W (h : P W) => (blk_facts (w := W) (b := w.heap.size + 1) (by rw [hP] at h; exact h.1.box (List.mem_cons_of_mem _ List.mem_cons_self))).1
      have hlr : ∀ W, P W → Lies No W (rn T) _ := fun W (h : P W) => by rw [hP] at h; exact h.1.lie List.mem_cons_self
      have hlg : ∀ W, P W → Lies No W G _ := fun W (h : P W) => by rw [hP] at h; exact h.1.lie (List.mem_cons_of_mem _ List.mem_cons_self)
      have a1 : ∀ W, P W → Calls Try.prog 37 #[.agg #[.int .i64 kr, .string nr, .int .i64 ir, .int .u64 rr, .int .u64 mr, .slice ar lr cr], .slice a6 kk c6] W (Gives (Old W) (appR (rn T) (vsl kk)) W) := fun W h => by
        have := apply_any (rn T) _ a6 (vsl kk) c6 W (hlr W h) (by rw [hP] at h; exact h.2.1)
        rwa [vsl_len] at this
      have a2 : ∀ W, P W → Calls Try.prog 37 #[.agg #[.int .i64 kr, .string nr, .int .i64 ir, .int .u64 rr, .int .u64 mr, .slice ar lr cr], .slice a7 kk c7] W (Gives (Old W) (appR (rn T) (List.replicate kk G)) W) := fun W h => by
        have := apply_any (rn T) _ a7 (List.replicate kk G) c7 W (hlr W h) (by rw [hP] at h; exact h.2.2)
        rwa [List.length_replicate] at this
      have hPr : P wr := by rw [hP]; exact ⟨LLr.out, HX.out⟩
      have hsl : sameB (appR (rn T) (vsl kk)) (rn T) = true := by rw [HN.out]; exact self_law HG.out
      have HST := Lib.hid hst; have HC2 := Lib.hid hc2; have HC3 := Lib.hid hc3; have HLR := Lib.hid hlr; have HLG := Lib.hid hlg; have A1 := Lib.hid a1; have A2 := Lib.hid a2; have HSL := Lib.hid hsl
      have HBW := Lib.hid (show ∀ W, P W → Below w.heap.size w W from fun W h => by rw [hP] at h; exact h.1.1)
      clear hst hc2 hc3 hlr hlg a1 a2 hsl hP hk
      go_upto_region 12 with fail
      go_cut [45] from 40 to 44 (fun s45 wx => s45 = .bool false ∧ P wx)
      case first =>
        have LP := Lib.hid (HST.out _ _ hPr (bdr wr))
        obtain ⟨e0, e1, e2, e3, e4, e5⟩ := HC2.out _ LP.out
        go_region_with (first
          | (go_at_call 37; refine (A1.out _ ?_).mono ?_; exact LP.out; rintro e wN ⟨kx, nx, ix, rx, mx, ax, lx, cx, rfl, hbN, hq⟩; have QX := Lib.hid (hq.off (Y := No) fun _ _ h => h.elim); have LP := Lib.hid (HST.out _ _ LP.out hbN); obtain ⟨e0, e1, e2, e3, e4, e5⟩ := HC2.out _ LP.out; clear hbN hq)
          | (go_at_call 50; refine (same_any _ _ _ _ _ QX.out (HLR.out _ LP.out)).mono ?_; rintro e wN ⟨rfl, hbN⟩; rw [HSL.out]; have LP := Lib.hid (HST.out _ _ LP.out hbN); clear hbN))
        all_goals go_wp2_with fail
        all_goals go_meet
        all_goals exact ⟨rfl, LP.out⟩
      case rest =>
        obtain ⟨rfl, hPx⟩ := hcut
        obtain ⟨e0, e1, e2, e3, e4, e5⟩ := HC2.out _ hPx
        go_wp2_with fail
        refine (A2.out _ hPx).mono ?_
        rintro e w6 ⟨ku, nu, iu, ru, mu, au, lu, cu, rfl, hb, hq⟩
        obtain ⟨w7, hw7⟩ : ∃ w7, w7 = w6.alloc (.cells #[.int .i64 ku, .string nu, .int .i64 iu, .int .u64 ru, .int .u64 mu, .slice au lu cu] 44) := ⟨_, rfl⟩
        have hb7 : Below w6.heap.size w6 w7 := by rw [hw7]; exact ba _ _
        have hat7 : w7.heap[w6.heap.size]? = some (.cells #[.int .i64 ku, .string nu, .int .i64 iu, .int .u64 ru, .int .u64 mu, .slice au lu cu] 44 (0, 0)) := by rw [hw7]; exact alloc_at _ _
        obtain ⟨U, hU⟩ : ∃ U, U = appR (rn T) (List.replicate kk G) := ⟨_, rfl⟩
        rw [← hU] at hq
        have hq7 := (hq.off (Y := No) fun _ _ h => h.elim).below hb7
        have hku := kind_of hq7
        have H7 := Lib.hid (And.intro (HST.out _ _ (HST.out _ _ hPx hb) hb7) (And.intro hat7 (And.intro hq7 (And.intro hU hku))))
        obtain ⟨⟨u0, u1, u2, u3, u4, u5⟩, _⟩ := blk_facts hat7
        obtain ⟨g0, g1, g2, g3, g4, g5⟩ := HC3.out _ H7.out.1
        clear hb hq hb7 hat7 hU hq7 hku hPx e0 e1 e2 e3 e4 e5
        go_upto_region 15 with fail
        rw [← hw7]
        clear hw7
        by_cases hk0 : ku = 0
        · subst hk0
          go_wp2_with fail
          refine (awake_any _).mono ?_; rintro e w8 ⟨rfl, hb⟩
          have HB := Lib.hid (HBW.out _ (HST.out _ _ H7.out.1 hb))
          clear hb
          go_wp2_with fail
          go_ret
          exact ⟨rfl, HB.out⟩
        have hk0' : (ku == 0) = false := by rw [beq_eq_false_iff_ne]; exact hk0
        have HK0 := Lib.hid hk0
        clear hk0
        cases hgg : good G
        · have hne : (may G != 0) = true := by rw [bne_iff_ne]; have := may_nogood hgg; omega
          clear hgg
          go_wp2_with fail
          refine (may_any _ _ _ (HLG.out _ H7.out.1)).mono ?_
          rintro e w8 ⟨rfl, hb⟩
          have H8 := Lib.hid (HST.out _ _ H7.out.1 hb)
          clear hb u0 u1 u2 u3 u4 u5 g0 g1 g2 g3 g4 g5
          go_wp2_with fail
          refine (awake_any _).mono ?_; rintro e w9 ⟨rfl, hb⟩
          have HB := Lib.hid (HBW.out _ (HST.out _ _ H8.out hb))
          clear hb
          go_wp2_with fail
          go_ret
          exact ⟨rfl, HB.out⟩
        have HGG := Lib.hid hgg
        clear hgg
        go_wp2_with fail
        refine (may_ok HGG.out _ _ (HLG.out _ H7.out.1)).mono ?_
        rintro e w8 ⟨rfl, hb⟩
        have H8 := Lib.hid (And.intro (HST.out _ _ H7.out.1 hb) (And.intro ((hb.block _ (Array.getElem?_eq_some_iff.1 H7.out.2.1).1).trans H7.out.2.1) (H7.out.2.2.1.below hb)))
        clear hb u0 u1 u2 u3 u4 u5 g0 g1 g2 g3 g4 g5
        obtain ⟨g0, g1, g2, g3, g4, g5⟩ := HC3.out _ H8.out.1
        go_wp2_with fail
        refine (vars_any G _ _ (HLG.out _ H8.out.1)).mono ?_
        rintro e w9 ⟨v, rfl, hv, hb⟩
        obtain ⟨vg, hvg⟩ : ∃ vg, vg = (vars G).length := ⟨_, rfl⟩
        rw [← hvg] at hv
        obtain ⟨a9, c9, rfl⟩ := Go.Proofs.Ytmcfapefbakceaa.kp.shape hv
        have H9 := Lib.hid (And.intro (HST.out _ _ H8.out.1 hb) (And.intro ((hb.block _ (Array.getElem?_eq_some_iff.1 H8.out.2.1).1).trans H8.out.2.1) (And.intro (H8.out.2.2.below hb) hvg)))
        clear hb hv hvg g0 g1 g2 g3 g4 g5
        by_cases hv0 : 0 < vg
        · have hv0' : decide ((vg : Int) > 0) = true := by simp; omega
          go_wp2_with fail
          refine (awake_any _).mono ?_; rintro e w10 ⟨rfl, hb⟩
          have HB := Lib.hid (HBW.out _ (HST.out _ _ H9.out.1 hb))
          clear hb
          go_wp2_with fail
          go_ret
          exact ⟨rfl, HB.out⟩
        have hv0' : decide ((vg : Int) > 0) = false := by simp; omega
        have hv0n : decide (0 < vg) = false := by simp; omega
        have hv0m : ¬ 0 < vg := hv0
        have hvu : vars U = [] := by
          have hkk := HN.out
          rw [H7.out.2.2.2.1, hkk]
          refine all_vars HG.out ?_ HGG.out (List.eq_nil_of_length_eq_zero (by have := H9.out.2.2.2; omega))
          rw [← hkk, ← H7.out.2.2.2.1, H7.out.2.2.2.2]
          exact HK0.out
        obtain ⟨⟨u0, u1, u2, u3, u4, u5⟩, _⟩ := blk_facts H9.out.2.1
        have HVU := Lib.hid hvu
        clear hv0 hvu
        go_wp2_with fail
        refine (vars_any U _ _ H9.out.2.2.1).mono ?_
        rintro e w10 ⟨v, rfl, hv, hb⟩
        rw [HVU.out] at hv
        obtain ⟨a10, c10, rfl⟩ := Go.Proofs.Ytmcfapefbakceaa.kp.shape hv
        have H10 := Lib.hid (And.intro (HST.out _ _ H9.out.1 hb) (And.intro ((hb.block _ (Array.getElem?_eq_some_iff.1 H9.out.2.1).1).trans H9.out.2.1) (H9.out.2.2.1.below hb)))
        clear hb hv u0 u1 u2 u3 u4 u5
        simp only [List.length_nil]
        by_cases hn0 : kk = 0
        · have hsu : sameB U (rn T) = true := by
            rw [H7.out.2.2.2.1, HN.out]
            exact all_none HG.out (by rw [← HN.out]; exact hn0)
          have HSU := Lib.hid hsu
          obtain ⟨⟨u0, u1, u2, u3, u4, u5⟩, _⟩ := blk_facts H10.out.2.1
          obtain ⟨e0, e1, e2, e3, e4, e5⟩ := HC2.out _ H10.out.1
          have hn1 : decide ((kk : Int) > 0) = false := by simp; omega
          have hn1n : decide (0 < kk) = false := by simp; omega
          clear hsu
          go_wp2_with fail
          all_goals try (exfalso; omega; done)
          refine (same_any _ _ _ _ _ H10.out.2.2 (HLR.out _ H10.out.1)).mono ?_
          rintro e w11 ⟨rfl, hb⟩
          rw [HSU.out]
          have H11 := Lib.hid (HST.out _ _ H10.out.1 hb)
          clear hb u0 u1 u2 u3 u4 u5 e0 e1 e2 e3 e4 e5
          go_wp2_with fail
          refine (awake_any _).mono ?_; rintro e w12 ⟨rfl, hb⟩
          have HB := Lib.hid (HBW.out _ (HST.out _ _ H11.out hb))
          clear hb
          go_wp2_with fail
          go_ret
          exact ⟨rfl, HB.out⟩
        · have hn1 : decide ((kk : Int) > 0) = true := by simp; omega
          go_wp2_with fail
          all_goals try (exfalso; omega; done)
          refine (awake_any _).mono ?_; rintro e w12 ⟨rfl, hb⟩
          have HB := Lib.hid (HBW.out _ (HST.out _ _ H10.out.1 hb))
          clear hb
          go_wp2_with fail
          go_ret
          exact ⟨rfl, HB.out⟩
set_option maxRecDepth 100000 in
theorem lifted (os : Os) (started : os.Started) (H : Type) (enc : TypeId × Value → H) :
    ReturnsInHanded {} Try.checked os 12 .any (Rows.termAppliesSpec.pre6 enc Try.prog Try.f12 Rows.termAppliesRow.domain false) (Rows.termAppliesSpec.post enc Try.prog Try.f12 false true false false) := by
  refine returnsInHanded_of_change_sized (C := Try.checked) own started (by kernel_rfl) Try.func12
    (ChangeSpec.witness6 (enc := enc) (C := Try.checked) false ⟨#[], #[.agg #[.int .i64 0, .string ⟨#[]⟩, .int .i64 0, .int .u64 0, .int .u64 0, .slice none 0 0], .agg #[.int .i64 0, .string ⟨#[]⟩, .int .i64 0, .int .u64 0, .int .u64 0, .slice none 0 0]], []⟩ 8 (by kernel_rfl) (by kernel_rfl) (by kernel_rfl) (by kernel_rfl)) ?_
  intro W base args ds gs before hval0 hW _ hsz0 _
  have hsz : (DataW.weightsEach Try.prog (Try.f12.params.toList ++ Rows.termAppliesSpec.plain.varTypes Try.prog) (ds ++ gs)).all (· ≤ reachBytes) = true := hsz0
  clear hsz0
  have hval : ∀ (j : Nat) t v, Try.f12.params[j]? = some t → args[j]? = some v → Value.okWide Try.prog W .any base t v := hval0
  have hW' := hW
  obtain ⟨p, q, hA0, hV, rfl, hfz, hnd⟩ := hW
  have hA : DataW.TrodAll enc Try.prog W 0 (fun _ => true) true Try.f12.params.toList args.toList ds p := hA0
  rw [Try.params12] at hA hval hsz
  obtain ⟨v0, vs0, d0, ds0, p0, q0, hargs, rfl, rfl, h0, r0⟩ := trodAll_cons hA
  obtain ⟨v1, vs1, d1, ds1, p1, q1, rfl, rfl, rfl, h1, r1⟩ := trodAll_cons r0
  obtain ⟨rfl, rfl, rfl⟩ := trodAll_nil r1
  obtain rfl : args = #[v0, v1] := by cases args; simp_all
  obtain ⟨rfl, rfl⟩ := trodVars_none hV
  simp only [List.append_nil] at hW'
  have lt0 : ∀ x ∈ p0, x.block < W.heap.size := fun x hx => by
    have := hW'.lt x (by simp [hx])
    simpa using this
  have k0 := h0
  have lt1 : ∀ x ∈ p1, x.block < W.heap.size := fun x hx => by
    have := hW'.lt x (by simp [hx])
    simpa using this
  have k1 := h1
  obtain ⟨t0, x0⟩ := term_arg (by obtain ⟨cs, hcs, _⟩ := okWide_struct Try.underlying44 (hval 0 44 v0 rfl rfl); exact ⟨cs, hcs⟩) h0
  obtain ⟨t1, x1⟩ := term_arg (by obtain ⟨cs, hcs, _⟩ := okWide_struct Try.underlying44 (hval 1 44 v1 rfl rfl); exact ⟨cs, hcs⟩) h1
  clear hA0 hval0
  refine (walk W v0 t0 x0 v1 t1 x1).mono fun e W' ⟨he, hg⟩ => ?_
  subst he
  have ha := (trodAll_cons_mk (Below.trod laidOut (by kernel_rfl) (of_decide_eq_true (by kernel_rfl)) k0 hg lt0) (trodAll_cons_mk (Below.trod laidOut (by kernel_rfl) (of_decide_eq_true (by kernel_rfl)) k1 hg lt1) trodAll_mk0))
  refine ⟨_, rfl, _, _, _, [], _, [], hW', ?_, ha, rfl, hg.frame _, fun h => by cases h⟩
  exact (trodAll_cons_mk (shut_bool Try.underlying4 _) trodAll_mk0)
/-- THE STATEMENT. -/
theorem proved : Rows.TermAppliesSaid :=
  OpenClaim.holds_of_wide 12 Try.f12 rfl rfl rfl rfl rfl rfl rfl ⟨rfl, rfl, rfl, rfl, rfl⟩ rfl rfl rfl rfl rfl (by kernel_rfl) Try.func12 (by kernel_rfl)
    (of_decide_eq_true (by kernel_rfl)) (by unfold Func.isWrapper; first | (rw [if_pos (by decide +kernel)]; kernel_rfl) | (rw [if_neg (by decide +kernel)]; exact ⟨rfl, rfl⟩))
    (fun os started H enc _ => lifted os started H enc)
#print axioms proved
end Go.Proofs.Ytmcfapefbakceaa.termApplies
