/- The law TermItems holds: for every input its Go function returns true and leaves its arguments as they were. No condition beyond the row's own. -/
import Derived.Test.YtmcfapefbakceaaRows
import Derived.WalkKit
import Derived.ProofKit
import Derived.OpenShut
import Derived.SizedLaws
import Derived.Test.YtmcfapefbakceaaTOpen
import Derived.Test.YtmcfapefbakceaaLgt
import Derived.Test.YtmcfapefbakceaaLst
import Derived.Test.YtmcfapefbakceaaTg
import Derived.Test.YtmcfapefbakceaaRSm
import Derived.StillTailTactics
import Derived.Deep.RegionWith
import Derived.Deep.LoopGhost
namespace Go.Proofs.Ytmcfapefbakceaa.termItems
open Go.ChangeShapes Go.WideShapes Go.ChangeAt Go.RowKit
open Go.ChangeMaps (open_string)
open Go.Proofs.Ytmcfapefbakceaa.tm Go.Proofs.Ytmcfapefbakceaa.lie Go.Proofs.Ytmcfapefbakceaa.kp Go.Proofs.Ytmcfapefbakceaa.top
set_option linter.unusedVariables false
theorem own : ownKnob Try.prog.godebug = none := by kernel_rfl
theorem laidOut : laidOutB Try.prog = true := by kernel_rfl
open Go.Proofs.Ytmcfapefbakceaa.tm Go.Proofs.Ytmcfapefbakceaa.lie Go.Proofs.Ytmcfapefbakceaa.kp Go.Proofs.Ytmcfapefbakceaa.mes Go.Proofs.Ytmcfapefbakceaa.vrs Go.Proofs.Ytmcfapefbakceaa.awk Go.Proofs.Ytmcfapefbakceaa.lgt Go.Proofs.Ytmcfapefbakceaa.cur Go.Proofs.Ytmcfapefbakceaa.rws Go.Proofs.Ytmcfapefbakceaa.lst Go.Proofs.Ytmcfapefbakceaa.rsm Go.Proofs.Ytmcfapefbakceaa.pla Go.Proofs.Ytmcfapefbakceaa.sme
theorem nodes_ok {t : Tm} (hg : good t = true) (v : Value) (w : World) (ht : Lies No w t v) : Calls Try.prog 43 #[v] w fun e w' => e = .returned (.int .i64 (size t)) ∧ Below w.heap.size w w' := by
  have := nodes_any t v w ht
  rwa [nodes_good hg] at this
theorem depth_ok {t : Tm} (hg : good t = true) (v : Value) (w : World) (ht : Lies No w t v) : Calls Try.prog 53 #[v] w fun e w' => e = .returned (.int .i64 (height t)) ∧ Below w.heap.size w w' := by
  have := depth_any t v w ht
  rwa [depth_good hg] at this
theorem list_nil (t : Tm) (v : Value) (w : World) (ht : Lies No w t v) : Calls Try.prog 34 #[.slice none 0 0, v] w (Gives (Old w) (plainR t) w) :=
  list_any [] t none 0 v w (by rw [TRow]; trivial) ht (by simp)
abbrev NA : Tm := atom NIL
theorem lst_size : ∀ l : List Tm, size (lst l NA) = 1 + sizeL l + l.length
  | [] => by simp [lst, atom, size, sizeL]
  | x :: r => by
    have h := lst_size r
    simp only [lst, comp, size, if_true, sizeL, List.length_cons, h]; omega
theorem lst_height : ∀ l : List Tm, (∀ x ∈ l, height x ≤ 400) → height (lst l NA) ≤ 401 + l.length
  | [], _ => by simp [lst, atom, height]
  | x :: r, h => by
    have h1 := lst_height r fun y hy => h y (by simp [hy])
    have h2 := h x (by simp)
    simp only [lst, comp, height, if_true, heightL, List.length_cons]; omega
theorem lst_sound : ∀ l : List Tm, (∀ x ∈ l, sound x = true) → sound (lst l NA) = true
  | [], _ => by decide
  | x :: r, h => by
    have h1 := lst_sound r fun y hy => h y (by simp [hy])
    have h2 := h x (by simp)
    simp only [lst, comp, sound, if_true, soundL, h1, h2, Bool.and_true, decide_eq_true_eq, chk, List.length_cons, List.length_nil]
    have hd : ¬ 200 < ByteArray.size DOT := by decide
    simp [hd]
theorem lst_plain : ∀ l : List Tm, plain (lst l NA) = lst (l.map plain) NA
  | [] => by simp [lst, atom, plain, sub]
  | x :: r => by
    have h1 := lst_plain r
    simp only [plain] at h1
    simp only [lst, List.map_cons, plain, comp, sub, subL]
    simp [h1]
theorem lst_good {l : List Tm} (h : ∀ x ∈ l, good x = true ∧ height x ≤ 400) (hl : l.length ≤ 40) (hn : 1 + sizeL l + l.length ≤ 2000) : good (lst l NA) = true := by
  simp only [good, Bool.and_eq_true, decide_eq_true_eq]
  refine ⟨⟨by rw [lst_size]; omega, ?_⟩, lst_sound l fun x hx => good_sound (h x hx).1⟩
  have := lst_height l fun x hx => (h x hx).2
  omega
theorem plain_idem (t : Tm) : plain (plain t) = plain t := sub_plain var t
theorem plainR_good {t : Tm} (h : good t = true) : plainR t = plain t := by unfold plainR; rw [if_pos h]
theorem take_nx {l : List Tm} {k : Nat} (hk : k < l.length) : l.take (k + 1) = l.take k ++ [l[k]] := by
  rw [List.take_succ_eq_append_getElem hk]
def Rel1 (w : World) (T : Tm) (v : Value) (o : Obj) (l : List Tm) (g : Nat) (s5 s28 : Value) (wr : World) : Prop :=
  ∃ k : Nat, k ≤ l.length ∧ g = l.length - k ∧ s5 = .int .i64 ((1 + sizeL (l.take k) + k : Nat) : Int) ∧ s28 = .int .i64 k ∧ Below w.heap.size w wr ∧ wr.heap[w.heap.size]? = some o ∧ ∀ x ∈ l.take k, good x = true ∧ height x ≤ 400
def Rel2 (w w5 : World) (o : Obj) (l : List Tm) (g : Nat) (s68 : Value) (wr : World) : Prop :=
  ∃ k : Nat, k ≤ l.length ∧ g = l.length - k ∧ s68 = .int .i64 k ∧ Below w5.heap.size w5 wr
set_option maxHeartbeats 4000000 in
theorem walk (w : World) (a0 : Option Addr) (n0 c0 : Nat) (l0 : List Tm) (e0 : l0.length = n0) (x0 : TRow No w l0 a0 0) (m0 : n0 ≤ c0) (y0 : c0 ≤ maxLen) (z0 : n0 * 72 ≤ 140737488351232) (v1 : Value) (t1 : Tm) (x1 : Lies No w t1 v1) :
    Calls Try.prog 11 #[.slice a0 n0 c0, v1] w fun e w' => e = .returned (.bool true) ∧ Below w.heap.size w w' := by
  subst e0
  obtain ⟨T, hT⟩ : ∃ T, T = t1 := ⟨_, rfl⟩
  have HT := Lib.hid (show Lies No w T v1 from hT ▸ x1)
  obtain ⟨k, n, i, re, im, tl⟩ := t1
  rw [Lies] at x1
  obtain ⟨a1, c1, rfl, hf, hr⟩ := x1
  have HX := Lib.hid (And.intro x0 (And.intro m0 y0))
  clear hf hr hT x0 m0 y0 z0
  have hbw : ∀ W, Below (w.alloc (.cells #[.int .i64 k, .string n, .int .i64 i, .int .u64 re, .int .u64 im, .slice a1 tl.length c1] 44)).heap.size (w.alloc (.cells #[.int .i64 k, .string n, .int .i64 i, .int .u64 re, .int .u64 im, .slice a1 tl.length c1] 44)) W → Below w.heap.size w W ∧ W.heap[w.heap.size]? = some (.cells #[.int .i64 k, .string n, .int .i64 i, .int .u64 re, .int .u64 im, .slice a1 tl.length c1] 44) := fun W h =>
    ⟨bt (ba _ _) h, (h.block w.heap.size (by rw [alloc_size]; omega)).trans (alloc_at w _)⟩
  have HBW := Lib.hid hbw
  clear hbw
  by_cases h1 : 40 < l0.length
  · have h1' : decide ((l0.length : Int) > 40) = true := by simp; omega
    clear h1
    go_enter Try.func11, Try.ntmps11
    go_wp2_with fail
    refine (awake_any _).mono ?_; rintro e w2 ⟨rfl, hb⟩
    have HB := Lib.hid (HBW.out _ hb)
    clear hb
    go_wp2_with fail
    go_ret
    exact ⟨rfl, HB.out.1⟩
  have h1' : decide ((l0.length : Int) > 40) = false := by simp; omega
  have hl40 : l0.length ≤ 40 := by omega
  clear h1
  go_enter Try.func11, Try.ntmps11
  go_wp2_with fail
  refine (Light_any _ _ _ _ (HX.out.1.below (ba _ _)) (by omega)).mono ?_
  rintro e w2 ⟨b, rfl, hb⟩
  have HB := Lib.hid (HBW.out _ hb)
  clear hb
  cases b
  · go_wp2_with fail
    refine (awake_any _).mono ?_; rintro e w3 ⟨rfl, hb⟩
    have HB3 := Lib.hid (HB.out.1.trans (hb.mono HB.out.1.size))
    clear hb
    go_wp2_with fail
    go_ret
    exact ⟨rfl, HB3.out⟩
  obtain ⟨⟨e0, e1, e2, e3, e4, e5⟩, _⟩ := blk_facts HB.out.2
  go_wp2_with fail
  refine (Light_any [T] (some ⟨w2.heap.size, 0, none⟩) 1 _ ?_ (by simp)).mono ?_
  · exact row_new w2 _ [T] (fun m hm => by
      match m, hm with
      | 0, _ => exact ⟨_, _, _, _, _, _, rfl, rfl, rfl, rfl, rfl, rfl, HT.out.below HB.out.1⟩
      | m + 1, hm => exact absurd hm (by simp))
  rintro e w3 ⟨b, rfl, hb⟩
  have hb3 : Below w2.heap.size w2 w3 := bt (ba _ _) hb
  have hbx := (hb3.block _ (Array.getElem?_eq_some_iff.1 HB.out.2).1).trans HB.out.2
  have HB3 := Lib.hid (And.intro (HB.out.1.trans (hb3.mono HB.out.1.size)) hbx)
  clear hb hb3 hbx e0 e1 e2 e3 e4 e5
  cases b
  · go_wp2_with fail
    refine (awake_any _).mono ?_; rintro e w4 ⟨rfl, hb⟩
    have HB4 := Lib.hid (HB3.out.1.trans (hb.mono HB3.out.1.size))
    clear hb
    go_wp2_with fail
    go_ret
    exact ⟨rfl, HB4.out⟩
  go_wp2_with fail
  go_loopg [5, 28] l0.length (Rel1 w T (.agg #[.int .i64 k, .string n, .int .i64 i, .int .u64 re, .int .u64 im, .slice a1 tl.length c1]) (.cells #[.int .i64 k, .string n, .int .i64 i, .int .u64 re, .int .u64 im, .slice a1 tl.length c1] 44) l0)
  case atStart => exact ⟨0, by omega, by omega, by simp [sizeL], rfl, HB3.out.1, HB3.out.2, by simp⟩
  case round =>
    obtain ⟨kk, hk, rfl, rfl, rfl, hb, hbx, hall⟩ := hrel
    by_cases hlt : kk < l0.length
    · obtain ⟨bb, o, v0, v1, v2, v3, v4, v5, hbl, _, h6, hlx, hix⟩ := HX.out.1.look hlt
      have h6' := h6.keep (X := No) (Keep.of_below hb) id
      have hix' := hix c0
      have hmem := List.getElem_mem hlt
      obtain ⟨kq, nq, iq, req, imq, lq, aq, cq, hv, _⟩ := lies_form hlx
      obtain ⟨rfl, rfl, rfl, rfl, rfl, rfl⟩ := hv
      obtain ⟨e0, e1, e2, e3, e4, e5⟩ := h6'
      have hsz : sizeL (l0.take kk) ≤ 80000 := by
        have h := sizeL_bound (l := l0.take kk) (m := 2000) fun x hx => (good_parts (hall x hx).1).1
        have hl : (l0.take kk).length ≤ 40 := by rw [List.length_take]; omega
        have := Nat.mul_le_mul_right 2000 hl
        omega
      have hnx : l0.take (kk + 1) = l0.take kk ++ [l0[kk]] := take_nx hlt
      have HN := Lib.hid (And.intro hall hnx)
      generalize hx : l0[kk] = x at hlx hmem hnx
      have HR := Lib.hid (And.intro hlx (And.intro hb (And.intro hbx hx)))
      clear h6 hlx hix hb hbx hall hnx hx hmem
      cases hg : good x
      · have hne : (may x != 0) = true := by rw [bne_iff_ne]; have := may_nogood hg; omega
        clear hg
        go_wp2_with fail
        refine (may_any _ _ _ ((HR.out.1.below HR.out.2.1).below (ba _ _))).mono ?_
        rintro e w3 ⟨rfl, hb3⟩
        have HB3 := Lib.hid (HR.out.2.1.trans ((bt (ba wr _) hb3).mono HR.out.2.1.size))
        clear hb3 e0 e1 e2 e3 e4 e5
        go_wp2_with fail
        refine (awake_any _).mono ?_; rintro e w4 ⟨rfl, hb⟩
        have HB4 := Lib.hid (HB3.out.trans (hb.mono HB3.out.size))
        clear hb
        go_wp2_with fail
        go_ret
        exact ⟨rfl, HB4.out⟩
      have HG := Lib.hid hg
      clear hg
      obtain ⟨hgp1, hgp2, _⟩ := good_parts HG.out
      by_cases hh : 400 < height x
      · have hh' : decide ((height x : Int) > 400) = true := by simp; omega
        clear hh
        go_wp2_with fail
        refine (may_ok HG.out _ _ ((HR.out.1.below HR.out.2.1).below (ba _ _))).mono ?_
        rintro e w3 ⟨rfl, hb3⟩
        obtain ⟨⟨p0, p1, p2, p3, p4, p5⟩, _⟩ := blk_facts (box_at hb3).1
        have HB3 := Lib.hid (And.intro (HR.out.2.1.trans ((bt (ba wr _) hb3).mono HR.out.2.1.size)) (HR.out.1.below (bt HR.out.2.1 (bt (ba wr _) hb3))))
        clear hb3 e0 e1 e2 e3 e4 e5
        go_wp2_with fail
        refine (depth_ok HG.out _ _ HB3.out.2).mono ?_
        rintro e w6 ⟨rfl, hb6⟩
        have HB6 := Lib.hid (HB3.out.1.trans (hb6.mono HB3.out.1.size))
        clear hb6 p0 p1 p2 p3 p4 p5
        go_wp2_with fail
        refine (awake_any _).mono ?_; rintro e w5 ⟨rfl, hb5⟩
        have HB5 := Lib.hid (HB6.out.trans (hb5.mono HB6.out.size))
        clear hb5
        go_wp2_with fail
        go_ret
        exact ⟨rfl, HB5.out⟩
      have hh' : decide ((height x : Int) > 400) = false := by simp; omega
      have hh2 : height x ≤ 400 := by omega
      clear hh
      go_wp2_with fail
      refine (may_ok HG.out _ _ ((HR.out.1.below HR.out.2.1).below (ba _ _))).mono ?_
      rintro e w3 ⟨rfl, hb3⟩
      obtain ⟨⟨p0, p1, p2, p3, p4, p5⟩, _⟩ := blk_facts (box_at hb3).1
      have HB3 := Lib.hid (And.intro (HR.out.2.1.trans ((bt (ba wr _) hb3).mono HR.out.2.1.size)) (And.intro (box_at hb3).1 (And.intro (HR.out.1.below (bt HR.out.2.1 (bt (ba wr _) hb3))) (((bt (ba wr _) hb3).block _ (Array.getElem?_eq_some_iff.1 HR.out.2.2.1).1).trans HR.out.2.2.1))))
      clear hb3 e0 e1 e2 e3 e4 e5
      go_wp2_with fail
      refine (depth_ok HG.out _ _ HB3.out.2.2.1).mono ?_
      rintro e w4 ⟨rfl, hb4⟩
      obtain ⟨⟨q0, q1, q2, q3, q4, q5⟩, _⟩ := blk_facts ((hb4.block _ (Array.getElem?_eq_some_iff.1 HB3.out.2.1).1).trans HB3.out.2.1)
      have HB4 := Lib.hid (And.intro (HB3.out.1.trans (hb4.mono HB3.out.1.size)) (And.intro (HB3.out.2.2.1.below hb4) ((hb4.block _ (Array.getElem?_eq_some_iff.1 HB3.out.2.2.2).1).trans HB3.out.2.2.2)))
      clear hb4 p0 p1 p2 p3 p4 p5
      go_wp2_with fail
      refine (nodes_ok HG.out _ _ HB4.out.2.1).mono ?_
      rintro e w5 ⟨rfl, hb5⟩
      have HB5 := Lib.hid (And.intro (HB4.out.1.trans (hb5.mono HB4.out.1.size)) ((hb5.block _ (Array.getElem?_eq_some_iff.1 HB4.out.2.2).1).trans HB4.out.2.2))
      clear hb5 q0 q1 q2 q3 q4 q5
      go_wp2_with fail
      go_roundg (l0.length - (kk + 1))
      case measure => omega
      case rel =>
        refine ⟨kk + 1, hlt, rfl, ?_, by go_num, HB5.out.1, HB5.out.2, ?_⟩
        · rw [HN.out.2, sizeL_snoc, HR.out.2.2.2]
          go_num
        · rw [HN.out.2, HR.out.2.2.2]
          intro y hy
          rcases List.mem_append.1 hy with hy | hy
          · exact HN.out.1 y hy
          · rw [List.mem_singleton] at hy
            subst hy
            exact ⟨HG.out, hh2⟩
    · have hkv : kk = l0.length := by omega
      subst hkv
      rw [List.take_length] at hall ⊢
      obtain ⟨S, hS⟩ : ∃ S : Nat, S = 1 + sizeL l0 + l0.length := ⟨_, rfl⟩
      rw [← hS]
      have HQ := Lib.hid (And.intro hb (And.intro hbx (And.intro hall hS)))
      clear hb hbx hall hS
      by_cases hn : 2000 < S
      · have hn' : decide ((S : Int) > 2000) = true := by simp; omega
        clear hn
        go_wp2_with fail
        refine (awake_any _).mono ?_; rintro e w5 ⟨rfl, hb5⟩
        have HB5 := Lib.hid (HQ.out.1.trans (hb5.mono HQ.out.1.size))
        clear hb5
        go_wp2_with fail
        go_ret
        exact ⟨rfl, HB5.out⟩
      have hn' : decide ((S : Int) > 2000) = false := by simp; omega
      have hgl : good (lst l0 NA) = true := lst_good HQ.out.2.2.1 hl40 (by have := HQ.out.2.2.2; omega)
      have hpl : plainR (lst l0 NA) = lst (l0.map plain) NA := by rw [plainR_good hgl, lst_plain]
      have hgp := good_plain hgl (good_sound hgl)
      rw [lst_plain] at hgp
      have hpp : plainR (lst (l0.map plain) NA) = lst (l0.map plain) NA := by rw [plainR_good hgp, lst_plain, List.map_map]; congr 1; exact List.map_congr_left fun x _ => plain_idem x
      have HP := Lib.hid (And.intro hpl hpp)
      clear hn hgl hpl hgp hpp
      go_wp2_with fail
      refine (rAtom_any _ _).mono ?_
      rintro e w4 ⟨rfl, hb4⟩
      have HB4 := Lib.hid (And.intro (HQ.out.1.trans (hb4.mono HQ.out.1.size)) ((hb4.block _ (Array.getElem?_eq_some_iff.1 HQ.out.2.1).1).trans HQ.out.2.1))
      clear hb4
      go_wp2_with fail
      refine (list_any l0 NA _ _ _ _ (HX.out.1.below HB4.out.1) (atom_lies _ _ _ (by decide)) (by omega)).mono ?_
      rintro e w5 ⟨kq, nq, iq, req, imq, aq, lq, cq, rfl, hb5, hq⟩
      have hq' := hq.off (Y := No) fun _ _ h => h.elim
      rw [HP.out.1] at hq'
      have HB5 := Lib.hid (And.intro (HB4.out.1.trans (hb5.mono HB4.out.1.size)) (And.intro ((hb5.block _ (Array.getElem?_eq_some_iff.1 HB4.out.2).1).trans HB4.out.2) hq'))
      clear hb5 hq hq'
      go_wp2_with fail
      refine (items_lst _ (l0.map plain) _ _ HB5.out.2.2 HP.out.2 (by simp; omega)).mono ?_
      rintro e w6 ⟨ag, cg, rfl, hlc, hrow, hb6⟩
      rw [List.length_map] at hlc ⊢
      have HB6 := Lib.hid (And.intro (HB5.out.1.trans (hb6.mono HB5.out.1.size)) (And.intro ((hb6.block _ (Array.getElem?_eq_some_iff.1 HB5.out.2.1).1).trans HB5.out.2.1) hrow))
      clear hlc hrow hb6
      go_wp2_with fail
      go_loopg [68] l0.length (Rel2 w w6 (.cells #[.int .i64 k, .string n, .int .i64 i, .int .u64 re, .int .u64 im, .slice a1 tl.length c1] 44) l0)
      case atStart => exact ⟨0, by omega, by omega, rfl, br _⟩
      case round =>
        obtain ⟨kk, hk, rfl, rfl, hb⟩ := hrel
        have hbw : Below w.heap.size w wr := HB6.out.1.trans (hb.mono HB6.out.1.size)
        by_cases hlt : kk < l0.length
        · obtain ⟨b1, o1, v0, v1, v2, v3, v4, v5, _, _, h6, hlx, hix⟩ := HX.out.1.look hlt
          obtain ⟨b2, o2, u0, u1, u2, u3, u4, u5, _, _, h62, hlx2, hix2⟩ := HB6.out.2.2.look (m := kk) (by rw [List.length_map]; exact hlt)
          have h6' := h6.keep (X := No) (Keep.of_below hbw) id
          have h62' := h62.keep (X := No) (Keep.of_below hb) id
          have hix' := hix c0
          have hix2' := hix2 cg
          rw [List.length_map] at hix2'
          rw [List.getElem_map] at hlx2
          obtain ⟨kq, nq, iq, req, imq, lq, aq, cq, hv, _⟩ := lies_form hlx
          obtain ⟨rfl, rfl, rfl, rfl, rfl, rfl⟩ := hv
          obtain ⟨kp, np, ip, rp, mp, lp, ap, cp, hv, _⟩ := lies_form hlx2
          obtain ⟨rfl, rfl, rfl, rfl, rfl, rfl⟩ := hv
          obtain ⟨e0, e1, e2, e3, e4, e5⟩ := h6'
          obtain ⟨f0, f1, f2, f3, f4, f5⟩ := h62'
          have hgx := (HQ.out.2.2.1 _ (List.getElem_mem hlt)).1
          have hsm : sameB (plain l0[kk]) l0[kk] = true := by rw [sameB_iff]; exact ⟨good_plain hgx (good_sound hgx), hgx, plain_idem _⟩
          have HR := Lib.hid (And.intro (hlx.below hbw) (And.intro (hlx2.below hb) (And.intro hb hsm)))
          clear h6 h62 hlx hlx2 hix hix2 hb hbw hgx hsm
          go_wp2_with fail
          go_still_tail 8, (by kernel_rfl)
          change wpList _ _ _ _ _ wr.drew
          obtain ⟨wd, hwd⟩ : ∃ wd, wd = wr.drew := ⟨_, rfl⟩
          have hd : ∀ p, wr.cell? p = wd.cell? p := by intro p; rw [hwd]; rfl
          have hbd : Below wr.heap.size wr wd := by rw [hwd]; exact bdr wr
          have HD := Lib.hid hbd
          rw [← hwd]
          rw [hd] at e0 e1 e2 e3 e4 e5 f0 f1 f2 f3 f4 f5
          clear hwd hd hbd
          go_wp2_with fail
          refine (same_any _ _ _ _ _ (HR.out.2.1.below HD.out) (HR.out.1.below HD.out)).mono ?_
          rintro e w7 ⟨rfl, hb7⟩
          rw [HR.out.2.2.2]
          have HB7 := Lib.hid ((HR.out.2.2.1.trans (HD.out.mono HR.out.2.2.1.size)).trans (hb7.mono (by have := HD.out.size; have := HR.out.2.2.1.size; omega)))
          clear hb7 e0 e1 e2 e3 e4 e5 f0 f1 f2 f3 f4 f5
          go_wp2_with fail
          go_roundg (l0.length - (kk + 1))
          case measure => omega
          case rel => exact ⟨kk + 1, hlt, rfl, by go_num, HB7.out⟩
        · have LL := Lib.hid (show Below w.heap.size w wr.drew ∧ wr.drew.heap[w.heap.size]? = some (.cells #[.int .i64 k, .string n, .int .i64 i, .int .u64 re, .int .u64 im, .slice a1 tl.length c1] 44 (0, 0)) from ⟨hbw.trans ((bdr wr).mono hbw.size), (hb.block _ (Array.getElem?_eq_some_iff.1 HB6.out.2.1).1).trans HB6.out.2.1⟩)
          obtain ⟨⟨e0, e1, e2, e3, e4, e5⟩, _⟩ := blk_facts LL.out.2
          clear hb hbw
          go_wp2_with fail
          go_region_with (first
            | (go_at_call 34; refine (list_nil T _ _ ?_).mono ?_; exact HT.out.below LL.out.1; rintro e wN ⟨kq, nq, iq, req, imq, aq, lq, cq, rfl, hbN, hq⟩; have QA := Lib.hid (hq.off (Y := No) fun _ _ h => h.elim); (try have QB := Lib.hid (QB.out.below hbN)); have LL := Lib.hid (And.intro (LL.out.1.trans (hbN.mono LL.out.1.size)) ((hbN.block _ (Array.getElem?_eq_some_iff.1 LL.out.2).1).trans LL.out.2)); obtain ⟨⟨e0, e1, e2, e3, e4, e5⟩, _⟩ := blk_facts LL.out.2; clear hbN hq)
            | (go_at_call 54; refine (rPlain_any T _ _ ?_).mono ?_; exact HT.out.below LL.out.1; rintro e wN ⟨kq, nq, iq, req, imq, aq, lq, cq, rfl, hbN, hq⟩; have QB := Lib.hid (hq.off (Y := No) fun _ _ h => h.elim); (try have QA := Lib.hid (QA.out.below hbN)); have LL := Lib.hid (And.intro (LL.out.1.trans (hbN.mono LL.out.1.size)) ((hbN.block _ (Array.getElem?_eq_some_iff.1 LL.out.2).1).trans LL.out.2)); obtain ⟨⟨e0, e1, e2, e3, e4, e5⟩, _⟩ := blk_facts LL.out.2; clear hbN hq)
            | (go_at_call 33; refine (requal_plain T _ _ _ QA.out QB.out).mono ?_; rintro e wN ⟨rfl, hbN⟩; have LL := Lib.hid (And.intro (LL.out.1.trans (hbN.mono LL.out.1.size)) ((hbN.block _ (Array.getElem?_eq_some_iff.1 LL.out.2).1).trans LL.out.2)); clear hbN)
            | (go_at_call 30; refine (awake_any _).mono ?_; rintro e wN ⟨rfl, hbN⟩; have LL := Lib.hid (And.intro (LL.out.1.trans (hbN.mono LL.out.1.size)) ((hbN.block _ (Array.getElem?_eq_some_iff.1 LL.out.2).1).trans LL.out.2)); clear hbN))
          all_goals go_wp2_with fail
          all_goals go_ret
          all_goals exact ⟨rfl, LL.out.1⟩
set_option maxRecDepth 100000 in
theorem lifted (os : Os) (started : os.Started) (H : Type) (enc : TypeId × Value → H) :
    ReturnsInHanded {} Try.checked os 11 .any (Rows.termItemsSpec.pre6 enc Try.prog Try.f11 Rows.termItemsRow.domain false) (Rows.termItemsSpec.post enc Try.prog Try.f11 false true false false) := by
  refine returnsInHanded_of_change_sized (C := Try.checked) own started (by kernel_rfl) Try.func11
    (ChangeSpec.witness6 (enc := enc) (C := Try.checked) false ⟨#[], #[.slice none 0 0, .agg #[.int .i64 0, .string ⟨#[]⟩, .int .i64 0, .int .u64 0, .int .u64 0, .slice none 0 0]], []⟩ 8 (by kernel_rfl) (by kernel_rfl) (by kernel_rfl) (by kernel_rfl)) ?_
  intro W base args ds gs before hval0 hW _ hsz0 _
  have hsz : (DataW.weightsEach Try.prog (Try.f11.params.toList ++ Rows.termItemsSpec.plain.varTypes Try.prog) (ds ++ gs)).all (· ≤ reachBytes) = true := hsz0
  clear hsz0
  have hval : ∀ (j : Nat) t v, Try.f11.params[j]? = some t → args[j]? = some v → Value.okWide Try.prog W .any base t v := hval0
  have hW' := hW
  obtain ⟨p, q, hA0, hV, rfl, hfz, hnd⟩ := hW
  have hA : DataW.TrodAll enc Try.prog W 0 (fun _ => true) true Try.f11.params.toList args.toList ds p := hA0
  rw [Try.params11] at hA hval hsz
  obtain ⟨v0, vs0, d0, ds0, p0, q0, hargs, rfl, rfl, h0, r0⟩ := trodAll_cons hA
  obtain ⟨v1, vs1, d1, ds1, p1, q1, rfl, rfl, rfl, h1, r1⟩ := trodAll_cons r0
  obtain ⟨rfl, rfl, rfl⟩ := trodAll_nil r1
  obtain rfl : args = #[v0, v1] := by cases args; simp_all
  obtain ⟨rfl, rfl⟩ := trodVars_none hV
  simp only [List.append_nil] at hW'
  have lt0 : ∀ x ∈ p0, x.block < W.heap.size := fun x hx => by
    have := hW'.lt x (by simp [hx])
    simpa using this
  have k0 := h0
  have lt1 : ∀ x ∈ p1, x.block < W.heap.size := fun x hx => by
    have := hW'.lt x (by simp [hx])
    simpa using this
  have k1 := h1
  obtain ⟨a0, n0, c0, rfl⟩ := okWide_slice Try.underlying42 (hval 0 42 v0 rfl rfl)
  obtain ⟨l0, g0, x0, m0, y0, z0⟩ := slice_arg h0 (fun x y e => sized_slice hsz (j := 0) (t := 42) (e := 44) rfl (by rw [← e]; rfl) Try.underlying42)
  obtain ⟨t1, x1⟩ := term_arg (by obtain ⟨cs, hcs, _⟩ := okWide_struct Try.underlying44 (hval 1 44 v1 rfl rfl); exact ⟨cs, hcs⟩) h1
  clear hA0 hval0
  refine (walk W a0 n0 c0 l0 g0 x0 m0 y0 z0 v1 t1 x1).mono fun e W' ⟨he, hg⟩ => ?_
  subst he
  have ha := (trodAll_cons_mk (Below.trod laidOut (by kernel_rfl) (of_decide_eq_true (by kernel_rfl)) k0 hg lt0) (trodAll_cons_mk (Below.trod laidOut (by kernel_rfl) (of_decide_eq_true (by kernel_rfl)) k1 hg lt1) trodAll_mk0))
  refine ⟨_, rfl, _, _, _, [], _, [], hW', ?_, ha, rfl, hg.frame _, fun h => by cases h⟩
  exact (trodAll_cons_mk (shut_bool Try.underlying4 _) trodAll_mk0)
/-- THE STATEMENT. -/
theorem proved : Rows.TermItemsSaid :=
  OpenClaim.holds_of_wide 11 Try.f11 rfl rfl rfl rfl rfl rfl rfl ⟨rfl, rfl, rfl, rfl, rfl⟩ rfl rfl rfl rfl rfl (by kernel_rfl) Try.func11 (by kernel_rfl)
    (of_decide_eq_true (by kernel_rfl)) (by unfold Func.isWrapper; first | (rw [if_pos (by decide +kernel)]; kernel_rfl) | (rw [if_neg (by decide +kernel)]; exact ⟨rfl, rfl⟩))
    (fun os started H enc _ => lifted os started H enc)
#print axioms proved
end Go.Proofs.Ytmcfapefbakceaa.termItems
