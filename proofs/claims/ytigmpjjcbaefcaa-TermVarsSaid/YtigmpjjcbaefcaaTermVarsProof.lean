/- The law TermVars holds: for every input its Go function returns true and leaves its arguments as they were. No condition beyond the row's own. -/
import Derived.Test.YtigmpjjcbaefcaaRows
import Derived.WalkKit
import Derived.ProofKit
import Derived.OpenShut
import Derived.SizedLaws
import Derived.Test.YtigmpjjcbaefcaaTOpen
import Derived.Test.YtigmpjjcbaefcaaTg
import Derived.Test.YtigmpjjcbaefcaaLgt
import Derived.Deep.QuietTactic
import Derived.BigQuiet
namespace Go.Proofs.Ytigmpjjcbaefcaa.termVars
open Go.ChangeShapes Go.WideShapes Go.ChangeAt Go.RowKit
open Go.ChangeMaps (open_string)
open Go.Proofs.Ytigmpjjcbaefcaa.tm Go.Proofs.Ytigmpjjcbaefcaa.lie Go.Proofs.Ytigmpjjcbaefcaa.kp Go.Proofs.Ytigmpjjcbaefcaa.top
set_option linter.unusedVariables false
theorem own : ownKnob Try.prog.godebug = none := by kernel_rfl
theorem laidOut : laidOutB Try.prog = true := by kernel_rfl
open Go.Proofs.Ytigmpjjcbaefcaa.tm Go.Proofs.Ytigmpjjcbaefcaa.lie Go.Proofs.Ytigmpjjcbaefcaa.kp Go.Proofs.Ytigmpjjcbaefcaa.mes Go.Proofs.Ytigmpjjcbaefcaa.vrs Go.Proofs.Ytigmpjjcbaefcaa.awk Go.Proofs.Ytigmpjjcbaefcaa.lgt Go.Proofs.Ytigmpjjcbaefcaa.cur Go.Proofs.Ytigmpjjcbaefcaa.rws Go.Proofs.Ytigmpjjcbaefcaa.ren
theorem nodes_ok {t : Tm} (hg : good t = true) (v : Value) (w : World) (ht : Lies No w t v) : Calls Try.prog 25 #[v] w fun e w' => e = .returned (.int .i64 (size t)) ∧ Below w.heap.size w w' := by
  have := nodes_any t v w ht
  rwa [nodes_good hg] at this
theorem depth_ok {t : Tm} (hg : good t = true) (v : Value) (w : World) (ht : Lies No w t v) : Calls Try.prog 35 #[v] w fun e w' => e = .returned (.int .i64 (height t)) ∧ Below w.heap.size w w' := by
  have := depth_any t v w ht
  rwa [depth_good hg] at this
theorem take_nx {α : Type} {l : List α} {k : Nat} (hk : k < l.length) : l.take (k + 1) = l.take k ++ [l[k]] := by
  rw [List.take_succ_eq_append_getElem hk]
/-- what was met is met but once -/
theorem fold_twice : ∀ (l D acc : List Int), (l.foldl addv D).foldl addv acc = l.foldl addv (D.foldl addv acc)
  | [], D, acc => rfl
  | v :: r, D, acc => by
    rw [List.foldl_cons, List.foldl_cons, fold_twice r]
    congr 1
    by_cases hv : v ∈ D
    · have h1 : addv D v = D := if_pos hv
      have h2 : v ∈ D.foldl addv acc := (fold_mem D acc v).2 (Or.inr hv)
      have h3 : addv (D.foldl addv acc) v = D.foldl addv acc := if_pos h2
      rw [h1, h3]
    · have h1 : addv D v = D ++ [v] := if_neg hv
      rw [h1, List.foldl_append]; rfl
theorem vars_fold {t : Tm} (h : good t = true) (acc : List Int) : (vars t).foldl addv acc = (occ t).foldl addv acc := by
  unfold vars; rw [if_pos h, fold_twice]; rfl
theorem vars_len {t : Tm} (h : good t = true) : (vars t).length ≤ size t := by
  unfold vars; rw [if_pos h]
  have h1 := fold_len (occ t) []
  have h2 := occ_len t
  simp only [List.length_nil] at h1; omega
theorem mem_next {l : List Int} {k : Nat} {x : Int} (hk : k < l.length) : x ∈ l.take (k + 1) ↔ x ∈ l.take k ∨ x = l[k] := by
  rw [take_nx hk, List.mem_append, List.mem_singleton]
theorem occL_snoc (l : List Tm) (t : Tm) : occL (l ++ [t]) = occL l ++ occ t := by rw [occL_flat, occL_flat]; simp
def OwnB (a : Option Addr) (n c : Nat) : Nat → Prop := fun q => (Value.slice a n c).ownBlock = some q
/-- the numbers of one term: j of them have been looked at; w6: the world ahead of it -/
def Rel2 (w w6 : World) (F : Nat → Prop) (vs acc : List Int) (g : Nat) (s5 s57 : Value) (wr : World) : Prop :=
  ∃ (j : Nat) (acc2 : List Int) (a c : _), j ≤ vs.length ∧ g = vs.length - j ∧ s57 = .int .i64 j ∧ s5 = .slice a acc2.length c ∧ acc2 = (vs.take j).foldl addv acc ∧ acc2.length ≤ acc.length + j ∧
    wr.ownsRow w.heap.size 2 1 (.slice a acc2.length c) acc2.length (acc2.map (Value.int .i64)) ∧ (∀ q, OwnB a acc2.length c q → F q ∨ w6.heap.size ≤ q) ∧ Keep F w6 wr
def Rel4 (n : Nat) (w0 : World) (g : Nat) (s93 : Value) (wr : World) : Prop := ∃ i : Nat, i ≤ n ∧ g = n - i ∧ s93 = .int .i64 i ∧ Below w0.heap.size w0 wr
def Rel3 (acc2 : List Int) (x : Int) (w0 : World) (g : Nat) (s10 s63 : Value) (wr : World) : Prop :=
  ∃ (i : Nat) (b : Bool), i ≤ acc2.length ∧ g = acc2.length - i ∧ s63 = .int .i64 i ∧ s10 = .bool b ∧ b = decide (x ∈ acc2.take i) ∧ w0 = wr
/-- the slice of what is wanted -/
structure Want (B : Nat) (acc : List Int) (v : Value) (w : World) : Prop where
  own : w.ownsRow B 2 1 v acc.length (acc.map (Value.int .i64))
def Rel1 (w : World) (l : List Tm) (g : Nat) (s5 s36 : Value) (wr : World) : Prop :=
  ∃ (k : Nat) (acc : List Int), k ≤ l.length ∧ g = l.length - k ∧ s36 = .int .i64 k ∧ acc = (occL (l.take k)).foldl addv [] ∧ acc.length ≤ 200 * k ∧ Want w.heap.size acc s5 wr ∧ Below w.heap.size w wr ∧ ∀ x ∈ l.take k, good x = true ∧ size x ≤ 200 ∧ height x ≤ 300
theorem walk (w : World) (s0 : ByteArray) (z0 : s0.size ≤ 140737488351232) (a1 : Option Addr) (n1 c1 : Nat) (l1 : List Tm) (e1 : l1.length = n1) (x1 : TRow No w l1 a1 0) (m1 : n1 ≤ c1) (y1 : c1 ≤ maxLen) (z1 : n1 * 72 ≤ 140737488351232) :
    Calls Try.prog 9 #[.string s0, .slice a1 n1 c1] w fun e w' => e = .returned (.bool true) ∧ Below w.heap.size w w' := by
  subst e1
  by_cases h1 : l1.length = 0
  · have h1' : ((l1.length : Int) == 0) = true := by rw [beq_iff_eq]; omega
    have H1 := Lib.hid h1
    clear h1
    go_enter Try.func9, Try.ntmps9
    go_wp2_with fail
    refine (awake_any _).mono ?_; rintro e w2 ⟨rfl, hb⟩
    have HB := Lib.hid hb
    clear hb
    go_wp2_with fail
    go_ret
    exact ⟨rfl, HB.out⟩
  have h1' : ((l1.length : Int) == 0) = false := by rw [beq_eq_false_iff_ne]; omega
  by_cases h2 : 8 < l1.length
  · have h2' : decide ((l1.length : Int) > 8) = true := by simp; omega
    go_enter Try.func9, Try.ntmps9
    go_wp2_with fail
    refine (awake_any _).mono ?_; rintro e w2 ⟨rfl, hb⟩
    have HB := Lib.hid hb
    clear hb
    go_wp2_with fail
    go_ret
    exact ⟨rfl, HB.out⟩
  have h2' : decide ((l1.length : Int) > 8) = false := by simp; omega
  by_cases h3 : 50 < s0.size
  · have h3' : decide ((s0.size : Int) > 50) = true := by simp; omega
    go_enter Try.func9, Try.ntmps9
    go_wp2_with fail
    refine (awake_any _).mono ?_; rintro e w2 ⟨rfl, hb⟩
    have HB := Lib.hid hb
    clear hb
    go_wp2_with fail
    go_ret
    exact ⟨rfl, HB.out⟩
  have h3' : decide ((s0.size : Int) > 50) = false := by simp; omega
  have HX := Lib.hid (And.intro x1 (And.intro h1 (And.intro h3 (And.intro m1 y1))))
  have h8 : l1.length ≤ 8 := by omega
  clear x1 h1 h2 h3 m1 y1 z0 z1
  go_enter Try.func9, Try.ntmps9
  go_wp2_with fail
  refine (Light_any _ _ _ _ HX.out.1 (by omega)).mono ?_
  rintro e w2 ⟨b, rfl, hb⟩
  have HB := Lib.hid hb
  clear hb
  cases b
  · go_wp2_with fail
    refine (awake_any _).mono ?_; rintro e w3 ⟨rfl, hb⟩
    have HB3 := Lib.hid (bt HB.out hb)
    clear hb
    go_wp2_with fail
    go_ret
    exact ⟨rfl, HB3.out⟩
  go_wp2_with fail
  go_loopg [5, 36] l1.length (Rel1 w l1)
  case atStart => exact ⟨0, [], by omega, by omega, rfl, rfl, by simp, ⟨World.ownsRow_nil _ _ _ _⟩, HB.out, by simp⟩
  case round =>
    obtain ⟨kk, acc, hk, rfl, rfl, hacc, hal, hw, hb, hall⟩ := hrel
    obtain ⟨a5, c5, rfl⟩ := Go.Proofs.Ytigmpjjcbaefcaa.kp.shape hw.own
    have HW := Lib.hid (And.intro hacc hw.own)
    clear hacc hw
    by_cases hlt : kk < l1.length
    · obtain ⟨bb, o, v0, v1, v2, v3, v4, v5, hbl, _, h6, hlx, hix⟩ := HX.out.1.look hlt
      have h6' := h6.keep (X := No) (Keep.of_below hb) id
      have hix' := hix c1
      have hmem := List.getElem_mem hlt
      generalize hx : l1[kk] = x at hlx hmem
      obtain ⟨kq, nq, iq, req, imq, lq, aq, cq, hv, _⟩ := lies_form hlx
      obtain ⟨rfl, rfl, rfl, rfl, rfl, rfl⟩ := hv
      obtain ⟨e0, e1, e2, e3, e4, e5⟩ := h6'
      have HR := Lib.hid (And.intro hlx (And.intro hb (And.intro hall (And.intro hx (And.intro hmem trivial)))))
      clear h6 hlx hix hb hall hx hmem
      cases hg : good x
      · have hne : (may x != 0) = true := by rw [bne_iff_ne]; have := may_nogood hg; omega
        have HG := Lib.hid hg
        clear hg
        go_wp2_with fail
        refine (may_any _ _ _ ((HR.out.1.below HR.out.2.1).below (ba _ _))).mono ?_
        rintro e w3 ⟨rfl, hb3⟩
        have HB3 := Lib.hid (HR.out.2.1.trans ((bt (ba wr _) hb3).mono HR.out.2.1.size))
        clear hb3
        go_wp2_with fail
        refine (awake_any _).mono ?_; rintro e w4 ⟨rfl, hb4⟩
        have HB4 := Lib.hid (HB3.out.trans (hb4.mono HB3.out.size))
        clear hb4
        go_wp2_with fail
        go_ret
        exact ⟨rfl, HB4.out⟩
      have HG := Lib.hid hg
      clear hg
      have hgp := good_parts HG.out
      obtain ⟨hgp1, hgp2, _⟩ := hgp
      by_cases hs : 200 < size x
      · have hs' : decide ((size x : Int) > 200) = true := by simp; omega
        go_wp2_with fail
        refine (may_ok HG.out _ _ ((HR.out.1.below HR.out.2.1).below (ba _ _))).mono ?_
        rintro e w3 ⟨rfl, hb3⟩
        obtain ⟨⟨p0, p1, p2, p3, p4, p5⟩, _⟩ := blk_facts (box_at hb3).1
        have HB3 := Lib.hid (HR.out.2.1.trans ((bt (ba wr _) hb3).mono HR.out.2.1.size))
        have HL3 := Lib.hid (HR.out.1.below (bt HR.out.2.1 (bt (ba wr _) hb3)))
        clear hb3
        go_wp2_with fail
        refine (nodes_ok HG.out _ _ HL3.out).mono ?_
        rintro e w4 ⟨rfl, hb4⟩
        have HB4 := Lib.hid (HB3.out.trans (hb4.mono HB3.out.size))
        clear hb4
        go_wp2_with fail
        refine (awake_any _).mono ?_; rintro e w5 ⟨rfl, hb5⟩
        have HB5 := Lib.hid (HB4.out.trans (hb5.mono HB4.out.size))
        clear hb5
        go_wp2_with fail
        go_ret
        exact ⟨rfl, HB5.out⟩
      have hs' : decide ((size x : Int) > 200) = false := by simp; omega
      by_cases hh : 300 < height x
      · have hh' : decide ((height x : Int) > 300) = true := by simp; omega
        go_wp2_with fail
        refine (may_ok HG.out _ _ ((HR.out.1.below HR.out.2.1).below (ba _ _))).mono ?_
        rintro e w3 ⟨rfl, hb3⟩
        obtain ⟨⟨p0, p1, p2, p3, p4, p5⟩, _⟩ := blk_facts (box_at hb3).1
        have HB3 := Lib.hid (And.intro (HR.out.2.1.trans ((bt (ba wr _) hb3).mono HR.out.2.1.size)) (And.intro (box_at hb3).1 (HR.out.1.below (bt HR.out.2.1 (bt (ba wr _) hb3)))))
        clear hb3
        go_wp2_with fail
        refine (nodes_ok HG.out _ _ HB3.out.2.2).mono ?_
        rintro e w4 ⟨rfl, hb4⟩
        obtain ⟨⟨p0, p1, p2, p3, p4, p5⟩, _⟩ := blk_facts ((hb4.block _ (Array.getElem?_eq_some_iff.1 HB3.out.2.1).1).trans HB3.out.2.1)
        have HB4 := Lib.hid (And.intro (HB3.out.1.trans (hb4.mono HB3.out.1.size)) (HB3.out.2.2.below hb4))
        clear hb4
        go_wp2_with fail
        refine (depth_ok HG.out _ _ HB4.out.2).mono ?_
        rintro e w6 ⟨rfl, hb6⟩
        have HB6 := Lib.hid (HB4.out.1.trans (hb6.mono HB4.out.1.size))
        clear hb6
        go_wp2_with fail
        refine (awake_any _).mono ?_; rintro e w5 ⟨rfl, hb5⟩
        have HB5 := Lib.hid (HB6.out.trans (hb5.mono HB6.out.size))
        clear hb5
        go_wp2_with fail
        go_ret
        exact ⟨rfl, HB5.out⟩
      have hh' : decide ((height x : Int) > 300) = false := by simp; omega
      have HSH := Lib.hid (And.intro hs hh)
      have hx1 : size x ≤ 200 := by omega
      have hx2 : height x ≤ 300 := by omega
      clear hs hh
      go_wp2_with fail
      refine (may_ok HG.out _ _ ((HR.out.1.below HR.out.2.1).below (ba _ _))).mono ?_
      rintro e w3 ⟨rfl, hb3⟩
      obtain ⟨⟨p0, p1, p2, p3, p4, p5⟩, _⟩ := blk_facts (box_at hb3).1
      have HB3 := Lib.hid (And.intro (HR.out.2.1.trans ((bt (ba wr _) hb3).mono HR.out.2.1.size)) (And.intro (box_at hb3).1 (And.intro (HR.out.1.below (bt HR.out.2.1 (bt (ba wr _) hb3))) (bt (ba wr _) hb3))))
      clear hb3
      go_wp2_with fail
      refine (nodes_ok HG.out _ _ HB3.out.2.2.1).mono ?_
      rintro e w4 ⟨rfl, hb4⟩
      have hbx4 := (hb4.block _ (Array.getElem?_eq_some_iff.1 HB3.out.2.1).1).trans HB3.out.2.1
      obtain ⟨⟨p0, p1, p2, p3, p4, p5⟩, _⟩ := blk_facts hbx4
      have HB4 := Lib.hid (And.intro (HB3.out.1.trans (hb4.mono HB3.out.1.size)) (And.intro hbx4 (And.intro (HB3.out.2.2.1.below hb4) (bt HB3.out.2.2.2 hb4))))
      clear hb4 hbx4
      go_wp2_with fail
      refine (depth_ok HG.out _ _ HB4.out.2.2.1).mono ?_
      rintro e w5 ⟨rfl, hb5⟩
      have hbx5 := (hb5.block _ (Array.getElem?_eq_some_iff.1 HB4.out.2.1).1).trans HB4.out.2.1
      obtain ⟨⟨p0, p1, p2, p3, p4, p5⟩, _⟩ := blk_facts hbx5
      have HB5 := Lib.hid (And.intro (HB4.out.1.trans (hb5.mono HB4.out.1.size)) (And.intro hbx5 (And.intro (HB4.out.2.2.1.below hb5) (bt HB4.out.2.2.2 hb5))))
      clear hb5 hbx5
      go_wp2_with fail
      refine (vars_any _ _ _ HB5.out.2.2.1).mono ?_
      rintro e w6 ⟨vv, rfl, hv6, hb6⟩
      obtain ⟨a6, c6, rfl⟩ := Go.Proofs.Ytigmpjjcbaefcaa.kp.shape hv6
      have hvl := vars_len HG.out
      have hbw : Below wr.heap.size wr w6 := bt HB5.out.2.2.2 hb6
      have hown6 : w6.ownsRow w.heap.size 2 1 (.slice a5 acc.length c5) acc.length (acc.map (Value.int .i64)) := row_keep HW.out.2 fun q e => hbw.block q (HW.out.2.lt q e).2
      have H6 := Lib.hid (And.intro hv6 (And.intro hown6 (And.intro hbw (And.intro hb6 (HB5.out.1.trans (hb6.mono HB5.out.1.size))))))
      have hvl2 : (vars x).length ≤ 200 := by omega
      have hvs : ∃ vs, vs = vars x := ⟨_, rfl⟩
      obtain ⟨vs, hvs⟩ := hvs
      rw [← hvs] at hvl2 ⊢
      have HVS := Lib.hid hvs
      clear hv6 hb6 hvl hbw hown6 p0 p1 p2 p3 p4 p5 e0 e1 e2 e3 e4 e5 hvs
      go_wp2_with fail
      obtain ⟨wo, hwo⟩ : ∃ wo, wo = wr := ⟨_, rfl⟩
      subst hwo
      go_loopg [5, 57] vs.length (Rel2 w w6 (OwnB a5 acc.length c5) vs acc)
      case atStart => exact ⟨0, acc, a5, c5, by omega, by omega, rfl, rfl, rfl, by omega, H6.out.2.1, fun q e => Or.inl e, Keep.refl _ _⟩
      case round =>
        obtain ⟨j, acc2, a7, c7, hj, rfl, rfl, rfl, hacc2, hal2, hown2, hq2, hk2⟩ := hrel
        have hdis : ∀ q, OwnB a5 acc.length c5 q → w.heap.size ≤ q ∧ q < w5.heap.size := fun q e => ⟨(HW.out.2.lt q e).1, by have := (HW.out.2.lt q e).2; have := HB5.out.2.2.2.size; omega⟩
        have h56 : w5.heap.size ≤ w6.heap.size := H6.out.2.2.2.1.size
        by_cases hjl : j < vs.length
        · have hv6 := H6.out.1
          rw [← HVS.out] at hv6
          obtain ⟨g6, hc6, hg61, hg62, hga, hix6⟩ := ints_look hv6 hjl
          clear hga
          have hc7 : wr.cell? ⟨g6, j, none⟩ = some (.int .i64 vs[j]) := (hk2.cell hg62 (fun e => by have := (hdis _ e).2; omega)).trans hc6
          generalize hvj : vs[j] = vj at hc7
          have HJ := Lib.hid (And.intro hvj (And.intro hacc2 (And.intro hown2 (And.intro hq2 (And.intro hk2 hdis)))))
          clear hv6 hc6 hg61 hg62 hvj hacc2 hown2 hq2 hk2 hdis
          go_wp2_with fail
          obtain ⟨wp, hwp⟩ : ∃ wp, wp = wr := ⟨_, rfl⟩
          subst hwp
          go_loopg [10, 63] acc2.length (Rel3 acc2 vj wp)
          case atStart => exact ⟨0, false, by omega, by omega, rfl, rfl, by simp, rfl⟩
          case round =>
            obtain ⟨ii, bi, hi, rfl, rfl, rfl, hbi, rfl⟩ := hrel
            by_cases hil : ii < acc2.length
            · obtain ⟨g7, hc8, _, _, hga, hix8⟩ := ints_look HJ.out.2.2.1 hil
              clear hga
              have hnext : decide (vj ∈ acc2.take (ii + 1)) = (bi || (vj == acc2[ii])) := by
                rw [Bool.eq_iff_iff, decide_eq_true_iff, mem_next hil, hbi]; simp only [Bool.or_eq_true, decide_eq_true_iff, beq_iff_eq]
              have HN := Lib.hid hnext
              clear hnext hbi
              cases bi
              · go_wp2_with fail
                go_roundg (acc2.length - (ii + 1))
                case measure => omega
                case rel => exact ⟨ii + 1, _, hil, rfl, by go_num, rfl, by rw [HN.out, Bool.false_or], rfl⟩
              · go_wp2_with fail
                go_roundg (acc2.length - (ii + 1))
                case measure => omega
                case rel => exact ⟨ii + 1, _, hil, rfl, by go_num, rfl, by rw [HN.out, Bool.true_or], rfl⟩
            · have hia : ii = acc2.length := by omega
              subst hia
              rw [List.take_of_length_le (Nat.le_refl _)] at hbi
              have hadd : addv acc2 vj = if bi = true then acc2 else acc2 ++ [vj] := by
                unfold addv; rw [hbi]; simp
              have HA := Lib.hid hadd
              clear hbi hadd
              cases bi
              · obtain ⟨ij, hi1, hi2, hi3, hi4⟩ := info_parts infoI
                have HI := Lib.hid (And.intro hi1 (And.intro hi2 (And.intro hi3 hi4)))
                have hkl : kk ≤ 8 := by omega
                have hal9 : acc2.length ≤ 2000 := by omega
                have hwo : w.heap.size ≤ wp.heap.size := by have := H6.out.2.2.2.2.size; have := HJ.out.2.2.2.2.1.size; omega
                have HWO := Lib.hid hwo
                clear hi1 hi2 hi3 hi4 hwo
                go_wp2_with (at_builtin; refine wpList_append_lies _ rfl (.tmp 76) (.tmp 78) 43 rfl w.heap.size 2 ij (.int .i64 0) 1 8 Try.underlying43 HI.out.1 HI.out.2.1 HI.out.2.2.1 HI.out.2.2.2 rfl (by decide) _ acc2.length (acc2.map (Value.int .i64)) rfl (row_keep HJ.out.2.2.1 fun k e => (ba _ _).block k (HJ.out.2.2.1.lt k e).2) ⟨wp.heap.size, 0, none⟩ 1 1 [.int .i64 vj] rfl rfl (cell_one_new _ _ _) ?ac1 (by omega) ?ac2 ?ac3 ?ac4 _ rfl ?_)
                case ac1 => intro u hu; simp only [List.mem_singleton] at hu; subst hu; rfl
                case ac2 => unfold maxLen; omega
                case ac3 => omega
                case ac4 => have := HWO.out; rw [alloc_size]; omega
                intro g' c' w9 ho9 hg9 ha9 hl9
                have H9 := Lib.hid (And.intro ho9 (And.intro (grown_v hg9) (And.intro (ha9.imp id fun e => (show wp.heap.size ≤ g' by omega)) hl9)))
                clear ho9 hg9 ha9 hl9
                go_wp2_with fail
                go_roundg (vs.length - (j + 1))
                case measure => omega
                case rel =>
                  obtain ⟨hvj, hacc2, hown2, hq2, hk2, hdis⟩ := HJ.out
                  obtain ⟨ho9, hk9, ha9, hl9⟩ := H9.out
                  have hA : addv acc2 vj = acc2 ++ [vj] := by have := HA.out; simpa using this
                  have hs2 := hk2.size
                  refine ⟨j + 1, acc2 ++ [vj], some ⟨g', 0, none⟩, c', hjl, rfl, by go_num, ?_, ?_, by simp; omega, by simpa using ho9, fun q e => ?_, hk2.trans hk9 fun q e => hq2 q e⟩
                  · simp
                  · rw [take_nx hjl, List.foldl_append, ← hacc2, hvj, List.foldl_cons, List.foldl_nil, hA]
                  · have e' : g' = q := by simpa [OwnB, Value.ownBlock] using e
                    subst e'
                    rcases ha9 with h | h
                    · exact hq2 _ h
                    · exact Or.inr (by omega)
              · go_wp2_with fail
                go_roundg (vs.length - (j + 1))
                case measure => omega
                case rel =>
                  obtain ⟨hvj, hacc2, hown2, hq2, hk2, hdis⟩ := HJ.out
                  refine ⟨j + 1, acc2, a7, c7, hjl, rfl, by go_num, rfl, ?_, by omega, hown2, hq2, hk2⟩
                  have hA : addv acc2 vj = acc2 := by have := HA.out; simpa using this
                  rw [take_nx hjl, List.foldl_append, ← hacc2, hvj, List.foldl_cons, List.foldl_nil, hA]
        · have hjv : j = vs.length := by omega
          subst hjv
          rw [List.take_of_length_le (Nat.le_refl _)] at hacc2
          have HJ := Lib.hid (And.intro hacc2 (And.intro hown2 (And.intro hq2 (And.intro hk2 hdis))))
          clear hacc2 hown2 hq2 hk2 hdis
          go_wp2_with fail
          go_roundg (l1.length - (kk + 1))
          case measure => omega
          case rel =>
            obtain ⟨hacc2, hown2, hq2, hk2, hdis⟩ := HJ.out
            obtain ⟨hlx, hb, hall, hx, hmem, _⟩ := HR.out
            have hk2' : Below w.heap.size w wr := H6.out.2.2.2.2.trans (hk2.to_below (fun q e => (hdis q e).1) H6.out.2.2.2.2.size)
            refine ⟨kk + 1, acc2, hlt, rfl, by go_num, ?_, by omega, ⟨hown2⟩, hk2', fun y hy => ?_⟩
            · rw [take_nx hlt, hx, occL_snoc, List.foldl_append, ← HW.out.1, hacc2, HVS.out, vars_fold HG.out]
            · rw [take_nx hlt, hx] at hy
              rcases List.mem_append.1 hy with hy | hy
              · exact hall y hy
              · simp only [List.mem_singleton] at hy
                subst hy
                exact ⟨HG.out, hx1, hx2⟩
    · have hkv : kk = l1.length := by omega
      subst hkv
      rw [List.take_of_length_le (Nat.le_refl _)] at hall
      have hcg := comp_good (n := s0) (fun e => HX.out.2.1 (by rw [e]; rfl)) h8 (by have := HX.out.2.2.1; omega) hall
      have hlc := comp_lies (X := No) (w := wr) (n := s0) (a := a1) (c := c1) (by have := HX.out.2.2.1; omega) (by have := HX.out.2.2.2.1; omega) HX.out.2.2.2.2 (HX.out.1.below hb)
      have hvc : vars (comp s0 l1) = acc := by
        rw [HW.out.1, List.take_of_length_le (Nat.le_refl _), vars, if_pos hcg.1]; rfl
      have HC := Lib.hid (And.intro hvc (And.intro hlc hb))
      have hal9 : acc.length ≤ 1600 := by omega
      clear hcg hlc hb hall hvc
      go_wp2_with fail
      refine (rComp_any _ _ _ _ _).mono ?_
      rintro e w2 ⟨rfl, hb2⟩
      have HB2 := Lib.hid (And.intro (bt HC.out.2.2 (hb2.mono (Nat.le_refl _))) (And.intro (HC.out.2.1.below hb2) hb2))
      clear hb2
      go_wp2_with fail
      have hv := vars_any _ _ _ HB2.out.2.1
      rw [HC.out.1] at hv
      refine hv.mono ?_
      rintro e w3 ⟨vv, rfl, hv3, hb3⟩
      clear hv
      obtain ⟨a3, c3, rfl⟩ := Go.Proofs.Ytigmpjjcbaefcaa.kp.shape hv3
      have hb23 := bt HB2.out.2.2 hb3
      have hown3 : w3.ownsRow w.heap.size 2 1 (.slice a5 acc.length c5) acc.length (acc.map (Value.int .i64)) := row_keep HW.out.2 fun q e => hb23.block q (HW.out.2.lt q e).2
      have H3 := Lib.hid (And.intro hv3 (And.intro hown3 (HC.out.2.2.trans (hb23.mono HC.out.2.2.size))))
      clear hv3 hown3 hb23 hb3
      go_wp2_with fail
      go_loopg [93] acc.length (Rel4 acc.length w3)
      case atStart => exact ⟨0, by omega, by omega, rfl, br w3⟩
      case round =>
        obtain ⟨ii, hi, rfl, rfl, hbr⟩ := hrel
        by_cases hil : ii < acc.length
        · obtain ⟨g3, hc3, _, hg3, hga3, hix3⟩ := ints_look H3.out.1 hil
          obtain ⟨g5, hc5, _, hg5, hga5, hix5⟩ := ints_look H3.out.2.1 hil
          clear hga3 hga5
          have hc3' := (hbr.cell (p := ⟨g3, ii, none⟩) hg3).trans hc3
          have hc5' := (hbr.cell (p := ⟨g5, ii, none⟩) hg5).trans hc5
          generalize acc[ii] = y at hc3 hc5 hc3' hc5'
          have HBR := Lib.hid hbr
          clear hc3 hc5 hbr
          go_wp2_with fail
          go_quiet (fail)
          go_wp2_with fail
          go_roundg (acc.length - (ii + 1))
          case measure => omega
          case rel => exact ⟨ii + 1, hil, rfl, by go_num, bt HBR.out ⟨rfl, rfl, rfl, Nat.le_refl _, fun _ _ => rfl⟩⟩
        · have HBR := Lib.hid (H3.out.2.2.trans (hbr.mono H3.out.2.2.size))
          clear hbr
          go_wp2_with fail
          refine (awake_any _).mono ?_; rintro e w6 ⟨rfl, hb6⟩
          have HB6 := Lib.hid (HBR.out.trans (hb6.mono HBR.out.size))
          clear hb6
          go_wp2_with fail
          go_ret
          exact ⟨rfl, HB6.out⟩
set_option maxRecDepth 100000 in
theorem lifted (os : Os) (started : os.Started) (H : Type) (enc : TypeId × Value → H) :
    ReturnsInHanded {} Try.checked os 9 .any (Rows.termVarsSpec.pre6 enc Try.prog Try.f9 Rows.termVarsRow.domain false) (Rows.termVarsSpec.post enc Try.prog Try.f9 false true false false) := by
  refine returnsInHanded_of_change_sized (C := Try.checked) own started (by kernel_rfl) Try.func9
    (ChangeSpec.witness6 (enc := enc) (C := Try.checked) false ⟨#[], #[.string ⟨#[]⟩, .slice none 0 0], []⟩ 8 (by kernel_rfl) (by kernel_rfl) (by kernel_rfl) (by kernel_rfl)) ?_
  intro W base args ds gs before hval0 hW _ hsz0 _
  have hsz : (DataW.weightsEach Try.prog (Try.f9.params.toList ++ Rows.termVarsSpec.plain.varTypes Try.prog) (ds ++ gs)).all (· ≤ reachBytes) = true := hsz0
  clear hsz0
  have hval : ∀ (j : Nat) t v, Try.f9.params[j]? = some t → args[j]? = some v → Value.okWide Try.prog W .any base t v := hval0
  have hW' := hW
  obtain ⟨p, q, hA0, hV, rfl, hfz, hnd⟩ := hW
  have hA : DataW.TrodAll enc Try.prog W 0 (fun _ => true) true Try.f9.params.toList args.toList ds p := hA0
  rw [Try.params9] at hA hval hsz
  obtain ⟨v0, vs0, d0, ds0, p0, q0, hargs, rfl, rfl, h0, r0⟩ := trodAll_cons hA
  obtain ⟨v1, vs1, d1, ds1, p1, q1, rfl, rfl, rfl, h1, r1⟩ := trodAll_cons r0
  obtain ⟨rfl, rfl, rfl⟩ := trodAll_nil r1
  obtain rfl : args = #[v0, v1] := by cases args; simp_all
  obtain ⟨rfl, rfl⟩ := trodVars_none hV
  simp only [List.append_nil] at hW'
  have lt0 : ∀ x ∈ p0, x.block < W.heap.size := fun x hx => by
    have := hW'.lt x (by simp [hx])
    simpa using this
  have k0 := h0
  have lt1 : ∀ x ∈ p1, x.block < W.heap.size := fun x hx => by
    have := hW'.lt x (by simp [hx])
    simpa using this
  have k1 := h1
  obtain ⟨s0, rfl, rfl, rfl, u0⟩ := open_string Try.underlying9 (hval 0 9 v0 rfl rfl) h0
  have z0 : s0.size ≤ 140737488351232 := by
    have g1 := sized_string hsz (j := 0) (t := 9) rfl rfl
    have e3 : reachBytes = 140737488351232 := by decide
    have e4 : s0.data.toList.length = s0.size := rfl
    omega
  obtain ⟨a1, n1, c1, rfl⟩ := okWide_slice Try.underlying22 (hval 1 22 v1 rfl rfl)
  obtain ⟨l1, g1, x1, m1, y1, z1⟩ := slice_arg h1 (fun x y e => sized_slice hsz (j := 1) (t := 22) (e := 25) rfl (by rw [← e]; rfl) Try.underlying22)
  clear hA0 hval0
  refine (walk W s0 z0 a1 n1 c1 l1 g1 x1 m1 y1 z1).mono fun e W' ⟨he, hg⟩ => ?_
  subst he
  have ha := (trodAll_cons_mk (Below.trod laidOut (by kernel_rfl) (of_decide_eq_true (by kernel_rfl)) k0 hg lt0) (trodAll_cons_mk (Below.trod laidOut (by kernel_rfl) (of_decide_eq_true (by kernel_rfl)) k1 hg lt1) trodAll_mk0))
  refine ⟨_, rfl, _, _, _, [], _, [], hW', ?_, ha, rfl, hg.frame _, fun h => by cases h⟩
  exact (trodAll_cons_mk (shut_bool Try.underlying4 _) trodAll_mk0)
/-- THE STATEMENT. -/
theorem proved : Rows.TermVarsSaid :=
  OpenClaim.holds_of_wide 9 Try.f9 rfl rfl rfl rfl rfl rfl rfl ⟨rfl, rfl, rfl, rfl, rfl⟩ rfl rfl rfl rfl rfl (by kernel_rfl) Try.func9 (by kernel_rfl)
    (of_decide_eq_true (by kernel_rfl)) (by unfold Func.isWrapper; first | (rw [if_pos (by decide +kernel)]; kernel_rfl) | (rw [if_neg (by decide +kernel)]; exact ⟨rfl, rfl⟩))
    (fun os started H enc _ => lifted os started H enc)
#print axioms proved
end Go.Proofs.Ytigmpjjcbaefcaa.termVars
