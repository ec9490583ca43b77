/- The law TermCounts holds: for every input its Go function returns true and leaves its arguments as they were. No condition beyond the row's own. -/
import Derived.Test.YtigmpjjcbaefcaaRows
import Derived.WalkKit
import Derived.ProofKit
import Derived.OpenShut
import Derived.SizedLaws
import Derived.Test.YtigmpjjcbaefcaaTOpen
import Derived.Test.YtigmpjjcbaefcaaTg
import Derived.Test.YtigmpjjcbaefcaaLgt
namespace Go.Proofs.Ytigmpjjcbaefcaa.termCounts
open Go.ChangeShapes Go.WideShapes Go.ChangeAt Go.RowKit
open Go.ChangeMaps (open_string)
open Go.Proofs.Ytigmpjjcbaefcaa.tm Go.Proofs.Ytigmpjjcbaefcaa.lie Go.Proofs.Ytigmpjjcbaefcaa.kp Go.Proofs.Ytigmpjjcbaefcaa.top
set_option linter.unusedVariables false
theorem own : ownKnob Try.prog.godebug = none := by kernel_rfl
theorem laidOut : laidOutB Try.prog = true := by kernel_rfl
open Go.Proofs.Ytigmpjjcbaefcaa.tm Go.Proofs.Ytigmpjjcbaefcaa.lie Go.Proofs.Ytigmpjjcbaefcaa.kp Go.Proofs.Ytigmpjjcbaefcaa.mes Go.Proofs.Ytigmpjjcbaefcaa.vrs Go.Proofs.Ytigmpjjcbaefcaa.awk Go.Proofs.Ytigmpjjcbaefcaa.lgt Go.Proofs.Ytigmpjjcbaefcaa.cur Go.Proofs.Ytigmpjjcbaefcaa.rws
theorem nodes_ok {t : Tm} (hg : good t = true) (v : Value) (w : World) (ht : Lies No w t v) : Calls Try.prog 25 #[v] w fun e w' => e = .returned (.int .i64 (size t)) ∧ Below w.heap.size w w' := by
  have := nodes_any t v w ht
  rwa [nodes_good hg] at this
theorem depth_ok {t : Tm} (hg : good t = true) (v : Value) (w : World) (ht : Lies No w t v) : Calls Try.prog 35 #[v] w fun e w' => e = .returned (.int .i64 (height t)) ∧ Below w.heap.size w w' := by
  have := depth_any t v w ht
  rwa [depth_good hg] at this
theorem take_next {l : List Tm} {k : Nat} (hk : k < l.length) : l.take (k + 1) = l.take k ++ [l[k]] := by
  rw [List.take_succ_eq_append_getElem hk]
def Rel (w : World) (l : List Tm) (g : Nat) (s5 s6 s31 : Value) (wr : World) : Prop :=
  ∃ k : Nat, k ≤ l.length ∧ g = l.length - k ∧ s5 = .int .i64 (1 + sizeL (l.take k) : Nat) ∧ s6 = .int .i64 (heightL (l.take k) : Nat) ∧ s31 = .int .i64 k ∧ Below w.heap.size w wr ∧ ∀ x ∈ l.take k, good x = true ∧ size x ≤ 200 ∧ height x ≤ 300
theorem walk (w : World) (s0 : ByteArray) (z0 : s0.size ≤ 140737488351232) (a1 : Option Addr) (n1 c1 : Nat) (l1 : List Tm) (e1 : l1.length = n1) (x1 : TRow No w l1 a1 0) (m1 : n1 ≤ c1) (y1 : c1 ≤ maxLen) (z1 : n1 * 72 ≤ 140737488351232) :
    Calls Try.prog 8 #[.string s0, .slice a1 n1 c1] w fun e w' => e = .returned (.bool true) ∧ Below w.heap.size w w' := by
  subst e1
  by_cases h1 : l1.length = 0
  · have h1' : ((l1.length : Int) == 0) = true := by rw [beq_iff_eq]; omega
    have H1 := Lib.hid h1
    clear h1
    go_enter Try.func8, Try.ntmps8
    go_wp2_with fail
    refine (awake_any _).mono ?_; rintro e w2 ⟨rfl, hb⟩
    have HB := Lib.hid hb
    clear hb
    go_wp2_with fail
    go_ret
    exact ⟨rfl, HB.out⟩
  have h1' : ((l1.length : Int) == 0) = false := by rw [beq_eq_false_iff_ne]; omega
  by_cases h2 : 8 < l1.length
  · have h2' : decide ((l1.length : Int) > 8) = true := by simp; omega
    go_enter Try.func8, Try.ntmps8
    go_wp2_with fail
    refine (awake_any _).mono ?_; rintro e w2 ⟨rfl, hb⟩
    have HB := Lib.hid hb
    clear hb
    go_wp2_with fail
    go_ret
    exact ⟨rfl, HB.out⟩
  have h2' : decide ((l1.length : Int) > 8) = false := by simp; omega
  by_cases h3 : 50 < s0.size
  · have h3' : decide ((s0.size : Int) > 50) = true := by simp; omega
    go_enter Try.func8, Try.ntmps8
    go_wp2_with fail
    refine (awake_any _).mono ?_; rintro e w2 ⟨rfl, hb⟩
    have HB := Lib.hid hb
    clear hb
    go_wp2_with fail
    go_ret
    exact ⟨rfl, HB.out⟩
  have h3' : decide ((s0.size : Int) > 50) = false := by simp; omega
  have HX := Lib.hid (And.intro x1 (And.intro h1 (And.intro h3 (And.intro m1 y1))))
  have h8 : l1.length ≤ 8 := by omega
  clear x1 h1 h2 h3 m1 y1 z0 z1
  go_enter Try.func8, Try.ntmps8
  go_wp2_with fail
  refine (Light_any _ _ _ _ HX.out.1 (by omega)).mono ?_
  rintro e w2 ⟨b, rfl, hb⟩
  have HB := Lib.hid hb
  clear hb
  cases b
  · go_wp2_with fail
    refine (awake_any _).mono ?_; rintro e w3 ⟨rfl, hb⟩
    have HB3 := Lib.hid (bt HB.out hb)
    clear hb
    go_wp2_with fail
    go_ret
    exact ⟨rfl, HB3.out⟩
  go_wp2_with fail
  go_loopg [5, 6, 31] l1.length (Rel w l1)
  case atStart => exact ⟨0, by omega, by omega, by simp [sizeL], by simp [heightL], rfl, HB.out, by simp⟩
  case round =>
    obtain ⟨kk, hk, rfl, rfl, rfl, rfl, hb, hall⟩ := hrel
    by_cases hlt : kk < l1.length
    · obtain ⟨bb, o, v0, v1, v2, v3, v4, v5, hbl, _, h6, hlx, hix⟩ := HX.out.1.look hlt
      have h6' := h6.keep (X := No) (Keep.of_below hb) id
      have hix' := hix c1
      have hmem := List.getElem_mem hlt
      generalize hx : l1[kk] = x at hlx hmem
      obtain ⟨kq, nq, iq, req, imq, lq, aq, cq, hv, _⟩ := lies_form hlx
      obtain ⟨rfl, rfl, rfl, rfl, rfl, rfl⟩ := hv
      obtain ⟨e0, e1, e2, e3, e4, e5⟩ := h6'
      have HR := Lib.hid (And.intro hlx (And.intro hb (And.intro hall (And.intro hx (And.intro hmem (sizeL_bound (l := l1.take kk) (m := 200) fun y hy => (hall y hy).2.1))))))
      clear h6 hlx hix hb hall hx hmem
      cases hg : good x
      · have hne : (may x != 0) = true := by rw [bne_iff_ne]; have := may_nogood hg; omega
        have HG := Lib.hid hg
        clear hg
        go_wp2_with fail
        refine (may_any _ _ _ ((HR.out.1.below HR.out.2.1).below (ba _ _))).mono ?_
        rintro e w3 ⟨rfl, hb3⟩
        have HB3 := Lib.hid (HR.out.2.1.trans ((bt (ba wr _) hb3).mono HR.out.2.1.size))
        clear hb3
        go_wp2_with fail
        refine (awake_any _).mono ?_; rintro e w4 ⟨rfl, hb4⟩
        have HB4 := Lib.hid (HB3.out.trans (hb4.mono HB3.out.size))
        clear hb4
        go_wp2_with fail
        go_ret
        exact ⟨rfl, HB4.out⟩
      have HG := Lib.hid hg
      clear hg
      have hgp := good_parts HG.out
      obtain ⟨hgp1, hgp2, _⟩ := hgp
      by_cases hs : 200 < size x
      · have hs' : decide ((size x : Int) > 200) = true := by simp; omega
        go_wp2_with fail
        refine (may_ok HG.out _ _ ((HR.out.1.below HR.out.2.1).below (ba _ _))).mono ?_
        rintro e w3 ⟨rfl, hb3⟩
        obtain ⟨⟨p0, p1, p2, p3, p4, p5⟩, _⟩ := blk_facts (box_at hb3).1
        have HB3 := Lib.hid (HR.out.2.1.trans ((bt (ba wr _) hb3).mono HR.out.2.1.size))
        have HL3 := Lib.hid (HR.out.1.below (bt HR.out.2.1 (bt (ba wr _) hb3)))
        clear hb3
        go_wp2_with fail
        refine (nodes_ok HG.out _ _ HL3.out).mono ?_
        rintro e w4 ⟨rfl, hb4⟩
        have HB4 := Lib.hid (HB3.out.trans (hb4.mono HB3.out.size))
        clear hb4
        go_wp2_with fail
        refine (awake_any _).mono ?_; rintro e w5 ⟨rfl, hb5⟩
        have HB5 := Lib.hid (HB4.out.trans (hb5.mono HB4.out.size))
        clear hb5
        go_wp2_with fail
        go_ret
        exact ⟨rfl, HB5.out⟩
      have hs' : decide ((size x : Int) > 200) = false := by simp; omega
      by_cases hh : 300 < height x
      · have hh' : decide ((height x : Int) > 300) = true := by simp; omega
        go_wp2_with fail
        refine (may_ok HG.out _ _ ((HR.out.1.below HR.out.2.1).below (ba _ _))).mono ?_
        rintro e w3 ⟨rfl, hb3⟩
        obtain ⟨⟨p0, p1, p2, p3, p4, p5⟩, _⟩ := blk_facts (box_at hb3).1
        have HB3 := Lib.hid (And.intro (HR.out.2.1.trans ((bt (ba wr _) hb3).mono HR.out.2.1.size)) (And.intro (box_at hb3).1 (HR.out.1.below (bt HR.out.2.1 (bt (ba wr _) hb3)))))
        clear hb3
        go_wp2_with fail
        refine (nodes_ok HG.out _ _ HB3.out.2.2).mono ?_
        rintro e w4 ⟨rfl, hb4⟩
        obtain ⟨⟨p0, p1, p2, p3, p4, p5⟩, _⟩ := blk_facts ((hb4.block _ (Array.getElem?_eq_some_iff.1 HB3.out.2.1).1).trans HB3.out.2.1)
        have HB4 := Lib.hid (And.intro (HB3.out.1.trans (hb4.mono HB3.out.1.size)) (HB3.out.2.2.below hb4))
        clear hb4
        go_wp2_with fail
        refine (depth_ok HG.out _ _ HB4.out.2).mono ?_
        rintro e w6 ⟨rfl, hb6⟩
        have HB6 := Lib.hid (HB4.out.1.trans (hb6.mono HB4.out.1.size))
        clear hb6
        go_wp2_with fail
        refine (awake_any _).mono ?_; rintro e w5 ⟨rfl, hb5⟩
        have HB5 := Lib.hid (HB6.out.trans (hb5.mono HB6.out.size))
        clear hb5
        go_wp2_with fail
        go_ret
        exact ⟨rfl, HB5.out⟩
      have hh' : decide ((height x : Int) > 300) = false := by simp; omega
      have hsb : sizeL (l1.take kk) ≤ 1600 := by
        have := HR.out.2.2.2.2.2
        have hl : (l1.take kk).length ≤ 8 := by rw [List.length_take]; omega
        have : (l1.take kk).length * 200 ≤ 8 * 200 := Nat.mul_le_mul_right _ hl
        omega
      have hhb : heightL (l1.take kk) ≤ 300 := heightL_le.2 fun y hy => (HR.out.2.2.1 y hy).2.2
      have HSH := Lib.hid (And.intro hs hh)
      have hx1 : size x ≤ 200 := by omega
      have hx2 : height x ≤ 300 := by omega
      clear hs hh
      go_wp2_with fail
      refine (may_ok HG.out _ _ ((HR.out.1.below HR.out.2.1).below (ba _ _))).mono ?_
      rintro e w3 ⟨rfl, hb3⟩
      obtain ⟨⟨p0, p1, p2, p3, p4, p5⟩, _⟩ := blk_facts (box_at hb3).1
      have HB3 := Lib.hid (And.intro (HR.out.2.1.trans ((bt (ba wr _) hb3).mono HR.out.2.1.size)) (And.intro (box_at hb3).1 (HR.out.1.below (bt HR.out.2.1 (bt (ba wr _) hb3)))))
      clear hb3
      go_wp2_with fail
      refine (nodes_ok HG.out _ _ HB3.out.2.2).mono ?_
      rintro e w4 ⟨rfl, hb4⟩
      have hbx4 := (hb4.block _ (Array.getElem?_eq_some_iff.1 HB3.out.2.1).1).trans HB3.out.2.1
      obtain ⟨⟨p0, p1, p2, p3, p4, p5⟩, _⟩ := blk_facts hbx4
      have HB4 := Lib.hid (And.intro (HB3.out.1.trans (hb4.mono HB3.out.1.size)) (And.intro hbx4 (HB3.out.2.2.below hb4)))
      clear hb4 hbx4
      go_wp2_with fail
      refine (depth_ok HG.out _ _ HB4.out.2.2).mono ?_
      rintro e w5 ⟨rfl, hb5⟩
      have hbx5 := (hb5.block _ (Array.getElem?_eq_some_iff.1 HB4.out.2.1).1).trans HB4.out.2.1
      obtain ⟨⟨p0, p1, p2, p3, p4, p5⟩, _⟩ := blk_facts hbx5
      have HB5 := Lib.hid (And.intro (HB4.out.1.trans (hb5.mono HB4.out.1.size)) (And.intro hbx5 (HB4.out.2.2.below hb5)))
      clear hb5 hbx5
      go_wp2_with fail
      refine (nodes_ok HG.out _ _ HB5.out.2.2).mono ?_
      rintro e w6 ⟨rfl, hb6⟩
      have hbx6 := (hb6.block _ (Array.getElem?_eq_some_iff.1 HB5.out.2.1).1).trans HB5.out.2.1
      obtain ⟨⟨p0, p1, p2, p3, p4, p5⟩, _⟩ := blk_facts hbx6
      have HB6 := Lib.hid (And.intro (HB5.out.1.trans (hb6.mono HB5.out.1.size)) (HB5.out.2.2.below hb6))
      clear hb6 hbx6
      go_wp2_with fail
      refine (depth_ok HG.out _ _ HB6.out.2).mono ?_
      rintro e w7 ⟨rfl, hb7⟩
      have HB7 := Lib.hid (HB6.out.1.trans (hb7.mono HB6.out.1.size))
      clear hb7
      go_wp2_with fail
      all_goals
        go_roundg (l1.length - (kk + 1))
        case measure => omega
        case rel =>
          obtain ⟨hlx, hb, hall, hx, hmem, _⟩ := HR.out
          refine ⟨kk + 1, hlt, rfl, ?_, ?_, by go_num, HB7.out, fun y hy => ?_⟩
          · rw [take_next hlt, sizeL_snoc, hx]
            first | go_num | (congr 1; omega)
          · rw [take_next hlt, heightL_snoc, hx]
            first | (rw [Nat.max_eq_left (by omega)]; done) | (rw [Nat.max_eq_right (by omega)]; done) | (rw [Nat.max_eq_left (by omega)]; rfl) | (rw [Nat.max_eq_right (by omega)]; rfl)
          · rw [take_next hlt, hx] at hy
            rcases List.mem_append.1 hy with hy | hy
            · exact hall y hy
            · simp only [List.mem_singleton] at hy
              subst hy
              exact ⟨HG.out, hx1, hx2⟩
    · have hkv : kk = l1.length := by omega
      subst hkv
      rw [List.take_of_length_le (Nat.le_refl _)] at hall ⊢
      have hcg := comp_good (n := s0) (fun e => HX.out.2.1 (by rw [e]; rfl)) h8 (by have := HX.out.2.2.1; omega) hall
      have hbs : sizeL l1 ≤ 1600 := by
        have := sizeL_bound (l := l1) (m := 200) fun y hy => (hall y hy).2.1
        have : l1.length * 200 ≤ 8 * 200 := Nat.mul_le_mul_right _ h8
        omega
      have hbh : heightL l1 ≤ 300 := heightL_le.2 fun y hy => (hall y hy).2.2
      have hlc := comp_lies (X := No) (w := wr) (n := s0) (a := a1) (c := c1) (by have := HX.out.2.2.1; omega) (by have := HX.out.2.2.2.1; omega) HX.out.2.2.2.2 (HX.out.1.below hb)
      have HC := Lib.hid (And.intro hcg (And.intro hlc hb))
      have q1 : (((1 + sizeL l1 : Nat) : Int) == ((1 + sizeL l1 : Nat) : Int)) = true := by simp
      clear hcg hlc hb hall
      go_wp2_with fail
      refine (rComp_any _ _ _ _ _).mono ?_
      rintro e w2 ⟨rfl, hb2⟩
      have HB2 := Lib.hid (And.intro (HC.out.2.2.trans (hb2.mono HC.out.2.2.size)) (HC.out.2.1.below hb2))
      clear hb2
      go_wp2_with fail
      have hn := nodes_ok HC.out.1.1 _ (w2.alloc (.cells #[.int .i64 5, .string s0, .int .i64 0, .int .u64 0, .int .u64 0, .slice a1 l1.length c1] 25)) (HB2.out.2.below (ba _ _))
      rw [HC.out.1.2.1, Int.natCast_add, Int.natCast_one] at hn
      refine hn.mono ?_
      rintro e w3 ⟨rfl, hb3⟩
      clear hn
      obtain ⟨hx3, hl3⟩ := box_at hb3
      obtain ⟨⟨p0, p1, p2, p3, p4, p5⟩, _⟩ := blk_facts hx3
      have HB3 := Lib.hid (And.intro (HB2.out.1.trans ((bt (ba w2 _) hb3).mono HB2.out.1.size)) (And.intro hx3 (HB2.out.2.below (bt (ba w2 _) hb3))))
      clear hb3 hx3
      go_wp2_with fail
      have hd := depth_ok HC.out.1.1 _ w3 HB3.out.2.2
      rw [HC.out.1.2.2, Nat.add_comm, Int.natCast_add, Int.natCast_one] at hd
      refine hd.mono ?_
      rintro e w4 ⟨rfl, hb4⟩
      clear hd
      have hx4 := (hb4.block _ hl3).trans HB3.out.2.1
      obtain ⟨⟨p0, p1, p2, p3, p4, p5⟩, _⟩ := blk_facts hx4
      have HB4 := Lib.hid (And.intro (HB3.out.1.trans (hb4.mono HB3.out.1.size)) (HB3.out.2.2.below hb4))
      clear hb4 hx4
      go_wp2_with fail
      refine (may_ok HC.out.1.1 _ w4 HB4.out.2).mono ?_
      rintro e w5 ⟨rfl, hb5⟩
      have HB5 := Lib.hid (HB4.out.1.trans (hb5.mono HB4.out.1.size))
      clear hb5
      go_wp2_with fail
      refine (awake_any _).mono ?_; rintro e w6 ⟨rfl, hb6⟩
      have HB6 := Lib.hid (HB5.out.trans (hb6.mono HB5.out.size))
      clear hb6
      go_wp2_with fail
      go_ret
      exact ⟨rfl, HB6.out⟩
set_option maxRecDepth 100000 in
theorem lifted (os : Os) (started : os.Started) (H : Type) (enc : TypeId × Value → H) :
    ReturnsInHanded {} Try.checked os 8 .any (Rows.termCountsSpec.pre6 enc Try.prog Try.f8 Rows.termCountsRow.domain false) (Rows.termCountsSpec.post enc Try.prog Try.f8 false true false false) := by
  refine returnsInHanded_of_change_sized (C := Try.checked) own started (by kernel_rfl) Try.func8
    (ChangeSpec.witness6 (enc := enc) (C := Try.checked) false ⟨#[], #[.string ⟨#[]⟩, .slice none 0 0], []⟩ 8 (by kernel_rfl) (by kernel_rfl) (by kernel_rfl) (by kernel_rfl)) ?_
  intro W base args ds gs before hval0 hW _ hsz0 _
  have hsz : (DataW.weightsEach Try.prog (Try.f8.params.toList ++ Rows.termCountsSpec.plain.varTypes Try.prog) (ds ++ gs)).all (· ≤ reachBytes) = true := hsz0
  clear hsz0
  have hval : ∀ (j : Nat) t v, Try.f8.params[j]? = some t → args[j]? = some v → Value.okWide Try.prog W .any base t v := hval0
  have hW' := hW
  obtain ⟨p, q, hA0, hV, rfl, hfz, hnd⟩ := hW
  have hA : DataW.TrodAll enc Try.prog W 0 (fun _ => true) true Try.f8.params.toList args.toList ds p := hA0
  rw [Try.params8] at hA hval hsz
  obtain ⟨v0, vs0, d0, ds0, p0, q0, hargs, rfl, rfl, h0, r0⟩ := trodAll_cons hA
  obtain ⟨v1, vs1, d1, ds1, p1, q1, rfl, rfl, rfl, h1, r1⟩ := trodAll_cons r0
  obtain ⟨rfl, rfl, rfl⟩ := trodAll_nil r1
  obtain rfl : args = #[v0, v1] := by cases args; simp_all
  obtain ⟨rfl, rfl⟩ := trodVars_none hV
  simp only [List.append_nil] at hW'
  have lt0 : ∀ x ∈ p0, x.block < W.heap.size := fun x hx => by
    have := hW'.lt x (by simp [hx])
    simpa using this
  have k0 := h0
  have lt1 : ∀ x ∈ p1, x.block < W.heap.size := fun x hx => by
    have := hW'.lt x (by simp [hx])
    simpa using this
  have k1 := h1
  obtain ⟨s0, rfl, rfl, rfl, u0⟩ := open_string Try.underlying9 (hval 0 9 v0 rfl rfl) h0
  have z0 : s0.size ≤ 140737488351232 := by
    have g1 := sized_string hsz (j := 0) (t := 9) rfl rfl
    have e3 : reachBytes = 140737488351232 := by decide
    have e4 : s0.data.toList.length = s0.size := rfl
    omega
  obtain ⟨a1, n1, c1, rfl⟩ := okWide_slice Try.underlying22 (hval 1 22 v1 rfl rfl)
  obtain ⟨l1, g1, x1, m1, y1, z1⟩ := slice_arg h1 (fun x y e => sized_slice hsz (j := 1) (t := 22) (e := 25) rfl (by rw [← e]; rfl) Try.underlying22)
  clear hA0 hval0
  refine (walk W s0 z0 a1 n1 c1 l1 g1 x1 m1 y1 z1).mono fun e W' ⟨he, hg⟩ => ?_
  subst he
  have ha := (trodAll_cons_mk (Below.trod laidOut (by kernel_rfl) (of_decide_eq_true (by kernel_rfl)) k0 hg lt0) (trodAll_cons_mk (Below.trod laidOut (by kernel_rfl) (of_decide_eq_true (by kernel_rfl)) k1 hg lt1) trodAll_mk0))
  refine ⟨_, rfl, _, _, _, [], _, [], hW', ?_, ha, rfl, hg.frame _, fun h => by cases h⟩
  exact (trodAll_cons_mk (shut_bool Try.underlying4 _) trodAll_mk0)
/-- THE STATEMENT. -/
theorem proved : Rows.TermCountsSaid :=
  OpenClaim.holds_of_wide 8 Try.f8 rfl rfl rfl rfl rfl rfl rfl ⟨rfl, rfl, rfl, rfl, rfl⟩ rfl rfl rfl rfl rfl (by kernel_rfl) Try.func8 (by kernel_rfl)
    (of_decide_eq_true (by kernel_rfl)) (by unfold Func.isWrapper; first | (rw [if_pos (by decide +kernel)]; kernel_rfl) | (rw [if_neg (by decide +kernel)]; exact ⟨rfl, rfl⟩))
    (fun os started H enc _ => lifted os started H enc)
#print axioms proved
end Go.Proofs.Ytigmpjjcbaefcaa.termCounts
