/- (*Table).Set. -/
import Derived.Test.YtnpdipmkikakcaaOpI
namespace Go.Proofs.Ytnpdipmkikakcaa.opj
open Go.ChangeShapes Go.WideShapes Go.ChangeAt Go.RowKit
open Go.Proofs.Ytnpdipmkikakcaa.kp Go.Proofs.Ytnpdipmkikakcaa.opa Go.Proofs.Ytnpdipmkikakcaa.opb Go.Proofs.Ytnpdipmkikakcaa.opc Go.Proofs.Ytnpdipmkikakcaa.opd Go.Proofs.Ytnpdipmkikakcaa.ope Go.Proofs.Ytnpdipmkikakcaa.opf Go.Proofs.Ytnpdipmkikakcaa.opg Go.Proofs.Ytnpdipmkikakcaa.oph Go.Proofs.Ytnpdipmkikakcaa.opi
set_option linter.unusedVariables false
theorem clone_str (n : List UInt8) (w : World) (hn : n.length ≤ 281474976710656) : Calls Try.prog 29 #[.string ⟨n.toArray⟩] w fun e w' => e = .returned (.string ⟨n.toArray⟩) ∧ Below w.heap.size w w' := by
  go_enter Try.func29, Try.ntmps29
  go_wp2_with fail
  refine (Try.stringslite_Clone _ _ (by show n.toArray.size ≤ _; simpa using hn)).mono ?_
  rintro e w' ⟨rfl, hb⟩
  have HB := Lib.hid hb
  clear hb
  go_wp2_with fail
  go_ret
  exact ⟨rfl, HB.out⟩
theorem set_nil (o : D) (w : World) : Calls Try.prog 13 #[.pointer none, o.v] w fun e w' => e = .returned (.int .i64 1) ∧ Below w.heap.size w w' := by
  simp only [D.v]
  go_enter Try.func13, Try.ntmps13
  go_wp2_with fail
  go_ret
  exact ⟨rfl, ba _ _⟩
/-- what Set's rest knows: the table, the box -/
structure St (w : World) (p : Nat) (F : Nat → Prop) (l : List D) (o : D) (w1 : World) : Prop where
  tb : Tb w1 p F l
  box : w1.heap[w.heap.size]? = some (.cells o.cs.toArray 32 (0, 0))
  bel : Below w.heap.size w w1
theorem St.below {w : World} {p : Nat} {F : Nat → Prop} {l : List D} {o : D} {w1 w2 : World} (h : St w p F l o w1) (hb : Below w1.heap.size w1 w2) : St w p F l o w2 :=
  ⟨h.tb.below hb, (hb.block _ (Array.getElem?_eq_some_iff.1 h.box).1).trans h.box, h.bel.trans (hb.mono h.bel.size)⟩
theorem St.name {w : World} {p : Nat} {F : Nat → Prop} {l : List D} {o : D} {w1 : World} (h : St w p F l o w1) (hF : ∀ k, F k → k < w.heap.size) : St w p F l o (w1.setCell ⟨w.heap.size, 0, none⟩ (.string ⟨o.n.toArray⟩)) := by
  have k := Keep.setCell (F := fun k => k = w.heap.size) w1 (p := ⟨w.heap.size, 0, none⟩) rfl (.string ⟨o.n.toArray⟩)
  refine ⟨h.tb.keep k fun k hk e => by have := hF k hk; omega, ?_, h.bel.trans (k.to_below (fun k e => by omega) h.bel.size)⟩
  simp only [World.setCell, Array.getElem?_modify, h.box]
  simp [D.cs]
theorem St.base {w : World} {p : Nat} {F : Nat → Prop} {l l' : List D} {o : D} {w1 w2 : World} (h : St w p F l o w1) (hn : opb.Next w1 p F l' w2) : opb.Next w p F l' w2 :=
  opb.Next.trans (F' := F) (Keep.of_below h.bel) (fun _ => Or.inl) hn
set_option maxRecDepth 100000 in
set_option maxHeartbeats 4000000 in
theorem set_any {p : Nat} {F : Nat → Prop} {l : List D} (o : D) (w : World) (h : Tb w p F l) (hI : Inv l) :
    Calls Try.prog 13 #[.pointer (some ⟨p, 0, none⟩), o.v] w fun e w' => e = .returned (.int .i64 (setE l o)) ∧ opb.Next w p F (setL l o) w' := by
  have h0 : St w p F l o (w.alloc (.cells o.cs.toArray 32)) := ⟨h.below (ba _ _), alloc_at _ _, ba _ _⟩
  have HF := Lib.hid h.lt
  obtain ⟨n, k, q⟩ := o
  have HI := Lib.hid (And.intro hI h)
  have H0 := Lib.hid h0
  simp only [D.v]
  clear h h0 hI
  by_cases hio : isOp ⟨n, k, q⟩ = false
  · have HE := Lib.hid (And.intro (show setE l ⟨n, k, q⟩ = 1 by simp [setE, hio]) (And.intro (show setL l ⟨n, k, q⟩ = l by simp [setL, hio]) hio))
    clear hio
    go_enter Try.func13, Try.ntmps13
    go_wp2_with fail
    refine (isOp_any ⟨n, k, q⟩ _).mono ?_
    rintro e w1 ⟨rfl, hb1⟩
    have H1 := Lib.hid (H0.out.below hb1)
    rw [HE.out.2.2]
    clear hb1
    go_wp2_with fail
    go_ret
    exact ⟨by rw [HE.out.1]; rfl, by rw [HE.out.2.1]; exact opb.Next.below HI.out.2 H1.out.bel⟩
  · have hio' : isOp ⟨n, k, q⟩ = true := by simpa using hio
    have hok := isOp_ok hio'
    have HO := Lib.hid (And.intro hio' hok)
    clear hio hio' hok
    go_enter Try.func13, Try.ntmps13
    go_wp2_with fail
    refine (isOp_any ⟨n, k, q⟩ _).mono ?_
    rintro e w1 ⟨rfl, hb1⟩
    have H1 := Lib.hid (H0.out.below hb1)
    rw [HO.out.1]
    obtain ⟨z0, z1, z2, hzf⟩ := box_cells H1.out.box
    clear hb1 hzf
    go_wp2_with fail
    refine (find_any ⟨n, k, q⟩ _ H1.out.tb HI.out.1.srt (by have := HI.out.1.len; omega)).mono ?_
    rintro e w2 ⟨rfl, hb2⟩
    have H2 := Lib.hid (H1.out.below hb2)
    clear z0 z1 z2 hb2
    obtain ⟨z0, z1, z2, hzf⟩ := box_cells H2.out.box
    clear hzf
    go_wp2_with fail
    refine (clone_str n _ (by have := HO.out.2.2.2.2.2.1; omega)).mono ?_
    rintro e w3 ⟨rfl, hb3⟩
    have H3 := Lib.hid ((H2.out.below hb3))
    clear z0 z1 z2 hb3
    obtain ⟨z0, z1, z2, hzf⟩ := box_cells H3.out.box
    have g0 := hzf 0
    clear hzf
    have H4 : Hid (St w p F l ⟨n, k, q⟩ (w3.setCell ⟨w.heap.size, 0, none⟩ (.string ⟨n.toArray⟩))) := Lib.hid (H3.out.name HF.out)
    obtain ⟨a, c, hpb, hrw, hown, hFF⟩ := H3.out.tb.ex
    obtain ⟨f0, gp⟩ := one_cell hpb
    have hpw : p < w.heap.size := HF.out _ H3.out.tb.mine
    have hl100 := HI.out.1.len
    have hkw : ∀ k, (Value.slice a l.length c).ownBlock = some k → k < w.heap.size := fun k e => HF.out _ ((hFF k).2 (Or.inr e))
    have hrw4 : Rw (w3.setCell ⟨w.heap.size, 0, none⟩ (.string ⟨n.toArray⟩)) a c l := hrw.of_block fun k e => Below.heap_setCell _ _ _ _ fun q => by have := hkw k e; have q' : k = w.heap.size := q; omega
    have hpn : w.heap.size ≠ p := by omega
    have f4 : (w3.setCell ⟨w.heap.size, 0, none⟩ (.string ⟨n.toArray⟩)).cell? ⟨p, 0, none⟩ = some (.slice a l.length c) := (World.cell?_setCell_far _ _ _ _ hpn).trans f0
    have g4 : (w3.setCell ⟨w.heap.size, 0, none⟩ (.string ⟨n.toArray⟩)).frozen? ⟨p, 0, none⟩ = false := (one_cell (H4.out.tb.ex.choose_spec.choose_spec.1)).2
    have HW := Lib.hid (And.intro hrw4 (And.intro f4 (And.intro g4 (And.intro hown hkw))))
    clear hrw4 f4 g4 hkw
    cases hs : is l ⟨n, k, q⟩
    · obtain ⟨hll, _, _, _, _⟩ := at_no HI.out.1.srt hs
      have hlen : (lo l ⟨n, k, q⟩ ++ hi l ⟨n, k, q⟩).length = l.length := by rw [← hll]
      by_cases hq : q = 0
      · subst hq
        have HE := Lib.hid (And.intro (show setE l ⟨n, k, 0⟩ = 0 by simp [setE, HO.out.1]) (show setL l ⟨n, k, 0⟩ = l by simp only [setL, HO.out.1]; rw [if_neg (by simp), if_pos trivial]; exact hll.symm))
        clear hpb hrw hown hFF hs hll hlen
        go_wp2_with fail
        go_ret
        exact ⟨by rw [HE.out.1]; rfl, by rw [HE.out.2]; exact H4.out.base (opb.Next.same H4.out.tb)⟩
      · have hq' : (q == 0) = false := by rw [beq_eq_false_iff_ne]; exact hq
        by_cases hf : 100 ≤ l.length
        · have HE := Lib.hid (And.intro (show setE l ⟨n, k, q⟩ = 8 by simp only [setE, HO.out.1]; rw [if_neg (by simp), if_neg hq, if_pos (by omega)]) (show setL l ⟨n, k, q⟩ = l by simp only [setL, HO.out.1]; rw [if_neg (by simp), if_neg hq, if_pos (by omega)]))
          have hge : decide ((l.length : Int) ≥ 100) = true := decide_eq_true (by omega)
          clear hpb hrw hown hFF hs hll hlen hq
          go_wp2_with fail
          go_ret
          exact ⟨by rw [HE.out.1]; rfl, by rw [HE.out.2]; exact H4.out.base (opb.Next.same H4.out.tb)⟩
        · have HE := Lib.hid (And.intro (show setE l ⟨n, k, q⟩ = 0 by simp only [setE, HO.out.1]; rw [if_neg (by simp), if_neg hq, if_neg (by omega)]) (show setL l ⟨n, k, q⟩ = ins l ⟨n, k, q⟩ by simp only [setL, HO.out.1]; rw [if_neg (by simp), if_neg hq, if_neg (by omega)]))
          have hge : decide ((l.length : Int) ≥ 100) = false := decide_eq_false (by omega)
          have HS := Lib.hid hs
          clear hpb hrw hown hFF hs hll hlen hq
          go_wp2_with fail
          refine (add_any ⟨n, k, q⟩ _ H4.out.tb HI.out.1.srt HS.out (by omega)).mono ?_
          rintro e w5 ⟨rfl, hN⟩
          have H5 := Lib.hid hN
          clear hN
          go_wp2_with fail
          go_ret
          exact ⟨by rw [HE.out.1]; rfl, by rw [HE.out.2]; exact H4.out.base H5.out⟩
    · obtain ⟨x, hmd, _, _, hll, hix, hxe, e1, e2, hlen⟩ := at_is HI.out.1.srt hs
      have hle : ix l ⟨n, k, q⟩ ≤ l.length := by omega
      by_cases hq : q = 0
      · subst hq
        have HE := Lib.hid (And.intro (show setE l ⟨n, k, 0⟩ = 0 by simp [setE, HO.out.1]) (show setL l ⟨n, k, 0⟩ = l.take (ix l ⟨n, k, 0⟩) ++ l.drop (ix l ⟨n, k, 0⟩ + 1) by simp only [setL, HO.out.1]; rw [if_neg (by simp), if_pos trivial, e1, e2]))
        generalize hxi : ix l ⟨n, k, 0⟩ = i at hix hxe e1 e2 hle
        have HX := Lib.hid (And.intro hxi (And.intro hrw (And.intro hown hix)))
        clear hpb hrw hown hFF hs hll hlen hxe e1 e2 hxi hmd
        go_wp2_with fail
        refine (delete_any HW.out.1 hix (by omega)).mono ?_
        rintro e w5 ⟨rfl, hr5, hk5⟩
        have hs4 : p < (w3.setCell ⟨w.heap.size, 0, none⟩ (.string ⟨n.toArray⟩)).heap.size := H4.out.tb.lt p H4.out.tb.mine
        have f5 := (hk5.cell (o := 0) hs4 HW.out.2.2.2.1).trans HW.out.2.1
        have g5 := (hk5.frozen (o := 0) hs4 HW.out.2.2.2.1).trans HW.out.2.2.1
        have H5 := Lib.hid (And.intro hr5 hk5)
        clear hr5 hk5 f0 gp z0 z1 z2 g0
        go_wp2_with fail
        go_ret
        have hN := opb.Next.put H4.out.tb HW.out.2.1 H5.out.2 H5.out.1 (fun k e => Or.inl (by cases a <;> exact e))
        have el : (l.take i ++ l.drop (i + 1)).length = l.length - 1 := by rw [List.length_append, List.length_take, List.length_drop]; omega
        rw [el] at hN
        refine ⟨by rw [HE.out.1]; rfl, ?_⟩
        rw [HE.out.2, HX.out.1]
        exact H4.out.base hN
      · have hq' : (q == 0) = false := by rw [beq_eq_false_iff_ne]; exact hq
        have HE := Lib.hid (And.intro (show setE l ⟨n, k, q⟩ = 0 by simp only [setE, HO.out.1]; rw [if_neg (by simp), if_neg hq, if_neg (by omega)]) (show setL l ⟨n, k, q⟩ = l.set (ix l ⟨n, k, q⟩) ⟨n, k, q⟩ by simp only [setL, HO.out.1]; rw [if_neg (by simp), if_neg hq, if_neg (by omega), List.set_eq_take_append_cons_drop, if_pos hix, e1, e2]; rfl))
        generalize hxi : ix l ⟨n, k, q⟩ = i at hix hxe e1 e2 hle
        obtain ⟨P, rfl, hP, y0, y1, y2, hfr, hidx⟩ := HW.out.1.look (m := i) hix
        have v0 := hfr (i * 3)
        have v1 := hfr (i * 3 + 1)
        have v2 := hfr (i * 3 + 2)
        have f4 := HW.out.2.1
        obtain ⟨x0, x1, x2, _⟩ := box_cells H4.out.box
        have HX := Lib.hid (And.intro hxi (And.intro hrw (And.intro hown hix)))
        clear hpb hrw hown hFF hs hll hlen hxe e1 e2 hxi hmd hq hfr
        go_wp2_with fail
        go_region
        go_wp2_with fail
        go_ret
        obtain ⟨G, t9, k9, s9⟩ := opb.Next.set_ H4.out.tb hix HW.out.2.1 ⟨n, k, q⟩
        refine ⟨by rw [HE.out.1]; rfl, ?_⟩
        rw [HE.out.2, HX.out.1]
        exact H4.out.base ⟨G, t9.below (bdr _), k9.trans (Keep.drew F _) (fun _ => Or.inl), s9⟩
end Go.Proofs.Ytnpdipmkikakcaa.opj
