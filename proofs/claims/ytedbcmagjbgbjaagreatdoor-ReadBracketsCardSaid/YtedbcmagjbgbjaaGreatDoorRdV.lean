/- The project's reader: term. -/
import Derived.Test.YtedbcmagjbgbjaaGreatDoorRdU
namespace Go.Proofs.YtedbcmagjbgbjaaGreatDoor.rd
open Go.ChangeShapes Go.WideShapes Go.ChangeAt Go.RowKit Go.Maps
open Go.Proofs.YtedbcmagjbgbjaaGreatDoor.kp Go.Proofs.YtedbcmagjbgbjaaGreatDoor.num Go.Proofs.YtedbcmagjbgbjaaGreatDoor.dec Go.Proofs.YtedbcmagjbgbjaaGreatDoor.tk
set_option linter.unusedVariables false
set_option linter.unusedSimpArgs false
section
variable {w w' w0 w1 w2 : World} {p m tp N k : Nat} {tv : Value} {all : List Tk} {tl : List opa.D} {ns : Names} {F F' FT : Nat → Prop} {rec : Rec} {f : Nat}
theorem infix_st (h : St p m tv tp FT N all tl k ns F w) :
    Calls Tryz.prog 88 #[.pointer (some ⟨p, 0, none⟩)] w fun e w' => e = .returned (.tuple #[(ifx (OTof tl) (see N (all.drop k) 0)).v, .bool (infx (OTof tl) (see N (all.drop k) 0))]) ∧ Below w.heap.size w w' := by
  obtain ⟨nv, hp⟩ := h.ro
  have ha := h.ale
  have hk := h.kle
  exact infix_any' hp h.env.toks (by omega) (by omega) h.env.tab h.env.srt h.env.len
theorem OTof_pri (h : Env tv tp FT all tl F w) (s : List UInt8) : (0 ≤ ((OTof tl).dp s).p ∧ ((OTof tl).dp s).p ≤ 1200) ∧ 0 ≤ ((OTof tl).di s).p ∧ ((OTof tl).di s).p ≤ 1200 := ⟨h.gd _, h.gd _⟩
/-- F, and one more block -/
def Fr (F : Nat → Prop) (r : Nat) : Nat → Prop := fun i => F i ∨ i = r
theorem Nx.fr (h : Nx F w F' w') (r : Nat) : Nx (Fr F r) w (Fr F' r) w' :=
  ⟨h.keep.mono fun i hi => Or.inl hi, fun i hi => by
    rcases hi with hi | hi
    · rcases h.own i hi with a | a
      · exact Or.inl (Or.inl a)
      · exact Or.inr a
    · exact Or.inl (Or.inr hi)⟩
theorem Lv.fr {B r : Nat} {t : Tm} {v : Value} (h : Lv F B w t v) (hr : w.heap.size ≤ r) (hb : Below w.heap.size w w') : Lv (Fr F r) B w' t v :=
  lie.Lies.keep (Keep.of_below (F := fun i => F i ∨ i < B) hb) (fun b hlt hy => by
    rcases hy with (hy | hy) | hy
    · exact Or.inl hy
    · omega
    · exact Or.inr hy) t v h
theorem Lv.up {B r : Nat} {t : Tm} {v : Value} (h : Lv F B w t v) (hr : r < B) : Lv (Fr F r) B w t v :=
  lie.Lies.off (fun b _ hy => by
    rcases hy with (hy | hy) | hy
    · exact Or.inl hy
    · exact Or.inr (by omega)
    · exact Or.inr hy) h
theorem Lv.setF {o : Obj} {b B : Nat} {t : Tm} {v : Value} (hl : Lv F B w t v) (hb : F b) (N' : Nw b o w w') : Lv F B w' t v :=
  lie.Lies.keep (N'.2.mono (G := fun i => F i ∨ i < B) fun i hi => Or.inl (hi ▸ hb)) (fun _ _ => id) t v hl
theorem Lw.setF {o : Obj} {b B : Nat} {l : List Tm} {a : Option Addr} {c : Nat} (hl : Lw F B w l a c) (hb : F b) (N' : Nw b o w w') : Lw F B w' l a c :=
  ⟨lie.TRow.keep (N'.2.mono (G := fun i => F i ∨ i < B) fun i hi => Or.inl (hi ▸ hb)) (fun _ _ => id) l 0 hl.1, hl.2⟩
theorem Lv.down {B r : Nat} {t : Tm} {v : Value} (h : Lv (Fr F r) B w t v) : Lv F B w t v :=
  lie.Lies.off (fun b _ hy => by
    rcases hy with hy | hy
    · exact Or.inl (Or.inl hy)
    · exact Or.inr hy) h
/-- the loop of term, where all is well -/
structure TL (p m : Nat) (tv : Value) (tp : Nat) (FT : Nat → Prop) (N : Nat) (all : List Tk) (tl : List opa.D) (k j : Nat) (ns' : Names) (F : Nat → Prop) (w : World) (F' : Nat → Prop) (r0 r1 : Nat) (wr : World) (v0 v1 v2 v3 v4 v5 : Value) : Prop where
  st : St p m tv tp FT N all tl j ns' F' wr
  nx : Nx F w F' wr
  c1 : wr.heap[r1]? = some (TC v0 v1 v2 v3 v4 v5)
  c0 : wr.heap[r0]? = some (TC (.int .i64 0) (.string ⟨#[]⟩) (.int .i64 0) (.int .u64 0) (.int .u64 0) (.slice none 0 0))
  f0 : ¬ F' r0
  f1 : ¬ F' r1
def TRel (p m : Nat) (tv : Value) (tp : Nat) (FT : Nat → Prop) (N : Nat) (all : List Tk) (tl : List opa.D) (rec : Rec) (most : Int) (level k : Nat) (F : Nat → Prop) (w : World) (B r0 r1 : Nat) (R : PR Tm) (g : Nat) (s9 s11 : Value) (wr : World) : Prop :=
  ∃ (j : Nat) (ns' : Names) (F' : Nat → Prop) (pr n : Int) (v0 : Int) (v1 : ByteArray) (v2 v3 v4 : Int) (xa : Option Addr) (xl xc : Nat),
    s9 = .int .i64 pr ∧ s11 = .int .i64 n ∧ TL p m tv tp FT N all tl k j ns' F w F' r0 r1 wr (.int .i64 v0) (.string v1) (.int .i64 v2) (.int .u64 v3) (.int .u64 v4) (.slice xa xl xc) ∧
    ((n = 0 ∧ ∃ left fu, g = all.length - j + 1 ∧ k ≤ j ∧ all.length - j < fu ∧ Lv (Fr F' r1) B wr left (.agg #[.int .i64 v0, .string v1, .int .i64 v2, .int .u64 v3, .int .u64 v4, .slice xa xl xc]) ∧ goOn (OTof tl) N rec most level fu left pr (all.drop j) ns' = R) ∨
     (n ≠ 0 ∧ g = 0 ∧ R = .er n (all.drop j) ns'))
theorem Lv.agg6 {B : Nat} {t : Tm} {v : Value} (h : Lv F B w t v) : ∃ (k : Int) (n : ByteArray) (i re im : Int) (a : Option Addr) (l c : Nat), v = .agg #[.int .i64 k, .string n, .int .i64 i, .int .u64 re, .int .u64 im, .slice a l c] := by
  obtain ⟨k, n, i, re, im, a, l, c, h⟩ := Lv.shape h
  exact ⟨k, n, i, re, im, a, l, c, h⟩
theorem gd_name {o : List UInt8} (h : opa.is tl ⟨o, 1, 0⟩ = true) : (ope.gd tl ⟨o, 1, 0⟩).n = o := by
  unfold ope.gd
  unfold opa.is at h
  have hne : opa.md tl ⟨o, 1, 0⟩ ≠ [] := by simpa using h
  cases hm : opa.md tl ⟨o, 1, 0⟩ with
  | nil => exact absurd hm hne
  | cons x r =>
    have hx : x ∈ opa.md tl ⟨o, 1, 0⟩ := by rw [hm]; simp
    have := (List.mem_filter.1 hx).2
    simp only [decide_eq_true_eq] at this
    simpa using ((opa.cd_zero _ _).1 this).1
theorem TL.below {j : Nat} {ns' : Names} {r0 r1 : Nat} {wr wx : World} {v0 v1 v2 v3 v4 v5 : Value} (h : TL p m tv tp FT N all tl k j ns' F w F' r0 r1 wr v0 v1 v2 v3 v4 v5) (b : Below wr.heap.size wr wx) : TL p m tv tp FT N all tl k j ns' F w F' r0 r1 wx v0 v1 v2 v3 v4 v5 :=
  ⟨h.st.below b, h.nx.trans (Nx.below b), (b.block r1 (Nw.lt h.c1)).trans h.c1, (b.block r0 (Nw.lt h.c0)).trans h.c0, h.f0, h.f1⟩
theorem TL.on {j j2 : Nat} {ns' ns2 : Names} {F2 : Nat → Prop} {r0 r1 : Nat} {wr wx : World} {v0 v1 v2 v3 v4 v5 : Value} (h : TL p m tv tp FT N all tl k j ns' F w F' r0 r1 wr v0 v1 v2 v3 v4 v5) (hs : St p m tv tp FT N all tl j2 ns2 F2 wx) (n : Nx F' wr F2 wx) : TL p m tv tp FT N all tl k j2 ns2 F w F2 r0 r1 wx v0 v1 v2 v3 v4 v5 :=
  ⟨hs, h.nx.trans n, (n.block (Nw.lt h.c1) h.f1).1.trans h.c1, (n.block (Nw.lt h.c0) h.f0).1.trans h.c0, (n.block (Nw.lt h.c0) h.f0).2, (n.block (Nw.lt h.c1) h.f1).2⟩
set_option maxRecDepth 100000 in
set_option maxHeartbeats 16000000 in
theorem term_step (hg : Good p m tv tp FT N all tl rec f) (hpt : Parts rec) : Good p m tv tp FT N all tl (step true (OTof tl) N rec) (f + 1) := by
  intro most level k ns F w h hf hm0 hm1 hlev
  obtain ⟨r0, hr0⟩ : ∃ r0, r0 = w.heap.size := ⟨_, rfl⟩
  obtain ⟨w1, hw1⟩ : ∃ w1, w1 = w.alloc TZ := ⟨_, rfl⟩
  have hb1 : Below w.heap.size w w1 := by rw [hw1]; exact kp.ba w _
  have hz1 : w1.heap[r0]? = some (TC (.int .i64 0) (.string ⟨#[]⟩) (.int .i64 0) (.int .u64 0) (.int .u64 0) (.slice none 0 0)) := by rw [hr0, hw1]; exact alloc_at w _
  have HW := Lib.hid (And.intro hr0 hw1)
  have h1 := h.below hb1
  have hF0 : ¬ F r0 := fun hF => by have := h.lt _ hF; omega
  have H := Lib.hid (And.intro h (And.intro h1 (And.intro hb1 (And.intro hz1 hF0))))
  have HGD := Lib.hid (And.intro hg (And.intro hpt (And.intro hf (And.intro hm0 (And.intro hm1 hlev)))))
  have HBG := Lib.hid (begins_any h1 most)
  have hbf := begs_facts (x := true) (N := N) (ts := all.drop k) (most := most) (OTof_pri h.env)
  have hne : (begs true (OTof tl) N most (all.drop k)).1 ≠ 0 → k < all.length := fun hb => by
    obtain ⟨t, s, e⟩ := begs_cons hb
    have := congrArg List.length e
    simp at this; omega
  obtain ⟨⟨b1, b2⟩, hb⟩ : ∃ b, b = begs true (OTof tl) N most (all.drop k) := ⟨_, rfl⟩
  have hb' := hb
  rw [← hb] at HBG hbf hne
  have HBF := Lib.hid (And.intro hbf hne)
  have HB := Lib.hid hb
  have hstep : step true (OTof tl) N rec most level (all.drop k) ns = (if b1 = 0 ∨ most < b2 then .er 2 (all.drop k) ns else if 2000 < level then .er 3 (all.drop k) ns else (first (OTof tl) N rec b1 level (all.drop k) ns).bind fun v r n => goOn (OTof tl) N rec most level ((all.drop k).length + 1) v b2 r n) := by
    unfold step; dsimp only; rw [← hb]
  have HST := Lib.hid hstep
  clear hr0 hw1 hb1 hz1 h1 hF0 h hg hpt hf hm0 hm1 hlev hbf hne hb hb' hstep
  have fin : ∀ n : Int, ∃ U, ((((((w1.setCell ⟨r0, 0, none⟩ (.int .i64 0)).setCell ⟨r0, 1, none⟩ (.string ⟨#[]⟩)).setCell ⟨r0, 2, none⟩ (.int .i64 0)).setCell ⟨r0, 3, none⟩ (.int .u64 0)).setCell ⟨r0, 4, none⟩ (.int .u64 0)).setCell ⟨r0, 5, none⟩ (.slice none 0 0)) = U := fun _ => ⟨_, rfl⟩
  clear fin
  go_enter Tryz.func57, Tryz.ntmps57
  go_upto_region 1 with fail
  change Code.wp _ _ _ _ (w.alloc TZ)
  rw [← HW.out.1, ← HW.out.2]
  go_wp2_with fail
  refine HBG.out.mono ?_; rintro e w2 ⟨rfl, bb2⟩
  dsimp only
  have hS2 := H.out.2.1.below bb2
  have hr2 := (bb2.block r0 (Nw.lt H.out.2.2.2.1)).trans H.out.2.2.2.1
  have hN2 : Nx F w F w2 := (Nx.below H.out.2.2.1).trans (Nx.below bb2)
  have H2 := Lib.hid (And.intro hS2 (And.intro hN2 hr2))
  have HW12 := Lib.hid bb2.size
  have HB1 := Lib.hid (show w1.heap.size = r0 + 1 by rw [HW.out.2, alloc_size, HW.out.1])
  obtain ⟨⟨z0, z1, z2, z3, z4, z5⟩, y0, y1, y2, y3, y4, y5⟩ := six hr2
  have hlz := Nw.lt hr2
  obtain ⟨U, hU, hNU⟩ := fin6 hr2 (.int .i64 0) (.string ⟨#[]⟩) (.int .i64 0) (.int .u64 0) (.int .u64 0) (.slice none 0 0)
  obtain ⟨⟨q0, q1, q2, q3, q4, q5⟩, -⟩ := six hNU.1
  have HU := Lib.hid (St.set H.out.1 hS2 hN2 (by rw [HW.out.1]; exact Nat.le_refl _) H.out.2.2.2.2 hNU)
  clear hS2 hr2 hN2 bb2 hNU
  have hbad : ((b1 == 0) = true ∨ ((b1 == 0) = false ∧ decide (b2 > most) = true)) → (b1 = 0 ∨ most < b2) := by
    rintro (h | ⟨-, h⟩)
    · exact Or.inl (by simpa using h)
    · exact Or.inr (by simpa using h)
  by_cases c0 : b1 = 0
  · have k0 : (b1 == 0) = true := by rw [c0]; rfl
    have HQ := Lib.hid (show step true (OTof tl) N rec most level (all.drop k) ns = .er 2 (all.drop k) ns by rw [HST.out, if_pos (Or.inl c0)])
    clear c0 hbad
    go_wp2_with fail
    refine bodyPost_ret (v := .tuple #[Z0, .int .i64 2]) (by simp [results, Tryz.results57, go_sem, q0, q1, q2, q3, q4, q5, Z0, tmV]) rfl ?_
    rw [HQ.out]
    exact ⟨rfl, by decide, k, F, rfl, HU.out.1, HU.out.2⟩
  have k0 : (b1 == 0) = false := by simpa using c0
  by_cases c1 : most < b2
  · have k1 : decide (b2 > most) = true := decide_eq_true c1
    have HQ := Lib.hid (show step true (OTof tl) N rec most level (all.drop k) ns = .er 2 (all.drop k) ns by rw [HST.out, if_pos (Or.inr c1)])
    clear c0 c1 hbad
    go_wp2_with fail
    refine bodyPost_ret (v := .tuple #[Z0, .int .i64 2]) (by simp [results, Tryz.results57, go_sem, q0, q1, q2, q3, q4, q5, Z0, tmV]) rfl ?_
    rw [HQ.out]
    exact ⟨rfl, by decide, k, F, rfl, HU.out.1, HU.out.2⟩
  have k1 : decide (b2 > most) = false := decide_eq_false c1
  have hnb : ¬ (b1 = 0 ∨ most < b2) := fun h => h.elim c0 c1
  by_cases c2 : 2000 < level
  · have k2 : decide ((level : Int) > 2000) = true := decide_eq_true (by omega)
    have HQ := Lib.hid (show step true (OTof tl) N rec most level (all.drop k) ns = .er 3 (all.drop k) ns by rw [HST.out, if_neg hnb, if_pos c2])
    clear c0 c1 hbad c2 hnb
    go_wp2_with fail
    refine bodyPost_ret (v := .tuple #[Z0, .int .i64 3]) (by simp [results, Tryz.results57, go_sem, q0, q1, q2, q3, q4, q5, Z0, tmV]) rfl ?_
    rw [HQ.out]
    exact ⟨rfl, by decide, k, F, rfl, HU.out.1, HU.out.2⟩
  have k2 : decide ((level : Int) > 2000) = false := decide_eq_false (by omega)
  have hstep2 : step true (OTof tl) N rec most level (all.drop k) ns = (first (OTof tl) N rec b1 level (all.drop k) ns).bind fun v r n => goOn (OTof tl) N rec most level ((all.drop k).length + 1) v b2 r n := by rw [HST.out, if_neg hnb, if_neg c2]
  obtain ⟨R1, hR1⟩ : ∃ R1, R1 = first (OTof tl) N rec b1 level (all.drop k) ns := ⟨_, rfl⟩
  rw [← hR1] at hstep2
  have hlt := HBF.out.2 c0
  have HFA := Lib.hid (first_any HGD.out.1 HGD.out.2.1 H2.out.1 HGD.out.2.2.1 level (by omega) b1 ⟨by have := HBF.out.1.1; omega, HBF.out.1.2.1⟩ hlt (fun h => H.out.1.kn (HBF.out.1.2.2.1 h)))
  rw [← hR1] at HFA
  have HRP := Lib.hid (show ∀ v r n, R1 = .ok v r n → Part r (all.drop k) from fun v r n e => by
    obtain ⟨t, ss, et⟩ := begs_cons (show (begs true (OTof tl) N most (all.drop k)).1 ≠ 0 by rw [← HB.out]; exact c0)
    rw [et] at hR1 ⊢
    exact first_part HGD.out.2.1 (hR1.symm.trans e))
  have HX := Lib.hid (And.intro hstep2 (And.intro hlt c2))
  clear hU hlz z0 z1 z2 z3 z4 z5 y0 y1 y2 y3 y4 y5 q0 q1 q2 q3 q4 q5 HU hbad hnb c0 c1 c2 hstep2 hR1 hlt
  go_wp2_with fail
  refine HFA.out.mono ?_
  cases R1 with
  | er n rest ns' =>
    rintro e w3 ⟨rfl, hn0, k', F', hd, hS, hN⟩
    have hz := hN.block (Nw.lt H2.out.2.2) H.out.2.2.2.2
    have hz3 := hz.1.trans H2.out.2.2
    have e0 : (n == 0) = false := by simpa using hn0
    unfold Z0 tmV
    obtain ⟨⟨a0, a1, a2, a3, a4, a5⟩, d0, d1, d2, d3, d4, d5⟩ := six (alloc_at w3 TZ)
    have HS := Lib.hid (And.intro hn0 (And.intro hd (And.intro hS (And.intro (H2.out.2.1.trans hN) (And.intro hz.2 hz3)))))
    clear hz hz3 hn0 hd hS hN
    obtain ⟨g1, hg1⟩ : ∃ g1, g1 = w3.heap.size := ⟨_, rfl⟩
    go_upto_block 0 with fail
    refine nmw (K := fun W => Below w3.heap.size w3 W) (kp.ba w3 _) (fun W hW => ?_)
    have HSW := Lib.hid (And.intro (HS.out.2.2.1.below hW) (And.intro (HS.out.2.2.2.1.trans (Nx.below hW)) ((hW.block r0 (Nw.lt HS.out.2.2.2.2.2)).trans HS.out.2.2.2.2.2)))
    have HQ := Lib.hid (show step true (OTof tl) N rec most level (all.drop k) ns = .er n rest ns' by rw [HX.out.1]; rfl)
    clear a0 a1 a2 a3 a4 a5 d0 d1 d2 d3 d4 d5 hW
    go_wp2_with fail
    go_loopg [11] 0 (fun (g : Nat) (s11 : Value) (wr : World) => s11 = .int .i64 n ∧ wr = W)
    case atStart => exact ⟨rfl, rfl⟩
    case round =>
      obtain ⟨rfl, rfl⟩ := hrel
      obtain ⟨⟨z0, z1, z2, z3, z4, z5⟩, y0, y1, y2, y3, y4, y5⟩ := six HSW.out.2.2
      have hlz := Nw.lt HSW.out.2.2
      obtain ⟨U, hU, hNU⟩ := fin6 HSW.out.2.2 (.int .i64 0) (.string ⟨#[]⟩) (.int .i64 0) (.int .u64 0) (.int .u64 0) (.slice none 0 0)
      obtain ⟨⟨q0, q1, q2, q3, q4, q5⟩, -⟩ := six hNU.1
      have HU := Lib.hid (St.set H.out.1 HSW.out.1 HSW.out.2.1 (by rw [HW.out.1]; exact Nat.le_refl _) HS.out.2.2.2.2.1 hNU)
      clear hNU
      go_wp2_with fail
      refine bodyPost_ret (v := .tuple #[Z0, .int .i64 n]) (by simp [results, Tryz.results57, go_sem, q0, q1, q2, q3, q4, q5, Z0, tmV]) rfl ?_
      rw [HQ.out]
      exact ⟨rfl, HS.out.1, k', F', HS.out.2.1, HU.out.1, HU.out.2⟩
  | ok v rest ns' =>
    rintro e w3 ⟨v', k', F', rfl, hd, hS, hN, hL⟩
    obtain ⟨v0, v1, v2, v3, v4, xa, xl, xc, rfl⟩ := Lv.agg6 hL
    have hz := hN.block (Nw.lt H2.out.2.2) H.out.2.2.2.2
    have hz3 := hz.1.trans H2.out.2.2
    obtain ⟨⟨a0, a1, a2, a3, a4, a5⟩, d0, d1, d2, d3, d4, d5⟩ := six (alloc_at w3 TZ)
    obtain ⟨r1, hr1⟩ : ∃ r1, r1 = w3.heap.size := ⟨_, rfl⟩
    have hpart := HRP.out _ _ _ rfl
    have hkk : k < k' := by
      have := hpart.2
      rw [← hd, List.length_drop, List.length_drop] at this
      have := hS.kle; omega
    have hF1 : ¬ F' r1 := fun hF => by have := hS.lt _ hF; omega
    have HS := Lib.hid (And.intro hL (And.intro hd (And.intro hS (And.intro (H2.out.2.1.trans hN) (And.intro hz.2 (And.intro hz3 (And.intro hkk hF1)))))))
    have HR1 := Lib.hid hr1
    have HR01 := Lib.hid (show r0 < r1 by rw [hr1]; exact Nw.lt hz3)
    clear hz hz3 hd hS hN hL hpart hkk hF1
    go_upto_block 0 with fail
    refine nmw (K := fun W => Below w3.heap.size w3 W ∧ W.heap[r1]? = some (TC (.int .i64 v0) (.string v1) (.int .i64 v2) (.int .u64 v3) (.int .u64 v4) (.slice xa xl xc))) ⟨kp.ba w3 _, by rw [hr1]; exact alloc_at w3 _⟩ (fun W hW => ?_)
    rw [← hr1]
    obtain ⟨R, hR⟩ : ∃ R, R = goOn (OTof tl) N rec most level ((all.drop k).length + 1) v b2 rest ns' := ⟨_, rfl⟩
    have HQ := Lib.hid (show step true (OTof tl) N rec most level (all.drop k) ns = R by rw [HX.out.1, hR]; rfl)
    have hLv : Lv (Fr F' r1) w1.heap.size W v (.agg #[.int .i64 v0, .string v1, .int .i64 v2, .int .u64 v3, .int .u64 v4, .slice xa xl xc]) :=
      Lv.fr (Lv.mono (B' := w1.heap.size) HS.out.1 HW12.out) (by rw [hr1]; exact Nat.le_refl _) hW.1
    have hTL : TL p m tv tp FT N all tl k k' ns' F w F' r0 r1 W (.int .i64 v0) (.string v1) (.int .i64 v2) (.int .u64 v3) (.int .u64 v4) (.slice xa xl xc) :=
      ⟨HS.out.2.2.1.below hW.1, HS.out.2.2.2.1.trans (Nx.below hW.1), hW.2, (hW.1.block r0 (Nw.lt HS.out.2.2.2.2.2.1)).trans HS.out.2.2.2.2.2.1, HS.out.2.2.2.2.1, HS.out.2.2.2.2.2.2.2⟩
    have HST0 := Lib.hid (show TRel p m tv tp FT N all tl rec most level k F w w1.heap.size r0 r1 R (all.length - k' + 1) (.int .i64 b2) (.int .i64 0) W from
      ⟨k', ns', F', b2, 0, v0, v1, v2, v3, v4, xa, xl, xc, rfl, rfl, hTL, Or.inl ⟨rfl, v, (all.drop k).length + 1, rfl, by have := HS.out.2.2.2.2.2.2.1; omega, by rw [List.length_drop]; have := HS.out.2.2.2.2.2.2.1; omega, hLv, by rw [hR, HS.out.2.1]⟩⟩)
    clear a0 a1 a2 a3 a4 a5 d0 d1 d2 d3 d4 d5 hW hLv hTL hR hr1
    go_wp2_with fail
    go_loopg [9, 11] (all.length - k' + 1) (TRel p m tv tp FT N all tl rec most level k F w w1.heap.size r0 r1 R)
    case atStart => exact HST0.out
    case round =>
      clear HST0 HRP HS HR1
      obtain ⟨j, ns1, F2, pr, n, v0, v1, v2, v3, v4, xa, xl, xc, rfl, rfl, hTL, hmode⟩ := hrel
      rcases hmode with ⟨rfl, left, fu, hgj, hkj, hfu, hLv, hgo⟩ | ⟨hn0, hgj, hRn⟩
      rotate_left
      · have e0 : (n == 0) = false := by simpa using hn0
        obtain ⟨⟨z0, z1, z2, z3, z4, z5⟩, y0, y1, y2, y3, y4, y5⟩ := six hTL.c0
        have hlz := Nw.lt hTL.c0
        obtain ⟨U, hU, hNU⟩ := fin6 hTL.c0 (.int .i64 0) (.string ⟨#[]⟩) (.int .i64 0) (.int .u64 0) (.int .u64 0) (.slice none 0 0)
        obtain ⟨⟨q0, q1, q2, q3, q4, q5⟩, -⟩ := six hNU.1
        have HU := Lib.hid (St.set H.out.1 hTL.st hTL.nx (by rw [HW.out.1]; exact Nat.le_refl _) hTL.f0 hNU)
        have HRN := Lib.hid (And.intro hn0 hRn)
        clear hNU hTL hn0 hgj hRn
        go_wp2_with fail
        refine bodyPost_ret (v := .tuple #[Z0, .int .i64 n]) (by simp [results, Tryz.results57, go_sem, q0, q1, q2, q3, q4, q5, Z0, tmV]) rfl ?_
        rw [HQ.out, HRN.out.2]
        exact ⟨rfl, HRN.out.1, j, F2, rfl, HU.out.1, HU.out.2⟩
      obtain ⟨fu, rfl⟩ : ∃ q, fu = q + 1 := ⟨fu - 1, by omega⟩
      have HIF := Lib.hid (infix_st hTL.st)
      obtain ⟨x, hx⟩ : ∃ x, x = see N (all.drop j) 0 := ⟨_, rfl⟩
      obtain ⟨bi, hbi⟩ : ∃ bi, bi = infx (OTof tl) x := ⟨_, rfl⟩
      obtain ⟨o, ho⟩ : ∃ o, o = ifx (OTof tl) x := ⟨_, rfl⟩
      rw [← hx, ← hbi, ← ho] at HIF
      have hoe : bi = true → o = (OTof tl).di x.t := fun e => by rw [ho]; unfold ifx; rw [if_pos (by rw [← hbi, e])]
      have hend : ¬ (bi = true ∧ o.p ≤ most ∧ pr ≤ bnd o 3) → R = .ok left (all.drop j) ns1 := fun hh => by
        rw [← hgo]
        refine goOn_end fun h3 => hh ?_
        rw [← hx] at h3
        have e1 : bi = true := by rw [hbi]; exact h3.1
        rw [hoe e1]
        exact ⟨e1, h3.2.1, h3.2.2⟩
      have hon : bi = true → o.p ≤ most → pr ≤ bnd o 3 → ((rec (bnd o 2) (level + 1) (all.drop j).tail ns1).bind fun v r n => goOn (OTof tl) N rec most level fu (tm.comp (nm o.n) [left, v]) o.p r n) = R ∧ j < all.length ∧ o.n.length ≤ 70000 := fun e1 e2 e3 => by
        have h3 : infx (OTof tl) (see N (all.drop j) 0) = true ∧ ((OTof tl).di (see N (all.drop j) 0).t).p ≤ most ∧ pr ≤ bnd ((OTof tl).di (see N (all.drop j) 0).t) 3 := by
          rw [← hx, ← hoe e1]; exact ⟨by rw [← hbi]; exact e1, e2, e3⟩
        refine ⟨?_, ?_, ?_⟩
        · rw [← hgo, goOn_on h3, ← hx, ← hoe e1]
        · refine hTL.st.kn (j := 0) fun h0 => ?_
          have := h3.1
          unfold infx isP at this
          rw [h0] at this
          simp at this
        · have h4 : opa.is tl ⟨x.t, 1, 0⟩ = true := by
            have h5 : infx (OTof tl) x = true := by rw [← hbi]; exact e1
            unfold infx at h5
            exact (Bool.and_eq_true_iff.1 h5).2
          have h6 : o.n = x.t := by rw [hoe e1]; exact gd_name h4
          rw [h6, hx]
          by_cases hl : j < all.length
          · exact (see_ok hTL.st hl).t
          · rw [see_out (by omega)]; simp
      have hop : 0 ≤ o.p ∧ o.p ≤ 1200 := by
        cases hb : bi with
        | true => rw [hoe hb]; exact (OTof_pri hTL.st.env _).2
        | false => rw [ho]; unfold ifx; rw [if_neg (by rw [← hbi, hb]; decide)]; decide
      have HJ := Lib.hid (And.intro hTL (And.intro hLv (And.intro hgj (And.intro hkj (And.intro hend (And.intro hon hop))))))
      have HGU := Lib.hid hfu
      clear hTL hLv hgj hkj hend hon hop hgo hx hbi ho hoe hfu
      go_wp2_with fail
      refine HIF.out.mono ?_; rintro e w4 ⟨rfl, b4⟩
      obtain ⟨r2, hr2⟩ : ∃ r2, r2 = w4.heap.size := ⟨_, rfl⟩
      unfold opa.D.v
      obtain ⟨⟨a0, a1, a2⟩, u0, u1, u2⟩ := three (alloc_at w4 OZ)
      have B4 := Lib.hid b4
      clear b4
      go_upto_region 9 with fail
      refine nmw (K := fun W => Below wr.heap.size wr W ∧ W.heap[r2]? = some (.cells #[.string ⟨o.n.toArray⟩, .int .i64 o.k, .int .i64 o.p] 45 (0, 0)) ∧ wr.heap.size ≤ r2) ⟨B4.out.trans ((kp.ba w4 _).mono B4.out.size), by rw [hr2]; exact alloc_at w4 _, by rw [hr2]; exact B4.out.size⟩ (fun W5 hW5 => ?_)
      rw [← hr2]
      obtain ⟨⟨s0, s1, s2⟩, -⟩ := three hW5.2.1
      have HW5 := Lib.hid hW5
      clear a0 a1 a2 u0 u1 u2 hW5 hr2 B4
      cases bi with
      | false =>
        have HTW := Lib.hid (HJ.out.1.below HW5.out.1)
        have HLW := Lib.hid (((Nx.below (F := F2) HW5.out.1).fr r1).lv HJ.out.2.1)
        have HRE := Lib.hid (HJ.out.2.2.2.2.1 (fun h => by cases h.1))
        clear s0 s1 s2
        obtain ⟨⟨a0, a1, a2, a3, a4, a5⟩, -⟩ := six HTW.out.c1
        obtain ⟨⟨z0, z1, z2, z3, z4, z5⟩, y0, y1, y2, y3, y4, y5⟩ := six HTW.out.c0
        have hlz := Nw.lt HTW.out.c0
        obtain ⟨U, hU, hNU⟩ := fin6 HTW.out.c0 (.int .i64 v0) (.string v1) (.int .i64 v2) (.int .u64 v3) (.int .u64 v4) (.slice xa xl xc)
        obtain ⟨⟨q0, q1, q2, q3, q4, q5⟩, -⟩ := six hNU.1
        have HU := Lib.hid (St.set H.out.1 HTW.out.st HTW.out.nx (by rw [HW.out.1]; exact Nat.le_refl _) HTW.out.f0 hNU)
        have HL := Lib.hid ((HLW.out.down.set (Nw.lt H.out.2.2.2.1) hNU).mono H.out.2.2.1.size)
        clear hNU
        go_wp2_with fail
        refine bodyPost_ret (v := .tuple #[.agg #[.int .i64 v0, .string v1, .int .i64 v2, .int .u64 v3, .int .u64 v4, .slice xa xl xc], .int .i64 0]) (by simp [results, Tryz.results57, go_sem, q0, q1, q2, q3, q4, q5]) rfl ?_
        rw [HQ.out, HRE.out]
        exact ⟨_, j, F2, rfl, rfl, HU.out.1, HU.out.2, HL.out⟩
      | true =>
        by_cases c1 : o.p ≤ most
        rotate_left
        · have k1 : decide (o.p > most) = true := decide_eq_true (by omega)
          have HTW := Lib.hid (HJ.out.1.below HW5.out.1)
          have HLW := Lib.hid (((Nx.below (F := F2) HW5.out.1).fr r1).lv HJ.out.2.1)
          have HRE := Lib.hid (HJ.out.2.2.2.2.1 (fun h => c1 h.2.1))
          clear c1
          obtain ⟨⟨a0, a1, a2, a3, a4, a5⟩, -⟩ := six HTW.out.c1
          obtain ⟨⟨z0, z1, z2, z3, z4, z5⟩, y0, y1, y2, y3, y4, y5⟩ := six HTW.out.c0
          have hlz := Nw.lt HTW.out.c0
          obtain ⟨U, hU, hNU⟩ := fin6 HTW.out.c0 (.int .i64 v0) (.string v1) (.int .i64 v2) (.int .u64 v3) (.int .u64 v4) (.slice xa xl xc)
          obtain ⟨⟨q0, q1, q2, q3, q4, q5⟩, -⟩ := six hNU.1
          have HU := Lib.hid (St.set H.out.1 HTW.out.st HTW.out.nx (by rw [HW.out.1]; exact Nat.le_refl _) HTW.out.f0 hNU)
          have HL := Lib.hid ((HLW.out.down.set (Nw.lt H.out.2.2.2.1) hNU).mono H.out.2.2.1.size)
          clear hNU
          go_wp2_with fail
          refine bodyPost_ret (v := .tuple #[.agg #[.int .i64 v0, .string v1, .int .i64 v2, .int .u64 v3, .int .u64 v4, .slice xa xl xc], .int .i64 0]) (by simp [results, Tryz.results57, go_sem, q0, q1, q2, q3, q4, q5]) rfl ?_
          rw [HQ.out, HRE.out]
          exact ⟨_, j, F2, rfl, rfl, HU.out.1, HU.out.2, HL.out⟩
        have k1 : decide (o.p > most) = false := decide_eq_false (by omega)
        have HBD := Lib.hid (bound_any o 3 W5 ⟨by have := HJ.out.2.2.2.2.2.2; omega, by have := HJ.out.2.2.2.2.2.2; omega⟩)
        unfold opa.D.v at HBD
        have HC1 := Lib.hid c1
        clear c1
        by_cases c2 : pr ≤ bnd o 3
        rotate_left
        · have k2 : decide (pr > bnd o 3) = true := decide_eq_true (by omega)
          have HRE := Lib.hid (HJ.out.2.2.2.2.1 (fun h => c2 h.2.2))
          clear c2
          go_wp2_with fail
          refine HBD.out.mono ?_; rintro e w6 ⟨rfl, b6⟩
          have hb6 := HW5.out.1.trans (b6.mono HW5.out.1.size)
          have HTW := Lib.hid (HJ.out.1.below hb6)
          have HLW := Lib.hid (((Nx.below (F := F2) hb6).fr r1).lv HJ.out.2.1)
          clear b6 hb6 s0 s1 s2
          obtain ⟨⟨a0, a1, a2, a3, a4, a5⟩, -⟩ := six HTW.out.c1
          obtain ⟨⟨z0, z1, z2, z3, z4, z5⟩, y0, y1, y2, y3, y4, y5⟩ := six HTW.out.c0
          have hlz := Nw.lt HTW.out.c0
          obtain ⟨U, hU, hNU⟩ := fin6 HTW.out.c0 (.int .i64 v0) (.string v1) (.int .i64 v2) (.int .u64 v3) (.int .u64 v4) (.slice xa xl xc)
          obtain ⟨⟨q0, q1, q2, q3, q4, q5⟩, -⟩ := six hNU.1
          have HU := Lib.hid (St.set H.out.1 HTW.out.st HTW.out.nx (by rw [HW.out.1]; exact Nat.le_refl _) HTW.out.f0 hNU)
          have HL := Lib.hid ((HLW.out.down.set (Nw.lt H.out.2.2.2.1) hNU).mono H.out.2.2.1.size)
          clear hNU
          go_wp2_with fail
          refine bodyPost_ret (v := .tuple #[.agg #[.int .i64 v0, .string v1, .int .i64 v2, .int .u64 v3, .int .u64 v4, .slice xa xl xc], .int .i64 0]) (by simp [results, Tryz.results57, go_sem, q0, q1, q2, q3, q4, q5]) rfl ?_
          rw [HQ.out, HRE.out]
          exact ⟨_, j, F2, rfl, rfl, HU.out.1, HU.out.2, HL.out⟩
        have k2 : decide (pr > bnd o 3) = false := decide_eq_false (by omega)
        have hon := HJ.out.2.2.2.2.2.1 rfl HC1.out c2
        have HON := Lib.hid hon
        clear c2 hon
        go_wp2_with fail
        refine HBD.out.mono ?_; rintro e w6 ⟨rfl, b6⟩
        have hb6 := HW5.out.1.trans (b6.mono HW5.out.1.size)
        have hT6 := HJ.out.1.below hb6
        obtain ⟨nv6, hp6⟩ := hT6.st.ro
        have hjl := HON.out.2.1
        have hto := hT6.st.to (k' := j + 1) hp6 (ro_next hp6) (by omega) (by omega)
        have hr26 := (b6.block r2 (Nw.lt HW5.out.2.1)).trans HW5.out.2.1
        have hr2n : ¬ F2 r2 := fun hF => by have h1 := HJ.out.1.st.lt _ hF; have h2 := HW5.out.2.2; omega
        have HT6 := Lib.hid (And.intro hT6 (And.intro hto (And.intro (((Nx.below (F := F2) hb6).fr r1).lv HJ.out.2.1) (And.intro hr26 hr2n))))
        obtain ⟨⟨-, -, c2, -⟩, -, -, f2, -⟩ := six hp6
        have hlt := Nw.lt hp6
        have hw : wrap64 ((j : Int) + 1) = ((j + 1 : Nat) : Int) := by have := HJ.out.1.st.ale; unfold wrap64; omega
        clear b6 hb6 hT6 hto hr26 hr2n hjl s0 s1 s2
        go_upto_region 12 with fail
        refine nmw (K := fun V => St p m tv tp FT N all tl (j + 1) ns1 F2 V ∧ Nx F2 w6 F2 V) HT6.out.2.1 (fun V hV => ?_)
        have HV := Lib.hid (And.intro (HT6.out.1.on hV.1 hV.2) (And.intro ((hV.2.fr r1).lv HT6.out.2.2.1) (And.intro ((hV.2.block (Nw.lt HT6.out.2.2.2.1) HT6.out.2.2.2.2).1.trans HT6.out.2.2.2.1) hV.1)))
        clear c2 f2 hlt hp6 hV
        obtain ⟨r3, hr3⟩ : ∃ r3, r3 = V.heap.size := ⟨_, rfl⟩
        go_upto_region 13 with fail
        refine nmw (K := fun X => Below V.heap.size V X ∧ X.heap[r3]? = some (TC (.int .i64 0) (.string ⟨#[]⟩) (.int .i64 0) (.int .u64 0) (.int .u64 0) (.slice none 0 0))) ⟨kp.ba V _, by rw [hr3]; exact alloc_at V _⟩ (fun X hX => ?_)
        rw [← hr3]
        have hX2 := (hX.1.block r2 (Nw.lt HV.out.2.2.1)).trans HV.out.2.2.1
        obtain ⟨⟨s0, s1, s2⟩, -⟩ := three hX2
        have HBD2 := Lib.hid (bound_any o 2 X ⟨by have := HJ.out.2.2.2.2.2.2; omega, by have := HJ.out.2.2.2.2.2.2; omega⟩)
        unfold opa.D.v at HBD2
        have hwl : wrap64 ((level : Int) + 1) = ((level + 1 : Nat) : Int) := by have := HX.out.2.2; unfold wrap64; omega
        have HXX := Lib.hid (And.intro hX (And.intro hX2 hr3))
        clear hX hX2 hr3
        go_wp2_with fail
        refine HBD2.out.mono ?_; rintro e w7 ⟨rfl, b7⟩
        have hB7 : Below V.heap.size V w7 := HXX.out.1.1.trans (b7.mono HXX.out.1.1.size)
        have hbo : -1 ≤ bnd o 2 ∧ bnd o 2 ≤ 1200 := by have := HJ.out.2.2.2.2.2.2; unfold bnd; split <;> omega
        have hS7 := HV.out.2.2.2.below hB7
        have HTC := Lib.hid (HGD.out.1 (bnd o 2) (level + 1) (j + 1) ns1 F2 w7 hS7 (by have := HGD.out.2.2.1; have := HJ.out.2.2.2.1; omega) (by omega) hbo.2 (by have := HX.out.2.2; omega))
        obtain ⟨T, hT⟩ : ∃ T, T = rec (bnd o 2) (level + 1) (all.drop (j + 1)) ns1 := ⟨_, rfl⟩
        have hTP : ∀ v r n, T = .ok v r n → r.length < all.length - (j + 1) := fun v r n e => by have := (HGD.out.2.1 _ _ _ _ _ _ _ (hT.symm.trans e)).2; rwa [List.length_drop] at this
        have hTG : (T.bind fun v r n => goOn (OTof tl) N rec most level fu (tm.comp (nm o.n) [left, v]) o.p r n) = R := by rw [hT, ← HON.out.1, List.tail_drop]
        rw [← hT] at HTC
        have h7r3 := (b7.block r3 (Nw.lt HXX.out.1.2)).trans HXX.out.1.2
        have h7r2 := (b7.block r2 (Nw.lt HXX.out.2.1)).trans HXX.out.2.1
        have hr3n : ¬ F2 r3 := fun hF => by have h1 := HV.out.2.2.2.lt _ hF; have h2 := HXX.out.2.2; omega
        have hr2n := HT6.out.2.2.2.2
        have hr12 : r1 ≠ r2 ∧ r1 ≠ r3 ∧ r2 ≠ r3 ∧ r0 ≠ r3 ∧ r0 ≠ r1 := by
          have q1 := Nw.lt HJ.out.1.c1
          have q2 := HW5.out.2.2
          have q3 := HXX.out.2.2
          have q4 := Nw.lt HV.out.1.c1
          have q5 := Nw.lt HV.out.2.2.1
          have q6 := Nw.lt HV.out.1.c0
          refine ⟨by omega, by omega, by omega, by omega, fun e => ?_⟩
          have a := HJ.out.1.c0
          have hh := HR01.out
          omega
        have H7 := Lib.hid (And.intro (HV.out.1.below hB7) (And.intro (Lv.fr HV.out.2.1 (show V.heap.size ≤ r3 by rw [HXX.out.2.2]; exact Nat.le_refl _) hB7) (And.intro h7r2 (And.intro h7r3 (And.intro hr2n (And.intro hr3n (And.intro hr12 (And.intro hTP hTG))))))))
        clear hB7 hbo hS7 hT hTP hTG h7r3 h7r2 hr3n hr2n hr12 b7 s0 s1 s2
        cases T with
        | er n rest2 ns2 =>
          go_wp2_with fail
          refine HTC.out.mono ?_; rintro e w8 ⟨rfl, hn0, k2, F3, hd, hS8, hN8⟩
          have hT8 := H7.out.1.on hS8 hN8
          have h8r2 := hN8.block (Nw.lt H7.out.2.2.1) H7.out.2.2.2.2.1
          have h8r3 := hN8.block (Nw.lt H7.out.2.2.2.1) H7.out.2.2.2.2.2.1
          have h8r2c := h8r2.1.trans H7.out.2.2.1
          have h8r3c := h8r3.1.trans H7.out.2.2.2.1
          have hLl := ((hN8.fr r1).fr r3).lv H7.out.2.1
          obtain ⟨⟨z0, z1, z2, z3, z4, z5⟩, y0, y1, y2, y3, y4, y5⟩ := six h8r3c
          have hlz := Nw.lt h8r3c
          obtain ⟨V9, hV9, hN9⟩ := fin6 h8r3c (.int .i64 0) (.string ⟨#[]⟩) (.int .i64 0) (.int .u64 0) (.int .u64 0) (.slice none 0 0)
          have hne := H7.out.2.2.2.2.2.2.1
          have hS9 := St.set H.out.1 hT8.st hT8.nx (show w.heap.size ≤ r3 by have h1 := Nw.lt H.out.2.2.2.1; have h2 := HW.out.1; have h3 := HV.out.1.nx.keep.size; have h4 := HXX.out.2.2; omega) h8r3.2 hN9
          have h9r1 := (hN9.2.block r1 (Nw.lt hT8.c1) hne.2.1).trans hT8.c1
          have h9r0 := (hN9.2.block r0 (Nw.lt hT8.c0) hne.2.2.2.1).trans hT8.c0
          have h9r2 := (hN9.2.block r2 (Nw.lt h8r2c) hne.2.2.1).trans h8r2c
          have hT9 : TL p m tv tp FT N all tl k k2 ns2 F w F3 r0 r1 V9 (.int .i64 v0) (.string v1) (.int .i64 v2) (.int .u64 v3) (.int .u64 v4) (.slice xa xl xc) := ⟨hS9.1, hS9.2, h9r1, h9r0, hT8.f0, hT8.f1⟩
          have H9 := Lib.hid (And.intro hT9 (And.intro h9r2 (And.intro hN9.1 (And.intro (hLl.setF (Or.inr rfl) hN9) (And.intro trivial (And.intro hd hn0))))))
          have hkl := hS8.kle
          clear hT8 h8r2 h8r3 h8r2c h8r3c hLl hN9 hne hS9 h9r1 h9r0 h9r2 hT9 hS8 hN8 hd hn0
          unfold Z0 tmV
          go_upto_region 14 with fail
          clear z0 z1 z2 z3 z4 z5 y0 y1 y2 y3 y4 y5 hlz hV9
          have SC := Lib.hid (fun (w' : World) (hk : Keep (fun i => i = r1) V9 w') => show w'.cell? ⟨r2, 0, none⟩ = some (.string ⟨o.n.toArray⟩) ∧ w'.cell? ⟨r2, 2, none⟩ = some (.int .i64 o.p) ∧ w'.cell? ⟨r3, 0, none⟩ = some (.int .i64 0) ∧ w'.cell? ⟨r3, 1, none⟩ = some (.string ⟨#[]⟩) ∧ w'.cell? ⟨r3, 2, none⟩ = some (.int .i64 0) ∧ w'.cell? ⟨r3, 3, none⟩ = some (.int .u64 0) ∧ w'.cell? ⟨r3, 4, none⟩ = some (.int .u64 0) ∧ w'.cell? ⟨r3, 5, none⟩ = some (.slice none 0 0) from by
            have hr2 := (hk.block r2 (Nw.lt H9.out.2.1) (fun e => H7.out.2.2.2.2.2.2.1.1 e.symm)).trans H9.out.2.1
            have hr3 := (hk.block r3 (Nw.lt H9.out.2.2.1) (fun e => H7.out.2.2.2.2.2.2.1.2.1 e.symm)).trans H9.out.2.2.1
            exact ⟨(three hr2).1.1, (three hr2).1.2.2, (six hr3).1⟩)
          have hdr : Below V9.heap.size V9 V9.drew := kp.bdr V9
          obtain ⟨wd, hwd⟩ : ∃ wd, wd = V9.drew := ⟨_, rfl⟩
          rw [← hwd] at hdr
          have HWD := Lib.hid hwd
          have hq1 := (hdr.block r1 (Nw.lt H9.out.1.c1)).trans H9.out.1.c1
          have HDR := Lib.hid hdr
          clear hwd hdr
          refine wp_region_noPanic ?_
          refine wp_region_held_drew (S := (fun w' => w'.cell? ⟨r2, 0, none⟩ = some (.string ⟨o.n.toArray⟩) ∧ w'.cell? ⟨r2, 2, none⟩ = some (.int .i64 o.p) ∧ w'.cell? ⟨r3, 0, none⟩ = some (.int .i64 0) ∧ w'.cell? ⟨r3, 1, none⟩ = some (.string ⟨#[]⟩) ∧ w'.cell? ⟨r3, 2, none⟩ = some (.int .i64 0) ∧ w'.cell? ⟨r3, 3, none⟩ = some (.int .u64 0) ∧ w'.cell? ⟨r3, 4, none⟩ = some (.int .u64 0) ∧ w'.cell? ⟨r3, 5, none⟩ = some (.slice none 0 0))) (by kernel_rfl) ?_ (fun hHeld => ?_)
          · (try dsimp only); exact SC.out _ (Keep.of_below (kp.bdr _))
          refine wpAnyH_take (i := 0) (v := ?_) rfl (by kernel_rfl) (by kernel_rfl) (by kernel_rfl) (fun _ _ _ h => h) (Or.inl ⟨by rfl, ?_⟩) (by assumption) ?_
          rotate_left
          · (intro w hSw; (try dsimp only at hSw); (obtain ⟨sa, sb, s0, s1, s2, s3, s4, s5⟩ := hSw); go_simp; first | done | with_reducible rfl)
          try simp only [Act.put, List.getElem_toArray, List.getElem_cons_zero, List.getElem_cons_succ, List.setIfInBounds_toArray, List.set_cons_zero, List.set_cons_succ]
          refine wpAnyH_take (i := 1) (v := ?_) rfl (by kernel_rfl) (by kernel_rfl) (by kernel_rfl) (fun _ _ _ h => h) (Or.inl ⟨by rfl, ?_⟩) (by assumption) ?_
          rotate_left
          · (intro w hSw; (try dsimp only at hSw); (obtain ⟨sa, sb, s0, s1, s2, s3, s4, s5⟩ := hSw); go_simp; first | done | with_reducible rfl)
          try simp only [Act.put, List.getElem_toArray, List.getElem_cons_zero, List.getElem_cons_succ, List.setIfInBounds_toArray, List.set_cons_zero, List.set_cons_succ]
          refine wpAnyH_take (i := 3) (v := ?_) rfl (by kernel_rfl) (by kernel_rfl) (by kernel_rfl) (fun _ _ _ h => h) (Or.inl ⟨by rfl, ?_⟩) (by assumption) ?_
          rotate_left
          · (intro w hSw; (try dsimp only at hSw); (obtain ⟨sa, sb, s0, s1, s2, s3, s4, s5⟩ := hSw); go_simp; first | done | with_reducible rfl)
          try simp only [Act.put, List.getElem_toArray, List.getElem_cons_zero, List.getElem_cons_succ, List.setIfInBounds_toArray, List.set_cons_zero, List.set_cons_succ]
          refine wpAnyH_take (i := 6) (v := ?_) rfl (by kernel_rfl) (by kernel_rfl) (by kernel_rfl) (fun _ _ _ h => h) (Or.inl ⟨by rfl, ?_⟩) (by assumption) ?_
          rotate_left
          · (intro w hSw; (try dsimp only at hSw); (obtain ⟨sa, sb, s0, s1, s2, s3, s4, s5⟩ := hSw); go_simp; first | done | with_reducible rfl)
          try simp only [Act.put, List.getElem_toArray, List.getElem_cons_zero, List.getElem_cons_succ, List.setIfInBounds_toArray, List.set_cons_zero, List.set_cons_succ]
          refine wpAnyH_take (i := 7) (v := ?_) rfl (by kernel_rfl) (by kernel_rfl) (by kernel_rfl) (fun _ _ _ h => h) (Or.inl ⟨by rfl, ?_⟩) (by assumption) ?_
          rotate_left
          · (intro w hSw; (try dsimp only at hSw); (obtain ⟨sa, sb, s0, s1, s2, s3, s4, s5⟩ := hSw); go_simp; first | done | with_reducible rfl)
          try simp only [Act.put, List.getElem_toArray, List.getElem_cons_zero, List.getElem_cons_succ, List.setIfInBounds_toArray, List.set_cons_zero, List.set_cons_succ]
          rw [← HWD.out]
          obtain ⟨⟨a0, a1, a2, a3, a4, a5⟩, -⟩ := six hq1
          refine wpAnyH_ready (rs := [2]) (by kernel_rfl) (by simp) ?_
          refine AllReadyH.cons rfl (fun K hK => ?_) AllReadyH.nil
          go_simp
          refine hK.out _ _ ?_ (fun hHeld => ?_)
          · (try dsimp only); exact SC.out _ (Keep.of_below HDR.out)
          clear hK K
          try simp only [Act.put, List.getElem_toArray, List.getElem_cons_zero, List.getElem_cons_succ, List.setIfInBounds_toArray, List.set_cons_zero, List.set_cons_succ]
          clear a0 a1 a2 a3 a4 a5 hq1
          refine wpAnyH_ready (rs := [4]) (by kernel_rfl) (by simp) ?_
          refine AllReadyH.cons rfl (fun K hK => ?_) AllReadyH.nil
          go_simp
          have hbA := kp.ba wd (.cells #[.int .i64 v0, .string v1, .int .i64 v2, .int .u64 v3, .int .u64 v4, .slice xa xl xc, .int .i64 0, .string ⟨#[]⟩, .int .i64 0, .int .u64 0, .int .u64 0, .slice none 0 0] 27)
          obtain ⟨wA, hwA⟩ : ∃ wA, wA = wd.alloc (.cells #[.int .i64 v0, .string v1, .int .i64 v2, .int .u64 v3, .int .u64 v4, .slice xa xl xc, .int .i64 0, .string ⟨#[]⟩, .int .i64 0, .int .u64 0, .int .u64 0, .slice none 0 0] 27) := ⟨_, rfl⟩
          rw [← hwA] at hbA
          try rw [← hwA]
          have hbA2 := HDR.out.trans (hbA.mono HDR.out.size)
          have HA := Lib.hid (And.intro hbA2 trivial)
          refine hK.out _ _ ?_ (fun hHeld => ?_)
          · (try dsimp only); exact SC.out _ (Keep.of_below HA.out.1)
          clear hK K hbA hbA2 hwA
          try simp only [Act.put, List.getElem_toArray, List.getElem_cons_zero, List.getElem_cons_succ, List.setIfInBounds_toArray, List.set_cons_zero, List.set_cons_succ]
          refine wpAnyH_ready (rs := [5]) (by kernel_rfl) (by simp) ?_
          refine AllReadyH.cons rfl (fun K hK => ?_) AllReadyH.nil
          go_simp
          refine (compound_any o.n (some ⟨wd.heap.size, 0, none⟩) 2 2 wA).mono ?_
          rintro ee wC ⟨rfl, bC⟩
          have hbC := HA.out.1.trans (bC.mono HA.out.1.size)
          have hqC := (hbC.block r1 (Nw.lt H9.out.1.c1)).trans H9.out.1.c1
          have HC9 := Lib.hid (And.intro hbC trivial)
          go_wp2_with fail
          refine hK.out _ _ ?_ (fun hHeld => ?_)
          · (try dsimp only); exact SC.out _ (Keep.of_below HC9.out.1)
          clear hK K bC hbC
          try simp only [Act.put, List.getElem_toArray, List.getElem_cons_zero, List.getElem_cons_succ, List.setIfInBounds_toArray, List.set_cons_zero, List.set_cons_succ]
          unfold tmV
          obtain ⟨⟨z0, z1, z2, z3, z4, z5⟩, y0, y1, y2, y3, y4, y5⟩ := six hqC
          have hlz := Nw.lt hqC
          obtain ⟨U, hU, hNU⟩ := fin6 hqC (.int .i64 5) (.string ⟨o.n.toArray⟩) (.int .i64 0) (.int .u64 0) (.int .u64 0) (.slice (some ⟨wd.heap.size, 0, none⟩) 2 2)
          have HNU := Lib.hid hNU
          refine wpAnyH_ready (rs := [8]) (by kernel_rfl) (by simp) ?_
          refine AllReadyH.cons rfl (fun K hK => ?_) AllReadyH.nil
          go_simp
          go_wp2_with fail
          refine hK.out _ _ ?_ (fun hHeld => ?_)
          · (try dsimp only); exact SC.out _ ((Keep.of_below HC9.out.1).trans HNU.out.2 fun _ => Or.inl)
          clear hK K hqC z0 z1 z2 z3 z4 z5 y0 y1 y2 y3 y4 y5 hU hNU hlz
          try simp only [Act.put, List.getElem_toArray, List.getElem_cons_zero, List.getElem_cons_succ, List.setIfInBounds_toArray, List.set_cons_zero, List.set_cons_succ]
          refine wpAnyH_take (i := 9) (v := ?_) rfl (by kernel_rfl) (by kernel_rfl) (by kernel_rfl) (fun _ _ _ h => h) (Or.inl ⟨by rfl, ?_⟩) (by assumption) ?_
          rotate_left
          · (intro w hSw; (try dsimp only at hSw); (obtain ⟨sa, sb, s0, s1, s2, s3, s4, s5⟩ := hSw); go_simp; first | done | with_reducible rfl)
          try simp only [Act.put, List.getElem_toArray, List.getElem_cons_zero, List.getElem_cons_succ, List.setIfInBounds_toArray, List.set_cons_zero, List.set_cons_succ]
          refine wpAnyH_done (by kernel_rfl) ?_ _
          refine NoPanic.normal ?_
          have hFIN : TL p m tv tp FT N all tl k k2 ns2 F w F3 r0 r1 U (.int .i64 5) (.string ⟨o.n.toArray⟩) (.int .i64 0) (.int .u64 0) (.int .u64 0) (.slice (some ⟨wd.heap.size, 0, none⟩) 2 2) := by
            have hTC := H9.out.1.below HC9.out.1
            have hS := St.set H.out.1 hTC.st hTC.nx (show w.heap.size ≤ r1 by have h1 := HW.out.1; have h2 := HR01.out; omega) hTC.f1 HNU.out
            exact ⟨hS.1, hS.2, HNU.out.1, (HNU.out.2.block r0 (Nw.lt hTC.c0) (fun e => by have := HR01.out; omega)).trans hTC.c0, hTC.f0, hTC.f1⟩
          have HFIN := Lib.hid hFIN
          clear hFIN hHeld
          go_wp2_with fail
          go_roundg 0
          case measure => have := HJ.out.2.2.1; omega
          case rel =>
            have hTG := H7.out.2.2.2.2.2.2.2.2
            exact ⟨k2, ns2, F3, o.p, n, 5, ⟨o.n.toArray⟩, 0, 0, 0, some ⟨wd.heap.size, 0, none⟩, 2, 2, rfl, rfl, HFIN.out, Or.inr ⟨H9.out.2.2.2.2.2.2, rfl, by rw [H9.out.2.2.2.2.2.1]; exact hTG.symm⟩⟩
        | ok t rest2 ns2 =>
          go_wp2_with fail
          refine HTC.out.mono ?_; rintro e w8 ⟨vv, k2, F3, rfl, hd, hS8, hN8, hL8⟩
          obtain ⟨m0, m1, m2, m3, m4, ma, ml, mc, rfl⟩ := Lv.agg6 hL8
          have hLt : Lv (Fr (Fr F3 r1) r3) w1.heap.size w8 t (.agg #[.int .i64 m0, .string m1, .int .i64 m2, .int .u64 m3, .int .u64 m4, .slice ma ml mc]) :=
            (((show Lv F3 w7.heap.size w8 t _ from hL8).up (Nw.lt H7.out.1.c1)).up (Nw.lt H7.out.2.2.2.1)).mono (show w1.heap.size ≤ w7.heap.size by have h1 := Nw.lt H7.out.1.c1; have h2 := HR01.out; have h3 := HB1.out; omega)
          have hT8 := H7.out.1.on hS8 hN8
          have h8r2 := hN8.block (Nw.lt H7.out.2.2.1) H7.out.2.2.2.2.1
          have h8r3 := hN8.block (Nw.lt H7.out.2.2.2.1) H7.out.2.2.2.2.2.1
          have h8r2c := h8r2.1.trans H7.out.2.2.1
          have h8r3c := h8r3.1.trans H7.out.2.2.2.1
          have hLl := ((hN8.fr r1).fr r3).lv H7.out.2.1
          obtain ⟨⟨z0, z1, z2, z3, z4, z5⟩, y0, y1, y2, y3, y4, y5⟩ := six h8r3c
          have hlz := Nw.lt h8r3c
          obtain ⟨V9, hV9, hN9⟩ := fin6 h8r3c (.int .i64 m0) (.string m1) (.int .i64 m2) (.int .u64 m3) (.int .u64 m4) (.slice ma ml mc)
          have hne := H7.out.2.2.2.2.2.2.1
          have hS9 := St.set H.out.1 hT8.st hT8.nx (show w.heap.size ≤ r3 by have h1 := Nw.lt H.out.2.2.2.1; have h2 := HW.out.1; have h3 := HV.out.1.nx.keep.size; have h4 := HXX.out.2.2; omega) h8r3.2 hN9
          have h9r1 := (hN9.2.block r1 (Nw.lt hT8.c1) hne.2.1).trans hT8.c1
          have h9r0 := (hN9.2.block r0 (Nw.lt hT8.c0) hne.2.2.2.1).trans hT8.c0
          have h9r2 := (hN9.2.block r2 (Nw.lt h8r2c) hne.2.2.1).trans h8r2c
          have hT9 : TL p m tv tp FT N all tl k k2 ns2 F w F3 r0 r1 V9 (.int .i64 v0) (.string v1) (.int .i64 v2) (.int .u64 v3) (.int .u64 v4) (.slice xa xl xc) := ⟨hS9.1, hS9.2, h9r1, h9r0, hT8.f0, hT8.f1⟩
          have H9 := Lib.hid (And.intro hT9 (And.intro h9r2 (And.intro hN9.1 (And.intro (hLl.setF (Or.inr rfl) hN9) (And.intro (hLt.setF (Or.inr rfl) hN9) (And.intro hd trivial))))))
          have hkl := hS8.kle
          clear hT8 h8r2 h8r3 h8r2c h8r3c hLl hN9 hne hS9 h9r1 h9r0 h9r2 hT9 hS8 hN8 hd hLt hL8
          go_upto_region 14 with fail
          clear z0 z1 z2 z3 z4 z5 y0 y1 y2 y3 y4 y5 hlz hV9
          have SC := Lib.hid (fun (w' : World) (hk : Keep (fun i => i = r1) V9 w') => show w'.cell? ⟨r2, 0, none⟩ = some (.string ⟨o.n.toArray⟩) ∧ w'.cell? ⟨r2, 2, none⟩ = some (.int .i64 o.p) ∧ w'.cell? ⟨r3, 0, none⟩ = some (.int .i64 m0) ∧ w'.cell? ⟨r3, 1, none⟩ = some (.string m1) ∧ w'.cell? ⟨r3, 2, none⟩ = some (.int .i64 m2) ∧ w'.cell? ⟨r3, 3, none⟩ = some (.int .u64 m3) ∧ w'.cell? ⟨r3, 4, none⟩ = some (.int .u64 m4) ∧ w'.cell? ⟨r3, 5, none⟩ = some (.slice ma ml mc) from by
            have hr2 := (hk.block r2 (Nw.lt H9.out.2.1) (fun e => H7.out.2.2.2.2.2.2.1.1 e.symm)).trans H9.out.2.1
            have hr3 := (hk.block r3 (Nw.lt H9.out.2.2.1) (fun e => H7.out.2.2.2.2.2.2.1.2.1 e.symm)).trans H9.out.2.2.1
            exact ⟨(three hr2).1.1, (three hr2).1.2.2, (six hr3).1⟩)
          have hdr : Below V9.heap.size V9 V9.drew := kp.bdr V9
          obtain ⟨wd, hwd⟩ : ∃ wd, wd = V9.drew := ⟨_, rfl⟩
          rw [← hwd] at hdr
          have HWD := Lib.hid hwd
          have hq1 := (hdr.block r1 (Nw.lt H9.out.1.c1)).trans H9.out.1.c1
          have HDR := Lib.hid hdr
          clear hwd hdr
          refine wp_region_noPanic ?_
          refine wp_region_held_drew (S := (fun w' => w'.cell? ⟨r2, 0, none⟩ = some (.string ⟨o.n.toArray⟩) ∧ w'.cell? ⟨r2, 2, none⟩ = some (.int .i64 o.p) ∧ w'.cell? ⟨r3, 0, none⟩ = some (.int .i64 m0) ∧ w'.cell? ⟨r3, 1, none⟩ = some (.string m1) ∧ w'.cell? ⟨r3, 2, none⟩ = some (.int .i64 m2) ∧ w'.cell? ⟨r3, 3, none⟩ = some (.int .u64 m3) ∧ w'.cell? ⟨r3, 4, none⟩ = some (.int .u64 m4) ∧ w'.cell? ⟨r3, 5, none⟩ = some (.slice ma ml mc))) (by kernel_rfl) ?_ (fun hHeld => ?_)
          · (try dsimp only); exact SC.out _ (Keep.of_below (kp.bdr _))
          refine wpAnyH_take (i := 0) (v := ?_) rfl (by kernel_rfl) (by kernel_rfl) (by kernel_rfl) (fun _ _ _ h => h) (Or.inl ⟨by rfl, ?_⟩) (by assumption) ?_
          rotate_left
          · (intro w hSw; (try dsimp only at hSw); (obtain ⟨sa, sb, s0, s1, s2, s3, s4, s5⟩ := hSw); go_simp; first | done | with_reducible rfl)
          try simp only [Act.put, List.getElem_toArray, List.getElem_cons_zero, List.getElem_cons_succ, List.setIfInBounds_toArray, List.set_cons_zero, List.set_cons_succ]
          refine wpAnyH_take (i := 1) (v := ?_) rfl (by kernel_rfl) (by kernel_rfl) (by kernel_rfl) (fun _ _ _ h => h) (Or.inl ⟨by rfl, ?_⟩) (by assumption) ?_
          rotate_left
          · (intro w hSw; (try dsimp only at hSw); (obtain ⟨sa, sb, s0, s1, s2, s3, s4, s5⟩ := hSw); go_simp; first | done | with_reducible rfl)
          try simp only [Act.put, List.getElem_toArray, List.getElem_cons_zero, List.getElem_cons_succ, List.setIfInBounds_toArray, List.set_cons_zero, List.set_cons_succ]
          refine wpAnyH_take (i := 3) (v := ?_) rfl (by kernel_rfl) (by kernel_rfl) (by kernel_rfl) (fun _ _ _ h => h) (Or.inl ⟨by rfl, ?_⟩) (by assumption) ?_
          rotate_left
          · (intro w hSw; (try dsimp only at hSw); (obtain ⟨sa, sb, s0, s1, s2, s3, s4, s5⟩ := hSw); go_simp; first | done | with_reducible rfl)
          try simp only [Act.put, List.getElem_toArray, List.getElem_cons_zero, List.getElem_cons_succ, List.setIfInBounds_toArray, List.set_cons_zero, List.set_cons_succ]
          refine wpAnyH_take (i := 6) (v := ?_) rfl (by kernel_rfl) (by kernel_rfl) (by kernel_rfl) (fun _ _ _ h => h) (Or.inl ⟨by rfl, ?_⟩) (by assumption) ?_
          rotate_left
          · (intro w hSw; (try dsimp only at hSw); (obtain ⟨sa, sb, s0, s1, s2, s3, s4, s5⟩ := hSw); go_simp; first | done | with_reducible rfl)
          try simp only [Act.put, List.getElem_toArray, List.getElem_cons_zero, List.getElem_cons_succ, List.setIfInBounds_toArray, List.set_cons_zero, List.set_cons_succ]
          refine wpAnyH_take (i := 7) (v := ?_) rfl (by kernel_rfl) (by kernel_rfl) (by kernel_rfl) (fun _ _ _ h => h) (Or.inl ⟨by rfl, ?_⟩) (by assumption) ?_
          rotate_left
          · (intro w hSw; (try dsimp only at hSw); (obtain ⟨sa, sb, s0, s1, s2, s3, s4, s5⟩ := hSw); go_simp; first | done | with_reducible rfl)
          try simp only [Act.put, List.getElem_toArray, List.getElem_cons_zero, List.getElem_cons_succ, List.setIfInBounds_toArray, List.set_cons_zero, List.set_cons_succ]
          rw [← HWD.out]
          obtain ⟨⟨a0, a1, a2, a3, a4, a5⟩, -⟩ := six hq1
          refine wpAnyH_ready (rs := [2]) (by kernel_rfl) (by simp) ?_
          refine AllReadyH.cons rfl (fun K hK => ?_) AllReadyH.nil
          go_simp
          refine hK.out _ _ ?_ (fun hHeld => ?_)
          · (try dsimp only); exact SC.out _ (Keep.of_below HDR.out)
          clear hK K
          try simp only [Act.put, List.getElem_toArray, List.getElem_cons_zero, List.getElem_cons_succ, List.setIfInBounds_toArray, List.set_cons_zero, List.set_cons_succ]
          clear a0 a1 a2 a3 a4 a5 hq1
          refine wpAnyH_ready (rs := [4]) (by kernel_rfl) (by simp) ?_
          refine AllReadyH.cons rfl (fun K hK => ?_) AllReadyH.nil
          go_simp
          have hbA := kp.ba wd (.cells #[.int .i64 v0, .string v1, .int .i64 v2, .int .u64 v3, .int .u64 v4, .slice xa xl xc, .int .i64 m0, .string m1, .int .i64 m2, .int .u64 m3, .int .u64 m4, .slice ma ml mc] 27)
          obtain ⟨wA, hwA⟩ : ∃ wA, wA = wd.alloc (.cells #[.int .i64 v0, .string v1, .int .i64 v2, .int .u64 v3, .int .u64 v4, .slice xa xl xc, .int .i64 m0, .string m1, .int .i64 m2, .int .u64 m3, .int .u64 m4, .slice ma ml mc] 27) := ⟨_, rfl⟩
          rw [← hwA] at hbA
          try rw [← hwA]
          have hRow := row2 (((Nx.below (F := F3) HDR.out).fr r1).fr r3 |>.lv H9.out.2.2.2.1) (((Nx.below (F := F3) HDR.out).fr r1).fr r3 |>.lv H9.out.2.2.2.2.1) (show ∀ i, Fr (Fr F3 r1) r3 i → i < wd.heap.size from by
            have h1 := HDR.out.size
            rintro i ((hi | hi) | hi)
            · have := H9.out.1.st.lt i hi; omega
            · have := Nw.lt H9.out.1.c1; omega
            · have := Nw.lt H9.out.2.2.1; omega) (show w1.heap.size ≤ wd.heap.size by have h1 := HDR.out.size; have h2 := Nw.lt H9.out.1.c1; have h3 := HR01.out; have h4 := HB1.out; omega)
          rw [← hwA] at hRow
          have hbA2 := HDR.out.trans (hbA.mono HDR.out.size)
          have HA := Lib.hid (And.intro hbA2 hRow)
          refine hK.out _ _ ?_ (fun hHeld => ?_)
          · (try dsimp only); exact SC.out _ (Keep.of_below HA.out.1)
          clear hK K hbA hRow hbA2 hwA
          try simp only [Act.put, List.getElem_toArray, List.getElem_cons_zero, List.getElem_cons_succ, List.setIfInBounds_toArray, List.set_cons_zero, List.set_cons_succ]
          refine wpAnyH_ready (rs := [5]) (by kernel_rfl) (by simp) ?_
          refine AllReadyH.cons rfl (fun K hK => ?_) AllReadyH.nil
          go_simp
          refine (compound_any o.n (some ⟨wd.heap.size, 0, none⟩) 2 2 wA).mono ?_
          rintro ee wC ⟨rfl, bC⟩
          have hbC := HA.out.1.trans (bC.mono HA.out.1.size)
          have hqC := (hbC.block r1 (Nw.lt H9.out.1.c1)).trans H9.out.1.c1
          have HC9 := Lib.hid (And.intro hbC (Nx.lw (Nx.below bC) HA.out.2))
          go_wp2_with fail
          refine hK.out _ _ ?_ (fun hHeld => ?_)
          · (try dsimp only); exact SC.out _ (Keep.of_below HC9.out.1)
          clear hK K bC hbC
          try simp only [Act.put, List.getElem_toArray, List.getElem_cons_zero, List.getElem_cons_succ, List.setIfInBounds_toArray, List.set_cons_zero, List.set_cons_succ]
          unfold tmV
          obtain ⟨⟨z0, z1, z2, z3, z4, z5⟩, y0, y1, y2, y3, y4, y5⟩ := six hqC
          have hlz := Nw.lt hqC
          obtain ⟨U, hU, hNU⟩ := fin6 hqC (.int .i64 5) (.string ⟨o.n.toArray⟩) (.int .i64 0) (.int .u64 0) (.int .u64 0) (.slice (some ⟨wd.heap.size, 0, none⟩) 2 2)
          have HNU := Lib.hid hNU
          refine wpAnyH_ready (rs := [8]) (by kernel_rfl) (by simp) ?_
          refine AllReadyH.cons rfl (fun K hK => ?_) AllReadyH.nil
          go_simp
          go_wp2_with fail
          refine hK.out _ _ ?_ (fun hHeld => ?_)
          · (try dsimp only); exact SC.out _ ((Keep.of_below HC9.out.1).trans HNU.out.2 fun _ => Or.inl)
          clear hK K hqC z0 z1 z2 z3 z4 z5 y0 y1 y2 y3 y4 y5 hU hNU hlz
          try simp only [Act.put, List.getElem_toArray, List.getElem_cons_zero, List.getElem_cons_succ, List.setIfInBounds_toArray, List.set_cons_zero, List.set_cons_succ]
          refine wpAnyH_take (i := 9) (v := ?_) rfl (by kernel_rfl) (by kernel_rfl) (by kernel_rfl) (fun _ _ _ h => h) (Or.inl ⟨by rfl, ?_⟩) (by assumption) ?_
          rotate_left
          · (intro w hSw; (try dsimp only at hSw); (obtain ⟨sa, sb, s0, s1, s2, s3, s4, s5⟩ := hSw); go_simp; first | done | with_reducible rfl)
          try simp only [Act.put, List.getElem_toArray, List.getElem_cons_zero, List.getElem_cons_succ, List.setIfInBounds_toArray, List.set_cons_zero, List.set_cons_succ]
          refine wpAnyH_done (by kernel_rfl) ?_ _
          refine NoPanic.normal ?_
          have hFIN : TL p m tv tp FT N all tl k k2 ns2 F w F3 r0 r1 U (.int .i64 5) (.string ⟨o.n.toArray⟩) (.int .i64 0) (.int .u64 0) (.int .u64 0) (.slice (some ⟨wd.heap.size, 0, none⟩) 2 2) := by
            have hTC := H9.out.1.below HC9.out.1
            have hS := St.set H.out.1 hTC.st hTC.nx (show w.heap.size ≤ r1 by have h1 := HW.out.1; have h2 := HR01.out; omega) hTC.f1 HNU.out
            exact ⟨hS.1, hS.2, HNU.out.1, (HNU.out.2.block r0 (Nw.lt hTC.c0) (fun e => by have := HR01.out; omega)).trans hTC.c0, hTC.f0, hTC.f1⟩
          have HFIN := Lib.hid hFIN
          clear hFIN hHeld
          go_wp2_with fail
          have hTP := H7.out.2.2.2.2.2.2.2.1 _ _ _ rfl
          have hk2 : j + 1 < k2 := by rw [← H9.out.2.2.2.2.2.1, List.length_drop] at hTP; omega
          have HK2 := Lib.hid hk2
          clear hTP hk2
          go_roundg (all.length - k2 + 1)
          case measure => have := HK2.out; have := HJ.out.2.2.1; omega
          case rel =>
            have hTG := H7.out.2.2.2.2.2.2.2.2
            refine ⟨k2, ns2, F3, o.p, 0, 5, ⟨o.n.toArray⟩, 0, 0, 0, some ⟨wd.heap.size, 0, none⟩, 2, 2, rfl, rfl, HFIN.out, Or.inl ⟨rfl, tm.comp (nm o.n) [left, t], fu, rfl, by have := HK2.out; have := HJ.out.2.2.2.1; omega, by have := HK2.out; have := HGU.out; omega, ?_, ?_⟩⟩
            · exact (((HC9.out.2).setF (Or.inl (Or.inr rfl)) HNU.out).comp (n := o.n) HON.out.2.2).down
            · rw [H9.out.2.2.2.2.2.1]; exact hTG
end
end Go.Proofs.YtedbcmagjbgbjaaGreatDoor.rd
