/- awake of law 8. -/
import Derived.Test.YthableojkjhicaaUnI
import Derived.Test.YthableojkjhicaaOwn6
namespace Go.Proofs.Ythableojkjhicaa.un
open Go.ChangeShapes Go.WideShapes Go.ChangeAt Go.RowKit Go.Maps
open Go.Proofs.Ythableojkjhicaa.kp Go.Proofs.Ythableojkjhicaa.cel Go.Proofs.Ythableojkjhicaa.hp Go.Proofs.Ythableojkjhicaa.ob Go.Proofs.Ythableojkjhicaa.tm Go.Proofs.Ythableojkjhicaa.lie Go.Proofs.Ythableojkjhicaa.sl Go.Proofs.Ythableojkjhicaa.pm Go.Proofs.Ythableojkjhicaa.ppt Go.Proofs.Ythableojkjhicaa.cur Go.Proofs.Ythableojkjhicaa.awk
open Go.Proofs.Ythableojkjhicaa.rpt (putT HB frHB frV)
open Go.Proofs.Ythableojkjhicaa.atm (l0)
open Go.Proofs.Ythableojkjhicaa.pgt (getT GO frGO OT frOT SC6 nv6)
set_option linter.unusedVariables false
abbrev vc (b : Nat) : Value := .agg #[.int .i64 5, .string ⟨#[102]⟩, .int .i64 0, .int .u64 0, .int .u64 0, .slice (some ⟨b, 0, none⟩) 2 2]
/-- what was told stands in its box -/
def SU (W : World) (b : Nat) (k : Int) (nm : ByteArray) (i re im : Int) (s : Value) (wr : World) : Prop := Below W.heap.size W wr ∧ ∃ N, OX t3 b k nm i re im s wr N
section
variable {W wr w' : World} {b : Nat} {k : Int} {nm : ByteArray} {i re im : Int} {s : Value}
theorem SU.below (h : SU W b k nm i re im s wr) (hb : Below wr.heap.size wr w') : SU W b k nm i re im s w' := ⟨h.1.trans (hb.mono h.1.size), h.2.choose, frOX.below h.2.choose_spec hb⟩
theorem SU.drew (h : SU W b k nm i re im s wr) : SU W b k nm i re im s wr.drew := h.below (kp.bdr wr)
theorem SU.c (h : SU W b k nm i re im s wr) : wr.cell? ⟨b, 0, none⟩ = some (.int .i64 k) ∧ wr.cell? ⟨b, 1, none⟩ = some (.string nm) ∧ wr.cell? ⟨b, 2, none⟩ = some (.int .i64 i) ∧ wr.cell? ⟨b, 3, none⟩ = some (.int .u64 re) ∧ wr.cell? ⟨b, 4, none⟩ = some (.int .u64 im) ∧ wr.cell? ⟨b, 5, none⟩ = some s := h.2.choose_spec.six.1
theorem SU.l (h : SU W b k nm i re im s wr) : Lies No wr t3 (nv6 k nm i re im s) := h.2.choose_spec.six.2
theorem SU.bel (h : SU W b k nm i re im s wr) : Below W.heap.size W wr := h.1
/-- the other term, too -/
def SW (W : World) (b : Nat) (k : Int) (nm : ByteArray) (i re im : Int) (s : Value) (x : Nat) (wr : World) : Prop := SU W b k nm i re im s wr ∧ Lies No wr t3 (vc x)
theorem SW.drew {x : Nat} (h : SW W b k nm i re im s x wr) : SW W b k nm i re im s x wr.drew := ⟨h.1.drew, h.2.below (kp.bdr wr)⟩
theorem SW.mk {x : Nat} (h : SU W b k nm i re im s wr) (hx : x = wr.heap.size) (hb : Below (wr.heap.size + 1) (wr.alloc (R2 2 ⟨#[97]⟩ 0 2 ⟨#[98]⟩ 0)) w') : SW W b k nm i re im s x w' := by
  subst hx
  exact ⟨h.below ((kp.ba wr _).trans (hb.mono (Nat.le_succ _))), lies_2 wr id hb (atom_lies No ⟨#[97]⟩ wr (by decide)) (atom_lies No ⟨#[98]⟩ wr (by decide))⟩
end
set_option maxRecDepth 100000 in
set_option maxHeartbeats 2000000 in
theorem awake_any (w : World) : Calls Try.prog 29 #[] w fun e w' => e = .returned (.bool true) ∧ Below w.heap.size w w' := by
  go_enter Try.func29, Try.ntmps29
  go_wp2_with fail
  refine (new_any 50 w).mono ?_; rintro e w1 ⟨rfl, made⟩
  rw [show max 0 (min (50 : Int) 1048576) = 50 by omega] at made
  have M1 := Lib.hid made
  clear made
  go_wp2_with fail
  refine (atm.new_any w1).mono ?_; rintro e w2 ⟨rfl, made⟩
  have M2 := Lib.hid (HP.mk_ M1.out made)
  clear made M1
  obtain ⟨p, hp⟩ : ∃ p, p = w.heap.size := ⟨_, rfl⟩
  obtain ⟨q, hq⟩ : ∃ q, q = w1.heap.size := ⟨_, rfl⟩
  rw [← hp, ← hq] at M2 ⊢
  clear hp hq
  go_wp2_with fail
  refine (tnew_any w2).mono ?_; rintro e w3 ⟨rfl, hw3⟩
  have M3 := Lib.hid (TRO.mk_ frHP M2.out)
  rw [← hw3] at M3
  obtain ⟨t, ht⟩ : ∃ t, t = w2.heap.size := ⟨_, rfl⟩
  rw [← ht] at M3 ⊢
  clear ht hw3 M2
  have hmm := @run_makeMap Try.prog
  go_upto_region 3 with fail
  clear hmm
  have M4 := Lib.hid (HP.map_ frTRO M3.out)
  obtain ⟨mb, hmb⟩ : ∃ mb, mb = w3.heap.size := ⟨_, rfl⟩
  obtain ⟨w4, hw4⟩ : ∃ w4, w4 = w3.alloc (.map #[] 0) := ⟨_, rfl⟩
  rw [← hmb, ← hw4] at M4 ⊢
  clear hmb hw4 M3
  go_wp2_with fail
  refine (rVar_any 0 w4).mono ?_; rintro e w5 ⟨rfl, hb⟩
  have M5 := Lib.hid (M4.out.below ((frHB.tim (frPO.tim frV)).tim frTRO) hb)
  clear hb M4
  go_wp2_with fail
  refine (rAtom_any ⟨#[98]⟩ w5).mono ?_; rintro e w6 ⟨rfl, hb⟩
  have M6 := Lib.hid (M5.out.below ((frHB.tim (frPO.tim frV)).tim frTRO) hb)
  clear hb M5
  obtain ⟨x6, hx6⟩ : ∃ x6, x6 = w6.heap.size := ⟨_, rfl⟩
  obtain ⟨w7, hw7⟩ : ∃ w7, w7 = w6.alloc (R2 1 ⟨#[]⟩ 0 2 ⟨#[98]⟩ 0) := ⟨_, rfl⟩
  have HW7 := Lib.hid (And.intro hx6 hw7)
  clear hx6 hw7
  go_wp2_with fail
  change Calls _ _ _ (w6.alloc (R2 1 ⟨#[]⟩ 0 2 ⟨#[98]⟩ 0)) _
  rw [← HW7.out.1, ← HW7.out.2]
  refine (rComp_any _ _ _ _ _).mono ?_; rintro e w8 ⟨rfl, hb⟩
  have hb8 : Below (w6.heap.size + 1) (w6.alloc (R2 1 ⟨#[]⟩ 0 2 ⟨#[98]⟩ 0)) w8 := by rw [HW7.out.2, kp.alloc_size] at hb; exact hb
  have hcall := mPut_fresh frTRO M6.out hb8 (T := t1) (vt := vc x6) (fun X hX => by rw [HW7.out.1]; exact lies_2 w6 hX hb8 (pla.var_lies X 0 w6 (by omega) (by omega)) (atom_lies X ⟨#[98]⟩ w6 (by decide))) (by decide) (by decide) put1
  clear hb hb8 M6
  go_wp2_with fail
  refine hcall.mono ?_; rintro e w9 ⟨rfl, m9⟩
  have M9 := Lib.hid m9
  clear m9 hcall HW7
  go_wp2_with fail
  refine (rAtom_any ⟨#[97]⟩ w9).mono ?_; rintro e w10 ⟨rfl, hb⟩
  have M10 := Lib.hid (M9.out.below ((frHB.tim (frPO.tim frV)).tim frTRO) hb)
  clear hb M9
  go_wp2_with fail
  refine (rVar_any 1 w10).mono ?_; rintro e w11 ⟨rfl, hb⟩
  have M11 := Lib.hid (M10.out.below ((frHB.tim (frPO.tim frV)).tim frTRO) hb)
  clear hb M10
  obtain ⟨x11, hx11⟩ : ∃ x11, x11 = w11.heap.size := ⟨_, rfl⟩
  obtain ⟨w12, hw12⟩ : ∃ w12, w12 = w11.alloc (R2 2 ⟨#[97]⟩ 0 1 ⟨#[]⟩ 1) := ⟨_, rfl⟩
  have HW12 := Lib.hid (And.intro hx11 hw12)
  clear hx11 hw12
  go_wp2_with fail
  change Calls _ _ _ (w11.alloc (R2 2 ⟨#[97]⟩ 0 1 ⟨#[]⟩ 1)) _
  rw [← HW12.out.1, ← HW12.out.2]
  refine (rComp_any _ _ _ _ _).mono ?_; rintro e w13 ⟨rfl, hb⟩
  have hb13 : Below (w11.heap.size + 1) (w11.alloc (R2 2 ⟨#[97]⟩ 0 1 ⟨#[]⟩ 1)) w13 := by rw [HW12.out.2, kp.alloc_size] at hb; exact hb
  have hcall := mPut_fresh frTRO M11.out hb13 (T := t2) (vt := vc x11) (fun X hX => by rw [HW12.out.1]; exact lies_2 w11 hX hb13 (atom_lies X ⟨#[97]⟩ w11 (by decide)) (pla.var_lies X 1 w11 (by omega) (by omega))) (by decide) (by decide) put2
  clear hb hb13 M11
  go_wp2_with fail
  refine hcall.mono ?_; rintro e w14 ⟨rfl, m14⟩
  have M14 := Lib.hid ((Mine.nob (PB.hp m14)).imp fun N t => Tim.right_ t)
  clear m14 hcall HW12
  have hun := mUni Fr.nob M14.out (by decide) 1 25 ⟨by decide, by decide⟩ ⟨by decide, by decide⟩
  obtain ⟨u1, u2, u3⟩ := uni12
  obtain ⟨U9, hU⟩ : ∃ U9, U9 = uniT h2 [] 1 25 := ⟨_, rfl⟩
  rw [← hU] at hun u1 u2 u3
  rw [show (uL U9 h2) = h3 by unfold uL; rw [if_pos u1, u3], u1, u2] at hun
  clear hU u1 u2 u3 M14
  go_wp2_with fail
  refine hun.mono ?_; rintro e w15 ⟨rfl, m15⟩
  have M15 := Lib.hid m15
  clear m15 hun
  obtain ⟨g, hg, hg0⟩ := get3
  have hcall := mGet_new (frTRO.tim Fr.nob) (c := 1) ⟨by decide, by decide⟩ (by decide) (by intro x hx; simp [aw, l0] at hx; rcases hx with rfl | rfl | rfl | rfl | rfl <;> decide) (by decide) M15.out hg hg0
  clear hg hg0 M15
  go_wp2_with fail
  refine hcall.mono ?_; rintro e w16 ⟨k1, nm1, i1, re1, im1, aa1, sl1, sc1, rfl, m⟩
  obtain ⟨w17, hw17⟩ : ∃ w17, w17 = w16.alloc (.cells #[.int .i64 k1, .string nm1, .int .i64 i1, .int .u64 re1, .int .u64 im1, .slice aa1 sl1 sc1] 36) := ⟨_, rfl⟩
  obtain ⟨b1, hb1⟩ : ∃ b1, b1 = w16.heap.size := ⟨_, rfl⟩
  have HW17 := Lib.hid (And.intro hw17 hb1)
  rw [← hw17, ← hb1] at m
  have hSU : SU w b1 k1 nm1 i1 re1 im1 (.slice aa1 sl1 sc1) w17 := by
    refine ⟨m.bel, ?_⟩
    obtain ⟨N, ⟨_, _, _, ⟨_, _, _, h2, _⟩, _⟩, _⟩ := m
    exact ⟨_, h2⟩
  clear hcall m hw17 hb1
  go_upto_region 7 with fail
  rw [← HW17.out.1, ← HW17.out.2]
  clear HW17
  obtain ⟨y0, y1, y2, y3, y4, y5⟩ := hSU.c
  go_region_held3 (fun w' => w'.cell? ⟨b1, 0, none⟩ = some (.int .i64 k1) ∧ w'.cell? ⟨b1, 1, none⟩ = some (.string nm1) ∧ w'.cell? ⟨b1, 2, none⟩ = some (.int .i64 i1) ∧ w'.cell? ⟨b1, 3, none⟩ = some (.int .u64 re1) ∧ w'.cell? ⟨b1, 4, none⟩ = some (.int .u64 im1) ∧ w'.cell? ⟨b1, 5, none⟩ = some (.slice aa1 sl1 sc1))
    (first | exact SU.c (by assumption) | exact SU.c (SU.drew (by assumption)) | exact SU.c (And.left (by assumption)) | exact SU.c (SU.drew (And.left (by assumption))) | go_keep)
    (first
    | (go_at_call 42; refine (rAtom_any _ _).mono ?_; rintro e wA ⟨rfl, hbA⟩; have hSA : SU w b1 k1 nm1 i1 re1 im1 (.slice aa1 sl1 sc1) wA := SU.below (by first | assumption | exact SU.drew (by assumption)) hbA)
    | (go_at_call 26; refine (rComp_any _ _ _ _ _).mono ?_; rintro e wC ⟨rfl, hbC⟩; have hSC := SW.mk (W := w) (b := b1) (by first | assumption | exact SU.drew (by assumption)) rfl (by first | exact hbC | (rw [← kp.alloc_size _ (R2 2 ⟨#[97]⟩ 0 2 ⟨#[98]⟩ 0)]; exact hbC)))
    | (go_at_call 28; refine (rsm.rsame_any t3 t3 _ _ _ (by first | exact SU.l (And.left (by assumption)) | exact SU.l (SU.drew (And.left (by assumption)))) (by first | exact And.right (by assumption) | exact And.right (SW.drew (by assumption)))).mono ?_; rintro e wS ⟨rfl, hbS⟩; have hSS := SU.below (And.left (by first | assumption | exact SW.drew (by assumption))) hbS))
  all_goals
    go_wp2_with fail
    go_ret
    exact ⟨by rfl, SU.bel hSS⟩
end Go.Proofs.Ythableojkjhicaa.un
