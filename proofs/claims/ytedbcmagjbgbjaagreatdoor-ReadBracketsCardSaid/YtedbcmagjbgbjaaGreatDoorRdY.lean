/- The law's awake. -/
import Derived.Test.YtedbcmagjbgbjaaGreatDoorRdW
import Derived.Test.YtedbcmagjbgbjaaGreatDoorRSm
import Derived.Test.YtedbcmagjbgbjaaGreatDoorOpF
namespace Go.Proofs.YtedbcmagjbgbjaaGreatDoor.rd
open Go.ChangeShapes Go.WideShapes Go.ChangeAt Go.RowKit Go.Maps
open Go.Proofs.YtedbcmagjbgbjaaGreatDoor.kp Go.Proofs.YtedbcmagjbgbjaaGreatDoor.num Go.Proofs.YtedbcmagjbgbjaaGreatDoor.dec Go.Proofs.YtedbcmagjbgbjaaGreatDoor.tk
set_option linter.unusedVariables false
set_option linter.unusedSimpArgs false
theorem rInt_any (n : Int) (w : World) :
    Calls Tryz.prog 42 #[.int .i64 n] w fun e w' => e = .returned (.agg #[.int .i64 3, .string ⟨#[]⟩, .int .i64 n, .int .u64 0, .int .u64 0, .slice none 0 0]) ∧ Below w.heap.size w w' := by
  go_enter Tryz.func42, Tryz.ntmps42
  go_wp2_with fail
  exact bodyPost_ret (v := .agg #[.int .i64 3, .string ⟨#[]⟩, .int .i64 n, .int .u64 0, .int .u64 0, .slice none 0 0]) (by simp [results, Tryz.results42, go_sem]) rfl ⟨rfl, kp.ba w _⟩
def iT (n : Int) : Tm := .mk 3 tm.E n 0 0 []
abbrev iV (n : Int) : Value := .agg #[.int .i64 3, .string ⟨#[]⟩, .int .i64 n, .int .u64 0, .int .u64 0, .slice none 0 0]
def tA : Tm := tm.comp (nm [42]) [iT 2, iT 3]
def tB : Tm := tm.comp (nm [43]) [iT 1, tA]
def tC : Tm := tm.comp (nm [105, 115]) [tm.var 0, tB]
def awS : List UInt8 := [88, 32, 105, 115, 32, 49, 43, 50, 42, 51, 46]
theorem aw_read : readT opa.newL awS = .ok tC [[88]] 0 [] := by kernel_rfl
theorem aw_same : tm.sameB tC tC = true := by kernel_rfl
set_option maxRecDepth 100000 in
set_option maxHeartbeats 16000000 in
theorem awake_any (w : World) (hv : VR w.heap.size w) : Calls Tryz.prog 16 #[] w fun e w' => e = .returned (.bool true) ∧ Below w.heap.size w w' := by
  have HV := Lib.hid hv
  clear hv
  go_enter Tryz.func16, Tryz.ntmps16
  go_wp2_with fail
  refine (opk.new_any w).mono ?_; rintro e w1 ⟨tab, rfl, hpl, FT, hT, hb1, hFT⟩
  have H1 := Lib.hid (And.intro hT hb1)
  clear hT hb1 hFT hpl
  go_wp2_with fail
  refine (term_any awS (by decide) w1 (VR.up HV.out H1.out.2) H1.out.1 opa.newL_inv).mono ?_
  rw [aw_read]
  rintro e w2 ⟨v0, v1, v2, v3, v4, xa, xl, xc, na, nc, rfl, hb2, hL, hrow⟩
  have hB2 := H1.out.2.trans (hb2.mono H1.out.2.size)
  obtain ⟨⟨a0, a1, a2, a3, a4, a5⟩, b0, b1, b2, b3, b4, b5⟩ := six (alloc_at w2 TZ)
  obtain ⟨r1, hr1⟩ : ∃ r1, r1 = w2.heap.size := ⟨_, rfl⟩
  have H2 := Lib.hid (And.intro hB2 (And.intro hL hrow))
  clear hB2 hb2 hL hrow
  go_upto_region 2 with fail
  refine nmw (K := fun W => Below w2.heap.size w2 W ∧ W.heap[r1]? = some (TC (.int .i64 v0) (.string v1) (.int .i64 v2) (.int .u64 v3) (.int .u64 v4) (.slice xa xl xc))) ⟨kp.ba w2 _, by rw [hr1]; exact alloc_at w2 _⟩ (fun W hW => ?_)
  rw [← hr1]
  have hlk : ∃ g : Nat, na = some ⟨g, 0, none⟩ ∧ W.cell? ⟨g, 0, none⟩ = some (.string ⟨#[88]⟩) := by
    obtain ⟨hl, hr⟩ := H2.out.2.2
    rcases hr with ⟨-, hz⟩ | ⟨g, cap, cur, hv, hg0, hgc, g1, g2, g3, g4⟩
    · cases hz
    · cases hv
      refine ⟨g, rfl, ?_⟩
      have hb := hW.1.block g (Nw.lt hgc)
      simp only [World.cell?, hb, hgc]
      have : cur[0]? = some (Value.string ⟨#[88]⟩) := by
        have e := congrArg (fun l : List Value => l[0]?) g4
        simp only [List.map_cons, List.map_nil, List.length_singleton, List.getElem?_cons_zero] at e
        rw [List.getElem?_take_of_lt (by decide)] at e
        simpa [sv, nm] using e
      simpa using this
  obtain ⟨g, rfl, hg⟩ := hlk
  have hix : ∀ w, (Instr.indexAt 28 (.slice (some ⟨g, 0, none⟩) 1 nc) (.int .i64 0)).run Tryz.prog w = .ok (.pointer (some ⟨g, 0, none⟩)) w := fun w => by kernel_rfl
  have SC := Lib.hid (fun (w' : World) (hb : Below W.heap.size W w') => show ((w'.cell? ⟨r1, 0, none⟩ = some (.int .i64 v0) ∧ w'.cell? ⟨r1, 1, none⟩ = some (.string v1) ∧ w'.cell? ⟨r1, 2, none⟩ = some (.int .i64 v2) ∧ w'.cell? ⟨r1, 3, none⟩ = some (.int .u64 v3) ∧ w'.cell? ⟨r1, 4, none⟩ = some (.int .u64 v4) ∧ w'.cell? ⟨r1, 5, none⟩ = some (.slice xa xl xc)) ∧ w'.cell? ⟨g, 0, none⟩ = some (.string ⟨#[88]⟩)) from
    ⟨(six ((hb.block r1 (Nw.lt hW.2)).trans hW.2)).1, ((Keep.of_below (F := fun _ => False) hb).cell (World.block_lt_of_cell? _ _ hg) id).trans hg⟩)
  have HW := Lib.hid (And.intro (H2.out.1.trans (hW.1.mono H2.out.1.size)) (lie.Lies.below hW.1 (lie.Lies.off (Y := lie.No) (fun _ _ h => h.elim) H2.out.2.1)))
  clear hr1 hW hg a0 a1 a2 a3 a4 a5 b0 b1 b2 b3 b4 b5
  refine wp_region_noPanic ?_
  refine wp_region_held_drew (S := (fun w' => ((w'.cell? ⟨r1, 0, none⟩ = some (.int .i64 v0) ∧ w'.cell? ⟨r1, 1, none⟩ = some (.string v1) ∧ w'.cell? ⟨r1, 2, none⟩ = some (.int .i64 v2) ∧ w'.cell? ⟨r1, 3, none⟩ = some (.int .u64 v3) ∧ w'.cell? ⟨r1, 4, none⟩ = some (.int .u64 v4) ∧ w'.cell? ⟨r1, 5, none⟩ = some (.slice xa xl xc)) ∧ w'.cell? ⟨g, 0, none⟩ = some (.string ⟨#[88]⟩)))) (by kernel_rfl) ?_ (fun hHeld => ?_)
  · (try dsimp only); exact SC.out _ (kp.bdr _)
  refine wpAnyH_take (i := 0) (v := ?_) rfl (by kernel_rfl) (by kernel_rfl) (by kernel_rfl) (fun _ _ _ h => h) (Or.inl ⟨by rfl, ?_⟩) (by assumption) ?_
  rotate_left
  · (intro w hSw; (try dsimp only at hSw); (obtain ⟨⟨s0, s1, s2, s3, s4, s5⟩, s6⟩ := hSw); go_simp; first | done | with_reducible rfl)
  try simp only [Act.put, List.getElem_toArray, List.getElem_cons_zero, List.getElem_cons_succ, List.setIfInBounds_toArray, List.set_cons_zero, List.set_cons_succ]
  refine wpAnyH_take (i := 1) (v := ?_) rfl (by kernel_rfl) (by kernel_rfl) (by kernel_rfl) (fun _ _ _ h => h) (Or.inl ⟨by rfl, ?_⟩) (by assumption) ?_
  rotate_left
  · (intro w hSw; (try dsimp only at hSw); (obtain ⟨⟨s0, s1, s2, s3, s4, s5⟩, s6⟩ := hSw); go_simp; first | done | with_reducible rfl)
  try simp only [Act.put, List.getElem_toArray, List.getElem_cons_zero, List.getElem_cons_succ, List.setIfInBounds_toArray, List.set_cons_zero, List.set_cons_succ]
  refine wpAnyH_take (i := 2) (v := ?_) rfl (by kernel_rfl) (by kernel_rfl) (by kernel_rfl) (fun _ _ _ h => h) (Or.inl ⟨by rfl, ?_⟩) (by assumption) ?_
  rotate_left
  · (intro w hSw; (try dsimp only at hSw); (obtain ⟨⟨s0, s1, s2, s3, s4, s5⟩, s6⟩ := hSw); go_simp; first | done | with_reducible rfl)
  try simp only [Act.put, List.getElem_toArray, List.getElem_cons_zero, List.getElem_cons_succ, List.setIfInBounds_toArray, List.set_cons_zero, List.set_cons_succ]
  refine wpAnyH_take (i := 3) (v := ?_) rfl (by kernel_rfl) (by kernel_rfl) (by kernel_rfl) (fun _ _ _ h => h) (Or.inl ⟨by rfl, ?_⟩) (by assumption) ?_
  rotate_left
  · (intro w hSw; (try dsimp only at hSw); (obtain ⟨⟨s0, s1, s2, s3, s4, s5⟩, s6⟩ := hSw); go_simp; first | done | with_reducible rfl)
  try simp only [Act.put, List.getElem_toArray, List.getElem_cons_zero, List.getElem_cons_succ, List.setIfInBounds_toArray, List.set_cons_zero, List.set_cons_succ]
  refine wpAnyH_take (i := 4) (v := ?_) rfl (by kernel_rfl) (by kernel_rfl) (by kernel_rfl) (fun _ _ _ h => h) (Or.inl ⟨by rfl, ?_⟩) (by assumption) ?_
  rotate_left
  · (intro w hSw; (try dsimp only at hSw); (obtain ⟨⟨s0, s1, s2, s3, s4, s5⟩, s6⟩ := hSw); go_simp; first | done | with_reducible rfl)
  try simp only [Act.put, List.getElem_toArray, List.getElem_cons_zero, List.getElem_cons_succ, List.setIfInBounds_toArray, List.set_cons_zero, List.set_cons_succ]
  refine wpAnyH_take (i := 5) (v := ?_) rfl (by kernel_rfl) (by kernel_rfl) (by kernel_rfl) (fun _ _ _ h => h) (Or.inl ⟨by rfl, ?_⟩) (by assumption) ?_
  rotate_left
  · (intro w hSw; (try dsimp only at hSw); (obtain ⟨⟨s0, s1, s2, s3, s4, s5⟩, s6⟩ := hSw); go_simp; first | done | with_reducible rfl)
  try simp only [Act.put, List.getElem_toArray, List.getElem_cons_zero, List.getElem_cons_succ, List.setIfInBounds_toArray, List.set_cons_zero, List.set_cons_succ]
  refine wpAnyH_take (i := 6) (v := ?_) rfl (by kernel_rfl) (by kernel_rfl) (by kernel_rfl) (fun _ _ _ h => h) (Or.inl ⟨by rfl, ?_⟩) (by assumption) ?_
  rotate_left
  · (intro w hSw; (try dsimp only at hSw); (obtain ⟨⟨s0, s1, s2, s3, s4, s5⟩, s6⟩ := hSw); go_simp; first | done | with_reducible rfl)
  try simp only [Act.put, List.getElem_toArray, List.getElem_cons_zero, List.getElem_cons_succ, List.setIfInBounds_toArray, List.set_cons_zero, List.set_cons_succ]
  refine wpAnyH_take (i := 7) (v := ?_) rfl (by kernel_rfl) (by kernel_rfl) (by kernel_rfl) (fun _ _ _ h => h) (Or.inl ⟨by rfl, ?_⟩) (by assumption) ?_
  rotate_left
  · (intro w hSw; (try dsimp only at hSw); (obtain ⟨⟨s0, s1, s2, s3, s4, s5⟩, s6⟩ := hSw); go_simp; first | done | with_reducible rfl)
  try simp only [Act.put, List.getElem_toArray, List.getElem_cons_zero, List.getElem_cons_succ, List.setIfInBounds_toArray, List.set_cons_zero, List.set_cons_succ]
  refine wpAnyH_take (i := 8) (v := ?_) rfl (by kernel_rfl) (by kernel_rfl) (by kernel_rfl) (fun _ _ _ h => h) (Or.inl ⟨by rfl, ?_⟩) (by assumption) ?_
  rotate_left
  · (intro w hSw; (try dsimp only at hSw); (obtain ⟨⟨s0, s1, s2, s3, s4, s5⟩, s6⟩ := hSw); go_simp; first | done | with_reducible rfl)
  try simp only [Act.put, List.getElem_toArray, List.getElem_cons_zero, List.getElem_cons_succ, List.setIfInBounds_toArray, List.set_cons_zero, List.set_cons_succ]
  refine wpAnyH_take (i := 9) (v := ?_) rfl (by kernel_rfl) (by kernel_rfl) (by kernel_rfl) (fun _ _ _ h => h) (Or.inl ⟨by rfl, ?_⟩) (by assumption) ?_
  rotate_left
  · (intro w hSw; (try dsimp only at hSw); (obtain ⟨⟨s0, s1, s2, s3, s4, s5⟩, s6⟩ := hSw); go_simp; first | done | with_reducible rfl)
  try simp only [Act.put, List.getElem_toArray, List.getElem_cons_zero, List.getElem_cons_succ, List.setIfInBounds_toArray, List.set_cons_zero, List.set_cons_succ]
  refine wpAnyH_take (i := 10) (v := ?_) rfl (by kernel_rfl) (by kernel_rfl) (by kernel_rfl) (fun _ _ _ h => h) (Or.inl ⟨by rfl, ?_⟩) (by assumption) ?_
  rotate_left
  · (intro w hSw; (try dsimp only at hSw); (obtain ⟨⟨s0, s1, s2, s3, s4, s5⟩, s6⟩ := hSw); go_simp; first | done | with_reducible rfl)
  try simp only [Act.put, List.getElem_toArray, List.getElem_cons_zero, List.getElem_cons_succ, List.setIfInBounds_toArray, List.set_cons_zero, List.set_cons_succ]
  refine wpAnyH_take (i := 11) (v := ?_) rfl (by kernel_rfl) (by kernel_rfl) (by kernel_rfl) (fun _ _ _ h => h) (Or.inl ⟨by rfl, ?_⟩) (by assumption) ?_
  rotate_left
  · (intro w hSw; (try dsimp only at hSw); (obtain ⟨⟨s0, s1, s2, s3, s4, s5⟩, s6⟩ := hSw); go_simp; first | done | with_reducible rfl)
  try simp only [Act.put, List.getElem_toArray, List.getElem_cons_zero, List.getElem_cons_succ, List.setIfInBounds_toArray, List.set_cons_zero, List.set_cons_succ]
  refine wpAnyH_take (i := 12) (v := ?_) rfl (by kernel_rfl) (by kernel_rfl) (by kernel_rfl) (fun _ _ _ h => h) (Or.inl ⟨by rfl, ?_⟩) (by assumption) ?_
  rotate_left
  · (intro w hSw; (try dsimp only at hSw); (obtain ⟨⟨s0, s1, s2, s3, s4, s5⟩, s6⟩ := hSw); go_simp; first | done | with_reducible rfl)
  try simp only [Act.put, List.getElem_toArray, List.getElem_cons_zero, List.getElem_cons_succ, List.setIfInBounds_toArray, List.set_cons_zero, List.set_cons_succ]
  refine wpAnyH_take (i := 13) (v := ?_) rfl (by kernel_rfl) (by kernel_rfl) (by kernel_rfl) (fun _ _ _ h => h) (Or.inl ⟨by rfl, ?_⟩) (by assumption) ?_
  rotate_left
  · (intro w hSw; (try dsimp only at hSw); (obtain ⟨⟨s0, s1, s2, s3, s4, s5⟩, s6⟩ := hSw); go_simp; first | done | with_reducible rfl)
  try simp only [Act.put, List.getElem_toArray, List.getElem_cons_zero, List.getElem_cons_succ, List.setIfInBounds_toArray, List.set_cons_zero, List.set_cons_succ]
  refine wpAnyH_take (i := 14) (v := ?_) rfl (by kernel_rfl) (by kernel_rfl) (by kernel_rfl) (fun _ _ _ h => h) (Or.inl ⟨by rfl, ?_⟩) (by assumption) ?_
  rotate_left
  · (intro w hSw; (try dsimp only at hSw); (obtain ⟨⟨s0, s1, s2, s3, s4, s5⟩, s6⟩ := hSw); go_simp; first | done | with_reducible rfl)
  try simp only [Act.put, List.getElem_toArray, List.getElem_cons_zero, List.getElem_cons_succ, List.setIfInBounds_toArray, List.set_cons_zero, List.set_cons_succ]
  obtain ⟨x0, hx0⟩ : ∃ x, x = W.drew := ⟨_, rfl⟩
  have HB_x0 := Lib.hid (show Below W.heap.size W x0 by rw [hx0]; exact kp.bdr _)
  rw [← hx0]
  clear hx0
  refine wpAnyH_ready (rs := [15]) (by kernel_rfl) (by simp) ?_
  refine AllReadyH.cons rfl (fun K hK => ?_) AllReadyH.nil
  go_simp
  refine (awk.rVar_any 0 x0).mono ?_
  rintro e x1 ⟨rfl, hb⟩
  have hB_x1 : Below W.heap.size W x1 := HB_x0.out.trans (hb.mono HB_x0.out.size)
  have HB_x1 := Lib.hid hB_x1
  clear hb hB_x1
  go_wp2_with fail
  refine hK.out _ _ ?_ (fun hHeld => ?_)
  · (try dsimp only); exact SC.out _ HB_x1.out
  clear hK K
  try simp only [Act.put, List.getElem_toArray, List.getElem_cons_zero, List.getElem_cons_succ, List.setIfInBounds_toArray, List.set_cons_zero, List.set_cons_succ]
  refine wpAnyH_ready (rs := [16]) (by kernel_rfl) (by simp) ?_
  refine AllReadyH.cons rfl (fun K hK => ?_) AllReadyH.nil
  go_simp
  refine (rInt_any 1 x1).mono ?_
  rintro e x2 ⟨rfl, hb⟩
  have hB_x2 : Below W.heap.size W x2 := HB_x1.out.trans (hb.mono HB_x1.out.size)
  have HB_x2 := Lib.hid hB_x2
  clear hb hB_x2
  go_wp2_with fail
  refine hK.out _ _ ?_ (fun hHeld => ?_)
  · (try dsimp only); exact SC.out _ HB_x2.out
  clear hK K
  try simp only [Act.put, List.getElem_toArray, List.getElem_cons_zero, List.getElem_cons_succ, List.setIfInBounds_toArray, List.set_cons_zero, List.set_cons_succ]
  refine wpAnyH_ready (rs := [17]) (by kernel_rfl) (by simp) ?_
  refine AllReadyH.cons rfl (fun K hK => ?_) AllReadyH.nil
  go_simp
  refine (rInt_any 2 x2).mono ?_
  rintro e x3 ⟨rfl, hb⟩
  have hB_x3 : Below W.heap.size W x3 := HB_x2.out.trans (hb.mono HB_x2.out.size)
  have HB_x3 := Lib.hid hB_x3
  clear hb hB_x3
  go_wp2_with fail
  refine hK.out _ _ ?_ (fun hHeld => ?_)
  · (try dsimp only); exact SC.out _ HB_x3.out
  clear hK K
  try simp only [Act.put, List.getElem_toArray, List.getElem_cons_zero, List.getElem_cons_succ, List.setIfInBounds_toArray, List.set_cons_zero, List.set_cons_succ]
  refine wpAnyH_ready (rs := [18]) (by kernel_rfl) (by simp) ?_
  refine AllReadyH.cons rfl (fun K hK => ?_) AllReadyH.nil
  go_simp
  refine (rInt_any 3 x3).mono ?_
  rintro e x4 ⟨rfl, hb⟩
  have hB_x4 : Below W.heap.size W x4 := HB_x3.out.trans (hb.mono HB_x3.out.size)
  have HB_x4 := Lib.hid hB_x4
  clear hb hB_x4
  go_wp2_with fail
  refine hK.out _ _ ?_ (fun hHeld => ?_)
  · (try dsimp only); exact SC.out _ HB_x4.out
  clear hK K
  try simp only [Act.put, List.getElem_toArray, List.getElem_cons_zero, List.getElem_cons_succ, List.setIfInBounds_toArray, List.set_cons_zero, List.set_cons_succ]
  refine wpAnyH_ready (rs := [19]) (by kernel_rfl) (by simp) ?_
  refine AllReadyH.cons rfl (fun K hK => ?_) AllReadyH.nil
  go_simp
  obtain ⟨x5, hx5⟩ : ∃ x, x = x4.alloc (.cells #[.int .i64 3, .string ⟨#[]⟩, .int .i64 2, .int .u64 0, .int .u64 0, .slice none 0 0, .int .i64 3, .string ⟨#[]⟩, .int .i64 3, .int .u64 0, .int .u64 0, .slice none 0 0] 27) := ⟨_, rfl⟩
  have hba := kp.ba x4 (.cells #[.int .i64 3, .string ⟨#[]⟩, .int .i64 2, .int .u64 0, .int .u64 0, .slice none 0 0, .int .i64 3, .string ⟨#[]⟩, .int .i64 3, .int .u64 0, .int .u64 0, .slice none 0 0] 27)
  rw [← hx5] at hba
  have hrw := row2 (F := fun _ => False) (B := 0) (w := x4) (t := iT 2) (s := iT 3) (leaf_any (n := []) ⟨by omega, by omega, by decide, by omega, by omega, by omega, by omega, by omega, by omega, by omega, by omega⟩ _ _) (leaf_any (n := []) ⟨by omega, by omega, by decide, by omega, by omega, by omega, by omega, by omega, by omega, by omega, by omega⟩ _ _) (fun _ h => h.elim) (Nat.zero_le _)
  rw [← hx5] at hrw
  have HB_x5 := Lib.hid (show Below W.heap.size W x5 from HB_x4.out.trans (hba.mono HB_x4.out.size))
  have HR_x5 := Lib.hid hrw
  obtain ⟨bx5, hbx5⟩ : ∃ b, b = x4.heap.size := ⟨_, rfl⟩
  rw [← hbx5] at HR_x5
  rw [← hx5, ← hbx5]
  refine hK.out _ _ ?_ (fun hHeld => ?_)
  · (try dsimp only); exact SC.out _ HB_x5.out
  clear hba hrw hx5 hbx5
  clear hK K
  try simp only [Act.put, List.getElem_toArray, List.getElem_cons_zero, List.getElem_cons_succ, List.setIfInBounds_toArray, List.set_cons_zero, List.set_cons_succ]
  refine wpAnyH_ready (rs := [20]) (by kernel_rfl) (by simp) ?_
  refine AllReadyH.cons rfl (fun K hK => ?_) AllReadyH.nil
  go_simp
  refine (awk.rComp_any ⟨#[42]⟩ (some ⟨bx5, 0, none⟩) 2 2 x5).mono ?_
  rintro e x6 ⟨rfl, hb⟩
  have hB_x6 : Below W.heap.size W x6 := HB_x5.out.trans (hb.mono HB_x5.out.size)
  have HB_x6 := Lib.hid hB_x6
  have hlt : Lv (fun _ => False) 0 x6 tA (.agg #[.int .i64 5, .string ⟨#[42]⟩, .int .i64 0, .int .u64 0, .int .u64 0, .slice (some ⟨bx5, 0, none⟩) 2 2]) := (Nx.lw (Nx.below hb) HR_x5.out).comp (n := [42]) (by decide)
  have HT6 := Lib.hid hlt
  clear hlt
  clear hb hB_x6
  go_wp2_with fail
  refine hK.out _ _ ?_ (fun hHeld => ?_)
  · (try dsimp only); exact SC.out _ HB_x6.out
  clear hK K
  try simp only [Act.put, List.getElem_toArray, List.getElem_cons_zero, List.getElem_cons_succ, List.setIfInBounds_toArray, List.set_cons_zero, List.set_cons_succ]
  refine wpAnyH_ready (rs := [21]) (by kernel_rfl) (by simp) ?_
  refine AllReadyH.cons rfl (fun K hK => ?_) AllReadyH.nil
  go_simp
  obtain ⟨x7, hx7⟩ : ∃ x, x = x6.alloc (.cells #[.int .i64 3, .string ⟨#[]⟩, .int .i64 1, .int .u64 0, .int .u64 0, .slice none 0 0, .int .i64 5, .string ⟨#[42]⟩, .int .i64 0, .int .u64 0, .int .u64 0, .slice (some ⟨bx5, 0, none⟩) 2 2] 27) := ⟨_, rfl⟩
  have hba := kp.ba x6 (.cells #[.int .i64 3, .string ⟨#[]⟩, .int .i64 1, .int .u64 0, .int .u64 0, .slice none 0 0, .int .i64 5, .string ⟨#[42]⟩, .int .i64 0, .int .u64 0, .int .u64 0, .slice (some ⟨bx5, 0, none⟩) 2 2] 27)
  rw [← hx7] at hba
  have hrw := row2 (F := fun _ => False) (B := 0) (w := x6) (t := iT 1) (s := tA) (leaf_any (n := []) ⟨by omega, by omega, by decide, by omega, by omega, by omega, by omega, by omega, by omega, by omega, by omega⟩ _ _) (HT6.out) (fun _ h => h.elim) (Nat.zero_le _)
  rw [← hx7] at hrw
  have HB_x7 := Lib.hid (show Below W.heap.size W x7 from HB_x6.out.trans (hba.mono HB_x6.out.size))
  have HR_x7 := Lib.hid hrw
  obtain ⟨bx7, hbx7⟩ : ∃ b, b = x6.heap.size := ⟨_, rfl⟩
  rw [← hbx7] at HR_x7
  rw [← hx7, ← hbx7]
  refine hK.out _ _ ?_ (fun hHeld => ?_)
  · (try dsimp only); exact SC.out _ HB_x7.out
  clear hba hrw hx7 hbx7
  clear hK K
  try simp only [Act.put, List.getElem_toArray, List.getElem_cons_zero, List.getElem_cons_succ, List.setIfInBounds_toArray, List.set_cons_zero, List.set_cons_succ]
  refine wpAnyH_ready (rs := [22]) (by kernel_rfl) (by simp) ?_
  refine AllReadyH.cons rfl (fun K hK => ?_) AllReadyH.nil
  go_simp
  refine (awk.rComp_any ⟨#[43]⟩ (some ⟨bx7, 0, none⟩) 2 2 x7).mono ?_
  rintro e x8 ⟨rfl, hb⟩
  have hB_x8 : Below W.heap.size W x8 := HB_x7.out.trans (hb.mono HB_x7.out.size)
  have HB_x8 := Lib.hid hB_x8
  have hlt : Lv (fun _ => False) 0 x8 tB (.agg #[.int .i64 5, .string ⟨#[43]⟩, .int .i64 0, .int .u64 0, .int .u64 0, .slice (some ⟨bx7, 0, none⟩) 2 2]) := (Nx.lw (Nx.below hb) HR_x7.out).comp (n := [43]) (by decide)
  have HT8 := Lib.hid hlt
  clear hlt
  clear hb hB_x8
  go_wp2_with fail
  refine hK.out _ _ ?_ (fun hHeld => ?_)
  · (try dsimp only); exact SC.out _ HB_x8.out
  clear hK K
  try simp only [Act.put, List.getElem_toArray, List.getElem_cons_zero, List.getElem_cons_succ, List.setIfInBounds_toArray, List.set_cons_zero, List.set_cons_succ]
  refine wpAnyH_ready (rs := [23]) (by kernel_rfl) (by simp) ?_
  refine AllReadyH.cons rfl (fun K hK => ?_) AllReadyH.nil
  go_simp
  obtain ⟨x9, hx9⟩ : ∃ x, x = x8.alloc (.cells #[.int .i64 1, .string ⟨#[]⟩, .int .i64 0, .int .u64 0, .int .u64 0, .slice none 0 0, .int .i64 5, .string ⟨#[43]⟩, .int .i64 0, .int .u64 0, .int .u64 0, .slice (some ⟨bx7, 0, none⟩) 2 2] 27) := ⟨_, rfl⟩
  have hba := kp.ba x8 (.cells #[.int .i64 1, .string ⟨#[]⟩, .int .i64 0, .int .u64 0, .int .u64 0, .slice none 0 0, .int .i64 5, .string ⟨#[43]⟩, .int .i64 0, .int .u64 0, .int .u64 0, .slice (some ⟨bx7, 0, none⟩) 2 2] 27)
  rw [← hx9] at hba
  have hrw := row2 (F := fun _ => False) (B := 0) (w := x8) (t := tm.var 0) (s := tB) (leaf_any (n := []) ⟨by omega, by omega, by decide, by omega, by omega, by omega, by omega, by omega, by omega, by omega, by omega⟩ _ _) (HT8.out) (fun _ h => h.elim) (Nat.zero_le _)
  rw [← hx9] at hrw
  have HB_x9 := Lib.hid (show Below W.heap.size W x9 from HB_x8.out.trans (hba.mono HB_x8.out.size))
  have HR_x9 := Lib.hid hrw
  obtain ⟨bx9, hbx9⟩ : ∃ b, b = x8.heap.size := ⟨_, rfl⟩
  rw [← hbx9] at HR_x9
  rw [← hx9, ← hbx9]
  refine hK.out _ _ ?_ (fun hHeld => ?_)
  · (try dsimp only); exact SC.out _ HB_x9.out
  clear hba hrw hx9 hbx9
  clear hK K
  try simp only [Act.put, List.getElem_toArray, List.getElem_cons_zero, List.getElem_cons_succ, List.setIfInBounds_toArray, List.set_cons_zero, List.set_cons_succ]
  refine wpAnyH_ready (rs := [24]) (by kernel_rfl) (by simp) ?_
  refine AllReadyH.cons rfl (fun K hK => ?_) AllReadyH.nil
  go_simp
  refine (awk.rComp_any ⟨#[105, 115]⟩ (some ⟨bx9, 0, none⟩) 2 2 x9).mono ?_
  rintro e x10 ⟨rfl, hb⟩
  have hB_x10 : Below W.heap.size W x10 := HB_x9.out.trans (hb.mono HB_x9.out.size)
  have HB_x10 := Lib.hid hB_x10
  have hlt : Lv (fun _ => False) 0 x10 tC (.agg #[.int .i64 5, .string ⟨#[105, 115]⟩, .int .i64 0, .int .u64 0, .int .u64 0, .slice (some ⟨bx9, 0, none⟩) 2 2]) := (Nx.lw (Nx.below hb) HR_x9.out).comp (n := [105, 115]) (by decide)
  have HT10 := Lib.hid (lie.Lies.off (Y := lie.No) (fun _ _ h => h.elim) hlt)
  clear hlt
  clear hb hB_x10
  go_wp2_with fail
  refine hK.out _ _ ?_ (fun hHeld => ?_)
  · (try dsimp only); exact SC.out _ HB_x10.out
  clear hK K
  try simp only [Act.put, List.getElem_toArray, List.getElem_cons_zero, List.getElem_cons_succ, List.setIfInBounds_toArray, List.set_cons_zero, List.set_cons_succ]
  refine wpAnyH_ready (rs := [25]) (by kernel_rfl) (by simp) ?_
  refine AllReadyH.cons rfl (fun K hK => ?_) AllReadyH.nil
  go_simp
  refine (rsm.rsame_any tC tC _ _ x10 (lie.Lies.below HB_x10.out HW.out.2) HT10.out).mono ?_
  rintro e x11 ⟨rfl, hb⟩
  have hB_x11 : Below W.heap.size W x11 := HB_x10.out.trans (hb.mono HB_x10.out.size)
  have HB_x11 := Lib.hid hB_x11
  clear hb hB_x11
  go_wp2_with fail
  refine hK.out _ _ ?_ (fun hHeld => ?_)
  · (try dsimp only); exact SC.out _ HB_x11.out
  clear hK K
  try simp only [Act.put, List.getElem_toArray, List.getElem_cons_zero, List.getElem_cons_succ, List.setIfInBounds_toArray, List.set_cons_zero, List.set_cons_succ]
  refine wpAnyH_take (i := 26) (v := ?_) rfl (by kernel_rfl) (by kernel_rfl) (by kernel_rfl) (fun _ _ _ h => h) (Or.inl ⟨by rfl, ?_⟩) (by assumption) ?_
  rotate_left
  · (intro w hSw; (try dsimp only at hSw); (obtain ⟨⟨s0, s1, s2, s3, s4, s5⟩, s6⟩ := hSw); go_simp; first | done | with_reducible rfl)
  try simp only [Act.put, List.getElem_toArray, List.getElem_cons_zero, List.getElem_cons_succ, List.setIfInBounds_toArray, List.set_cons_zero, List.set_cons_succ]
  refine wpAnyH_take (i := 27) (v := ?_) rfl (by kernel_rfl) (by kernel_rfl) (by kernel_rfl) (fun _ _ _ h => h) (Or.inl ⟨by rfl, ?_⟩) (by assumption) ?_
  rotate_left
  · (intro w hSw; (try dsimp only at hSw); (obtain ⟨⟨s0, s1, s2, s3, s4, s5⟩, s6⟩ := hSw); go_simp; first | done | with_reducible rfl)
  try simp only [Act.put, List.getElem_toArray, List.getElem_cons_zero, List.getElem_cons_succ, List.setIfInBounds_toArray, List.set_cons_zero, List.set_cons_succ]
  refine wpAnyH_done (by kernel_rfl) ?_ _
  refine NoPanic.normal ?_
  go_wp2_with fail
  go_ret; exact ⟨by rw [aw_same]; rfl, HW.out.1.trans (HB_x11.out.mono HW.out.1.size)⟩
end Go.Proofs.YtedbcmagjbgbjaaGreatDoor.rd
