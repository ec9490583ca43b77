/- The project's reader: isOnlyBetween. The project's reader: atomBegins. -/
import Derived.Test.YtedbcmagjbgbjaaGreatDoorRdO
import Derived.BigQuiet
import Derived.Deep.CutBlock
namespace Go.Proofs.YtedbcmagjbgbjaaGreatDoor.rd
open Go.ChangeShapes Go.WideShapes Go.ChangeAt Go.RowKit Go.Maps
open Go.Proofs.YtedbcmagjbgbjaaGreatDoor.kp Go.Proofs.YtedbcmagjbgbjaaGreatDoor.num Go.Proofs.YtedbcmagjbgbjaaGreatDoor.dec Go.Proofs.YtedbcmagjbgbjaaGreatDoor.tk
set_option linter.unusedVariables false
set_option linter.unusedSimpArgs false
section
variable {w w' w0 : World} {p r0 : Nat} {tv tb mp nv : Value} {N k : Nat} {all : List Tk} {B : Nat}
theorem Cl.allocs {w0 w : World} {S : List (Nat × Nat × Value)} (h : Cl w0 S w) (o : Obj) : Cl w0 S (w.alloc o) := h.below (kp.ba w o)
theorem Cl.turn {w0 w U : World} {S : List (Nat × Nat × Value)} {o : Obj} {q : Nat} (h : Cl w0 S w) (hq : w0.heap.size ≤ q) (hS : ∀ x ∈ S, x.1 ≠ q) (n : Nw q o w U) : Cl w0 S U :=
  ⟨fun x hx => (n.2.cell (World.block_lt_of_cell? _ _ (h.at_ x hx)) (hS x hx)).trans (h.at_ x hx), h.bel.trans (n.2.to_below (fun i hi => by omega) h.bel.size)⟩
set_option maxRecDepth 100000 in
set_option maxHeartbeats 8000000 in
theorem only_any {tp : Nat} {F : Nat → Prop} {tl : List opa.D} (h : w.heap[p]? = some (RO tv N k (.pointer (some ⟨tp, 0, none⟩)) mp nv)) (ht : Toks B w tv all) (hk : k ≤ 70000) (hl : all.length ≤ 70000)
    (hT : opb.Tb w tp F tl) (hs : opa.Srt tl) (htl : tl.length ≤ 1000) :
    Calls Tryz.prog 164 #[.pointer (some ⟨p, 0, none⟩)] w fun e w' => e = .returned (.bool (alone true (OTof tl) N (all.drop k))) ∧ Below w.heap.size w w' := by
  have hto := Lib.hid (token_any h ht hk hl 1 (by omega))
  have hal : alone true (OTof tl) N (all.drop k) = (decide ((see N (all.drop k) 1).k = 1) && (opa.is tl ⟨(see N (all.drop k) 1).t, 1, 0⟩ && !opa.is tl ⟨(see N (all.drop k) 1).t, 4, 0⟩)) := rfl
  rw [hal]
  clear hal
  obtain ⟨x, hx⟩ : ∃ x, x = see N (all.drop k) 1 := ⟨_, rfl⟩
  rw [← hx] at hto ⊢
  have H := Lib.hid (And.intro h (And.intro hT (And.intro hs htl)))
  obtain ⟨b5, hb5⟩ : ∃ b, b = opa.is tl ⟨x.t, 1, 0⟩ := ⟨_, rfl⟩
  obtain ⟨b7, hb7⟩ : ∃ b, b = opa.is tl ⟨x.t, 4, 0⟩ := ⟨_, rfl⟩
  obtain ⟨o1, ho1⟩ : ∃ o, o = ope.gd tl ⟨x.t, 1, 0⟩ := ⟨_, rfl⟩
  obtain ⟨o2, ho2⟩ : ∃ o, o = ope.gd tl ⟨x.t, 4, 0⟩ := ⟨_, rfl⟩
  have HI := Lib.hid (And.intro ho1.symm hb5.symm)
  have HJ := Lib.hid (And.intro ho2.symm hb7.symm)
  rw [← hb5, ← hb7]
  clear hb5 hb7 ho1 ho2
  obtain ⟨b1, hb1⟩ : ∃ b1, b1 = (x.k == 1) := ⟨_, rfl⟩
  have hb2 : (x.k != 1) = !b1 := by rw [hb1]; rfl
  have HB := Lib.hid (show decide (x.k = 1) = b1 by rw [hb1]; rfl)
  rw [HB.out]
  clear h ht hx hT hs htl hb1
  cases b1 with
  | false =>
    go_enter Tryz.func164, Tryz.ntmps164
    go_wp2_with fail
    refine hto.out.mono ?_; rintro e w2 ⟨rfl, b2⟩
    unfold TV tkc
    obtain ⟨⟨z0, z1, z2, z3, z4, z5⟩, y0, y1, y2, y3, y4, y5⟩ := six (alloc_at w2 (TO 0 [] 0 0 0 0))
    have HG := Lib.hid (GT.of x b2)
    obtain ⟨g, hg⟩ : ∃ g, g = w2.heap.size := ⟨_, rfl⟩
    go_upto_region 2 with fail
    rw [← hg] at HG ⊢
    refine nmw (K := GT w g x) HG.out (fun W hW => ?_)
    have HW := Lib.hid hW
    obtain ⟨⟨t0, t1, -⟩, -⟩ := six hW.2.1
    clear hg HG z0 z1 z2 z3 z4 z5 y0 y1 y2 y3 y4 y5 hW b2
    go_wp2_with fail
    go_ret; exact ⟨rfl, HW.out.1⟩
  | true =>
    go_enter Tryz.func164, Tryz.ntmps164
    go_wp2_with fail
    refine hto.out.mono ?_; rintro e w2 ⟨rfl, b2⟩
    unfold TV tkc
    obtain ⟨⟨z0, z1, z2, z3, z4, z5⟩, y0, y1, y2, y3, y4, y5⟩ := six (alloc_at w2 (TO 0 [] 0 0 0 0))
    have HG := Lib.hid (GT.of x b2)
    obtain ⟨g, hg⟩ : ∃ g, g = w2.heap.size := ⟨_, rfl⟩
    go_upto_region 2 with fail
    rw [← hg] at HG ⊢
    refine nmw (K := GT w g x) HG.out (fun W hW => ?_)
    have HW := Lib.hid hW
    obtain ⟨⟨t0, t1, -⟩, -⟩ := six hW.2.1
    have hP : W.heap[p]? = some (RO tv N k (.pointer (some ⟨tp, 0, none⟩)) mp nv) := (hW.1.block p (Nw.lt H.out.1)).trans H.out.1
    obtain ⟨⟨-, -, -, c3, -⟩, -⟩ := six hP
    clear hg HG z0 z1 z2 z3 z4 z5 y0 y1 y2 y3 y4 y5 hW b2 hP
    have hcl : Cl W [(p, 3, .pointer (some ⟨tp, 0, none⟩)), (g, 1, .string ⟨x.t.toArray⟩)] W := ⟨by simp [c3, t1], kp.br _⟩
    have IF := Lib.hid (fun (w9 : World) (hc : Cl W [(p, 3, .pointer (some ⟨tp, 0, none⟩)), (g, 1, .string ⟨x.t.toArray⟩)] w9) => infix_c W w9 x.t (H.out.2.1.below HW.out.1) H.out.2.2.1 H.out.2.2.2 hc.bel)
    rw [HI.out.1, HI.out.2] at IF
    go_upto_region 4 with fail
    refine wp_region_noPanic ?_
    refine wp_region_held_drew (S := (fun w' => w'.cell? ⟨p, 3, none⟩ = some (.pointer (some ⟨tp, 0, none⟩)) ∧ w'.cell? ⟨g, 1, none⟩ = some (.string ⟨x.t.toArray⟩))) (by kernel_rfl) ?_ (fun hHeld => ?_)
    · (try dsimp only); first | exact Cl.c2 (by assumption) | exact Cl.c2 (Cl.drew (by assumption)) | go_keep
    refine wpAnyH_take (i := 0) (v := ?_) rfl (by kernel_rfl) (by kernel_rfl) (by kernel_rfl) (fun _ _ _ h => h) (Or.inl ⟨by rfl, ?_⟩) (by assumption) ?_
    rotate_left
    · (intro w hSw; (try dsimp only at hSw); go_simp; first | done | with_reducible rfl)
    try simp only [Act.put, List.getElem_toArray, List.getElem_cons_zero, List.getElem_cons_succ, List.setIfInBounds_toArray, List.set_cons_zero, List.set_cons_succ]
    refine wpAnyH_take (i := 1) (v := ?_) rfl (by kernel_rfl) (by kernel_rfl) (by kernel_rfl) (fun _ _ _ h => h) (Or.inl ⟨by rfl, ?_⟩) (by assumption) ?_
    rotate_left
    · (intro w hSw; (try dsimp only at hSw); go_simp; first | done | with_reducible rfl)
    try simp only [Act.put, List.getElem_toArray, List.getElem_cons_zero, List.getElem_cons_succ, List.setIfInBounds_toArray, List.set_cons_zero, List.set_cons_succ]
    refine wpAnyH_take (i := 2) (v := ?_) rfl (by kernel_rfl) (by kernel_rfl) (by kernel_rfl) (fun _ _ _ h => h) (Or.inl ⟨by rfl, ?_⟩) (by assumption) ?_
    rotate_left
    · (intro w hSw; (try dsimp only at hSw); go_simp; first | done | with_reducible rfl)
    try simp only [Act.put, List.getElem_toArray, List.getElem_cons_zero, List.getElem_cons_succ, List.setIfInBounds_toArray, List.set_cons_zero, List.set_cons_succ]
    refine wpAnyH_take (i := 3) (v := ?_) rfl (by kernel_rfl) (by kernel_rfl) (by kernel_rfl) (fun _ _ _ h => h) (Or.inl ⟨by rfl, ?_⟩) (by assumption) ?_
    rotate_left
    · (intro w hSw; (try dsimp only at hSw); go_simp; first | done | with_reducible rfl)
    try simp only [Act.put, List.getElem_toArray, List.getElem_cons_zero, List.getElem_cons_succ, List.setIfInBounds_toArray, List.set_cons_zero, List.set_cons_succ]
    refine wpAnyH_take (i := 4) (v := ?_) rfl (by kernel_rfl) (by kernel_rfl) (by kernel_rfl) (fun _ _ _ h => h) (Or.inl ⟨by rfl, ?_⟩) (by assumption) ?_
    rotate_left
    · (intro w hSw; (try dsimp only at hSw); go_simp; first | done | with_reducible rfl)
    try simp only [Act.put, List.getElem_toArray, List.getElem_cons_zero, List.getElem_cons_succ, List.setIfInBounds_toArray, List.set_cons_zero, List.set_cons_succ]
    refine wpAnyH_take (i := 5) (v := ?_) rfl (by kernel_rfl) (by kernel_rfl) (by kernel_rfl) (fun _ _ _ h => h) (Or.inl ⟨by rfl, ?_⟩) (by assumption) ?_
    rotate_left
    · (intro w hSw; (try dsimp only at hSw); go_simp; first | done | with_reducible rfl)
    try simp only [Act.put, List.getElem_toArray, List.getElem_cons_zero, List.getElem_cons_succ, List.setIfInBounds_toArray, List.set_cons_zero, List.set_cons_succ]
    refine wpAnyH_ready (rs := [6, 10]) (by kernel_rfl) (by simp) ?_
    refine AllReadyH.cons rfl (fun K hK => ?_) (AllReadyH.cons rfl (fun K hK => ?_) AllReadyH.nil)
    go_simp
    refine (IF.out _ (by first | assumption | exact Cl.drew (by assumption))).mono ?_
    rintro e qN ⟨rfl, hbN⟩
    have hCN := Cl.below (by first | assumption | exact Cl.drew (by assumption)) hbN
    go_wp2_with fail
    refine hK.out _ _ ?_ (fun hHeld => ?_)
    · (try dsimp only); first | exact Cl.c2 (by assumption) | exact Cl.c2 (Cl.drew (by assumption)) | go_keep
    clear hK K
    try simp only [Act.put, List.getElem_toArray, List.getElem_cons_zero, List.getElem_cons_succ, List.setIfInBounds_toArray, List.set_cons_zero, List.set_cons_succ]
    refine wpAnyH_take (i := 7) (v := ?_) rfl (by kernel_rfl) (by kernel_rfl) (by kernel_rfl) (fun _ _ _ h => h) (Or.inl ⟨by rfl, ?_⟩) (by assumption) ?_
    rotate_left
    · (intro w hSw; (try dsimp only at hSw); go_simp; first | done | with_reducible rfl)
    try simp only [Act.put, List.getElem_toArray, List.getElem_cons_zero, List.getElem_cons_succ, List.setIfInBounds_toArray, List.set_cons_zero, List.set_cons_succ]
    refine wpAnyH_take (i := 8) (v := ?_) rfl (by kernel_rfl) (by kernel_rfl) (by kernel_rfl) (fun _ _ _ h => h) (Or.inl ⟨by rfl, ?_⟩) (by assumption) ?_
    rotate_left
    · (intro w hSw; (try dsimp only at hSw); go_simp; first | done | with_reducible rfl)
    try simp only [Act.put, List.getElem_toArray, List.getElem_cons_zero, List.getElem_cons_succ, List.setIfInBounds_toArray, List.set_cons_zero, List.set_cons_succ]
    refine wpAnyH_take (i := 9) (v := ?_) rfl (by kernel_rfl) (by kernel_rfl) (by kernel_rfl) (fun _ _ _ h => h) (Or.inl ⟨by rfl, ?_⟩) (by assumption) ?_
    rotate_left
    · (intro w hSw; (try dsimp only at hSw); go_simp; first | done | with_reducible rfl)
    try simp only [Act.put, List.getElem_toArray, List.getElem_cons_zero, List.getElem_cons_succ, List.setIfInBounds_toArray, List.set_cons_zero, List.set_cons_succ]
    have hZ := alloc_at qN OZ
    have hCA := Cl.allocs hCN OZ
    refine wpAnyH_ready (rs := [10]) (by kernel_rfl) (by simp) ?_
    refine AllReadyH.cons rfl (fun K hK => ?_) AllReadyH.nil
    go_simp
    go_wp2_with fail
    refine hK.out _ _ ?_ (fun hHeld => ?_)
    · (try dsimp only); exact Cl.c2 hCA
    clear hK K
    try simp only [Act.put, List.getElem_toArray, List.getElem_cons_zero, List.getElem_cons_succ, List.setIfInBounds_toArray, List.set_cons_zero, List.set_cons_succ]
    obtain ⟨⟨z0, z1, z2⟩, y0, y1, y2⟩ := three hZ
    have hlz := Nw.lt hZ
    have hbU := kp.ba qN (.cells #[.string ⟨o1.n.toArray⟩, .int .i64 o1.k, .int .i64 o1.p] 45)
    have haU := alloc_at qN (.cells #[.string ⟨o1.n.toArray⟩, .int .i64 o1.k, .int .i64 o1.p] 45)
    obtain ⟨qU, qE⟩ : ∃ U, U = qN.alloc (.cells #[.string ⟨o1.n.toArray⟩, .int .i64 o1.k, .int .i64 o1.p] 45) := ⟨_, rfl⟩
    rw [← qE] at hbU haU
    have hcU := Cl.below hCN hbU
    obtain ⟨qh, qhq⟩ : ∃ q, q = qN.heap.size := ⟨_, rfl⟩
    have Hq := Lib.hid (And.intro haU (And.intro hcU (Nat.le_trans hcl.bel.size hCN.bel.size)))
    unfold opa.D.v
    refine wpAnyH_ready (rs := [11]) (by kernel_rfl) (by simp) ?_
    refine AllReadyH.cons rfl (fun K hK => ?_) AllReadyH.nil
    go_simp
    go_wp2_with fail
    rw [← qE]
    refine hK.out _ _ ?_ (fun hHeld => ?_)
    · (try dsimp only); exact Cl.c2 Hq.out.2.1
    clear hK K
    try simp only [Act.put, List.getElem_toArray, List.getElem_cons_zero, List.getElem_cons_succ, List.setIfInBounds_toArray, List.set_cons_zero, List.set_cons_succ]
    clear z0 z1 z2 y0 y1 y2 haU hbU hcU hZ hlz hCA hCN hbN qE
    refine wpAnyH_take (i := 12) (v := ?_) rfl (by kernel_rfl) (by kernel_rfl) (by kernel_rfl) (fun _ _ _ h => h) (Or.inl ⟨by rfl, ?_⟩) (by assumption) ?_
    rotate_left
    · (intro w hSw; (try dsimp only at hSw); go_simp; first | done | with_reducible rfl)
    try simp only [Act.put, List.getElem_toArray, List.getElem_cons_zero, List.getElem_cons_succ, List.setIfInBounds_toArray, List.set_cons_zero, List.set_cons_succ]
    refine wpAnyH_done (by kernel_rfl) ?_ _
    refine NoPanic.normal ?_
    rw [← qhq] at Hq ⊢
    clear qhq
    rotate_left
    go_simp
    go_wp2_with fail
    have hbd := kp.bdr (W.alloc OZ)
    have hZd := (hbd.block W.heap.size (Nw.lt (alloc_at W OZ))).trans (alloc_at W OZ)
    have hCA := Cl.drew (Cl.allocs hcl OZ)
    obtain ⟨qA, qAE⟩ : ∃ A, A = (W.alloc OZ).drew := ⟨_, rfl⟩
    rw [← qAE] at hCA hZd
    rw [← qAE]
    obtain ⟨qh, qhq⟩ : ∃ q, q = W.heap.size := ⟨_, rfl⟩
    rw [← qhq] at hZd ⊢
    have qhh : W.heap.size ≤ qh := by rw [qhq]; exact Nat.le_refl _
    clear qhq qAE hbd
    refine hK.out _ _ ?_ (fun hHeld => ?_)
    · (try dsimp only); exact Cl.c2 hCA
    clear hK K
    try simp only [Act.put, List.getElem_toArray, List.getElem_cons_zero, List.getElem_cons_succ, List.setIfInBounds_toArray, List.set_cons_zero, List.set_cons_succ]
    refine wpAnyH_ready (rs := [6]) (by kernel_rfl) (by simp) ?_
    refine AllReadyH.cons rfl (fun K hK => ?_) AllReadyH.nil
    go_simp
    refine (IF.out _ hCA).mono ?_
    rintro e qN ⟨rfl, hbN⟩
    have hCN := Cl.below hCA hbN
    go_wp2_with fail
    refine hK.out _ _ ?_ (fun hHeld => ?_)
    · (try dsimp only); exact Cl.c2 hCN
    clear hK K
    try simp only [Act.put, List.getElem_toArray, List.getElem_cons_zero, List.getElem_cons_succ, List.setIfInBounds_toArray, List.set_cons_zero, List.set_cons_succ]
    refine wpAnyH_take (i := 7) (v := ?_) rfl (by kernel_rfl) (by kernel_rfl) (by kernel_rfl) (fun _ _ _ h => h) (Or.inl ⟨by rfl, ?_⟩) (by assumption) ?_
    rotate_left
    · (intro w hSw; (try dsimp only at hSw); go_simp; first | done | with_reducible rfl)
    try simp only [Act.put, List.getElem_toArray, List.getElem_cons_zero, List.getElem_cons_succ, List.setIfInBounds_toArray, List.set_cons_zero, List.set_cons_succ]
    refine wpAnyH_take (i := 8) (v := ?_) rfl (by kernel_rfl) (by kernel_rfl) (by kernel_rfl) (fun _ _ _ h => h) (Or.inl ⟨by rfl, ?_⟩) (by assumption) ?_
    rotate_left
    · (intro w hSw; (try dsimp only at hSw); go_simp; first | done | with_reducible rfl)
    try simp only [Act.put, List.getElem_toArray, List.getElem_cons_zero, List.getElem_cons_succ, List.setIfInBounds_toArray, List.set_cons_zero, List.set_cons_succ]
    refine wpAnyH_take (i := 9) (v := ?_) rfl (by kernel_rfl) (by kernel_rfl) (by kernel_rfl) (fun _ _ _ h => h) (Or.inl ⟨by rfl, ?_⟩) (by assumption) ?_
    rotate_left
    · (intro w hSw; (try dsimp only at hSw); go_simp; first | done | with_reducible rfl)
    try simp only [Act.put, List.getElem_toArray, List.getElem_cons_zero, List.getElem_cons_succ, List.setIfInBounds_toArray, List.set_cons_zero, List.set_cons_succ]
    have hZ := (hbN.block qh (Nw.lt hZd)).trans hZd
    obtain ⟨⟨z0, z1, z2⟩, y0, y1, y2⟩ := three hZ
    have hlz := Nw.lt hZ
    obtain ⟨qU, hU, hNU⟩ := fin3 hZ (.string ⟨o1.n.toArray⟩) (.int .i64 o1.k) (.int .i64 o1.p)
    have hWh := qhh
    have hcU := Cl.turn hCN hWh (by have h1 := World.block_lt_of_cell? _ _ c3; have h2 := World.block_lt_of_cell? _ _ t1; simp only [List.mem_cons, List.not_mem_nil, or_false]; rintro y (rfl | rfl) <;> simp only at h1 h2 ⊢ <;> omega) hNU
    have Hq := Lib.hid (And.intro hNU.1 (And.intro hcU hWh))
    unfold opa.D.v
    refine wpAnyH_ready (rs := [11]) (by kernel_rfl) (by simp) ?_
    refine AllReadyH.cons rfl (fun K hK => ?_) AllReadyH.nil
    go_simp
    go_wp2_with fail
    refine hK.out _ _ ?_ (fun hHeld => ?_)
    · (try dsimp only); exact Cl.c2 Hq.out.2.1
    clear hK K
    try simp only [Act.put, List.getElem_toArray, List.getElem_cons_zero, List.getElem_cons_succ, List.setIfInBounds_toArray, List.set_cons_zero, List.set_cons_succ]
    clear z0 z1 z2 y0 y1 y2 hU hNU hcU hWh hZ hZd hlz hCA hCN hbN qhh
    refine wpAnyH_take (i := 12) (v := ?_) rfl (by kernel_rfl) (by kernel_rfl) (by kernel_rfl) (fun _ _ _ h => h) (Or.inl ⟨by rfl, ?_⟩) (by assumption) ?_
    rotate_left
    · (intro w hSw; (try dsimp only at hSw); go_simp; first | done | with_reducible rfl)
    try simp only [Act.put, List.getElem_toArray, List.getElem_cons_zero, List.getElem_cons_succ, List.setIfInBounds_toArray, List.set_cons_zero, List.set_cons_succ]
    refine wpAnyH_done (by kernel_rfl) ?_ _
    refine NoPanic.normal ?_
    all_goals
      obtain ⟨c3', t1'⟩ := Cl.c2 Hq.out.2.1
      clear c3 t1 hHeld hcl
      have c3 : qU.cell? ⟨p, 3, none⟩ = some (.pointer (some ⟨tp, 0, none⟩)) := c3'
      have t1 : qU.cell? ⟨g, 1, none⟩ = some (.string ⟨x.t.toArray⟩) := t1'
      clear c3' t1'
      have HV : Hid (Below w.heap.size w qU) := Lib.hid (HW.out.1.trans (Hq.out.2.1.bel.mono HW.out.1.size))
      have hcl : Cl qU [(p, 3, .pointer (some ⟨tp, 0, none⟩)), (g, 1, .string ⟨x.t.toArray⟩)] qU := ⟨by simp [c3, t1], kp.br _⟩
      have PF := Lib.hid (fun (w9 : World) (hc : Cl qU [(p, 3, .pointer (some ⟨tp, 0, none⟩)), (g, 1, .string ⟨x.t.toArray⟩)] w9) => prefix_c qU w9 x.t (H.out.2.1.below HV.out) H.out.2.2.1 H.out.2.2.2 hc.bel)
      rw [HJ.out.1, HJ.out.2] at PF
      go_upto_region 5 with fail
      refine wp_region_noPanic ?_
      refine wp_region_held_drew (S := (fun w' => w'.cell? ⟨p, 3, none⟩ = some (.pointer (some ⟨tp, 0, none⟩)) ∧ w'.cell? ⟨g, 1, none⟩ = some (.string ⟨x.t.toArray⟩))) (by kernel_rfl) ?_ (fun hHeld => ?_)
      · (try dsimp only); first | exact Cl.c2 (by assumption) | exact Cl.c2 (Cl.drew (by assumption)) | go_keep
      refine wpAnyH_take (i := 0) (v := ?_) rfl (by kernel_rfl) (by kernel_rfl) (by kernel_rfl) (fun _ _ _ h => h) (Or.inl ⟨by rfl, ?_⟩) (by assumption) ?_
      rotate_left
      · (intro w hSw; (try dsimp only at hSw); go_simp; first | done | with_reducible rfl)
      try simp only [Act.put, List.getElem_toArray, List.getElem_cons_zero, List.getElem_cons_succ, List.setIfInBounds_toArray, List.set_cons_zero, List.set_cons_succ]
      refine wpAnyH_take (i := 1) (v := ?_) rfl (by kernel_rfl) (by kernel_rfl) (by kernel_rfl) (fun _ _ _ h => h) (Or.inl ⟨by rfl, ?_⟩) (by assumption) ?_
      rotate_left
      · (intro w hSw; (try dsimp only at hSw); go_simp; first | done | with_reducible rfl)
      try simp only [Act.put, List.getElem_toArray, List.getElem_cons_zero, List.getElem_cons_succ, List.setIfInBounds_toArray, List.set_cons_zero, List.set_cons_succ]
      refine wpAnyH_take (i := 2) (v := ?_) rfl (by kernel_rfl) (by kernel_rfl) (by kernel_rfl) (fun _ _ _ h => h) (Or.inl ⟨by rfl, ?_⟩) (by assumption) ?_
      rotate_left
      · (intro w hSw; (try dsimp only at hSw); go_simp; first | done | with_reducible rfl)
      try simp only [Act.put, List.getElem_toArray, List.getElem_cons_zero, List.getElem_cons_succ, List.setIfInBounds_toArray, List.set_cons_zero, List.set_cons_succ]
      refine wpAnyH_take (i := 3) (v := ?_) rfl (by kernel_rfl) (by kernel_rfl) (by kernel_rfl) (fun _ _ _ h => h) (Or.inl ⟨by rfl, ?_⟩) (by assumption) ?_
      rotate_left
      · (intro w hSw; (try dsimp only at hSw); go_simp; first | done | with_reducible rfl)
      try simp only [Act.put, List.getElem_toArray, List.getElem_cons_zero, List.getElem_cons_succ, List.setIfInBounds_toArray, List.set_cons_zero, List.set_cons_succ]
      refine wpAnyH_take (i := 4) (v := ?_) rfl (by kernel_rfl) (by kernel_rfl) (by kernel_rfl) (fun _ _ _ h => h) (Or.inl ⟨by rfl, ?_⟩) (by assumption) ?_
      rotate_left
      · (intro w hSw; (try dsimp only at hSw); go_simp; first | done | with_reducible rfl)
      try simp only [Act.put, List.getElem_toArray, List.getElem_cons_zero, List.getElem_cons_succ, List.setIfInBounds_toArray, List.set_cons_zero, List.set_cons_succ]
      refine wpAnyH_take (i := 5) (v := ?_) rfl (by kernel_rfl) (by kernel_rfl) (by kernel_rfl) (fun _ _ _ h => h) (Or.inl ⟨by rfl, ?_⟩) (by assumption) ?_
      rotate_left
      · (intro w hSw; (try dsimp only at hSw); go_simp; first | done | with_reducible rfl)
      try simp only [Act.put, List.getElem_toArray, List.getElem_cons_zero, List.getElem_cons_succ, List.setIfInBounds_toArray, List.set_cons_zero, List.set_cons_succ]
      refine wpAnyH_ready (rs := [6, 10]) (by kernel_rfl) (by simp) ?_
      refine AllReadyH.cons rfl (fun K hK => ?_) (AllReadyH.cons rfl (fun K hK => ?_) AllReadyH.nil)
      go_simp
      refine (PF.out _ (by first | assumption | exact Cl.drew (by assumption))).mono ?_
      rintro e sN ⟨rfl, hbN⟩
      have hCN := Cl.below (by first | assumption | exact Cl.drew (by assumption)) hbN
      go_wp2_with fail
      refine hK.out _ _ ?_ (fun hHeld => ?_)
      · (try dsimp only); first | exact Cl.c2 (by assumption) | exact Cl.c2 (Cl.drew (by assumption)) | go_keep
      clear hK K
      try simp only [Act.put, List.getElem_toArray, List.getElem_cons_zero, List.getElem_cons_succ, List.setIfInBounds_toArray, List.set_cons_zero, List.set_cons_succ]
      refine wpAnyH_take (i := 7) (v := ?_) rfl (by kernel_rfl) (by kernel_rfl) (by kernel_rfl) (fun _ _ _ h => h) (Or.inl ⟨by rfl, ?_⟩) (by assumption) ?_
      rotate_left
      · (intro w hSw; (try dsimp only at hSw); go_simp; first | done | with_reducible rfl)
      try simp only [Act.put, List.getElem_toArray, List.getElem_cons_zero, List.getElem_cons_succ, List.setIfInBounds_toArray, List.set_cons_zero, List.set_cons_succ]
      refine wpAnyH_take (i := 8) (v := ?_) rfl (by kernel_rfl) (by kernel_rfl) (by kernel_rfl) (fun _ _ _ h => h) (Or.inl ⟨by rfl, ?_⟩) (by assumption) ?_
      rotate_left
      · (intro w hSw; (try dsimp only at hSw); go_simp; first | done | with_reducible rfl)
      try simp only [Act.put, List.getElem_toArray, List.getElem_cons_zero, List.getElem_cons_succ, List.setIfInBounds_toArray, List.set_cons_zero, List.set_cons_succ]
      refine wpAnyH_take (i := 9) (v := ?_) rfl (by kernel_rfl) (by kernel_rfl) (by kernel_rfl) (fun _ _ _ h => h) (Or.inl ⟨by rfl, ?_⟩) (by assumption) ?_
      rotate_left
      · (intro w hSw; (try dsimp only at hSw); go_simp; first | done | with_reducible rfl)
      try simp only [Act.put, List.getElem_toArray, List.getElem_cons_zero, List.getElem_cons_succ, List.setIfInBounds_toArray, List.set_cons_zero, List.set_cons_succ]
      have hZ := alloc_at sN OZ
      have hCA := Cl.allocs hCN OZ
      refine wpAnyH_ready (rs := [10]) (by kernel_rfl) (by simp) ?_
      refine AllReadyH.cons rfl (fun K hK => ?_) AllReadyH.nil
      go_simp
      go_wp2_with fail
      refine hK.out _ _ ?_ (fun hHeld => ?_)
      · (try dsimp only); exact Cl.c2 hCA
      clear hK K
      try simp only [Act.put, List.getElem_toArray, List.getElem_cons_zero, List.getElem_cons_succ, List.setIfInBounds_toArray, List.set_cons_zero, List.set_cons_succ]
      obtain ⟨⟨z0, z1, z2⟩, y0, y1, y2⟩ := three hZ
      have hlz := Nw.lt hZ
      have hbU := kp.ba sN (.cells #[.string ⟨o2.n.toArray⟩, .int .i64 o2.k, .int .i64 o2.p] 45)
      have haU := alloc_at sN (.cells #[.string ⟨o2.n.toArray⟩, .int .i64 o2.k, .int .i64 o2.p] 45)
      obtain ⟨sU, sE⟩ : ∃ U, U = sN.alloc (.cells #[.string ⟨o2.n.toArray⟩, .int .i64 o2.k, .int .i64 o2.p] 45) := ⟨_, rfl⟩
      rw [← sE] at hbU haU
      have hcU := Cl.below hCN hbU
      obtain ⟨sh, shq⟩ : ∃ q, q = sN.heap.size := ⟨_, rfl⟩
      have Hs := Lib.hid (And.intro haU (And.intro hcU (Nat.le_trans hcl.bel.size hCN.bel.size)))
      unfold opa.D.v
      refine wpAnyH_ready (rs := [11]) (by kernel_rfl) (by simp) ?_
      refine AllReadyH.cons rfl (fun K hK => ?_) AllReadyH.nil
      go_simp
      go_wp2_with fail
      rw [← sE]
      refine hK.out _ _ ?_ (fun hHeld => ?_)
      · (try dsimp only); exact Cl.c2 Hs.out.2.1
      clear hK K
      try simp only [Act.put, List.getElem_toArray, List.getElem_cons_zero, List.getElem_cons_succ, List.setIfInBounds_toArray, List.set_cons_zero, List.set_cons_succ]
      clear z0 z1 z2 y0 y1 y2 haU hbU hcU hZ hlz hCA hCN hbN sE
      refine wpAnyH_take (i := 12) (v := ?_) rfl (by kernel_rfl) (by kernel_rfl) (by kernel_rfl) (fun _ _ _ h => h) (Or.inl ⟨by rfl, ?_⟩) (by assumption) ?_
      rotate_left
      · (intro w hSw; (try dsimp only at hSw); go_simp; first | done | with_reducible rfl)
      try simp only [Act.put, List.getElem_toArray, List.getElem_cons_zero, List.getElem_cons_succ, List.setIfInBounds_toArray, List.set_cons_zero, List.set_cons_succ]
      refine wpAnyH_done (by kernel_rfl) ?_ _
      refine NoPanic.normal ?_
      rw [← shq] at Hs ⊢
      clear shq
      rotate_left
      go_simp
      go_wp2_with fail
      have hbd := kp.bdr (qU.alloc OZ)
      have hZd := (hbd.block qU.heap.size (Nw.lt (alloc_at qU OZ))).trans (alloc_at qU OZ)
      have hCA := Cl.drew (Cl.allocs hcl OZ)
      obtain ⟨sA, sAE⟩ : ∃ A, A = (qU.alloc OZ).drew := ⟨_, rfl⟩
      rw [← sAE] at hCA hZd
      rw [← sAE]
      obtain ⟨sh, shq⟩ : ∃ q, q = qU.heap.size := ⟨_, rfl⟩
      rw [← shq] at hZd ⊢
      have shh : qU.heap.size ≤ sh := by rw [shq]; exact Nat.le_refl _
      clear shq sAE hbd
      refine hK.out _ _ ?_ (fun hHeld => ?_)
      · (try dsimp only); exact Cl.c2 hCA
      clear hK K
      try simp only [Act.put, List.getElem_toArray, List.getElem_cons_zero, List.getElem_cons_succ, List.setIfInBounds_toArray, List.set_cons_zero, List.set_cons_succ]
      refine wpAnyH_ready (rs := [6]) (by kernel_rfl) (by simp) ?_
      refine AllReadyH.cons rfl (fun K hK => ?_) AllReadyH.nil
      go_simp
      refine (PF.out _ hCA).mono ?_
      rintro e sN ⟨rfl, hbN⟩
      have hCN := Cl.below hCA hbN
      go_wp2_with fail
      refine hK.out _ _ ?_ (fun hHeld => ?_)
      · (try dsimp only); exact Cl.c2 hCN
      clear hK K
      try simp only [Act.put, List.getElem_toArray, List.getElem_cons_zero, List.getElem_cons_succ, List.setIfInBounds_toArray, List.set_cons_zero, List.set_cons_succ]
      refine wpAnyH_take (i := 7) (v := ?_) rfl (by kernel_rfl) (by kernel_rfl) (by kernel_rfl) (fun _ _ _ h => h) (Or.inl ⟨by rfl, ?_⟩) (by assumption) ?_
      rotate_left
      · (intro w hSw; (try dsimp only at hSw); go_simp; first | done | with_reducible rfl)
      try simp only [Act.put, List.getElem_toArray, List.getElem_cons_zero, List.getElem_cons_succ, List.setIfInBounds_toArray, List.set_cons_zero, List.set_cons_succ]
      refine wpAnyH_take (i := 8) (v := ?_) rfl (by kernel_rfl) (by kernel_rfl) (by kernel_rfl) (fun _ _ _ h => h) (Or.inl ⟨by rfl, ?_⟩) (by assumption) ?_
      rotate_left
      · (intro w hSw; (try dsimp only at hSw); go_simp; first | done | with_reducible rfl)
      try simp only [Act.put, List.getElem_toArray, List.getElem_cons_zero, List.getElem_cons_succ, List.setIfInBounds_toArray, List.set_cons_zero, List.set_cons_succ]
      refine wpAnyH_take (i := 9) (v := ?_) rfl (by kernel_rfl) (by kernel_rfl) (by kernel_rfl) (fun _ _ _ h => h) (Or.inl ⟨by rfl, ?_⟩) (by assumption) ?_
      rotate_left
      · (intro w hSw; (try dsimp only at hSw); go_simp; first | done | with_reducible rfl)
      try simp only [Act.put, List.getElem_toArray, List.getElem_cons_zero, List.getElem_cons_succ, List.setIfInBounds_toArray, List.set_cons_zero, List.set_cons_succ]
      have hZ := (hbN.block sh (Nw.lt hZd)).trans hZd
      obtain ⟨⟨z0, z1, z2⟩, y0, y1, y2⟩ := three hZ
      have hlz := Nw.lt hZ
      obtain ⟨sU, hU, hNU⟩ := fin3 hZ (.string ⟨o2.n.toArray⟩) (.int .i64 o2.k) (.int .i64 o2.p)
      have hWh := shh
      have hcU := Cl.turn hCN hWh (by have h1 := World.block_lt_of_cell? _ _ c3; have h2 := World.block_lt_of_cell? _ _ t1; simp only [List.mem_cons, List.not_mem_nil, or_false]; rintro y (rfl | rfl) <;> simp only at h1 h2 ⊢ <;> omega) hNU
      have Hs := Lib.hid (And.intro hNU.1 (And.intro hcU hWh))
      unfold opa.D.v
      refine wpAnyH_ready (rs := [11]) (by kernel_rfl) (by simp) ?_
      refine AllReadyH.cons rfl (fun K hK => ?_) AllReadyH.nil
      go_simp
      go_wp2_with fail
      refine hK.out _ _ ?_ (fun hHeld => ?_)
      · (try dsimp only); exact Cl.c2 Hs.out.2.1
      clear hK K
      try simp only [Act.put, List.getElem_toArray, List.getElem_cons_zero, List.getElem_cons_succ, List.setIfInBounds_toArray, List.set_cons_zero, List.set_cons_succ]
      clear z0 z1 z2 y0 y1 y2 hU hNU hcU hWh hZ hZd hlz hCA hCN hbN shh
      refine wpAnyH_take (i := 12) (v := ?_) rfl (by kernel_rfl) (by kernel_rfl) (by kernel_rfl) (fun _ _ _ h => h) (Or.inl ⟨by rfl, ?_⟩) (by assumption) ?_
      rotate_left
      · (intro w hSw; (try dsimp only at hSw); go_simp; first | done | with_reducible rfl)
      try simp only [Act.put, List.getElem_toArray, List.getElem_cons_zero, List.getElem_cons_succ, List.setIfInBounds_toArray, List.set_cons_zero, List.set_cons_succ]
      refine wpAnyH_done (by kernel_rfl) ?_ _
      refine NoPanic.normal ?_
      all_goals
        have HY : Hid (Below w.heap.size w sU) := Lib.hid (HV.out.trans (Hs.out.2.1.bel.mono HV.out.size))
        clear c3 t1 hHeld hcl
        cases b5 <;> cases b7 <;> first | contradiction | (go_wp2_with fail; go_ret; exact ⟨rfl, HY.out⟩)
end
end Go.Proofs.YtedbcmagjbgbjaaGreatDoor.rd
namespace Go.Proofs.YtedbcmagjbgbjaaGreatDoor.rd
open Go.ChangeShapes Go.WideShapes Go.ChangeAt Go.RowKit Go.Maps
open Go.Proofs.YtedbcmagjbgbjaaGreatDoor.kp Go.Proofs.YtedbcmagjbgbjaaGreatDoor.num Go.Proofs.YtedbcmagjbgbjaaGreatDoor.dec Go.Proofs.YtedbcmagjbgbjaaGreatDoor.tk
set_option linter.unusedVariables false
set_option linter.unusedSimpArgs false
section
variable {w w' w0 : World} {p r0 : Nat} {tv tb mp nv : Value} {N k : Nat} {all : List Tk} {B : Nat}
theorem below_drewN (w : World) (n : Nat) : Below w.heap.size w (w.drewN n) := ⟨rfl, rfl, rfl, Nat.le_refl _, fun _ _ => rfl⟩
/-- two tokens' boxes -/
structure G2 (w0 : World) (g g2 : Nat) (x y : Tk) (W : World) : Prop where
  bel : Below w0.heap.size w0 W
  c1 : W.heap[g]? = some (.cells #[.int .i64 x.k, .string ⟨x.t.toArray⟩, .int .i64 x.n, .int .u64 (x.re : Int), .int .u64 (x.im : Int), .int .i64 (x.a : Int)] 76 (0, 0))
  c2 : W.heap[g2]? = some (.cells #[.int .i64 y.k, .string ⟨y.t.toArray⟩, .int .i64 y.n, .int .u64 (y.re : Int), .int .u64 (y.im : Int), .int .i64 (y.a : Int)] 76 (0, 0))
theorem G2.below {g g2 : Nat} {x y : Tk} {W W' : World} (h : G2 w g g2 x y W) (b : Below W.heap.size W W') : G2 w g g2 x y W' :=
  ⟨h.bel.trans (b.mono h.bel.size), (b.block g (Nw.lt h.c1)).trans h.c1, (b.block g2 (Nw.lt h.c2)).trans h.c2⟩
theorem G2.of {w w3 : World} (x y : Tk) (b : Below w.heap.size w w3) : G2 w w3.heap.size (w3.heap.size + 1) x y ((w3.alloc (.cells #[.int .i64 x.k, .string ⟨x.t.toArray⟩, .int .i64 x.n, .int .u64 (x.re : Int), .int .u64 (x.im : Int), .int .i64 (x.a : Int)] 76)).alloc (.cells #[.int .i64 y.k, .string ⟨y.t.toArray⟩, .int .i64 y.n, .int .u64 (y.re : Int), .int .u64 (y.im : Int), .int .i64 (y.a : Int)] 76)) := by
  have b1 := kp.ba w3 (.cells #[.int .i64 x.k, .string ⟨x.t.toArray⟩, .int .i64 x.n, .int .u64 (x.re : Int), .int .u64 (x.im : Int), .int .i64 (x.a : Int)] 76)
  have a1 := alloc_at w3 (.cells #[.int .i64 x.k, .string ⟨x.t.toArray⟩, .int .i64 x.n, .int .u64 (x.re : Int), .int .u64 (x.im : Int), .int .i64 (x.a : Int)] 76)
  have hs := alloc_size w3 (.cells #[.int .i64 x.k, .string ⟨x.t.toArray⟩, .int .i64 x.n, .int .u64 (x.re : Int), .int .u64 (x.im : Int), .int .i64 (x.a : Int)] 76)
  have b2 := kp.ba (w3.alloc (.cells #[.int .i64 x.k, .string ⟨x.t.toArray⟩, .int .i64 x.n, .int .u64 (x.re : Int), .int .u64 (x.im : Int), .int .i64 (x.a : Int)] 76)) (.cells #[.int .i64 y.k, .string ⟨y.t.toArray⟩, .int .i64 y.n, .int .u64 (y.re : Int), .int .u64 (y.im : Int), .int .i64 (y.a : Int)] 76)
  have a2 := alloc_at (w3.alloc (.cells #[.int .i64 x.k, .string ⟨x.t.toArray⟩, .int .i64 x.n, .int .u64 (x.re : Int), .int .u64 (x.im : Int), .int .i64 (x.a : Int)] 76)) (.cells #[.int .i64 y.k, .string ⟨y.t.toArray⟩, .int .i64 y.n, .int .u64 (y.re : Int), .int .u64 (y.im : Int), .int .i64 (y.a : Int)] 76)
  refine ⟨(b.trans (b1.mono b.size)).trans (b2.mono (by have := b1.size; have := b.size; omega)), (b2.block _ (Nw.lt a1)).trans a1, ?_⟩
  rw [hs] at a2; exact a2
set_option maxRecDepth 100000 in
set_option maxHeartbeats 16000000 in
theorem atom_any {tp : Nat} {F : Nat → Prop} {tl : List opa.D} (h : w.heap[p]? = some (RO tv N k (.pointer (some ⟨tp, 0, none⟩)) mp nv)) (ht : Toks B w tv all) (hk : k ≤ 70000) (hl : all.length ≤ 70000)
    (hT : opb.Tb w tp F tl) (hs : opa.Srt tl) (htl : tl.length ≤ 1000) (hxa : (see N (all.drop k) 0).a ≤ 1000000) (most : Int) :
    Calls Tryz.prog 125 #[.pointer (some ⟨p, 0, none⟩), .int .i64 most] w fun e w' => e = .returned (.tuple #[.int .i64 (atomB true (OTof tl) N most (all.drop k)).1, .int .i64 (atomB true (OTof tl) N most (all.drop k)).2]) ∧ Below w.heap.size w w' := by
  have HT := Lib.hid (fun (W : World) (hb : Below w.heap.size w W) (j : Nat) (hj : j ≤ 2) => token_any ((hb.block p (Nw.lt h)).trans h) (ht.below hb) hk hl j hj)
  have HO := Lib.hid (fun (W : World) (hb : Below w.heap.size w W) => only_any ((hb.block p (Nw.lt h)).trans h) (ht.below hb) hk hl (hT.below hb) hs htl)
  obtain ⟨x, hx⟩ : ∃ x, x = see N (all.drop k) 0 := ⟨_, rfl⟩
  obtain ⟨y, hy⟩ : ∃ y, y = see N (all.drop k) 1 := ⟨_, rfl⟩
  have HXY := Lib.hid (And.intro hx hy)
  rw [← hx] at hxa
  have H := Lib.hid (And.intro h (And.intro hT (And.intro hs (And.intro htl hxa))))
  obtain ⟨b9, hb9⟩ : ∃ b, b = opa.is tl ⟨x.t, 4, 0⟩ := ⟨_, rfl⟩
  obtain ⟨b11, hb11⟩ : ∃ b, b = opa.is tl ⟨x.t, 1, 0⟩ := ⟨_, rfl⟩
  obtain ⟨o1, ho1⟩ : ∃ o, o = ope.gd tl ⟨x.t, 4, 0⟩ := ⟨_, rfl⟩
  obtain ⟨o2, ho2⟩ : ∃ o, o = ope.gd tl ⟨x.t, 1, 0⟩ := ⟨_, rfl⟩
  obtain ⟨ba, hba⟩ : ∃ b, b = alone true (OTof tl) N (all.drop k) := ⟨_, rfl⟩
  have HI := Lib.hid (And.intro ho1.symm hb9.symm)
  have HJ := Lib.hid (And.intro ho2.symm hb11.symm)
  rw [← hba] at HO
  have hA : atomB true (OTof tl) N most (all.drop k) = (if y.k = 7 then (3, 0) else if x.k = 2 then (1, 0) else if x.t = [45] ∧ y.k = 4 ∧ y.a = x.a + 1 then (2, 0) else if shuts y = true then (1, 0) else if b9 = true ∧ o1.p ≤ most ∧ ba = false then (4, o1.p) else (1, max o1.p o2.p)) := by
    rw [hba, hb9, ho1, ho2, hx, hy]; rfl
  obtain ⟨A, hA'⟩ : ∃ A, A = atomB true (OTof tl) N most (all.drop k) := ⟨_, rfl⟩
  rw [← hA'] at hA ⊢
  have HA := Lib.hid hA
  have HCL := Lib.hid (fun W => closes_any y W)
  unfold TV tkc at HCL
  clear h ht hT hs htl hx hy hb9 hb11 ho1 ho2 hba hA hA' hxa
  go_enter Tryz.func125, Tryz.ntmps125
  go_wp2_with fail
  refine (HT.out w (kp.br _) 0 (by omega)).mono ?_; rintro e w2 ⟨rfl, b2⟩
  have HB2 := Lib.hid b2
  rw [← HXY.out.1]
  clear b2
  go_wp2_with fail
  refine (HT.out w2 HB2.out 1 (by omega)).mono ?_; rintro e w3 ⟨rfl, b3⟩
  have hb3 := HB2.out.trans (b3.mono HB2.out.size)
  rw [← HXY.out.2]
  unfold TV tkc
  obtain ⟨⟨z0, z1, z2, z3, z4, z5⟩, y0, y1, y2, y3, y4, y5⟩ := six (alloc_at w3 (TO 0 [] 0 0 0 0))
  have HG := Lib.hid (G2.of x y hb3)
  clear b3 hb3
  go_upto_block 0 with fail
  refine nmw (K := G2 w w3.heap.size (w3.heap.size + 1) x y) HG.out (fun W hW => ?_)
  obtain ⟨g, hg⟩ : ∃ g, g = w3.heap.size := ⟨_, rfl⟩
  obtain ⟨g2, hg2⟩ : ∃ g2, g2 = w3.heap.size + 1 := ⟨_, rfl⟩
  rw [← hg2, ← hg] at hW ⊢
  have HW := Lib.hid hW
  obtain ⟨⟨t0, t1, -, -, -, t5⟩, -⟩ := six hW.c1
  obtain ⟨⟨e0, e1, e2, e3, e4, e5⟩, -⟩ := six hW.c2
  clear z0 z1 z2 z3 z4 z5 y0 y1 y2 y3 y4 y5 hW HG hg hg2
  go_cut [] from 16 to 46 (fun wx => ∃ W5, W5 = wx ∧ G2 w g g2 x y W5 ∧ (¬ y.k = 7 ∧ ¬ x.k = 2 ∧ ¬ (x.t = [45] ∧ y.k = 4 ∧ y.a = x.a + 1) ∧ shuts y = false))
  case first =>
    by_cases h7 : y.k = 7
    · have k7 : (y.k == 7) = true := by rw [h7]; rfl
      have HQ := Lib.hid (show A = (3, 0) by rw [HA.out, if_pos h7])
      clear h7
      go_wp2_with fail
      go_ret2; exact ⟨by rw [HQ.out]; rfl, HW.out.bel⟩
    · have k7 : (y.k == 7) = false := by simpa using h7
      by_cases h2 : x.k = 2
      · have k2 : (x.k == 2) = true := by rw [h2]; rfl
        have HQ := Lib.hid (show A = (1, 0) by rw [HA.out, if_neg h7, if_pos h2])
        clear h7 h2
        go_wp2_with fail
        go_ret2; exact ⟨by rw [HQ.out]; rfl, HW.out.bel⟩
      · have k2 : (x.k == 2) = false := by simpa using h2
        have hwx : wrap64 ((x.a : Int) + 1) = (x.a : Int) + 1 := by have := H.out.2.2.2.2; unfold wrap64; omega
        have split : ((x.t = [45] ∧ y.k = 4 ∧ y.a = x.a + 1) ∧ (x.t == [45]) = true ∧ (y.k == 4) = true ∧ ((y.a : Int) == (x.a : Int) + 1) = true ∧ x.t.length = 1) ∨
            (¬ (x.t = [45] ∧ y.k = 4 ∧ y.a = x.a + 1) ∧ ((x.t == [45]) = false ∨ ((x.t == [45]) = true ∧ (y.k == 4) = false) ∨ ((x.t == [45]) = true ∧ (y.k == 4) = true ∧ ((y.a : Int) == (x.a : Int) + 1) = false ∧ x.t.length = 1))) := by
          by_cases c1 : x.t = [45]
          · by_cases c2 : y.k = 4
            · by_cases c3 : y.a = x.a + 1
              · exact Or.inl ⟨⟨c1, c2, c3⟩, by simpa using c1, by simpa using c2, by rw [beq_iff_eq]; omega, by rw [c1]; rfl⟩
              · exact Or.inr ⟨fun h => c3 h.2.2, Or.inr (Or.inr ⟨by simpa using c1, by simpa using c2, by rw [beq_eq_false_iff_ne]; omega, by rw [c1]; rfl⟩)⟩
            · exact Or.inr ⟨fun h => c2 h.2.1, Or.inr (Or.inl ⟨by simpa using c1, by simpa using c2⟩)⟩
          · exact Or.inr ⟨fun h => c1 h.1, Or.inl (by simpa using c1)⟩
        rcases split with ⟨hm, m1, m2, m3, m4⟩ | ⟨hm, hn⟩
        · have HQ := Lib.hid (show A = (2, 0) by rw [HA.out, if_neg h7, if_neg h2, if_pos hm])
          have m5 : ((x.t.length : Nat) : Int) = 1 := by rw [m4]; rfl
          clear h7 h2 hm
          go_wp2_with fail
          go_ret2; exact ⟨by rw [HQ.out]; rfl, HW.out.bel⟩
        · have HF := Lib.hid (And.intro h7 (And.intro h2 hm))
          clear h7 h2 hm
          cases hsy : shuts y with
          | true =>
            have HQ := Lib.hid (show A = (1, 0) by rw [HA.out, if_neg HF.out.1, if_neg HF.out.2.1, if_neg HF.out.2.2, if_pos hsy])
            rw [hsy.symm.trans hsy] at hsy
            have HCY := Lib.hid (fun W => show Calls Tryz.prog 163 _ W _ from HCL.out W)
            have HSY := Lib.hid hsy
            clear hsy HCL HCY
            rcases hn with m1 | ⟨m1, m2⟩ | ⟨m1, m2, m3, m4⟩
            all_goals
              first | (have m5 : ((x.t.length : Nat) : Int) = 1 := by rw [m4]; rfl) | skip
              go_wp2_with fail
              refine (closes_any y _).mono ?_; rintro e w5 ⟨rfl, b5⟩
              have HB5 := Lib.hid (HW.out.below b5)
              rw [HSY.out]
              clear b5
              go_wp2_with fail
              go_ret2; exact ⟨by rw [HQ.out]; rfl, HB5.out.bel⟩
          | false =>
            have HSY := Lib.hid hsy
            clear hsy HCL
            rcases hn with m1 | ⟨m1, m2⟩ | ⟨m1, m2, m3, m4⟩
            all_goals
              first | (have m5 : ((x.t.length : Nat) : Int) = 1 := by rw [m4]; rfl) | skip
              go_wp2_with fail
              refine (closes_any y _).mono ?_; rintro e w5 ⟨rfl, b5⟩
              have HB5 := Lib.hid (HW.out.below b5)
              rw [HSY.out]
              clear b5
              go_wp2_with fail
              go_meet
              exact ⟨_, rfl, HB5.out, HF.out.1, HF.out.2.1, HF.out.2.2, HSY.out⟩
  case rest =>
    obtain ⟨W5, rfl, hW, hF⟩ := hcut
    clear t0 t1 t5 e0 e1 e2 e3 e4 e5
    have HA2 := Lib.hid (show A = (if b9 = true ∧ o1.p ≤ most ∧ ba = false then (4, o1.p) else (1, max o1.p o2.p)) by rw [HA.out, if_neg hF.1, if_neg hF.2.1, if_neg hF.2.2.1, if_neg (by rw [hF.2.2.2]; decide)])
    clear hF HW HA
    have HW5 := Lib.hid hW
    obtain ⟨⟨t0, t1, -, -, -, t5⟩, -⟩ := six hW.c1
    have hP : W5.heap[p]? = some (RO tv N k (.pointer (some ⟨tp, 0, none⟩)) mp nv) := (hW.bel.block p (Nw.lt H.out.1)).trans H.out.1
    obtain ⟨⟨-, -, -, c3, -⟩, -⟩ := six hP
    clear t0 t5 hP hW
    go_upto_region 10 with fail
    go_cut [8, 9] from 47 to 56 (fun s8 s9 wx => ∃ h U, U = wx ∧ s8 = .pointer (some ⟨h, 0, none⟩) ∧ s9 = .bool b9 ∧ U.heap[h]? = some (.cells #[.string ⟨o1.n.toArray⟩, .int .i64 o1.k, .int .i64 o1.p] 45 (0, 0)) ∧ Cl W5 [(p, 3, .pointer (some ⟨tp, 0, none⟩)), (g, 1, .string ⟨x.t.toArray⟩)] U ∧ W5.heap.size ≤ h)
    case first =>
      have hcl : Cl W5 [(p, 3, .pointer (some ⟨tp, 0, none⟩)), (g, 1, .string ⟨x.t.toArray⟩)] W5 := ⟨by simp [c3, t1], kp.br _⟩
      have IF := Lib.hid (fun (w9 : World) (hc : Cl W5 [(p, 3, .pointer (some ⟨tp, 0, none⟩)), (g, 1, .string ⟨x.t.toArray⟩)] w9) => prefix_c W5 w9 x.t (H.out.2.1.below HW5.out.bel) H.out.2.2.1 H.out.2.2.2.1 hc.bel)
      rw [HI.out.1, HI.out.2] at IF
      refine wp_region_noPanic ?_
      refine wp_region_held_drew (S := (fun w' => w'.cell? ⟨p, 3, none⟩ = some (.pointer (some ⟨tp, 0, none⟩)) ∧ w'.cell? ⟨g, 1, none⟩ = some (.string ⟨x.t.toArray⟩))) (by kernel_rfl) ?_ (fun hHeld => ?_)
      · (try dsimp only); first | exact Cl.c2 (by assumption) | exact Cl.c2 (Cl.drew (by assumption)) | go_keep
      refine wpAnyH_take (i := 0) (v := ?_) rfl (by kernel_rfl) (by kernel_rfl) (by kernel_rfl) (fun _ _ _ h => h) (Or.inl ⟨by rfl, ?_⟩) (by assumption) ?_
      rotate_left
      · (intro w hSw; (try dsimp only at hSw); go_simp; first | done | with_reducible rfl)
      try simp only [Act.put, List.getElem_toArray, List.getElem_cons_zero, List.getElem_cons_succ, List.setIfInBounds_toArray, List.set_cons_zero, List.set_cons_succ]
      refine wpAnyH_take (i := 1) (v := ?_) rfl (by kernel_rfl) (by kernel_rfl) (by kernel_rfl) (fun _ _ _ h => h) (Or.inl ⟨by rfl, ?_⟩) (by assumption) ?_
      rotate_left
      · (intro w hSw; (try dsimp only at hSw); go_simp; first | done | with_reducible rfl)
      try simp only [Act.put, List.getElem_toArray, List.getElem_cons_zero, List.getElem_cons_succ, List.setIfInBounds_toArray, List.set_cons_zero, List.set_cons_succ]
      refine wpAnyH_take (i := 2) (v := ?_) rfl (by kernel_rfl) (by kernel_rfl) (by kernel_rfl) (fun _ _ _ h => h) (Or.inl ⟨by rfl, ?_⟩) (by assumption) ?_
      rotate_left
      · (intro w hSw; (try dsimp only at hSw); go_simp; first | done | with_reducible rfl)
      try simp only [Act.put, List.getElem_toArray, List.getElem_cons_zero, List.getElem_cons_succ, List.setIfInBounds_toArray, List.set_cons_zero, List.set_cons_succ]
      refine wpAnyH_take (i := 3) (v := ?_) rfl (by kernel_rfl) (by kernel_rfl) (by kernel_rfl) (fun _ _ _ h => h) (Or.inl ⟨by rfl, ?_⟩) (by assumption) ?_
      rotate_left
      · (intro w hSw; (try dsimp only at hSw); go_simp; first | done | with_reducible rfl)
      try simp only [Act.put, List.getElem_toArray, List.getElem_cons_zero, List.getElem_cons_succ, List.setIfInBounds_toArray, List.set_cons_zero, List.set_cons_succ]
      refine wpAnyH_take (i := 4) (v := ?_) rfl (by kernel_rfl) (by kernel_rfl) (by kernel_rfl) (fun _ _ _ h => h) (Or.inl ⟨by rfl, ?_⟩) (by assumption) ?_
      rotate_left
      · (intro w hSw; (try dsimp only at hSw); go_simp; first | done | with_reducible rfl)
      try simp only [Act.put, List.getElem_toArray, List.getElem_cons_zero, List.getElem_cons_succ, List.setIfInBounds_toArray, List.set_cons_zero, List.set_cons_succ]
      refine wpAnyH_take (i := 5) (v := ?_) rfl (by kernel_rfl) (by kernel_rfl) (by kernel_rfl) (fun _ _ _ h => h) (Or.inl ⟨by rfl, ?_⟩) (by assumption) ?_
      rotate_left
      · (intro w hSw; (try dsimp only at hSw); go_simp; first | done | with_reducible rfl)
      try simp only [Act.put, List.getElem_toArray, List.getElem_cons_zero, List.getElem_cons_succ, List.setIfInBounds_toArray, List.set_cons_zero, List.set_cons_succ]
      refine wpAnyH_ready (rs := [6, 10]) (by kernel_rfl) (by simp) ?_
      refine AllReadyH.cons rfl (fun K hK => ?_) (AllReadyH.cons rfl (fun K hK => ?_) AllReadyH.nil)
      go_simp
      refine (IF.out _ (by first | assumption | exact Cl.drew (by assumption))).mono ?_
      rintro e qN ⟨rfl, hbN⟩
      have hCN := Cl.below (by first | assumption | exact Cl.drew (by assumption)) hbN
      go_wp2_with fail
      refine hK.out _ _ ?_ (fun hHeld => ?_)
      · (try dsimp only); first | exact Cl.c2 (by assumption) | exact Cl.c2 (Cl.drew (by assumption)) | go_keep
      clear hK K
      try simp only [Act.put, List.getElem_toArray, List.getElem_cons_zero, List.getElem_cons_succ, List.setIfInBounds_toArray, List.set_cons_zero, List.set_cons_succ]
      refine wpAnyH_take (i := 7) (v := ?_) rfl (by kernel_rfl) (by kernel_rfl) (by kernel_rfl) (fun _ _ _ h => h) (Or.inl ⟨by rfl, ?_⟩) (by assumption) ?_
      rotate_left
      · (intro w hSw; (try dsimp only at hSw); go_simp; first | done | with_reducible rfl)
      try simp only [Act.put, List.getElem_toArray, List.getElem_cons_zero, List.getElem_cons_succ, List.setIfInBounds_toArray, List.set_cons_zero, List.set_cons_succ]
      refine wpAnyH_take (i := 8) (v := ?_) rfl (by kernel_rfl) (by kernel_rfl) (by kernel_rfl) (fun _ _ _ h => h) (Or.inl ⟨by rfl, ?_⟩) (by assumption) ?_
      rotate_left
      · (intro w hSw; (try dsimp only at hSw); go_simp; first | done | with_reducible rfl)
      try simp only [Act.put, List.getElem_toArray, List.getElem_cons_zero, List.getElem_cons_succ, List.setIfInBounds_toArray, List.set_cons_zero, List.set_cons_succ]
      refine wpAnyH_take (i := 9) (v := ?_) rfl (by kernel_rfl) (by kernel_rfl) (by kernel_rfl) (fun _ _ _ h => h) (Or.inl ⟨by rfl, ?_⟩) (by assumption) ?_
      rotate_left
      · (intro w hSw; (try dsimp only at hSw); go_simp; first | done | with_reducible rfl)
      try simp only [Act.put, List.getElem_toArray, List.getElem_cons_zero, List.getElem_cons_succ, List.setIfInBounds_toArray, List.set_cons_zero, List.set_cons_succ]
      have hZ := alloc_at qN OZ
      have hCA := Cl.allocs hCN OZ
      refine wpAnyH_ready (rs := [10]) (by kernel_rfl) (by simp) ?_
      refine AllReadyH.cons rfl (fun K hK => ?_) AllReadyH.nil
      go_simp
      go_wp2_with fail
      refine hK.out _ _ ?_ (fun hHeld => ?_)
      · (try dsimp only); exact Cl.c2 hCA
      clear hK K
      try simp only [Act.put, List.getElem_toArray, List.getElem_cons_zero, List.getElem_cons_succ, List.setIfInBounds_toArray, List.set_cons_zero, List.set_cons_succ]
      obtain ⟨⟨z0, z1, z2⟩, y0, y1, y2⟩ := three hZ
      have hlz := Nw.lt hZ
      have hbU := kp.ba qN (.cells #[.string ⟨o1.n.toArray⟩, .int .i64 o1.k, .int .i64 o1.p] 45)
      have haU := alloc_at qN (.cells #[.string ⟨o1.n.toArray⟩, .int .i64 o1.k, .int .i64 o1.p] 45)
      obtain ⟨qU, qE⟩ : ∃ U, U = qN.alloc (.cells #[.string ⟨o1.n.toArray⟩, .int .i64 o1.k, .int .i64 o1.p] 45) := ⟨_, rfl⟩
      rw [← qE] at hbU haU
      have hcU := Cl.below hCN hbU
      obtain ⟨qh, qhq⟩ : ∃ q, q = qN.heap.size := ⟨_, rfl⟩
      have Hq := Lib.hid (And.intro haU (And.intro hcU (Nat.le_trans hcl.bel.size hCN.bel.size)))
      unfold opa.D.v
      refine wpAnyH_ready (rs := [11]) (by kernel_rfl) (by simp) ?_
      refine AllReadyH.cons rfl (fun K hK => ?_) AllReadyH.nil
      go_simp
      go_wp2_with fail
      rw [← qE]
      refine hK.out _ _ ?_ (fun hHeld => ?_)
      · (try dsimp only); exact Cl.c2 Hq.out.2.1
      clear hK K
      try simp only [Act.put, List.getElem_toArray, List.getElem_cons_zero, List.getElem_cons_succ, List.setIfInBounds_toArray, List.set_cons_zero, List.set_cons_succ]
      clear z0 z1 z2 y0 y1 y2 haU hbU hcU hZ hlz hCA hCN hbN qE
      refine wpAnyH_take (i := 12) (v := ?_) rfl (by kernel_rfl) (by kernel_rfl) (by kernel_rfl) (fun _ _ _ h => h) (Or.inl ⟨by rfl, ?_⟩) (by assumption) ?_
      rotate_left
      · (intro w hSw; (try dsimp only at hSw); go_simp; first | done | with_reducible rfl)
      try simp only [Act.put, List.getElem_toArray, List.getElem_cons_zero, List.getElem_cons_succ, List.setIfInBounds_toArray, List.set_cons_zero, List.set_cons_succ]
      refine wpAnyH_done (by kernel_rfl) ?_ _
      refine NoPanic.normal ?_
      rw [← qhq] at Hq ⊢
      clear qhq
      rotate_left
      go_simp
      go_wp2_with fail
      have hbd := kp.bdr (W5.alloc OZ)
      have hZd := (hbd.block W5.heap.size (Nw.lt (alloc_at W5 OZ))).trans (alloc_at W5 OZ)
      have hCA := Cl.drew (Cl.allocs hcl OZ)
      obtain ⟨qA, qAE⟩ : ∃ A, A = (W5.alloc OZ).drew := ⟨_, rfl⟩
      rw [← qAE] at hCA hZd
      rw [← qAE]
      obtain ⟨qh, qhq⟩ : ∃ q, q = W5.heap.size := ⟨_, rfl⟩
      rw [← qhq] at hZd ⊢
      have qhh : W5.heap.size ≤ qh := by rw [qhq]; exact Nat.le_refl _
      clear qhq qAE hbd
      refine hK.out _ _ ?_ (fun hHeld => ?_)
      · (try dsimp only); exact Cl.c2 hCA
      clear hK K
      try simp only [Act.put, List.getElem_toArray, List.getElem_cons_zero, List.getElem_cons_succ, List.setIfInBounds_toArray, List.set_cons_zero, List.set_cons_succ]
      refine wpAnyH_ready (rs := [6]) (by kernel_rfl) (by simp) ?_
      refine AllReadyH.cons rfl (fun K hK => ?_) AllReadyH.nil
      go_simp
      refine (IF.out _ hCA).mono ?_
      rintro e qN ⟨rfl, hbN⟩
      have hCN := Cl.below hCA hbN
      go_wp2_with fail
      refine hK.out _ _ ?_ (fun hHeld => ?_)
      · (try dsimp only); exact Cl.c2 hCN
      clear hK K
      try simp only [Act.put, List.getElem_toArray, List.getElem_cons_zero, List.getElem_cons_succ, List.setIfInBounds_toArray, List.set_cons_zero, List.set_cons_succ]
      refine wpAnyH_take (i := 7) (v := ?_) rfl (by kernel_rfl) (by kernel_rfl) (by kernel_rfl) (fun _ _ _ h => h) (Or.inl ⟨by rfl, ?_⟩) (by assumption) ?_
      rotate_left
      · (intro w hSw; (try dsimp only at hSw); go_simp; first | done | with_reducible rfl)
      try simp only [Act.put, List.getElem_toArray, List.getElem_cons_zero, List.getElem_cons_succ, List.setIfInBounds_toArray, List.set_cons_zero, List.set_cons_succ]
      refine wpAnyH_take (i := 8) (v := ?_) rfl (by kernel_rfl) (by kernel_rfl) (by kernel_rfl) (fun _ _ _ h => h) (Or.inl ⟨by rfl, ?_⟩) (by assumption) ?_
      rotate_left
      · (intro w hSw; (try dsimp only at hSw); go_simp; first | done | with_reducible rfl)
      try simp only [Act.put, List.getElem_toArray, List.getElem_cons_zero, List.getElem_cons_succ, List.setIfInBounds_toArray, List.set_cons_zero, List.set_cons_succ]
      refine wpAnyH_take (i := 9) (v := ?_) rfl (by kernel_rfl) (by kernel_rfl) (by kernel_rfl) (fun _ _ _ h => h) (Or.inl ⟨by rfl, ?_⟩) (by assumption) ?_
      rotate_left
      · (intro w hSw; (try dsimp only at hSw); go_simp; first | done | with_reducible rfl)
      try simp only [Act.put, List.getElem_toArray, List.getElem_cons_zero, List.getElem_cons_succ, List.setIfInBounds_toArray, List.set_cons_zero, List.set_cons_succ]
      have hZ := (hbN.block qh (Nw.lt hZd)).trans hZd
      obtain ⟨⟨z0, z1, z2⟩, y0, y1, y2⟩ := three hZ
      have hlz := Nw.lt hZ
      obtain ⟨qU, hU, hNU⟩ := fin3 hZ (.string ⟨o1.n.toArray⟩) (.int .i64 o1.k) (.int .i64 o1.p)
      have hWh := qhh
      have hcU := Cl.turn hCN hWh (by have h1 := World.block_lt_of_cell? _ _ c3; have h2 := World.block_lt_of_cell? _ _ t1; simp only [List.mem_cons, List.not_mem_nil, or_false]; rintro y (rfl | rfl) <;> simp only at h1 h2 ⊢ <;> omega) hNU
      have Hq := Lib.hid (And.intro hNU.1 (And.intro hcU hWh))
      unfold opa.D.v
      refine wpAnyH_ready (rs := [11]) (by kernel_rfl) (by simp) ?_
      refine AllReadyH.cons rfl (fun K hK => ?_) AllReadyH.nil
      go_simp
      go_wp2_with fail
      refine hK.out _ _ ?_ (fun hHeld => ?_)
      · (try dsimp only); exact Cl.c2 Hq.out.2.1
      clear hK K
      try simp only [Act.put, List.getElem_toArray, List.getElem_cons_zero, List.getElem_cons_succ, List.setIfInBounds_toArray, List.set_cons_zero, List.set_cons_succ]
      clear z0 z1 z2 y0 y1 y2 hU hNU hcU hWh hZ hZd hlz hCA hCN hbN qhh
      refine wpAnyH_take (i := 12) (v := ?_) rfl (by kernel_rfl) (by kernel_rfl) (by kernel_rfl) (fun _ _ _ h => h) (Or.inl ⟨by rfl, ?_⟩) (by assumption) ?_
      rotate_left
      · (intro w hSw; (try dsimp only at hSw); go_simp; first | done | with_reducible rfl)
      try simp only [Act.put, List.getElem_toArray, List.getElem_cons_zero, List.getElem_cons_succ, List.setIfInBounds_toArray, List.set_cons_zero, List.set_cons_succ]
      refine wpAnyH_done (by kernel_rfl) ?_ _
      refine NoPanic.normal ?_
      all_goals
        clear c3 t1 hHeld hcl
        go_wp2_with fail
        go_meet
        exact ⟨qh, qU, rfl, rfl, rfl, Hq.out.1, Hq.out.2.1, Hq.out.2.2⟩
    case rest =>
      obtain ⟨h8, U, rfl, rfl, rfl, hb8, hcl5, hle8⟩ := hcut
      obtain ⟨d0, d1, d2⟩ := (three hb8).1
      have HU := Lib.hid (And.intro hb8 (And.intro hcl5 (HW5.out.bel.trans (hcl5.bel.mono HW5.out.bel.size))))
      clear c3 t1 hb8 hcl5 hle8
      cases b9 with
      | false =>
        have HQ := Lib.hid (show A = (1, max o1.p o2.p) by rw [HA2.out, if_neg (fun h => by cases h.1)])
        obtain ⟨W6, hW6⟩ : ∃ W6, W6 = U := ⟨_, rfl⟩
        rw [← hW6] at HU d0 d1 d2 ⊢
        have HB6 := Lib.hid HU.out.2.2
        have H86 := Lib.hid HU.out.1
        have HC6 := Lib.hid (Cl.c2 HU.out.2.1)
        clear hW6
        obtain ⟨c3, t1⟩ := HC6.out
        go_upto_region 13 with fail
        have hcl : Cl W6 [(p, 3, .pointer (some ⟨tp, 0, none⟩)), (g, 1, .string ⟨x.t.toArray⟩)] W6 := ⟨by simp [c3, t1], kp.br _⟩
        have JF := Lib.hid (fun (w9 : World) (hc : Cl W6 [(p, 3, .pointer (some ⟨tp, 0, none⟩)), (g, 1, .string ⟨x.t.toArray⟩)] w9) => infix_c W6 w9 x.t (H.out.2.1.below HB6.out) H.out.2.2.1 H.out.2.2.2.1 hc.bel)
        rw [HJ.out.1, HJ.out.2] at JF
        refine wp_region_noPanic ?_
        refine wp_region_held_drew (S := (fun w' => w'.cell? ⟨p, 3, none⟩ = some (.pointer (some ⟨tp, 0, none⟩)) ∧ w'.cell? ⟨g, 1, none⟩ = some (.string ⟨x.t.toArray⟩))) (by kernel_rfl) ?_ (fun hHeld => ?_)
        · (try dsimp only); first | exact Cl.c2 (by assumption) | exact Cl.c2 (Cl.drew (by assumption)) | go_keep
        refine wpAnyH_take (i := 0) (v := ?_) rfl (by kernel_rfl) (by kernel_rfl) (by kernel_rfl) (fun _ _ _ h => h) (Or.inl ⟨by rfl, ?_⟩) (by assumption) ?_
        rotate_left
        · (intro w hSw; (try dsimp only at hSw); go_simp; first | done | with_reducible rfl)
        try simp only [Act.put, List.getElem_toArray, List.getElem_cons_zero, List.getElem_cons_succ, List.setIfInBounds_toArray, List.set_cons_zero, List.set_cons_succ]
        refine wpAnyH_take (i := 1) (v := ?_) rfl (by kernel_rfl) (by kernel_rfl) (by kernel_rfl) (fun _ _ _ h => h) (Or.inl ⟨by rfl, ?_⟩) (by assumption) ?_
        rotate_left
        · (intro w hSw; (try dsimp only at hSw); go_simp; first | done | with_reducible rfl)
        try simp only [Act.put, List.getElem_toArray, List.getElem_cons_zero, List.getElem_cons_succ, List.setIfInBounds_toArray, List.set_cons_zero, List.set_cons_succ]
        refine wpAnyH_take (i := 2) (v := ?_) rfl (by kernel_rfl) (by kernel_rfl) (by kernel_rfl) (fun _ _ _ h => h) (Or.inl ⟨by rfl, ?_⟩) (by assumption) ?_
        rotate_left
        · (intro w hSw; (try dsimp only at hSw); go_simp; first | done | with_reducible rfl)
        try simp only [Act.put, List.getElem_toArray, List.getElem_cons_zero, List.getElem_cons_succ, List.setIfInBounds_toArray, List.set_cons_zero, List.set_cons_succ]
        refine wpAnyH_take (i := 3) (v := ?_) rfl (by kernel_rfl) (by kernel_rfl) (by kernel_rfl) (fun _ _ _ h => h) (Or.inl ⟨by rfl, ?_⟩) (by assumption) ?_
        rotate_left
        · (intro w hSw; (try dsimp only at hSw); go_simp; first | done | with_reducible rfl)
        try simp only [Act.put, List.getElem_toArray, List.getElem_cons_zero, List.getElem_cons_succ, List.setIfInBounds_toArray, List.set_cons_zero, List.set_cons_succ]
        refine wpAnyH_take (i := 4) (v := ?_) rfl (by kernel_rfl) (by kernel_rfl) (by kernel_rfl) (fun _ _ _ h => h) (Or.inl ⟨by rfl, ?_⟩) (by assumption) ?_
        rotate_left
        · (intro w hSw; (try dsimp only at hSw); go_simp; first | done | with_reducible rfl)
        try simp only [Act.put, List.getElem_toArray, List.getElem_cons_zero, List.getElem_cons_succ, List.setIfInBounds_toArray, List.set_cons_zero, List.set_cons_succ]
        refine wpAnyH_take (i := 5) (v := ?_) rfl (by kernel_rfl) (by kernel_rfl) (by kernel_rfl) (fun _ _ _ h => h) (Or.inl ⟨by rfl, ?_⟩) (by assumption) ?_
        rotate_left
        · (intro w hSw; (try dsimp only at hSw); go_simp; first | done | with_reducible rfl)
        try simp only [Act.put, List.getElem_toArray, List.getElem_cons_zero, List.getElem_cons_succ, List.setIfInBounds_toArray, List.set_cons_zero, List.set_cons_succ]
        refine wpAnyH_ready (rs := [6, 10]) (by kernel_rfl) (by simp) ?_
        refine AllReadyH.cons rfl (fun K hK => ?_) (AllReadyH.cons rfl (fun K hK => ?_) AllReadyH.nil)
        go_simp
        refine (JF.out _ (by first | assumption | exact Cl.drew (by assumption))).mono ?_
        rintro e sN ⟨rfl, hbN⟩
        have hCN := Cl.below (by first | assumption | exact Cl.drew (by assumption)) hbN
        go_wp2_with fail
        refine hK.out _ _ ?_ (fun hHeld => ?_)
        · (try dsimp only); first | exact Cl.c2 (by assumption) | exact Cl.c2 (Cl.drew (by assumption)) | go_keep
        clear hK K
        try simp only [Act.put, List.getElem_toArray, List.getElem_cons_zero, List.getElem_cons_succ, List.setIfInBounds_toArray, List.set_cons_zero, List.set_cons_succ]
        refine wpAnyH_take (i := 7) (v := ?_) rfl (by kernel_rfl) (by kernel_rfl) (by kernel_rfl) (fun _ _ _ h => h) (Or.inl ⟨by rfl, ?_⟩) (by assumption) ?_
        rotate_left
        · (intro w hSw; (try dsimp only at hSw); go_simp; first | done | with_reducible rfl)
        try simp only [Act.put, List.getElem_toArray, List.getElem_cons_zero, List.getElem_cons_succ, List.setIfInBounds_toArray, List.set_cons_zero, List.set_cons_succ]
        refine wpAnyH_take (i := 8) (v := ?_) rfl (by kernel_rfl) (by kernel_rfl) (by kernel_rfl) (fun _ _ _ h => h) (Or.inl ⟨by rfl, ?_⟩) (by assumption) ?_
        rotate_left
        · (intro w hSw; (try dsimp only at hSw); go_simp; first | done | with_reducible rfl)
        try simp only [Act.put, List.getElem_toArray, List.getElem_cons_zero, List.getElem_cons_succ, List.setIfInBounds_toArray, List.set_cons_zero, List.set_cons_succ]
        refine wpAnyH_take (i := 9) (v := ?_) rfl (by kernel_rfl) (by kernel_rfl) (by kernel_rfl) (fun _ _ _ h => h) (Or.inl ⟨by rfl, ?_⟩) (by assumption) ?_
        rotate_left
        · (intro w hSw; (try dsimp only at hSw); go_simp; first | done | with_reducible rfl)
        try simp only [Act.put, List.getElem_toArray, List.getElem_cons_zero, List.getElem_cons_succ, List.setIfInBounds_toArray, List.set_cons_zero, List.set_cons_succ]
        have hZ := alloc_at sN OZ
        have hCA := Cl.allocs hCN OZ
        refine wpAnyH_ready (rs := [10]) (by kernel_rfl) (by simp) ?_
        refine AllReadyH.cons rfl (fun K hK => ?_) AllReadyH.nil
        go_simp
        go_wp2_with fail
        refine hK.out _ _ ?_ (fun hHeld => ?_)
        · (try dsimp only); exact Cl.c2 hCA
        clear hK K
        try simp only [Act.put, List.getElem_toArray, List.getElem_cons_zero, List.getElem_cons_succ, List.setIfInBounds_toArray, List.set_cons_zero, List.set_cons_succ]
        obtain ⟨⟨z0, z1, z2⟩, y0, y1, y2⟩ := three hZ
        have hlz := Nw.lt hZ
        have hbU := kp.ba sN (.cells #[.string ⟨o2.n.toArray⟩, .int .i64 o2.k, .int .i64 o2.p] 45)
        have haU := alloc_at sN (.cells #[.string ⟨o2.n.toArray⟩, .int .i64 o2.k, .int .i64 o2.p] 45)
        obtain ⟨sU, sE⟩ : ∃ U, U = sN.alloc (.cells #[.string ⟨o2.n.toArray⟩, .int .i64 o2.k, .int .i64 o2.p] 45) := ⟨_, rfl⟩
        rw [← sE] at hbU haU
        have hcU := Cl.below hCN hbU
        obtain ⟨sh, shq⟩ : ∃ q, q = sN.heap.size := ⟨_, rfl⟩
        have Hs := Lib.hid (And.intro haU (And.intro hcU (Nat.le_trans hcl.bel.size hCN.bel.size)))
        unfold opa.D.v
        refine wpAnyH_ready (rs := [11]) (by kernel_rfl) (by simp) ?_
        refine AllReadyH.cons rfl (fun K hK => ?_) AllReadyH.nil
        go_simp
        go_wp2_with fail
        rw [← sE]
        refine hK.out _ _ ?_ (fun hHeld => ?_)
        · (try dsimp only); exact Cl.c2 Hs.out.2.1
        clear hK K
        try simp only [Act.put, List.getElem_toArray, List.getElem_cons_zero, List.getElem_cons_succ, List.setIfInBounds_toArray, List.set_cons_zero, List.set_cons_succ]
        clear z0 z1 z2 y0 y1 y2 haU hbU hcU hZ hlz hCA hCN hbN sE
        refine wpAnyH_take (i := 12) (v := ?_) rfl (by kernel_rfl) (by kernel_rfl) (by kernel_rfl) (fun _ _ _ h => h) (Or.inl ⟨by rfl, ?_⟩) (by assumption) ?_
        rotate_left
        · (intro w hSw; (try dsimp only at hSw); go_simp; first | done | with_reducible rfl)
        try simp only [Act.put, List.getElem_toArray, List.getElem_cons_zero, List.getElem_cons_succ, List.setIfInBounds_toArray, List.set_cons_zero, List.set_cons_succ]
        refine wpAnyH_done (by kernel_rfl) ?_ _
        refine NoPanic.normal ?_
        rw [← shq] at Hs ⊢
        clear shq
        rotate_left
        go_simp
        go_wp2_with fail
        have hbd := kp.bdr (W6.alloc OZ)
        have hZd := (hbd.block W6.heap.size (Nw.lt (alloc_at W6 OZ))).trans (alloc_at W6 OZ)
        have hCA := Cl.drew (Cl.allocs hcl OZ)
        obtain ⟨sA, sAE⟩ : ∃ A, A = (W6.alloc OZ).drew := ⟨_, rfl⟩
        rw [← sAE] at hCA hZd
        rw [← sAE]
        obtain ⟨sh, shq⟩ : ∃ q, q = W6.heap.size := ⟨_, rfl⟩
        rw [← shq] at hZd ⊢
        have shh : W6.heap.size ≤ sh := by rw [shq]; exact Nat.le_refl _
        clear shq sAE hbd
        refine hK.out _ _ ?_ (fun hHeld => ?_)
        · (try dsimp only); exact Cl.c2 hCA
        clear hK K
        try simp only [Act.put, List.getElem_toArray, List.getElem_cons_zero, List.getElem_cons_succ, List.setIfInBounds_toArray, List.set_cons_zero, List.set_cons_succ]
        refine wpAnyH_ready (rs := [6]) (by kernel_rfl) (by simp) ?_
        refine AllReadyH.cons rfl (fun K hK => ?_) AllReadyH.nil
        go_simp
        refine (JF.out _ hCA).mono ?_
        rintro e sN ⟨rfl, hbN⟩
        have hCN := Cl.below hCA hbN
        go_wp2_with fail
        refine hK.out _ _ ?_ (fun hHeld => ?_)
        · (try dsimp only); exact Cl.c2 hCN
        clear hK K
        try simp only [Act.put, List.getElem_toArray, List.getElem_cons_zero, List.getElem_cons_succ, List.setIfInBounds_toArray, List.set_cons_zero, List.set_cons_succ]
        refine wpAnyH_take (i := 7) (v := ?_) rfl (by kernel_rfl) (by kernel_rfl) (by kernel_rfl) (fun _ _ _ h => h) (Or.inl ⟨by rfl, ?_⟩) (by assumption) ?_
        rotate_left
        · (intro w hSw; (try dsimp only at hSw); go_simp; first | done | with_reducible rfl)
        try simp only [Act.put, List.getElem_toArray, List.getElem_cons_zero, List.getElem_cons_succ, List.setIfInBounds_toArray, List.set_cons_zero, List.set_cons_succ]
        refine wpAnyH_take (i := 8) (v := ?_) rfl (by kernel_rfl) (by kernel_rfl) (by kernel_rfl) (fun _ _ _ h => h) (Or.inl ⟨by rfl, ?_⟩) (by assumption) ?_
        rotate_left
        · (intro w hSw; (try dsimp only at hSw); go_simp; first | done | with_reducible rfl)
        try simp only [Act.put, List.getElem_toArray, List.getElem_cons_zero, List.getElem_cons_succ, List.setIfInBounds_toArray, List.set_cons_zero, List.set_cons_succ]
        refine wpAnyH_take (i := 9) (v := ?_) rfl (by kernel_rfl) (by kernel_rfl) (by kernel_rfl) (fun _ _ _ h => h) (Or.inl ⟨by rfl, ?_⟩) (by assumption) ?_
        rotate_left
        · (intro w hSw; (try dsimp only at hSw); go_simp; first | done | with_reducible rfl)
        try simp only [Act.put, List.getElem_toArray, List.getElem_cons_zero, List.getElem_cons_succ, List.setIfInBounds_toArray, List.set_cons_zero, List.set_cons_succ]
        have hZ := (hbN.block sh (Nw.lt hZd)).trans hZd
        obtain ⟨⟨z0, z1, z2⟩, y0, y1, y2⟩ := three hZ
        have hlz := Nw.lt hZ
        obtain ⟨sU, hU, hNU⟩ := fin3 hZ (.string ⟨o2.n.toArray⟩) (.int .i64 o2.k) (.int .i64 o2.p)
        have hWh := shh
        have hcU := Cl.turn hCN hWh (by have h1 := World.block_lt_of_cell? _ _ c3; have h2 := World.block_lt_of_cell? _ _ t1; simp only [List.mem_cons, List.not_mem_nil, or_false]; rintro y (rfl | rfl) <;> simp only at h1 h2 ⊢ <;> omega) hNU
        have Hs := Lib.hid (And.intro hNU.1 (And.intro hcU hWh))
        unfold opa.D.v
        refine wpAnyH_ready (rs := [11]) (by kernel_rfl) (by simp) ?_
        refine AllReadyH.cons rfl (fun K hK => ?_) AllReadyH.nil
        go_simp
        go_wp2_with fail
        refine hK.out _ _ ?_ (fun hHeld => ?_)
        · (try dsimp only); exact Cl.c2 Hs.out.2.1
        clear hK K
        try simp only [Act.put, List.getElem_toArray, List.getElem_cons_zero, List.getElem_cons_succ, List.setIfInBounds_toArray, List.set_cons_zero, List.set_cons_succ]
        clear z0 z1 z2 y0 y1 y2 hU hNU hcU hWh hZ hZd hlz hCA hCN hbN shh
        refine wpAnyH_take (i := 12) (v := ?_) rfl (by kernel_rfl) (by kernel_rfl) (by kernel_rfl) (fun _ _ _ h => h) (Or.inl ⟨by rfl, ?_⟩) (by assumption) ?_
        rotate_left
        · (intro w hSw; (try dsimp only at hSw); go_simp; first | done | with_reducible rfl)
        try simp only [Act.put, List.getElem_toArray, List.getElem_cons_zero, List.getElem_cons_succ, List.setIfInBounds_toArray, List.set_cons_zero, List.set_cons_succ]
        refine wpAnyH_done (by kernel_rfl) ?_ _
        refine NoPanic.normal ?_
        all_goals
          clear c3 t1 hHeld hcl d0 d1 d2
          have hb8 := (Hs.out.2.1.bel.block h8 (Nw.lt H86.out)).trans H86.out
          obtain ⟨d0, d1, d2⟩ := (three hb8).1
          obtain ⟨f0, f1, f2⟩ := (three Hs.out.1).1
          have HY := Lib.hid (HB6.out.trans (Hs.out.2.1.bel.mono HB6.out.size))
          clear hb8
          go_wp2_with fail
          go_quiet (fail)
          go_wp2_with fail
          go_ret2; exact ⟨by rw [HQ.out]; rfl, by first | exact HY.out | exact HY.out.trans ((below_drewN _ _).mono HY.out.size)⟩
      | true =>
        by_cases hle : o1.p ≤ most
        · have hd : decide (o1.p ≤ most) = true := decide_eq_true hle
          cases ba with
          | false =>
            have HQ := Lib.hid (show A = (4, o1.p) by rw [HA2.out, if_pos ⟨rfl, hle, rfl⟩])
            clear hle
            go_wp2_with fail
            refine (HO.out U HU.out.2.2).mono ?_; rintro e w6 ⟨rfl, b6⟩
            have hb8 := (b6.block h8 (Nw.lt HU.out.1)).trans HU.out.1
            clear d0 d1 d2
            obtain ⟨d0, d1, d2⟩ := (three hb8).1
            have HY := Lib.hid (HU.out.2.2.trans (b6.mono HU.out.2.2.size))
            clear b6 hb8
            go_wp2_with fail
            go_quiet (fail)
            go_wp2_with fail
            go_ret2; exact ⟨by rw [HQ.out]; rfl, by first | exact HY.out | exact HY.out.trans ((below_drewN _ _).mono HY.out.size)⟩
          | true =>
            have HQ := Lib.hid (show A = (1, max o1.p o2.p) by rw [HA2.out, if_neg (fun h => by cases h.2.2)])
            clear hle
            go_wp2_with fail
            refine (HO.out U HU.out.2.2).mono ?_; rintro e w6 ⟨rfl, b6⟩
            have hb8 := (b6.block h8 (Nw.lt HU.out.1)).trans HU.out.1
            clear d0 d1 d2
            obtain ⟨d0, d1, d2⟩ := (three hb8).1
            obtain ⟨W6, hW6⟩ : ∃ W6, W6 = w6 := ⟨_, rfl⟩
            rw [← hW6] at b6 d0 d1 d2 hb8 ⊢
            have HB6 := Lib.hid (HU.out.2.2.trans (b6.mono HU.out.2.2.size))
            have H86 := Lib.hid hb8
            have HC6 := Lib.hid (Cl.c2 (HU.out.2.1.below b6))
            clear hW6 b6 hb8
            obtain ⟨c3, t1⟩ := HC6.out
            go_upto_region 13 with fail
            have hcl : Cl W6 [(p, 3, .pointer (some ⟨tp, 0, none⟩)), (g, 1, .string ⟨x.t.toArray⟩)] W6 := ⟨by simp [c3, t1], kp.br _⟩
            have JF := Lib.hid (fun (w9 : World) (hc : Cl W6 [(p, 3, .pointer (some ⟨tp, 0, none⟩)), (g, 1, .string ⟨x.t.toArray⟩)] w9) => infix_c W6 w9 x.t (H.out.2.1.below HB6.out) H.out.2.2.1 H.out.2.2.2.1 hc.bel)
            rw [HJ.out.1, HJ.out.2] at JF
            refine wp_region_noPanic ?_
            refine wp_region_held_drew (S := (fun w' => w'.cell? ⟨p, 3, none⟩ = some (.pointer (some ⟨tp, 0, none⟩)) ∧ w'.cell? ⟨g, 1, none⟩ = some (.string ⟨x.t.toArray⟩))) (by kernel_rfl) ?_ (fun hHeld => ?_)
            · (try dsimp only); first | exact Cl.c2 (by assumption) | exact Cl.c2 (Cl.drew (by assumption)) | go_keep
            refine wpAnyH_take (i := 0) (v := ?_) rfl (by kernel_rfl) (by kernel_rfl) (by kernel_rfl) (fun _ _ _ h => h) (Or.inl ⟨by rfl, ?_⟩) (by assumption) ?_
            rotate_left
            · (intro w hSw; (try dsimp only at hSw); go_simp; first | done | with_reducible rfl)
            try simp only [Act.put, List.getElem_toArray, List.getElem_cons_zero, List.getElem_cons_succ, List.setIfInBounds_toArray, List.set_cons_zero, List.set_cons_succ]
            refine wpAnyH_take (i := 1) (v := ?_) rfl (by kernel_rfl) (by kernel_rfl) (by kernel_rfl) (fun _ _ _ h => h) (Or.inl ⟨by rfl, ?_⟩) (by assumption) ?_
            rotate_left
            · (intro w hSw; (try dsimp only at hSw); go_simp; first | done | with_reducible rfl)
            try simp only [Act.put, List.getElem_toArray, List.getElem_cons_zero, List.getElem_cons_succ, List.setIfInBounds_toArray, List.set_cons_zero, List.set_cons_succ]
            refine wpAnyH_take (i := 2) (v := ?_) rfl (by kernel_rfl) (by kernel_rfl) (by kernel_rfl) (fun _ _ _ h => h) (Or.inl ⟨by rfl, ?_⟩) (by assumption) ?_
            rotate_left
            · (intro w hSw; (try dsimp only at hSw); go_simp; first | done | with_reducible rfl)
            try simp only [Act.put, List.getElem_toArray, List.getElem_cons_zero, List.getElem_cons_succ, List.setIfInBounds_toArray, List.set_cons_zero, List.set_cons_succ]
            refine wpAnyH_take (i := 3) (v := ?_) rfl (by kernel_rfl) (by kernel_rfl) (by kernel_rfl) (fun _ _ _ h => h) (Or.inl ⟨by rfl, ?_⟩) (by assumption) ?_
            rotate_left
            · (intro w hSw; (try dsimp only at hSw); go_simp; first | done | with_reducible rfl)
            try simp only [Act.put, List.getElem_toArray, List.getElem_cons_zero, List.getElem_cons_succ, List.setIfInBounds_toArray, List.set_cons_zero, List.set_cons_succ]
            refine wpAnyH_take (i := 4) (v := ?_) rfl (by kernel_rfl) (by kernel_rfl) (by kernel_rfl) (fun _ _ _ h => h) (Or.inl ⟨by rfl, ?_⟩) (by assumption) ?_
            rotate_left
            · (intro w hSw; (try dsimp only at hSw); go_simp; first | done | with_reducible rfl)
            try simp only [Act.put, List.getElem_toArray, List.getElem_cons_zero, List.getElem_cons_succ, List.setIfInBounds_toArray, List.set_cons_zero, List.set_cons_succ]
            refine wpAnyH_take (i := 5) (v := ?_) rfl (by kernel_rfl) (by kernel_rfl) (by kernel_rfl) (fun _ _ _ h => h) (Or.inl ⟨by rfl, ?_⟩) (by assumption) ?_
            rotate_left
            · (intro w hSw; (try dsimp only at hSw); go_simp; first | done | with_reducible rfl)
            try simp only [Act.put, List.getElem_toArray, List.getElem_cons_zero, List.getElem_cons_succ, List.setIfInBounds_toArray, List.set_cons_zero, List.set_cons_succ]
            refine wpAnyH_ready (rs := [6, 10]) (by kernel_rfl) (by simp) ?_
            refine AllReadyH.cons rfl (fun K hK => ?_) (AllReadyH.cons rfl (fun K hK => ?_) AllReadyH.nil)
            go_simp
            refine (JF.out _ (by first | assumption | exact Cl.drew (by assumption))).mono ?_
            rintro e sN ⟨rfl, hbN⟩
            have hCN := Cl.below (by first | assumption | exact Cl.drew (by assumption)) hbN
            go_wp2_with fail
            refine hK.out _ _ ?_ (fun hHeld => ?_)
            · (try dsimp only); first | exact Cl.c2 (by assumption) | exact Cl.c2 (Cl.drew (by assumption)) | go_keep
            clear hK K
            try simp only [Act.put, List.getElem_toArray, List.getElem_cons_zero, List.getElem_cons_succ, List.setIfInBounds_toArray, List.set_cons_zero, List.set_cons_succ]
            refine wpAnyH_take (i := 7) (v := ?_) rfl (by kernel_rfl) (by kernel_rfl) (by kernel_rfl) (fun _ _ _ h => h) (Or.inl ⟨by rfl, ?_⟩) (by assumption) ?_
            rotate_left
            · (intro w hSw; (try dsimp only at hSw); go_simp; first | done | with_reducible rfl)
            try simp only [Act.put, List.getElem_toArray, List.getElem_cons_zero, List.getElem_cons_succ, List.setIfInBounds_toArray, List.set_cons_zero, List.set_cons_succ]
            refine wpAnyH_take (i := 8) (v := ?_) rfl (by kernel_rfl) (by kernel_rfl) (by kernel_rfl) (fun _ _ _ h => h) (Or.inl ⟨by rfl, ?_⟩) (by assumption) ?_
            rotate_left
            · (intro w hSw; (try dsimp only at hSw); go_simp; first | done | with_reducible rfl)
            try simp only [Act.put, List.getElem_toArray, List.getElem_cons_zero, List.getElem_cons_succ, List.setIfInBounds_toArray, List.set_cons_zero, List.set_cons_succ]
            refine wpAnyH_take (i := 9) (v := ?_) rfl (by kernel_rfl) (by kernel_rfl) (by kernel_rfl) (fun _ _ _ h => h) (Or.inl ⟨by rfl, ?_⟩) (by assumption) ?_
            rotate_left
            · (intro w hSw; (try dsimp only at hSw); go_simp; first | done | with_reducible rfl)
            try simp only [Act.put, List.getElem_toArray, List.getElem_cons_zero, List.getElem_cons_succ, List.setIfInBounds_toArray, List.set_cons_zero, List.set_cons_succ]
            have hZ := alloc_at sN OZ
            have hCA := Cl.allocs hCN OZ
            refine wpAnyH_ready (rs := [10]) (by kernel_rfl) (by simp) ?_
            refine AllReadyH.cons rfl (fun K hK => ?_) AllReadyH.nil
            go_simp
            go_wp2_with fail
            refine hK.out _ _ ?_ (fun hHeld => ?_)
            · (try dsimp only); exact Cl.c2 hCA
            clear hK K
            try simp only [Act.put, List.getElem_toArray, List.getElem_cons_zero, List.getElem_cons_succ, List.setIfInBounds_toArray, List.set_cons_zero, List.set_cons_succ]
            obtain ⟨⟨z0, z1, z2⟩, y0, y1, y2⟩ := three hZ
            have hlz := Nw.lt hZ
            have hbU := kp.ba sN (.cells #[.string ⟨o2.n.toArray⟩, .int .i64 o2.k, .int .i64 o2.p] 45)
            have haU := alloc_at sN (.cells #[.string ⟨o2.n.toArray⟩, .int .i64 o2.k, .int .i64 o2.p] 45)
            obtain ⟨sU, sE⟩ : ∃ U, U = sN.alloc (.cells #[.string ⟨o2.n.toArray⟩, .int .i64 o2.k, .int .i64 o2.p] 45) := ⟨_, rfl⟩
            rw [← sE] at hbU haU
            have hcU := Cl.below hCN hbU
            obtain ⟨sh, shq⟩ : ∃ q, q = sN.heap.size := ⟨_, rfl⟩
            have Hs := Lib.hid (And.intro haU (And.intro hcU (Nat.le_trans hcl.bel.size hCN.bel.size)))
            unfold opa.D.v
            refine wpAnyH_ready (rs := [11]) (by kernel_rfl) (by simp) ?_
            refine AllReadyH.cons rfl (fun K hK => ?_) AllReadyH.nil
            go_simp
            go_wp2_with fail
            rw [← sE]
            refine hK.out _ _ ?_ (fun hHeld => ?_)
            · (try dsimp only); exact Cl.c2 Hs.out.2.1
            clear hK K
            try simp only [Act.put, List.getElem_toArray, List.getElem_cons_zero, List.getElem_cons_succ, List.setIfInBounds_toArray, List.set_cons_zero, List.set_cons_succ]
            clear z0 z1 z2 y0 y1 y2 haU hbU hcU hZ hlz hCA hCN hbN sE
            refine wpAnyH_take (i := 12) (v := ?_) rfl (by kernel_rfl) (by kernel_rfl) (by kernel_rfl) (fun _ _ _ h => h) (Or.inl ⟨by rfl, ?_⟩) (by assumption) ?_
            rotate_left
            · (intro w hSw; (try dsimp only at hSw); go_simp; first | done | with_reducible rfl)
            try simp only [Act.put, List.getElem_toArray, List.getElem_cons_zero, List.getElem_cons_succ, List.setIfInBounds_toArray, List.set_cons_zero, List.set_cons_succ]
            refine wpAnyH_done (by kernel_rfl) ?_ _
            refine NoPanic.normal ?_
            rw [← shq] at Hs ⊢
            clear shq
            rotate_left
            go_simp
            go_wp2_with fail
            have hbd := kp.bdr (W6.alloc OZ)
            have hZd := (hbd.block W6.heap.size (Nw.lt (alloc_at W6 OZ))).trans (alloc_at W6 OZ)
            have hCA := Cl.drew (Cl.allocs hcl OZ)
            obtain ⟨sA, sAE⟩ : ∃ A, A = (W6.alloc OZ).drew := ⟨_, rfl⟩
            rw [← sAE] at hCA hZd
            rw [← sAE]
            obtain ⟨sh, shq⟩ : ∃ q, q = W6.heap.size := ⟨_, rfl⟩
            rw [← shq] at hZd ⊢
            have shh : W6.heap.size ≤ sh := by rw [shq]; exact Nat.le_refl _
            clear shq sAE hbd
            refine hK.out _ _ ?_ (fun hHeld => ?_)
            · (try dsimp only); exact Cl.c2 hCA
            clear hK K
            try simp only [Act.put, List.getElem_toArray, List.getElem_cons_zero, List.getElem_cons_succ, List.setIfInBounds_toArray, List.set_cons_zero, List.set_cons_succ]
            refine wpAnyH_ready (rs := [6]) (by kernel_rfl) (by simp) ?_
            refine AllReadyH.cons rfl (fun K hK => ?_) AllReadyH.nil
            go_simp
            refine (JF.out _ hCA).mono ?_
            rintro e sN ⟨rfl, hbN⟩
            have hCN := Cl.below hCA hbN
            go_wp2_with fail
            refine hK.out _ _ ?_ (fun hHeld => ?_)
            · (try dsimp only); exact Cl.c2 hCN
            clear hK K
            try simp only [Act.put, List.getElem_toArray, List.getElem_cons_zero, List.getElem_cons_succ, List.setIfInBounds_toArray, List.set_cons_zero, List.set_cons_succ]
            refine wpAnyH_take (i := 7) (v := ?_) rfl (by kernel_rfl) (by kernel_rfl) (by kernel_rfl) (fun _ _ _ h => h) (Or.inl ⟨by rfl, ?_⟩) (by assumption) ?_
            rotate_left
            · (intro w hSw; (try dsimp only at hSw); go_simp; first | done | with_reducible rfl)
            try simp only [Act.put, List.getElem_toArray, List.getElem_cons_zero, List.getElem_cons_succ, List.setIfInBounds_toArray, List.set_cons_zero, List.set_cons_succ]
            refine wpAnyH_take (i := 8) (v := ?_) rfl (by kernel_rfl) (by kernel_rfl) (by kernel_rfl) (fun _ _ _ h => h) (Or.inl ⟨by rfl, ?_⟩) (by assumption) ?_
            rotate_left
            · (intro w hSw; (try dsimp only at hSw); go_simp; first | done | with_reducible rfl)
            try simp only [Act.put, List.getElem_toArray, List.getElem_cons_zero, List.getElem_cons_succ, List.setIfInBounds_toArray, List.set_cons_zero, List.set_cons_succ]
            refine wpAnyH_take (i := 9) (v := ?_) rfl (by kernel_rfl) (by kernel_rfl) (by kernel_rfl) (fun _ _ _ h => h) (Or.inl ⟨by rfl, ?_⟩) (by assumption) ?_
            rotate_left
            · (intro w hSw; (try dsimp only at hSw); go_simp; first | done | with_reducible rfl)
            try simp only [Act.put, List.getElem_toArray, List.getElem_cons_zero, List.getElem_cons_succ, List.setIfInBounds_toArray, List.set_cons_zero, List.set_cons_succ]
            have hZ := (hbN.block sh (Nw.lt hZd)).trans hZd
            obtain ⟨⟨z0, z1, z2⟩, y0, y1, y2⟩ := three hZ
            have hlz := Nw.lt hZ
            obtain ⟨sU, hU, hNU⟩ := fin3 hZ (.string ⟨o2.n.toArray⟩) (.int .i64 o2.k) (.int .i64 o2.p)
            have hWh := shh
            have hcU := Cl.turn hCN hWh (by have h1 := World.block_lt_of_cell? _ _ c3; have h2 := World.block_lt_of_cell? _ _ t1; simp only [List.mem_cons, List.not_mem_nil, or_false]; rintro y (rfl | rfl) <;> simp only at h1 h2 ⊢ <;> omega) hNU
            have Hs := Lib.hid (And.intro hNU.1 (And.intro hcU hWh))
            unfold opa.D.v
            refine wpAnyH_ready (rs := [11]) (by kernel_rfl) (by simp) ?_
            refine AllReadyH.cons rfl (fun K hK => ?_) AllReadyH.nil
            go_simp
            go_wp2_with fail
            refine hK.out _ _ ?_ (fun hHeld => ?_)
            · (try dsimp only); exact Cl.c2 Hs.out.2.1
            clear hK K
            try simp only [Act.put, List.getElem_toArray, List.getElem_cons_zero, List.getElem_cons_succ, List.setIfInBounds_toArray, List.set_cons_zero, List.set_cons_succ]
            clear z0 z1 z2 y0 y1 y2 hU hNU hcU hWh hZ hZd hlz hCA hCN hbN shh
            refine wpAnyH_take (i := 12) (v := ?_) rfl (by kernel_rfl) (by kernel_rfl) (by kernel_rfl) (fun _ _ _ h => h) (Or.inl ⟨by rfl, ?_⟩) (by assumption) ?_
            rotate_left
            · (intro w hSw; (try dsimp only at hSw); go_simp; first | done | with_reducible rfl)
            try simp only [Act.put, List.getElem_toArray, List.getElem_cons_zero, List.getElem_cons_succ, List.setIfInBounds_toArray, List.set_cons_zero, List.set_cons_succ]
            refine wpAnyH_done (by kernel_rfl) ?_ _
            refine NoPanic.normal ?_
            all_goals
              clear c3 t1 hHeld hcl d0 d1 d2
              have hb8 := (Hs.out.2.1.bel.block h8 (Nw.lt H86.out)).trans H86.out
              obtain ⟨d0, d1, d2⟩ := (three hb8).1
              obtain ⟨f0, f1, f2⟩ := (three Hs.out.1).1
              have HY := Lib.hid (HB6.out.trans (Hs.out.2.1.bel.mono HB6.out.size))
              clear hb8
              go_wp2_with fail
              go_quiet (fail)
              go_wp2_with fail
              go_ret2; exact ⟨by rw [HQ.out]; rfl, by first | exact HY.out | exact HY.out.trans ((below_drewN _ _).mono HY.out.size)⟩
        · have hd : decide (o1.p ≤ most) = false := decide_eq_false hle
          have HQ := Lib.hid (show A = (1, max o1.p o2.p) by rw [HA2.out, if_neg (fun h => hle h.2.1)])
          obtain ⟨W6, hW6⟩ : ∃ W6, W6 = U := ⟨_, rfl⟩
          rw [← hW6] at HU d0 d1 d2 ⊢
          have HB6 := Lib.hid HU.out.2.2
          have H86 := Lib.hid HU.out.1
          have HC6 := Lib.hid (Cl.c2 HU.out.2.1)
          clear hW6 hle
          obtain ⟨c3, t1⟩ := HC6.out
          go_upto_region 13 with fail
          have hcl : Cl W6 [(p, 3, .pointer (some ⟨tp, 0, none⟩)), (g, 1, .string ⟨x.t.toArray⟩)] W6 := ⟨by simp [c3, t1], kp.br _⟩
          have JF := Lib.hid (fun (w9 : World) (hc : Cl W6 [(p, 3, .pointer (some ⟨tp, 0, none⟩)), (g, 1, .string ⟨x.t.toArray⟩)] w9) => infix_c W6 w9 x.t (H.out.2.1.below HB6.out) H.out.2.2.1 H.out.2.2.2.1 hc.bel)
          rw [HJ.out.1, HJ.out.2] at JF
          refine wp_region_noPanic ?_
          refine wp_region_held_drew (S := (fun w' => w'.cell? ⟨p, 3, none⟩ = some (.pointer (some ⟨tp, 0, none⟩)) ∧ w'.cell? ⟨g, 1, none⟩ = some (.string ⟨x.t.toArray⟩))) (by kernel_rfl) ?_ (fun hHeld => ?_)
          · (try dsimp only); first | exact Cl.c2 (by assumption) | exact Cl.c2 (Cl.drew (by assumption)) | go_keep
          refine wpAnyH_take (i := 0) (v := ?_) rfl (by kernel_rfl) (by kernel_rfl) (by kernel_rfl) (fun _ _ _ h => h) (Or.inl ⟨by rfl, ?_⟩) (by assumption) ?_
          rotate_left
          · (intro w hSw; (try dsimp only at hSw); go_simp; first | done | with_reducible rfl)
          try simp only [Act.put, List.getElem_toArray, List.getElem_cons_zero, List.getElem_cons_succ, List.setIfInBounds_toArray, List.set_cons_zero, List.set_cons_succ]
          refine wpAnyH_take (i := 1) (v := ?_) rfl (by kernel_rfl) (by kernel_rfl) (by kernel_rfl) (fun _ _ _ h => h) (Or.inl ⟨by rfl, ?_⟩) (by assumption) ?_
          rotate_left
          · (intro w hSw; (try dsimp only at hSw); go_simp; first | done | with_reducible rfl)
          try simp only [Act.put, List.getElem_toArray, List.getElem_cons_zero, List.getElem_cons_succ, List.setIfInBounds_toArray, List.set_cons_zero, List.set_cons_succ]
          refine wpAnyH_take (i := 2) (v := ?_) rfl (by kernel_rfl) (by kernel_rfl) (by kernel_rfl) (fun _ _ _ h => h) (Or.inl ⟨by rfl, ?_⟩) (by assumption) ?_
          rotate_left
          · (intro w hSw; (try dsimp only at hSw); go_simp; first | done | with_reducible rfl)
          try simp only [Act.put, List.getElem_toArray, List.getElem_cons_zero, List.getElem_cons_succ, List.setIfInBounds_toArray, List.set_cons_zero, List.set_cons_succ]
          refine wpAnyH_take (i := 3) (v := ?_) rfl (by kernel_rfl) (by kernel_rfl) (by kernel_rfl) (fun _ _ _ h => h) (Or.inl ⟨by rfl, ?_⟩) (by assumption) ?_
          rotate_left
          · (intro w hSw; (try dsimp only at hSw); go_simp; first | done | with_reducible rfl)
          try simp only [Act.put, List.getElem_toArray, List.getElem_cons_zero, List.getElem_cons_succ, List.setIfInBounds_toArray, List.set_cons_zero, List.set_cons_succ]
          refine wpAnyH_take (i := 4) (v := ?_) rfl (by kernel_rfl) (by kernel_rfl) (by kernel_rfl) (fun _ _ _ h => h) (Or.inl ⟨by rfl, ?_⟩) (by assumption) ?_
          rotate_left
          · (intro w hSw; (try dsimp only at hSw); go_simp; first | done | with_reducible rfl)
          try simp only [Act.put, List.getElem_toArray, List.getElem_cons_zero, List.getElem_cons_succ, List.setIfInBounds_toArray, List.set_cons_zero, List.set_cons_succ]
          refine wpAnyH_take (i := 5) (v := ?_) rfl (by kernel_rfl) (by kernel_rfl) (by kernel_rfl) (fun _ _ _ h => h) (Or.inl ⟨by rfl, ?_⟩) (by assumption) ?_
          rotate_left
          · (intro w hSw; (try dsimp only at hSw); go_simp; first | done | with_reducible rfl)
          try simp only [Act.put, List.getElem_toArray, List.getElem_cons_zero, List.getElem_cons_succ, List.setIfInBounds_toArray, List.set_cons_zero, List.set_cons_succ]
          refine wpAnyH_ready (rs := [6, 10]) (by kernel_rfl) (by simp) ?_
          refine AllReadyH.cons rfl (fun K hK => ?_) (AllReadyH.cons rfl (fun K hK => ?_) AllReadyH.nil)
          go_simp
          refine (JF.out _ (by first | assumption | exact Cl.drew (by assumption))).mono ?_
          rintro e sN ⟨rfl, hbN⟩
          have hCN := Cl.below (by first | assumption | exact Cl.drew (by assumption)) hbN
          go_wp2_with fail
          refine hK.out _ _ ?_ (fun hHeld => ?_)
          · (try dsimp only); first | exact Cl.c2 (by assumption) | exact Cl.c2 (Cl.drew (by assumption)) | go_keep
          clear hK K
          try simp only [Act.put, List.getElem_toArray, List.getElem_cons_zero, List.getElem_cons_succ, List.setIfInBounds_toArray, List.set_cons_zero, List.set_cons_succ]
          refine wpAnyH_take (i := 7) (v := ?_) rfl (by kernel_rfl) (by kernel_rfl) (by kernel_rfl) (fun _ _ _ h => h) (Or.inl ⟨by rfl, ?_⟩) (by assumption) ?_
          rotate_left
          · (intro w hSw; (try dsimp only at hSw); go_simp; first | done | with_reducible rfl)
          try simp only [Act.put, List.getElem_toArray, List.getElem_cons_zero, List.getElem_cons_succ, List.setIfInBounds_toArray, List.set_cons_zero, List.set_cons_succ]
          refine wpAnyH_take (i := 8) (v := ?_) rfl (by kernel_rfl) (by kernel_rfl) (by kernel_rfl) (fun _ _ _ h => h) (Or.inl ⟨by rfl, ?_⟩) (by assumption) ?_
          rotate_left
          · (intro w hSw; (try dsimp only at hSw); go_simp; first | done | with_reducible rfl)
          try simp only [Act.put, List.getElem_toArray, List.getElem_cons_zero, List.getElem_cons_succ, List.setIfInBounds_toArray, List.set_cons_zero, List.set_cons_succ]
          refine wpAnyH_take (i := 9) (v := ?_) rfl (by kernel_rfl) (by kernel_rfl) (by kernel_rfl) (fun _ _ _ h => h) (Or.inl ⟨by rfl, ?_⟩) (by assumption) ?_
          rotate_left
          · (intro w hSw; (try dsimp only at hSw); go_simp; first | done | with_reducible rfl)
          try simp only [Act.put, List.getElem_toArray, List.getElem_cons_zero, List.getElem_cons_succ, List.setIfInBounds_toArray, List.set_cons_zero, List.set_cons_succ]
          have hZ := alloc_at sN OZ
          have hCA := Cl.allocs hCN OZ
          refine wpAnyH_ready (rs := [10]) (by kernel_rfl) (by simp) ?_
          refine AllReadyH.cons rfl (fun K hK => ?_) AllReadyH.nil
          go_simp
          go_wp2_with fail
          refine hK.out _ _ ?_ (fun hHeld => ?_)
          · (try dsimp only); exact Cl.c2 hCA
          clear hK K
          try simp only [Act.put, List.getElem_toArray, List.getElem_cons_zero, List.getElem_cons_succ, List.setIfInBounds_toArray, List.set_cons_zero, List.set_cons_succ]
          obtain ⟨⟨z0, z1, z2⟩, y0, y1, y2⟩ := three hZ
          have hlz := Nw.lt hZ
          have hbU := kp.ba sN (.cells #[.string ⟨o2.n.toArray⟩, .int .i64 o2.k, .int .i64 o2.p] 45)
          have haU := alloc_at sN (.cells #[.string ⟨o2.n.toArray⟩, .int .i64 o2.k, .int .i64 o2.p] 45)
          obtain ⟨sU, sE⟩ : ∃ U, U = sN.alloc (.cells #[.string ⟨o2.n.toArray⟩, .int .i64 o2.k, .int .i64 o2.p] 45) := ⟨_, rfl⟩
          rw [← sE] at hbU haU
          have hcU := Cl.below hCN hbU
          obtain ⟨sh, shq⟩ : ∃ q, q = sN.heap.size := ⟨_, rfl⟩
          have Hs := Lib.hid (And.intro haU (And.intro hcU (Nat.le_trans hcl.bel.size hCN.bel.size)))
          unfold opa.D.v
          refine wpAnyH_ready (rs := [11]) (by kernel_rfl) (by simp) ?_
          refine AllReadyH.cons rfl (fun K hK => ?_) AllReadyH.nil
          go_simp
          go_wp2_with fail
          rw [← sE]
          refine hK.out _ _ ?_ (fun hHeld => ?_)
          · (try dsimp only); exact Cl.c2 Hs.out.2.1
          clear hK K
          try simp only [Act.put, List.getElem_toArray, List.getElem_cons_zero, List.getElem_cons_succ, List.setIfInBounds_toArray, List.set_cons_zero, List.set_cons_succ]
          clear z0 z1 z2 y0 y1 y2 haU hbU hcU hZ hlz hCA hCN hbN sE
          refine wpAnyH_take (i := 12) (v := ?_) rfl (by kernel_rfl) (by kernel_rfl) (by kernel_rfl) (fun _ _ _ h => h) (Or.inl ⟨by rfl, ?_⟩) (by assumption) ?_
          rotate_left
          · (intro w hSw; (try dsimp only at hSw); go_simp; first | done | with_reducible rfl)
          try simp only [Act.put, List.getElem_toArray, List.getElem_cons_zero, List.getElem_cons_succ, List.setIfInBounds_toArray, List.set_cons_zero, List.set_cons_succ]
          refine wpAnyH_done (by kernel_rfl) ?_ _
          refine NoPanic.normal ?_
          rw [← shq] at Hs ⊢
          clear shq
          rotate_left
          go_simp
          go_wp2_with fail
          have hbd := kp.bdr (W6.alloc OZ)
          have hZd := (hbd.block W6.heap.size (Nw.lt (alloc_at W6 OZ))).trans (alloc_at W6 OZ)
          have hCA := Cl.drew (Cl.allocs hcl OZ)
          obtain ⟨sA, sAE⟩ : ∃ A, A = (W6.alloc OZ).drew := ⟨_, rfl⟩
          rw [← sAE] at hCA hZd
          rw [← sAE]
          obtain ⟨sh, shq⟩ : ∃ q, q = W6.heap.size := ⟨_, rfl⟩
          rw [← shq] at hZd ⊢
          have shh : W6.heap.size ≤ sh := by rw [shq]; exact Nat.le_refl _
          clear shq sAE hbd
          refine hK.out _ _ ?_ (fun hHeld => ?_)
          · (try dsimp only); exact Cl.c2 hCA
          clear hK K
          try simp only [Act.put, List.getElem_toArray, List.getElem_cons_zero, List.getElem_cons_succ, List.setIfInBounds_toArray, List.set_cons_zero, List.set_cons_succ]
          refine wpAnyH_ready (rs := [6]) (by kernel_rfl) (by simp) ?_
          refine AllReadyH.cons rfl (fun K hK => ?_) AllReadyH.nil
          go_simp
          refine (JF.out _ hCA).mono ?_
          rintro e sN ⟨rfl, hbN⟩
          have hCN := Cl.below hCA hbN
          go_wp2_with fail
          refine hK.out _ _ ?_ (fun hHeld => ?_)
          · (try dsimp only); exact Cl.c2 hCN
          clear hK K
          try simp only [Act.put, List.getElem_toArray, List.getElem_cons_zero, List.getElem_cons_succ, List.setIfInBounds_toArray, List.set_cons_zero, List.set_cons_succ]
          refine wpAnyH_take (i := 7) (v := ?_) rfl (by kernel_rfl) (by kernel_rfl) (by kernel_rfl) (fun _ _ _ h => h) (Or.inl ⟨by rfl, ?_⟩) (by assumption) ?_
          rotate_left
          · (intro w hSw; (try dsimp only at hSw); go_simp; first | done | with_reducible rfl)
          try simp only [Act.put, List.getElem_toArray, List.getElem_cons_zero, List.getElem_cons_succ, List.setIfInBounds_toArray, List.set_cons_zero, List.set_cons_succ]
          refine wpAnyH_take (i := 8) (v := ?_) rfl (by kernel_rfl) (by kernel_rfl) (by kernel_rfl) (fun _ _ _ h => h) (Or.inl ⟨by rfl, ?_⟩) (by assumption) ?_
          rotate_left
          · (intro w hSw; (try dsimp only at hSw); go_simp; first | done | with_reducible rfl)
          try simp only [Act.put, List.getElem_toArray, List.getElem_cons_zero, List.getElem_cons_succ, List.setIfInBounds_toArray, List.set_cons_zero, List.set_cons_succ]
          refine wpAnyH_take (i := 9) (v := ?_) rfl (by kernel_rfl) (by kernel_rfl) (by kernel_rfl) (fun _ _ _ h => h) (Or.inl ⟨by rfl, ?_⟩) (by assumption) ?_
          rotate_left
          · (intro w hSw; (try dsimp only at hSw); go_simp; first | done | with_reducible rfl)
          try simp only [Act.put, List.getElem_toArray, List.getElem_cons_zero, List.getElem_cons_succ, List.setIfInBounds_toArray, List.set_cons_zero, List.set_cons_succ]
          have hZ := (hbN.block sh (Nw.lt hZd)).trans hZd
          obtain ⟨⟨z0, z1, z2⟩, y0, y1, y2⟩ := three hZ
          have hlz := Nw.lt hZ
          obtain ⟨sU, hU, hNU⟩ := fin3 hZ (.string ⟨o2.n.toArray⟩) (.int .i64 o2.k) (.int .i64 o2.p)
          have hWh := shh
          have hcU := Cl.turn hCN hWh (by have h1 := World.block_lt_of_cell? _ _ c3; have h2 := World.block_lt_of_cell? _ _ t1; simp only [List.mem_cons, List.not_mem_nil, or_false]; rintro y (rfl | rfl) <;> simp only at h1 h2 ⊢ <;> omega) hNU
          have Hs := Lib.hid (And.intro hNU.1 (And.intro hcU hWh))
          unfold opa.D.v
          refine wpAnyH_ready (rs := [11]) (by kernel_rfl) (by simp) ?_
          refine AllReadyH.cons rfl (fun K hK => ?_) AllReadyH.nil
          go_simp
          go_wp2_with fail
          refine hK.out _ _ ?_ (fun hHeld => ?_)
          · (try dsimp only); exact Cl.c2 Hs.out.2.1
          clear hK K
          try simp only [Act.put, List.getElem_toArray, List.getElem_cons_zero, List.getElem_cons_succ, List.setIfInBounds_toArray, List.set_cons_zero, List.set_cons_succ]
          clear z0 z1 z2 y0 y1 y2 hU hNU hcU hWh hZ hZd hlz hCA hCN hbN shh
          refine wpAnyH_take (i := 12) (v := ?_) rfl (by kernel_rfl) (by kernel_rfl) (by kernel_rfl) (fun _ _ _ h => h) (Or.inl ⟨by rfl, ?_⟩) (by assumption) ?_
          rotate_left
          · (intro w hSw; (try dsimp only at hSw); go_simp; first | done | with_reducible rfl)
          try simp only [Act.put, List.getElem_toArray, List.getElem_cons_zero, List.getElem_cons_succ, List.setIfInBounds_toArray, List.set_cons_zero, List.set_cons_succ]
          refine wpAnyH_done (by kernel_rfl) ?_ _
          refine NoPanic.normal ?_
          all_goals
            clear c3 t1 hHeld hcl d0 d1 d2
            have hb8 := (Hs.out.2.1.bel.block h8 (Nw.lt H86.out)).trans H86.out
            obtain ⟨d0, d1, d2⟩ := (three hb8).1
            obtain ⟨f0, f1, f2⟩ := (three Hs.out.1).1
            have HY := Lib.hid (HB6.out.trans (Hs.out.2.1.bel.mono HB6.out.size))
            clear hb8
            go_wp2_with fail
            go_quiet (fail)
            go_wp2_with fail
            go_ret2; exact ⟨by rw [HQ.out]; rfl, by first | exact HY.out | exact HY.out.trans ((below_drewN _ _).mono HY.out.size)⟩
end
end Go.Proofs.YtedbcmagjbgbjaaGreatDoor.rd
