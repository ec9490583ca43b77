/- The reference's Set. -/
import Derived.Test.YtnpdipmkikakcaaOpT
import Derived.Deep.RegionLaw
import Derived.StillTailTactics
namespace Go.Proofs.Ytnpdipmkikakcaa.opu
open Go.ChangeShapes Go.WideShapes Go.ChangeAt Go.RowKit
open Go.Proofs.Ytnpdipmkikakcaa.kp Go.Proofs.Ytnpdipmkikakcaa.opa Go.Proofs.Ytnpdipmkikakcaa.opb Go.Proofs.Ytnpdipmkikakcaa.opb2 Go.Proofs.Ytnpdipmkikakcaa.opc Go.Proofs.Ytnpdipmkikakcaa.opd Go.Proofs.Ytnpdipmkikakcaa.ope Go.Proofs.Ytnpdipmkikakcaa.opf Go.Proofs.Ytnpdipmkikakcaa.opg Go.Proofs.Ytnpdipmkikakcaa.oph Go.Proofs.Ytnpdipmkikakcaa.opi Go.Proofs.Ytnpdipmkikakcaa.opq Go.Proofs.Ytnpdipmkikakcaa.opr Go.Proofs.Ytnpdipmkikakcaa.ops_ Go.Proofs.Ytnpdipmkikakcaa.opt
set_option linter.unusedVariables false
theorem mn_n {n n' : List UInt8} {k p k' p' : Int} (h : n ≠ n') : mn ⟨n', k', p'⟩ ⟨n, k, p⟩ = false := by
  unfold mn; rw [decide_eq_false]; rw [cd_zero]; intro q; exact h q.1
theorem mn_f {n : List UInt8} {k p k' p' : Int} (h : fr k ≠ fr k') : mn ⟨n, k', p'⟩ ⟨n, k, p⟩ = false := by
  unfold mn; rw [decide_eq_false]; rw [cd_zero]; intro q; exact h q.2
theorem mn_t {n : List UInt8} {k p k' p' : Int} (h : fr k = fr k') : mn ⟨n, k', p'⟩ ⟨n, k, p⟩ = true := by
  unfold mn; rw [decide_eq_true]; rw [cd_zero]; exact ⟨rfl, h⟩
theorem lo_nm (l : List D) (o : D) : lo (nm l o) o = lo l o := by
  unfold lo nm; rw [List.filter_filter]
  refine List.filter_congr fun x _ => ?_
  unfold mn
  by_cases h : cd x o < 0
  · have : ¬ cd x o = 0 := by omega
    simp [h, this]
  · simp [h]
theorem hi_nm (l : List D) (o : D) : hi (nm l o) o = hi l o := by
  unfold hi nm; rw [List.filter_filter]
  refine List.filter_congr fun x _ => ?_
  unfold mn
  by_cases h : 0 < cd x o
  · have : ¬ cd x o = 0 := by omega
    simp [h, this]
  · simp [h]
theorem is_nm (l : List D) (o : D) : is (nm l o) o = false := by
  unfold is
  rw [decide_eq_false]
  intro h
  refine h ?_
  unfold md nm; rw [List.filter_filter]
  refine List.filter_eq_nil_iff.2 fun x _ => ?_
  unfold mn
  by_cases h : cd x o = 0 <;> simp [h]
theorem ins_nm (l : List D) (o : D) : ins (nm l o) o = ins l o := by unfold ins; rw [lo_nm, hi_nm]
theorem nm_le (l : List D) (o : D) (k : Nat) : (nm (l.take k) o).length ≤ l.length := Nat.le_trans (List.length_filter_le _ _) (by rw [List.length_take]; omega)
theorem Gr.push {W w : World} {v' : Value} {xs : List D} {x : D} (h : w.ownsRow W.heap.size 32 3 v' (xs.length + 1) (flat xs ++ x.cs)) : Gr W v' (xs ++ [x]) w := by
  unfold Gr
  rw [List.length_append, flat_append, flat_cons, flat_nil, List.append_nil]
  exact h
theorem Gr.lt {W w : World} {v : Value} {xs : List D} (h : Gr W v xs w) : ∀ k, v.ownBlock = some k → W.heap.size ≤ k ∧ k < w.heap.size := World.ownsRow.lt h
def RS (wc : World) (l : List D) (o : D) (g : Nat) (s5 s57 : Value) (wr : World) : Prop :=
  ∃ k : Nat, k ≤ l.length ∧ g = l.length - k ∧ s57 = .int .i64 k ∧ Gr wc s5 (nm (l.take k) o) wr ∧ Below wc.heap.size wc wr
set_option linter.unusedSimpArgs false
set_option maxRecDepth 100000 in
set_option maxHeartbeats 8000000 in
theorem rset_bad {p : Nat} {F : Nat → Prop} {l : List D} (o : D) (w : World) (h : RTb w p F l) (hio : isOp o = false) :
    Calls Try.prog 14 #[.pointer (some ⟨p, 0, none⟩), o.v] w fun e w' => e = .returned (.int .i64 (setE l o)) ∧ RNext w p F (setL l o) w' := by
  have HE := Lib.hid (And.intro (show setE l o = 1 by simp [setE, hio]) (And.intro (show setL l o = l by simp [setL, hio]) (RNext.below h (ba w (.cells o.cs.toArray 32)))))
  obtain ⟨n, k, p'⟩ := o
  simp only [D.v]
  simp only [D.cs] at HE
  have ex : Hid ((!(decide (n = []) || decide (n = [44]) || decide (n = [124]) || decide (n = [91, 93])) && decide (1 ≤ k ∧ k ≤ 5 ∧ 0 ≤ p' ∧ p' ≤ 1200 ∧ n.length ≤ 200)) = false) := Lib.hid hio
  clear hio h
  by_cases q1 : 1 ≤ k
  · by_cases q2 : k ≤ 5
    · by_cases q3 : 0 ≤ p'
      · by_cases q4 : p' ≤ 1200
        · by_cases h0 : n = []
          · subst h0
            clear ex
            go_enter Try.func14, Try.ntmps14; go_wp2_with fail; go_ret; exact ⟨by rw [HE.out.1]; rfl, by rw [HE.out.2.1]; exact HE.out.2.2⟩
          have he : n.isEmpty = false := by cases n <;> simp_all
          by_cases q5 : n.length ≤ 200
          · by_cases h1 : n = [44]
            · subst h1
              clear ex h0
              go_enter Try.func14, Try.ntmps14; go_wp2_with fail; go_ret; exact ⟨by rw [HE.out.1]; rfl, by rw [HE.out.2.1]; exact HE.out.2.2⟩
            have t1 : (n == [44]) = false := by rw [beq_eq_false_iff_ne]; exact h1
            by_cases h2 : n = [124]
            · subst h2
              clear ex h0 h1
              go_enter Try.func14, Try.ntmps14; go_wp2_with fail; go_ret; exact ⟨by rw [HE.out.1]; rfl, by rw [HE.out.2.1]; exact HE.out.2.2⟩
            have t2 : (n == [124]) = false := by rw [beq_eq_false_iff_ne]; exact h2
            by_cases h3 : n = [91, 93]
            · subst h3
              clear ex h0 h1 h2
              go_enter Try.func14, Try.ntmps14; go_wp2_with fail; go_ret; exact ⟨by rw [HE.out.1]; rfl, by rw [HE.out.2.1]; exact HE.out.2.2⟩
            have := ex.out
            simp [h0, h1, h2, h3, q1, q2, q3, q4, q5] at this
          · clear ex h0
            go_enter Try.func14, Try.ntmps14; go_wp2_with fail; go_ret; exact ⟨by rw [HE.out.1]; rfl, by rw [HE.out.2.1]; exact HE.out.2.2⟩
        · clear ex
          go_enter Try.func14, Try.ntmps14; go_wp2_with fail; go_ret; exact ⟨by rw [HE.out.1]; rfl, by rw [HE.out.2.1]; exact HE.out.2.2⟩
      · clear ex
        go_enter Try.func14, Try.ntmps14; go_wp2_with fail; go_ret; exact ⟨by rw [HE.out.1]; rfl, by rw [HE.out.2.1]; exact HE.out.2.2⟩
    · clear ex
      go_enter Try.func14, Try.ntmps14; go_wp2_with fail; go_ret; exact ⟨by rw [HE.out.1]; rfl, by rw [HE.out.2.1]; exact HE.out.2.2⟩
  · clear ex
    go_enter Try.func14, Try.ntmps14; go_wp2_with fail; go_ret; exact ⟨by rw [HE.out.1]; rfl, by rw [HE.out.2.1]; exact HE.out.2.2⟩
set_option maxRecDepth 100000 in
set_option maxHeartbeats 8000000 in
theorem rset_any {p : Nat} {F : Nat → Prop} {l : List D} (o : D) (w : World) (h : RTb w p F l) (hI : Inv l) :
    Calls Try.prog 14 #[.pointer (some ⟨p, 0, none⟩), o.v] w fun e w' => e = .returned (.int .i64 (setE l o)) ∧ RNext w p F (setL l o) w' := by
  cases hio : isOp o with
  | false => exact rset_bad o w h hio
  | true =>
  obtain ⟨a, c, hpb, hrw, hown, hF⟩ := h.ex
  have h0 : SP w p w.heap.size a c l o (w.alloc (.cells o.cs.toArray 32)) := ⟨((ba w _).block _ (Array.getElem?_eq_some_iff.1 hpb).1).trans hpb, hrw.below (ba _ _), alloc_at _ _, ba _ _⟩
  have HL : Hid (l.length ≤ 100) := Lib.hid hI.len
  have hf0 := one_cell hpb
  have HNM : Hid (nm l o = lo l o ++ hi l o) := Lib.hid (nm_eq hI.srt o)
  have H0 := Lib.hid (And.intro h0 (And.intro h (And.intro hI (And.intro hf0.1 hF))))
  have hok := isOp_ok hio
  have HO := Lib.hid (And.intro hio hok)
  obtain ⟨ti, hi1, hi2, hi3, hi4⟩ := info_o
  have HTI := Lib.hid (And.intro hi1 (And.intro hi2 (And.intro hi3 hi4)))
  clear hi1 hi2 hi3 hi4
  obtain ⟨n, k, q⟩ := o
  simp only [] at hok
  obtain ⟨q1, q2, q3, q4, q5, r0, r1, r2, r3⟩ := hok
  have he : n.isEmpty = false := by cases n <;> simp_all
  have t1 : (n == [44]) = false := by rw [beq_eq_false_iff_ne]; exact r1
  have t2 : (n == [124]) = false := by rw [beq_eq_false_iff_ne]; exact r2
  have t3 : (n == [91, 93]) = false := by rw [beq_eq_false_iff_ne]; exact r3
  obtain ⟨f0, g0⟩ := one_cell h0.cell
  simp only [D.cs] at f0 g0
  simp only [D.v]
  clear hpb hrw hown hF h0 h hI hio hf0 r0 r1 r2 r3
  obtain ⟨wc, hwc⟩ : ∃ wc, wc = w.alloc (Obj.cells (D.cs ⟨n, k, q⟩).toArray 32) := ⟨_, rfl⟩
  go_enter Try.func14, Try.ntmps14
  go_wp2_with fail
  clear q1 q2 q3 q4 q5 he t1 t2 t3 f0 g0
  go_loopg [5, 57] l.length (RS (w.alloc (Obj.cells (D.cs ⟨n, k, q⟩).toArray 32)) l ⟨n, k, q⟩)
  case atStart => exact ⟨0, by omega, by omega, rfl, Gr.nil _ _, br _⟩
  case round =>
    obtain ⟨j, hj, rfl, rfl, hgr, hbr⟩ := hrel
    have HR := Lib.hid (And.intro (H0.out.1.below hbr) (And.intro hgr hbr))
    obtain ⟨a3, c3, rfl⟩ := Gr.shape hgr
    clear hgr hbr
    by_cases hlt : j < l.length
    · obtain ⟨P, hP, _, e0, e1, e2, _, hix⟩ := HR.out.1.row.look hlt
      obtain ⟨x, hx⟩ : ∃ x, x = l[j] := ⟨_, rfl⟩
      rw [← hx] at e0 e1 e2
      have HX := Lib.hid hx
      have hg : decide ((j : Int) < l.length) = true := decide_eq_true (by omega)
      clear hx hP
      go_upto_region 7 with fail
      obtain ⟨xn, xk, xp⟩ := x
      simp only [] at e0 e1 e2
      have hbx := ba wr (.cells (D.cs ⟨xn, xk, xp⟩).toArray 32)
      obtain ⟨y0, y1, y2, _⟩ := box_cells (alloc_at wr (.cells (D.cs ⟨xn, xk, xp⟩).toArray 32))
      obtain ⟨z0, z1, z2, _⟩ := box_cells (HR.out.1.below hbx).box
      simp only [D.cs] at hbx y0 y1 y2 z0 z1 z2
      have hcl : Cl (wr.alloc (Obj.cells #[.string ⟨xn.toArray⟩, .int .i64 xk, .int .i64 xp] 32)) [(wr.heap.size, 0, .string ⟨xn.toArray⟩), (wr.heap.size, 1, .int .i64 xk), (wr.heap.size, 2, .int .i64 xp), (w.heap.size, 0, .string ⟨n.toArray⟩), (w.heap.size, 1, .int .i64 k), (w.heap.size, 2, .int .i64 q)] (wr.alloc (Obj.cells #[.string ⟨xn.toArray⟩, .int .i64 xk, .int .i64 xp] 32)) := ⟨by simp [y0, y1, y2, z0, z1, z2], br _⟩
      have key : xn ≠ n ∨ (xn = n ∧ fr xk ≠ fr k) ∨ (xn = n ∧ fr xk = fr k) := by
        by_cases e : xn = n
        · by_cases e' : fr xk = fr k
          · exact Or.inr (Or.inr ⟨e, e'⟩)
          · exact Or.inr (Or.inl ⟨e, e'⟩)
        · exact Or.inl e
      rcases key with hne | ⟨hxn, hne⟩ | ⟨hxn, heq⟩
      · have HMN : Hid (mn ⟨n, k, q⟩ ⟨xn, xk, xp⟩ = false) := Lib.hid (mn_n hne)
        have tne : (xn == n) = false := by rw [beq_eq_false_iff_ne]; exact hne
        clear hne hix hg e0 e1 e2
        refine wp_region_noPanic ?_
        refine wp_region_held_drew (S := (fun w' => w'.cell? ⟨wr.heap.size, 0, none⟩ = some (.string ⟨xn.toArray⟩) ∧ w'.cell? ⟨wr.heap.size, 1, none⟩ = some (.int .i64 xk) ∧ w'.cell? ⟨wr.heap.size, 2, none⟩ = some (.int .i64 xp) ∧ w'.cell? ⟨w.heap.size, 0, none⟩ = some (.string ⟨n.toArray⟩) ∧ w'.cell? ⟨w.heap.size, 1, none⟩ = some (.int .i64 k) ∧ w'.cell? ⟨w.heap.size, 2, none⟩ = some (.int .i64 q))) (by kernel_rfl) ?_ (fun hHeld => ?_)
        · (try dsimp only); first | (exact Cl.c6 (by assumption)) | (exact Cl.c6 (Cl.drew (by assumption))) | go_keep
        refine wpAnyH_take (i := 0) (v := ?_) rfl (by kernel_rfl) (by kernel_rfl) (by kernel_rfl) (fun _ _ _ h => h) (Or.inl ⟨by rfl, ?_⟩) (by assumption) ?_
        rotate_left
        · (intro w hSw; (try dsimp only at hSw); go_simp; first | done | with_reducible rfl)
        try simp only [Act.put, List.getElem_toArray, List.getElem_cons_zero, List.getElem_cons_succ, List.setIfInBounds_toArray, List.set_cons_zero, List.set_cons_succ]
        refine wpAnyH_take (i := 1) (v := ?_) rfl (by kernel_rfl) (by kernel_rfl) (by kernel_rfl) (fun _ _ _ h => h) (Or.inl ⟨by rfl, ?_⟩) (by assumption) ?_
        rotate_left
        · (intro w hSw; (try dsimp only at hSw); go_simp; first | done | with_reducible rfl)
        try simp only [Act.put, List.getElem_toArray, List.getElem_cons_zero, List.getElem_cons_succ, List.setIfInBounds_toArray, List.set_cons_zero, List.set_cons_succ]
        refine wpAnyH_take (i := 2) (v := ?_) rfl (by kernel_rfl) (by kernel_rfl) (by kernel_rfl) (fun _ _ _ h => h) (Or.inl ⟨by rfl, ?_⟩) (by assumption) ?_
        rotate_left
        · (intro w hSw; (try dsimp only at hSw); go_simp; first | done | with_reducible rfl)
        try simp only [Act.put, List.getElem_toArray, List.getElem_cons_zero, List.getElem_cons_succ, List.setIfInBounds_toArray, List.set_cons_zero, List.set_cons_succ]
        refine wpAnyH_take (i := 3) (v := ?_) rfl (by kernel_rfl) (by kernel_rfl) (by kernel_rfl) (fun _ _ _ h => h) (Or.inl ⟨by rfl, ?_⟩) (by assumption) ?_
        rotate_left
        · (intro w hSw; (try dsimp only at hSw); go_simp; first | done | with_reducible rfl)
        try simp only [Act.put, List.getElem_toArray, List.getElem_cons_zero, List.getElem_cons_succ, List.setIfInBounds_toArray, List.set_cons_zero, List.set_cons_succ]
        refine wpAnyH_take (i := 4) (v := ?_) rfl (by kernel_rfl) (by kernel_rfl) (by kernel_rfl) (fun _ _ _ h => h) (Or.inl ⟨by rfl, ?_⟩) (by assumption) ?_
        rotate_left
        · (intro w hSw; (try dsimp only at hSw); go_simp; first | done | with_reducible rfl)
        try simp only [Act.put, List.getElem_toArray, List.getElem_cons_zero, List.getElem_cons_succ, List.setIfInBounds_toArray, List.set_cons_zero, List.set_cons_succ]
        refine wpAnyH_take (i := 5) (v := ?_) rfl (by kernel_rfl) (by kernel_rfl) (by kernel_rfl) (fun _ _ _ h => h) (Or.inl ⟨by rfl, ?_⟩) (by assumption) ?_
        rotate_left
        · (intro w hSw; (try dsimp only at hSw); go_simp; first | done | with_reducible rfl)
        try simp only [Act.put, List.getElem_toArray, List.getElem_cons_zero, List.getElem_cons_succ, List.setIfInBounds_toArray, List.set_cons_zero, List.set_cons_succ]
        refine wpAnyH_take (i := 6) rfl (by kernel_rfl) (by kernel_rfl) (by kernel_rfl) (fun _ _ _ h => h) (Or.inr ⟨by rfl, rfl⟩) (by assumption) ?_
        try simp only [Act.put, List.getElem_toArray, List.getElem_cons_zero, List.getElem_cons_succ, List.setIfInBounds_toArray, List.set_cons_zero, List.set_cons_succ]
        refine wpAnyH_take (i := 7) rfl (by kernel_rfl) (by kernel_rfl) (by kernel_rfl) (fun _ _ _ h => h) (Or.inr ⟨by rfl, rfl⟩) (by assumption) ?_
        try simp only [Act.put, List.getElem_toArray, List.getElem_cons_zero, List.getElem_cons_succ, List.setIfInBounds_toArray, List.set_cons_zero, List.set_cons_succ]
        refine wpAnyH_take (i := 8) rfl (by kernel_rfl) (by kernel_rfl) (by kernel_rfl) (fun _ _ _ h => h) (Or.inr ⟨by rfl, rfl⟩) (by assumption) ?_
        try simp only [Act.put, List.getElem_toArray, List.getElem_cons_zero, List.getElem_cons_succ, List.setIfInBounds_toArray, List.set_cons_zero, List.set_cons_succ]
        refine wpAnyH_take (i := 9) rfl (by kernel_rfl) (by kernel_rfl) (by kernel_rfl) (fun _ _ _ h => h) (Or.inr ⟨by rfl, rfl⟩) (by assumption) ?_
        try simp only [Act.put, List.getElem_toArray, List.getElem_cons_zero, List.getElem_cons_succ, List.setIfInBounds_toArray, List.set_cons_zero, List.set_cons_succ]
        refine wpAnyH_take (i := 10) rfl (by kernel_rfl) (by kernel_rfl) (by kernel_rfl) (fun _ _ _ h => h) (Or.inr ⟨by rfl, rfl⟩) (by assumption) ?_
        try simp only [Act.put, List.getElem_toArray, List.getElem_cons_zero, List.getElem_cons_succ, List.setIfInBounds_toArray, List.set_cons_zero, List.set_cons_succ]
        refine wpAnyH_take (i := 11) (v := ?_) rfl (by kernel_rfl) (by kernel_rfl) (by kernel_rfl) (fun _ _ _ h => h) (Or.inl ⟨by rfl, ?_⟩) (by assumption) ?_
        rotate_left
        · (intro w hSw; (try dsimp only at hSw); go_simp; first | done | with_reducible rfl)
        try simp only [Act.put, List.getElem_toArray, List.getElem_cons_zero, List.getElem_cons_succ, List.setIfInBounds_toArray, List.set_cons_zero, List.set_cons_succ]
        refine wpAnyH_done (by kernel_rfl) ?_ _
        refine NoPanic.normal ?_
        obtain ⟨wN, hwN⟩ : ∃ wN, wN = (wr.alloc (Obj.cells #[.string ⟨xn.toArray⟩, .int .i64 xk, .int .i64 xp] 32)).drew := ⟨_, rfl⟩
        have hCN' : Cl (wr.alloc (Obj.cells #[.string ⟨xn.toArray⟩, .int .i64 xk, .int .i64 xp] 32)) [(wr.heap.size, 0, .string ⟨xn.toArray⟩), (wr.heap.size, 1, .int .i64 xk), (wr.heap.size, 2, .int .i64 xp), (w.heap.size, 0, .string ⟨n.toArray⟩), (w.heap.size, 1, .int .i64 k), (w.heap.size, 2, .int .i64 q)] wN := by rw [hwN]; exact hcl.drew
        have hbN' : Below wr.heap.size wr wN := bt hbx (hCN'.bel.mono (by simp))
        have H5 := Lib.hid (And.intro (HR.out.2.1.below hbN') (And.intro (HR.out.2.2.trans (hbN'.mono HR.out.2.2.size)) hCN'))
        rw [← hwN]
        clear hwN hcl hCN' hbN' hbx y0 y1 y2 z0 z1 z2 tne
        have HQ : Hid (nm (l.take (j + 1)) ⟨n, k, q⟩ = nm (l.take j) ⟨n, k, q⟩ ++ [⟨xn, xk, xp⟩]) := Lib.hid (by rw [nm_next _ hlt, ← HX.out, HMN.out]; rfl)
        obtain ⟨y0, y1, y2, _⟩ := Cl.c6 H5.out.2.2
        go_wp2_with (at_builtin; refine wpList_append_own_at _ rfl (.tmp 73) (.tmp 75) 22 rfl (w.alloc (Obj.cells (D.cs ⟨n, k, q⟩).toArray 32)).heap.size 32 ti ZV 3 32 Try.underlying22 HTI.out.1 HTI.out.2.1 HTI.out.2.2.1 HTI.out.2.2.2 rfl (by decide) _ _ _ rfl (H5.out.1.below (ba wN (.cells (D.cs ⟨xn, xk, xp⟩).toArray 32))) ⟨wN.heap.size, 0, none⟩ 1 1 (D.cs ⟨xn, xk, xp⟩) rfl rfl (box_at (alloc_at wN _)) (cs_one ⟨xn, xk, xp⟩) ?aa1 ?aa2 ?aa3 ?aa4)
        case aa1 => have := nm_le l ⟨n, k, q⟩ j; have := HL.out; unfold maxLen; omega
        case aa2 => have := nm_le l ⟨n, k, q⟩ j; have := HL.out; omega
        case aa3 => have := H5.out.2.1.size; simp; simp at this; omega
        case aa4 =>
          intro v' w9 hown hgrow _ _
          have hbk := ((Keep.of_below (F := fun k' => (Value.slice a3 (nm (l.take j) ⟨n, k, q⟩).length c3).ownBlock = some k') (ba wN (.cells (D.cs ⟨xn, xk, xp⟩).toArray 32))).trans (Keep.of_grown hgrow fun k e => e) fun _ => Or.inl).to_below (B := (w.alloc (Obj.cells (D.cs ⟨n, k, q⟩).toArray 32)).heap.size) (fun k' e => (Gr.lt H5.out.1 k' e).1) H5.out.2.1.size
          have H9 := Lib.hid (And.intro (Gr.push (W := w.alloc (Obj.cells (D.cs ⟨n, k, q⟩).toArray 32)) (by rw [show (w.alloc (Obj.cells (D.cs ⟨n, k, q⟩).toArray 32)).heap.size = w.heap.size + 1 by simp]; exact hown)) (H5.out.2.1.trans hbk))
          clear hown hgrow hbk y0 y1 y2
          go_wp2_with fail
          go_roundg (l.length - (j + 1))
          case measure => omega
          case rel => exact ⟨j + 1, hlt, rfl, by have := HL.out; rw [show wrap64 ((j : Int) + 1) = ((j + 1 : Nat) : Int) by unfold wrap64; omega], by rw [HQ.out]; exact H9.out.1, H9.out.2⟩
      · subst hxn
        have HMN : Hid (mn ⟨xn, k, q⟩ ⟨xn, xk, xp⟩ = false) := Lib.hid (mn_f hne)
        have hfb : fr xk = !fr k := by cases h1 : fr xk <;> cases h2 : fr k <;> simp_all
        have FA : Hid (∀ W, Calls Try.prog 31 #[.agg #[.string ⟨xn.toArray⟩, .int .i64 xk, .int .i64 xp]] W fun e w' => e = .returned (.bool (!fr k)) ∧ Below W.heap.size W w') := Lib.hid (fun W => by have := rfront_any ⟨xn, xk, xp⟩ W; rw [← hfb]; exact this)
        have FB : Hid (∀ W, Calls Try.prog 31 #[.agg #[.string ⟨xn.toArray⟩, .int .i64 k, .int .i64 q]] W fun e w' => e = .returned (.bool (fr k)) ∧ Below W.heap.size W w') := Lib.hid (fun W => rfront_any ⟨xn, k, q⟩ W)
        clear hne hfb
        generalize fr k = fk at FA FB
        cases fk
        all_goals
          clear hix hg e0 e1 e2
          go_region_held3 (fun w' => w'.cell? ⟨wr.heap.size, 0, none⟩ = some (.string ⟨xn.toArray⟩) ∧ w'.cell? ⟨wr.heap.size, 1, none⟩ = some (.int .i64 xk) ∧ w'.cell? ⟨wr.heap.size, 2, none⟩ = some (.int .i64 xp) ∧ w'.cell? ⟨w.heap.size, 0, none⟩ = some (.string ⟨xn.toArray⟩) ∧ w'.cell? ⟨w.heap.size, 1, none⟩ = some (.int .i64 k) ∧ w'.cell? ⟨w.heap.size, 2, none⟩ = some (.int .i64 q))
            (first | (exact Cl.c6 (by assumption)) | (exact Cl.c6 (Cl.drew (by assumption))) | go_keep)
            (first
              | (go_at_call 31; (first | (with_reducible refine (FA.out _).mono ?_) | (with_reducible refine (FB.out _).mono ?_)); rintro e wN ⟨rfl, hbN⟩; have hCN := Cl.below (by (first | assumption | exact Cl.drew (by assumption))) hbN; clear hbN))
          have hCN' := (by assumption : Cl (wr.alloc (Obj.cells #[.string ⟨xn.toArray⟩, .int .i64 xk, .int .i64 xp] 32)) [(wr.heap.size, 0, .string ⟨xn.toArray⟩), (wr.heap.size, 1, .int .i64 xk), (wr.heap.size, 2, .int .i64 xp), (w.heap.size, 0, .string ⟨xn.toArray⟩), (w.heap.size, 1, .int .i64 k), (w.heap.size, 2, .int .i64 q)] wN)
          have hbN' : Below wr.heap.size wr wN := bt hbx (hCN'.bel.mono (by simp))
          have H5 := Lib.hid (And.intro (HR.out.2.1.below hbN') (And.intro (HR.out.2.2.trans (hbN'.mono HR.out.2.2.size)) hCN'))
          clear hcl hCN hCN' hbN' hbx y0 y1 y2 z0 z1 z2
          have HQ : Hid (nm (l.take (j + 1)) ⟨xn, k, q⟩ = nm (l.take j) ⟨xn, k, q⟩ ++ [⟨xn, xk, xp⟩]) := Lib.hid (by rw [nm_next _ hlt, ← HX.out, HMN.out]; rfl)
          obtain ⟨y0, y1, y2, _⟩ := Cl.c6 H5.out.2.2
          go_wp2_with (at_builtin; refine wpList_append_own_at _ rfl (.tmp 73) (.tmp 75) 22 rfl (w.alloc (Obj.cells (D.cs ⟨xn, k, q⟩).toArray 32)).heap.size 32 ti ZV 3 32 Try.underlying22 HTI.out.1 HTI.out.2.1 HTI.out.2.2.1 HTI.out.2.2.2 rfl (by decide) _ _ _ rfl (H5.out.1.below (ba wN (.cells (D.cs ⟨xn, xk, xp⟩).toArray 32))) ⟨wN.heap.size, 0, none⟩ 1 1 (D.cs ⟨xn, xk, xp⟩) rfl rfl (box_at (alloc_at wN _)) (cs_one ⟨xn, xk, xp⟩) ?bb1 ?bb2 ?bb3 ?bb4)
          case bb1 => have := nm_le l ⟨xn, k, q⟩ j; have := HL.out; unfold maxLen; omega
          case bb2 => have := nm_le l ⟨xn, k, q⟩ j; have := HL.out; omega
          case bb3 => have := H5.out.2.1.size; simp; simp at this; omega
          case bb4 =>
            intro v' w9 hown hgrow _ _
            have hbk := ((Keep.of_below (F := fun k' => (Value.slice a3 (nm (l.take j) ⟨xn, k, q⟩).length c3).ownBlock = some k') (ba wN (.cells (D.cs ⟨xn, xk, xp⟩).toArray 32))).trans (Keep.of_grown hgrow fun k e => e) fun _ => Or.inl).to_below (B := (w.alloc (Obj.cells (D.cs ⟨xn, k, q⟩).toArray 32)).heap.size) (fun k' e => (Gr.lt H5.out.1 k' e).1) H5.out.2.1.size
            have H9 := Lib.hid (And.intro (Gr.push (W := w.alloc (Obj.cells (D.cs ⟨xn, k, q⟩).toArray 32)) (by rw [show (w.alloc (Obj.cells (D.cs ⟨xn, k, q⟩).toArray 32)).heap.size = w.heap.size + 1 by simp]; exact hown)) (H5.out.2.1.trans hbk))
            clear hown hgrow hbk y0 y1 y2
            go_wp2_with fail
            go_roundg (l.length - (j + 1))
            case measure => omega
            case rel => exact ⟨j + 1, hlt, rfl, by have := HL.out; rw [show wrap64 ((j : Int) + 1) = ((j + 1 : Nat) : Int) by unfold wrap64; omega], by rw [HQ.out]; exact H9.out.1, H9.out.2⟩
      · subst hxn
        have HMN : Hid (mn ⟨xn, k, q⟩ ⟨xn, xk, xp⟩ = true) := Lib.hid (mn_t heq)
        have FA : Hid (∀ W, Calls Try.prog 31 #[.agg #[.string ⟨xn.toArray⟩, .int .i64 xk, .int .i64 xp]] W fun e w' => e = .returned (.bool (fr k)) ∧ Below W.heap.size W w') := Lib.hid (fun W => by have := rfront_any ⟨xn, xk, xp⟩ W; rw [← heq]; exact this)
        have FB : Hid (∀ W, Calls Try.prog 31 #[.agg #[.string ⟨xn.toArray⟩, .int .i64 k, .int .i64 q]] W fun e w' => e = .returned (.bool (fr k)) ∧ Below W.heap.size W w') := Lib.hid (fun W => rfront_any ⟨xn, k, q⟩ W)
        clear heq
        generalize fr k = fk at FA FB
        cases fk
        all_goals
          clear hix hg e0 e1 e2
          go_region_held3 (fun w' => w'.cell? ⟨wr.heap.size, 0, none⟩ = some (.string ⟨xn.toArray⟩) ∧ w'.cell? ⟨wr.heap.size, 1, none⟩ = some (.int .i64 xk) ∧ w'.cell? ⟨wr.heap.size, 2, none⟩ = some (.int .i64 xp) ∧ w'.cell? ⟨w.heap.size, 0, none⟩ = some (.string ⟨xn.toArray⟩) ∧ w'.cell? ⟨w.heap.size, 1, none⟩ = some (.int .i64 k) ∧ w'.cell? ⟨w.heap.size, 2, none⟩ = some (.int .i64 q))
            (first | (exact Cl.c6 (by assumption)) | (exact Cl.c6 (Cl.drew (by assumption))) | go_keep)
            (first
              | (go_at_call 31; (first | (with_reducible refine (FA.out _).mono ?_) | (with_reducible refine (FB.out _).mono ?_)); rintro e wN ⟨rfl, hbN⟩; have hCN := Cl.below (by (first | assumption | exact Cl.drew (by assumption))) hbN; clear hbN))
          have hCN' := (by assumption : Cl (wr.alloc (Obj.cells #[.string ⟨xn.toArray⟩, .int .i64 xk, .int .i64 xp] 32)) [(wr.heap.size, 0, .string ⟨xn.toArray⟩), (wr.heap.size, 1, .int .i64 xk), (wr.heap.size, 2, .int .i64 xp), (w.heap.size, 0, .string ⟨xn.toArray⟩), (w.heap.size, 1, .int .i64 k), (w.heap.size, 2, .int .i64 q)] wN)
          have hbN' : Below wr.heap.size wr wN := bt hbx (hCN'.bel.mono (by simp))
          have H5 := Lib.hid (And.intro (HR.out.2.1.below hbN') (And.intro (HR.out.2.2.trans (hbN'.mono HR.out.2.2.size)) hCN'))
          clear hcl hCN hCN' hbN' hbx y0 y1 y2 z0 z1 z2
          have HQ : Hid (nm (l.take (j + 1)) ⟨xn, k, q⟩ = nm (l.take j) ⟨xn, k, q⟩) := Lib.hid (by rw [nm_next _ hlt, ← HX.out, HMN.out]; simp)
          go_wp2_with fail
          go_roundg (l.length - (j + 1))
          case measure => omega
          case rel => exact ⟨j + 1, hlt, rfl, by have := HL.out; rw [show wrap64 ((j : Int) + 1) = ((j + 1 : Nat) : Int) by unfold wrap64; omega], by rw [HQ.out]; exact H5.out.1, H5.out.2.1⟩
    · have hjl : j = l.length := by omega
      subst hjl
      have hR2 : Gr (w.alloc (Obj.cells (D.cs ⟨n, k, q⟩).toArray 32)) (.slice a3 (nm l ⟨n, k, q⟩).length c3) (nm l ⟨n, k, q⟩) wr := by have := HR.out.2.1; rw [List.take_length] at this; exact this
      obtain ⟨z0, z1, z2, _⟩ := box_cells HR.out.1.box
      obtain ⟨f0, g0⟩ := one_cell HR.out.1.cell
      have hpw : p < w.heap.size := H0.out.2.1.lt p H0.out.2.1.mine
      have hput : RNext w p F (nm l ⟨n, k, q⟩) (wr.setCell ⟨p, 0, none⟩ (.slice a3 (nm l ⟨n, k, q⟩).length c3)) :=
        RNext.put H0.out.2.1 H0.out.2.2.2.1 (Keep.of_below HR.out.1.bel) (Gr.rw_ hR2) (fun k' e => Or.inr (by have := (Gr.lt hR2 k' e).1; simp at this; omega))
      have hpn : p ≠ w.heap.size := by omega
      have y0 : (wr.setCell ⟨p, 0, none⟩ (.slice a3 (nm l ⟨n, k, q⟩).length c3)).cell? ⟨w.heap.size, 0, none⟩ = some (.string ⟨n.toArray⟩) := (World.cell?_setCell_far _ _ _ _ hpn).trans z0
      have y1 : (wr.setCell ⟨p, 0, none⟩ (.slice a3 (nm l ⟨n, k, q⟩).length c3)).cell? ⟨w.heap.size, 1, none⟩ = some (.int .i64 k) := (World.cell?_setCell_far _ _ _ _ hpn).trans z1
      have y2 : (wr.setCell ⟨p, 0, none⟩ (.slice a3 (nm l ⟨n, k, q⟩).length c3)).cell? ⟨w.heap.size, 2, none⟩ = some (.int .i64 q) := (World.cell?_setCell_far _ _ _ _ hpn).trans z2
      have hg : decide ((l.length : Int) < l.length) = false := by simp
      have HP := Lib.hid (And.intro hput (And.intro (RNext.below H0.out.2.1 HR.out.1.bel) (show (nm l ⟨n, k, q⟩).length ≤ 100 by have := nm_le l ⟨n, k, q⟩ l.length; rw [List.take_length] at this; have := HL.out; omega)))
      have HQ : Hid (0 ≤ q) := Lib.hid HO.out.2.2.2.1
      rw [List.take_length]
      clear hput hR2 hpn hpw hlt
      by_cases hq : q = 0
      · subst hq
        have HE := Lib.hid (And.intro (show setE l ⟨n, k, 0⟩ = 0 by simp [setE, HO.out.1]) (show setL l ⟨n, k, 0⟩ = nm l ⟨n, k, 0⟩ by simp only [setL, HO.out.1]; rw [if_neg (by simp), if_pos trivial, HNM.out]))
        go_wp2_with fail
        go_ret
        exact ⟨by rw [HE.out.1]; rfl, by rw [HE.out.2]; exact HP.out.1⟩
      · have hq1 : 0 < q := by have := HQ.out; omega
        by_cases hf : 100 ≤ (nm l ⟨n, k, q⟩).length
        · have HE := Lib.hid (And.intro (show setE l ⟨n, k, q⟩ = 8 by simp only [setE, HO.out.1]; rw [if_neg (by simp), if_neg hq, if_pos (by rw [← HNM.out]; exact hf)]) (show setL l ⟨n, k, q⟩ = l by simp only [setL, HO.out.1]; rw [if_neg (by simp), if_neg hq, if_pos (by rw [← HNM.out]; exact hf)]))
          have hge : decide (100 ≤ ((nm l ⟨n, k, q⟩).length : Int)) = true := decide_eq_true (by omega)
          go_wp2_with fail
          go_ret
          exact ⟨by rw [HE.out.1]; rfl, by rw [HE.out.2]; exact HP.out.2.1⟩
        · have HE := Lib.hid (And.intro (show setE l ⟨n, k, q⟩ = 0 by simp only [setE, HO.out.1]; rw [if_neg (by simp), if_neg hq, if_neg (by rw [← HNM.out]; exact hf)]) (show setL l ⟨n, k, q⟩ = ins (nm l ⟨n, k, q⟩) ⟨n, k, q⟩ by simp only [setL, HO.out.1]; rw [if_neg (by simp), if_neg hq, if_neg (by rw [← HNM.out]; exact hf), ins_nm]))
          have hge : decide (100 ≤ ((nm l ⟨n, k, q⟩).length : Int)) = false := decide_eq_false (by omega)
          obtain ⟨F', ht, hk', hF'⟩ := HP.out.1
          have HT := Lib.hid (And.intro ht (And.intro hk' hF'))
          clear ht hk' hF' hf hq
          go_wp2_with fail
          refine (rput_any ⟨n, k, q⟩ _ HT.out.1 (by rw [HNM.out]; exact srt_rest H0.out.2.2.1.srt _) (is_nm _ _) (by have := HP.out.2.2; omega)).mono ?_
          rintro e w5 ⟨rfl, hN⟩
          have H5 := Lib.hid hN
          clear hN
          go_wp2_with fail
          go_ret
          exact ⟨by rw [HE.out.1]; rfl, by rw [HE.out.2]; exact RNext.trans HT.out.2.1 HT.out.2.2 H5.out⟩
end Go.Proofs.Ytnpdipmkikakcaa.opu
