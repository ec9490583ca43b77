/- The law OrderCompares holds: for every input its Go function returns true and leaves its arguments as they were. No condition beyond the row's own. -/
import Derived.Test.YtgkcbiabkpcblaaRows
import Derived.WalkKit
import Derived.ProofKit
import Derived.OpenShut
import Derived.SizedLaws
import Derived.Test.YtgkcbiabkpcblaaTOpen
import Derived.Test.YtgkcbiabkpcblaaLgt
import Derived.Test.YtgkcbiabkpcblaaOrW
import Derived.Deep.RegionHeld3
namespace Go.Proofs.Ytgkcbiabkpcblaa.orderCompares
open Go.ChangeShapes Go.WideShapes Go.ChangeAt Go.RowKit
open Go.ChangeMaps (open_string)
open Go.Proofs.Ytgkcbiabkpcblaa.tm Go.Proofs.Ytgkcbiabkpcblaa.lie Go.Proofs.Ytgkcbiabkpcblaa.kp Go.Proofs.Ytgkcbiabkpcblaa.top
set_option linter.unusedVariables false
theorem own : ownKnob Try.prog.godebug = none := by kernel_rfl
theorem laidOut : laidOutB Try.prog = true := by kernel_rfl
open Go.Proofs.Ytgkcbiabkpcblaa.tm Go.Proofs.Ytgkcbiabkpcblaa.lie Go.Proofs.Ytgkcbiabkpcblaa.kp Go.Proofs.Ytgkcbiabkpcblaa.mes Go.Proofs.Ytgkcbiabkpcblaa.vrs Go.Proofs.Ytgkcbiabkpcblaa.awk Go.Proofs.Ytgkcbiabkpcblaa.lgt Go.Proofs.Ytgkcbiabkpcblaa.cur Go.Proofs.Ytgkcbiabkpcblaa.rws Go.Proofs.Ytgkcbiabkpcblaa.sme Go.Proofs.Ytgkcbiabkpcblaa.pla Go.Proofs.Ytgkcbiabkpcblaa.rmy Go.Proofs.Ytgkcbiabkpcblaa.rsm Go.Proofs.Ytgkcbiabkpcblaa.odm Go.Proofs.Ytgkcbiabkpcblaa.odc Go.Proofs.Ytgkcbiabkpcblaa.odd Go.Proofs.Ytgkcbiabkpcblaa.odw Go.Proofs.Ytgkcbiabkpcblaa.odb
set_option linter.unusedSimpArgs false in
set_option maxRecDepth 100000 in
set_option maxHeartbeats 16000000 in
theorem walk (w : World) (v0 : Value) (t0 : Tm) (x0 : Lies No w t0 v0) (v1 : Value) (t1 : Tm) (x1 : Lies No w t1 v1) :
    Calls Try.prog 3 #[v0, v1] w fun e w' => e = .returned (.bool true) ∧ Below w.heap.size w w' := by
  obtain ⟨A, hA⟩ : ∃ A, A = t0 := ⟨_, rfl⟩
  obtain ⟨B, hB⟩ : ∃ B, B = t1 := ⟨_, rfl⟩
  obtain ⟨k, n, i, re, im, l⟩ := t0
  obtain ⟨k', n', i', re', im', l'⟩ := t1
  have HL := Lib.hid (And.intro (show Lies No w A v0 from hA ▸ x0) (show Lies No w B v1 from hB ▸ x1))
  rw [Lies] at x0 x1
  obtain ⟨aa, ca, rfl, hf, hr⟩ := x0
  obtain ⟨ab, cb, rfl, hf', hr'⟩ := x1
  clear hf hr hf' hr' hA hB
  have hS0 := TB.mk w #[.int .i64 k, .string n, .int .i64 i, .int .u64 re, .int .u64 im, .slice aa l.length ca] #[.int .i64 k', .string n', .int .i64 i', .int .u64 re', .int .u64 im', .slice ab l'.length cb]
  obtain ⟨x, hx⟩ : ∃ x, ordR A B = x := ⟨_, rfl⟩
  have CAB := Lib.hid (fun W (h : TB w #[.int .i64 k, .string n, .int .i64 i, .int .u64 re, .int .u64 im, .slice aa l.length ca] #[.int .i64 k', .string n', .int .i64 i', .int .u64 re', .int .u64 im', .slice ab l'.length cb] W) => (show Calls Try.prog 11 #[.agg #[.int .i64 k, .string n, .int .i64 i, .int .u64 re, .int .u64 im, .slice aa l.length ca], .agg #[.int .i64 k', .string n', .int .i64 i', .int .u64 re', .int .u64 im', .slice ab l'.length cb]] W fun e w' => e = .returned (.int .i64 x) ∧ TB w #[.int .i64 k, .string n, .int .i64 i, .int .u64 re, .int .u64 im, .slice aa l.length ca] #[.int .i64 k', .string n', .int .i64 i', .int .u64 re', .int .u64 im', .slice ab l'.length cb] w' from by
    have := order_any A B _ _ W (HL.out.1.below h.2.2) (HL.out.2.below h.2.2)
    rw [hx] at this
    exact this.mono fun e w' q => ⟨q.1, h.below q.2⟩))
  have RAB := Lib.hid (fun W (h : TB w #[.int .i64 k, .string n, .int .i64 i, .int .u64 re, .int .u64 im, .slice aa l.length ca] #[.int .i64 k', .string n', .int .i64 i', .int .u64 re', .int .u64 im', .slice ab l'.length cb] W) => (show Calls Try.prog 12 #[.agg #[.int .i64 k, .string n, .int .i64 i, .int .u64 re, .int .u64 im, .slice aa l.length ca], .agg #[.int .i64 k', .string n', .int .i64 i', .int .u64 re', .int .u64 im', .slice ab l'.length cb]] W fun e w' => e = .returned (.int .i64 x) ∧ TB w #[.int .i64 k, .string n, .int .i64 i, .int .u64 re, .int .u64 im, .slice aa l.length ca] #[.int .i64 k', .string n', .int .i64 i', .int .u64 re', .int .u64 im', .slice ab l'.length cb] w' from by
    have := rcompare_any A B _ _ W (HL.out.1.below h.2.2) (HL.out.2.below h.2.2)
    rw [hx] at this
    exact this.mono fun e w' q => ⟨q.1, h.below q.2⟩))
  have AWK := Lib.hid (fun W (h : TB w #[.int .i64 k, .string n, .int .i64 i, .int .u64 re, .int .u64 im, .slice aa l.length ca] #[.int .i64 k', .string n', .int .i64 i', .int .u64 re', .int .u64 im', .slice ab l'.length cb] W) => (show Calls Try.prog 13 #[] W fun e w' => e = .returned (.bool true) ∧ TB w #[.int .i64 k, .string n, .int .i64 i, .int .u64 re, .int .u64 im, .slice aa l.length ca] #[.int .i64 k', .string n', .int .i64 i', .int .u64 re', .int .u64 im', .slice ab l'.length cb] w' from (awake_any W).mono fun e w' q => ⟨q.1, h.below q.2⟩))
  have hxx : (x == x) = true := by simp
  clear hx
  obtain ⟨e0, e1, e2, e3, e4, e5, f0, f1, f2, f3, f4, f5⟩ := hS0.cells
  go_enter Try.func3, Try.ntmps3
  go_wp2_with fail
  generalize hw1 : ((w.alloc (.cells #[.int .i64 k, .string n, .int .i64 i, .int .u64 re, .int .u64 im, .slice aa l.length ca] 25)).alloc (.cells #[.int .i64 k', .string n', .int .i64 i', .int .u64 re', .int .u64 im', .slice ab l'.length cb] 25)) = w1 at hS0 e0 e1 e2 e3 e4 e5 f0 f1 f2 f3 f4 f5 ⊢
  clear hw1
  refine wp_region_noPanic ?_
  refine wp_region_held_drew (S := (fun w' => w'.cell? ⟨w.heap.size, 0, none⟩ = some (.int .i64 k) ∧ w'.cell? ⟨w.heap.size, 1, none⟩ = some (.string n) ∧ w'.cell? ⟨w.heap.size, 2, none⟩ = some (.int .i64 i) ∧ w'.cell? ⟨w.heap.size, 3, none⟩ = some (.int .u64 re) ∧ w'.cell? ⟨w.heap.size, 4, none⟩ = some (.int .u64 im) ∧ w'.cell? ⟨w.heap.size, 5, none⟩ = some (.slice aa l.length ca) ∧ w'.cell? ⟨w.heap.size + 1, 0, none⟩ = some (.int .i64 k') ∧ w'.cell? ⟨w.heap.size + 1, 1, none⟩ = some (.string n') ∧ w'.cell? ⟨w.heap.size + 1, 2, none⟩ = some (.int .i64 i') ∧ w'.cell? ⟨w.heap.size + 1, 3, none⟩ = some (.int .u64 re') ∧ w'.cell? ⟨w.heap.size + 1, 4, none⟩ = some (.int .u64 im') ∧ w'.cell? ⟨w.heap.size + 1, 5, none⟩ = some (.slice ab l'.length cb))) (by kernel_rfl) ?_ (fun hHeld => ?_)
  · (try dsimp only); first | (exact TB.cells (by assumption)) | (exact TB.cells (TB.below (by assumption) (bdr _))) | go_keep
  refine wpAnyH_take (i := 0) (v := ?_) rfl (by kernel_rfl) (by kernel_rfl) (by kernel_rfl) (fun _ _ _ h => h) (Or.inl ⟨by rfl, ?_⟩) (by assumption) ?_
  rotate_left
  · (intro w hSw; (try dsimp only at hSw); go_simp; first | done | with_reducible rfl)
  try simp only [Act.put, List.getElem_toArray, List.getElem_cons_zero, List.getElem_cons_succ, List.setIfInBounds_toArray, List.set_cons_zero, List.set_cons_succ]
  refine wpAnyH_take (i := 1) (v := ?_) rfl (by kernel_rfl) (by kernel_rfl) (by kernel_rfl) (fun _ _ _ h => h) (Or.inl ⟨by rfl, ?_⟩) (by assumption) ?_
  rotate_left
  · (intro w hSw; (try dsimp only at hSw); go_simp; first | done | with_reducible rfl)
  try simp only [Act.put, List.getElem_toArray, List.getElem_cons_zero, List.getElem_cons_succ, List.setIfInBounds_toArray, List.set_cons_zero, List.set_cons_succ]
  refine wpAnyH_ready (rs := [2]) (by kernel_rfl) (by simp) ?_
  refine AllReadyH.cons rfl (fun K hK => ?_) AllReadyH.nil
  go_simp
  have hSB := TB.below (TB.below hS0 (bdr _)) (ba _ (.cells #[Value.int .i64 k, Value.string n, Value.int .i64 i, Value.int .u64 re, Value.int .u64 im, Value.slice aa l.length ca, Value.int .i64 k', Value.string n', Value.int .i64 i', Value.int .u64 re', Value.int .u64 im', Value.slice ab l'.length cb] 25))
  refine hK.out _ _ ?_ (fun hHeld => ?_)
  · (try dsimp only); first | (exact TB.cells (by assumption)) | (exact TB.cells (TB.below (by assumption) (bdr _))) | go_keep
  clear hK K
  try simp only [Act.put, List.getElem_toArray, List.getElem_cons_zero, List.getElem_cons_succ, List.setIfInBounds_toArray, List.set_cons_zero, List.set_cons_succ]
  refine wpAnyH_ready (rs := [3]) (by kernel_rfl) (by simp) ?_
  refine AllReadyH.cons rfl (fun K hK => ?_) AllReadyH.nil
  go_simp
  refine (Light_any [A, B] (some ⟨_, 0, none⟩) 2 _ ?_ (by simp)).mono ?_
  · have h3 := hS0.2.2
    have := row_new (w1.drew) #[Value.int .i64 k, Value.string n, Value.int .i64 i, Value.int .u64 re, Value.int .u64 im, Value.slice aa l.length ca, Value.int .i64 k', Value.string n', Value.int .i64 i', Value.int .u64 re', Value.int .u64 im', Value.slice ab l'.length cb] [A, B] (fun m hm => by
      match m, hm with
      | 0, _ => exact ⟨_, _, _, _, _, _, rfl, rfl, rfl, rfl, rfl, rfl, (HL.out.1.below h3).below (bdr _)⟩
      | 1, _ => exact ⟨_, _, _, _, _, _, rfl, rfl, rfl, rfl, rfl, rfl, (HL.out.2.below h3).below (bdr _)⟩
      | m + 2, hm => exact absurd hm (by simp))
    exact this
  rintro e wN ⟨b, rfl, hbN⟩
  have hSN := TB.below hSB hbN
  clear hbN
  go_wp2_with fail
  refine hK.out _ _ ?_ (fun hHeld => ?_)
  · (try dsimp only); first | (exact TB.cells (by assumption)) | (exact TB.cells (TB.below (by assumption) (bdr _))) | go_keep
  clear hK K
  try simp only [Act.put, List.getElem_toArray, List.getElem_cons_zero, List.getElem_cons_succ, List.setIfInBounds_toArray, List.set_cons_zero, List.set_cons_succ]
  cases b
  · refine wpAnyH_take (i := 4) (v := ?_) rfl (by kernel_rfl) (by kernel_rfl) (by kernel_rfl) (fun _ _ _ h => h) (Or.inl ⟨by rfl, ?_⟩) (by assumption) ?_
    rotate_left
    · (intro w hSw; (try dsimp only at hSw); go_simp; first | done | with_reducible rfl)
    try simp only [Act.put, List.getElem_toArray, List.getElem_cons_zero, List.getElem_cons_succ, List.setIfInBounds_toArray, List.set_cons_zero, List.set_cons_succ]
    refine wpAnyH_take (i := 5) (v := ?_) rfl (by kernel_rfl) (by kernel_rfl) (by kernel_rfl) (fun _ _ _ h => h) (Or.inl ⟨by rfl, ?_⟩) (by assumption) ?_
    rotate_left
    · (intro w hSw; (try dsimp only at hSw); go_simp; first | done | with_reducible rfl)
    try simp only [Act.put, List.getElem_toArray, List.getElem_cons_zero, List.getElem_cons_succ, List.setIfInBounds_toArray, List.set_cons_zero, List.set_cons_succ]
    refine wpAnyH_take (i := 6) rfl (by kernel_rfl) (by kernel_rfl) (by kernel_rfl) (fun _ _ _ h => h) (Or.inr ⟨by rfl, rfl⟩) (by assumption) ?_
    try simp only [Act.put, List.getElem_toArray, List.getElem_cons_zero, List.getElem_cons_succ, List.setIfInBounds_toArray, List.set_cons_zero, List.set_cons_succ]
    refine wpAnyH_take (i := 7) rfl (by kernel_rfl) (by kernel_rfl) (by kernel_rfl) (fun _ _ _ h => h) (Or.inr ⟨by rfl, rfl⟩) (by assumption) ?_
    try simp only [Act.put, List.getElem_toArray, List.getElem_cons_zero, List.getElem_cons_succ, List.setIfInBounds_toArray, List.set_cons_zero, List.set_cons_succ]
    refine wpAnyH_take (i := 8) rfl (by kernel_rfl) (by kernel_rfl) (by kernel_rfl) (fun _ _ _ h => h) (Or.inr ⟨by rfl, rfl⟩) (by assumption) ?_
    try simp only [Act.put, List.getElem_toArray, List.getElem_cons_zero, List.getElem_cons_succ, List.setIfInBounds_toArray, List.set_cons_zero, List.set_cons_succ]
    refine wpAnyH_take (i := 9) rfl (by kernel_rfl) (by kernel_rfl) (by kernel_rfl) (fun _ _ _ h => h) (Or.inr ⟨by rfl, rfl⟩) (by assumption) ?_
    try simp only [Act.put, List.getElem_toArray, List.getElem_cons_zero, List.getElem_cons_succ, List.setIfInBounds_toArray, List.set_cons_zero, List.set_cons_succ]
    refine wpAnyH_take (i := 10) rfl (by kernel_rfl) (by kernel_rfl) (by kernel_rfl) (fun _ _ _ h => h) (Or.inr ⟨by rfl, rfl⟩) (by assumption) ?_
    try simp only [Act.put, List.getElem_toArray, List.getElem_cons_zero, List.getElem_cons_succ, List.setIfInBounds_toArray, List.set_cons_zero, List.set_cons_succ]
    refine wpAnyH_take (i := 11) rfl (by kernel_rfl) (by kernel_rfl) (by kernel_rfl) (fun _ _ _ h => h) (Or.inr ⟨by rfl, rfl⟩) (by assumption) ?_
    try simp only [Act.put, List.getElem_toArray, List.getElem_cons_zero, List.getElem_cons_succ, List.setIfInBounds_toArray, List.set_cons_zero, List.set_cons_succ]
    refine wpAnyH_take (i := 12) rfl (by kernel_rfl) (by kernel_rfl) (by kernel_rfl) (fun _ _ _ h => h) (Or.inr ⟨by rfl, rfl⟩) (by assumption) ?_
    try simp only [Act.put, List.getElem_toArray, List.getElem_cons_zero, List.getElem_cons_succ, List.setIfInBounds_toArray, List.set_cons_zero, List.set_cons_succ]
    refine wpAnyH_take (i := 13) rfl (by kernel_rfl) (by kernel_rfl) (by kernel_rfl) (fun _ _ _ h => h) (Or.inr ⟨by rfl, rfl⟩) (by assumption) ?_
    try simp only [Act.put, List.getElem_toArray, List.getElem_cons_zero, List.getElem_cons_succ, List.setIfInBounds_toArray, List.set_cons_zero, List.set_cons_succ]
    refine wpAnyH_take (i := 14) rfl (by kernel_rfl) (by kernel_rfl) (by kernel_rfl) (fun _ _ _ h => h) (Or.inr ⟨by rfl, rfl⟩) (by assumption) ?_
    try simp only [Act.put, List.getElem_toArray, List.getElem_cons_zero, List.getElem_cons_succ, List.setIfInBounds_toArray, List.set_cons_zero, List.set_cons_succ]
    refine wpAnyH_take (i := 15) rfl (by kernel_rfl) (by kernel_rfl) (by kernel_rfl) (fun _ _ _ h => h) (Or.inr ⟨by rfl, rfl⟩) (by assumption) ?_
    try simp only [Act.put, List.getElem_toArray, List.getElem_cons_zero, List.getElem_cons_succ, List.setIfInBounds_toArray, List.set_cons_zero, List.set_cons_succ]
    refine wpAnyH_take (i := 16) (v := ?_) rfl (by kernel_rfl) (by kernel_rfl) (by kernel_rfl) (fun _ _ _ h => h) (Or.inl ⟨by rfl, ?_⟩) (by assumption) ?_
    rotate_left
    · (intro w hSw; (try dsimp only at hSw); go_simp; first | done | with_reducible rfl)
    try simp only [Act.put, List.getElem_toArray, List.getElem_cons_zero, List.getElem_cons_succ, List.setIfInBounds_toArray, List.set_cons_zero, List.set_cons_succ]
    refine wpAnyH_take (i := 17) (v := ?_) rfl (by kernel_rfl) (by kernel_rfl) (by kernel_rfl) (fun _ _ _ h => h) (Or.inl ⟨by rfl, ?_⟩) (by assumption) ?_
    rotate_left
    · (intro w hSw; (try dsimp only at hSw); go_simp; first | done | with_reducible rfl)
    try simp only [Act.put, List.getElem_toArray, List.getElem_cons_zero, List.getElem_cons_succ, List.setIfInBounds_toArray, List.set_cons_zero, List.set_cons_succ]
    refine wpAnyH_done (by kernel_rfl) ?_ _
    refine NoPanic.normal ?_
    go_wp2_with fail
    go_ret
    exact ⟨rfl, (by assumption : TB w #[.int .i64 k, .string n, .int .i64 i, .int .u64 re, .int .u64 im, .slice aa l.length ca] #[.int .i64 k', .string n', .int .i64 i', .int .u64 re', .int .u64 im', .slice ab l'.length cb] _).2.2⟩
  · refine wpAnyH_take (i := 4) (v := ?_) rfl (by kernel_rfl) (by kernel_rfl) (by kernel_rfl) (fun _ _ _ h => h) (Or.inl ⟨by rfl, ?_⟩) (by assumption) ?_
    rotate_left
    · (intro w hSw; (try dsimp only at hSw); go_simp; first | done | with_reducible rfl)
    try simp only [Act.put, List.getElem_toArray, List.getElem_cons_zero, List.getElem_cons_succ, List.setIfInBounds_toArray, List.set_cons_zero, List.set_cons_succ]
    refine wpAnyH_take (i := 5) (v := ?_) rfl (by kernel_rfl) (by kernel_rfl) (by kernel_rfl) (fun _ _ _ h => h) (Or.inl ⟨by rfl, ?_⟩) (by assumption) ?_
    rotate_left
    · (intro w hSw; (try dsimp only at hSw); go_simp; first | done | with_reducible rfl)
    try simp only [Act.put, List.getElem_toArray, List.getElem_cons_zero, List.getElem_cons_succ, List.setIfInBounds_toArray, List.set_cons_zero, List.set_cons_succ]
    refine wpAnyH_take (i := 6) (v := ?_) rfl (by kernel_rfl) (by kernel_rfl) (by kernel_rfl) (fun _ _ _ h => h) (Or.inl ⟨by rfl, ?_⟩) (by assumption) ?_
    rotate_left
    · (intro w hSw; (try dsimp only at hSw); go_simp; first | done | with_reducible rfl)
    try simp only [Act.put, List.getElem_toArray, List.getElem_cons_zero, List.getElem_cons_succ, List.setIfInBounds_toArray, List.set_cons_zero, List.set_cons_succ]
    refine wpAnyH_take (i := 7) (v := ?_) rfl (by kernel_rfl) (by kernel_rfl) (by kernel_rfl) (fun _ _ _ h => h) (Or.inl ⟨by rfl, ?_⟩) (by assumption) ?_
    rotate_left
    · (intro w hSw; (try dsimp only at hSw); go_simp; first | done | with_reducible rfl)
    try simp only [Act.put, List.getElem_toArray, List.getElem_cons_zero, List.getElem_cons_succ, List.setIfInBounds_toArray, List.set_cons_zero, List.set_cons_succ]
    refine wpAnyH_take (i := 9) (v := ?_) rfl (by kernel_rfl) (by kernel_rfl) (by kernel_rfl) (fun _ _ _ h => h) (Or.inl ⟨by rfl, ?_⟩) (by assumption) ?_
    rotate_left
    · (intro w hSw; (try dsimp only at hSw); go_simp; first | done | with_reducible rfl)
    try simp only [Act.put, List.getElem_toArray, List.getElem_cons_zero, List.getElem_cons_succ, List.setIfInBounds_toArray, List.set_cons_zero, List.set_cons_succ]
    refine wpAnyH_take (i := 10) (v := ?_) rfl (by kernel_rfl) (by kernel_rfl) (by kernel_rfl) (fun _ _ _ h => h) (Or.inl ⟨by rfl, ?_⟩) (by assumption) ?_
    rotate_left
    · (intro w hSw; (try dsimp only at hSw); go_simp; first | done | with_reducible rfl)
    try simp only [Act.put, List.getElem_toArray, List.getElem_cons_zero, List.getElem_cons_succ, List.setIfInBounds_toArray, List.set_cons_zero, List.set_cons_succ]
    refine wpAnyH_ready (rs := [8]) (by kernel_rfl) (by simp) ?_
    refine AllReadyH.cons rfl (fun K hK => ?_) AllReadyH.nil
    go_simp
    refine (CAB.out _ ?_).mono ?_
    · (first | assumption | exact TB.below (by assumption) (bdr _))
    rintro e wN ⟨rfl, hSN⟩
    go_wp2_with fail
    refine hK.out _ _ ?_ (fun hHeld => ?_)
    · (try dsimp only); first | (exact TB.cells (by assumption)) | (exact TB.cells (TB.below (by assumption) (bdr _))) | go_keep
    clear hK K
    try simp only [Act.put, List.getElem_toArray, List.getElem_cons_zero, List.getElem_cons_succ, List.setIfInBounds_toArray, List.set_cons_zero, List.set_cons_succ]
    refine wpAnyH_ready (rs := [11]) (by kernel_rfl) (by simp) ?_
    refine AllReadyH.cons rfl (fun K hK => ?_) AllReadyH.nil
    go_simp
    refine (RAB.out _ ?_).mono ?_
    · (first | assumption | exact TB.below (by assumption) (bdr _))
    rintro e wN ⟨rfl, hSN⟩
    go_wp2_with fail
    refine hK.out _ _ ?_ (fun hHeld => ?_)
    · (try dsimp only); first | (exact TB.cells (by assumption)) | (exact TB.cells (TB.below (by assumption) (bdr _))) | go_keep
    clear hK K
    try simp only [Act.put, List.getElem_toArray, List.getElem_cons_zero, List.getElem_cons_succ, List.setIfInBounds_toArray, List.set_cons_zero, List.set_cons_succ]
    refine wpAnyH_take (i := 12) (v := ?_) rfl (by kernel_rfl) (by kernel_rfl) (by kernel_rfl) (fun _ _ _ h => h) (Or.inl ⟨by rfl, ?_⟩) (by assumption) ?_
    rotate_left
    · (intro w hSw; (try dsimp only at hSw); go_simp; first | done | with_reducible rfl)
    try simp only [Act.put, List.getElem_toArray, List.getElem_cons_zero, List.getElem_cons_succ, List.setIfInBounds_toArray, List.set_cons_zero, List.set_cons_succ]
    refine wpAnyH_take (i := 13) (v := ?_) rfl (by kernel_rfl) (by kernel_rfl) (by kernel_rfl) (fun _ _ _ h => h) (Or.inl ⟨by rfl, ?_⟩) (by assumption) ?_
    rotate_left
    · (intro w hSw; (try dsimp only at hSw); go_simp; first | done | with_reducible rfl)
    try simp only [Act.put, List.getElem_toArray, List.getElem_cons_zero, List.getElem_cons_succ, List.setIfInBounds_toArray, List.set_cons_zero, List.set_cons_succ]
    refine wpAnyH_ready (rs := [14]) (by kernel_rfl) (by simp) ?_
    refine AllReadyH.cons rfl (fun K hK => ?_) AllReadyH.nil
    go_simp
    refine (AWK.out _ ?_).mono ?_
    · (first | assumption | exact TB.below (by assumption) (bdr _))
    rintro e wN ⟨rfl, hSN⟩
    go_wp2_with fail
    refine hK.out _ _ ?_ (fun hHeld => ?_)
    · (try dsimp only); first | (exact TB.cells (by assumption)) | (exact TB.cells (TB.below (by assumption) (bdr _))) | go_keep
    clear hK K
    try simp only [Act.put, List.getElem_toArray, List.getElem_cons_zero, List.getElem_cons_succ, List.setIfInBounds_toArray, List.set_cons_zero, List.set_cons_succ]
    refine wpAnyH_take (i := 15) (v := ?_) rfl (by kernel_rfl) (by kernel_rfl) (by kernel_rfl) (fun _ _ _ h => h) (Or.inl ⟨by rfl, ?_⟩) (by assumption) ?_
    rotate_left
    · (intro w hSw; (try dsimp only at hSw); go_simp; first | done | with_reducible rfl)
    try simp only [Act.put, List.getElem_toArray, List.getElem_cons_zero, List.getElem_cons_succ, List.setIfInBounds_toArray, List.set_cons_zero, List.set_cons_succ]
    refine wpAnyH_take (i := 16) (v := ?_) rfl (by kernel_rfl) (by kernel_rfl) (by kernel_rfl) (fun _ _ _ h => h) (Or.inl ⟨by rfl, ?_⟩) (by assumption) ?_
    rotate_left
    · (intro w hSw; (try dsimp only at hSw); go_simp; first | done | with_reducible rfl)
    try simp only [Act.put, List.getElem_toArray, List.getElem_cons_zero, List.getElem_cons_succ, List.setIfInBounds_toArray, List.set_cons_zero, List.set_cons_succ]
    refine wpAnyH_take (i := 17) (v := ?_) rfl (by kernel_rfl) (by kernel_rfl) (by kernel_rfl) (fun _ _ _ h => h) (Or.inl ⟨by rfl, ?_⟩) (by assumption) ?_
    rotate_left
    · (intro w hSw; (try dsimp only at hSw); go_simp; first | done | with_reducible rfl)
    try simp only [Act.put, List.getElem_toArray, List.getElem_cons_zero, List.getElem_cons_succ, List.setIfInBounds_toArray, List.set_cons_zero, List.set_cons_succ]
    refine wpAnyH_done (by kernel_rfl) ?_ _
    refine NoPanic.normal ?_
    go_wp2_with fail
    go_ret
    exact ⟨rfl, (by assumption : TB w #[.int .i64 k, .string n, .int .i64 i, .int .u64 re, .int .u64 im, .slice aa l.length ca] #[.int .i64 k', .string n', .int .i64 i', .int .u64 re', .int .u64 im', .slice ab l'.length cb] _).2.2⟩
set_option maxRecDepth 100000 in
theorem lifted (os : Os) (started : os.Started) (H : Type) (enc : TypeId × Value → H) :
    ReturnsInHanded {} Try.checked os 3 .any (Rows.orderComparesSpec.pre6 enc Try.prog Try.f3 Rows.orderComparesRow.domain false) (Rows.orderComparesSpec.post enc Try.prog Try.f3 false true false false) := by
  refine returnsInHanded_of_change_sized (C := Try.checked) own started (by kernel_rfl) Try.func3
    (ChangeSpec.witness6 (enc := enc) (C := Try.checked) false ⟨#[], #[.agg #[.int .i64 0, .string ⟨#[]⟩, .int .i64 0, .int .u64 0, .int .u64 0, .slice none 0 0], .agg #[.int .i64 0, .string ⟨#[]⟩, .int .i64 0, .int .u64 0, .int .u64 0, .slice none 0 0]], []⟩ 8 (by kernel_rfl) (by kernel_rfl) (by kernel_rfl) (by kernel_rfl)) ?_
  intro W base args ds gs before hval0 hW _ hsz0 _
  have hsz : (DataW.weightsEach Try.prog (Try.f3.params.toList ++ Rows.orderComparesSpec.plain.varTypes Try.prog) (ds ++ gs)).all (· ≤ reachBytes) = true := hsz0
  clear hsz0
  have hval : ∀ (j : Nat) t v, Try.f3.params[j]? = some t → args[j]? = some v → Value.okWide Try.prog W .any base t v := hval0
  have hW' := hW
  obtain ⟨p, q, hA0, hV, rfl, hfz, hnd⟩ := hW
  have hA : DataW.TrodAll enc Try.prog W 0 (fun _ => true) true Try.f3.params.toList args.toList ds p := hA0
  rw [Try.params3] at hA hval hsz
  obtain ⟨v0, vs0, d0, ds0, p0, q0, hargs, rfl, rfl, h0, r0⟩ := trodAll_cons hA
  obtain ⟨v1, vs1, d1, ds1, p1, q1, rfl, rfl, rfl, h1, r1⟩ := trodAll_cons r0
  obtain ⟨rfl, rfl, rfl⟩ := trodAll_nil r1
  obtain rfl : args = #[v0, v1] := by cases args; simp_all
  obtain ⟨rfl, rfl⟩ := trodVars_none hV
  simp only [List.append_nil] at hW'
  have lt0 : ∀ x ∈ p0, x.block < W.heap.size := fun x hx => by
    have := hW'.lt x (by simp [hx])
    simpa using this
  have k0 := h0
  have lt1 : ∀ x ∈ p1, x.block < W.heap.size := fun x hx => by
    have := hW'.lt x (by simp [hx])
    simpa using this
  have k1 := h1
  obtain ⟨t0, x0⟩ := term_arg (by obtain ⟨cs, hcs, _⟩ := okWide_struct Try.underlying25 (hval 0 25 v0 rfl rfl); exact ⟨cs, hcs⟩) h0
  obtain ⟨t1, x1⟩ := term_arg (by obtain ⟨cs, hcs, _⟩ := okWide_struct Try.underlying25 (hval 1 25 v1 rfl rfl); exact ⟨cs, hcs⟩) h1
  clear hA0 hval0
  refine (walk W v0 t0 x0 v1 t1 x1).mono fun e W' ⟨he, hg⟩ => ?_
  subst he
  have ha := (trodAll_cons_mk (Below.trod laidOut (by kernel_rfl) (of_decide_eq_true (by kernel_rfl)) k0 hg lt0) (trodAll_cons_mk (Below.trod laidOut (by kernel_rfl) (of_decide_eq_true (by kernel_rfl)) k1 hg lt1) trodAll_mk0))
  refine ⟨_, rfl, _, _, _, [], _, [], hW', ?_, ha, rfl, hg.frame _, fun h => by cases h⟩
  exact (trodAll_cons_mk (shut_bool Try.underlying4 _) trodAll_mk0)
/-- THE STATEMENT. -/
theorem proved : Rows.OrderComparesSaid :=
  OpenClaim.holds_of_wide 3 Try.f3 rfl rfl rfl rfl rfl rfl rfl ⟨rfl, rfl, rfl, rfl, rfl⟩ rfl rfl rfl rfl rfl (by kernel_rfl) Try.func3 (by kernel_rfl)
    (of_decide_eq_true (by kernel_rfl)) (by unfold Func.isWrapper; first | (rw [if_pos (by decide +kernel)]; kernel_rfl) | (rw [if_neg (by decide +kernel)]; exact ⟨rfl, rfl⟩))
    (fun os started H enc _ => lifted os started H enc)
#print axioms proved
end Go.Proofs.Ytgkcbiabkpcblaa.orderCompares
