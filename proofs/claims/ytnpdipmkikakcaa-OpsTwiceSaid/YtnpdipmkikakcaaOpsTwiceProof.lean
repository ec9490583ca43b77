/- The law OpsTwice holds: for every input its Go function returns true and leaves its arguments as they were. No condition beyond the row's own. -/
import Derived.Test.YtnpdipmkikakcaaRows
import Derived.WalkKit
import Derived.ProofKit
import Derived.OpenShut
import Derived.SizedLaws
import Derived.Test.YtnpdipmkikakcaaOpQ
namespace Go.Proofs.Ytnpdipmkikakcaa.opsTwice
open Go.ChangeShapes Go.WideShapes Go.ChangeAt Go.RowKit
open Go.ChangeMaps (open_string)
set_option linter.unusedVariables false
theorem own : ownKnob Try.prog.godebug = none := by kernel_rfl
theorem laidOut : laidOutB Try.prog = true := by kernel_rfl
open Go.Proofs.Ytnpdipmkikakcaa.kp Go.Proofs.Ytnpdipmkikakcaa.opa Go.Proofs.Ytnpdipmkikakcaa.opb Go.Proofs.Ytnpdipmkikakcaa.opc Go.Proofs.Ytnpdipmkikakcaa.opd Go.Proofs.Ytnpdipmkikakcaa.ope Go.Proofs.Ytnpdipmkikakcaa.opf Go.Proofs.Ytnpdipmkikakcaa.opg Go.Proofs.Ytnpdipmkikakcaa.oph Go.Proofs.Ytnpdipmkikakcaa.opi Go.Proofs.Ytnpdipmkikakcaa.opj Go.Proofs.Ytnpdipmkikakcaa.opk Go.Proofs.Ytnpdipmkikakcaa.opl Go.Proofs.Ytnpdipmkikakcaa.opm Go.Proofs.Ytnpdipmkikakcaa.opn Go.Proofs.Ytnpdipmkikakcaa.opq
theorem front_any (x : D) (w : World) : Calls Try.prog 22 #[x.v] w fun e w' => e = .returned (.bool (fr x.k)) ∧ Below w.heap.size w w' := by
  have HB := Lib.hid (ba w (.cells x.cs.toArray 32))
  obtain ⟨n, k, p⟩ := x
  simp only [D.v]
  by_cases h4 : k = 4
  · subst h4
    go_enter Try.func22, Try.ntmps22; go_wp2; go_ret; exact ⟨rb (by decide), HB.out⟩
  · have e4 : (k == 4) = false := by rw [beq_eq_false_iff_ne]; exact h4
    by_cases h5 : k = 5
    · subst h5
      go_enter Try.func22, Try.ntmps22; go_wp2; go_ret; exact ⟨rb (by decide), HB.out⟩
    · have e5 : (k == 5) = false := by rw [beq_eq_false_iff_ne]; exact h5
      have e : Hid (fr k = false) := Lib.hid (by simp [fr, h4, h5])
      clear h4 h5
      go_enter Try.func22, Try.ntmps22; go_wp2; go_ret; exact ⟨rb e.out.symm, HB.out⟩
theorem start_tt {w w1 w2 : World} {x y : D} {p q : Nat} (h1 : Made ((w.alloc (.cells x.cs.toArray 32)).alloc (.cells y.cs.toArray 32)) newL p w1) (h2 : Made w1 newL q w2) :
    TT w [(w.heap.size, x), (w.heap.size + 1, y)] p q newL newL w2 := by
  obtain ⟨F, a, b, c⟩ := h1
  obtain ⟨G, a', b', c'⟩ := h2
  have hs : ((w.alloc (.cells x.cs.toArray 32)).alloc (.cells y.cs.toArray 32)).heap.size = w.heap.size + 1 + 1 := by simp
  have t2 := T2.mk' w x y
  have hb := b.size
  refine ⟨⟨F, G, a.below b', a', fun k f g => by have := a.lt k f; have := c' k g; omega, fun k f => ⟨by have := c k f; omega, ?_⟩, fun k g => ⟨by have := c' k g; omega, ?_⟩⟩, ?_, t2.bel.trans ((bt b b').mono t2.bel.size)⟩
  · intro z hz e
    have := c k f
    simp only [List.mem_cons, List.not_mem_nil, or_false] at hz
    rcases hz with rfl | rfl <;> (simp at e; omega)
  · intro z hz e
    have := c' k g
    simp only [List.mem_cons, List.not_mem_nil, or_false] at hz
    rcases hz with rfl | rfl <;> (simp at e; omega)
  · have t := t2.below (bt b b')
    intro z hz
    simp only [List.mem_cons, List.not_mem_nil, or_false] at hz
    rcases hz with rfl | rfl
    · exact t.a
    · exact t.b
theorem TTc3 {w w1 : World} {x y : D} {p q : Nat} {l m : List D} (h : TT w [(w.heap.size, x), (w.heap.size + 1, y)] p q l m w1) : w1.cell? ⟨w.heap.size, 0, none⟩ = some (.string ⟨x.n.toArray⟩) ∧ w1.cell? ⟨w.heap.size, 1, none⟩ = some (.int .i64 x.k) ∧ w1.cell? ⟨w.heap.size, 2, none⟩ = some (.int .i64 x.p) := by
  obtain ⟨a, b, c, _⟩ := h.cells (b := w.heap.size) (o := x) (by simp)
  exact ⟨a, b, c⟩
theorem TTc6 {w w1 : World} {x y : D} {p q : Nat} {l m : List D} (h : TT w [(w.heap.size, x), (w.heap.size + 1, y)] p q l m w1) : w1.cell? ⟨w.heap.size, 0, none⟩ = some (.string ⟨x.n.toArray⟩) ∧ w1.cell? ⟨w.heap.size, 1, none⟩ = some (.int .i64 x.k) ∧ w1.cell? ⟨w.heap.size, 2, none⟩ = some (.int .i64 x.p) ∧
    w1.cell? ⟨w.heap.size + 1, 0, none⟩ = some (.string ⟨y.n.toArray⟩) ∧ w1.cell? ⟨w.heap.size + 1, 1, none⟩ = some (.int .i64 y.k) ∧ w1.cell? ⟨w.heap.size + 1, 2, none⟩ = some (.int .i64 y.p) := by
  obtain ⟨a, b, c, _⟩ := h.cells (b := w.heap.size) (o := x) (by simp)
  obtain ⟨a', b', c', _⟩ := h.cells (b := w.heap.size + 1) (o := y) (by simp)
  exact ⟨a, b, c, a', b', c'⟩
theorem TT.with_new {w w1 w2 : World} {X : List (Nat × D)} {p q v : Nat} {l m l' : List D} (h : TT w X p q l m w1) (hm : Made w1 l' v w2) : TT w X p v l l' w2 := by
  obtain ⟨F, G, a, b, c, d, e⟩ := h.ex
  obtain ⟨G', t, b', c'⟩ := hm
  refine ⟨⟨F, G', a.below b', t, fun k f g => by have := a.lt k f; have := c' k g; omega, d, fun k g => ⟨Nat.le_trans h.bel.size (c' k g), fun x hx q => ?_⟩⟩, (h.below b').box, (h.below b').bel⟩
  have := (Array.getElem?_eq_some_iff.1 (h.box x hx)).1
  have := c' k g
  omega
theorem setE_cases (l : List D) (o : D) : setE l o = 0 ∨ setE l o = 1 ∨ setE l o = 8 := by unfold setE; (repeat' split) <;> simp
theorem TT.name {w w1 : World} {x y : D} {p q : Nat} {l m : List D} (h : TT w [(w.heap.size, x), (w.heap.size + 1, y)] p q l m w1) : TT w [(w.heap.size, x), (w.heap.size + 1, ⟨x.n, y.k, y.p⟩)] p q l m (w1.setCell ⟨w.heap.size + 1, 0, none⟩ (.string ⟨x.n.toArray⟩)) := by
  obtain ⟨F, G, a, b, c, d, e⟩ := h.ex
  have k := Keep.setCell (F := fun k => k = w.heap.size + 1) w1 (p := ⟨w.heap.size + 1, 0, none⟩) rfl (.string ⟨x.n.toArray⟩)
  have h0 := h.box (w.heap.size, x) (by simp)
  have h1 := h.box (w.heap.size + 1, y) (by simp)
  have hsz := (Array.getElem?_eq_some_iff.1 h1).1
  have df : ∀ k, F k → w.heap.size ≤ k ∧ k ≠ w.heap.size ∧ k ≠ w.heap.size + 1 := fun k hk => ⟨(d k hk).1, fun q => (d k hk).2 (w.heap.size, x) (by simp) q.symm, fun q => (d k hk).2 (w.heap.size + 1, y) (by simp) q.symm⟩
  have dg : ∀ k, G k → w.heap.size ≤ k ∧ k ≠ w.heap.size ∧ k ≠ w.heap.size + 1 := fun k hk => ⟨(e k hk).1, fun q => (e k hk).2 (w.heap.size, x) (by simp) q.symm, fun q => (e k hk).2 (w.heap.size + 1, y) (by simp) q.symm⟩
  refine ⟨⟨F, G, a.keep k (fun j hj q => (df j hj).2.2 q), b.keep k (fun j hj q => (dg j hj).2.2 q), c, fun j hj => ⟨(df j hj).1, ?_⟩, fun j hj => ⟨(dg j hj).1, ?_⟩⟩, ?_, h.bel.trans (k.to_below (fun j e => by omega) h.bel.size)⟩
  · intro z hz q
    have := df j hj
    simp only [List.mem_cons, List.not_mem_nil, or_false] at hz
    rcases hz with rfl | rfl <;> (simp at q; omega)
  · intro z hz q
    have := dg j hj
    simp only [List.mem_cons, List.not_mem_nil, or_false] at hz
    rcases hz with rfl | rfl <;> (simp at q; omega)
  · intro z hz
    simp only [List.mem_cons, List.not_mem_nil, or_false] at hz
    rcases hz with rfl | rfl
    · exact (k.block _ (by omega) (by omega)).trans h0
    · simp only [World.setCell, Array.getElem?_modify, h1]
      simp [D.cs]
set_option linter.unusedSimpArgs false
set_option maxRecDepth 100000 in
set_option maxHeartbeats 8000000 in
theorem walk (w : World) (d0 : opa.D) (d1 : opa.D) :
    Calls Try.prog 8 #[d0.v, d1.v] w fun e w' => e = .returned (.bool true) ∧ Below w.heap.size w w' := by
  have HL : Hid (newL.length ≤ 100) := Lib.hid newL_inv.len
  obtain ⟨n, k, pp⟩ := d0
  obtain ⟨n', k', pp'⟩ := d1
  simp only [D.v]
  go_enter Try.func8, Try.ntmps8
  go_wp2_with fail
  refine (new_any _).mono ?_
  rintro e w1 ⟨p, rfl, hp, hm1⟩
  have H1 := Lib.hid hm1
  clear hm1 hp
  go_wp2_with fail
  refine (new_any _).mono ?_
  rintro e w2 ⟨q, rfl, hq, hm2⟩
  have hT : TT w [(w.heap.size, ⟨n, k, pp⟩), (w.heap.size + 1, ⟨n', k', pp'⟩)] p q newL newL w2 := start_tt (x := ⟨n, k, pp⟩) (y := ⟨n', k', pp'⟩) H1.out hm2
  clear hm2 hq H1
  obtain ⟨e0, e1, e2, _⟩ := hT.cells (b := w.heap.size) (o := ⟨n, k, pp⟩) (by simp)
  go_wp2_with fail
  go_region_held3 (fun w' => w'.cell? ⟨w.heap.size, 0, none⟩ = some (.string ⟨n.toArray⟩) ∧ w'.cell? ⟨w.heap.size, 1, none⟩ = some (.int .i64 k) ∧ w'.cell? ⟨w.heap.size, 2, none⟩ = some (.int .i64 pp))
    (first | (exact TTc3 (by assumption)) | (exact TTc3 (TT.drew (by assumption))) | go_keep)
    (first
      | (go_at_call 13; refine (TT.set (by first | assumption | exact TT.drew (by assumption)) (by first | exact newL_inv | exact newL_inv.setL _) ⟨n, k, pp⟩).mono ?_; rintro e wN ⟨rfl, hTN⟩))
  have hT2 := (by assumption : TT w [(w.heap.size, ⟨n, k, pp⟩), (w.heap.size + 1, ⟨n', k', pp'⟩)] p q (setL (setL newL ⟨n, k, pp⟩) ⟨n, k, pp⟩) newL _)
  rw [setL_same] at hT2
  rw [setE_set newL (cd_self _)]
  have HT2 := Lib.hid hT2
  obtain ⟨e0, e1, e2, _⟩ := hT2.cells (b := w.heap.size) (o := ⟨n, k, pp⟩) (by simp)
  clear hT2
  go_wp2_with fail
  refine (HT2.out.set2 newL_inv ⟨n, k, pp⟩).mono ?_
  rintro e w3 ⟨rfl, hT3⟩
  have HT3 := Lib.hid hT3
  clear hT3 e0 e1 e2
  generalize hea : setE newL ⟨n, k, pp⟩ = ea
  generalize hl1 : setL newL ⟨n, k, pp⟩ = l1 at HT3
  have hI1 : Inv l1 := by rw [← hl1]; exact newL_inv.setL _
  have H9 := Lib.hid (And.intro hea (And.intro hl1 hI1))
  clear hea hl1 hI1
  have hee : (ea != ea) = false := by simp
  go_wp2_with fail
  refine (HT3.out.all (by have := H9.out.2.2.len; omega)).mono ?_
  rintro e w4 ⟨a4, c4, rfl, hr4, hT4, hb4⟩
  have H4 := Lib.hid (And.intro hr4 hT4)
  clear hr4 hT4 hb4
  go_wp2_with fail
  refine (H4.out.2.all2 (by have := H9.out.2.2.len; omega)).mono ?_
  rintro e w5 ⟨a5, c5, rfl, hr5, hT5, hb5⟩
  have H5 := Lib.hid (And.intro (H4.out.1.below hb5) (And.intro hr5 hT5))
  clear hr5 hT5 hb5
  go_wp2_with fail
  refine (same_any _ H5.out.1 H5.out.2.1 (by have := H9.out.2.2.len; omega)).mono ?_
  rintro e w6 ⟨rfl, hb6⟩
  have H6 := Lib.hid (H5.out.2.2.below hb6)
  rw [decide_eq_true rfl]
  clear hb6
  obtain ⟨e0, e1, e2, _⟩ := H6.out.cells (b := w.heap.size) (o := ⟨n, k, pp⟩) (by simp)
  obtain ⟨f0, f1, f2, hff⟩ := H6.out.cells (b := w.heap.size + 1) (o := ⟨n', k', pp'⟩) (by simp)
  have g0 := hff 0
  clear hff
  go_wp2_with fail
  obtain ⟨w7, hw7⟩ : ∃ w7, w7 = w6.setCell ⟨w.heap.size + 1, 0, none⟩ (.string ⟨n.toArray⟩) := ⟨_, rfl⟩
  have hT7 : TT w [(w.heap.size, ⟨n, k, pp⟩), (w.heap.size + 1, ⟨n, k', pp'⟩)] p q l1 l1 w7 := by rw [hw7]; exact TT.name H6.out
  rw [← hw7]
  clear hw7 e0 e1 e2 f0 f1 f2 g0
  obtain ⟨e0, e1, e2, _⟩ := hT7.cells (b := w.heap.size) (o := ⟨n, k, pp⟩) (by simp)
  obtain ⟨f0, f1, f2, _⟩ := hT7.cells (b := w.heap.size + 1) (o := ⟨n, k', pp'⟩) (by simp)
  generalize he3 : setE l1 ⟨n, k', pp'⟩ = e3
  have HE3 := Lib.hid he3
  clear he3
  go_cut [52] from 36 to 52 (fun s wx => s = .bool ((e3 != 0) || ((ea != 0) || (fr k != fr k'))) ∧ TT w [(w.heap.size, ⟨n, k, pp⟩), (w.heap.size + 1, ⟨n, k', pp'⟩)] p q (setL l1 ⟨n, k', pp'⟩) l1 wx)
  case first =>
    have c3 := setE_cases l1 ⟨n, k', pp'⟩
    have ca := setE_cases newL ⟨n, k, pp⟩
    rw [HE3.out] at c3
    rw [H9.out.1] at ca
    have key : e3 = 1 ∨ e3 = 8 ∨ (e3 = 0 ∧ ea = 1) ∨ (e3 = 0 ∧ ea = 8) ∨ (e3 = 0 ∧ ea = 0) := by omega
    clear c3 ca
    have fa := fun W => front_any ⟨n, k, pp⟩ W
    have fb := fun W => front_any ⟨n, k', pp'⟩ W
    simp only [D.v] at fa fb
    have FA := Lib.hid fa
    have FB := Lib.hid fb
    clear fa fb
    have HS3 := fun (w' : World) => @TTc6 w w' ⟨n, k, pp⟩ ⟨n, k', pp'⟩ p q
    rcases key with rfl | rfl | ⟨rfl, rfl⟩ | ⟨rfl, rfl⟩ | ⟨rfl, rfl⟩
    · refine wp_region_noPanic ?_
      refine wp_region_held_drew (S := (fun w' => w'.cell? ⟨w.heap.size, 0, none⟩ = some (.string ⟨n.toArray⟩) ∧ w'.cell? ⟨w.heap.size, 1, none⟩ = some (.int .i64 k) ∧ w'.cell? ⟨w.heap.size, 2, none⟩ = some (.int .i64 pp) ∧ w'.cell? ⟨w.heap.size + 1, 0, none⟩ = some (.string ⟨n.toArray⟩) ∧ w'.cell? ⟨w.heap.size + 1, 1, none⟩ = some (.int .i64 k') ∧ w'.cell? ⟨w.heap.size + 1, 2, none⟩ = some (.int .i64 pp'))) (by kernel_rfl) ?_ (fun hHeld => ?_)
      · (try dsimp only); first | (exact HS3 _ (by assumption)) | (exact HS3 _ (TT.drew (by assumption))) | go_keep
      refine wpAnyH_take (i := 0) (v := ?_) rfl (by kernel_rfl) (by kernel_rfl) (by kernel_rfl) (fun _ _ _ h => h) (Or.inl ⟨by rfl, ?_⟩) (by assumption) ?_
      rotate_left
      · (intro w hSw; (try dsimp only at hSw); go_simp; first | done | with_reducible rfl)
      try simp only [Act.put, List.getElem_toArray, List.getElem_cons_zero, List.getElem_cons_succ, List.setIfInBounds_toArray, List.set_cons_zero, List.set_cons_succ]
      refine wpAnyH_take (i := 1) (v := ?_) rfl (by kernel_rfl) (by kernel_rfl) (by kernel_rfl) (fun _ _ _ h => h) (Or.inl ⟨by rfl, ?_⟩) (by assumption) ?_
      rotate_left
      · (intro w hSw; (try dsimp only at hSw); go_simp; first | done | with_reducible rfl)
      try simp only [Act.put, List.getElem_toArray, List.getElem_cons_zero, List.getElem_cons_succ, List.setIfInBounds_toArray, List.set_cons_zero, List.set_cons_succ]
      refine wpAnyH_ready (rs := [2]) (by kernel_rfl) (by simp) ?_
      refine AllReadyH.cons rfl (fun K hK => ?_) AllReadyH.nil
      go_simp
      refine (TT.set (by first | assumption | exact TT.drew (by assumption)) H9.out.2.2 ⟨n, k', pp'⟩).mono ?_
      rintro e wN ⟨rfl, hTN⟩
      rw [HE3.out]
      go_wp2_with fail
      refine hK.out _ _ ?_ (fun hHeld => ?_)
      · (try dsimp only); first | (exact HS3 _ (by assumption)) | (exact HS3 _ (TT.drew (by assumption))) | go_keep
      clear hK K
      try simp only [Act.put, List.getElem_toArray, List.getElem_cons_zero, List.getElem_cons_succ, List.setIfInBounds_toArray, List.set_cons_zero, List.set_cons_succ]
      refine wpAnyH_take (i := 3) (v := ?_) rfl (by kernel_rfl) (by kernel_rfl) (by kernel_rfl) (fun _ _ _ h => h) (Or.inl ⟨by rfl, ?_⟩) (by assumption) ?_
      rotate_left
      · (intro w hSw; (try dsimp only at hSw); go_simp; first | done | with_reducible rfl)
      try simp only [Act.put, List.getElem_toArray, List.getElem_cons_zero, List.getElem_cons_succ, List.setIfInBounds_toArray, List.set_cons_zero, List.set_cons_succ]
      refine wpAnyH_take (i := 4) (v := ?_) rfl (by kernel_rfl) (by kernel_rfl) (by kernel_rfl) (fun _ _ _ h => h) (Or.inl ⟨by rfl, ?_⟩) (by assumption) ?_
      rotate_left
      · (intro w hSw; (try dsimp only at hSw); go_simp; first | done | with_reducible rfl)
      try simp only [Act.put, List.getElem_toArray, List.getElem_cons_zero, List.getElem_cons_succ, List.setIfInBounds_toArray, List.set_cons_zero, List.set_cons_succ]
      refine wpAnyH_take (i := 5) rfl (by kernel_rfl) (by kernel_rfl) (by kernel_rfl) (fun _ _ _ h => h) (Or.inr ⟨by rfl, rfl⟩) (by assumption) ?_
      try simp only [Act.put, List.getElem_toArray, List.getElem_cons_zero, List.getElem_cons_succ, List.setIfInBounds_toArray, List.set_cons_zero, List.set_cons_succ]
      refine wpAnyH_take (i := 6) rfl (by kernel_rfl) (by kernel_rfl) (by kernel_rfl) (fun _ _ _ h => h) (Or.inr ⟨by rfl, rfl⟩) (by assumption) ?_
      try simp only [Act.put, List.getElem_toArray, List.getElem_cons_zero, List.getElem_cons_succ, List.setIfInBounds_toArray, List.set_cons_zero, List.set_cons_succ]
      refine wpAnyH_take (i := 7) (v := ?_) rfl (by kernel_rfl) (by kernel_rfl) (by kernel_rfl) (fun _ _ _ h => h) (Or.inl ⟨by rfl, ?_⟩) (by assumption) ?_
      rotate_left
      · (intro w hSw; (try dsimp only at hSw); go_simp; first | done | with_reducible rfl)
      try simp only [Act.put, List.getElem_toArray, List.getElem_cons_zero, List.getElem_cons_succ, List.setIfInBounds_toArray, List.set_cons_zero, List.set_cons_succ]
      refine wpAnyH_take (i := 8) (v := ?_) rfl (by kernel_rfl) (by kernel_rfl) (by kernel_rfl) (fun _ _ _ h => h) (Or.inl ⟨by rfl, ?_⟩) (by assumption) ?_
      rotate_left
      · (intro w hSw; (try dsimp only at hSw); go_simp; first | done | with_reducible rfl)
      try simp only [Act.put, List.getElem_toArray, List.getElem_cons_zero, List.getElem_cons_succ, List.setIfInBounds_toArray, List.set_cons_zero, List.set_cons_succ]
      refine wpAnyH_take (i := 9) rfl (by kernel_rfl) (by kernel_rfl) (by kernel_rfl) (fun _ _ _ h => h) (Or.inr ⟨by rfl, rfl⟩) (by assumption) ?_
      try simp only [Act.put, List.getElem_toArray, List.getElem_cons_zero, List.getElem_cons_succ, List.setIfInBounds_toArray, List.set_cons_zero, List.set_cons_succ]
      refine wpAnyH_take (i := 10) rfl (by kernel_rfl) (by kernel_rfl) (by kernel_rfl) (fun _ _ _ h => h) (Or.inr ⟨by rfl, rfl⟩) (by assumption) ?_
      try simp only [Act.put, List.getElem_toArray, List.getElem_cons_zero, List.getElem_cons_succ, List.setIfInBounds_toArray, List.set_cons_zero, List.set_cons_succ]
      refine wpAnyH_take (i := 11) rfl (by kernel_rfl) (by kernel_rfl) (by kernel_rfl) (fun _ _ _ h => h) (Or.inr ⟨by rfl, rfl⟩) (by assumption) ?_
      try simp only [Act.put, List.getElem_toArray, List.getElem_cons_zero, List.getElem_cons_succ, List.setIfInBounds_toArray, List.set_cons_zero, List.set_cons_succ]
      refine wpAnyH_take (i := 12) rfl (by kernel_rfl) (by kernel_rfl) (by kernel_rfl) (fun _ _ _ h => h) (Or.inr ⟨by rfl, rfl⟩) (by assumption) ?_
      try simp only [Act.put, List.getElem_toArray, List.getElem_cons_zero, List.getElem_cons_succ, List.setIfInBounds_toArray, List.set_cons_zero, List.set_cons_succ]
      refine wpAnyH_take (i := 13) rfl (by kernel_rfl) (by kernel_rfl) (by kernel_rfl) (fun _ _ _ h => h) (Or.inr ⟨by rfl, rfl⟩) (by assumption) ?_
      try simp only [Act.put, List.getElem_toArray, List.getElem_cons_zero, List.getElem_cons_succ, List.setIfInBounds_toArray, List.set_cons_zero, List.set_cons_succ]
      refine wpAnyH_take (i := 14) rfl (by kernel_rfl) (by kernel_rfl) (by kernel_rfl) (fun _ _ _ h => h) (Or.inr ⟨by rfl, rfl⟩) (by assumption) ?_
      try simp only [Act.put, List.getElem_toArray, List.getElem_cons_zero, List.getElem_cons_succ, List.setIfInBounds_toArray, List.set_cons_zero, List.set_cons_succ]
      refine wpAnyH_take (i := 15) rfl (by kernel_rfl) (by kernel_rfl) (by kernel_rfl) (fun _ _ _ h => h) (Or.inr ⟨by rfl, rfl⟩) (by assumption) ?_
      try simp only [Act.put, List.getElem_toArray, List.getElem_cons_zero, List.getElem_cons_succ, List.setIfInBounds_toArray, List.set_cons_zero, List.set_cons_succ]
      refine wpAnyH_take (i := 16) (v := ?_) rfl (by kernel_rfl) (by kernel_rfl) (by kernel_rfl) (fun _ _ _ h => h) (Or.inl ⟨by rfl, ?_⟩) (by assumption) ?_
      rotate_left
      · (intro w hSw; (try dsimp only at hSw); go_simp; first | done | with_reducible rfl)
      try simp only [Act.put, List.getElem_toArray, List.getElem_cons_zero, List.getElem_cons_succ, List.setIfInBounds_toArray, List.set_cons_zero, List.set_cons_succ]
      refine wpAnyH_done (by kernel_rfl) ?_ _
      refine NoPanic.normal ?_
      go_wp2_with fail
      go_meet
      exact ⟨by first | (simp; done) | (cases fr k <;> cases fr k' <;> simp), by assumption⟩
    · refine wp_region_noPanic ?_
      refine wp_region_held_drew (S := (fun w' => w'.cell? ⟨w.heap.size, 0, none⟩ = some (.string ⟨n.toArray⟩) ∧ w'.cell? ⟨w.heap.size, 1, none⟩ = some (.int .i64 k) ∧ w'.cell? ⟨w.heap.size, 2, none⟩ = some (.int .i64 pp) ∧ w'.cell? ⟨w.heap.size + 1, 0, none⟩ = some (.string ⟨n.toArray⟩) ∧ w'.cell? ⟨w.heap.size + 1, 1, none⟩ = some (.int .i64 k') ∧ w'.cell? ⟨w.heap.size + 1, 2, none⟩ = some (.int .i64 pp'))) (by kernel_rfl) ?_ (fun hHeld => ?_)
      · (try dsimp only); first | (exact HS3 _ (by assumption)) | (exact HS3 _ (TT.drew (by assumption))) | go_keep
      refine wpAnyH_take (i := 0) (v := ?_) rfl (by kernel_rfl) (by kernel_rfl) (by kernel_rfl) (fun _ _ _ h => h) (Or.inl ⟨by rfl, ?_⟩) (by assumption) ?_
      rotate_left
      · (intro w hSw; (try dsimp only at hSw); go_simp; first | done | with_reducible rfl)
      try simp only [Act.put, List.getElem_toArray, List.getElem_cons_zero, List.getElem_cons_succ, List.setIfInBounds_toArray, List.set_cons_zero, List.set_cons_succ]
      refine wpAnyH_take (i := 1) (v := ?_) rfl (by kernel_rfl) (by kernel_rfl) (by kernel_rfl) (fun _ _ _ h => h) (Or.inl ⟨by rfl, ?_⟩) (by assumption) ?_
      rotate_left
      · (intro w hSw; (try dsimp only at hSw); go_simp; first | done | with_reducible rfl)
      try simp only [Act.put, List.getElem_toArray, List.getElem_cons_zero, List.getElem_cons_succ, List.setIfInBounds_toArray, List.set_cons_zero, List.set_cons_succ]
      refine wpAnyH_ready (rs := [2]) (by kernel_rfl) (by simp) ?_
      refine AllReadyH.cons rfl (fun K hK => ?_) AllReadyH.nil
      go_simp
      refine (TT.set (by first | assumption | exact TT.drew (by assumption)) H9.out.2.2 ⟨n, k', pp'⟩).mono ?_
      rintro e wN ⟨rfl, hTN⟩
      rw [HE3.out]
      go_wp2_with fail
      refine hK.out _ _ ?_ (fun hHeld => ?_)
      · (try dsimp only); first | (exact HS3 _ (by assumption)) | (exact HS3 _ (TT.drew (by assumption))) | go_keep
      clear hK K
      try simp only [Act.put, List.getElem_toArray, List.getElem_cons_zero, List.getElem_cons_succ, List.setIfInBounds_toArray, List.set_cons_zero, List.set_cons_succ]
      refine wpAnyH_take (i := 3) (v := ?_) rfl (by kernel_rfl) (by kernel_rfl) (by kernel_rfl) (fun _ _ _ h => h) (Or.inl ⟨by rfl, ?_⟩) (by assumption) ?_
      rotate_left
      · (intro w hSw; (try dsimp only at hSw); go_simp; first | done | with_reducible rfl)
      try simp only [Act.put, List.getElem_toArray, List.getElem_cons_zero, List.getElem_cons_succ, List.setIfInBounds_toArray, List.set_cons_zero, List.set_cons_succ]
      refine wpAnyH_take (i := 4) (v := ?_) rfl (by kernel_rfl) (by kernel_rfl) (by kernel_rfl) (fun _ _ _ h => h) (Or.inl ⟨by rfl, ?_⟩) (by assumption) ?_
      rotate_left
      · (intro w hSw; (try dsimp only at hSw); go_simp; first | done | with_reducible rfl)
      try simp only [Act.put, List.getElem_toArray, List.getElem_cons_zero, List.getElem_cons_succ, List.setIfInBounds_toArray, List.set_cons_zero, List.set_cons_succ]
      refine wpAnyH_take (i := 5) rfl (by kernel_rfl) (by kernel_rfl) (by kernel_rfl) (fun _ _ _ h => h) (Or.inr ⟨by rfl, rfl⟩) (by assumption) ?_
      try simp only [Act.put, List.getElem_toArray, List.getElem_cons_zero, List.getElem_cons_succ, List.setIfInBounds_toArray, List.set_cons_zero, List.set_cons_succ]
      refine wpAnyH_take (i := 6) rfl (by kernel_rfl) (by kernel_rfl) (by kernel_rfl) (fun _ _ _ h => h) (Or.inr ⟨by rfl, rfl⟩) (by assumption) ?_
      try simp only [Act.put, List.getElem_toArray, List.getElem_cons_zero, List.getElem_cons_succ, List.setIfInBounds_toArray, List.set_cons_zero, List.set_cons_succ]
      refine wpAnyH_take (i := 7) (v := ?_) rfl (by kernel_rfl) (by kernel_rfl) (by kernel_rfl) (fun _ _ _ h => h) (Or.inl ⟨by rfl, ?_⟩) (by assumption) ?_
      rotate_left
      · (intro w hSw; (try dsimp only at hSw); go_simp; first | done | with_reducible rfl)
      try simp only [Act.put, List.getElem_toArray, List.getElem_cons_zero, List.getElem_cons_succ, List.setIfInBounds_toArray, List.set_cons_zero, List.set_cons_succ]
      refine wpAnyH_take (i := 8) (v := ?_) rfl (by kernel_rfl) (by kernel_rfl) (by kernel_rfl) (fun _ _ _ h => h) (Or.inl ⟨by rfl, ?_⟩) (by assumption) ?_
      rotate_left
      · (intro w hSw; (try dsimp only at hSw); go_simp; first | done | with_reducible rfl)
      try simp only [Act.put, List.getElem_toArray, List.getElem_cons_zero, List.getElem_cons_succ, List.setIfInBounds_toArray, List.set_cons_zero, List.set_cons_succ]
      refine wpAnyH_take (i := 9) rfl (by kernel_rfl) (by kernel_rfl) (by kernel_rfl) (fun _ _ _ h => h) (Or.inr ⟨by rfl, rfl⟩) (by assumption) ?_
      try simp only [Act.put, List.getElem_toArray, List.getElem_cons_zero, List.getElem_cons_succ, List.setIfInBounds_toArray, List.set_cons_zero, List.set_cons_succ]
      refine wpAnyH_take (i := 10) rfl (by kernel_rfl) (by kernel_rfl) (by kernel_rfl) (fun _ _ _ h => h) (Or.inr ⟨by rfl, rfl⟩) (by assumption) ?_
      try simp only [Act.put, List.getElem_toArray, List.getElem_cons_zero, List.getElem_cons_succ, List.setIfInBounds_toArray, List.set_cons_zero, List.set_cons_succ]
      refine wpAnyH_take (i := 11) rfl (by kernel_rfl) (by kernel_rfl) (by kernel_rfl) (fun _ _ _ h => h) (Or.inr ⟨by rfl, rfl⟩) (by assumption) ?_
      try simp only [Act.put, List.getElem_toArray, List.getElem_cons_zero, List.getElem_cons_succ, List.setIfInBounds_toArray, List.set_cons_zero, List.set_cons_succ]
      refine wpAnyH_take (i := 12) rfl (by kernel_rfl) (by kernel_rfl) (by kernel_rfl) (fun _ _ _ h => h) (Or.inr ⟨by rfl, rfl⟩) (by assumption) ?_
      try simp only [Act.put, List.getElem_toArray, List.getElem_cons_zero, List.getElem_cons_succ, List.setIfInBounds_toArray, List.set_cons_zero, List.set_cons_succ]
      refine wpAnyH_take (i := 13) rfl (by kernel_rfl) (by kernel_rfl) (by kernel_rfl) (fun _ _ _ h => h) (Or.inr ⟨by rfl, rfl⟩) (by assumption) ?_
      try simp only [Act.put, List.getElem_toArray, List.getElem_cons_zero, List.getElem_cons_succ, List.setIfInBounds_toArray, List.set_cons_zero, List.set_cons_succ]
      refine wpAnyH_take (i := 14) rfl (by kernel_rfl) (by kernel_rfl) (by kernel_rfl) (fun _ _ _ h => h) (Or.inr ⟨by rfl, rfl⟩) (by assumption) ?_
      try simp only [Act.put, List.getElem_toArray, List.getElem_cons_zero, List.getElem_cons_succ, List.setIfInBounds_toArray, List.set_cons_zero, List.set_cons_succ]
      refine wpAnyH_take (i := 15) rfl (by kernel_rfl) (by kernel_rfl) (by kernel_rfl) (fun _ _ _ h => h) (Or.inr ⟨by rfl, rfl⟩) (by assumption) ?_
      try simp only [Act.put, List.getElem_toArray, List.getElem_cons_zero, List.getElem_cons_succ, List.setIfInBounds_toArray, List.set_cons_zero, List.set_cons_succ]
      refine wpAnyH_take (i := 16) (v := ?_) rfl (by kernel_rfl) (by kernel_rfl) (by kernel_rfl) (fun _ _ _ h => h) (Or.inl ⟨by rfl, ?_⟩) (by assumption) ?_
      rotate_left
      · (intro w hSw; (try dsimp only at hSw); go_simp; first | done | with_reducible rfl)
      try simp only [Act.put, List.getElem_toArray, List.getElem_cons_zero, List.getElem_cons_succ, List.setIfInBounds_toArray, List.set_cons_zero, List.set_cons_succ]
      refine wpAnyH_done (by kernel_rfl) ?_ _
      refine NoPanic.normal ?_
      go_wp2_with fail
      go_meet
      exact ⟨by first | (simp; done) | (cases fr k <;> cases fr k' <;> simp), by assumption⟩
    · refine wp_region_noPanic ?_
      refine wp_region_held_drew (S := (fun w' => w'.cell? ⟨w.heap.size, 0, none⟩ = some (.string ⟨n.toArray⟩) ∧ w'.cell? ⟨w.heap.size, 1, none⟩ = some (.int .i64 k) ∧ w'.cell? ⟨w.heap.size, 2, none⟩ = some (.int .i64 pp) ∧ w'.cell? ⟨w.heap.size + 1, 0, none⟩ = some (.string ⟨n.toArray⟩) ∧ w'.cell? ⟨w.heap.size + 1, 1, none⟩ = some (.int .i64 k') ∧ w'.cell? ⟨w.heap.size + 1, 2, none⟩ = some (.int .i64 pp'))) (by kernel_rfl) ?_ (fun hHeld => ?_)
      · (try dsimp only); first | (exact HS3 _ (by assumption)) | (exact HS3 _ (TT.drew (by assumption))) | go_keep
      refine wpAnyH_take (i := 0) (v := ?_) rfl (by kernel_rfl) (by kernel_rfl) (by kernel_rfl) (fun _ _ _ h => h) (Or.inl ⟨by rfl, ?_⟩) (by assumption) ?_
      rotate_left
      · (intro w hSw; (try dsimp only at hSw); go_simp; first | done | with_reducible rfl)
      try simp only [Act.put, List.getElem_toArray, List.getElem_cons_zero, List.getElem_cons_succ, List.setIfInBounds_toArray, List.set_cons_zero, List.set_cons_succ]
      refine wpAnyH_take (i := 1) (v := ?_) rfl (by kernel_rfl) (by kernel_rfl) (by kernel_rfl) (fun _ _ _ h => h) (Or.inl ⟨by rfl, ?_⟩) (by assumption) ?_
      rotate_left
      · (intro w hSw; (try dsimp only at hSw); go_simp; first | done | with_reducible rfl)
      try simp only [Act.put, List.getElem_toArray, List.getElem_cons_zero, List.getElem_cons_succ, List.setIfInBounds_toArray, List.set_cons_zero, List.set_cons_succ]
      refine wpAnyH_ready (rs := [2]) (by kernel_rfl) (by simp) ?_
      refine AllReadyH.cons rfl (fun K hK => ?_) AllReadyH.nil
      go_simp
      refine (TT.set (by first | assumption | exact TT.drew (by assumption)) H9.out.2.2 ⟨n, k', pp'⟩).mono ?_
      rintro e wN ⟨rfl, hTN⟩
      rw [HE3.out]
      go_wp2_with fail
      refine hK.out _ _ ?_ (fun hHeld => ?_)
      · (try dsimp only); first | (exact HS3 _ (by assumption)) | (exact HS3 _ (TT.drew (by assumption))) | go_keep
      clear hK K
      try simp only [Act.put, List.getElem_toArray, List.getElem_cons_zero, List.getElem_cons_succ, List.setIfInBounds_toArray, List.set_cons_zero, List.set_cons_succ]
      refine wpAnyH_take (i := 3) (v := ?_) rfl (by kernel_rfl) (by kernel_rfl) (by kernel_rfl) (fun _ _ _ h => h) (Or.inl ⟨by rfl, ?_⟩) (by assumption) ?_
      rotate_left
      · (intro w hSw; (try dsimp only at hSw); go_simp; first | done | with_reducible rfl)
      try simp only [Act.put, List.getElem_toArray, List.getElem_cons_zero, List.getElem_cons_succ, List.setIfInBounds_toArray, List.set_cons_zero, List.set_cons_succ]
      refine wpAnyH_take (i := 4) (v := ?_) rfl (by kernel_rfl) (by kernel_rfl) (by kernel_rfl) (fun _ _ _ h => h) (Or.inl ⟨by rfl, ?_⟩) (by assumption) ?_
      rotate_left
      · (intro w hSw; (try dsimp only at hSw); go_simp; first | done | with_reducible rfl)
      try simp only [Act.put, List.getElem_toArray, List.getElem_cons_zero, List.getElem_cons_succ, List.setIfInBounds_toArray, List.set_cons_zero, List.set_cons_succ]
      refine wpAnyH_take (i := 5) (v := ?_) rfl (by kernel_rfl) (by kernel_rfl) (by kernel_rfl) (fun _ _ _ h => h) (Or.inl ⟨by rfl, ?_⟩) (by assumption) ?_
      rotate_left
      · (intro w hSw; (try dsimp only at hSw); go_simp; first | done | with_reducible rfl)
      try simp only [Act.put, List.getElem_toArray, List.getElem_cons_zero, List.getElem_cons_succ, List.setIfInBounds_toArray, List.set_cons_zero, List.set_cons_succ]
      refine wpAnyH_take (i := 6) (v := ?_) rfl (by kernel_rfl) (by kernel_rfl) (by kernel_rfl) (fun _ _ _ h => h) (Or.inl ⟨by rfl, ?_⟩) (by assumption) ?_
      rotate_left
      · (intro w hSw; (try dsimp only at hSw); go_simp; first | done | with_reducible rfl)
      try simp only [Act.put, List.getElem_toArray, List.getElem_cons_zero, List.getElem_cons_succ, List.setIfInBounds_toArray, List.set_cons_zero, List.set_cons_succ]
      refine wpAnyH_take (i := 7) (v := ?_) rfl (by kernel_rfl) (by kernel_rfl) (by kernel_rfl) (fun _ _ _ h => h) (Or.inl ⟨by rfl, ?_⟩) (by assumption) ?_
      rotate_left
      · (intro w hSw; (try dsimp only at hSw); go_simp; first | done | with_reducible rfl)
      try simp only [Act.put, List.getElem_toArray, List.getElem_cons_zero, List.getElem_cons_succ, List.setIfInBounds_toArray, List.set_cons_zero, List.set_cons_succ]
      refine wpAnyH_take (i := 8) (v := ?_) rfl (by kernel_rfl) (by kernel_rfl) (by kernel_rfl) (fun _ _ _ h => h) (Or.inl ⟨by rfl, ?_⟩) (by assumption) ?_
      rotate_left
      · (intro w hSw; (try dsimp only at hSw); go_simp; first | done | with_reducible rfl)
      try simp only [Act.put, List.getElem_toArray, List.getElem_cons_zero, List.getElem_cons_succ, List.setIfInBounds_toArray, List.set_cons_zero, List.set_cons_succ]
      refine wpAnyH_take (i := 9) rfl (by kernel_rfl) (by kernel_rfl) (by kernel_rfl) (fun _ _ _ h => h) (Or.inr ⟨by rfl, rfl⟩) (by assumption) ?_
      try simp only [Act.put, List.getElem_toArray, List.getElem_cons_zero, List.getElem_cons_succ, List.setIfInBounds_toArray, List.set_cons_zero, List.set_cons_succ]
      refine wpAnyH_take (i := 10) rfl (by kernel_rfl) (by kernel_rfl) (by kernel_rfl) (fun _ _ _ h => h) (Or.inr ⟨by rfl, rfl⟩) (by assumption) ?_
      try simp only [Act.put, List.getElem_toArray, List.getElem_cons_zero, List.getElem_cons_succ, List.setIfInBounds_toArray, List.set_cons_zero, List.set_cons_succ]
      refine wpAnyH_take (i := 11) rfl (by kernel_rfl) (by kernel_rfl) (by kernel_rfl) (fun _ _ _ h => h) (Or.inr ⟨by rfl, rfl⟩) (by assumption) ?_
      try simp only [Act.put, List.getElem_toArray, List.getElem_cons_zero, List.getElem_cons_succ, List.setIfInBounds_toArray, List.set_cons_zero, List.set_cons_succ]
      refine wpAnyH_take (i := 12) rfl (by kernel_rfl) (by kernel_rfl) (by kernel_rfl) (fun _ _ _ h => h) (Or.inr ⟨by rfl, rfl⟩) (by assumption) ?_
      try simp only [Act.put, List.getElem_toArray, List.getElem_cons_zero, List.getElem_cons_succ, List.setIfInBounds_toArray, List.set_cons_zero, List.set_cons_succ]
      refine wpAnyH_take (i := 13) rfl (by kernel_rfl) (by kernel_rfl) (by kernel_rfl) (fun _ _ _ h => h) (Or.inr ⟨by rfl, rfl⟩) (by assumption) ?_
      try simp only [Act.put, List.getElem_toArray, List.getElem_cons_zero, List.getElem_cons_succ, List.setIfInBounds_toArray, List.set_cons_zero, List.set_cons_succ]
      refine wpAnyH_take (i := 14) rfl (by kernel_rfl) (by kernel_rfl) (by kernel_rfl) (fun _ _ _ h => h) (Or.inr ⟨by rfl, rfl⟩) (by assumption) ?_
      try simp only [Act.put, List.getElem_toArray, List.getElem_cons_zero, List.getElem_cons_succ, List.setIfInBounds_toArray, List.set_cons_zero, List.set_cons_succ]
      refine wpAnyH_take (i := 15) rfl (by kernel_rfl) (by kernel_rfl) (by kernel_rfl) (fun _ _ _ h => h) (Or.inr ⟨by rfl, rfl⟩) (by assumption) ?_
      try simp only [Act.put, List.getElem_toArray, List.getElem_cons_zero, List.getElem_cons_succ, List.setIfInBounds_toArray, List.set_cons_zero, List.set_cons_succ]
      refine wpAnyH_take (i := 16) (v := ?_) rfl (by kernel_rfl) (by kernel_rfl) (by kernel_rfl) (fun _ _ _ h => h) (Or.inl ⟨by rfl, ?_⟩) (by assumption) ?_
      rotate_left
      · (intro w hSw; (try dsimp only at hSw); go_simp; first | done | with_reducible rfl)
      try simp only [Act.put, List.getElem_toArray, List.getElem_cons_zero, List.getElem_cons_succ, List.setIfInBounds_toArray, List.set_cons_zero, List.set_cons_succ]
      refine wpAnyH_done (by kernel_rfl) ?_ _
      refine NoPanic.normal ?_
      go_wp2_with fail
      go_meet
      exact ⟨by first | (simp; done) | (cases fr k <;> cases fr k' <;> simp), by assumption⟩
    · refine wp_region_noPanic ?_
      refine wp_region_held_drew (S := (fun w' => w'.cell? ⟨w.heap.size, 0, none⟩ = some (.string ⟨n.toArray⟩) ∧ w'.cell? ⟨w.heap.size, 1, none⟩ = some (.int .i64 k) ∧ w'.cell? ⟨w.heap.size, 2, none⟩ = some (.int .i64 pp) ∧ w'.cell? ⟨w.heap.size + 1, 0, none⟩ = some (.string ⟨n.toArray⟩) ∧ w'.cell? ⟨w.heap.size + 1, 1, none⟩ = some (.int .i64 k') ∧ w'.cell? ⟨w.heap.size + 1, 2, none⟩ = some (.int .i64 pp'))) (by kernel_rfl) ?_ (fun hHeld => ?_)
      · (try dsimp only); first | (exact HS3 _ (by assumption)) | (exact HS3 _ (TT.drew (by assumption))) | go_keep
      refine wpAnyH_take (i := 0) (v := ?_) rfl (by kernel_rfl) (by kernel_rfl) (by kernel_rfl) (fun _ _ _ h => h) (Or.inl ⟨by rfl, ?_⟩) (by assumption) ?_
      rotate_left
      · (intro w hSw; (try dsimp only at hSw); go_simp; first | done | with_reducible rfl)
      try simp only [Act.put, List.getElem_toArray, List.getElem_cons_zero, List.getElem_cons_succ, List.setIfInBounds_toArray, List.set_cons_zero, List.set_cons_succ]
      refine wpAnyH_take (i := 1) (v := ?_) rfl (by kernel_rfl) (by kernel_rfl) (by kernel_rfl) (fun _ _ _ h => h) (Or.inl ⟨by rfl, ?_⟩) (by assumption) ?_
      rotate_left
      · (intro w hSw; (try dsimp only at hSw); go_simp; first | done | with_reducible rfl)
      try simp only [Act.put, List.getElem_toArray, List.getElem_cons_zero, List.getElem_cons_succ, List.setIfInBounds_toArray, List.set_cons_zero, List.set_cons_succ]
      refine wpAnyH_ready (rs := [2]) (by kernel_rfl) (by simp) ?_
      refine AllReadyH.cons rfl (fun K hK => ?_) AllReadyH.nil
      go_simp
      refine (TT.set (by first | assumption | exact TT.drew (by assumption)) H9.out.2.2 ⟨n, k', pp'⟩).mono ?_
      rintro e wN ⟨rfl, hTN⟩
      rw [HE3.out]
      go_wp2_with fail
      refine hK.out _ _ ?_ (fun hHeld => ?_)
      · (try dsimp only); first | (exact HS3 _ (by assumption)) | (exact HS3 _ (TT.drew (by assumption))) | go_keep
      clear hK K
      try simp only [Act.put, List.getElem_toArray, List.getElem_cons_zero, List.getElem_cons_succ, List.setIfInBounds_toArray, List.set_cons_zero, List.set_cons_succ]
      refine wpAnyH_take (i := 3) (v := ?_) rfl (by kernel_rfl) (by kernel_rfl) (by kernel_rfl) (fun _ _ _ h => h) (Or.inl ⟨by rfl, ?_⟩) (by assumption) ?_
      rotate_left
      · (intro w hSw; (try dsimp only at hSw); go_simp; first | done | with_reducible rfl)
      try simp only [Act.put, List.getElem_toArray, List.getElem_cons_zero, List.getElem_cons_succ, List.setIfInBounds_toArray, List.set_cons_zero, List.set_cons_succ]
      refine wpAnyH_take (i := 4) (v := ?_) rfl (by kernel_rfl) (by kernel_rfl) (by kernel_rfl) (fun _ _ _ h => h) (Or.inl ⟨by rfl, ?_⟩) (by assumption) ?_
      rotate_left
      · (intro w hSw; (try dsimp only at hSw); go_simp; first | done | with_reducible rfl)
      try simp only [Act.put, List.getElem_toArray, List.getElem_cons_zero, List.getElem_cons_succ, List.setIfInBounds_toArray, List.set_cons_zero, List.set_cons_succ]
      refine wpAnyH_take (i := 5) (v := ?_) rfl (by kernel_rfl) (by kernel_rfl) (by kernel_rfl) (fun _ _ _ h => h) (Or.inl ⟨by rfl, ?_⟩) (by assumption) ?_
      rotate_left
      · (intro w hSw; (try dsimp only at hSw); go_simp; first | done | with_reducible rfl)
      try simp only [Act.put, List.getElem_toArray, List.getElem_cons_zero, List.getElem_cons_succ, List.setIfInBounds_toArray, List.set_cons_zero, List.set_cons_succ]
      refine wpAnyH_take (i := 6) (v := ?_) rfl (by kernel_rfl) (by kernel_rfl) (by kernel_rfl) (fun _ _ _ h => h) (Or.inl ⟨by rfl, ?_⟩) (by assumption) ?_
      rotate_left
      · (intro w hSw; (try dsimp only at hSw); go_simp; first | done | with_reducible rfl)
      try simp only [Act.put, List.getElem_toArray, List.getElem_cons_zero, List.getElem_cons_succ, List.setIfInBounds_toArray, List.set_cons_zero, List.set_cons_succ]
      refine wpAnyH_take (i := 7) (v := ?_) rfl (by kernel_rfl) (by kernel_rfl) (by kernel_rfl) (fun _ _ _ h => h) (Or.inl ⟨by rfl, ?_⟩) (by assumption) ?_
      rotate_left
      · (intro w hSw; (try dsimp only at hSw); go_simp; first | done | with_reducible rfl)
      try simp only [Act.put, List.getElem_toArray, List.getElem_cons_zero, List.getElem_cons_succ, List.setIfInBounds_toArray, List.set_cons_zero, List.set_cons_succ]
      refine wpAnyH_take (i := 8) (v := ?_) rfl (by kernel_rfl) (by kernel_rfl) (by kernel_rfl) (fun _ _ _ h => h) (Or.inl ⟨by rfl, ?_⟩) (by assumption) ?_
      rotate_left
      · (intro w hSw; (try dsimp only at hSw); go_simp; first | done | with_reducible rfl)
      try simp only [Act.put, List.getElem_toArray, List.getElem_cons_zero, List.getElem_cons_succ, List.setIfInBounds_toArray, List.set_cons_zero, List.set_cons_succ]
      refine wpAnyH_take (i := 9) rfl (by kernel_rfl) (by kernel_rfl) (by kernel_rfl) (fun _ _ _ h => h) (Or.inr ⟨by rfl, rfl⟩) (by assumption) ?_
      try simp only [Act.put, List.getElem_toArray, List.getElem_cons_zero, List.getElem_cons_succ, List.setIfInBounds_toArray, List.set_cons_zero, List.set_cons_succ]
      refine wpAnyH_take (i := 10) rfl (by kernel_rfl) (by kernel_rfl) (by kernel_rfl) (fun _ _ _ h => h) (Or.inr ⟨by rfl, rfl⟩) (by assumption) ?_
      try simp only [Act.put, List.getElem_toArray, List.getElem_cons_zero, List.getElem_cons_succ, List.setIfInBounds_toArray, List.set_cons_zero, List.set_cons_succ]
      refine wpAnyH_take (i := 11) rfl (by kernel_rfl) (by kernel_rfl) (by kernel_rfl) (fun _ _ _ h => h) (Or.inr ⟨by rfl, rfl⟩) (by assumption) ?_
      try simp only [Act.put, List.getElem_toArray, List.getElem_cons_zero, List.getElem_cons_succ, List.setIfInBounds_toArray, List.set_cons_zero, List.set_cons_succ]
      refine wpAnyH_take (i := 12) rfl (by kernel_rfl) (by kernel_rfl) (by kernel_rfl) (fun _ _ _ h => h) (Or.inr ⟨by rfl, rfl⟩) (by assumption) ?_
      try simp only [Act.put, List.getElem_toArray, List.getElem_cons_zero, List.getElem_cons_succ, List.setIfInBounds_toArray, List.set_cons_zero, List.set_cons_succ]
      refine wpAnyH_take (i := 13) rfl (by kernel_rfl) (by kernel_rfl) (by kernel_rfl) (fun _ _ _ h => h) (Or.inr ⟨by rfl, rfl⟩) (by assumption) ?_
      try simp only [Act.put, List.getElem_toArray, List.getElem_cons_zero, List.getElem_cons_succ, List.setIfInBounds_toArray, List.set_cons_zero, List.set_cons_succ]
      refine wpAnyH_take (i := 14) rfl (by kernel_rfl) (by kernel_rfl) (by kernel_rfl) (fun _ _ _ h => h) (Or.inr ⟨by rfl, rfl⟩) (by assumption) ?_
      try simp only [Act.put, List.getElem_toArray, List.getElem_cons_zero, List.getElem_cons_succ, List.setIfInBounds_toArray, List.set_cons_zero, List.set_cons_succ]
      refine wpAnyH_take (i := 15) rfl (by kernel_rfl) (by kernel_rfl) (by kernel_rfl) (fun _ _ _ h => h) (Or.inr ⟨by rfl, rfl⟩) (by assumption) ?_
      try simp only [Act.put, List.getElem_toArray, List.getElem_cons_zero, List.getElem_cons_succ, List.setIfInBounds_toArray, List.set_cons_zero, List.set_cons_succ]
      refine wpAnyH_take (i := 16) (v := ?_) rfl (by kernel_rfl) (by kernel_rfl) (by kernel_rfl) (fun _ _ _ h => h) (Or.inl ⟨by rfl, ?_⟩) (by assumption) ?_
      rotate_left
      · (intro w hSw; (try dsimp only at hSw); go_simp; first | done | with_reducible rfl)
      try simp only [Act.put, List.getElem_toArray, List.getElem_cons_zero, List.getElem_cons_succ, List.setIfInBounds_toArray, List.set_cons_zero, List.set_cons_succ]
      refine wpAnyH_done (by kernel_rfl) ?_ _
      refine NoPanic.normal ?_
      go_wp2_with fail
      go_meet
      exact ⟨by first | (simp; done) | (cases fr k <;> cases fr k' <;> simp), by assumption⟩
    · go_region_held3 (fun w' => w'.cell? ⟨w.heap.size, 0, none⟩ = some (.string ⟨n.toArray⟩) ∧ w'.cell? ⟨w.heap.size, 1, none⟩ = some (.int .i64 k) ∧ w'.cell? ⟨w.heap.size, 2, none⟩ = some (.int .i64 pp) ∧ w'.cell? ⟨w.heap.size + 1, 0, none⟩ = some (.string ⟨n.toArray⟩) ∧ w'.cell? ⟨w.heap.size + 1, 1, none⟩ = some (.int .i64 k') ∧ w'.cell? ⟨w.heap.size + 1, 2, none⟩ = some (.int .i64 pp'))
        (first | (exact HS3 _ (by assumption)) | (exact HS3 _ (TT.drew (by assumption))) | go_keep)
        (first
          | (go_at_call 13; refine (TT.set (by first | assumption | exact TT.drew (by assumption)) H9.out.2.2 ⟨n, k', pp'⟩).mono ?_; rintro e wN ⟨rfl, hTN⟩; rw [HE3.out])
          | (go_at_call 22; (first | (with_reducible refine (FA.out _).mono ?_) | (with_reducible refine (FB.out _).mono ?_)); rintro e wN ⟨rfl, hbN⟩; have hTN := TT.below (by first | assumption | exact TT.drew (by assumption)) hbN; clear hbN))
      go_wp2_with fail
      go_meet
      exact ⟨by first | (simp; done) | (cases fr k <;> cases fr k' <;> simp), by assumption⟩
  case rest =>
    obtain ⟨rfl, hTx⟩ := hcut
    have HX := Lib.hid hTx
    clear hTx hT7 e0 e1 e2 f0 f1 f2
    cases hx : ((e3 != 0) || ((ea != 0) || (fr k != fr k')))
    · have hx2 := hx
      rw [Bool.or_eq_false_iff, Bool.or_eq_false_iff] at hx2
      have h3 : e3 = 0 := bne_eq_false_iff_eq.1 hx2.1
      have ha : ea = 0 := bne_eq_false_iff_eq.1 hx2.2.1
      have hf : fr k = fr k' := bne_eq_false_iff_eq.1 hx2.2.2
      clear hx2
      have hcd : cd (⟨n, k, pp⟩ : D) ⟨n, k', pp'⟩ = 0 := (cd_zero _ _).2 ⟨rfl, hf⟩
      have hE : setE newL ⟨n, k', pp'⟩ = 0 := by rw [← setE_set newL hcd, H9.out.2.1, HE3.out, h3]
      have hS : setL l1 ⟨n, k', pp'⟩ = setL newL ⟨n, k', pp'⟩ := by rw [← H9.out.2.1]; exact setL_other newL hcd hE
      have HV := Lib.hid (And.intro hE hS)
      clear h3 ha hf hcd hE hS hx
      go_wp2_with fail
      refine (new_any _).mono ?_
      rintro e w8 ⟨v, rfl, hv, hm8⟩
      have hT8 := TT.with_new HX.out hm8
      obtain ⟨f0, f1, f2, _⟩ := hT8.cells (b := w.heap.size + 1) (o := ⟨n, k', pp'⟩) (by simp)
      have H8 := Lib.hid hT8
      clear hm8 hv hT8
      go_wp2_with fail
      refine (H8.out.set2 newL_inv ⟨n, k', pp'⟩).mono ?_
      rintro e w9 ⟨rfl, hT9⟩
      rw [HV.out.2] at hT9
      have HS9 : Hid (Inv (setL newL ⟨n, k', pp'⟩)) := Lib.hid (newL_inv.setL _)
      rw [HV.out.1]
      generalize hl3 : setL newL ⟨n, k', pp'⟩ = l3 at hT9 HS9
      have H9' := Lib.hid hT9
      clear hT9 f0 f1 f2 hl3
      go_wp2_with fail
      refine (H9'.out.all2 (by have := HS9.out.len; omega)).mono ?_
      rintro e wa ⟨aa, ca, rfl, hra, hTa, hba⟩
      have HA := Lib.hid (And.intro hra hTa)
      clear hra hTa hba
      go_wp2_with fail
      refine (HA.out.2.all (by have := HS9.out.len; omega)).mono ?_
      rintro e wb ⟨ab, cb', rfl, hrb, hTb, hbb⟩
      have HB := Lib.hid (And.intro (HA.out.1.below hbb) (And.intro hrb hTb))
      clear hrb hTb hbb
      go_wp2_with fail
      refine (same_any _ HB.out.1 HB.out.2.1 (by have := HS9.out.len; omega)).mono ?_
      rintro e wc ⟨rfl, hbc⟩
      rw [decide_eq_true rfl]
      have HC := Lib.hid (HB.out.2.2.below hbc)
      clear hbc
      go_wp2_with fail
      refine (awake_any _).mono ?_
      rintro e wd ⟨rfl, hbd⟩
      have HD := Lib.hid (HC.out.bel.trans (hbd.mono HC.out.bel.size))
      clear hbd
      go_wp2_with fail
      go_ret
      exact ⟨rfl, HD.out⟩
    · clear hx
      go_wp2_with fail
      refine (awake_any _).mono ?_
      rintro e w8 ⟨rfl, hb8⟩
      have H8 := Lib.hid (HX.out.bel.trans (hb8.mono HX.out.bel.size))
      clear hb8
      go_wp2_with fail
      go_ret
      exact ⟨rfl, H8.out⟩
set_option maxRecDepth 100000 in
theorem lifted (os : Os) (started : os.Started) (H : Type) (enc : TypeId × Value → H) :
    ReturnsInHanded {} Try.checked os 8 .any (Rows.opsTwiceSpec.pre6 enc Try.prog Try.f8 Rows.opsTwiceRow.domain false) (Rows.opsTwiceSpec.post enc Try.prog Try.f8 false true false false) := by
  refine returnsInHanded_of_change_sized (C := Try.checked) own started (by kernel_rfl) Try.func8
    (ChangeSpec.witness6 (enc := enc) (C := Try.checked) false ⟨#[], #[.agg #[.string ⟨#[]⟩, .int .i64 0, .int .i64 0], .agg #[.string ⟨#[]⟩, .int .i64 0, .int .i64 0]], []⟩ 8 (by kernel_rfl) (by kernel_rfl) (by kernel_rfl) (by kernel_rfl)) ?_
  intro W base args ds gs before hval0 hW _ hsz0 _
  have hsz : (DataW.weightsEach Try.prog (Try.f8.params.toList ++ Rows.opsTwiceSpec.plain.varTypes Try.prog) (ds ++ gs)).all (· ≤ reachBytes) = true := hsz0
  clear hsz0
  have hval : ∀ (j : Nat) t v, Try.f8.params[j]? = some t → args[j]? = some v → Value.okWide Try.prog W .any base t v := hval0
  have hW' := hW
  obtain ⟨p, q, hA0, hV, rfl, hfz, hnd⟩ := hW
  have hA : DataW.TrodAll enc Try.prog W 0 (fun _ => true) true Try.f8.params.toList args.toList ds p := hA0
  rw [Try.params8] at hA hval hsz
  obtain ⟨v0, vs0, d0, ds0, p0, q0, hargs, rfl, rfl, h0, r0⟩ := trodAll_cons hA
  obtain ⟨v1, vs1, d1, ds1, p1, q1, rfl, rfl, rfl, h1, r1⟩ := trodAll_cons r0
  obtain ⟨rfl, rfl, rfl⟩ := trodAll_nil r1
  obtain rfl : args = #[v0, v1] := by cases args; simp_all
  obtain ⟨rfl, rfl⟩ := trodVars_none hV
  simp only [List.append_nil] at hW'
  have lt0 : ∀ x ∈ p0, x.block < W.heap.size := fun x hx => by
    have := hW'.lt x (by simp [hx])
    simpa using this
  have k0 := h0
  have lt1 : ∀ x ∈ p1, x.block < W.heap.size := fun x hx => by
    have := hW'.lt x (by simp [hx])
    simpa using this
  have k1 := h1
  obtain ⟨t0, rfl⟩ := opm.op_arg (by obtain ⟨cs, hcs, _⟩ := okWide_struct Try.underlying32 (hval 0 32 v0 rfl rfl); exact ⟨cs, hcs⟩) h0
  obtain ⟨t1, rfl⟩ := opm.op_arg (by obtain ⟨cs, hcs, _⟩ := okWide_struct Try.underlying32 (hval 1 32 v1 rfl rfl); exact ⟨cs, hcs⟩) h1
  clear hA0 hval0
  refine (walk W t0 t1).mono fun e W' ⟨he, hg⟩ => ?_
  subst he
  have ha := (trodAll_cons_mk (Below.trod laidOut (by kernel_rfl) (of_decide_eq_true (by kernel_rfl)) k0 hg lt0) (trodAll_cons_mk (Below.trod laidOut (by kernel_rfl) (of_decide_eq_true (by kernel_rfl)) k1 hg lt1) trodAll_mk0))
  refine ⟨_, rfl, _, _, _, [], _, [], hW', ?_, ha, rfl, hg.frame _, fun h => by cases h⟩
  exact (trodAll_cons_mk (shut_bool Try.underlying4 _) trodAll_mk0)
/-- THE STATEMENT. -/
theorem proved : Rows.OpsTwiceSaid :=
  OpenClaim.holds_of_wide 8 Try.f8 rfl rfl rfl rfl rfl rfl rfl ⟨rfl, rfl, rfl, rfl, rfl⟩ rfl rfl rfl rfl rfl (by kernel_rfl) Try.func8 (by kernel_rfl)
    (of_decide_eq_true (by kernel_rfl)) (by unfold Func.isWrapper; first | (rw [if_pos (by decide +kernel)]; kernel_rfl) | (rw [if_neg (by decide +kernel)]; exact ⟨rfl, rfl⟩))
    (fun os started H enc _ => lifted os started H enc)
#print axioms proved
end Go.Proofs.Ytnpdipmkikakcaa.opsTwice
