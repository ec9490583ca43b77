/- The project's reader: passes, infix, isOnlyBetween. -/
import Derived.Test.YtedbcmagjbgbjaaGreatDoorRdA
import Derived.StillTailTactics
namespace Go.Proofs.YtedbcmagjbgbjaaGreatDoor.rd
open Go.ChangeShapes Go.WideShapes Go.ChangeAt Go.RowKit Go.Maps
open Go.Proofs.YtedbcmagjbgbjaaGreatDoor.kp Go.Proofs.YtedbcmagjbgbjaaGreatDoor.num Go.Proofs.YtedbcmagjbgbjaaGreatDoor.dec Go.Proofs.YtedbcmagjbgbjaaGreatDoor.tk
set_option linter.unusedVariables false
set_option linter.unusedSimpArgs false
section
variable {w w' w0 : World} {p r0 : Nat} {tv tb mp nv : Value} {N k : Nat} {all : List Tk} {B : Nat}
/-- a token's cells at g, in a world where nothing old has turned -/
def GT (w0 : World) (g : Nat) (x : Tk) (W : World) : Prop := Below w0.heap.size w0 W ∧ W.heap[g]? = some (.cells #[.int .i64 x.k, .string ⟨x.t.toArray⟩, .int .i64 x.n, .int .u64 (x.re : Int), .int .u64 (x.im : Int), .int .i64 (x.a : Int)] 76 (0, 0)) ∧ w0.heap.size ≤ g
theorem GT.of {w w2 : World} (x : Tk) (b : Below w.heap.size w w2) : GT w w2.heap.size x (w2.alloc (.cells #[.int .i64 x.k, .string ⟨x.t.toArray⟩, .int .i64 x.n, .int .u64 (x.re : Int), .int .u64 (x.im : Int), .int .i64 (x.a : Int)] 76)) :=
  ⟨b.trans ((kp.ba w2 _).mono b.size), alloc_at w2 _, b.size⟩
theorem GT.below {g : Nat} {x : Tk} {W W' : World} (h : GT w g x W) (b : Below W.heap.size W W') : GT w g x W' := ⟨h.1.trans (b.mono h.1.size), (b.block g (Nw.lt h.2.1)).trans h.2.1, h.2.2⟩
def pas (s : List UInt8) (x : Tk) : Bool := decide (x.k = 6) && decide (x.t = s)
def adv (k : Nat) (s : List UInt8) (x : Tk) : Nat := match pas s x with | true => k + 1 | false => k
set_option maxRecDepth 100000 in
set_option maxHeartbeats 8000000 in
theorem passes_any (h : w.heap[p]? = some (RO tv N k tb mp nv)) (ht : Toks B w tv all) (hk : k ≤ 70000) (hl : all.length ≤ 70000) (s : List UInt8) :
    Calls Tryz.prog 166 #[.pointer (some ⟨p, 0, none⟩), .string ⟨s.toArray⟩] w fun e w' => e = .returned (.bool (pas s (see N (all.drop k) 0))) ∧ Nw p (RO tv N (adv k s (see N (all.drop k) 0)) tb mp nv) w w' := by
  have hto := Lib.hid (token_any h ht hk hl 0 (by omega))
  obtain ⟨x, hx⟩ : ∃ x, x = see N (all.drop k) 0 := ⟨_, rfl⟩
  rw [← hx] at hto ⊢
  have H := Lib.hid h
  have hw : wrap64 ((k : Int) + 1) = ((k + 1 : Nat) : Int) := by unfold wrap64; omega
  have split : ((x.k == 6) = false ∧ pas s x = false) ∨ ((x.k == 6) = true ∧ (!x.t == s) = true ∧ pas s x = false) ∨ ((x.k == 6) = true ∧ (!x.t == s) = false ∧ pas s x = true) := by
    unfold pas
    by_cases h6 : x.k = 6
    · by_cases hs : x.t = s <;> simp [h6, hs]
    · simp [h6]
  clear h ht hx
  rcases split with ⟨q1, q2⟩ | ⟨q1, q2, q3⟩ | ⟨q1, q2, q3⟩
  · have k6 : (x.k != 6) = true := by rw [bne, q1]; rfl
    have HQ := Lib.hid (And.intro q2 (show adv k s x = k by unfold adv; rw [q2]))
    clear q2
    go_enter Tryz.func166, Tryz.ntmps166
    go_wp2_with fail
    refine hto.out.mono ?_; rintro e w2 ⟨rfl, b2⟩
    unfold TV tkc
    obtain ⟨⟨z0, z1, z2, z3, z4, z5⟩, y0, y1, y2, y3, y4, y5⟩ := six (alloc_at w2 (TO 0 [] 0 0 0 0))
    have HG := Lib.hid (GT.of x b2)
    obtain ⟨g, hg⟩ : ∃ g, g = w2.heap.size := ⟨_, rfl⟩
    go_upto_region 2 with fail
    rw [← hg] at HG ⊢
    refine nmw (K := GT w g x) HG.out (fun W hW => ?_)
    have HW := Lib.hid hW
    obtain ⟨⟨t0, t1, -⟩, -⟩ := six hW.2.1
    clear hg HG z0 z1 z2 z3 z4 z5 y0 y1 y2 y3 y4 y5 hW b2
    go_wp2_with fail
    go_ret; exact ⟨by rw [HQ.out.1]; rfl, by rw [HQ.out.2]; exact Nw.below H.out HW.out.1⟩
  · have k6 : (x.k != 6) = false := by rw [bne, q1]; rfl
    have HQ := Lib.hid (And.intro q3 (show adv k s x = k by unfold adv; rw [q3]))
    clear q3
    go_enter Tryz.func166, Tryz.ntmps166
    go_wp2_with fail
    refine hto.out.mono ?_; rintro e w2 ⟨rfl, b2⟩
    unfold TV tkc
    obtain ⟨⟨z0, z1, z2, z3, z4, z5⟩, y0, y1, y2, y3, y4, y5⟩ := six (alloc_at w2 (TO 0 [] 0 0 0 0))
    have HG := Lib.hid (GT.of x b2)
    obtain ⟨g, hg⟩ : ∃ g, g = w2.heap.size := ⟨_, rfl⟩
    go_upto_region 2 with fail
    rw [← hg] at HG ⊢
    refine nmw (K := GT w g x) HG.out (fun W hW => ?_)
    have HW := Lib.hid hW
    obtain ⟨⟨t0, t1, -⟩, -⟩ := six hW.2.1
    clear hg HG z0 z1 z2 z3 z4 z5 y0 y1 y2 y3 y4 y5 hW b2
    go_wp2_with fail
    go_ret; exact ⟨by rw [HQ.out.1]; rfl, by rw [HQ.out.2]; exact Nw.below H.out HW.out.1⟩
  · have k6 : (x.k != 6) = false := by rw [bne, q1]; rfl
    have HQ := Lib.hid (And.intro q3 (show adv k s x = k + 1 by unfold adv; rw [q3]))
    clear q3
    go_enter Tryz.func166, Tryz.ntmps166
    go_wp2_with fail
    refine hto.out.mono ?_; rintro e w2 ⟨rfl, b2⟩
    unfold TV tkc
    obtain ⟨⟨z0, z1, z2, z3, z4, z5⟩, y0, y1, y2, y3, y4, y5⟩ := six (alloc_at w2 (TO 0 [] 0 0 0 0))
    have HG := Lib.hid (GT.of x b2)
    obtain ⟨g, hg⟩ : ∃ g, g = w2.heap.size := ⟨_, rfl⟩
    go_upto_region 2 with fail
    rw [← hg] at HG ⊢
    refine nmw (K := GT w g x) HG.out (fun W hW => ?_)
    have hN := Nw.below H.out hW.1
    have HW := Lib.hid hN
    obtain ⟨⟨t0, t1, -⟩, -⟩ := six hW.2.1
    obtain ⟨⟨-, -, c2, -⟩, -, -, f2, -⟩ := six hN.1
    have hlt := Nw.lt hN.1
    clear hg HG z0 z1 z2 z3 z4 z5 y0 y1 y2 y3 y4 y5 hW b2 hN
    go_wp2_with fail
    go_ret; exact ⟨by rw [HQ.out.1]; rfl, by rw [HQ.out.2]; exact HW.out.trans (ro_next HW.out.1)⟩
def OTof (l : List opa.D) : OT := ⟨fun n => opa.is l ⟨n, 4, 0⟩, fun n => ope.gd l ⟨n, 4, 0⟩, fun n => opa.is l ⟨n, 1, 0⟩, fun n => ope.gd l ⟨n, 1, 0⟩⟩
def ifx (O : OT) (x : Tk) : opa.D := if infx O x = true then O.di x.t else ⟨[], 0, 0⟩
theorem ifx_is {tl : List opa.D} {x : Tk} (h : infx (OTof tl) x = opa.is tl ⟨x.t, 1, 0⟩) : ifx (OTof tl) x = ope.gd tl ⟨x.t, 1, 0⟩ := by
  unfold ifx
  by_cases hb : infx (OTof tl) x = true
  · rw [if_pos hb]; rfl
  · rw [if_neg hb, ope.gd_no (by rw [← h]; simpa using hb)]
theorem zero_op : (⟨[], 0, 0⟩ : opa.D).v = .agg #[.string ⟨#[]⟩, .int .i64 0, .int .i64 0] := rfl
abbrev OZ : Obj := .cells #[.string ⟨#[]⟩, .int .i64 0, .int .i64 0] 45
theorem three {q : Nat} {v0 v1 v2 : Value} {ty : TypeId} (h : w.heap[q]? = some (.cells #[v0, v1, v2] ty (0, 0))) :
    (w.cell? ⟨q, 0, none⟩ = some v0 ∧ w.cell? ⟨q, 1, none⟩ = some v1 ∧ w.cell? ⟨q, 2, none⟩ = some v2) ∧ w.frozen? ⟨q, 0, none⟩ = false ∧ w.frozen? ⟨q, 1, none⟩ = false ∧ w.frozen? ⟨q, 2, none⟩ = false := by
  refine ⟨⟨?_, ?_, ?_⟩, ?_, ?_, ?_⟩ <;> simp [World.cell?, World.frozen?, h]
/-- known cells, with Below -/
structure Cl (w0 : World) (S : List (Nat × Nat × Value)) (w : World) : Prop where
  at_ : ∀ x ∈ S, w.cell? ⟨x.1, x.2.1, none⟩ = some x.2.2
  bel : Below w0.heap.size w0 w
theorem Cl.below {w0 w w' : World} {S : List (Nat × Nat × Value)} (h : Cl w0 S w) (hb : Below w.heap.size w w') : Cl w0 S w' :=
  ⟨fun x hx => ((Keep.of_below (F := fun _ => False) hb).cell (World.block_lt_of_cell? w _ (h.at_ x hx)) id).trans (h.at_ x hx), h.bel.trans (hb.mono h.bel.size)⟩
theorem Cl.drew {w0 w : World} {S : List (Nat × Nat × Value)} (h : Cl w0 S w) : Cl w0 S w.drew := h.below (kp.bdr _)
abbrev Cy (w : World) (x : Nat × Nat × Value) : Prop := w.cell? ⟨x.1, x.2.1, none⟩ = some x.2.2
theorem Cl.c2 {w0 w : World} {a b : Nat × Nat × Value} (h : Cl w0 [a, b] w) : Cy w a ∧ Cy w b := ⟨h.at_ a (by simp), h.at_ b (by simp)⟩
theorem infix_c {tp : Nat} {F : Nat → Prop} {tl : List opa.D} (W w9 : World) (n : List UInt8) (hT : opb.Tb W tp F tl) (hs : opa.Srt tl) (htl : tl.length ≤ 1000) (hb : Below W.heap.size W w9) :
    Calls Tryz.prog 133 #[.pointer (some ⟨tp, 0, none⟩), .string ⟨n.toArray⟩] w9 fun e w' => e = .returned (.tuple #[(ope.gd tl ⟨n, 1, 0⟩).v, .bool (opa.is tl ⟨n, 1, 0⟩)]) ∧ Below w9.heap.size w9 w' := ope.infix_any n w9 (hT.below hb) hs htl
theorem prefix_c {tp : Nat} {F : Nat → Prop} {tl : List opa.D} (W w9 : World) (n : List UInt8) (hT : opb.Tb W tp F tl) (hs : opa.Srt tl) (htl : tl.length ≤ 1000) (hb : Below W.heap.size W w9) :
    Calls Tryz.prog 156 #[.pointer (some ⟨tp, 0, none⟩), .string ⟨n.toArray⟩] w9 fun e w' => e = .returned (.tuple #[(ope.gd tl ⟨n, 4, 0⟩).v, .bool (opa.is tl ⟨n, 4, 0⟩)]) ∧ Below w9.heap.size w9 w' := ope.prefix_any n w9 (hT.below hb) hs htl
theorem fin3 {r : Nat} {u0 u1 u2 : Value} {ty : TypeId} (h : w.heap[r]? = some (.cells #[u0, u1, u2] ty (0, 0))) (v0 v1 v2 : Value) : ∃ W,
    (((w.setCell ⟨r, 0, none⟩ v0).setCell ⟨r, 1, none⟩ v1).setCell ⟨r, 2, none⟩ v2) = W ∧ Nw r (.cells #[v0, v1, v2] ty (0, 0)) w W := by
  have a := (Nw.set h 0 v0).trans (Nw.set (Nw.set h 0 v0).1 1 v1)
  have b := a.trans (Nw.set a.1 2 v2)
  exact ⟨_, rfl, by simpa using b⟩
set_option maxRecDepth 100000 in
set_option maxHeartbeats 8000000 in
theorem infix_any' {tp : Nat} {F : Nat → Prop} {tl : List opa.D} (h : w.heap[p]? = some (RO tv N k (.pointer (some ⟨tp, 0, none⟩)) mp nv)) (ht : Toks B w tv all) (hk : k ≤ 70000) (hl : all.length ≤ 70000)
    (hT : opb.Tb w tp F tl) (hs : opa.Srt tl) (htl : tl.length ≤ 1000) :
    Calls Tryz.prog 88 #[.pointer (some ⟨p, 0, none⟩)] w fun e w' => e = .returned (.tuple #[(ifx (OTof tl) (see N (all.drop k) 0)).v, .bool (infx (OTof tl) (see N (all.drop k) 0))]) ∧ Below w.heap.size w w' := by
  obtain ⟨r0, hr0⟩ : ∃ r0, r0 = w.heap.size := ⟨_, rfl⟩
  obtain ⟨w1, hw1⟩ : ∃ w1, w1 = w.alloc OZ := ⟨_, rfl⟩
  have hB1 : Below w.heap.size w w1 := by rw [hw1]; exact kp.ba w _
  have hZ1 : w1.heap[r0]? = some (.cells #[.string ⟨#[]⟩, .int .i64 0, .int .i64 0] 45 (0, 0)) := by rw [hr0, hw1]; exact alloc_at w _
  have HW := Lib.hid (And.intro hr0 hw1)
  have hto := Lib.hid (token_any ((hB1.block p (Nw.lt h)).trans h) (ht.below hB1) hk hl 0 (by omega))
  obtain ⟨x, hx⟩ : ∃ x, x = see N (all.drop k) 0 := ⟨_, rfl⟩
  rw [← hx] at hto ⊢
  have H := Lib.hid (And.intro h (And.intro hB1 (And.intro hZ1 (And.intro hT (And.intro hs htl)))))
  have split : ((x.k == 1) = true ∧ infx (OTof tl) x = opa.is tl ⟨x.t, 1, 0⟩) ∨ ((x.k == 1) = false ∧ (x.k == 6) = true ∧ (x.t == [44]) = true ∧ infx (OTof tl) x = opa.is tl ⟨x.t, 1, 0⟩) ∨
      ((x.k == 1) = false ∧ (x.k == 6) = true ∧ (x.t == [44]) = false ∧ infx (OTof tl) x = false) ∨ ((x.k == 1) = false ∧ (x.k == 6) = false ∧ infx (OTof tl) x = false) := by
    unfold infx isP OTof
    by_cases h1 : x.k = 1
    · simp [h1]
    · by_cases h6 : x.k = 6
      · by_cases hs : x.t = [44] <;> simp [h6, hs]
      · simp [h1, h6]
  clear h ht hx hr0 hw1 hB1 hZ1 hT hs htl
  rcases split with ⟨q1, q2⟩ | ⟨q1, q2, q3, q4⟩ | ⟨q1, q2, q3, q4⟩ | ⟨q1, q2, q3⟩
  · have HQ := Lib.hid q2
    clear q2
    go_enter Tryz.func88, Tryz.ntmps88
    go_upto_region 1 with fail
    change Code.wp _ _ _ _ (w.alloc OZ)
    rw [← HW.out.1, ← HW.out.2]
    go_wp2_with fail
    refine hto.out.mono ?_; rintro e w2 ⟨rfl, b2⟩
    unfold TV tkc
    obtain ⟨⟨z0, z1, z2, z3, z4, z5⟩, y0, y1, y2, y3, y4, y5⟩ := six (alloc_at w2 (TO 0 [] 0 0 0 0))
    have HG := Lib.hid (GT.of x b2)
    obtain ⟨g, hg⟩ : ∃ g, g = w2.heap.size := ⟨_, rfl⟩
    go_upto_region 2 with fail
    rw [← hg] at HG ⊢
    refine nmw (K := GT w1 g x) HG.out (fun W hW => ?_)
    obtain ⟨⟨t0, t1, -⟩, -⟩ := six hW.2.1
    have hP : W.heap[p]? = some (RO tv N k (.pointer (some ⟨tp, 0, none⟩)) mp nv) := ((H.out.2.1.trans (hW.1.mono H.out.2.1.size)).block p (Nw.lt H.out.1)).trans H.out.1
    obtain ⟨⟨-, -, -, c3, -⟩, -⟩ := six hP
    have HX := Lib.hid hW
    clear hg HG z0 z1 z2 z3 z4 z5 y0 y1 y2 y3 y4 y5 hW b2 hP
    go_upto_region 3 with fail
    have HR0 : Hid (¬ (p = r0) ∧ ¬ (g = r0)) := Lib.hid ⟨by rw [HW.out.1]; have := Nw.lt H.out.1; omega, by have h1 := HX.out.2.2; have h2 := Nw.lt H.out.2.2.1; omega⟩
    have hcl : Cl W [(p, 3, .pointer (some ⟨tp, 0, none⟩)), (g, 1, .string ⟨x.t.toArray⟩)] W := ⟨by simp [c3, t1], kp.br _⟩
    have IF := Lib.hid (fun (w9 : World) (hc : Cl W [(p, 3, .pointer (some ⟨tp, 0, none⟩)), (g, 1, .string ⟨x.t.toArray⟩)] w9) => infix_c W w9 x.t (H.out.2.2.2.1.below (H.out.2.1.trans (HX.out.1.mono H.out.2.1.size))) H.out.2.2.2.2.1 H.out.2.2.2.2.2 hc.bel)
    refine wp_region_noPanic ?_
    refine wp_region_held_drew (S := (fun w' => w'.cell? ⟨p, 3, none⟩ = some (.pointer (some ⟨tp, 0, none⟩)) ∧ w'.cell? ⟨g, 1, none⟩ = some (.string ⟨x.t.toArray⟩))) (by kernel_rfl) ?_ (fun hHeld => ?_)
    · (try dsimp only); first | exact Cl.c2 (by assumption) | exact Cl.c2 (Cl.drew (by assumption)) | go_keep
    refine wpAnyH_take (i := 0) (v := ?_) rfl (by kernel_rfl) (by kernel_rfl) (by kernel_rfl) (fun _ _ _ h => h) (Or.inl ⟨by rfl, ?_⟩) (by assumption) ?_
    rotate_left
    · (intro w hSw; (try dsimp only at hSw); go_simp; first | done | with_reducible rfl)
    try simp only [Act.put, List.getElem_toArray, List.getElem_cons_zero, List.getElem_cons_succ, List.setIfInBounds_toArray, List.set_cons_zero, List.set_cons_succ]
    refine wpAnyH_take (i := 1) (v := ?_) rfl (by kernel_rfl) (by kernel_rfl) (by kernel_rfl) (fun _ _ _ h => h) (Or.inl ⟨by rfl, ?_⟩) (by assumption) ?_
    rotate_left
    · (intro w hSw; (try dsimp only at hSw); go_simp; first | done | with_reducible rfl)
    try simp only [Act.put, List.getElem_toArray, List.getElem_cons_zero, List.getElem_cons_succ, List.setIfInBounds_toArray, List.set_cons_zero, List.set_cons_succ]
    refine wpAnyH_take (i := 2) (v := ?_) rfl (by kernel_rfl) (by kernel_rfl) (by kernel_rfl) (fun _ _ _ h => h) (Or.inl ⟨by rfl, ?_⟩) (by assumption) ?_
    rotate_left
    · (intro w hSw; (try dsimp only at hSw); go_simp; first | done | with_reducible rfl)
    try simp only [Act.put, List.getElem_toArray, List.getElem_cons_zero, List.getElem_cons_succ, List.setIfInBounds_toArray, List.set_cons_zero, List.set_cons_succ]
    refine wpAnyH_take (i := 3) (v := ?_) rfl (by kernel_rfl) (by kernel_rfl) (by kernel_rfl) (fun _ _ _ h => h) (Or.inl ⟨by rfl, ?_⟩) (by assumption) ?_
    rotate_left
    · (intro w hSw; (try dsimp only at hSw); go_simp; first | done | with_reducible rfl)
    try simp only [Act.put, List.getElem_toArray, List.getElem_cons_zero, List.getElem_cons_succ, List.setIfInBounds_toArray, List.set_cons_zero, List.set_cons_succ]
    refine wpAnyH_take (i := 4) (v := ?_) rfl (by kernel_rfl) (by kernel_rfl) (by kernel_rfl) (fun _ _ _ h => h) (Or.inl ⟨by rfl, ?_⟩) (by assumption) ?_
    rotate_left
    · (intro w hSw; (try dsimp only at hSw); go_simp; first | done | with_reducible rfl)
    try simp only [Act.put, List.getElem_toArray, List.getElem_cons_zero, List.getElem_cons_succ, List.setIfInBounds_toArray, List.set_cons_zero, List.set_cons_succ]
    refine wpAnyH_take (i := 5) (v := ?_) rfl (by kernel_rfl) (by kernel_rfl) (by kernel_rfl) (fun _ _ _ h => h) (Or.inl ⟨by rfl, ?_⟩) (by assumption) ?_
    rotate_left
    · (intro w hSw; (try dsimp only at hSw); go_simp; first | done | with_reducible rfl)
    try simp only [Act.put, List.getElem_toArray, List.getElem_cons_zero, List.getElem_cons_succ, List.setIfInBounds_toArray, List.set_cons_zero, List.set_cons_succ]
    refine wpAnyH_ready (rs := [6]) (by kernel_rfl) (by simp) ?_
    refine AllReadyH.cons rfl (fun K hK => ?_) AllReadyH.nil
    go_simp
    refine (IF.out _ (by first | assumption | exact Cl.drew (by assumption))).mono ?_
    rintro e wN ⟨rfl, hbN⟩
    have hCN := Cl.below (by first | assumption | exact Cl.drew (by assumption)) hbN
    go_wp2_with fail
    refine hK.out _ _ ?_ (fun hHeld => ?_)
    · (try dsimp only); first | exact Cl.c2 (by assumption) | exact Cl.c2 (Cl.drew (by assumption)) | go_keep
    clear hK K
    try simp only [Act.put, List.getElem_toArray, List.getElem_cons_zero, List.getElem_cons_succ, List.setIfInBounds_toArray, List.set_cons_zero, List.set_cons_succ]
    refine wpAnyH_take (i := 7) (v := ?_) rfl (by kernel_rfl) (by kernel_rfl) (by kernel_rfl) (fun _ _ _ h => h) (Or.inl ⟨by rfl, ?_⟩) (by assumption) ?_
    rotate_left
    · (intro w hSw; (try dsimp only at hSw); go_simp; first | done | with_reducible rfl)
    try simp only [Act.put, List.getElem_toArray, List.getElem_cons_zero, List.getElem_cons_succ, List.setIfInBounds_toArray, List.set_cons_zero, List.set_cons_succ]
    refine wpAnyH_take (i := 8) (v := ?_) rfl (by kernel_rfl) (by kernel_rfl) (by kernel_rfl) (fun _ _ _ h => h) (Or.inl ⟨by rfl, ?_⟩) (by assumption) ?_
    rotate_left
    · (intro w hSw; (try dsimp only at hSw); go_simp; first | done | with_reducible rfl)
    try simp only [Act.put, List.getElem_toArray, List.getElem_cons_zero, List.getElem_cons_succ, List.setIfInBounds_toArray, List.set_cons_zero, List.set_cons_succ]
    have hZ : wN.heap[r0]? = some (.cells #[.string ⟨#[]⟩, .int .i64 0, .int .i64 0] 45 (0, 0)) := (hCN.bel.block r0 (by have := Nw.lt H.out.2.2.1; have := HX.out.1.size; omega)).trans ((HX.out.1.block r0 (Nw.lt H.out.2.2.1)).trans H.out.2.2.1)
    obtain ⟨⟨z0, z1, z2⟩, y0, y1, y2⟩ := three hZ
    have hlz := Nw.lt hZ
    obtain ⟨U, hU, hNU⟩ := fin3 hZ (.string ⟨(ope.gd tl ⟨x.t, 1, 0⟩).n.toArray⟩) (.int .i64 (ope.gd tl ⟨x.t, 1, 0⟩).k) (.int .i64 (ope.gd tl ⟨x.t, 1, 0⟩).p)
    have hcU : Cy U (p, 3, .pointer (some ⟨tp, 0, none⟩)) ∧ Cy U (g, 1, .string ⟨x.t.toArray⟩) := by
      have h1 := Cl.c2 hCN
      exact ⟨(hNU.2.cell (World.block_lt_of_cell? _ _ h1.1) HR0.out.1).trans h1.1, (hNU.2.cell (World.block_lt_of_cell? _ _ h1.2) HR0.out.2).trans h1.2⟩
    have HU := Lib.hid (And.intro hNU (And.intro hcU hCN.bel))
    unfold opa.D.v
    refine wpAnyH_ready (rs := [9]) (by kernel_rfl) (by simp) ?_
    refine AllReadyH.cons rfl (fun K hK => ?_) AllReadyH.nil
    go_simp
    go_wp2_with fail
    refine hK.out _ _ ?_ (fun hHeld => ?_)
    · (try dsimp only); exact HU.out.2.1
    clear hK K
    try simp only [Act.put, List.getElem_toArray, List.getElem_cons_zero, List.getElem_cons_succ, List.setIfInBounds_toArray, List.set_cons_zero, List.set_cons_succ]
    clear z0 z1 z2 y0 y1 y2 hU hNU hcU hZ hlz
    refine wpAnyH_take (i := 10) (v := ?_) rfl (by kernel_rfl) (by kernel_rfl) (by kernel_rfl) (fun _ _ _ h => h) (Or.inl ⟨by rfl, ?_⟩) (by assumption) ?_
    rotate_left
    · (intro w hSw; (try dsimp only at hSw); go_simp; first | done | with_reducible rfl)
    try simp only [Act.put, List.getElem_toArray, List.getElem_cons_zero, List.getElem_cons_succ, List.setIfInBounds_toArray, List.set_cons_zero, List.set_cons_succ]
    refine wpAnyH_done (by kernel_rfl) ?_ _
    refine NoPanic.normal ?_
    obtain ⟨⟨e0, e1, e2⟩, -⟩ := three HU.out.1.1
    clear hCN
    go_wp2_with fail
    refine bodyPost_ret (v := .tuple #[(ope.gd tl ⟨x.t, 1, 0⟩).v, .bool (opa.is tl ⟨x.t, 1, 0⟩)]) (by simp [results, Tryz.results88, go_sem, e0, e1, e2, opa.D.v]) rfl ⟨?_, ?_⟩
    · rw [HQ.out, ← ifx_is HQ.out]
    · exact (H.out.2.1.trans (HX.out.1.mono H.out.2.1.size)).trans ((HU.out.2.2.mono (H.out.2.1.trans (HX.out.1.mono H.out.2.1.size)).size).trans (HU.out.1.2.to_below (fun i hi => by rw [hi, HW.out.1]; exact Nat.le_refl _) (by have := HU.out.1.2.size; have := HU.out.2.2.size; have := HX.out.1.size; have := H.out.2.1.size; omega)))
  · have HQ := Lib.hid q4
    clear q4
    go_enter Tryz.func88, Tryz.ntmps88
    go_upto_region 1 with fail
    change Code.wp _ _ _ _ (w.alloc OZ)
    rw [← HW.out.1, ← HW.out.2]
    go_wp2_with fail
    refine hto.out.mono ?_; rintro e w2 ⟨rfl, b2⟩
    unfold TV tkc
    obtain ⟨⟨z0, z1, z2, z3, z4, z5⟩, y0, y1, y2, y3, y4, y5⟩ := six (alloc_at w2 (TO 0 [] 0 0 0 0))
    have HG := Lib.hid (GT.of x b2)
    obtain ⟨g, hg⟩ : ∃ g, g = w2.heap.size := ⟨_, rfl⟩
    go_upto_region 2 with fail
    rw [← hg] at HG ⊢
    refine nmw (K := GT w1 g x) HG.out (fun W hW => ?_)
    obtain ⟨⟨t0, t1, -⟩, -⟩ := six hW.2.1
    have hP : W.heap[p]? = some (RO tv N k (.pointer (some ⟨tp, 0, none⟩)) mp nv) := ((H.out.2.1.trans (hW.1.mono H.out.2.1.size)).block p (Nw.lt H.out.1)).trans H.out.1
    obtain ⟨⟨-, -, -, c3, -⟩, -⟩ := six hP
    have HX := Lib.hid hW
    clear hg HG z0 z1 z2 z3 z4 z5 y0 y1 y2 y3 y4 y5 hW b2 hP
    go_upto_region 3 with fail
    have HR0 : Hid (¬ (p = r0) ∧ ¬ (g = r0)) := Lib.hid ⟨by rw [HW.out.1]; have := Nw.lt H.out.1; omega, by have h1 := HX.out.2.2; have h2 := Nw.lt H.out.2.2.1; omega⟩
    have hcl : Cl W [(p, 3, .pointer (some ⟨tp, 0, none⟩)), (g, 1, .string ⟨x.t.toArray⟩)] W := ⟨by simp [c3, t1], kp.br _⟩
    have IF := Lib.hid (fun (w9 : World) (hc : Cl W [(p, 3, .pointer (some ⟨tp, 0, none⟩)), (g, 1, .string ⟨x.t.toArray⟩)] w9) => infix_c W w9 x.t (H.out.2.2.2.1.below (H.out.2.1.trans (HX.out.1.mono H.out.2.1.size))) H.out.2.2.2.2.1 H.out.2.2.2.2.2 hc.bel)
    refine wp_region_noPanic ?_
    refine wp_region_held_drew (S := (fun w' => w'.cell? ⟨p, 3, none⟩ = some (.pointer (some ⟨tp, 0, none⟩)) ∧ w'.cell? ⟨g, 1, none⟩ = some (.string ⟨x.t.toArray⟩))) (by kernel_rfl) ?_ (fun hHeld => ?_)
    · (try dsimp only); first | exact Cl.c2 (by assumption) | exact Cl.c2 (Cl.drew (by assumption)) | go_keep
    refine wpAnyH_take (i := 0) (v := ?_) rfl (by kernel_rfl) (by kernel_rfl) (by kernel_rfl) (fun _ _ _ h => h) (Or.inl ⟨by rfl, ?_⟩) (by assumption) ?_
    rotate_left
    · (intro w hSw; (try dsimp only at hSw); go_simp; first | done | with_reducible rfl)
    try simp only [Act.put, List.getElem_toArray, List.getElem_cons_zero, List.getElem_cons_succ, List.setIfInBounds_toArray, List.set_cons_zero, List.set_cons_succ]
    refine wpAnyH_take (i := 1) (v := ?_) rfl (by kernel_rfl) (by kernel_rfl) (by kernel_rfl) (fun _ _ _ h => h) (Or.inl ⟨by rfl, ?_⟩) (by assumption) ?_
    rotate_left
    · (intro w hSw; (try dsimp only at hSw); go_simp; first | done | with_reducible rfl)
    try simp only [Act.put, List.getElem_toArray, List.getElem_cons_zero, List.getElem_cons_succ, List.setIfInBounds_toArray, List.set_cons_zero, List.set_cons_succ]
    refine wpAnyH_take (i := 2) (v := ?_) rfl (by kernel_rfl) (by kernel_rfl) (by kernel_rfl) (fun _ _ _ h => h) (Or.inl ⟨by rfl, ?_⟩) (by assumption) ?_
    rotate_left
    · (intro w hSw; (try dsimp only at hSw); go_simp; first | done | with_reducible rfl)
    try simp only [Act.put, List.getElem_toArray, List.getElem_cons_zero, List.getElem_cons_succ, List.setIfInBounds_toArray, List.set_cons_zero, List.set_cons_succ]
    refine wpAnyH_take (i := 3) (v := ?_) rfl (by kernel_rfl) (by kernel_rfl) (by kernel_rfl) (fun _ _ _ h => h) (Or.inl ⟨by rfl, ?_⟩) (by assumption) ?_
    rotate_left
    · (intro w hSw; (try dsimp only at hSw); go_simp; first | done | with_reducible rfl)
    try simp only [Act.put, List.getElem_toArray, List.getElem_cons_zero, List.getElem_cons_succ, List.setIfInBounds_toArray, List.set_cons_zero, List.set_cons_succ]
    refine wpAnyH_take (i := 4) (v := ?_) rfl (by kernel_rfl) (by kernel_rfl) (by kernel_rfl) (fun _ _ _ h => h) (Or.inl ⟨by rfl, ?_⟩) (by assumption) ?_
    rotate_left
    · (intro w hSw; (try dsimp only at hSw); go_simp; first | done | with_reducible rfl)
    try simp only [Act.put, List.getElem_toArray, List.getElem_cons_zero, List.getElem_cons_succ, List.setIfInBounds_toArray, List.set_cons_zero, List.set_cons_succ]
    refine wpAnyH_take (i := 5) (v := ?_) rfl (by kernel_rfl) (by kernel_rfl) (by kernel_rfl) (fun _ _ _ h => h) (Or.inl ⟨by rfl, ?_⟩) (by assumption) ?_
    rotate_left
    · (intro w hSw; (try dsimp only at hSw); go_simp; first | done | with_reducible rfl)
    try simp only [Act.put, List.getElem_toArray, List.getElem_cons_zero, List.getElem_cons_succ, List.setIfInBounds_toArray, List.set_cons_zero, List.set_cons_succ]
    refine wpAnyH_ready (rs := [6]) (by kernel_rfl) (by simp) ?_
    refine AllReadyH.cons rfl (fun K hK => ?_) AllReadyH.nil
    go_simp
    refine (IF.out _ (by first | assumption | exact Cl.drew (by assumption))).mono ?_
    rintro e wN ⟨rfl, hbN⟩
    have hCN := Cl.below (by first | assumption | exact Cl.drew (by assumption)) hbN
    go_wp2_with fail
    refine hK.out _ _ ?_ (fun hHeld => ?_)
    · (try dsimp only); first | exact Cl.c2 (by assumption) | exact Cl.c2 (Cl.drew (by assumption)) | go_keep
    clear hK K
    try simp only [Act.put, List.getElem_toArray, List.getElem_cons_zero, List.getElem_cons_succ, List.setIfInBounds_toArray, List.set_cons_zero, List.set_cons_succ]
    refine wpAnyH_take (i := 7) (v := ?_) rfl (by kernel_rfl) (by kernel_rfl) (by kernel_rfl) (fun _ _ _ h => h) (Or.inl ⟨by rfl, ?_⟩) (by assumption) ?_
    rotate_left
    · (intro w hSw; (try dsimp only at hSw); go_simp; first | done | with_reducible rfl)
    try simp only [Act.put, List.getElem_toArray, List.getElem_cons_zero, List.getElem_cons_succ, List.setIfInBounds_toArray, List.set_cons_zero, List.set_cons_succ]
    refine wpAnyH_take (i := 8) (v := ?_) rfl (by kernel_rfl) (by kernel_rfl) (by kernel_rfl) (fun _ _ _ h => h) (Or.inl ⟨by rfl, ?_⟩) (by assumption) ?_
    rotate_left
    · (intro w hSw; (try dsimp only at hSw); go_simp; first | done | with_reducible rfl)
    try simp only [Act.put, List.getElem_toArray, List.getElem_cons_zero, List.getElem_cons_succ, List.setIfInBounds_toArray, List.set_cons_zero, List.set_cons_succ]
    have hZ : wN.heap[r0]? = some (.cells #[.string ⟨#[]⟩, .int .i64 0, .int .i64 0] 45 (0, 0)) := (hCN.bel.block r0 (by have := Nw.lt H.out.2.2.1; have := HX.out.1.size; omega)).trans ((HX.out.1.block r0 (Nw.lt H.out.2.2.1)).trans H.out.2.2.1)
    obtain ⟨⟨z0, z1, z2⟩, y0, y1, y2⟩ := three hZ
    have hlz := Nw.lt hZ
    obtain ⟨U, hU, hNU⟩ := fin3 hZ (.string ⟨(ope.gd tl ⟨x.t, 1, 0⟩).n.toArray⟩) (.int .i64 (ope.gd tl ⟨x.t, 1, 0⟩).k) (.int .i64 (ope.gd tl ⟨x.t, 1, 0⟩).p)
    have hcU : Cy U (p, 3, .pointer (some ⟨tp, 0, none⟩)) ∧ Cy U (g, 1, .string ⟨x.t.toArray⟩) := by
      have h1 := Cl.c2 hCN
      exact ⟨(hNU.2.cell (World.block_lt_of_cell? _ _ h1.1) HR0.out.1).trans h1.1, (hNU.2.cell (World.block_lt_of_cell? _ _ h1.2) HR0.out.2).trans h1.2⟩
    have HU := Lib.hid (And.intro hNU (And.intro hcU hCN.bel))
    unfold opa.D.v
    refine wpAnyH_ready (rs := [9]) (by kernel_rfl) (by simp) ?_
    refine AllReadyH.cons rfl (fun K hK => ?_) AllReadyH.nil
    go_simp
    go_wp2_with fail
    refine hK.out _ _ ?_ (fun hHeld => ?_)
    · (try dsimp only); exact HU.out.2.1
    clear hK K
    try simp only [Act.put, List.getElem_toArray, List.getElem_cons_zero, List.getElem_cons_succ, List.setIfInBounds_toArray, List.set_cons_zero, List.set_cons_succ]
    clear z0 z1 z2 y0 y1 y2 hU hNU hcU hZ hlz
    refine wpAnyH_take (i := 10) (v := ?_) rfl (by kernel_rfl) (by kernel_rfl) (by kernel_rfl) (fun _ _ _ h => h) (Or.inl ⟨by rfl, ?_⟩) (by assumption) ?_
    rotate_left
    · (intro w hSw; (try dsimp only at hSw); go_simp; first | done | with_reducible rfl)
    try simp only [Act.put, List.getElem_toArray, List.getElem_cons_zero, List.getElem_cons_succ, List.setIfInBounds_toArray, List.set_cons_zero, List.set_cons_succ]
    refine wpAnyH_done (by kernel_rfl) ?_ _
    refine NoPanic.normal ?_
    obtain ⟨⟨e0, e1, e2⟩, -⟩ := three HU.out.1.1
    clear hCN
    go_wp2_with fail
    refine bodyPost_ret (v := .tuple #[(ope.gd tl ⟨x.t, 1, 0⟩).v, .bool (opa.is tl ⟨x.t, 1, 0⟩)]) (by simp [results, Tryz.results88, go_sem, e0, e1, e2, opa.D.v]) rfl ⟨?_, ?_⟩
    · rw [HQ.out, ← ifx_is HQ.out]
    · exact (H.out.2.1.trans (HX.out.1.mono H.out.2.1.size)).trans ((HU.out.2.2.mono (H.out.2.1.trans (HX.out.1.mono H.out.2.1.size)).size).trans (HU.out.1.2.to_below (fun i hi => by rw [hi, HW.out.1]; exact Nat.le_refl _) (by have := HU.out.1.2.size; have := HU.out.2.2.size; have := HX.out.1.size; have := H.out.2.1.size; omega)))
  · have HQ := Lib.hid q4
    clear q4
    go_enter Tryz.func88, Tryz.ntmps88
    go_upto_region 1 with fail
    change Code.wp _ _ _ _ (w.alloc OZ)
    rw [← HW.out.1, ← HW.out.2]
    go_wp2_with fail
    refine hto.out.mono ?_; rintro e w2 ⟨rfl, b2⟩
    unfold TV tkc
    obtain ⟨⟨z0, z1, z2, z3, z4, z5⟩, y0, y1, y2, y3, y4, y5⟩ := six (alloc_at w2 (TO 0 [] 0 0 0 0))
    have HG := Lib.hid (GT.of x b2)
    obtain ⟨g, hg⟩ : ∃ g, g = w2.heap.size := ⟨_, rfl⟩
    go_upto_region 2 with fail
    rw [← hg] at HG ⊢
    refine nmw (K := fun W => GT w1 g x W ∧ W.heap[r0]? = some (.cells #[.string ⟨#[]⟩, .int .i64 0, .int .i64 0] 45 (0, 0))) ⟨HG.out, (HG.out.1.block r0 (Nw.lt H.out.2.2.1)).trans H.out.2.2.1⟩ (fun W hW => ?_)
    obtain ⟨⟨t0, t1, -⟩, -⟩ := six hW.1.2.1
    obtain ⟨⟨s0, s1, s2⟩, u0, u1, u2⟩ := three hW.2
    have hlz := Nw.lt hW.2
    have HX := Lib.hid hW
    obtain ⟨U, hU, hNU⟩ := fin3 hW.2 (.string ⟨#[]⟩) (.int .i64 0) (.int .i64 0)
    have HU := Lib.hid hNU
    obtain ⟨⟨e0, e1, e2⟩, -⟩ := three hNU.1
    clear hg HG z0 z1 z2 z3 z4 z5 y0 y1 y2 y3 y4 y5 hW b2 hNU
    go_wp2_with fail
    refine bodyPost_ret (v := .tuple #[(⟨[], 0, 0⟩ : opa.D).v, .bool false]) (by simp [results, Tryz.results88, go_sem, e0, e1, e2, opa.D.v]) rfl ⟨?_, ?_⟩
    · unfold ifx; rw [HQ.out, if_neg (by decide)]
    · exact (H.out.2.1.trans (HX.out.1.1.mono H.out.2.1.size)).trans (HU.out.2.to_below (fun i hi => by rw [hi, HW.out.1]; exact Nat.le_refl _) (by have := HU.out.2.size; have := HX.out.1.1.size; have := H.out.2.1.size; omega))
  · have HQ := Lib.hid q3
    clear q3
    go_enter Tryz.func88, Tryz.ntmps88
    go_upto_region 1 with fail
    change Code.wp _ _ _ _ (w.alloc OZ)
    rw [← HW.out.1, ← HW.out.2]
    go_wp2_with fail
    refine hto.out.mono ?_; rintro e w2 ⟨rfl, b2⟩
    unfold TV tkc
    obtain ⟨⟨z0, z1, z2, z3, z4, z5⟩, y0, y1, y2, y3, y4, y5⟩ := six (alloc_at w2 (TO 0 [] 0 0 0 0))
    have HG := Lib.hid (GT.of x b2)
    obtain ⟨g, hg⟩ : ∃ g, g = w2.heap.size := ⟨_, rfl⟩
    go_upto_region 2 with fail
    rw [← hg] at HG ⊢
    refine nmw (K := fun W => GT w1 g x W ∧ W.heap[r0]? = some (.cells #[.string ⟨#[]⟩, .int .i64 0, .int .i64 0] 45 (0, 0))) ⟨HG.out, (HG.out.1.block r0 (Nw.lt H.out.2.2.1)).trans H.out.2.2.1⟩ (fun W hW => ?_)
    obtain ⟨⟨t0, t1, -⟩, -⟩ := six hW.1.2.1
    obtain ⟨⟨s0, s1, s2⟩, u0, u1, u2⟩ := three hW.2
    have hlz := Nw.lt hW.2
    have HX := Lib.hid hW
    obtain ⟨U, hU, hNU⟩ := fin3 hW.2 (.string ⟨#[]⟩) (.int .i64 0) (.int .i64 0)
    have HU := Lib.hid hNU
    obtain ⟨⟨e0, e1, e2⟩, -⟩ := three hNU.1
    clear hg HG z0 z1 z2 z3 z4 z5 y0 y1 y2 y3 y4 y5 hW b2 hNU
    go_wp2_with fail
    refine bodyPost_ret (v := .tuple #[(⟨[], 0, 0⟩ : opa.D).v, .bool false]) (by simp [results, Tryz.results88, go_sem, e0, e1, e2, opa.D.v]) rfl ⟨?_, ?_⟩
    · unfold ifx; rw [HQ.out, if_neg (by decide)]
    · exact (H.out.2.1.trans (HX.out.1.1.mono H.out.2.1.size)).trans (HU.out.2.to_below (fun i hi => by rw [hi, HW.out.1]; exact Nat.le_refl _) (by have := HU.out.2.size; have := HX.out.1.1.size; have := H.out.2.1.size; omega))
end
end Go.Proofs.YtedbcmagjbgbjaaGreatDoor.rd
