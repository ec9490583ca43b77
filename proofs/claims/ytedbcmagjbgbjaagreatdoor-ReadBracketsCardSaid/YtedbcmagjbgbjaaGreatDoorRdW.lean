/- The project's reader: clause. The project's reader: Term. -/
import Derived.Test.YtedbcmagjbgbjaaGreatDoorRdV
import Derived.Test.YtedbcmagjbgbjaaGreatDoorTkP
namespace Go.Proofs.YtedbcmagjbgbjaaGreatDoor.rd
open Go.ChangeShapes Go.WideShapes Go.ChangeAt Go.RowKit Go.Maps
open Go.Proofs.YtedbcmagjbgbjaaGreatDoor.kp Go.Proofs.YtedbcmagjbgbjaaGreatDoor.num Go.Proofs.YtedbcmagjbgbjaaGreatDoor.dec Go.Proofs.YtedbcmagjbgbjaaGreatDoor.tk
set_option linter.unusedVariables false
set_option linter.unusedSimpArgs false
section
variable {w w' w0 w1 w2 : World} {p m tp N k : Nat} {tv : Value} {all : List Tk} {tl : List opa.D} {ns : Names} {F F' FT : Nat → Prop} {rec : Rec} {f : Nat}
theorem good_all (p m : Nat) (tv : Value) (tp : Nat) (FT : Nat → Prop) (N : Nat) (all : List Tk) (tl : List opa.D) : ∀ f, Good p m tv tp FT N all tl (term true (OTof tl) N f) f := by
  intro f
  induction f with
  | zero => intro most level k ns F w h hf; have := h.kle; omega
  | succ f ih => exact term_step ih (term_part true (OTof tl) N f)
/-- the reader between clauses -/
structure CP (p : Nat) (tv : Value) (tp : Nat) (FT : Nat → Prop) (N : Nat) (all : List Tk) (tl : List opa.D) (k : Nat) (w : World) : Prop where
  rd : ∃ mp nv, w.heap[p]? = some (RO tv N k (.pointer (some ⟨tp, 0, none⟩)) mp nv)
  env : Env tv tp FT all tl (fun i => i = p) w
  kle : k ≤ all.length
  ale : all.length ≤ 65536
  ok : ∀ x ∈ all, TkOk x
theorem CP.below (h : CP p tv tp FT N all tl k w) (b : Below w.heap.size w w') : CP p tv tp FT N all tl k w' := by
  obtain ⟨mp, nv, hp⟩ := h.rd
  exact ⟨⟨mp, nv, (b.block p (Nw.lt hp)).trans hp⟩, h.env.next (Keep.of_below b) (fun _ => Or.inl), h.kle, h.ale, h.ok⟩
abbrev CO (v0 v1 v2 v3 v4 v5 v6 v7 : Value) : Obj := .cells #[v0, v1, v2, v3, v4, v5, v6, v7] 54 (0, 0)
abbrev CZ : Obj := .cells #[.int .i64 0, .string ⟨#[]⟩, .int .i64 0, .int .u64 0, .int .u64 0, .slice none 0 0, .slice none 0 0, .int .i64 0] 54
theorem eight {q : Nat} {v0 v1 v2 v3 v4 v5 v6 v7 : Value} {ty : TypeId} (h : w.heap[q]? = some (.cells #[v0, v1, v2, v3, v4, v5, v6, v7] ty (0, 0))) :
    (w.cell? ⟨q, 0, none⟩ = some v0 ∧ w.cell? ⟨q, 1, none⟩ = some v1 ∧ w.cell? ⟨q, 2, none⟩ = some v2 ∧ w.cell? ⟨q, 3, none⟩ = some v3 ∧ w.cell? ⟨q, 4, none⟩ = some v4 ∧ w.cell? ⟨q, 5, none⟩ = some v5 ∧ w.cell? ⟨q, 6, none⟩ = some v6 ∧ w.cell? ⟨q, 7, none⟩ = some v7) ∧
    w.frozen? ⟨q, 0, none⟩ = false ∧ w.frozen? ⟨q, 1, none⟩ = false ∧ w.frozen? ⟨q, 2, none⟩ = false ∧ w.frozen? ⟨q, 3, none⟩ = false ∧ w.frozen? ⟨q, 4, none⟩ = false ∧ w.frozen? ⟨q, 5, none⟩ = false ∧ w.frozen? ⟨q, 6, none⟩ = false ∧ w.frozen? ⟨q, 7, none⟩ = false := by
  refine ⟨⟨?_, ?_, ?_, ?_, ?_, ?_, ?_, ?_⟩, ?_, ?_, ?_, ?_, ?_, ?_, ?_, ?_⟩ <;> simp [World.cell?, World.frozen?, h]
theorem fin8 {r : Nat} {u0 u1 u2 u3 u4 u5 u6 u7 : Value} {ty : TypeId} (h : w.heap[r]? = some (.cells #[u0, u1, u2, u3, u4, u5, u6, u7] ty (0, 0))) (v0 v1 v2 v3 v4 v5 v6 v7 : Value) : ∃ W,
    ((((((((w.setCell ⟨r, 0, none⟩ v0).setCell ⟨r, 1, none⟩ v1).setCell ⟨r, 2, none⟩ v2).setCell ⟨r, 3, none⟩ v3).setCell ⟨r, 4, none⟩ v4).setCell ⟨r, 5, none⟩ v5).setCell ⟨r, 6, none⟩ v6).setCell ⟨r, 7, none⟩ v7) = W ∧ Nw r (.cells #[v0, v1, v2, v3, v4, v5, v6, v7] ty (0, 0)) w W := by
  have a0 := Nw.set h 0 v0
  have a1 := a0.trans (Nw.set a0.1 1 v1)
  have a2 := a1.trans (Nw.set a1.1 2 v2)
  have a3 := a2.trans (Nw.set a2.1 3 v3)
  have a4 := a3.trans (Nw.set a3.1 4 v4)
  have a5 := a4.trans (Nw.set a4.1 5 v5)
  have a6 := a5.trans (Nw.set a5.1 6 v6)
  have a7 := a6.trans (Nw.set a6.1 7 v7)
  exact ⟨_, rfl, by simpa using a7⟩
/-- a token's contract over the state -/
theorem token_st (h : St p m tv tp FT N all tl k ns F w) :
    Calls Tryz.prog 56 #[.pointer (some ⟨p, 0, none⟩), .int .i64 0] w fun e w' => e = .returned (TV (see N (all.drop k) 0)) ∧ Below w.heap.size w w' := by
  obtain ⟨nv, hp⟩ := h.ro
  have ha := h.ale
  have hk := h.kle
  exact token_any hp h.env.toks (by omega) (by omega) 0 (by omega)
/-- a new clause begins -/
theorem St.fresh (h : CP p tv tp FT N all tl k w) (hp : w'.heap[p]? = some (RO tv N k (.pointer (some ⟨tp, 0, none⟩)) (.map (some m)) (.slice none 0 0))) (hm : w'.heap[m]? = some (.map #[] 0)) (hw : w.heap.size ≤ m) (K : Keep (fun i => i = p) w w') :
    St p m tv tp FT N all tl k [] (fun i => i = p ∨ i = m) w' := by
  obtain ⟨mp, nv, hp0⟩ := h.rd
  have hpl := Nw.lt hp0
  refine ⟨⟨.slice none 0 0, .map [], 0, hp, ?_, Nat.le_refl _, NS_nil, World.ownsRow_nil _ _ _ _, by omega, by simp [Value.ownBlock], by simp [Value.ownBlock], by simp [Value.ownBlock]⟩, h.env.next K fun i hi => ?_, h.kle, h.ale, Nat.zero_le _, h.ok⟩
  · have h1 := World.ownsMap_made w' Tryz.prog 9 (plainElem (H := Unit) Tryz.prog 2)
    obtain ⟨es, clock, hmb, r⟩ := h1
    have he : w'.alloc (.map #[] 0) = w'.alloc (.map #[] 0) := rfl
    have h2 := alloc_at w' (.map #[] 0)
    rw [h2] at hmb
    exact ⟨es, clock, hm.trans hmb, r⟩
  · rcases hi with hi | hi
    · exact Or.inl hi
    · exact Or.inr (by omega)
/-- a clause, of what its term came to -/
def clOf (N : Nat) (x : Tk) (T : PR Tm) : CR := match T with
  | .er e r _ => .er e (see N r 0).a
  | .ok t r n => if (see N r 0).k = 8 then (if tm.may t = 0 then .ok t n x.a r.tail else .er (tm.may t) x.a) else .er 2 (see N r 0).a
theorem CP.of {k0 b : Nat} {o : Obj} (h0 : CP p tv tp FT N all tl k0 w0) (h : St p m tv tp FT N all tl k ns F w) (hb : w0.heap.size ≤ b) (hbp : b ≠ p) (N' : Nw b o w w') : CP p tv tp FT N all tl k w' := by
  obtain ⟨nv, hp⟩ := h.ro
  refine ⟨⟨_, nv, (N'.2.block p (Nw.lt hp) (fun e => hbp e.symm)).trans hp⟩, ⟨ow_keep h.env.toks fun i e => N'.2.block i (h.env.toks.lt i e).2 (fun e2 => ?_), h0.env.toff, h.env.tab.keep N'.2 (fun i hi e2 => ?_), h0.env.tabo, h.env.srt, h.env.len, h.env.pri⟩, h.kle, h.ale, h.ok⟩
  · have := (h0.env.toks.lt i e).2; have e3 : i = b := e2; omega
  · have := h0.env.tab.lt i hi; have e3 : i = b := e2; omega
abbrev ZC : Value := .agg #[.int .i64 0, .string ⟨#[]⟩, .int .i64 0, .int .u64 0, .int .u64 0, .slice none 0 0, .slice none 0 0, .int .i64 0]
/-- what a call that reads a clause tells -/
def CE (p : Nat) (tv : Value) (tp : Nat) (FT : Nat → Prop) (N : Nat) (all : List Tk) (tl : List opa.D) (k : Nat) (R : CR) (w : World) (e : Ending) (w' : World) : Prop := match R with
  | .er n a => e = .returned (.tuple #[ZC, .int .i64 (a : Int), .int .i64 n]) ∧ n ≠ 0 ∧ Keep (fun i => i = p) w w'
  | .ok t ns a rest => ∃ (v0 : Int) (v1 : ByteArray) (v2 v3 v4 : Int) (xa : Option Addr) (xl xc : Nat) (nv : Value) (k' : Nat), e = .returned (.tuple #[.agg #[.int .i64 v0, .string v1, .int .i64 v2, .int .u64 v3, .int .u64 v4, .slice xa xl xc, nv, .int .i64 (a : Int)], .int .i64 0, .int .i64 0]) ∧ all.drop k' = rest ∧ CP p tv tp FT N all tl k' w' ∧ Keep (fun i => i = p) w w' ∧ Lv (fun i => i = p) w.heap.size w' t (.agg #[.int .i64 v0, .string v1, .int .i64 v2, .int .u64 v3, .int .u64 v4, .slice xa xl xc]) ∧
      w'.ownsRow w.heap.size 9 1 nv ns.length (ns.map sv) ∧ nv.ownBlock ≠ some p ∧ k < k'
theorem RS.names (h : RS p m tv (.pointer (some ⟨tp, 0, none⟩)) N k ns F w) : ∃ nv, w.heap[p]? = some (RO tv N k (.pointer (some ⟨tp, 0, none⟩)) (.map (some m)) nv) ∧ w.ownsRow 0 9 1 nv ns.length (ns.map sv) ∧ nv.ownBlock ≠ some p ∧ nv.ownBlock ≠ some m ∧ (∀ i, nv.ownBlock = some i → F i) := by
  obtain ⟨nv, D, kl, hp, hm, hkl, hn, hr, h1, h2, h3, hF⟩ := h
  exact ⟨nv, hp, hr, h2, h3, fun i e => (hF i).2 (Or.inr (Or.inr e))⟩
theorem row_mono {B B' : Nat} {nv : Value} {n : Nat} {xs : List Value} {ty : TypeId} {e : Nat} (h : w.ownsRow B ty e nv n xs) (hB : ∀ i, nv.ownBlock = some i → B' ≤ i) : w.ownsRow B' ty e nv n xs := by
  obtain ⟨hl, hr⟩ := h
  refine ⟨hl, ?_⟩
  rcases hr with hr | ⟨g, cap, cur, rfl, hg0, hg, r⟩
  · exact Or.inl hr
  · exact Or.inr ⟨g, cap, cur, rfl, hB g rfl, hg, r⟩
set_option maxRecDepth 100000 in
set_option maxHeartbeats 16000000 in
theorem clause_any (h : CP p tv tp FT N all tl k w) :
    Calls Tryz.prog 35 #[.pointer (some ⟨p, 0, none⟩)] w (CE p tv tp FT N all tl k (clause true (OTof tl) N (all.drop k)) w) := by
  obtain ⟨r0, hr0⟩ : ∃ r0, r0 = w.heap.size := ⟨_, rfl⟩
  obtain ⟨w1, hw1⟩ : ∃ w1, w1 = w.alloc CZ := ⟨_, rfl⟩
  have hb1 : Below w.heap.size w w1 := by rw [hw1]; exact kp.ba w _
  have h1 := h.below hb1
  obtain ⟨mp, nv, hp1⟩ := h1.rd
  obtain ⟨⟨c0, c1, c2, c3, c4, c5⟩, f0, f1, f2, f3, f4, f5⟩ := six hp1
  have hpl := Nw.lt hp1
  have HW := Lib.hid (And.intro hr0 hw1)
  have hmm := @run_makeMap Tryz.prog
  clear hr0 hw1
  go_enter Tryz.func35, Tryz.ntmps35
  go_upto_region 1 with fail
  change Code.wp _ _ _ _ (w.alloc CZ)
  rw [← HW.out.1, ← HW.out.2]
  go_upto_region 2 with fail
  have n1 := Nw.set hp1 4 (.map (some w1.heap.size))
  have n2 := n1.trans (Nw.set n1.1 5 (.slice none 0 0))
  obtain ⟨m, hm⟩ : ∃ m, m = w1.heap.size := ⟨_, rfl⟩
  have hsz : ((w1.setCell ⟨p, 4, none⟩ (.map (some w1.heap.size))).setCell ⟨p, 5, none⟩ (.slice none 0 0)).heap.size = w1.heap.size := by simp [World.setCell]
  have hb2 := kp.ba ((w1.setCell ⟨p, 4, none⟩ (.map (some w1.heap.size))).setCell ⟨p, 5, none⟩ (.slice none 0 0)) (.map #[] 0)
  have ha2 := alloc_at ((w1.setCell ⟨p, 4, none⟩ (.map (some w1.heap.size))).setCell ⟨p, 5, none⟩ (.slice none 0 0)) (.map #[] 0)
  rw [hsz] at ha2
  refine nmw (K := fun W => W.heap[p]? = some (RO tv N k (.pointer (some ⟨tp, 0, none⟩)) (.map (some m)) (.slice none 0 0)) ∧ W.heap[m]? = some (.map #[] 0) ∧ Keep (fun i => i = p) w1 W)
    ⟨(hb2.block p (Nw.lt n2.1)).trans (by rw [hm]; simpa using n2.1), by rw [hm]; exact ha2, n2.2.trans (Keep.of_below (F := fun i => i = p) hb2) fun _ => Or.inl⟩ (fun W hW => ?_)
  rw [← hm]
  have hS := St.fresh h1 hW.1 hW.2.1 (by rw [hm]; exact Nat.le_refl _) hW.2.2
  have hr0 : W.heap[r0]? = some (CO (.int .i64 0) (.string ⟨#[]⟩) (.int .i64 0) (.int .u64 0) (.int .u64 0) (.slice none 0 0) (.slice none 0 0) (.int .i64 0)) := by
    have a := alloc_at w CZ
    rw [← HW.out.2, ← HW.out.1] at a
    refine (hW.2.2.block r0 (Nw.lt a) ?_).trans a
    intro e
    obtain ⟨mp0, nv0, hp0⟩ := h.rd
    have := Nw.lt hp0
    have := HW.out.1
    have e' : r0 = p := e
    omega
  have hne : r0 ≠ p ∧ r0 < m := by
    obtain ⟨mp0, nv0, hp0⟩ := h.rd
    have := Nw.lt hp0
    have h2 := HW.out.1
    have h3 : w1.heap.size = w.heap.size + 1 := by rw [HW.out.2, alloc_size]
    omega
  have H := Lib.hid (And.intro h (And.intro hS (And.intro hr0 (And.intro ((Keep.of_below (F := fun i => i = p) hb1).trans hW.2.2 fun _ => Or.inl) hne))))
  obtain ⟨x, hx⟩ : ∃ x, x = see N (all.drop k) 0 := ⟨_, rfl⟩
  have HTK := Lib.hid (token_st hS)
  rw [← hx] at HTK
  have HM := Lib.hid hm
  obtain ⟨T, hT⟩ : ∃ T, T = term true (OTof tl) N ((all.drop k).length + 1) 1200 0 (all.drop k) [] := ⟨_, rfl⟩
  have hcl : clause true (OTof tl) N (all.drop k) = clOf N x T := by rw [hT, hx]; rfl
  have HCL := Lib.hid hcl
  have HPT := Lib.hid (show ∀ v r n, T = .ok v r n → r.length < all.length - k from fun v r n e => by have := (term_part true (OTof tl) N _ _ _ _ _ _ _ _ (hT.symm.trans e)).2; rwa [List.length_drop] at this)
  have HGD := Lib.hid (fun (W2 : World) (hS2 : St p m tv tp FT N all tl k [] (fun i => i = p ∨ i = m) W2) => (good_all p m tv tp FT N all tl ((all.drop k).length + 1) 1200 0 k [] _ W2 hS2 (by rw [List.length_drop]; have := hS2.kle; omega) (by omega) (by omega) (by omega)))
  simp only [← hT] at HGD
  clear n1 n2 hsz hb2 ha2 hW hS hr0 hne hm hT hcl hx hmm c0 c1 c2 c3 c4 c5 f0 f1 f2 f3 f4 f5 hpl hp1 hb1 h1 h
  go_wp2_with fail
  refine HTK.out.mono ?_; rintro e w3 ⟨rfl, b3⟩
  unfold TV tkc
  have hf5 : ∀ (z : Tk) (w' : World), (Instr.field 76 (.agg #[.int .i64 z.k, .string ⟨z.t.toArray⟩, .int .i64 z.n, .int .u64 (z.re : Int), .int .u64 (z.im : Int), .int .i64 (z.a : Int)]) 5).run Tryz.prog w' = .ok (.int .i64 (z.a : Int)) w' := fun _ _ => by kernel_rfl
  have hf0 : ∀ (z : Tk) (w' : World), (Instr.field 76 (.agg #[.int .i64 z.k, .string ⟨z.t.toArray⟩, .int .i64 z.n, .int .u64 (z.re : Int), .int .u64 (z.im : Int), .int .i64 (z.a : Int)]) 0).run Tryz.prog w' = .ok (.int .i64 z.k) w' := fun _ _ => by kernel_rfl
  have HTC := Lib.hid (HGD.out w3 (H.out.2.1.below b3))
  have hr3 := (b3.block r0 (Nw.lt H.out.2.2.1)).trans H.out.2.2.1
  have HX := Lib.hid (And.intro b3 hr3)
  clear b3 hr3
  cases T with
  | er n rest ns' =>
    go_wp2_with fail
    refine HTC.out.mono ?_; rintro e w4 ⟨rfl, hn0, k', F', hd, hS, hN⟩
    have hz := hN.block (Nw.lt HX.out.2) (show ¬ (r0 = p ∨ r0 = m) by have := H.out.2.2.2.2; omega)
    have e0 : (n == 0) = false := by simpa using hn0
    have e1 : (n != 0) = true := by rw [bne_iff_ne]; exact hn0
    have HS := Lib.hid (And.intro hS (And.intro (hz.1.trans HX.out.2) hd))
    have HN0 := Lib.hid hn0
    have HKN := Lib.hid hN.keep
    unfold Z0 tmV
    obtain ⟨⟨a0, a1, a2, a3, a4, a5⟩, b0, b1, b2, b3, b4, b5⟩ := six (alloc_at w4 TZ)
    clear hz hS hN hd hn0
    go_upto_region 4 with fail
    refine nmw (K := fun V => Below w4.heap.size w4 V) (kp.ba w4 _) (fun V hV => ?_)
    have HTV := Lib.hid (token_st (HS.out.1.below hV))
    have HV := Lib.hid hV
    rw [HS.out.2.2] at HTV
    clear a0 a1 a2 a3 a4 a5 b0 b1 b2 b3 b4 b5 hV
    obtain ⟨y, hy⟩ : ∃ y, y = see N rest 0 := ⟨_, rfl⟩
    rw [← hy] at HTV
    have HY := Lib.hid (show clause true (OTof tl) N (all.drop k) = .er n y.a by rw [HCL.out, hy]; rfl)
    clear hy
    go_wp2_with fail
    refine HTV.out.mono ?_; rintro e w5 ⟨rfl, b5⟩
    unfold TV tkc
    have HR := Lib.hid ((b5.block r0 (by have h1 := Nw.lt HS.out.2.1; have h2 := HV.out.size; omega)).trans ((HV.out.block r0 (Nw.lt HS.out.2.1)).trans HS.out.2.1))
    have HKP := Lib.hid (show Keep (fun i => i = p) w w5 from (((H.out.2.2.2.1.trans (Keep.of_below (F := fun i => i = p) HX.out.1) fun _ => Or.inl).trans HKN.out (fun i hi => by rcases hi with hi | hi; exact Or.inl hi; exact Or.inr (by have h1 := H.out.2.2.2.2.2; have h2 := HW.out.1; omega))).trans (Keep.of_below (F := fun i => i = p) HV.out) fun _ => Or.inl).trans (Keep.of_below (F := fun i => i = p) b5) fun _ => Or.inl)
    clear b5
    obtain ⟨⟨z0, z1, z2, z3, z4, z5, z6, z7⟩, y0, y1, y2, y3, y4, y5, y6, y7⟩ := eight HR.out
    have hlz := Nw.lt HR.out
    obtain ⟨U, hU, hNU⟩ := fin8 HR.out (.int .i64 0) (.string ⟨#[]⟩) (.int .i64 0) (.int .u64 0) (.int .u64 0) (.slice none 0 0) (.slice none 0 0) (.int .i64 0)
    obtain ⟨⟨q0, q1, q2, q3, q4, q5, q6, q7⟩, -⟩ := eight hNU.1
    have HU := Lib.hid hNU
    clear hNU
    go_wp2_with fail
    refine bodyPost_ret (v := .tuple #[ZC, .int .i64 ((y.a : Int)), .int .i64 n]) (by simp [results, Tryz.results35, go_sem, q0, q1, q2, q3, q4, q5, q6, q7, ZC, Z0, tmV]) rfl ?_
    rw [HY.out]
    exact ⟨rfl, HN0.out, HKP.out.trans HU.out.2 fun i hi => Or.inr (by rw [hi, HW.out.1]; exact Nat.le_refl _)⟩
  | ok t rest ns' =>
    go_wp2_with fail
    refine HTC.out.mono ?_; rintro e w4 ⟨v, k', F', rfl, hd, hS, hN, hL⟩
    subst hd
    obtain ⟨v0, v1, v2, v3, v4, xa, xl, xc, rfl⟩ := Lv.agg6 hL
    have hz := hN.block (Nw.lt HX.out.2) (show ¬ (r0 = p ∨ r0 = m) by have := H.out.2.2.2.2; omega)
    have hkk : k < k' := by have h1 := HPT.out _ _ _ rfl; rw [List.length_drop] at h1; have := hS.kle; omega
    have HKN := Lib.hid hN
    obtain ⟨⟨a0, a1, a2, a3, a4, a5⟩, b0, b1, b2, b3, b4, b5⟩ := six (alloc_at w4 TZ)
    obtain ⟨r1, hr1⟩ : ∃ r1, r1 = w4.heap.size := ⟨_, rfl⟩
    have HS := Lib.hid (And.intro hS (And.intro (hz.1.trans HX.out.2) (And.intro hL hkk)))
    clear hz hS hN hL hkk
    go_upto_region 4 with fail
    refine nmw (K := fun V => Below w4.heap.size w4 V ∧ V.heap[r1]? = some (TC (.int .i64 v0) (.string v1) (.int .i64 v2) (.int .u64 v3) (.int .u64 v4) (.slice xa xl xc)) ∧ w4.heap.size ≤ r1) ⟨kp.ba w4 _, by rw [hr1]; exact alloc_at w4 _, by rw [hr1]; exact Nat.le_refl _⟩ (fun V hV => ?_)
    rw [← hr1]
    have HTV := Lib.hid (token_st (HS.out.1.below hV.1))
    have HV := Lib.hid hV
    clear a0 a1 a2 a3 a4 a5 b0 b1 b2 b3 b4 b5 hV hr1
    obtain ⟨y, hy⟩ : ∃ y, y = see N (all.drop k') 0 := ⟨_, rfl⟩
    rw [← hy] at HTV
    have HYY := Lib.hid hy
    clear hy
    go_wp2_with fail
    refine HTV.out.mono ?_; rintro e w5 ⟨rfl, b5⟩
    have hr5 := (b5.block r0 (by have h1 := Nw.lt HS.out.2.1; have h2 := HV.out.1.size; omega)).trans ((HV.out.1.block r0 (Nw.lt HS.out.2.1)).trans HS.out.2.1)
    have hKP : Keep (fun i => i = p) w w5 := (((H.out.2.2.2.1.trans (Keep.of_below (F := fun i => i = p) HX.out.1) fun _ => Or.inl).trans HKN.out.keep (fun i hi => by rcases hi with hi | hi; exact Or.inl hi; exact Or.inr (by have h1 := H.out.2.2.2.2.2; have h2 := HW.out.1; omega))).trans (Keep.of_below (F := fun i => i = p) HV.out.1) fun _ => Or.inl).trans (Keep.of_below (F := fun i => i = p) b5) fun _ => Or.inl
    have hS5 := (HS.out.1.below HV.out.1).below b5
    have hr15 := (b5.block r1 (Nw.lt HV.out.2.1)).trans HV.out.2.1
    have H5 := Lib.hid (And.intro hS5 (And.intro hr5 (And.intro hKP (And.intro hr15 b5))))
    unfold TV tkc
    clear hr5 hKP hS5 hr15 b5
    by_cases c8 : y.k = 8
    rotate_left
    · have k8 : (y.k != 8) = true := by rw [bne_iff_ne]; exact c8
      have HY := Lib.hid (show clause true (OTof tl) N (all.drop k) = .er 2 y.a by rw [HCL.out]; show (if (see N (all.drop k') 0).k = 8 then _ else _) = _; rw [← HYY.out, if_neg c8])
      have HTW := Lib.hid (token_st H5.out.1)
      rw [← HYY.out] at HTW
      clear c8
      go_wp2_with fail
      refine HTW.out.mono ?_; rintro e w6 ⟨rfl, b6⟩
      have HR := Lib.hid ((b6.block r0 (Nw.lt H5.out.2.1)).trans H5.out.2.1)
      have HKP := Lib.hid (show Keep (fun i => i = p) w w6 from H5.out.2.2.1.trans (Keep.of_below (F := fun i => i = p) b6) fun _ => Or.inl)
      have HN0 := Lib.hid (show (2 : Int) ≠ 0 by decide)
      unfold TV tkc
      clear b6
      obtain ⟨⟨z0, z1, z2, z3, z4, z5, z6, z7⟩, y0, y1, y2, y3, y4, y5, y6, y7⟩ := eight HR.out
      have hlz := Nw.lt HR.out
      obtain ⟨U, hU, hNU⟩ := fin8 HR.out (.int .i64 0) (.string ⟨#[]⟩) (.int .i64 0) (.int .u64 0) (.int .u64 0) (.slice none 0 0) (.slice none 0 0) (.int .i64 0)
      obtain ⟨⟨q0, q1, q2, q3, q4, q5, q6, q7⟩, -⟩ := eight hNU.1
      have HU := Lib.hid hNU
      clear hNU
      go_wp2_with fail
      refine bodyPost_ret (v := .tuple #[ZC, .int .i64 ((y.a : Int)), .int .i64 2]) (by simp [results, Tryz.results35, go_sem, q0, q1, q2, q3, q4, q5, q6, q7, ZC, Z0, tmV]) rfl ?_
      rw [HY.out]
      exact ⟨rfl, HN0.out, HKP.out.trans HU.out.2 fun i hi => Or.inr (by rw [hi, HW.out.1]; exact Nat.le_refl _)⟩
    have k8 : (y.k != 8) = false := by rw [c8]; rfl
    have HC8 := Lib.hid c8
    clear c8
    obtain ⟨nv, hp5, hrow5, hnp, hnm, hnF⟩ := H5.out.1.rs.names
    obtain ⟨na, nc, rfl⟩ := kp.shape hrow5
    have hjl : k' < all.length := H5.out.1.kn (j := 0) (by rw [← HYY.out, HC8.out]; decide)
    have hto := H5.out.1.to (k' := k' + 1) hp5 (ro_next hp5) (by omega) (by omega)
    have hnx := ro_next hp5
    obtain ⟨⟨-, -, c2, -⟩, -, -, f2, -⟩ := six hp5
    have hlt := Nw.lt hp5
    have hw : wrap64 ((k' : Int) + 1) = ((k' + 1 : Nat) : Int) := by have := H5.out.1.ale; unfold wrap64; omega
    have HTO := Lib.hid (And.intro hto (And.intro hnx (And.intro hrow5 (And.intro hnp (And.intro hnm hnF)))))
    clear hjl hto hnx hrow5 hnp hnm hnF hp5
    go_upto_region 9 with fail
    refine nmw (K := fun X => (St p m tv tp FT N all tl (k' + 1) ns' F' X ∧ Nx F' w5 F' X) ∧ Nw p (RO tv N (k' + 1) (.pointer (some ⟨tp, 0, none⟩)) (.map (some m)) (Value.slice na ns'.length nc)) w5 X) ⟨HTO.out.1, HTO.out.2.1⟩ (fun X hX => ?_)
    have hr01 : r1 ≠ p := fun e => by have h1 := HS.out.1.mine; have h2 := HS.out.1.lt _ h1; have h3 := HV.out.2.2; omega
    have hX1 := (hX.2.2.block r1 (Nw.lt H5.out.2.2.2.1) hr01).trans H5.out.2.2.2.1
    have hX0 := (hX.2.2.block r0 (Nw.lt H5.out.2.1) H.out.2.2.2.2.1).trans H5.out.2.1
    have hLX : Lv F' W.heap.size X t (.agg #[.int .i64 v0, .string v1, .int .i64 v2, .int .u64 v3, .int .u64 v4, .slice xa xl xc]) :=
      (((Nx.below (F := F') HV.out.1).trans (Nx.below H5.out.2.2.2.2)).trans hX.1.2).lv (Lv.mono (B' := W.heap.size) HS.out.2.2.1 HX.out.1.size)
    have HMY := Lib.hid (mes.may_any t (.agg #[.int .i64 v0, .string v1, .int .i64 v2, .int .u64 v3, .int .u64 v4, .slice xa xl xc]) X (lie.Lies.off (fun b _ hy => hy.elim) hLX))
    have HX2 := Lib.hid (And.intro hX (And.intro hX1 (And.intro hX0 hLX)))
    obtain ⟨⟨s0, s1, s2, s3, s4, s5⟩, -⟩ := six hX1
    clear c2 f2 hlt hw hX hr01 hX1 hX0 hLX
    by_cases cm : tm.may t = 0
    rotate_left
    · have k9 : (tm.may t != 0) = true := by rw [bne_iff_ne]; exact cm
      have HN0 := Lib.hid cm
      have HY := Lib.hid (show clause true (OTof tl) N (all.drop k) = .er (tm.may t) x.a by rw [HCL.out]; show (if (see N (all.drop k') 0).k = 8 then _ else _) = _; rw [← HYY.out, if_pos HC8.out, if_neg cm])
      clear cm
      go_wp2_with fail
      refine HMY.out.mono ?_; rintro e w6 ⟨rfl, b6⟩
      have HR := Lib.hid ((b6.block r0 (Nw.lt HX2.out.2.2.1)).trans HX2.out.2.2.1)
      have HKP := Lib.hid (show Keep (fun i => i = p) w w6 from (H5.out.2.2.1.trans HX2.out.1.2.2 fun _ => Or.inl).trans (Keep.of_below (F := fun i => i = p) b6) fun _ => Or.inl)
      clear b6 s0 s1 s2 s3 s4 s5
      obtain ⟨⟨z0, z1, z2, z3, z4, z5, z6, z7⟩, y0, y1, y2, y3, y4, y5, y6, y7⟩ := eight HR.out
      have hlz := Nw.lt HR.out
      obtain ⟨U, hU, hNU⟩ := fin8 HR.out (.int .i64 0) (.string ⟨#[]⟩) (.int .i64 0) (.int .u64 0) (.int .u64 0) (.slice none 0 0) (.slice none 0 0) (.int .i64 0)
      obtain ⟨⟨q0, q1, q2, q3, q4, q5, q6, q7⟩, -⟩ := eight hNU.1
      have HU := Lib.hid hNU
      clear hNU
      go_wp2_with fail
      refine bodyPost_ret (v := .tuple #[ZC, .int .i64 ((x.a : Int)), .int .i64 (tm.may t)]) (by simp [results, Tryz.results35, go_sem, q0, q1, q2, q3, q4, q5, q6, q7, ZC, Z0, tmV]) rfl ?_
      rw [HY.out]
      exact ⟨rfl, HN0.out, HKP.out.trans HU.out.2 fun i hi => Or.inr (by rw [hi, HW.out.1]; exact Nat.le_refl _)⟩
    have k9 : (tm.may t != 0) = false := by rw [cm]; rfl
    have HY := Lib.hid (show clause true (OTof tl) N (all.drop k) = .ok t ns' x.a (all.drop k').tail by rw [HCL.out]; show (if (see N (all.drop k') 0).k = 8 then _ else _) = _; rw [← HYY.out, if_pos HC8.out, if_pos cm])
    clear cm
    go_wp2_with fail
    refine HMY.out.mono ?_; rintro e w6 ⟨rfl, b6⟩
    have hX1 := (b6.block r1 (Nw.lt HX2.out.2.1)).trans HX2.out.2.1
    have hX0 := (b6.block r0 (Nw.lt HX2.out.2.2.1)).trans HX2.out.2.2.1
    have hXp := (b6.block p (Nw.lt HX2.out.1.2.1)).trans HX2.out.1.2.1
    clear s0 s1 s2 s3 s4 s5
    have H6 := Lib.hid (And.intro b6 (And.intro hX1 (And.intro hX0 hXp)))
    have hdr : Below w6.heap.size w6 w6.drew := kp.bdr w6
    obtain ⟨wd, hwd⟩ : ∃ wd, wd = w6.drew := ⟨_, rfl⟩
    rw [← hwd] at hdr
    have hq0 := (hdr.block r0 (Nw.lt hX0)).trans hX0
    have HWD := Lib.hid (And.intro hwd hdr)
    have hq1 := six ((hdr.block r1 (Nw.lt hX1)).trans hX1)
    have hqp := six ((hdr.block p (Nw.lt hXp)).trans hXp)
    have HQ := Lib.hid (And.intro hq0 (And.intro hq1 hqp))
    obtain ⟨U, hU, hNU⟩ := fin8 hq0 (.int .i64 v0) (.string v1) (.int .i64 v2) (.int .u64 v3) (.int .u64 v4) (.slice xa xl xc) (Value.slice na ns'.length nc) (.int .i64 (x.a : Int))
    have HU := Lib.hid hNU
    have hn01 : r0 ≠ p := H.out.2.2.2.2.1
    have hn1 : r1 ≠ r0 := fun e => by have h1 := HV.out.2.2; have h2 := Nw.lt HS.out.2.1; omega
    have HSU := Lib.hid (show (((U.cell? ⟨r1, 0, none⟩ = some (.int .i64 v0) ∧ U.cell? ⟨r1, 1, none⟩ = some (.string v1) ∧ U.cell? ⟨r1, 2, none⟩ = some (.int .i64 v2) ∧ U.cell? ⟨r1, 3, none⟩ = some (.int .u64 v3) ∧ U.cell? ⟨r1, 4, none⟩ = some (.int .u64 v4) ∧ U.cell? ⟨r1, 5, none⟩ = some (.slice xa xl xc))) ∧ U.cell? ⟨p, 5, none⟩ = some (Value.slice na ns'.length nc)) from
      ⟨(six ((hNU.2.block r1 (by have := Nw.lt hX1; have := hdr.size; omega) hn1).trans ((hdr.block r1 (Nw.lt hX1)).trans hX1))).1, (six ((hNU.2.block p (by have := Nw.lt hXp; have := hdr.size; omega) (fun e => hn01 e.symm)).trans ((hdr.block p (Nw.lt hXp)).trans hXp))).1.2.2.2.2.2⟩)
    clear hX1 hX0 hXp hdr hwd hq1 hqp hn01 hn1 hNU b6
    go_upto_region 12 with fail
    refine wp_region_noPanic ?_
    refine wp_region_held_drew (S := (fun w' => ((w'.cell? ⟨r1, 0, none⟩ = some (.int .i64 v0) ∧ w'.cell? ⟨r1, 1, none⟩ = some (.string v1) ∧ w'.cell? ⟨r1, 2, none⟩ = some (.int .i64 v2) ∧ w'.cell? ⟨r1, 3, none⟩ = some (.int .u64 v3) ∧ w'.cell? ⟨r1, 4, none⟩ = some (.int .u64 v4) ∧ w'.cell? ⟨r1, 5, none⟩ = some (.slice xa xl xc))) ∧ w'.cell? ⟨p, 5, none⟩ = some (Value.slice na ns'.length nc))) (by kernel_rfl) ?_ (fun hHeld => ?_)
    · (try dsimp only); rw [← HWD.out.1]; exact ⟨HQ.out.2.1.1, HQ.out.2.2.1.2.2.2.2.2⟩
    refine wpAnyH_take (i := 0) (v := ?_) rfl (by kernel_rfl) (by kernel_rfl) (by kernel_rfl) (fun _ _ _ h => h) (Or.inl ⟨by rfl, ?_⟩) (by assumption) ?_
    rotate_left
    · (intro w hSw; (try dsimp only at hSw); (obtain ⟨⟨s0, s1, s2, s3, s4, s5⟩, s6⟩ := hSw); go_simp; first | done | with_reducible rfl)
    try simp only [Act.put, List.getElem_toArray, List.getElem_cons_zero, List.getElem_cons_succ, List.setIfInBounds_toArray, List.set_cons_zero, List.set_cons_succ]
    refine wpAnyH_take (i := 1) (v := ?_) rfl (by kernel_rfl) (by kernel_rfl) (by kernel_rfl) (fun _ _ _ h => h) (Or.inl ⟨by rfl, ?_⟩) (by assumption) ?_
    rotate_left
    · (intro w hSw; (try dsimp only at hSw); (obtain ⟨⟨s0, s1, s2, s3, s4, s5⟩, s6⟩ := hSw); go_simp; first | done | with_reducible rfl)
    try simp only [Act.put, List.getElem_toArray, List.getElem_cons_zero, List.getElem_cons_succ, List.setIfInBounds_toArray, List.set_cons_zero, List.set_cons_succ]
    refine wpAnyH_take (i := 2) (v := ?_) rfl (by kernel_rfl) (by kernel_rfl) (by kernel_rfl) (fun _ _ _ h => h) (Or.inl ⟨by rfl, ?_⟩) (by assumption) ?_
    rotate_left
    · (intro w hSw; (try dsimp only at hSw); (obtain ⟨⟨s0, s1, s2, s3, s4, s5⟩, s6⟩ := hSw); go_simp; first | done | with_reducible rfl)
    try simp only [Act.put, List.getElem_toArray, List.getElem_cons_zero, List.getElem_cons_succ, List.setIfInBounds_toArray, List.set_cons_zero, List.set_cons_succ]
    refine wpAnyH_take (i := 3) (v := ?_) rfl (by kernel_rfl) (by kernel_rfl) (by kernel_rfl) (fun _ _ _ h => h) (Or.inl ⟨by rfl, ?_⟩) (by assumption) ?_
    rotate_left
    · (intro w hSw; (try dsimp only at hSw); (obtain ⟨⟨s0, s1, s2, s3, s4, s5⟩, s6⟩ := hSw); go_simp; first | done | with_reducible rfl)
    try simp only [Act.put, List.getElem_toArray, List.getElem_cons_zero, List.getElem_cons_succ, List.setIfInBounds_toArray, List.set_cons_zero, List.set_cons_succ]
    refine wpAnyH_take (i := 4) (v := ?_) rfl (by kernel_rfl) (by kernel_rfl) (by kernel_rfl) (fun _ _ _ h => h) (Or.inl ⟨by rfl, ?_⟩) (by assumption) ?_
    rotate_left
    · (intro w hSw; (try dsimp only at hSw); (obtain ⟨⟨s0, s1, s2, s3, s4, s5⟩, s6⟩ := hSw); go_simp; first | done | with_reducible rfl)
    try simp only [Act.put, List.getElem_toArray, List.getElem_cons_zero, List.getElem_cons_succ, List.setIfInBounds_toArray, List.set_cons_zero, List.set_cons_succ]
    refine wpAnyH_take (i := 5) (v := ?_) rfl (by kernel_rfl) (by kernel_rfl) (by kernel_rfl) (fun _ _ _ h => h) (Or.inl ⟨by rfl, ?_⟩) (by assumption) ?_
    rotate_left
    · (intro w hSw; (try dsimp only at hSw); (obtain ⟨⟨s0, s1, s2, s3, s4, s5⟩, s6⟩ := hSw); go_simp; first | done | with_reducible rfl)
    try simp only [Act.put, List.getElem_toArray, List.getElem_cons_zero, List.getElem_cons_succ, List.setIfInBounds_toArray, List.set_cons_zero, List.set_cons_succ]
    refine wpAnyH_take (i := 6) (v := ?_) rfl (by kernel_rfl) (by kernel_rfl) (by kernel_rfl) (fun _ _ _ h => h) (Or.inl ⟨by rfl, ?_⟩) (by assumption) ?_
    rotate_left
    · (intro w hSw; (try dsimp only at hSw); (obtain ⟨⟨s0, s1, s2, s3, s4, s5⟩, s6⟩ := hSw); go_simp; first | done | with_reducible rfl)
    try simp only [Act.put, List.getElem_toArray, List.getElem_cons_zero, List.getElem_cons_succ, List.setIfInBounds_toArray, List.set_cons_zero, List.set_cons_succ]
    rw [← HWD.out.1]
    obtain ⟨⟨z0, z1, z2, z3, z4, z5, z6, z7⟩, y0, y1, y2, y3, y4, y5, y6, y7⟩ := eight hq0
    have hlz := Nw.lt hq0
    refine wpAnyH_ready (rs := [7]) (by kernel_rfl) (by simp) ?_
    refine AllReadyH.cons rfl (fun K hK => ?_) AllReadyH.nil
    go_simp
    go_wp2_with fail
    refine hK.out _ _ ?_ (fun hHeld => ?_)
    · (try dsimp only); exact HSU.out
    clear hK K z0 z1 z2 z3 z4 z5 z6 z7 y0 y1 y2 y3 y4 y5 y6 y7 hlz hU hq0
    try simp only [Act.put, List.getElem_toArray, List.getElem_cons_zero, List.getElem_cons_succ, List.setIfInBounds_toArray, List.set_cons_zero, List.set_cons_succ]
    refine wpAnyH_take (i := 8) (v := ?_) rfl (by kernel_rfl) (by kernel_rfl) (by kernel_rfl) (fun _ _ _ h => h) (Or.inl ⟨by rfl, ?_⟩) (by assumption) ?_
    rotate_left
    · (intro w hSw; (try dsimp only at hSw); (obtain ⟨⟨s0, s1, s2, s3, s4, s5⟩, s6⟩ := hSw); go_simp; first | done | with_reducible rfl)
    try simp only [Act.put, List.getElem_toArray, List.getElem_cons_zero, List.getElem_cons_succ, List.setIfInBounds_toArray, List.set_cons_zero, List.set_cons_succ]
    refine wpAnyH_take (i := 9) (v := ?_) rfl (by kernel_rfl) (by kernel_rfl) (by kernel_rfl) (fun _ _ _ h => h) (Or.inl ⟨by rfl, ?_⟩) (by assumption) ?_
    rotate_left
    · (intro w hSw; (try dsimp only at hSw); (obtain ⟨⟨s0, s1, s2, s3, s4, s5⟩, s6⟩ := hSw); go_simp; first | done | with_reducible rfl)
    try simp only [Act.put, List.getElem_toArray, List.getElem_cons_zero, List.getElem_cons_succ, List.setIfInBounds_toArray, List.set_cons_zero, List.set_cons_succ]
    refine wpAnyH_done (by kernel_rfl) ?_ _
    refine NoPanic.normal ?_
    obtain ⟨⟨q0, q1, q2, q3, q4, q5, q6, q7⟩, -⟩ := eight HU.out.1
    go_wp2_with fail
    refine bodyPost_ret (v := .tuple #[.agg #[.int .i64 v0, .string v1, .int .i64 v2, .int .u64 v3, .int .u64 v4, .slice xa xl xc, (Value.slice na ns'.length nc), .int .i64 (x.a : Int)], .int .i64 0, .int .i64 0]) (by simp [results, Tryz.results35, go_sem, q0, q1, q2, q3, q4, q5, q6, q7]) rfl ?_
    rw [HY.out]
    have hS6 := (HX2.out.1.1.1.below H6.out.1).below HWD.out.2
    have hnb : ∀ i, (Value.slice na ns'.length nc).ownBlock = some i → i < w.heap.size → False := fun i e hi => by
      rcases HKN.out.own i (HTO.out.2.2.2.2.2 i e) with (h1 | h1) | h1
      · exact HTO.out.2.2.2.1 (by rw [e, h1])
      · exact HTO.out.2.2.2.2.1 (by rw [e, h1])
      · have h2 := HX.out.1.size; have h3 := H.out.2.2.2.1.size; omega
    refine ⟨v0, v1, v2, v3, v4, xa, xl, xc, (Value.slice na ns'.length nc), k' + 1, rfl, by rw [List.tail_drop], CP.of H.out.1 hS6 (by rw [HW.out.1]; exact Nat.le_refl _) H.out.2.2.2.2.1 HU.out, ?_, ?_, ?_, HTO.out.2.2.2.1, by have := HS.out.2.2.2; omega⟩
    · exact (((H5.out.2.2.1.trans HX2.out.1.2.2 fun _ => Or.inl).trans (Keep.of_below (F := fun i => i = p) H6.out.1) fun _ => Or.inl).trans (Keep.of_below (F := fun i => i = p) HWD.out.2) fun _ => Or.inl).trans HU.out.2 fun i hi => Or.inr (by rw [hi, HW.out.1]; exact Nat.le_refl _)
    · have hL6 := (Nx.below (F := F') H6.out.1).trans (Nx.below HWD.out.2) |>.lv HX2.out.2.2.2
      have hL7 : Lv F' W.heap.size U t _ := hL6.set (by have h1 := H.out.2.2.2.2.2; have h2 := HM.out; have h3 := Nw.lt H.out.2.2.1; exact h3) HU.out
      exact lie.Lies.off (fun b _ hy => by
        rcases hy with hy | hy
        · exact Or.inl (hy ▸ HS.out.1.mine)
        · exact Or.inr (by have h3 := H.out.2.2.2.1.size; omega)) hL7
    · refine row_mono (B := 0) ?_ (fun i e => Nat.le_of_not_lt (hnb i e))
      refine ow_keep (ow_keep (ow_keep (ow_keep HTO.out.2.2.1 fun i e => HX2.out.1.2.2.block i (HTO.out.2.2.1.lt i e).2 (fun e2 => HTO.out.2.2.2.1 (by rw [e, e2]))) fun i e => H6.out.1.block i (by have := (HTO.out.2.2.1.lt i e).2; have := HX2.out.1.2.2.size; omega)) fun i e => HWD.out.2.block i (by have := (HTO.out.2.2.1.lt i e).2; have := HX2.out.1.2.2.size; have := H6.out.1.size; omega)) fun i e => HU.out.2.block i (by have := (HTO.out.2.2.1.lt i e).2; have := HX2.out.1.2.2.size; have := H6.out.1.size; have := HWD.out.2.size; omega) (fun e2 => by
        have e3 : i = r0 := e2
        rcases HKN.out.own i (HTO.out.2.2.2.2.2 i e) with (h1 | h1) | h1
        · exact HTO.out.2.2.2.1 (by rw [e, h1])
        · exact HTO.out.2.2.2.2.1 (by rw [e, h1])
        · have h2 := Nw.lt HX.out.2; omega)
end
end Go.Proofs.YtedbcmagjbgbjaaGreatDoor.rd
namespace Go.Proofs.YtedbcmagjbgbjaaGreatDoor.rd
open Go.ChangeShapes Go.WideShapes Go.ChangeAt Go.RowKit Go.Maps
open Go.Proofs.YtedbcmagjbgbjaaGreatDoor.kp Go.Proofs.YtedbcmagjbgbjaaGreatDoor.num Go.Proofs.YtedbcmagjbgbjaaGreatDoor.dec Go.Proofs.YtedbcmagjbgbjaaGreatDoor.tk
set_option linter.unusedVariables false
set_option linter.unusedSimpArgs false
section
variable {w w' w0 w1 w2 : World} {p m tp N k : Nat} {tv : Value} {all : List Tk} {tl : List opa.D} {ns : Names} {F F' FT : Nat → Prop} {rec : Rec} {f : Nat}
theorem pw_lt (l : List UInt8) (h : l.length ≤ 16) : pw l ≤ 18446744073709551615 := by
  unfold pw
  split
  · have h1 := hvF_lt l 16
    rw [List.take_of_length_le h] at h1
    have : (16 : Nat) ^ 16 = 18446744073709551616 := by decide
    omega
  · omega
theorem tok_fit {la : Int × List UInt8} {c : UInt8} {r : List UInt8} {k : Int} {t : List UInt8} {n : Int} {re im : Nat} {rest : List UInt8} (h : tk.tok la c r = .ok k t n re im rest) :
    t.length ≤ 200 ∧ -9223372036854775808 ≤ n ∧ n ≤ 9223372036854775807 ∧ re ≤ 18446744073709551615 ∧ im ≤ 18446744073709551615 := by
  have T : ∀ k' q rest', txt k' q rest' = .ok k t n re im rest → t.length ≤ 200 ∧ -9223372036854775808 ≤ n ∧ n ≤ 9223372036854775807 ∧ re ≤ 18446744073709551615 ∧ im ≤ 18446744073709551615 := by
    intro k' q rest' h
    unfold txt at h
    split at h
    · rename_i hq; cases h; exact ⟨hq, by omega, by omega, by omega, by omega⟩
    · cases h
  unfold tk.tok at h
  split at h
  · exact T _ _ _ h
  · split at h
    · exact T _ _ _ h
    · split at h
      · unfold nmb at h
        split at h
        · rename_i hd
          cases h
          refine ⟨by simp, by omega, by omega, ?_, ?_⟩
          · unfold dv1; split
            · unfold cv1; split
              · exact pw_lt _ (p1_len _)
              · omega
            · omega
          · unfold dv2; split
            · rename_i hc
              unfold isC at hc
              simp only [Bool.and_eq_true, decide_eq_true_eq] at hc
              unfold cv2; split
              · exact pw_lt _ (p2_len _ hc.1)
              · omega
            · omega
        · split at h
          · cases h; exact ⟨by simp, by omega, by omega, by omega, by omega⟩
          · split at h
            · cases h
              refine ⟨by simp, ?_, ?_, by omega, by omega⟩
              · unfold pv; split
                · unfold rv; split
                  · rename_i hf; exact hf.1
                  · omega
                · omega
              · unfold pv; split
                · unfold rv; split
                  · rename_i hf; exact hf.2
                  · omega
                · omega
            · cases h
      · split at h
        · split at h
          · cases h; exact ⟨by simp, by omega, by omega, by omega, by omega⟩
          · exact T _ _ _ h
        · split at h
          · exact T _ _ _ h
          · split at h
            · split at h
              · cases h; exact ⟨by simp, by omega, by omega, by omega, by omega⟩
              · exact T _ _ _ h
            · split at h
              · split at h
                · cases h
                · exact T _ _ _ h
              · cases h
theorem lex_fit {N : Nat} : ∀ f la l ts p e, lex N f la l = (ts, p, e) → ∀ x ∈ ts, x.t.length ≤ 200 ∧ -9223372036854775808 ≤ x.n ∧ x.n ≤ 9223372036854775807 ∧ x.re ≤ 18446744073709551615 ∧ x.im ≤ 18446744073709551615 ∧ x.a ≤ N := by
  intro f
  induction f with
  | zero => intro la l ts p e h x hx; simp only [lex] at h; cases h; cases hx
  | succ f ih =>
    intro la l ts p e h x hx
    simp only [lex] at h
    split at h
    · cases h; cases hx
    · cases h; cases hx
    · split at h
      · cases h; cases hx
      · rename_i k t n re im rest ht
        have ih2 := ih (k, t) rest _ _ _ rfl
        split at h
        · cases h
          rcases List.mem_cons.1 hx with rfl | hx
          · obtain ⟨a, b, c, d, e⟩ := tok_fit ht
            exact ⟨a, b, c, d, e, Nat.sub_le _ _⟩
          · exact ih2 x hx
        · cases h; cases hx
/-- what All tells of a text that is none too long -/
theorem allT_ok {S : List UInt8} (he : (allT S).2.2 = 0) : S.length ≤ 65536 ∧ (allT S).1.length ≤ 65536 ∧ ∀ x ∈ (allT S).1, TkOk x := by
  by_cases hS : S.length ≤ 65536
  · have hl := all_len (S := S) (ts := (allT S).1) (p := (allT S).2.1) (e := (allT S).2.2) rfl
    refine ⟨hS, by omega, fun x hx => ?_⟩
    have h : allT S = lex S.length (S.length + 1) (0, []) S := by unfold allT; rw [if_pos hS]
    rw [h] at hx
    obtain ⟨a, b, c, d, e, g⟩ := lex_fit _ _ _ _ _ _ rfl x hx
    exact ⟨by omega, b, c, d, e, by omega⟩
  · unfold allT at he; rw [if_neg hS] at he; cases he
/-- one term, and nothing behind -/
def ofCl (N : Nat) (ts : List Tk) (R : CR) : CR := match R with
  | .er e a => .er e a
  | .ok t n a r => if r = [] then .ok t n a [] else .er 2 ((see N (ts.drop (ts.length - r.length - 1)) 0).a + 1)
/-- read.Term of a text -/
def readT (tl : List opa.D) (S : List UInt8) : CR := if (allT S).2.2 ≠ 0 then .er (allT S).2.2 (allT S).2.1 else termOf true (OTof tl) S.length (allT S).1
def TE (R : CR) (w : World) (e : Ending) (w' : World) : Prop := match R with
  | .er n a => e = .returned (.tuple #[Z0, .slice none 0 0, .int .i64 (a : Int), .int .i64 n]) ∧ n ≠ 0 ∧ Below w.heap.size w w'
  | .ok t ns _ _ => ∃ (v0 : Int) (v1 : ByteArray) (v2 v3 v4 : Int) (xa : Option Addr) (xl xc : Nat) (na : Option Addr) (nc : Nat),
      e = .returned (.tuple #[.agg #[.int .i64 v0, .string v1, .int .i64 v2, .int .u64 v3, .int .u64 v4, .slice xa xl xc], .slice na ns.length nc, .int .i64 0, .int .i64 0]) ∧ Below w.heap.size w w' ∧
      lie.Lies (fun i => i < w.heap.size) w' t (.agg #[.int .i64 v0, .string v1, .int .i64 v2, .int .u64 v3, .int .u64 v4, .slice xa xl xc]) ∧ w'.ownsRow w.heap.size 9 1 (.slice na ns.length nc) ns.length (ns.map sv)
theorem CP.start {tab : Nat} {S : List UInt8} {v : Value} (hv : Toks w1.heap.size w2 v (allT S).1) (he : (allT S).2.2 = 0) (hT : opb.Tb w2 tab FT tl) (hi : opa.Inv tl) (hp : w'.heap[p]? = some (RO v N 0 (.pointer (some ⟨tab, 0, none⟩)) (.map none) (.slice none 0 0))) (hpp : p = w2.heap.size) (b : Below w2.heap.size w2 w') :
    CP p v tab FT N (allT S).1 tl 0 w' := by
  obtain ⟨h1, h2, h3⟩ := allT_ok he
  refine ⟨⟨_, _, hp⟩, ⟨(hv.mono (Nat.zero_le _)).below b, fun i e hi => ?_, hT.below b, fun i hf hi => ?_, hi.srt, by have := hi.len; omega, fun o ho => by have := hi.ok o ho; omega⟩, Nat.zero_le _, h2, h3⟩
  · have := (hv.lt i e).2; have e2 : i = p := hi; omega
  · have := hT.lt i hf; have e2 : i = p := hi; omega
set_option maxRecDepth 100000 in
set_option maxHeartbeats 16000000 in
theorem term_any (S : List UInt8) (hS : S.length ≤ 140737488351232) (w : World) (hv : VR w.heap.size w) {tab : Nat} (hT : opb.Tb w tab FT tl) (hi : opa.Inv tl) :
    Calls Tryz.prog 11 #[.string ⟨S.toArray⟩, .pointer (some ⟨tab, 0, none⟩)] w (TE (readT tl S) w) := by
  obtain ⟨r0, hr0⟩ : ∃ r0, r0 = w.heap.size := ⟨_, rfl⟩
  obtain ⟨w1, hw1⟩ : ∃ w1, w1 = w.alloc TZ := ⟨_, rfl⟩
  have hb1 : Below w.heap.size w w1 := by rw [hw1]; exact kp.ba w _
  have hz1 : w1.heap[r0]? = some (TC (.int .i64 0) (.string ⟨#[]⟩) (.int .i64 0) (.int .u64 0) (.int .u64 0) (.slice none 0 0)) := by rw [hr0, hw1]; exact alloc_at w _
  have HW := Lib.hid (And.intro hr0 hw1)
  have HAL := Lib.hid (all_any S hS w1 (VR.up hv hb1))
  have H := Lib.hid (And.intro hT (And.intro hi (And.intro hb1 hz1)))
  unfold AllEnd at HAL
  have HRT := Lib.hid (show readT tl S = (if (allT S).2.2 ≠ 0 then .er (allT S).2.2 (allT S).2.1 else termOf true (OTof tl) S.length (allT S).1) from rfl)
  have HCS := Lib.hid (fun (v : Value) (w2 w' : World) (p : Nat) (hv : Toks w1.heap.size w2 v (allT S).1) (he : (allT S).2.2 = 0) (b1 : Below w1.heap.size w1 w2) (hp : w'.heap[p]? = some (RO v S.length 0 (.pointer (some ⟨tab, 0, none⟩)) (.map none) (.slice none 0 0))) (hpp : p = w2.heap.size) (b : Below w2.heap.size w2 w') => CP.start hv he (hT.below (hb1.trans (b1.mono hb1.size))) hi hp hpp b)
  have HOK := Lib.hid (allT_ok (S := S))
  obtain ⟨ts, hts⟩ : ∃ ts, ts = (allT S).1 := ⟨_, rfl⟩
  obtain ⟨q, hq⟩ : ∃ q, q = (allT S).2.1 := ⟨_, rfl⟩
  obtain ⟨er, her⟩ : ∃ er, er = (allT S).2.2 := ⟨_, rfl⟩
  simp only [← hts, ← hq, ← her] at HAL HRT HCS HOK
  clear hr0 hw1 hb1 hz1 hv hT hi hts hq her
  go_enter Tryz.func11, Tryz.ntmps11
  go_upto_region 1 with fail
  change Code.wp _ _ _ _ (w.alloc TZ)
  rw [← HW.out.1, ← HW.out.2]
  go_wp2_with fail
  refine HAL.out.mono ?_; rintro e w2 ⟨⟨v, rfl, hto⟩, b2⟩
  have hr2 := (b2.block r0 (Nw.lt H.out.2.2.2)).trans H.out.2.2.2
  have hB2 := H.out.2.2.1.trans (b2.mono H.out.2.2.1.size)
  have H2 := Lib.hid (And.intro hto (And.intro b2 (And.intro hr2 hB2)))
  clear hto b2 hr2 hB2
  by_cases c0 : er = 0
  rotate_left
  · have e1 : (er != 0) = true := by rw [bne_iff_ne]; exact c0
    have HQ := Lib.hid (And.intro (show readT tl S = .er er q by rw [HRT.out, if_pos c0]) c0)
    obtain ⟨⟨z0, z1, z2, z3, z4, z5⟩, y0, y1, y2, y3, y4, y5⟩ := six H2.out.2.2.1
    have hlz := Nw.lt H2.out.2.2.1
    obtain ⟨U, hU, hNU⟩ := fin6 H2.out.2.2.1 (.int .i64 0) (.string ⟨#[]⟩) (.int .i64 0) (.int .u64 0) (.int .u64 0) (.slice none 0 0)
    obtain ⟨⟨q0, q1, q2, q3, q4, q5⟩, -⟩ := six hNU.1
    have HU := Lib.hid hNU
    clear hNU c0
    go_wp2_with fail
    refine bodyPost_ret (v := .tuple #[Z0, .slice none 0 0, .int .i64 (q : Int), .int .i64 er]) (by simp [results, Tryz.results11, go_sem, q0, q1, q2, q3, q4, q5, Z0, tmV]) rfl ?_
    rw [HQ.out.1]
    exact ⟨rfl, HQ.out.2, H2.out.2.2.2.trans (HU.out.2.to_below (fun i hi => by rw [hi, HW.out.1]; exact Nat.le_refl _) H2.out.2.2.2.size)⟩
  have e1 : (er != 0) = false := by rw [c0]; rfl
  obtain ⟨p, hp⟩ : ∃ p, p = w2.heap.size := ⟨_, rfl⟩
  have HC0 := Lib.hid c0
  have HP := Lib.hid hp
  obtain ⟨va, vc, rfl⟩ := H2.out.1.shape
  clear c0 hp
  go_upto_region 5 with fail
  refine nmw (K := fun W => Below w2.heap.size w2 W ∧ W.heap[p]? = some (RO (.slice va ts.length vc) S.length 0 (.pointer (some ⟨tab, 0, none⟩)) (.map none) (.slice none 0 0))) ⟨kp.ba w2 _, by rw [HP.out]; exact alloc_at w2 _⟩ (fun W hW => ?_)
  rw [← HP.out]
  have hCP := HCS.out _ w2 W p H2.out.1 HC0.out H2.out.2.1 hW.2 HP.out hW.1
  have HCL := Lib.hid (clause_any hCP)
  obtain ⟨R, hR⟩ : ∃ R, R = clause true (OTof tl) S.length (ts.drop 0) := ⟨_, rfl⟩
  rw [← hR] at HCL
  have hrt : readT tl S = ofCl S.length ts R := by
    rw [HRT.out, if_neg (by rw [HC0.out]; decide), hR]; rfl
  have HRQ := Lib.hid hrt
  have hrW := (hW.1.block r0 (Nw.lt H2.out.2.2.1)).trans H2.out.2.2.1
  have hpr : r0 < p := by rw [HP.out]; exact Nw.lt H2.out.2.2.1
  have HWW := Lib.hid (And.intro hCP (And.intro hrW (And.intro hW.1 hpr)))
  clear hCP hR hrt hrW hW hpr
  cases R with
  | er n a =>
    go_wp2_with fail
    refine HCL.out.mono ?_; rintro e w4 ⟨rfl, hn0, hK⟩
    have hr4 := (hK.block r0 (Nw.lt HWW.out.2.1) (fun e => by have := HWW.out.2.2.2; have e2 : r0 = p := e; omega)).trans HWW.out.2.1
    have e3 : (n == 0) = false := by simpa using hn0
    have e4 : (n != 0) = true := by rw [bne_iff_ne]; exact hn0
    have HN0 := Lib.hid hn0
    have HQ := Lib.hid (show readT tl S = .er n a from HRQ.out)
    have hB4 : Below w.heap.size w w4 := H2.out.2.2.2.trans ((HWW.out.2.2.1.mono H2.out.2.2.2.size).trans (hK.to_below (fun i hi => by have e2 : i = p := hi; have := HP.out; have := H2.out.2.2.2.size; omega) (by have := H2.out.2.2.2.size; have := HWW.out.2.2.1.size; omega)))
    unfold ZC
    obtain ⟨⟨a0, a1, a2, a3, a4, a5, a6, a7⟩, b0, b1, b2, b3, b4, b5, b6, b7⟩ := eight (alloc_at w4 CZ)
    have H4 := Lib.hid (And.intro hr4 hB4)
    clear hr4 hB4 hK hn0
    go_upto_region 6 with fail
    refine nmw (K := fun V => Below w4.heap.size w4 V) (kp.ba w4 _) (fun V hV => ?_)
    have HR := Lib.hid ((hV.block r0 (Nw.lt H4.out.1)).trans H4.out.1)
    have HB := Lib.hid (H4.out.2.trans (hV.mono H4.out.2.size))
    clear a0 a1 a2 a3 a4 a5 a6 a7 b0 b1 b2 b3 b4 b5 b6 b7 hV
    obtain ⟨⟨z0, z1, z2, z3, z4, z5⟩, y0, y1, y2, y3, y4, y5⟩ := six HR.out
    have hlz := Nw.lt HR.out
    obtain ⟨U, hU, hNU⟩ := fin6 HR.out (.int .i64 0) (.string ⟨#[]⟩) (.int .i64 0) (.int .u64 0) (.int .u64 0) (.slice none 0 0)
    obtain ⟨⟨q0, q1, q2, q3, q4, q5⟩, -⟩ := six hNU.1
    have HU := Lib.hid hNU
    clear hNU
    go_wp2_with fail
    refine bodyPost_ret (v := .tuple #[Z0, .slice none 0 0, .int .i64 ((a : Int)), .int .i64 n]) (by simp [results, Tryz.results11, go_sem, q0, q1, q2, q3, q4, q5, Z0, tmV]) rfl ?_
    rw [HQ.out]
    exact ⟨rfl, HN0.out, HB.out.trans (HU.out.2.to_below (fun i hi => by rw [hi, HW.out.1]; exact Nat.le_refl _) HB.out.size)⟩
  | ok t n a rest =>
    go_wp2_with fail
    refine HCL.out.mono ?_; rintro e w4 ⟨v0, v1, v2, v3, v4, xa, xl, xc, nv, k', rfl, hd, hCP4, hK, hL, hrow, hnp, hk0⟩
    obtain ⟨na, nc, rfl⟩ := kp.shape hrow
    have hr4 := (hK.block r0 (Nw.lt HWW.out.2.1) (fun e => by have := HWW.out.2.2.2; have e2 : r0 = p := e; omega)).trans HWW.out.2.1
    have hB4 : Below w.heap.size w w4 := H2.out.2.2.2.trans ((HWW.out.2.2.1.mono H2.out.2.2.2.size).trans (hK.to_below (fun i hi => by have e2 : i = p := hi; have := HP.out; have := H2.out.2.2.2.size; omega) (by have := H2.out.2.2.2.size; have := HWW.out.2.2.1.size; omega)))
    obtain ⟨⟨a0, a1, a2, a3, a4, a5, a6, a7⟩, b0, b1, b2, b3, b4, b5, b6, b7⟩ := eight (alloc_at w4 CZ)
    obtain ⟨r1, hr1⟩ : ∃ r1, r1 = w4.heap.size := ⟨_, rfl⟩
    have H4 := Lib.hid (And.intro hr4 (And.intro hB4 (And.intro hCP4 (And.intro hL (And.intro hrow (And.intro hd hk0))))))
    clear hr4 hB4 hK hCP4 hL hrow hnp hd hk0
    go_upto_region 6 with fail
    refine nmw (K := fun V => Below w4.heap.size w4 V ∧ V.heap[r1]? = some (CO (.int .i64 v0) (.string v1) (.int .i64 v2) (.int .u64 v3) (.int .u64 v4) (.slice xa xl xc) (.slice na n.length nc) (.int .i64 (a : Int))) ∧ w4.heap.size ≤ r1) ⟨kp.ba w4 _, by rw [hr1]; exact alloc_at w4 _, by rw [hr1]; exact Nat.le_refl _⟩ (fun V hV => ?_)
    rw [← hr1]
    have hCV := H4.out.2.2.1.below hV.1
    obtain ⟨mp, nv, hpV⟩ := hCV.rd
    obtain ⟨⟨-, -, s2, -⟩, -⟩ := six hpV
    have hrV := (hV.1.block r0 (Nw.lt H4.out.1)).trans H4.out.1
    have HV := Lib.hid (And.intro hrV (And.intro (H4.out.2.1.trans (hV.1.mono H4.out.2.1.size)) (And.intro hV hCV)))
    have hkl := hCV.kle
    clear a0 a1 a2 a3 a4 a5 a6 a7 b0 b1 b2 b3 b4 b5 b6 b7 hrV hpV hr1 hV hCV
    by_cases hlt : k' < ts.length
    · have hd : decide (k' < ts.length) = true := decide_eq_true hlt
      obtain ⟨x, hx⟩ : ∃ x, x = see S.length (ts.drop (k' - 1)) 0 := ⟨_, rfl⟩
      have hxi : x = ts[k' - 1]'(by omega) := by rw [hx, see_in (by omega)]; rfl
      have hk0 := H4.out.2.2.2.2.2.2
      have hrest : rest ≠ [] := by
        rw [← H4.out.2.2.2.2.2.1]; intro e
        have := congrArg List.length e
        simp at this; omega
      have HQ := Lib.hid (show readT tl S = .er 2 (x.a + 1) by
        rw [HRQ.out]
        show (if rest = [] then CR.ok t n a [] else .er 2 ((see S.length (ts.drop (ts.length - rest.length - 1)) 0).a + 1)) = _
        rw [if_neg hrest, hx]
        have e : ts.length - rest.length - 1 = k' - 1 := by rw [← H4.out.2.2.2.2.2.1, List.length_drop]; omega
        rw [e])
      obtain ⟨g, c', hv', -, -, hq'⟩ := (HV.out.2.2.2.env.toks).look (by intro e; rw [e] at hlt; simp at hlt)
      cases hv'
      obtain ⟨t0, t1, t2, t3, t4, t5⟩ := hq' (k' - 1) x (by rw [hxi]; exact List.getElem?_eq_getElem (by omega))
      have hwk : wrap64 ((k' : Int) - 1) = ((k' - 1 : Nat) : Int) := by have := HV.out.2.2.2.ale; unfold wrap64; omega
      have hix : ∀ w, (Instr.indexAt 67 (.slice (some ⟨g, 0, none⟩) ts.length vc) (.int .i64 ((k' - 1 : Nat) : Int))).run Tryz.prog w = .ok (.pointer (some ⟨g, (k' - 1) * 6, none⟩)) w := fun w => ixT (g := g) (c := vc) (k := k' - 1) (n := ts.length) (by omega) w
      obtain ⟨kk, hkk⟩ : ∃ kk, kk = k' - 1 := ⟨_, rfl⟩
      have hwa : wrap64 ((x.a : Int) + 1) = ((x.a + 1 : Nat) : Int) := by have := (HV.out.2.2.2.ok x (by rw [hxi]; exact List.getElem_mem _)).a; unfold wrap64; omega
      rw [← hkk] at t0 t1 t2 t3 t4 t5 hwk
      simp only [← hkk] at hix
      obtain ⟨o, ho⟩ : ∃ o, o = kk * 6 := ⟨_, rfl⟩
      rw [← ho] at t0 t1 t2 t3 t4 t5
      simp only [← ho] at hix
      have HR := Lib.hid HV.out.1
      have HB := Lib.hid HV.out.2.1
      have HN0 := Lib.hid (show (2 : Int) ≠ 0 by decide)
      clear hlt hxi hx hk0 hrest hq' hkk ho hkl
      obtain ⟨⟨z0, z1, z2, z3, z4, z5⟩, y0, y1, y2, y3, y4, y5⟩ := six HR.out
      have hlz := Nw.lt HR.out
      obtain ⟨U, hU, hNU⟩ := fin6 HR.out (.int .i64 0) (.string ⟨#[]⟩) (.int .i64 0) (.int .u64 0) (.int .u64 0) (.slice none 0 0)
      obtain ⟨⟨q0, q1, q2, q3, q4, q5⟩, -⟩ := six hNU.1
      have HU := Lib.hid hNU
      clear hNU
      go_wp2_with fail
      refine bodyPost_ret (v := .tuple #[Z0, .slice none 0 0, .int .i64 (((x.a + 1 : Nat) : Int)), .int .i64 2]) (by simp [results, Tryz.results11, go_sem, q0, q1, q2, q3, q4, q5, Z0, tmV, hwa]) rfl ?_
      rw [HQ.out]
      exact ⟨rfl, HN0.out, HB.out.trans (HU.out.2.to_below (fun i hi => by rw [hi, HW.out.1]; exact Nat.le_refl _) HB.out.size)⟩
    · have hd : decide (k' < ts.length) = false := decide_eq_false hlt
      have hd2 : ts.length ≤ k' := Nat.le_of_not_lt hlt
      have hrest : rest = [] := by rw [← H4.out.2.2.2.2.2.1]; exact List.drop_eq_nil_of_le (by omega)
      have HQ := Lib.hid (show readT tl S = .ok t n a [] by
        rw [HRQ.out]
        show (if rest = [] then CR.ok t n a [] else .er 2 ((see S.length (ts.drop (ts.length - rest.length - 1)) 0).a + 1)) = _
        rw [if_pos hrest])
      have hdr : Below V.heap.size V V.drew := kp.bdr V
      obtain ⟨wd, hwd⟩ : ∃ wd, wd = V.drew := ⟨_, rfl⟩
      rw [← hwd] at hdr
      have hq0 := (hdr.block r0 (Nw.lt HV.out.1)).trans HV.out.1
      have hq1 := (hdr.block r1 (Nw.lt HV.out.2.2.1.2.1)).trans HV.out.2.2.1.2.1
      have HWD := Lib.hid (And.intro hwd (And.intro hdr hq1))
      obtain ⟨U, hU, hNU⟩ := fin6 hq0 (.int .i64 v0) (.string v1) (.int .i64 v2) (.int .u64 v3) (.int .u64 v4) (.slice xa xl xc)
      have HU := Lib.hid hNU
      have hn1 : r1 ≠ r0 := fun e => by have h1 := HV.out.2.2.1.2.2; have h2 := Nw.lt H4.out.1; omega
      have hU1 := (hNU.2.block r1 (Nw.lt hq1) hn1).trans hq1
      have HSU := Lib.hid (eight hU1).1
      clear hlt hrest hdr hwd hq1 hn1 hU1 hNU hkl
      go_upto_region 10 with fail
      clear s2
      refine wp_region_noPanic ?_
      refine wp_region_held_drew (S := (fun w' => w'.cell? ⟨r1, 0, none⟩ = some (.int .i64 v0) ∧ w'.cell? ⟨r1, 1, none⟩ = some (.string v1) ∧ w'.cell? ⟨r1, 2, none⟩ = some (.int .i64 v2) ∧ w'.cell? ⟨r1, 3, none⟩ = some (.int .u64 v3) ∧ w'.cell? ⟨r1, 4, none⟩ = some (.int .u64 v4) ∧ w'.cell? ⟨r1, 5, none⟩ = some (.slice xa xl xc) ∧ w'.cell? ⟨r1, 6, none⟩ = some (.slice na n.length nc) ∧ w'.cell? ⟨r1, 7, none⟩ = some (.int .i64 (a : Int)))) (by kernel_rfl) ?_ (fun hHeld => ?_)
      · (try dsimp only); rw [← HWD.out.1]; exact (eight HWD.out.2.2).1
      refine wpAnyH_take (i := 0) (v := ?_) rfl (by kernel_rfl) (by kernel_rfl) (by kernel_rfl) (fun _ _ _ h => h) (Or.inl ⟨by rfl, ?_⟩) (by assumption) ?_
      rotate_left
      · (intro w hSw; (try dsimp only at hSw); (obtain ⟨s0, s1, s2, s3, s4, s5, s6, s7⟩ := hSw); go_simp; first | done | with_reducible rfl)
      try simp only [Act.put, List.getElem_toArray, List.getElem_cons_zero, List.getElem_cons_succ, List.setIfInBounds_toArray, List.set_cons_zero, List.set_cons_succ]
      refine wpAnyH_take (i := 1) (v := ?_) rfl (by kernel_rfl) (by kernel_rfl) (by kernel_rfl) (fun _ _ _ h => h) (Or.inl ⟨by rfl, ?_⟩) (by assumption) ?_
      rotate_left
      · (intro w hSw; (try dsimp only at hSw); (obtain ⟨s0, s1, s2, s3, s4, s5, s6, s7⟩ := hSw); go_simp; first | done | with_reducible rfl)
      try simp only [Act.put, List.getElem_toArray, List.getElem_cons_zero, List.getElem_cons_succ, List.setIfInBounds_toArray, List.set_cons_zero, List.set_cons_succ]
      refine wpAnyH_take (i := 2) (v := ?_) rfl (by kernel_rfl) (by kernel_rfl) (by kernel_rfl) (fun _ _ _ h => h) (Or.inl ⟨by rfl, ?_⟩) (by assumption) ?_
      rotate_left
      · (intro w hSw; (try dsimp only at hSw); (obtain ⟨s0, s1, s2, s3, s4, s5, s6, s7⟩ := hSw); go_simp; first | done | with_reducible rfl)
      try simp only [Act.put, List.getElem_toArray, List.getElem_cons_zero, List.getElem_cons_succ, List.setIfInBounds_toArray, List.set_cons_zero, List.set_cons_succ]
      refine wpAnyH_take (i := 3) (v := ?_) rfl (by kernel_rfl) (by kernel_rfl) (by kernel_rfl) (fun _ _ _ h => h) (Or.inl ⟨by rfl, ?_⟩) (by assumption) ?_
      rotate_left
      · (intro w hSw; (try dsimp only at hSw); (obtain ⟨s0, s1, s2, s3, s4, s5, s6, s7⟩ := hSw); go_simp; first | done | with_reducible rfl)
      try simp only [Act.put, List.getElem_toArray, List.getElem_cons_zero, List.getElem_cons_succ, List.setIfInBounds_toArray, List.set_cons_zero, List.set_cons_succ]
      rw [← HWD.out.1]
      obtain ⟨⟨z0, z1, z2, z3, z4, z5⟩, y0, y1, y2, y3, y4, y5⟩ := six hq0
      have hlz := Nw.lt hq0
      refine wpAnyH_ready (rs := [4]) (by kernel_rfl) (by simp) ?_
      refine AllReadyH.cons rfl (fun K hK => ?_) AllReadyH.nil
      go_simp
      go_wp2_with fail
      refine hK.out _ _ ?_ (fun hHeld => ?_)
      · (try dsimp only); exact HSU.out
      clear hK K z0 z1 z2 z3 z4 z5 y0 y1 y2 y3 y4 y5 hlz hU hq0
      try simp only [Act.put, List.getElem_toArray, List.getElem_cons_zero, List.getElem_cons_succ, List.setIfInBounds_toArray, List.set_cons_zero, List.set_cons_succ]
      refine wpAnyH_take (i := 5) (v := ?_) rfl (by kernel_rfl) (by kernel_rfl) (by kernel_rfl) (fun _ _ _ h => h) (Or.inl ⟨by rfl, ?_⟩) (by assumption) ?_
      rotate_left
      · (intro w hSw; (try dsimp only at hSw); (obtain ⟨s0, s1, s2, s3, s4, s5, s6, s7⟩ := hSw); go_simp; first | done | with_reducible rfl)
      try simp only [Act.put, List.getElem_toArray, List.getElem_cons_zero, List.getElem_cons_succ, List.setIfInBounds_toArray, List.set_cons_zero, List.set_cons_succ]
      refine wpAnyH_take (i := 6) (v := ?_) rfl (by kernel_rfl) (by kernel_rfl) (by kernel_rfl) (fun _ _ _ h => h) (Or.inl ⟨by rfl, ?_⟩) (by assumption) ?_
      rotate_left
      · (intro w hSw; (try dsimp only at hSw); (obtain ⟨s0, s1, s2, s3, s4, s5, s6, s7⟩ := hSw); go_simp; first | done | with_reducible rfl)
      try simp only [Act.put, List.getElem_toArray, List.getElem_cons_zero, List.getElem_cons_succ, List.setIfInBounds_toArray, List.set_cons_zero, List.set_cons_succ]
      refine wpAnyH_take (i := 7) (v := ?_) rfl (by kernel_rfl) (by kernel_rfl) (by kernel_rfl) (fun _ _ _ h => h) (Or.inl ⟨by rfl, ?_⟩) (by assumption) ?_
      rotate_left
      · (intro w hSw; (try dsimp only at hSw); (obtain ⟨s0, s1, s2, s3, s4, s5, s6, s7⟩ := hSw); go_simp; first | done | with_reducible rfl)
      try simp only [Act.put, List.getElem_toArray, List.getElem_cons_zero, List.getElem_cons_succ, List.setIfInBounds_toArray, List.set_cons_zero, List.set_cons_succ]
      refine wpAnyH_done (by kernel_rfl) ?_ _
      refine NoPanic.normal ?_
      obtain ⟨⟨q0, q1, q2, q3, q4, q5⟩, -⟩ := six HU.out.1
      go_wp2_with fail
      refine bodyPost_ret (v := .tuple #[.agg #[.int .i64 v0, .string v1, .int .i64 v2, .int .u64 v3, .int .u64 v4, .slice xa xl xc], .slice na n.length nc, .int .i64 0, .int .i64 0]) (by simp [results, Tryz.results11, go_sem, q0, q1, q2, q3, q4, q5]) rfl ?_
      rw [HQ.out]
      have hBV := HV.out.2.1.trans (HWD.out.2.1.mono HV.out.2.1.size)
      have hBU := hBV.trans (HU.out.2.to_below (fun i hi => by rw [hi, HW.out.1]; exact Nat.le_refl _) hBV.size)
      have hW0 : w.heap.size ≤ W.heap.size := Nat.le_trans H2.out.2.2.2.size HWW.out.2.2.1.size
      have hrW : r0 < W.heap.size := Nw.lt HWW.out.2.1
      refine ⟨v0, v1, v2, v3, v4, xa, xl, xc, na, nc, rfl, hBU, ?_, ?_⟩
      · have hL1 : lie.Lies (fun i => i = p ∨ i < W.heap.size) wd t _ := lie.Lies.below HWD.out.2.1 (lie.Lies.below HV.out.2.2.1.1 H4.out.2.2.2.1)
        exact lie.Lies.keep (HU.out.2.mono (G := fun i => i = p ∨ i < W.heap.size) fun i hi => Or.inr (by have e : i = r0 := hi; omega)) (fun b _ hb => Or.inr (by omega)) _ _ hL1
      · refine row_mono (B := W.heap.size) ?_ (fun i e => by have := (H4.out.2.2.2.2.1.lt i e).1; omega)
        have hlt := H4.out.2.2.2.2.1.lt
        exact ow_keep (ow_keep (ow_keep H4.out.2.2.2.2.1 fun i e => HV.out.2.2.1.1.block i (hlt i e).2) fun i e => HWD.out.2.1.block i (by have := (hlt i e).2; have := HV.out.2.2.1.1.size; omega)) fun i e => HU.out.2.block i (by have := (hlt i e).2; have := HV.out.2.2.1.1.size; have := HWD.out.2.1.size; omega) (fun e2 => by have := (hlt i e).1; have e3 : i = r0 := e2; omega)
end
end Go.Proofs.YtedbcmagjbgbjaaGreatDoor.rd
