/- The project's reader: group. The project's reader: arguments. The project's reader: operand. -/
import Derived.Test.YtedbcmagjbgbjaaGreatDoorRdC
namespace Go.Proofs.YtedbcmagjbgbjaaGreatDoor.rd
open Go.ChangeShapes Go.WideShapes Go.ChangeAt Go.RowKit Go.Maps
open Go.Proofs.YtedbcmagjbgbjaaGreatDoor.kp Go.Proofs.YtedbcmagjbgbjaaGreatDoor.num Go.Proofs.YtedbcmagjbgbjaaGreatDoor.dec Go.Proofs.YtedbcmagjbgbjaaGreatDoor.tk
set_option linter.unusedVariables false
set_option linter.unusedSimpArgs false
section
variable {w w' w0 w1 w2 : World} {p m tp N k : Nat} {tv : Value} {all : List Tk} {tl : List opa.D} {ns : Names} {F F' FT : Nat → Prop} {rec : Rec} {f : Nat}
abbrev TC (v0 v1 v2 v3 v4 v5 : Value) : Obj := .cells #[v0, v1, v2, v3, v4, v5] 27 (0, 0)
set_option maxRecDepth 100000 in
set_option maxHeartbeats 8000000 in
theorem group_any (hg : Good p m tv tp FT N all tl rec f) (h : St p m tv tp FT N all tl k ns F w) (hf : all.length < f + k) (level : Nat) (hlev : level ≤ 3000) :
    Calls Tryz.prog 130 #[.pointer (some ⟨p, 0, none⟩), .int .i64 (level : Int)] w (PE p m tv tp FT N all tl (shut N 41 id (rec 1200 level (all.drop k) ns)) F w) := by
  obtain ⟨r0, hr0⟩ : ∃ r0, r0 = w.heap.size := ⟨_, rfl⟩
  obtain ⟨w1, hw1⟩ : ∃ w1, w1 = w.alloc TZ := ⟨_, rfl⟩
  have hb1 : Below w.heap.size w w1 := by rw [hw1]; exact kp.ba w _
  have hz1 : w1.heap[r0]? = some (TC (.int .i64 0) (.string ⟨#[]⟩) (.int .i64 0) (.int .u64 0) (.int .u64 0) (.slice none 0 0)) := by rw [hr0, hw1]; exact alloc_at w _
  have HW := Lib.hid (And.intro hr0 hw1)
  have h1 := h.below hb1
  have hF0 : ¬ F r0 := fun hF => by have := h.lt _ hF; omega
  have HC := Lib.hid (hg 1200 level k ns F w1 h1 hf (by omega) (by omega) hlev)
  have H := Lib.hid (And.intro h (And.intro h1 (And.intro hb1 (And.intro hz1 hF0))))
  obtain ⟨R, hR⟩ : ∃ R, R = rec 1200 level (all.drop k) ns := ⟨_, rfl⟩
  rw [← hR] at HC ⊢
  clear hr0 hw1 hb1 hz1 h1 hF0 h hg hR hf
  go_enter Tryz.func130, Tryz.ntmps130
  go_upto_region 1 with fail
  change Code.wp _ _ _ _ (w.alloc TZ)
  rw [← HW.out.1, ← HW.out.2]
  cases R with
  | er n rest ns' =>
    go_wp2_with fail
    refine HC.out.mono ?_; rintro e w2 ⟨rfl, hn0, k', F', hd, hS, hN⟩
    have hz2 := (hN.block (Nw.lt H.out.2.2.2.1) H.out.2.2.2.2)
    have hz := hz2.1.trans H.out.2.2.2.1
    have HS := Lib.hid (And.intro hn0 (And.intro hd (And.intro hS (And.intro hN (And.intro hz2.2 hz)))))
    have e0 : (n == 0) = false := by simpa using hn0
    have e1 : (n != 0) = true := by rw [bne_iff_ne]; exact hn0
    unfold Z0 tmV
    obtain ⟨⟨a0, a1, a2, a3, a4, a5⟩, b0, b1, b2, b3, b4, b5⟩ := six (alloc_at w2 TZ)
    clear hz2 hz hn0 hd hS hN
    go_upto_region 2 with fail
    refine nmw (K := fun W => Below w2.heap.size w2 W) (kp.ba w2 _) (fun W hW => ?_)
    have hzW := (hW.block r0 (Nw.lt HS.out.2.2.2.2.2)).trans HS.out.2.2.2.2.2
    have hSW := HS.out.2.2.1.below hW
    have hNW : Nx F w F' W := ((Nx.below H.out.2.2.1).trans HS.out.2.2.2.1).trans (Nx.below hW)
    obtain ⟨⟨z0, z1, z2, z3, z4, z5⟩, y0, y1, y2, y3, y4, y5⟩ := six hzW
    have hlz := Nw.lt hzW
    obtain ⟨U, hU, hNU⟩ := fin6 hzW (.int .i64 0) (.string ⟨#[]⟩) (.int .i64 0) (.int .u64 0) (.int .u64 0) (.slice none 0 0)
    obtain ⟨⟨q0, q1, q2, q3, q4, q5⟩, -⟩ := six hNU.1
    have HU := Lib.hid (St.set H.out.1 hSW hNW (by rw [HW.out.1]; exact Nat.le_refl _) HS.out.2.2.2.2.1 hNU)
    clear a0 a1 a2 a3 a4 a5 b0 b1 b2 b3 b4 b5 hW hzW hSW hNW hNU
    go_wp2_with fail
    refine bodyPost_ret (v := .tuple #[Z0, .int .i64 n]) (by simp [results, Tryz.results130, go_sem, q0, q1, q2, q3, q4, q5, Z0, tmV]) rfl ?_
    exact ⟨rfl, HS.out.1, k', F', HS.out.2.1, HU.out.1, HU.out.2⟩
  | ok t rest ns' =>
    go_wp2_with fail
    refine HC.out.mono ?_; rintro e w2 ⟨v, k', F', rfl, hd, hS, hN, hL⟩
    have hz2 := (hN.block (Nw.lt H.out.2.2.2.1) H.out.2.2.2.2)
    have hz := hz2.1.trans H.out.2.2.2.1
    obtain ⟨v0, v1, v2, v3, v4, va, vl, vc, rfl⟩ := Lv.shape hL
    have HS := Lib.hid (And.intro hL (And.intro hd (And.intro hS (And.intro hN (And.intro hz2.2 hz)))))
    obtain ⟨⟨a0, a1, a2, a3, a4, a5⟩, b0, b1, b2, b3, b4, b5⟩ := six (alloc_at w2 TZ)
    obtain ⟨g, hg⟩ : ∃ g, g = w2.heap.size := ⟨_, rfl⟩
    have HGg := Lib.hid hg
    clear hz2 hz hL hd hS hN
    go_upto_region 2 with fail
    refine nmw (K := fun W => Below w2.heap.size w2 W ∧ W.heap[g]? = some (TC (.int .i64 v0) (.string v1) (.int .i64 v2) (.int .u64 v3) (.int .u64 v4) (.slice va vl vc))) ⟨kp.ba w2 _, by rw [hg]; exact alloc_at w2 _⟩ (fun W hW => ?_)
    rw [← hg]
    have hzW := (hW.1.block r0 (Nw.lt HS.out.2.2.2.2.2)).trans HS.out.2.2.2.2.2
    have hSW := HS.out.2.2.1.below hW.1
    have hNW : Nx F w F' W := ((Nx.below H.out.2.2.1).trans HS.out.2.2.2.1).trans (Nx.below hW.1)
    have HPA := Lib.hid (passes_st hSW 41)
    have hgF : ¬ F' g := fun hF => by have := HS.out.2.2.1.lt _ hF; omega
    have HWW := Lib.hid (And.intro hzW (And.intro hSW (And.intro hNW (And.intro hW (And.intro hgF (Nx.lv (Nx.below hW.1) HS.out.1))))))
    obtain ⟨bp, hbp⟩ : ∃ bp, bp = isP (see N (all.drop k') 0) 41 := ⟨_, rfl⟩
    rw [← hbp] at HPA
    have HBP := Lib.hid hbp
    clear a0 a1 a2 a3 a4 a5 b0 b1 b2 b3 b4 b5 hW hzW hSW hNW hgF hg hbp
    go_wp2_with fail
    refine HPA.out.mono ?_; rintro e w3 ⟨rfl, hS3, hN3, hd3⟩
    obtain ⟨hgb, hgF3⟩ := hN3.block (Nw.lt HWW.out.2.2.2.1.2) HWW.out.2.2.2.2.1
    obtain ⟨hrb, hrF3⟩ := hN3.block (Nw.lt HWW.out.1) HS.out.2.2.2.2.1
    have hg3 := hgb.trans HWW.out.2.2.2.1.2
    have hr3 := hrb.trans HWW.out.1
    have hN4 := HWW.out.2.2.1.trans hN3
    obtain ⟨⟨z0, z1, z2, z3, z4, z5⟩, y0, y1, y2, y3, y4, y5⟩ := six hr3
    have hlz := Nw.lt hr3
    cases bp with
    | true =>
      rw [if_pos rfl] at hS3
      obtain ⟨⟨a0, a1, a2, a3, a4, a5⟩, -⟩ := six hg3
      obtain ⟨U, hU, hNU⟩ := fin6 hr3 (.int .i64 v0) (.string v1) (.int .i64 v2) (.int .u64 v3) (.int .u64 v4) (.slice va vl vc)
      obtain ⟨⟨q0, q1, q2, q3, q4, q5⟩, -⟩ := six hNU.1
      have HU := Lib.hid (St.set H.out.1 hS3 hN4 (by rw [HW.out.1]; exact Nat.le_refl _) hrF3 hNU)
      have HL := Lib.hid (((hN3.lv HWW.out.2.2.2.2.2).set (Nw.lt H.out.2.2.2.1) hNU).mono H.out.2.2.1.size)
      have HD := Lib.hid (hd3 rfl)
      clear hgb hgF3 hrb hrF3 hg3 hr3 hN4 hNU hS3 hN3 hd3
      go_wp2_with fail
      refine bodyPost_ret (v := .tuple #[.agg #[.int .i64 v0, .string v1, .int .i64 v2, .int .u64 v3, .int .u64 v4, .slice va vl vc], .int .i64 0]) (by simp [results, Tryz.results130, go_sem, q0, q1, q2, q3, q4, q5]) rfl ?_
      show PE p m tv tp FT N all tl (if isP (see N rest 0) 41 = true then .ok (id t) rest.tail ns' else .er 2 rest ns') F w _ _
      rw [← HS.out.2.1, ← HBP.out, if_pos rfl]
      exact ⟨_, k' + 1, F', rfl, HD.out, HU.out.1, HU.out.2, HL.out⟩
    | false =>
      rw [if_neg (by decide)] at hS3
      obtain ⟨U, hU, hNU⟩ := fin6 hr3 (.int .i64 0) (.string ⟨#[]⟩) (.int .i64 0) (.int .u64 0) (.int .u64 0) (.slice none 0 0)
      obtain ⟨⟨q0, q1, q2, q3, q4, q5⟩, -⟩ := six hNU.1
      have HU := Lib.hid (St.set H.out.1 hS3 hN4 (by rw [HW.out.1]; exact Nat.le_refl _) hrF3 hNU)
      clear hgb hgF3 hrb hrF3 hg3 hr3 hN4 hNU hS3 hN3 hd3
      go_wp2_with fail
      refine bodyPost_ret (v := .tuple #[Z0, .int .i64 2]) (by simp [results, Tryz.results130, go_sem, q0, q1, q2, q3, q4, q5, Z0, tmV]) rfl ?_
      show PE p m tv tp FT N all tl (if isP (see N rest 0) 41 = true then .ok (id t) rest.tail ns' else .er 2 rest ns') F w _ _
      rw [← HS.out.2.1, ← HBP.out, if_neg (by decide)]
      exact ⟨rfl, by decide, k', F', rfl, HU.out.1, HU.out.2⟩
end
end Go.Proofs.YtedbcmagjbgbjaaGreatDoor.rd
namespace Go.Proofs.YtedbcmagjbgbjaaGreatDoor.rd
open Go.ChangeShapes Go.WideShapes Go.ChangeAt Go.RowKit Go.Maps
open Go.Proofs.YtedbcmagjbgbjaaGreatDoor.kp Go.Proofs.YtedbcmagjbgbjaaGreatDoor.num Go.Proofs.YtedbcmagjbgbjaaGreatDoor.dec Go.Proofs.YtedbcmagjbgbjaaGreatDoor.tk
set_option linter.unusedVariables false
set_option linter.unusedSimpArgs false
section
variable {w w' w0 w1 w2 : World} {p m tp N k : Nat} {tv : Value} {all : List Tk} {tl : List opa.D} {ns : Names} {F F' FT : Nat → Prop} {rec : Rec} {f : Nat}
/-- terms side by side, of blocks that are none of the reader's and not older than B -/
def Lw (F : Nat → Prop) (B : Nat) (w : World) (l : List Tm) (a : Option Addr) (c : Nat) : Prop := lie.TRow (fun i => F i ∨ i < B) w l a 0 ∧ l.length ≤ c ∧ c ≤ 9223372036854775807
theorem Nx.lw (h : Nx F w F' w') {B : Nat} {l : List Tm} {a : Option Addr} {c : Nat} (hl : Lw F B w l a c) : Lw F' B w' l a c :=
  ⟨lie.TRow.keep (h.keep.mono (G := fun i => F i ∨ i < B) fun i hi => Or.inl hi) (fun b hb hy => by
    rcases hy with hy | hy
    · rcases h.own b hy with a | a
      · exact Or.inl a
      · omega
    · exact Or.inr hy) l 0 hl.1, hl.2⟩
theorem Lw.set {o : Obj} {b B : Nat} {l : List Tm} {a : Option Addr} {c : Nat} (hl : Lw F B w l a c) (hb : b < B) (N' : Nw b o w w') : Lw F B w' l a c :=
  ⟨lie.TRow.keep (N'.2.mono (G := fun i => F i ∨ i < B) fun i hi => Or.inr (hi ▸ hb)) (fun _ _ => id) l 0 hl.1, hl.2⟩
theorem Lw.mono {B B' : Nat} {l : List Tm} {a : Option Addr} {c : Nat} (hl : Lw F B w l a c) (hb : B' ≤ B) : Lw F B' w l a c :=
  ⟨lie.TRow.off (fun b _ hy => by rcases hy with a | a; exact Or.inl a; exact Or.inr (by omega)) hl.1, hl.2⟩
theorem Lw.comp {B : Nat} {l : List Tm} {a : Option Addr} {c : Nat} (hl : Lw F B w l a c) {n : List UInt8} (hn : n.length ≤ 70000) : Lv F B w (tm.comp (nm n) l) (tmV 5 n 0 0 0 (.slice a l.length c)) :=
  comp_lies hl.1 hl.2.1 hl.2.2 hn
/-- what a call that reads terms tells -/
def RE (p m : Nat) (tv : Value) (tp : Nat) (FT : Nat → Prop) (N : Nat) (all : List Tk) (tl : List opa.D) (R : PR (List Tm)) (F : Nat → Prop) (w : World) (e : Ending) (w' : World) : Prop := match R with
  | .er n rest ns' => e = .returned (.tuple #[.slice none 0 0, .int .i64 n]) ∧ n ≠ 0 ∧ ∃ k' F', all.drop k' = rest ∧ St p m tv tp FT N all tl k' ns' F' w' ∧ Nx F w F' w'
  | .ok l rest ns' => ∃ a c k' F', e = .returned (.tuple #[.slice a l.length c, .int .i64 0]) ∧ all.drop k' = rest ∧ St p m tv tp FT N all tl k' ns' F' w' ∧ Nx F w F' w' ∧ Lw F' w.heap.size w' l a c
set_option maxRecDepth 100000 in
set_option maxHeartbeats 8000000 in
theorem arguments_any {R : PR (List Tm)} (level : Nat) (hrow : ∀ W, St p m tv tp FT N all tl k ns F W → Calls Tryz.prog 165 #[.pointer (some ⟨p, 0, none⟩), .int .i64 (level : Int)] W (RE p m tv tp FT N all tl R F W))
    (h : St p m tv tp FT N all tl k ns F w) (s : List UInt8) (hs : s.length ≤ 70000) :
    Calls Tryz.prog 128 #[.pointer (some ⟨p, 0, none⟩), .string ⟨s.toArray⟩, .int .i64 (level : Int)] w (PE p m tv tp FT N all tl (shut N 41 (tm.comp (nm s)) R) F w) := by
  obtain ⟨r0, hr0⟩ : ∃ r0, r0 = w.heap.size := ⟨_, rfl⟩
  obtain ⟨w1, hw1⟩ : ∃ w1, w1 = w.alloc TZ := ⟨_, rfl⟩
  have hb1 : Below w.heap.size w w1 := by rw [hw1]; exact kp.ba w _
  have hz1 : w1.heap[r0]? = some (TC (.int .i64 0) (.string ⟨#[]⟩) (.int .i64 0) (.int .u64 0) (.int .u64 0) (.slice none 0 0)) := by rw [hr0, hw1]; exact alloc_at w _
  have HW := Lib.hid (And.intro hr0 hw1)
  have h1 := h.below hb1
  have hF0 : ¬ F r0 := fun hF => by have := h.lt _ hF; omega
  have HC := Lib.hid (hrow w1 h1)
  have H := Lib.hid (And.intro h (And.intro h1 (And.intro hb1 (And.intro hz1 hF0))))
  clear hr0 hw1 hb1 hz1 h1 hF0 h hrow
  go_enter Tryz.func128, Tryz.ntmps128
  go_upto_region 1 with fail
  change Code.wp _ _ _ _ (w.alloc TZ)
  rw [← HW.out.1, ← HW.out.2]
  cases R with
  | er n rest ns' =>
    go_wp2_with fail
    refine HC.out.mono ?_; rintro e w2 ⟨rfl, hn0, k', F', hd, hS, hN⟩
    have hz2 := (hN.block (Nw.lt H.out.2.2.2.1) H.out.2.2.2.2)
    have hz := hz2.1.trans H.out.2.2.2.1
    have hNW : Nx F w F' w2 := (Nx.below H.out.2.2.1).trans hN
    have e0 : (n == 0) = false := by simpa using hn0
    have e1 : (n != 0) = true := by rw [bne_iff_ne]; exact hn0
    obtain ⟨⟨z0, z1, z2, z3, z4, z5⟩, y0, y1, y2, y3, y4, y5⟩ := six hz
    have hlz := Nw.lt hz
    obtain ⟨U, hU, hNU⟩ := fin6 hz (.int .i64 0) (.string ⟨#[]⟩) (.int .i64 0) (.int .u64 0) (.int .u64 0) (.slice none 0 0)
    obtain ⟨⟨q0, q1, q2, q3, q4, q5⟩, -⟩ := six hNU.1
    have HU := Lib.hid (St.set H.out.1 hS hNW (by rw [HW.out.1]; exact Nat.le_refl _) hz2.2 hNU)
    have HS := Lib.hid (And.intro hn0 hd)
    clear hz2 hz hn0 hd hS hN hNW hNU
    go_wp2_with fail
    refine bodyPost_ret (v := .tuple #[Z0, .int .i64 n]) (by simp [results, Tryz.results128, go_sem, q0, q1, q2, q3, q4, q5, Z0, tmV]) rfl ?_
    exact ⟨rfl, HS.out.1, k', F', HS.out.2, HU.out.1, HU.out.2⟩
  | ok l rest ns' =>
    go_wp2_with fail
    refine HC.out.mono ?_; rintro e w2 ⟨va, vc, k', F', rfl, hd, hS, hN, hL⟩
    have hz2 := (hN.block (Nw.lt H.out.2.2.2.1) H.out.2.2.2.2)
    have hz := hz2.1.trans H.out.2.2.2.1
    have hNW : Nx F w F' w2 := (Nx.below H.out.2.2.1).trans hN
    have HPA := Lib.hid (passes_st hS 41)
    obtain ⟨bp, hbp⟩ : ∃ bp, bp = isP (see N (all.drop k') 0) 41 := ⟨_, rfl⟩
    rw [← hbp] at HPA
    have HBP := Lib.hid hbp
    have HS := Lib.hid (And.intro hL (And.intro hd (And.intro hNW (And.intro hz2.2 hz))))
    clear hz2 hz hL hd hS hN hNW hbp
    go_wp2_with fail
    refine HPA.out.mono ?_; rintro e w3 ⟨rfl, hS3, hN3, hd3⟩
    obtain ⟨hrb, hrF3⟩ := hN3.block (Nw.lt HS.out.2.2.2.2) HS.out.2.2.2.1
    have hr3 := hrb.trans HS.out.2.2.2.2
    have hN4 := HS.out.2.2.1.trans hN3
    cases bp with
    | true =>
      rw [if_pos rfl] at hS3
      have HCO := Lib.hid (compound_any s va l.length vc w3)
      have H3 := Lib.hid (And.intro hS3 (And.intro hN4 (And.intro hr3 (And.intro hrF3 (And.intro (hN3.lw HS.out.1) (hd3 rfl))))))
      clear hrb hrF3 hr3 hN4 hS3 hN3 hd3
      go_wp2_with fail
      refine HCO.out.mono ?_; rintro e w4 ⟨rfl, b4⟩
      have hr4 := (b4.block r0 (Nw.lt H3.out.2.2.1)).trans H3.out.2.2.1
      obtain ⟨⟨z0, z1, z2, z3, z4, z5⟩, y0, y1, y2, y3, y4, y5⟩ := six hr4
      have hlz := Nw.lt hr4
      obtain ⟨U, hU, hNU⟩ := fin6 hr4 (.int .i64 5) (.string ⟨s.toArray⟩) (.int .i64 0) (.int .u64 0) (.int .u64 0) (.slice va l.length vc)
      obtain ⟨⟨q0, q1, q2, q3, q4, q5⟩, -⟩ := six hNU.1
      have HU := Lib.hid (St.set H.out.1 (H3.out.1.below b4) (H3.out.2.1.trans (Nx.below b4)) (by rw [HW.out.1]; exact Nat.le_refl _) H3.out.2.2.2.1 hNU)
      have HL := Lib.hid (((Nx.lw (Nx.below b4) H3.out.2.2.2.2.1).set (Nw.lt H.out.2.2.2.1) hNU).mono H.out.2.2.1.size)
      clear hr4 hNU b4
      unfold tmV
      go_wp2_with fail
      refine bodyPost_ret (v := .tuple #[tmV 5 s 0 0 0 (.slice va l.length vc), .int .i64 0]) (by simp [results, Tryz.results128, go_sem, q0, q1, q2, q3, q4, q5, tmV]) rfl ?_
      show PE p m tv tp FT N all tl (if isP (see N rest 0) 41 = true then .ok (tm.comp (nm s) l) rest.tail ns' else .er 2 rest ns') F w _ _
      rw [← HS.out.2.1, ← HBP.out, if_pos rfl]
      exact ⟨_, k' + 1, F', rfl, H3.out.2.2.2.2.2, HU.out.1, HU.out.2, HL.out.comp hs⟩
    | false =>
      rw [if_neg (by decide)] at hS3
      obtain ⟨⟨z0, z1, z2, z3, z4, z5⟩, y0, y1, y2, y3, y4, y5⟩ := six hr3
      have hlz := Nw.lt hr3
      obtain ⟨U, hU, hNU⟩ := fin6 hr3 (.int .i64 0) (.string ⟨#[]⟩) (.int .i64 0) (.int .u64 0) (.int .u64 0) (.slice none 0 0)
      obtain ⟨⟨q0, q1, q2, q3, q4, q5⟩, -⟩ := six hNU.1
      have HU := Lib.hid (St.set H.out.1 hS3 hN4 (by rw [HW.out.1]; exact Nat.le_refl _) hrF3 hNU)
      clear hrb hrF3 hr3 hN4 hNU hS3 hN3 hd3
      go_wp2_with fail
      refine bodyPost_ret (v := .tuple #[Z0, .int .i64 2]) (by simp [results, Tryz.results128, go_sem, q0, q1, q2, q3, q4, q5, Z0, tmV]) rfl ?_
      show PE p m tv tp FT N all tl (if isP (see N rest 0) 41 = true then .ok (tm.comp (nm s) l) rest.tail ns' else .er 2 rest ns') F w _ _
      rw [← HS.out.2.1, ← HBP.out, if_neg (by decide)]
      exact ⟨rfl, by decide, k', F', rfl, HU.out.1, HU.out.2⟩
end
end Go.Proofs.YtedbcmagjbgbjaaGreatDoor.rd
namespace Go.Proofs.YtedbcmagjbgbjaaGreatDoor.rd
open Go.ChangeShapes Go.WideShapes Go.ChangeAt Go.RowKit Go.Maps
open Go.Proofs.YtedbcmagjbgbjaaGreatDoor.kp Go.Proofs.YtedbcmagjbgbjaaGreatDoor.num Go.Proofs.YtedbcmagjbgbjaaGreatDoor.dec Go.Proofs.YtedbcmagjbgbjaaGreatDoor.tk
set_option linter.unusedVariables false
set_option linter.unusedSimpArgs false
section
variable {w w' w0 w1 w2 : World} {p m tp N k : Nat} {tv : Value} {all : List Tk} {tl : List opa.D} {ns : Names} {F F' FT : Nat → Prop} {rec : Rec} {f : Nat}
/-- one term in a new block -/
theorem row1 {B : Nat} {t : Tm} {v0 v1 v2 v3 v4 v5 : Value} (h : Lv F B w t (.agg #[v0, v1, v2, v3, v4, v5])) (hF : ∀ i, F i → i < w.heap.size) (hB : B ≤ w.heap.size) :
    Lw F B (w.alloc (.cells #[v0, v1, v2, v3, v4, v5] 27)) [t] (some ⟨w.heap.size, 0, none⟩) 1 := by
  refine ⟨?_, by simp, by omega⟩
  have hb := kp.ba w (.cells #[v0, v1, v2, v3, v4, v5] 27)
  obtain ⟨⟨a0, a1, a2, a3, a4, a5⟩, -⟩ := six (alloc_at w (.cells #[v0, v1, v2, v3, v4, v5] 27))
  rw [lie.TRow]
  refine ⟨⟨w.heap.size, 0, v0, v1, v2, v3, v4, v5, rfl, ?_, ⟨a0, a1, a2, a3, a4, a5⟩, lie.Lies.below hb h⟩, by rw [lie.TRow]; trivial⟩
  rintro (hi | hi)
  · exact absurd (hF _ hi) (by omega)
  · omega
set_option maxRecDepth 100000 in
set_option maxHeartbeats 8000000 in
theorem operand_any (hg : Good p m tv tp FT N all tl rec f) (h : St p m tv tp FT N all tl k ns F w) (hf : all.length < f + k) (level : Nat) (hlev : level ≤ 3000) (s : List UInt8) (hs : s.length ≤ 70000) :
    Calls Tryz.prog 129 #[.pointer (some ⟨p, 0, none⟩), .string ⟨s.toArray⟩, .int .i64 (level : Int)] w
      (PE p m tv tp FT N all tl ((rec (bnd ((OTof tl).dp s) 4) level (all.drop k) ns).bind fun v r n => .ok (tm.comp (nm s) [v]) r n) F w) := by
  obtain ⟨r0, hr0⟩ : ∃ r0, r0 = w.heap.size := ⟨_, rfl⟩
  obtain ⟨w1, hw1⟩ : ∃ w1, w1 = w.alloc TZ := ⟨_, rfl⟩
  have hb1 : Below w.heap.size w w1 := by rw [hw1]; exact kp.ba w _
  have hz1 : w1.heap[r0]? = some (TC (.int .i64 0) (.string ⟨#[]⟩) (.int .i64 0) (.int .u64 0) (.int .u64 0) (.slice none 0 0)) := by rw [hr0, hw1]; exact alloc_at w _
  have HW := Lib.hid (And.intro hr0 hw1)
  have h1 := h.below hb1
  have hF0 : ¬ F r0 := fun hF => by have := h.lt _ hF; omega
  have HGD := Lib.hid hg
  have hpr := h.env.gd ⟨s, 4, 0⟩
  obtain ⟨o, ho⟩ : ∃ o, o = ope.gd tl ⟨s, 4, 0⟩ := ⟨_, rfl⟩
  have HPF := Lib.hid (prefix_c w1 w1 s h1.env.tab h1.env.srt h1.env.len (kp.br _))
  have hdp : (OTof tl).dp s = o := ho.symm
  rw [hdp]
  rw [← ho] at hpr HPF
  obtain ⟨R, hR⟩ : ∃ R, R = rec (bnd o 4) level (all.drop k) ns := ⟨_, rfl⟩
  rw [← hR]
  have HRR := Lib.hid hR
  clear hR
  have hbo : -1 ≤ bnd o 4 ∧ bnd o 4 ≤ 1200 := by unfold bnd; split <;> omega
  obtain ⟨nv, hro⟩ := h1.ro
  obtain ⟨⟨-, -, -, c3, -⟩, -⟩ := six hro
  have H := Lib.hid (And.intro h (And.intro h1 (And.intro hb1 (And.intro hz1 hF0))))
  have HBO := Lib.hid (And.intro hbo (And.intro hpr (And.intro hf hlev)))
  clear hr0 hw1 hb1 hz1 h1 hF0 h hg ho hdp hbo hpr hf hlev hro
  go_enter Tryz.func129, Tryz.ntmps129
  go_upto_region 1 with fail
  change Code.wp _ _ _ _ (w.alloc TZ)
  rw [← HW.out.1, ← HW.out.2]
  go_wp2_with fail
  refine HPF.out.mono ?_; rintro e w2 ⟨rfl, b2⟩
  obtain ⟨g, hgq⟩ : ∃ g, g = w2.heap.size := ⟨_, rfl⟩
  obtain ⟨⟨a0, a1, a2⟩, u0, u1, u2⟩ := three (alloc_at w2 OZ)
  have B2 := Lib.hid b2
  unfold opa.D.v
  clear c3 b2
  go_upto_region 2 with fail
  refine nmw (K := fun W => Below w1.heap.size w1 W ∧ W.heap[g]? = some (.cells #[.string ⟨o.n.toArray⟩, .int .i64 o.k, .int .i64 o.p] 45 (0, 0))) ⟨B2.out.trans ((kp.ba w2 _).mono B2.out.size), by rw [hgq]; exact alloc_at w2 _⟩ (fun W hW => ?_)
  rw [← hgq]
  have HWW := Lib.hid hW
  obtain ⟨⟨s0, s1, s2⟩, -⟩ := three hW.2
  have HBD := Lib.hid (bound_any o 4 W ⟨by have := HBO.out.2.1; omega, by have := HBO.out.2.1; omega⟩)
  unfold opa.D.v at HBD
  clear a0 a1 a2 u0 u1 u2 hW hgq B2
  go_wp2_with fail
  refine HBD.out.mono ?_; rintro e w3 ⟨rfl, b3⟩
  have hB3 : Below w1.heap.size w1 w3 := HWW.out.1.trans (b3.mono HWW.out.1.size)
  have HT := Lib.hid (HGD.out (bnd o 4) level k ns F w3 (H.out.2.1.below hB3) HBO.out.2.2.1 (by have := HBO.out.1; omega) HBO.out.1.2 HBO.out.2.2.2)
  have H3 := Lib.hid (And.intro hB3 ((hB3.block r0 (Nw.lt H.out.2.2.2.1)).trans H.out.2.2.2.1))
  rw [← HRR.out] at HT
  clear b3 hB3 s0 s1 s2 HRR
  cases R with
  | er n rest ns' =>
    go_wp2_with fail
    refine HT.out.mono ?_; rintro e w4 ⟨rfl, hn0, k', F', hd, hS, hN⟩
    have hz2 := (hN.block (Nw.lt H3.out.2) H.out.2.2.2.2)
    have hz := hz2.1.trans H3.out.2
    have HS := Lib.hid (And.intro hn0 (And.intro hd (And.intro hS (And.intro hN (And.intro hz2.2 hz)))))
    have e1 : (n != 0) = true := by rw [bne_iff_ne]; exact hn0
    unfold Z0 tmV
    obtain ⟨⟨a0, a1, a2, a3, a4, a5⟩, b0, b1, b2, b3, b4, b5⟩ := six (alloc_at w4 TZ)
    clear hz2 hz hn0 hd hS hN
    go_upto_region 3 with fail
    refine nmw (K := fun W => Below w4.heap.size w4 W) (kp.ba w4 _) (fun W hW => ?_)
    have hzW := (hW.block r0 (Nw.lt HS.out.2.2.2.2.2)).trans HS.out.2.2.2.2.2
    have hSW := HS.out.2.2.1.below hW
    have hNW : Nx F w F' W := ((Nx.below (H.out.2.2.1.trans (H3.out.1.mono H.out.2.2.1.size))).trans HS.out.2.2.2.1).trans (Nx.below hW)
    obtain ⟨⟨z0, z1, z2, z3, z4, z5⟩, y0, y1, y2, y3, y4, y5⟩ := six hzW
    have hlz := Nw.lt hzW
    obtain ⟨U, hU, hNU⟩ := fin6 hzW (.int .i64 0) (.string ⟨#[]⟩) (.int .i64 0) (.int .u64 0) (.int .u64 0) (.slice none 0 0)
    obtain ⟨⟨q0, q1, q2, q3, q4, q5⟩, -⟩ := six hNU.1
    have HU := Lib.hid (St.set H.out.1 hSW hNW (by rw [HW.out.1]; exact Nat.le_refl _) HS.out.2.2.2.2.1 hNU)
    clear a0 a1 a2 a3 a4 a5 b0 b1 b2 b3 b4 b5 hW hzW hSW hNW hNU
    go_wp2_with fail
    refine bodyPost_ret (v := .tuple #[Z0, .int .i64 n]) (by simp [results, Tryz.results129, go_sem, q0, q1, q2, q3, q4, q5, Z0, tmV]) rfl ?_
    exact ⟨rfl, HS.out.1, k', F', HS.out.2.1, HU.out.1, HU.out.2⟩
  | ok t rest ns' =>
    go_wp2_with fail
    refine HT.out.mono ?_; rintro e w4 ⟨v, k', F', rfl, hd, hS, hN, hL⟩
    have hz2 := (hN.block (Nw.lt H3.out.2) H.out.2.2.2.2)
    have hz := hz2.1.trans H3.out.2
    obtain ⟨v0, v1, v2, v3, v4, va, vl, vc, rfl⟩ := Lv.shape hL
    have HS := Lib.hid (And.intro (Lv.mono (B' := w1.heap.size) hL H3.out.1.size) (And.intro hd (And.intro hS (And.intro hN (And.intro hz2.2 hz)))))
    obtain ⟨⟨a0, a1, a2, a3, a4, a5⟩, b0, b1, b2, b3, b4, b5⟩ := six (alloc_at w4 TZ)
    obtain ⟨g2, hg2⟩ : ∃ g2, g2 = w4.heap.size := ⟨_, rfl⟩
    clear hz2 hz hL hd hS hN
    go_upto_region 3 with fail
    refine nmw (K := fun W => Below w4.heap.size w4 W ∧ W.heap[g2]? = some (TC (.int .i64 v0) (.string v1) (.int .i64 v2) (.int .u64 v3) (.int .u64 v4) (.slice va vl vc))) ⟨kp.ba w4 _, by rw [hg2]; exact alloc_at w4 _⟩ (fun W5 hW5 => ?_)
    rw [← hg2]
    have hS5 := HS.out.2.2.1.below hW5.1
    have hN5 : Nx F w F' W5 := ((Nx.below (H.out.2.2.1.trans (H3.out.1.mono H.out.2.2.1.size))).trans HS.out.2.2.2.1).trans (Nx.below hW5.1)
    have hr5 := (hW5.1.block r0 (Nw.lt HS.out.2.2.2.2.2)).trans HS.out.2.2.2.2.2
    obtain ⟨⟨s0, s1, s2, s3, s4, s5⟩, -⟩ := six hW5.2
    -- the row of one
    obtain ⟨w6, hw6⟩ : ∃ w6, w6 = W5.alloc (.cells #[.int .i64 v0, .string v1, .int .i64 v2, .int .u64 v3, .int .u64 v4, .slice va vl vc] 27) := ⟨_, rfl⟩
    obtain ⟨g6, hg6⟩ : ∃ g6, g6 = W5.heap.size := ⟨_, rfl⟩
    have hLw : Lw F' w1.heap.size w6 [t] (some ⟨g6, 0, none⟩) 1 := by rw [hw6, hg6]; exact row1 (Nx.lv (Nx.below hW5.1) HS.out.1) hS5.lt (Nat.le_trans H3.out.1.size (Nat.le_trans HS.out.2.2.2.1.keep.size hW5.1.size))
    have hb6 : Below W5.heap.size W5 w6 := by rw [hw6]; exact kp.ba W5 _
    have HCO := Lib.hid (compound_any s (some ⟨g6, 0, none⟩) 1 1 w6)
    have H6 := Lib.hid (And.intro (hS5.below hb6) (And.intro (hN5.trans (Nx.below hb6)) (And.intro ((hb6.block r0 (Nw.lt hr5)).trans hr5) (And.intro hLw (And.intro hw6 hg6)))))
    clear a0 a1 a2 a3 a4 a5 b0 b1 b2 b3 b4 b5 hW5 hg2 hS5 hN5 hr5 hLw hb6 hw6 hg6
    go_wp2_with fail
    rw [← H6.out.2.2.2.2.1, ← H6.out.2.2.2.2.2]
    refine HCO.out.mono ?_; rintro e w7 ⟨rfl, b7⟩
    have hr7 := (b7.block r0 (Nw.lt H6.out.2.2.1)).trans H6.out.2.2.1
    obtain ⟨⟨z0, z1, z2, z3, z4, z5⟩, y0, y1, y2, y3, y4, y5⟩ := six hr7
    have hlz := Nw.lt hr7
    obtain ⟨U, hU, hNU⟩ := fin6 hr7 (.int .i64 5) (.string ⟨s.toArray⟩) (.int .i64 0) (.int .u64 0) (.int .u64 0) (.slice (some ⟨g6, 0, none⟩) 1 1)
    obtain ⟨⟨q0, q1, q2, q3, q4, q5⟩, -⟩ := six hNU.1
    have hnF : ¬ F' r0 := HS.out.2.2.2.2.1
    have HU := Lib.hid (St.set H.out.1 (H6.out.1.below b7) (H6.out.2.1.trans (Nx.below b7)) (by rw [HW.out.1]; exact Nat.le_refl _) hnF hNU)
    have HL := Lib.hid (((Nx.lw (Nx.below b7) H6.out.2.2.2.1).set (Nw.lt H.out.2.2.2.1) hNU).mono H.out.2.2.1.size)
    clear hr7 hNU b7 hnF s0 s1 s2 s3 s4 s5
    unfold tmV
    go_wp2_with fail
    refine bodyPost_ret (v := .tuple #[tmV 5 s 0 0 0 (.slice (some ⟨g6, 0, none⟩) 1 1), .int .i64 0]) (by simp [results, Tryz.results129, go_sem, q0, q1, q2, q3, q4, q5, tmV]) rfl ?_
    exact ⟨_, k', F', rfl, HS.out.2.1, HU.out.1, HU.out.2, HL.out.comp hs⟩
end
end Go.Proofs.YtedbcmagjbgbjaaGreatDoor.rd
