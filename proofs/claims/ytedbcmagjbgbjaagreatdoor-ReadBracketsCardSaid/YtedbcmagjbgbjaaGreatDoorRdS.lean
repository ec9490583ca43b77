/- The project's reader: list. -/
import Derived.Test.YtedbcmagjbgbjaaGreatDoorRdO
namespace Go.Proofs.YtedbcmagjbgbjaaGreatDoor.rd
open Go.ChangeShapes Go.WideShapes Go.ChangeAt Go.RowKit Go.Maps
open Go.Proofs.YtedbcmagjbgbjaaGreatDoor.kp Go.Proofs.YtedbcmagjbgbjaaGreatDoor.num Go.Proofs.YtedbcmagjbgbjaaGreatDoor.dec Go.Proofs.YtedbcmagjbgbjaaGreatDoor.tk
set_option linter.unusedVariables false
set_option linter.unusedSimpArgs false
section
variable {w w' w0 w1 w2 : World} {p m tp N k : Nat} {tv : Value} {all : List Tk} {tl : List opa.D} {ns : Names} {F F' FT : Nat → Prop} {rec : Rec} {f : Nat}
theorem twelve {q : Nat} {v0 v1 v2 v3 v4 v5 u0 u1 u2 u3 u4 u5 : Value} {ty : TypeId} (h : w.heap[q]? = some (.cells #[v0, v1, v2, v3, v4, v5, u0, u1, u2, u3, u4, u5] ty (0, 0))) :
    lie.Six w q 0 v0 v1 v2 v3 v4 v5 ∧ lie.Six w q 6 u0 u1 u2 u3 u4 u5 := by
  refine ⟨⟨?_, ?_, ?_, ?_, ?_, ?_⟩, ⟨?_, ?_, ?_, ?_, ?_, ?_⟩⟩ <;> simp [World.cell?, h]
/-- two terms in a new block -/
theorem row2 {B : Nat} {t s : Tm} {v0 v1 v2 v3 v4 v5 u0 u1 u2 u3 u4 u5 : Value} (h : Lv F B w t (.agg #[v0, v1, v2, v3, v4, v5])) (g : Lv F B w s (.agg #[u0, u1, u2, u3, u4, u5])) (hF : ∀ i, F i → i < w.heap.size) (hB : B ≤ w.heap.size) :
    Lw F B (w.alloc (.cells #[v0, v1, v2, v3, v4, v5, u0, u1, u2, u3, u4, u5] 27)) [t, s] (some ⟨w.heap.size, 0, none⟩) 2 := by
  refine ⟨?_, by simp, by omega⟩
  have hb := kp.ba w (.cells #[v0, v1, v2, v3, v4, v5, u0, u1, u2, u3, u4, u5] 27)
  obtain ⟨h0, h6⟩ := twelve (alloc_at w (.cells #[v0, v1, v2, v3, v4, v5, u0, u1, u2, u3, u4, u5] 27))
  have hX : ¬ (F w.heap.size ∨ w.heap.size < B) := by
    rintro (hi | hi)
    · exact absurd (hF _ hi) (by omega)
    · omega
  rw [lie.TRow]
  refine ⟨⟨w.heap.size, 0, v0, v1, v2, v3, v4, v5, rfl, hX, h0, lie.Lies.below hb h⟩, ?_⟩
  rw [lie.TRow]
  exact ⟨⟨w.heap.size, 0, u0, u1, u2, u3, u4, u5, rfl, hX, h6, lie.Lies.below hb g⟩, by rw [lie.TRow]; trivial⟩
/-- the list's own loop -/
structure LR (p m : Nat) (tv : Value) (tp : Nat) (FT : Nat → Prop) (N : Nat) (all : List Tk) (tl : List opa.D) (k' : Nat) (ns' : Names) (F : Nat → Prop) (w : World) (F' : Nat → Prop) (B r0 r1 : Nat) (l : List Tm) (e : Tm) (a : Option Addr) (c : Nat) (g : Nat) (wr : World) (v0 v1 v2 v3 v4 v5 : Value) : Prop where
  st : St p m tv tp FT N all tl k' ns' F' wr
  nx : Nx F w F' wr
  c1 : wr.heap[r1]? = some (TC v0 v1 v2 v3 v4 v5)
  c0 : wr.heap[r0]? = some (TC (.int .i64 0) (.string ⟨#[]⟩) (.int .i64 0) (.int .u64 0) (.int .u64 0) (.slice none 0 0))
  lw : Lw F' B wr l a c
  lv : Lv F' B wr (listOf (l.drop g) e) (.agg #[v0, v1, v2, v3, v4, v5])
  le : g ≤ l.length
  sz : B ≤ wr.heap.size
def LRel (p m : Nat) (tv : Value) (tp : Nat) (FT : Nat → Prop) (N : Nat) (all : List Tk) (tl : List opa.D) (k' : Nat) (ns' : Names) (F : Nat → Prop) (w : World) (F' : Nat → Prop) (B r0 r1 : Nat) (l : List Tm) (e : Tm) (a : Option Addr) (c : Nat) (g : Nat) (s9 : Value) (wr : World) : Prop :=
  ∃ (j : Nat) (v0 : Int) (v1 : ByteArray) (v2 v3 v4 : Int) (xa : Option Addr) (xl xc : Nat), g = j ∧ s9 = .int .i64 ((j : Int) - 1) ∧ LR p m tv tp FT N all tl k' ns' F w F' B r0 r1 l e a c j wr (.int .i64 v0) (.string v1) (.int .i64 v2) (.int .u64 v3) (.int .u64 v4) (.slice xa xl xc)
theorem listOf_drop {l : List Tm} {j : Nat} (h : j < l.length) (e : Tm) : listOf (l.drop j) e = pair l[j] (listOf (l.drop (j + 1)) e) := by
  rw [List.drop_eq_getElem_cons h]; rfl
set_option maxRecDepth 100000 in
set_option maxHeartbeats 16000000 in
theorem list_any (hg : Good p m tv tp FT N all tl rec f) (hpt : Parts rec) (h : St p m tv tp FT N all tl k ns F w) (hf : all.length < f + k) (level : Nat) (hlev : level ≤ 3000) :
    Calls Tryz.prog 131 #[.pointer (some ⟨p, 0, none⟩), .int .i64 (level : Int)] w (PE p m tv tp FT N all tl (list N rec level (all.drop k) ns) F w) := by
  obtain ⟨r0, hr0⟩ : ∃ r0, r0 = w.heap.size := ⟨_, rfl⟩
  obtain ⟨w1, hw1⟩ : ∃ w1, w1 = w.alloc TZ := ⟨_, rfl⟩
  have hb1 : Below w.heap.size w w1 := by rw [hw1]; exact kp.ba w _
  have hz1 : w1.heap[r0]? = some (TC (.int .i64 0) (.string ⟨#[]⟩) (.int .i64 0) (.int .u64 0) (.int .u64 0) (.slice none 0 0)) := by rw [hr0, hw1]; exact alloc_at w _
  have HW := Lib.hid (And.intro hr0 hw1)
  have h1 := h.below hb1
  have hF0 : ¬ F r0 := fun hF => by have := h.lt _ hF; omega
  have H := Lib.hid (And.intro h (And.intro h1 (And.intro hb1 (And.intro hz1 hF0))))
  have HGD := Lib.hid (And.intro hg (And.intro (show Short rec from fun _ _ _ _ _ _ _ h => (hpt _ _ _ _ _ _ _ h).2) (And.intro hf (And.intro hlev hpt))))
  obtain ⟨r1, hr1⟩ : ∃ r1, r1 = w1.heap.size := ⟨_, rfl⟩
  have HR1 := Lib.hid hr1
  obtain ⟨⟨a0, a1, a2, a3, a4, a5⟩, b0, b1, b2, b3, b4, b5⟩ := six (alloc_at w1 TZ)
  clear hr0 hw1 hb1 hz1 h1 hF0 h hg hpt hf hlev hr1
  go_enter Tryz.func131, Tryz.ntmps131
  go_upto_region 1 with fail
  change Code.wp _ _ _ _ (w.alloc TZ)
  rw [← HW.out.1, ← HW.out.2]
  go_upto_region 2 with fail
  refine nmw (K := fun W => Below w1.heap.size w1 W ∧ W.heap[r1]? = some (TC (.int .i64 2) (.string ⟨#[91, 93]⟩) (.int .i64 0) (.int .u64 0) (.int .u64 0) (.slice none 0 0))) ⟨kp.ba w1 _, by rw [HR1.out]; exact alloc_at w1 _⟩ (fun W hW => ?_)
  rw [← HR1.out]
  have hSW := H.out.2.1.below hW.1
  have hNW : Nx F w F W := (Nx.below H.out.2.2.1).trans (Nx.below hW.1)
  have hrW := (hW.1.block r0 (Nw.lt H.out.2.2.2.1)).trans H.out.2.2.2.1
  have HPA := Lib.hid (passes_st hSW 93)
  have hF1 : ¬ F r1 := fun hF => by have := H.out.2.1.lt _ hF; rw [HR1.out] at this; omega
  have hne : r0 < r1 := by rw [HR1.out]; exact Nw.lt H.out.2.2.2.1
  have HWW := Lib.hid (And.intro hSW (And.intro hNW (And.intro hrW (And.intro hW.2 (And.intro hF1 hne)))))
  obtain ⟨bp, hbp⟩ : ∃ bp, bp = isP (see N (all.drop k) 0) 93 := ⟨_, rfl⟩
  have HBP := Lib.hid hbp
  rw [← hbp] at HPA
  clear a0 a1 a2 a3 a4 a5 b0 b1 b2 b3 b4 b5 hSW hNW hrW hF1 hne hW hbp
  go_wp2_with fail
  refine HPA.out.mono ?_; rintro e w3 ⟨rfl, hS3, hN3, hd3⟩
  have hr3 := hN3.block (Nw.lt HWW.out.2.2.1) H.out.2.2.2.2
  have hq3 := hN3.block (Nw.lt HWW.out.2.2.2.1) HWW.out.2.2.2.2.1
  have hN4 := HWW.out.2.1.trans hN3
  cases bp with
  | true =>
    rw [if_pos rfl] at hS3
    have hq4 := hq3.1.trans HWW.out.2.2.2.1
    have hr4 := hr3.1.trans HWW.out.2.2.1
    obtain ⟨⟨a0, a1, a2, a3, a4, a5⟩, -⟩ := six hq4
    obtain ⟨⟨z0, z1, z2, z3, z4, z5⟩, y0, y1, y2, y3, y4, y5⟩ := six hr4
    have hlz := Nw.lt hr4
    obtain ⟨U, hU, hNU⟩ := fin6 hr4 (.int .i64 2) (.string ⟨#[91, 93]⟩) (.int .i64 0) (.int .u64 0) (.int .u64 0) (.slice none 0 0)
    obtain ⟨⟨q0, q1, q2, q3, q4, q5⟩, -⟩ := six hNU.1
    have HU := Lib.hid (St.set H.out.1 hS3 hN4 (by rw [HW.out.1]; exact Nat.le_refl _) hr3.2 hNU)
    have HD := Lib.hid (hd3 rfl)
    clear hr3 hq3 hq4 hr4 hN4 hNU hS3 hN3 hd3
    go_wp2_with fail
    refine bodyPost_ret (v := .tuple #[tmV 2 [91, 93] 0 0 0 (.slice none 0 0), .int .i64 0]) (by simp [results, Tryz.results131, go_sem, q0, q1, q2, q3, q4, q5, tmV]) rfl ?_
    rw [list_nil HBP.out.symm]
    refine ⟨_, k + 1, F, rfl, HD.out, HU.out.1, HU.out.2, ?_⟩
    exact leaf_any (n := [91, 93]) ⟨by omega, by omega, by decide, by omega, by omega, by omega, by omega, by omega, by omega, by omega, by omega⟩ _ _
  | false =>
    rw [if_neg (by decide)] at hS3
    have HRC := Lib.hid (row_any HGD.out.1 HGD.out.2.1 hS3 HGD.out.2.2.1 level HGD.out.2.2.2.1)
    obtain ⟨R, hR⟩ : ∃ R, R = row N rec level ((all.drop k).length + 1) [] (all.drop k) ns := ⟨_, rfl⟩
    rw [← hR] at HRC
    have HRR := Lib.hid hR
    have HRQ := Lib.hid (show ∀ l r n, R = .ok l r n → r.length < all.length - k from fun l r n e => by have := (row_part HGD.out.2.2.2.2 _ _ _ _ _ _ _ (hR.symm.trans e)).2; rwa [List.length_drop] at this)
    have H3 := Lib.hid (And.intro hS3 (And.intro hN4 (And.intro (hr3.1.trans HWW.out.2.2.1) (hq3.1.trans HWW.out.2.2.2.1))))
    clear hr3 hq3 hN4 hS3 hN3 hd3 hR
    cases R with
    | er n rest ns' =>
      go_wp2_with fail
      refine HRC.out.mono ?_; rintro e w4 ⟨rfl, hn0, k', F', hd, hS, hN⟩
      have hr := hN.block (Nw.lt H3.out.2.2.1) H.out.2.2.2.2
      have hr4 := hr.1.trans H3.out.2.2.1
      obtain ⟨⟨z0, z1, z2, z3, z4, z5⟩, y0, y1, y2, y3, y4, y5⟩ := six hr4
      have hlz := Nw.lt hr4
      have e0 : (n == 0) = false := by simpa using hn0
      have e1 : (n != 0) = true := by rw [bne_iff_ne]; exact hn0
      obtain ⟨U, hU, hNU⟩ := fin6 hr4 (.int .i64 0) (.string ⟨#[]⟩) (.int .i64 0) (.int .u64 0) (.int .u64 0) (.slice none 0 0)
      obtain ⟨⟨q0, q1, q2, q3, q4, q5⟩, -⟩ := six hNU.1
      have HU := Lib.hid (St.set H.out.1 hS (H3.out.2.1.trans hN) (by rw [HW.out.1]; exact Nat.le_refl _) hr.2 hNU)
      have HS := Lib.hid (And.intro hn0 hd)
      clear hr hr4 hNU hS hN hn0 hd
      go_wp2_with fail
      refine bodyPost_ret (v := .tuple #[Z0, .int .i64 n]) (by simp [results, Tryz.results131, go_sem, q0, q1, q2, q3, q4, q5, Z0, tmV]) rfl ?_
      rw [list_er HBP.out.symm HRR.out.symm]
      exact ⟨rfl, HS.out.1, k', F', HS.out.2, HU.out.1, HU.out.2⟩
    | ok l rest ns' =>
      go_wp2_with fail
      refine HRC.out.mono ?_; rintro e w4 ⟨va, vc, k', F', rfl, hd, hS, hN, hL⟩
      subst hd
      have hr := hN.block (Nw.lt H3.out.2.2.1) H.out.2.2.2.2
      have hq := hN.block (Nw.lt H3.out.2.2.2) HWW.out.2.2.2.2.1
      have HPB := Lib.hid (passes_st hS 124)
      obtain ⟨bq, hbq⟩ : ∃ bq, bq = isP (see N (all.drop k') 0) 124 := ⟨_, rfl⟩
      have hgoal : ∀ v0 v1, PE p m tv tp FT N all tl (if bq = true then shut N 93 (listOf l) (rec 999 level (all.drop k').tail ns') else shut N 93 (fun _ => listOf l listE) (.ok () (all.drop k') ns')) F w v0 v1 → PE p m tv tp FT N all tl (list N rec level (all.drop k) ns) F w v0 v1 := by
        intro v0 v1 hh
        cases bq with
        | true => rw [list_bar HBP.out.symm HRR.out.symm hbq.symm]; exact hh
        | false => rw [list_no HBP.out.symm HRR.out.symm hbq.symm]; exact hh
      have HGL := Lib.hid hgoal
      have hkk : k ≤ k' := by have h1 := HRQ.out _ _ _ rfl; rw [List.length_drop] at h1; have := hS.kle; omega
      have HKK := Lib.hid (And.intro hkk (And.intro hN.keep.size (show all.drop k' = all.drop k' from rfl)))
      rw [← hbq] at HPB
      have hB : r1 < w3.heap.size := Nw.lt H3.out.2.2.2
      have HS := Lib.hid (And.intro hL (And.intro (H3.out.2.1.trans hN) (And.intro hr.2 (And.intro hq.2 (And.intro (hr.1.trans H3.out.2.2.1) (And.intro (hq.1.trans H3.out.2.2.2) hB))))))
      clear hr hq hS hN hL hbq hgoal hB hkk
      go_wp2_with fail
      refine HPB.out.mono ?_; rintro e w5 ⟨rfl, hS5, hN5, hd5⟩
      have hr5 := hN5.block (Nw.lt HS.out.2.2.2.2.1) HS.out.2.2.1
      have hq5 := hN5.block (Nw.lt HS.out.2.2.2.2.2.1) HS.out.2.2.2.1
      cases bq with
      | true =>
        rw [if_pos rfl] at hS5
        rw [if_pos rfl] at HGL
        have HC := Lib.hid (HGD.out.1 999 level (k' + 1) ns' F' w5 hS5 (by have := HGD.out.2.2.1; have := HKK.out.1; omega) (by omega) (by omega) HGD.out.2.2.2.1)
        rw [hd5 rfl] at HC
        obtain ⟨T, hT⟩ : ∃ T, T = rec 999 level (all.drop k').tail ns' := ⟨_, rfl⟩
        rw [← hT] at HC HGL
        have H5 := Lib.hid (And.intro (HS.out.2.1.trans hN5) (And.intro (hN5.lw HS.out.1) (And.intro hr5.2 (And.intro hq5.2 (And.intro (hr5.1.trans HS.out.2.2.2.2.1) (hq5.1.trans HS.out.2.2.2.2.2.1))))))
        have HSZ := Lib.hid hN5.keep.size
        clear hS5 hN5 hd5 hr5 hq5 hT
        cases T with
        | er n rest5 ns5 =>
          go_wp2_with fail
          refine HC.out.mono ?_; rintro e w6 ⟨rfl, hn0, k6, F6, hd6, hS6, hN6⟩
          have hr := hN6.block (Nw.lt H5.out.2.2.2.2.1) H5.out.2.2.1
          have hq := hN6.block (Nw.lt H5.out.2.2.2.2.2) H5.out.2.2.2.1
          have hr4 := hr.1.trans H5.out.2.2.2.2.1
          have hq4 := hq.1.trans H5.out.2.2.2.2.2
          unfold Z0 tmV
          obtain ⟨⟨z0, z1, z2, z3, z4, z5⟩, y0, y1, y2, y3, y4, y5⟩ := six hq4
          have hlz := Nw.lt hq4
          have e0 : (n == 0) = false := by simpa using hn0
          have e1 : (n != 0) = true := by rw [bne_iff_ne]; exact hn0
          obtain ⟨V, hV, hNV⟩ := fin6 hq4 (.int .i64 0) (.string ⟨#[]⟩) (.int .i64 0) (.int .u64 0) (.int .u64 0) (.slice none 0 0)
          have hSV := St.set H.out.1 hS6 (H5.out.1.trans hN6) (by have := HWW.out.2.2.2.2.2; have := HW.out.1; omega) hq.2 hNV
          have hrV := (hNV.2.block r0 (Nw.lt hr4) (by have := HWW.out.2.2.2.2.2; omega)).trans hr4
          have HV := Lib.hid (And.intro hSV (And.intro hrV (And.intro hr.2 (And.intro hn0 hd6))))
          clear hr hq hr4 hq4 hNV hSV hrV hS6 hN6 hn0 hd6
          go_upto_region 7 with fail
          clear z0 z1 z2 z3 z4 z5 y0 y1 y2 y3 y4 y5 hV hlz
          obtain ⟨⟨z0, z1, z2, z3, z4, z5⟩, y0, y1, y2, y3, y4, y5⟩ := six HV.out.2.1
          have hlz := Nw.lt HV.out.2.1
          obtain ⟨U, hU, hNU⟩ := fin6 HV.out.2.1 (.int .i64 0) (.string ⟨#[]⟩) (.int .i64 0) (.int .u64 0) (.int .u64 0) (.slice none 0 0)
          obtain ⟨⟨q0, q1, q2, q3, q4, q5⟩, -⟩ := six hNU.1
          have HU := Lib.hid (St.set H.out.1 HV.out.1.1 HV.out.1.2 (by rw [HW.out.1]; exact Nat.le_refl _) HV.out.2.2.1 hNU)
          clear hNU
          go_wp2_with fail
          refine bodyPost_ret (v := .tuple #[Z0, .int .i64 n]) (by simp [results, Tryz.results131, go_sem, q0, q1, q2, q3, q4, q5, Z0, tmV]) rfl ?_
          exact HGL.out _ _ ⟨rfl, HV.out.2.2.2.1, k6, F6, HV.out.2.2.2.2, HU.out.1, HU.out.2⟩
        | ok tt rest5 ns5 =>
          go_wp2_with fail
          refine HC.out.mono ?_; rintro e w6 ⟨v, k6, F6, rfl, hd6, hS6, hN6, hL6⟩
          obtain ⟨v0, v1, v2, v3, v4, xa, xl, xc, rfl⟩ := Lv.shape hL6
          have hr := hN6.block (Nw.lt H5.out.2.2.2.2.1) H5.out.2.2.1
          have hq := hN6.block (Nw.lt H5.out.2.2.2.2.2) H5.out.2.2.2.1
          have hr4 := hr.1.trans H5.out.2.2.2.2.1
          have hq4 := hq.1.trans H5.out.2.2.2.2.2
          obtain ⟨⟨z0, z1, z2, z3, z4, z5⟩, y0, y1, y2, y3, y4, y5⟩ := six hq4
          have hlz := Nw.lt hq4
          obtain ⟨V, hV, hNV⟩ := fin6 hq4 (.int .i64 v0) (.string v1) (.int .i64 v2) (.int .u64 v3) (.int .u64 v4) (.slice xa xl xc)
          have hSV := St.set H.out.1 hS6 (H5.out.1.trans hN6) (by have := HWW.out.2.2.2.2.2; have := HW.out.1; omega) hq.2 hNV
          have hrV := (hNV.2.block r0 (Nw.lt hr4) (by have := HWW.out.2.2.2.2.2; omega)).trans hr4
          have hB5 := HS.out.2.2.2.2.2.2
          have hsz : w3.heap.size ≤ w5.heap.size := Nat.le_trans HKK.out.2.1 HSZ.out
          have hLV := ((show Lv F6 w5.heap.size w6 tt _ from hL6).mono hsz).set hB5 hNV
          have hWV := (hN6.lw H5.out.2.1).set hB5 hNV
          have HV := Lib.hid (And.intro hSV (And.intro hrV (And.intro hr.2 (And.intro hq.2 (And.intro hd6 (And.intro hLV (And.intro hWV hNV.1)))))))
          have HSV := Lib.hid (Nat.le_trans hsz (Nat.le_trans hN6.keep.size hNV.2.size))
          clear hr hq hr4 hq4 hNV hSV hrV hS6 hN6 hd6 hL6 hB5 hsz hLV hWV
          go_upto_region 7 with fail
          clear z0 z1 z2 z3 z4 z5 y0 y1 y2 y3 y4 y5 hV hlz
          have HPC := Lib.hid (passes_st HV.out.1.1 93)
          obtain ⟨bs, hbs⟩ : ∃ bs, bs = isP (see N (all.drop k6) 0) 93 := ⟨_, rfl⟩
          have HBS := Lib.hid hbs
          rw [← hbs] at HPC
          clear hbs
          go_wp2_with fail
          refine HPC.out.mono ?_; rintro ee w7 ⟨rfl, hS7, hN7, hd7⟩
          have hr := hN7.block (Nw.lt HV.out.2.1) HV.out.2.2.1
          have hq := hN7.block (Nw.lt HV.out.2.2.2.2.2.2.2) HV.out.2.2.2.1
          have hr4 := hr.1.trans HV.out.2.1
          have hq4 := hq.1.trans HV.out.2.2.2.2.2.2.2
          cases bs with
          | false =>
            rw [if_neg (by decide)] at hS7
            obtain ⟨⟨z0, z1, z2, z3, z4, z5⟩, y0, y1, y2, y3, y4, y5⟩ := six hr4
            have hlz := Nw.lt hr4
            obtain ⟨U, hU, hNU⟩ := fin6 hr4 (.int .i64 0) (.string ⟨#[]⟩) (.int .i64 0) (.int .u64 0) (.int .u64 0) (.slice none 0 0)
            obtain ⟨⟨q0, q1, q2, q3, q4, q5⟩, -⟩ := six hNU.1
            have HU := Lib.hid (St.set H.out.1 hS7 (HV.out.1.2.trans hN7) (by rw [HW.out.1]; exact Nat.le_refl _) hr.2 hNU)
            clear hr hq hr4 hq4 hNU hS7 hN7 hd7
            go_wp2_with fail
            refine bodyPost_ret (v := .tuple #[Z0, .int .i64 2]) (by simp [results, Tryz.results131, go_sem, q0, q1, q2, q3, q4, q5, Z0, tmV]) rfl ?_
            refine HGL.out _ _ ?_
            show PE p m tv tp FT N all tl (if isP (see N rest5 0) 93 = true then .ok (listOf l tt) (rest5).tail ns5 else .er 2 rest5 ns5) F w _ _
            first | rw [← HV.out.2.2.2.2.1, ← HBS.out, if_neg (by decide)] | rw [← HBS.out, if_neg (by decide)]
            exact ⟨rfl, by decide, k6, F6, rfl, HU.out.1, HU.out.2⟩
          | true =>
            rw [if_pos rfl] at hS7
            have hlen : l.length ≤ 9223372036854775807 := Nat.le_trans HS.out.1.2.1 HS.out.1.2.2
            have hwl : wrap64 ((l.length : Int) - 1) = (l.length : Int) - 1 := by unfold wrap64; omega
            have hLR : LR p m tv tp FT N all tl (k6 + 1) ns5 F w F6 w3.heap.size r0 r1 l tt va vc l.length w7 (.int .i64 v0) (.string v1) (.int .i64 v2) (.int .u64 v3) (.int .u64 v4) (.slice xa xl xc) :=
              ⟨hS7, HV.out.1.2.trans hN7, hq4, hr4, hN7.lw HV.out.2.2.2.2.2.2.1, by rw [List.drop_length]; exact hN7.lv HV.out.2.2.2.2.2.1, Nat.le_refl _, Nat.le_trans HSV.out hN7.keep.size⟩
            have HLR := Lib.hid (And.intro hLR (And.intro hr.2 (And.intro hq.2 (And.intro (hd7 rfl) hlen))))
            clear hr hq hr4 hq4 hS7 hN7 hd7 hlen hLR
            go_wp2_with fail
            go_loopg [9] l.length (LRel p m tv tp FT N all tl (k6 + 1) ns5 F w F6 w3.heap.size r0 r1 l tt va vc)
            case atStart => exact ⟨_, _, _, _, _, _, _, _, _, rfl, by first | rfl | exact congrArg (Value.int .i64) hwl, HLR.out.1⟩
            case round =>
              obtain ⟨jj, m0, m1, m2, m3, m4, xa', xl', xc', hgj, hs9, hLR⟩ := hrel
              have HGJ := Lib.hid hgj
              clear hwl hgj
              cases jj with
              | zero =>
                obtain rfl : _ = Value.int .i64 (-1) := hs9
                obtain ⟨⟨a0, a1, a2, a3, a4, a5⟩, -⟩ := six hLR.c1
                obtain ⟨⟨z0, z1, z2, z3, z4, z5⟩, y0, y1, y2, y3, y4, y5⟩ := six hLR.c0
                have hlz := Nw.lt hLR.c0
                obtain ⟨U, hU, hNU⟩ := fin6 hLR.c0 (.int .i64 m0) (.string m1) (.int .i64 m2) (.int .u64 m3) (.int .u64 m4) (.slice xa' xl' xc')
                obtain ⟨⟨q0, q1, q2, q3, q4, q5⟩, -⟩ := six hNU.1
                have HU := Lib.hid (St.set H.out.1 hLR.st hLR.nx (by rw [HW.out.1]; exact Nat.le_refl _) HLR.out.2.1 hNU)
                have hL9 : Lv F6 w3.heap.size wr (listOf l tt) _ := hLR.lv
                have HL := Lib.hid (Lv.mono (B' := w.heap.size) (hL9.set (by have := HWW.out.2.2.2.2.2; have := HS.out.2.2.2.2.2.2; omega) hNU) (by have := H3.out.2.1.keep.size; omega))
                clear hLR hNU hL9
                go_wp2_with fail
                refine bodyPost_ret (v := .tuple #[.agg #[.int .i64 m0, .string m1, .int .i64 m2, .int .u64 m3, .int .u64 m4, .slice xa' xl' xc'], .int .i64 0]) (by simp [results, Tryz.results131, go_sem, q0, q1, q2, q3, q4, q5]) rfl ?_
                refine HGL.out _ _ ?_
                show PE p m tv tp FT N all tl (if isP (see N rest5 0) 93 = true then .ok (listOf l tt) (rest5).tail ns5 else .er 2 rest5 ns5) F w _ _
                first | rw [← HV.out.2.2.2.2.1, ← HBS.out, if_pos rfl] | rw [← HBS.out, if_pos rfl]
                exact ⟨_, k6 + 1, F6, rfl, HLR.out.2.2.2.1, HU.out.1, HU.out.2, HL.out⟩
              | succ j =>
                replace hs9 := hs9.trans (show Value.int .i64 (((j + 1 : Nat) : Int) - 1) = Value.int .i64 (j : Int) by congr 1; omega)
                subst hs9
                have hjl : j < l.length := hLR.le
                have hlen := HLR.out.2.2.2.2
                have hwj : wrap64 ((j : Int) - 1) = (j : Int) - 1 := by unfold wrap64; omega
                obtain ⟨b, o, u0, u1, u2, u3, u4, u5, hbs, hbX, h6, hli, hix⟩ := hLR.lw.1.look hjl
                obtain ⟨t0, t1, t2, t3, t4, ta, tl', tc, hv⟩ := Lv.shape hli
                simp only [Value.agg.injEq, Array.mk.injEq, List.cons.injEq, and_true] at hv
                obtain ⟨rfl, rfl, rfl, rfl, rfl, rfl⟩ := hv
                have hbr : b ≠ r1 := fun e => hbX (Or.inr (by rw [e]; exact HS.out.2.2.2.2.2.2))
                have SC := Lib.hid (fun (w' : World) (hk : Keep (fun i => i = r1) wr w') => (h6.keep (X := fun i => i = r1) hk hbr))
                have hdr : Below wr.heap.size wr wr.drew := kp.bdr wr
                obtain ⟨wd, hwd⟩ : ∃ wd, wd = wr.drew := ⟨_, rfl⟩
                rw [← hwd] at hdr
                have HWD := Lib.hid hwd
                have hq1 := (hdr.block r1 (Nw.lt hLR.c1)).trans hLR.c1
                have hix' := hix vc
                have HX := Lib.hid (And.intro hLR (And.intro hli (And.intro hjl (And.intro hdr hq1))))
                clear hLR hli h6 hix hbX hbs hdr hlen hwd
                go_upto_region 14 with fail
                refine wp_region_noPanic ?_
                refine wp_region_held_drew (S := (fun w' => lie.Six w' b o (.int .i64 t0) (.string t1) (.int .i64 t2) (.int .u64 t3) (.int .u64 t4) (.slice ta tl' tc))) (by kernel_rfl) ?_ (fun hHeld => ?_)
                · (try dsimp only); exact SC.out _ (Keep.of_below (kp.bdr _))
                refine wpAnyH_take (i := 0) (v := ?_) rfl (by kernel_rfl) (by kernel_rfl) (by kernel_rfl) (fun _ _ _ h => h) (Or.inl ⟨by rfl, ?_⟩) (by assumption) ?_
                rotate_left
                · (intro w hSw; (try dsimp only at hSw); (obtain ⟨s0, s1, s2, s3, s4, s5⟩ := hSw); go_simp; first | done | with_reducible rfl)
                try simp only [Act.put, List.getElem_toArray, List.getElem_cons_zero, List.getElem_cons_succ, List.setIfInBounds_toArray, List.set_cons_zero, List.set_cons_succ]
                refine wpAnyH_take (i := 1) (v := ?_) rfl (by kernel_rfl) (by kernel_rfl) (by kernel_rfl) (fun _ _ _ h => h) (Or.inl ⟨by rfl, ?_⟩) (by assumption) ?_
                rotate_left
                · (intro w hSw; (try dsimp only at hSw); (obtain ⟨s0, s1, s2, s3, s4, s5⟩ := hSw); go_simp; first | done | with_reducible rfl)
                try simp only [Act.put, List.getElem_toArray, List.getElem_cons_zero, List.getElem_cons_succ, List.setIfInBounds_toArray, List.set_cons_zero, List.set_cons_succ]
                refine wpAnyH_take (i := 2) (v := ?_) rfl (by kernel_rfl) (by kernel_rfl) (by kernel_rfl) (fun _ _ _ h => h) (Or.inl ⟨by rfl, ?_⟩) (by assumption) ?_
                rotate_left
                · (intro w hSw; (try dsimp only at hSw); (obtain ⟨s0, s1, s2, s3, s4, s5⟩ := hSw); go_simp; first | done | with_reducible rfl)
                try simp only [Act.put, List.getElem_toArray, List.getElem_cons_zero, List.getElem_cons_succ, List.setIfInBounds_toArray, List.set_cons_zero, List.set_cons_succ]
                refine wpAnyH_take (i := 3) (v := ?_) rfl (by kernel_rfl) (by kernel_rfl) (by kernel_rfl) (fun _ _ _ h => h) (Or.inl ⟨by rfl, ?_⟩) (by assumption) ?_
                rotate_left
                · (intro w hSw; (try dsimp only at hSw); (obtain ⟨s0, s1, s2, s3, s4, s5⟩ := hSw); go_simp; first | done | with_reducible rfl)
                try simp only [Act.put, List.getElem_toArray, List.getElem_cons_zero, List.getElem_cons_succ, List.setIfInBounds_toArray, List.set_cons_zero, List.set_cons_succ]
                rw [← HWD.out]
                obtain ⟨⟨a0, a1, a2, a3, a4, a5⟩, -⟩ := six hq1
                refine wpAnyH_ready (rs := [4]) (by kernel_rfl) (by simp) ?_
                refine AllReadyH.cons rfl (fun K hK => ?_) AllReadyH.nil
                go_simp
                refine hK.out _ _ ?_ (fun hHeld => ?_)
                · (try dsimp only); exact SC.out _ (Keep.of_below HX.out.2.2.2.1)
                clear hK K
                try simp only [Act.put, List.getElem_toArray, List.getElem_cons_zero, List.getElem_cons_succ, List.setIfInBounds_toArray, List.set_cons_zero, List.set_cons_succ]
                clear a0 a1 a2 a3 a4 a5 hq1
                refine wpAnyH_ready (rs := [5]) (by kernel_rfl) (by simp) ?_
                refine AllReadyH.cons rfl (fun K hK => ?_) AllReadyH.nil
                go_simp
                have hbA := kp.ba wd (.cells #[.int .i64 t0, .string t1, .int .i64 t2, .int .u64 t3, .int .u64 t4, .slice ta tl' tc, .int .i64 m0, .string m1, .int .i64 m2, .int .u64 m3, .int .u64 m4, .slice xa' xl' xc'] 27)
                obtain ⟨wA, hwA⟩ : ∃ wA, wA = wd.alloc (.cells #[.int .i64 t0, .string t1, .int .i64 t2, .int .u64 t3, .int .u64 t4, .slice ta tl' tc, .int .i64 m0, .string m1, .int .i64 m2, .int .u64 m3, .int .u64 m4, .slice xa' xl' xc'] 27) := ⟨_, rfl⟩
                rw [← hwA] at hbA
                try rw [← hwA]
                have hRow := row2 (Nx.lv (Nx.below HX.out.2.2.2.1) HX.out.2.1) (Nx.lv (Nx.below HX.out.2.2.2.1) HX.out.1.lv) (HX.out.1.st.below HX.out.2.2.2.1).lt (Nat.le_trans HX.out.1.sz HX.out.2.2.2.1.size)
                rw [← hwA] at hRow
                have hbA2 := HX.out.2.2.2.1.trans (hbA.mono HX.out.2.2.2.1.size)
                have HA := Lib.hid (And.intro hbA2 hRow)
                refine hK.out _ _ ?_ (fun hHeld => ?_)
                · (try dsimp only); exact SC.out _ (Keep.of_below HA.out.1)
                clear hK K hbA hRow hbA2 hwA
                try simp only [Act.put, List.getElem_toArray, List.getElem_cons_zero, List.getElem_cons_succ, List.setIfInBounds_toArray, List.set_cons_zero, List.set_cons_succ]
                refine wpAnyH_ready (rs := [6]) (by kernel_rfl) (by simp) ?_
                refine AllReadyH.cons rfl (fun K hK => ?_) AllReadyH.nil
                go_simp
                refine (compound_any [46] (some ⟨wd.heap.size, 0, none⟩) 2 2 wA).mono ?_
                rintro ee wC ⟨rfl, bC⟩
                have hbC := HA.out.1.trans (bC.mono HA.out.1.size)
                have hqC := (hbC.block r1 (Nw.lt HX.out.1.c1)).trans HX.out.1.c1
                have HC9 := Lib.hid (And.intro hbC (Nx.lw (Nx.below bC) HA.out.2))
                go_wp2_with fail
                refine hK.out _ _ ?_ (fun hHeld => ?_)
                · (try dsimp only); exact SC.out _ (Keep.of_below HC9.out.1)
                clear hK K bC hbC
                try simp only [Act.put, List.getElem_toArray, List.getElem_cons_zero, List.getElem_cons_succ, List.setIfInBounds_toArray, List.set_cons_zero, List.set_cons_succ]
                unfold tmV
                obtain ⟨⟨z0, z1, z2, z3, z4, z5⟩, y0, y1, y2, y3, y4, y5⟩ := six hqC
                have hlz := Nw.lt hqC
                obtain ⟨U, hU, hNU⟩ := fin6 hqC (.int .i64 5) (.string ⟨#[46]⟩) (.int .i64 0) (.int .u64 0) (.int .u64 0) (.slice (some ⟨wd.heap.size, 0, none⟩) 2 2)
                have HNU := Lib.hid hNU
                refine wpAnyH_ready (rs := [7]) (by kernel_rfl) (by simp) ?_
                refine AllReadyH.cons rfl (fun K hK => ?_) AllReadyH.nil
                go_simp
                go_wp2_with fail
                refine hK.out _ _ ?_ (fun hHeld => ?_)
                · (try dsimp only); exact SC.out _ ((Keep.of_below HC9.out.1).trans HNU.out.2 fun _ => Or.inl)
                clear hK K hqC z0 z1 z2 z3 z4 z5 y0 y1 y2 y3 y4 y5 hU hNU hlz
                try simp only [Act.put, List.getElem_toArray, List.getElem_cons_zero, List.getElem_cons_succ, List.setIfInBounds_toArray, List.set_cons_zero, List.set_cons_succ]
                refine wpAnyH_done (by kernel_rfl) ?_ _
                refine NoPanic.normal ?_
                go_wp2_with fail
                go_roundg j
                case measure => have := HGJ.out; omega
                case rel =>
                  have hrC := (HC9.out.1.block r0 (Nw.lt HX.out.1.c0)).trans HX.out.1.c0
                  have hr01 : r0 ≠ r1 := by have := HWW.out.2.2.2.2.2; omega
                  have hS9 := St.set H.out.1 (HX.out.1.st.below HC9.out.1) (HX.out.1.nx.trans (Nx.below HC9.out.1)) (by have := HWW.out.2.2.2.2.2; have := HW.out.1; omega) HLR.out.2.2.1 HNU.out
                  refine ⟨j, 5, ⟨#[46]⟩, 0, 0, 0, some ⟨wd.heap.size, 0, none⟩, 2, 2, rfl, by first | rfl | exact congrArg (Value.int .i64) hwj, hS9.1, hS9.2, HNU.out.1, (HNU.out.2.block r0 (Nw.lt hrC) hr01).trans hrC, (Nx.lw (Nx.below HC9.out.1) HX.out.1.lw).set HS.out.2.2.2.2.2.2 HNU.out, ?_, by have := HX.out.2.2.1; omega, by have := HX.out.1.sz; have := HC9.out.1.size; have := HNU.out.2.size; omega⟩
                  rw [listOf_drop HX.out.2.2.1]
                  exact (HC9.out.2.set HS.out.2.2.2.2.2.2 HNU.out).comp (n := [46]) (by decide)
      | false =>
        rw [if_neg (by decide)] at hS5
        rw [if_neg (by decide)] at HGL
        have hr4 := hr5.1.trans HS.out.2.2.2.2.1
        have hq4 := hq5.1.trans HS.out.2.2.2.2.2.1
        obtain ⟨e, he⟩ : ∃ e, e = listE := ⟨_, rfl⟩
        rw [← he] at HGL
        have hLe : Lv F' w3.heap.size w5 e (.agg #[.int .i64 2, .string ⟨#[91, 93]⟩, .int .i64 0, .int .u64 0, .int .u64 0, .slice none 0 0]) := by
          rw [he]; exact leaf_any (n := [91, 93]) ⟨by omega, by omega, by decide, by omega, by omega, by omega, by omega, by omega, by omega, by omega, by omega⟩ _ _
        have HSV := Lib.hid (Nat.le_trans HKK.out.2.1 hN5.keep.size)
        have HV := Lib.hid (And.intro (And.intro hS5 (HS.out.2.1.trans hN5)) (And.intro hr4 (And.intro hr5.2 (And.intro hq5.2 (And.intro HKK.out.2.2 (And.intro hLe (And.intro (hN5.lw HS.out.1) hq4)))))))
        clear hS5 hN5 hd5 hr5 hq5 hr4 hq4 hLe he
        have HPC := Lib.hid (passes_st HV.out.1.1 93)
        obtain ⟨bs, hbs⟩ : ∃ bs, bs = isP (see N (all.drop k') 0) 93 := ⟨_, rfl⟩
        have HBS := Lib.hid hbs
        rw [← hbs] at HPC
        clear hbs
        go_wp2_with fail
        refine HPC.out.mono ?_; rintro ee w7 ⟨rfl, hS7, hN7, hd7⟩
        have hr := hN7.block (Nw.lt HV.out.2.1) HV.out.2.2.1
        have hq := hN7.block (Nw.lt HV.out.2.2.2.2.2.2.2) HV.out.2.2.2.1
        have hr4 := hr.1.trans HV.out.2.1
        have hq4 := hq.1.trans HV.out.2.2.2.2.2.2.2
        cases bs with
        | false =>
          rw [if_neg (by decide)] at hS7
          obtain ⟨⟨z0, z1, z2, z3, z4, z5⟩, y0, y1, y2, y3, y4, y5⟩ := six hr4
          have hlz := Nw.lt hr4
          obtain ⟨U, hU, hNU⟩ := fin6 hr4 (.int .i64 0) (.string ⟨#[]⟩) (.int .i64 0) (.int .u64 0) (.int .u64 0) (.slice none 0 0)
          obtain ⟨⟨q0, q1, q2, q3, q4, q5⟩, -⟩ := six hNU.1
          have HU := Lib.hid (St.set H.out.1 hS7 (HV.out.1.2.trans hN7) (by rw [HW.out.1]; exact Nat.le_refl _) hr.2 hNU)
          clear hr hq hr4 hq4 hNU hS7 hN7 hd7
          go_wp2_with fail
          refine bodyPost_ret (v := .tuple #[Z0, .int .i64 2]) (by simp [results, Tryz.results131, go_sem, q0, q1, q2, q3, q4, q5, Z0, tmV]) rfl ?_
          refine HGL.out _ _ ?_
          show PE p m tv tp FT N all tl (if isP (see N (all.drop k') 0) 93 = true then .ok (listOf l e) ((all.drop k')).tail ns' else .er 2 (all.drop k') ns') F w _ _
          first | rw [← HV.out.2.2.2.2.1, ← HBS.out, if_neg (by decide)] | rw [← HBS.out, if_neg (by decide)]
          exact ⟨rfl, by decide, k', F', rfl, HU.out.1, HU.out.2⟩
        | true =>
          rw [if_pos rfl] at hS7
          have hlen : l.length ≤ 9223372036854775807 := Nat.le_trans HS.out.1.2.1 HS.out.1.2.2
          have hwl : wrap64 ((l.length : Int) - 1) = (l.length : Int) - 1 := by unfold wrap64; omega
          have hLR : LR p m tv tp FT N all tl (k' + 1) ns' F w F' w3.heap.size r0 r1 l e va vc l.length w7 (.int .i64 2) (.string ⟨#[91, 93]⟩) (.int .i64 0) (.int .u64 0) (.int .u64 0) (.slice none 0 0) :=
            ⟨hS7, HV.out.1.2.trans hN7, hq4, hr4, hN7.lw HV.out.2.2.2.2.2.2.1, by rw [List.drop_length]; exact hN7.lv HV.out.2.2.2.2.2.1, Nat.le_refl _, Nat.le_trans HSV.out hN7.keep.size⟩
          have HLR := Lib.hid (And.intro hLR (And.intro hr.2 (And.intro hq.2 (And.intro (hd7 rfl) hlen))))
          clear hr hq hr4 hq4 hS7 hN7 hd7 hlen hLR
          go_wp2_with fail
          go_loopg [9] l.length (LRel p m tv tp FT N all tl (k' + 1) ns' F w F' w3.heap.size r0 r1 l e va vc)
          case atStart => exact ⟨_, _, _, _, _, _, _, _, _, rfl, by first | rfl | exact congrArg (Value.int .i64) hwl, HLR.out.1⟩
          case round =>
            obtain ⟨jj, m0, m1, m2, m3, m4, xa', xl', xc', hgj, hs9, hLR⟩ := hrel
            have HGJ := Lib.hid hgj
            clear hwl hgj
            cases jj with
            | zero =>
              obtain rfl : _ = Value.int .i64 (-1) := hs9
              obtain ⟨⟨a0, a1, a2, a3, a4, a5⟩, -⟩ := six hLR.c1
              obtain ⟨⟨z0, z1, z2, z3, z4, z5⟩, y0, y1, y2, y3, y4, y5⟩ := six hLR.c0
              have hlz := Nw.lt hLR.c0
              obtain ⟨U, hU, hNU⟩ := fin6 hLR.c0 (.int .i64 m0) (.string m1) (.int .i64 m2) (.int .u64 m3) (.int .u64 m4) (.slice xa' xl' xc')
              obtain ⟨⟨q0, q1, q2, q3, q4, q5⟩, -⟩ := six hNU.1
              have HU := Lib.hid (St.set H.out.1 hLR.st hLR.nx (by rw [HW.out.1]; exact Nat.le_refl _) HLR.out.2.1 hNU)
              have hL9 : Lv F' w3.heap.size wr (listOf l e) _ := hLR.lv
              have HL := Lib.hid (Lv.mono (B' := w.heap.size) (hL9.set (by have := HWW.out.2.2.2.2.2; have := HS.out.2.2.2.2.2.2; omega) hNU) (by have := H3.out.2.1.keep.size; omega))
              clear hLR hNU hL9
              go_wp2_with fail
              refine bodyPost_ret (v := .tuple #[.agg #[.int .i64 m0, .string m1, .int .i64 m2, .int .u64 m3, .int .u64 m4, .slice xa' xl' xc'], .int .i64 0]) (by simp [results, Tryz.results131, go_sem, q0, q1, q2, q3, q4, q5]) rfl ?_
              refine HGL.out _ _ ?_
              show PE p m tv tp FT N all tl (if isP (see N (all.drop k') 0) 93 = true then .ok (listOf l e) ((all.drop k')).tail ns' else .er 2 (all.drop k') ns') F w _ _
              first | rw [← HV.out.2.2.2.2.1, ← HBS.out, if_pos rfl] | rw [← HBS.out, if_pos rfl]
              exact ⟨_, k' + 1, F', rfl, HLR.out.2.2.2.1, HU.out.1, HU.out.2, HL.out⟩
            | succ j =>
              replace hs9 := hs9.trans (show Value.int .i64 (((j + 1 : Nat) : Int) - 1) = Value.int .i64 (j : Int) by congr 1; omega)
              subst hs9
              have hjl : j < l.length := hLR.le
              have hlen := HLR.out.2.2.2.2
              have hwj : wrap64 ((j : Int) - 1) = (j : Int) - 1 := by unfold wrap64; omega
              obtain ⟨b, o, u0, u1, u2, u3, u4, u5, hbs, hbX, h6, hli, hix⟩ := hLR.lw.1.look hjl
              obtain ⟨t0, t1, t2, t3, t4, ta, tl', tc, hv⟩ := Lv.shape hli
              simp only [Value.agg.injEq, Array.mk.injEq, List.cons.injEq, and_true] at hv
              obtain ⟨rfl, rfl, rfl, rfl, rfl, rfl⟩ := hv
              have hbr : b ≠ r1 := fun e => hbX (Or.inr (by rw [e]; exact HS.out.2.2.2.2.2.2))
              have SC := Lib.hid (fun (w' : World) (hk : Keep (fun i => i = r1) wr w') => (h6.keep (X := fun i => i = r1) hk hbr))
              have hdr : Below wr.heap.size wr wr.drew := kp.bdr wr
              obtain ⟨wd, hwd⟩ : ∃ wd, wd = wr.drew := ⟨_, rfl⟩
              rw [← hwd] at hdr
              have HWD := Lib.hid hwd
              have hq1 := (hdr.block r1 (Nw.lt hLR.c1)).trans hLR.c1
              have hix' := hix vc
              have HX := Lib.hid (And.intro hLR (And.intro hli (And.intro hjl (And.intro hdr hq1))))
              clear hLR hli h6 hix hbX hbs hdr hlen hwd
              go_upto_region 14 with fail
              refine wp_region_noPanic ?_
              refine wp_region_held_drew (S := (fun w' => lie.Six w' b o (.int .i64 t0) (.string t1) (.int .i64 t2) (.int .u64 t3) (.int .u64 t4) (.slice ta tl' tc))) (by kernel_rfl) ?_ (fun hHeld => ?_)
              · (try dsimp only); exact SC.out _ (Keep.of_below (kp.bdr _))
              refine wpAnyH_take (i := 0) (v := ?_) rfl (by kernel_rfl) (by kernel_rfl) (by kernel_rfl) (fun _ _ _ h => h) (Or.inl ⟨by rfl, ?_⟩) (by assumption) ?_
              rotate_left
              · (intro w hSw; (try dsimp only at hSw); (obtain ⟨s0, s1, s2, s3, s4, s5⟩ := hSw); go_simp; first | done | with_reducible rfl)
              try simp only [Act.put, List.getElem_toArray, List.getElem_cons_zero, List.getElem_cons_succ, List.setIfInBounds_toArray, List.set_cons_zero, List.set_cons_succ]
              refine wpAnyH_take (i := 1) (v := ?_) rfl (by kernel_rfl) (by kernel_rfl) (by kernel_rfl) (fun _ _ _ h => h) (Or.inl ⟨by rfl, ?_⟩) (by assumption) ?_
              rotate_left
              · (intro w hSw; (try dsimp only at hSw); (obtain ⟨s0, s1, s2, s3, s4, s5⟩ := hSw); go_simp; first | done | with_reducible rfl)
              try simp only [Act.put, List.getElem_toArray, List.getElem_cons_zero, List.getElem_cons_succ, List.setIfInBounds_toArray, List.set_cons_zero, List.set_cons_succ]
              refine wpAnyH_take (i := 2) (v := ?_) rfl (by kernel_rfl) (by kernel_rfl) (by kernel_rfl) (fun _ _ _ h => h) (Or.inl ⟨by rfl, ?_⟩) (by assumption) ?_
              rotate_left
              · (intro w hSw; (try dsimp only at hSw); (obtain ⟨s0, s1, s2, s3, s4, s5⟩ := hSw); go_simp; first | done | with_reducible rfl)
              try simp only [Act.put, List.getElem_toArray, List.getElem_cons_zero, List.getElem_cons_succ, List.setIfInBounds_toArray, List.set_cons_zero, List.set_cons_succ]
              refine wpAnyH_take (i := 3) (v := ?_) rfl (by kernel_rfl) (by kernel_rfl) (by kernel_rfl) (fun _ _ _ h => h) (Or.inl ⟨by rfl, ?_⟩) (by assumption) ?_
              rotate_left
              · (intro w hSw; (try dsimp only at hSw); (obtain ⟨s0, s1, s2, s3, s4, s5⟩ := hSw); go_simp; first | done | with_reducible rfl)
              try simp only [Act.put, List.getElem_toArray, List.getElem_cons_zero, List.getElem_cons_succ, List.setIfInBounds_toArray, List.set_cons_zero, List.set_cons_succ]
              rw [← HWD.out]
              obtain ⟨⟨a0, a1, a2, a3, a4, a5⟩, -⟩ := six hq1
              refine wpAnyH_ready (rs := [4]) (by kernel_rfl) (by simp) ?_
              refine AllReadyH.cons rfl (fun K hK => ?_) AllReadyH.nil
              go_simp
              refine hK.out _ _ ?_ (fun hHeld => ?_)
              · (try dsimp only); exact SC.out _ (Keep.of_below HX.out.2.2.2.1)
              clear hK K
              try simp only [Act.put, List.getElem_toArray, List.getElem_cons_zero, List.getElem_cons_succ, List.setIfInBounds_toArray, List.set_cons_zero, List.set_cons_succ]
              clear a0 a1 a2 a3 a4 a5 hq1
              refine wpAnyH_ready (rs := [5]) (by kernel_rfl) (by simp) ?_
              refine AllReadyH.cons rfl (fun K hK => ?_) AllReadyH.nil
              go_simp
              have hbA := kp.ba wd (.cells #[.int .i64 t0, .string t1, .int .i64 t2, .int .u64 t3, .int .u64 t4, .slice ta tl' tc, .int .i64 m0, .string m1, .int .i64 m2, .int .u64 m3, .int .u64 m4, .slice xa' xl' xc'] 27)
              obtain ⟨wA, hwA⟩ : ∃ wA, wA = wd.alloc (.cells #[.int .i64 t0, .string t1, .int .i64 t2, .int .u64 t3, .int .u64 t4, .slice ta tl' tc, .int .i64 m0, .string m1, .int .i64 m2, .int .u64 m3, .int .u64 m4, .slice xa' xl' xc'] 27) := ⟨_, rfl⟩
              rw [← hwA] at hbA
              try rw [← hwA]
              have hRow := row2 (Nx.lv (Nx.below HX.out.2.2.2.1) HX.out.2.1) (Nx.lv (Nx.below HX.out.2.2.2.1) HX.out.1.lv) (HX.out.1.st.below HX.out.2.2.2.1).lt (Nat.le_trans HX.out.1.sz HX.out.2.2.2.1.size)
              rw [← hwA] at hRow
              have hbA2 := HX.out.2.2.2.1.trans (hbA.mono HX.out.2.2.2.1.size)
              have HA := Lib.hid (And.intro hbA2 hRow)
              refine hK.out _ _ ?_ (fun hHeld => ?_)
              · (try dsimp only); exact SC.out _ (Keep.of_below HA.out.1)
              clear hK K hbA hRow hbA2 hwA
              try simp only [Act.put, List.getElem_toArray, List.getElem_cons_zero, List.getElem_cons_succ, List.setIfInBounds_toArray, List.set_cons_zero, List.set_cons_succ]
              refine wpAnyH_ready (rs := [6]) (by kernel_rfl) (by simp) ?_
              refine AllReadyH.cons rfl (fun K hK => ?_) AllReadyH.nil
              go_simp
              refine (compound_any [46] (some ⟨wd.heap.size, 0, none⟩) 2 2 wA).mono ?_
              rintro ee wC ⟨rfl, bC⟩
              have hbC := HA.out.1.trans (bC.mono HA.out.1.size)
              have hqC := (hbC.block r1 (Nw.lt HX.out.1.c1)).trans HX.out.1.c1
              have HC9 := Lib.hid (And.intro hbC (Nx.lw (Nx.below bC) HA.out.2))
              go_wp2_with fail
              refine hK.out _ _ ?_ (fun hHeld => ?_)
              · (try dsimp only); exact SC.out _ (Keep.of_below HC9.out.1)
              clear hK K bC hbC
              try simp only [Act.put, List.getElem_toArray, List.getElem_cons_zero, List.getElem_cons_succ, List.setIfInBounds_toArray, List.set_cons_zero, List.set_cons_succ]
              unfold tmV
              obtain ⟨⟨z0, z1, z2, z3, z4, z5⟩, y0, y1, y2, y3, y4, y5⟩ := six hqC
              have hlz := Nw.lt hqC
              obtain ⟨U, hU, hNU⟩ := fin6 hqC (.int .i64 5) (.string ⟨#[46]⟩) (.int .i64 0) (.int .u64 0) (.int .u64 0) (.slice (some ⟨wd.heap.size, 0, none⟩) 2 2)
              have HNU := Lib.hid hNU
              refine wpAnyH_ready (rs := [7]) (by kernel_rfl) (by simp) ?_
              refine AllReadyH.cons rfl (fun K hK => ?_) AllReadyH.nil
              go_simp
              go_wp2_with fail
              refine hK.out _ _ ?_ (fun hHeld => ?_)
              · (try dsimp only); exact SC.out _ ((Keep.of_below HC9.out.1).trans HNU.out.2 fun _ => Or.inl)
              clear hK K hqC z0 z1 z2 z3 z4 z5 y0 y1 y2 y3 y4 y5 hU hNU hlz
              try simp only [Act.put, List.getElem_toArray, List.getElem_cons_zero, List.getElem_cons_succ, List.setIfInBounds_toArray, List.set_cons_zero, List.set_cons_succ]
              refine wpAnyH_done (by kernel_rfl) ?_ _
              refine NoPanic.normal ?_
              go_wp2_with fail
              go_roundg j
              case measure => have := HGJ.out; omega
              case rel =>
                have hrC := (HC9.out.1.block r0 (Nw.lt HX.out.1.c0)).trans HX.out.1.c0
                have hr01 : r0 ≠ r1 := by have := HWW.out.2.2.2.2.2; omega
                have hS9 := St.set H.out.1 (HX.out.1.st.below HC9.out.1) (HX.out.1.nx.trans (Nx.below HC9.out.1)) (by have := HWW.out.2.2.2.2.2; have := HW.out.1; omega) HLR.out.2.2.1 HNU.out
                refine ⟨j, 5, ⟨#[46]⟩, 0, 0, 0, some ⟨wd.heap.size, 0, none⟩, 2, 2, rfl, by first | rfl | exact congrArg (Value.int .i64) hwj, hS9.1, hS9.2, HNU.out.1, (HNU.out.2.block r0 (Nw.lt hrC) hr01).trans hrC, (Nx.lw (Nx.below HC9.out.1) HX.out.1.lw).set HS.out.2.2.2.2.2.2 HNU.out, ?_, by have := HX.out.2.2.1; omega, by have := HX.out.1.sz; have := HC9.out.1.size; have := HNU.out.2.size; omega⟩
                rw [listOf_drop HX.out.2.2.1]
                exact (HC9.out.2.set HS.out.2.2.2.2.2.2 HNU.out).comp (n := [46]) (by decide)
end
end Go.Proofs.YtedbcmagjbgbjaaGreatDoor.rd
