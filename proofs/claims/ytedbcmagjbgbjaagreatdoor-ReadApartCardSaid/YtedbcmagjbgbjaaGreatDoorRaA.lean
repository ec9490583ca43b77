/- The project's reader: All. -/
import Derived.Test.YtedbcmagjbgbjaaGreatDoorRdY
namespace Go.Proofs.YtedbcmagjbgbjaaGreatDoor.rd
open Go.ChangeShapes Go.WideShapes Go.ChangeAt Go.RowKit Go.Maps
open Go.Proofs.YtedbcmagjbgbjaaGreatDoor.kp Go.Proofs.YtedbcmagjbgbjaaGreatDoor.num Go.Proofs.YtedbcmagjbgbjaaGreatDoor.dec Go.Proofs.YtedbcmagjbgbjaaGreatDoor.tk
set_option linter.unusedVariables false
set_option linter.unusedSimpArgs false
section
variable {w w' w0 w1 w2 : World} {p m tp N k : Nat} {tv : Value} {all : List Tk} {tl : List opa.D} {ns : Names} {F F' FT : Nat → Prop} {rec : Rec} {f : Nat}
abbrev Cl3 := tm.Tm × Names × Nat
/-- a clause's eight values -/
def CLv (Z : Nat → Prop) (B : Nat) (w : World) (c : Cl3) (x : List Value) : Prop :=
  ∃ (v0 : Int) (v1 : ByteArray) (v2 v3 v4 : Int) (xa : Option Addr) (xl xc : Nat) (na : Option Addr) (nc : Nat),
    x = [.int .i64 v0, .string v1, .int .i64 v2, .int .u64 v3, .int .u64 v4, .slice xa xl xc, .slice na c.2.1.length nc, .int .i64 (c.2.2 : Int)] ∧
    lie.Lies Z w c.1 (.agg #[.int .i64 v0, .string v1, .int .i64 v2, .int .u64 v3, .int .u64 v4, .slice xa xl xc]) ∧
    w.ownsRow B 9 1 (.slice na c.2.1.length nc) c.2.1.length (c.2.1.map sv) ∧ (∀ i, (Value.slice na c.2.1.length nc).ownBlock = some i → ¬ Z i)
theorem CLv.keep {Z Z' G : Nat → Prop} {B : Nat} {c : Cl3} {x : List Value} (h : CLv Z B w c x) (hk : Keep G w w') (hG : ∀ i, G i → Z i) (hZ : ∀ b, b < w.heap.size → Z' b → Z b) : CLv Z' B w' c x := by
  obtain ⟨v0, v1, v2, v3, v4, xa, xl, xc, na, nc, rfl, hl, hr, hb⟩ := h
  refine ⟨v0, v1, v2, v3, v4, xa, xl, xc, na, nc, rfl, lie.Lies.keep (hk.mono hG) hZ _ _ hl, ow_keep hr fun i e => hk.block i (hr.lt i e).2 (fun hg => hb i e (hG i hg)), fun i e hz => hb i e (hZ i (hr.lt i e).2 hz)⟩
/-- a row of clauses of one's own -/
def AC (B : Nat) (l : List Cl3) (v : Value) (w : World) : Prop :=
  ∃ xs : List Value, w.ownsRow B 54 8 v l.length xs ∧ ∀ (m : Nat) (hm : m < l.length), CLv (fun k => k < B ∨ v.ownBlock = some k) B w l[m] ((xs.drop (m * 8)).take 8)
theorem AC.nil (B : Nat) (w : World) : AC B [] (.slice none 0 0) w := ⟨[], World.ownsRow_nil _ _ _ _, fun m hm => by simp at hm⟩
theorem AC.keep {B : Nat} {l : List Cl3} {v : Value} {G : Nat → Prop} (h : AC B l v w) (hk : Keep G w w') (hG : ∀ i, G i → i < B) : AC B l v w' := by
  obtain ⟨xs, ho, hx⟩ := h
  exact ⟨xs, ow_keep ho fun i e => hk.block i (ho.lt i e).2 (fun hg => by have := hG i hg; have := (ho.lt i e).1; omega), fun m hm => (hx m hm).keep hk (fun i hi => Or.inl (hG i hi)) fun _ _ => id⟩
theorem AC.below {B : Nat} {l : List Cl3} {v : Value} (h : AC B l v w) (b : Below w.heap.size w w') : AC B l v w' := h.keep (Keep.of_below (F := fun _ => False) b) fun _ h => h.elim
theorem AC.shape {B : Nat} {l : List Cl3} {v : Value} (h : AC B l v w) : ∃ a c, v = .slice a l.length c := by obtain ⟨xs, ho, -⟩ := h; exact kp.shape ho
theorem AC.add {B g' c' : Nat} {l : List Cl3} {c : Cl3} {v : Value} {o : Obj} {w4 : World} {x xs : List Value} (hx : ∀ (m : Nat) (hm : m < l.length), CLv (fun k => k < B ∨ v.ownBlock = some k) B w l[m] ((xs.drop (m * 8)).take 8)) (ho : w.ownsRow B 54 8 v l.length xs)
    (hc : CLv (fun k => k < B ∨ v.ownBlock = some k) B w c x) (hx8 : x.length = 8) (ho4 : w4.ownsRow B 54 8 (.slice (some ⟨g', 0, none⟩) (l.length + 1) c') (l.length + 1) (xs ++ x))
    (hg4 : (w.alloc o).grownBy w4 v.ownBlock) (ha : v.ownBlock = some g' ∨ w.heap.size ≤ g') : AC B (l ++ [c]) (.slice (some ⟨g', 0, none⟩) (l.length + 1) c') w4 ∧ Keep (fun k => v.ownBlock = some k) w w4 := by
  have hk : Keep (fun k => v.ownBlock = some k) w w4 := (Keep.of_below (F := fun k => v.ownBlock = some k) (kp.ba w o)).trans (Keep.of_grown (F := fun k => v.ownBlock = some k) hg4 fun k e => e) fun _ => Or.inl
  have hsub : ∀ b, b < w.heap.size → (b < B ∨ (Value.slice (some ⟨g', 0, none⟩) (l.length + 1) c').ownBlock = some b) → (b < B ∨ v.ownBlock = some b) := fun b hb e => by
    rcases e with e | e
    · exact Or.inl e
    simp only [Value.ownBlock, Option.some.injEq] at e
    subst e
    exact ha.elim Or.inr fun h => by omega
  have hxl : xs.length = l.length * 8 := ho.1
  refine ⟨⟨xs ++ x, by simpa using ho4, fun m hm => ?_⟩, hk⟩
  simp only [List.length_append, List.length_singleton] at hm
  by_cases hml : m < l.length
  · rw [List.getElem_append_left hml]
    have e : ((xs ++ x).drop (m * 8)).take 8 = (xs.drop (m * 8)).take 8 := by
      rw [List.drop_append_of_le_length (by omega), List.take_append_of_le_length (by rw [List.length_drop]; omega)]
    rw [e]
    exact (hx m hml).keep hk (fun i hi => Or.inr hi) hsub
  · have hm' : m = l.length := by omega
    subst hm'
    have e : ((xs ++ x).drop (l.length * 8)).take 8 = x := by
      rw [← hxl, List.drop_left, List.take_of_length_le (by omega)]
    rw [e]
    simpa using hc.keep hk (fun i hi => Or.inr hi) hsub
theorem CP.turn {k0 : Nat} {G : Nat → Prop} (h0 : CP p tv tp FT N all tl k0 w0) (h : CP p tv tp FT N all tl k w) (K : Keep G w w') (hG : ∀ i, G i → w0.heap.size ≤ i ∧ i ≠ p) : CP p tv tp FT N all tl k w' := by
  obtain ⟨mp, nv, hp⟩ := h.rd
  refine ⟨⟨mp, nv, (K.block p (Nw.lt hp) (fun e => (hG p e).2 rfl)).trans hp⟩, ⟨ow_keep h.env.toks fun i e => K.block i (h.env.toks.lt i e).2 (fun e2 => ?_), h0.env.toff, h.env.tab.keep K (fun i hi e2 => ?_), h0.env.tabo, h.env.srt, h.env.len, h.env.pri⟩, h.kle, h.ale, h.ok⟩
  · have := (h0.env.toks.lt i e).2; have := (hG i e2).1; omega
  · have := h0.env.tab.lt i hi; have := (hG i e2).1; omega
/-- read.All of a text -/
def readA (tl : List opa.D) (S : List UInt8) : List Cl3 × Nat × Int := if (allT S).2.2 ≠ 0 then ([], (allT S).2.1, (allT S).2.2) else allOf true (OTof tl) S.length ((allT S).1.length + 1) [] (allT S).1
def AE (R : List Cl3 × Nat × Int) (w : World) (e : Ending) (w' : World) : Prop :=
  ∃ a c, e = .returned (.tuple #[.slice a R.1.length c, .int .i64 (R.2.1 : Int), .int .i64 R.2.2]) ∧ Below w.heap.size w w' ∧ (∃ B, w.heap.size ≤ B ∧ AC B R.1 (.slice a R.1.length c) w')
theorem info_cl : ∃ i, Tryz.prog.info? 54 = some i ∧ i.zero = some ZC ∧ i.size = 8 ∧ i.bytes = 104 := by
  refine info_of ?_
  kernel_rfl
def ARl (p : Nat) (tv : Value) (tp : Nat) (FT : Nat → Prop) (N : Nat) (all : List Tk) (tl : List opa.D) (B : Nat) (w : World) (R : List Cl3 × Nat × Int) (g : Nat) (s10 : Value) (wr : World) : Prop :=
  ∃ j acc fu, g = all.length - j ∧ CP p tv tp FT N all tl j wr ∧ AC B acc s10 wr ∧ Below w.heap.size w wr ∧ acc.length ≤ j ∧ all.length - j < fu ∧ allOf true (OTof tl) N fu acc (all.drop j) = R ∧ B ≤ wr.heap.size
/-- a clause more, or the end -/
def nxA (O : OT) (N fu : Nat) (acc : List Cl3) (Q : CR) : List Cl3 × Nat × Int := match Q with
  | .er e a => ([], a, e)
  | .ok t n a r => allOf true O N fu (acc ++ [(t, n, a)]) r
theorem row6_keep8 {B e n z : Nat} {v : Value} {xs : List Value} (h : w.ownsRow B e z v n xs) (hb : ∀ k, v.ownBlock = some k → w'.heap[k]? = w.heap[k]?) : w'.ownsRow B e z v n xs := ow_keep h hb
theorem news8 (w : World) (v0 v1 v2 v3 v4 v5 v6 v7 : Value) (t : TypeId) : ∀ j u, [v0, v1, v2, v3, v4, v5, v6, v7][j]? = some u → (w.alloc (.cells #[v0, v1, v2, v3, v4, v5, v6, v7] t)).cell? ((⟨w.heap.size, 0, none⟩ : Addr).add j) = some u := by
  intro j u hj
  rw [add_plain, Nat.zero_add]
  exact alloc_cell w _ #[v0, v1, v2, v3, v4, v5, v6, v7] t u j rfl (by simpa using hj)
set_option maxRecDepth 100000 in
set_option maxHeartbeats 16000000 in
theorem rall_any (S : List UInt8) (hS : S.length ≤ 140737488351232) (w : World) (hv : VR w.heap.size w) {tab : Nat} (hT : opb.Tb w tab FT tl) (hi : opa.Inv tl) :
    Calls Tryz.prog 24 #[.string ⟨S.toArray⟩, .pointer (some ⟨tab, 0, none⟩)] w (AE (readA tl S) w) := by
  have HAL := Lib.hid (all_any S hS w hv)
  have H := Lib.hid (And.intro hT hi)
  unfold AllEnd at HAL
  have HRT := Lib.hid (show readA tl S = (if (allT S).2.2 ≠ 0 then ([], (allT S).2.1, (allT S).2.2) else allOf true (OTof tl) S.length ((allT S).1.length + 1) [] (allT S).1) from rfl)
  have HCS := Lib.hid (fun (v : Value) (w2 w' : World) (p : Nat) (hv : Toks w.heap.size w2 v (allT S).1) (he : (allT S).2.2 = 0) (b1 : Below w.heap.size w w2) (hp : w'.heap[p]? = some (RO v S.length 0 (.pointer (some ⟨tab, 0, none⟩)) (.map none) (.slice none 0 0))) (hpp : p = w2.heap.size) (b : Below w2.heap.size w2 w') => CP.start hv he (hT.below b1) hi hp hpp b)
  obtain ⟨ts, hts⟩ : ∃ ts, ts = (allT S).1 := ⟨_, rfl⟩
  obtain ⟨q, hq⟩ : ∃ q, q = (allT S).2.1 := ⟨_, rfl⟩
  obtain ⟨er, her⟩ : ∃ er, er = (allT S).2.2 := ⟨_, rfl⟩
  simp only [← hts, ← hq, ← her] at HAL HRT HCS
  clear hv hT hi hts hq her
  go_enter Tryz.func24, Tryz.ntmps24
  go_wp2_with fail
  refine HAL.out.mono ?_; rintro e w2 ⟨⟨v, rfl, hto⟩, b2⟩
  have H2 := Lib.hid (And.intro hto b2)
  clear hto b2
  by_cases c0 : er = 0
  rotate_left
  · have e1 : (er != 0) = true := by rw [bne_iff_ne]; exact c0
    have HQ := Lib.hid (show readA tl S = ([], q, er) by rw [HRT.out, if_pos c0])
    clear c0
    go_wp2_with fail
    refine bodyPost_ret (v := .tuple #[.slice none 0 0, .int .i64 (q : Int), .int .i64 er]) (by simp [results, Tryz.results24, go_sem]) rfl ?_
    rw [HQ.out]
    exact ⟨none, 0, rfl, H2.out.2, _, Nat.le_refl _, AC.nil _ _⟩
  have e1 : (er != 0) = false := by rw [c0]; rfl
  obtain ⟨p, hp⟩ : ∃ p, p = w2.heap.size := ⟨_, rfl⟩
  have HC0 := Lib.hid c0
  have HP := Lib.hid hp
  obtain ⟨va, vc, rfl⟩ := H2.out.1.shape
  clear c0 hp
  go_upto_block 0 with fail
  refine nmw (K := fun W => Below w2.heap.size w2 W ∧ W.heap[p]? = some (RO (.slice va ts.length vc) S.length 0 (.pointer (some ⟨tab, 0, none⟩)) (.map none) (.slice none 0 0))) ⟨kp.ba w2 _, by rw [HP.out]; exact alloc_at w2 _⟩ (fun W hW => ?_)
  rw [← HP.out]
  have hCP := HCS.out _ w2 W p H2.out.1 HC0.out H2.out.2 hW.2 HP.out hW.1
  have HRQ := Lib.hid (show readA tl S = allOf true (OTof tl) S.length (ts.length + 1) [] ts by rw [HRT.out, if_neg (by rw [HC0.out]; decide)])
  obtain ⟨R, hR⟩ : ∃ R, R = readA tl S := ⟨_, rfl⟩
  have HRR := Lib.hid hR
  have hpl : p < W.heap.size := Nw.lt hW.2
  have hB0 : Below w.heap.size w W := H2.out.2.trans (hW.1.mono H2.out.2.size)
  have HWW := Lib.hid (And.intro hCP (And.intro hB0 hpl))
  have HST0 := Lib.hid (show ARl p (.slice va ts.length vc) tab FT S.length ts tl W.heap.size w R (ts.length) (.slice none 0 0) W from
    ⟨0, [], ts.length + 1, by omega, hCP, AC.nil _ _, hB0, Nat.le_refl _, by omega, by rw [hR, HRQ.out]; rfl, Nat.le_refl _⟩)
  obtain ⟨i0, hi0, hz0, hz1, hz2⟩ := info_cl
  have HI := Lib.hid (And.intro hi0 (And.intro hz0 (And.intro hz1 hz2)))
  clear hCP hW hR hB0 hpl hi0 hz0 hz1 hz2
  go_wp2_with fail
  go_loopg [10] ts.length (ARl p (.slice va ts.length vc) tab FT S.length ts tl W.heap.size w R)
  case atStart => exact HST0.out
  case round =>
    clear HST0
    obtain ⟨j, acc, fu, hgj, hCP, hAC, hB, haj, hfu, hRj, hBr⟩ := hrel
    have HGJ := Lib.hid hgj
    obtain ⟨fu, rfl⟩ : ∃ q, fu = q + 1 := ⟨fu - 1, by omega⟩
    obtain ⟨mp, nv, hpr⟩ := hCP.rd
    obtain ⟨⟨-, -, s2, -⟩, -⟩ := six hpr
    have hkl := hCP.kle
    have hal := hCP.ale
    clear hgj
    by_cases hlt : j < ts.length
    rotate_left
    · have hd : decide (j < ts.length) = false := decide_eq_false hlt
      have hd2 : ts.length ≤ j := Nat.le_of_not_lt hlt
      have hend : R = (acc, 0, 0) := by
        rw [← hRj, allOf, if_pos (List.drop_eq_nil_of_le hd2)]
      obtain ⟨a, c, rfl⟩ := hAC.shape
      have HF := Lib.hid (And.intro hend (And.intro hAC (And.intro hB hBr)))
      clear hCP hAC hB haj hfu hBr hRj hend hlt
      go_wp2_with fail
      refine bodyPost_ret (v := .tuple #[.slice a acc.length c, .int .i64 0, .int .i64 0]) (by simp [results, Tryz.results24, go_sem]) rfl ?_
      rw [← HRR.out, HF.out.1]
      exact ⟨a, c, rfl, HF.out.2.2.1, _, HWW.out.2.1.size, HF.out.2.1⟩
    · have hd : decide (j < ts.length) = true := decide_eq_true hlt
      have HCL := Lib.hid (clause_any hCP)
      obtain ⟨Q, hQ⟩ : ∃ Q, Q = clause true (OTof tl) S.length (ts.drop j) := ⟨_, rfl⟩
      rw [← hQ] at HCL
      have hne : ts.drop j ≠ [] := by intro e; have := congrArg List.length e; simp at this; omega
      have hst : nxA (OTof tl) S.length fu acc Q = R := by
        rw [← hRj, allOf, if_neg hne, ← hQ]
        rfl
      have HST := Lib.hid (And.intro hst (And.intro hCP (And.intro hAC (And.intro hB (And.intro haj (And.intro hfu (And.intro hlt hBr)))))))
      clear hst hne hCP hAC hB haj hfu hBr hRj hQ hpr hlt
      cases Q with
      | er n a =>
        go_wp2_with fail
        refine HCL.out.mono ?_; rintro e w4 ⟨rfl, hn0, hK⟩
        have e3 : (n != 0) = true := by rw [bne_iff_ne]; exact hn0
        have hB4 : Below w.heap.size w w4 := HST.out.2.2.2.1.trans (hK.to_below (fun i hi => by have e2 : i = p := hi; have := HP.out; have := H2.out.2.size; omega) HST.out.2.2.2.1.size)
        have HB4 := Lib.hid hB4
        unfold ZC
        obtain ⟨⟨a0, a1, a2, a3, a4, a5, a6, a7⟩, b0, b1, b2, b3, b4, b5, b6, b7⟩ := eight (alloc_at w4 CZ)
        clear hB4 hK hn0 s2
        go_upto_region 8 with fail
        refine nmw (K := fun V => Below w4.heap.size w4 V) (kp.ba w4 _) (fun V hV => ?_)
        have HB := Lib.hid (HB4.out.trans (hV.mono HB4.out.size))
        clear a0 a1 a2 a3 a4 a5 a6 a7 b0 b1 b2 b3 b4 b5 b6 b7 hV
        go_wp2_with fail
        refine bodyPost_ret (v := .tuple #[.slice none 0 0, .int .i64 (a : Int), .int .i64 n]) (by simp [results, Tryz.results24, go_sem]) rfl ?_
        rw [← HRR.out, ← HST.out.1]
        exact ⟨none, 0, rfl, HB.out, _, Nat.le_refl _, AC.nil _ _⟩
      | ok t n a rest =>
        go_wp2_with fail
        refine HCL.out.mono ?_; rintro e w4 ⟨v0, v1, v2, v3, v4, xa, xl, xc, nv, k', rfl, hd, hCP4, hK, hL, hrow, hnp, hk0⟩
        obtain ⟨na, nc, rfl⟩ := kp.shape hrow
        have hB4 : Below w.heap.size w w4 := HST.out.2.2.2.1.trans (hK.to_below (fun i hi => by have e2 : i = p := hi; have := HP.out; have := H2.out.2.size; omega) HST.out.2.2.2.1.size)
        have hAC4 := HST.out.2.2.1.keep hK (fun i hi => by have e2 : i = p := hi; rw [e2]; exact HWW.out.2.2)
        obtain ⟨⟨a0, a1, a2, a3, a4, a5, a6, a7⟩, b0, b1, b2, b3, b4, b5, b6, b7⟩ := eight (alloc_at w4 CZ)
        obtain ⟨r1, hr1⟩ : ∃ r1, r1 = w4.heap.size := ⟨_, rfl⟩
        have H4 := Lib.hid (And.intro hB4 (And.intro hAC4 (And.intro hCP4 (And.intro hL (And.intro hrow (And.intro hd (And.intro hk0 hK.size)))))))
        clear hB4 hAC4 hK hCP4 hL hrow hnp hd hk0 s2
        go_upto_region 8 with fail
        refine nmw (K := fun V => Below w4.heap.size w4 V ∧ V.heap[r1]? = some (CO (.int .i64 v0) (.string v1) (.int .i64 v2) (.int .u64 v3) (.int .u64 v4) (.slice xa xl xc) (.slice na n.length nc) (.int .i64 (a : Int)))) ⟨kp.ba w4 _, by rw [hr1]; exact alloc_at w4 _⟩ (fun V hV => ?_)
        rw [← hr1]
        have hACV := H4.out.2.1.below hV.1
        have HV := Lib.hid (And.intro (H4.out.1.trans (hV.1.mono H4.out.1.size)) (And.intro hACV (And.intro (H4.out.2.2.1.below hV.1) hV.1)))
        obtain ⟨⟨s0, s1, s2, s3, s4, s5, s6, s7⟩, -⟩ := eight hV.2
        obtain ⟨xs, ho, hx⟩ := hACV
        obtain ⟨ra, rc, rfl⟩ := kp.shape ho
        have HO := Lib.hid (And.intro ho hx)
        have hacc : acc.length ≤ 65536 := by have := HST.out.2.2.2.2.1; have := HST.out.2.1.kle; omega
        have hown := Lib.hid (fun i (e : (Value.slice ra acc.length rc).ownBlock = some i) => (by obtain ⟨ys, hy, -⟩ := HST.out.2.2.1; exact (hy.lt i e) : W.heap.size ≤ i ∧ i < wr.heap.size))
        clear a0 a1 a2 a3 a4 a5 a6 a7 b0 b1 b2 b3 b4 b5 b6 b7 hV ho hx hr1
        go_wp2_with (at_builtin; refine wpList_append_lies _ rfl (.tmp 44) (.tmp 46) 50 rfl W.heap.size 54 i0 ZC 8 104 Tryz.underlying50 HI.out.1 HI.out.2.1 HI.out.2.2.1 HI.out.2.2.2 rfl (by decide) _ acc.length xs rfl (row6_keep8 HO.out.1 fun q e => (kp.ba _ _).block q (HO.out.1.lt q e).2) ⟨V.heap.size, 0, none⟩ 1 1 [.int .i64 v0, .string v1, .int .i64 v2, .int .u64 v3, .int .u64 v4, .slice xa xl xc, .slice na n.length nc, .int .i64 (a : Int)] rfl rfl (news8 _ _ _ _ _ _ _ _ _ _) ?ac1 (by omega) ?ac2 ?ac3 ?ac4 _ rfl ?_)
        case ac1 => intro u hu; simp only [List.mem_cons, List.not_mem_nil, or_false] at hu; rcases hu with rfl | rfl | rfl | rfl | rfl | rfl | rfl | rfl <;> rfl
        case ac2 => unfold maxLen; omega
        case ac3 => omega
        case ac4 => have := H4.out.2.2.2.2.2.2.2; have := HV.out.2.2.2.size; have := HST.out.2.2.2.2.2.2.2; rw [alloc_size]; omega
        intro g' c' w9 ho9 hg9 ha9 hl9
        have hwrV : wr.heap.size ≤ V.heap.size := Nat.le_trans H4.out.2.2.2.2.2.2.2 HV.out.2.2.2.size
        have hcl : CLv (fun k => k < W.heap.size ∨ (Value.slice ra acc.length rc).ownBlock = some k) W.heap.size V (t, n, a) [.int .i64 v0, .string v1, .int .i64 v2, .int .u64 v3, .int .u64 v4, .slice xa xl xc, .slice na n.length nc, .int .i64 (a : Int)] := by
          have hrV : V.ownsRow wr.heap.size 9 1 (.slice na n.length nc) n.length (n.map sv) := ow_keep H4.out.2.2.2.2.1 fun i e => HV.out.2.2.2.block i (H4.out.2.2.2.2.1.lt i e).2
          refine ⟨v0, v1, v2, v3, v4, xa, xl, xc, na, nc, rfl, lie.Lies.off (fun b _ hy => ?_) (lie.Lies.below HV.out.2.2.2 H4.out.2.2.2.1), row_mono hrV (fun i e => by have := (hrV.lt i e).1; have := HST.out.2.2.2.2.2.2.2; omega), fun i e hz => ?_⟩
          · rcases hy with hy | hy
            · exact Or.inr (by have := HST.out.2.2.2.2.2.2.2; omega)
            · exact Or.inr (hown.out b hy).2
          · have h1 := (hrV.lt i e).1
            rcases hz with hz | hz
            · have := HST.out.2.2.2.2.2.2.2; omega
            · have := (hown.out i hz).2; omega
        have hadd := AC.add (c := (t, n, a)) HO.out.2 HO.out.1 hcl rfl ho9 hg9 (ha9.imp id fun e => by omega)
        have hCP9 := CP.turn HWW.out.1 HV.out.2.2.1 hadd.2 (fun i e => ⟨(hown.out i e).1, fun e2 => by have := (hown.out i e).1; have := HWW.out.2.2; omega⟩)
        have hB9 : Below w.heap.size w w9 := HV.out.1.trans (hadd.2.to_below (fun i e => by have := (hown.out i e).1; have := HWW.out.2.1.size; omega) HV.out.1.size)
        have hlen : (acc ++ [(t, n, a)]).length = acc.length + 1 := by simp
        have H9 := Lib.hid (And.intro hadd.1 (And.intro hCP9 (And.intro hB9 (And.intro hadd.2.size hlen))))
        clear hcl hadd hCP9 hB9 hlen ho9 hg9 ha9 hl9 hwrV s0 s1 s2 s3 s4 s5 s6 s7
        go_wp2_with fail
        go_roundg (ts.length - k')
        case measure => have := HGJ.out; have := H4.out.2.2.2.2.2.2.1; have := HST.out.2.2.2.2.2.2.1; omega
        case rel =>
          refine ⟨k', acc ++ [(t, n, a)], fu, rfl, H9.out.2.1, ?_, H9.out.2.2.1, by have := H9.out.2.2.2.2; have := HST.out.2.2.2.2.1; have := H4.out.2.2.2.2.2.2.1; omega, by have := H4.out.2.2.2.2.2.2.1; have := HST.out.2.2.2.2.2.1; have := H4.out.2.2.1.kle; omega, ?_, by have := H9.out.2.2.2.1; have := H4.out.2.2.2.2.2.2.2; have := HV.out.2.2.2.size; have := HST.out.2.2.2.2.2.2.2; omega⟩
          · exact H9.out.1
          · rw [H4.out.2.2.2.2.2.1, ← HST.out.1]; rfl
end
end Go.Proofs.YtedbcmagjbgbjaaGreatDoor.rd
