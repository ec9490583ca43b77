/- Package unify's walk through one term (occurs): the loop. -/
import Derived.Test.YthableojkjhicaaUnC
import Derived.Deep.DeepCutAuto
import Derived.Deep.CutBlock
import Derived.BigRegion
namespace Go.Proofs.Ythableojkjhicaa.un
open Go.ChangeShapes Go.WideShapes Go.ChangeAt Go.RowKit Go.Maps
open Go.Proofs.Ythableojkjhicaa.kp Go.Proofs.Ythableojkjhicaa.cel Go.Proofs.Ythableojkjhicaa.hp Go.Proofs.Ythableojkjhicaa.ob
set_option linter.unusedVariables false
abbrev TRs : TypeId := 157
def JO (w0 : World) (b p : Nat) (l : List Int) (v0 : Int) (R : Bool × Int × Nat) (n : Nat) (a' : Act) (w' : World) : Prop :=
  ∃ (c : Int) (Rs : Rws) (v : Value) (U : Nat → Value), Rs.length + n ≤ 100000 ∧ ROK l Rs ∧ W64 c ∧ occW l v0 n c (todo l Rs) = R ∧ Nx (XW Nob TRs 2 b p (n : Int) v Rs.length (cellsOf Rs)) w0 (fun i => i = b) w' ∧
    a' = { tmps := (.pointer (some ⟨b, 0, none⟩) :: .int .u64 v0 :: .int .u64 c :: U 3 :: U 4 :: U 5 :: .bool false :: .int .i64 0 :: v :: U 9 :: U 10 :: U 11 :: U 12 :: U 13 :: U 14 :: U 15 :: U 16 :: U 17 :: U 18 :: U 19 :: U 20 :: U 21 :: U 22 :: U 23 :: U 24 :: U 25 :: U 26 :: U 27 :: U 28 :: U 29 :: U 30 :: U 31 :: U 32 :: U 33 :: U 34 :: U 35 :: U 36 :: U 37 :: U 38 :: U 39 :: U 40 :: U 41 :: U 42 :: U 43 :: U 44 :: U 45 :: U 46 :: U 47 :: U 48 :: U 49 :: U 50 :: U 51 :: U 52 :: U 53 :: U 54 :: U 55 :: U 56 :: U 57 :: U 58 :: U 59 :: U 60 :: U 61 :: U 62 :: U 63 :: U 64 :: U 65 :: U 66 :: U 67 :: U 68 :: U 69 :: U 70 :: U 71 :: U 72 :: U 73 :: U 74 :: U 75 :: U 76 :: U 77 :: U 78 :: U 79 :: U 80 :: U 81 :: U 82 :: U 83 :: U 84 :: U 85 :: U 86 :: U 87 :: U 88 :: []).toArray, defers := [] }
theorem JO.mk {w0 : World} {b p : Nat} {l : List Int} {v0 : Int} {R : Bool × Int × Nat} {n : Nat} {a' : Act} {w' : World} (c : Int) (Rs : Rws) (v : Value) (h1 : Rs.length + n ≤ 100000) (h2 : ROK l Rs) (h3 : W64 c) (h4 : occW l v0 n c (todo l Rs) = R)
    (h5 : Nx (XW Nob TRs 2 b p (n : Int) v Rs.length (cellsOf Rs)) w0 (fun i => i = b) w')
    (h : a' = { tmps := (.pointer (some ⟨b, 0, none⟩) :: .int .u64 v0 :: .int .u64 c :: a'.tmps.getD 3 undef :: a'.tmps.getD 4 undef :: a'.tmps.getD 5 undef :: .bool false :: .int .i64 0 :: v :: a'.tmps.getD 9 undef :: a'.tmps.getD 10 undef :: a'.tmps.getD 11 undef :: a'.tmps.getD 12 undef :: a'.tmps.getD 13 undef :: a'.tmps.getD 14 undef :: a'.tmps.getD 15 undef :: a'.tmps.getD 16 undef :: a'.tmps.getD 17 undef :: a'.tmps.getD 18 undef :: a'.tmps.getD 19 undef :: a'.tmps.getD 20 undef :: a'.tmps.getD 21 undef :: a'.tmps.getD 22 undef :: a'.tmps.getD 23 undef :: a'.tmps.getD 24 undef :: a'.tmps.getD 25 undef :: a'.tmps.getD 26 undef :: a'.tmps.getD 27 undef :: a'.tmps.getD 28 undef :: a'.tmps.getD 29 undef :: a'.tmps.getD 30 undef :: a'.tmps.getD 31 undef :: a'.tmps.getD 32 undef :: a'.tmps.getD 33 undef :: a'.tmps.getD 34 undef :: a'.tmps.getD 35 undef :: a'.tmps.getD 36 undef :: a'.tmps.getD 37 undef :: a'.tmps.getD 38 undef :: a'.tmps.getD 39 undef :: a'.tmps.getD 40 undef :: a'.tmps.getD 41 undef :: a'.tmps.getD 42 undef :: a'.tmps.getD 43 undef :: a'.tmps.getD 44 undef :: a'.tmps.getD 45 undef :: a'.tmps.getD 46 undef :: a'.tmps.getD 47 undef :: a'.tmps.getD 48 undef :: a'.tmps.getD 49 undef :: a'.tmps.getD 50 undef :: a'.tmps.getD 51 undef :: a'.tmps.getD 52 undef :: a'.tmps.getD 53 undef :: a'.tmps.getD 54 undef :: a'.tmps.getD 55 undef :: a'.tmps.getD 56 undef :: a'.tmps.getD 57 undef :: a'.tmps.getD 58 undef :: a'.tmps.getD 59 undef :: a'.tmps.getD 60 undef :: a'.tmps.getD 61 undef :: a'.tmps.getD 62 undef :: a'.tmps.getD 63 undef :: a'.tmps.getD 64 undef :: a'.tmps.getD 65 undef :: a'.tmps.getD 66 undef :: a'.tmps.getD 67 undef :: a'.tmps.getD 68 undef :: a'.tmps.getD 69 undef :: a'.tmps.getD 70 undef :: a'.tmps.getD 71 undef :: a'.tmps.getD 72 undef :: a'.tmps.getD 73 undef :: a'.tmps.getD 74 undef :: a'.tmps.getD 75 undef :: a'.tmps.getD 76 undef :: a'.tmps.getD 77 undef :: a'.tmps.getD 78 undef :: a'.tmps.getD 79 undef :: a'.tmps.getD 80 undef :: a'.tmps.getD 81 undef :: a'.tmps.getD 82 undef :: a'.tmps.getD 83 undef :: a'.tmps.getD 84 undef :: a'.tmps.getD 85 undef :: a'.tmps.getD 86 undef :: a'.tmps.getD 87 undef :: a'.tmps.getD 88 undef :: []).toArray, defers := [] }) : JO w0 b p l v0 R n a' w' :=
  ⟨c, Rs, v, fun i => a'.tmps.getD i undef, h1, h2, h3, h4, h5, h⟩
theorem infoR : (Try.prog.info? 157).map (fun i => (i.zero, i.size, i.bytes)) = some (some (.agg #[.int .i64 0, .int .i64 0]), 2, 16) := by kernel_rfl
theorem ixR_rule {g n c k : Nat} (hk : k < n) (w : World) : (Instr.indexAt 155 (.slice (some ⟨g, 0, none⟩) n c) (.int .i64 (k : Int))).run Try.prog w = .ok (.pointer (some ⟨g, k * 2, none⟩)) w := by
  have he : Try.prog.elem 155 = 157 := by kernel_rfl
  have hz : (sizeOf 157).run Try.prog w = .ok 2 w := by kernel_rfl
  rw [run_indexAt_slice w 155 _ _ _ _ _ (by rw [he]; exact Try.underlying155), if_pos ⟨by omega, by omega⟩, he, hz]
  simp [Result.andThen, Addr.add]
  omega
theorem cell_two_new3 (w : World) (x0 x1 : Value) (t : TypeId) : ∀ j u, [x0, x1][j]? = some u → (w.alloc (.cells #[x0, x1] t)).cell? ((⟨w.heap.size, 0, none⟩ : Addr).add j) = some u := by
  intro j u hj
  have h := kp.alloc_at w (.cells #[x0, x1] t)
  have e : (⟨w.heap.size, 0, none⟩ : Addr).add j = ⟨w.heap.size, j, none⟩ := by simp [Addr.add]; omega
  rw [e]
  simp only [World.cell?, h]
  simpa using hj
theorem X_set2 {A : Ob} {e : TypeId} {b p j : Nat} {k : Int} {xs0 : List Value} {x0 x1 : Value} {w0 wr : World} {N : Nat → Prop} {g c : Nat} (f : Fr A) (y0 y1 : Value)
    (h : Nx (XW A e 2 b p k (.slice (some ⟨g, 0, none⟩) (j + 1) c) (j + 1) (xs0 ++ [x0, x1])) w0 N wr) (hl : xs0.length = j * 2) : Nx (XW A e 2 b p k (.slice (some ⟨g, 0, none⟩) (j + 1) c) (j + 1) (xs0 ++ [y0, y1])) w0 N ((wr.setCell ⟨g, j * 2, none⟩ y0).setCell ⟨g, j * 2 + 1, none⟩ y1) := by
  obtain ⟨g1, c1, e1, _, _, _, _, _, s1, _⟩ := X_top f h hl rfl
  injection e1 with e1 _ e3
  injection e1 with e1
  injection e1 with e1
  subst e1 e3
  obtain ⟨g2, c2, e2, _, _, _, _, _, s2, _⟩ := X_top f (s1 0 y0 (by omega)) hl rfl
  injection e2 with e2 _ e4
  injection e2 with e2
  injection e2 with e2
  subst e2 e4
  exact s2 1 y1 (by omega)
section
variable {w w' : World} {p b k : Nat} {F : Nat → Prop} {l : List Int} {m : Int}
set_option maxRecDepth 100000 in
set_option maxHeartbeats 4000000 in
theorem uocc_any (h : Hp TH w p F l m) (hd : ¬ F b) (hb : w.heap[b]? = some (UW p (k : Int))) (hk : k ≤ 100000) (v0 c0 : Int) (hv : W64 v0) (hc0 : W64 c0) (R : Bool × Int × Nat) (hR : occW l v0 k c0 [] = R) :
    Calls Try.prog 72 #[.pointer (some ⟨b, 0, none⟩), .int .u64 v0, .int .u64 c0] w fun e w' => e = .returned (.tuple #[.bool R.1, .int .i64 R.2.1]) ∧ w'.heap[b]? = some (UW p (R.2.2 : Int)) ∧ Keep (fun i => i = b) w w' := by
  have X0 := Lib.hid (X_begin (e := TRs) (sz := 2) (A := Nob) (w := w) (N := fun i => i = b) ⟨fun _ => False, fun i => i = b, fun _ h => h, ⟨hb, fun _ => Iff.rfl⟩, fun _ h => h.elim, fun i => by simp⟩)
  have HH := Lib.hid h
  have HD := Lib.hid (show ∀ i, F i → ¬ i = b from fun i hi e => hd (e ▸ hi))
  have HR := Lib.hid (And.intro hR (And.intro hc0 hk))
  have HL := Lib.hid h.len_le
  have HV := Lib.hid hv
  clear h hd hb hR hc0 hk hv
  go_enter Try.func72, Try.ntmps72
  go_wp2_with fail
  refine wp_scope_one (JO w b p l v0 R) rfl ?_ ?_
  · rintro n9 a9 wr ⟨c, Rs, v, U, hlen, hrok, hc, hocc, x, rfl⟩
    obtain ⟨hwb, turn⟩ := X_walk Fr.nob x
    obtain ⟨c0, c1, f0, f1⟩ := walker hwb
    cases n9 with
    | zero =>
      have hvis := visit_0 hwb
      have HX := Lib.hid (And.intro x (And.intro hocc hwb))
      clear x hocc hwb turn hlen hrok hc c0 c1 f0 f1
      go_wp2_with fail
      refine hvis.mono ?_; rintro e w' ⟨rfl, rfl⟩
      go_wp2_with fail
      simp only [dj]
      change bodyPost _ _ _ Exit.ret _ _
      go_ret2
      have ho := HX.out.2.1
      rw [occW] at ho
      rw [← ho]
      exact ⟨rfl, HX.out.2.2, X_keep HX.out.1⟩
    | succ k9 =>
      have hvis := visit_s k9 (by omega) hwb
      rw [occ_succ] at hocc
      have HT := Lib.hid turn
      have HX := Lib.hid (And.intro x (And.intro hlen (And.intro hrok (And.intro hc hocc))))
      clear x hlen hrok hc hocc hwb turn c0 c1 f0 f1
      go_wp2_with fail
      refine hvis.mono ?_; rintro e w1 ⟨rfl, hb1, k1⟩
      have x1 := HT.out _ _ k1 hb1
      have hp1 := HH.out.keep (X_keep x1) HD.out
      obtain ⟨c0, c1, f0, f1⟩ := walker hb1
      have hdr := deref_any hp1 c HX.out.2.2.2.1
      have hdw := dr_w hp1.wf l.length c HX.out.2.2.2.1
      have hocc := HX.out.2.2.2.2
      obtain ⟨d, hde⟩ : ∃ d, d = dr l l.length c := ⟨_, rfl⟩
      rw [← hde] at hdr hdw hocc
      have hnode := unode_any hp1 hb1 d hdw
      have HX1 := Lib.hid (And.intro x1 (And.intro hb1 (And.intro hdw hocc)))
      clear hde hvis k1 hb1 x1 hp1 HT
      by_cases hdv : d = v0
      · have he : (d == v0) = true := by rw [beq_iff_eq]; exact hdv
        have ho := HX1.out.2.2.2
        rw [if_pos hdv] at ho
        have HO := Lib.hid ho
        clear ho hocc hdv hdw hnode
        go_wp2_with fail
        refine hdr.mono ?_; rintro e w' ⟨rfl, rfl⟩
        go_wp2_with fail
        simp only [dj]
        change bodyPost _ _ _ Exit.ret _ _
        go_ret2
        rw [← HO.out]
        exact ⟨rfl, HX1.out.2.1, X_keep HX1.out.1⟩
      · have he : (d == v0) = false := by rw [beq_eq_false_iff_ne]; exact hdv
        rw [if_neg hdv] at hocc
        obtain ⟨nn, hnn⟩ : ∃ nn, nn = nd l d := ⟨_, rfl⟩
        have hcm := fun h5 hok => nd_comp (l := l) hdw (by rw [← hnn]; exact h5) (by rw [← hnn]; exact hok)
        rw [← hnn] at hnode hocc
        simp only [← hnn] at hcm
        obtain ⟨kk, x0, xx1, nf, na, ok⟩ := nn
        dsimp only [ndv] at hnode hcm hocc
        have HC := Lib.hid hcm
        have HO := Lib.hid hocc
        clear hcm hocc hnn hdv hdw
        go_wp2_with fail
        refine hdr.mono ?_; rintro e w' ⟨rfl, rfl⟩
        go_wp2_with fail
        refine hnode.mono ?_; rintro e w2 ⟨rfl, b2⟩
        have x2 := Lib.hid (Nx.below (frXW Fr.nob) HX1.out.1 b2)
        obtain ⟨nb, hnb⟩ : ∃ nb, nb = w2.heap.size := ⟨_, rfl⟩
        obtain ⟨w3, hw3⟩ : ∃ w3, w3 = w2.alloc (NO kk x0 xx1 nf na) := ⟨_, rfl⟩
        have X3 := Lib.hid (Nx.below (frXW Fr.nob) x2.out (show Below w2.heap.size w2 w3 by rw [hw3]; exact ba w2 _))
        have hz := show w3.heap[nb]? = some (NO kk x0 xx1 nf na) by rw [hnb, hw3]; exact alloc_at w2 _
        have HW3 := Lib.hid (And.intro hnb hw3)
        have HZ := Lib.hid hz
        clear b2 x2 hnb hw3 c0 c1 f0 f1 hnode hdr hz
        go_upto_region 8 with fail
        change Code.wp _ _ _ _ (w2.alloc (NO kk x0 xx1 nf na))
        rw [← HW3.out.1, ← HW3.out.2]
        obtain ⟨⟨z0, z1, z2, z3, z4⟩, _⟩ := five HZ.out
        cases ok with
        | false =>
          clear z1 z2 z3 z4
          go_wp2_with fail
          simp only [dj]
          change bodyPost _ _ _ Exit.ret _ _
          go_ret2
          have ho := HO.out
          rw [if_pos trivial] at ho
          rw [← ho]
          exact ⟨rfl, (X_walk Fr.nob X3.out).1, X_keep X3.out⟩
        | true =>
          go_upto_if 34 with fail
          go_cut [8] (fun s8 wx => ∃ Rs4, Rs4.length + k9 ≤ 100000 ∧ ROK l Rs4 ∧ contW l v0 k9 (todo l Rs4) = R ∧ Nx (XW Nob TRs 2 b p (k9 : Int) s8 Rs4.length (cellsOf Rs4)) w (fun i => i = b) wx)
          case first =>
            by_cases h5 : kk = 5
            · obtain ⟨q, n1, hf, ha, hn, hq⟩ := HC.out h5 rfl
              subst h5 hf ha
              have HQ := Lib.hid (And.intro hn hq)
              obtain ⟨M, hR, up⟩ := X_row Fr.nob X3.out
              obtain ⟨sa, sc, rfl⟩ := hR.shape
              have hR0 := hR.1
              obtain ⟨i0, hi, hz0, hz1, hz2⟩ := info_parts infoR
              have HI := Lib.hid (And.intro hi (And.intro hz0 (And.intro hz1 hz2)))
              have HRW := Lib.hid hR0
              have PU := Lib.hid (fun (v' : Value) (w5 : World) (hr3 : w5.ownsRow 0 157 2 v' (Rs.length + 1) (cellsOf Rs ++ [.int .i64 (q : Int), .int .i64 ((n1 + 1 : Nat) : Int)])) g3 hat => up _ _ _ _ (Row.push hR (kp.ba _ (.cells #[.int .i64 (q : Int), .int .i64 ((n1 + 1 : Nat) : Int)] 157)) hr3 g3 hat))
              have hlen := HX.out.2.1
              have hln9 : Rs.length ≤ 100000 := by omega
              clear hR up hR0 hi hz0 hz1 hz2 hn hq hlen
              go_wp2_with (at_builtin; refine wpList_append_own_at _ rfl (.tmp 35) (.tmp 41) 155 rfl 0 157 i0 (.agg #[.int .i64 0, .int .i64 0]) 2 16 Try.underlying155 HI.out.1 HI.out.2.1 HI.out.2.2.1 HI.out.2.2.2 rfl (by decide) _ _ _ rfl (HRW.out.alloc _) ⟨w3.heap.size, 0, none⟩ 1 1 [.int .i64 (q : Int), .int .i64 ((n1 + 1 : Nat) : Int)] rfl rfl (cell_two_new3 _ _ _ _) ?c2 ?b1 ?b2 ?b3 ?_)
              case c2 => exact ⟨rfl, rfl⟩
              case b1 => unfold maxLen; omega
              case b2 => omega
              intro v' w5 hr3 g3 _ hat
              have x5 := PU.out v' w5 (by simpa using hr3) g3 (by simpa using hat)
              clear hr3 g3 hat PU HRW
              go_wp2_with fail
              go_meet
              case rel =>
                have ho := HO.out
                rw [if_neg (by decide), if_pos trivial] at ho
                refine ⟨(q, n1) :: Rs, by have := HX.out.2.1; simp only [List.length_cons]; omega, ?_, ?_, x5⟩
                · intro y hy
                  rcases List.mem_cons.1 hy with rfl | hy
                  · exact HQ.out.2
                  · exact HX.out.2.2.1 y hy
                · rw [← ho]; rfl
            · have he5 : (kk == 5) = false := by rw [beq_eq_false_iff_ne]; exact h5
              have HF := Lib.hid h5
              clear h5
              go_wp2_with fail
              go_meet
              case rel =>
                have ho := HO.out
                rw [if_neg (by decide), if_neg HF.out] at ho
                exact ⟨Rs, by have := HX.out.2.1; omega, HX.out.2.2.1, ho, X3.out⟩
          case rest =>
            obtain ⟨Rs4, hl4, hr4, hct, x4⟩ := hcut
            clear z0 z1 z2 z3 z4 X3 HC HO HX1 HX HZ HW3
            cases Rs4 with
            | nil =>
              obtain ⟨sa, sc, rfl⟩ := X_shape Fr.nob x4
              have HX := Lib.hid (And.intro x4 hct)
              clear x4 hl4 hr4 hct
              go_wp2_with fail
              simp only [dj]
              change bodyPost _ _ _ Exit.ret _ _
              go_ret2
              have ho := HX.out.2
              rw [todo, contW] at ho
              rw [← ho]
              exact ⟨rfl, (X_walk Fr.nob HX.out.1).1, X_keep HX.out.1⟩
            | cons y r =>
              obtain ⟨q, n1⟩ := y
              obtain ⟨g, sc, rfl, hcg, hgl, hgb, hcell, hfz, hset, hpop⟩ := X_top Fr.nob (xs0 := cellsOf r) (ys := [.int .i64 (q : Int), .int .i64 ((n1 + 1 : Nat) : Int)]) x4 (cellsOf_len r) rfl
              have hq := hr4 (q, n1) (List.mem_cons_self)
              have z0 := hcell 0 (by omega)
              have z1 := hcell 1 (by omega)
              simp only [Nat.add_zero, List.getElem?_cons_zero, List.getElem?_cons_succ] at z0 z1
              have fz0 := hfz (r.length * 2)
              have fz1 := hfz (r.length * 2 + 1)
              have hp4 := HH.out.keep (X_keep x4) HD.out
              have hgt := fun n => Lib.hid (get_any (hp4.drewN n) (q : Int))
              have HCW := Lib.hid (gv_w hp4.wf (q : Int))
              obtain ⟨hwb, _⟩ := X_walk Fr.nob x4
              obtain ⟨c0, c1, f0, f1⟩ := walker hwb
              have ix := fun w => ixR_rule (g := g) (n := r.length + 1) (c := sc) (k := r.length) (by omega) w
              have hll := HL.out
              dsimp only at hq
              have hq2 : (q : Int) ≤ 1048576 := by omega
              have hn2 : (n1 : Int) ≤ 1048576 := by omega
              simp only [List.length_cons] at hl4
              have hd9 : r.length + 1 ≤ 100000 := by omega
              have hgb1 : gb l (q : Int) = true := decide_eq_true ⟨by omega, by omega⟩
              rw [hgb1] at hgt
              have HX := Lib.hid (And.intro x4 (And.intro hl4 (And.intro hr4 (And.intro hct (And.intro hq hcg)))))
              have hct2 : occW l v0 k9 (gv l (q : Int)) (kids l ((q : Int) + 1) n1 ++ todo l r) = R := hct
              have HCT := Lib.hid hct2
              clear hct2
              generalize gv l (q : Int) = c2 at *
              clear x4 hl4 hr4 hct hq hcg hcell hfz hset hpop hp4 hwb hll hgb1
              go_upto_region 15 with fail
              go_quiet ((first | (go_at_call 85; exact hp.quiet_left (hgt _).out)))
              obtain ⟨w5, hw5⟩ : ∃ w5, w5 = wc.drewN nq := ⟨_, rfl⟩
              have X5 := Lib.hid (Nx.below (frXW Fr.nob) HX.out.1 (drewN_below wc nq))
              rw [← hw5] at X5 ⊢
              clear hw5 hgt z0 z1 fz0 fz1 c0 c1 f0 f1
              obtain ⟨g', sc', he', hcg, hgl, hgb, hcell, hfz, hset, hpop⟩ := X_top Fr.nob (xs0 := cellsOf r) (ys := [.int .i64 (q : Int), .int .i64 ((n1 + 1 : Nat) : Int)]) X5.out (cellsOf_len r) rfl
              injection he' with he1 _ he3
              injection he1 with he1
              injection he1 with he1
              subst he1 he3
              have z0 := hcell 0 (by omega)
              have z1 := hcell 1 (by omega)
              simp only [Nat.add_zero, List.getElem?_cons_zero, List.getElem?_cons_succ] at z0 z1
              have fz0 := hfz (r.length * 2)
              have fz1 := hfz (r.length * 2 + 1)
              have S0 := Lib.hid hset
              clear hcg hgl hgb hcell hfz hset hpop
              go_upto_region 16 with fail
              go_region
              obtain ⟨w6, hw6⟩ : ∃ w6, w6 = ((w5.setCell ⟨g, r.length * 2, none⟩ (.int .i64 ((q : Int) + 1))).setCell ⟨g, r.length * 2 + 1, none⟩ (.int .i64 (n1 : Int))).drew := ⟨_, rfl⟩
              have X6 := Lib.hid (Nx.below (frXW Fr.nob) (X_set2 Fr.nob (.int .i64 ((q : Int) + 1)) (.int .i64 (n1 : Int)) X5.out (cellsOf_len r)) (kp.bdr _))
              rw [← hw6] at X6 ⊢
              clear hw6 z0 z1 fz0 fz1 S0
              obtain ⟨g', sc', he', hcg, hgl, hgb, hcell, hfz, hset, hpop⟩ := X_top Fr.nob (xs0 := cellsOf r) (ys := [.int .i64 ((q : Int) + 1), .int .i64 (n1 : Int)]) X6.out (cellsOf_len r) rfl
              injection he' with he1 _ he3
              injection he1 with he1
              injection he1 with he1
              subst he1 he3
              have z1 := hcell 1 (by omega)
              simp only [List.getElem?_cons_zero, List.getElem?_cons_succ] at z1
              have HP := Lib.hid hpop
              clear hgl hgb hcell hfz hset hpop
              cases n1 with
              | zero =>
                go_wp2_with fail
                go_step3
                refine ⟨k9, by omega, rfl, JO.mk c2 r _ (by have := HX.out.2.1; omega) (fun y hy => HX.out.2.2.1 y (List.mem_cons_of_mem _ hy)) HCW.out ?_ HP.out rfl⟩
                exact HCT.out
              | succ j =>
                have hj0 : (((j + 1 : Nat) : Int) == 0) = false := by rw [beq_eq_false_iff_ne]; omega
                clear hn2 hq2 hcg hd9
                generalize ((j + 1 : Nat) : Int) = z at z1 hj0
                go_wp2_with fail
                go_step3
                refine ⟨k9, by omega, rfl, JO.mk c2 ((q + 1, j) :: r) _ (by have := HX.out.2.1; simp only [List.length_cons]; omega) ?_ HCW.out ?_ X6.out rfl⟩
                · intro y hy
                  rcases List.mem_cons.1 hy with rfl | hy
                  · have := HX.out.2.2.2.2.1; show q + 1 + (j + 1) ≤ _; omega
                  · exact HX.out.2.2.1 y (List.mem_cons_of_mem _ hy)
                · exact HCT.out
  · intro dn
    refine ⟨k, ?_⟩
    go_wp2_with fail
    refine wp_label ?_
    refine (by assumption : ∀ a w, Code.wp Try.prog _ _ a w → _) _ _ ?_
    exact dn k _ _ (JO.mk c0 [] _ (by have := HR.out.2.2; simp only [List.length_nil]; omega) (fun y hy => by simp at hy) HR.out.2.1 HR.out.1 X0.out rfl)
end
end Go.Proofs.Ythableojkjhicaa.un
