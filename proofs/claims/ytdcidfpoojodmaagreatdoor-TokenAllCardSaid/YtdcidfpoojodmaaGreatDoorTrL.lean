/- The reference's All. -/
import Derived.Test.YtdcidfpoojodmaaGreatDoorTrJ
import Derived.Test.YtdcidfpoojodmaaGreatDoorTrK
namespace Go.Proofs.YtdcidfpoojodmaaGreatDoor.tr
open Go.ChangeShapes Go.WideShapes Go.ChangeAt Go.RowKit Go.Maps
open Go.Proofs.YtdcidfpoojodmaaGreatDoor.kp Go.Proofs.YtdcidfpoojodmaaGreatDoor.num Go.Proofs.YtdcidfpoojodmaaGreatDoor.dec Go.Proofs.YtdcidfpoojodmaaGreatDoor.tk
set_option linter.unusedVariables false
set_option linter.unusedSimpArgs false
section
variable {w w' w0 : World} {p : Nat} {S r : List UInt8} {c : UInt8} {row : Value} {b : Bool} {ts : List Tk} {a : Nat} {la : Int × List UInt8}
theorem one_any (h : LS p w0 (SN S (c :: r) row 0 b) row ts w) (hp : p < w0.heap.size) (hz : w0.heap.size ≤ p + 1) (hl : ts.length ≤ 65537) (hs : c :: r <:+ S) (hS : S.length ≤ 65537) (ha : S.length - (c :: r).length = a)
    (hla : lastc ts a = (decide (la.1 = 1) && decide (la.2 = [45]))) (hop : opn ts b = (decide (la.1 = 1) || decide (la.1 = 2))) (ha0 : ts ≠ [] → 0 < a) :
    Calls Tryz.prog 14 #[.pointer (some ⟨p, 0, none⟩)] w (OE p w0 S b ts a (tok la c r)) := by
  by_cases hu : up c = true
  · exact one_up h hp hz hl hs hS ha hu
  by_cases hm : sm c = true
  · exact one_sm h hp hz hl hs hS ha hm
  by_cases hd : dg c = true
  · exact one_dg h hp hz hl hs hS ha hla hd
  by_cases hg : sg c = true
  · by_cases hq : c :: r.takeWhile sg = [46]
    · cases hr : r.dropWhile sg with
      | nil => exact one_gb h hp hz hl hs hS ha hg hq hr
      | cons d r2 =>
        by_cases hb : mem blankL d = true
        · exact one_gc h hp hz hl hs hS ha hg hq hr hb
        · have hb' : mem blankL d = false := by simpa using hb
          by_cases h37 : d = 37
          · exact one_gd h hp hz hl hs hS ha hg hq hr hb' h37
          · exact one_ge h hp hz hl hs hS ha hg hq hr hb' h37
    · exact one_ga h hp hz hl hs hS ha hg hq
  by_cases hlo : lonely c = true
  · simp only [lonely, Bool.or_eq_true, decide_eq_true_eq] at hlo
    by_cases h39 : c = 39
    · exact one_q h hp hz hl hs hS ha h39
    by_cases hso : c = 33 ∨ c = 59
    · exact one_s h hp hz hl hs hS ha hso
    by_cases h40 : c = 40
    · by_cases hof : opn ts b = true
      · have hk : ts.getLast?.map Tk.k = some 1 ∨ ts.getLast?.map Tk.k = some 2 := by
          unfold opn at hof
          split at hof
          · cases hof
          · rename_i x hx
            rw [hx]
            simp only [Bool.and_eq_true, Bool.or_eq_true, decide_eq_true_eq] at hof
            rcases hof.1 with h | h
            · exact Or.inl (by simp [h])
            · exact Or.inr (by simp [h])
        rcases hk with hk | hk
        · exact one_p11 h hp hz hl hs hS ha h40 hop hof ha0 hk
        · exact one_p12 h hp hz hl hs hS ha h40 hop hof ha0 hk
      · have hof' : opn ts b = false := by simpa using hof
        by_cases hne : ts = []
        · exact one_p20 h hp hz hl hs hS ha h40 hop hof' ha0 hne
        by_cases hk1 : ts.getLast?.map Tk.k = some 1
        · have hb1 : b = true := by
            unfold opn at hof'
            split at hof'
            · rename_i hx; rw [hx] at hk1; cases hk1
            · rename_i x hx; rw [hx] at hk1; simp only [Option.map_some, Option.some.injEq] at hk1; simpa [hk1] using hof'
          exact one_p21 h hp hz hl hs hS ha h40 hop hof' hne hb1 ha0 hk1
        by_cases hk2 : ts.getLast?.map Tk.k = some 2
        · have hb1 : b = true := by
            unfold opn at hof'
            split at hof'
            · rename_i hx; rw [hx] at hk2; cases hk2
            · rename_i x hx; rw [hx] at hk2; simp only [Option.map_some, Option.some.injEq] at hk2; simpa [hk2] using hof'
          exact one_p22 h hp hz hl hs hS ha h40 hop hof' hne hb1 ha0 hk2
        · exact one_p23 h hp hz hl hs hS ha h40 hop hof' hne ha0 ⟨hk1, hk2⟩
    · refine one_p3 h hp hz hl hs hS ha ?_
      rcases hlo with h | h | h | h | h | h | h | h | h
      · exact absurd h h39
      · exact absurd (Or.inl h) hso
      · exact absurd (Or.inr h) hso
      · exact absurd h h40
      · exact Or.inl h
      · exact Or.inr (Or.inl h)
      · exact Or.inr (Or.inr (Or.inl h))
      · exact Or.inr (Or.inr (Or.inr (Or.inl h)))
      · exact Or.inr (Or.inr (Or.inr (Or.inr h)))
  · exact one_x h hp hz hl hs hS ha (by simpa using hu) (by simpa using hm) (by simpa using hd) (by simpa using hlo) (by simpa using hg)
def LT (ts : List Tk) : Int × List UInt8 := match ts.getLast? with
  | none => (0, [])
  | some x => (x.k, x.t)
theorem tok_minus {la : Int × List UInt8} {c : UInt8} {r : List UInt8} {n : Int} {re im : Nat} {rest : List UInt8} (h : tok la c r = .ok 1 [45] n re im rest) : rest = r := by
  have T : ∀ k' t' rest', txt k' t' rest' = .ok 1 [45] n re im rest → k' = 1 ∧ t' = [45] ∧ rest = rest' := by
    intro k' t' rest' h
    unfold txt at h; split at h
    · cases h; exact ⟨rfl, rfl, rfl⟩
    · cases h
  have D : ∀ f : UInt8 → Bool, r.takeWhile f = [] → r.dropWhile f = r := fun f hf => by
    have := List.takeWhile_append_dropWhile (p := f) (l := r); rw [hf] at this; simpa using this
  unfold tk.tok at h
  split at h
  · obtain ⟨-, h2, h3⟩ := T _ _ _ h
    injection h2 with h4 h5
    rw [h3, D _ h5]
  · split at h
    · obtain ⟨h1, -⟩ := T _ _ _ h; exact absurd h1 (by decide)
    · split at h
      · unfold nmb at h
        repeat' split at h
        all_goals cases h
      · split at h
        · split at h
          · cases h
          · obtain ⟨-, h2, h3⟩ := T _ _ _ h
            injection h2 with h4 h5
            rw [h3, D _ h5]
        · split at h
          · exact (T _ _ _ h).2.2
          · split at h
            · split at h
              · cases h
              · obtain ⟨h1, -⟩ := T _ _ _ h; exact absurd h1 (by decide)
            · split at h
              · split at h
                · cases h
                · obtain ⟨h1, -⟩ := T _ _ _ h; exact absurd h1 (by decide)
              · cases h
abbrev R0 (S : List UInt8) : Obj := .cells #[.string ⟨S.toArray⟩, .int .i64 0, .slice none 0 0, .int .i64 0, .bool false] 39 (0, 0)
def RA (p : Nat) (w0 : World) (S : List UInt8) (g : Nat) (wr : World) : Prop :=
  ∃ l row ts b, g = l.length ∧ l <:+ S ∧ ts.length + l.length ≤ S.length ∧ LS p w0 (SN S l row 0 b) row ts wr ∧ comb ts (lex S.length (l.length + 1) (LT ts) l) = allT S ∧
    (∀ x, ts.getLast? = some x → x.k = 1 → x.t = [45] → x.a + 1 = S.length - l.length) ∧ (ts ≠ [] → l.length < S.length)
theorem LT_pair (ts : List Tk) : LT ts = ((LT ts).1, (LT ts).2) := rfl
theorem la_last {N s l : Nat} (hE : ∀ x, ts.getLast? = some x → x.k = 1 → x.t = [45] → x.a + 1 = N - l) (hs : s ≤ l) (hl : l ≤ N) :
    lastc ts (N - s) = (decide ((if s = l then LT ts else (0, [])).1 = 1) && decide ((if s = l then LT ts else (0, [])).2 = [45])) := by
  unfold lastc LT
  cases hx : ts.getLast? with
  | none => by_cases h : s = l <;> simp [h]
  | some x =>
    simp only
    by_cases h : s = l
    · rw [if_pos h]
      by_cases h1 : x.k = 1
      · by_cases h2 : x.t = [45]
        · have := hE x hx h1 h2
          simp [h1, h2, h, this]
        · simp [h2]
      · simp [h1]
    · rw [if_neg h]
      by_cases h1 : x.k = 1
      · by_cases h2 : x.t = [45]
        · have := hE x hx h1 h2
          have h3 : ¬ x.a + 1 = N - s := by omega
          simp [h3]
        · simp [h2]
      · simp [h1]
theorem op_last {s l : Nat} : opn ts (decide (s ≠ l)) = (decide ((if s = l then LT ts else (0, [])).1 = 1) || decide ((if s = l then LT ts else (0, [])).1 = 2)) := by
  unfold opn LT
  cases hx : ts.getLast? with
  | none => by_cases h : s = l <;> simp [h]
  | some x => by_cases h : s = l <;> simp [h]
set_option maxRecDepth 100000 in
set_option maxHeartbeats 8000000 in
theorem rall_any (S : List UInt8) (hS0 : S.length ≤ 140737488351232) (w : World) : Calls Tryz.prog 6 #[.string ⟨S.toArray⟩] w (AllEnd w S) := by
  by_cases hS : S.length ≤ 65536
  · obtain ⟨p, hp⟩ : ∃ p, p = w.heap.size := ⟨_, rfl⟩
    obtain ⟨w0, hw0⟩ : ∃ w0, w0 = w.alloc (R0 S) := ⟨_, rfl⟩
    have h0 : w0.heap[p]? = some (SN S S (.slice none 0 0) 0 false) := by
      have e : SN S S (.slice none 0 0) 0 false = R0 S := by unfold SN R0; rw [Nat.sub_self]; rfl
      rw [hp, hw0, e]; exact alloc_at w _
    have hsz : w0.heap.size = p + 1 := by rw [hw0, alloc_size, hp]
    have HW := Lib.hid (And.intro hp (And.intro hw0 hsz))
    have HA := Lib.hid (show comb [] (lex S.length (S.length + 1) (LT []) S) = allT S by
      show comb [] (lex S.length (S.length + 1) (0, []) S) = allT S
      unfold allT comb; rw [if_pos hS]
      by_cases he : (lex S.length (S.length + 1) (0, []) S).2.2 = 0
      · rw [if_pos he, List.nil_append]; exact Prod.ext rfl (Prod.ext rfl he.symm)
      · rw [if_neg he]; have := lex_bad _ _ _ _ _ _ rfl he; rw [← this])
    have H0 := Lib.hid h0
    have hdS : decide (65536 < (S.length : Int)) = false := decide_eq_false (by omega)
    clear hp hw0 h0 hsz
    go_enter Tryz.func6, Tryz.ntmps6
    go_wp2_with fail
    change Code.wp _ _ _ _ (w.alloc (R0 S))
    rw [← HW.out.1, ← HW.out.2.1]
    go_loopg [] S.length (RA p w0 S)
    case atStart => exact ⟨S, _, [], false, rfl, List.suffix_refl _, by simp, ⟨H0.out, Toks.nil _ _, Keep.refl _ _⟩, HA.out, (by simp), (by simp)⟩
    case round =>
      obtain ⟨l, row, ts, b, rfl, hl, hn, L, hR, hE, hE2⟩ := hrel
      obtain ⟨sa, sc, rfl⟩ := L.2.1.shape
      obtain ⟨x, hx⟩ : ∃ x, sk .bt l l = x := ⟨_, rfl⟩
      have hll := hl.length_le
      have hgap := Lib.hid (rgap_any L.1 hl (by omega) x hx)
      obtain ⟨⟨c0, c1, c2, -⟩, -⟩ := five' L.1
      obtain ⟨x1, x2⟩ := x
      cases x1 with
      | false =>
        have h1 : lex S.length (l.length + 1) (LT ts) l = ([], S.length - x2.length, 2) := by simp only [lex, hx]
        rw [h1] at hR
        have HK := Lib.hid (show allT S = ([], S.length - x2.length, 2) by rw [← hR]; rfl)
        have HL := Lib.hid L
        clear h1 hR hx L hl hn hll hE hE2
        go_wp2_with fail
        refine hgap.out.mono ?_; rintro e9 w1 ⟨rfl, N⟩
        have L1 := Lib.hid (HL.out.turn N)
        clear N c0 c1 c2
        obtain ⟨⟨c0, c1, c2, -⟩, -⟩ := five' L1.out.1
        go_wp2_with fail
        go_quiet (fail)
        go_wp2_with fail
        go_ret3
        obtain ⟨hd1, hd2⟩ := L1.out.done HW.out.2.1 HW.out.1
        refine ⟨⟨.slice none 0 0, by rw [HK.out]; rfl, by rw [HK.out]; exact Toks.nil _ _⟩, ?_⟩
        exact hd2.trans ((drewN_below w1 _).mono hd2.size)
      | true =>
        cases x2 with
        | nil =>
          have h1 : lex S.length (l.length + 1) (LT ts) l = ([], 0, 0) := by simp only [lex, hx]
          rw [h1] at hR
          have HK := Lib.hid (show allT S = (ts, 0, 0) by rw [← hR]; unfold comb; simp)
          have HL := Lib.hid L
          clear h1 hR hx L hl hn hll hE hE2
          go_wp2_with fail
          refine hgap.out.mono ?_; rintro e9 w1 ⟨rfl, N⟩
          have L1 := Lib.hid (HL.out.turn N)
          clear N c0 c1 c2
          obtain ⟨⟨c0, c1, c2, -⟩, -⟩ := five' L1.out.1
          rw [show S.length - ([] : List UInt8).length = S.length by simp] at c1
          go_wp2_with fail
          go_quiet (fail)
          go_wp2_with fail
          go_ret3
          obtain ⟨hd1, hd2⟩ := L1.out.done HW.out.2.1 HW.out.1
          have hD := drewN_below w1 nq
          refine ⟨⟨_, by rw [HK.out]; rfl, by rw [HK.out]; exact hd1.below hD⟩, ?_⟩
          exact hd2.trans (hD.mono hd2.size)
        | cons c r =>
          have hsx := sk_ok hx
          have hsl := hsx.length_le
          have hcs : c :: r <:+ S := hsx.trans hl
          obtain ⟨i, e0, -, hi, -⟩ := suf_at hcs
          obtain ⟨T, hT⟩ : ∃ T, tok (if (c :: r).length = l.length then LT ts else (0, [])) c r = T := ⟨_, rfl⟩
          have hNX : nxT ((S.length - l.length : Nat) : Int) S.length (LT ts).1 (LT ts).2 (true, c :: r) = T := by
            simp only [nxT]; rw [la_eq hll hsl]; exact hT
          have hLA := la_last (ts := ts) (N := S.length) (s := (c :: r).length) (l := l.length) hE hsl hll
          have hOP := op_last (ts := ts) (s := (c :: r).length) (l := l.length)
          have hne : decide ((i : Int) = (S.length : Int)) = false := decide_eq_false (by omega)
          have hne2 : ((i : Int) == (S.length : Int)) = false := by simp; omega
          have hbr : decide (((S.length - l.length : Nat) : Int) < (i : Int)) = decide ((c :: r).length ≠ l.length) := by
            rw [decide_eq_decide]; omega
          obtain ⟨j, hj⟩ : ∃ j, S.length - l.length = j := ⟨_, rfl⟩
          rw [hj] at c1 hbr
          have HL := Lib.hid L
          have HH := Lib.hid (And.intro hl (And.intro hn (And.intro hll (And.intro hcs (And.intro hR (And.intro hx (And.intro hT (And.intro hNX (And.intro hLA (And.intro hOP (And.intro hE hE2)))))))))))
          obtain ⟨br, hbr9⟩ : ∃ br, decide ((c :: r).length ≠ l.length) = br := ⟨_, rfl⟩
          rw [hbr9] at hbr
          have HB9 := Lib.hid hbr9
          have HE0 := Lib.hid e0
          clear hR hx L hl hn hll hE hE2 hsx hsl hcs hT hNX hLA hOP hbr9 hj e0
          go_wp2_with fail
          refine hgap.out.mono ?_; rintro e9 w1 ⟨rfl, N⟩
          have L1 := HL.out.turn N
          clear N c0 c1 c2
          obtain ⟨⟨c0, c1, c2, -, c4⟩, -, -, -, f4⟩ := five' L1.1
          rw [HE0.out] at c1
          have hlt := Nw.lt L1.1
          have HL1 := Lib.hid L1
          clear L1
          go_wp2_with fail
          go_quiet (fail)
          go_upto_region 10 with fail
          have hbN : decide (j < i) = br := by rw [← hbr, decide_eq_decide]; omega
          refine nmw (K := LS p w0 (SN S (c :: r) (.slice sa ts.length sc) 0 br) (.slice sa ts.length sc) ts) (by rw [hbN]; have L2 := HL1.out.turn (Nw.drewN HL1.out.1 nq); exact L2.turn (Nw.set L2.1 4 (.bool br))) (fun wB XB => ?_)
          obtain ⟨h1, h2, h3, h4, hR, hx, hT, hNX, hLA, hOP, hE, hE2⟩ := HH.out
          rw [HB9.out] at hOP
          have hone := one_any XB (by have := HW.out.2.2; omega) (by have := HW.out.2.2; omega) (by omega) h4 (by omega) rfl hLA hOP (fun hne9 => by have := hE2 hne9; have h9 := (sk_ok hx).length_le; omega)
          rw [hT] at hone
          obtain ⟨⟨c0', c1', -⟩, -⟩ := five' XB.1
          have hi' : S.length - (c :: r).length = i := HE0.out
          rw [hi'] at c1'
          clear c0 c1 c2 c4 f4 hbr hbN h1 h2 h3 h4 hR hx hT hNX hLA hOP hE hE2 XB hne hne2
          have hone := Lib.hid hone
          cases T with
          | er n =>
            go_wp2_with fail
            refine hone.out.mono ?_; rintro e9 w2 ⟨rfl, hn0, l9, row9, ts9, L9⟩
            have hnn : (n != 0) = true := by rw [bne_iff_ne]; exact hn0
            have HN := Lib.hid (And.intro hn0 L9)
            obtain ⟨⟨d0, d1, d2, d3, -⟩, -⟩ := five' L9.1
            clear c0' c1' L9 hn0 d0 d1 d2
            go_wp2_with fail
            go_quiet (fail)
            go_wp2_with fail
            go_ret3
            obtain ⟨hl, hn, hll, hcs, hR, hx, hT, hNX, hLA, hOP, hE, hE2⟩ := HH.out
            obtain ⟨k1, -⟩ := lex_er hll hx hNX l.length
            rw [← LT_pair] at k1
            rw [k1] at hR
            have HK : allT S = ([], S.length - (c :: r).length, n) := by rw [← hR]; unfold comb; simp only; rw [if_neg HN.out.1]
            rw [hi'] at HK
            obtain ⟨hd1, hd2⟩ := HN.out.2.done HW.out.2.1 HW.out.1
            refine ⟨⟨.slice none 0 0, by rw [HK]; rfl, by rw [HK]; exact Toks.nil _ _⟩, ?_⟩
            exact hd2.trans ((drewN_below w2 _).mono hd2.size)
          | ok k t n re im rest =>
            go_wp2_with fail
            refine hone.out.mono ?_; rintro e9 w2 ⟨rfl, row9, L9⟩
            have HN := Lib.hid L9
            obtain ⟨⟨d0, d1, d2, d3, -⟩, -⟩ := five' L9.1
            clear c0' c1' L9 d0 d1 d2
            go_wp2_with fail
            obtain ⟨hl, hn, hll, hcs, hR, hx, hT, hNX, hLA, hOP, hE, hE2⟩ := HH.out
            have hk0 : k ≠ 0 := by have := tok_kind hT; omega
            obtain ⟨hlen, hsuf, hcomb⟩ := lex_ok hll hx hNX hk0 ts
            go_roundg rest.length
            case measure => exact hlen
            case rel =>
              refine ⟨rest, row9, ts ++ [⟨k, t, n, re, im, S.length - (c :: r).length⟩], br, rfl, hsuf.trans hl, by simp only [List.length_append, List.length_cons, List.length_nil]; omega, HN.out, ?_, ?_, ?_⟩
              · rw [← hR, LT_pair ts, hcomb]; simp [LT]
              · intro x hx1 hx2 hx3
                simp only [List.getLast?_append, List.getLast?_singleton, Option.some_or, Option.some.injEq] at hx1
                subst hx1
                simp only at hx2 hx3
                subst hx2; subst hx3
                have := tok_minus hT
                subst this
                have := hcs.length_le
                simp only [List.length_cons] at this ⊢; omega
              · intro _
                have := hcs.length_le
                have h9 := (tok_suf hT).length_le
                simp only [List.length_cons] at this; omega
  · have h1 : allT S = ([], 0, 3) := by unfold allT; rw [if_neg hS]
    have hdS : decide (65536 < (S.length : Int)) = true := decide_eq_true (by omega)
    go_enter Tryz.func6, Tryz.ntmps6
    go_wp2_with fail
    go_ret3
    exact ⟨⟨.slice none 0 0, by rw [h1]; rfl, by rw [h1]; exact Toks.nil _ _⟩, kp.br _⟩
end
end Go.Proofs.YtdcidfpoojodmaaGreatDoor.tr
