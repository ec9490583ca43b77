/- The reference's gap. -/
import Derived.Test.YtdcidfpoojodmaaGreatDoorTrF
namespace Go.Proofs.YtdcidfpoojodmaaGreatDoor.tr
open Go.ChangeShapes Go.WideShapes Go.ChangeAt Go.RowKit Go.Maps
open Go.Proofs.YtdcidfpoojodmaaGreatDoor.kp Go.Proofs.YtdcidfpoojodmaaGreatDoor.num Go.Proofs.YtdcidfpoojodmaaGreatDoor.dec Go.Proofs.YtdcidfpoojodmaaGreatDoor.tk
set_option linter.unusedVariables false
set_option linter.unusedSimpArgs false
theorem sk_cases (c : UInt8) (r : List UInt8) : (mem blankL c = true ∧ sk .bt (c :: r) (c :: r) = sk .bt r r) ∨
    (mem blankL c = false ∧ c = 37 ∧ sk .bt (c :: r) (c :: r) = sk .ln (c :: r) r) ∨
    (mem blankL c = false ∧ c = 47 ∧ ∃ r2, r = 42 :: r2 ∧ sk .bt (c :: r) (c :: r) = sk .bk (c :: r) r2) ∨
    (mem blankL c = false ∧ c ≠ 37 ∧ c ≠ 47 ∧ sk .bt (c :: r) (c :: r) = (true, c :: r)) ∨
    (mem blankL c = false ∧ c = 47 ∧ r = [] ∧ sk .bt (c :: r) (c :: r) = (true, c :: r)) ∨
    (mem blankL c = false ∧ c = 47 ∧ ∃ d r2, r = d :: r2 ∧ d ≠ 42 ∧ sk .bt (c :: r) (c :: r) = (true, c :: r)) := by
  by_cases h1 : mem blankL c = true
  · exact Or.inl ⟨h1, by simp only [sk]; rw [if_pos h1]⟩
  · have h1' : mem blankL c = false := by simpa using h1
    by_cases h2 : c = 37
    · exact Or.inr (Or.inl ⟨h1', h2, by simp only [sk]; rw [if_neg h1, if_pos h2]⟩)
    · by_cases h3 : c = 47
      · cases r with
        | nil => exact Or.inr (Or.inr (Or.inr (Or.inr (Or.inl ⟨h1', h3, rfl, by simp only [sk]; rw [if_neg h1, if_neg h2, if_neg (by simp)]⟩))))
        | cons d r2 =>
          by_cases h4 : d = 42
          · subst h4
            exact Or.inr (Or.inr (Or.inl ⟨h1', h3, r2, rfl, by simp only [sk]; rw [if_neg h1, if_neg h2, if_pos ⟨h3, rfl⟩]⟩))
          · exact Or.inr (Or.inr (Or.inr (Or.inr (Or.inr ⟨h1', h3, d, r2, rfl, h4, by simp only [sk]; rw [if_neg h1, if_neg h2, if_neg (by simp [h4])]⟩))))
      · exact Or.inr (Or.inr (Or.inr (Or.inl ⟨h1', h2, h3, by simp only [sk]; rw [if_neg h1, if_neg h2, if_neg (fun h => h3 h.1)]⟩)))
section
variable {w w' w0 : World} {p : Nat} {S l : List UInt8} {row : Value} {er : Int} {b : Bool}
def GG (p : Nat) (w0 : World) (S : List UInt8) (row : Value) (er : Int) (b : Bool) (R : Bool × List UInt8) (g : Nat) (wr : World) : Prop :=
  ∃ l, l <:+ S ∧ g = l.length ∧ sk .bt l l = R ∧ Nw p (SN S l row er b) w0 wr
/-- in a remark to the line's end, that began ahead of r -/
def GL (p : Nat) (w0 : World) (S : List UInt8) (row : Value) (er : Int) (b : Bool) (R : Bool × List UInt8) (c : UInt8) (r bb : List UInt8) (g : Nat) (wr : World) : Prop :=
  ∃ l, l <:+ S ∧ g = l.length ∧ sk .ln bb l = R ∧ (l = c :: r ∨ l.length ≤ r.length) ∧ Nw p (SN S l row er b) w0 wr
/-- in a remark between signs: where end stands -/
def GB (p : Nat) (w0 : World) (S : List UInt8) (row : Value) (er : Int) (b : Bool) (R : Bool × List UInt8) (bb r : List UInt8) (g : Nat) (s4 : Value) (wr : World) : Prop :=
  ∃ l, l <:+ S ∧ g = l.length ∧ sk .bk bb l = R ∧ l.length ≤ r.length ∧ s4 = .int .i64 ((S.length - l.length : Nat) : Int) ∧ Nw p (SN S bb row er b) w0 wr
set_option maxRecDepth 100000 in
set_option maxHeartbeats 8000000 in
theorem rgap_any (h : w.heap[p]? = some (SN S l row er b)) (hs : l <:+ S) (hS : S.length ≤ 65537) (R : Bool × List UInt8) (hR : sk .bt l l = R) :
    Calls Tryz.prog 13 #[.pointer (some ⟨p, 0, none⟩)] w fun e w' => e = .returned (.bool R.1) ∧ Nw p (SN S R.2 row er b) w w' := by
  have H0 := Lib.hid (And.intro h (And.intro hs hR))
  clear h hs hR
  go_enter Tryz.func13, Tryz.ntmps13
  go_wp2_with fail
  go_loopg [] l.length (GG p w S row er b R)
  case atStart => exact ⟨l, H0.out.2.1, rfl, H0.out.2.2, Nw.same H0.out.1⟩
  case round =>
    obtain ⟨l', hl', rfl, hR, hN⟩ := hrel
    clear H0
    obtain ⟨⟨c0, c1, -⟩, f1, -⟩ := five' hN.1
    have HN := Lib.hid (And.intro hN (And.intro hR hl'))
    clear hN hR
    cases l' with
    | nil =>
      have e0 : S.length - ([] : List UInt8).length = S.length := by simp
      rw [e0] at c1
      have hd : decide ((S.length : Int) < S.length) = false := by simp
      clear e0 f1 hl'
      go_wp2_with fail
      go_quiet (fail)
      go_wp2_with fail
      go_ret
      exact ⟨by rw [← HN.out.2.1]; rfl, by rw [← HN.out.2.1]; exact HN.out.1.trans (Nw.drewN HN.out.1.1 _)⟩
    | cons c r =>
      obtain ⟨i, e0, e1, hi, hb⟩ := suf_at hl'
      rw [e0] at c1
      have hd : decide ((i : Int) < S.length) = true := decide_eq_true (by omega)
      have hw1 : wrap64 ((i : Int) + 1) = ((i + 1 : Nat) : Int) := by unfold wrap64; omega
      have hw2 : wrap64 ((i : Int) + 2) = ((i + 2 : Nat) : Int) := by unfold wrap64; omega
      have SET1 : Hid (∀ W : World, W.heap[p]? = some (SN S (c :: r) row er b) → Nw p (SN S r row er b) W (W.setCell ⟨p, 1, none⟩ (.int .i64 ((i : Int) + 1)))) := Lib.hid fun W hW => by
        show Nw p (.cells #[.string ⟨S.toArray⟩, .int .i64 ((S.length - r.length : Nat) : Int), row, .int .i64 er, .bool b] 39 (0, 0)) W _
        rw [e1]; exact Nw.set hW 1 _
      have hwh := fun w => rwhite_any c w
      go_wp2_with fail
      go_quiet (fail)
      go_wp2_with fail
      go_quiet (fail)
      go_upto_region 4 with fail
      refine nmw (K := Nw p (SN S (c :: r) row er b) w) (by first | exact HN.out.1.trans (Nw.drewN HN.out.1.1 _) | (rw [World.drewN_drewN]; exact HN.out.1.trans (Nw.drewN HN.out.1.1 _))) (fun wB hB => ?_)
      have XB := Lib.hid hB
      clear hB c0 c1 f1
      obtain ⟨⟨c0, c1, -⟩, f1, -⟩ := five' XB.out.1
      rw [e0] at c1
      rcases sk_cases c r with ⟨g1, hq⟩ | ⟨g1, g2, hq⟩ | ⟨g1, g2, r2, g3, hq⟩ | ⟨g1, g2, g3, hq⟩ | ⟨g1, g2, g3, hq⟩ | ⟨g1, g2, d, r2, g3, g4, hq⟩
      all_goals
        rw [g1] at hwh
        have HQ := Lib.hid hq
        clear hq g1
      · go_wp2_with fail
        refine (hwh _).mono ?_; rintro e w' ⟨rfl, rfl⟩
        go_wp2_with fail
        go_roundg r.length
        case measure => simp
        case rel => exact ⟨r, suf_tail HN.out.2.2, rfl, by rw [← HN.out.2.1, HQ.out], XB.out.trans (SET1.out _ XB.out.1)⟩
      · have G2 := Lib.hid g2
        clear g2
        go_wp2_with fail
        refine (hwh _).mono ?_; rintro e w' ⟨rfl, rfl⟩
        have b37 : ((c.toNat : Int) == 37) = true := by rw [G2.out]; rfl
        go_wp2_with fail
        go_loopg [] (c :: r).length (GL p w S row er b R c r (c :: r))
        case atStart => exact ⟨c :: r, HN.out.2.2, rfl, by simp only [sk]; rw [if_neg (by rw [G2.out]; decide), ← HQ.out]; exact HN.out.2.1, Or.inl rfl, XB.out⟩
        case round =>
          obtain ⟨l2, hl2, rfl, hR2, hor, hN2⟩ := hrel
          clear c0 c1 f1 hd hw1 hw2 b37 hb
          obtain ⟨⟨c0, c1, -⟩, f1, -⟩ := five' hN2.1
          have H2 := Lib.hid (And.intro hN2 (And.intro hR2 (And.intro hl2 hor)))
          clear hN2 hR2 hor
          cases l2 with
          | nil =>
            have e2 : S.length - ([] : List UInt8).length = S.length := by simp
            rw [e2] at c1
            have hd : decide ((S.length : Int) < S.length) = false := by simp
            clear e2 f1 hl2
            go_wp2_with fail
            go_quiet (fail)
            go_wp2_with fail
            go_roundg 0
            case measure => simp
            case rel => exact ⟨[], List.nil_suffix, rfl, by rw [← H2.out.2.1]; rfl, H2.out.1.trans (Nw.drewN H2.out.1.1 _)⟩
          | cons x y =>
            obtain ⟨j, ej, ej1, hj, hbj⟩ := suf_at hl2
            rw [ej] at c1
            have hd : decide ((j : Int) < S.length) = true := decide_eq_true (by omega)
            have hw1 : wrap64 ((j : Int) + 1) = ((j + 1 : Nat) : Int) := by unfold wrap64; omega
            have SETJ : Hid (∀ W : World, W.heap[p]? = some (SN S (x :: y) row er b) → Nw p (SN S y row er b) W (W.setCell ⟨p, 1, none⟩ (.int .i64 ((j : Int) + 1)))) := Lib.hid fun W hW => by
              show Nw p (.cells #[.string ⟨S.toArray⟩, .int .i64 ((S.length - y.length : Nat) : Int), row, .int .i64 er, .bool b] 39 (0, 0)) W _
              rw [ej1]; exact Nw.set hW 1 _
            by_cases hx : x = 10
            · have b10 : ((x.toNat : Int) == 10) = true := by rw [hx]; rfl
              have HX10 := Lib.hid hx
              clear hx
              go_wp2_with fail
              go_quiet (fail)
              go_wp2_with fail
              go_roundg (x :: y).length
              case measure =>
                rcases H2.out.2.2.2 with h | h
                · have := (List.cons.inj h).1
                  rw [HX10.out, G2.out] at this
                  exact absurd this (by decide)
                · simp only [List.length_cons] at h ⊢; omega
              case rel =>
                refine ⟨x :: y, H2.out.2.2.1, rfl, ?_, H2.out.1.trans (Nw.drewN H2.out.1.1 _)⟩
                rw [← H2.out.2.1, HX10.out]
                simp only [sk]
                rw [if_pos (by decide)]; rfl
            · have b10 : ((x.toNat : Int) == 10) = false := (beq_byte x 10 10 rfl).trans (decide_eq_false hx)
              have HX10 := Lib.hid hx
              clear hx
              go_wp2_with fail
              go_quiet (fail)
              go_wp2_with fail
              go_roundg y.length
              case measure => simp
              case rel =>
                have h9 := H2.out.1.trans (Nw.drewN H2.out.1.1 nq)
                refine ⟨y, suf_tail H2.out.2.2.1, rfl, ?_, Or.inr ?_, h9.trans (SETJ.out _ h9.1)⟩
                · rw [← H2.out.2.1]; simp only [sk]; rw [if_neg HX10.out]
                · rcases H2.out.2.2.2 with h | h
                  · rw [(List.cons.inj h).2]; exact Nat.le_refl _
                  · simp only [List.length_cons] at h; omega
      · subst g3
        have G2 := Lib.hid g2
        clear g2
        go_wp2_with fail
        refine (hwh _).mono ?_; rintro e w' ⟨rfl, rfl⟩
        have b37 : ((c.toNat : Int) == 37) = false := by rw [G2.out]; rfl
        have b47 : ((c.toNat : Int) == 47) = true := by rw [G2.out]; rfl
        obtain ⟨i2, e0', e1', hi2, hb2⟩ := suf_at (suf_tail HN.out.2.2)
        have h12 : i2 = i + 1 := by rw [← e0', ← e1]
        subst h12
        have hd2 : decide ((i : Int) + 1 < S.length) = true := decide_eq_true (by omega)
        go_wp2_with fail
        go_quiet (fail)
        go_upto_region 10 with fail
        refine nmw (K := Nw p (SN S (c :: 42 :: r2) row er b) w) (by exact XB.out.trans (Nw.drewN XB.out.1 _)) (fun wC hC => ?_)
        have XC := Lib.hid hC
        clear hC c0 c1 f1
        obtain ⟨⟨c0, c1, -⟩, f1, -⟩ := five' XC.out.1
        rw [e0] at c1
        go_wp2_with fail
        go_loopg [4] r2.length (GB p w S row er b R (c :: 42 :: r2) r2)
        case atStart => exact ⟨r2, suf_tail (suf_tail HN.out.2.2), rfl, by rw [← HQ.out]; exact HN.out.2.1, Nat.le_refl _, by rw [e1']; rfl, XC.out⟩
        case round =>
          obtain ⟨l2, hl2, rfl, hR2, hle, rfl, hN2⟩ := hrel
          clear c0 c1 f1 hd hw1 hw2 b37 b47 hb hb2 hd2
          obtain ⟨⟨c0, c1, -⟩, f1, -⟩ := five' hN2.1
          rw [e0] at c1
          have H2 := Lib.hid (And.intro hN2 (And.intro hR2 (And.intro hl2 hle)))
          clear hN2 hR2 hle
          obtain ⟨j, hj⟩ : ∃ j, S.length - l2.length = j := ⟨_, rfl⟩
          have hjS : j + l2.length = S.length := by have := hl2.length_le; omega
          rw [hj]
          have hw1 : wrap64 ((j : Int) + 1) = ((j + 1 : Nat) : Int) := by unfold wrap64; omega
          have hw2 : wrap64 ((j : Int) + 2) = ((j + 2 : Nat) : Int) := by unfold wrap64; omega
          have HJ := Lib.hid (And.intro hj hjS)
          clear hj hl2
          by_cases hsh : l2.length ≤ 1
          · have hd1 : decide ((j : Int) + 1 < S.length) = false := decide_eq_false (by omega)
            have hd2 : decide ((S.length : Int) ≤ (j : Int) + 1) = true := decide_eq_true (by omega)
            have HE : Hid (sk .bk (c :: 42 :: r2) l2 = (false, c :: 42 :: r2)) := Lib.hid (by
              match l2, hsh with
              | [], _ => rfl
              | [x], _ => simp [sk])
            clear hsh hjS
            go_wp2_with fail
            go_ret
            exact ⟨by rw [← H2.out.2.1, HE.out]; rfl, by rw [← H2.out.2.1, HE.out]; exact H2.out.1⟩
          · obtain ⟨x, y, z, rfl⟩ : ∃ x y z, l2 = x :: y :: z := by
              match l2, hsh with
              | x :: y :: z, _ => exact ⟨x, y, z, rfl⟩
              | [], h => exact absurd (by simp) h
              | [x], h => exact absurd (by simp) h
            have hln : j + 2 + z.length = S.length := by simp only [List.length_cons] at hjS; omega
            have hd1 : decide ((j : Int) + 1 < S.length) = true := decide_eq_true (by omega)
            have hd2 : decide ((S.length : Int) ≤ (j : Int) + 1) = false := decide_eq_false (by omega)
            obtain ⟨q2, hq2⟩ : ∃ q2 : List UInt8, q2 = [x, y] := ⟨_, rfl⟩
            have hsl : ∀ w', Sem.run Tryz.prog (Instr.slice 9 (.string ⟨S.toArray⟩) (some (.int .i64 (j : Int))) (some (.int .i64 ((j : Int) + 2))) none) w' = .ok (.string ⟨q2.toArray⟩) w' := by
              intro w'
              have hz : (⟨S.toArray⟩ : ByteArray).size = S.length := rfl
              have e := run_slice_string (P := Tryz.prog) w' 9 ⟨S.toArray⟩ .i64 .i64 (j : Int) ((j : Int) + 2) Tryz.underlying9 (by omega) (by omega) (by rw [hz]; omega)
              obtain ⟨i', j', ei, ej, hij, hjS', hqx⟩ := piece_at (q := [x, y]) (l := z) H2.out.2.2.1
              have E1 : i' = j := by rw [← ei]; exact HJ.out.1
              have E2 : j' = j + 2 := by rw [← ej]; omega
              rw [show ((j : Int) + 2).toNat = j + 2 by omega, show (j : Int).toNat = j by omega, ext_any, ← E1, ← show j' = i' + 2 by omega, hqx, ← hq2] at e
              rw [E1] at e; exact e
            have SETJ : Hid (∀ W : World, W.heap[p]? = some (SN S (c :: 42 :: r2) row er b) → Nw p (SN S z row er b) W (W.setCell ⟨p, 1, none⟩ (.int .i64 ((j : Int) + 2)))) := Lib.hid fun W hW => by
              show Nw p (.cells #[.string ⟨S.toArray⟩, .int .i64 ((S.length - z.length : Nat) : Int), row, .int .i64 er, .bool b] 39 (0, 0)) W _
              rw [show S.length - z.length = j + 2 by omega]; exact Nw.set hW 1 _
            have HLN := Lib.hid hln
            by_cases hxy : x = 42 ∧ y = 47
            · have bq : (!q2 == [42, 47]) = false := by rw [hq2, hxy.1, hxy.2]; rfl
              have HE : Hid (sk .bk (c :: 42 :: r2) (x :: y :: z) = sk .bt z z) := Lib.hid (by simp only [sk]; rw [if_pos ⟨hxy.1, by rw [hxy.2]; rfl⟩])
              clear hxy hq2 hln hsh hjS
              go_wp2_with fail
              go_roundg z.length
              case measure => have := H2.out.2.2.2; simp only [List.length_cons] at this ⊢; omega
              case rel => exact ⟨z, suf_tail (suf_tail H2.out.2.2.1), rfl, by rw [← H2.out.2.1, HE.out], H2.out.1.trans (SETJ.out _ H2.out.1.1)⟩
            · have bq : (!q2 == [42, 47]) = true := by
                rw [hq2, Bool.not_eq_true', beq_eq_false_iff_ne]; intro h; simp only [List.cons.injEq] at h; exact hxy ⟨h.1, h.2.1⟩
              have HE : Hid (sk .bk (c :: 42 :: r2) (x :: y :: z) = sk .bk (c :: 42 :: r2) (y :: z)) := Lib.hid (by simp only [sk]; rw [if_neg (fun h => hxy ⟨h.1, by simpa using h.2⟩)])
              clear hxy hq2 hln hsh hjS
              go_wp2_with fail
              go_roundg (y :: z).length
              case measure => simp
              case rel => exact ⟨y :: z, suf_tail H2.out.2.2.1, rfl, by rw [← H2.out.2.1, HE.out], by have := H2.out.2.2.2; simp only [List.length_cons] at this ⊢; omega, by rw [show S.length - (y :: z).length = j + 1 by have := HLN.out; simp only [List.length_cons]; omega, hw1], H2.out.1⟩
      · have G2 := Lib.hid g2
        have G3 := Lib.hid g3
        clear g2 g3
        go_wp2_with fail
        refine (hwh _).mono ?_; rintro e w' ⟨rfl, rfl⟩
        have b37 : ((c.toNat : Int) == 37) = false := (beq_byte c 37 37 rfl).trans (decide_eq_false G2.out)
        have b47 : ((c.toNat : Int) == 47) = false := (beq_byte c 47 47 rfl).trans (decide_eq_false G3.out)
        go_wp2_with fail
        go_quiet (fail)
        go_wp2_with fail
        go_ret
        exact ⟨by rw [← HN.out.2.1, HQ.out]; rfl, by rw [← HN.out.2.1, HQ.out]; exact XB.out.trans (Nw.drewN XB.out.1 _)⟩
      · have G2 := Lib.hid g2
        clear g2
        go_wp2_with fail
        refine (hwh _).mono ?_; rintro e w' ⟨rfl, rfl⟩
        subst g3
        have b37 : ((c.toNat : Int) == 37) = false := by rw [G2.out]; rfl
        have b47 : ((c.toNat : Int) == 47) = true := by rw [G2.out]; rfl
        have hSi : S.length = i + 1 := by simpa using e1
        have hd2 : decide ((i : Int) + 1 < S.length) = false := decide_eq_false (by omega)
        go_wp2_with fail
        go_quiet (fail)
        go_wp2_with fail
        go_ret
        exact ⟨by rw [← HN.out.2.1, HQ.out]; rfl, by rw [← HN.out.2.1, HQ.out]; exact XB.out.trans (Nw.drewN XB.out.1 _)⟩
      · have G2 := Lib.hid g2
        clear g2
        go_wp2_with fail
        refine (hwh _).mono ?_; rintro e w' ⟨rfl, rfl⟩
        subst g3
        have b37 : ((c.toNat : Int) == 37) = false := by rw [G2.out]; rfl
        have b47 : ((c.toNat : Int) == 47) = true := by rw [G2.out]; rfl
        clear G2
        have b42 : ((d.toNat : Int) == 42) = false := (beq_byte d 42 42 rfl).trans (decide_eq_false g4)
        obtain ⟨i2, e0', e1', hi2, hb2⟩ := suf_at (suf_tail HN.out.2.2)
        have h12 : i2 = i + 1 := by rw [← e0', ← e1]
        subst h12
        have hd2 : decide ((i : Int) + 1 < S.length) = true := decide_eq_true (by omega)
        go_wp2_with fail
        go_quiet (fail)
        go_wp2_with fail
        go_ret
        exact ⟨by rw [← HN.out.2.1, HQ.out]; rfl, by rw [← HN.out.2.1, HQ.out]; exact XB.out.trans (Nw.drewN XB.out.1 _)⟩
end
end Go.Proofs.YtdcidfpoojodmaaGreatDoor.tr
