/- A scope with three labels. The project's machine: punct, number, skip (three labels). -/
import Derived.Test.YtedbcmagjbgbjaaGreatDoorTkA
namespace Go.Proofs.YtedbcmagjbgbjaaGreatDoor.tk
open Go.ChangeShapes Go.WideShapes Go.ChangeAt Go.RowKit Go.Maps
open Go.Proofs.YtedbcmagjbgbjaaGreatDoor.kp Go.Proofs.YtedbcmagjbgbjaaGreatDoor.num Go.Proofs.YtedbcmagjbgbjaaGreatDoor.dec
set_option linter.unusedVariables false
def d3 (J0 J1 J2 : Nat → Act → World → Prop) (n : Nat) (Q : Exit → Act → World → Prop) : Exit → Act → World → Prop
  | .goto l, a, w => ∃ n', n' < n ∧ ((l = 0 ∧ J0 n' a w) ∨ (l = 1 ∧ J1 n' a w) ∨ (l = 2 ∧ J2 n' a w))
  | e, a, w => Q e a w
theorem wp_scope_three {P : Program} {a : Act} {w : World} {Q : Exit → Act → World → Prop} {c D0 D1 D2 : Code} (J0 J1 J2 : Nat → Act → World → Prop)
    (h0 : findLabel c 0 = some (Code.skip.seq D0)) (h1 : (∃ n a w, J1 n a w) → findLabel c 1 = some (Code.skip.seq D1)) (h2 : (∃ n a w, J2 n a w) → findLabel c 2 = some (Code.skip.seq D2))
    (p1 : ∀ n a w, J1 n a w → D1.wp P (d3 J0 J1 J2 n Q) a w) (p2 : ∀ n a w, J2 n a w → D2.wp P (d3 J0 J1 J2 n Q) a w)
    (p0 : ∀ n a w, J0 n a w → D0.wp P (d3 J0 J1 J2 n Q) a w)
    (first : (∀ n a w, J0 n a w → D0.wp P (d3 J0 J1 J2 n Q) a w) → ∃ n0, c.wp P (d3 J0 J1 J2 n0 Q) a w) : (Code.scope c).wp P Q a w := by
  obtain ⟨n0, first⟩ := first p0
  intro b k cs
  have hl : ∀ (l : Nat) (n : Nat) (a : Act) (w : World), ((l = 0 ∧ J0 n a w) ∨ (l = 1 ∧ J1 n a w) ∨ (l = 2 ∧ J2 n a w)) → ∃ r, findLabel c l = some r ∧ r.wp P (d3 J0 J1 J2 n Q) a w := by
    rintro l n a w (⟨rfl, h⟩ | ⟨rfl, h⟩ | ⟨rfl, h⟩)
    · exact ⟨_, h0, wp_seq (wp_skip (p0 n a w h))⟩
    · exact ⟨_, h1 ⟨_, _, _, h⟩, wp_seq (wp_skip (p1 n a w h))⟩
    · exact ⟨_, h2 ⟨_, _, _, h⟩, wp_seq (wp_skip (p2 n a w h))⟩
  have key : ∀ n l a w, ((l = 0 ∧ J0 n a w) ∨ (l = 1 ∧ J1 n a w) ∨ (l = 2 ∧ J2 n a w)) → ∀ r, findLabel c l = some r → ∃ e a' w', Q e a' w' ∧ Arrives P (lone (b.at a (.code r :: .inScope c :: k)) cs w) b k cs e a' w' := by
    intro n
    induction n using Nat.strongRecOn with
    | _ n ih =>
      intro l a w hJ r hr
      obtain ⟨r', hr', hp⟩ := hl l n a w hJ
      obtain rfl : r' = r := Option.some.inj (hr'.symm.trans hr)
      obtain ⟨e, a₁, w₁, hq, harr⟩ := hp b (.inScope c :: k) cs
      cases e with
      | normal => exact ⟨.normal, a₁, w₁, hq, Steps.trans harr (.one step_inScope)⟩
      | exit id => exact ⟨.exit id, a₁, w₁, hq, fun k' hk => harr k' (by simp [exitTo, hk])⟩
      | goto l' =>
        obtain ⟨n', hn', hJ'⟩ := hq
        obtain ⟨r2, hr2, _⟩ := hl l' n' a₁ w₁ hJ'
        have g : gotoIn l' (.inScope c :: k) = some (.code r2 :: .inScope c :: k) := by simp [gotoIn, hr2]
        obtain ⟨e₂, a₂, w₂, hq₂, harr₂⟩ := ih n' hn' l' a₁ w₁ hJ' r2 hr2
        exact ⟨e₂, a₂, w₂, hq₂, .of_steps (harr _ g) harr₂⟩
      | ret => exact ⟨_, a₁, w₁, hq, harr⟩
      | panic ch => exact ⟨_, a₁, w₁, hq, harr⟩
      | outgrown => exact ⟨_, a₁, w₁, hq, harr⟩
  obtain ⟨e, a₁, w₁, hq, harr⟩ := first b (.inScope c :: k) cs
  cases e with
  | normal => exact ⟨.normal, a₁, w₁, hq, .head step_scope (Steps.trans harr (.one step_inScope))⟩
  | exit id => exact ⟨.exit id, a₁, w₁, hq, fun k' hk => .head step_scope (harr k' (by simp [exitTo, hk]))⟩
  | goto l' =>
    obtain ⟨n', hn', hJ'⟩ := hq
    obtain ⟨r2, hr2, _⟩ := hl l' n' a₁ w₁ hJ'
    have g : gotoIn l' (.inScope c :: k) = some (.code r2 :: .inScope c :: k) := by simp [gotoIn, hr2]
    obtain ⟨e₂, a₂, w₂, hq₂, harr₂⟩ := key n' l' a₁ w₁ hJ' r2 hr2
    exact ⟨e₂, a₂, w₂, hq₂, .of_steps (.head step_scope (harr _ g)) harr₂⟩
  | ret => exact ⟨_, a₁, w₁, hq, .of_steps (.one step_scope) harr⟩
  | panic ch => exact ⟨_, a₁, w₁, hq, .of_steps (.one step_scope) harr⟩
  | outgrown => exact ⟨_, a₁, w₁, hq, .of_steps (.one step_scope) harr⟩
theorem Nw.setAt {w : World} {p : Nat} {S l b : List UInt8} {k : Int} {t : List UInt8} {n re im a en : Int} (h : w.heap[p]? = some (MO S l b k t n re im a en)) (l' : List UInt8) :
    Nw p (MO S l' b k t n re im a en) w (w.setCell ⟨p, 1, none⟩ (.int .i64 ((S.length - l'.length : Nat) : Int))) := Nw.set h 1 _
theorem Nw.setBegin {w : World} {p : Nat} {S l b : List UInt8} {k : Int} {t : List UInt8} {n re im a en : Int} (h : w.heap[p]? = some (MO S l b k t n re im a en)) (b' : List UInt8) :
    Nw p (MO S l b' k t n re im a en) w (w.setCell ⟨p, 2, none⟩ (.int .i64 ((S.length - b'.length : Nat) : Int))) := Nw.set h 2 _
theorem suf_tail {S r : List UInt8} {c : UInt8} (h : c :: r <:+ S) : r <:+ S := (List.suffix_cons _ _).trans h
theorem beq_byte (c : UInt8) (n : Nat) (d : UInt8) (h : d.toNat = n) : ((c.toNat : Int) == (n : Int)) = decide (c = d) := by
  rw [Bool.eq_iff_iff]; simp [← UInt8.toNat_inj, h]; omega
/-! ### white space and remarks -/
def JK (md : Md) (p : Nat) (w0 : World) (S : List UInt8) (k : Int) (t : List UInt8) (n re im a en : Int) (R : Bool × List UInt8) (z : Nat) (a' : Act) (w' : World) : Prop :=
  ∃ (l b : List UInt8) (x : Value) (U : Nat → Value), l <:+ S ∧ b <:+ S ∧ z = 2 * l.length + (match md with | .bt => 0 | _ => 1) ∧ sk md b l = R ∧ Nw p (MO S l b k t n re im a en) w0 w' ∧
    a' = { tmps := (.pointer (some ⟨p, 0, none⟩) :: U 1 :: .int .i64 0 :: x :: U 4 :: U 5 :: U 6 :: U 7 :: U 8 :: U 9 :: U 10 :: U 11 :: U 12 :: U 13 :: U 14 :: U 15 :: U 16 :: U 17 :: U 18 :: U 19 :: U 20 :: U 21 :: U 22 :: U 23 :: U 24 :: U 25 :: U 26 :: U 27 :: U 28 :: U 29 :: U 30 :: U 31 :: U 32 :: U 33 :: U 34 :: U 35 :: U 36 :: U 37 :: U 38 :: U 39 :: U 40 :: U 41 :: U 42 :: U 43 :: U 44 :: U 45 :: U 46 :: U 47 :: U 48 :: U 49 :: U 50 :: U 51 :: U 52 :: U 53 :: U 54 :: U 55 :: U 56 :: []).toArray, defers := [] }
theorem JK.mk {md : Md} {p : Nat} {w0 : World} {S : List UInt8} {k : Int} {t : List UInt8} {n re im a en : Int} {R : Bool × List UInt8} {z : Nat} {a' : Act} {w' : World} (l b : List UInt8) (x : Value)
    (h1 : l <:+ S) (h2 : b <:+ S) (h3 : z = 2 * l.length + (match md with | .bt => 0 | _ => 1)) (h4 : sk md b l = R) (h5 : Nw p (MO S l b k t n re im a en) w0 w')
    (h : a' = { tmps := (.pointer (some ⟨p, 0, none⟩) :: a'.tmps.getD 1 undef :: .int .i64 0 :: x :: a'.tmps.getD 4 undef :: a'.tmps.getD 5 undef :: a'.tmps.getD 6 undef :: a'.tmps.getD 7 undef :: a'.tmps.getD 8 undef :: a'.tmps.getD 9 undef :: a'.tmps.getD 10 undef :: a'.tmps.getD 11 undef :: a'.tmps.getD 12 undef :: a'.tmps.getD 13 undef :: a'.tmps.getD 14 undef :: a'.tmps.getD 15 undef :: a'.tmps.getD 16 undef :: a'.tmps.getD 17 undef :: a'.tmps.getD 18 undef :: a'.tmps.getD 19 undef :: a'.tmps.getD 20 undef :: a'.tmps.getD 21 undef :: a'.tmps.getD 22 undef :: a'.tmps.getD 23 undef :: a'.tmps.getD 24 undef :: a'.tmps.getD 25 undef :: a'.tmps.getD 26 undef :: a'.tmps.getD 27 undef :: a'.tmps.getD 28 undef :: a'.tmps.getD 29 undef :: a'.tmps.getD 30 undef :: a'.tmps.getD 31 undef :: a'.tmps.getD 32 undef :: a'.tmps.getD 33 undef :: a'.tmps.getD 34 undef :: a'.tmps.getD 35 undef :: a'.tmps.getD 36 undef :: a'.tmps.getD 37 undef :: a'.tmps.getD 38 undef :: a'.tmps.getD 39 undef :: a'.tmps.getD 40 undef :: a'.tmps.getD 41 undef :: a'.tmps.getD 42 undef :: a'.tmps.getD 43 undef :: a'.tmps.getD 44 undef :: a'.tmps.getD 45 undef :: a'.tmps.getD 46 undef :: a'.tmps.getD 47 undef :: a'.tmps.getD 48 undef :: a'.tmps.getD 49 undef :: a'.tmps.getD 50 undef :: a'.tmps.getD 51 undef :: a'.tmps.getD 52 undef :: a'.tmps.getD 53 undef :: a'.tmps.getD 54 undef :: a'.tmps.getD 55 undef :: a'.tmps.getD 56 undef :: []).toArray, defers := [] }) : JK md p w0 S k t n re im a en R z a' w' :=
  ⟨l, b, x, fun i => a'.tmps.getD i undef, h1, h2, h3, h4, h5, h⟩
theorem sk_bt (b b' l : List UInt8) : sk .bt b l = sk .bt b' l := by cases l <;> rfl
section
variable {w w' : World} {p : Nat} {S l b : List UInt8} {k : Int} {t : List UInt8} {n re im a en : Int}
set_option maxRecDepth 100000 in
set_option maxHeartbeats 4000000 in
theorem skip_any (h : w.heap[p]? = some (MO S l b k t n re im a en)) (hs : l <:+ S) (hb : b <:+ S) (hS : S.length ≤ 65536) (R : Bool × List UInt8) (hR : sk .bt l l = R) :
    Calls Tryz.prog 72 #[.pointer (some ⟨p, 0, none⟩)] w fun e w' => e = .returned (.int .i64 (if R.1 = true then 0 else 2)) ∧ ∃ l', l' <:+ S ∧ (R.1 = true → l' = R.2) ∧ Nw p (MO S l' R.2 k t n re im a en) w w' := by
  have HN := Lib.hid (Nw.same h)
  have H0 := Lib.hid (And.intro hs (And.intro hb hR))
  clear h hs hb hR
  go_enter Tryz.func72, Tryz.ntmps72
  go_wp2_with fail
  refine wp_scope_three (JK .bt p w S k t n re im a en R) (JK .ln p w S k t n re im a en R) (JK .bk p w S k t n re im a en R) rfl (fun _ => rfl) (fun _ => rfl) ?_ ?_ ?_ ?_
  · rintro n9 a9 wr ⟨l, b, x, U, hl, hb, rfl, hk, N, rfl⟩
    have htk := take_any N.1 hl hS
    have HX := Lib.hid (And.intro hl (And.intro hb N))
    cases l with
    | nil =>
      have HK := Lib.hid hk
      clear hl hb N hk
      simp only [List.head?, bi, List.tail] at htk
      go_wp2_with fail
      refine htk.mono ?_; rintro e w1 ⟨rfl, N1⟩
      have HN1 := Lib.hid N1; clear N1
      go_wp2_with fail
      go_step3
      refine ⟨0, by simp, Or.inl ⟨rfl, JK.mk [] b _ HX.out.1 HX.out.2.1 (by simp) ?_ (HX.out.2.2.trans HN1.out) rfl⟩⟩
      rw [← HK.out]; rfl
    | cons c r =>
      simp only [List.head?, bi, List.tail] at htk
      have hne : (((c.toNat : Int)) == -1) = false := by have := bi_lt c; rw [beq_eq_false_iff_ne]; omega
      rw [sk] at hk
      have h10 := beq_byte c 10 10 rfl
      clear hl hb N
      by_cases hc : c = 10
      · rw [if_pos hc] at hk
        have HK := Lib.hid hk
        rw [decide_eq_true hc] at h10
        have h10 := show ((c.toNat : Int) == 10) = true from h10
        clear hc hk
        go_wp2_with fail
        refine htk.mono ?_; rintro e w1 ⟨rfl, N1⟩
        have HN1 := Lib.hid N1; clear N1
        go_wp2_with fail
        go_step3
        refine ⟨2 * r.length, by simp only [List.length_cons]; omega, Or.inl ⟨rfl, JK.mk r b _ (suf_tail HX.out.1) HX.out.2.1 (by simp) ?_ (HX.out.2.2.trans HN1.out) rfl⟩⟩
        rw [← HK.out]; exact sk_bt _ _ _
      · rw [if_neg hc] at hk
        have HK := Lib.hid hk
        rw [decide_eq_false hc] at h10
        have h10 := show ((c.toNat : Int) == 10) = false from h10
        clear hc hk
        go_wp2_with fail
        refine htk.mono ?_; rintro e w1 ⟨rfl, N1⟩
        have HN1 := Lib.hid N1; clear N1
        go_wp2_with fail
        go_step3
        refine ⟨2 * r.length + 1, by simp only [List.length_cons]; omega, Or.inr (Or.inl ⟨rfl, JK.mk r b _ (suf_tail HX.out.1) HX.out.2.1 rfl HK.out (HX.out.2.2.trans HN1.out) rfl⟩)⟩
  · rintro n9 a9 wr ⟨l, b, x, U, hl, hb, rfl, hk, N, rfl⟩
    have htk := take_any N.1 hl hS
    have HX := Lib.hid (And.intro hl (And.intro hb N))
    cases l with
    | nil =>
      have HK := Lib.hid hk
      clear hl hb N hk
      simp only [List.head?, bi, List.tail] at htk
      go_wp2_with fail
      refine htk.mono ?_; rintro e w1 ⟨rfl, N1⟩
      have HN1 := Lib.hid N1; clear N1
      go_wp2_with fail
      simp only [d3]
      change bodyPost _ _ _ Exit.ret _ _
      go_ret
      rw [← HK.out]
      exact ⟨rfl, [], HX.out.1, (fun h => by cases h), HX.out.2.2.trans HN1.out⟩
    | cons c r =>
      simp only [List.head?, bi, List.tail] at htk
      have hne : (((c.toNat : Int)) == -1) = false := by have := bi_lt c; rw [beq_eq_false_iff_ne]; omega
      rw [sk] at hk
      have h42 := beq_byte c 42 42 rfl
      clear hl hb N
      by_cases hc : c = 42
      · rw [decide_eq_true hc] at h42
        have h42 := show ((c.toNat : Int) == 42) = true from h42
        have HC := Lib.hid hc
        cases r with
        | nil =>
          rw [if_neg (by simp)] at hk
          have HK := Lib.hid hk
          clear hc hk
          go_wp2_with fail
          refine htk.mono ?_; rintro e w1 ⟨rfl, N1⟩
          have hpk := peek_any N1.1 (suf_tail HX.out.1) hS
          have HN1 := Lib.hid N1; clear N1
          simp only [List.head?, bi] at hpk
          go_wp2_with fail
          refine hpk.mono ?_; rintro e w2 ⟨rfl, N2⟩
          have HN2 := Lib.hid N2; clear N2
          go_wp2_with fail
          go_step3
          exact ⟨1, by simp, Or.inr (Or.inr ⟨rfl, JK.mk [] b _ (suf_tail HX.out.1) HX.out.2.1 rfl HK.out (HX.out.2.2.trans (HN1.out.trans HN2.out)) rfl⟩)⟩
        | cons d r' =>
          have h47 := beq_byte d 47 47 rfl
          by_cases hd : d = 47
          · rw [if_pos ⟨hc, by rw [hd]; rfl⟩, sk] at hk
            have HK := Lib.hid hk
            rw [decide_eq_true hd] at h47
            have h47 := show ((d.toNat : Int) == 47) = true from h47
            clear hc hk hd
            go_wp2_with fail
            refine htk.mono ?_; rintro e w1 ⟨rfl, N1⟩
            have hpk := peek_any N1.1 (suf_tail HX.out.1) hS
            have HN1 := Lib.hid N1; clear N1
            simp only [List.head?, bi] at hpk
            go_wp2_with fail
            refine hpk.mono ?_; rintro e w2 ⟨rfl, N2⟩
            have htk2 := take_any N2.1 (suf_tail HX.out.1) hS
            have HN2 := Lib.hid N2; clear N2
            simp only [List.tail] at htk2
            go_wp2_with fail
            refine htk2.mono ?_; rintro e w3 ⟨rfl, N3⟩
            have HN3 := Lib.hid N3; clear N3
            go_wp2_with fail
            go_step3
            refine ⟨2 * r'.length, by simp; omega, Or.inl ⟨rfl, JK.mk r' b _ (suf_tail (suf_tail HX.out.1)) HX.out.2.1 (by simp) ?_ (HX.out.2.2.trans (HN1.out.trans (HN2.out.trans HN3.out))) rfl⟩⟩
            rw [← HK.out]; exact sk_bt _ _ _
          · rw [if_neg (by simp [hd])] at hk
            have HK := Lib.hid hk
            rw [decide_eq_false hd] at h47
            have h47 := show ((d.toNat : Int) == 47) = false from h47
            clear hc hk hd
            go_wp2_with fail
            refine htk.mono ?_; rintro e w1 ⟨rfl, N1⟩
            have hpk := peek_any N1.1 (suf_tail HX.out.1) hS
            have HN1 := Lib.hid N1; clear N1
            simp only [List.head?, bi] at hpk
            go_wp2_with fail
            refine hpk.mono ?_; rintro e w2 ⟨rfl, N2⟩
            have HN2 := Lib.hid N2; clear N2
            go_wp2_with fail
            go_step3
            exact ⟨2 * (d :: r').length + 1, by simp, Or.inr (Or.inr ⟨rfl, JK.mk (d :: r') b _ (suf_tail HX.out.1) HX.out.2.1 rfl HK.out (HX.out.2.2.trans (HN1.out.trans HN2.out)) rfl⟩)⟩
      · rw [if_neg (by simp [hc])] at hk
        have HK := Lib.hid hk
        rw [decide_eq_false hc] at h42
        have h42 := show ((c.toNat : Int) == 42) = false from h42
        clear hc hk
        go_wp2_with fail
        refine htk.mono ?_; rintro e w1 ⟨rfl, N1⟩
        have HN1 := Lib.hid N1; clear N1
        go_wp2_with fail
        go_step3
        exact ⟨2 * r.length + 1, by simp, Or.inr (Or.inr ⟨rfl, JK.mk r b _ (suf_tail HX.out.1) HX.out.2.1 rfl HK.out (HX.out.2.2.trans HN1.out) rfl⟩)⟩
  · rintro n9 a9 wr ⟨l, b, x, U, hl, hb, rfl, hk, N, rfl⟩
    obtain ⟨⟨c0, c1, c2, -⟩, f1, f2, -⟩ := ten N.1
    have N0 := Lib.hid (N.trans (Nw.setBegin N.1 l))
    obtain ⟨w0, hw0⟩ : ∃ w0, w0 = wr.setCell ⟨p, 2, none⟩ (.int .i64 ((S.length - l.length : Nat) : Int)) := ⟨_, rfl⟩
    rw [← hw0] at N0
    have HW := Lib.hid hw0
    have htk := take_any N0.out.1 hl hS
    have HX := Lib.hid (And.intro hl (And.intro hb N))
    clear hb N hw0
    go_upto_region 3 with fail
    rw [← HW.out]
    clear c0 c1 c2 f1 f2
    cases l with
    | nil =>
      have HK := Lib.hid hk
      have hof := fun w => isOf_any blankL none w
      clear hl hk
      simp only [List.head?, bi, List.tail, memO] at htk hof
      go_wp2_with fail
      refine htk.mono ?_; rintro e w1 ⟨rfl, N1⟩
      obtain ⟨⟨c0, c1, c2, -⟩, f1, f2, -⟩ := ten N1.1
      have HN1 := Lib.hid N1; clear N1
      go_wp2_with fail
      refine (hof _).mono ?_; rintro e w' ⟨rfl, rfl⟩
      go_wp2_with fail
      simp only [d3]
      change bodyPost _ _ _ Exit.ret _ _
      go_ret
      rw [← HK.out]
      exact ⟨rfl, [], HX.out.1, (fun _ => rfl), N0.out.trans (HN1.out.trans (Nw.setAt HN1.out.1 _))⟩
    | cons c r =>
      have hof := fun w => isOf_any blankL (some c) w
      simp only [List.head?, bi, List.tail, memO] at htk hof
      rw [sk] at hk
      by_cases hm : mem blankL c = true
      · rw [if_pos hm] at hk
        rw [hm] at hof
        have HK := Lib.hid hk
        clear hk hm hl
        go_wp2_with fail
        refine htk.mono ?_; rintro e w1 ⟨rfl, N1⟩
        have HN1 := Lib.hid N1; clear N1
        go_wp2_with fail
        refine (hof _).mono ?_; rintro e w' ⟨rfl, rfl⟩
        go_wp2_with fail
        go_step3
        refine ⟨2 * r.length, by simp, Or.inl ⟨rfl, JK.mk r (c :: r) _ (suf_tail HX.out.1) HX.out.1 (by simp) ?_ (N0.out.trans HN1.out) rfl⟩⟩
        rw [← HK.out]; exact sk_bt _ _ _
      · rw [if_neg hm] at hk
        simp only [Bool.not_eq_true] at hm
        rw [hm] at hof
        have h37 := beq_byte c 37 37 rfl
        by_cases hc : c = 37
        · rw [if_pos hc] at hk
          have HK := Lib.hid hk
          rw [decide_eq_true hc] at h37
          have h37 := show ((c.toNat : Int) == 37) = true from h37
          clear hk hm hc hl
          go_wp2_with fail
          refine htk.mono ?_; rintro e w1 ⟨rfl, N1⟩
          have HN1 := Lib.hid N1; clear N1
          go_wp2_with fail
          refine (hof _).mono ?_; rintro e w' ⟨rfl, rfl⟩
          go_wp2_with fail
          go_step3
          exact ⟨2 * r.length + 1, by simp only [List.length_cons]; omega, Or.inr (Or.inl ⟨rfl, JK.mk r (c :: r) _ (suf_tail HX.out.1) HX.out.1 rfl HK.out (N0.out.trans HN1.out) rfl⟩)⟩
        · rw [if_neg hc] at hk
          rw [decide_eq_false hc] at h37
          have h37 := show ((c.toNat : Int) == 37) = false from h37
          have h47 := beq_byte c 47 47 rfl
          by_cases hc2 : c = 47
          · rw [decide_eq_true hc2] at h47
            have h47 := show ((c.toNat : Int) == 47) = true from h47
            cases r with
            | nil =>
              rw [if_neg (by simp)] at hk
              have HK := Lib.hid hk
              clear hk hm hc hc2 hl
              go_wp2_with fail
              refine htk.mono ?_; rintro e w1 ⟨rfl, N1⟩
              have hpk := peek_any N1.1 (suf_tail HX.out.1) hS
              simp only [List.head?, bi] at hpk
              have HN1 := Lib.hid N1; clear N1
              go_wp2_with fail
              refine (hof _).mono ?_; rintro e w' ⟨rfl, rfl⟩
              go_wp2_with fail
              refine hpk.mono ?_; rintro e w2 ⟨rfl, N2⟩
              obtain ⟨⟨c0, c1, c2, -⟩, f1, f2, -⟩ := ten N2.1
              have HN2 := Lib.hid N2; clear N2
              go_wp2_with fail
              simp only [d3]
              change bodyPost _ _ _ Exit.ret _ _
              go_ret
              rw [← HK.out]
              exact ⟨rfl, [c], HX.out.1, (fun _ => rfl), N0.out.trans (HN1.out.trans (HN2.out.trans (Nw.setAt HN2.out.1 _)))⟩
            | cons d r' =>
              have h42 := beq_byte d 42 42 rfl
              by_cases hd : d = 42
              · rw [if_pos ⟨hc2, by rw [hd]; rfl⟩, sk] at hk
                have HK := Lib.hid hk
                rw [decide_eq_true hd] at h42
                have h42 := show ((d.toNat : Int) == 42) = true from h42
                clear hk hm hc hc2 hl hd
                go_wp2_with fail
                refine htk.mono ?_; rintro e w1 ⟨rfl, N1⟩
                have hpk := peek_any N1.1 (suf_tail HX.out.1) hS
                simp only [List.head?, bi] at hpk
                have HN1 := Lib.hid N1; clear N1
                go_wp2_with fail
                refine (hof _).mono ?_; rintro e w' ⟨rfl, rfl⟩
                go_wp2_with fail
                refine hpk.mono ?_; rintro e w2 ⟨rfl, N2⟩
                have htk2 := take_any N2.1 (suf_tail HX.out.1) hS
                have HN2 := Lib.hid N2; clear N2
                simp only [List.tail] at htk2
                go_wp2_with fail
                refine htk2.mono ?_; rintro e w3 ⟨rfl, N3⟩
                have HN3 := Lib.hid N3; clear N3
                go_wp2_with fail
                go_step3
                exact ⟨2 * r'.length + 1, by simp; omega, Or.inr (Or.inr ⟨rfl, JK.mk r' (c :: d :: r') _ (suf_tail (suf_tail HX.out.1)) HX.out.1 rfl HK.out (N0.out.trans (HN1.out.trans (HN2.out.trans HN3.out))) rfl⟩)⟩
              · rw [if_neg (by simp [hd])] at hk
                have HK := Lib.hid hk
                rw [decide_eq_false hd] at h42
                have h42 := show ((d.toNat : Int) == 42) = false from h42
                clear hk hm hc hc2 hl hd
                go_wp2_with fail
                refine htk.mono ?_; rintro e w1 ⟨rfl, N1⟩
                have hpk := peek_any N1.1 (suf_tail HX.out.1) hS
                simp only [List.head?, bi] at hpk
                have HN1 := Lib.hid N1; clear N1
                go_wp2_with fail
                refine (hof _).mono ?_; rintro e w' ⟨rfl, rfl⟩
                go_wp2_with fail
                refine hpk.mono ?_; rintro e w2 ⟨rfl, N2⟩
                obtain ⟨⟨c0, c1, c2, -⟩, f1, f2, -⟩ := ten N2.1
                have HN2 := Lib.hid N2; clear N2
                go_wp2_with fail
                simp only [d3]
                change bodyPost _ _ _ Exit.ret _ _
                go_ret
                rw [← HK.out]
                exact ⟨rfl, c :: d :: r', HX.out.1, (fun _ => rfl), N0.out.trans (HN1.out.trans (HN2.out.trans (Nw.setAt HN2.out.1 _)))⟩
          · rw [if_neg (by simp [hc2])] at hk
            rw [decide_eq_false hc2] at h47
            have h47 := show ((c.toNat : Int) == 47) = false from h47
            have HK := Lib.hid hk
            clear hk hm hc hc2 hl
            go_wp2_with fail
            refine htk.mono ?_; rintro e w1 ⟨rfl, N1⟩
            obtain ⟨⟨c0, c1, c2, -⟩, f1, f2, -⟩ := ten N1.1
            have HN1 := Lib.hid N1; clear N1
            go_wp2_with fail
            refine (hof _).mono ?_; rintro e w' ⟨rfl, rfl⟩
            go_wp2_with fail
            simp only [d3]
            change bodyPost _ _ _ Exit.ret _ _
            go_ret
            rw [← HK.out]
            exact ⟨rfl, c :: r, HX.out.1, (fun _ => rfl), N0.out.trans (HN1.out.trans (Nw.setAt HN1.out.1 _))⟩
  · intro dn
    refine ⟨2 * l.length, ?_⟩
    go_wp2_with fail
    refine wp_label ?_
    refine (by assumption : ∀ a w, Code.wp Tryz.prog _ _ a w → _) _ _ ?_
    refine dn _ _ _ (JK.mk l b _ H0.out.1 H0.out.2.1 (by simp) ?_ HN.out rfl)
    rw [← H0.out.2.2]; exact sk_bt _ _ _
end
end Go.Proofs.YtedbcmagjbgbjaaGreatDoor.tk
