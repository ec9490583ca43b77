/- The project's machine: next (two labels). -/
import Derived.Test.YtedbcmagjbgbjaaGreatDoorTkD
namespace Go.Proofs.YtedbcmagjbgbjaaGreatDoor.tk
open Go.ChangeShapes Go.WideShapes Go.ChangeAt Go.RowKit Go.Maps
open Go.Proofs.YtedbcmagjbgbjaaGreatDoor.kp Go.Proofs.YtedbcmagjbgbjaaGreatDoor.num Go.Proofs.YtedbcmagjbgbjaaGreatDoor.dec
set_option linter.unusedVariables false
/-- the token that comes next, behind what stands between -/
def nxT (en : Int) (N : Nat) (k : Int) (t : List UInt8) : Bool × List UInt8 → TR
  | (false, _) => .er 2
  | (true, []) => .ok 0 [] 0 0 0 []
  | (true, c :: r) => tok (LA en ((N - (c :: r).length : Nat) : Int) k t) c r
def NEnd (p : Nat) (w0 : World) (S b : List UInt8) (k : Int) (t : List UInt8) (n re im a en : Int) (T : TR) (e : Ending) (w' : World) : Prop :=
  e = .returned (trv T) ∧ ∃ l', l' <:+ S ∧ (∀ k t n re im rest, T = .ok k t n re im rest → l' = rest) ∧ Nw p (MO S l' b k t n re im a en) w0 w'
def wT (kind : Int) (la : Int × List UInt8) (q l : List UInt8) : TR := if kind = 4 then nmb la (q ++ l.takeWhile wd) (l.dropWhile wd) else txt kind (q ++ l.takeWhile wd) (l.dropWhile wd)
def rT (q l : List UInt8) : TR := if q ++ l.takeWhile sg = [46] ∧ stops (l.dropWhile sg) = true then .ok 8 [] 0 0 0 (l.dropWhile sg) else txt 1 (q ++ l.takeWhile sg) (l.dropWhile sg)
theorem wT_more (kind : Int) (la : Int × List UInt8) (q : List UInt8) {c : UInt8} (r : List UInt8) (h : wd c = true) : wT kind la (q ++ [c]) r = wT kind la q (c :: r) := by
  unfold wT; simp [h]
theorem rT_more (q : List UInt8) {c : UInt8} (r : List UInt8) (h : sg c = true) : rT (q ++ [c]) r = rT q (c :: r) := by
  unfold rT; simp [h]
theorem wT_end (kind : Int) (la : Int × List UInt8) (q l : List UInt8) (h : wdO l.head? = false) : wT kind la q l = if kind = 4 then nmb la q l else txt kind q l := by
  unfold wT
  cases l with
  | nil => simp
  | cons c r => simp only [List.head?, wdO] at h; simp [h]
theorem rT_end (q l : List UInt8) (h : memO signL l.head? = false) : rT q l = if q = [46] ∧ stops l = true then .ok 8 [] 0 0 0 l else txt 1 q l := by
  unfold rT
  cases l with
  | nil => simp
  | cons c r => simp only [List.head?, memO] at h; have h' : sg c = false := h; simp [h']
theorem txt_rest {k : Int} {q rest : List UInt8} {k' : Int} {t : List UInt8} {n : Int} {re im : Nat} {r : List UInt8} (h : txt k q rest = .ok k' t n re im r) : rest = r := by
  unfold txt at h; split at h
  · cases h; rfl
  · cases h
theorem nmb_rest {la : Int × List UInt8} {q rest : List UInt8} {k' : Int} {t : List UInt8} {n : Int} {re im : Nat} {r : List UInt8} (h : nmb la q rest = .ok k' t n re im r) : rest = r := by
  unfold nmb at h
  repeat' split at h
  all_goals first | (cases h; rfl) | cases h
theorem pun_rest {la : Int × List UInt8} {c : UInt8} {q : List UInt8} {k' : Int} {t : List UInt8} {n : Int} {re im : Nat} {r : List UInt8} (h : pun la c q = .ok k' t n re im r) : q = r := by
  unfold pun at h; split at h
  · cases h; rfl
  · exact txt_rest h
def JW (p r0 : Nat) (w0 : World) (S b : List UInt8) (k : Int) (t : List UInt8) (n re im a en : Int) (T : TR) (z : Nat) (a' : Act) (w' : World) : Prop :=
  ∃ (q l : List UInt8) (kind : Int) (x y : Value) (U : Nat → Value), b = q ++ l ∧ z = l.length ∧ wT kind (LA en ((S.length - b.length : Nat) : Int) k t) q l = T ∧ Door p r0 w0 w' (MO S l b k t n re im a en) ∧
    a' = { tmps := (.pointer (some ⟨p, 0, none⟩) :: U 1 :: .pointer (some ⟨r0, 0, none⟩) :: .int .i64 0 :: x :: .int .i64 kind :: y :: U 7 :: U 8 :: U 9 :: U 10 :: U 11 :: U 12 :: U 13 :: U 14 :: U 15 :: U 16 :: U 17 :: U 18 :: U 19 :: U 20 :: U 21 :: U 22 :: U 23 :: U 24 :: U 25 :: U 26 :: U 27 :: U 28 :: U 29 :: U 30 :: U 31 :: U 32 :: U 33 :: U 34 :: U 35 :: U 36 :: U 37 :: U 38 :: U 39 :: U 40 :: U 41 :: U 42 :: U 43 :: U 44 :: U 45 :: U 46 :: U 47 :: U 48 :: U 49 :: U 50 :: U 51 :: U 52 :: U 53 :: U 54 :: U 55 :: U 56 :: U 57 :: U 58 :: U 59 :: U 60 :: U 61 :: U 62 :: U 63 :: U 64 :: U 65 :: U 66 :: U 67 :: U 68 :: U 69 :: U 70 :: U 71 :: U 72 :: U 73 :: U 74 :: U 75 :: U 76 :: U 77 :: U 78 :: U 79 :: U 80 :: U 81 :: U 82 :: U 83 :: U 84 :: U 85 :: U 86 :: U 87 :: U 88 :: U 89 :: U 90 :: U 91 :: U 92 :: []).toArray, defers := [] }
theorem JW.mk {p r0 : Nat} {w0 : World} {S b : List UInt8} {k : Int} {t : List UInt8} {n re im a en : Int} {T : TR} {z : Nat} {a' : Act} {w' : World} (q l : List UInt8) (kind : Int) (x y : Value)
    (h1 : b = q ++ l) (h2 : z = l.length) (h3 : wT kind (LA en ((S.length - b.length : Nat) : Int) k t) q l = T) (h4 : Door p r0 w0 w' (MO S l b k t n re im a en))
    (h : a' = { tmps := (.pointer (some ⟨p, 0, none⟩) :: a'.tmps.getD 1 undef :: .pointer (some ⟨r0, 0, none⟩) :: .int .i64 0 :: x :: .int .i64 kind :: y :: a'.tmps.getD 7 undef :: a'.tmps.getD 8 undef :: a'.tmps.getD 9 undef :: a'.tmps.getD 10 undef :: a'.tmps.getD 11 undef :: a'.tmps.getD 12 undef :: a'.tmps.getD 13 undef :: a'.tmps.getD 14 undef :: a'.tmps.getD 15 undef :: a'.tmps.getD 16 undef :: a'.tmps.getD 17 undef :: a'.tmps.getD 18 undef :: a'.tmps.getD 19 undef :: a'.tmps.getD 20 undef :: a'.tmps.getD 21 undef :: a'.tmps.getD 22 undef :: a'.tmps.getD 23 undef :: a'.tmps.getD 24 undef :: a'.tmps.getD 25 undef :: a'.tmps.getD 26 undef :: a'.tmps.getD 27 undef :: a'.tmps.getD 28 undef :: a'.tmps.getD 29 undef :: a'.tmps.getD 30 undef :: a'.tmps.getD 31 undef :: a'.tmps.getD 32 undef :: a'.tmps.getD 33 undef :: a'.tmps.getD 34 undef :: a'.tmps.getD 35 undef :: a'.tmps.getD 36 undef :: a'.tmps.getD 37 undef :: a'.tmps.getD 38 undef :: a'.tmps.getD 39 undef :: a'.tmps.getD 40 undef :: a'.tmps.getD 41 undef :: a'.tmps.getD 42 undef :: a'.tmps.getD 43 undef :: a'.tmps.getD 44 undef :: a'.tmps.getD 45 undef :: a'.tmps.getD 46 undef :: a'.tmps.getD 47 undef :: a'.tmps.getD 48 undef :: a'.tmps.getD 49 undef :: a'.tmps.getD 50 undef :: a'.tmps.getD 51 undef :: a'.tmps.getD 52 undef :: a'.tmps.getD 53 undef :: a'.tmps.getD 54 undef :: a'.tmps.getD 55 undef :: a'.tmps.getD 56 undef :: a'.tmps.getD 57 undef :: a'.tmps.getD 58 undef :: a'.tmps.getD 59 undef :: a'.tmps.getD 60 undef :: a'.tmps.getD 61 undef :: a'.tmps.getD 62 undef :: a'.tmps.getD 63 undef :: a'.tmps.getD 64 undef :: a'.tmps.getD 65 undef :: a'.tmps.getD 66 undef :: a'.tmps.getD 67 undef :: a'.tmps.getD 68 undef :: a'.tmps.getD 69 undef :: a'.tmps.getD 70 undef :: a'.tmps.getD 71 undef :: a'.tmps.getD 72 undef :: a'.tmps.getD 73 undef :: a'.tmps.getD 74 undef :: a'.tmps.getD 75 undef :: a'.tmps.getD 76 undef :: a'.tmps.getD 77 undef :: a'.tmps.getD 78 undef :: a'.tmps.getD 79 undef :: a'.tmps.getD 80 undef :: a'.tmps.getD 81 undef :: a'.tmps.getD 82 undef :: a'.tmps.getD 83 undef :: a'.tmps.getD 84 undef :: a'.tmps.getD 85 undef :: a'.tmps.getD 86 undef :: a'.tmps.getD 87 undef :: a'.tmps.getD 88 undef :: a'.tmps.getD 89 undef :: a'.tmps.getD 90 undef :: a'.tmps.getD 91 undef :: a'.tmps.getD 92 undef :: []).toArray, defers := [] }) : JW p r0 w0 S b k t n re im a en T z a' w' :=
  ⟨q, l, kind, x, y, fun i => a'.tmps.getD i undef, h1, h2, h3, h4, h⟩
def JR (p r0 : Nat) (w0 : World) (S b : List UInt8) (k : Int) (t : List UInt8) (n re im a en : Int) (T : TR) (z : Nat) (a' : Act) (w' : World) : Prop :=
  ∃ (q l : List UInt8) (x y v : Value) (U : Nat → Value), b = q ++ l ∧ z = l.length ∧ rT q l = T ∧ Door p r0 w0 w' (MO S l b k t n re im a en) ∧
    a' = { tmps := (.pointer (some ⟨p, 0, none⟩) :: U 1 :: .pointer (some ⟨r0, 0, none⟩) :: .int .i64 0 :: x :: v :: y :: U 7 :: U 8 :: U 9 :: U 10 :: U 11 :: U 12 :: U 13 :: U 14 :: U 15 :: U 16 :: U 17 :: U 18 :: U 19 :: U 20 :: U 21 :: U 22 :: U 23 :: U 24 :: U 25 :: U 26 :: U 27 :: U 28 :: U 29 :: U 30 :: U 31 :: U 32 :: U 33 :: U 34 :: U 35 :: U 36 :: U 37 :: U 38 :: U 39 :: U 40 :: U 41 :: U 42 :: U 43 :: U 44 :: U 45 :: U 46 :: U 47 :: U 48 :: U 49 :: U 50 :: U 51 :: U 52 :: U 53 :: U 54 :: U 55 :: U 56 :: U 57 :: U 58 :: U 59 :: U 60 :: U 61 :: U 62 :: U 63 :: U 64 :: U 65 :: U 66 :: U 67 :: U 68 :: U 69 :: U 70 :: U 71 :: U 72 :: U 73 :: U 74 :: U 75 :: U 76 :: U 77 :: U 78 :: U 79 :: U 80 :: U 81 :: U 82 :: U 83 :: U 84 :: U 85 :: U 86 :: U 87 :: U 88 :: U 89 :: U 90 :: U 91 :: U 92 :: []).toArray, defers := [] }
theorem JR.mk {p r0 : Nat} {w0 : World} {S b : List UInt8} {k : Int} {t : List UInt8} {n re im a en : Int} {T : TR} {z : Nat} {a' : Act} {w' : World} (q l : List UInt8) (x y v : Value)
    (h1 : b = q ++ l) (h2 : z = l.length) (h3 : rT q l = T) (h4 : Door p r0 w0 w' (MO S l b k t n re im a en))
    (h : a' = { tmps := (.pointer (some ⟨p, 0, none⟩) :: a'.tmps.getD 1 undef :: .pointer (some ⟨r0, 0, none⟩) :: .int .i64 0 :: x :: v :: y :: a'.tmps.getD 7 undef :: a'.tmps.getD 8 undef :: a'.tmps.getD 9 undef :: a'.tmps.getD 10 undef :: a'.tmps.getD 11 undef :: a'.tmps.getD 12 undef :: a'.tmps.getD 13 undef :: a'.tmps.getD 14 undef :: a'.tmps.getD 15 undef :: a'.tmps.getD 16 undef :: a'.tmps.getD 17 undef :: a'.tmps.getD 18 undef :: a'.tmps.getD 19 undef :: a'.tmps.getD 20 undef :: a'.tmps.getD 21 undef :: a'.tmps.getD 22 undef :: a'.tmps.getD 23 undef :: a'.tmps.getD 24 undef :: a'.tmps.getD 25 undef :: a'.tmps.getD 26 undef :: a'.tmps.getD 27 undef :: a'.tmps.getD 28 undef :: a'.tmps.getD 29 undef :: a'.tmps.getD 30 undef :: a'.tmps.getD 31 undef :: a'.tmps.getD 32 undef :: a'.tmps.getD 33 undef :: a'.tmps.getD 34 undef :: a'.tmps.getD 35 undef :: a'.tmps.getD 36 undef :: a'.tmps.getD 37 undef :: a'.tmps.getD 38 undef :: a'.tmps.getD 39 undef :: a'.tmps.getD 40 undef :: a'.tmps.getD 41 undef :: a'.tmps.getD 42 undef :: a'.tmps.getD 43 undef :: a'.tmps.getD 44 undef :: a'.tmps.getD 45 undef :: a'.tmps.getD 46 undef :: a'.tmps.getD 47 undef :: a'.tmps.getD 48 undef :: a'.tmps.getD 49 undef :: a'.tmps.getD 50 undef :: a'.tmps.getD 51 undef :: a'.tmps.getD 52 undef :: a'.tmps.getD 53 undef :: a'.tmps.getD 54 undef :: a'.tmps.getD 55 undef :: a'.tmps.getD 56 undef :: a'.tmps.getD 57 undef :: a'.tmps.getD 58 undef :: a'.tmps.getD 59 undef :: a'.tmps.getD 60 undef :: a'.tmps.getD 61 undef :: a'.tmps.getD 62 undef :: a'.tmps.getD 63 undef :: a'.tmps.getD 64 undef :: a'.tmps.getD 65 undef :: a'.tmps.getD 66 undef :: a'.tmps.getD 67 undef :: a'.tmps.getD 68 undef :: a'.tmps.getD 69 undef :: a'.tmps.getD 70 undef :: a'.tmps.getD 71 undef :: a'.tmps.getD 72 undef :: a'.tmps.getD 73 undef :: a'.tmps.getD 74 undef :: a'.tmps.getD 75 undef :: a'.tmps.getD 76 undef :: a'.tmps.getD 77 undef :: a'.tmps.getD 78 undef :: a'.tmps.getD 79 undef :: a'.tmps.getD 80 undef :: a'.tmps.getD 81 undef :: a'.tmps.getD 82 undef :: a'.tmps.getD 83 undef :: a'.tmps.getD 84 undef :: a'.tmps.getD 85 undef :: a'.tmps.getD 86 undef :: a'.tmps.getD 87 undef :: a'.tmps.getD 88 undef :: a'.tmps.getD 89 undef :: a'.tmps.getD 90 undef :: a'.tmps.getD 91 undef :: a'.tmps.getD 92 undef :: []).toArray, defers := [] }) : JR p r0 w0 S b k t n re im a en T z a' w' :=
  ⟨q, l, x, y, v, fun i => a'.tmps.getD i undef, h1, h2, h3, h4, h⟩
section
variable {w w' w0 w1 w2 : World} {p r0 : Nat} {S l b : List UInt8} {k : Int} {t : List UInt8} {n re im a en : Int} {o o' : Obj}
set_option maxRecDepth 100000 in
set_option maxHeartbeats 8000000 in
theorem next_any {B : Nat} (h : w.heap[p]? = some (MO S l b k t n re im a en)) (hs : l <:+ S) (hb : b <:+ S) (hS : S.length ≤ 65536) (hv : VR B w) (hB : B ≤ p) (x : Bool × List UInt8) (hx : sk .bt l l = x) (T : TR) (hT : nxT en S.length k t x = T) :
    Calls Tryz.prog 55 #[.pointer (some ⟨p, 0, none⟩)] w fun e w' => NEnd p w S x.2 k t n re im a en T e w' := by
  obtain ⟨r0, hr0⟩ : ∃ r0, r0 = w.heap.size := ⟨_, rfl⟩
  obtain ⟨w1, hw1⟩ : ∃ w1, w1 = w.alloc (TO 0 [] 0 0 0 0) := ⟨_, rfl⟩
  have D1 : Door p r0 w w1 (MO S l b k t n re im a en) := by rw [hr0, hw1]; exact Door.start h
  have hxs : x.2 <:+ S := by
    obtain ⟨x1, x2⟩ := x
    cases x1 with
    | true => exact (sk_ok hx).trans hs
    | false => exact (sk_no hx).trans hs
  have hsk := skip_any D1.2.2.1 hs hb hS x hx
  have HW := Lib.hid (And.intro hr0 hw1)
  have HV := Lib.hid (And.intro hv (show ∀ i, i = p → B ≤ i from fun i hi => by omega))
  have H0 := Lib.hid (And.intro hxs (And.intro D1 hT))
  clear h hs hb D1 hr0 hw1 hx hT hv hB hxs
  go_enter Tryz.func55, Tryz.ntmps55
  go_upto_region 1 with fail
  change Code.wp _ _ _ _ (w.alloc (TO 0 [] 0 0 0 0))
  rw [← HW.out.1, ← HW.out.2]
  refine wp_scope_three (JW p r0 w S x.2 k t n re im a en T) (JR p r0 w S x.2 k t n re im a en T) (fun _ _ _ => False) rfl (fun _ => rfl) (fun ⟨_, _, _, h⟩ => h.elim) ?_ (D2 := Code.skip) (fun _ _ _ h => h.elim) ?_ ?_
  · rintro n9 a9 wr ⟨q, l, x0, y, v, U, hbq, rfl, hk, X, rfl⟩
    have hls : l <:+ S := (hbq ▸ List.suffix_append q l : l <:+ x.2).trans H0.out.1
    have hpk := peek_any X.2.2.1 hls hS
    have hof := fun w => isOf_any signL l.head? w
    have HX := Lib.hid (And.intro hbq (And.intro hls X))
    clear X
    by_cases hm : memO signL l.head? = true
    · obtain ⟨c, r, rfl⟩ : ∃ c r, l = c :: r := by
        cases l with
        | nil => cases hm
        | cons c r => exact ⟨c, r, rfl⟩
      have HK := Lib.hid (show rT (q ++ [c]) r = T by rw [← hk]; exact rT_more q r hm)
      rw [hm] at hof
      clear hk hm hbq hls
      go_wp2_with fail
      refine hpk.mono ?_; rintro e w1 ⟨rfl, N1⟩
      have D2 := Lib.hid (HX.out.2.2.turn N1)
      have htk := take_any N1.1 HX.out.2.1 hS
      clear N1 hpk
      go_wp2_with fail
      refine (hof _).mono ?_; rintro e w' ⟨rfl, rfl⟩
      go_wp2_with fail
      refine htk.mono ?_; rintro e w2 ⟨rfl, N2⟩
      have D3 := Lib.hid (D2.out.turn N2)
      clear N2 htk
      go_wp2_with fail
      go_step3
      refine ⟨r.length, by simp, Or.inr (Or.inl ⟨rfl, JR.mk (q ++ [c]) r _ _ _ ?_ rfl HK.out D3.out rfl⟩)⟩
      rw [HX.out.1]; simp
    · simp only [Bool.not_eq_true] at hm
      rw [hm] at hof
      rw [rT_end q l hm] at hk
      clear hm
      obtain ⟨Xb, hXb⟩ : ∃ Xb, Xb = x.2 := ⟨_, rfl⟩
      rw [← hXb] at HX hpk ⊢
      have hbq : Xb = q ++ l := HX.out.1
      have H0x : Xb <:+ S := hXb ▸ H0.out.1
      subst hbq
      have HXB := Lib.hid hXb
      clear hXb hls
      by_cases hq : q = [46]
      · have HQ := Lib.hid hq
        by_cases hst : stops l = true
        · rw [if_pos ⟨hq, hst⟩] at hk
          have HK := Lib.hid hk
          have HST := Lib.hid hst
          clear hk hst
          subst hq
          go_wp2_with fail
          refine hpk.mono ?_; rintro e w1 ⟨rfl, N1⟩
          have D2 := Lib.hid (HX.out.2.2.turn N1)
          have hpc := piece_any N1.1 H0x hS
          clear N1 hpk
          go_wp2_with fail
          refine (hof _).mono ?_; rintro e w' ⟨rfl, rfl⟩
          go_wp2_with fail
          refine hpc.mono ?_; rintro e w2 ⟨rfl, N2⟩
          have D3 := Lib.hid (D2.out.turn N2)
          have hen := ends_any N2.1 HX.out.2.1 hS
          rw [HST.out] at hen
          clear N2 hpc
          go_wp2_with fail
          refine hen.mono ?_; rintro e w3 ⟨rfl, N3⟩
          have D4 := Lib.hid (D3.out.turn N3)
          clear N3 hen
          obtain ⟨⟨z0, z1, z2, z3, z4, z5⟩, y0, y1, y2, y3, y4, y5⟩ := D4.out.z
          go_wp2_with fail
          obtain ⟨W, hW, ⟨e0, e1, e2, e3, e4, e5⟩, N⟩ := D4.out.fin (.int .i64 8) (.string ⟨#[]⟩) (.int .i64 0) (.int .u64 0) (.int .u64 0) (.int .i64 0)
          rw [hW]
          simp only [d3]
          refine bodyPost_ret (v := .tuple #[tkV 8 [] 0 0 0 0, .int .i64 0]) (by simp [results, Tryz.results55, go_sem, e0, e1, e2, e3, e4, e5, tkV]) rfl ?_
          rw [← HK.out]
          exact ⟨rfl, l, HX.out.2.1, (fun _ _ _ _ _ _ h => by cases h; rfl), by rw [← HXB.out]; exact N⟩
        · rw [if_neg (fun h => hst h.2)] at hk
          simp only [Bool.not_eq_true] at hst
          have HK := Lib.hid hk
          have HST := Lib.hid hst
          clear hk hst
          subst hq
          obtain ⟨k', t', n', re', im', er, hsh⟩ := trv_shape (txt 1 [46] l)
          have htx := fun w => texted_any 1 [46] l (by have := H0x.length_le; simp at * <;> omega) w
          simp only [hsh] at htx
          have HSH := Lib.hid hsh
          clear hsh
          go_wp2_with fail
          refine hpk.mono ?_; rintro e w1 ⟨rfl, N1⟩
          have D2 := Lib.hid (HX.out.2.2.turn N1)
          have hpc := piece_any N1.1 H0x hS
          clear N1 hpk
          go_wp2_with fail
          refine (hof _).mono ?_; rintro e w' ⟨rfl, rfl⟩
          go_wp2_with fail
          refine hpc.mono ?_; rintro e w2 ⟨rfl, N2⟩
          have D3 := Lib.hid (D2.out.turn N2)
          have hen := ends_any N2.1 HX.out.2.1 hS
          rw [HST.out] at hen
          clear N2 hpc
          go_wp2_with fail
          refine hen.mono ?_; rintro e w3 ⟨rfl, N3⟩
          have D4 := Lib.hid (D3.out.turn N3)
          have hpc2 := piece_any N3.1 H0x hS
          clear N3 hen
          go_wp2_with fail
          refine hpc2.mono ?_; rintro e w4 ⟨rfl, N4⟩
          have D5 := Lib.hid (D4.out.turn N4)
          clear N4 hpc2
          go_wp2_with fail
          refine (htx _).mono ?_; rintro e w6 ⟨rfl, b6⟩
          have D6 := Lib.hid (D5.out.below b6)
          clear b6 htx
          obtain ⟨⟨z0, z1, z2, z3, z4, z5⟩, y0, y1, y2, y3, y4, y5⟩ := D6.out.z
          unfold tkV
          go_wp2_with fail
          obtain ⟨W, hW, ⟨e0, e1, e2, e3, e4, e5⟩, N⟩ := D6.out.fin (.int .i64 k') (.string ⟨t'.toArray⟩) (.int .i64 n') (.int .u64 re') (.int .u64 im') (.int .i64 0)
          rw [hW]
          simp only [d3]
          refine bodyPost_ret (v := .tuple #[tkV k' t' n' re' im' 0, .int .i64 er]) (by simp [results, Tryz.results55, go_sem, e0, e1, e2, e3, e4, e5, tkV]) rfl ?_
          rw [← HK.out]
          refine ⟨by rw [HSH.out], l, HX.out.2.1, (fun _ _ _ _ _ _ h => txt_rest h), by rw [← HXB.out]; exact N⟩
      · rw [if_neg (fun h => hq h.1)] at hk
        have hqe : ((⟨q.toArray⟩ : ByteArray).toList == ({ data := #[46] } : ByteArray).toList) = false := (tl_dec q _ [46] rfl).trans (decide_eq_false hq)
        have HK := Lib.hid hk
        clear hk
        obtain ⟨k', t', n', re', im', er, hsh⟩ := trv_shape (txt 1 q l)
        have htx := fun w => texted_any 1 q l (by have := H0x.length_le; simp at * <;> omega) w
        simp only [hsh] at htx
        have HSH := Lib.hid hsh
        clear hsh
        go_wp2_with fail
        refine hpk.mono ?_; rintro e w1 ⟨rfl, N1⟩
        have D2 := Lib.hid (HX.out.2.2.turn N1)
        have hpc := piece_any N1.1 H0x hS
        clear N1 hpk
        go_wp2_with fail
        refine (hof _).mono ?_; rintro e w' ⟨rfl, rfl⟩
        go_wp2_with fail
        refine hpc.mono ?_; rintro e w2 ⟨rfl, N2⟩
        have D3 := Lib.hid (D2.out.turn N2)
        have hpc2 := piece_any N2.1 H0x hS
        clear N2 hpc
        go_wp2_with fail
        refine hpc2.mono ?_; rintro e w4 ⟨rfl, N4⟩
        have D5 := Lib.hid (D3.out.turn N4)
        clear N4 hpc2
        go_wp2_with fail
        refine (htx _).mono ?_; rintro e w6 ⟨rfl, b6⟩
        have D6 := Lib.hid (D5.out.below b6)
        clear b6 htx
        obtain ⟨⟨z0, z1, z2, z3, z4, z5⟩, y0, y1, y2, y3, y4, y5⟩ := D6.out.z
        unfold tkV
        go_wp2_with fail
        obtain ⟨W, hW, ⟨e0, e1, e2, e3, e4, e5⟩, N⟩ := D6.out.fin (.int .i64 k') (.string ⟨t'.toArray⟩) (.int .i64 n') (.int .u64 re') (.int .u64 im') (.int .i64 0)
        rw [hW]
        simp only [d3]
        refine bodyPost_ret (v := .tuple #[tkV k' t' n' re' im' 0, .int .i64 er]) (by simp [results, Tryz.results55, go_sem, e0, e1, e2, e3, e4, e5, tkV]) rfl ?_
        rw [← HK.out]
        refine ⟨by rw [HSH.out], l, HX.out.2.1, (fun _ _ _ _ _ _ h => txt_rest h), by rw [← HXB.out]; exact N⟩
  · rintro n9 a9 wr ⟨q, l, kind, x0, y, U, hbq, rfl, hk, X, rfl⟩
    have hls : l <:+ S := (hbq ▸ List.suffix_append q l : l <:+ x.2).trans H0.out.1
    have hpk := peek_any X.2.2.1 hls hS
    have hof := fun w => isInWord_any l.head? w
    have HX := Lib.hid (And.intro hbq (And.intro hls X))
    clear X
    by_cases hm : wdO l.head? = true
    · obtain ⟨c, r, rfl⟩ : ∃ c r, l = c :: r := by
        cases l with
        | nil => cases hm
        | cons c r => exact ⟨c, r, rfl⟩
      have HK := Lib.hid (show wT kind (LA en ((S.length - x.2.length : Nat) : Int) k t) (q ++ [c]) r = T by rw [← hk]; exact wT_more _ _ q r hm)
      rw [hm] at hof
      clear hk hm hbq hls
      go_wp2_with fail
      refine hpk.mono ?_; rintro e w1 ⟨rfl, N1⟩
      have D2 := Lib.hid (HX.out.2.2.turn N1)
      have htk := take_any N1.1 HX.out.2.1 hS
      clear N1 hpk
      go_wp2_with fail
      refine (hof _).mono ?_; rintro e w' ⟨rfl, rfl⟩
      go_wp2_with fail
      refine htk.mono ?_; rintro e w2 ⟨rfl, N2⟩
      have D3 := Lib.hid (D2.out.turn N2)
      clear N2 htk
      go_wp2_with fail
      go_step3
      refine ⟨r.length, by simp, Or.inl ⟨rfl, JW.mk (q ++ [c]) r _ _ _ ?_ rfl HK.out D3.out rfl⟩⟩
      rw [HX.out.1]; simp
    · simp only [Bool.not_eq_true] at hm
      rw [hm] at hof
      rw [wT_end _ _ q l hm] at hk
      clear hm
      obtain ⟨Xb, hXb⟩ : ∃ Xb, Xb = x.2 := ⟨_, rfl⟩
      rw [← hXb] at HX hpk hk ⊢
      have hbq : Xb = q ++ l := HX.out.1
      have H0x : Xb <:+ S := hXb ▸ H0.out.1
      subst hbq
      have HXB := Lib.hid hXb
      clear hXb hls
      by_cases hk4 : kind = 4
      · rw [if_pos hk4] at hk
        have HK := Lib.hid hk
        subst hk4
        obtain ⟨k', t', n', re', im', er, hsh⟩ := trv_shape (nmb (LA en ((S.length - (q ++ l).length : Nat) : Int) k t) q l)
        have HSH := Lib.hid hsh
        clear hk hsh
        go_wp2_with fail
        refine hpk.mono ?_; rintro e w1 ⟨rfl, N1⟩
        have D2 := Lib.hid (HX.out.2.2.turn N1)
        have hnm := number_any N1.1 H0x hS (HV.out.1.keep D2.out.2.2.2.2 HV.out.2) (HV.out.2 p rfl)
        rw [HSH.out] at hnm
        clear N1 hpk
        go_wp2_with fail
        refine (hof _).mono ?_; rintro e w' ⟨rfl, rfl⟩
        go_wp2_with fail
        refine hnm.mono ?_; rintro e w2 ⟨rfl, N2⟩
        have D3 := Lib.hid (D2.out.turn N2)
        clear N2 hnm
        obtain ⟨⟨z0, z1, z2, z3, z4, z5⟩, y0, y1, y2, y3, y4, y5⟩ := D3.out.z
        unfold tkV
        go_wp2_with fail
        obtain ⟨W, hW, ⟨e0, e1, e2, e3, e4, e5⟩, N⟩ := D3.out.fin (.int .i64 k') (.string ⟨t'.toArray⟩) (.int .i64 n') (.int .u64 re') (.int .u64 im') (.int .i64 0)
        rw [hW]
        simp only [d3]
        refine bodyPost_ret (v := .tuple #[tkV k' t' n' re' im' 0, .int .i64 er]) (by simp [results, Tryz.results55, go_sem, e0, e1, e2, e3, e4, e5, tkV]) rfl ?_
        rw [← HK.out]
        refine ⟨by rw [HSH.out], l, HX.out.2.1, (fun _ _ _ _ _ _ h => nmb_rest h), by rw [← HXB.out]; exact N⟩
      · rw [if_neg hk4] at hk
        have HK := Lib.hid hk
        have hke : (kind == 4) = false := by rw [beq_eq_false_iff_ne]; exact hk4
        clear hk
        obtain ⟨k', t', n', re', im', er, hsh⟩ := trv_shape (txt kind q l)
        have htx := fun w => texted_any kind q l (by have := H0x.length_le; simp at * <;> omega) w
        simp only [hsh] at htx
        have HSH := Lib.hid hsh
        clear hsh
        go_wp2_with fail
        refine hpk.mono ?_; rintro e w1 ⟨rfl, N1⟩
        have D2 := Lib.hid (HX.out.2.2.turn N1)
        have hpc := piece_any N1.1 H0x hS
        clear N1 hpk
        go_wp2_with fail
        refine (hof _).mono ?_; rintro e w' ⟨rfl, rfl⟩
        go_wp2_with fail
        refine hpc.mono ?_; rintro e w2 ⟨rfl, N2⟩
        have D3 := Lib.hid (D2.out.turn N2)
        have D5 := D3
        clear N2 hpc
        go_wp2_with fail
        refine (htx _).mono ?_; rintro e w6 ⟨rfl, b6⟩
        have D6 := Lib.hid (D5.out.below b6)
        clear b6 htx
        obtain ⟨⟨z0, z1, z2, z3, z4, z5⟩, y0, y1, y2, y3, y4, y5⟩ := D6.out.z
        unfold tkV
        go_wp2_with fail
        obtain ⟨W, hW, ⟨e0, e1, e2, e3, e4, e5⟩, N⟩ := D6.out.fin (.int .i64 k') (.string ⟨t'.toArray⟩) (.int .i64 n') (.int .u64 re') (.int .u64 im') (.int .i64 0)
        rw [hW]
        simp only [d3]
        refine bodyPost_ret (v := .tuple #[tkV k' t' n' re' im' 0, .int .i64 er]) (by simp [results, Tryz.results55, go_sem, e0, e1, e2, e3, e4, e5, tkV]) rfl ?_
        rw [← HK.out]
        refine ⟨by rw [HSH.out], l, HX.out.2.1, (fun _ _ _ _ _ _ h => txt_rest h), by rw [← HXB.out]; exact N⟩
  · intro dn
    refine ⟨x.2.length + 1, ?_⟩
    go_wp2_with fail
    refine hsk.mono ?_; rintro e w2 ⟨rfl, l2, hl2, hR, N2⟩
    have D2 := Lib.hid (H0.out.2.1.turn N2)
    have HN2 := Lib.hid (And.intro hl2 (And.intro hR N2))
    have hT := H0.out.2.2
    have hxs := H0.out.1
    clear hsk N2 hl2 hR
    obtain ⟨ok, s⟩ := x
    cases ok with
    | false =>
      have HK := Lib.hid (show TR.er 2 = T from hT)
      clear hT
      obtain ⟨⟨z0, z1, z2, z3, z4, z5⟩, y0, y1, y2, y3, y4, y5⟩ := D2.out.z
      simp only [Bool.false_eq_true, if_false]
      go_wp2_with fail
      obtain ⟨W, hW, ⟨e0, e1, e2, e3, e4, e5⟩, N⟩ := D2.out.fin (.int .i64 0) (.string ⟨#[]⟩) (.int .i64 0) (.int .u64 0) (.int .u64 0) (.int .i64 0)
      rw [hW]
      simp only [d3]
      refine bodyPost_ret (v := .tuple #[tkV 0 [] 0 0 0 0, .int .i64 2]) (by simp [results, Tryz.results55, go_sem, e0, e1, e2, e3, e4, e5, tkV]) rfl ?_
      rw [← HK.out]
      exact ⟨rfl, l2, HN2.out.1, (fun _ _ _ _ _ _ h => by cases h), N⟩
    | true =>
      obtain rfl : l2 = s := HN2.out.2.1 rfl
      have htk := take_any HN2.out.2.2.1 HN2.out.1 hS
      simp only [if_true]
      cases l2 with
      | nil =>
        have HK := Lib.hid (show TR.ok 0 [] 0 0 0 [] = T from hT)
        simp only [List.head?, bi, List.tail] at htk
        clear hT
        go_wp2_with fail
        refine htk.mono ?_; rintro e w3 ⟨rfl, N3⟩
        have D3 := Lib.hid (D2.out.turn N3)
        clear N3 htk
        obtain ⟨⟨z0, z1, z2, z3, z4, z5⟩, y0, y1, y2, y3, y4, y5⟩ := D3.out.z
        go_wp2_with fail
        obtain ⟨W, hW, ⟨e0, e1, e2, e3, e4, e5⟩, N⟩ := D3.out.fin (.int .i64 0) (.string ⟨#[]⟩) (.int .i64 0) (.int .u64 0) (.int .u64 0) (.int .i64 0)
        rw [hW]
        simp only [d3]
        refine bodyPost_ret (v := .tuple #[tkV 0 [] 0 0 0 0, .int .i64 0]) (by simp [results, Tryz.results55, go_sem, e0, e1, e2, e3, e4, e5, tkV]) rfl ?_
        rw [← HK.out]
        exact ⟨rfl, [], HN2.out.1, (fun _ _ _ _ _ _ h => by cases h; rfl), N⟩
      | cons c r =>
        simp only [List.head?, bi, List.tail] at htk
        replace hT := show tok (LA en ((S.length - (c :: r).length : Nat) : Int) k t) c r = T from hT
        have hnn : (((c.toNat : Int)) == -1) = false := by have := bi_lt c; rw [beq_eq_false_iff_ne]; omega
        have hi1 := fun w => isSmall_any (some c) w
        have hi2 := fun w => isGreat_any (some c) w
        have hi3 := fun w => isDigit_any (some c) w
        have hi4 := fun w => isOf_any signL (some c) w
        have hi5 := fun w => isOf_any soloL (some c) w
        have hi6 := fun w => isOf_any punctL (some c) w
        have h95 := beq_byte c 95 95 rfl
        have h39 := beq_byte c 39 39 rfl
        simp only [bi, memO] at hi1 hi2 hi3 hi4 hi5 hi6
        unfold tok at hT
        have hrs := suf_tail hxs
        by_cases g1 : sm c = true
        · rw [if_pos g1] at hT
          rw [g1] at hi1
          have HK := Lib.hid hT
          clear hT
          go_wp2_with fail
          refine htk.mono ?_; rintro e w3 ⟨rfl, N3⟩
          have D3 := Lib.hid (D2.out.turn N3)
          clear N3
          go_wp2_with fail
          refine (hi1 _).mono ?_; rintro e w' ⟨rfl, rfl⟩
          go_wp2_with fail
          go_step3
          refine ⟨r.length, by simp only [List.length_cons]; omega, Or.inl ⟨rfl, JW.mk [c] r 1 _ _ rfl rfl ?_ D3.out rfl⟩⟩
          rw [← HK.out]; rfl
        · rw [if_neg g1] at hT
          simp only [Bool.not_eq_true] at g1
          rw [g1] at hi1
          by_cases g2 : gr c = true ∨ c = 95
          · rw [if_pos g2] at hT
            have HK := Lib.hid hT
            clear hT
            by_cases g2' : gr c = true
            · rw [g2'] at hi2
              go_wp2_with fail
              refine htk.mono ?_; rintro e w3 ⟨rfl, N3⟩
              have D3 := Lib.hid (D2.out.turn N3)
              clear N3
              go_wp2_with fail
              refine (hi1 _).mono ?_; rintro e w' ⟨rfl, rfl⟩
              go_wp2_with fail
              refine (hi2 _).mono ?_; rintro e w' ⟨rfl, rfl⟩
              go_wp2_with fail
              go_step3
              refine ⟨r.length, by simp only [List.length_cons]; omega, Or.inl ⟨rfl, JW.mk [c] r 3 _ _ rfl rfl ?_ D3.out rfl⟩⟩
              rw [← HK.out]; rfl
            · have g95 := g2.resolve_left g2'
              simp only [Bool.not_eq_true] at g2'
              rw [g2'] at hi2
              rw [decide_eq_true g95] at h95
              have h95 := show ((c.toNat : Int) == 95) = true from h95
              clear g95 g2
              go_wp2_with fail
              refine htk.mono ?_; rintro e w3 ⟨rfl, N3⟩
              have D3 := Lib.hid (D2.out.turn N3)
              clear N3
              go_wp2_with fail
              refine (hi1 _).mono ?_; rintro e w' ⟨rfl, rfl⟩
              go_wp2_with fail
              refine (hi2 _).mono ?_; rintro e w' ⟨rfl, rfl⟩
              go_wp2_with fail
              go_step3
              refine ⟨r.length, by simp only [List.length_cons]; omega, Or.inl ⟨rfl, JW.mk [c] r 3 _ _ rfl rfl ?_ D3.out rfl⟩⟩
              rw [← HK.out]; rfl
          · rw [if_neg g2] at hT
            have g2' : gr c = false := by simpa using fun h => g2 (Or.inl h)
            rw [g2'] at hi2
            rw [decide_eq_false (fun h => g2 (Or.inr h))] at h95
            have h95 := show ((c.toNat : Int) == 95) = false from h95
            clear g2
            by_cases g3 : dg c = true
            · rw [if_pos g3] at hT
              rw [g3] at hi3
              have HK := Lib.hid hT
              clear hT
              go_wp2_with fail
              refine htk.mono ?_; rintro e w3 ⟨rfl, N3⟩
              have D3 := Lib.hid (D2.out.turn N3)
              clear N3
              go_wp2_with fail
              refine (hi1 _).mono ?_; rintro e w' ⟨rfl, rfl⟩
              go_wp2_with fail
              refine (hi2 _).mono ?_; rintro e w' ⟨rfl, rfl⟩
              go_wp2_with fail
              refine (hi3 _).mono ?_; rintro e w' ⟨rfl, rfl⟩
              go_wp2_with fail
              go_step3
              refine ⟨r.length, by simp only [List.length_cons]; omega, Or.inl ⟨rfl, JW.mk [c] r 4 _ _ rfl rfl ?_ D3.out rfl⟩⟩
              rw [← HK.out]; rfl
            · rw [if_neg g3] at hT
              simp only [Bool.not_eq_true] at g3
              rw [g3] at hi3
              by_cases g4 : sg c = true
              · rw [if_pos g4] at hT
                have g4' : mem signL c = true := g4
                rw [g4'] at hi4
                have HK := Lib.hid hT
                clear hT
                go_wp2_with fail
                refine htk.mono ?_; rintro e w3 ⟨rfl, N3⟩
                have D3 := Lib.hid (D2.out.turn N3)
                clear N3
                go_wp2_with fail
                refine (hi1 _).mono ?_; rintro e w' ⟨rfl, rfl⟩
                go_wp2_with fail
                refine (hi2 _).mono ?_; rintro e w' ⟨rfl, rfl⟩
                go_wp2_with fail
                refine (hi3 _).mono ?_; rintro e w' ⟨rfl, rfl⟩
                go_wp2_with fail
                refine (hi4 _).mono ?_; rintro e w' ⟨rfl, rfl⟩
                go_wp2_with fail
                go_step3
                refine ⟨r.length, by simp only [List.length_cons]; omega, Or.inr (Or.inl ⟨rfl, JR.mk [c] r _ _ _ rfl rfl ?_ D3.out rfl⟩)⟩
                rw [← HK.out]; rfl
              · rw [if_neg g4] at hT
                simp only [Bool.not_eq_true] at g4
                have g4' : mem signL c = false := g4
                rw [g4'] at hi4
                by_cases g5 : mem soloL c = true
                · rw [if_pos g5] at hT
                  rw [g5] at hi5
                  have HK := Lib.hid hT
                  clear hT
                  obtain ⟨k', t', n', re', im', er, hsh⟩ := trv_shape (txt 1 [c] r)
                  have htx := fun w => texted_any 1 [c] r (by simp) w
                  simp only [hsh] at htx
                  have HSH := Lib.hid hsh
                  clear hsh
                  have HD3 := Lib.hid (fun w3 (N : Nw p (MO S r (c :: r) k t n re im a en) w2 w3) => piece_any (q := [c]) N.1 hxs hS)
                  go_wp2_with fail
                  refine htk.mono ?_; rintro e w3 ⟨rfl, N3⟩
                  have D3 := Lib.hid (D2.out.turn N3)
                  have HN3 := Lib.hid N3
                  clear N3
                  go_wp2_with fail
                  refine (hi1 _).mono ?_; rintro e w' ⟨rfl, rfl⟩
                  go_wp2_with fail
                  refine (hi2 _).mono ?_; rintro e w' ⟨rfl, rfl⟩
                  go_wp2_with fail
                  refine (hi3 _).mono ?_; rintro e w' ⟨rfl, rfl⟩
                  go_wp2_with fail
                  refine (hi4 _).mono ?_; rintro e w' ⟨rfl, rfl⟩
                  go_wp2_with fail
                  refine (hi5 _).mono ?_; rintro e w' ⟨rfl, rfl⟩
                  have N3 := HN3.out
                  have hpc := HD3.out _ N3
                  clear N3
                  go_wp2_with fail
                  refine hpc.mono ?_; rintro e w4 ⟨rfl, N4⟩
                  have D4 := Lib.hid (D3.out.turn N4)
                  clear N4 hpc
                  go_wp2_with fail
                  refine (htx _).mono ?_; rintro e w6 ⟨rfl, b6⟩
                  have D6 := Lib.hid (D4.out.below b6)
                  clear b6 htx
                  obtain ⟨⟨z0, z1, z2, z3, z4, z5⟩, y0, y1, y2, y3, y4, y5⟩ := D6.out.z
                  unfold tkV
                  go_wp2_with fail
                  obtain ⟨W, hW, ⟨e0, e1, e2, e3, e4, e5⟩, N⟩ := D6.out.fin (.int .i64 k') (.string ⟨t'.toArray⟩) (.int .i64 n') (.int .u64 re') (.int .u64 im') (.int .i64 0)
                  rw [hW]
                  simp only [d3]
                  refine bodyPost_ret (v := .tuple #[tkV k' t' n' re' im' 0, .int .i64 er]) (by simp [results, Tryz.results55, go_sem, e0, e1, e2, e3, e4, e5, tkV]) rfl ?_
                  rw [← HK.out]
                  refine ⟨by rw [HSH.out], r, hrs, (fun _ _ _ _ _ _ h => txt_rest h), N⟩
                · rw [if_neg g5] at hT
                  simp only [Bool.not_eq_true] at g5
                  rw [g5] at hi5
                  by_cases g6 : mem punctL c = true
                  · rw [if_pos g6] at hT
                    rw [g6] at hi6
                    have HK := Lib.hid (show pun (LA en ((S.length - (c :: r).length : Nat) : Int) k t) c r = T from hT)
                    clear hT
                    obtain ⟨k', t', n', re', im', er, hsh⟩ := trv_shape (pun (LA en ((S.length - (c :: r).length : Nat) : Int) k t) c r)
                    have HSH := Lib.hid hsh
                    clear hsh
                    have HD3 := Lib.hid (fun w3 (N : Nw p (MO S r (c :: r) k t n re im a en) w2 w3) => punct_any (c := c) (r := r) N.1 hxs hS)
                    go_wp2_with fail
                    refine htk.mono ?_; rintro e w3 ⟨rfl, N3⟩
                    have D3 := Lib.hid (D2.out.turn N3)
                    have HN3 := Lib.hid N3
                    clear N3
                    go_wp2_with fail
                    refine (hi1 _).mono ?_; rintro e w' ⟨rfl, rfl⟩
                    go_wp2_with fail
                    refine (hi2 _).mono ?_; rintro e w' ⟨rfl, rfl⟩
                    go_wp2_with fail
                    refine (hi3 _).mono ?_; rintro e w' ⟨rfl, rfl⟩
                    go_wp2_with fail
                    refine (hi4 _).mono ?_; rintro e w' ⟨rfl, rfl⟩
                    go_wp2_with fail
                    refine (hi5 _).mono ?_; rintro e w' ⟨rfl, rfl⟩
                    go_wp2_with fail
                    refine (hi6 _).mono ?_; rintro e w' ⟨rfl, rfl⟩
                    have N3 := HN3.out
                    have hpu := HD3.out _ N3
                    simp only [List.singleton_append] at hpu
                    rw [HSH.out] at hpu
                    clear N3
                    go_wp2_with fail
                    refine hpu.mono ?_; rintro e w4 ⟨rfl, N4⟩
                    have D4 := Lib.hid (D3.out.turn N4)
                    clear N4 hpu
                    obtain ⟨⟨z0, z1, z2, z3, z4, z5⟩, y0, y1, y2, y3, y4, y5⟩ := D4.out.z
                    unfold tkV
                    go_wp2_with fail
                    obtain ⟨W, hW, ⟨e0, e1, e2, e3, e4, e5⟩, N⟩ := D4.out.fin (.int .i64 k') (.string ⟨t'.toArray⟩) (.int .i64 n') (.int .u64 re') (.int .u64 im') (.int .i64 0)
                    rw [hW]
                    simp only [d3]
                    refine bodyPost_ret (v := .tuple #[tkV k' t' n' re' im' 0, .int .i64 er]) (by simp [results, Tryz.results55, go_sem, e0, e1, e2, e3, e4, e5, tkV]) rfl ?_
                    rw [← HK.out]
                    refine ⟨by rw [HSH.out], r, hrs, (fun _ _ _ _ _ _ h => pun_rest h), N⟩
                  · rw [if_neg g6] at hT
                    simp only [Bool.not_eq_true] at g6
                    rw [g6] at hi6
                    by_cases g7 : c = 39
                    · rw [if_pos g7] at hT
                      rw [decide_eq_true g7] at h39
                      have h39 := show ((c.toNat : Int) == 39) = true from h39
                      obtain ⟨R, hR⟩ : ∃ R, qt r = R := ⟨_, rfl⟩
                      have HK := Lib.hid (show qtr R = T by rw [← hT, hR]; cases R <;> rfl)
                      clear hT g7
                      obtain ⟨k', t', n', re', im', er, hsh⟩ := trv_shape (qtr R)
                      have HSH := Lib.hid hsh
                      clear hsh
                      have HD3 := Lib.hid (fun w3 (N : Nw p (MO S r (c :: r) k t n re im a en) w2 w3) => quote_any N.1 hrs hS R hR)
                      go_wp2_with fail
                      refine htk.mono ?_; rintro e w3 ⟨rfl, N3⟩
                      have D3 := Lib.hid (D2.out.turn N3)
                      have HN3 := Lib.hid N3
                      clear N3
                      go_wp2_with fail
                      refine (hi1 _).mono ?_; rintro e w' ⟨rfl, rfl⟩
                      go_wp2_with fail
                      refine (hi2 _).mono ?_; rintro e w' ⟨rfl, rfl⟩
                      go_wp2_with fail
                      refine (hi3 _).mono ?_; rintro e w' ⟨rfl, rfl⟩
                      go_wp2_with fail
                      refine (hi4 _).mono ?_; rintro e w' ⟨rfl, rfl⟩
                      go_wp2_with fail
                      refine (hi5 _).mono ?_; rintro e w' ⟨rfl, rfl⟩
                      go_wp2_with fail
                      refine (hi6 _).mono ?_; rintro e w' ⟨rfl, rfl⟩
                      have N3 := HN3.out
                      have hqu := HD3.out _ N3
                      clear N3
                      go_wp2_with fail
                      refine hqu.mono ?_; rintro e w4 ⟨he4, l4, hl4, hr4, N4⟩
                      rw [HSH.out] at he4
                      subst he4
                      have D4 := Lib.hid (D3.out.turn N4)
                      have H4 := Lib.hid (And.intro hl4 hr4)
                      clear N4 hqu hl4 hr4
                      obtain ⟨⟨z0, z1, z2, z3, z4, z5⟩, y0, y1, y2, y3, y4, y5⟩ := D4.out.z
                      unfold tkV
                      go_wp2_with fail
                      obtain ⟨W, hW, ⟨e0, e1, e2, e3, e4, e5⟩, N⟩ := D4.out.fin (.int .i64 k') (.string ⟨t'.toArray⟩) (.int .i64 n') (.int .u64 re') (.int .u64 im') (.int .i64 0)
                      rw [hW]
                      simp only [d3]
                      refine bodyPost_ret (v := .tuple #[tkV k' t' n' re' im' 0, .int .i64 er]) (by simp [results, Tryz.results55, go_sem, e0, e1, e2, e3, e4, e5, tkV]) rfl ?_
                      rw [← HK.out]
                      refine ⟨by rw [HSH.out], l4, H4.out.1, (fun _ _ _ _ _ _ h => ?_), N⟩
                      cases R with
                      | none => cases h
                      | some y => exact (H4.out.2 y rfl).trans (txt_rest h)
                    · rw [if_neg g7] at hT
                      rw [decide_eq_false g7] at h39
                      have h39 := show ((c.toNat : Int) == 39) = false from h39
                      have HK := Lib.hid hT
                      clear hT g7
                      go_wp2_with fail
                      refine htk.mono ?_; rintro e w3 ⟨rfl, N3⟩
                      have D3 := Lib.hid (D2.out.turn N3)
                      have HN3 := Lib.hid N3
                      clear N3
                      go_wp2_with fail
                      refine (hi1 _).mono ?_; rintro e w' ⟨rfl, rfl⟩
                      go_wp2_with fail
                      refine (hi2 _).mono ?_; rintro e w' ⟨rfl, rfl⟩
                      go_wp2_with fail
                      refine (hi3 _).mono ?_; rintro e w' ⟨rfl, rfl⟩
                      go_wp2_with fail
                      refine (hi4 _).mono ?_; rintro e w' ⟨rfl, rfl⟩
                      go_wp2_with fail
                      refine (hi5 _).mono ?_; rintro e w' ⟨rfl, rfl⟩
                      go_wp2_with fail
                      refine (hi6 _).mono ?_; rintro e w' ⟨rfl, rfl⟩
                      have N3 := HN3.out
                      clear N3
                      obtain ⟨⟨z0, z1, z2, z3, z4, z5⟩, y0, y1, y2, y3, y4, y5⟩ := D3.out.z
                      go_wp2_with fail
                      obtain ⟨W, hW, ⟨e0, e1, e2, e3, e4, e5⟩, N⟩ := D3.out.fin (.int .i64 0) (.string ⟨#[]⟩) (.int .i64 0) (.int .u64 0) (.int .u64 0) (.int .i64 0)
                      rw [hW]
                      simp only [d3]
                      refine bodyPost_ret (v := .tuple #[tkV 0 [] 0 0 0 0, .int .i64 2]) (by simp [results, Tryz.results55, go_sem, e0, e1, e2, e3, e4, e5, tkV]) rfl ?_
                      rw [← HK.out]
                      exact ⟨rfl, r, hrs, (fun _ _ _ _ _ _ h => by cases h), N⟩
end
end Go.Proofs.YtedbcmagjbgbjaaGreatDoor.tk
