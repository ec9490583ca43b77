/- Package unify: two terms made one: the loop. -/
import Derived.Test.YthableojkjhicaaUnF
import Derived.Laws.StructEq
namespace Go.Proofs.Ythableojkjhicaa.un
open Go.ChangeShapes Go.WideShapes Go.ChangeAt Go.RowKit Go.Maps
open Go.Proofs.Ythableojkjhicaa.kp Go.Proofs.Ythableojkjhicaa.cel Go.Proofs.Ythableojkjhicaa.hp Go.Proofs.Ythableojkjhicaa.ob
set_option linter.unusedVariables false
theorem words_neq (a b c d : Int) (w : World) : (binOp .neq 146 (.agg #[.int .u64 a, .int .u64 b]) (.agg #[.int .u64 c, .int .u64 d])).run Try.prog w = .ok (.bool (!((a == c) && (b == d)))) w := by
  rw [run_neq_struct]
  have hu : Try.prog.underlying 146 = some (.array 2 22) := by kernel_rfl
  have hi : Try.prog.underlying 22 = some (.int .u64) := by kernel_rfl
  have hs : ∀ w, (sizeOf 22).run Try.prog w = .ok 1 w := fun w => by kernel_rfl
  have hg : ∀ w, (isAgg 22).run Try.prog w = .ok false w := fun w => by kernel_rfl
  have hp : ∀ (x y : Value) w, (part 22 #[x, y] 0).run Try.prog w = .ok x w := fun x y w => by
    simp [part, Sem.run_bind, hg]
  have hq : ∀ (x y : Value) w, (part 22 #[x, y] 1).run Try.prog w = .ok y w := fun x y w => by
    simp [part, Sem.run_bind, hg]
  have key : ∀ dd, (Op.equalIn (dd + 1 + 1) 146 (.agg #[.int .u64 a, .int .u64 b]) (.agg #[.int .u64 c, .int .u64 d])).run Try.prog w = .ok ((a == c) && (b == d)) w := by
    intro dd
    simp only [Op.equalIn, Sem.run_bind, run_underlying hu, Result.andThen_ok, hs]
    rw [Std.Legacy.Range.forIn_eq_forIn_range']
    simp [Std.Legacy.Range.size, List.range', Sem.run_bind, hp, hq]
    by_cases h1 : a = c <;> by_cases h2 : b = d <;> simp [h1, h2]
  rw [show (10000 : Nat) = 9998 + 1 + 1 from rfl, key]
  rfl
def TB (t : Bool) (c : Prop) : Prop := t = true ↔ c
abbrev TPr : TypeId := 152
abbrev Rw3 := List (Nat × Nat × Nat)
def cellsOf3 : Rw3 → List Value
  | [] => []
  | (p, q, n) :: r => cellsOf3 r ++ [.int .i64 (p : Int), .int .i64 (q : Int), .int .i64 ((n + 1 : Nat) : Int)]
def todo3 : Rw3 → List (Int × Int)
  | [] => []
  | (p, q, n) :: r => pairs p q (n + 1) ++ todo3 r
def ROK3 (l0 : Nat) (R : Rw3) : Prop := ∀ x ∈ R, x.1 + (x.2.2 + 1) ≤ l0 ∧ x.2.1 + (x.2.2 + 1) ≤ l0
theorem cellsOf3_len : ∀ R : Rw3, (cellsOf3 R).length = R.length * 3
  | [] => rfl
  | (p, q, n) :: r => by rw [cellsOf3, List.length_append, cellsOf3_len r]; simp only [List.length_cons, List.length_nil]; omega
def JU (w0 : World) (N : Nat → Prop) (b p q l0 B0 : Nat) (m : Int) (R : UR) (n : Nat) (a' : Act) (w' : World) : Prop :=
  ∃ (a c : Int) (Rs : Rw3) (v : Value) (U : Nat → Value) (l : List Int) (L : List Wr) (f : Nat), Rs.length + n ≤ 100000 ∧ ROK3 l0 Rs ∧ W64 a ∧ W64 c ∧ n < f ∧ l.length = l0 ∧ L.length + n ≤ B0 ∧ uniW f n l L a c (todo3 Rs) = R ∧ Nx (XW (HS p q l m L) TPr 3 b p (n : Int) v Rs.length (cellsOf3 Rs)) w0 N w' ∧
    a' = { tmps := (.pointer (some ⟨b, 0, none⟩) :: .pointer (some ⟨q, 0, none⟩) :: .int .u64 a :: .int .u64 c :: U 4 :: U 5 :: U 6 :: U 7 :: U 8 :: U 9 :: v :: U 11 :: U 12 :: U 13 :: U 14 :: U 15 :: U 16 :: U 17 :: U 18 :: U 19 :: U 20 :: U 21 :: U 22 :: U 23 :: U 24 :: U 25 :: U 26 :: U 27 :: U 28 :: U 29 :: U 30 :: U 31 :: U 32 :: U 33 :: U 34 :: U 35 :: U 36 :: U 37 :: U 38 :: U 39 :: U 40 :: U 41 :: U 42 :: U 43 :: U 44 :: U 45 :: U 46 :: U 47 :: U 48 :: U 49 :: U 50 :: U 51 :: U 52 :: U 53 :: U 54 :: U 55 :: U 56 :: U 57 :: U 58 :: U 59 :: U 60 :: U 61 :: U 62 :: U 63 :: U 64 :: U 65 :: U 66 :: U 67 :: U 68 :: U 69 :: U 70 :: U 71 :: U 72 :: U 73 :: U 74 :: U 75 :: U 76 :: U 77 :: U 78 :: U 79 :: U 80 :: U 81 :: U 82 :: U 83 :: U 84 :: U 85 :: U 86 :: U 87 :: U 88 :: U 89 :: U 90 :: U 91 :: U 92 :: U 93 :: U 94 :: U 95 :: U 96 :: U 97 :: U 98 :: U 99 :: U 100 :: U 101 :: U 102 :: U 103 :: U 104 :: U 105 :: U 106 :: U 107 :: U 108 :: U 109 :: U 110 :: U 111 :: U 112 :: U 113 :: U 114 :: U 115 :: U 116 :: U 117 :: U 118 :: U 119 :: U 120 :: U 121 :: U 122 :: U 123 :: U 124 :: U 125 :: U 126 :: U 127 :: U 128 :: U 129 :: U 130 :: U 131 :: U 132 :: U 133 :: U 134 :: U 135 :: U 136 :: U 137 :: U 138 :: U 139 :: U 140 :: U 141 :: U 142 :: U 143 :: U 144 :: U 145 :: U 146 :: U 147 :: U 148 :: U 149 :: U 150 :: U 151 :: U 152 :: U 153 :: U 154 :: U 155 :: U 156 :: U 157 :: U 158 :: U 159 :: U 160 :: []).toArray, defers := [] }
theorem JU.mk {w0 : World} {N : Nat → Prop} {b p q l0 B0 : Nat} {m : Int} {R : UR} {n : Nat} {a' : Act} {w' : World} (a c : Int) (Rs : Rw3) (v : Value) (l : List Int) (L : List Wr) (f : Nat) (h0 : Rs.length + n ≤ 100000 ∧ ROK3 l0 Rs ∧ W64 a ∧ W64 c ∧ n < f ∧ l.length = l0 ∧ L.length + n ≤ B0 ∧ uniW f n l L a c (todo3 Rs) = R ∧ Nx (XW (HS p q l m L) TPr 3 b p (n : Int) v Rs.length (cellsOf3 Rs)) w0 N w' )
    (h : a' = { tmps := (.pointer (some ⟨b, 0, none⟩) :: .pointer (some ⟨q, 0, none⟩) :: .int .u64 a :: .int .u64 c :: a'.tmps.getD 4 undef :: a'.tmps.getD 5 undef :: a'.tmps.getD 6 undef :: a'.tmps.getD 7 undef :: a'.tmps.getD 8 undef :: a'.tmps.getD 9 undef :: v :: a'.tmps.getD 11 undef :: a'.tmps.getD 12 undef :: a'.tmps.getD 13 undef :: a'.tmps.getD 14 undef :: a'.tmps.getD 15 undef :: a'.tmps.getD 16 undef :: a'.tmps.getD 17 undef :: a'.tmps.getD 18 undef :: a'.tmps.getD 19 undef :: a'.tmps.getD 20 undef :: a'.tmps.getD 21 undef :: a'.tmps.getD 22 undef :: a'.tmps.getD 23 undef :: a'.tmps.getD 24 undef :: a'.tmps.getD 25 undef :: a'.tmps.getD 26 undef :: a'.tmps.getD 27 undef :: a'.tmps.getD 28 undef :: a'.tmps.getD 29 undef :: a'.tmps.getD 30 undef :: a'.tmps.getD 31 undef :: a'.tmps.getD 32 undef :: a'.tmps.getD 33 undef :: a'.tmps.getD 34 undef :: a'.tmps.getD 35 undef :: a'.tmps.getD 36 undef :: a'.tmps.getD 37 undef :: a'.tmps.getD 38 undef :: a'.tmps.getD 39 undef :: a'.tmps.getD 40 undef :: a'.tmps.getD 41 undef :: a'.tmps.getD 42 undef :: a'.tmps.getD 43 undef :: a'.tmps.getD 44 undef :: a'.tmps.getD 45 undef :: a'.tmps.getD 46 undef :: a'.tmps.getD 47 undef :: a'.tmps.getD 48 undef :: a'.tmps.getD 49 undef :: a'.tmps.getD 50 undef :: a'.tmps.getD 51 undef :: a'.tmps.getD 52 undef :: a'.tmps.getD 53 undef :: a'.tmps.getD 54 undef :: a'.tmps.getD 55 undef :: a'.tmps.getD 56 undef :: a'.tmps.getD 57 undef :: a'.tmps.getD 58 undef :: a'.tmps.getD 59 undef :: a'.tmps.getD 60 undef :: a'.tmps.getD 61 undef :: a'.tmps.getD 62 undef :: a'.tmps.getD 63 undef :: a'.tmps.getD 64 undef :: a'.tmps.getD 65 undef :: a'.tmps.getD 66 undef :: a'.tmps.getD 67 undef :: a'.tmps.getD 68 undef :: a'.tmps.getD 69 undef :: a'.tmps.getD 70 undef :: a'.tmps.getD 71 undef :: a'.tmps.getD 72 undef :: a'.tmps.getD 73 undef :: a'.tmps.getD 74 undef :: a'.tmps.getD 75 undef :: a'.tmps.getD 76 undef :: a'.tmps.getD 77 undef :: a'.tmps.getD 78 undef :: a'.tmps.getD 79 undef :: a'.tmps.getD 80 undef :: a'.tmps.getD 81 undef :: a'.tmps.getD 82 undef :: a'.tmps.getD 83 undef :: a'.tmps.getD 84 undef :: a'.tmps.getD 85 undef :: a'.tmps.getD 86 undef :: a'.tmps.getD 87 undef :: a'.tmps.getD 88 undef :: a'.tmps.getD 89 undef :: a'.tmps.getD 90 undef :: a'.tmps.getD 91 undef :: a'.tmps.getD 92 undef :: a'.tmps.getD 93 undef :: a'.tmps.getD 94 undef :: a'.tmps.getD 95 undef :: a'.tmps.getD 96 undef :: a'.tmps.getD 97 undef :: a'.tmps.getD 98 undef :: a'.tmps.getD 99 undef :: a'.tmps.getD 100 undef :: a'.tmps.getD 101 undef :: a'.tmps.getD 102 undef :: a'.tmps.getD 103 undef :: a'.tmps.getD 104 undef :: a'.tmps.getD 105 undef :: a'.tmps.getD 106 undef :: a'.tmps.getD 107 undef :: a'.tmps.getD 108 undef :: a'.tmps.getD 109 undef :: a'.tmps.getD 110 undef :: a'.tmps.getD 111 undef :: a'.tmps.getD 112 undef :: a'.tmps.getD 113 undef :: a'.tmps.getD 114 undef :: a'.tmps.getD 115 undef :: a'.tmps.getD 116 undef :: a'.tmps.getD 117 undef :: a'.tmps.getD 118 undef :: a'.tmps.getD 119 undef :: a'.tmps.getD 120 undef :: a'.tmps.getD 121 undef :: a'.tmps.getD 122 undef :: a'.tmps.getD 123 undef :: a'.tmps.getD 124 undef :: a'.tmps.getD 125 undef :: a'.tmps.getD 126 undef :: a'.tmps.getD 127 undef :: a'.tmps.getD 128 undef :: a'.tmps.getD 129 undef :: a'.tmps.getD 130 undef :: a'.tmps.getD 131 undef :: a'.tmps.getD 132 undef :: a'.tmps.getD 133 undef :: a'.tmps.getD 134 undef :: a'.tmps.getD 135 undef :: a'.tmps.getD 136 undef :: a'.tmps.getD 137 undef :: a'.tmps.getD 138 undef :: a'.tmps.getD 139 undef :: a'.tmps.getD 140 undef :: a'.tmps.getD 141 undef :: a'.tmps.getD 142 undef :: a'.tmps.getD 143 undef :: a'.tmps.getD 144 undef :: a'.tmps.getD 145 undef :: a'.tmps.getD 146 undef :: a'.tmps.getD 147 undef :: a'.tmps.getD 148 undef :: a'.tmps.getD 149 undef :: a'.tmps.getD 150 undef :: a'.tmps.getD 151 undef :: a'.tmps.getD 152 undef :: a'.tmps.getD 153 undef :: a'.tmps.getD 154 undef :: a'.tmps.getD 155 undef :: a'.tmps.getD 156 undef :: a'.tmps.getD 157 undef :: a'.tmps.getD 158 undef :: a'.tmps.getD 159 undef :: a'.tmps.getD 160 undef :: []).toArray, defers := [] }) : JU w0 N b p q l0 B0 m R n a' w' :=
  ⟨a, c, Rs, v, fun i => a'.tmps.getD i undef, l, L, f, h0.1, h0.2.1, h0.2.2.1, h0.2.2.2.1, h0.2.2.2.2.1, h0.2.2.2.2.2.1, h0.2.2.2.2.2.2.1, h0.2.2.2.2.2.2.2.1, h0.2.2.2.2.2.2.2.2, h⟩
theorem infoP : (Try.prog.info? 152).map (fun i => (i.zero, i.size, i.bytes)) = some (some (.agg #[.int .i64 0, .int .i64 0, .int .i64 0]), 3, 24) := by kernel_rfl
theorem ixP_rule {g n c k : Nat} (hk : k < n) (w : World) : (Instr.indexAt 145 (.slice (some ⟨g, 0, none⟩) n c) (.int .i64 (k : Int))).run Try.prog w = .ok (.pointer (some ⟨g, k * 3, none⟩)) w := by
  have he : Try.prog.elem 145 = 152 := by kernel_rfl
  have hz : (sizeOf 152).run Try.prog w = .ok 3 w := by kernel_rfl
  rw [run_indexAt_slice w 145 _ _ _ _ _ (by rw [he]; exact Try.underlying145), if_pos ⟨by omega, by omega⟩, he, hz]
  simp [Result.andThen, Addr.add]
  omega
theorem cell_three_new (w : World) (x0 x1 x2 : Value) (t : TypeId) : ∀ j u, [x0, x1, x2][j]? = some u → (w.alloc (.cells #[x0, x1, x2] t)).cell? ((⟨w.heap.size, 0, none⟩ : Addr).add j) = some u := by
  intro j u hj
  have h := kp.alloc_at w (.cells #[x0, x1, x2] t)
  have e : (⟨w.heap.size, 0, none⟩ : Addr).add j = ⟨w.heap.size, j, none⟩ := by simp [Addr.add]; omega
  rw [e]
  simp only [World.cell?, h]
  simpa using hj
theorem X_core {A : Ob} {e : TypeId} {sz b p n : Nat} {k : Int} {v : Value} {xs : List Value} {w0 wr : World} {N : Nat → Prop} (h : Nx (XW A e sz b p k v n xs) w0 N wr) : ∃ M, Tim A (Blk b (UW p k)) wr M ∧ ∀ A' k' w', Nx (Tim A' (Blk b (UW p k'))) wr M w' → Nx (XW A' e sz b p k' v n xs) w0 N w' := by
  obtain ⟨K, t, kk, sub⟩ := h
  obtain ⟨M, c, up⟩ := Tim.at1 Fr.row t
  exact ⟨M, c, fun A' k' w' nn => Nx.trans kk sub (up _ _ nn)⟩
theorem X_set3 {A : Ob} {e : TypeId} {b p j : Nat} {k : Int} {xs0 : List Value} {x0 x1 x2 : Value} {w0 wr : World} {N : Nat → Prop} {g c : Nat} (f : Fr A) (y0 y1 y2 : Value)
    (h : Nx (XW A e 3 b p k (.slice (some ⟨g, 0, none⟩) (j + 1) c) (j + 1) (xs0 ++ [x0, x1, x2])) w0 N wr) (hl : xs0.length = j * 3) : Nx (XW A e 3 b p k (.slice (some ⟨g, 0, none⟩) (j + 1) c) (j + 1) (xs0 ++ [y0, y1, y2])) w0 N (((wr.setCell ⟨g, j * 3, none⟩ y0).setCell ⟨g, j * 3 + 1, none⟩ y1).setCell ⟨g, j * 3 + 2, none⟩ y2) := by
  obtain ⟨g1, c1, e1, _, _, _, _, _, s1, _⟩ := X_top f h hl rfl
  injection e1 with e1 _ e3
  injection e1 with e1
  injection e1 with e1
  subst e1 e3
  obtain ⟨g2, c2, e2, _, _, _, _, _, s2, _⟩ := X_top f (s1 0 y0 (by omega)) hl rfl
  injection e2 with e2 _ e4
  injection e2 with e2
  injection e2 with e2
  subst e2 e4
  obtain ⟨g3, c3, e3, _, _, _, _, _, s3, _⟩ := X_top f (s2 1 y1 (by omega)) hl rfl
  injection e3 with e3 _ e5
  injection e3 with e3
  injection e3 with e3
  subst e3 e5
  exact s3 2 y2 (by omega)
section
variable {w w' : World} {p q b k : Nat} {N : Nat → Prop} {l : List Int} {m : Int} {L : List Wr}
set_option maxRecDepth 100000 in
set_option maxHeartbeats 8000000 in
theorem uuni_any (h : HW p q b l m L k w N) (hk : k ≤ 100000) (hL : L.length + k < 1099511627776) (a0 c0 : Int) (ha0 : W64 a0) (hc0 : W64 c0) (f0 : Nat) (hf0 : k < f0) (R : UR) (hR : uniW f0 k l L a0 c0 [] = R) :
    Calls Try.prog 58 #[.pointer (some ⟨b, 0, none⟩), .pointer (some ⟨q, 0, none⟩), .int .u64 a0, .int .u64 c0] w fun e w' => e = .returned (.tuple #[.bool R.is, .int .i64 R.e]) ∧ Nx (HW p q b R.l m R.L R.k) w N w' := by
  have X0 := Lib.hid (X_begin (e := TPr) (sz := 3) h)
  have HR := Lib.hid (And.intro hR (And.intro ha0 (And.intro hc0 (And.intro hk (And.intro hf0 hL)))))
  have HLL : Hid (l.length ≤ 1048576) := by
    obtain ⟨K, M, ⟨⟨F, G, hpp, _⟩, _⟩, _⟩ := h
    have := hpp.len_le
    exact Lib.hid (by omega)
  clear h hR ha0 hc0 hk hf0 hL
  go_enter Try.func58, Try.ntmps58
  go_wp2_with fail
  refine wp_scope_one (JU w N b p q l.length (L.length + k) m R) rfl ?_ ?_
  · rintro n9 a9 wr ⟨a, c, Rs, v, U, l1, L1, f, hlen, hrok, ha, hc, hnf, hl1, hL1, hun, x, rfl⟩
    obtain ⟨hwb, turn⟩ := X_walk frHS x
    obtain ⟨c0, c1, f0, f1⟩ := walker hwb
    obtain ⟨fu, rfl⟩ : ∃ fu, f = fu + 1 := ⟨f - 1, by omega⟩
    cases n9 with
    | zero =>
      have hvis := visit_0 hwb
      have HX := Lib.hid (And.intro x hun)
      clear x hun hwb turn hlen hrok ha hc c0 c1 f0 f1 hnf hl1 hL1
      go_wp2_with fail
      refine hvis.mono ?_; rintro e w' ⟨rfl, rfl⟩
      go_wp2_with fail
      try simp only [dj]
      change bodyPost _ _ _ Exit.ret _ _
      go_ret2
      have ho := HX.out.2
      rw [uniW] at ho
      rw [← ho]
      exact ⟨rfl, X_drop HX.out.1⟩
    | succ k9 =>
      have hvis := visit_s k9 (by omega) hwb
      rw [uni_step] at hun
      have HT := Lib.hid turn
      have HX := Lib.hid (And.intro hlen (And.intro hrok (And.intro hnf (And.intro hl1 (And.intro hL1 (And.intro ha hc))))))
      clear x hlen hrok ha hc hwb turn c0 c1 f0 f1 hnf hL1
      go_wp2_with fail
      refine hvis.mono ?_; rintro e w1 ⟨rfl, hb1, k1⟩
      have x1 := HT.out _ _ k1 hb1
      obtain ⟨M1, ⟨⟨F1, G1, hp1, ht1, hd1, hK1⟩, hg1⟩, hMb, _⟩ := X_inner x1
      obtain ⟨c0, c1, f0, f1⟩ := walker hb1
      have hda := fun n => Lib.hid (deref_any (hp1.drewN n) a HX.out.2.2.2.2.2.1)
      have hdc := fun n => Lib.hid (deref_any (hp1.drewN n) c HX.out.2.2.2.2.2.2)
      have hwa := dr_w hp1.wf l1.length a HX.out.2.2.2.2.2.1
      have hwc := dr_w hp1.wf l1.length c HX.out.2.2.2.2.2.2
      generalize dr l1 l1.length a = d at *
      generalize dr l1 l1.length c = e9 at *
      have HX1 := Lib.hid (And.intro x1 (And.intro hb1 (And.intro hwa (And.intro hwc hun))))
      clear hvis k1 hb1 x1 hp1 ht1 hd1 hK1 hg1 hMb HT hun hwa hwc
      go_upto_region 4 with fail
      go_quiet ((first | (go_at_call 70; first | with_reducible exact hp.quiet_left (hda _).out | with_reducible exact hp.quiet_left (hdc _).out)))
      obtain ⟨w2, hw2⟩ : ∃ w2, w2 = w1.drewN nq := ⟨_, rfl⟩
      have X2 := Lib.hid (Nx.below (frXW frHS) HX1.out.1 (drewN_below w1 nq))
      rw [← hw2] at X2 ⊢
      clear hw2 hda hdc c0 c1 f0 f1
      obtain ⟨M2, ⟨⟨F2, G2, hp2, _⟩, _⟩, _⟩ := X_inner X2.out
      have hb2 := (X_walk frHS X2.out).1
      obtain ⟨c0, c1, f0, f1⟩ := walker hb2
      have hna := unode_any hp2 hb2 d HX1.out.2.2.1
      obtain ⟨nx, hnx⟩ : ∃ nx, nx = nd l1 d := ⟨_, rfl⟩
      obtain ⟨ny, hny⟩ : ∃ ny, ny = nd l1 e9 := ⟨_, rfl⟩
      have hun := HX1.out.2.2.2.2
      unfold stepU at hun
      have hcx := fun h5 hok => nd_comp (l := l1) HX1.out.2.2.1 (by rw [← hnx]; exact h5) (by rw [← hnx]; exact hok)
      have hcy := fun h5 hok => nd_comp (l := l1) HX1.out.2.2.2.1 (by rw [← hny]; exact h5) (by rw [← hny]; exact hok)
      have hvx := fun hok => nd_var (l := l1) (c := d) (by rw [← hnx]; exact hok)
      have hvy := fun hok => nd_var (l := l1) (c := e9) (by rw [← hny]; exact hok)
      have hox := fun hok => nd_off (l := l1) (c := d) (by rw [← hnx]; exact hok)
      have hoy := fun hok => nd_off (l := l1) (c := e9) (by rw [← hny]; exact hok)
      have harx := fun h5 => nd_ar (l := l1) (c := d) (by rw [← hnx]; exact h5)
      have hary := fun h5 => nd_ar (l := l1) (c := e9) (by rw [← hny]; exact h5)
      have HNY := Lib.hid hny
      rw [← hnx] at hna
      rw [← hnx, ← hny] at hun
      simp only [← hnx] at hcx hvx harx
      simp only [← hny] at hcy hvy hary
      obtain ⟨kx, ux, vx, fx, ax, okx⟩ := nx
      obtain ⟨ky, uy, vy, fy, ay, oky⟩ := ny
      dsimp only [ndv] at hna hun hcx hcy hvx hvy hox hoy harx hary
      have HC := Lib.hid (And.intro hcx (And.intro hcy (And.intro hvx (And.intro hvy (And.intro hox (And.intro hoy (And.intro harx hary)))))))
      have HU := Lib.hid hun
      clear hun hcx hcy hvx hvy hox hoy harx hary hnx hny hp2 hb2 hl1
      go_wp2_with fail
      refine hna.mono ?_; rintro e w3 ⟨rfl, b3⟩
      have x3 := Lib.hid (Nx.below (frXW frHS) X2.out b3)
      obtain ⟨n1, hn1⟩ : ∃ n1, n1 = w3.heap.size := ⟨_, rfl⟩
      obtain ⟨w4, hw4⟩ : ∃ w4, w4 = w3.alloc (NO kx ux vx fx ax) := ⟨_, rfl⟩
      have X4 := Lib.hid (Nx.below (frXW frHS) x3.out (show Below w3.heap.size w3 w4 by rw [hw4]; exact ba w3 _))
      have hz := show w4.heap[n1]? = some (NO kx ux vx fx ax) by rw [hn1, hw4]; exact alloc_at w3 _
      have HW4 := Lib.hid (And.intro hn1 hw4)
      have HZ := Lib.hid hz
      clear b3 x3 hn1 hw4 c0 c1 f0 f1 hna hz
      go_upto_region 6 with fail
      change Code.wp _ _ _ _ (w3.alloc (NO kx ux vx fx ax))
      rw [← HW4.out.1, ← HW4.out.2]
      obtain ⟨M4, ⟨⟨F4, G4, hp4, _⟩, _⟩, _⟩ := X_inner X4.out
      have hb4 := (X_walk frHS X4.out).1
      obtain ⟨c0, c1, f0, f1⟩ := walker hb4
      have hnb := unode_any hp4 hb4 e9 HX1.out.2.2.2.1
      rw [← HNY.out] at hnb
      dsimp only [ndv] at hnb
      clear hp4 hb4
      go_wp2_with fail
      refine hnb.mono ?_; rintro e w5 ⟨rfl, b5⟩
      have x5 := Lib.hid (Nx.below (frXW frHS) X4.out b5)
      obtain ⟨n2, hn2⟩ : ∃ n2, n2 = w5.heap.size := ⟨_, rfl⟩
      obtain ⟨w6, hw6⟩ : ∃ w6, w6 = w5.alloc (NO ky uy vy fy ay) := ⟨_, rfl⟩
      have B6 := show Below w5.heap.size w5 w6 by rw [hw6]; exact ba w5 _
      have X6 := Lib.hid (Nx.below (frXW frHS) x5.out B6)
      have hz2 := show w6.heap[n2]? = some (NO ky uy vy fy ay) by rw [hn2, hw6]; exact alloc_at w5 _
      have hz5 : w5.heap[n1]? = some (NO kx ux vx fx ax) := (b5.block n1 (Array.getElem?_eq_some_iff.1 HZ.out).1).trans HZ.out
      have hz1 : w6.heap[n1]? = some (NO kx ux vx fx ax) := (B6.block n1 (Array.getElem?_eq_some_iff.1 hz5).1).trans hz5
      have HW6 := Lib.hid (And.intro hn2 hw6)
      obtain ⟨⟨z0, z1, z2, z3, z4⟩, _⟩ := five hz1
      obtain ⟨⟨y0, y1, y2, y3, y4⟩, _⟩ := five hz2
      clear b5 x5 hn2 hw6 c0 c1 f0 f1 hnb hz1 hz2 hz5 B6
      go_upto_region 7 with fail
      change Code.wp _ _ _ _ (w5.alloc (NO ky uy vy fy ay))
      rw [← HW6.out.1, ← HW6.out.2]
      cases okx with
      | false =>
        have ho := HU.out
        rw [if_pos (Or.inl rfl)] at ho
        have HO : Hid ((⟨false, 2, l1, L1, k9⟩ : UR) = R) := Lib.hid ho
        clear ho HU HC z1 z2 z3 z4 y1 y2 y3 y4
        go_wp2_with fail
        try simp only [dj]
        change bodyPost _ _ _ Exit.ret _ _
        go_ret2
        rw [← HO.out]
        exact ⟨rfl, X_drop X6.out⟩
      | true =>
        cases oky with
        | false =>
          have ho := HU.out
          rw [if_pos (Or.inr rfl)] at ho
          have HO : Hid ((⟨false, 2, l1, L1, k9⟩ : UR) = R) := Lib.hid ho
          clear ho HU HC z1 z2 z3 z4 y1 y2 y3 y4
          go_wp2_with fail
          try simp only [dj]
          change bodyPost _ _ _ Exit.ret _ _
          go_ret2
          rw [← HO.out]
          exact ⟨rfl, X_drop X6.out⟩
        | true =>
          have ho := HU.out
          rw [if_neg (by simp)] at ho
          have HO := Lib.hid ho
          clear ho HU
          go_upto_region 9 with fail
          go_cut [58] (fun s wx => ∃ t : Bool, s = .bool t ∧ TB t (kx = 1 ∨ ky = 1) ∧ wx = w6)
          case first =>
            clear z1 z2 z3 z4 y1 y2 y3 y4
            by_cases h1 : kx = 1
            · have e1 : (kx == 1) = true := by rw [beq_iff_eq]; exact h1
              have HD := Lib.hid (show TB true (kx = 1 ∨ ky = 1) from ⟨fun _ => Or.inl h1, fun _ => rfl⟩)
              clear h1
              go_wp2_with fail
              go_meet
              case rel => exact ⟨_, rfl, HD.out, rfl⟩
            · have e1 : (kx == 1) = false := by rw [beq_eq_false_iff_ne]; exact h1
              by_cases h2 : ky = 1
              · have e2 : (ky == 1) = true := by rw [beq_iff_eq]; exact h2
                have HD := Lib.hid (show TB true (kx = 1 ∨ ky = 1) from ⟨fun _ => Or.inr h2, fun _ => rfl⟩)
                clear h1 h2
                go_wp2_with fail
                go_meet
                case rel => exact ⟨_, rfl, HD.out, rfl⟩
              · have e2 : (ky == 1) = false := by rw [beq_eq_false_iff_ne]; exact h2
                have HD := Lib.hid (show TB false (kx = 1 ∨ ky = 1) from ⟨fun h => Bool.noConfusion h, fun h => absurd h (fun h => h.elim h1 h2)⟩)
                clear h1 h2
                go_wp2_with fail
                go_meet
                case rel => exact ⟨_, rfl, HD.out, rfl⟩
          case rest =>
            obtain ⟨t58, rfl, ht58, rfl⟩ := hcut
            have HT58 := Lib.hid ht58
            clear ht58
            go_upto_if 58 with fail
            go_cut [10] (fun s10 wx => ∃ Rs4 k4 l4 L4, Rs4.length + k4 ≤ 100000 ∧ ROK3 l.length Rs4 ∧ k4 ≤ k9 ∧ l4.length = l.length ∧ L4.length + k4 ≤ L.length + k ∧ contU fu k4 l4 L4 (todo3 Rs4) = R ∧ Nx (XW (HS p q l4 m L4) TPr 3 b p (k4 : Int) s10 Rs4.length (cellsOf3 Rs4)) w N wx)
            case first =>
              by_cases hv : kx = 1 ∨ ky = 1
              · as_aux_lemma =>
                obtain ⟨M, hw, up⟩ := X_core X6.out
                obtain ⟨hB1, hB2, hB3⟩ := bdW_facts l1 L1 k9 d e9
                have hB4 := bdW_fail l1 L1 k9 d e9
                have hbd := ubd_any hw (by have := HX.out.1; omega) (by have := HX.out.2.2.2.2.1; have := HR.out.2.2.2.2.2; omega) d e9 HX1.out.2.2.1 HX1.out.2.2.2.1 (HC.out.2.2.2.2.1 rfl) (HC.out.2.2.2.2.2.1 rfl) (hv.imp (HC.out.2.2.1 rfl).2 (HC.out.2.2.2.1 rfl).2)
                have ho := HO.out
                rw [if_pos hv] at ho
                obtain rfl : t58 = true := HT58.out.2 hv
                generalize bdW l1 L1 k9 d e9 = B at *
                have HB := Lib.hid (And.intro hB1 (And.intro hB2 (And.intro hB3 (And.intro hB4 ho))))
                have UP := Lib.hid up
                clear hw up hB1 hB2 hB3 hB4 ho hv HO HC z0 z1 z2 z3 z4 y0 y1 y2 y3 y4
                obtain ⟨bi, be, bl, bL, bk⟩ := B
                dsimp only at *
                go_wp2_with fail
                refine hbd.mono ?_; rintro e w7 ⟨rfl, nx⟩
                have X7 := Lib.hid (UP.out _ _ _ nx)
                clear nx UP hbd
                cases bi with
                | false =>
                  obtain ⟨rfl, rfl⟩ := HB.out.2.2.2.1 rfl
                  have ho := HB.out.2.2.2.2
                  rw [if_neg (by decide)] at ho
                  have HO : Hid ((⟨false, be, bl, bL, bk⟩ : UR) = R) := Lib.hid ho
                  clear ho HB
                  go_wp2_with fail
                  try simp only [dj]
                  change bodyPost _ _ _ Exit.ret _ _
                  go_ret2
                  rw [← HO.out]
                  exact ⟨rfl, X_drop X7.out⟩
                | true =>
                  have ho := HB.out.2.2.2.2
                  rw [if_pos rfl] at ho
                  have HO : Hid (contU fu bk bl bL (todo3 Rs) = R) := Lib.hid ho
                  clear ho
                  go_wp2_with fail
                  go_meet
                  case rel => exact ⟨Rs, bk, bl, bL, by have := HX.out.1; have := HB.out.2.2.1; omega, HX.out.2.1, HB.out.2.2.1, HB.out.1.trans HX.out.2.2.2.1, by have := HX.out.2.2.2.2.1; have := HB.out.2.1; have := HB.out.2.2.1; omega, HO.out, X7.out⟩
              · obtain rfl : t58 = false := by cases ht : t58 with | false => rfl | true => exact absurd (HT58.out.1 ht) hv
                have ho := HO.out
                rw [if_neg hv] at ho
                have wn := fun w => words_neq ux vx uy vy w
                by_cases hk1 : kx = ky
                · obtain rfl : kx = ky := hk1
                  have wt : (ux == uy && vx == vy) = decide (ux = uy ∧ vx = vy) := by by_cases h1 : ux = uy <;> by_cases h2 : vx = vy <;> simp [h1, h2]
                  by_cases hww : ux = uy ∧ vx = vy
                  · rw [if_neg (fun h => h.elim (fun h => h rfl) (fun h => h hww))] at ho
                    rw [wt, decide_eq_true hww] at wn
                    have HO2 := Lib.hid ho
                    have hwwK := Lib.hid hww.1
                    clear wt hww ho HO hv
                    by_cases h5 : kx = 5
                    · as_aux_lemma =>
                      obtain ⟨q1, j1, hf1, ha1, hj1, hq1⟩ := HC.out.1 h5 rfl
                      obtain ⟨q2, j2, hf2, ha2, hj2, hq2⟩ := HC.out.2.1 h5 rfl
                      have haa : ax = ay := by rw [HC.out.2.2.2.2.2.2.1 h5, HC.out.2.2.2.2.2.2.2 h5, hwwK.out]
                      have hjj : j2 = j1 := by omega
                      have ho := HO2.out
                      rw [if_pos h5, hf1, hf2, ha1] at ho
                      have HO3 : Hid (contU fu k9 l1 L1 (todo3 ((q1, q2, j1) :: Rs)) = R) := Lib.hid ho
                      subst h5 hf1 ha1 hf2
                      have HQ := Lib.hid (And.intro hq1 (show q2 + (j1 + 1) ≤ l1.length by omega))
                      obtain ⟨M, hR, up⟩ := X_row frHS X6.out
                      obtain ⟨sa, sc, rfl⟩ := hR.shape
                      have hR0 := hR.1
                      obtain ⟨i0, hi, hz0, hz1, hz2⟩ := info_parts infoP
                      have HI := Lib.hid (And.intro hi (And.intro hz0 (And.intro hz1 hz2)))
                      have HRW := Lib.hid hR0
                      have PU := Lib.hid (fun (v' : Value) (w5 : World) (hr3 : w5.ownsRow 0 152 3 v' (Rs.length + 1) (cellsOf3 Rs ++ [.int .i64 (q1 : Int), .int .i64 (q2 : Int), .int .i64 ((j1 + 1 : Nat) : Int)])) g3 hat => up _ _ _ _ (Row.push hR (kp.ba _ (.cells #[.int .i64 (q1 : Int), .int .i64 (q2 : Int), .int .i64 ((j1 + 1 : Nat) : Int)] 152)) hr3 g3 hat))
                      have hlen := HX.out.1
                      have hln9 : Rs.length ≤ 100000 := by omega
                      clear hR up hR0 hi hz0 hz1 hz2 hj1 hq1 hj2 hq2 ha2 haa hjj ho hlen HO2 HC
                      go_wp2_with (at_builtin; refine wpList_append_own_at _ rfl (.tmp 85) (.tmp 93) 145 rfl 0 152 i0 (.agg #[.int .i64 0, .int .i64 0, .int .i64 0]) 3 24 Try.underlying145 HI.out.1 HI.out.2.1 HI.out.2.2.1 HI.out.2.2.2 rfl (by decide) _ _ _ rfl (HRW.out.alloc _) ⟨wc.heap.size, 0, none⟩ 1 1 [.int .i64 (q1 : Int), .int .i64 (q2 : Int), .int .i64 ((j1 + 1 : Nat) : Int)] rfl rfl (cell_three_new _ _ _ _ _) ?c2 ?b1 ?b2 ?b3 ?_)
                      case c2 => intro u hu; simp only [List.mem_cons, List.not_mem_nil, or_false] at hu; rcases hu with rfl | rfl | rfl <;> rfl
                      case b1 => unfold maxLen; omega
                      case b2 => omega
                      case b3 => exact Nat.zero_le _
                      intro v' w9 hr3 g3 _ hat
                      have x9 := PU.out v' w9 (by simpa using hr3) g3 (by simpa using hat)
                      clear hr3 g3 hat PU HRW
                      go_wp2_with fail
                      go_meet
                      case rel =>
                        refine ⟨(q1, q2, j1) :: Rs, k9, l1, L1, by have := HX.out.1; simp only [List.length_cons]; omega, ?_, Nat.le_refl _, HX.out.2.2.2.1, by have := HX.out.2.2.2.2.1; omega, HO3.out, x9⟩
                        intro y hy
                        rcases List.mem_cons.1 hy with rfl | hy
                        · rw [← HX.out.2.2.2.1]; exact HQ.out
                        · exact HX.out.2.1 y hy
                    · as_aux_lemma =>
                      have ho := HO2.out
                      rw [if_neg h5] at ho
                      have HO3 : Hid (contU fu k9 l1 L1 (todo3 Rs) = R) := Lib.hid ho
                      clear ho HO2 HC
                      go_wp2_with fail
                      go_meet
                      case rel => exact ⟨Rs, k9, l1, L1, by have := HX.out.1; omega, HX.out.2.1, Nat.le_refl _, HX.out.2.2.2.1, by have := HX.out.2.2.2.2.1; omega, HO3.out, X6.out⟩
                  · rw [if_pos (Or.inr hww)] at ho
                    rw [wt, decide_eq_false hww] at wn
                    have HO2 : Hid ((⟨false, 0, l1, L1, k9⟩ : UR) = R) := Lib.hid ho
                    clear ho HO HC wt hww hv
                    go_wp2_with fail
                    try simp only [dj]
                    change bodyPost _ _ _ Exit.ret _ _
                    go_ret2
                    rw [← HO2.out]
                    exact ⟨rfl, X_drop X6.out⟩
                · rw [if_pos (Or.inl hk1)] at ho
                  have HO2 : Hid ((⟨false, 0, l1, L1, k9⟩ : UR) = R) := Lib.hid ho
                  clear ho HO HC hv
                  go_wp2_with fail
                  try simp only [dj]
                  change bodyPost _ _ _ Exit.ret _ _
                  go_ret2
                  rw [← HO2.out]
                  exact ⟨rfl, X_drop X6.out⟩
            case rest =>
              obtain ⟨Rs4, k4, l4, L4, hl4, hr4, hk4, hll4, hL4, hct, x4⟩ := hcut
              clear z0 z1 z2 z3 z4 y0 y1 y2 y3 y4 X6 HC HO HX1 HW6 HT58
              cases Rs4 with
              | nil =>
                obtain ⟨sa, sc, rfl⟩ := X_shape frHS x4
                have HX4 := Lib.hid (And.intro x4 hct)
                clear x4 hl4 hr4 hct hk4 hll4 hL4
                go_wp2_with fail
                try simp only [dj]
                change bodyPost _ _ _ Exit.ret _ _
                go_ret2
                have ho := HX4.out.2
                rw [todo3, contU] at ho
                rw [← ho]
                exact ⟨rfl, X_drop HX4.out.1⟩
              | cons y r =>
                as_aux_lemma =>
                obtain ⟨q1, q2, n1⟩ := y
                obtain ⟨g, sc, rfl, hcg, hgl, hgb, hcell, hfz, hset, hpop⟩ := X_top frHS (xs0 := cellsOf3 r) (ys := [.int .i64 (q1 : Int), .int .i64 (q2 : Int), .int .i64 ((n1 + 1 : Nat) : Int)]) x4 (cellsOf3_len r) rfl
                have hq := hr4 (q1, q2, n1) (List.mem_cons_self)
                have z0 := hcell 0 (by omega)
                have z1 := hcell 1 (by omega)
                have z2 := hcell 2 (by omega)
                simp only [Nat.add_zero, List.getElem?_cons_zero, List.getElem?_cons_succ] at z0 z1 z2
                obtain ⟨M4, ⟨⟨F4, G4, hp4, _⟩, _⟩, _⟩ := X_inner x4
                have hg1 := fun n => Lib.hid (get_any (hp4.drewN n) (q1 : Int))
                have HCW := Lib.hid (And.intro (gv_w hp4.wf (q1 : Int)) (gv_w hp4.wf (q2 : Int)))
                have hwb := (X_walk frHS x4).1
                obtain ⟨c0, c1, f0, f1⟩ := walker hwb
                have ix := fun w => ixP_rule (g := g) (n := r.length + 1) (c := sc) (k := r.length) (by omega) w
                dsimp only at hq
                have hll := HLL.out
                have hqa : (q1 : Int) ≤ 1048576 := by omega
                have hqb : (q2 : Int) ≤ 1048576 := by omega
                have hn2 : (n1 : Int) ≤ 1048576 := by omega
                simp only [List.length_cons] at hl4
                have hd9 : r.length + 1 ≤ 100000 := by omega
                have hgb1 : gb l4 (q1 : Int) = true := decide_eq_true ⟨by omega, by omega⟩
                have hgb2 : gb l4 (q2 : Int) = true := decide_eq_true ⟨by omega, by omega⟩
                rw [hgb1] at hg1
                have HG2 := Lib.hid hgb2
                have hct2 : uniW fu k4 l4 L4 (gv l4 (q1 : Int)) (gv l4 (q2 : Int)) (pairs ((q1 : Int) + 1) ((q2 : Int) + 1) n1 ++ todo3 r) = R := hct
                have HCT := Lib.hid hct2
                have HX4 := Lib.hid (And.intro x4 (And.intro hl4 (And.intro hr4 (And.intro hk4 (And.intro hll4 (And.intro hL4 (And.intro hq hcg)))))))
                obtain ⟨ca, hca⟩ : ∃ ca, ca = gv l4 (q1 : Int) := ⟨_, rfl⟩
                obtain ⟨cb, hcb⟩ : ∃ cb, cb = gv l4 (q2 : Int) := ⟨_, rfl⟩
                simp only [← hca] at hg1
                have HCC := Lib.hid (And.intro hca hcb)
                clear x4 hl4 hr4 hct hct2 hk4 hll4 hL4 hq hcg hcell hfz hset hpop hp4 hwb hgb1 hgb2 hca hcb hgl hgb hll
                go_upto_region 20 with fail
                go_quiet ((first | (go_at_call 85; exact hp.quiet_left (hg1 _).out)))
                obtain ⟨w5, hw5⟩ : ∃ w5, w5 = wc.drewN nq := ⟨_, rfl⟩
                have X5 := Lib.hid (Nx.below (frXW frHS) HX4.out.1 (drewN_below wc nq))
                rw [← hw5] at X5 ⊢
                clear hw5 hg1 z0 z1 z2 c0 c1 f0 f1
                obtain ⟨g', sc', he', _, _, _, hcell, _, _, _⟩ := X_top frHS (xs0 := cellsOf3 r) (ys := [.int .i64 (q1 : Int), .int .i64 (q2 : Int), .int .i64 ((n1 + 1 : Nat) : Int)]) X5.out (cellsOf3_len r) rfl
                injection he' with he1 _ he3
                injection he1 with he1
                injection he1 with he1
                subst he1 he3
                have z1 := hcell 1 (by omega)
                simp only [List.getElem?_cons_zero, List.getElem?_cons_succ] at z1
                obtain ⟨M5, ⟨⟨F5, G5, hp5, _⟩, _⟩, _⟩ := X_inner X5.out
                have hg2 := fun n => Lib.hid (get_any (hp5.drewN n) (q2 : Int))
                rw [HG2.out] at hg2
                simp only [← HCC.out.2] at hg2
                obtain ⟨c0, c1, f0, f1⟩ := walker (X_walk frHS X5.out).1
                clear hcell hp5
                go_upto_region 21 with fail
                go_quiet ((first | (go_at_call 85; exact hp.quiet_left (hg2 _).out)))
                obtain ⟨w7, hw7⟩ : ∃ w7, w7 = w5.drewN nq := ⟨_, rfl⟩
                have X7 := Lib.hid (Nx.below (frXW frHS) X5.out (drewN_below w5 nq))
                rw [← hw7] at X7 ⊢
                clear hw7 hg2 z1 c0 c1 f0 f1
                obtain ⟨g', sc', he', hcg, _, _, hcell, hfz, _, _⟩ := X_top frHS (xs0 := cellsOf3 r) (ys := [.int .i64 (q1 : Int), .int .i64 (q2 : Int), .int .i64 ((n1 + 1 : Nat) : Int)]) X7.out (cellsOf3_len r) rfl
                injection he' with he1 _ he3
                injection he1 with he1
                injection he1 with he1
                subst he1 he3
                have z0 := hcell 0 (by omega)
                have z1 := hcell 1 (by omega)
                have z2 := hcell 2 (by omega)
                simp only [Nat.add_zero, List.getElem?_cons_zero, List.getElem?_cons_succ] at z0 z1 z2
                have fz0 := hfz (r.length * 3)
                have fz1 := hfz (r.length * 3 + 1)
                have fz2 := hfz (r.length * 3 + 2)
                clear hcell hfz hcg
                go_upto_region 22 with fail
                go_region
                obtain ⟨w8, hw8⟩ : ∃ w8, w8 = (((w7.setCell ⟨g, r.length * 3, none⟩ (.int .i64 ((q1 : Int) + 1))).setCell ⟨g, r.length * 3 + 1, none⟩ (.int .i64 ((q2 : Int) + 1))).setCell ⟨g, r.length * 3 + 2, none⟩ (.int .i64 (n1 : Int))).drew := ⟨_, rfl⟩
                have X8 := Lib.hid (Nx.below (frXW frHS) (X_set3 frHS (.int .i64 ((q1 : Int) + 1)) (.int .i64 ((q2 : Int) + 1)) (.int .i64 (n1 : Int)) X7.out (cellsOf3_len r)) (kp.bdr _))
                rw [← hw8] at X8 ⊢
                clear hw8 z0 z1 z2 fz0 fz1 fz2
                obtain ⟨g', sc', he', hcg, _, _, hcell, _, _, hpop⟩ := X_top frHS (xs0 := cellsOf3 r) (ys := [.int .i64 ((q1 : Int) + 1), .int .i64 ((q2 : Int) + 1), .int .i64 (n1 : Int)]) X8.out (cellsOf3_len r) rfl
                injection he' with he1 _ he3
                injection he1 with he1
                injection he1 with he1
                subst he1 he3
                have z2 := hcell 2 (by omega)
                simp only [List.getElem?_cons_zero, List.getElem?_cons_succ] at z2
                have HP := Lib.hid hpop
                clear hcell hpop
                have hfin : ∀ (td : List (Int × Int)), pairs ((q1 : Int) + 1) ((q2 : Int) + 1) n1 ++ todo3 r = td → uniW fu k4 l4 L4 ca cb td = R := fun td h => by rw [HCC.out.1, HCC.out.2, ← h]; exact HCT.out
                have HFI := Lib.hid hfin
                have hwab : W64 ca ∧ W64 cb := by rw [HCC.out.1, HCC.out.2]; exact HCW.out
                have HWAB := Lib.hid hwab
                clear hfin hwab
                cases n1 with
                | zero =>
                  go_wp2_with fail
                  go_step3
                  refine ⟨k4, by have := HX4.out.2.2.2.1; omega, rfl, JU.mk ca cb r _ l4 L4 fu ⟨by have := HX4.out.2.1; omega, fun y hy => HX4.out.2.2.1 y (List.mem_cons_of_mem _ hy), HWAB.out.1, HWAB.out.2, by have := HX4.out.2.2.2.1; have := HX.out.2.2.1; omega, HX4.out.2.2.2.2.1, HX4.out.2.2.2.2.2.1, HFI.out _ rfl, HP.out⟩ rfl⟩
                | succ j =>
                  have hj0 : (((j + 1 : Nat) : Int) == 0) = false := by rw [beq_eq_false_iff_ne]; omega
                  clear hn2 hqa hqb hcg hd9
                  generalize ((j + 1 : Nat) : Int) = z at z2 hj0
                  go_wp2_with fail
                  go_step3
                  refine ⟨k4, by have := HX4.out.2.2.2.1; omega, rfl, JU.mk ca cb ((q1 + 1, q2 + 1, j) :: r) _ l4 L4 fu ⟨by have := HX4.out.2.1; simp only [List.length_cons]; omega, ?_, HWAB.out.1, HWAB.out.2, by have := HX4.out.2.2.2.1; have := HX.out.2.2.1; omega, HX4.out.2.2.2.2.1, HX4.out.2.2.2.2.2.1, HFI.out _ rfl, X8.out⟩ rfl⟩
                  intro y hy
                  rcases List.mem_cons.1 hy with rfl | hy
                  · have := HX4.out.2.2.2.2.2.2.1; exact ⟨by show q1 + 1 + (j + 1) ≤ _; omega, by show q2 + 1 + (j + 1) ≤ _; omega⟩
                  · exact HX4.out.2.2.1 y (List.mem_cons_of_mem _ hy)
  · intro dn
    refine ⟨k, ?_⟩
    go_wp2_with fail
    refine wp_label ?_
    refine (by assumption : ∀ a w, Code.wp Try.prog _ _ a w → _) _ _ ?_
    exact dn k _ _ (JU.mk a0 c0 [] _ l L f0 ⟨by have := HR.out.2.2.2.1; simp only [List.length_nil]; omega, fun y hy => by simp at hy, HR.out.2.1, HR.out.2.2.1, HR.out.2.2.2.2.1, rfl, Nat.le_refl _, HR.out.1, X0.out⟩ rfl)
end
end Go.Proofs.Ythableojkjhicaa.un
