/- Package unify: two terms made one: the loop. -/
import Derived.Test.YthableojkjhicaaUnF
import Derived.Laws.StructEq
namespace Go.Proofs.Ythableojkjhicaa.un
open Go.ChangeShapes Go.WideShapes Go.ChangeAt Go.RowKit Go.Maps
open Go.Proofs.Ythableojkjhicaa.kp Go.Proofs.Ythableojkjhicaa.cel Go.Proofs.Ythableojkjhicaa.hp Go.Proofs.Ythableojkjhicaa.ob
set_option linter.unusedVariables false
theorem words_neq (a b c d : Int) (w : World) : (binOp .neq 146 (.agg #[.int .u64 a, .int .u64 b]) (.agg #[.int .u64 c, .int .u64 d])).run Try.prog w = .ok (.bool (!((a == c) && (b == d)))) w := by
  rw [run_neq_struct]
  have hu : Try.prog.underlying 146 = some (.array 2 22) := by kernel_rfl
  have hi : Try.prog.underlying 22 = some (.int .u64) := by kernel_rfl
  have hs : ∀ w, (sizeOf 22).run Try.prog w = .ok 1 w := fun w => by kernel_rfl
  have hg : ∀ w, (isAgg 22).run Try.prog w = .ok false w := fun w => by kernel_rfl
  have hp : ∀ (x y : Value) w, (part 22 #[x, y] 0).run Try.prog w = .ok x w := fun x y w => by
    simp [part, Sem.run_bind, hg]
  have hq : ∀ (x y : Value) w, (part 22 #[x, y] 1).run Try.prog w = .ok y w := fun x y w => by
    simp [part, Sem.run_bind, hg]
  have key : ∀ dd, (Op.equalIn (dd + 1 + 1) 146 (.agg #[.int .u64 a, .int .u64 b]) (.agg #[.int .u64 c, .int .u64 d])).run Try.prog w = .ok ((a == c) && (b == d)) w := by
    intro dd
    simp only [Op.equalIn, Sem.run_bind, run_underlying hu, Result.andThen_ok, hs]
    rw [Std.Legacy.Range.forIn_eq_forIn_range']
    simp [Std.Legacy.Range.size, List.range', Sem.run_bind, hp, hq]
    by_cases h1 : a = c <;> by_cases h2 : b = d <;> simp [h1, h2]
  rw [show (10000 : Nat) = 9998 + 1 + 1 from rfl, key]
  rfl
def TB (t : Bool) (c : Prop) : Prop := t = true ↔ c
abbrev TPr : TypeId := 152
abbrev Rw3 := List (Nat × Nat × Nat)
def cellsOf3 : Rw3 → List Value
  | [] => []
  | (p, q, n) :: r => cellsOf3 r ++ [.int .i64 (p : Int), .int .i64 (q : Int), .int .i64 ((n + 1 : Nat) : Int)]
def todo3 : Rw3 → List (Int × Int)
  | [] => []
  | (p, q, n) :: r => pairs p q (n + 1) ++ todo3 r
def ROK3 (l0 : Nat) (R : Rw3) : Prop := ∀ x ∈ R, x.1 + (x.2.2 + 1) ≤ l0 ∧ x.2.1 + (x.2.2 + 1) ≤ l0
theorem cellsOf3_len : ∀ R : Rw3, (cellsOf3 R).length = R.length * 3
  | [] => rfl
  | (p, q, n) :: r => by rw [cellsOf3, List.length_append, cellsOf3_len r]; simp only [List.length_cons, List.length_nil]; omega
def JU (w0 : World) (N : Nat → Prop) (b p q l0 B0 : Nat) (m : Int) (R : UR) (n : Nat) (a' : Act) (w' : World) : Prop :=
  ∃ (a c : Int) (Rs : Rw3) (v : Value) (U : Nat → Value) (l : List Int) (L : List Wr) (f : Nat), Rs.length + n ≤ 100000 ∧ ROK3 l0 Rs ∧ W64 a ∧ W64 c ∧ n < f ∧ l.length = l0 ∧ L.length + n ≤ B0 ∧ uniW f n l L a c (todo3 Rs) = R ∧ Nx (XW (HS p q l m L) TPr 3 b p (n : Int) v Rs.length (cellsOf3 Rs)) w0 N w' ∧
    a' = { tmps := (.pointer (some ⟨b, 0, none⟩) :: .pointer (some ⟨q, 0, none⟩) :: .int .u64 a :: .int .u64 c :: U 4 :: U 5 :: U 6 :: U 7 :: U 8 :: U 9 :: v :: U 11 :: U 12 :: U 13 :: U 14 :: U 15 :: U 16 :: U 17 :: U 18 :: U 19 :: U 20 :: U 21 :: U 22 :: U 23 :: U 24 :: U 25 :: U 26 :: U 27 :: U 28 :: U 29 :: U 30 :: U 31 :: U 32 :: U 33 :: U 34 :: U 35 :: U 36 :: U 37 :: U 38 :: U 39 :: U 40 :: U 41 :: U 42 :: U 43 :: U 44 :: U 45 :: U 46 :: U 47 :: U 48 :: U 49 :: U 50 :: U 51 :: U 52 :: U 53 :: U 54 :: U 55 :: U 56 :: U 57 :: U 58 :: U 59 :: U 60 :: U 61 :: U 62 :: U 63 :: U 64 :: U 65 :: U 66 :: U 67 :: U 68 :: U 69 :: U 70 :: U 71 :: U 72 :: U 73 :: U 74 :: U 75 :: U 76 :: U 77 :: U 78 :: U 79 :: U 80 :: U 81 :: U 82 :: U 83 :: U 84 :: U 85 :: U 86 :: U 87 :: U 88 :: U 89 :: U 90 :: U 91 :: U 92 :: U 93 :: U 94 :: U 95 :: U 96 :: U 97 :: U 98 :: U 99 :: U 100 :: U 101 :: U 102 :: U 103 :: U 104 :: U 105 :: U 106 :: U 107 :: U 108 :: U 109 :: U 110 :: U 111 :: U 112 :: U 113 :: U 114 :: U 115 :: U 116 :: U 117 :: U 118 :: U 119 :: U 120 :: U 121 :: U 122 :: U 123 :: U 124 :: U 125 :: U 126 :: U 127 :: U 128 :: U 129 :: U 130 :: U 131 :: U 132 :: U 133 :: U 134 :: U 135 :: U 136 :: U 137 :: U 138 :: U 139 :: U 140 :: U 141 :: U 142 :: U 143 :: U 144 :: U 145 :: U 146 :: U 147 :: U 148 :: U 149 :: U 150 :: U 151 :: U 152 :: U 153 :: U 154 :: U 155 :: U 156 :: U 157 :: U 158 :: U 159 :: U 160 :: []).toArray, defers := [] }
theorem JU.mk {w0 : World} {N : Nat → Prop} {b p q l0 B0 : Nat} {m : Int} {R : UR} {n : Nat} {a' : Act} {w' : World} (a c : Int) (Rs : Rw3) (v : Value) (l : List Int) (L : List Wr) (f : Nat) (h0 : Rs.length + n ≤ 100000 ∧ ROK3 l0 Rs ∧ W64 a ∧ W64 c ∧ n < f ∧ l.length = l0 ∧ L.length + n ≤ B0 ∧ uniW f n l L a c (todo3 Rs) = R ∧ Nx (XW (HS p q l m L) TPr 3 b p (n : Int) v Rs.length (cellsOf3 Rs)) w0 N w' )
    (h : a' = { tmps := (.pointer (some ⟨b, 0, none⟩) :: .pointer (some ⟨q, 0, none⟩) :: .int .u64 a :: .int .u64 c :: a'.tmps.getD 4 undef :: a'.tmps.getD 5 undef :: a'.tmps.getD 6 undef :: a'.tmps.getD 7 undef :: a'.tmps.getD 8 undef :: a'.tmps.getD 9 undef :: v :: a'.tmps.getD 11 undef :: a'.tmps.getD 12 undef :: a'.tmps.getD 13 undef :: a'.tmps.getD 14 undef :: a'.tmps.getD 15 undef :: a'.tmps.getD 16 undef :: a'.tmps.getD 17 undef :: a'.tmps.getD 18 undef :: a'.tmps.getD 19 undef :: a'.tmps.getD 20 undef :: a'.tmps.getD 21 undef :: a'.tmps.getD 22 undef :: a'.tmps.getD 23 undef :: a'.tmps.getD 24 undef :: a'.tmps.getD 25 undef :: a'.tmps.getD 26 undef :: a'.tmps.getD 27 undef :: a'.tmps.getD 28 undef :: a'.tmps.getD 29 undef :: a'.tmps.getD 30 undef :: a'.tmps.getD 31 undef :: a'.tmps.getD 32 undef :: a'.tmps.getD 33 undef :: a'.tmps.getD 34 undef :: a'.tmps.getD 35 undef :: a'.tmps.getD 36 undef :: a'.tmps.getD 37 undef :: a'.tmps.getD 38 undef :: a'.tmps.getD 39 undef :: a'.tmps.getD 40 undef :: a'.tmps.getD 41 undef :: a'.tmps.getD 42 undef :: a'.tmps.getD 43 undef :: a'.tmps.getD 44 undef :: a'.tmps.getD 45 undef :: a'.tmps.getD 46 undef :: a'.tmps.getD 47 undef :: a'.tmps.getD 48 undef :: a'.tmps.getD 49 undef :: a'.tmps.getD 50 undef :: a'.tmps.getD 51 undef :: a'.tmps.getD 52 undef :: a'.tmps.getD 53 undef :: a'.tmps.getD 54 undef :: a'.tmps.getD 55 undef :: a'.tmps.getD 56 undef :: a'.tmps.getD 57 undef :: a'.tmps.getD 58 undef :: a'.tmps.getD 59 undef :: a'.tmps.getD 60 undef :: a'.tmps.getD 61 undef :: a'.tmps.getD 62 undef :: a'.tmps.getD 63 undef :: a'.tmps.getD 64 undef :: a'.tmps.getD 65 undef :: a'.tmps.getD 66 undef :: a'.tmps.getD 67 undef :: a'.tmps.getD 68 undef :: a'.tmps.getD 69 undef :: a'.tmps.getD 70 undef :: a'.tmps.getD 71 undef :: a'.tmps.getD 72 undef :: a'.tmps.getD 73 undef :: a'.tmps.getD 74 undef :: a'.tmps.getD 75 undef :: a'.tmps.getD 76 undef :: a'.tmps.getD 77 undef :: a'.tmps.getD 78 undef :: a'.tmps.getD 79 undef :: a'.tmps.getD 80 undef :: a'.tmps.getD 81 undef :: a'.tmps.getD 82 undef :: a'.tmps.getD 83 undef :: a'.tmps.getD 84 undef :: a'.tmps.getD 85 undef :: a'.tmps.getD 86 undef :: a'.tmps.getD 87 undef :: a'.tmps.getD 88 undef :: a'.tmps.getD 89 undef :: a'.tmps.getD 90 undef :: a'.tmps.getD 91 undef :: a'.tmps.getD 92 undef :: a'.tmps.getD 93 undef :: a'.tmps.getD 94 undef :: a'.tmps.getD 95 undef :: a'.tmps.getD 96 undef :: a'.tmps.getD 97 undef :: a'.tmps.getD 98 undef :: a'.tmps.getD 99 undef :: a'.tmps.getD 100 undef :: a'.tmps.getD 101 undef :: a'.tmps.getD 102 undef :: a'.tmps.getD 103 undef :: a'.tmps.getD 104 undef :: a'.tmps.getD 105 undef :: a'.tmps.getD 106 undef :: a'.tmps.getD 107 undef :: a'.tmps.getD 108 undef :: a'.tmps.getD 109 undef :: a'.tmps.getD 110 undef :: a'.tmps.getD 111 undef :: a'.tmps.getD 112 undef :: a'.tmps.getD 113 undef :: a'.tmps.getD 114 undef :: a'.tmps.getD 115 undef :: a'.tmps.getD 116 undef :: a'.tmps.getD 117 undef :: a'.tmps.getD 118 undef :: a'.tmps.getD 119 undef :: a'.tmps.getD 120 undef :: a'.tmps.getD 121 undef :: a'.tmps.getD 122 undef :: a'.tmps.getD 123 undef :: a'.tmps.getD 124 undef :: a'.tmps.getD 125 undef :: a'.tmps.getD 126 undef :: a'.tmps.getD 127 undef :: a'.tmps.getD 128 undef :: a'.tmps.getD 129 undef :: a'.tmps.getD 130 undef :: a'.tmps.getD 131 undef :: a'.tmps.getD 132 undef :: a'.tmps.getD 133 undef :: a'.tmps.getD 134 undef :: a'.tmps.getD 135 undef :: a'.tmps.getD 136 undef :: a'.tmps.getD 137 undef :: a'.tmps.getD 138 undef :: a'.tmps.getD 139 undef :: a'.tmps.getD 140 undef :: a'.tmps.getD 141 undef :: a'.tmps.getD 142 undef :: a'.tmps.getD 143 undef :: a'.tmps.getD 144 undef :: a'.tmps.getD 145 undef :: a'.tmps.getD 146 undef :: a'.tmps.getD 147 undef :: a'.tmps.getD 148 undef :: a'.tmps.getD 149 undef :: a'.tmps.getD 150 undef :: a'.tmps.getD 151 undef :: a'.tmps.getD 152 undef :: a'.tmps.getD 153 undef :: a'.tmps.getD 154 undef :: a'.tmps.getD 155 undef :: a'.tmps.getD 156 undef :: a'.tmps.getD 157 undef :: a'.tmps.getD 158 undef :: a'.tmps.getD 159 undef :: a'.tmps.getD 160 undef :: []).toArray, defers := [] }) : JU w0 N b p q l0 B0 m R n a' w' :=
  ⟨a, c, Rs, v, fun i => a'.tmps.getD i undef, l, L, f, h0.1, h0.2.1, h0.2.2.1, h0.2.2.2.1, h0.2.2.2.2.1, h0.2.2.2.2.2.1, h0.2.2.2.2.2.2.1, h0.2.2.2.2.2.2.2.1, h0.2.2.2.2.2.2.2.2, h⟩
theorem infoP : (Try.prog.info? 152).map (fun i => (i.zero, i.size, i.bytes)) = some (some (.agg #[.int .i64 0, .int .i64 0, .int .i64 0]), 3, 24) := by kernel_rfl
theorem ixP_rule {g n c k : Nat} (hk : k < n) (w : World) : (Instr.indexAt 145 (.slice (some ⟨g, 0, none⟩) n c) (.int .i64 (k : Int))).run Try.prog w = .ok (.pointer (some ⟨g, k * 3, none⟩)) w := by
  have he : Try.prog.elem 145 = 152 := by kernel_rfl
  have hz : (sizeOf 152).run Try.prog w = .ok 3 w := by kernel_rfl
  rw [run_indexAt_slice w 145 _ _ _ _ _ (by rw [he]; exact Try.underlying145), if_pos ⟨by omega, by omega⟩, he, hz]
  simp [Result.andThen, Addr.add]
  omega
theorem cell_three_new (w : World) (x0 x1 x2 : Value) (t : TypeId) : ∀ j u, [x0, x1, x2][j]? = some u → (w.alloc (.cells #[x0, x1, x2] t)).cell? ((⟨w.heap.size, 0, none⟩ : Addr).add j) = some u := by
  intro j u hj
  have h := kp.alloc_at w (.cells #[x0, x1, x2] t)
  have e : (⟨w.heap.size, 0, none⟩ : Addr).add j = ⟨w.heap.size, j, none⟩ := by simp [Addr.add]; omega
  rw [e]
  simp only [World.cell?, h]
  simpa using hj
theorem X_core {A : Ob} {e : TypeId} {sz b p n : Nat} {k : Int} {v : Value} {xs : List Value} {w0 wr : World} {N : Nat → Prop} (h : Nx (XW A e sz b p k v n xs) w0 N wr) : ∃ M, Tim A (Blk b (UW p k)) wr M ∧ ∀ A' k' w', Nx (Tim A' (Blk b (UW p k'))) wr M w' → Nx (XW A' e sz b p k' v n xs) w0 N w' := by
  obtain ⟨K, t, kk, sub⟩ := h
  obtain ⟨M, c, up⟩ := Tim.at1 Fr.row t
  exact ⟨M, c, fun A' k' w' nn => Nx.trans kk sub (up _ _ nn)⟩
theorem X_set3 {A : Ob} {e : TypeId} {b p j : Nat} {k : Int} {xs0 : List Value} {x0 x1 x2 : Value} {w0 wr : World} {N : Nat → Prop} {g c : Nat} (f : Fr A) (y0 y1 y2 : Value)
    (h : Nx (XW A e 3 b p k (.slice (some ⟨g, 0, none⟩) (j + 1) c) (j + 1) (xs0 ++ [x0, x1, x2])) w0 N wr) (hl : xs0.length = j * 3) : Nx (XW A e 3 b p k (.slice (some ⟨g, 0, none⟩) (j + 1) c) (j + 1) (xs0 ++ [y0, y1, y2])) w0 N (((wr.setCell ⟨g, j * 3, none⟩ y0).setCell ⟨g, j * 3 + 1, none⟩ y1).setCell ⟨g, j * 3 + 2, none⟩ y2) := by
  obtain ⟨g1, c1, e1, _, _, _, _, _, s1, _⟩ := X_top f h hl rfl
  injection e1 with e1 _ e3
  injection e1 with e1
  injection e1 with e1
  subst e1 e3
  obtain ⟨g2, c2, e2, _, _, _, _, _, s2, _⟩ := X_top f (s1 0 y0 (by omega)) hl rfl
  injection e2 with e2 _ e4
  injection e2 with e2
  injection e2 with e2
  subst e2 e4
  obtain ⟨g3, c3, e3, _, _, _, _, _, s3, _⟩ := X_top f (s2 1 y1 (by omega)) hl rfl
  injection e3 with e3 _ e5
  injection e3 with e3
  injection e3 with e3
  subst e3 e5
  exact s3 2 y2 (by omega)
section
variable {w w' : World} {p q b k : Nat} {N : Nat → Prop} {l : List Int} {m : Int} {L : List Wr}
end
end Go.Proofs.Ythableojkjhicaa.un
