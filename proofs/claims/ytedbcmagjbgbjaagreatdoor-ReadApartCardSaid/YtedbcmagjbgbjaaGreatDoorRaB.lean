/- What ReadApart's texts come to. -/
import Derived.Test.YtedbcmagjbgbjaaGreatDoorRaA
import Derived.Test.YtedbcmagjbgbjaaGreatDoorRdZ
namespace Go.Proofs.YtedbcmagjbgbjaaGreatDoor.rd
open Go.ChangeShapes Go.WideShapes Go.ChangeAt Go.RowKit Go.Maps
open Go.Proofs.YtedbcmagjbgbjaaGreatDoor.kp Go.Proofs.YtedbcmagjbgbjaaGreatDoor.num Go.Proofs.YtedbcmagjbgbjaaGreatDoor.dec Go.Proofs.YtedbcmagjbgbjaaGreatDoor.tk
set_option linter.unusedVariables false
set_option linter.unusedSimpArgs false
def rowB : Nat → List UInt8
  | 0 => []
  | k + 1 => rowB k ++ [44, 32, 88, 44, 32, 95]
def rowL (k : Nat) : List UInt8 := [112, 40, 88] ++ rowB k
def apT (n m : Nat) : List UInt8 := rowL n ++ [41] ++ [46, 32] ++ (rowL m ++ [41]) ++ [46]
def apC (k : Nat) (c : Cl3) : Bool := decide (c.2.1.length = k + 1) && decide (c.2.1.head? = some [88]) && decide ((tm.vars c.1).length = k + 1) && decide (c.1.args.length = 2 * k + 1) &&
  (match c.1.args[1]? with | some x => decide (x.int = 0) | none => false)
def apOk (n m : Nat) : Bool := match readA opa.newL (apT n m) with
  | ([a, b], q, e) => decide (e = 0) && apC n a && apC m b
  | _ => false
theorem ap_all : ∀ n m : Fin 9, apOk (n.val + 1) (m.val + 1) = true := by decide +kernel
theorem ap_is {n m : Nat} (hn : n < 9) (hm : m < 9) : ∃ a b q, readA opa.newL (apT (n + 1) (m + 1)) = ([a, b], q, 0) ∧ apC (n + 1) a = true ∧ apC (m + 1) b = true := by
  have h := ap_all ⟨n, hn⟩ ⟨m, hm⟩
  unfold apOk at h
  split at h
  · rename_i a b q e hr
    simp only [Bool.and_eq_true, decide_eq_true_eq] at h
    obtain ⟨⟨rfl, h1⟩, h2⟩ := h
    exact ⟨a, b, q, hr, h1, h2⟩
  · cases h
theorem cat_l (x y : List UInt8) : (⟨x.toArray⟩ : ByteArray) ++ ⟨y.toArray⟩ = ⟨(x ++ y).toArray⟩ := by
  apply ByteArray.ext; simp
theorem rowL_len (k : Nat) : (rowL k).length = 3 + 6 * k := by
  unfold rowL
  have : (rowB k).length = 6 * k := by
    induction k with
    | zero => rfl
    | succ k ih => simp [rowB, ih]; omega
  simp [this]; omega
theorem rowL_next (k : Nat) : (⟨(rowL k).toArray⟩ : ByteArray) ++ ⟨#[44, 32, 88, 44, 32, 95]⟩ = ⟨(rowL (k + 1)).toArray⟩ := by
  rw [show (⟨#[44, 32, 88, 44, 32, 95]⟩ : ByteArray) = ⟨[44, 32, 88, 44, 32, 95].toArray⟩ from rfl, cat_l]
  unfold rowL
  rw [List.append_assoc]; rfl
def RKl (W : World) (n : Nat) (g : Nat) (s3 s5 : Value) (wr : World) : Prop := ∃ k : Nat, k ≤ n ∧ g = n - k ∧ s3 = .string ⟨(rowL k).toArray⟩ ∧ s5 = .int .i64 k ∧ wr = W
set_option maxRecDepth 100000 in
set_option maxHeartbeats 4000000 in
theorem rowk_any (n : Nat) (hn : n ≤ 100) (w : World) : Calls Tryz.prog 23 #[.int .i64 (n : Int)] w fun e w' => e = .returned (.string ⟨(rowL n ++ [41]).toArray⟩) ∧ w' = w := by
  go_enter Tryz.func23, Tryz.ntmps23
  go_wp2_with fail
  go_loopg [3, 5] n (RKl w n)
  case atStart => exact ⟨0, Nat.zero_le _, rfl, rfl, rfl, rfl⟩
  case round =>
    obtain ⟨k, hk, hgk, rfl, rfl, rfl⟩ := hrel
    have HGK := Lib.hid hgk
    clear hgk
    by_cases hlt : k < n
    · have hd : decide (k < n) = true := decide_eq_true hlt
      have hl : (rowL k).length ≤ 700 := by rw [rowL_len]; omega
      have hc := rowL_next k
      have hw : wrap64 ((k : Int) + 1) = ((k + 1 : Nat) : Int) := by unfold wrap64; omega
      go_wp2_with fail
      go_roundg (n - (k + 1))
      case measure => have := HGK.out; omega
      case rel => exact ⟨k + 1, by omega, rfl, by first | rfl | exact congrArg Value.string hc, by first | rfl | exact congrArg (Value.int .i64) hw, rfl⟩
    · have hd : decide (k < n) = false := decide_eq_false hlt
      have hd2 : n ≤ k := Nat.le_of_not_lt hlt
      have hkn : k = n := by omega
      have hl : (rowL k).length ≤ 700 := by rw [rowL_len]; omega
      have hc : (⟨(rowL k).toArray⟩ : ByteArray) ++ ⟨#[41]⟩ = ⟨(rowL n ++ [41]).toArray⟩ := by rw [hkn, show (⟨#[41]⟩ : ByteArray) = ⟨[41].toArray⟩ from rfl, cat_l]
      clear hkn
      go_wp2_with fail
      go_ret; exact ⟨by first | rfl | exact congrArg (fun x => Ending.returned (Value.string x)) hc, rfl⟩
/-- what is asked of one clause -/
theorem ap_facts {Z : Nat → Prop} {B k : Nat} {w : World} {c : Cl3} {x : List Value} (h : CLv Z B w c x) (hc : apC k c = true) :
    ∃ (v0 : Int) (v1 : ByteArray) (v2 v3 v4 : Int) (xa : Option Addr) (xc gN nc gA oA : Nat),
      x = [.int .i64 v0, .string v1, .int .i64 v2, .int .u64 v3, .int .u64 v4, .slice xa (2 * k + 1) xc, .slice (some ⟨gN, 0, none⟩) (k + 1) nc, .int .i64 (c.2.2 : Int)] ∧
      w.cell? ⟨gN, 0, none⟩ = some (.string ⟨#[88]⟩) ∧ lie.Lies lie.No w c.1 (.agg #[.int .i64 v0, .string v1, .int .i64 v2, .int .u64 v3, .int .u64 v4, .slice xa (2 * k + 1) xc]) ∧
      w.cell? ⟨gA, oA + 2, none⟩ = some (.int .i64 0) ∧ (∀ w' : World, (Instr.indexAt 25 (.slice xa (2 * k + 1) xc) (.int .i64 1)).run Tryz.prog w' = .ok (.pointer (some ⟨gA, oA, none⟩)) w') ∧ (tm.vars c.1).length = k + 1 ∧ 1 ≤ k + 1 := by
  obtain ⟨v0, v1, v2, v3, v4, xa, xl, xc, na, nc, rfl, hl, hr, hb⟩ := h
  unfold apC at hc
  simp only [Bool.and_eq_true, decide_eq_true_eq] at hc
  obtain ⟨⟨⟨⟨h1, h2⟩, h3⟩, h4⟩, h5⟩ := hc
  obtain ⟨t, ns, a⟩ := c
  obtain ⟨tk, tn, ti, tr, tm', tl⟩ := t
  dsimp only at h1 h2 h3 h4 h5 hl hr hb ⊢
  have hl0 := hl
  rw [lie.Lies] at hl
  obtain ⟨a', c', hv, hf, hrow⟩ := hl
  simp only [Value.agg.injEq, Array.mk.injEq, List.cons.injEq, and_true, Value.int.injEq, Value.string.injEq, Value.slice.injEq, true_and] at hv
  obtain ⟨rfl, rfl, rfl, rfl, rfl, rfl, rfl, rfl⟩ := hv
  have h4' : tl.length = 2 * k + 1 := h4
  have hne : ns ≠ [] := by intro e; rw [e] at h1; simp at h1
  obtain ⟨gN, rfl, hgl, hcell⟩ := str_row hr hne
  have h0 := hcell 0 (by omega)
  have e0 : ns[0]'(by omega) = [88] := by
    cases ns with
    | nil => exact absurd rfl hne
    | cons y r => simpa using h2
  rw [e0] at h0
  cases hk : k with
  | zero =>
    subst hk
    simp only [tm.Tm.args] at h5
    rw [List.getElem?_eq_none (by omega)] at h5
    cases h5
  | succ k' =>
    rw [← hk]
    have hm1 : 1 < tl.length := by omega
    obtain ⟨b, o, u0, u1, u2, u3, u4, u5, hbl, hX, h6, hli, hix⟩ := hrow.look (m := 1) hm1
    have hint : (tl[1]).int = 0 := by
      simp only [tm.Tm.args] at h5
      rw [List.getElem?_eq_getElem hm1] at h5
      simpa using h5
    have hu2 : u2 = .int .i64 0 := by
      generalize tl[1] = t1 at hli hint
      obtain ⟨k1, n1, i1, r1, m1, l1⟩ := t1
      rw [lie.Lies] at hli
      obtain ⟨a1, c1, hv1, -⟩ := hli
      simp only [Value.agg.injEq, Array.mk.injEq, List.cons.injEq, and_true] at hv1
      simp only [tm.Tm.int] at hint
      rw [hv1.2.2.1, hint]
    have hixk := hix xc
    have e2 : 2 * k + 1 = tl.length := h4'.symm
    rw [e2, ← h1]
    exact ⟨_, _, _, _, _, xa, xc, gN, nc, b, o, rfl, h0, lie.Lies.off (fun _ _ h => h.elim) hl0, by rw [← hu2]; exact h6.2.2.1, fun w' => hixk w', h3.trans h1.symm, by omega⟩
theorem elCl : Tryz.prog.elem 50 = 54 := by kernel_rfl
theorem szCl (w : World) : (sizeOf 54).run Tryz.prog w = .ok 8 w := by kernel_rfl
theorem cl_ix {g n c k : Nat} (hk : k < n) (w : World) : (Instr.indexAt 50 (.slice (some ⟨g, 0, none⟩) n c) (.int .i64 (k : Int))).run Tryz.prog w = .ok (.pointer (some ⟨g, k * 8, none⟩)) w := by
  rw [run_indexAt_slice w 50 _ _ _ _ _ (by rw [elCl]; exact Tryz.underlying50), if_pos ⟨by omega, by omega⟩, elCl, szCl]
  simp [Result.andThen, Addr.add]; omega
/-- a row of clauses, looked at -/
theorem AC.look {B : Nat} {l : List Cl3} {a : Option Addr} {c : Nat} {w : World} (h : AC B l (.slice a l.length c) w) (hne : l ≠ []) : ∃ g, a = some ⟨g, 0, none⟩ ∧ ∀ m (hm : m < l.length), ∃ x : List Value, x.length = 8 ∧ CLv (fun k => k < B ∨ (Value.slice a l.length c).ownBlock = some k) B w l[m] x ∧ ∀ j (hj : j < 8), w.cell? ⟨g, m * 8 + j, none⟩ = x[j]? := by
  obtain ⟨xs, ho, hx⟩ := h
  have ho2 := ho
  obtain ⟨hl, hr⟩ := ho
  rcases hr with ⟨-, hz⟩ | ⟨g, cap, cur, hv, hg0, hgc, g1, g2, g3, g4⟩
  · exact absurd (List.eq_nil_of_length_eq_zero hz) hne
  · cases hv
    refine ⟨g, rfl, fun m hm => ⟨(xs.drop (m * 8)).take 8, ?_, hx m hm, fun j hj => ?_⟩⟩
    · rw [List.length_take, List.length_drop]; omega
    · rw [World.ownsRow.cellAt ho2 (m * 8 + j) (by omega), List.getElem?_take_of_lt hj, List.getElem?_drop]
end Go.Proofs.YtedbcmagjbgbjaaGreatDoor.rd
