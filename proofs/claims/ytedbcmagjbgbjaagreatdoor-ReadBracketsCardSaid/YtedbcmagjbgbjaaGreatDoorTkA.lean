/- The project's machine over bytes: its block; the calls for a byte, a sort of bytes, a piece. -/
import Derived.Test.YtedbcmagjbgbjaaGreatDoorTkM
import Derived.Test.YtedbcmagjbgbjaaGreatDoorLaid
import Derived.Test.YtedbcmagjbgbjaaGreatDoorKeep
import Derived.Test.YtedbcmagjbgbjaaGreatDoorShelf
import Derived.LoopTactic
import Derived.BigQuiet
import Derived.StillTailTactics
import Derived.Deep.RegionHeld3
import Derived.Deep.Draws
import Derived.BigRegion
import Derived.Deep.LoopGhost
import Derived.Deep.DeepCutAuto
import Derived.Deep.CutBlock
import Derived.ScopeJumps
namespace Go.Proofs.YtedbcmagjbgbjaaGreatDoor.tk
open Go.ChangeShapes Go.WideShapes Go.ChangeAt Go.RowKit Go.Maps
open Go.Proofs.YtedbcmagjbgbjaaGreatDoor.kp Go.Proofs.YtedbcmagjbgbjaaGreatDoor.num Go.Proofs.YtedbcmagjbgbjaaGreatDoor.dec
set_option linter.unusedVariables false
/-- the machine's block: the text S, what is left of it (l), where the token begins (b), the token ahead, the place behind that -/
abbrev MO (S l b : List UInt8) (k : Int) (t : List UInt8) (n re im a en : Int) : Obj :=
  .cells #[.string ⟨S.toArray⟩, .int .i64 ((S.length - l.length : Nat) : Int), .int .i64 ((S.length - b.length : Nat) : Int), .int .i64 k, .string ⟨t.toArray⟩, .int .i64 n, .int .u64 re, .int .u64 im, .int .i64 a, .int .i64 en] 105 (0, 0)
section
variable {w w' : World} {p : Nat} {S l b : List UInt8} {k : Int} {t : List UInt8} {n re im a en : Int}
theorem ten {v0 v1 v2 v3 v4 v5 v6 v7 v8 v9 : Value} {ty : TypeId} (h : w.heap[p]? = some (.cells #[v0, v1, v2, v3, v4, v5, v6, v7, v8, v9] ty (0, 0))) :
    (w.cell? ⟨p, 0, none⟩ = some v0 ∧ w.cell? ⟨p, 1, none⟩ = some v1 ∧ w.cell? ⟨p, 2, none⟩ = some v2 ∧ w.cell? ⟨p, 3, none⟩ = some v3 ∧ w.cell? ⟨p, 4, none⟩ = some v4 ∧ w.cell? ⟨p, 5, none⟩ = some v5 ∧ w.cell? ⟨p, 6, none⟩ = some v6 ∧ w.cell? ⟨p, 7, none⟩ = some v7 ∧ w.cell? ⟨p, 8, none⟩ = some v8 ∧ w.cell? ⟨p, 9, none⟩ = some v9) ∧
      w.frozen? ⟨p, 1, none⟩ = false ∧ w.frozen? ⟨p, 2, none⟩ = false ∧ w.frozen? ⟨p, 3, none⟩ = false ∧ w.frozen? ⟨p, 4, none⟩ = false ∧ w.frozen? ⟨p, 5, none⟩ = false ∧ w.frozen? ⟨p, 6, none⟩ = false ∧ w.frozen? ⟨p, 7, none⟩ = false ∧ w.frozen? ⟨p, 8, none⟩ = false ∧ w.frozen? ⟨p, 9, none⟩ = false := by
  refine ⟨⟨?_, ?_, ?_, ?_, ?_, ?_, ?_, ?_, ?_, ?_⟩, ?_, ?_, ?_, ?_, ?_, ?_, ?_, ?_, ?_⟩ <;> simp [World.cell?, World.frozen?, h]
theorem suf_at {S r : List UInt8} {c : UInt8} (h : c :: r <:+ S) : ∃ i, S.length - (c :: r).length = i ∧ S.length - r.length = i + 1 ∧ i < S.length ∧ ∀ h, (⟨S.toArray⟩ : ByteArray)[i]'h = c := by
  obtain ⟨q, rfl⟩ := h
  refine ⟨q.length, by simp, by simp; omega, by simp, fun h => ?_⟩
  show (q ++ c :: r)[q.length]'_ = c
  simp
/-! ### sorts of bytes -/
theorem bi_lt (c : UInt8) : (c.toNat : Int) < 256 ∧ 0 ≤ (c.toNat : Int) := by have := c.toNat_lt; omega
theorem isSmall_any (o : Option UInt8) (w : World) : Calls Tryz.prog 74 #[.int .i64 (bi o)] w fun e w' => e = .returned (.bool (match o with | none => false | some c => sm c)) ∧ w = w' := by
  cases o with
  | none =>
    simp only [bi]
    go_enter Tryz.func74, Tryz.ntmps74; go_wp2_with fail
    go_ret; exact ⟨rfl, rfl⟩
  | some c =>
    simp only [bi]
    by_cases h1 : 97 ≤ c.toNat
    · have e : Hid (sm c = decide ((c.toNat : Int) ≤ 122)) := Lib.hid (by unfold sm; rw [decide_eq_true h1, Bool.true_and, Bool.eq_iff_iff]; simp only [decide_eq_true_eq]; omega)
      go_enter Tryz.func74, Tryz.ntmps74; go_wp2_with fail
      go_ret; exact ⟨kp.rb e.out.symm, rfl⟩
    · have e : Hid (sm c = false) := Lib.hid (by simp [sm, h1])
      go_enter Tryz.func74, Tryz.ntmps74; go_wp2_with fail
      go_ret; exact ⟨kp.rb e.out.symm, rfl⟩
theorem isGreat_any (o : Option UInt8) (w : World) : Calls Tryz.prog 75 #[.int .i64 (bi o)] w fun e w' => e = .returned (.bool (match o with | none => false | some c => gr c)) ∧ w = w' := by
  cases o with
  | none =>
    simp only [bi]
    go_enter Tryz.func75, Tryz.ntmps75; go_wp2_with fail
    go_ret; exact ⟨rfl, rfl⟩
  | some c =>
    simp only [bi]
    by_cases h1 : 65 ≤ c.toNat
    · have e : Hid (gr c = decide ((c.toNat : Int) ≤ 90)) := Lib.hid (by unfold gr; rw [decide_eq_true h1, Bool.true_and, Bool.eq_iff_iff]; simp only [decide_eq_true_eq]; omega)
      go_enter Tryz.func75, Tryz.ntmps75; go_wp2_with fail
      go_ret; exact ⟨kp.rb e.out.symm, rfl⟩
    · have e : Hid (gr c = false) := Lib.hid (by simp [gr, h1])
      go_enter Tryz.func75, Tryz.ntmps75; go_wp2_with fail
      go_ret; exact ⟨kp.rb e.out.symm, rfl⟩
theorem isDigit_any (o : Option UInt8) (w : World) : Calls Tryz.prog 76 #[.int .i64 (bi o)] w fun e w' => e = .returned (.bool (match o with | none => false | some c => dg c)) ∧ w = w' := by
  cases o with
  | none =>
    simp only [bi]
    go_enter Tryz.func76, Tryz.ntmps76; go_wp2_with fail
    go_ret; exact ⟨rfl, rfl⟩
  | some c =>
    simp only [bi]
    by_cases h1 : 48 ≤ c.toNat
    · have e : Hid (dg c = decide ((c.toNat : Int) ≤ 57)) := Lib.hid (by unfold dg; rw [decide_eq_true h1, Bool.true_and, Bool.eq_iff_iff]; simp only [decide_eq_true_eq]; omega)
      go_enter Tryz.func76, Tryz.ntmps76; go_wp2_with fail
      go_ret; exact ⟨kp.rb e.out.symm, rfl⟩
    · have e : Hid (dg c = false) := Lib.hid (by simp [dg, h1])
      go_enter Tryz.func76, Tryz.ntmps76; go_wp2_with fail
      go_ret; exact ⟨kp.rb e.out.symm, rfl⟩
theorem wd_eq (c : UInt8) : wd c = (sm c || (gr c || (dg c || ((c.toNat : Int) == 95)))) := by
  have e : ((c.toNat : Int) == 95) = decide (c.toNat = 95) := by rw [Bool.eq_iff_iff]; simp; omega
  rw [e]; unfold wd; simp only [Bool.or_assoc]
theorem isInWord_any (o : Option UInt8) (w : World) : Calls Tryz.prog 82 #[.int .i64 (bi o)] w fun e w' => e = .returned (.bool (wdO o)) ∧ w = w' := by
  have hs := isSmall_any o w
  have hg := isGreat_any o w
  have hd := isDigit_any o w
  cases o with
  | none =>
    simp only [bi, wdO] at *
    go_enter Tryz.func82, Tryz.ntmps82; go_wp2_with fail
    refine hs.mono ?_; rintro e w' ⟨rfl, rfl⟩
    go_wp2_with fail
    refine hg.mono ?_; rintro e w' ⟨rfl, rfl⟩
    go_wp2_with fail
    refine hd.mono ?_; rintro e w' ⟨rfl, rfl⟩
    go_wp2_with fail
    go_ret; exact ⟨rfl, rfl⟩
  | some c =>
    simp only [bi, wdO] at *
    have E := Lib.hid (wd_eq c)
    generalize sm c = x at *
    generalize gr c = y at *
    generalize dg c = z at *
    cases x
    · cases y
      · cases z
        · go_enter Tryz.func82, Tryz.ntmps82; go_wp2_with fail
          refine hs.mono ?_; rintro e w' ⟨rfl, rfl⟩
          go_wp2_with fail
          refine hg.mono ?_; rintro e w' ⟨rfl, rfl⟩
          go_wp2_with fail
          refine hd.mono ?_; rintro e w' ⟨rfl, rfl⟩
          go_wp2_with fail
          go_ret; exact ⟨kp.rb (E.out.trans (by simp)).symm, rfl⟩
        · go_enter Tryz.func82, Tryz.ntmps82; go_wp2_with fail
          refine hs.mono ?_; rintro e w' ⟨rfl, rfl⟩
          go_wp2_with fail
          refine hg.mono ?_; rintro e w' ⟨rfl, rfl⟩
          go_wp2_with fail
          refine hd.mono ?_; rintro e w' ⟨rfl, rfl⟩
          go_wp2_with fail
          go_ret; exact ⟨kp.rb (E.out.trans (by simp)).symm, rfl⟩
      · go_enter Tryz.func82, Tryz.ntmps82; go_wp2_with fail
        refine hs.mono ?_; rintro e w' ⟨rfl, rfl⟩
        go_wp2_with fail
        refine hg.mono ?_; rintro e w' ⟨rfl, rfl⟩
        go_wp2_with fail
        go_ret; exact ⟨kp.rb (E.out.trans (by simp)).symm, rfl⟩
    · go_enter Tryz.func82, Tryz.ntmps82; go_wp2_with fail
      refine hs.mono ?_; rintro e w' ⟨rfl, rfl⟩
      go_wp2_with fail
      go_ret; exact ⟨kp.rb (E.out.trans (by simp)).symm, rfl⟩
theorem ix_w (s : List UInt8) (c : UInt8) : Lib.indexByte (⟨s.toArray⟩ : ByteArray).data.toList ((c.toNat : Int)).toNat.toUInt8 = Lib.indexByte s c := by simp
theorem isOf_any (s : List UInt8) (o : Option UInt8) (w : World) : Calls Tryz.prog 77 #[.string ⟨s.toArray⟩, .int .i64 (bi o)] w fun e w' => e = .returned (.bool (memO s o)) ∧ w = w' := by
  cases o with
  | none =>
    simp only [bi, memO]
    go_enter Tryz.func77, Tryz.ntmps77; go_wp2_with fail
    go_ret; exact ⟨rfl, rfl⟩
  | some c =>
    simp only [bi, memO]
    obtain ⟨h1, h2⟩ := bi_lt c
    have hne : (((c.toNat : Int)) != -1) = true := by rw [bne_iff_ne]; omega
    have hix := ix_w s c
    have hmem : Hid (mem s c = decide (Lib.indexByte s c ≥ 0)) := Lib.hid rfl
    go_enter Tryz.func77, Tryz.ntmps77; go_wp2_with fail
    refine (Tryz.strings_IndexByte _ _ _).mono ?_; rintro e w' ⟨rfl, hw⟩; subst hw
    rw [hix]
    go_wp2_with fail
    go_ret; exact ⟨kp.rb hmem.out.symm, rfl⟩
/-! ### what turns -/
/-- block p has turned to o; but for it only new ones -/
def Nw (p : Nat) (o : Obj) (w w' : World) : Prop := w'.heap[p]? = some o ∧ Keep (fun k => k = p) w w'
theorem Nw.same {o : Obj} (h : w.heap[p]? = some o) : Nw p o w w := ⟨h, Keep.refl _ _⟩
theorem Nw.lt {o : Obj} (h : w.heap[p]? = some o) : p < w.heap.size := (Array.getElem?_eq_some_iff.1 h).1
theorem drewN_below (w : World) (n : Nat) : Below w.heap.size w (w.drewN n) := by
  induction n with
  | zero => exact Below.refl _ _
  | succ n ih => exact ih.drew
theorem Nw.drewN {o : Obj} (h : w.heap[p]? = some o) (n : Nat) : Nw p o w (w.drewN n) := by
  have b := drewN_below w n
  exact ⟨(b.block p (Nw.lt h)).trans h, Keep.of_below b⟩
theorem Nw.trans {o o' : Obj} {w1 w2 : World} (h : Nw p o w w1) (k : Nw p o' w1 w2) : Nw p o' w w2 := ⟨k.1, h.2.trans k.2 fun _ => Or.inl⟩
theorem Nw.below {o : Obj} {w1 : World} (h : w.heap[p]? = some o) (b : Below w.heap.size w w1) : Nw p o w w1 := ⟨(b.block p (Nw.lt h)).trans h, Keep.of_below b⟩
theorem Nw.set {cs : Array Value} {ty : TypeId} (h : w.heap[p]? = some (.cells cs ty (0, 0))) (i : Nat) (v : Value) : Nw p (.cells (cs.setIfInBounds i v) ty (0, 0)) w (w.setCell ⟨p, i, none⟩ v) :=
  ⟨heap_setCell_same w p i cs ty v h, Keep.setCell (F := fun k => k = p) w rfl v⟩
/-- the token's value -/
def tkV (k : Int) (t : List UInt8) (n re im a : Int) : Value := .agg #[.int .i64 k, .string ⟨t.toArray⟩, .int .i64 n, .int .u64 re, .int .u64 im, .int .i64 a]
abbrev TO (k : Int) (t : List UInt8) (n re im a : Int) : Obj := .cells #[.int .i64 k, .string ⟨t.toArray⟩, .int .i64 n, .int .u64 re, .int .u64 im, .int .i64 a] 76 (0, 0)
def trv : TR → Value
  | .er e => .tuple #[tkV 0 [] 0 0 0 0, .int .i64 e]
  | .ok k t n re im rest => .tuple #[tkV k t n re im 0, .int .i64 0]
theorem six {r : Nat} {v0 v1 v2 v3 v4 v5 : Value} {ty : TypeId} (h : w.heap[r]? = some (.cells #[v0, v1, v2, v3, v4, v5] ty (0, 0))) :
    (w.cell? ⟨r, 0, none⟩ = some v0 ∧ w.cell? ⟨r, 1, none⟩ = some v1 ∧ w.cell? ⟨r, 2, none⟩ = some v2 ∧ w.cell? ⟨r, 3, none⟩ = some v3 ∧ w.cell? ⟨r, 4, none⟩ = some v4 ∧ w.cell? ⟨r, 5, none⟩ = some v5) ∧
      w.frozen? ⟨r, 0, none⟩ = false ∧ w.frozen? ⟨r, 1, none⟩ = false ∧ w.frozen? ⟨r, 2, none⟩ = false ∧ w.frozen? ⟨r, 3, none⟩ = false ∧ w.frozen? ⟨r, 4, none⟩ = false ∧ w.frozen? ⟨r, 5, none⟩ = false := by
  refine ⟨⟨?_, ?_, ?_, ?_, ?_, ?_⟩, ?_, ?_, ?_, ?_, ?_, ?_⟩ <;> simp [World.cell?, World.frozen?, h]
theorem fin6 {r : Nat} {u0 u1 u2 u3 u4 u5 : Value} {ty : TypeId} (h : w.heap[r]? = some (.cells #[u0, u1, u2, u3, u4, u5] ty (0, 0))) (v0 v1 v2 v3 v4 v5 : Value) : ∃ W,
    ((((((w.setCell ⟨r, 0, none⟩ v0).setCell ⟨r, 1, none⟩ v1).setCell ⟨r, 2, none⟩ v2).setCell ⟨r, 3, none⟩ v3).setCell ⟨r, 4, none⟩ v4).setCell ⟨r, 5, none⟩ v5) = W ∧
      Nw r (.cells #[v0, v1, v2, v3, v4, v5] ty (0, 0)) w W := by
  have a := (((((Nw.set h 0 v0).trans (Nw.set (Nw.set h 0 v0).1 1 v1)))))
  have b := a.trans (Nw.set a.1 2 v2)
  have c := b.trans (Nw.set b.1 3 v3)
  have d := c.trans (Nw.set c.1 4 v4)
  have e := d.trans (Nw.set d.1 5 v5)
  refine ⟨_, rfl, ?_⟩
  simpa using e
/-- a result's block is laid at the door, written at the end: but for block p nothing has turned -/
theorem fin_keep {w0 w1 w2 W : World} {o : Obj} {P : Nat → Prop} (h1 : w1 = w0.alloc o) (k : Keep P w1 w2) (k2 : Keep (fun k => k = w0.heap.size) w2 W) : Keep P w0 W := by
  subst h1
  have b := Keep.of_below (F := P) (kp.ba w0 o)
  have c := b.trans k fun _ => Or.inl
  exact c.trans k2 fun i hi => Or.inr (by rw [hi]; exact Nat.le_refl _)
/-- what is known of the library's error of range -/
def VR (B : Nat) (w : World) : Prop := ∃ W, (∃ tp q, W.var? Tryz.prog "strconv.ErrRange" = some #[.iface tp q]) ∧ Below W.heap.size W w ∧ W.heap.size ≤ B
theorem VR.keep {B : Nat} (h : VR B w) {P : Nat → Prop} (k : Keep P w w') (hP : ∀ i, P i → B ≤ i) : VR B w' := by
  obtain ⟨W, a, b, c⟩ := h
  refine ⟨W, a, b.trans (k.to_below (fun i hi => Nat.le_trans c (hP i hi)) b.size), c⟩
theorem VR.below {B : Nat} (h : VR B w) (b : Below w.heap.size w w') : VR B w' := h.keep (P := fun _ => False) (Keep.of_below b) (fun _ h => h.elim)
theorem VR.get {B : Nat} (h : VR B w) : ∃ tp q, w.var? Tryz.prog "strconv.ErrRange" = some #[.iface tp q] := by
  obtain ⟨W, ⟨tp, q, a⟩, b, c⟩ := h
  exact ⟨tp, q, var_on a b⟩
/-! ### the byte that is next -/
theorem peek_any (h : w.heap[p]? = some (MO S l b k t n re im a en)) (hs : l <:+ S) (hS : S.length ≤ 65536) :
    Calls Tryz.prog 83 #[.pointer (some ⟨p, 0, none⟩)] w fun e w' => e = .returned (.int .i64 (bi l.head?)) ∧ Nw p (MO S l b k t n re im a en) w w' := by
  obtain ⟨⟨c0, c1, -⟩, -⟩ := ten h
  have HN := fun n => Lib.hid (Nw.drewN h n)
  clear h
  cases l with
  | nil =>
    simp only [List.head?, bi]
    have e0 : S.length - ([] : List UInt8).length = S.length := by simp
    rw [e0] at c1
    clear hs
    go_enter Tryz.func83, Tryz.ntmps83; go_wp2_with fail
    go_quiet (fail)
    go_wp2_with fail
    go_ret; exact ⟨rfl, (HN _).out⟩
  | cons c r =>
    simp only [List.head?, bi]
    obtain ⟨i, e0, -, hi, hb⟩ := suf_at hs
    rw [e0] at c1
    clear hs
    have hne : ((i : Int) == (S.length : Int)) = false := by rw [beq_eq_false_iff_ne]; omega
    have hwr : Hid (wrap64 (c.toNat : Int) = c.toNat) := Lib.hid (by have := bi_lt c; unfold wrap64; omega)
    go_enter Tryz.func83, Tryz.ntmps83; go_wp2_with fail
    go_quiet (fail)
    go_wp2_with fail
    go_quiet (fail)
    go_wp2_with fail
    go_ret; refine ⟨kp.ri hwr.out, ?_⟩
    first | exact (HN _).out | (rw [World.drewN_drewN]; exact (HN _).out)
theorem take_any (h : w.heap[p]? = some (MO S l b k t n re im a en)) (hs : l <:+ S) (hS : S.length ≤ 65536) :
    Calls Tryz.prog 73 #[.pointer (some ⟨p, 0, none⟩)] w fun e w' => e = .returned (.int .i64 (bi l.head?)) ∧ Nw p (MO S l.tail b k t n re im a en) w w' := by
  have hpk := peek_any h hs hS
  clear h
  cases l with
  | nil =>
    simp only [List.head?, bi, List.tail] at *
    go_enter Tryz.func73, Tryz.ntmps73; go_wp2_with fail
    refine hpk.mono ?_; rintro e w' ⟨rfl, N⟩
    have HN := Lib.hid N; clear N
    go_wp2_with fail
    go_ret; exact ⟨rfl, HN.out⟩
  | cons c r =>
    simp only [List.head?, bi, List.tail] at *
    obtain ⟨i, e0, e1, hi, hb⟩ := suf_at hs
    unfold MO at hpk ⊢
    rw [e0] at hpk; rw [e1]
    clear hs hb e0 e1
    have h2 := bi_lt c
    have hne : (((c.toNat : Int)) != -1) = true := by rw [bne_iff_ne]; omega
    clear h2
    go_enter Tryz.func73, Tryz.ntmps73; go_wp2_with fail
    refine hpk.mono ?_; rintro e w' ⟨rfl, N⟩
    obtain ⟨⟨c0, c1, -⟩, f1, -⟩ := ten N.1
    have HN := Lib.hid N; clear N
    go_wp2_with fail
    go_ret; refine ⟨rfl, ?_⟩
    have := HN.out.trans (Nw.set HN.out.1 1 (.int .i64 ((i + 1 : Nat) : Int)))
    simpa using this
theorem piece_at {S l q : List UInt8} (h : q ++ l <:+ S) : ∃ i j, S.length - (q ++ l).length = i ∧ S.length - l.length = j ∧ i ≤ j ∧ j ≤ S.length ∧ (S.take j).drop i = q := by
  obtain ⟨x, rfl⟩ := h
  refine ⟨x.length, x.length + q.length, by simp, by simp; omega, by omega, by simp, ?_⟩
  rw [← List.append_assoc, List.take_left' (by simp), List.drop_left' rfl]
theorem piece_any {q : List UInt8} (h : w.heap[p]? = some (MO S l (q ++ l) k t n re im a en)) (hs : q ++ l <:+ S) (hS : S.length ≤ 65536) :
    Calls Tryz.prog 79 #[.pointer (some ⟨p, 0, none⟩)] w fun e w' => e = .returned (.string ⟨q.toArray⟩) ∧ Nw p (MO S l (q ++ l) k t n re im a en) w w' := by
  obtain ⟨⟨c0, c1, c2, -⟩, -⟩ := ten h
  have HN := fun n => Lib.hid (Nw.drewN h n)
  clear h
  obtain ⟨i, j, e0, e1, hij, hjS, hq⟩ := piece_at hs
  rw [e0] at c2; rw [e1] at c1
  have hx : (⟨S.toArray⟩ : ByteArray).extract i j = ⟨q.toArray⟩ := by rw [ext_any, hq]
  clear hs e0 e1 hq
  go_enter Tryz.func79, Tryz.ntmps79; go_wp2_with fail
  go_quiet (fail)
  go_wp2_with fail
  go_ret; exact ⟨rfl, (HN _).out⟩
theorem ends_any (h : w.heap[p]? = some (MO S l b k t n re im a en)) (hs : l <:+ S) (hS : S.length ≤ 65536) :
    Calls Tryz.prog 85 #[.pointer (some ⟨p, 0, none⟩)] w fun e w' => e = .returned (.bool (stops l)) ∧ Nw p (MO S l b k t n re im a en) w w' := by
  have hpk := peek_any h hs hS
  clear h
  cases l with
  | nil =>
    simp only [List.head?, bi, stops] at *
    go_enter Tryz.func85, Tryz.ntmps85; go_wp2_with fail
    refine hpk.mono ?_; rintro e w' ⟨rfl, N⟩
    have HN := Lib.hid N; clear N
    go_wp2_with fail
    go_ret; exact ⟨rfl, HN.out⟩
  | cons c r =>
    have hof := fun w => isOf_any blankL (some c) w
    simp only [List.head?, bi, stops, memO] at *
    obtain ⟨h1, h2⟩ := bi_lt c
    have hne : (((c.toNat : Int)) == -1) = false := by rw [beq_eq_false_iff_ne]; omega
    have hE : Hid (decide (c = 37) = ((c.toNat : Int) == 37)) := Lib.hid (by rw [Bool.eq_iff_iff]; simp [← UInt8.toNat_inj]; try omega)
    clear hs
    generalize mem blankL c = x at *
    by_cases h37 : ((c.toNat : Int) == 37) = true
    · have E := Lib.hid (hE.out.trans h37)
      clear hE
      go_enter Tryz.func85, Tryz.ntmps85; go_wp2_with fail
      refine hpk.mono ?_; rintro e w' ⟨rfl, N⟩
      have HN := Lib.hid N; clear N
      go_wp2_with fail
      go_ret; exact ⟨kp.rb (by rw [E.out]; rfl), HN.out⟩
    · simp only [Bool.not_eq_true] at h37
      have E := Lib.hid (hE.out.trans h37)
      clear hE
      go_enter Tryz.func85, Tryz.ntmps85; go_wp2_with fail
      refine hpk.mono ?_; rintro e w' ⟨rfl, N⟩
      have HN := Lib.hid N; clear N
      go_wp2_with fail
      refine (hof _).mono ?_; rintro e w' ⟨rfl, rfl⟩
      go_wp2_with fail
      go_ret; exact ⟨kp.rb (by rw [E.out]; rfl), HN.out⟩
theorem behind_any (h : w.heap[p]? = some (MO S l b k t n re im a en)) (kk : Int) :
    Calls Tryz.prog 122 #[.pointer (some ⟨p, 0, none⟩), .int .i64 kk] w fun e w' => e = .returned (.bool (decide (k = kk) && decide (en = ((S.length - b.length : Nat) : Int)))) ∧ Nw p (MO S l b k t n re im a en) w w' := by
  obtain ⟨⟨c0, c1, c2, c3, c4, c5, c6, c7, c8, c9⟩, -⟩ := ten h
  have HN := fun n => Lib.hid (Nw.drewN h n)
  clear h
  generalize ((S.length - b.length : Nat) : Int) = q at *
  have hb : ∀ x y : Int, decide (x = y) = (x == y) := fun x y => by rw [Bool.eq_iff_iff]; simp
  rw [hb, hb]
  clear hb
  by_cases hk : (k == kk) = true
  · rw [hk]
    go_enter Tryz.func122, Tryz.ntmps122; go_wp2_with fail
    go_quiet (fail)
    go_wp2_with fail
    go_ret; exact ⟨rfl, (HN _).out⟩
  · simp only [Bool.not_eq_true] at hk
    rw [hk]
    go_enter Tryz.func122, Tryz.ntmps122; go_wp2_with fail
    go_quiet (fail)
    go_wp2_with fail
    go_ret; exact ⟨rfl, (HN _).out⟩
theorem clone_any (s : ByteArray) (w : World) (hs : s.size ≤ 281474976710656) : Calls Tryz.prog 48 #[.string s] w fun e w' => e = .returned (.string s) ∧ Below w.heap.size w w' := by
  go_enter Tryz.func48, Tryz.ntmps48
  go_wp2_with fail
  refine (Tryz.stringslite_Clone _ _ hs).mono ?_; rintro e w' ⟨rfl, b⟩
  go_wp2_with fail
  go_ret; exact ⟨rfl, b⟩
theorem texted_any (kk : Int) (q rest : List UInt8) (hq : q.length ≤ 65536) (w : World) :
    Calls Tryz.prog 78 #[.int .i64 kk, .string ⟨q.toArray⟩] w fun e w' => e = .returned (trv (txt kk q rest)) ∧ Below w.heap.size w w' := by
  obtain ⟨r0, hr0⟩ : ∃ r0, r0 = w.heap.size := ⟨_, rfl⟩
  obtain ⟨w1, hw1⟩ : ∃ w1, w1 = w.alloc (TO 0 [] 0 0 0 0) := ⟨_, rfl⟩
  have hz : w1.heap[r0]? = some (TO 0 [] 0 0 0 0) := by rw [hr0, hw1]; exact alloc_at w _
  have HB := Lib.hid (fun w2 W (k : Keep (fun _ => False) w1 w2) (k2 : Keep (fun i => i = r0) w2 W) => (fin_keep (P := fun _ => False) hw1 k (by rw [← hr0]; exact k2)))
  have HW := Lib.hid (And.intro hr0 hw1)
  have HZ := Lib.hid hz
  clear hr0 hw1
  by_cases hlen : q.length ≤ 200
  · have HT := Lib.hid (show trv (txt kk q rest) = .tuple #[tkV kk q 0 0 0 0, .int .i64 0] by unfold txt; rw [if_pos hlen]; rfl)
    clear hz
    go_enter Tryz.func78, Tryz.ntmps78
    go_upto_region 1 with fail
    change Code.wp _ _ _ _ (w.alloc (TO 0 [] 0 0 0 0))
    rw [← HW.out.1, ← HW.out.2]
    go_wp2_with fail
    refine (clone_any _ _ (by show q.toArray.size ≤ _; rw [List.size_toArray]; omega)).mono ?_; rintro e w2 ⟨rfl, b2⟩
    have K2 := Lib.hid (Keep.of_below (F := fun _ => False) b2)
    have hz2 := Lib.hid ((b2.block r0 (Nw.lt HZ.out)).trans HZ.out)
    obtain ⟨⟨z0, z1, z2, z3, z4, z5⟩, y0, y1, y2, y3, y4, y5⟩ := six hz2.out
    clear b2
    go_wp2_with fail
    obtain ⟨W, hW, N⟩ := fin6 hz2.out (.int .i64 kk) (.string ⟨q.toArray⟩) (.int .i64 0) (.int .u64 0) (.int .u64 0) (.int .i64 0)
    obtain ⟨⟨e0, e1, e2, e3, e4, e5⟩, _⟩ := six N.1
    rw [hW]
    refine bodyPost_ret (v := .tuple #[tkV kk q 0 0 0 0, .int .i64 0]) (by simp [results, Tryz.results78, go_sem, e0, e1, e2, e3, e4, e5, tkV]) rfl ⟨?_, ?_⟩
    · rw [HT.out]
    · exact (HB.out _ _ K2.out N.2).to_below (fun _ h => h.elim) (Nat.le_refl _)
  · have HT := Lib.hid (show trv (txt kk q rest) = .tuple #[tkV 0 [] 0 0 0 0, .int .i64 3] by unfold txt; rw [if_neg hlen]; rfl)
    obtain ⟨⟨z0, z1, z2, z3, z4, z5⟩, y0, y1, y2, y3, y4, y5⟩ := six hz
    clear hz
    go_enter Tryz.func78, Tryz.ntmps78
    go_upto_region 1 with fail
    change Code.wp _ _ _ _ (w.alloc (TO 0 [] 0 0 0 0))
    rw [← HW.out.1, ← HW.out.2]
    go_wp2_with fail
    obtain ⟨W, hW, N⟩ := fin6 HZ.out (.int .i64 0) (.string ⟨#[]⟩) (.int .i64 0) (.int .u64 0) (.int .u64 0) (.int .i64 0)
    obtain ⟨⟨e0, e1, e2, e3, e4, e5⟩, _⟩ := six N.1
    rw [hW]
    refine bodyPost_ret (v := .tuple #[tkV 0 [] 0 0 0 0, .int .i64 3]) (by simp [results, Tryz.results78, go_sem, e0, e1, e2, e3, e4, e5, tkV]) rfl ⟨?_, ?_⟩
    · rw [HT.out]
    · exact (HB.out _ _ (Keep.refl _ _) N.2).to_below (fun _ h => h.elim) (Nat.le_refl _)
end
end Go.Proofs.YtedbcmagjbgbjaaGreatDoor.tk
