/- Package term: sameNode, Same, Variant. -/
import Derived.Test.YtedbcmagjbgbjaaGreatDoorTm
import Derived.Test.YtedbcmagjbgbjaaGreatDoorPl
import Derived.Deep.LoopGhost
import Derived.Deep.CutRange
import Derived.Deep.RegionWith
namespace Go.Proofs.YtedbcmagjbgbjaaGreatDoor.sme
set_option linter.unusedVariables false
open Go.ChangeShapes Go.WideShapes Go.ChangeAt Go.RowKit
open Go.Proofs.YtedbcmagjbgbjaaGreatDoor.tm Go.Proofs.YtedbcmagjbgbjaaGreatDoor.lie Go.Proofs.YtedbcmagjbgbjaaGreatDoor.kp Go.Proofs.YtedbcmagjbgbjaaGreatDoor.wlk Go.Proofs.YtedbcmagjbgbjaaGreatDoor.cur Go.Proofs.YtedbcmagjbgbjaaGreatDoor.mes Go.Proofs.YtedbcmagjbgbjaaGreatDoor.vrs Go.Proofs.YtedbcmagjbgbjaaGreatDoor.pla Go.Proofs.YtedbcmagjbgbjaaGreatDoor.ren
theorem tl_ne {x s : ByteArray} (h : x ≠ s) : (x.toList == s.toList) = false := by
  rw [beq_eq_false_iff_ne, ByteArray.toList_eq, ByteArray.toList_eq]
  intro e; apply h; apply ByteArray.ext; exact Array.ext' e
theorem bd (a b : Int) : (a == b) = decide (a = b) := by by_cases h : a = b <;> simp [h]
def snv (k k' : Int) (n n' : ByteArray) (i i' re re' im im' : Int) (len len' : Nat) : Bool :=
  decide (k = k') && (if k = 2 then decide (n = n') else if k = 4 then decide (re = re') && decide (im = im') else if k = 5 then decide (n = n') && decide (len = len') else decide (i = i'))
/-- next, with what is told where there is no node -/
def NextQ (B r : Nat) (L : List (Tm × Nat)) (p : Nat) (F : Nat → Prop) (w : World) (e : Ending) (w' : World) : Prop :=
  ∃ k0 n0 i0 re0 im0 a0 l0 c0 d b, e = .returned (.tuple #[.agg #[.int .i64 k0, .string n0, .int .i64 i0, .int .u64 re0, .int .u64 im0, .slice a0 l0 c0], .int .i64 d, .bool b]) ∧ Keep F w w' ∧
    ((L = [] ∧ b = false ∧ k0 = 0) ∨ ∃ t k L' R' F', L = (t, k) :: L' ∧ b = true ∧ Lies (Off B r) w' t (.agg #[.int .i64 k0, .string n0, .int .i64 i0, .int .u64 re0, .int .u64 im0, .slice a0 l0 c0]) ∧ TWay B r w' p F' R' ∧ flat R' = L' ∧ R'.length ≤ k + 1 ∧ ∀ i, F' i → F i ∨ w.heap.size ≤ i)
theorem next_q (B r : Nat) (w : World) (p : Nat) (F : Nat → Prop) (R : List (List Tm)) (h : TWay B r w p F R) (h9 : R.length ≤ 1000) (hr : r < w.heap.size) :
    Calls Tryz.prog 135 #[.pointer (some ⟨p, 0, none⟩)] w (NextQ B r (flat R) p F w) := by
  rcases flat_cases R with ⟨h0, hR⟩ | ⟨R0, E, t, row, rfl, hE, hL⟩
  · refine (next_none B r w p F R h hR h9).mono fun e w' ⟨he, hk⟩ => ?_
    exact ⟨_, _, _, _, _, _, _, _, _, _, he, hk, Or.inl ⟨h0, rfl, rfl⟩⟩
  · have hl : (R0 ++ (t :: row) :: E).length = R0.length + 1 + E.length := by simp; omega
    refine (next_some B r w p F R0 E t row h hE (by omega) hr).mono fun e w' ⟨v, he, hv, F', hw, hk, hF⟩ => ?_
    have hv' := hv
    obtain ⟨k, n, i, re, im, l⟩ := t
    rw [Lies] at hv'
    obtain ⟨a, c, rfl, _⟩ := hv'
    refine ⟨_, _, _, _, _, _, _, _, _, _, he, hk, Or.inr ⟨_, _, _, _, F', hL, rfl, hv, hw, rfl, ?_, hF⟩⟩
    have := kids_len (Tm.mk k n i re im l)
    simp only [List.length_append, List.length_cons, List.length_nil]; omega
/-- both ways at once: what is still to come of each -/
def Two (B : Nat) (La Lb : List (Tm × Nat)) (pa pb : Nat) (w : World) : Prop :=
  ∃ Ra Rb Fa Fb ra rb, TWay B ra w pa Fa Ra ∧ TWay B rb w pb Fb Rb ∧ flat Ra = La ∧ flat Rb = Lb ∧ Ra.length ≤ 501 ∧ Rb.length ≤ 501 ∧ (∀ k, Fa k → ¬ Fb k) ∧ ¬ Fb ra ∧ ¬ Fa rb ∧ ra < w.heap.size ∧ rb < w.heap.size
/-- a way that has just begun, at world w -/
def Fresh (B : Nat) (t : Tm) (w : World) (p : Nat) (w' : World) : Prop := ∃ F r, TWay B r w' p F [[t]] ∧ (∀ k, F k → w.heap.size ≤ k) ∧ w.heap.size ≤ r ∧ r < w'.heap.size
theorem flat_one (t : Tm) : flat [[t]] = pre 1 t := by simp [flat, flatR, preL]
theorem Two.start {B : Nat} {a b : Tm} {w w1 w2 : World} {pa pb : Nat} (ha : Fresh B a w pa w1) (hb : Fresh B b w1 pb w2) (hk : Below w1.heap.size w1 w2) : Two B (pre 1 a) (pre 1 b) pa pb w2 ∧ Two B (pre 1 b) (pre 1 a) pb pa w2 := by
  obtain ⟨Fa, ra, ta, fa, ra1, ra2⟩ := ha
  obtain ⟨Fb, rb, tb, fb, rb1, rb2⟩ := hb
  have hs := hk.size
  have ta' := ta.keep (G := No) (Keep.of_below hk) (fun _ _ => id) (fun _ h => h.elim)
  have hd : ∀ k, Fa k → ¬ Fb k := fun k h1 h2 => by have := (ta.lt k h1).2.2; have := fb k h2; omega
  have h1 : ¬ Fb ra := fun h => by have := fb _ h; omega
  have h2 : ¬ Fa rb := fun h => by have := (ta.lt _ h).2.2; omega
  exact ⟨⟨_, _, Fa, Fb, ra, rb, ta', tb, flat_one a, flat_one b, by simp, by simp, hd, h1, h2, by omega, by omega⟩, ⟨_, _, Fb, Fa, rb, ra, tb, ta', flat_one b, flat_one a, by simp, by simp, fun k x y => hd k y x, h2, h1, by omega, by omega⟩⟩
theorem two_step {B ra rb pa pb : Nat} {Fa Fb Fa' Fb' : Nat → Prop} {Ra Rb Ra' Rb' : List (List Tm)} {w w1 x1 w2 w4 : World} (ha : TWay B ra w pa Fa Ra) (hb : TWay B rb w pb Fb Rb)
    (hd : ∀ k, Fa k → ¬ Fb k) (h1 : ¬ Fb ra) (h2 : ¬ Fa rb) (h3 : ra < w.heap.size) (h4 : rb < w.heap.size) (k1 : Keep Fa w w1) (ta : TWay B ra w1 pa Fa' Ra') (fa : ∀ i, Fa' i → Fa i ∨ w.heap.size ≤ i)
    (kx : Below w1.heap.size w1 x1) (k2 : Keep Fb x1 w2) (tb : TWay B rb w2 pb Fb' Rb') (fb : ∀ i, Fb' i → Fb i ∨ x1.heap.size ≤ i) (ky : Below w2.heap.size w2 w4) (la : Ra'.length ≤ 501) (lb : Rb'.length ≤ 501) :
    Two B (flat Ra') (flat Rb') pa pb w4 := by
  have s1 := k1.size; have sx := kx.size; have s2 := k2.size; have sy := ky.size
  have la1 := ha.lt; have lb1 := hb.lt; have lt1 := ta.lt; have lt2 := tb.lt
  have n1 : ∀ k, Fa' k → ¬ Fb k := fun k h h' => by
    rcases fa k h with e | e
    · exact hd k e h'
    · have := (lb1 k h').2.2; omega
  have ta2 := (ta.keep (G := No) (Keep.of_below kx) (fun _ _ => id) (fun _ h => h.elim)).keep k2 (fun k h => n1 k h) (fun k h => ⟨(lb1 k h).1, fun e => h1 (e ▸ h)⟩)
  have ta4 := ta2.keep (G := No) (Keep.of_below ky) (fun _ _ => id) (fun _ h => h.elim)
  have tb4 := tb.keep (G := No) (Keep.of_below ky) (fun _ _ => id) (fun _ h => h.elim)
  refine ⟨Ra', Rb', Fa', Fb', ra, rb, ta4, tb4, rfl, rfl, la, lb, fun k h h' => ?_, fun h => ?_, fun h => ?_, by omega, by omega⟩
  · rcases fb k h' with e | e
    · exact n1 k h e
    · have := (lt1 k h).2.2; omega
  · rcases fb _ h with e | e
    · exact h1 e
    · omega
  · rcases fa _ h with e | e
    · exact h2 e
    · omega
def Ok (L : List (Tm × Nat)) : Prop := ∀ x ∈ L, x.2 ≤ 500 ∧ chk x.1 = 0
theorem ok_pre {t : Tm} (h : good t = true) : Ok (pre 1 t) := by
  simp only [good, Bool.and_eq_true, decide_eq_true_eq] at h
  have f := pre_facts t 1
  intro x hx
  exact ⟨(f.2.2.2 500).2 (by omega) x hx, f.2.1.2 h.2 x hx⟩
def Rel (B pa pb : Nat) (a b : Tm) (w : World) (g : Nat) (wr : World) : Prop :=
  ∃ La Lb, g = La.length ∧ Two B La Lb pa pb wr ∧ Below B w wr ∧ pf La Lb = like a b ∧ Ok La ∧ Ok Lb
theorem snv_sn {X Y : Nat → Prop} {w w' : World} {t t' : Tm} {k k' : Int} {n n' : ByteArray} {i i' re re' im im' : Int} {a a' : Option Addr} {len len' c c' : Nat} (h : Lies X w t (.agg #[.int .i64 k, .string n, .int .i64 i, .int .u64 re, .int .u64 im, .slice a len c]))
    (h' : Lies Y w' t' (.agg #[.int .i64 k', .string n', .int .i64 i', .int .u64 re', .int .u64 im', .slice a' len' c'])) : snv k k' n n' i i' re re' im im' len len' = sn t t' := by
  obtain ⟨k1, n1, i1, re1, im1, l1⟩ := t
  obtain ⟨k2, n2, i2, re2, im2, l2⟩ := t'
  rw [Lies] at h h'
  obtain ⟨a1, c1, hv, _, _⟩ := h
  obtain ⟨a2, c2, hv', _, _⟩ := h'
  simp only [Value.agg.injEq, Array.mk.injEq, List.cons.injEq, Value.int.injEq, Value.string.injEq, Value.slice.injEq, and_true, true_and] at hv hv'
  obtain ⟨rfl, rfl, rfl, rfl, rfl, rfl, rfl, rfl⟩ := hv
  obtain ⟨rfl, rfl, rfl, rfl, rfl, rfl, rfl, rfl⟩ := hv'
  rfl
theorem kind_of {X : Nat → Prop} {w : World} {t : Tm} {k : Int} {n : ByteArray} {i re im : Int} {a : Option Addr} {len c : Nat} (h : Lies X w t (.agg #[.int .i64 k, .string n, .int .i64 i, .int .u64 re, .int .u64 im, .slice a len c])) : t.kind = k := by
  obtain ⟨k1, n1, i1, re1, im1, l1⟩ := t
  rw [Lies] at h
  obtain ⟨a1, c1, hv, _, _⟩ := h
  simp only [Value.agg.injEq, Array.mk.injEq, List.cons.injEq, Value.int.injEq, Value.string.injEq, Value.slice.injEq, and_true, true_and] at hv
  exact hv.1.symm
theorem two_box {w w1 : World} {o o' : Obj} (h : Below ((w.alloc o).alloc o').heap.size ((w.alloc o).alloc o') w1) : w1.heap[w.heap.size]? = some o ∧ w1.heap[w.heap.size + 1]? = some o' ∧ Below w.heap.size w w1 := by
  refine ⟨?_, ?_, bt (bt (ba _ _) (ba _ _)) h⟩
  · rw [h.block _ (by simp only [alloc_size]; omega), (ba (w.alloc o) o').block _ (by simp only [alloc_size]; omega)]
    exact alloc_at _ _
  · rw [h.block _ (by simp only [alloc_size]; omega)]
    have := alloc_at (w.alloc o) o'
    rwa [alloc_size] at this
/-- what is known of a world behind w: both boxes, both terms -/
def Know (w : World) (a b : Tm) (va vb : Value) (oa ob : Obj) (W : World) : Prop := W.heap[w.heap.size]? = some oa ∧ W.heap[w.heap.size + 1]? = some ob ∧ Below w.heap.size w W ∧ Lies (fun k => w.heap.size ≤ k) W a va ∧ Lies (fun k => w.heap.size ≤ k) W b vb
theorem Know.below {w W W' : World} {a b : Tm} {va vb : Value} {oa ob : Obj} (h : Know w a b va vb oa ob W) (k : Below W.heap.size W W') : Know w a b va vb oa ob W' := by
  obtain ⟨h1, h2, h3, h4, h5⟩ := h
  exact ⟨(k.block _ (Array.getElem?_eq_some_iff.1 h1).1).trans h1, (k.block _ (Array.getElem?_eq_some_iff.1 h2).1).trans h2, h3.trans (k.mono h3.size), h4.below k, h5.below k⟩
/-- behind the first way's step, its node in a new block: the other way is as it was -/
theorem two_next {B rb pb ra pa : Nat} {Fa Fb : Nat → Prop} {Ra Rb : List (List Tm)} {w w1 : World} {o : Obj} (ha : TWay B ra w pa Fa Ra) (hb : TWay B rb w pb Fb Rb) (hd : ∀ k, Fa k → ¬ Fb k) (h1 : ¬ Fb ra) (h4 : ¬ Fa rb ∧ ra < w.heap.size ∧ rb < w.heap.size) (k1 : Keep Fa w w1) :
    TWay B rb (w1.alloc o) pb Fb Rb ∧ (w1.alloc o).heap[w1.heap.size]? = some o ∧ rb < (w1.alloc o).heap.size ∧ ∀ w2, Keep Fb (w1.alloc o) w2 → w2.heap[w1.heap.size]? = some o := by
  have la := ha.lt; have lb := hb.lt; have s1 := k1.size
  have hb1 := hb.keep k1 (fun k h h' => hd k h' h) (fun k h => ⟨(la k h).1, fun e => h4.1 (e ▸ h)⟩)
  refine ⟨hb1.keep (G := No) (Keep.of_below (ba _ _)) (fun _ _ => id) (fun _ h => h.elim), alloc_at _ _, by rw [alloc_size]; omega, fun w2 k2 => ?_⟩
  rw [k2.block _ (by rw [alloc_size]; omega) fun h => by have := (lb _ h).2.2; omega]
  exact alloc_at _ _
end Go.Proofs.YtedbcmagjbgbjaaGreatDoor.sme
