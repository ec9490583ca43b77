/- Unify beside heaps, names, trails of the call's own; awake of law 8. -/
import Derived.Test.YthableojkjhicaaUnH
import Derived.Test.YthableojkjhicaaSLG
namespace Go.Proofs.Ythableojkjhicaa.un
open Go.ChangeShapes Go.WideShapes Go.ChangeAt Go.RowKit Go.Maps
open Go.Proofs.Ythableojkjhicaa.kp Go.Proofs.Ythableojkjhicaa.cel Go.Proofs.Ythableojkjhicaa.hp Go.Proofs.Ythableojkjhicaa.ob Go.Proofs.Ythableojkjhicaa.tm Go.Proofs.Ythableojkjhicaa.lie Go.Proofs.Ythableojkjhicaa.sl Go.Proofs.Ythableojkjhicaa.pm Go.Proofs.Ythableojkjhicaa.ppt Go.Proofs.Ythableojkjhicaa.cur
open Go.Proofs.Ythableojkjhicaa.rpt (putT HB frHB frV)
open Go.Proofs.Ythableojkjhicaa.atm (l0)
open Go.Proofs.Ythableojkjhicaa.pgt (getT GO frGO OT frOT SC6 nv6)
set_option linter.unusedVariables false
/-- a trail -/
def TRO (t : Nat) (L : List Wr) : Ob := fun w G => TP w t G L ∧ Gd L
theorem frTRO {t : Nat} {L : List Wr} : Fr (TRO t L) := ⟨fun h => frmP.lt h.1, fun h k d => ⟨frmP.keep h.1 k d, h.2⟩⟩
section
variable {A B C D : Ob} {W w w0 wr w' : World} {N : Nat → Prop} {p q t mb : Nat} {h : List Int} {m : Int} {a : List ByteArray} {L : List Wr} {s : S}
/-- (A beside B) beside (C beside D) as (A beside C) beside (B beside D) -/
theorem Tim.mid (h : Tim (Tim A B) (Tim C D) w N) : Tim (Tim A C) (Tim B D) w N := by
  obtain ⟨K, M, ⟨K1, K2, a, b, d1, e1⟩, ⟨M1, M2, c, d, d2, e2⟩, dd, ee⟩ := h
  refine ⟨fun i => K1 i ∨ M1 i, fun i => K2 i ∨ M2 i, ⟨K1, M1, a, c, fun i h1 h2 => dd i ((e1 i).2 (Or.inl h1)) ((e2 i).2 (Or.inl h2)), fun _ => Iff.rfl⟩, ⟨K2, M2, b, d, fun i h1 h2 => dd i ((e1 i).2 (Or.inr h1)) ((e2 i).2 (Or.inr h2)), fun _ => Iff.rfl⟩, fun i h1 h2 => ?_, fun i => ?_⟩
  · rcases h1 with h1 | h1 <;> rcases h2 with h2 | h2
    · exact d1 i h1 h2
    · exact dd i ((e1 i).2 (Or.inl h1)) ((e2 i).2 (Or.inr h2))
    · exact dd i ((e1 i).2 (Or.inr h2)) ((e2 i).2 (Or.inl h1))
    · exact d2 i h1 h2
  · rw [ee i, e1 i, e2 i]
    constructor
    · rintro ((h | h) | (h | h))
      · exact Or.inl (Or.inl h)
      · exact Or.inr (Or.inl h)
      · exact Or.inl (Or.inr h)
      · exact Or.inr (Or.inr h)
    · rintro ((h | h) | (h | h))
      · exact Or.inl (Or.inl h)
      · exact Or.inr (Or.inl h)
      · exact Or.inl (Or.inr h)
      · exact Or.inr (Or.inr h)
theorem mUni (fC : Fr C) (hm : Mine W (Tim (HP p q h m a) (Tim (TRO t L) C)) wr) (hL : L.length < 1000000000000) (x y : Int) (hx : W64 x) (hy : W64 y) :
    Calls Try.prog 23 #[.pointer (some ⟨p, 0, none⟩), .pointer (some ⟨t, 0, none⟩), .int .u64 x, .int .u64 y] wr fun e w' => e = .returned (.tuple #[.bool (uniT h L x y).is, .int .i64 (uniT h L x y).e]) ∧
      Mine W (Tim (HP p q (uL (uniT h L x y) h) m a) (Tim (TRO t (uT (uniT h L x y) L)) C)) w' := by
  have h1 : Mine W (Tim (Tim (HB TH p h m) (TRO t L)) (Tim (PO q a) C)) wr := hm.imp fun N t => Tim.mid t
  obtain ⟨M, ⟨F, G, hh, ht, hd, he⟩, hs, hb, up⟩ := Mine.one (frPO.tim fC) h1
  have hsys : hp.Sys TH TP wr p t M h m L := ⟨⟨F, G, hh, ht.1, hd, he⟩, ht.2⟩
  refine (uUni_any hsys hL x y hx hy).mono fun e w' ⟨h2, sn⟩ => ⟨h2, ?_⟩
  obtain ⟨K', ⟨⟨F', G', hh', ht', hd', he'⟩, hg'⟩, k', s'⟩ := sn
  have h3 := up (Tim (HB TH p (uL (uniT h L x y) h) m) (TRO t (uT (uniT h L x y) L))) w' ⟨K', ⟨F', G', hh', ⟨ht', hg'⟩, hd', he'⟩, k', s'⟩
  exact h3.imp fun N t => Tim.mid t
theorem mOcc (hm : Mine W (Tim (HP p q h m a) C) wr) (x y : Int) (hx : W64 x) (hy : W64 y) :
    Calls Try.prog 44 #[.pointer (some ⟨p, 0, none⟩), .int .u64 x, .int .u64 y] wr fun e w' => e = .returned (.tuple #[.bool (occT h x y).1, .int .i64 (occT h x y).2]) ∧ Below wr.heap.size wr w' := by
  obtain ⟨N, ⟨K, M, ⟨K1, M1, hh, _⟩, _⟩, _⟩ := hm
  exact uOcc_any hh x y hx hy
/-- a trail is made -/
theorem TRO.mk_ (f : Fr A) (hm : Mine W A wr) : Mine W (Tim A (TRO wr.heap.size [])) (wr.alloc (.cells #[.slice none 0 0, .slice none 0 0] TT)) := by
  obtain ⟨G, hg, hs⟩ := TN.made wr
  exact hm.more f (kp.ba wr _) (B := TRO wr.heap.size []) ⟨hg, Gd.nil⟩ hs
/-- Put of a term that was made now: its row in a block of its own -/
theorem mPut_fresh (fC : Fr C) {T : Tm} {vt : Value} {R : Obj} (hm : Mine W (Tim (PB p q mb m s) C) w0) (hb : Below (w0.heap.size + 1) (w0.alloc R) wr) (ht : ∀ X : Nat → Prop, ¬ X w0.heap.size → Lies X wr T vt)
    (ha : s.a.length + size T ≤ 4096) (hv : s.v.length + size T ≤ 900000) {c e : Int} {s' : S} (hR : putT m T s = (c, e, s')) :
    Calls Try.prog 19 #[.pointer (some ⟨p, 0, none⟩), .pointer (some ⟨q, 0, none⟩), vt, .map (some mb)] wr fun e' w' => e' = .returned (.tuple #[.int .u64 c, .int .i64 e]) ∧ Mine W (Tim (PB p q mb m s') C) w' := by
  obtain ⟨N, hN, h2, h3⟩ := hm
  have hlt := ((frHB.tim (frPO.tim frV)).tim fC).lt hN
  have hbb : Below w0.heap.size w0 wr := (kp.ba w0 R).trans (hb.mono (Nat.le_succ _))
  have hN' := ((frHB.tim (frPO.tim frV)).tim fC).below hN hbb
  have hl := ht N (fun hn => by have := hlt _ hn; omega)
  have hm' : Mine W (Tim (PB p q mb m s) C) wr := ⟨N, hN', h2.trans (hbb.mono h2.size), h3⟩
  obtain ⟨K, M, hK, hM, d, ee⟩ := hN'
  refine (pPut_any T vt hK (hl.off fun k _ hk => (ee k).2 (Or.inl hk)) ha hv _ hR.symm).mono fun e' w' ⟨he, nn⟩ => ⟨he, ?_⟩
  obtain ⟨K', a', k, s1⟩ := s7.tim1 fC hM d ee nn
  have hb9 := hm'.bel
  exact ⟨K', a', hb9.trans (k.to_below h3 hb9.size), fun j hj => (s1 j hj).elim (h3 j) (Nat.le_trans hb9.size)⟩
end
def R2 (k1 : Int) (n1 : ByteArray) (i1 : Int) (k2 : Int) (n2 : ByteArray) (i2 : Int) : Obj := .cells #[.int .i64 k1, .string n1, .int .i64 i1, .int .u64 0, .int .u64 0, .slice none 0 0, .int .i64 k2, .string n2, .int .i64 i2, .int .u64 0, .int .u64 0, .slice none 0 0] 36 (0, 0)
theorem lies_2 {X : Nat → Prop} (w0 : World) {w2 : World} (hX : ¬ X w0.heap.size) {k1 : Int} {n1 : ByteArray} {i1 : Int} {k2 : Int} {n2 : ByteArray} {i2 : Int} {T1 T2 : Tm} (hb : Below (w0.heap.size + 1) (w0.alloc (R2 k1 n1 i1 k2 n2 i2)) w2)
    (h1 : Lies X w0 T1 (.agg #[.int .i64 k1, .string n1, .int .i64 i1, .int .u64 0, .int .u64 0, .slice none 0 0])) (h2 : Lies X w0 T2 (.agg #[.int .i64 k2, .string n2, .int .i64 i2, .int .u64 0, .int .u64 0, .slice none 0 0])) :
    Lies X w2 (comp ⟨#[102]⟩ [T1, T2]) (.agg #[.int .i64 5, .string ⟨#[102]⟩, .int .i64 0, .int .u64 0, .int .u64 0, .slice (some ⟨w0.heap.size, 0, none⟩) 2 2]) := by
  have hrow := s7.row_newX w0 #[.int .i64 k1, .string n1, .int .i64 i1, .int .u64 0, .int .u64 0, .slice none 0 0, .int .i64 k2, .string n2, .int .i64 i2, .int .u64 0, .int .u64 0, .slice none 0 0] [T1, T2] hX (fun m hm => by
    match m, hm with
    | 0, _ => exact ⟨_, _, _, _, _, _, rfl, rfl, rfl, rfl, rfl, rfl, h1⟩
    | 1, _ => exact ⟨_, _, _, _, _, _, rfl, rfl, rfl, rfl, rfl, rfl, h2⟩
    | m + 2, hm => exact absurd hm (by simp))
  exact awk.comp_lies (n := ⟨#[102]⟩) (c := 2) (by decide) (by simp) (by simp [maxLen]) (hrow.below (by rw [kp.alloc_size]; exact hb))
def t1 : Tm := comp ⟨#[102]⟩ [var 0, atom ⟨#[98]⟩]
def t2 : Tm := comp ⟨#[102]⟩ [atom ⟨#[97]⟩, var 1]
def t3 : Tm := comp ⟨#[102]⟩ [atom ⟨#[97]⟩, atom ⟨#[98]⟩]
def aw : List ByteArray := l0 ++ [⟨#[102]⟩] ++ [⟨#[98]⟩] ++ [⟨#[97]⟩]
def h1 : List Int := [jn 6 (2 * 256 + 2), 8, jn 2 3]
def h2 : List Int := [jn 6 (2 * 256 + 2), 8, jn 2 3, jn 6 (2 * 256 + 2), jn 2 4, 40]
def h3 : List Int := [jn 6 (2 * 256 + 2), jn 2 4, jn 2 3, jn 6 (2 * 256 + 2), jn 2 4, jn 2 3]
theorem put1 : putT 50 t1 ⟨[], l0, []⟩ = (1, 0, ⟨h1, l0 ++ [⟨#[102]⟩] ++ [⟨#[98]⟩], [(0, 8)]⟩) := by rfl
theorem put2 : putT 50 t2 ⟨h1, l0 ++ [⟨#[102]⟩] ++ [⟨#[98]⟩], [(0, 8)]⟩ = (25, 0, ⟨h2, aw, [(0, 8), (1, 40)]⟩) := by rfl
theorem uni12 : (uniT h2 [] 1 25).is = true ∧ (uniT h2 [] 1 25).e = 0 ∧ (uniT h2 [] 1 25).l = h3 := ⟨by kernel_rfl, by kernel_rfl, by kernel_rfl⟩
theorem get3 : ∃ g, getT h3 aw [] 1 = (t3, g) ∧ g.e = 0 := ⟨_, rfl, rfl⟩
end Go.Proofs.Ythableojkjhicaa.un
