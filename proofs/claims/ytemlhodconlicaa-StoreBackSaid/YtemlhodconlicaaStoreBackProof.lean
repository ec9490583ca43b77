/- The law StoreBack holds: for every input its Go function returns true and leaves its arguments as they were. No condition beyond the row's own. -/
import Derived.Test.YtemlhodconlicaaRows
import Derived.WalkKit
import Derived.ProofKit
import Derived.OpenShut
import Derived.SizedLaws
import Derived.Test.YtemlhodconlicaaSLG
import Derived.Test.YtemlhodconlicaaTOpen
import Derived.Test.YtemlhodconlicaaRMay
import Derived.Deep.RegionHeld3
namespace Go.Proofs.Ytemlhodconlicaa.storeBack
open Go.ChangeShapes Go.WideShapes Go.ChangeAt Go.RowKit
open Go.ChangeMaps (open_string)
open Go.Proofs.Ytemlhodconlicaa.hp Go.Proofs.Ytemlhodconlicaa.cel Go.Proofs.Ytemlhodconlicaa.kp Go.Proofs.Ytemlhodconlicaa.ob Go.Proofs.Ytemlhodconlicaa.tm Go.Proofs.Ytemlhodconlicaa.lie Go.Proofs.Ytemlhodconlicaa.s7 Go.Proofs.Ytemlhodconlicaa.ppt Go.Proofs.Ytemlhodconlicaa.top Go.Proofs.Ytemlhodconlicaa.sl Go.Proofs.Ytemlhodconlicaa.lgs Go.Proofs.Ytemlhodconlicaa.rmy Go.Proofs.Ytemlhodconlicaa.cur Go.Proofs.Ytemlhodconlicaa.pm Go.Proofs.Ytemlhodconlicaa.rws Go.Proofs.Ytemlhodconlicaa.rva Go.Proofs.Ytemlhodconlicaa.ren Go.Proofs.Ytemlhodconlicaa.vrs Go.Proofs.Ytemlhodconlicaa.pla Go.Proofs.Ytemlhodconlicaa.rsm Go.Proofs.Ytemlhodconlicaa.rrn Go.Proofs.Ytemlhodconlicaa.rvs
open Go.Proofs.Ytemlhodconlicaa.rpt (putT HB frHB VO frV VM)
open Go.Proofs.Ytemlhodconlicaa.rgt (VG frG VI)
open Go.Proofs.Ytemlhodconlicaa.atm (l0 nv ne nx)
open Go.Proofs.Ytemlhodconlicaa.pgt (getT GO frGO OT frOT SC6 nv6 VOK)
set_option linter.unusedVariables false
theorem own : ownKnob Try.prog.godebug = none := by kernel_rfl
theorem laidOut : laidOutB Try.prog = true := by kernel_rfl
mutual
/-- the names of a term -/
def nms : Tm → List ByteArray
  | .mk k n i re im l => if k = 2 then [n] else if k = 3 then [] else if k = 4 then [] else if k = 1 then [] else n :: nmsL l
def nmsL : List Tm → List ByteArray
  | [] => []
  | t :: r => nms t ++ nmsL r
end
theorem nx_in {a : List ByteArray} {n : ByteArray} (h : n ∈ a) : nx a n = a := by
  unfold atm.nx; split
  · rfl
  · rfl
theorem putL_nms (m : Int) : ∀ (l : List Tm), (∀ x ∈ l, ∀ own s, (∀ n ∈ nms x, n ∈ s.a) → (put m x own s).2.2.a = s.a) → ∀ p s, (∀ n ∈ nmsL l, n ∈ s.a) → (putL m l p s).2.a = s.a
  | [], _, p, s, _ => by rw [putL]
  | t :: r, hx, p, s, h => by
    rw [putL]
    have h1 := hx t (by simp) p s (fun n hn => h n (by rw [nmsL]; simp [hn]))
    generalize put m t p s = q at *
    obtain ⟨c, e, s'⟩ := q
    dsimp only at h1 ⊢
    split
    · have := putL_nms m r (fun x h => hx x (by simp [h])) (p + 1) ⟨s'.h.set p c, s'.a, s'.v⟩ (fun n hn => by show n ∈ s'.a; rw [h1]; exact h n (by rw [nmsL]; simp [hn]))
      rw [this]; exact h1
    · exact h1
theorem put_nms (m : Int) (t : Tm) : ∀ own s, (∀ n ∈ nms t, n ∈ s.a) → (put m t own s).2.2.a = s.a := by
  induction t using Tm.ind with
  | h k n i re im l ih =>
    intro own s hs
    rw [nms] at hs
    rw [put]
    by_cases k2 : k = 2
    · rw [if_pos k2] at hs ⊢
      have := nx_in (hs n (by simp))
      split
      · exact this
      · rfl
    rw [if_neg k2] at hs ⊢
    by_cases k3 : k = 3
    · rw [if_pos k3]; split
      · rfl
      · split <;> rfl
    rw [if_neg k3] at hs ⊢
    by_cases k4 : k = 4
    · rw [if_pos k4]; split
      · split <;> rfl
      · rfl
    rw [if_neg k4] at hs ⊢
    by_cases k1 : k = 1
    · rw [if_pos k1]; split
      · rfl
      · split
        · split <;> rfl
        · rfl
    rw [if_neg k1] at hs ⊢
    have hnx := nx_in (hs n (by simp))
    rw [hnx]
    split
    · split
      · generalize more m l.length (s.h ++ [jn 6 (nv s.a n * 256 + l.length)]) = eh
        obtain ⟨e, h⟩ := eh
        dsimp only
        split
        · have h2 := putL_nms m l ih (s.h.length + 1) ⟨h, s.a, s.v⟩ (fun x hx => hs x (by simp [hx]))
          generalize putL m l (s.h.length + 1) ⟨h, s.a, s.v⟩ = es at *
          obtain ⟨e2, s2⟩ := es
          dsimp only at h2 ⊢
          split <;> exact h2
        · rfl
      · rfl
    · rfl
theorem rep_nms {O : Nat → Prop} {s : S} (t : Tm) : ∀ c, Rep O s t c → ∀ n ∈ nms t, n ∈ s.a := by
  induction t using Tm.ind with
  | h k n i re im l ih =>
    intro c h
    rw [Rep] at h
    rw [nms]
    by_cases k2 : k = 2
    · rw [if_pos k2] at h ⊢
      obtain ⟨j, _, _, hn⟩ := h
      intro x hx; simp at hx; subst hx
      exact List.mem_of_getElem? hn
    rw [if_neg k2] at h ⊢
    by_cases k3 : k = 3
    · rw [if_pos k3]; intro x hx; simp at hx
    rw [if_neg k3] at h ⊢
    by_cases k4 : k = 4
    · rw [if_pos k4]; intro x hx; simp at hx
    rw [if_neg k4] at h ⊢
    by_cases k1 : k = 1
    · rw [if_pos k1]; intro x hx; simp at hx
    rw [if_neg k1] at h ⊢
    obtain ⟨p, j, _, _, _, _, _, hn, hl⟩ := h
    have key : ∀ (l : List Tm), (∀ x ∈ l, ∀ c, Rep O s x c → ∀ n ∈ nms x, n ∈ s.a) → ∀ p, RepL O s l p → ∀ n ∈ nmsL l, n ∈ s.a := by
      intro l
      induction l with
      | nil => intro _ p _ n hn; simp [nmsL] at hn
      | cons t r ihr =>
        intro hh p hr n hn
        rw [RepL] at hr
        rw [nmsL] at hn
        rcases List.mem_append.1 hn with hn | hn
        · exact hh t (by simp) _ hr.2.2.1 n hn
        · exact ihr (fun x hx => hh x (by simp [hx])) _ hr.2.2.2 n hn
    intro x hx
    rcases List.mem_cons.1 hx with rfl | hx
    · exact List.mem_of_getElem? hn
    · exact key l ih _ hl x hx
theorem fold_old : ∀ (l acc : List Int), (∀ x ∈ l, x ∈ acc) → l.foldl addv acc = acc
  | [], _, _ => rfl
  | x :: l, acc, h => by
    simp only [List.foldl_cons]
    have : addv acc x = acc := by unfold addv; rw [if_pos (h x (by simp))]
    rw [this]
    exact fold_old l acc fun y hy => h y (by simp [hy])
/-- the term laid once, and twice with its variables; told -/
theorem maths {T : Tm} (hg : good T = true) (hi : ints T) :
    ∃ c s1 p s2 q s3 g1 gx gy, putT 1048576 T ⟨[], l0, []⟩ = (c, 0, s1) ∧ putT 1048576 T ⟨s1.h, s1.a, []⟩ = (p, 0, s2) ∧ putT 1048576 T s2 = (q, 0, s3) ∧
      getT s1.h s1.a [] c = (rn T, g1) ∧ g1.e = 0 ∧ getT s3.h s3.a [] p = (rn T, gx) ∧ gx.e = 0 ∧ getT s3.h s3.a gx.v q = (rn T, gy) ∧ gy.e = 0 ∧ VOK gx.v ∧ gx.v.length ≤ 900000 ∧
      s2.v.length = (vars T).length ∧ s3.v.length = (vars T).length ∧ gy.v.length = (vars T).length ∧ (vars T).length ≤ 2000 ∧ W64 c ∧ W64 p ∧ W64 q ∧ s1.a.length + size T ≤ 4096 ∧ s1.a.length ≤ 4096 ∧ s2.a.length + size T ≤ 4096 ∧ s2.v.length + size T ≤ 900000 ∧ s3.a.length ≤ 4096 ∧ Sml s1.a ∧ Sml s3.a ∧ s1.h.length ≤ 1048576 ∧ s3.h.length ≤ 1048576 := by
  have hsz : size T ≤ 2000 := by simp only [good, Bool.and_eq_true, decide_eq_true_eq] at hg; exact hg.1.1
  have hl0 : l0.length = 2 := rfl
  obtain ⟨c, s1, e1, l1, x1, k1, h1, a1, m1⟩ := put_laid ⟨[], l0, []⟩ hg (Vs.none _ _) (by simp; omega) (by show l0.length + _ ≤ _; omega)
  simp only [List.length_nil] at h1
  simp only [hl0] at a1
  have sm1 : Sml s1.a := m1 (by intro x hx; simp [l0] at hx; rcases hx with rfl | rfl <;> decide)
  have n1 : ∀ n ∈ nms T, n ∈ s1.a := rep_nms T c l1.rep
  obtain ⟨p, s2, e2, l2, x2, k2, h2, a2, m2⟩ := put_laid ⟨s1.h, s1.a, []⟩ hg (Vs.none _ _) (by show (s1.h.length : Int) + _ ≤ _; omega) (by show s1.a.length + _ ≤ _; omega)
  dsimp only at h2 a2
  have h0 : may T = 0 := (may_iff T).2 hg
  have ea2 : s2.a = s1.a := by
    have := put_nms 1048576 T (-1) ⟨s1.h, s1.a, []⟩ n1
    have e : putT 1048576 T ⟨s1.h, s1.a, []⟩ = put 1048576 T (-1) ⟨s1.h, s1.a, []⟩ := by unfold rpt.putT; rw [if_pos h0]
    rw [← e, e2] at this; exact this
  obtain ⟨q, s3, e3, l3, x3, k3, h3, a3, m3⟩ := put_laid s2 hg l2.vs (by omega) (by rw [ea2]; omega)
  have hv : vars T = (occ T).foldl addv [] := by unfold vars; rw [if_pos hg]
  have kv2 : keys s2.v = vars T := by rw [k2, hv]; rfl
  have kv3 : keys s3.v = vars T := by rw [k3, kv2]; exact fold_old _ _ fun x hx => (mem_vars hg x).2 hx
  have lp : Laid s3 T p := l2.ext x3 l3.vs
  have hh : s3.h.length ≤ 1048576 := by omega
  have ha : s3.a.length ≤ 4096 := by rw [ea2] at a3; omega
  obtain ⟨g1, t1, z1⟩ := getT_rn l1 hg hi (by omega) (by omega)
  obtain ⟨gx, tx, zx, nx_, kx⟩ := getT_laid lp hg hi hh ha [] Num.nil
  obtain ⟨gy, ty, zy, ny, ky⟩ := getT_laid l3 hg hi hh ha gx.v nx_
  have kxy : keys gy.v = keys gx.v := by
    rw [ky, kx]
    exact fold_old _ _ fun x hx => fold_has (Or.inl hx)
  have hrx : told s3 (keys gx.v) T = rn T := by rw [kx]; exact told_rn lp hg
  have hry : told s3 (keys gy.v) T = rn T := by rw [kxy]; exact hrx
  rw [hrx] at tx
  rw [hry] at ty
  have hocc := rep_occ T q (good_sound hg) l3.rep
  have hinj : Inj (pl s3) fun n => n ∈ occ T := pl_inj l3.vs hocc
  have hkx : keys gx.v = (vars T).map (pl s3) := by
    rw [kx, hv]
    exact fold_map hinj (occ T) [] (fun x hx => hx) (by simp)
  have hln : (vars T).length ≤ 2000 := (vs_facts hg).1
  have lk : ∀ v : List (Int × Int), (keys v).length = v.length := fun v => by simp [keys]
  have lx : gx.v.length = (vars T).length := by rw [← lk, hkx]; simp
  have ly : gy.v.length = (vars T).length := by rw [← lk, kxy, hkx]; simp
  have l2v : s2.v.length = (vars T).length := by rw [← lk, kv2]
  have l3v : s3.v.length = (vars T).length := by rw [← lk, kv3]
  exact ⟨c, s1, p, s2, q, s3, g1, gx, gy, e1, e2, e3, t1, z1, tx, zx, ty, zy, num_vok nx_, by omega, l2v, l3v, ly, hln, rep_w l1 (by omega), rep_w lp hh, rep_w l3 hh, by omega, by omega, by rw [ea2]; omega, by omega, ha, sm1, m3 (m2 sm1), by omega, hh⟩
/-- the state in which the first term is told -/
def P9 (W : World) (p q : Nat) (h : List Int) (a : List ByteArray) (T' : Tm) (bu : Nat) (k : Int) (n : ByteArray) (i re im : Int) (s : Value) (wr : World) : Prop := Mine W (Tim (HP p q h 1048576 a) (Tim Nob (OX T' bu k n i re im s))) wr
/-- the term's box -/
def BXC (W : World) (b : Nat) (v0 v1 v2 v3 v4 v5 : Value) : Prop := ∀ wr, Below W.heap.size W wr → wr.cell? ⟨b, 0, none⟩ = some v0 ∧ wr.cell? ⟨b, 1, none⟩ = some v1 ∧ wr.cell? ⟨b, 2, none⟩ = some v2 ∧ wr.cell? ⟨b, 3, none⟩ = some v3 ∧ wr.cell? ⟨b, 4, none⟩ = some v4 ∧ wr.cell? ⟨b, 5, none⟩ = some v5
theorem BXC.mk0 (w : World) (v0 v1 v2 v3 v4 v5 : Value) : BXC (w.alloc (.cells #[v0, v1, v2, v3, v4, v5] 41)) w.heap.size v0 v1 v2 v3 v4 v5 := fun wr hb => by
  have h := (hb.block w.heap.size (by rw [kp.alloc_size]; omega)).trans (kp.alloc_at w (.cells #[v0, v1, v2, v3, v4, v5] 41 (0, 0)))
  refine ⟨?_, ?_, ?_, ?_, ?_, ?_⟩ <;> simp [World.cell?, h]
section
variable {W wr w' : World} {p q bu b : Nat} {h : List Int} {a : List ByteArray} {T T' : Tm} {k i re im : Int} {n : ByteArray} {s v0 v1 v2 v3 v4 v5 vt : Value}
theorem P9.below (x : P9 W p q h a T' bu k n i re im s wr) (hb : Below wr.heap.size wr w') : P9 W p q h a T' bu k n i re im s w' := Mine.below (frHP.tim (Fr.nob.tim frOX)) x hb
theorem P9.drew (x : P9 W p q h a T' bu k n i re im s wr) : P9 W p q h a T' bu k n i re im s wr.drew := x.below (kp.bdr wr)
theorem P9.ox (x : P9 W p q h a T' bu k n i re im s wr) : ∃ N, OX T' bu k n i re im s wr N := by
  obtain ⟨N, ⟨_, _, _, ⟨_, _, _, h2, _⟩, _⟩, _⟩ := x
  exact ⟨_, h2⟩
theorem P9.all (hx : BXC W b v0 v1 v2 v3 v4 v5) (x : P9 W p q h a T' bu k n i re im s wr) : wr.cell? ⟨b, 0, none⟩ = some v0 ∧ wr.cell? ⟨b, 1, none⟩ = some v1 ∧ wr.cell? ⟨b, 2, none⟩ = some v2 ∧ wr.cell? ⟨b, 3, none⟩ = some v3 ∧ wr.cell? ⟨b, 4, none⟩ = some v4 ∧ wr.cell? ⟨b, 5, none⟩ = some v5 ∧
    wr.cell? ⟨bu, 0, none⟩ = some (.int .i64 k) ∧ wr.cell? ⟨bu, 1, none⟩ = some (.string n) ∧ wr.cell? ⟨bu, 2, none⟩ = some (.int .i64 i) ∧ wr.cell? ⟨bu, 3, none⟩ = some (.int .u64 re) ∧ wr.cell? ⟨bu, 4, none⟩ = some (.int .u64 im) ∧ wr.cell? ⟨bu, 5, none⟩ = some s ∧ P9 W p q h a T' bu k n i re im s wr := by
  obtain ⟨a0, a1, a2, a3, a4, a5⟩ := hx wr (Mine.bel x)
  obtain ⟨N, o⟩ := x.ox
  obtain ⟨⟨b0, b1, b2, b3, b4, b5⟩, _⟩ := o.six
  exact ⟨a0, a1, a2, a3, a4, a5, b0, b1, b2, b3, b4, b5, x⟩
theorem ren9 (x : P9 W p q h a T' bu k n i re im s wr) (hl : Lies No W T vt) (hg : good T = true) : Calls Try.prog 31 #[vt] wr fun e w' => ∃ k' n' i' re' im' aa l c, e = .returned (.agg #[.int .i64 k', .string n', .int .i64 i', .int .u64 re', .int .u64 im', .slice aa l c]) ∧ P9 W p q h a T' bu k n i re im s w' ∧ Lies No w' (rn T) (.agg #[.int .i64 k', .string n', .int .i64 i', .int .u64 re', .int .u64 im', .slice aa l c]) :=
  (rren_good T vt wr (hl.below (Mine.bel x)) hg).mono fun e w' ⟨k, n, i, re, im, aa, l, c, he, hb, hq⟩ => ⟨k, n, i, re, im, aa, l, c, he, x.below hb, hq.off (Y := No) fun _ _ h => h.elim⟩
theorem same9 (x : P9 W p q h a T' bu k n i re im s wr) {A B : Tm} {va vb : Value} (ha : Lies No wr A va) (hb : Lies No wr B vb) (he : sameB A B = true) : Calls Try.prog 30 #[va, vb] wr fun e w' => e = .returned (.bool true) ∧ P9 W p q h a T' bu k n i re im s w' :=
  (rsame_any A B va vb wr ha hb).mono fun e w' ⟨e1, b1⟩ => ⟨by rw [e1, he], x.below b1⟩
theorem len9 (x : P9 W p q h a T' bu k n i re im s wr) : Calls Try.prog 29 #[.pointer (some ⟨p, 0, none⟩)] wr fun e w' => e = .returned (.int .i64 h.length) ∧ P9 W p q h a T' bu k n i re im s w' :=
  (mLen x).mono fun e w' ⟨e1, b1⟩ => ⟨e1, b1 ▸ x⟩
theorem snd9 (x : P9 W p q h a T' bu k n i re im s wr) {c : Int} (hc : W64 c) (ha : a.length ≤ 4096) (ha2 : Sml a) (hl : h.length ≤ 1048576) {U : Tm} {g : G} (hR : getT h a [] c = (U, g)) (h0 : g.e = 0) : Calls Try.prog 25 #[.pointer (some ⟨p, 0, none⟩), .pointer (some ⟨q, 0, none⟩), .int .u64 c] wr fun e w' => e = .returned (.int .i64 0) ∧ P9 W p q h a T' bu k n i re im s w' :=
  (mSound (Fr.nob.tim frOX) hc ha ha2 hl x hR).mono fun e w' ⟨e1, b1⟩ => ⟨by rw [e1, h0], b1⟩
/-- heap, names, the map of cells beside -/
theorem PB.split {m : Int} {mb : Nat} {C : Ob} {s : S} (hm : Mine W (Tim (PB p q mb m s) C) wr) : Mine W (Tim (HP p q s.h m s.a) (Tim C (VO mb s.v))) wr :=
  hm.imp fun N t => Tim.right_ (Tim.rot (t.map1 (A' := Tim (HP p q s.h m s.a) (VO mb s.v)) fun K t => Tim.left_ t))
theorem vo_of {p q mb : Nat} {h : List Int} {m : Int} {a : List ByteArray} {C : Ob} {v : List (Int × Int)} (x : Mine W (Tim (HP p q h m a) (Tim C (VO mb v))) wr) : ∃ N, VO mb v wr N := by
  obtain ⟨N, ⟨_, _, _, ⟨_, _, _, h2, _⟩, _⟩, _⟩ := x
  exact ⟨_, h2⟩
theorem two_ox {A C : Ob} {T1 T2 : Tm} {b1 b2 : Nat} {k1 i1 re1 im1 k2 i2 re2 im2 : Int} {n1 n2 : ByteArray} {s1 s2 : Value} (x : Mine W (Tim A (Tim (Tim C (OX T1 b1 k1 n1 i1 re1 im1 s1)) (OX T2 b2 k2 n2 i2 re2 im2 s2))) wr) : ∃ N N', OX T1 b1 k1 n1 i1 re1 im1 s1 wr N ∧ OX T2 b2 k2 n2 i2 re2 im2 s2 wr N' := by
  obtain ⟨N, ⟨_, _, _, ⟨_, _, ⟨_, _, _, h1, _⟩, h2, _⟩, _⟩, _⟩ := x
  exact ⟨_, _, h1, h2⟩
theorem vg_of {p q mb : Nat} {h : List Int} {m : Int} {a : List ByteArray} {C : Ob} {v : List (Int × Int)} (x : Mine W (Tim (GO p q mb h m a v) C) wr) : ∃ N, VG mb v wr N := by
  obtain ⟨N, ⟨_, _, ⟨_, _, _, ⟨_, _, _, h2, _⟩, _⟩, _⟩, _⟩ := x
  exact ⟨_, h2⟩
theorem vo_of2 {A B C D : Ob} {mb : Nat} {v : List (Int × Int)} (x : Mine W (Tim A (Tim (Tim (Tim B (VO mb v)) C) D)) wr) : ∃ N, VO mb v wr N := by
  obtain ⟨N, ⟨_, _, _, ⟨_, _, ⟨_, _, ⟨_, _, _, h2, _⟩, _⟩, _⟩, _⟩, _⟩ := x
  exact ⟨_, h2⟩
theorem len_cells {N : Nat → Prop} {mb : Nat} {v : List (Int × Int)} (hv : VO mb v wr N) {K : Nat} (hK : v.length = K) (ty : TypeId) : (Builtin.len_ #[54] ty #[.map (some mb)]).run Try.prog wr = .ok (.int .i64 (K : Nat)) wr := by
  obtain ⟨⟨D, hD, _, hz⟩, _⟩ := hv
  rw [← hK, ← hz]; exact hD.len Try.underlying54 ty
theorem len_nums {N : Nat → Prop} {mb : Nat} {v : List (Int × Int)} (hv : VG mb v wr N) {K : Nat} (hK : v.length = K) (ty : TypeId) : (Builtin.len_ #[57] ty #[.map (some mb)]).run Try.prog wr = .ok (.int .i64 (K : Nat)) wr := by
  obtain ⟨⟨D, hD, _, hz⟩, _⟩ := hv
  rw [← hK, ← hz]; exact hD.len Try.underlying57 ty
end
theorem gsz {T : Tm} (g : good T = true) : size T ≤ 2000 := by simp only [good, Bool.and_eq_true, decide_eq_true_eq] at g; exact g.1.1
theorem same_rn {A : Tm} (g : good A = true) : sameB (rn A) (rn A) = true := by rw [sameB_refl]; exact good_rn g
set_option maxHeartbeats 8000000 in
set_option maxRecDepth 100000 in
theorem walk (w : World) (v0 : Value) (t0 : Tm) (x0 : Lies No w t0 v0) :
    Calls Try.prog 4 #[v0] w fun e w' => e = .returned (.bool true) ∧ Below w.heap.size w w' := by
  have HT := Lib.hid x0
  obtain ⟨T, hT⟩ : ∃ T, T = t0 := ⟨_, rfl⟩
  rw [← hT] at HT
  have HI := Lib.hid (lies_ints T _ HT.out)
  obtain ⟨k, n, i, re, im, l⟩ := t0
  rw [Lies] at x0
  obtain ⟨aa, ca, rfl, hf, hr⟩ := x0
  clear hf hr hT
  obtain ⟨W, hW⟩ : ∃ W, W = w.alloc (.cells #[.int .i64 k, .string n, .int .i64 i, .int .u64 re, .int .u64 im, .slice aa l.length ca] 41) := ⟨_, rfl⟩
  have BX := Lib.hid (show BXC W w.heap.size (.int .i64 k) (.string n) (.int .i64 i) (.int .u64 re) (.int .u64 im) (.slice aa l.length ca) by rw [hW]; exact BXC.mk0 _ _ _ _ _ _ _)
  have WB := Lib.hid (show Below w.heap.size w W by rw [hW]; exact kp.ba _ _)
  have HW := Lib.hid hW
  have HTW := Lib.hid (HT.out.below WB.out)
  clear hW
  go_enter Try.func4, Try.ntmps4
  go_upto_region 1 with fail
  rw [← HW.out]
  obtain ⟨e0, e1, e2, e3, e4, e5⟩ := BX.out W (Below.refl _ _)
  go_wp2_with fail
  refine (Light_any [T] (some ⟨W.heap.size, 0, none⟩) 1 _ (one_row W rfl HTW.out) (by simp)).mono ?_; rintro e w3 ⟨bl, rfl, hsz, hb⟩
  have S3 := Lib.hid ((kp.ba W _).trans (hb.mono (kp.ba W _).size))
  clear hb e0 e1 e2 e3 e4 e5 hsz
  obtain ⟨e0, e1, e2, e3, e4, e5⟩ := BX.out _ S3.out
  cases bl with
  | false =>
    go_wp2_with fail
    refine (s7.awake_any _).mono ?_; rintro e w4 ⟨rfl, hb⟩
    have S4 := Lib.hid (WB.out.trans ((S3.out.trans (hb.mono S3.out.size)).mono WB.out.size))
    clear hb
    go_wp2_with fail
    go_ret
    exact ⟨rfl, S4.out⟩
  | true =>
    have hma := rMay_any T _ w3 (HTW.out.below S3.out)
    by_cases ga : may T = 0
    · rw [ga] at hma
      have GA := Lib.hid ((may_iff T).1 ga)
      obtain ⟨c, s1, p', s2, q', s3, g1, gx, gy, p1, p2, p3, r1, z1, r2, z2, r3, z3, vok, vl, k2, k3, ky, kl, wc, wp, wq, b1, b1', b2, b2', b3, sm1, sm3, h1, h3⟩ := maths GA.out HI.out
      have HP1 := Lib.hid (And.intro p1 (And.intro p2 p3))
      have HR := Lib.hid (And.intro r1 (And.intro z1 (And.intro r2 (And.intro z2 (And.intro r3 z3)))))
      have HV := Lib.hid (And.intro vok (And.intro vl (And.intro k2 (And.intro k3 (And.intro ky kl)))))
      have HC := Lib.hid (And.intro wc (And.intro wp wq))
      have HB1 := Lib.hid (And.intro b1 (And.intro b1' (And.intro b2 (And.intro b2' (And.intro b3 (And.intro sm1 (And.intro sm3 (And.intro h1 h3))))))))
      clear ga p1 p2 p3 r1 z1 r2 z2 r3 z3 vok vl k2 k3 ky kl wc wp wq b1 b1' b2 b2' b3 sm1 sm3 h1 h3
      go_wp2_with fail
      refine hma.mono ?_; rintro e w4 ⟨rfl, hb⟩
      have S4 := Lib.hid (S3.out.trans (hb.mono S3.out.size))
      clear hb hma e0 e1 e2 e3 e4 e5
      go_wp2_with fail
      refine (new_any 1048576 w4).mono ?_; rintro e w5 ⟨rfl, made⟩
      rw [show max 0 (min (1048576 : Int) 1048576) = 1048576 by decide] at made
      have M5 := Lib.hid made
      clear made
      go_wp2_with fail
      refine (atm.new_any w5).mono ?_; rintro e w6 ⟨rfl, made⟩
      have M6 := Lib.hid (Mine.nob (HP.mk_ M5.out made))
      clear made M5
      obtain ⟨p, hp⟩ : ∃ p, p = w4.heap.size := ⟨_, rfl⟩
      obtain ⟨q, hq⟩ : ∃ q, q = w5.heap.size := ⟨_, rfl⟩
      rw [← hp, ← hq] at M6 ⊢
      clear hp hq
      have M6 : Hid (Mine W (Tim (HP p q [] 1048576 l0) Nob) w6) := by
        obtain ⟨N, x, b, s⟩ := M6.out
        exact Lib.hid ⟨N, x, S4.out.trans (b.mono S4.out.size), fun k hk => Nat.le_trans S4.out.size (s k hk)⟩
      obtain ⟨e0, e1, e2, e3, e4, e5⟩ := BX.out _ (Mine.bel M6.out)
      have hcall := mPut_new Fr.nob M6.out HTW.out (by have := gsz GA.out; simp [l0]; omega) HP1.out.1
      go_wp2_with fail
      refine hcall.mono ?_; rintro e w8 ⟨rfl, m8⟩
      have M8 := Lib.hid m8
      clear hcall m8 e0 e1 e2 e3 e4 e5 M6
      have hl := mLen M8.out
      go_wp2_with fail
      refine hl.mono ?_; rintro e w' ⟨rfl, rfl⟩
      clear hl
      have hcall := mGet_new Fr.nob HC.out.1 HB1.out.2.1 HB1.out.2.2.2.2.2.1 HB1.out.2.2.2.2.2.2.2.1 M8.out HR.out.1 HR.out.2.1
      go_wp2_with fail
      refine hcall.mono ?_; rintro e w10 ⟨k1, nm1, i1, re1, im1, aa1, sl1, sc1, rfl, m⟩
      obtain ⟨w11, hw11⟩ : ∃ w11, w11 = w10.alloc (.cells #[.int .i64 k1, .string nm1, .int .i64 i1, .int .u64 re1, .int .u64 im1, .slice aa1 sl1 sc1] 41) := ⟨_, rfl⟩
      obtain ⟨bu, hb1⟩ : ∃ b1, b1 = w10.heap.size := ⟨_, rfl⟩
      have HW11 := Lib.hid (And.intro hw11 hb1)
      rw [← hw11, ← hb1] at m
      have P11 := Lib.hid (show P9 W p q s1.h s1.a (rn T) bu k1 nm1 i1 re1 im1 (.slice aa1 sl1 sc1) w11 from m)
      clear hcall m hw11 hb1 M8
      go_upto_region 9 with fail
      rw [← HW11.out.1, ← HW11.out.2]
      obtain ⟨h1, hh1⟩ : ∃ h1, h1 = s1.h := ⟨_, rfl⟩
      have hst := P11.out
      obtain ⟨e0, e1, e2, e3, e4, e5, f0, f1, f2, f3, f4, f5, _⟩ := P9.all BX.out hst
      go_region_held3 (fun w' => w'.cell? ⟨w.heap.size, 0, none⟩ = some (.int .i64 k) ∧ w'.cell? ⟨w.heap.size, 1, none⟩ = some (.string n) ∧ w'.cell? ⟨w.heap.size, 2, none⟩ = some (.int .i64 i) ∧ w'.cell? ⟨w.heap.size, 3, none⟩ = some (.int .u64 re) ∧ w'.cell? ⟨w.heap.size, 4, none⟩ = some (.int .u64 im) ∧ w'.cell? ⟨w.heap.size, 5, none⟩ = some (.slice aa l.length ca) ∧ w'.cell? ⟨bu, 0, none⟩ = some (.int .i64 k1) ∧ w'.cell? ⟨bu, 1, none⟩ = some (.string nm1) ∧ w'.cell? ⟨bu, 2, none⟩ = some (.int .i64 i1) ∧ w'.cell? ⟨bu, 3, none⟩ = some (.int .u64 re1) ∧ w'.cell? ⟨bu, 4, none⟩ = some (.int .u64 im1) ∧ w'.cell? ⟨bu, 5, none⟩ = some (.slice aa1 sl1 sc1) ∧ P9 W p q s1.h s1.a (rn T) bu k1 nm1 i1 re1 im1 (.slice aa1 sl1 sc1) w')
        (first | exact P9.all BX.out (by assumption) | exact P9.all BX.out (P9.drew (by assumption)) | go_keep)
        (first
        | (go_at_call 31; with_reducible refine (ren9 (by first | assumption | exact P9.drew (by assumption)) HTW.out GA.out).mono ?_; rintro e wN ⟨kqa, nqa, iqa, rqa, mqa, aqa, lqa, cqa, rfl, hst, hq⟩; have QA := Lib.hid hq; clear hq)
        | (go_at_call 30; refine (same9 (by first | assumption | exact P9.drew (by assumption)) (A := rn T) (B := rn T) ?_ ?_ (same_rn GA.out)).mono ?_; exact (OX.six (P9.ox (by first | assumption | exact P9.drew (by assumption))).choose_spec).2; (first | exact QA.out | exact QA.out.below (kp.bdr _)); rintro e wN ⟨rfl, hst⟩; clear QA)
        | (go_at_call 29; refine (len9 (by first | assumption | exact P9.drew (by assumption))).mono ?_; rintro e wN ⟨rfl, hst⟩)
        | (go_at_call 25; refine (snd9 (by first | assumption | exact P9.drew (by assumption)) HC.out.1 HB1.out.2.1 HB1.out.2.2.2.2.2.1 HB1.out.2.2.2.2.2.2.2.1 HR.out.1 HR.out.2.1).mono ?_; rintro e wN ⟨rfl, hst⟩))
      all_goals
        have M9 := Lib.hid (show Mine W (Tim (HP p q s1.h 1048576 s1.a) (Tim Nob (OX (rn T) bu k1 nm1 i1 re1 im1 (.slice aa1 sl1 sc1)))) wN from hst)
        clear hst e0 e1 e2 e3 e4 e5 f0 f1 f2 f3 f4 f5
        obtain ⟨mb, hmb⟩ : ∃ mb, mb = wN.heap.size := ⟨_, rfl⟩
        obtain ⟨w12, hw12⟩ : ∃ w12, w12 = wN.alloc (.map #[] 0) := ⟨_, rfl⟩
        have M12 := Lib.hid (show Mine W (Tim (PB p q mb 1048576 ⟨s1.h, s1.a, []⟩) (Tim Nob (OX (rn T) bu k1 nm1 i1 re1 im1 (.slice aa1 sl1 sc1)))) w12 by rw [hmb, hw12]; exact HP.map_ (Fr.nob.tim frOX) M9.out)
        have HW12 := Lib.hid (And.intro hmb hw12)
        have hmm := @run_makeMap Try.prog
        clear hmb hw12 M9
        go_upto_region 12 with fail
        rw [← HW12.out.1, ← HW12.out.2]
        clear hmm
        obtain ⟨e0, e1, e2, e3, e4, e5⟩ := BX.out _ (Mine.bel M12.out)
        have hcall := mPut_map (Fr.nob.tim frOX) M12.out HTW.out HB1.out.1 (by show ([] : List (Int × Int)).length + _ ≤ _; have := gsz GA.out; simp; omega) HP1.out.2.1
        go_wp2_with fail
        refine hcall.mono ?_; rintro e w13 ⟨rfl, m13⟩
        have M13 := Lib.hid m13
        clear hcall m13 e0 e1 e2 e3 e4 e5 M12
        obtain ⟨e0, e1, e2, e3, e4, e5⟩ := BX.out _ (Mine.bel M13.out)
        have hcall := mPut_map (Fr.nob.tim frOX) M13.out HTW.out HB1.out.2.2.1 HB1.out.2.2.2.1 HP1.out.2.2
        go_wp2_with fail
        refine hcall.mono ?_; rintro e w14 ⟨rfl, m14⟩
        have M14 := Lib.hid (PB.split m14)
        clear hcall m14 e0 e1 e2 e3 e4 e5 M13
        obtain ⟨K, hK⟩ : ∃ K, K = (vars T).length := ⟨_, rfl⟩
        have HV2 := Lib.hid HV.out
        rw [← hK] at HV2
        have hlen := fun ty => len_cells (vo_of M14.out).choose_spec HV2.out.2.2.2.1 ty
        obtain ⟨e0, e1, e2, e3, e4, e5⟩ := BX.out _ (Mine.bel M14.out)
        have hvars := rVars_any T _ w14 (HTW.out.below (Mine.bel M14.out))
        go_wp2_with fail
        refine hvars.mono ?_; rintro e w15 ⟨vv, rfl, hrow, hb⟩
        obtain ⟨va, vc, rfl⟩ := atm.shape hrow
        rw [← hK]
        have M15 := Lib.hid (Mine.below (frHP.tim ((Fr.nob.tim frOX).tim frV)) M14.out hb)
        clear hvars hb hrow e0 e1 e2 e3 e4 e5 hlen hK
        have hmm := @run_makeMap Try.prog
        obtain ⟨mw, hmw⟩ : ∃ mw, mw = w15.heap.size := ⟨_, rfl⟩
        obtain ⟨w16, hw16⟩ : ∃ w16, w16 = w15.alloc (.map #[] 0) := ⟨_, rfl⟩
        have M16 := Lib.hid (show Mine W (Tim (GO p q mw s3.h 1048576 s3.a []) (Tim (Tim Nob (OX (rn T) bu k1 nm1 i1 re1 im1 (.slice aa1 sl1 sc1))) (VO mb s3.v))) w16 by rw [hmw, hw16]; exact HP.go_ ((Fr.nob.tim frOX).tim frV) M15.out)
        have HW16 := Lib.hid (And.intro hmw hw16)
        clear hmw hw16 M15 M14
        go_upto_region 17 with fail
        rw [← HW16.out.1, ← HW16.out.2]
        clear hmm
        have hcall := mGet_map ((Fr.nob.tim frOX).tim frV) HC.out.2.1 HB1.out.2.2.2.2.1 HB1.out.2.2.2.2.2.2.1 HB1.out.2.2.2.2.2.2.2.2 VOK.nil (by simp) M16.out HR.out.2.2.1 HR.out.2.2.2.1
        go_wp2_with fail
        refine hcall.mono ?_; rintro e w17 ⟨k2, nm2, i2, re2, im2, aa2, sl2, sc2, rfl, m⟩
        obtain ⟨w18, hw18⟩ : ∃ w18, w18 = w17.alloc (.cells #[.int .i64 k2, .string nm2, .int .i64 i2, .int .u64 re2, .int .u64 im2, .slice aa2 sl2 sc2] 41) := ⟨_, rfl⟩
        obtain ⟨b2, hb2⟩ : ∃ b2, b2 = w17.heap.size := ⟨_, rfl⟩
        have HW18 := Lib.hid (And.intro hw18 hb2)
        rw [← hw18, ← hb2] at m
        have M18 := Lib.hid m
        clear hcall m hw18 hb2 M16 HW16
        go_upto_region 18 with fail
        rw [← HW18.out.1, ← HW18.out.2]
        have hcall := mGet_map (((Fr.nob.tim frOX).tim frV).tim frOX) HC.out.2.2 HB1.out.2.2.2.2.1 HB1.out.2.2.2.2.2.2.1 HB1.out.2.2.2.2.2.2.2.2 HV.out.1 HV.out.2.1 M18.out HR.out.2.2.2.2.1 HR.out.2.2.2.2.2
        go_wp2_with fail
        refine hcall.mono ?_; rintro e w19 ⟨k3, nm3, i3, re3, im3, aa3, sl3, sc3, rfl, m⟩
        obtain ⟨w20, hw20⟩ : ∃ w20, w20 = w19.alloc (.cells #[.int .i64 k3, .string nm3, .int .i64 i3, .int .u64 re3, .int .u64 im3, .slice aa3 sl3 sc3] 41) := ⟨_, rfl⟩
        obtain ⟨b3, hb3⟩ : ∃ b3, b3 = w19.heap.size := ⟨_, rfl⟩
        have HW20 := Lib.hid (And.intro hw20 hb3)
        rw [← hw20, ← hb3] at m
        have M20 := Lib.hid m
        clear hcall m hw20 hb3 M18 HW18
        go_upto_region 19 with fail
        rw [← HW20.out.1, ← HW20.out.2]
        obtain ⟨N2, N3, X2, X3⟩ := two_ox M20.out
        obtain ⟨⟨f0, f1, f2, f3, f4, f5⟩, la⟩ := X2.six
        obtain ⟨⟨g0, g1, g2, g3, g4, g5⟩, lb⟩ := X3.six
        have hsame := rsame_any _ _ _ _ w20 la lb
        rw [same_rn GA.out] at hsame
        clear X2 X3 la lb
        go_wp2_with fail
        refine hsame.mono ?_; rintro e w21 ⟨rfl, hb⟩
        have M21 := Lib.hid (Mine.below (frGO.tim (((((Fr.nob.tim frOX).tim frV).tim frOX)).tim frOX)) M20.out hb)
        have hlen1 := fun ty => len_nums (vg_of M21.out).choose_spec HV2.out.2.2.2.2.1 ty
        have hlen2 := fun ty => len_cells (vo_of2 M21.out).choose_spec HV2.out.2.2.2.1 ty
        clear hsame hb f0 f1 f2 f3 f4 f5 g0 g1 g2 g3 g4 g5
        go_wp2_with fail
        refine (s7.awake_any _).mono ?_; rintro e w22 ⟨rfl, hb⟩
        have B22 := Lib.hid (WB.out.trans (((Mine.bel M21.out).trans (hb.mono (Mine.bel M21.out).size)).mono WB.out.size))
        clear hb hlen1 hlen2
        go_wp2_with fail
        go_ret
        exact ⟨rfl, B22.out⟩
    · have hne : (may T != 0) = true := by simpa using ga
      clear ga
      go_wp2_with fail
      refine hma.mono ?_; rintro e w4 ⟨rfl, hb⟩
      have S4 := Lib.hid (S3.out.trans (hb.mono S3.out.size))
      clear hb hma e0 e1 e2 e3 e4 e5
      go_wp2_with fail
      refine (s7.awake_any _).mono ?_; rintro e w6 ⟨rfl, hb⟩
      have S6 := Lib.hid (WB.out.trans ((S4.out.trans (hb.mono S4.out.size)).mono WB.out.size))
      clear hb
      go_wp2_with fail
      go_ret
      exact ⟨rfl, S6.out⟩
set_option maxRecDepth 100000 in
theorem lifted (os : Os) (started : os.Started) (H : Type) (enc : TypeId × Value → H) :
    ReturnsInHanded {} Try.checked os 4 .any (Rows.storeBackSpec.pre6 enc Try.prog Try.f4 Rows.storeBackRow.domain false) (Rows.storeBackSpec.post enc Try.prog Try.f4 false true false false) := by
  refine returnsInHanded_of_change_sized (C := Try.checked) own started (by kernel_rfl) Try.func4
    (ChangeSpec.witness6 (enc := enc) (C := Try.checked) false ⟨#[], #[.agg #[.int .i64 0, .string ⟨#[]⟩, .int .i64 0, .int .u64 0, .int .u64 0, .slice none 0 0]], []⟩ 8 (by kernel_rfl) (by kernel_rfl) (by kernel_rfl) (by kernel_rfl)) ?_
  intro W base args ds gs before hval0 hW _ hsz0 _
  have hsz : (DataW.weightsEach Try.prog (Try.f4.params.toList ++ Rows.storeBackSpec.plain.varTypes Try.prog) (ds ++ gs)).all (· ≤ reachBytes) = true := hsz0
  clear hsz0
  have hval : ∀ (j : Nat) t v, Try.f4.params[j]? = some t → args[j]? = some v → Value.okWide Try.prog W .any base t v := hval0
  have hW' := hW
  obtain ⟨p, q, hA0, hV, rfl, hfz, hnd⟩ := hW
  have hA : DataW.TrodAll enc Try.prog W 0 (fun _ => true) true Try.f4.params.toList args.toList ds p := hA0
  rw [Try.params4] at hA hval hsz
  obtain ⟨v0, vs0, d0, ds0, p0, q0, hargs, rfl, rfl, h0, r0⟩ := trodAll_cons hA
  obtain ⟨rfl, rfl, rfl⟩ := trodAll_nil r0
  obtain rfl : args = #[v0] := by cases args; simp_all
  obtain ⟨rfl, rfl⟩ := trodVars_none hV
  simp only [List.append_nil] at hW'
  have lt0 : ∀ x ∈ p0, x.block < W.heap.size := fun x hx => by
    have := hW'.lt x (by simp [hx])
    simpa using this
  have k0 := h0
  obtain ⟨t0, x0⟩ := term_arg (by obtain ⟨cs, hcs, _⟩ := okWide_struct Try.underlying41 (hval 0 41 v0 rfl rfl); exact ⟨cs, hcs⟩) h0
  clear hA0 hval0
  refine (walk W v0 t0 x0).mono fun e W' ⟨he, hg⟩ => ?_
  subst he
  have ha := (trodAll_cons_mk (Below.trod laidOut (by kernel_rfl) (of_decide_eq_true (by kernel_rfl)) k0 hg lt0) trodAll_mk0)
  refine ⟨_, rfl, _, _, _, [], _, [], hW', ?_, ha, rfl, hg.frame _, fun h => by cases h⟩
  exact (trodAll_cons_mk (shut_bool Try.underlying4 _) trodAll_mk0)
/-- THE STATEMENT. -/
theorem proved : Rows.StoreBackSaid :=
  OpenClaim.holds_of_wide 4 Try.f4 rfl rfl rfl rfl rfl rfl rfl ⟨rfl, rfl, rfl, rfl, rfl⟩ rfl rfl rfl rfl rfl (by kernel_rfl) Try.func4 (by kernel_rfl)
    (of_decide_eq_true (by kernel_rfl)) (by unfold Func.isWrapper; first | (rw [if_pos (by decide +kernel)]; kernel_rfl) | (rw [if_neg (by decide +kernel)]; exact ⟨rfl, rfl⟩))
    (fun os started H enc _ => lifted os started H enc)
#print axioms proved
end Go.Proofs.Ytemlhodconlicaa.storeBack
