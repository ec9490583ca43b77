/- The law HeapApart holds: for every input its Go function returns true and leaves its arguments as they were. No condition beyond the row's own. -/
import Derived.Test.YthcfbolakjgfgaaRows
import Derived.WalkKit
import Derived.ProofKit
import Derived.OpenShut
import Derived.SizedLaws
import Derived.Test.YthcfbolakjgfgaaHeap
import Derived.Test.YthcfbolakjgfgaaH5
import Derived.Test.YthcfbolakjgfgaaCls
import Derived.LoopTactic
namespace Go.Proofs.Ythcfbolakjgfgaa.heapApart
open Go.ChangeShapes Go.WideShapes Go.ChangeAt Go.RowKit
open Go.ChangeMaps (open_string)
open Go.Proofs.Ythcfbolakjgfgaa.arg
open Go.Proofs.Ythcfbolakjgfgaa.hp Go.Proofs.Ythcfbolakjgfgaa.cel Go.Proofs.Ythcfbolakjgfgaa.kp
set_option linter.unusedVariables false
theorem own : ownKnob Try.prog.godebug = none := by kernel_rfl
theorem laidOut : laidOutB Try.prog = true := by kernel_rfl
/-- the cells behind one call -/
def stp (x : Cl) (l : List Int) (m : Int) : List Int := if x.1 = 0 then px l m x.2.2 else if x.1 = 1 then px l m (l.length * 8) else if x.1 = 2 then sx l x.2.1 x.2.2 else if x.1 = 3 then cx l x.2.1 else l
def pl (t : List Cl) (m : Int) : Nat → List Int → List Int
  | 0, l => l
  | k + 1, l => stp (t.getD k cl0) (pl t m k l) m
theorem after {a b c : World} {p : Nat} {F G : Nat → Prop} {l : List Int} {m : Int} (o : Obj) (k : Keep F a b) (s : ∀ i, G i → F i ∨ a.heap.size ≤ i) (n : hp.Next TH (b.alloc o) p G l m c) : hp.Next TH a p F l m c :=
  hp.Next.trans (F' := G) (k.trans (Keep.of_below (F := fun _ => False) (ba b o)) (fun _ h => h.elim)) s n
theorem Next.below1 {a w : World} {o : Obj} {p : Nat} {F : Nat → Prop} {l : List Int} {m : Int} (h : hp.Next TH a p F l m w) : hp.Next TH a p F l m (w.alloc o) := by
  obtain ⟨G, t, k, s⟩ := h
  exact ⟨G, t.below (ba w o), k.trans (Keep.of_below (F := fun _ => False) (ba w o)) (fun _ h => h.elim), s⟩
/-- the heap behind k calls, the blocks that it has not kept out of sight -/
def RP (w : World) (p N : Nat) (F : Nat → Prop) (t : List Cl) (l : List Int) (m : Int) (i : Value) (wr : World) : Prop := ∃ k : Nat, k ≤ N ∧ i = .int .i64 k ∧ hp.Next TH w p F (pl t m k l) m wr
set_option maxHeartbeats 4000000 in
set_option maxRecDepth 100000 in
theorem play_any {W w : World} {p : Nat} {F : Nat → Prop} {l : List Int} {m : Int} {a : Option Addr} {n c : Nat} {t : List Cl} (x : CRow W a n t) (b : Below W.heap.size W w) (h : Hp TH w p F l m) (f : ∀ j, F j → W.heap.size ≤ j) :
    Calls Try.prog 25 #[.pointer (some ⟨p, 0, none⟩), .slice a n c] w fun e w' => e = .returned (.tuple #[]) ∧ hp.Next TH w p F (pl t m (min n 60) l) m w' := by
  have hn : n ≤ 8796093022208 := by have := x.reach; omega
  have X := Lib.hid x
  have B := Lib.hid b
  have FF := Lib.hid f
  have N0 := Lib.hid (hp.Next.same h)
  obtain ⟨N, hN⟩ : ∃ N, N = min n 60 := ⟨_, rfl⟩
  have hN1 : N ≤ 60 := by omega
  have hN2 : N ≤ n := by omega
  rw [← hN]
  have HN := Lib.hid hN
  clear x b f h hN
  go_enter Try.func25, Try.ntmps25
  go_wp2_with fail
  go_loopw [4, 5, 8] (fun _ _ i wr => RP w p N F t l m i wr) (fun _ _ i _ => N - (intOf i).toNat)
  case atStart => exact ⟨0, by omega, rfl, N0.out⟩
  case round =>
    obtain ⟨k, hk, rfl, G, hh, kp, s⟩ := hrel
    have KP := Lib.hid kp
    have S := Lib.hid s
    have HH := Lib.hid hh
    have hB : Below W.heap.size W wr := B.out.trans (kp.to_below FF.out B.out.size)
    have hz := hB.size
    by_cases hlt : k < N
    · obtain ⟨g, o, hg, c0, c1, c2, hix⟩ := X.out.look (k := k) (by omega)
      have c0' := (hB.cell (p := ⟨g, o, none⟩) hg).trans c0
      have c1' := (hB.cell (p := ⟨g, o + 1, none⟩) hg).trans c1
      have c2' := (hB.cell (p := ⟨g, o + 2, none⟩) hg).trans c2
      have hwf := X.out.wf k
      have e3 : pl t m (k + 1) l = stp (t.getD k cl0) (pl t m k l) m := rfl
      generalize t.getD k cl0 = xx at *
      obtain ⟨d, at_, cc⟩ := xx
      have HE := Lib.hid e3
      have HW := Lib.hid hwf
      have hkn : k < n := by omega
      have hgw : g < wr.heap.size := by omega
      clear c0 c1 c2 hB hwf hh kp s e3
      go_wp2_with fail
      · have hd : d = 0 := by simpa using (show (d == 0) = true by assumption)
        have HA := HH.out.below (ba wr (.cells #[.int .i64 d, .int .i64 at_, .int .u64 cc] 34))
        refine (push_any HA cc HW.out.2.2).mono ?_; rintro e w2 ⟨rfl, nx⟩
        rw [show px (pl t m k l) m cc = pl t m (k + 1) l by rw [HE.out]; subst hd; simp [stp]] at nx
        have NX := Lib.hid (after _ KP.out S.out nx)
        clear nx HA hd
        go_wp2_with fail
        go_roundw
        case rel => exact ⟨k + 1, by omega, by go_num, NX.out⟩
        case measure => simp [intOf]; omega
      · have hd : d = 1 := by simpa using (show (d == 1) = true by assumption)
        have HA := HH.out.below (ba wr (.cells #[.int .i64 d, .int .i64 at_, .int .u64 cc] 34))
        refine (var_any HA).mono ?_; rintro e w2 ⟨rfl, nx⟩
        rw [show px (pl t m k l) m ((pl t m k l).length * 8) = pl t m (k + 1) l by rw [HE.out]; subst hd; simp [stp]] at nx
        have NX := Lib.hid (after _ KP.out S.out nx)
        clear nx HA hd
        go_wp2_with fail
        go_roundw
        case rel => exact ⟨k + 1, by omega, by go_num, NX.out⟩
        case measure => simp [intOf]; omega
      · have hd : d = 2 := by simpa using (show (d == 2) = true by assumption)
        have HA := HH.out.below (ba wr (.cells #[.int .i64 d, .int .i64 at_, .int .u64 cc] 34))
        refine (set_any HA at_ cc HW.out.2.2).mono ?_; rintro e w2 ⟨rfl, nx⟩
        rw [show sx (pl t m k l) at_ cc = pl t m (k + 1) l by rw [HE.out]; subst hd; simp [stp]] at nx
        have NX := Lib.hid (after _ KP.out S.out nx)
        clear nx HA hd
        go_wp2_with fail
        go_roundw
        case rel => exact ⟨k + 1, by omega, by go_num, NX.out⟩
        case measure => simp [intOf]; omega
      · have hd : d = 3 := by simpa using (show (d == 3) = true by assumption)
        have HA := HH.out.below (ba wr (.cells #[.int .i64 d, .int .i64 at_, .int .u64 cc] 34))
        refine (cut_any HA at_).mono ?_; rintro e w2 ⟨rfl, nx⟩
        rw [show cx (pl t m k l) at_ = pl t m (k + 1) l by rw [HE.out]; subst hd; simp [stp]] at nx
        have NX := Lib.hid (after _ KP.out S.out nx)
        clear nx HA hd
        go_wp2_with fail
        go_roundw
        case rel => exact ⟨k + 1, by omega, by go_num, NX.out⟩
        case measure => simp [intOf]; omega
      · have NX := Lib.hid (after (.cells #[.int .i64 d, .int .i64 at_, .int .u64 cc] 34) KP.out S.out (hp.Next.same (HH.out.below (ba wr (.cells #[.int .i64 d, .int .i64 at_, .int .u64 cc] 34)))))
        have e0 : ¬ d = 0 := by simpa using (show (d == 0) = false by assumption)
        have e1 : ¬ d = 1 := by simpa using (show (d == 1) = false by assumption)
        have e2 : ¬ d = 2 := by simpa using (show (d == 2) = false by assumption)
        have e3 : ¬ d = 3 := by simpa using (show (d == 3) = false by assumption)
        go_roundw
        case rel => exact ⟨k + 1, by omega, by go_num, by rw [HE.out]; simp only [stp, e0, e1, e2, e3, if_false]; exact NX.out⟩
        case measure => simp [intOf]; omega
    · have hkN : k = N := by omega
      have NX := Lib.hid (show hp.Next TH w p F (pl t m N l) m wr from hkN ▸ ⟨G, HH.out, KP.out, S.out⟩)
      rcases (Nat.lt_or_ge 60 n).symm with h60 | h60
      · have e0 : k = n := by have := HN.out; omega
        clear hB hz hh kp s
        subst e0
        go_wp2_with fail
        go_end0
        exact ⟨rfl, NX.out⟩
      · have e0 : 60 ≤ k := by have := HN.out; omega
        have e1 : k < n := by omega
        obtain ⟨g, o, hg, c0, c1, c2, hix⟩ := X.out.look (k := k) (by omega)
        have c0' := (hB.cell (p := ⟨g, o, none⟩) hg).trans c0
        have c1' := (hB.cell (p := ⟨g, o + 1, none⟩) hg).trans c1
        have c2' := (hB.cell (p := ⟨g, o + 2, none⟩) hg).trans c2
        have hgw : g < wr.heap.size := by omega
        generalize t.getD k cl0 = xx at *
        obtain ⟨d, at_, cc⟩ := xx
        have e2 : (60 : Int) ≤ k := by omega
        clear c0 c1 c2 hB hh kp s hkN hlt
        go_wp2_with fail
        go_end0
        exact ⟨rfl, Next.below1 NX.out⟩
theorem walk (w : World) (a0 : Option Addr) (n0 c0 : Nat) (t0 : List Cl) (x0 : CRow w a0 n0 t0) (a1 : Option Addr) (n1 c1 : Nat) (t1 : List Cl) (x1 : CRow w a1 n1 t1) :
    Calls Try.prog 7 #[.slice a0 n0 c0, .slice a1 n1 c1] w fun e w' => e = .returned (.bool true) ∧ Below w.heap.size w w' := by
  have X0 := Lib.hid x0
  have X1 := Lib.hid x1
  clear x0 x1
  go_enter Try.func7, Try.ntmps7
  go_wp2_with fail
  refine (new_any 60 w).mono ?_; rintro e w1 ⟨rfl, F1, h1, b1, f1⟩
  rw [show max 0 (min (60 : Int) 1048576) = 60 by omega] at h1
  have H1 := Lib.hid h1; have B1 := Lib.hid b1; have G1 := Lib.hid f1
  clear h1 b1 f1
  go_wp2_with fail
  refine (new_any 60 w1).mono ?_; rintro e w2 ⟨rfl, F2, h2, b2, f2⟩
  rw [show max 0 (min (60 : Int) 1048576) = 60 by omega] at h2
  have H2 := Lib.hid h2; have B2 := Lib.hid b2; have G2 := Lib.hid f2
  clear h2 b2 f2
  go_wp2_with fail
  refine (new_any 60 w2).mono ?_; rintro e w3 ⟨rfl, F3, h3, b3, f3⟩
  rw [show max 0 (min (60 : Int) 1048576) = 60 by omega] at h3
  obtain ⟨p, hp⟩ : ∃ p, p = w.heap.size := ⟨_, rfl⟩
  obtain ⟨q, hq⟩ : ∃ q, q = w1.heap.size := ⟨_, rfl⟩
  obtain ⟨r, hr⟩ : ∃ r, r = w2.heap.size := ⟨_, rfl⟩
  have h1 : Hp TH w1 p F1 [] 60 := by rw [hp]; exact H1.out
  have h2 : Hp TH w2 q F2 [] 60 := by rw [hq]; exact H2.out
  rw [← hr] at h3
  have l1 := h1.lt
  have l2 := h2.lt
  have l3 := h3.lt
  have b1 := B1.out; have b2 := B2.out; have f1 := G1.out; have f2 := G2.out
  have g1 := b1.size; have g2 := b2.size; have g3 := b3.size
  have k1 : Hp TH w3 p F1 [] 60 := (h1.below b2).below b3
  have k2 : Hp TH w3 q F2 [] 60 := h2.below b3
  have ba3 : Below w.heap.size w w3 := (b1.trans (b2.mono g1)).trans (b3.mono (by omega))
  have d12 : ∀ j, F1 j → ¬ F2 j := fun j x y => by have := l1 j x; have := f2 j y; omega
  have d13 : ∀ j, F1 j → ¬ F3 j := fun j x y => by have := l1 j x; have := f3 j y; omega
  have d23 : ∀ j, F2 j → ¬ F3 j := fun j x y => by have := l2 j x; have := f3 j y; omega
  have z3 : ∀ j, F3 j → w.heap.size ≤ j := fun j x => by have := f3 j x; omega
  have z2 : ∀ j, F2 j → w.heap.size ≤ j := fun j x => by have := f2 j x; omega
  have hz3 : ∀ j, F3 j → j < w3.heap.size := l3
  have hz2 : ∀ j, F2 j → j < w3.heap.size := fun j x => by have := l2 j x; omega
  have P1 := play_any X0.out ba3 k1 f1 (c := c0)
  have T := Lib.hid (And.intro k1 (And.intro k2 (And.intro h3 (And.intro ba3 (And.intro d12 (And.intro d13 (And.intro d23 (And.intro z3 (And.intro z2 (And.intro hz3 (And.intro hz2 f1)))))))))))
  rw [← hp, ← hq, ← hr]
  clear H1 H2 B1 B2 G1 G2 h1 h2 h3 l1 l2 l3 b1 b2 b3 f1 f2 f3 g1 g2 g3 k1 k2 ba3 d12 d13 d23 z3 z2 hz3 hz2 hp hq hr
  go_wp2_with fail
  refine P1.mono ?_; rintro e w4 ⟨rfl, A1, m1, n1, s1⟩
  obtain ⟨k1, k2, h3, ba3, d12, d13, d23, z3, z2, hz3, hz2, f1⟩ := T.out
  have ba4 := ba3.trans (n1.to_below f1 ba3.size)
  have e13 : ∀ j, A1 j → ¬ F3 j := fun j x y => (s1 j x).elim (fun h => d13 j h y) (fun h => by have := hz3 j y; omega)
  have e12 : ∀ j, A1 j → ¬ F2 j := fun j x y => (s1 j x).elim (fun h => d12 j h y) (fun h => by have := hz2 j y; omega)
  have c2 : Hp TH w4 q F2 [] 60 := k2.keep n1 (fun j x y => d12 j y x)
  have c3 : Hp TH w4 r F3 [] 60 := h3.keep n1 (fun j x y => d13 j y x)
  have P2 := play_any X1.out ba4 c3 z3 (c := c1)
  have T2 := Lib.hid (And.intro m1 (And.intro c2 (And.intro ba4 (And.intro e13 (And.intro e12 (And.intro d23 (And.intro z3 z2)))))))
  clear k1 k2 h3 ba3 d12 d13 d23 z3 z2 hz3 hz2 f1 T m1 n1 s1 ba4 e13 e12 c2 c3 P1
  go_wp2_with fail
  refine P2.mono ?_; rintro e w5 ⟨rfl, A3, m3, n3, s3⟩
  obtain ⟨m1, c2, ba4, e13, e12, d23, z3, z2⟩ := T2.out
  have ba5 := ba4.trans (n3.to_below z3 ba4.size)
  have m1' : Hp TH w5 p A1 _ 60 := m1.keep n3 e13
  have c2' : Hp TH w5 q F2 [] 60 := c2.keep n3 d23
  have P3 := play_any X0.out ba5 c2' z2 (c := c0)
  have T3 := Lib.hid (And.intro m1' (And.intro ba5 (And.intro e12 z2)))
  clear m1 c2 ba4 e13 e12 d23 z3 z2 T2 m3 n3 s3 ba5 m1' c2' P2
  go_wp2_with fail
  refine P3.mono ?_; rintro e w6 ⟨rfl, A2, m2, n2, s2⟩
  obtain ⟨m1', ba5, e12, z2⟩ := T3.out
  have ba6 := ba5.trans (n2.to_below z2 ba5.size)
  have m1 : Hp TH w6 p A1 _ 60 := m1'.keep n2 e12
  clear m1' ba5 e12 z2 T3 P3 n2 s2
  generalize pl t0 60 (min n0 60) [] = l at *
  have q1 := Lib.hid (len_any m1)
  have q2 := Lib.hid (len_any m2)
  have hl := m1.len_le
  have M1 := Lib.hid m1
  have M2 := Lib.hid m2
  have B6 := Lib.hid ba6
  clear m1 m2 ba6
  obtain ⟨n, hn⟩ : ∃ n, n = l.length := ⟨_, rfl⟩
  rw [← hn] at q1 q2 hl
  have HN := Lib.hid hn
  clear hn
  go_wp2_with fail
  refine q1.out.mono ?_; rintro e w' ⟨rfl, rfl⟩
  go_wp2_with fail
  refine q2.out.mono ?_; rintro e w' ⟨rfl, rfl⟩
  go_wp2_with fail
  refine q1.out.mono ?_; rintro e w' ⟨rfl, rfl⟩
  go_wp2_with fail
  go_loop [9, 10, 11, 12, 13, 36] (fun _ _ _ _ _ i => ∃ k : Nat, k ≤ n ∧ i = .int .i64 k) (fun _ _ _ _ _ i => n - (intOf i).toNat)
  case atStart => exact ⟨0, by omega, rfl⟩
  case round =>
    obtain ⟨k, hk, rfl⟩ := hrel
    by_cases hlt : k < n
    · have r1 := Lib.hid (get_any M1.out k)
      have r2 := Lib.hid (get_any M2.out k)
      have hw := gv_w M1.out.wf k
      rw [show gb l k = true from decide_eq_true ⟨by omega, by rw [← HN.out]; omega⟩] at r1 r2
      have r3 := Lib.hid (deref_any M1.out _ hw)
      have r4 := Lib.hid (deref_any M2.out _ hw)
      generalize gv l k = x at *
      clear hw
      go_wp2_with fail
      refine r1.out.mono ?_; rintro e w' ⟨rfl, rfl⟩
      go_wp2_with fail
      refine r2.out.mono ?_; rintro e w' ⟨rfl, rfl⟩
      go_wp2_with fail
      refine r3.out.mono ?_; rintro e w' ⟨rfl, rfl⟩
      go_wp2_with fail
      refine r4.out.mono ?_; rintro e w' ⟨rfl, rfl⟩
      go_wp2_with fail
      go_round
      case rel => exact ⟨k + 1, by omega, by go_num⟩
      case measure => simp [intOf]; omega
    · go_wp2_with fail
      refine (awake_any _).mono ?_; rintro e w9 ⟨rfl, b9⟩
      go_wp2_with fail
      go_ret
      exact ⟨rfl, B6.out.trans (b9.mono B6.out.size)⟩
set_option maxRecDepth 100000 in
theorem lifted (os : Os) (started : os.Started) (H : Type) (enc : TypeId × Value → H) :
    ReturnsInHanded {} Try.checked os 7 .any (Rows.heapApartSpec.pre6 enc Try.prog Try.f7 Rows.heapApartRow.domain false) (Rows.heapApartSpec.post enc Try.prog Try.f7 false true false false) := by
  refine returnsInHanded_of_change_sized (C := Try.checked) own started (by kernel_rfl) Try.func7
    (ChangeSpec.witness6 (enc := enc) (C := Try.checked) false ⟨#[], #[.slice none 0 0, .slice none 0 0], []⟩ 8 (by kernel_rfl) (by kernel_rfl) (by kernel_rfl) (by kernel_rfl)) ?_
  intro W base args ds gs before hval0 hW _ hsz0 _
  have hsz : (DataW.weightsEach Try.prog (Try.f7.params.toList ++ Rows.heapApartSpec.plain.varTypes Try.prog) (ds ++ gs)).all (· ≤ reachBytes) = true := hsz0
  clear hsz0
  have hval : ∀ (j : Nat) t v, Try.f7.params[j]? = some t → args[j]? = some v → Value.okWide Try.prog W .any base t v := hval0
  have hW' := hW
  obtain ⟨p, q, hA0, hV, rfl, hfz, hnd⟩ := hW
  have hA : DataW.TrodAll enc Try.prog W 0 (fun _ => true) true Try.f7.params.toList args.toList ds p := hA0
  rw [Try.params7] at hA hval hsz
  obtain ⟨v0, vs0, d0, ds0, p0, q0, hargs, rfl, rfl, h0, r0⟩ := trodAll_cons hA
  obtain ⟨v1, vs1, d1, ds1, p1, q1, rfl, rfl, rfl, h1, r1⟩ := trodAll_cons r0
  obtain ⟨rfl, rfl, rfl⟩ := trodAll_nil r1
  obtain rfl : args = #[v0, v1] := by cases args; simp_all
  obtain ⟨rfl, rfl⟩ := trodVars_none hV
  simp only [List.append_nil] at hW'
  have lt0 : ∀ x ∈ p0, x.block < W.heap.size := fun x hx => by
    have := hW'.lt x (by simp [hx])
    simpa using this
  have k0 := h0
  have lt1 : ∀ x ∈ p1, x.block < W.heap.size := fun x hx => by
    have := hW'.lt x (by simp [hx])
    simpa using this
  have k1 := h1
  obtain ⟨a0, n0, c0, rfl⟩ := okWide_slice Try.underlying22 (hval 0 22 v0 rfl rfl)
  obtain ⟨t0, x0⟩ := h0.elim fun fuel hf => calls_open hf (lt0) (fun x y e => sized_slice hsz (j := 0) (t := 22) (e := 34) rfl (by rw [← e]; rfl) Try.underlying22)
  obtain ⟨a1, n1, c1, rfl⟩ := okWide_slice Try.underlying22 (hval 1 22 v1 rfl rfl)
  obtain ⟨t1, x1⟩ := h1.elim fun fuel hf => calls_open hf (lt1) (fun x y e => sized_slice hsz (j := 1) (t := 22) (e := 34) rfl (by rw [← e]; rfl) Try.underlying22)
  clear hA0 hval0
  refine (walk W a0 n0 c0 t0 x0 a1 n1 c1 t1 x1).mono fun e W' ⟨he, hg⟩ => ?_
  subst he
  have ha := (trodAll_cons_mk (Below.trod laidOut (by kernel_rfl) (of_decide_eq_true (by kernel_rfl)) k0 hg lt0) (trodAll_cons_mk (Below.trod laidOut (by kernel_rfl) (of_decide_eq_true (by kernel_rfl)) k1 hg lt1) trodAll_mk0))
  refine ⟨_, rfl, _, _, _, [], _, [], hW', ?_, ha, rfl, hg.frame _, fun h => by cases h⟩
  exact (trodAll_cons_mk (shut_bool Try.underlying4 _) trodAll_mk0)
/-- THE STATEMENT. -/
theorem proved : Rows.HeapApartSaid :=
  OpenClaim.holds_of_wide 7 Try.f7 rfl rfl rfl rfl rfl rfl rfl ⟨rfl, rfl, rfl, rfl, rfl⟩ rfl rfl rfl rfl rfl (by kernel_rfl) Try.func7 (by kernel_rfl)
    (of_decide_eq_true (by kernel_rfl)) (by unfold Func.isWrapper; first | (rw [if_pos (by decide +kernel)]; kernel_rfl) | (rw [if_neg (by decide +kernel)]; exact ⟨rfl, rfl⟩))
    (fun os started H enc _ => lifted os started H enc)
#print axioms proved
end Go.Proofs.Ythcfbolakjgfgaa.heapApart
