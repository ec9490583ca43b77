/- slices.BinarySearchFunc; (*Table).find. -/
import Derived.Test.YtnpdipmkikakcaaOpC
namespace Go.Proofs.Ytnpdipmkikakcaa.opd
open Go.ChangeShapes Go.WideShapes Go.ChangeAt Go.RowKit
open Go.Proofs.Ytnpdipmkikakcaa.kp Go.Proofs.Ytnpdipmkikakcaa.opa Go.Proofs.Ytnpdipmkikakcaa.opb Go.Proofs.Ytnpdipmkikakcaa.opc
set_option linter.unusedVariables false
/-- a row, and a box of one operator -/
structure RX (w : World) (a : Option Addr) (c : Nat) (l : List D) (o : D) (wN : World) : Prop where
  row : Rw wN a c l
  box : wN.heap[w.heap.size]? = some (.cells o.cs.toArray 32 (0, 0))
  bel : Below w.heap.size w wN
theorem RX.below {w : World} {a : Option Addr} {c : Nat} {l : List D} {o : D} {w1 w2 : World} (h : RX w a c l o w1) (hb : Below w1.heap.size w1 w2) : RX w a c l o w2 :=
  ⟨h.row.below hb, (hb.block _ (Array.getElem?_eq_some_iff.1 h.box).1).trans h.box, h.bel.trans (hb.mono h.bel.size)⟩
theorem RX.mk' {w : World} {a : Option Addr} {c : Nat} {l : List D} (h : Rw w a c l) (o : D) : RX w a c l o (w.alloc (.cells o.cs.toArray 32)) := ⟨h.below (ba _ _), alloc_at _ _, ba _ _⟩
theorem RX.cells {w : World} {a : Option Addr} {c : Nat} {l : List D} {o : D} {wN : World} (h : RX w a c l o wN) :
    wN.cell? ⟨w.heap.size, 0, none⟩ = some (.string ⟨o.n.toArray⟩) ∧ wN.cell? ⟨w.heap.size, 1, none⟩ = some (.int .i64 o.k) ∧ wN.cell? ⟨w.heap.size, 2, none⟩ = some (.int .i64 o.p) := by
  refine ⟨?_, ?_, ?_⟩ <;> simp [World.cell?, h.box, D.cs]
structure RXC (w : World) (P i : Nat) (n : List UInt8) (k p : Int) (x : D) (w' : World) : Prop where
  cells : w'.cell? ⟨P, i * 3, none⟩ = some (.string ⟨x.n.toArray⟩) ∧ w'.cell? ⟨P, i * 3 + 1, none⟩ = some (.int .i64 x.k) ∧ w'.cell? ⟨P, i * 3 + 2, none⟩ = some (.int .i64 x.p) ∧ w'.cell? ⟨w.heap.size, 0, none⟩ = some (.string ⟨n.toArray⟩) ∧ w'.cell? ⟨w.heap.size, 1, none⟩ = some (.int .i64 k) ∧ w'.cell? ⟨w.heap.size, 2, none⟩ = some (.int .i64 p)
  l1 : P < w'.heap.size
  l2 : w.heap.size < w'.heap.size
  bel : Below w.heap.size w w'
theorem RXC.below {w : World} {P i : Nat} {n : List UInt8} {k p : Int} {x : D} {w1 w2 : World} (h : RXC w P i n k p x w1) (hb : Below w1.heap.size w1 w2) : RXC w P i n k p x w2 := by
  have c := fun (b o : Nat) (hb' : b < w1.heap.size) => (Keep.of_below (F := fun _ => False) hb).cell (o := o) hb' id
  have s := hb.size
  exact ⟨by rw [c P _ h.l1, c P _ h.l1, c P _ h.l1, c _ _ h.l2, c _ _ h.l2, c _ _ h.l2]; exact h.cells, by have := h.l1; omega, by have := h.l2; omega, h.bel.trans (hb.mono h.bel.size)⟩
def BRel (w : World) (a : Option Addr) (c : Nat) (l : List D) (o : D) (g : Nat) (s9 s10 : Value) (wr : World) : Prop :=
  ∃ i j : Nat, i ≤ j ∧ j ≤ l.length ∧ g = j - i ∧ s9 = .int .i64 i ∧ s10 = .int .i64 j ∧ (∀ m (h : m < l.length), m < i → cd l[m] o < 0) ∧ (∀ m (h : m < l.length), j ≤ m → 0 ≤ cd l[m] o) ∧ RX w a c l o wr
theorem Srt.get {l : List D} (h : Srt l) {i j : Nat} (hi : i < l.length) (hj : j < l.length) (hij : i < j) : cd l[i] l[j] < 0 := List.pairwise_iff_getElem.1 h i j hi hj hij
set_option maxRecDepth 100000 in
set_option maxHeartbeats 8000000 in
theorem bsearch_any {l : List D} {a : Option Addr} {c : Nat} (o : D) (w : World) (hr : Rw w a c l) (hs : Srt l) (hl : l.length ≤ 1000) :
    Calls Try.prog 35 #[.slice a l.length c, o.v, .func (.func 36) #[] #[]] w fun e w' => e = .returned (.tuple #[.int .i64 (ix l o : Nat), .bool (is l o)]) ∧ Below w.heap.size w w' := by
  have hX := Lib.hid (RX.mk' hr o)
  have HS := Lib.hid hs
  clear hr hs
  obtain ⟨n, k, p⟩ := o
  simp only [D.v, D.cs] at hX ⊢
  go_enter Try.func35, Try.ntmps35
  go_wp2_with fail
  go_loopg [9, 10] l.length (BRel w a c l ⟨n, k, p⟩)
  case atStart => exact ⟨0, l.length, by omega, by omega, by omega, rfl, rfl, by omega, by omega, hX.out⟩
  case round =>
    obtain ⟨i, j, hij, hjl, rfl, rfl, rfl, h1, h2, hx⟩ := hrel
    by_cases hlt : i < j
    · obtain ⟨m, hm⟩ : ∃ m, m = (i + j) / 2 := ⟨_, rfl⟩
      have him : i ≤ m := by omega
      have hmj : m < j := by omega
      have HM := Lib.hid hm
      clear hm
      have hml : m < l.length := by omega
      obtain ⟨P, rfl, hP, e0, e1, e2, hf, hix⟩ := hx.row.look (m := m) hml
      obtain ⟨f0, f1, f2⟩ := hx.cells
      have HH := Lib.hid (And.intro h1 (And.intro h2 hx))
      clear h1 h2 hx hf
      go_wp2_with fail
      have hc : ((i : Int) + j) / 2 = (m : Int) := by have := HM.out; omega
      rw [hc]
      clear hc
      go_still_tail 6, (by kernel_rfl)
      change wpList _ _ _ _ _ wr.drew
      obtain ⟨wd, hwd⟩ : ∃ wd, wd = wr.drew := ⟨_, rfl⟩
      have HD := Lib.hid (show Below wr.heap.size wr wd by rw [hwd]; exact bdr wr)
      rw [← hwd]
      clear hwd e0 e1 e2 f0 f1 f2 hix
      go_wp2_with fail
      refine (compare_any l[m] ⟨n, k, p⟩ _).mono ?_
      rintro e w4 ⟨rfl, hb4⟩
      have HX4 := Lib.hid (HH.out.2.2.below (bt HD.out hb4))
      clear hb4
      by_cases hz : cd l[m] ⟨n, k, p⟩ < 0
      · have HZ := Lib.hid hz
        have hz' : decide (cd l[m] ⟨n, k, p⟩ < 0) = true := decide_eq_true hz
        clear hz
        go_wp2_with fail
        go_roundg (j - (m + 1))
        case measure => omega
        case rel =>
          refine ⟨m + 1, j, by omega, hjl, rfl, by go_num, rfl, ?_, HH.out.2.1, HX4.out⟩
          intro m' hm' hlt'
          by_cases e : m' = m
          · subst e; exact HZ.out
          · exact cd_trans (Srt.get HS.out hm' (by omega) (by omega)) HZ.out
      · have HZ := Lib.hid hz
        have hz' : decide (cd l[m] ⟨n, k, p⟩ < 0) = false := decide_eq_false hz
        clear hz
        go_wp2_with fail
        go_roundg (m - i)
        case measure => omega
        case rel =>
          refine ⟨i, m, by omega, by omega, rfl, rfl, rfl, HH.out.1, ?_, HX4.out⟩
          intro m' hm' hle
          have hz := HZ.out
          refine Classical.byContradiction fun hcd => ?_
          by_cases e : m = m'
          · subst e; omega
          · have h1 : cd l[m] l[m'] < 0 := Srt.get HS.out (by omega) hm' (by omega)
            have := cd_trans h1 (show cd l[m'] ⟨n, k, p⟩ < 0 by omega)
            omega
    · obtain rfl : i = j := by omega
      have hi := ix_of (o := ⟨n, k, p⟩) hjl h1 (fun m hm hle => by have := h2 m hm hle; omega)
      have hs := is_at HS.out ⟨n, k, p⟩
      clear h1 h2
      by_cases hn : i < l.length
      · have hg : decide ((i : Int) < l.length) = true := decide_eq_true (by omega)
        obtain ⟨P, rfl, hP, e0, e1, e2, hf, hix⟩ := hx.row.look (m := i) hn
        obtain ⟨f0, f1, f2⟩ := hx.cells
        have hC : RXC w P i n k p l[i] wr := ⟨⟨e0, e1, e2, f0, f1, f2⟩, hP, by have := (Array.getElem?_eq_some_iff.1 hx.box).1; exact this, hx.bel⟩
        have HH := Lib.hid (And.intro hi (And.intro hs hx))
        clear hi hs hx hf
        go_wp2_with fail
        go_region_held3 (fun w' => w'.cell? ⟨P, i * 3, none⟩ = some (.string ⟨l[i].n.toArray⟩) ∧ w'.cell? ⟨P, i * 3 + 1, none⟩ = some (.int .i64 l[i].k) ∧ w'.cell? ⟨P, i * 3 + 2, none⟩ = some (.int .i64 l[i].p) ∧ w'.cell? ⟨w.heap.size, 0, none⟩ = some (.string ⟨n.toArray⟩) ∧ w'.cell? ⟨w.heap.size, 1, none⟩ = some (.int .i64 k) ∧ w'.cell? ⟨w.heap.size, 2, none⟩ = some (.int .i64 p))
          (first | (exact RXC.cells (by assumption)) | (exact RXC.cells (RXC.below (by assumption) (bdr _))) | go_keep)
          (first
            | (go_at_call 36; refine (compare_any l[i] ⟨n, k, p⟩ _).mono ?_; rintro e wN ⟨rfl, hbN⟩; have hSN := RXC.below (by (first | assumption | exact RXC.below (by assumption) (bdr _))) hbN; clear hbN))
        have hSN := (by assumption : RXC w P i n k p l[i] _)
        have HF := Lib.hid hSN.bel
        clear hSN
        go_wp2_with fail
        go_ret2
        refine ⟨?_, HF.out⟩
        rw [HH.out.1, HH.out.2.1, HH.out.1, dif_pos hn]
        by_cases hz : cd l[i] ⟨n, k, p⟩ = 0 <;> simp [hz]
      · have hg : decide ((i : Int) < l.length) = false := decide_eq_false (by omega)
        have HH := Lib.hid (And.intro hi (And.intro hs hx))
        clear hi hs hx
        go_wp2_with fail
        go_quiet (fail)
        go_wp2_with fail
        go_ret2
        refine ⟨?_, HH.out.2.2.bel.trans ((drewN_below _ _).mono HH.out.2.2.bel.size)⟩
        rw [HH.out.1, HH.out.2.1, HH.out.1, dif_neg hn]
        rfl
theorem box_cells {w : World} {b : Nat} {o : D} (h : w.heap[b]? = some (.cells o.cs.toArray 32 (0, 0))) :
    w.cell? ⟨b, 0, none⟩ = some (.string ⟨o.n.toArray⟩) ∧ w.cell? ⟨b, 1, none⟩ = some (.int .i64 o.k) ∧ w.cell? ⟨b, 2, none⟩ = some (.int .i64 o.p) ∧ ∀ j, w.frozen? ⟨b, j, none⟩ = false := by
  refine ⟨?_, ?_, ?_, fun j => ?_⟩ <;> simp [World.cell?, World.frozen?, h, D.cs]
/-- cells that are known, behind a world -/
structure Cl (w0 : World) (S : List (Nat × Nat × Value)) (w : World) : Prop where
  at_ : ∀ x ∈ S, w.cell? ⟨x.1, x.2.1, none⟩ = some x.2.2
  bel : Below w0.heap.size w0 w
theorem Cl.below {w0 w w' : World} {S : List (Nat × Nat × Value)} (h : Cl w0 S w) (hb : Below w.heap.size w w') : Cl w0 S w' :=
  ⟨fun x hx => ((Keep.of_below (F := fun _ => False) hb).cell (World.block_lt_of_cell? w _ (h.at_ x hx)) id).trans (h.at_ x hx), h.bel.trans (hb.mono h.bel.size)⟩
theorem Cl.drew {w0 w : World} {S : List (Nat × Nat × Value)} (h : Cl w0 S w) : Cl w0 S w.drew := h.below (bdr _)
theorem Cl.alloc {w0 w : World} {S : List (Nat × Nat × Value)} (h : Cl w0 S w) (o : Obj) : Cl w0 S (w.alloc o) := h.below (ba _ _)
abbrev Cy (w : World) (x : Nat × Nat × Value) : Prop := w.cell? ⟨x.1, x.2.1, none⟩ = some x.2.2
theorem Cl.c1 {w0 w : World} {a : Nat × Nat × Value} (h : Cl w0 [a] w) : Cy w a := h.at_ a (by simp)
theorem Cl.c2 {w0 w : World} {a b : Nat × Nat × Value} (h : Cl w0 [a, b] w) : Cy w a ∧ Cy w b := ⟨h.at_ a (by simp), h.at_ b (by simp)⟩
theorem Cl.c3 {w0 w : World} {a b c : Nat × Nat × Value} (h : Cl w0 [a, b, c] w) : Cy w a ∧ Cy w b ∧ Cy w c := ⟨h.at_ a (by simp), h.at_ b (by simp), h.at_ c (by simp)⟩
theorem Cl.c4 {w0 w : World} {a b c d : Nat × Nat × Value} (h : Cl w0 [a, b, c, d] w) : Cy w a ∧ Cy w b ∧ Cy w c ∧ Cy w d := ⟨h.at_ a (by simp), h.at_ b (by simp), h.at_ c (by simp), h.at_ d (by simp)⟩
theorem Cl.c6 {w0 w : World} {a b c d e f : Nat × Nat × Value} (h : Cl w0 [a, b, c, d, e, f] w) : Cy w a ∧ Cy w b ∧ Cy w c ∧ Cy w d ∧ Cy w e ∧ Cy w f := ⟨h.at_ a (by simp), h.at_ b (by simp), h.at_ c (by simp), h.at_ d (by simp), h.at_ e (by simp), h.at_ f (by simp)⟩
set_option maxRecDepth 100000 in
theorem find_any {p : Nat} {F : Nat → Prop} {l : List D} (o : D) (w : World) (h : Tb w p F l) (hs : Srt l) (hl : l.length ≤ 1000) :
    Calls Try.prog 28 #[.pointer (some ⟨p, 0, none⟩), o.v] w fun e w' => e = .returned (.tuple #[.int .i64 (ix l o : Nat), .bool (is l o)]) ∧ Below w.heap.size w w' := by
  have hb := ba w (.cells o.cs.toArray 32)
  obtain ⟨a, c, e0, _, hr⟩ := (h.below hb).open_
  obtain ⟨f0, f1, f2, _⟩ := box_cells (alloc_at w (.cells o.cs.toArray 32))
  obtain ⟨n, k, q⟩ := o
  simp only [D.v, D.cs] at hb e0 hr f0 f1 f2 ⊢
  have HR := Lib.hid (And.intro hr (And.intro hs hb))
  clear h hs hr hb
  go_enter Try.func28, Try.ntmps28
  go_wp2_with fail
  generalize hw1 : (w.alloc (.cells #[.string ⟨n.toArray⟩, .int .i64 k, .int .i64 q] 32)) = w1 at e0 f0 f1 f2 ⊢
  have HR1 : Hid (Rw w1 a c l ∧ Srt l ∧ Below w.heap.size w w1) := Lib.hid (by rw [← hw1]; exact HR.out)
  clear hw1 HR
  have hC : Cl w1 [(p, 0, .slice a l.length c), (w.heap.size, 0, .string ⟨n.toArray⟩), (w.heap.size, 1, .int .i64 k), (w.heap.size, 2, .int .i64 q)] w1 := ⟨by simp [e0, f0, f1, f2], br _⟩
  go_region_held3 (fun w' => w'.cell? ⟨p, 0, none⟩ = some (.slice a l.length c) ∧ w'.cell? ⟨w.heap.size, 0, none⟩ = some (.string ⟨n.toArray⟩) ∧ w'.cell? ⟨w.heap.size, 1, none⟩ = some (.int .i64 k) ∧ w'.cell? ⟨w.heap.size, 2, none⟩ = some (.int .i64 q))
    (first | (exact Cl.c4 (by assumption)) | (exact Cl.c4 (Cl.drew (by assumption))) | go_keep)
    (first
      | (go_at_call 35; refine (bsearch_any ⟨n, k, q⟩ _ (HR1.out.1.below (by first | exact Cl.bel (by assumption) | exact Cl.bel (Cl.drew (by assumption)))) HR1.out.2.1 hl).mono ?_; rintro e wN ⟨rfl, hbN⟩; have hCN := Cl.below (by (first | assumption | exact Cl.drew (by assumption))) hbN; clear hbN))
  have hCN := (by assumption : Cl w1 [(p, 0, .slice a l.length c), (w.heap.size, 0, .string ⟨n.toArray⟩), (w.heap.size, 1, .int .i64 k), (w.heap.size, 2, .int .i64 q)] _)
  have HB4 := Lib.hid (HR1.out.2.2.trans (hCN.bel.mono HR1.out.2.2.size))
  clear hCN e0 f0 f1 f2
  go_wp2_with fail
  go_ret2
  exact ⟨rfl, HB4.out⟩
end Go.Proofs.Ytnpdipmkikakcaa.opd
