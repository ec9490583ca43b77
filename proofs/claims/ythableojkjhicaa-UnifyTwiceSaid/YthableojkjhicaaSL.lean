/- The reference's Light: if it is true there are 4000 nodes at most; nothing old has turned. What the laws of the store share: awake. What the laws of the store share: a term in a box, a heap, names beside; Light of one term. -/
import Derived.Test.YthableojkjhicaaPl
import Derived.Test.YthableojkjhicaaPPA
import Derived.Deep.RegionHeld3
namespace Go.Proofs.Ythableojkjhicaa.lgs
set_option linter.unusedVariables false
open Go.ChangeShapes Go.WideShapes Go.ChangeAt Go.RowKit
open Go.Proofs.Ythableojkjhicaa.tm Go.Proofs.Ythableojkjhicaa.lie Go.Proofs.Ythableojkjhicaa.kp Go.Proofs.Ythableojkjhicaa.wlk Go.Proofs.Ythableojkjhicaa.cur Go.Proofs.Ythableojkjhicaa.rws Go.Proofs.Ythableojkjhicaa.pln
def Lt (t : Tm) (left : Int) (w : World) (e : Ending) (w' : World) : Prop := ∃ r : Int, e = .returned (.int .i64 r) ∧ -1 ≤ r ∧ r ≤ 4000 ∧ (0 ≤ r → r + (size t : Nat) ≤ left) ∧ Below w.heap.size w w'
theorem sizeL_take {l : List Tm} {k : Nat} (hk : k < l.length) : sizeL (l.take (k + 1)) = sizeL (l.take k) + size l[k] := by
  rw [List.take_succ_eq_append_getElem hk]
  generalize l.take k = x
  induction x with
  | nil => simp [sizeL]
  | cons a r ih => simp only [List.cons_append, sizeL, ih]; omega
def LRel (w : World) (l : List Tm) (left : Int) (g : Nat) (s2 s32 : Value) (wr : World) : Prop := ∃ (k : Nat) (r : Int), k ≤ l.length ∧ g = l.length - k ∧ r + 1 + (sizeL (l.take k) : Nat) ≤ left ∧ s32 = .int .i64 k ∧ s2 = .int .i64 r ∧ 0 ≤ r ∧ r ≤ 4000 ∧ Below w.heap.size w wr
set_option maxRecDepth 100000 in
set_option maxHeartbeats 1000000 in
theorem light_any (t : Tm) : ∀ (v : Value) (d left : Int) (w : World), Lies No w t v → 0 ≤ d → d ≤ 1000 → -1 ≤ left → left ≤ 4000 → Calls Try.prog 63 #[v, .int .i64 d, .int .i64 left] w (Lt t left w) := by
  induction t using Tm.ind with
  | h k n i re im l ih =>
    intro v d left w ht hd0 hd1 hl0 hl1
    have IH := Lib.hid ih
    have HT := Lib.hid ht
    rw [Lies] at ht
    obtain ⟨a, c, rfl, hf, hr⟩ := ht
    have HR := Lib.hid (And.intro hf hr)
    clear hf hr ih
    by_cases g1 : left < 1
    · go_enter Try.func63, Try.ntmps63
      go_wp2_with fail
      go_ret
      exact ⟨-1, rfl, by omega, by omega, fun h => by omega, ba w _⟩
    by_cases g2 : d > 700
    · go_enter Try.func63, Try.ntmps63
      go_wp2_with fail
      go_ret
      exact ⟨-1, rfl, by omega, by omega, fun h => by omega, ba w _⟩
    by_cases g3 : n.size > 400
    · have g3' : decide (((n.size : Nat) : Int) > 400) = true := by simp; omega
      go_enter Try.func63, Try.ntmps63
      go_wp2_with fail
      go_ret
      exact ⟨-1, rfl, by omega, by omega, fun h => by omega, ba w _⟩
    have g3' : decide (((n.size : Nat) : Int) > 400) = false := by simp; omega
    by_cases g4 : l.length > 60
    · have g4' : decide (((l.length : Nat) : Int) > 60) = true := by simp; omega
      go_enter Try.func63, Try.ntmps63
      go_wp2_with fail
      go_ret
      exact ⟨-1, rfl, by omega, by omega, fun h => by omega, ba w _⟩
    have g4' : decide (((l.length : Nat) : Int) > 60) = false := by simp; omega
    go_enter Try.func63, Try.ntmps63
    go_wp2_with fail
    go_loopg [2, 32] l.length (LRel w l left)
    case atStart => exact ⟨0, left - 1, by omega, by omega, by simp [sizeL], rfl, rfl, by omega, by omega, ba w _⟩
    case round =>
      obtain ⟨kk, r, hk, rfl, hs, rfl, rfl, hr0, hr1, hb⟩ := hrel
      have HS := Lib.hid hs
      clear hs
      by_cases hlt : kk < l.length
      · obtain ⟨b, o, v0, v1, v2, v3, v4, v5, hbl, _, h6, hlx, hix⟩ := HR.out.2.look hlt
        have h6' := h6.keep (X := No) (Keep.of_below hb) id
        have hix' := hix c
        obtain ⟨kq, nq, iq, req, imq, lq, aq, cq, hv, _⟩ := lies_form hlx
        obtain ⟨rfl, rfl, rfl, rfl, rfl, rfl⟩ := hv
        obtain ⟨e0, e1, e2, e3, e4, e5⟩ := h6'
        have HX := Lib.hid (And.intro hlx (And.intro hb (IH.out _ (List.getElem_mem hlt))))
        clear h6 hlx hix hb
        go_wp2_with fail
        refine (HX.out.2.2 _ _ _ _ ((HX.out.1.below HX.out.2.1).below (ba _ _)) (by omega) (by omega) (by omega) (by omega)).mono ?_
        rintro e w3 ⟨r', rfl, q0, q1, q2, hb3⟩
        have Q2 := Lib.hid q2
        clear q2
        have H3 := Lib.hid (HX.out.2.1.trans ((bt (ba wr _) hb3).mono HX.out.2.1.size))
        clear hb3 e0 e1 e2 e3 e4 e5
        by_cases hr' : r' < 0
        · go_wp2_with fail
          go_ret
          exact ⟨-1, rfl, by omega, by omega, fun h => by omega, H3.out⟩
        · go_wp2_with fail
          go_roundg (l.length - (kk + 1))
          case measure => omega
          case rel => exact ⟨kk + 1, r', hlt, rfl, by rw [sizeL_take hlt]; have a1 := HS.out; have a2 := Q2.out (by omega); omega, by go_num, rfl, by omega, q1, H3.out⟩
      · have HB := Lib.hid hb
        clear hb
        go_wp2_with fail
        go_ret
        refine ⟨r, rfl, by omega, hr1, fun _ => ?_, HB.out⟩
        have h1 := HS.out
        rw [List.take_of_length_le (by omega)] at h1
        have h2 : size (.mk k n i re im l) ≤ 1 + sizeL l := by rw [size]; split <;> omega
        omega
def LB (l : List Tm) (w : World) (e : Ending) (w' : World) : Prop := ∃ b : Bool, e = .returned (.bool b) ∧ (b = true → sizeL l ≤ 4000) ∧ Below w.heap.size w w'
def LRel2 (w : World) (l : List Tm) (g : Nat) (s3 s8 : Value) (wr : World) : Prop := ∃ (k : Nat) (r : Int), k ≤ l.length ∧ g = l.length - k ∧ r + (sizeL (l.take k) : Nat) ≤ 4000 ∧ s8 = .int .i64 k ∧ s3 = .int .i64 r ∧ 0 ≤ r ∧ r ≤ 4000 ∧ Below w.heap.size w wr
set_option maxRecDepth 100000 in
set_option maxHeartbeats 1000000 in
theorem Light_any (l : List Tm) (a : Option Addr) (c : Nat) (w : World) (hr : TRow No w l a 0) (hl : l.length ≤ 1000000000) : Calls Try.prog 34 #[.slice a l.length c] w (LB l w) := by
  have HR := Lib.hid hr
  clear hr
  go_enter Try.func34, Try.ntmps34
  go_wp2_with fail
  go_loopg [3, 8] l.length (LRel2 w l)
  case atStart => exact ⟨0, 4000, by omega, by omega, by simp [sizeL], rfl, rfl, by omega, by omega, br w⟩
  case round =>
    obtain ⟨kk, r, hk, rfl, hs, rfl, rfl, hr0, hr1, hb⟩ := hrel
    have HS := Lib.hid hs
    clear hs
    by_cases hlt : kk < l.length
    · obtain ⟨b, o, v0, v1, v2, v3, v4, v5, hbl, _, h6, hlx, hix⟩ := HR.out.look hlt
      have h6' := h6.keep (X := No) (Keep.of_below hb) id
      have hix' := hix c
      obtain ⟨kq, nq, iq, req, imq, lq, aq, cq, hv, _⟩ := lies_form hlx
      obtain ⟨rfl, rfl, rfl, rfl, rfl, rfl⟩ := hv
      obtain ⟨e0, e1, e2, e3, e4, e5⟩ := h6'
      have HX := Lib.hid (And.intro hlx hb)
      clear h6 hlx hix hb
      go_wp2_with fail
      refine (light_any _ _ _ _ _ ((HX.out.1.below HX.out.2).below (ba _ _)) (by omega) (by omega) (by omega) (by omega)).mono ?_
      rintro e w3 ⟨r', rfl, q0, q1, q2, hb3⟩
      have Q2 := Lib.hid q2
      clear q2
      have H3 := Lib.hid (HX.out.2.trans ((bt (ba wr _) hb3).mono HX.out.2.size))
      clear hb3 e0 e1 e2 e3 e4 e5
      by_cases h100 : 100 ≤ kk
      · go_wp2_with fail
        go_ret
        exact ⟨false, rfl, fun h => (by cases h), H3.out⟩
      · by_cases hr' : r' < 0
        · go_wp2_with fail
          go_ret
          exact ⟨false, rfl, fun h => (by cases h), H3.out⟩
        · go_wp2_with fail
          go_roundg (l.length - (kk + 1))
          case measure => omega
          case rel => exact ⟨kk + 1, r', hlt, rfl, by rw [sizeL_take hlt]; have a1 := HS.out; have a2 := Q2.out (by omega); omega, by go_num, rfl, by omega, q1, H3.out⟩
    · have HB := Lib.hid hb
      clear hb
      go_wp2_with fail
      go_ret
      refine ⟨true, rfl, fun _ => ?_, HB.out⟩
      have h1 := HS.out
      rw [List.take_of_length_le (by omega)] at h1
      omega
end Go.Proofs.Ythableojkjhicaa.lgs
namespace Go.Proofs.Ythableojkjhicaa.s7
set_option linter.unusedVariables false
open Go.ChangeShapes Go.WideShapes Go.ChangeAt Go.RowKit Go.Maps
open Go.Proofs.Ythableojkjhicaa.hp Go.Proofs.Ythableojkjhicaa.cel Go.Proofs.Ythableojkjhicaa.kp Go.Proofs.Ythableojkjhicaa.ob Go.Proofs.Ythableojkjhicaa.pm Go.Proofs.Ythableojkjhicaa.tm Go.Proofs.Ythableojkjhicaa.lie Go.Proofs.Ythableojkjhicaa.awk Go.Proofs.Ythableojkjhicaa.ppt
open Go.Proofs.Ythableojkjhicaa.rpt (putT HB frHB)
open Go.Proofs.Ythableojkjhicaa.atm (l0)
def tA : Tm := comp ⟨#[102]⟩ [var 0, atom ⟨#[97]⟩, var 0]
theorem putA : putT 50 tA ⟨[], l0, []⟩ = (1, 0, ⟨[jn 6 (2 * 256 + 3), 8, jn 2 3, 8], l0 ++ [⟨#[102]⟩] ++ [⟨#[97]⟩], [(0, 8)]⟩) := by rfl
/-- heap and names, and a variable's place -/
def SA (w : World) (p q b : Nat) (wr : World) : Prop := Mine w (Tim (Tim (HB TH p [] 50) (PO q l0)) (Blk b (rpt.BT 1 ⟨#[]⟩ 0 0 0 none 0 0))) wr
theorem frSA {p q b : Nat} : Fr (Tim (Tim (HB TH p [] 50) (PO q l0)) (Blk b (rpt.BT 1 ⟨#[]⟩ 0 0 0 none 0 0))) := (frHB.tim frPO).tim (Fr.blk _ _)
section
variable {w wr w' : World} {p q b : Nat}
theorem SA.below (h : SA w p q b wr) (hb : Below wr.heap.size wr w') : SA w p q b w' := Mine.below frSA h hb
theorem SA.drew (h : SA w p q b wr) : SA w p q b wr.drew := h.below (kp.bdr wr)
theorem SA.c (h : SA w p q b wr) : wr.cell? ⟨b, 0, none⟩ = some (.int .i64 1) ∧ wr.cell? ⟨b, 1, none⟩ = some (.string ⟨#[]⟩) ∧ wr.cell? ⟨b, 2, none⟩ = some (.int .i64 0) ∧ wr.cell? ⟨b, 3, none⟩ = some (.int .u64 0) ∧ wr.cell? ⟨b, 4, none⟩ = some (.int .u64 0) ∧ wr.cell? ⟨b, 5, none⟩ = some (.slice none 0 0) := by
  obtain ⟨N, ⟨K, M, _, hb, _, _⟩, _⟩ := h
  have := hb.1
  refine ⟨?_, ?_, ?_, ?_, ?_, ?_⟩ <;> simp [World.cell?, this]
def RA : Obj := .cells #[.int .i64 1, .string ⟨#[]⟩, .int .i64 0, .int .u64 0, .int .u64 0, .slice none 0 0, .int .i64 2, .string ⟨#[97]⟩, .int .i64 0, .int .u64 0, .int .u64 0, .slice none 0 0, .int .i64 1, .string ⟨#[]⟩, .int .i64 0, .int .u64 0, .int .u64 0, .slice none 0 0] 36 (0, 0)
theorem row_newX {X : Nat → Prop} (w : World) (cs : Array Value) (l : List Tm) (hX : ¬ X w.heap.size) (h : ∀ (m : Nat) (hm : m < l.length), ∃ v0 v1 v2 v3 v4 v5, cs[m * 6]? = some v0 ∧ cs[m * 6 + 1]? = some v1 ∧ cs[m * 6 + 2]? = some v2 ∧ cs[m * 6 + 3]? = some v3 ∧ cs[m * 6 + 4]? = some v4 ∧ cs[m * 6 + 5]? = some v5 ∧
    Lies X w l[m] (.agg #[v0, v1, v2, v3, v4, v5])) : TRow X (w.alloc (.cells cs 36)) l (some ⟨w.heap.size, 0, none⟩) 0 := by
  refine TRow.mk l 0 fun m hm => ?_
  obtain ⟨v0, v1, v2, v3, v4, v5, h0, h1, h2, h3, h4, h5, ht⟩ := h m hm
  have e := fun j x (hj : cs[j]? = some x) => alloc_cell w (.cells cs 36) cs 36 x j rfl hj
  refine ⟨w.heap.size, 0, v0, v1, v2, v3, v4, v5, rfl, hX, ?_, ht.below (kp.ba w _)⟩
  simp only [Nat.zero_add]
  exact ⟨e _ _ h0, e _ _ h1, e _ _ h2, e _ _ h3, e _ _ h4, e _ _ h5⟩
/-- the term is laid in memory -/
theorem lies_A {X : Nat → Prop} (w0 : World) {w2 : World} (hX : ¬ X w0.heap.size) (hb : Below (w0.heap.size + 1) (w0.alloc RA) w2) : Lies X w2 tA (.agg #[.int .i64 5, .string ⟨#[102]⟩, .int .i64 0, .int .u64 0, .int .u64 0, .slice (some ⟨w0.heap.size, 0, none⟩) 3 3]) := by
  have hrow := row_newX w0 #[.int .i64 1, .string ⟨#[]⟩, .int .i64 0, .int .u64 0, .int .u64 0, .slice none 0 0, .int .i64 2, .string ⟨#[97]⟩, .int .i64 0, .int .u64 0, .int .u64 0, .slice none 0 0, .int .i64 1, .string ⟨#[]⟩, .int .i64 0, .int .u64 0, .int .u64 0, .slice none 0 0] [var 0, atom ⟨#[97]⟩, var 0] hX (fun m hm => by
    match m, hm with
    | 0, _ => exact ⟨_, _, _, _, _, _, rfl, rfl, rfl, rfl, rfl, rfl, pla.var_lies X 0 w0 (by omega) (by omega)⟩
    | 1, _ => exact ⟨_, _, _, _, _, _, rfl, rfl, rfl, rfl, rfl, rfl, atom_lies X ⟨#[97]⟩ w0 (by decide)⟩
    | 2, _ => exact ⟨_, _, _, _, _, _, rfl, rfl, rfl, rfl, rfl, rfl, pla.var_lies X 0 w0 (by omega) (by omega)⟩)
  exact comp_lies (n := ⟨#[102]⟩) (c := 3) (by decide) (by simp) (by simp [maxLen]) (hrow.below (by rw [kp.alloc_size]; exact hb))
def vA (a : Nat) : Value := .agg #[.int .i64 5, .string ⟨#[102]⟩, .int .i64 0, .int .u64 0, .int .u64 0, .slice (some ⟨a, 0, none⟩) 3 3]
/-- with the term beside -/
def SC (w : World) (p q b a : Nat) (wr : World) : Prop := ∃ N, Tim (Tim (HB TH p [] 50) (PO q l0)) (Blk b (rpt.BT 1 ⟨#[]⟩ 0 0 0 none 0 0)) wr N ∧ Below w.heap.size w wr ∧ (∀ k, N k → w.heap.size ≤ k) ∧ Lies N wr tA (vA a)
theorem SC.sa {a : Nat} (h : SC w p q b a wr) : SA w p q b wr := by
  obtain ⟨N, h1, h2, h3, _⟩ := h
  exact ⟨N, h1, h2, h3⟩
theorem SC.below {a : Nat} (h : SC w p q b a wr) (hb : Below wr.heap.size wr w') : SC w p q b a w' := by
  obtain ⟨N, h1, h2, h3, h4⟩ := h
  exact ⟨N, frSA.below h1 hb, h2.trans (hb.mono h2.size), h3, h4.below hb⟩
theorem SC.drew {a : Nat} (h : SC w p q b a wr) : SC w p q b a wr.drew := h.below (kp.bdr wr)
theorem SC.mk (h : SA w p q b wr) (hb : Below (wr.heap.size + 1) (wr.alloc RA) w') : SC w p q b wr.heap.size w' := by
  obtain ⟨N, h1, h2, h3⟩ := h
  have hlt := frSA.lt h1
  have hbb : Below wr.heap.size wr w' := (kp.ba wr RA).trans (hb.mono (Nat.le_succ _))
  exact ⟨N, frSA.below h1 hbb, h2.trans (hbb.mono h2.size), h3, lies_A wr (fun hn => by have := hlt _ hn; omega) hb⟩
theorem tim1 {A' B : Ob} {K M N : Nat → Prop} (g : Fr B) (b : B wr M) (d : ∀ k, K k → ¬ M k) (e : ∀ k, N k ↔ K k ∨ M k) (n : Nx A' wr K w') : Nx (Tim A' B) wr N w' := by
  have hlt := g.lt b
  obtain ⟨K', a', k, s⟩ := n
  refine ⟨fun i => K' i ∨ M i, ⟨K', M, a', g.keep b k (fun i hm hk => d i hk hm), fun i hk hm => ?_, fun _ => Iff.rfl⟩, k.mono fun i hi => (e i).2 (Or.inl hi), fun i hi => ?_⟩
  · rcases s i hk with h | h
    · exact d i h hm
    · have := hlt i hm; omega
  · rcases hi with hi | hi
    · exact (s i hi).imp (fun h => (e i).2 (Or.inl h)) id
    · exact Or.inl ((e i).2 (Or.inr hi))
/-- behind the call -/
def SB (w : World) (p q b : Nat) (wr : World) : Prop := Mine w (Tim (Tim (HB TH p [jn 6 (2 * 256 + 3), 8, jn 2 3, 8] 50) (PO q (l0 ++ [⟨#[102]⟩] ++ [⟨#[97]⟩]))) (Blk b (rpt.BT 1 ⟨#[]⟩ 0 0 0 none 0 0))) wr
theorem putS {a : Nat} (h : SC w p q b a wr) :
    Calls Try.prog 19 #[.pointer (some ⟨p, 0, none⟩), .pointer (some ⟨q, 0, none⟩), vA a, .map none] wr fun e w' => e = .returned (.tuple #[.int .u64 1, .int .i64 0]) ∧ SB w p q b w' := by
  obtain ⟨N, ⟨K, M, hK, hM, d, e⟩, h2, h3, h4⟩ := h
  refine (pPut_new tA _ hK (h4.off fun k _ hk => (e k).2 (Or.inl hk)) (by decide) _ putA.symm).mono fun e' w' ⟨he, nn⟩ => ⟨he, ?_⟩
  obtain ⟨K', a', k, s⟩ := tim1 (Fr.blk _ _) hM d e nn
  exact ⟨K', a', h2.trans (k.to_below h3 h2.size), fun j hj => (s j hj).elim (h3 j) (Nat.le_trans h2.size)⟩
theorem SB.heap (h : SB w p q b wr) : ∃ F, Hp TH wr p F [jn 6 (2 * 256 + 3), 8, jn 2 3, 8] 50 := by
  obtain ⟨N, ⟨K, M, ⟨K2, M2, hK, _⟩, _⟩, _⟩ := h
  exact ⟨K2, hK⟩
theorem SB.bel (h : SB w p q b wr) : Below w.heap.size w wr := by
  obtain ⟨N, _, hb, _⟩ := h
  exact hb
theorem SB.below (h : SB w p q b wr) (hb : Below wr.heap.size wr w') : SB w p q b w' := Mine.below ((frHB.tim frPO).tim (Fr.blk _ _)) h hb
theorem SB.c (h : SB w p q b wr) : wr.cell? ⟨b, 0, none⟩ = some (.int .i64 1) ∧ wr.cell? ⟨b, 1, none⟩ = some (.string ⟨#[]⟩) ∧ wr.cell? ⟨b, 2, none⟩ = some (.int .i64 0) ∧ wr.cell? ⟨b, 3, none⟩ = some (.int .u64 0) ∧ wr.cell? ⟨b, 4, none⟩ = some (.int .u64 0) ∧ wr.cell? ⟨b, 5, none⟩ = some (.slice none 0 0) := by
  obtain ⟨N, ⟨K, M, _, hb, _, _⟩, _⟩ := h
  have := hb.1
  refine ⟨?_, ?_, ?_, ?_, ?_, ?_⟩ <;> simp [World.cell?, this]
end
end Go.Proofs.Ythableojkjhicaa.s7
namespace Go.Proofs.Ythableojkjhicaa.sl
set_option linter.unusedVariables false
open Go.ChangeShapes Go.WideShapes Go.ChangeAt Go.RowKit Go.Maps
open Go.Proofs.Ythableojkjhicaa.hp Go.Proofs.Ythableojkjhicaa.cel Go.Proofs.Ythableojkjhicaa.kp Go.Proofs.Ythableojkjhicaa.ob Go.Proofs.Ythableojkjhicaa.pm Go.Proofs.Ythableojkjhicaa.tm Go.Proofs.Ythableojkjhicaa.lie Go.Proofs.Ythableojkjhicaa.ppt
open Go.Proofs.Ythableojkjhicaa.rpt (putT HB frHB)
open Go.Proofs.Ythableojkjhicaa.atm (l0)
section
variable {A B C : Ob} {W w w' : World}
theorem Mine.two (f : Fr A) (h : Mine W (Tim A B) w) : ∃ M, B w M ∧ (∀ k, M k → W.heap.size ≤ k) ∧ Below W.heap.size W w ∧ ∀ B' w', Nx B' w M w' → Mine W (Tim A B') w' := by
  obtain ⟨N, ⟨K, M, a, b, d, e⟩, b0, g⟩ := h
  refine ⟨M, b, fun k hk => g k ((e k).2 (Or.inr hk)), b0, fun B' w' nn => ?_⟩
  obtain ⟨H, t, k, s⟩ := nn
  have hlt := f.lt a
  refine ⟨fun i => K i ∨ H i, ⟨K, H, f.keep a k (fun i hm hk => d i hm hk), t, fun i hk hm => ?_, fun _ => Iff.rfl⟩, b0.trans (k.to_below (fun i hi => g i ((e i).2 (Or.inr hi))) b0.size), fun i hi => ?_⟩
  · rcases s i hm with h | h
    · exact d i hk h
    · have := hlt i hk; omega
  · rcases hi with hi | hi
    · exact g i ((e i).2 (Or.inl hi))
    · exact (s i hi).elim (fun h => g i ((e i).2 (Or.inr h))) (Nat.le_trans b0.size)
theorem Mine.one (f : Fr B) (h : Mine W (Tim A B) w) : ∃ M, A w M ∧ (∀ k, M k → W.heap.size ≤ k) ∧ Below W.heap.size W w ∧ ∀ A' w', Nx A' w M w' → Mine W (Tim A' B) w' := by
  obtain ⟨M, a, s, b, up⟩ := Mine.two f (h.imp fun _ t => t.swap)
  exact ⟨M, a, s, b, fun A' w' n => (up A' w' n).imp fun _ t => t.swap⟩
theorem Tim.left_ {N : Nat → Prop} (h : Tim A (Tim B C) w N) : Tim (Tim A B) C w N := by
  obtain ⟨K, M, a, ⟨K1, M1, b, c, d1, e1⟩, d, e⟩ := h
  refine ⟨fun k => K k ∨ K1 k, M1, ⟨K, K1, a, b, fun k h1 h2 => d k h1 ((e1 k).2 (Or.inl h2)), fun _ => Iff.rfl⟩, c, fun k h1 h2 => ?_, fun k => ?_⟩
  · rcases h1 with h1 | h1
    · exact d k h1 ((e1 k).2 (Or.inr h2))
    · exact d1 k h1 h2
  · rw [e k, e1 k, or_assoc]
/-- a block turns -/
theorem Nx.blk {b : Nat} {o o' : Obj} {M : Nat → Prop} (h : Blk b o w M) (k : kp.Keep (fun q => q = b) w w') (hb : w'.heap[b]? = some o') : Nx (Blk b o') w M w' :=
  ⟨fun q => q = b, ⟨hb, fun _ => Iff.rfl⟩, k.mono fun q e => (h.2 q).2 e, fun q e => Or.inl ((h.2 q).2 e)⟩
/-- terms of the call's are off what was made since -/
theorem lies_off {T : Tm} {v : Value} {M : Nat → Prop} (h : Lies No W T v) (s : ∀ k, M k → W.heap.size ≤ k) (b : Below W.heap.size W w) : Lies M w T v :=
  Lies.keep (Keep.of_below (F := No) b) (fun k hk hM => by have := s k hM; omega) _ _ h
end
/-- a box, a heap, names -/
def OB (b : Nat) (o : Obj) (p q : Nat) (h : List Int) (m : Int) (a : List ByteArray) : Ob := Tim (Blk b o) (Tim (HB TH p h m) (PO q a))
theorem frOB {b : Nat} {o : Obj} {p q : Nat} {h : List Int} {m : Int} {a : List ByteArray} : Fr (OB b o p q h m a) := (Fr.blk _ _).tim (frHB.tim frPO)
section
variable {w w1 w2 w3 wr : World} {b p q : Nat} {o : Obj} {h : List Int} {m : Int} {a : List ByteArray}
theorem OB.start {o : Obj} (hb : Below (w.alloc o).heap.size (w.alloc o) w1) (h1 : hp.Made TH w1 [] m w2) (h2 : atm.Made w2 l0 w3) : Mine w (OB w.heap.size o w1.heap.size w2.heap.size [] m l0) w3 := by
  have m0 : Mine w (Blk w.heap.size o) (w.alloc o) := ⟨fun k => k = w.heap.size, ⟨kp.alloc_at w o, fun _ => Iff.rfl⟩, kp.ba w o, fun k e => by omega⟩
  have m1 := m0.below (Fr.blk _ _) hb
  obtain ⟨F, a, b, s⟩ := h1
  have m2 := m1.more (Fr.blk _ _) b (B := HB TH w1.heap.size [] m) a s
  obtain ⟨F2, a2, b2, s2⟩ := h2
  have m3 := m2.more ((Fr.blk _ _).tim frHB) b2 (B := PO w2.heap.size l0) a2 s2
  exact m3.imp fun _ t => t.right_
theorem OB.box {v0 v1 v2 v3 v4 v5 : Value} {t : TypeId} {C : Ob} (h : Mine w (Tim (OB b (.cells #[v0, v1, v2, v3, v4, v5] t (0, 0)) p q h m a) C) wr) : wr.cell? ⟨b, 0, none⟩ = some v0 ∧ wr.cell? ⟨b, 1, none⟩ = some v1 ∧ wr.cell? ⟨b, 2, none⟩ = some v2 ∧ wr.cell? ⟨b, 3, none⟩ = some v3 ∧ wr.cell? ⟨b, 4, none⟩ = some v4 ∧ wr.cell? ⟨b, 5, none⟩ = some v5 := by
  obtain ⟨N, ⟨K, M, ⟨K1, K2, hb, _⟩, _⟩, _⟩ := h
  have := hb.1
  refine ⟨?_, ?_, ?_, ?_, ?_, ?_⟩ <;> simp [World.cell?, this]
theorem OB.heap {C : Ob} (hm : Mine w (Tim (OB b o p q h m a) C) wr) : ∃ F, Hp TH wr p F h m := by
  obtain ⟨N, ⟨K, M, ⟨K1, K2, _, ⟨K3, K4, x, _⟩, _⟩, _⟩, _⟩ := hm
  exact ⟨_, x⟩
theorem OB.names {C : Ob} (hm : Mine w (Tim (OB b o p q h m a) C) wr) : ∃ F, atm.Tab wr q F a := by
  obtain ⟨N, ⟨K, M, ⟨K1, K2, _, ⟨K3, K4, x, y, _⟩, _⟩, _⟩, _⟩ := hm
  exact ⟨_, y⟩
/-- Put of a term of the call's -/
theorem OB.put {C : Ob} (fC : Fr C) {T : Tm} {v : Value} (hm : Mine w (Tim (OB b o p q h m a) C) wr) (ht : Lies No w T v) (ha : a.length + size T ≤ 4096) (R : Int × Int × S) (hR : R = putT m T ⟨h, a, []⟩) :
    Calls Try.prog 19 #[.pointer (some ⟨p, 0, none⟩), .pointer (some ⟨q, 0, none⟩), v, .map none] wr fun e w' => e = .returned (.tuple #[.int .u64 R.1, .int .i64 R.2.1]) ∧ Mine w (Tim (OB b o p q R.2.2.h m R.2.2.a) C) w' := by
  have h2 : Mine w (Tim (Tim (Blk b o) C) (Tim (HB TH p h m) (PO q a))) wr := hm.imp fun _ t => t.rot
  obtain ⟨M, hM, hs, hb, up⟩ := Mine.two ((Fr.blk _ _).tim fC) h2
  exact (pPut_new T v hM (lies_off ht hs hb) ha R hR).mono fun e w' ⟨he, nn⟩ => ⟨he, (up _ _ nn).imp fun _ t => t.rot⟩
end
/-- one term in a slice of its own -/
theorem one_row {T : Tm} {v : Value} (w : World) {v0 v1 v2 v3 v4 v5 : Value} (hv : v = .agg #[v0, v1, v2, v3, v4, v5]) (h : Lies No w T v) : TRow No (w.alloc (.cells #[v0, v1, v2, v3, v4, v5] 36)) [T] (some ⟨w.heap.size, 0, none⟩) 0 :=
  s7.row_newX w _ [T] id fun m hm => by
    match m, hm with
    | 0, _ => exact ⟨v0, v1, v2, v3, v4, v5, rfl, rfl, rfl, rfl, rfl, rfl, hv ▸ h⟩
theorem size_one {T : Tm} (h : sizeL [T] ≤ 4000) : size T ≤ 4000 := by simpa [sizeL] using h
end Go.Proofs.Ythableojkjhicaa.sl
