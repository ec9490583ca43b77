/- The law TrailOnce holds: for every input its Go function returns true and leaves its arguments as they were. No condition beyond the row's own. -/
import Derived.Test.YtbonlmekphkahaaRows
import Derived.WalkKit
import Derived.ProofKit
import Derived.OpenShut
import Derived.SizedLaws
import Derived.Test.YtbonlmekphkahaaT6
import Derived.Test.YtbonlmekphkahaaCls
import Derived.LoopTactic
import Derived.Deep.DeepCutAuto
import Derived.Deep.CutBlock
import Derived.Deep.LoopGhost
namespace Go.Proofs.Ytbonlmekphkahaa.trailOnce
open Go.ChangeShapes Go.WideShapes Go.ChangeAt Go.RowKit
open Go.ChangeMaps (open_string)
open Go.Proofs.Ytbonlmekphkahaa.hp Go.Proofs.Ytbonlmekphkahaa.cel Go.Proofs.Ytbonlmekphkahaa.kp Go.Proofs.Ytbonlmekphkahaa.ob Go.Proofs.Ytbonlmekphkahaa.arg
set_option linter.unusedVariables false
theorem own : ownKnob Try.prog.godebug = none := by kernel_rfl
theorem laidOut : laidOutB Try.prog = true := by kernel_rfl
/-- both pairs, apart -/
def Both (W : World) (p q p2 q2 : Nat) (la : List Int) (La : List Wr) (lb : List Int) (Lb : List Wr) (wr : World) : Prop := Mine W (Tim (SO TH TP p q la 60 La) (SO TH TP p2 q2 lb 60 Lb)) wr
theorem frB {p q p2 q2 : Nat} {la : List Int} {La : List Wr} {lb : List Int} {Lb : List Wr} : Fr (Tim (SO TH TP p q la 60 La) (SO TH TP p2 q2 lb 60 Lb)) := (frS frmP).tim (frS frmP)
/-- .. and the call's block -/
def SX (W : World) (p q p2 q2 b : Nat) (x : Cl) (la : List Int) (La : List Wr) (lb : List Int) (Lb : List Wr) (wr : World) : Prop := Mine W (Tim (Tim (SO TH TP p q la 60 La) (SO TH TP p2 q2 lb 60 Lb)) (Blk b (.cells #[.int .i64 x.1, .int .i64 x.2.1, .int .u64 x.2.2] 36 (0, 0)))) wr
section
variable {W wr w2 : World} {p q p2 q2 b : Nat} {x : Cl} {la : List Int} {La : List Wr} {lb : List Int} {Lb : List Wr}
theorem SX.both (h : SX W p q p2 q2 b x la La lb Lb wr) : Both W p q p2 q2 la La lb Lb wr := Mine.fst h
theorem SX.of (h : Both W p q p2 q2 la La lb Lb wr) : SX W p q p2 q2 wr.heap.size x la La lb Lb (wr.alloc (.cells #[.int .i64 x.1, .int .i64 x.2.1, .int .u64 x.2.2] 36)) := Mine.blk frB h _
theorem SX.cells (h : SX W p q p2 q2 b x la La lb Lb wr) : wr.cell? ⟨b, 0, none⟩ = some (.int .i64 x.1) ∧ wr.cell? ⟨b, 1, none⟩ = some (.int .i64 x.2.1) ∧ wr.cell? ⟨b, 2, none⟩ = some (.int .u64 x.2.2) := by
  obtain ⟨N, c, _⟩ := Mine.at_ (Mine.snd h)
  exact ⟨(Blk.cell c rfl).1, (Blk.cell c rfl).1, (Blk.cell c rfl).1⟩
theorem SX.pa (h : SX W p q p2 q2 b x la La lb Lb wr) : ∃ K, hp.Sys TH TP wr p q K la 60 La ∧ ∀ l' L' w', SN TH TP wr p q K l' 60 L' w' → SX W p q p2 q2 b x l' L' lb Lb w' := by
  obtain ⟨N, a, _, up⟩ := Mine.at_ h
  obtain ⟨K, a1, up1⟩ := Tim.at1 (Fr.blk _ _) a
  obtain ⟨K2, a2, up2⟩ := Tim.at1 (frS frmP) a1
  exact ⟨K2, a2, fun l' L' w' n => up _ _ (up1 _ _ (up2 (SO TH TP p q l' 60 L') _ n))⟩
theorem SX.pb (h : SX W p q p2 q2 b x la La lb Lb wr) : ∃ K, hp.Sys TH TP wr p2 q2 K lb 60 Lb ∧ ∀ l' L' w', SN TH TP wr p2 q2 K l' 60 L' w' → SX W p q p2 q2 b x la La l' L' w' := by
  obtain ⟨N, a, _, up⟩ := Mine.at_ h
  obtain ⟨K, a1, up1⟩ := Tim.at1 (Fr.blk _ _) a
  obtain ⟨K2, a2, up2⟩ := Tim.at2 (frS frmP) a1
  exact ⟨K2, a2, fun l' L' w' n => up _ _ (up1 _ _ (up2 (SO TH TP p2 q2 l' 60 L') _ n))⟩
theorem Both.pa (h : Both W p q p2 q2 la La lb Lb wr) : ∃ K, hp.Sys TH TP wr p q K la 60 La ∧ ∀ l' L' w', SN TH TP wr p q K l' 60 L' w' → Both W p q p2 q2 l' L' lb Lb w' := by
  obtain ⟨N, a, _, up⟩ := Mine.at_ h
  obtain ⟨K2, a2, up2⟩ := Tim.at1 (frS frmP) a
  exact ⟨K2, a2, fun l' L' w' n => up _ _ (up2 (SO TH TP p q l' 60 L') _ n)⟩
theorem Both.pb (h : Both W p q p2 q2 la La lb Lb wr) : ∃ K, hp.Sys TH TP wr p2 q2 K lb 60 Lb ∧ ∀ l' L' w', SN TH TP wr p2 q2 K l' 60 L' w' → Both W p q p2 q2 la La l' L' w' := by
  obtain ⟨N, a, _, up⟩ := Mine.at_ h
  obtain ⟨K2, a2, up2⟩ := Tim.at2 (frS frmP) a
  exact ⟨K2, a2, fun l' L' w' n => up _ _ (up2 (SO TH TP p2 q2 l' 60 L') _ n)⟩
theorem setA (n u : Int) (hu : W64 u) (hL : La.length < 1099511627776) (h : SX W p q p2 q2 b x la La lb Lb wr) : Calls Try.prog 11 #[.pointer (some ⟨q, 0, none⟩), .pointer (some ⟨p, 0, none⟩), .int .i64 n, .int .u64 u] wr fun e w' => e = .returned (.bool (gb la n)) ∧ SX W p q p2 q2 b x (sx la n u) (tx la La n) lb Lb w' := by
  obtain ⟨K, a, up⟩ := h.pa
  exact (tset_any a hL n u hu).mono fun e w' ⟨he, nx⟩ => ⟨he, up _ _ _ nx⟩
theorem setB (n u : Int) (hu : W64 u) (hL : Lb.length < 1099511627776) (h : SX W p q p2 q2 b x la La lb Lb wr) : Calls Try.prog 11 #[.pointer (some ⟨q2, 0, none⟩), .pointer (some ⟨p2, 0, none⟩), .int .i64 n, .int .u64 u] wr fun e w' => e = .returned (.bool (gb lb n)) ∧ SX W p q p2 q2 b x la La (sx lb n u) (tx lb Lb n) w' := by
  obtain ⟨K, a, up⟩ := h.pb
  exact (tset_any a hL n u hu).mono fun e w' ⟨he, nx⟩ => ⟨he, up _ _ _ nx⟩
theorem undoA (n : Int) (hL : La.length ≤ 1099511627776) (h : Both W p q p2 q2 la La lb Lb wr) : Calls Try.prog 13 #[.pointer (some ⟨q, 0, none⟩), .pointer (some ⟨p, 0, none⟩), .int .i64 n] wr fun e w' => e = .returned (.int .i64 (nb La n)) ∧ Both W p q p2 q2 (ux la La n) (kx La n) lb Lb w' := by
  obtain ⟨K, a, up⟩ := h.pa
  exact (tundo_any a hL n).mono fun e w' ⟨he, nx⟩ => ⟨he, up _ _ _ nx⟩
theorem undoB (n : Int) (hL : Lb.length ≤ 1099511627776) (h : Both W p q p2 q2 la La lb Lb wr) : Calls Try.prog 13 #[.pointer (some ⟨q2, 0, none⟩), .pointer (some ⟨p2, 0, none⟩), .int .i64 n] wr fun e w' => e = .returned (.int .i64 (nb Lb n)) ∧ Both W p q p2 q2 la La (ux lb Lb n) (kx Lb n) w' := by
  obtain ⟨K, a, up⟩ := h.pb
  exact (tundo_any a hL n).mono fun e w' ⟨he, nx⟩ => ⟨he, up _ _ _ nx⟩
theorem pushA (u : Int) (hu : W64 u) (h : Both W p q p2 q2 la La lb Lb wr) : Calls Try.prog 16 #[.pointer (some ⟨p, 0, none⟩), .int .u64 u] wr fun e w' => e = .returned (.tuple #[.int .i64 (pv la 60), .int .i64 (pe la 60)]) ∧ Both W p q p2 q2 (px la 60 u) La lb Lb w' := by
  obtain ⟨K, ⟨⟨F, G, a1, b1, c, d⟩, g⟩, up⟩ := h.pa
  exact (push_any a1 u hu).mono fun e w' ⟨he, nx⟩ => ⟨he, up _ _ _ (SN.heap frmP a1 b1 c d g nx)⟩
theorem pushB (u : Int) (hu : W64 u) (h : Both W p q p2 q2 la La lb Lb wr) : Calls Try.prog 16 #[.pointer (some ⟨p2, 0, none⟩), .int .u64 u] wr fun e w' => e = .returned (.tuple #[.int .i64 (pv lb 60), .int .i64 (pe lb 60)]) ∧ Both W p q p2 q2 la La (px lb 60 u) Lb w' := by
  obtain ⟨K, ⟨⟨F, G, a1, b1, c, d⟩, g⟩, up⟩ := h.pb
  exact (push_any a1 u hu).mono fun e w' ⟨he, nx⟩ => ⟨he, up _ _ _ (SN.heap frmP a1 b1 c d g nx)⟩
theorem lenA (h : Both W p q p2 q2 la La lb Lb wr) : Calls Try.prog 19 #[.pointer (some ⟨q, 0, none⟩)] wr fun e w' => e = .returned (.int .i64 La.length) ∧ wr = w' := by
  obtain ⟨K, ⟨⟨F, G, a1, b1, c, d⟩, g⟩, up⟩ := h.pa
  have := tlen_any b1; rwa [pl_len] at this
theorem lenB (h : Both W p q p2 q2 la La lb Lb wr) : Calls Try.prog 19 #[.pointer (some ⟨q2, 0, none⟩)] wr fun e w' => e = .returned (.int .i64 Lb.length) ∧ wr = w' := by
  obtain ⟨K, ⟨⟨F, G, a1, b1, c, d⟩, g⟩, up⟩ := h.pb
  have := tlen_any b1; rwa [pl_len] at this
theorem markA (h : Both W p q p2 q2 la La lb Lb wr) : Calls Try.prog 20 #[.pointer (some ⟨q, 0, none⟩)] wr fun e w' => e = .returned (.int .i64 La.length) ∧ wr = w' := by
  obtain ⟨K, ⟨⟨F, G, a1, b1, c, d⟩, g⟩, up⟩ := h.pa
  have := tmark_any b1; rwa [pl_len] at this
theorem hlenA (h : Both W p q p2 q2 la La lb Lb wr) : Calls Try.prog 24 #[.pointer (some ⟨p, 0, none⟩)] wr fun e w' => e = .returned (.int .i64 la.length) ∧ wr = w' := by
  obtain ⟨K, ⟨⟨F, G, a1, b1, c, d⟩, g⟩, up⟩ := h.pa
  exact len_any a1
theorem getA (n : Int) (h : Both W p q p2 q2 la La lb Lb wr) : Calls Try.prog 25 #[.pointer (some ⟨p, 0, none⟩), .int .i64 n] wr fun e w' => e = .returned (.tuple #[.int .u64 (gv la n), .bool (gb la n)]) ∧ wr = w' := by
  obtain ⟨K, ⟨⟨F, G, a1, b1, c, d⟩, g⟩, up⟩ := h.pa
  exact get_any a1 n
theorem getB (n : Int) (h : Both W p q p2 q2 la La lb Lb wr) : Calls Try.prog 25 #[.pointer (some ⟨p2, 0, none⟩), .int .i64 n] wr fun e w' => e = .returned (.tuple #[.int .u64 (gv lb n), .bool (gb lb n)]) ∧ wr = w' := by
  obtain ⟨K, ⟨⟨F, G, a1, b1, c, d⟩, g⟩, up⟩ := h.pb
  exact get_any a1 n
theorem Both.le (h : Both W p q p2 q2 la La lb Lb wr) : (la.length : Int) ≤ 60 := by
  obtain ⟨K, ⟨⟨F, G, a1, _⟩, _⟩, _⟩ := h.pa
  exact a1.fits
theorem Both.start (h : Mine W (Tim (Tim (Tim (HO TH p [] 60) (HO TH p2 [] 60)) (TO TP q [])) (TO TP q2 [])) wr) : Both W p q p2 q2 [] [] [] [] wr := by
  refine h.imp fun N t => ?_
  obtain ⟨N3, U, ⟨N2, T, ⟨H1, H2, h1, h2, d1, e1⟩, t, d2, e2⟩, u, d3, e3⟩ := t
  refine ⟨fun k => H1 k ∨ T k, fun k => H2 k ∨ U k, Sys.of_tim Gd.nil ⟨H1, T, h1, t, fun k a b => d2 k ((e1 k).2 (Or.inl a)) b, fun _ => Iff.rfl⟩, Sys.of_tim Gd.nil ⟨H2, U, h2, u, fun k a b => d3 k ((e2 k).2 (Or.inl ((e1 k).2 (Or.inr a)))) b, fun _ => Iff.rfl⟩, ?_, fun k => ?_⟩
  · rintro k (a | a) (b | b)
    · exact d1 k a b
    · exact d3 k ((e2 k).2 (Or.inl ((e1 k).2 (Or.inl a)))) b
    · exact d2 k ((e1 k).2 (Or.inr b)) a
    · exact d3 k ((e2 k).2 (Or.inr a)) b
  · rw [e3 k, e2 k, e1 k]
    constructor
    · rintro (((a | a) | a) | a)
      · exact Or.inl (Or.inl a)
      · exact Or.inr (Or.inl a)
      · exact Or.inl (Or.inr a)
      · exact Or.inr (Or.inr a)
    · rintro ((a | a) | (a | a))
      · exact Or.inl (Or.inl (Or.inl a))
      · exact Or.inl (Or.inr a)
      · exact Or.inl (Or.inl (Or.inr a))
      · exact Or.inr a
theorem tx_len (l : List Int) (L : List Wr) (n : Int) : (tx l L n).length ≤ L.length + 1 := by unfold tx; split <;> simp
theorem nb_self (L : List Wr) : nb L L.length = 0 := by unfold nb; rw [if_pos ⟨by omega, by omega⟩]; omega
theorem ux_self (l : List Int) (L : List Wr) : ux l L L.length = l := by
  unfold ux; rw [if_pos ⟨by omega, by omega⟩, Int.toNat_natCast, List.drop_length]; rfl
theorem kx_self (L : List Wr) : kx L L.length = L := by
  unfold kx; rw [if_pos ⟨by omega, by omega⟩, Int.toNat_natCast, List.take_length]
theorem ub_add (l : List Int) (L M : List Wr) : ub l (L ++ M) = ub (ub l M) L := by unfold ub; rw [List.foldr_append]
theorem two_parts (l : List Int) (L : List Wr) {j : Nat} (hj : j ≤ L.length) : nb L j = (L.length : Int) - j ∧ nb (kx L j) 0 = j ∧ ux (ux l L j) (kx L j) 0 = ub l L ∧ nb L 0 = L.length ∧ ux l L 0 = ub l L := by
  have hk : kx L j = L.take j := by unfold kx; rw [if_pos ⟨by omega, by omega⟩, Int.toNat_natCast]
  have hl : (L.take j).length = j := by simp; omega
  refine ⟨?_, ?_, ?_, ?_, ?_⟩
  · unfold nb; rw [if_pos ⟨by omega, by omega⟩]
  · rw [hk]; unfold nb; rw [hl, if_pos ⟨by omega, by omega⟩]; omega
  · rw [hk]; unfold ux; rw [hl, if_pos ⟨by omega, by omega⟩, if_pos ⟨by omega, by omega⟩, Int.toNat_natCast]
    show ub (ub l (L.drop j)) (L.take j) = _
    rw [← ub_add, List.take_append_drop]
  · unfold nb; rw [if_pos ⟨by omega, by omega⟩]; omega
  · unfold ux; rw [if_pos ⟨by omega, by omega⟩]; rfl
end
theorem u64_small {n : Int} (h0 : 0 ≤ n) (h1 : n < 18446744073709551616) : IntKind.u64.wrap n = n := by
  have e : IntKind.u64.wrap n = n % 18446744073709551616 := by unfold IntKind.wrap; simp [IntKind.signed, IntKind.bits]
  rw [e]; omega
theorem rem_small (a : Int) (n : Nat) (hn : n ≤ 30) : ∃ j : Nat, wrap64 ((IntKind.u64.wrap a).tmod ((n : Int) + 1)) = j ∧ j ≤ n := by
  have e : IntKind.u64.wrap a = a % 18446744073709551616 := by unfold IntKind.wrap; simp [IntKind.signed, IntKind.bits]
  have h0 : 0 ≤ a % 18446744073709551616 := by omega
  rw [e, Int.tmod_eq_emod_of_nonneg h0]
  have h1 : 0 ≤ (a % 18446744073709551616) % ((n : Int) + 1) := Int.emod_nonneg _ (by omega)
  have h2 : (a % 18446744073709551616) % ((n : Int) + 1) < (n : Int) + 1 := Int.emod_lt_of_pos _ (by omega)
  generalize (a % 18446744073709551616) % ((n : Int) + 1) = r at *
  obtain ⟨j, rfl⟩ := Int.eq_ofNat_of_zero_le h1
  exact ⟨j, by unfold wrap64; omega, by omega⟩
def R1 (W : World) (p q p2 q2 N : Nat) (gk : Nat) (i : Value) (wr : World) : Prop := ∃ (k : Nat) (l : List Int), k ≤ N ∧ gk = N - k ∧ i = .int .i64 k ∧ Both W p q p2 q2 l [] l [] wr
def R2 (W : World) (p q p2 q2 N : Nat) (gk : Nat) (i : Value) (wr : World) : Prop := ∃ (k : Nat) (l : List Int) (L : List Wr), k ≤ N ∧ L.length ≤ k ∧ L.length ≤ 30 ∧ gk = N - k ∧ i = .int .i64 k ∧ Both W p q p2 q2 l L l L wr
set_option maxHeartbeats 16000000 in
set_option maxRecDepth 100000 in
theorem walk (w : World) (a0 : Option Addr) (n0 c0 : Nat) (t0 : List Int) (x0 : Ints w a0 n0 t0) (a1 : Option Addr) (n1 c1 : Nat) (t1 : List Cl) (x1 : CRow w a1 n1 t1) (a2 : Int) (w2 : (Lit.int .i64 a2).wf = true) :
    Calls Try.prog 7 #[.slice a0 n0 c0, .slice a1 n1 c1, .int .i64 a2] w fun e w' => e = .returned (.bool true) ∧ Below w.heap.size w w' := by
  have hn0 : n0 ≤ 17592186044416 := by have := x0.reach; omega
  have hn1 : n1 ≤ 8796093022208 := by have := x1.reach; omega
  have X := Lib.hid x0
  have Y := Lib.hid x1
  have HW2 := Lib.hid (wf_i w2)
  clear x0 x1 w2
  go_enter Try.func7, Try.ntmps7
  go_wp2_with fail
  refine (new_any 60 w).mono ?_; rintro e w1 ⟨rfl, h1⟩
  rw [show max 0 (min 60 1048576) = (60 : Int) by decide] at h1
  have H1 := Lib.hid (Mine.heap1 h1)
  clear h1
  generalize hp : w.heap.size = p at *
  go_wp2_with fail
  refine (new_any 60 w1).mono ?_; rintro e w2 ⟨rfl, h1⟩
  rw [show max 0 (min 60 1048576) = (60 : Int) by decide] at h1
  have H2 := Lib.hid (Mine.heap frH H1.out h1)
  clear h1 H1
  generalize w1.heap.size = p2 at *
  go_wp2_with fail
  refine (tnew_any w2).mono ?_; rintro e w3 ⟨rfl, hw2⟩
  have H3 : Mine w _ w3 := (hw2 ▸ (Mine.trail (frH.tim frH) H2.out))
  clear hw2 H2
  generalize w2.heap.size = q at *
  have H3 := Lib.hid H3
  go_wp2_with fail
  refine (tnew_any w3).mono ?_; rintro e w4 ⟨rfl, hw2⟩
  have H4 : Mine w _ w4 := (hw2 ▸ (Mine.trail ((frH.tim frH).tim (frT frmP)) H3.out))
  clear hw2 H3
  generalize w3.heap.size = q2 at *
  have S4 := Lib.hid (Both.start H4)
  clear H4
  go_wp2_with fail
  go_loopg [27] n0 (R1 w p q p2 q2 n0)
  case atStart => exact ⟨0, [], by omega, by omega, rfl, S4.out⟩
  case round =>
    obtain ⟨k, l, hk, rfl, rfl, two⟩ := hrel
    by_cases hlt : k < n0
    · obtain ⟨A, hA, hc, hix⟩ := X.out.look hlt
      have hc' := ((Mine.bel two).cell hA).trans hc
      have hcw := Lib.hid (X.out.at_wf k)
      have TW := Lib.hid two
      generalize t0.getD k 0 = c at *
      clear hc two
      by_cases h30 : k < 30
      · as_aux_lemma =>
        go_wp2_with fail
        refine (pushA c hcw.out TW.out).mono ?_; rintro e w5 ⟨rfl, t5⟩
        have T5 := Lib.hid t5
        clear t5 TW hc'
        go_wp2_with fail
        refine (pushB c hcw.out T5.out).mono ?_; rintro e w6 ⟨rfl, t6⟩
        have T6 := Lib.hid t6
        clear t6 T5
        go_wp2_with fail
        go_roundg (n0 - (k + 1))
        case measure => omega
        case rel => exact ⟨k + 1, px l 60 c, by omega, rfl, by go_num, T6.out⟩
      · as_aux_lemma =>
        go_wp2_with fail
        go_roundg (n0 - (k + 1))
        case measure => omega
        case rel => exact ⟨k + 1, l, by omega, rfl, by go_num, TW.out⟩
    · obtain rfl : k = n0 := by omega
      have S5 := Lib.hid two
      clear two S4 X hlt
      go_wp2_with fail
      go_loopg [43] n1 (R2 w p q p2 q2 n1)
      case atStart => exact ⟨0, l, [], by omega, by simp, by simp, by omega, rfl, S5.out⟩
      case round =>
        obtain ⟨k, l, L, hk, hL, hL2, rfl, rfl, two⟩ := hrel
        by_cases hlt : k < n1
        · obtain ⟨gx, o, hg, c0, c1, c2, hix⟩ := Y.out.look (k := k) hlt
          have TW := Lib.hid two
          have hB := Mine.bel two
          have c0' := (hB.cell (p := ⟨gx, o, none⟩) hg).trans c0
          have c1' := (hB.cell (p := ⟨gx, o + 1, none⟩) hg).trans c1
          have c2' := (hB.cell (p := ⟨gx, o + 2, none⟩) hg).trans c2
          have hwf := Y.out.wf k
          generalize t1.getD k cl0 = xx at *
          obtain ⟨d, at_, cc⟩ := xx
          have HW := Lib.hid (show W64 cc from hwf.2.2)
          clear c0 c1 c2 hB hwf two
          go_upto_region 13 with fail
          obtain ⟨bx, hbx⟩ : ∃ bx, bx = wr.heap.size := ⟨_, rfl⟩
          obtain ⟨wa, hwa⟩ : ∃ wa, wa = wr.alloc (.cells #[.int .i64 d, .int .i64 at_, .int .u64 cc] 36) := ⟨_, rfl⟩
          have TA : Hid (SX w p q p2 q2 bx (d, at_, cc) l L l L wa) := by rw [hwa, hbx]; exact Lib.hid (SX.of (x := (d, at_, cc)) TW.out)
          rw [← hwa, ← hbx]
          clear hwa hbx c0' c1' c2' hix TW
          by_cases h30 : k < 30
          · as_aux_lemma =>
            obtain ⟨x0, x1, x2⟩ := TA.out.cells
            dsimp only at x0 x1 x2
            go_wp2_with fail
            refine (setA at_ cc HW.out (by omega) TA.out).mono ?_; rintro e w5 ⟨rfl, t5⟩
            have T5 := Lib.hid t5
            clear t5 TA x0 x1 x2
            obtain ⟨x0, x1, x2⟩ := T5.out.cells
            dsimp only at x0 x1 x2
            go_wp2_with fail
            refine (setB at_ cc HW.out (by omega) T5.out).mono ?_; rintro e w6 ⟨rfl, t6⟩
            have T6 := Lib.hid t6.both
            clear t6 T5 x0 x1 x2
            have hl3 := tx_len l L at_
            go_wp2_with fail
            go_roundg (n1 - (k + 1))
            case measure => omega
            case rel => exact ⟨k + 1, sx l at_ cc, tx l L at_, by omega, by omega, by omega, rfl, by go_num, T6.out⟩
          · as_aux_lemma =>
            go_wp2_with fail
            go_roundg (n1 - (k + 1))
            case measure => omega
            case rel => exact ⟨k + 1, l, L, by omega, by omega, hL2, rfl, by go_num, TA.out.both⟩
        · obtain rfl : k = n1 := by omega
          have TW := Lib.hid two
          have hl4 : L.length ≤ 1099511627776 := by omega
          clear two S5 Y hlt hL
          go_wp2_with fail
          refine (markA TW.out).mono ?_; rintro e w' ⟨rfl, rfl⟩
          have hu := undoA (L.length : Int) hl4 TW.out
          rw [nb_self, ux_self, kx_self] at hu
          clear TW
          go_wp2_with fail
          refine hu.mono ?_; rintro e w6 ⟨rfl, t6⟩
          have T6 := Lib.hid t6
          clear t6 hu
          go_wp2_with fail
          refine (lenA T6.out).mono ?_; rintro e w' ⟨rfl, rfl⟩
          have hm0 : IntKind.u64.wrap ((L.length : Int) + 1) = L.length + 1 := u64_small (by omega) (by omega)
          go_wp2_with fail
          obtain ⟨j, hj, hjL⟩ := rem_small a2 L.length (by omega)
          rw [hj]
          clear hj hm0
          refine (lenB T6.out).mono ?_; rintro e w' ⟨rfl, rfl⟩
          obtain ⟨n1', n2', u3, n4', u5⟩ := two_parts l L hjL
          have hu := undoA (j : Int) hl4 T6.out
          rw [n1'] at hu
          have UL := Lib.hid u3
          have UB := Lib.hid u5
          have N2 := Lib.hid n2'
          have N4 := Lib.hid n4'
          have hkl : (kx L j).length ≤ L.length := by unfold kx; split <;> simp <;> omega
          have hs1 : wrap64 ((L.length : Int) - j + j) = L.length := by unfold wrap64; omega
          clear T6 n1' n2' u3 n4' u5
          go_wp2_with fail
          refine hu.mono ?_; rintro e w7 ⟨rfl, t7⟩
          have hu2 := undoA 0 (by omega) t7
          rw [N2.out, UL.out] at hu2
          have T7 := Lib.hid t7
          clear hu t7
          go_wp2_with fail
          refine hu2.mono ?_; rintro e w8 ⟨rfl, t8⟩
          have hu3 := undoB 0 hl4 t8
          rw [N4.out, UB.out] at hu3
          clear hu2 t8 T7
          go_wp2_with fail
          refine hu3.mono ?_; rintro e w9 ⟨rfl, t9⟩
          have T9 := Lib.hid t9
          have hle := t9.le
          clear hu3 t9
          generalize ub l L = m at *
          go_wp2_with fail
          refine (hlenA T9.out).mono ?_; rintro e w' ⟨rfl, rfl⟩
          go_wp2_with fail
          go_loopg [100] m.length (fun gk i wx => ∃ k : Nat, k ≤ m.length ∧ gk = m.length - k ∧ i = .int .i64 k ∧ wx = w9)
          case atStart => exact ⟨0, by omega, by omega, rfl, rfl⟩
          case round =>
            obtain ⟨i, hi, rfl, rfl, rfl⟩ := hrel
            by_cases hlt : i < m.length
            · as_aux_lemma =>
              have hg := getA (i : Int) T9.out
              have hg2 := getB (i : Int) T9.out
              generalize gv m i = v at *
              generalize gb m i = z at *
              go_wp2_with fail
              refine hg.mono ?_; rintro e w' ⟨rfl, rfl⟩
              go_wp2_with fail
              refine hg2.mono ?_; rintro e w' ⟨rfl, rfl⟩
              go_wp2_with fail
              go_roundg (m.length - (i + 1))
              case measure => omega
              case rel => exact ⟨i + 1, by omega, rfl, by go_num, rfl⟩
            · as_aux_lemma =>
              have HB := Lib.hid T9.out.bel
              go_wp2_with fail
              refine (awake_any _).mono ?_; rintro e w10 ⟨rfl, b9⟩
              go_wp2_with fail
              go_ret
              exact ⟨rfl, HB.out.trans (b9.mono HB.out.size)⟩
set_option maxRecDepth 100000 in
theorem lifted (os : Os) (started : os.Started) (H : Type) (enc : TypeId × Value → H) :
    ReturnsInHanded {} Try.checked os 7 .any (Rows.trailOnceSpec.pre6 enc Try.prog Try.f7 Rows.trailOnceRow.domain false) (Rows.trailOnceSpec.post enc Try.prog Try.f7 false true false false) := by
  refine returnsInHanded_of_change_sized (C := Try.checked) own started (by kernel_rfl) Try.func7
    (ChangeSpec.witness6 (enc := enc) (C := Try.checked) false ⟨#[], #[.slice none 0 0, .slice none 0 0, .int .i64 0], []⟩ 8 (by kernel_rfl) (by kernel_rfl) (by kernel_rfl) (by kernel_rfl)) ?_
  intro W base args ds gs before hval0 hW _ hsz0 _
  have hsz : (DataW.weightsEach Try.prog (Try.f7.params.toList ++ Rows.trailOnceSpec.plain.varTypes Try.prog) (ds ++ gs)).all (· ≤ reachBytes) = true := hsz0
  clear hsz0
  have hval : ∀ (j : Nat) t v, Try.f7.params[j]? = some t → args[j]? = some v → Value.okWide Try.prog W .any base t v := hval0
  have hW' := hW
  obtain ⟨p, q, hA0, hV, rfl, hfz, hnd⟩ := hW
  have hA : DataW.TrodAll enc Try.prog W 0 (fun _ => true) true Try.f7.params.toList args.toList ds p := hA0
  rw [Try.params7] at hA hval hsz
  obtain ⟨v0, vs0, d0, ds0, p0, q0, hargs, rfl, rfl, h0, r0⟩ := trodAll_cons hA
  obtain ⟨v1, vs1, d1, ds1, p1, q1, rfl, rfl, rfl, h1, r1⟩ := trodAll_cons r0
  obtain ⟨v2, vs2, d2, ds2, p2, q2, rfl, rfl, rfl, h2, r2⟩ := trodAll_cons r1
  obtain ⟨rfl, rfl, rfl⟩ := trodAll_nil r2
  obtain rfl : args = #[v0, v1, v2] := by cases args; simp_all
  obtain ⟨rfl, rfl⟩ := trodVars_none hV
  simp only [List.append_nil] at hW'
  have lt0 : ∀ x ∈ p0, x.block < W.heap.size := fun x hx => by
    have := hW'.lt x (by simp [hx])
    simpa using this
  have k0 := h0
  have lt1 : ∀ x ∈ p1, x.block < W.heap.size := fun x hx => by
    have := hW'.lt x (by simp [hx])
    simpa using this
  have k1 := h1
  have lt2 : ∀ x ∈ p2, x.block < W.heap.size := fun x hx => by
    have := hW'.lt x (by simp [hx])
    simpa using this
  have k2 := h2
  obtain ⟨a0, n0, c0, rfl⟩ := okWide_slice Try.underlying45 (hval 0 45 v0 rfl rfl)
  obtain ⟨t0, x0⟩ := h0.elim fun fuel hf => ints_open hf (lt0) (fun x y e => sized_slice hsz (j := 0) (t := 45) (e := 34) rfl (by rw [← e]; rfl) Try.underlying45)
  obtain ⟨a1, n1, c1, rfl⟩ := okWide_slice Try.underlying22 (hval 1 22 v1 rfl rfl)
  obtain ⟨t1, x1⟩ := h1.elim fun fuel hf => calls_open hf (lt1) (fun x y e => sized_slice hsz (j := 1) (t := 22) (e := 36) rfl (by rw [← e]; rfl) Try.underlying22)
  obtain ⟨a2, rfl, rfl, rfl, w2⟩ := open_int Try.underlying3 (hval 2 3 v2 rfl rfl) h2
  clear hA0 hval0
  refine (walk W a0 n0 c0 t0 x0 a1 n1 c1 t1 x1 a2 w2).mono fun e W' ⟨he, hg⟩ => ?_
  subst he
  have ha := (trodAll_cons_mk (Below.trod laidOut (by kernel_rfl) (of_decide_eq_true (by kernel_rfl)) k0 hg lt0) (trodAll_cons_mk (Below.trod laidOut (by kernel_rfl) (of_decide_eq_true (by kernel_rfl)) k1 hg lt1) (trodAll_cons_mk (Below.trod laidOut (by kernel_rfl) (of_decide_eq_true (by kernel_rfl)) k2 hg lt2) trodAll_mk0)))
  refine ⟨_, rfl, _, _, _, [], _, [], hW', ?_, ha, rfl, hg.frame _, fun h => by cases h⟩
  exact (trodAll_cons_mk (shut_bool Try.underlying4 _) trodAll_mk0)
/-- THE STATEMENT. -/
theorem proved : Rows.TrailOnceSaid :=
  OpenClaim.holds_of_wide 7 Try.f7 rfl rfl rfl rfl rfl rfl rfl ⟨rfl, rfl, rfl, rfl, rfl⟩ rfl rfl rfl rfl rfl (by kernel_rfl) Try.func7 (by kernel_rfl)
    (of_decide_eq_true (by kernel_rfl)) (by unfold Func.isWrapper; first | (rw [if_pos (by decide +kernel)]; kernel_rfl) | (rw [if_neg (by decide +kernel)]; exact ⟨rfl, rfl⟩))
    (fun os started H enc _ => lifted os started H enc)
#print axioms proved
end Go.Proofs.Ytbonlmekphkahaa.trailOnce
