/- The law TrailPlays holds: for every input its Go function returns true and leaves its arguments as they were. No condition beyond the row's own. -/
import Derived.Test.YtbonlmekphkahaaRows
import Derived.WalkKit
import Derived.ProofKit
import Derived.OpenShut
import Derived.SizedLaws
import Derived.Test.YtbonlmekphkahaaRUn
import Derived.Test.YtbonlmekphkahaaT6
import Derived.Test.YtbonlmekphkahaaCls
import Derived.LoopTactic
import Derived.Deep.DeepCutAuto
import Derived.Deep.CutBlock
import Derived.Deep.LoopGhost
import Derived.Deep.RegionHeld3
import Derived.StillTailTactics
namespace Go.Proofs.Ytbonlmekphkahaa.trailPlays
open Go.ChangeShapes Go.WideShapes Go.ChangeAt Go.RowKit
open Go.ChangeMaps (open_string)
open Go.Proofs.Ytbonlmekphkahaa.hp Go.Proofs.Ytbonlmekphkahaa.cel Go.Proofs.Ytbonlmekphkahaa.kp Go.Proofs.Ytbonlmekphkahaa.ob Go.Proofs.Ytbonlmekphkahaa.arg
set_option linter.unusedVariables false
theorem own : ownKnob Try.prog.godebug = none := by kernel_rfl
theorem laidOut : laidOutB Try.prog = true := by kernel_rfl
/-- both sides, apart -/
def Both (W : World) (p q p2 q2 : Nat) (la : List Int) (La : List Wr) (lb : List Int) (Lb : List Wr) (wr : World) : Prop := Mine W (Tim (SO TH TP p q la 200 La) (SO RH TR p2 q2 lb 200 Lb)) wr
theorem frB {p q p2 q2 : Nat} {la : List Int} {La : List Wr} {lb : List Int} {Lb : List Wr} : Fr (Tim (SO TH TP p q la 200 La) (SO RH TR p2 q2 lb 200 Lb)) := (frS frmP).tim (frS frmR)
/-- .. and the call's block -/
def SX (W : World) (p q p2 q2 b : Nat) (x : Cl) (la : List Int) (La : List Wr) (lb : List Int) (Lb : List Wr) (wr : World) : Prop := Mine W (Tim (Tim (SO TH TP p q la 200 La) (SO RH TR p2 q2 lb 200 Lb)) (Blk b (.cells #[.int .i64 x.1, .int .i64 x.2.1, .int .u64 x.2.2] 36 (0, 0)))) wr
section
variable {W wr w2 : World} {p q p2 q2 b : Nat} {x : Cl} {la : List Int} {La : List Wr} {lb : List Int} {Lb : List Wr}
theorem SX.below (h : SX W p q p2 q2 b x la La lb Lb wr) (k : Below wr.heap.size wr w2) : SX W p q p2 q2 b x la La lb Lb w2 := Mine.below (frB.tim (Fr.blk _ _)) h k
theorem SX.drewN (h : SX W p q p2 q2 b x la La lb Lb wr) (n : Nat) : SX W p q p2 q2 b x la La lb Lb (wr.drewN n) := h.below (dBelow _ n)
theorem SX.drew (h : SX W p q p2 q2 b x la La lb Lb wr) : SX W p q p2 q2 b x la La lb Lb wr.drew := h.drewN 1
theorem SX.both (h : SX W p q p2 q2 b x la La lb Lb wr) : Both W p q p2 q2 la La lb Lb wr := Mine.fst h
theorem SX.of (h : Both W p q p2 q2 la La lb Lb wr) : SX W p q p2 q2 wr.heap.size x la La lb Lb (wr.alloc (.cells #[.int .i64 x.1, .int .i64 x.2.1, .int .u64 x.2.2] 36)) := Mine.blk frB h _
theorem SX.cells (h : SX W p q p2 q2 b x la La lb Lb wr) : wr.cell? ⟨b, 0, none⟩ = some (.int .i64 x.1) ∧ wr.cell? ⟨b, 1, none⟩ = some (.int .i64 x.2.1) ∧ wr.cell? ⟨b, 2, none⟩ = some (.int .u64 x.2.2) := by
  obtain ⟨N, c, _⟩ := Mine.at_ (Mine.snd h)
  exact ⟨(Blk.cell c rfl).1, (Blk.cell c rfl).1, (Blk.cell c rfl).1⟩
theorem SX.c2 {d at_ cc : Int} (h : SX W p q p2 q2 b (d, at_, cc) la La lb Lb wr) : wr.cell? ⟨b, 1, none⟩ = some (.int .i64 at_) ∧ wr.cell? ⟨b, 2, none⟩ = some (.int .u64 cc) := h.cells.2
theorem SX.pa (h : SX W p q p2 q2 b x la La lb Lb wr) : ∃ K, hp.Sys TH TP wr p q K la 200 La ∧ ∀ l' L' w', SN TH TP wr p q K l' 200 L' w' → SX W p q p2 q2 b x l' L' lb Lb w' := by
  obtain ⟨N, a, _, up⟩ := Mine.at_ h
  obtain ⟨K, a1, up1⟩ := Tim.at1 (Fr.blk _ _) a
  obtain ⟨K2, a2, up2⟩ := Tim.at1 (frS frmR) a1
  exact ⟨K2, a2, fun l' L' w' n => up _ _ (up1 _ _ (up2 (SO TH TP p q l' 200 L') _ n))⟩
theorem SX.pb (h : SX W p q p2 q2 b x la La lb Lb wr) : ∃ K, hp.Sys RH TR wr p2 q2 K lb 200 Lb ∧ ∀ l' L' w', SN RH TR wr p2 q2 K l' 200 L' w' → SX W p q p2 q2 b x la La l' L' w' := by
  obtain ⟨N, a, _, up⟩ := Mine.at_ h
  obtain ⟨K, a1, up1⟩ := Tim.at1 (Fr.blk _ _) a
  obtain ⟨K2, a2, up2⟩ := Tim.at2 (frS frmP) a1
  exact ⟨K2, a2, fun l' L' w' n => up _ _ (up1 _ _ (up2 (SO RH TR p2 q2 l' 200 L') _ n))⟩
theorem setS (n u : Int) (hu : W64 u) (hL : La.length < 1099511627776) (h : SX W p q p2 q2 b x la La lb Lb wr) : Calls Try.prog 11 #[.pointer (some ⟨q, 0, none⟩), .pointer (some ⟨p, 0, none⟩), .int .i64 n, .int .u64 u] wr fun e w' => e = .returned (.bool (gb la n)) ∧ SX W p q p2 q2 b x (sx la n u) (tx la La n) lb Lb w' := by
  obtain ⟨K, a, up⟩ := h.pa
  exact (tset_any a hL n u hu).mono fun e w' ⟨he, nx⟩ => ⟨he, up _ _ _ nx⟩
theorem rsetS (n u : Int) (hu : W64 u) (hL : Lb.length < 1099511627776) (h : SX W p q p2 q2 b x la La lb Lb wr) : Calls Try.prog 12 #[.pointer (some ⟨q2, 0, none⟩), .pointer (some ⟨p2, 0, none⟩), .int .i64 n, .int .u64 u] wr fun e w' => e = .returned (.bool (gb lb n)) ∧ SX W p q p2 q2 b x la La (sx lb n u) (tx lb Lb n) w' := by
  obtain ⟨K, a, up⟩ := h.pb
  exact (rset_any a hL n u hu).mono fun e w' ⟨he, nx⟩ => ⟨he, up _ _ _ nx⟩
theorem undoS (n : Int) (hL : La.length ≤ 1099511627776) (h : SX W p q p2 q2 b x la La lb Lb wr) : Calls Try.prog 13 #[.pointer (some ⟨q, 0, none⟩), .pointer (some ⟨p, 0, none⟩), .int .i64 n] wr fun e w' => e = .returned (.int .i64 (nb La n)) ∧ SX W p q p2 q2 b x (ux la La n) (kx La n) lb Lb w' := by
  obtain ⟨K, a, up⟩ := h.pa
  exact (tundo_any a hL n).mono fun e w' ⟨he, nx⟩ => ⟨he, up _ _ _ nx⟩
theorem rundoS (n : Int) (hL : Lb.length ≤ 1099511627776) (h : SX W p q p2 q2 b x la La lb Lb wr) : Calls Try.prog 14 #[.pointer (some ⟨q2, 0, none⟩), .pointer (some ⟨p2, 0, none⟩), .int .i64 n] wr fun e w' => e = .returned (.int .i64 (nb Lb n)) ∧ SX W p q p2 q2 b x la La (ux lb Lb n) (kx Lb n) w' := by
  obtain ⟨K, a, up⟩ := h.pb
  exact (rundo_any a hL n).mono fun e w' ⟨he, nx⟩ => ⟨he, up _ _ _ nx⟩
theorem gd_kx {L : List Wr} (g : Gd L) (n : Int) : Gd (kx L n) := by unfold kx; split; exact g.take _; exact g
theorem kx_len (L : List Wr) (n : Int) : (kx L n).length ≤ L.length := by unfold kx; split <;> simp <;> omega
theorem tx_len (l : List Int) (L : List Wr) (n : Int) : (tx l L n).length ≤ L.length + 1 := by unfold tx; split <;> simp
theorem dropS (n : Int) (hL : La.length ≤ 1099511627776) (h : SX W p q p2 q2 b x la La lb Lb wr) : Calls Try.prog 15 #[.pointer (some ⟨q, 0, none⟩), .int .i64 n] wr fun e w' => e = .returned (.int .i64 (nb La n)) ∧ SX W p q p2 q2 b x la (kx La n) lb Lb w' := by
  obtain ⟨K, ⟨⟨F, G, a1, b1, c, d⟩, g⟩, up⟩ := h.pa
  exact (tdrop_any b1 hL n).mono fun e w' ⟨he, G', b', k, s⟩ => ⟨he, up _ _ _ (SN.trail a1 c d (gd_kx g n) b' k s)⟩
theorem pushS (u : Int) (hu : W64 u) (h : SX W p q p2 q2 b x la La lb Lb wr) : Calls Try.prog 16 #[.pointer (some ⟨p, 0, none⟩), .int .u64 u] wr fun e w' => e = .returned (.tuple #[.int .i64 (pv la 200), .int .i64 (pe la 200)]) ∧ SX W p q p2 q2 b x (px la 200 u) La lb Lb w' := by
  obtain ⟨K, ⟨⟨F, G, a1, b1, c, d⟩, g⟩, up⟩ := h.pa
  exact (push_any a1 u hu).mono fun e w' ⟨he, nx⟩ => ⟨he, up _ _ _ (SN.heap frmP a1 b1 c d g nx)⟩
theorem rpushS (u : Int) (hu : W64 u) (h : SX W p q p2 q2 b x la La lb Lb wr) : Calls Try.prog 17 #[.pointer (some ⟨p2, 0, none⟩), .int .u64 u] wr fun e w' => e = .returned (.tuple #[.int .i64 (pv lb 200), .int .i64 (pe lb 200)]) ∧ SX W p q p2 q2 b x la La (px lb 200 u) Lb w' := by
  obtain ⟨K, ⟨⟨F, G, a1, b1, c, d⟩, g⟩, up⟩ := h.pb
  exact (rpush_any a1 u hu).mono fun e w' ⟨he, nx⟩ => ⟨he, up _ _ _ (SN.heap frmR a1 b1 c d g nx)⟩
theorem cutS (n : Int) (h : SX W p q p2 q2 b x la La lb Lb wr) : Calls Try.prog 18 #[.pointer (some ⟨p, 0, none⟩), .int .i64 n] wr fun e w' => e = .returned (.bool (cb la n)) ∧ SX W p q p2 q2 b x (cx la n) La lb Lb w' := by
  obtain ⟨K, ⟨⟨F, G, a1, b1, c, d⟩, g⟩, up⟩ := h.pa
  exact (cut_any a1 n).mono fun e w' ⟨he, nx⟩ => ⟨he, up _ _ _ (SN.heap frmP a1 b1 c d g nx)⟩
theorem lenS (h : SX W p q p2 q2 b x la La lb Lb wr) : Calls Try.prog 19 #[.pointer (some ⟨q, 0, none⟩)] wr fun e w' => e = .returned (.int .i64 La.length) ∧ wr = w' := by
  obtain ⟨K, ⟨⟨F, G, a1, b1, c, d⟩, g⟩, up⟩ := h.pa
  have := tlen_any b1; rwa [pl_len] at this
theorem markS (h : SX W p q p2 q2 b x la La lb Lb wr) : Calls Try.prog 20 #[.pointer (some ⟨q, 0, none⟩)] wr fun e w' => e = .returned (.int .i64 La.length) ∧ wr = w' := by
  obtain ⟨K, ⟨⟨F, G, a1, b1, c, d⟩, g⟩, up⟩ := h.pa
  have := tmark_any b1; rwa [pl_len] at this
/-- the reference's trail: its slice; cut off by the law itself -/
theorem SX.kl (h : SX W p q p2 q2 b x la La lb Lb wr) : ∃ a c, wr.cell? ⟨q2, 0, none⟩ = some (.slice a Lb.length c) ∧ wr.frozen? ⟨q2, 0, none⟩ = false ∧ Lb.length ≤ c ∧ ∀ k, k ≤ Lb.length → SX W p q p2 q2 b x la La lb (Lb.take k) (wr.drew.setCell ⟨q2, 0, none⟩ (.slice a k c)) := by
  obtain ⟨K, ⟨⟨F, G, a1, b1, c, d⟩, g⟩, up⟩ := h.pb
  obtain ⟨a, cc, c0, f0, hc, _⟩ := TR.open_ b1
  refine ⟨a, cc, c0, f0, hc, fun k hk => ?_⟩
  obtain ⟨K, ⟨⟨F, G, a1, b1, c, d⟩, g⟩, up⟩ := h.drew.pb
  obtain ⟨G', b', kk, ss⟩ := TR.cut b1 hk (show wr.drew.cell? ⟨q2, 0, none⟩ = _ from c0)
  exact up _ _ _ (SN.trail a1 c d (g.take k) b' kk ss)
/-- the reference's heap, the same way -/
theorem SX.mc (h : SX W p q p2 q2 b x la La lb Lb wr) : ∃ a c, wr.cell? ⟨p2, 0, none⟩ = some (.slice a lb.length c) ∧ wr.frozen? ⟨p2, 0, none⟩ = false ∧ lb.length ≤ c ∧ ∀ k, k ≤ lb.length → SX W p q p2 q2 b x la La (lb.take k) Lb (wr.drew.setCell ⟨p2, 0, none⟩ (.slice a k c)) := by
  obtain ⟨K, ⟨⟨F, G, a1, b1, c, d⟩, g⟩, up⟩ := h.pb
  obtain ⟨a, cc, c0, c1, f0, f1, hc⟩ := a1.open_
  refine ⟨a, cc, c0, f0, hc, fun k hk => ?_⟩
  obtain ⟨K, ⟨⟨F, G, a1, b1, c, d⟩, g⟩, up⟩ := h.drew.pb
  exact up _ _ _ (SN.heap frmR a1 b1 c d g (Next.cut a1 hk (show wr.drew.cell? ⟨p2, 0, none⟩ = _ from c0)))
theorem Both.start {w3 : World} (h : Mine W (Tim (SO TH TP p q [] 200 []) (HO RH p2 [] 200)) w3) : Both W p q p2 w3.heap.size [] [] [] [] (w3.alloc (.cells #[.slice none 0 0] TRt)) := by
  have h2 := Mine.more ((frS frmP).tim frH) h (kp.ba w3 _) (B := TO TR w3.heap.size []) (TR.made w3) (fun k hk => by omega)
  refine h2.imp fun N t => ?_
  obtain ⟨K, M, a, b, d, e⟩ := Tim.right_ t
  exact ⟨K, M, a, Sys.of_tim Gd.nil b, d, e⟩
theorem SX.le (h : SX W p q p2 q2 b x la La lb Lb wr) : (la.length : Int) ≤ 200 ∧ (lb.length : Int) ≤ 200 := by
  obtain ⟨K, ⟨⟨F, G, a1, _⟩, _⟩, _⟩ := h.pa
  obtain ⟨K, ⟨⟨F, G, a2, _⟩, _⟩, _⟩ := h.pb
  exact ⟨a1.fits, a2.fits⟩
end
def R (W : World) (p q p2 q2 N : Nat) (gk : Nat) (i : Value) (wr : World) : Prop := ∃ (k : Nat) (l : List Int) (L : List Wr), k ≤ N ∧ L.length ≤ k ∧ gk = N - k ∧ i = .int .i64 k ∧ Both W p q p2 q2 l L l L wr
def Cut (W : World) (p q p2 q2 b : Nat) (x : Cl) (n : Nat) (wr : World) : Prop := ∃ (l : List Int) (L : List Wr), L.length ≤ n + 1 ∧ SX W p q p2 q2 b x l L l L wr
theorem Cut.mk {W : World} {p q p2 q2 b : Nat} {x : Cl} {n : Nat} {wr : World} (l : List Int) (L : List Wr) (h : L.length ≤ n + 1) (h2 : SX W p q p2 q2 b x l L l L wr) : Cut W p q p2 q2 b x n wr := ⟨l, L, h, h2⟩
theorem like_any {wr : World} {p p2 : Nat} {l : List Int} {F G : Nat → Prop} (a : Hp TH wr p F l 200) (b : Hp RH wr p2 G l 200) : Calls Try.prog 21 #[.pointer (some ⟨p, 0, none⟩), .pointer (some ⟨p2, 0, none⟩)] wr fun e w' => e = .returned (.bool true) ∧ ∃ n, w' = wr.drewN n := by
  have cl := fun n => Lib.hid (len_any (a.drewN n))
  obtain ⟨ma, mc, e0, e1, f0, f1, hcap⟩ := b.open_
  have hle := a.len_le
  have HA := Lib.hid a
  have HB := Lib.hid b
  clear a b
  go_enter Try.func21, Try.ntmps21
  go_wp2_with fail
  go_quiet ((go_at_call 24; exact quiet_left (cl _).out))
  have HA2 := Lib.hid (HA.out.drewN nq)
  have HB2 := Lib.hid (HB.out.drewN nq)
  generalize hw2 : wr.drewN nq = w2 at *
  obtain ⟨mb, mcb, z0, z1, zf, zf1, hcap2⟩ := HB2.out.open_
  clear cl e0 e1 f0 f1 HA HB
  go_wp2_with fail
  go_loopg [22] l.length (fun gk i wx => ∃ k : Nat, k ≤ l.length ∧ gk = l.length - k ∧ i = .int .i64 k ∧ wx = w2)
  case atStart => exact ⟨0, by omega, by omega, rfl, rfl⟩
  case round =>
    obtain ⟨k, hk, rfl, rfl, rfl⟩ := hrel
    by_cases hlt : k < l.length
    · obtain ⟨g, c, x0, x1, x2, x3, x4, x5, x6, x7, _⟩ := HB2.out.at_ k hlt
      rw [z0] at x0
      injection x0 with x0; injection x0 with x0 x0' x0''
      subst x0; subst x0''
      have hg := get_any HA2.out k
      rw [show gv l k = l.getD k 0 by unfold gv; rw [if_pos ⟨by omega, by omega⟩]; simp, show gb l k = true from decide_eq_true ⟨by omega, by omega⟩] at hg
      generalize l.getD k 0 = v at *
      have hki : (k : Int) < (l.length : Int) := by omega
      clear x1 x2 x3 x4 x7
      go_wp2_with fail
      refine hg.mono ?_; rintro e w' ⟨rfl, rfl⟩
      go_wp2_with fail
      go_roundg (l.length - (k + 1))
      case measure => omega
      case rel => exact ⟨k + 1, by omega, rfl, by go_num, rfl⟩
    · obtain rfl : k = l.length := by omega
      go_wp2_with fail
      go_ret
      exact ⟨rfl, _, hw2.symm⟩
set_option maxHeartbeats 16000000 in
set_option maxRecDepth 100000 in
theorem walk (w : World) (a0 : Option Addr) (n0 c0 : Nat) (t0 : List Cl) (x0 : CRow w a0 n0 t0) :
    Calls Try.prog 3 #[.slice a0 n0 c0] w fun e w' => e = .returned (.bool true) ∧ Below w.heap.size w w' := by
  have hn0 : n0 ≤ 8796093022208 := by have := x0.reach; omega
  have X := Lib.hid x0
  clear x0
  go_enter Try.func3, Try.ntmps3
  go_wp2_with fail
  refine (new_any 200 w).mono ?_; rintro e w1 ⟨rfl, h1⟩
  rw [show max 0 (min 200 1048576) = (200 : Int) by decide] at h1
  have H1 := Lib.hid (Mine.heap1 h1)
  clear h1
  go_wp2_with fail
  refine (tnew_any w1).mono ?_; rintro e w2 ⟨rfl, hw2⟩
  have H2 : Mine w _ w2 := (hw2 ▸ (Mine.trail frH H1.out))
  clear hw2 H1
  generalize w1.heap.size = q at *
  generalize hp : w.heap.size = p at *
  have S2 := Lib.hid (H2.imp fun N h => Sys.of_tim Gd.nil h)
  clear H2
  go_wp2_with fail
  refine (rnew_any 200 w2).mono ?_; rintro e w3 ⟨rfl, h1⟩
  rw [show max 0 (min 200 1048576) = (200 : Int) by decide] at h1
  have S3 := Lib.hid (Mine.heap (frS frmP) S2.out h1)
  clear h1 S2
  generalize w2.heap.size = p2 at *
  go_upto_region 3 with fail
  have S4 := Lib.hid (Both.start S3.out)
  clear S3
  generalize w3.alloc (.cells #[.slice none 0 0] TRt) = w4 at *
  generalize w3.heap.size = q2 at *
  go_wp2_with fail
  go_loopg [7] (min n0 150) (R w p q p2 q2 (min n0 150))
  case atStart => exact ⟨0, [], [], by omega, by simp, by omega, rfl, S4.out⟩
  case round =>
    obtain ⟨k, l, L, hk, hL, rfl, rfl, two⟩ := hrel
    have TW := Lib.hid two
    by_cases hlt : k < n0 ∧ k < 150
    · obtain ⟨hlt, h150⟩ := hlt
      obtain ⟨gx, o, hg, c0, c1, c2, hix⟩ := X.out.look (k := k) hlt
      have hB := Mine.bel two
      have c0' := (hB.cell (p := ⟨gx, o, none⟩) hg).trans c0
      have c1' := (hB.cell (p := ⟨gx, o + 1, none⟩) hg).trans c1
      have c2' := (hB.cell (p := ⟨gx, o + 2, none⟩) hg).trans c2
      have hwf := X.out.wf k
      generalize t0.getD k cl0 = xx at *
      obtain ⟨d, at_, cc⟩ := xx
      have HW := Lib.hid hwf
      clear c0 c1 c2 hB hwf two
      go_upto_region 9 with fail
      obtain ⟨bx, hbx⟩ : ∃ bx, bx = wr.heap.size := ⟨_, rfl⟩
      obtain ⟨wa, hwa⟩ : ∃ wa, wa = wr.alloc (.cells #[.int .i64 d, .int .i64 at_, .int .u64 cc] 36) := ⟨_, rfl⟩
      have TA : Hid (SX w p q p2 q2 bx (d, at_, cc) l L l L wa) := by rw [hwa, hbx]; exact Lib.hid (SX.of (x := (d, at_, cc)) TW.out)
      rw [← hwa, ← hbx]
      clear hwa hbx c0' c1' c2' hix TW
      have HLL := Lib.hid hL
      have HL := Lib.hid (show L.length < 1099511627776 by omega)
      have HL2 := Lib.hid (show L.length ≤ 1099511627776 by omega)
      clear hL
      obtain ⟨x0, x1, x2⟩ := TA.out.cells
      dsimp only at x0 x1 x2
      go_upto_block 2 with fail
      go_cut [9] (fun _ wx => Cut w p q p2 q2 bx (d, at_, cc) L.length wx)
      case first =>
        have hw3 := Lib.hid (show W64 cc from HW.out.2.2)
        by_cases d0 : d = 0
        · as_aux_lemma =>
          subst d0
          have hS := TA.out
          go_wp2_with fail
          go_region_held3 (fun w' => w'.cell? ⟨bx, 1, none⟩ = some (.int .i64 at_) ∧ w'.cell? ⟨bx, 2, none⟩ = some (.int .u64 cc))
            (first | exact SX.c2 (by assumption) | exact SX.c2 (SX.drew (by assumption)) | go_keep)
            (first
            | (go_at_call 11; refine (setS (W := w) (p2 := p2) (q2 := q2) (b := bx) (x := (0, at_, cc)) (la := l) (La := L) (lb := l) (Lb := L) at_ cc hw3.out HL.out ?_).mono ?_; (first | assumption | exact SX.drew (by assumption)); rintro e wN ⟨rfl, hSN⟩)
            | (go_at_call 12; refine (rsetS (W := w) (p := p) (q := q) (b := bx) (x := (0, at_, cc)) (la := sx l at_ cc) (La := tx l L at_) (lb := l) (Lb := L) at_ cc hw3.out HL.out ?_).mono ?_; (first | assumption | exact SX.drew (by assumption)); rintro e wN ⟨rfl, hSN⟩))
          go_wp2_with fail
          go_meet
          exact Cut.mk (sx l at_ cc) (tx l L at_) (tx_len _ _ _) (by assumption)
        · by_cases d1 : d = 1
          · as_aux_lemma =>
            subst d1
            have hS := TA.out
            go_wp2_with fail
            go_region_held3 (fun w' => w'.cell? ⟨bx, 1, none⟩ = some (.int .i64 at_) ∧ w'.cell? ⟨bx, 2, none⟩ = some (.int .u64 cc))
              (first | exact SX.c2 (by assumption) | exact SX.c2 (SX.drew (by assumption)) | go_keep)
              (first
              | (go_at_call 13; refine (undoS (W := w) (p2 := p2) (q2 := q2) (b := bx) (x := (1, at_, cc)) (la := l) (La := L) (lb := l) (Lb := L) at_ HL2.out ?_).mono ?_; (first | assumption | exact SX.drew (by assumption)); rintro e wN ⟨rfl, hSN⟩)
              | (go_at_call 14; refine (rundoS (W := w) (p := p) (q := q) (b := bx) (x := (1, at_, cc)) (la := ux l L at_) (La := kx L at_) (lb := l) (Lb := L) at_ HL2.out ?_).mono ?_; (first | assumption | exact SX.drew (by assumption)); rintro e wN ⟨rfl, hSN⟩))
            go_wp2_with fail
            go_meet
            exact Cut.mk (ux l L at_) (kx L at_) (by have := kx_len L at_; omega) (by assumption)
          · by_cases d2 : d = 2
            · subst d2
              by_cases hin : 0 ≤ at_ ∧ at_ ≤ L.length
              · as_aux_lemma =>
                obtain ⟨i, rfl⟩ := Int.eq_ofNat_of_zero_le hin.1
                have hil : i ≤ L.length := by omega
                have en := Lib.hid (show nb L i = L.length - i by unfold nb; rw [if_pos hin])
                have ek := Lib.hid (show kx L i = L.take i by unfold kx; rw [if_pos hin]; rfl)
                obtain ⟨ta, tc, z0, zf, hcap, _⟩ := TA.out.kl
                have hi2 : (i : Int) ≤ (L.length : Int) := by omega
                have hwr : wrap64 ((L.length : Int) - (i : Int)) = (L.length : Int) - i := by have := HL.out; unfold wrap64; omega
                clear hin d0 d1
                go_wp2_with fail
                go_quiet (fail)
                have TB := Lib.hid (TA.out.drewN nq)
                generalize wa.drewN nq = wb at *
                clear TA x0 x1 x2 z0 zf hcap
                obtain ⟨x0, x1, x2⟩ := TB.out.cells
                obtain ⟨ta, tc, z0, zf, hcap, _⟩ := TB.out.kl
                dsimp only at x0 x1 x2
                go_wp2_with fail
                go_quiet (fail)
                have TC := Lib.hid (TB.out.drewN nq)
                generalize wb.drewN nq = wc at *
                clear TB x0 x1 x2 z0 zf hcap
                obtain ⟨x0, x1, x2⟩ := TC.out.cells
                obtain ⟨ta, tc, z0, zf, hcap, hcut'⟩ := TC.out.kl
                dsimp only at x0 x1 x2
                have T5 := Lib.hid (hcut' i hil)
                have r3 := fun wx => slw_rule (a := ta) (n := L.length) (c := tc) (i := i) (by omega) wx
                have r4 := fun wx => slwAt_rule (a := ta) (n := L.length) (c := tc) (i := i) (by omega) wx
                clear hcut'
                go_wp2_with fail
                go_still_tail 10, (by kernel_rfl)
                change wpList _ _ _ _ _ wc.drew
                have z0' : wc.drew.cell? ⟨q2, 0, none⟩ = some (.slice ta L.length tc) := z0
                have zf' : wc.drew.frozen? ⟨q2, 0, none⟩ = false := zf
                generalize wc.drew = wd at *
                clear TC x0 x1 x2 z0 zf r3 r4
                go_upto_region 24 with fail
                have hS := T5.out
                generalize wd.setCell ⟨q2, 0, none⟩ (.slice ta i tc) = we at *
                clear z0' zf' T5
                obtain ⟨x0, x1, x2⟩ := hS.cells
                dsimp only at x0 x1 x2
                have hd := dropS (i : Int) HL2.out hS
                rw [en.out, ek.out] at hd
                clear hS
                go_wp2_with fail
                refine hd.mono ?_; rintro e w5 ⟨rfl, hS⟩
                have T6 := Lib.hid hS
                clear hS hd x0 x1 x2
                go_wp2_with fail
                go_meet
                exact Cut.mk l (L.take i) (by simp; omega) T6.out
              · have en := Lib.hid (show nb L at_ = 0 by unfold nb; rw [if_neg hin])
                have ek := Lib.hid (show kx L at_ = L by unfold kx; rw [if_neg hin])
                obtain ⟨ta, tc, z0, zf, hcap, _⟩ := TA.out.kl
                rcases (show at_ < 0 ∨ (0 ≤ at_ ∧ (L.length : Int) < at_) by omega) with h0 | ⟨h0, h1⟩
                case' inl =>
                  have t0 : decide (0 ≤ at_) = false := by simpa using h0
                case' inr =>
                  have t0 : decide (at_ ≤ (L.length : Int)) = false := by simpa using h1
                all_goals as_aux_lemma =>
                  clear hin
                  go_wp2_with fail
                  go_quiet (fail)
                  have TB := Lib.hid (TA.out.drewN nq)
                  generalize wa.drewN nq = wb at *
                  clear TA x0 x1 x2 z0 zf hcap
                  obtain ⟨x0, x1, x2⟩ := TB.out.cells
                  dsimp only at x0 x1 x2
                  have hd := dropS at_ HL2.out TB.out
                  rw [en.out, ek.out] at hd
                  clear TB
                  go_wp2_with fail
                  refine hd.mono ?_; rintro e w5 ⟨rfl, hS⟩
                  have T6 := Lib.hid hS
                  clear hS hd x0 x1 x2
                  go_wp2_with fail
                  go_meet
                  exact Cut.mk l L (by omega) T6.out
            · by_cases d3 : d = 3
              · as_aux_lemma =>
                subst d3
                go_wp2_with fail
                refine (pushS cc hw3.out TA.out).mono ?_; rintro e w4 ⟨rfl, hS⟩
                have T4 := Lib.hid hS
                obtain ⟨y0, y1, y2⟩ := hS.cells
                dsimp only at y0 y1 y2
                clear hS TA x0 x1 x2
                go_wp2_with fail
                refine (rpushS cc hw3.out T4.out).mono ?_; rintro e w5 ⟨rfl, hS⟩
                have T5 := Lib.hid hS
                clear hS T4 y0 y1 y2
                go_wp2_with fail
                go_meet
                exact Cut.mk (px l 200 cc) L (by omega) T5.out
              · have e0 : (d == 0) = false := by simpa using d0
                have e1 : (d == 1) = false := by simpa using d1
                have e2 : (d == 2) = false := by simpa using d2
                have e3 : (d == 3) = false := by simpa using d3
                obtain ⟨ma, mc, z0, zf, hcap, _⟩ := TA.out.mc
                have hle := TA.out.le.2
                by_cases hin : 0 ≤ at_ ∧ at_ ≤ l.length
                · as_aux_lemma =>
                  obtain ⟨i, rfl⟩ := Int.eq_ofNat_of_zero_le hin.1
                  have hil : i ≤ l.length := by omega
                  have ek := Lib.hid (show cx l i = l.take i by unfold cx; rw [if_pos hin]; rfl)
                  have hi2 : (i : Int) ≤ (l.length : Int) := by omega
                  clear hin d0 d1 d2 d3
                  go_wp2_with fail
                  go_quiet (fail)
                  have TB := Lib.hid (TA.out.drewN nq)
                  generalize wa.drewN nq = wb at *
                  clear TA x0 x1 x2 z0 zf hcap
                  obtain ⟨x0, x1, x2⟩ := TB.out.cells
                  dsimp only at x0 x1 x2
                  have hd := cutS (i : Int) TB.out
                  clear TB
                  go_wp2_with fail
                  refine hd.mono ?_; rintro e wc ⟨rfl, hS⟩
                  have TC := Lib.hid hS
                  clear hS hd x0 x1 x2
                  obtain ⟨x0, x1, x2⟩ := TC.out.cells
                  obtain ⟨ta, tc, z0, zf, hcap, hcut'⟩ := TC.out.mc
                  dsimp only at x0 x1 x2
                  have T5 := Lib.hid (hcut' i hil)
                  have r3 := fun wx => slc_rule (a := ta) (n := l.length) (c := tc) (i := i) (by omega) wx
                  have r4 := fun wx => slcAt_rule (a := ta) (n := l.length) (c := tc) (i := i) (by omega) wx
                  clear hcut'
                  go_wp2_with fail
                  go_still_tail 10, (by kernel_rfl)
                  change wpList _ _ _ _ _ wc.drew
                  have z0' : wc.drew.cell? ⟨p2, 0, none⟩ = some (.slice ta l.length tc) := z0
                  have zf' : wc.drew.frozen? ⟨p2, 0, none⟩ = false := zf
                  generalize wc.drew = wd at *
                  clear TC x0 x1 x2 z0 zf r3 r4
                  go_wp2_with fail
                  go_meet
                  exact Cut.mk (l.take i) L (by omega) (by rw [← ek.out]; rw [← ek.out] at T5; exact T5.out)
                · rcases (show at_ < 0 ∨ (0 ≤ at_ ∧ (l.length : Int) < at_) by omega) with h0 | ⟨h0, h1⟩
                  case' inl =>
                    have t0 : decide (0 ≤ at_) = false := by simpa using h0
                  case' inr =>
                    have t0 : decide (at_ ≤ (l.length : Int)) = false := by simpa using h1
                  all_goals as_aux_lemma =>
                    clear hin d0 d1 d2 d3
                    go_wp2_with fail
                    go_quiet (fail)
                    have TB := Lib.hid (TA.out.drewN nq)
                    generalize wa.drewN nq = wb at *
                    clear TA x0 x1 x2 z0 zf hcap
                    go_wp2_with fail
                    go_meet
                    exact Cut.mk l L (by omega) TB.out
      case rest =>
        obtain ⟨l2, L2, hl2, hS⟩ := hcut
        have TC := Lib.hid hS
        have HL3 := Lib.hid hl2
        obtain ⟨ta, tc, z0, zf, hcap, _⟩ := hS.kl
        have c1 := fun n => Lib.hid (lenS (hS.drewN n))
        have c2 := fun n => Lib.hid (markS (hS.drewN n))
        clear hS hl2 x0 x1 x2 TA
        go_wp2_with fail
        go_quiet ((first | (go_at_call 19; exact quiet_left (c1 _).out) | (go_at_call 20; exact quiet_left (c2 _).out)))
        have TD := Lib.hid (TC.out.drewN nq).both
        generalize wc.drewN nq = wd at *
        clear c1 c2 z0 zf TC
        go_wp2_with fail
        go_roundg (min n0 150 - (k + 1))
        case measure => omega
        case rel => exact ⟨k + 1, l2, L2, by omega, by have := HL3.out; have := HLL.out; omega, rfl, by go_num, TD.out⟩
    · obtain ⟨N, ⟨K, M, ⟨⟨F1, G1, a1, _⟩, _⟩, ⟨⟨F2, G2, a2, _⟩, _⟩, _⟩, _⟩ := two
      have cl := like_any a1 a2
      have HB := Lib.hid TW.out.bel
      clear a1 a2
      have hl2 : ¬ k < n0 ∨ (k < n0 ∧ ¬ k < 150) := by omega
      clear hlt
      rcases hl2 with h1 | ⟨h1, h2⟩
      all_goals as_aux_lemma =>
        go_wp2_with fail
        refine cl.mono ?_; rintro e w' ⟨rfl, nn, rfl⟩
        go_wp2_with fail
        refine (awake_any _).mono ?_; rintro e w9 ⟨rfl, b9⟩
        go_wp2_with fail
        go_ret
        exact ⟨rfl, HB.out.trans (((dBelow wr nn).trans b9).mono HB.out.size)⟩
set_option maxRecDepth 100000 in
theorem lifted (os : Os) (started : os.Started) (H : Type) (enc : TypeId × Value → H) :
    ReturnsInHanded {} Try.checked os 3 .any (Rows.trailPlaysSpec.pre6 enc Try.prog Try.f3 Rows.trailPlaysRow.domain false) (Rows.trailPlaysSpec.post enc Try.prog Try.f3 false true false false) := by
  refine returnsInHanded_of_change_sized (C := Try.checked) own started (by kernel_rfl) Try.func3
    (ChangeSpec.witness6 (enc := enc) (C := Try.checked) false ⟨#[], #[.slice none 0 0], []⟩ 8 (by kernel_rfl) (by kernel_rfl) (by kernel_rfl) (by kernel_rfl)) ?_
  intro W base args ds gs before hval0 hW _ hsz0 _
  have hsz : (DataW.weightsEach Try.prog (Try.f3.params.toList ++ Rows.trailPlaysSpec.plain.varTypes Try.prog) (ds ++ gs)).all (· ≤ reachBytes) = true := hsz0
  clear hsz0
  have hval : ∀ (j : Nat) t v, Try.f3.params[j]? = some t → args[j]? = some v → Value.okWide Try.prog W .any base t v := hval0
  have hW' := hW
  obtain ⟨p, q, hA0, hV, rfl, hfz, hnd⟩ := hW
  have hA : DataW.TrodAll enc Try.prog W 0 (fun _ => true) true Try.f3.params.toList args.toList ds p := hA0
  rw [Try.params3] at hA hval hsz
  obtain ⟨v0, vs0, d0, ds0, p0, q0, hargs, rfl, rfl, h0, r0⟩ := trodAll_cons hA
  obtain ⟨rfl, rfl, rfl⟩ := trodAll_nil r0
  obtain rfl : args = #[v0] := by cases args; simp_all
  obtain ⟨rfl, rfl⟩ := trodVars_none hV
  simp only [List.append_nil] at hW'
  have lt0 : ∀ x ∈ p0, x.block < W.heap.size := fun x hx => by
    have := hW'.lt x (by simp [hx])
    simpa using this
  have k0 := h0
  obtain ⟨a0, n0, c0, rfl⟩ := okWide_slice Try.underlying22 (hval 0 22 v0 rfl rfl)
  obtain ⟨t0, x0⟩ := h0.elim fun fuel hf => calls_open hf (lt0) (fun x y e => sized_slice hsz (j := 0) (t := 22) (e := 36) rfl (by rw [← e]; rfl) Try.underlying22)
  clear hA0 hval0
  refine (walk W a0 n0 c0 t0 x0).mono fun e W' ⟨he, hg⟩ => ?_
  subst he
  have ha := (trodAll_cons_mk (Below.trod laidOut (by kernel_rfl) (of_decide_eq_true (by kernel_rfl)) k0 hg lt0) trodAll_mk0)
  refine ⟨_, rfl, _, _, _, [], _, [], hW', ?_, ha, rfl, hg.frame _, fun h => by cases h⟩
  exact (trodAll_cons_mk (shut_bool Try.underlying4 _) trodAll_mk0)
/-- THE STATEMENT. -/
theorem proved : Rows.TrailPlaysSaid :=
  OpenClaim.holds_of_wide 3 Try.f3 rfl rfl rfl rfl rfl rfl rfl ⟨rfl, rfl, rfl, rfl, rfl⟩ rfl rfl rfl rfl rfl (by kernel_rfl) Try.func3 (by kernel_rfl)
    (of_decide_eq_true (by kernel_rfl)) (by unfold Func.isWrapper; first | (rw [if_pos (by decide +kernel)]; kernel_rfl) | (rw [if_neg (by decide +kernel)]; exact ⟨rfl, rfl⟩))
    (fun os started H enc _ => lifted os started H enc)
#print axioms proved
end Go.Proofs.Ytbonlmekphkahaa.trailPlays
