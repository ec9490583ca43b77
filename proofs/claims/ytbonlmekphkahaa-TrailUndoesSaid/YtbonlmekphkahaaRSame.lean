/- The reference's SameCells, of two slices that hold the same cells: true. -/
import Derived.Test.YtbonlmekphkahaaHeap
import Derived.Test.YtbonlmekphkahaaRHeap
import Derived.LoopTactic
import Derived.Deep.LoopGhost
namespace Go.Proofs.Ytbonlmekphkahaa.hp
open Go.ChangeShapes Go.WideShapes Go.ChangeAt Go.RowKit Go.Maps
open Go.Proofs.Ytbonlmekphkahaa.kp Go.Proofs.Ytbonlmekphkahaa.cel
set_option linter.unusedVariables false
theorem own_at {w : World} {a : Option Addr} {n c : Nat} {l : List Int} (h : w.ownsRow 0 34 1 (.slice a n c) n (l.map (Value.int .u64))) {k : Nat} (hk : k < n) : ∃ g, a = some ⟨g, 0, none⟩ ∧ n ≤ c ∧ w.cell? ⟨g, k, none⟩ = some (.int .u64 (l.getD k 0)) := by
  have hl : l.length = n := by have := h.1; simpa using this
  rcases h.2 with ⟨_, e0⟩ | ⟨g, cap, cur, ev, _, _, hc, _⟩
  · omega
  injection ev with ea _ ec
  subst ea; subst ec
  have e := h.cellAt k (show k < n * 1 by omega)
  refine ⟨g, rfl, hc, e.trans ?_⟩
  rw [List.getElem?_map]
  have : k < l.length := by omega
  simp [List.getD, this]
theorem same_any {w : World} {a b : Option Addr} {n c d : Nat} {l : List Int} (hn : n ≤ 1048576) (h1 : w.ownsRow 0 34 1 (.slice a n c) n (l.map (Value.int .u64))) (h2 : w.ownsRow 0 34 1 (.slice b n d) n (l.map (Value.int .u64))) :
    Calls Try.prog 26 #[.slice a n c, .slice b n d] w fun e w' => e = .returned (.bool true) ∧ ∃ m, w' = w.drewN m := by
  have H1 := Lib.hid h1
  have H2 := Lib.hid h2
  clear h1 h2
  go_enter Try.func26, Try.ntmps26
  go_wp2_with fail
  go_loopg [13] n (fun gk i wx => ∃ k : Nat, k ≤ n ∧ gk = n - k ∧ i = .int .i64 k ∧ ∃ m, wx = w.drewN m)
  case atStart => exact ⟨0, by omega, by omega, rfl, 0, rfl⟩
  case round =>
    obtain ⟨k, hk, rfl, rfl, m, hm⟩ := hrel
    by_cases hlt : k < n
    · obtain ⟨g, rfl, hc, e1⟩ := own_at H1.out hlt
      obtain ⟨g2, rfl, hc2, e2⟩ := own_at H2.out hlt
      have hki : (k : Int) < (n : Int) := by omega
      have b1 : wr.cell? ⟨g, k, none⟩ = some (.int .u64 (l.getD k 0)) := by rw [hm]; exact (World.cell?_drewN w m _).trans e1
      have b2 : wr.cell? ⟨g2, k, none⟩ = some (.int .u64 (l.getD k 0)) := by rw [hm]; exact (World.cell?_drewN w m _).trans e2
      have HM := Lib.hid hm
      generalize l.getD k 0 = v at *
      clear e1 e2 hm
      go_wp2_with fail
      go_quiet (fail)
      have HM2 := Lib.hid (show wr.drewN nq = w.drewN (m + nq) by rw [HM.out, World.drewN_drewN])
      generalize wr.drewN nq = wq at *
      clear b1 b2 HM
      go_wp2_with fail
      go_roundg (n - (k + 1))
      case measure => omega
      case rel => exact ⟨k + 1, by omega, rfl, by go_num, _, HM2.out⟩
    · obtain rfl : k = n := by omega
      go_wp2_with fail
      go_ret
      exact ⟨rfl, m, rfl⟩
end Go.Proofs.Ytbonlmekphkahaa.hp
