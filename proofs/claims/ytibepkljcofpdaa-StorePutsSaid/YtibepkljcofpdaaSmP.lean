/- The law's own: are a heap and the reference's the same. -/
import Derived.Test.YtibepkljcofpdaaHeap
import Derived.Test.YtibepkljcofpdaaRHeap
import Derived.BigQuiet
import Derived.LoopTactic
import Derived.Deep.LoopGhost
namespace Go.Proofs.Ytibepkljcofpdaa.hp
open Go.ChangeShapes Go.WideShapes Go.ChangeAt Go.RowKit Go.Maps
open Go.Proofs.Ytibepkljcofpdaa.kp Go.Proofs.Ytibepkljcofpdaa.cel
set_option linter.unusedVariables false
theorem samep_any {w : World} {p p2 : Nat} {F G : Nat → Prop} {l : List Int} {m m2 : Int} (h1 : Hp TH w p F l m) (h2 : Hp RH w p2 G l m2) :
    Calls Try.prog 18 #[.pointer (some ⟨p, 0, none⟩), .pointer (some ⟨p2, 0, none⟩)] w fun e w' => e = .returned (.bool true) ∧ ∃ n, w' = w.drewN n := by
  have cl := fun n => Lib.hid (len_any (h1.drewN n))
  obtain ⟨a, c, c0, c1, f0, f1, hc⟩ := h2.open_
  have hat := fun k hk => h2.at_ k hk
  have HAT := Lib.hid hat
  have H1 := Lib.hid h1
  have hle := h2.len_le
  have hge : ∀ k : Nat, k < l.length → gv l k = l.getD k 0 := fun k hk => by unfold gv; rw [if_pos ⟨by omega, by omega⟩]; simp
  have HGE := Lib.hid hge
  clear h1 h2 f0 f1 hat hge
  go_enter Try.func18, Try.ntmps18
  go_wp2_with fail
  go_quiet ((go_at_call 29; exact quiet_left (cl _).out))
  go_wp2_with fail
  go_loopg [22] l.length (fun (gk : Nat) (i : Value) (wx : World) => ∃ k : Nat, k ≤ l.length ∧ gk = l.length - k ∧ i = .int .i64 k ∧ ∃ m, wx = w.drewN m)
  case atStart => exact ⟨0, by omega, by omega, rfl, _, rfl⟩
  case round =>
    obtain ⟨k, hk, rfl, rfl, m9, rfl⟩ := hrel
    by_cases hlt : k < l.length
    · obtain ⟨g, c', e0, _, hgl, _, _, _, q0, _⟩ := HAT.out k hlt
      rw [c0] at e0
      injection e0 with e0; injection e0 with e0 e1 e2
      subst e0
      have hg := get_any (H1.out.drewN m9) (k : Int)
      rw [HGE.out k hlt, show gb l (k : Int) = true from decide_eq_true ⟨by omega, by omega⟩] at hg
      generalize l.getD k 0 = x at *
      have q1 : (w.drewN m9).cell? ⟨g, k, none⟩ = some (.int .u64 x) := by rw [← q0]; exact (drewN_below w m9).cell (p := ⟨g, k, none⟩) hgl
      have hki : (k : Int) < (l.length : Int) := by omega
      clear cl e1 e2 q0
      go_wp2_with fail
      refine hg.mono ?_; rintro e w' ⟨rfl, rfl⟩
      go_wp2_with fail
      go_roundg (l.length - (k + 1))
      case measure => omega
      case rel => exact ⟨k + 1, hlt, rfl, by go_num, m9, rfl⟩
    · have hki : ¬ (k : Int) < (l.length : Int) := by omega
      clear cl
      go_wp2_with fail
      go_ret
      exact ⟨rfl, m9, rfl⟩
end Go.Proofs.Ytibepkljcofpdaa.hp
