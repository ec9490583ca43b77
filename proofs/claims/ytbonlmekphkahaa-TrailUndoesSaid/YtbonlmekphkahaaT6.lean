/- What the laws of trails share: heaps and trails as objects, awake. -/
import Derived.Test.YtbonlmekphkahaaTrail
import Derived.Test.YtbonlmekphkahaaOb
namespace Go.Proofs.Ytbonlmekphkahaa.hp
open Go.ChangeShapes Go.WideShapes Go.ChangeAt Go.RowKit Go.Maps
open Go.Proofs.Ytbonlmekphkahaa.kp Go.Proofs.Ytbonlmekphkahaa.cel Go.Proofs.Ytbonlmekphkahaa.ob
set_option linter.unusedVariables false
def HO (T : TypeId) (p : Nat) (l : List Int) (m : Int) : Ob := fun w F => Hp T w p F l m
def TO (Tr : Tk) (q : Nat) (L : List Wr) : Ob := fun w G => Tr w q G L
def SO (T : TypeId) (Tr : Tk) (p q : Nat) (l : List Int) (m : Int) (L : List Wr) : Ob := fun w K => Sys T Tr w p q K l m L
theorem frH {T : TypeId} {p : Nat} {l : List Int} {m : Int} : Fr (HO T p l m) := ⟨fun h => Hp.lt h, fun h k d => Hp.keep h k d⟩
theorem frT {Tr : Tk} (f : Frm Tr) {q : Nat} {L : List Wr} : Fr (TO Tr q L) := ⟨fun h => f.lt h, fun h k d => f.keep h k d⟩
theorem frS {T : TypeId} {Tr : Tk} (f : Frm Tr) {p q : Nat} {l : List Int} {m : Int} {L : List Wr} : Fr (SO T Tr p q l m L) := ⟨fun h => Sys.lt f h, fun h k d => Sys.keep f h k d⟩
theorem Sys.of_tim {T : TypeId} {Tr : Tk} {w : World} {p q : Nat} {l : List Int} {m : Int} {L : List Wr} {N : Nat → Prop} (g : Gd L) (h : Tim (HO T p l m) (TO Tr q L) w N) : SO T Tr p q l m L w N := by
  obtain ⟨K, M, a, b, d, e⟩ := h
  exact ⟨⟨K, M, a, b, d, e⟩, g⟩
theorem Sys.tim {T : TypeId} {Tr : Tk} {w : World} {p q : Nat} {l : List Int} {m : Int} {L : List Wr} {N : Nat → Prop} (h : SO T Tr p q l m L w N) : Tim (HO T p l m) (TO Tr q L) w N := by
  obtain ⟨⟨K, M, a, b, d, e⟩, g⟩ := h
  exact ⟨K, M, a, b, d, e⟩
section
variable {A : Ob} {W w w' : World} {T : TypeId} {l : List Int} {m : Int}
theorem Mine.heap1 (h : Made T w l m w') : Mine w (HO T w.heap.size l m) w' := by
  obtain ⟨F, a, b, s⟩ := h
  exact ⟨F, a, b, s⟩
theorem Mine.heap (f : Fr A) (o : Mine W A w) (h : Made T w l m w') : Mine W (Tim A (HO T w.heap.size l m)) w' := by
  obtain ⟨F, a, b, s⟩ := h
  exact Mine.more f o b (B := HO T w.heap.size l m) a s
theorem Mine.trail (f : Fr A) (o : Mine W A w) : Mine W (Tim A (TO TP w.heap.size [])) (w.alloc (.cells #[.slice none 0 0, .slice none 0 0] TT)) := by
  obtain ⟨G, a, s⟩ := TN.made w
  exact Mine.more f o (kp.ba w _) (B := TO TP w.heap.size []) a s
end
set_option maxHeartbeats 1000000 in
theorem awake_any (w : World) : Calls Try.prog 22 #[] w fun e w' => e = .returned (.bool true) ∧ Below w.heap.size w w' := by
  go_enter Try.func22, Try.ntmps22
  go_wp2_with fail
  refine (new_any 9 w).mono ?_; rintro e w1 ⟨rfl, h1⟩
  rw [show max 0 (min 9 1048576) = (9 : Int) by decide] at h1
  have H1 := Lib.hid (Mine.heap1 h1)
  clear h1
  go_wp2_with fail
  refine (tnew_any w1).mono ?_; rintro e w2 ⟨rfl, hw2⟩
  have H2 : Mine w _ w2 := (hw2 ▸ (Mine.trail frH H1.out))
  clear hw2 H1
  generalize w1.heap.size = q at *
  generalize hp : w.heap.size = p at *
  have S2 := Lib.hid (H2.imp fun N h => Sys.of_tim Gd.nil h)
  clear H2
  obtain ⟨N, a, b, up⟩ := Mine.at_ S2.out
  obtain ⟨K, a1, up1⟩ := Tim.at1 (frT frmP) (Sys.tim a)
  have c1 := push_any a1 5 ⟨by omega, by omega⟩
  rw [show pv [] 9 = 0 by decide, show pe [] 9 = 0 by decide, show px [] 9 5 = [5] by decide] at c1
  have UP := fun w' (nx : Nx (HO TH p [5] 9) w2 K w') => Lib.hid ((up _ _ (up1 _ _ nx)).imp fun N h => Sys.of_tim Gd.nil h)
  clear a b up a1 up1 S2
  go_wp2_with fail
  refine c1.mono ?_; rintro e w3 ⟨rfl, nx⟩
  have S3 := UP w3 nx
  clear UP nx c1
  obtain ⟨N, a, b, up⟩ := Mine.at_ S3.out
  have c1 := tset_any a (by decide) 0 6 ⟨by omega, by omega⟩
  rw [show gb [5] 0 = true by decide, show sx [5] 0 6 = [6] by decide, show tx [5] [] 0 = [(0, 5)] by decide] at c1
  have UP := fun w' nx => Lib.hid (up (SO TH TP p q [6] 9 [(0, 5)]) w' nx)
  clear a b up S3
  go_wp2_with fail
  refine c1.mono ?_; rintro e w4 ⟨rfl, nx⟩
  have S4 := UP w4 nx
  clear UP nx c1
  obtain ⟨N, a, b, up⟩ := Mine.at_ S4.out
  have c1 := tset_any a (by decide) 0 7 ⟨by omega, by omega⟩
  rw [show gb [6] 0 = true by decide, show sx [6] 0 7 = [7] by decide, show tx [6] [(0, 5)] 0 = [(0, 5), (0, 6)] by decide] at c1
  have UP := fun w' nx => Lib.hid (up (SO TH TP p q [7] 9 [(0, 5), (0, 6)]) w' nx)
  clear a b up S4
  go_wp2_with fail
  refine c1.mono ?_; rintro e w5 ⟨rfl, nx⟩
  have S5 := UP w5 nx
  clear UP nx c1
  obtain ⟨N, a, b, up⟩ := Mine.at_ S5.out
  have c1 := tundo_any a (by decide) 0
  rw [show nb [((0 : Int), (5 : Int)), (0, 6)] 0 = 2 by decide, show ux [7] [(0, 5), (0, 6)] 0 = [5] by decide, show kx [((0 : Int), (5 : Int)), (0, 6)] 0 = [] by decide] at c1
  have UP := fun w' nx => Lib.hid (up (SO TH TP p q [5] 9 []) w' nx)
  clear a b up S5
  go_wp2_with fail
  refine c1.mono ?_; rintro e w6 ⟨rfl, nx⟩
  have S6 := UP w6 nx
  clear UP nx c1
  obtain ⟨N, a, b, up⟩ := Mine.at_ S6.out
  obtain ⟨K, a1, up1⟩ := Tim.at1 (frT frmP) (Sys.tim a)
  have c1 := get_any a1 0
  rw [show gv [5] 0 = 5 by decide, show gb [5] 0 = true by decide] at c1
  have B := Lib.hid b
  clear a b up a1 up1 S6
  go_wp2_with fail
  refine c1.mono ?_; rintro e w' ⟨rfl, rfl⟩
  go_wp2_with fail
  go_ret
  exact ⟨rfl, B.out⟩
end Go.Proofs.Ytbonlmekphkahaa.hp
