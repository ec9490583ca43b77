/- The reference's add, NewOps. -/
import Derived.Test.YtnpdipmkikakcaaOpU
import Derived.Test.YtnpdipmkikakcaaOpK
namespace Go.Proofs.Ytnpdipmkikakcaa.opv
open Go.ChangeShapes Go.WideShapes Go.ChangeAt Go.RowKit
open Go.Proofs.Ytnpdipmkikakcaa.kp Go.Proofs.Ytnpdipmkikakcaa.opa Go.Proofs.Ytnpdipmkikakcaa.opb Go.Proofs.Ytnpdipmkikakcaa.opb2 Go.Proofs.Ytnpdipmkikakcaa.opc Go.Proofs.Ytnpdipmkikakcaa.opd Go.Proofs.Ytnpdipmkikakcaa.ope Go.Proofs.Ytnpdipmkikakcaa.opf Go.Proofs.Ytnpdipmkikakcaa.opg Go.Proofs.Ytnpdipmkikakcaa.oph Go.Proofs.Ytnpdipmkikakcaa.opi Go.Proofs.Ytnpdipmkikakcaa.opk Go.Proofs.Ytnpdipmkikakcaa.opq Go.Proofs.Ytnpdipmkikakcaa.opr Go.Proofs.Ytnpdipmkikakcaa.ops_ Go.Proofs.Ytnpdipmkikakcaa.opt Go.Proofs.Ytnpdipmkikakcaa.opu
set_option linter.unusedVariables false
def strs (ns : List (List UInt8)) : List Value := ns.map fun n => .string ⟨n.toArray⟩
def mk (kd pr : Int) (ns : List (List UInt8)) : List D := ns.map fun n => (⟨n, kd, pr⟩ : D)
theorem inv_fold : ∀ (ms : List D) {l : List D}, Inv l → Inv (ms.foldl setL l)
  | [], _, h => h
  | o :: r, _, h => inv_fold r (h.setL o)
theorem strs_at {w : World} {g k : Nat} {ns : List (List UInt8)} (h : w.heap[g]? = some (.cells (strs ns).toArray 9 (0, 0))) (hk : k < ns.length) : w.cell? ⟨g, k, none⟩ = some (.string ⟨ns[k].toArray⟩) := by
  simp only [World.cell?, h, strs]
  simp [hk]
theorem strs_ix (g k n : Nat) (hk : k < n) (w : World) : (Instr.indexAt 50 (.slice (some ⟨g, 0, none⟩) n n) (.int .i64 (k : Int))).run Try.prog w = .ok (.pointer (some ⟨g, k, none⟩)) w := by
  rw [run_indexAt_slice w 50 _ _ _ _ _ (by rw [elS]; exact Try.underlying50), if_pos ⟨by omega, by omega⟩, elS, szS]
  simp [Result.andThen, add0]
def RA (w : World) (p : Nat) (F : Nat → Prop) (l : List D) (kd pr : Int) (ns : List (List UInt8)) (g : Nat) (s : Value) (wr : World) : Prop :=
  ∃ k : Nat, k ≤ ns.length ∧ g = ns.length - k ∧ s = .int .i64 k ∧ RNext w p F ((mk kd pr (ns.take k)).foldl setL l) wr
theorem mk_next {kd pr : Int} {ns : List (List UInt8)} {k : Nat} (hk : k < ns.length) (l : List D) : (mk kd pr (ns.take (k + 1))).foldl setL l = setL ((mk kd pr (ns.take k)).foldl setL l) ⟨ns[k], kd, pr⟩ := by
  unfold mk
  rw [List.take_succ_eq_append_getElem hk, List.map_append, List.foldl_append]; rfl
set_option maxRecDepth 100000 in
set_option maxHeartbeats 8000000 in
theorem radd_any {p g : Nat} {F : Nat → Prop} {l : List D} (pr kd : Int) (ns : List (List UInt8)) (w : World) (h : RTb w p F l) (hI : Inv l) (hg : w.heap[g]? = some (.cells (strs ns).toArray 9 (0, 0))) (hgF : ¬ F g) (hn : ns.length ≤ 1000) :
    Calls Try.prog 24 #[.pointer (some ⟨p, 0, none⟩), .int .i64 pr, .int .i64 kd, .slice (some ⟨g, 0, none⟩) ns.length ns.length] w fun e w' => e = .returned (.tuple #[]) ∧ RNext w p F ((mk kd pr ns).foldl setL l) w' := by
  have H0 := Lib.hid (And.intro h (And.intro hI (And.intro hg hgF)))
  clear h hI hg hgF
  go_enter Try.func24, Try.ntmps24
  go_wp2_with fail
  go_loopg [12] ns.length (RA w p F l kd pr ns)
  case atStart => exact ⟨0, by omega, by omega, rfl, RNext.same H0.out.1⟩
  case round =>
    obtain ⟨k, hk, rfl, rfl, hnx⟩ := hrel
    by_cases hlt : k < ns.length
    · obtain ⟨F', ht, hkp, hF'⟩ := hnx
      have hgl := (Array.getElem?_eq_some_iff.1 H0.out.2.2.1).1
      have hg1 := (hkp.block g hgl H0.out.2.2.2).trans H0.out.2.2.1
      have e0 := strs_at hg1 hlt
      have hix := strs_ix g k ns.length hlt
      have hc : decide ((k : Int) < ns.length) = true := decide_eq_true (by omega)
      obtain ⟨x, hx⟩ : ∃ x, x = ns[k] := ⟨_, rfl⟩
      rw [← hx] at e0
      have HX := Lib.hid hx
      have H1 := Lib.hid (And.intro ht (And.intro hkp hF'))
      clear ht hkp hF' hg1 hx
      go_wp2_with fail
      refine (rset_any ⟨x, kd, pr⟩ _ H1.out.1 (inv_fold _ H0.out.2.1)).mono ?_
      rintro e w5 ⟨rfl, hN⟩
      have H5 := Lib.hid (RNext.trans H1.out.2.1 H1.out.2.2 hN)
      clear hN e0 hix
      go_wp2_with fail
      go_roundg (ns.length - (k + 1))
      case measure => omega
      case rel => exact ⟨k + 1, hlt, rfl, by first | rw [show wrap64 ((k : Int) + 1) = ((k + 1 : Nat) : Int) by unfold wrap64; omega] | rfl | simp, by rw [mk_next hlt, ← HX.out]; exact H5.out⟩
    · have hkl : k = ns.length := by omega
      subst hkl
      rw [List.take_length] at hnx
      have H1 := Lib.hid hnx
      have hc : decide ((ns.length : Int) < ns.length) = false := by simp
      clear hnx
      go_wp2_with fail
      refine ⟨rfl, .tuple #[], results_none rfl _ _ _, rfl, H1.out⟩
theorem radd_made {w w1 : World} {p : Nat} {l : List D} (pr kd : Int) (ns : List (List UInt8)) (hn : ns.length ≤ 1000) (hm : RMade w l p w1) (hI : Inv l) :
    Calls Try.prog 24 #[.pointer (some ⟨p, 0, none⟩), .int .i64 pr, .int .i64 kd, .slice (some ⟨w1.heap.size, 0, none⟩) ns.length ns.length] (w1.alloc (.cells (strs ns).toArray 9)) fun e w' => e = .returned (.tuple #[]) ∧ RMade w ((mk kd pr ns).foldl setL l) p w' := by
  obtain ⟨F, ht, hb, hF⟩ := hm
  have ha := ba w1 (.cells (strs ns).toArray 9)
  refine (radd_any pr kd ns _ (ht.below ha) hI (alloc_at _ _) (fun f => by have := ht.lt _ f; omega) hn).mono ?_
  rintro e w2 ⟨rfl, G, t, k, s⟩
  have hb1 : Below w.heap.size w (w1.alloc (.cells (strs ns).toArray 9)) := hb.trans (ha.mono hb.size)
  refine ⟨rfl, G, t, hb1.trans (k.to_below (fun j hj => hF j hj) hb1.size), fun j hj => ?_⟩
  rcases s j hj with h | h
  · exact hF j h
  · exact Nat.le_trans hb1.size h
theorem rput_made {w w1 : World} {p : Nat} {l : List D} (o : D) (hm : RMade w l p w1) (hs : Srt l) (hi : is l o = false) (hl : l.length ≤ 1000) :
    Calls Try.prog 25 #[.pointer (some ⟨p, 0, none⟩), o.v] w1 fun e w' => e = .returned (.tuple #[]) ∧ RMade w (ins l o) p w' := by
  obtain ⟨F, ht, hb, hF⟩ := hm
  refine (rput_any o _ ht hs hi hl).mono ?_
  rintro e w2 ⟨rfl, G, t, k, s⟩
  refine ⟨rfl, G, t, hb.trans (k.to_below (fun j hj => hF j hj) hb.size), fun j hj => ?_⟩
  rcases s j hj with h | h
  · exact hF j h
  · exact Nat.le_trans hb.size h
theorem radd_lit {w w1 : World} {p : Nat} {l : List D} (pr kd : Int) (ns : List (List UInt8)) {g n : Nat} {cs : Array Value} (hm : RMade w l p w1) (hI : Inv l) (hg : g = w1.heap.size) (he : ns.length = n) (hc : (strs ns).toArray = cs) (hn : n ≤ 1000) :
    Calls Try.prog 24 #[.pointer (some ⟨p, 0, none⟩), .int .i64 pr, .int .i64 kd, .slice (some ⟨g, 0, none⟩) n n] (w1.alloc (.cells cs 9)) fun e w' => e = .returned (.tuple #[]) ∧ RMade w ((mk kd pr ns).foldl setL l) p w' := by
  subst hg; subst he; subst hc
  exact radd_made pr kd ns hn hm hI
/-! the operators in the reference's order -/
def Q1 : List D := (mk 1 1200 [[58, 45]]).foldl setL []
def Q2 : List D := (mk 5 1200 [[58, 45]]).foldl setL Q1
def Q3 : List D := (mk 2 1100 [[59]]).foldl setL Q2
def Q4 : List D := (mk 2 1050 [[45, 62]]).foldl setL Q3
def Q5 : List D := ins Q4 ⟨[44], 2, 1000⟩
def Q6 : List D := (mk 4 900 [[92, 43]]).foldl setL Q5
def Q7 : List D := (mk 1 700 new1).foldl setL Q6
def Q8 : List D := (mk 3 500 [[43], [45]]).foldl setL Q7
def Q9 : List D := (mk 3 400 [[42], [47, 47], [109, 111, 100], [114, 101, 109]]).foldl setL Q8
def Q10 : List D := (mk 2 200 [[94]]).foldl setL Q9
def Q11 : List D := (mk 4 200 [[45]]).foldl setL Q10
theorem Q11_new : Q11 = newL := by kernel_rfl
theorem I4 : Inv Q4 := inv_fold _ (inv_fold _ (inv_fold _ (inv_fold _ Inv.nil)))
theorem is4 : is Q4 ⟨[44], 2, 1000⟩ = false := by kernel_rfl
theorem len4 : Q4.length = 4 := by kernel_rfl
theorem I5 : Inv Q5 := I4.ins (by decide) (Nat.lt_of_le_of_lt (rest_le Q4 _ I4.srt) (by rw [len4]; decide))
set_option maxRecDepth 100000 in
set_option maxHeartbeats 8000000 in
theorem rnew_any (w : World) : Calls Try.prog 10 #[] w fun e w' => ∃ p, e = .returned (.pointer (some ⟨p, 0, none⟩)) ∧ RMade w newL p w' := by
  have h0 : RMade w [] w.heap.size (w.alloc (.cells #[.slice none 0 0] 30)) :=
    ⟨fun k => k = w.heap.size, ⟨none, 0, alloc_at _ _, World.ownsRow_nil _ _ _ _, by simp [Value.ownBlock], fun k => by simp [Value.ownBlock]⟩, ba _ _, fun k e => by omega⟩
  have H0 := Lib.hid h0
  clear h0
  go_enter Try.func10, Try.ntmps10
  go_wp2_with fail
  refine (radd_lit (l := []) 1200 1 [[58, 45]] H0.out Inv.nil (by simp) rfl rfl (by decide)).mono ?_
  rintro e w1 ⟨rfl, h⟩
  have H1 : Hid (RMade w Q1 w.heap.size w1) := Lib.hid h
  clear h
  go_wp2_with fail
  refine (radd_lit (l := Q1) 1200 5 [[58, 45]] H1.out (inv_fold _ Inv.nil) rfl rfl rfl (by decide)).mono ?_
  rintro e w2 ⟨rfl, h⟩
  have H2 : Hid (RMade w Q2 w.heap.size w2) := Lib.hid h
  clear h
  go_wp2_with fail
  refine (radd_lit (l := Q2) 1100 2 [[59]] H2.out (inv_fold _ (inv_fold _ Inv.nil)) rfl rfl rfl (by decide)).mono ?_
  rintro e w3 ⟨rfl, h⟩
  have H3 : Hid (RMade w Q3 w.heap.size w3) := Lib.hid h
  clear h
  go_wp2_with fail
  refine (radd_lit (l := Q3) 1050 2 [[45, 62]] H3.out (inv_fold _ (inv_fold _ (inv_fold _ Inv.nil))) rfl rfl rfl (by decide)).mono ?_
  rintro e w4 ⟨rfl, h⟩
  have H4 : Hid (RMade w Q4 w.heap.size w4) := Lib.hid h
  clear h
  go_wp2_with fail
  refine (rput_made (l := Q4) ⟨[44], 2, 1000⟩ H4.out I4.srt is4 (by rw [len4]; decide)).mono ?_
  rintro e w5 ⟨rfl, h⟩
  have H5 : Hid (RMade w Q5 w.heap.size w5) := Lib.hid h
  clear h
  go_wp2_with fail
  refine (radd_lit (l := Q5) 900 4 [[92, 43]] H5.out I5 rfl rfl rfl (by decide)).mono ?_
  rintro e w6 ⟨rfl, h⟩
  have H6 : Hid (RMade w Q6 w.heap.size w6) := Lib.hid h
  clear h
  go_wp2_with fail
  refine (radd_lit (l := Q6) 700 1 new1 H6.out (inv_fold _ I5) rfl rfl rfl (by decide)).mono ?_
  rintro e w7 ⟨rfl, h⟩
  have H7 : Hid (RMade w Q7 w.heap.size w7) := Lib.hid h
  clear h
  go_wp2_with fail
  refine (radd_lit (l := Q7) 500 3 [[43], [45]] H7.out (inv_fold _ (inv_fold _ I5)) rfl rfl rfl (by decide)).mono ?_
  rintro e w8 ⟨rfl, h⟩
  have H8 : Hid (RMade w Q8 w.heap.size w8) := Lib.hid h
  clear h
  go_wp2_with fail
  refine (radd_lit (l := Q8) 400 3 [[42], [47, 47], [109, 111, 100], [114, 101, 109]] H8.out (inv_fold _ (inv_fold _ (inv_fold _ I5))) rfl rfl rfl (by decide)).mono ?_
  rintro e w9 ⟨rfl, h⟩
  have H9 : Hid (RMade w Q9 w.heap.size w9) := Lib.hid h
  clear h
  go_wp2_with fail
  refine (radd_lit (l := Q9) 200 2 [[94]] H9.out (inv_fold _ (inv_fold _ (inv_fold _ (inv_fold _ I5)))) rfl rfl rfl (by decide)).mono ?_
  rintro e w10 ⟨rfl, h⟩
  have H10 : Hid (RMade w Q10 w.heap.size w10) := Lib.hid h
  clear h
  go_wp2_with fail
  refine (radd_lit (l := Q10) 200 4 [[45]] H10.out (inv_fold _ (inv_fold _ (inv_fold _ (inv_fold _ (inv_fold _ I5))))) rfl rfl rfl (by decide)).mono ?_
  rintro e w11 ⟨rfl, h⟩
  have H11 : Hid (RMade w Q11 w.heap.size w11) := Lib.hid h
  clear h
  go_wp2_with fail
  go_ret
  exact ⟨w.heap.size, rfl, by rw [← Q11_new]; exact H11.out⟩
end Go.Proofs.Ytnpdipmkikakcaa.opv
