/- The law AtomsApart holds: for every input its Go function returns true and leaves its arguments as they were. No condition beyond the row's own. -/
import Derived.Test.YtjdbppdanckfnaaRows
import Derived.WalkKit
import Derived.ProofKit
import Derived.OpenShut
import Derived.SizedLaws
import Derived.Test.YtjdbppdanckfnaaAtoms2
import Derived.Test.YtjdbppdanckfnaaStrs
namespace Go.Proofs.Ytjdbppdanckfnaa.atomsApart
open Go.ChangeShapes Go.WideShapes Go.ChangeAt Go.RowKit
open Go.ChangeMaps (open_string)
open Go.Proofs.Ytjdbppdanckfnaa.atm
set_option linter.unusedVariables false
theorem own : ownKnob Try.prog.godebug = none := by kernel_rfl
theorem laidOut : laidOutB Try.prog = true := by kernel_rfl
open Go.Maps Go.WideMaps
/-- two tables, apart -/
def Two (W : World) (p q : Nat) (la lb : List ByteArray) (wr : World) : Prop := ∃ F G : Nat → Prop, Tab wr p F la ∧ Tab wr q G lb ∧ (∀ j, F j → ¬ G j) ∧ Below W.heap.size W wr ∧ (∀ j, F j → W.heap.size ≤ j) ∧ (∀ j, G j → W.heap.size ≤ j)
theorem Two.left {W wr w2 : World} {p q : Nat} {lb la' : List ByteArray} {F G : Nat → Prop} (tb : Tab wr q G lb) (d : ∀ j, F j → ¬ G j) (b : Below W.heap.size W wr) (f : ∀ j, F j → W.heap.size ≤ j) (g : ∀ j, G j → W.heap.size ≤ j) (n : atm.Next wr p F la' w2) : Two W p q la' lb w2 := by
  obtain ⟨F2, t2, k2, s2⟩ := n
  have hlt := tb.lt
  refine ⟨F2, G, t2, tb.keep k2 (fun j hg hf => d j hf hg), fun j hf hg => ?_, b.trans (k2.to_below f b.size), fun j hj => (s2 j hj).elim (f j) (Nat.le_trans b.size), g⟩
  rcases s2 j hf with h | h
  · exact d j h hg
  · have := hlt j hg; omega
theorem Two.right {W wr w2 : World} {p q : Nat} {la lb' : List ByteArray} {F G : Nat → Prop} (ta : Tab wr p F la) (d : ∀ j, F j → ¬ G j) (b : Below W.heap.size W wr) (f : ∀ j, F j → W.heap.size ≤ j) (g : ∀ j, G j → W.heap.size ≤ j) (n : atm.Next wr q G lb' w2) : Two W p q la lb' w2 := by
  obtain ⟨G2, t2, k2, s2⟩ := n
  have hlt := ta.lt
  refine ⟨F, G2, ta.keep k2 d, t2, fun j hf hg => ?_, b.trans (k2.to_below g b.size), f, fun j hj => (s2 j hj).elim (g j) (Nat.le_trans b.size)⟩
  rcases s2 j hg with h | h
  · exact d j hf h
  · have := hlt j hf; omega
theorem getD_pre {l m : List ByteArray} {i : Nat} (h : i < l.length) : (l ++ m).getD i ByteArray.empty = l.getD i ByteArray.empty := by
  simp [List.getD, List.getElem?_append, h]
theorem nx_pre (l m : List ByteArray) (s : ByteArray) : ∃ m', nx (l ++ m) s = l ++ m' := by
  rcases nx_cases (l ++ m) s with h | ⟨_, h⟩ <;> rw [h]
  · exact ⟨m, rfl⟩
  · exact ⟨m ++ [s], by simp⟩
def R1 (W : World) (p q n : Nat) (i : Value) (wr : World) : Prop := ∃ (k : Nat) (l : List ByteArray), k ≤ n ∧ i = .int .i64 k ∧ l.length ≤ 2 + min k 60 ∧ Two W p q l l wr
def R2 (W : World) (p q n : Nat) (l : List ByteArray) (i : Value) (wr : World) : Prop := ∃ (k : Nat) (m : List ByteArray), k ≤ n ∧ i = .int .i64 k ∧ m.length ≤ min k 60 ∧ Two W p q (l ++ m) l wr
set_option maxHeartbeats 8000000 in
set_option maxRecDepth 100000 in
theorem walk (w : World) (a0 : Option Addr) (n0 c0 : Nat) (t0 : List ByteArray) (x0 : Strs w a0 n0 t0) (a1 : Option Addr) (n1 c1 : Nat) (t1 : List ByteArray) (x1 : Strs w a1 n1 t1) :
    Calls Try.prog 7 #[.slice a0 n0 c0, .slice a1 n1 c1] w fun e w' => e = .returned (.bool true) ∧ Below w.heap.size w w' := by
  have hn0 : n0 ≤ 8796093022208 := by have := x0.reach; omega
  have hn1 : n1 ≤ 8796093022208 := by have := x1.reach; omega
  have X0 := Lib.hid x0
  have X1 := Lib.hid x1
  clear x0 x1
  go_enter Try.func7, Try.ntmps7
  go_wp2_with fail
  refine (new_any w).mono ?_; rintro e w1 ⟨rfl, M⟩
  have M' := Lib.hid M
  clear M
  go_wp2_with fail
  refine (new_any w1).mono ?_; rintro e w2 ⟨rfl, M⟩
  have M2 := Lib.hid M
  clear M
  have S0 : Two w w.heap.size w1.heap.size l0 l0 w2 := by
    obtain ⟨F, t, b, s⟩ := M'.out
    obtain ⟨G, t2, b2, s2⟩ := M2.out
    have hlt := t.lt
    exact ⟨F, G, t.below b2, t2, fun j hf hg => by have := hlt j hf; have := s2 j hg; omega, b.trans (b2.mono b.size), s, fun j hj => Nat.le_trans b.size (s2 j hj)⟩
  have S0 := Lib.hid S0
  obtain ⟨q, hq⟩ : ∃ q, q = w1.heap.size := ⟨_, rfl⟩
  obtain ⟨p, hp⟩ : ∃ p, p = w.heap.size := ⟨_, rfl⟩
  have S1 : Hid (Two w p q l0 l0 w2) := by rw [hq, hp]; exact S0
  clear S0 M' M2
  rw [← hq, ← hp]
  clear hq hp
  go_wp2_with fail
  go_loopw [25] (fun i wr => R1 w p q n0 i wr) (fun i _ => n0 - (intOf i).toNat)
  case atStart => exact ⟨0, l0, Nat.zero_le _, rfl, by simp [l0], S1.out⟩
  case round =>
    obtain ⟨k, l, hk, rfl, hl, two⟩ := hrel
    have TW := Lib.hid two
    obtain ⟨F, G, ta, tb, dj, b, f, g⟩ := two
    by_cases hlt : k < n0
    · obtain ⟨A, hA, hcell, hix⟩ := X0.out.look hlt
      have hc' := (b.cell hA).trans hcell
      have hx := X0.out.at_size hlt
      obtain ⟨x, ex⟩ : ∃ x, x = t0.getD k ByteArray.empty := ⟨_, rfl⟩
      rw [← ex] at hc' hx
      clear hcell ex
      by_cases h60 : 60 ≤ k
      · clear ta tb dj b f g
        go_wp2_with fail
        go_roundw
        case rel => exact ⟨k + 1, l, by omega, by go_num, by omega, TW.out⟩
        case measure => simp [intOf]; omega
      have hxm : x.size ≤ 9223372036854775807 := by unfold maxLen at hx; omega
      by_cases hs : 200 < x.size
      · clear ta tb dj b f g
        go_wp2_with fail
        go_roundw
        case rel => exact ⟨k + 1, l, by omega, by go_num, by omega, TW.out⟩
        case measure => simp [intOf]; omega
      have hl4 : l.length < 4096 := by omega
      have ca := Lib.hid (num_ok ta x (by omega) hl4)
      have step : ∀ w3, atm.Next wr p F (nx l x) w3 → Two w p q (nx l x) l w3 := fun w3 n => Two.left tb dj b f g n
      have STEP := Lib.hid step
      have hln := nx_len l x
      clear ta tb dj b f g step
      go_wp2_with fail
      refine ca.out.mono ?_; rintro e w3 ⟨rfl, nn⟩
      have two3 := STEP.out w3 nn
      obtain ⟨F3, G3, ta3, tb3, dj3, b3, f3, g3⟩ := two3
      have cb := Lib.hid (num_ok tb3 x (by omega) hl4)
      have step2 : ∀ w4, atm.Next w3 q G3 (nx l x) w4 → Two w p q (nx l x) (nx l x) w4 := fun w4 n => Two.right ta3 dj3 b3 f3 g3 n
      have STEP2 := Lib.hid step2
      clear ta3 tb3 dj3 b3 f3 g3 step2 nn
      go_wp2_with fail
      refine cb.out.mono ?_; rintro e w4 ⟨rfl, nn⟩
      have NN := Lib.hid nn
      clear nn
      go_wp2_with fail
      go_roundw
      case rel => exact ⟨k + 1, nx l x, by omega, by go_num, by omega, STEP2.out _ NN.out⟩
      case measure => simp [intOf]; omega
    · have cl := Lib.hid (len_any tb)
      clear ta tb dj b f g
      go_wp2_with fail
      refine cl.out.mono ?_; rintro e w' ⟨rfl, rfl⟩
      go_wp2_with fail
      go_loopw [62] (fun i wr => R2 w p q n1 l i wr) (fun i _ => n1 - (intOf i).toNat)
      case atStart => exact ⟨0, [], Nat.zero_le _, rfl, by simp, by simpa using TW.out⟩
      case round =>
        obtain ⟨j, m, hj, rfl, hm, two⟩ := hrel
        have TW2 := Lib.hid two
        obtain ⟨F, G, ta, tb, dj, b, f, g⟩ := two
        by_cases hlt2 : j < n1
        · obtain ⟨A, hA, hcell, hix⟩ := X1.out.look hlt2
          have hc' := (b.cell hA).trans hcell
          have hx := X1.out.at_size hlt2
          obtain ⟨x, ex⟩ : ∃ x, x = t1.getD j ByteArray.empty := ⟨_, rfl⟩
          rw [← ex] at hc' hx
          clear hcell ex
          by_cases h60 : 60 ≤ j
          · clear ta tb dj b f g
            go_wp2_with fail
            go_roundw
            case rel => exact ⟨j + 1, m, by omega, by go_num, by omega, TW2.out⟩
            case measure => simp [intOf]; omega
          have hxm : x.size ≤ 9223372036854775807 := by unfold maxLen at hx; omega
          have ca := Lib.hid (num_any ta x hx)
          have step : ∀ w3, atm.Next _ p F (nx (l ++ m) x) w3 → Two w p q (nx (l ++ m) x) l w3 := fun w3 n => Two.left tb dj b f g n
          have STEP := Lib.hid step
          have PRE := Lib.hid (nx_pre l m x)
          have LEN := Lib.hid (nx_len (l ++ m) x)
          clear ta tb dj b f g step
          go_wp2_with fail
          refine ca.out.mono ?_; rintro e w3 ⟨rfl, nn⟩
          have NN := Lib.hid nn
          clear nn
          go_wp2_with fail
          go_roundw
          case rel =>
            obtain ⟨m', em⟩ := PRE.out
            have hln := LEN.out
            have tt := STEP.out _ NN.out
            rw [em] at hln tt
            simp at hln
            exact ⟨j + 1, m', by omega, by go_num, by omega, tt⟩
          case measure => simp [intOf]; omega
        · have cla := Lib.hid (len_any ta)
          have clb := Lib.hid (len_any tb)
          have BB := Lib.hid b
          have nma : ∀ i, i < l.length → _ := fun i hi => name_in ta i (by rw [List.length_append]; omega)
          have nmb : ∀ i, i < l.length → _ := fun i hi => name_in tb i hi
          have NMA := Lib.hid nma
          have NMB := Lib.hid nmb
          clear ta tb dj b f g nma nmb
          go_wp2_with fail
          go_loop [74] (fun i => ∃ k : Nat, k ≤ l.length ∧ i = .int .i64 k) (fun i => l.length - (intOf i).toNat)
          case atStart => exact ⟨0, Nat.zero_le _, rfl⟩
          case round =>
            obtain ⟨i, hi, rfl⟩ := hrel
            by_cases hlt3 : i < l.length
            · have na := NMA.out i hlt3
              have nb := NMB.out i hlt3
              rw [getD_pre hlt3] at na
              generalize l.getD i ByteArray.empty = y at na nb
              have NA := Lib.hid na
              have NB := Lib.hid nb
              clear na nb
              go_wp2_with fail
              refine NA.out.mono ?_; rintro e w' ⟨rfl, rfl⟩
              go_wp2_with fail
              refine NB.out.mono ?_; rintro e w' ⟨rfl, rfl⟩
              go_wp2_with fail
              go_round
              case rel => exact ⟨i + 1, by omega, by go_num⟩
              case measure => simp [intOf]; omega
            · have hla : l.length ≤ (l ++ m).length := by simp
              go_wp2_with fail
              refine clb.out.mono ?_; rintro e w' ⟨rfl, rfl⟩
              go_wp2_with fail
              refine cla.out.mono ?_; rintro e w' ⟨rfl, rfl⟩
              go_wp2_with fail
              refine (awake_any _).mono ?_; rintro e w' ⟨rfl, hb⟩
              go_wp2_with fail
              go_ret
              exact ⟨rfl, BB.out.trans (hb.mono BB.out.size)⟩
set_option maxRecDepth 100000 in
theorem lifted (os : Os) (started : os.Started) (H : Type) (enc : TypeId × Value → H) :
    ReturnsInHanded {} Try.checked os 7 .any (Rows.atomsApartSpec.pre6 enc Try.prog Try.f7 Rows.atomsApartRow.domain false) (Rows.atomsApartSpec.post enc Try.prog Try.f7 false true false false) := by
  refine returnsInHanded_of_change_sized (C := Try.checked) own started (by kernel_rfl) Try.func7
    (ChangeSpec.witness6 (enc := enc) (C := Try.checked) false ⟨#[], #[.slice none 0 0, .slice none 0 0], []⟩ 8 (by kernel_rfl) (by kernel_rfl) (by kernel_rfl) (by kernel_rfl)) ?_
  intro W base args ds gs before hval0 hW _ hsz0 _
  have hsz : (DataW.weightsEach Try.prog (Try.f7.params.toList ++ Rows.atomsApartSpec.plain.varTypes Try.prog) (ds ++ gs)).all (· ≤ reachBytes) = true := hsz0
  clear hsz0
  have hval : ∀ (j : Nat) t v, Try.f7.params[j]? = some t → args[j]? = some v → Value.okWide Try.prog W .any base t v := hval0
  have hW' := hW
  obtain ⟨p, q, hA0, hV, rfl, hfz, hnd⟩ := hW
  have hA : DataW.TrodAll enc Try.prog W 0 (fun _ => true) true Try.f7.params.toList args.toList ds p := hA0
  rw [Try.params7] at hA hval hsz
  obtain ⟨v0, vs0, d0, ds0, p0, q0, hargs, rfl, rfl, h0, r0⟩ := trodAll_cons hA
  obtain ⟨v1, vs1, d1, ds1, p1, q1, rfl, rfl, rfl, h1, r1⟩ := trodAll_cons r0
  obtain ⟨rfl, rfl, rfl⟩ := trodAll_nil r1
  obtain rfl : args = #[v0, v1] := by cases args; simp_all
  obtain ⟨rfl, rfl⟩ := trodVars_none hV
  simp only [List.append_nil] at hW'
  have lt0 : ∀ x ∈ p0, x.block < W.heap.size := fun x hx => by
    have := hW'.lt x (by simp [hx])
    simpa using this
  have k0 := h0
  have lt1 : ∀ x ∈ p1, x.block < W.heap.size := fun x hx => by
    have := hW'.lt x (by simp [hx])
    simpa using this
  have k1 := h1
  obtain ⟨a0, n0, c0, rfl⟩ := okWide_slice Try.underlying22 (hval 0 22 v0 rfl rfl)
  obtain ⟨t0, x0⟩ := h0.elim fun fuel hf => strs_open hf (lt0) (fun x y e => sized_slice hsz (j := 0) (t := 22) (e := 9) rfl (by rw [← e]; rfl) Try.underlying22)
  obtain ⟨a1, n1, c1, rfl⟩ := okWide_slice Try.underlying22 (hval 1 22 v1 rfl rfl)
  obtain ⟨t1, x1⟩ := h1.elim fun fuel hf => strs_open hf (lt1) (fun x y e => sized_slice hsz (j := 1) (t := 22) (e := 9) rfl (by rw [← e]; rfl) Try.underlying22)
  clear hA0 hval0
  refine (walk W a0 n0 c0 t0 x0 a1 n1 c1 t1 x1).mono fun e W' ⟨he, hg⟩ => ?_
  subst he
  have ha := (trodAll_cons_mk (Below.trod laidOut (by kernel_rfl) (of_decide_eq_true (by kernel_rfl)) k0 hg lt0) (trodAll_cons_mk (Below.trod laidOut (by kernel_rfl) (of_decide_eq_true (by kernel_rfl)) k1 hg lt1) trodAll_mk0))
  refine ⟨_, rfl, _, _, _, [], _, [], hW', ?_, ha, rfl, hg.frame _, fun h => by cases h⟩
  exact (trodAll_cons_mk (shut_bool Try.underlying4 _) trodAll_mk0)
/-- THE STATEMENT. -/
theorem proved : Rows.AtomsApartSaid :=
  OpenClaim.holds_of_wide 7 Try.f7 rfl rfl rfl rfl rfl rfl rfl ⟨rfl, rfl, rfl, rfl, rfl⟩ rfl rfl rfl rfl rfl (by kernel_rfl) Try.func7 (by kernel_rfl)
    (of_decide_eq_true (by kernel_rfl)) (by unfold Func.isWrapper; first | (rw [if_pos (by decide +kernel)]; kernel_rfl) | (rw [if_neg (by decide +kernel)]; exact ⟨rfl, rfl⟩))
    (fun os started H enc _ => lifted os started H enc)
#print axioms proved
end Go.Proofs.Ytjdbppdanckfnaa.atomsApart
