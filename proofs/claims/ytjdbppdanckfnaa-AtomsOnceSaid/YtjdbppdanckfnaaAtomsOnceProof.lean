/- The law AtomsOnce holds: for every input its Go function returns true and leaves its arguments as they were. No condition beyond the row's own. -/
import Derived.Test.YtjdbppdanckfnaaRows
import Derived.WalkKit
import Derived.ProofKit
import Derived.OpenShut
import Derived.SizedLaws
import Derived.Test.YtjdbppdanckfnaaAtoms2
import Derived.Test.YtjdbppdanckfnaaCount
import Derived.Test.YtjdbppdanckfnaaStrs
namespace Go.Proofs.Ytjdbppdanckfnaa.atomsOnce
open Go.ChangeShapes Go.WideShapes Go.ChangeAt Go.RowKit
open Go.ChangeMaps (open_string)
open Go.Proofs.Ytjdbppdanckfnaa.atm
set_option linter.unusedVariables false
theorem own : ownKnob Try.prog.godebug = none := by kernel_rfl
theorem laidOut : laidOutB Try.prog = true := by kernel_rfl
open Go.Maps Go.WideMaps
theorem lawI : Keyed Try.prog 3 := int_keyed Try.underlying3
theorem seen_more {t l : List ByteArray} {D : DataW Unit} {k : Nat} {d : DataW Unit} {x : ByteArray} (h : Seen t l D k) (ht : IsMap D) (hx : t.getD k ByteArray.empty = x) (hs : x.size ≤ 200) (hl : l.length < 4096) :
    Seen t (nx l x) (D.put (CK ((nx l x).idxOf x)) d) (k + 1) := fun j h1 h2 h3 => by
  have keep : ∀ i : Int, has D (CK i) = true → has (D.put (CK ((nx l x).idxOf x)) d) (CK i) = true := fun i hi => by
    by_cases e : i = ((nx l x).idxOf x : Nat)
    · subst e; exact has_put_same ht (by simp [WideAt.IsKeyLit]) _
    · rw [has_put_other (CK_ne e)]; exact hi
  by_cases e : j = k
  · subst e
    rw [hx]
    exact ⟨nx_mem hs hl, has_put_same ht (by simp [WideAt.IsKeyLit]) _⟩
  · obtain ⟨a, b⟩ := h j (by omega) h2 h3
    exact ⟨nx_old_mem a, by rw [nx_old_idx a]; exact keep _ b⟩
theorem own_keep {w w' : World} {b n : Nat} {D : DataW Unit} {G : Nat → Prop} (h : w.ownsMap Try.prog 3 (plainElem (H := Unit) Try.prog 3) b n D) (hk : Keep G w w') (hb : ¬ G b) : w'.ownsMap Try.prog 3 (plainElem (H := Unit) Try.prog 3) b n D := by
  have hlt := h.lt
  obtain ⟨es, clock, hmb, r⟩ := h
  exact ⟨es, clock, (hk.block b hlt hb).trans hmb, r⟩
/-- what holds at each round's head of the first loop -/
def R (W : World) (n bm : Nat) (t0 : List ByteArray) (i : Value) (wr : World) : Prop := ∃ (k : Nat) (F : Nat → Prop) (l : List ByteArray) (D : DataW Unit), k ≤ n ∧ i = .int .i64 k ∧ Tab wr W.heap.size F l ∧ l.length ≤ 2 + min k 100 ∧ Below W.heap.size W wr ∧ (∀ j, F j → W.heap.size ≤ j) ∧
  ¬ F bm ∧ wr.ownsMap Try.prog 3 (plainElem (H := Unit) Try.prog 3) bm (min k 100) D ∧ Cnt D l.length (min k 100) ∧ Seen t0 l D k
theorem R.skip {W wr : World} {n bm k : Nat} {t0 : List ByteArray} {F : Nat → Prop} {l : List ByteArray} {D : DataW Unit} (hk : k < n) (t : Tab wr W.heap.size F l) (hl : l.length ≤ 2 + min k 100) (b : Below W.heap.size W wr) (s : ∀ j, F j → W.heap.size ≤ j)
    (hb : ¬ F bm) (hm : wr.ownsMap Try.prog 3 (plainElem (H := Unit) Try.prog 3) bm (min k 100) D) (hc : Cnt D l.length (min k 100)) (hs : Seen t0 l D k) (hx : 100 ≤ k ∨ 200 < (t0.getD k ByteArray.empty).size) : R W n bm t0 (.int .i64 ((k : Int) + 1)) wr := by
  have hq : Cnt D l.length (min (k + 1) 100) := by
    obtain ⟨c1, c2, c3, c4⟩ := hc
    exact ⟨c1, fun i hi => by obtain ⟨d1, d2, v, d3, d4, d5⟩ := c2 i hi; exact ⟨d1, d2, v, d3, d4, by omega⟩, c3, c4⟩
  exact ⟨k + 1, F, l, D, hk, by simp, t, by omega, b, s, hb, hm.mono (by omega), hq, hs.skip hx⟩
theorem R.more {W wr w2 w3 : World} {n bm k : Nat} {t0 : List ByteArray} {F F2 : Nat → Prop} {l : List ByteArray} {x : ByteArray} {D : DataW Unit} {v : Int} (hk : k < n) (h100 : k < 100) (hl : l.length ≤ 2 + min k 100) (b : Below W.heap.size W wr) (s : ∀ j, F j → W.heap.size ≤ j)
    (hb : ¬ F bm) (hbw : bm < wr.heap.size) (hB : W.heap.size ≤ bm) (t2 : Tab w2 W.heap.size F2 (nx l x)) (k2 : Keep F wr w2) (s2 : ∀ j, F2 j → F j ∨ wr.heap.size ≤ j) (ht : Tidy D) (hc : Cnt D l.length (min k 100)) (hs : Seen t0 l D k) (hx : t0.getD k ByteArray.empty = x) (hxs : x.size ≤ 200)
    (hat : D.atKey (CK ((nx l x).idxOf x)) Z = .lit (.int .i64 v)) (hm3 : w3.ownsMap Try.prog 3 (plainElem (H := Unit) Try.prog 3) bm (min k 100 + 1) (D.put (CK ((nx l x).idxOf x)) (.lit (.int .i64 (v + 1))))) (g3 : w2.grownBy w3 (some bm)) : R W n bm t0 (.int .i64 ((k : Int) + 1)) w3 := by
  have hl4 : l.length < 4096 := by omega
  have hb2 : ¬ F2 bm := fun h => (s2 bm h).elim hb (by omega)
  have kp3 : Keep (fun j => j = bm) w2 w3 := Keep.of_grown g3 (fun j e => by injection e with e; exact e.symm)
  have t3 := t2.keep kp3 (fun j hj e => hb2 (e ▸ hj))
  have hn := nx_len l x
  have e1 : min (k + 1) 100 = min k 100 + 1 := by omega
  refine ⟨k + 1, F2, nx l x, _, hk, by simp, t3, by omega, (b.trans (k2.to_below s b.size)).trans (kp3.to_below (fun j e => by omega) (Nat.le_trans b.size k2.size)), fun j hj => (s2 j hj).elim (s j) fun h => Nat.le_trans b.size h, hb2, by rw [e1]; exact hm3, ?_, seen_more hs ht.isMap hx hxs hl4⟩
  rw [e1]
  refine Cnt_put hc ht ?_ hat
  rcases nx_cases l x with e | ⟨h, e⟩
  · left
    have h := nx_mem hxs hl4
    rw [e] at h ⊢
    exact ⟨List.idxOf_lt_length_of_mem h, rfl⟩
  · right
    rw [e]; simp [List.idxOf_append, h]
set_option maxHeartbeats 8000000 in
set_option maxRecDepth 100000 in
theorem walk (w : World) (a0 : Option Addr) (n0 c0 : Nat) (t0 : List ByteArray) (x0 : Strs w a0 n0 t0) :
    Calls Try.prog 6 #[.slice a0 n0 c0] w fun e w' => e = .returned (.bool true) ∧ Below w.heap.size w w' := by
  have hn : n0 ≤ 8796093022208 := by have := x0.reach; omega
  have X := Lib.hid x0
  have hmm := @run_makeMap Try.prog
  clear x0
  go_enter Try.func6, Try.ntmps6
  go_wp2_with fail
  refine (new_any w).mono ?_; rintro e w1 ⟨rfl, M⟩
  have M' := Lib.hid M
  clear M
  go_wp2_with fail
  go_loopw [21] (fun i wr => R w n0 w1.heap.size t0 i wr) (fun i _ => n0 - (intOf i).toNat)
  case atStart =>
    obtain ⟨F, t, b, s⟩ := M'.out
    have hlt := t.lt
    refine ⟨0, F, l0, .map [], Nat.zero_le _, rfl, t.below ((Below.refl _ _).alloc (Nat.le_refl _) _), by simp [l0], b.alloc b.size _, s, fun h => by have := hlt _ h; omega, ?_, Cnt_nil, Seen.zero _ _ _⟩
    exact World.ownsMap_made _ _ _ _
  case round =>
    obtain ⟨k, F, l, D, hk, rfl, t, hl, b, s, hb, hm, hc, hs⟩ := hrel
    have hB : w.heap.size ≤ w1.heap.size := M'.out.elim fun F h => h.2.1.size
    have HB := Lib.hid hB
    have T := Lib.hid t
    have B := Lib.hid b
    have SS := Lib.hid s
    have NB := Lib.hid hb
    have HM := Lib.hid hm
    have HC := Lib.hid hc
    have HS := Lib.hid hs
    by_cases hlt : k < n0
    · obtain ⟨A, hA, hcell, hix⟩ := X.out.look hlt
      have hc' := (b.cell hA).trans hcell
      have hx := X.out.at_size hlt
      obtain ⟨x, ex⟩ : ∃ x, x = t0.getD k ByteArray.empty := ⟨_, rfl⟩
      rw [← ex] at hc' hx
      have EX := Lib.hid ex
      clear hcell t b s hb hm hc hs hmm hB ex
      by_cases h100 : 100 ≤ k
      · go_wp2_with fail
        go_roundw
        case rel => exact R.skip hlt T.out hl B.out SS.out NB.out HM.out HC.out HS.out (Or.inl h100)
        case measure => simp [intOf]; omega
      have hxm : x.size ≤ 9223372036854775807 := by unfold maxLen at hx; omega
      by_cases hs : 200 < x.size
      · go_wp2_with fail
        go_roundw
        case rel => exact R.skip hlt T.out hl B.out SS.out NB.out HM.out HC.out HS.out (Or.inr (by rw [← EX.out]; exact hs))
        case measure => simp [intOf]; omega
      have hl4 : l.length < 4096 := by omega
      have cn := Lib.hid (num_ok T.out x (by omega) hl4)
      have mem := nx_mem (s := x) (by omega) hl4
      have MEM := Lib.hid mem
      have hbd := List.idxOf_lt_length_of_mem mem
      have hln := nx_len l x
      have hbm := HM.out.lt
      clear mem
      go_wp2_with fail
      refine cn.out.mono ?_; rintro e w2 ⟨rfl, F2, t2, k2, s2⟩
      have hm2 := own_keep HM.out k2 NB.out
      have nb2 : ¬ F2 w1.heap.size := fun h => (s2 _ h).elim NB.out (by omega)
      have HM2 := Lib.hid hm2
      have NB2 := Lib.hid nb2
      have T2 := Lib.hid t2
      have K2 := Lib.hid k2
      have S2 := Lib.hid s2
      have wfi : (Lit.int .i64 ((nx l x).idxOf x : Int)).wf = true := WalkArith.wf_i64 (by omega)
      have hkey : keyOf Try.prog 3 (.int .i64 ((nx l x).idxOf x : Int)) = some (CK ((nx l x).idxOf x)) := keyOf_int_mk Try.underlying3 wfi
      have KEY := Lib.hid hkey
      clear t2 k2 s2 hm2 nb2 hkey wfi
      go_wp2_with (at_lookup; refine wpList_lookup_own_int _ rfl _ _ 44 rfl 3 3 .i64 lawI Try.underlying44 Try.underlying3 (zeroI _) w1.heap.size _ D rfl HM2.out _ _ rfl KEY.out ?_)
      intro c hat _
      have bnd := Cnt_bound HC.out hat
      have HAT := Lib.hid hat
      clear hat
      go_wp2_with (at_mapUpdate; refine wpList_mapUpdate_own _ rfl _ _ _ 44 rfl 3 3 lawI Try.underlying44 _ w1.heap.size (min k 100) D rfl HM2.out ?b1 _ _ _ rfl rfl KEY.out _ [] (plainElem_int Try.underlying3 (WalkArith.wf_i64 ?b2)) ?_)
      case b1 => unfold maxLen; omega
      case b2 => omega
      intro w3 hm3 g3
      have t3 := T2.out.keep (Keep.of_grown (F := fun j => j = w1.heap.size) g3 (fun j e => by injection e with e; exact e.symm)) (fun j hj e => NB2.out (e ▸ hj))
      have cm := name_in t3 _ hbd
      rw [getD_idx MEM.out] at cm
      have cf := find_any t3 x hx
      rw [show fb (nx l x) x = true by simp [fb, MEM.out], show fi (nx l x) x = (nx l x).idxOf x by simp [fi, MEM.out]] at cf
      have CM := Lib.hid cm
      have CF := Lib.hid cf
      have HM3 := Lib.hid hm3
      have G3 := Lib.hid g3
      clear t3 cm cf hm3 g3
      go_wp2_with fail
      refine CM.out.mono ?_; rintro e w' ⟨rfl, rfl⟩
      go_wp2_with fail
      refine CF.out.mono ?_; rintro e w' ⟨rfl, rfl⟩
      go_wp2_with fail
      go_roundw
      case rel => exact R.more hlt (by omega) hl B.out SS.out NB.out hbm HB.out T2.out K2.out S2.out (HM.out.tidy lawI) HC.out HS.out EX.out.symm (by omega) HAT.out HM3.out G3.out
      case measure => simp [intOf]; omega
    · have TD := hm.tidy lawI
      have hsz := hm.len Try.underlying44
      have cl := Lib.hid (len_any t)
      have bd := Cnt_size hc
      clear t b s hb hm hc hs hmm hB TD
      go_wp2_with fail
      go_loop [74] (fun i => ∃ k : Nat, k ≤ n0 ∧ i = .int .i64 k) (fun i => n0 - (intOf i).toNat)
      case atStart => exact ⟨0, Nat.zero_le _, rfl⟩
      case round =>
        obtain ⟨k2, hk2, rfl⟩ := hrel
        by_cases hlt2 : k2 < n0
        · obtain ⟨A, hA, hcell, hix⟩ := X.out.look hlt2
          have hc' := (B.out.cell hA).trans hcell
          have hx := X.out.at_size hlt2
          have hs2 := HS.out k2 (by omega)
          obtain ⟨x, ex⟩ : ∃ x, x = t0.getD k2 ByteArray.empty := ⟨_, rfl⟩
          rw [← ex] at hc' hx hs2
          have HS2 := Lib.hid hs2
          clear hcell hs2 ex hsz
          by_cases h100 : 100 ≤ k2
          · go_wp2_with fail
            go_round
            case rel => exact ⟨k2 + 1, by omega, by go_num⟩
            case measure => simp [intOf]; omega
          have hxm : x.size ≤ 9223372036854775807 := by unfold maxLen at hx; omega
          by_cases hs : 200 < x.size
          · go_wp2_with fail
            go_round
            case rel => exact ⟨k2 + 1, by omega, by go_num⟩
            case measure => simp [intOf]; omega
          obtain ⟨mem, hh⟩ := HS2.out (by omega) (by omega)
          have cn := Lib.hid (num_old_w T.out x (by omega) mem)
          have hbd := List.idxOf_lt_length_of_mem mem
          have wfi : (Lit.int .i64 (l.idxOf x : Int)).wf = true := WalkArith.wf_i64 (by omega)
          have hkey : keyOf Try.prog 3 (.int .i64 (l.idxOf x : Int)) = some (CK (l.idxOf x)) := keyOf_int_mk Try.underlying3 wfi
          obtain ⟨c, hrun, hat, _⟩ := HM.out.lookup_int lawI Try.underlying44 Try.underlying3 (zeroI _) hkey
          have c1 := Cnt_at HC.out hh hat
          have c2 : (c == 0) = false := by simp; omega
          clear hat hkey wfi mem hh
          go_wp2_with fail
          refine cn.out.mono ?_; rintro e w' ⟨rfl, rfl⟩
          go_wp2_with fail
          go_round
          case rel => exact ⟨k2 + 1, by omega, by go_num⟩
          case measure => simp [intOf]; omega
        · have d1 := bd.1
          have d2 := bd.2
          clear bd
          go_wp2_with fail
          refine cl.out.mono ?_; rintro e w' ⟨rfl, rfl⟩
          go_wp2_with fail
          refine cl.out.mono ?_; rintro e w' ⟨rfl, rfl⟩
          go_wp2_with fail
          refine (awake_any _).mono ?_; rintro e w' ⟨rfl, hb⟩
          go_wp2_with fail
          go_ret
          exact ⟨rfl, B.out.trans (hb.mono B.out.size)⟩
set_option maxRecDepth 100000 in
theorem lifted (os : Os) (started : os.Started) (H : Type) (enc : TypeId × Value → H) :
    ReturnsInHanded {} Try.checked os 6 .any (Rows.atomsOnceSpec.pre6 enc Try.prog Try.f6 Rows.atomsOnceRow.domain false) (Rows.atomsOnceSpec.post enc Try.prog Try.f6 false true false false) := by
  refine returnsInHanded_of_change_sized (C := Try.checked) own started (by kernel_rfl) Try.func6
    (ChangeSpec.witness6 (enc := enc) (C := Try.checked) false ⟨#[], #[.slice none 0 0], []⟩ 8 (by kernel_rfl) (by kernel_rfl) (by kernel_rfl) (by kernel_rfl)) ?_
  intro W base args ds gs before hval0 hW _ hsz0 _
  have hsz : (DataW.weightsEach Try.prog (Try.f6.params.toList ++ Rows.atomsOnceSpec.plain.varTypes Try.prog) (ds ++ gs)).all (· ≤ reachBytes) = true := hsz0
  clear hsz0
  have hval : ∀ (j : Nat) t v, Try.f6.params[j]? = some t → args[j]? = some v → Value.okWide Try.prog W .any base t v := hval0
  have hW' := hW
  obtain ⟨p, q, hA0, hV, rfl, hfz, hnd⟩ := hW
  have hA : DataW.TrodAll enc Try.prog W 0 (fun _ => true) true Try.f6.params.toList args.toList ds p := hA0
  rw [Try.params6] at hA hval hsz
  obtain ⟨v0, vs0, d0, ds0, p0, q0, hargs, rfl, rfl, h0, r0⟩ := trodAll_cons hA
  obtain ⟨rfl, rfl, rfl⟩ := trodAll_nil r0
  obtain rfl : args = #[v0] := by cases args; simp_all
  obtain ⟨rfl, rfl⟩ := trodVars_none hV
  simp only [List.append_nil] at hW'
  have lt0 : ∀ x ∈ p0, x.block < W.heap.size := fun x hx => by
    have := hW'.lt x (by simp [hx])
    simpa using this
  have k0 := h0
  obtain ⟨a0, n0, c0, rfl⟩ := okWide_slice Try.underlying22 (hval 0 22 v0 rfl rfl)
  obtain ⟨t0, x0⟩ := h0.elim fun fuel hf => strs_open hf (lt0) (fun x y e => sized_slice hsz (j := 0) (t := 22) (e := 9) rfl (by rw [← e]; rfl) Try.underlying22)
  clear hA0 hval0
  refine (walk W a0 n0 c0 t0 x0).mono fun e W' ⟨he, hg⟩ => ?_
  subst he
  have ha := (trodAll_cons_mk (Below.trod laidOut (by kernel_rfl) (of_decide_eq_true (by kernel_rfl)) k0 hg lt0) trodAll_mk0)
  refine ⟨_, rfl, _, _, _, [], _, [], hW', ?_, ha, rfl, hg.frame _, fun h => by cases h⟩
  exact (trodAll_cons_mk (shut_bool Try.underlying4 _) trodAll_mk0)
/-- THE STATEMENT. -/
theorem proved : Rows.AtomsOnceSaid :=
  OpenClaim.holds_of_wide 6 Try.f6 rfl rfl rfl rfl rfl rfl rfl ⟨rfl, rfl, rfl, rfl, rfl⟩ rfl rfl rfl rfl rfl (by kernel_rfl) Try.func6 (by kernel_rfl)
    (of_decide_eq_true (by kernel_rfl)) (by unfold Func.isWrapper; first | (rw [if_pos (by decide +kernel)]; kernel_rfl) | (rw [if_neg (by decide +kernel)]; exact ⟨rfl, rfl⟩))
    (fun os started H enc _ => lifted os started H enc)
#print axioms proved
end Go.Proofs.Ytjdbppdanckfnaa.atomsOnce
