/- The law AtomsPlay holds: for every input its Go function returns true and leaves its arguments as they were. No condition beyond the row's own. -/
import Derived.Test.YtjdbppdanckfnaaRows
import Derived.WalkKit
import Derived.ProofKit
import Derived.OpenShut
import Derived.SizedLaws
import Derived.Test.YtjdbppdanckfnaaAtoms2
import Derived.Test.YtjdbppdanckfnaaRefAtoms
import Derived.Test.YtjdbppdanckfnaaStrs
import Derived.Deep.QuietTactic
import Derived.BigQuiet
namespace Go.Proofs.Ytjdbppdanckfnaa.atomsPlay
open Go.ChangeShapes Go.WideShapes Go.ChangeAt Go.RowKit
open Go.ChangeMaps (open_string)
open Go.Proofs.Ytjdbppdanckfnaa.atm
set_option linter.unusedVariables false
theorem own : ownKnob Try.prog.godebug = none := by kernel_rfl
theorem laidOut : laidOutB Try.prog = true := by kernel_rfl
open Go.Maps Go.WideMaps
/-- the table and the page's table, apart, with the same names -/
def Two (W : World) (p q : Nat) (la lb : List ByteArray) (wr : World) : Prop := ∃ F G : Nat → Prop, Tab wr p F la ∧ Ref wr q G lb ∧ (∀ j, F j → ¬ G j) ∧ Below W.heap.size W wr ∧ (∀ j, F j → W.heap.size ≤ j) ∧ (∀ j, G j → W.heap.size ≤ j)
theorem Two.left {W wr w2 : World} {p q : Nat} {lb la' : List ByteArray} {F G : Nat → Prop} (tb : Ref wr q G lb) (d : ∀ j, F j → ¬ G j) (b : Below W.heap.size W wr) (f : ∀ j, F j → W.heap.size ≤ j) (g : ∀ j, G j → W.heap.size ≤ j) (n : atm.Next wr p F la' w2) : Two W p q la' lb w2 := by
  obtain ⟨F2, t2, k2, s2⟩ := n
  have hlt := tb.lt
  refine ⟨F2, G, t2, tb.keep k2 (fun j hg hf => d j hf hg), fun j hf hg => ?_, b.trans (k2.to_below f b.size), fun j hj => (s2 j hj).elim (f j) (Nat.le_trans b.size), g⟩
  rcases s2 j hf with h | h
  · exact d j h hg
  · have := hlt j hg; omega
theorem Two.right {W wr w2 : World} {p q : Nat} {la lb' : List ByteArray} {F G : Nat → Prop} (ta : Tab wr p F la) (d : ∀ j, F j → ¬ G j) (b : Below W.heap.size W wr) (f : ∀ j, F j → W.heap.size ≤ j) (g : ∀ j, G j → W.heap.size ≤ j) (n : RNext wr q G lb' w2) : Two W p q la lb' w2 := by
  obtain ⟨G2, t2, k2, s2⟩ := n
  have hlt := ta.lt
  refine ⟨F, G2, ta.keep k2 d, t2, fun j hf hg => ?_, b.trans (k2.to_below g b.size), f, fun j hj => (s2 j hj).elim (g j) (Nat.le_trans b.size)⟩
  rcases s2 j hg with h | h
  · exact d j hf h
  · have := hlt j hf; omega
theorem drewN_below (w : World) (n : Nat) : Below w.heap.size w (w.drewN n) := by
  induction n with
  | zero => exact Below.refl _ _
  | succ n ih => exact ih.drew
theorem Two.drewN {W wr : World} {p q : Nat} {la lb : List ByteArray} (h : Two W p q la lb wr) (n : Nat) : Two W p q la lb (wr.drewN n) := by
  obtain ⟨F, G, ta, tb, d, b, f, g⟩ := h
  exact ⟨F, G, ta.below (drewN_below wr n), tb.below (drewN_below wr n), d, b.trans ((drewN_below wr n).mono b.size), f, g⟩
theorem ref_slice {w : World} {p : Nat} {F : Nat → Prop} {l : List ByteArray} (h : Ref w p F l) : ∃ a c, w.cell? ⟨p, 0, none⟩ = some (.slice a l.length c) := by
  obtain ⟨v, hp, hr, h2, hF⟩ := h
  obtain ⟨c0, f0⟩ := one_cell hp
  obtain ⟨a, c, rfl⟩ := atm.shape hr
  exact ⟨a, c, c0⟩
theorem ref_open {w : World} {p : Nat} {F : Nat → Prop} {l : List ByteArray} (h : Ref w p F l) : ∃ a c, w.cell? ⟨p, 0, none⟩ = some (.slice a l.length c) ∧
    ∀ i, i < l.length → ∃ A : Addr, w.cell? A = some (.string (l.getD i ByteArray.empty)) ∧ ∀ w' : World, (Instr.indexAt 22 (.slice a l.length c) (.int .i64 (i : Int))).run Try.prog w' = .ok (.pointer (some A)) w' := by
  obtain ⟨v, hp, hr, h2, hF⟩ := h
  obtain ⟨c0, f0⟩ := one_cell hp
  obtain ⟨a, c, rfl⟩ := atm.shape hr
  refine ⟨a, c, c0, fun i hi => ?_⟩
  rcases hr.2 with ⟨_, e0⟩ | ⟨g, cap, cur, e, _⟩
  · omega
  · injection e with e
    subst e
    have hc := hr.cells (g := g) rfl i (.string (l.getD i ByteArray.empty)) (by simp [List.getD, hi])
    have hadd : (⟨g, 0, none⟩ : Addr).add i = ⟨g, i, none⟩ := by unfold Addr.add; split <;> simp_all
    rw [hadd] at hc
    refine ⟨⟨g, i, none⟩, hc, fun w' => ?_⟩
    have he : Try.prog.elem 22 = 9 := by kernel_rfl
    have hs : (sizeOf 9).run Try.prog w' = .ok 1 w' := by kernel_rfl
    rw [run_indexAt_slice w' 22 _ _ _ _ _ (by rw [he]; exact Try.underlying22), if_pos ⟨by omega, by omega⟩, he, hs]
    simp [Result.andThen, hadd]
theorem quiet_l {P : Program} {f : FuncId} {args : Array Value} {w : World} {n : Nat} {v : Value}
    (h : Calls P f args (w.drewN n) fun e w' => e = .returned v ∧ w.drewN n = w') : Calls P f args (w.drewN n) fun e w'' => e = .returned v ∧ ∃ m, w'' = w.drewN m := h.mono fun _ _ ⟨he, hm⟩ => ⟨he, n, hm.symm⟩
def R (W : World) (p q n : Nat) (i : Value) (wr : World) : Prop := ∃ (k : Nat) (l : List ByteArray), k ≤ n ∧ i = .int .i64 k ∧ l.length ≤ 2 + min k 100 ∧ Two W p q l l wr
set_option maxHeartbeats 8000000 in
set_option maxRecDepth 100000 in
theorem walk (w : World) (a0 : Option Addr) (n0 c0 : Nat) (t0 : List ByteArray) (x0 : Strs w a0 n0 t0) (s1 : ByteArray) (z1 : s1.size ≤ 140737488351232) (a2 : Int) (w2 : (Lit.int .i64 a2).wf = true) :
    Calls Try.prog 3 #[.slice a0 n0 c0, .string s1, .int .i64 a2] w fun e w' => e = .returned (.bool true) ∧ Below w.heap.size w w' := by
  have hn0 : n0 ≤ 8796093022208 := by have := x0.reach; omega
  have X0 := Lib.hid x0
  clear x0
  go_enter Try.func3, Try.ntmps3
  go_wp2_with fail
  refine (new_any w).mono ?_; rintro e w1 ⟨rfl, M⟩
  have M' := Lib.hid M
  clear M
  go_wp2_with fail
  refine (rnew_any w1).mono ?_; rintro e w2 ⟨rfl, M⟩
  have M2 := Lib.hid M
  clear M
  have S0 : Two w w.heap.size (w1.heap.size + 1) l0 l0 w2 := by
    obtain ⟨F, t, b, s⟩ := M'.out
    obtain ⟨G, t2, b2, s2⟩ := M2.out
    have hlt := t.lt
    exact ⟨F, G, t.below b2, t2, fun j hf hg => by have := hlt j hf; have := s2 j hg; omega, b.trans (b2.mono b.size), s, fun j hj => Nat.le_trans b.size (s2 j hj)⟩
  have S0 := Lib.hid S0
  obtain ⟨q, hq⟩ : ∃ q, q = w1.heap.size + 1 := ⟨_, rfl⟩
  obtain ⟨p, hp⟩ : ∃ p, p = w.heap.size := ⟨_, rfl⟩
  have S1 : Hid (Two w p q l0 l0 w2) := by rw [hq, hp]; exact S0
  clear S0 M' M2
  rw [← hq, ← hp]
  clear hq hp
  go_wp2_with fail
  go_loopw [31] (fun i wr => R w p q n0 i wr) (fun i _ => n0 - (intOf i).toNat)
  case atStart => exact ⟨0, l0, Nat.zero_le _, rfl, by simp [l0], S1.out⟩
  case round =>
    obtain ⟨k, l, hk, rfl, hl, two⟩ := hrel
    have TW := Lib.hid two
    obtain ⟨F, G, ta, tb, dj, b, f, g⟩ := two
    by_cases hlt : k < n0 ∧ k < 100
    · obtain ⟨hlt, h100⟩ := hlt
      obtain ⟨A, hA, hcell, hix⟩ := X0.out.look hlt
      have hc' := (b.cell hA).trans hcell
      have hx := X0.out.at_size hlt
      obtain ⟨x, ex⟩ : ∃ x, x = t0.getD k ByteArray.empty := ⟨_, rfl⟩
      rw [← ex] at hc' hx
      clear hcell ex
      have hl4 : l.length < 4096 := by omega
      by_cases hs : 200 < x.size
      · have ca := Lib.hid (num_long ta x hs hx)
        have cr := fun w => Lib.hid (rnum_long (w := w) (p := q) x hs hx)
        have step : ∀ w3, atm.Next wr p F l w3 → Two w p q l l w3 := fun w3 n => Two.left tb dj b f g n
        have STEP := Lib.hid step
        clear ta tb dj b f g step
        go_wp2_with fail
        refine ca.out.mono ?_; rintro e w3 ⟨rfl, nn⟩
        have two3 := STEP.out w3 nn
        have TW3 := Lib.hid two3
        obtain ⟨F3, G3, ta3, tb3, dj3, b3, f3, g3⟩ := two3
        have cl := fun n => Lib.hid (len_any (ta3.below (drewN_below w3 n)))
        obtain ⟨ma, mc, c0⟩ := ref_slice tb3
        clear ta3 tb3 dj3 b3 f3 g3 nn
        go_wp2_with fail
        refine (cr _).out.mono ?_; rintro e w' ⟨rfl, rfl⟩
        clear cr
        go_wp2_with fail
        go_quiet ((go_at_call 13; exact quiet_l (cl _).out))
        go_wp2_with fail
        go_roundw
        case rel => exact ⟨k + 1, l, by omega, by go_num, by omega, TW3.out.drewN _⟩
        case measure => simp [intOf]; omega
      · by_cases hi : x ∈ l
        · have ca := Lib.hid (num_old_w ta x (by omega) hi)
          have cr := Lib.hid (rnum_old tb x (by omega) (by omega) hi)
          have cl := fun n => Lib.hid (len_any (ta.below (drewN_below wr n)))
          obtain ⟨ma, mc, c0⟩ := ref_slice tb
          have hxm : x.size ≤ 9223372036854775807 := by omega
          clear ta tb dj b f g hi
          go_wp2_with fail
          refine ca.out.mono ?_; rintro e w' ⟨rfl, rfl⟩
          go_wp2_with fail
          refine cr.out.mono ?_; rintro e w' ⟨rfl, rfl⟩
          go_wp2_with fail
          go_quiet ((go_at_call 13; exact quiet_l (cl _).out))
          go_wp2_with fail
          go_roundw
          case rel => exact ⟨k + 1, l, by omega, by go_num, by omega, TW.out.drewN _⟩
          case measure => simp [intOf]; omega
        · have ca := Lib.hid (num_new ta x (by omega) hi hl4)
          have HI := Lib.hid hi
          have step : ∀ w3, atm.Next wr p F (l ++ [x]) w3 → Two w p q (l ++ [x]) l w3 := fun w3 n => Two.left tb dj b f g n
          have STEP := Lib.hid step
          have hxm : x.size ≤ 9223372036854775807 := by omega
          clear ta tb dj b f g step hi
          go_wp2_with fail
          refine ca.out.mono ?_; rintro e w3 ⟨rfl, nn⟩
          have two3 := STEP.out w3 nn
          obtain ⟨F3, G3, ta3, tb3, dj3, b3, f3, g3⟩ := two3
          have cr := Lib.hid (rnum_new tb3 x (by omega) HI.out hl4)
          have step2 : ∀ w4, RNext w3 q G3 (l ++ [x]) w4 → Two w p q (l ++ [x]) (l ++ [x]) w4 := fun w4 n => Two.right ta3 dj3 b3 f3 g3 n
          have STEP2 := Lib.hid step2
          clear ta3 tb3 dj3 b3 f3 g3 nn step2
          go_wp2_with fail
          refine cr.out.mono ?_; rintro e w4 ⟨rfl, nn⟩
          have two4 := STEP2.out w4 nn
          have TW4 := Lib.hid two4
          obtain ⟨F4, G4, ta4, tb4, dj4, b4, f4, g4⟩ := two4
          have cl := fun n => Lib.hid (by have h := len_any (ta4.below (drewN_below w4 n)); rw [List.length_append] at h; exact h)
          obtain ⟨ma, mc, c0⟩ := ref_slice tb4
          rw [List.length_append] at c0
          clear ta4 tb4 dj4 b4 f4 g4 nn
          go_wp2_with fail
          go_quiet ((go_at_call 13; exact quiet_l (cl _).out))
          go_wp2_with fail
          go_roundw
          case rel => exact ⟨k + 1, l ++ [x], by omega, by go_num, by simp; omega, TW4.out.drewN _⟩
          case measure => simp [intOf]; omega
    · have cf := Lib.hid (find_any ta s1 (by unfold maxLen; omega))
      have cg := Lib.hid (rfind_any tb s1 (by omega))
      have cn := Lib.hid (name_any ta a2)
      have cm := Lib.hid (fun i (hi : i < l.length) => name_in ta i hi)
      obtain ⟨ma, mc, c0, hix⟩ := ref_open tb
      have HIX := Lib.hid hix
      have BB := Lib.hid b
      have hl1 : l.length ≤ 200 := by omega
      have split : (k < n0 ∧ 100 ≤ k) ∨ ¬ k < n0 := by omega
      clear ta tb dj f g hix hlt
      rcases split with hlt | hlt
      case' inl =>
        obtain ⟨hlt, h100⟩ := hlt
        obtain ⟨A, hA, hcell, hjx⟩ := X0.out.look hlt
        have hc' := (b.cell hA).trans hcell
        generalize t0.getD k ByteArray.empty = x at hc'
        clear hcell b
        go_wp2_with fail
      case' inr =>
        clear b
        go_wp2_with fail
      all_goals
        refine cf.out.mono ?_; rintro e w' ⟨rfl, rfl⟩
        go_wp2_with fail
        refine cg.out.mono ?_; rintro e w' ⟨rfl, rfl⟩
        go_wp2_with fail
        go_loop [94] (fun i => ∃ k : Nat, k ≤ l.length ∧ i = .int .i64 k) (fun i => l.length - (intOf i).toNat)
        case atStart => exact ⟨0, Nat.zero_le _, rfl⟩
        case round =>
          obtain ⟨j, hj, rfl⟩ := hrel
          by_cases hjl : j < l.length
          · obtain ⟨A2, hc2, hi2⟩ := HIX.out j hjl
            have c3 := cm.out j hjl
            generalize l.getD j ByteArray.empty = y at hc2 c3
            have C3 := Lib.hid c3
            clear c3
            go_wp2_with fail
            refine C3.out.mono ?_; rintro e w' ⟨rfl, rfl⟩
            go_wp2_with fail
            go_round
            case rel => exact ⟨j + 1, by omega, by go_num⟩
            case measure => simp [intOf]; omega
          · have cn2 := cn.out
            by_cases hin : 0 ≤ a2 ∧ a2 < (l.length : Int)
            · obtain ⟨i1, i2⟩ := hin
              rw [show nb l a2 = true by simp [nb, i1, i2]] at cn2
              have CN2 := Lib.hid cn2
              clear cn2
              go_wp2_with fail
              refine CN2.out.mono ?_; rintro e w' ⟨rfl, rfl⟩
              go_wp2_with fail
              refine (awake_any _).mono ?_; rintro e w' ⟨rfl, hb⟩
              go_wp2_with fail
              go_ret
              exact ⟨rfl, BB.out.trans (hb.mono BB.out.size)⟩
            · rw [show nb l a2 = false by simp only [nb, decide_eq_false_iff_not]; exact hin, show nm l a2 = ⟨#[]⟩ by unfold nm; rw [if_neg hin]] at cn2
              have CN2 := Lib.hid cn2
              have hsp : a2 < 0 ∨ (0 ≤ a2 ∧ decide (a2 < (l.length : Int)) = false) := by simp; omega
              clear cn2 hin
              rcases hsp with i1 | ⟨i1, i2⟩
              all_goals
                go_wp2_with fail
                refine CN2.out.mono ?_; rintro e w' ⟨rfl, rfl⟩
                go_wp2_with fail
                refine (awake_any _).mono ?_; rintro e w' ⟨rfl, hb⟩
                go_wp2_with fail
                go_ret
                exact ⟨rfl, BB.out.trans (hb.mono BB.out.size)⟩
set_option maxRecDepth 100000 in
theorem lifted (os : Os) (started : os.Started) (H : Type) (enc : TypeId × Value → H) :
    ReturnsInHanded {} Try.checked os 3 .any (Rows.atomsPlaySpec.pre6 enc Try.prog Try.f3 Rows.atomsPlayRow.domain false) (Rows.atomsPlaySpec.post enc Try.prog Try.f3 false true false false) := by
  refine returnsInHanded_of_change_sized (C := Try.checked) own started (by kernel_rfl) Try.func3
    (ChangeSpec.witness6 (enc := enc) (C := Try.checked) false ⟨#[], #[.slice none 0 0, .string ⟨#[]⟩, .int .i64 0], []⟩ 8 (by kernel_rfl) (by kernel_rfl) (by kernel_rfl) (by kernel_rfl)) ?_
  intro W base args ds gs before hval0 hW _ hsz0 _
  have hsz : (DataW.weightsEach Try.prog (Try.f3.params.toList ++ Rows.atomsPlaySpec.plain.varTypes Try.prog) (ds ++ gs)).all (· ≤ reachBytes) = true := hsz0
  clear hsz0
  have hval : ∀ (j : Nat) t v, Try.f3.params[j]? = some t → args[j]? = some v → Value.okWide Try.prog W .any base t v := hval0
  have hW' := hW
  obtain ⟨p, q, hA0, hV, rfl, hfz, hnd⟩ := hW
  have hA : DataW.TrodAll enc Try.prog W 0 (fun _ => true) true Try.f3.params.toList args.toList ds p := hA0
  rw [Try.params3] at hA hval hsz
  obtain ⟨v0, vs0, d0, ds0, p0, q0, hargs, rfl, rfl, h0, r0⟩ := trodAll_cons hA
  obtain ⟨v1, vs1, d1, ds1, p1, q1, rfl, rfl, rfl, h1, r1⟩ := trodAll_cons r0
  obtain ⟨v2, vs2, d2, ds2, p2, q2, rfl, rfl, rfl, h2, r2⟩ := trodAll_cons r1
  obtain ⟨rfl, rfl, rfl⟩ := trodAll_nil r2
  obtain rfl : args = #[v0, v1, v2] := by cases args; simp_all
  obtain ⟨rfl, rfl⟩ := trodVars_none hV
  simp only [List.append_nil] at hW'
  have lt0 : ∀ x ∈ p0, x.block < W.heap.size := fun x hx => by
    have := hW'.lt x (by simp [hx])
    simpa using this
  have k0 := h0
  have lt1 : ∀ x ∈ p1, x.block < W.heap.size := fun x hx => by
    have := hW'.lt x (by simp [hx])
    simpa using this
  have k1 := h1
  have lt2 : ∀ x ∈ p2, x.block < W.heap.size := fun x hx => by
    have := hW'.lt x (by simp [hx])
    simpa using this
  have k2 := h2
  obtain ⟨a0, n0, c0, rfl⟩ := okWide_slice Try.underlying22 (hval 0 22 v0 rfl rfl)
  obtain ⟨t0, x0⟩ := h0.elim fun fuel hf => strs_open hf (lt0) (fun x y e => sized_slice hsz (j := 0) (t := 22) (e := 9) rfl (by rw [← e]; rfl) Try.underlying22)
  obtain ⟨s1, rfl, rfl, rfl, u1⟩ := open_string Try.underlying9 (hval 1 9 v1 rfl rfl) h1
  have z1 : s1.size ≤ 140737488351232 := by
    have g1 := sized_string hsz (j := 1) (t := 9) rfl rfl
    have e3 : reachBytes = 140737488351232 := by decide
    have e4 : s1.data.toList.length = s1.size := rfl
    omega
  obtain ⟨a2, rfl, rfl, rfl, w2⟩ := open_int Try.underlying3 (hval 2 3 v2 rfl rfl) h2
  clear hA0 hval0
  refine (walk W a0 n0 c0 t0 x0 s1 z1 a2 w2).mono fun e W' ⟨he, hg⟩ => ?_
  subst he
  have ha := (trodAll_cons_mk (Below.trod laidOut (by kernel_rfl) (of_decide_eq_true (by kernel_rfl)) k0 hg lt0) (trodAll_cons_mk (Below.trod laidOut (by kernel_rfl) (of_decide_eq_true (by kernel_rfl)) k1 hg lt1) (trodAll_cons_mk (Below.trod laidOut (by kernel_rfl) (of_decide_eq_true (by kernel_rfl)) k2 hg lt2) trodAll_mk0)))
  refine ⟨_, rfl, _, _, _, [], _, [], hW', ?_, ha, rfl, hg.frame _, fun h => by cases h⟩
  exact (trodAll_cons_mk (shut_bool Try.underlying4 _) trodAll_mk0)
/-- THE STATEMENT. -/
theorem proved : Rows.AtomsPlaySaid :=
  OpenClaim.holds_of_wide 3 Try.f3 rfl rfl rfl rfl rfl rfl rfl ⟨rfl, rfl, rfl, rfl, rfl⟩ rfl rfl rfl rfl rfl (by kernel_rfl) Try.func3 (by kernel_rfl)
    (of_decide_eq_true (by kernel_rfl)) (by unfold Func.isWrapper; first | (rw [if_pos (by decide +kernel)]; kernel_rfl) | (rw [if_neg (by decide +kernel)]; exact ⟨rfl, rfl⟩))
    (fun os started H enc _ => lifted os started H enc)
#print axioms proved
end Go.Proofs.Ytjdbppdanckfnaa.atomsPlay
