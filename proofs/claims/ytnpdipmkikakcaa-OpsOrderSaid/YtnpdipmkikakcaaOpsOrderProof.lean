/- The law OpsOrder holds: for every input its Go function returns true and leaves its arguments as they were. No condition beyond the row's own. -/
import Derived.Test.YtnpdipmkikakcaaRows
import Derived.WalkKit
import Derived.ProofKit
import Derived.OpenShut
import Derived.SizedLaws
import Derived.Test.YtnpdipmkikakcaaOpN
namespace Go.Proofs.Ytnpdipmkikakcaa.opsOrder
open Go.ChangeShapes Go.WideShapes Go.ChangeAt Go.RowKit
open Go.ChangeMaps (open_string)
set_option linter.unusedVariables false
theorem own : ownKnob Try.prog.godebug = none := by kernel_rfl
theorem laidOut : laidOutB Try.prog = true := by kernel_rfl
open Go.Proofs.Ytnpdipmkikakcaa.kp Go.Proofs.Ytnpdipmkikakcaa.opa Go.Proofs.Ytnpdipmkikakcaa.opb Go.Proofs.Ytnpdipmkikakcaa.opc Go.Proofs.Ytnpdipmkikakcaa.opd Go.Proofs.Ytnpdipmkikakcaa.ope Go.Proofs.Ytnpdipmkikakcaa.opf Go.Proofs.Ytnpdipmkikakcaa.opg Go.Proofs.Ytnpdipmkikakcaa.oph Go.Proofs.Ytnpdipmkikakcaa.opi Go.Proofs.Ytnpdipmkikakcaa.opj Go.Proofs.Ytnpdipmkikakcaa.opk Go.Proofs.Ytnpdipmkikakcaa.opl Go.Proofs.Ytnpdipmkikakcaa.opm Go.Proofs.Ytnpdipmkikakcaa.opn
theorem front_any (x : D) (w : World) : Calls Try.prog 21 #[x.v] w fun e w' => e = .returned (.bool (fr x.k)) ∧ Below w.heap.size w w' := by
  have HB := Lib.hid (ba w (.cells x.cs.toArray 32))
  obtain ⟨n, k, p⟩ := x
  simp only [D.v]
  by_cases h4 : k = 4
  · subst h4
    go_enter Try.func21, Try.ntmps21; go_wp2; go_ret; exact ⟨rb (by decide), HB.out⟩
  · have e4 : (k == 4) = false := by rw [beq_eq_false_iff_ne]; exact h4
    by_cases h5 : k = 5
    · subst h5
      go_enter Try.func21, Try.ntmps21; go_wp2; go_ret; exact ⟨rb (by decide), HB.out⟩
    · have e5 : (k == 5) = false := by rw [beq_eq_false_iff_ne]; exact h5
      have e : Hid (fr k = false) := Lib.hid (by simp [fr, h4, h5])
      clear h4 h5
      go_enter Try.func21, Try.ntmps21; go_wp2; go_ret; exact ⟨rb e.out.symm, HB.out⟩
theorem gtr_str (m n : List UInt8) (w : World) : Sem.run Try.prog (binOp .gtr 9 (.string ⟨m.toArray⟩) (.string ⟨n.toArray⟩)) w = .ok (.bool (decide (0 < cb m n))) w := by
  have e0 : binOp .gtr 9 (.string ⟨m.toArray⟩) (.string ⟨n.toArray⟩) = pure (.bool !(Op.bytesLess (⟨m.toArray⟩ : ByteArray).toList (⟨n.toArray⟩ : ByteArray).toList || (⟨m.toArray⟩ : ByteArray).toList == (⟨n.toArray⟩ : ByteArray).toList)) := by simp [binOp, Op.stringOp]
  rw [e0]
  show Result.ok _ w = _
  rw [tl_list, tl_list, cb_less]
  have h1 := cb_zero m n
  have h2 := cb_bd m n
  by_cases h : m = n
  · have : cb m n = 0 := h1.2 h
    simp [this]
    exact h
  · have : cb m n ≠ 0 := fun e => h (h1.1 e)
    have e : (m == n) = false := by rw [beq_eq_false_iff_ne]; exact h
    rw [e]
    by_cases h3 : cb m n < 0
    · rw [decide_eq_true h3, decide_eq_false (by omega)]; rfl
    · rw [decide_eq_false h3, decide_eq_true (by omega)]; rfl
/-- of two that follow one another: what the law asks of them -/
theorem next_ok {x y : D} (h : cd y x < 0) : (decide (0 < cb y.n x.n) = false) ∧ ((y.n ≠ x.n) ∨ (y.n = x.n ∧ fr y.k = true ∧ fr x.k = false)) := by
  unfold cd at h
  by_cases e : cb y.n x.n = 0
  · rw [if_pos e, cw_neg'] at h
    refine ⟨by rw [e]; rfl, Or.inr ⟨(cb_zero _ _).1 e, ?_⟩⟩
    unfold pl at h
    cases h1 : fr y.k <;> cases h2 : fr x.k <;> simp [h1, h2] at h ⊢
  · rw [if_neg e] at h
    exact ⟨decide_eq_false (by omega), Or.inl fun q => e ((cb_zero _ _).2 q)⟩
/-- the table, what All told, and one box -/
structure Bq (w : World) (p : Nat) (F : Nat → Prop) (a : Option Addr) (c : Nat) (l : List D) (b : Nat) (x : D) (w1 : World) : Prop where
  tb : Tb w1 p F l
  rw : Rw w1 a c l
  box : w1.heap[b]? = some (.cells x.cs.toArray 32 (0, 0))
  bel : Below w.heap.size w w1
theorem Bq.below {w : World} {p : Nat} {F : Nat → Prop} {a : Option Addr} {c : Nat} {l : List D} {b : Nat} {x : D} {w1 w2 : World} (h : Bq w p F a c l b x w1) (hb : Below w1.heap.size w1 w2) : Bq w p F a c l b x w2 :=
  ⟨h.tb.below hb, h.rw.below hb, (hb.block _ (Array.getElem?_eq_some_iff.1 h.box).1).trans h.box, h.bel.trans (hb.mono h.bel.size)⟩
theorem Bq.mk' {w : World} {p : Nat} {F : Nat → Prop} {a : Option Addr} {c : Nat} {l : List D} {w1 : World} (hr : Rw w1 a c l) (ht : Tb w1 p F l) (hb : Below w.heap.size w w1) (x : D) : Bq w p F a c l w1.heap.size x (w1.alloc (.cells x.cs.toArray 32)) :=
  ⟨ht.below (ba _ _), hr.below (ba _ _), alloc_at _ _, hb.trans ((ba _ _).mono hb.size)⟩
def O2 (w : World) (p : Nat) (F : Nat → Prop) (a : Option Addr) (c : Nat) (l : List D) (g : Nat) (s : Value) (wr : World) : Prop :=
  ∃ k : Nat, k ≤ l.length ∧ g = l.length - k ∧ s = .int .i64 k ∧ Tb wr p F l ∧ Rw wr a c l ∧ Below w.heap.size w wr
set_option maxRecDepth 100000 in
set_option maxHeartbeats 8000000 in
theorem walk (w : World) (a0 : Option Addr) (n0 c0 : Nat) (t0 : List opa.D) (x0 : opm.ORow w a0 n0 t0) :
    Calls Try.prog 7 #[.slice a0 n0 c0] w fun e w' => e = .returned (.bool true) ∧ Below w.heap.size w w' := by
  have H0 := Lib.hid x0
  have HN : Hid (n0 ≤ 4398046511101) := Lib.hid (by have := x0.reach; omega)
  clear x0
  go_enter Try.func7, Try.ntmps7
  go_wp2_with fail
  refine (new_any _).mono ?_
  rintro e w1 ⟨p, rfl, hp, hm⟩
  have H1 := Lib.hid (Own.made (br w) hm)
  clear hm hp
  go_wp2_with fail
  go_loopg [16] n0 (O1 w p n0)
  case atStart => exact ⟨0, newL, by omega, by omega, rfl, newL_inv, H1.out⟩
  case round =>
    obtain ⟨k, l, hk, rfl, rfl, hI, how⟩ := hrel
    obtain ⟨F, ht, hb, hF⟩ := how
    by_cases hlt : k < n0
    · obtain ⟨b, o, hbl, e0, e1, e2, hix⟩ := (row_below H0.out hb).look hlt
      have hix' := hix c0
      obtain ⟨x, hx⟩ : ∃ x, x = t0.getD k d0 := ⟨_, rfl⟩
      rw [← hx] at e0 e1 e2
      have HH := Lib.hid (And.intro hI (And.intro ht (And.intro hb hF)))
      clear hix hI ht hb hF hx
      by_cases h30 : k < 30
      · have hd : decide ((k : Int) < 30) = true := decide_eq_true (by omega)
        go_wp2_with fail
        have hbx := ba wr (.cells x.cs.toArray 32)
        refine (set_any x _ (HH.out.2.1.below hbx) HH.out.1).mono ?_
        rintro e w5 ⟨rfl, hN⟩
        have H5 := Lib.hid (And.intro (HH.out.1.setL x) (Own.step (HH.out.2.2.1.trans (hbx.mono HH.out.2.2.1.size)) HH.out.2.2.2 hN))
        clear hbx hN e0 e1 e2 hix'
        go_wp2_with fail
        go_roundg (n0 - (k + 1))
        case measure => omega
        case rel => exact ⟨k + 1, _, hlt, rfl, by have := HN.out; go_num, H5.out.1, H5.out.2⟩
      · have hd : decide ((k : Int) < 30) = false := decide_eq_false (by omega)
        go_wp2_with fail
        have hbx := ba wr (.cells x.cs.toArray 32)
        go_roundg (n0 - (k + 1))
        case measure => omega
        case rel => exact ⟨k + 1, l, hlt, rfl, by have := HN.out; rw [show wrap64 ((k : Int) + 1) = ((k + 1 : Nat) : Int) by unfold wrap64; omega], HH.out.1, F, HH.out.2.1.below hbx, HH.out.2.2.1.trans (hbx.mono HH.out.2.2.1.size), HH.out.2.2.2⟩
    · have HI := Lib.hid (And.intro hI (And.intro ht hb))
      have HL : Hid (l.length ≤ 100) := Lib.hid hI.len
      clear hI ht hb hF
      go_wp2_with fail
      refine (all_any _ HI.out.2.1 (by have := HL.out; omega)).mono ?_
      rintro e w2 ⟨a2, c2, rfl, hr2, hb2, _⟩
      have hO : O2 w p F a2 c2 l l.length (.int .i64 0) w2 := ⟨0, by omega, by omega, rfl, HI.out.2.1.below hb2, hr2, HI.out.2.2.trans (hb2.mono HI.out.2.2.size)⟩
      have HO := Lib.hid hO
      clear hO hr2 hb2
      go_wp2_with fail
      go_loopg [31] l.length (O2 w p F a2 c2 l)
      case atStart => exact HO.out
      case round =>
        obtain ⟨j, hj, rfl, rfl, ht, hr, hb⟩ := hrel
        by_cases hlt2 : j < l.length
        · obtain ⟨P, rfl, hP, e0, e1, e2, _, hix⟩ := hr.look hlt2
          have hix2 := hix
          obtain ⟨x, hx⟩ : ∃ x, x = l[j] := ⟨_, rfl⟩
          rw [← hx] at e0 e1 e2
          have hxm : x ∈ l := by rw [hx]; exact List.getElem_mem _
          have HX := Lib.hid (And.intro hx (And.intro ht (And.intro hr (And.intro hb hxm))))
          have HK : Hid (1 ≤ x.p ∧ x.p ≤ 1200) := Lib.hid (by have := HI.out.1.ok x hxm; exact ⟨this.1, this.2.1⟩)
          have hbx : Below wr.heap.size wr (wr.alloc (.cells x.cs.toArray 32)) := ba _ _
          have hst := Bq.mk' hr ht hb x
          have HQ0 := Lib.hid hst
          clear hst hbx
          have key : ¬ 0 < j ∨ 0 < j := by omega
          rcases key with hj0 | hj0
          case' inl =>
            clear hx ht hr hb hxm hix2
            go_wp2_with fail
            obtain ⟨wq, hwq⟩ : ∃ wq, wq = wr.alloc (.cells #[.string ⟨x.n.toArray⟩, .int .i64 x.k, .int .i64 x.p] 32) := ⟨_, rfl⟩
            have HQ : Hid (Bq w p F (some ⟨P, 0, none⟩) c2 l wr.heap.size x wq) := Lib.hid (by rw [hwq]; exact HQ0.out)
            rw [← hwq]
            clear hwq HQ0 e0 e1 e2 hix
          case' inr =>
            obtain ⟨P', hP', _, f0, f1, f2, _, hix'⟩ := hr.look (m := j - 1) (by omega)
            injection hP' with hP'; injection hP' with hP'
            subst hP'
            obtain ⟨y, hy⟩ : ∃ y, y = l[j - 1]'(by omega) := ⟨_, rfl⟩
            rw [← hy] at f0 f1 f2
            have ej : ((j - 1 : Nat) : Int) = (j : Int) - 1 := by omega
            rw [ej] at hix'
            have hcd : cd y x < 0 := by rw [hy, hx]; exact List.pairwise_iff_getElem.1 HI.out.1.srt (j - 1) j (by omega) hlt2 (by omega)
            have hd : decide ((j : Int) > 0) = true := decide_eq_true (by omega)
            have hwr : IntKind.i64.wrap ((j : Int) - 1) = (j : Int) - 1 := by have := HL.out; rw [IntKind.wrap_i64]; omega
            have hgt := gtr_str y.n x.n
            obtain ⟨hg0, hg1⟩ := next_ok hcd
            rw [hg0] at hgt
            clear hx ht hr hb hxm hix2 hcd hy hg0
            rcases hg1 with hg1 | ⟨hg1, hg2, hg3⟩
            case' inl =>
              have hne : (y.n == x.n) = false := by rw [beq_eq_false_iff_ne]; exact hg1
              clear hg1
              go_wp2_with fail
              obtain ⟨wq, hwq⟩ : ∃ wq, wq = (wr.alloc (.cells #[.string ⟨x.n.toArray⟩, .int .i64 x.k, .int .i64 x.p] 32)).alloc (.cells #[.string ⟨y.n.toArray⟩, .int .i64 y.k, .int .i64 y.p] 32) := ⟨_, rfl⟩
              have HQ : Hid (Bq w p F (some ⟨P, 0, none⟩) c2 l wr.heap.size x wq) := Lib.hid (by rw [hwq]; exact HQ0.out.below (ba _ _))
              rw [← hwq]
              clear hwq HQ0 e0 e1 e2 hix f0 f1 f2 hix' hd hwr hgt hne
            case' inr =>
              have HF := Lib.hid (And.intro hg2 hg3)
              rw [hg1] at f0 hgt
              clear hg2 hg3
              go_wp2_with fail
              have HQ1 := Lib.hid (HQ0.out.below (ba _ (.cells (D.cs ⟨x.n, y.k, y.p⟩).toArray 32)))
              refine (front_any ⟨x.n, y.k, y.p⟩ _).mono ?_
              rintro e w6 ⟨rfl, hb6⟩
              have HQ2 := Lib.hid (HQ1.out.below hb6)
              rw [HF.out.1]
              obtain ⟨z0, z1, z2, _⟩ := box_cells HQ2.out.box
              clear hb6 e0 e1 e2 hix f0 f1 f2 hix' hd hwr hgt hg1
              go_wp2_with fail
              refine (front_any x _).mono ?_
              rintro e wq ⟨rfl, hb7⟩
              have HQ := Lib.hid (HQ2.out.below hb7)
              rw [HF.out.2]
              clear hb7 z0 z1 z2 HQ0 HQ1 HQ2 HF
              obtain ⟨z0, z1, z2, _⟩ := box_cells HQ.out.box
              go_wp2_with fail
              clear z0 z1 z2
          all_goals
            refine (prefix_any x.n _ HQ.out.tb HI.out.1.srt (by have := HL.out; omega)).mono ?_
            rintro e w7 ⟨rfl, hb7⟩
            have HQ3 := Lib.hid (HQ.out.below hb7)
            obtain ⟨z0, z1, z2, _⟩ := box_cells HQ3.out.box
            have hzl := (Array.getElem?_eq_some_iff.1 HQ3.out.box).1
            have HZ := Lib.hid hzl
            clear hb7
            have hself := neqD x x
            rw [decide_eq_false (by simp)] at hself
            simp only [D.v] at hself
            have hp1 : decide (x.p < 1) = false := decide_eq_false (by have := HK.out.1; omega)
            have hp2 : decide (x.p > 1200) = false := decide_eq_false (by have := HK.out.2; omega)
            by_cases hfx : fr x.k = true
            · have hfd := found HI.out.1.srt HX.out.2.2.2.2 (y := ⟨x.n, 4, 0⟩) ((cd_zero _ _).2 ⟨rfl, hfx.trans rfl⟩)
              rw [hfd.1, hfd.2]
              simp only [D.v]
              have HFX := Lib.hid hfx
              clear hfd hfx
              go_wp2_with fail
              have ha8 := alloc_at w7 (.cells x.cs.toArray 32)
              have HQ4 := Lib.hid (HQ3.out.below (ba w7 (.cells x.cs.toArray 32)))
              refine (front_any x _).mono ?_
              rintro e w9 ⟨rfl, hb9⟩
              have HQ5 := Lib.hid (HQ4.out.below hb9)
              have ha9 := (hb9.block _ (Array.getElem?_eq_some_iff.1 ha8).1).trans ha8
              clear z0 z1 z2 hzl ha8 hb9
              obtain ⟨z0, z1, z2, _⟩ := box_cells HQ5.out.box
              obtain ⟨y0, y1, y2, _⟩ := box_cells ha9
              rw [HFX.out]
              clear ha9
              go_wp2_with fail
              go_roundg (l.length - (j + 1))
              case measure => omega
              case rel => exact ⟨j + 1, hlt2, rfl, by have := HL.out; first | rfl | rw [show wrap64 ((j : Int) + 1) = ((j + 1 : Nat) : Int) by unfold wrap64; omega] | go_num, HQ5.out.tb, HQ5.out.rw, HQ5.out.bel⟩
            · have hff : fr x.k = false := by simpa using hfx
              have hfd := found HI.out.1.srt HX.out.2.2.2.2 (y := ⟨x.n, 1, 0⟩) ((cd_zero _ _).2 ⟨rfl, hff.trans rfl⟩)
              have HFX := Lib.hid (And.intro hff hfd)
              obtain ⟨v, hv⟩ : ∃ v, v = gd l ⟨x.n, 4, 0⟩ := ⟨_, rfl⟩
              obtain ⟨bb, hbb⟩ : ∃ bb, bb = is l ⟨x.n, 4, 0⟩ := ⟨_, rfl⟩
              rw [← hv, ← hbb]
              clear hv hbb hff hfd hfx
              simp only [D.v]
              go_wp2_with fail
              have ha8 := alloc_at w7 (.cells v.cs.toArray 32)
              have HQ4 := Lib.hid (HQ3.out.below (ba w7 (.cells v.cs.toArray 32)))
              refine (front_any x _).mono ?_
              rintro e w9 ⟨rfl, hb9⟩
              have HQ5 := Lib.hid (HQ4.out.below hb9)
              have HA9 := Lib.hid ((hb9.block _ (Array.getElem?_eq_some_iff.1 ha8).1).trans ha8)
              clear z0 z1 z2 hzl ha8 hb9
              obtain ⟨z0, z1, z2, _⟩ := box_cells HQ5.out.box
              rw [HFX.out.1]
              go_wp2_with fail
              refine (infix_any x.n _ HQ5.out.tb HI.out.1.srt (by have := HL.out; omega)).mono ?_
              rintro e w10 ⟨rfl, hb10⟩
              have HQ6 := Lib.hid (HQ5.out.below hb10)
              have ha10 := (hb10.block _ (Array.getElem?_eq_some_iff.1 HA9.out).1).trans HA9.out
              clear z0 z1 z2 hb10
              obtain ⟨z0, z1, z2, _⟩ := box_cells HQ6.out.box
              obtain ⟨y0, y1, y2, hyf⟩ := box_cells ha10
              have yf0 := hyf 0
              have yf1 := hyf 1
              have yf2 := hyf 2
              rw [HFX.out.2.1, HFX.out.2.2]
              simp only [D.v]
              have hne7 : wr.heap.size ≠ w7.heap.size := by have := HZ.out; omega
              have HA10 := Lib.hid ha10
              clear ha10 hyf
              go_wp2_with fail
              have hk := set3_keep w10 w7.heap.size 0 x
              have hsz := HQ6.out.bel.size
              go_roundg (l.length - (j + 1))
              case measure => omega
              case rel =>
                have hw7 : w.heap.size ≤ w7.heap.size := HQ3.out.bel.size
                exact ⟨j + 1, hlt2, rfl, by have := HL.out; first | rfl | rw [show wrap64 ((j : Int) + 1) = ((j + 1 : Nat) : Int) by unfold wrap64; omega] | go_num, HQ6.out.tb.keep hk (fun g hg e => by have := HQ3.out.tb.lt g hg; omega), HQ6.out.rw.of_block (fun g hg => hk.block g (World.ownsRow.lt HQ6.out.rw g hg).2 (fun e => by have := (World.ownsRow.lt HQ3.out.rw g hg).2; omega)), HQ6.out.bel.trans (hk.to_below (fun g e => by omega) hsz)⟩
        · have HX := Lib.hid hb
          have h100 : decide ((l.length : Int) ≤ 100) = true := decide_eq_true (by have := HL.out; omega)
          have hjl : j = l.length := by omega
          subst hjl
          clear ht hr hb hlt2
          go_wp2_with fail
          refine (awake_any _).mono ?_
          rintro e w9 ⟨rfl, hb9⟩
          have H9 := Lib.hid (HX.out.trans (hb9.mono HX.out.size))
          clear hb9
          go_wp2_with fail
          go_ret
          exact ⟨rfl, H9.out⟩
set_option maxRecDepth 100000 in
theorem lifted (os : Os) (started : os.Started) (H : Type) (enc : TypeId × Value → H) :
    ReturnsInHanded {} Try.checked os 7 .any (Rows.opsOrderSpec.pre6 enc Try.prog Try.f7 Rows.opsOrderRow.domain false) (Rows.opsOrderSpec.post enc Try.prog Try.f7 false true false false) := by
  refine returnsInHanded_of_change_sized (C := Try.checked) own started (by kernel_rfl) Try.func7
    (ChangeSpec.witness6 (enc := enc) (C := Try.checked) false ⟨#[], #[.slice none 0 0], []⟩ 8 (by kernel_rfl) (by kernel_rfl) (by kernel_rfl) (by kernel_rfl)) ?_
  intro W base args ds gs before hval0 hW _ hsz0 _
  have hsz : (DataW.weightsEach Try.prog (Try.f7.params.toList ++ Rows.opsOrderSpec.plain.varTypes Try.prog) (ds ++ gs)).all (· ≤ reachBytes) = true := hsz0
  clear hsz0
  have hval : ∀ (j : Nat) t v, Try.f7.params[j]? = some t → args[j]? = some v → Value.okWide Try.prog W .any base t v := hval0
  have hW' := hW
  obtain ⟨p, q, hA0, hV, rfl, hfz, hnd⟩ := hW
  have hA : DataW.TrodAll enc Try.prog W 0 (fun _ => true) true Try.f7.params.toList args.toList ds p := hA0
  rw [Try.params7] at hA hval hsz
  obtain ⟨v0, vs0, d0, ds0, p0, q0, hargs, rfl, rfl, h0, r0⟩ := trodAll_cons hA
  obtain ⟨rfl, rfl, rfl⟩ := trodAll_nil r0
  obtain rfl : args = #[v0] := by cases args; simp_all
  obtain ⟨rfl, rfl⟩ := trodVars_none hV
  simp only [List.append_nil] at hW'
  have lt0 : ∀ x ∈ p0, x.block < W.heap.size := fun x hx => by
    have := hW'.lt x (by simp [hx])
    simpa using this
  have k0 := h0
  obtain ⟨a0, n0, c0, rfl⟩ := okWide_slice Try.underlying22 (hval 0 22 v0 rfl rfl)
  obtain ⟨t0, x0⟩ := h0.elim fun fuel hf => opm.ops_open hf (lt0) (fun x y e => sized_slice hsz (j := 0) (t := 22) (e := 32) rfl (by rw [← e]; rfl) Try.underlying22)
  clear hA0 hval0
  refine (walk W a0 n0 c0 t0 x0).mono fun e W' ⟨he, hg⟩ => ?_
  subst he
  have ha := (trodAll_cons_mk (Below.trod laidOut (by kernel_rfl) (of_decide_eq_true (by kernel_rfl)) k0 hg lt0) trodAll_mk0)
  refine ⟨_, rfl, _, _, _, [], _, [], hW', ?_, ha, rfl, hg.frame _, fun h => by cases h⟩
  exact (trodAll_cons_mk (shut_bool Try.underlying4 _) trodAll_mk0)
/-- THE STATEMENT. -/
theorem proved : Rows.OpsOrderSaid :=
  OpenClaim.holds_of_wide 7 Try.f7 rfl rfl rfl rfl rfl rfl rfl ⟨rfl, rfl, rfl, rfl, rfl⟩ rfl rfl rfl rfl rfl (by kernel_rfl) Try.func7 (by kernel_rfl)
    (of_decide_eq_true (by kernel_rfl)) (by unfold Func.isWrapper; first | (rw [if_pos (by decide +kernel)]; kernel_rfl) | (rw [if_neg (by decide +kernel)]; exact ⟨rfl, rfl⟩))
    (fun os started H enc _ => lifted os started H enc)
#print axioms proved
end Go.Proofs.Ytnpdipmkikakcaa.opsOrder
