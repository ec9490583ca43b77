/- The law OpsApart holds: for every input its Go function returns true and leaves its arguments as they were. No condition beyond the row's own. -/
import Derived.Test.YtnpdipmkikakcaaRows
import Derived.WalkKit
import Derived.ProofKit
import Derived.OpenShut
import Derived.SizedLaws
import Derived.Test.YtnpdipmkikakcaaOpR
namespace Go.Proofs.Ytnpdipmkikakcaa.opsApart
open Go.ChangeShapes Go.WideShapes Go.ChangeAt Go.RowKit
open Go.ChangeMaps (open_string)
set_option linter.unusedVariables false
theorem own : ownKnob Try.prog.godebug = none := by kernel_rfl
theorem laidOut : laidOutB Try.prog = true := by kernel_rfl
open Go.Proofs.Ytnpdipmkikakcaa.kp Go.Proofs.Ytnpdipmkikakcaa.opa Go.Proofs.Ytnpdipmkikakcaa.opb Go.Proofs.Ytnpdipmkikakcaa.opc Go.Proofs.Ytnpdipmkikakcaa.opd Go.Proofs.Ytnpdipmkikakcaa.ope Go.Proofs.Ytnpdipmkikakcaa.opf Go.Proofs.Ytnpdipmkikakcaa.opg Go.Proofs.Ytnpdipmkikakcaa.oph Go.Proofs.Ytnpdipmkikakcaa.opi Go.Proofs.Ytnpdipmkikakcaa.opj Go.Proofs.Ytnpdipmkikakcaa.opk Go.Proofs.Ytnpdipmkikakcaa.opl Go.Proofs.Ytnpdipmkikakcaa.opm Go.Proofs.Ytnpdipmkikakcaa.opn Go.Proofs.Ytnpdipmkikakcaa.opq Go.Proofs.Ytnpdipmkikakcaa.opr
def P1 (w : World) (p n : Nat) (o : D) (g : Nat) (s : Value) (wr : World) : Prop :=
  ∃ (k : Nat) (l : List D), k ≤ n ∧ g = n - k ∧ s = .int .i64 k ∧ Inv l ∧ OwnX w (fun j => j = w.heap.size) p l wr ∧ wr.heap[w.heap.size]? = some (.cells o.cs.toArray 32 (0, 0))
theorem mn_eq (o x : D) : mn o x = (decide (x.n = o.n) && (fr x.k == fr o.k)) := by
  unfold mn
  by_cases h : x.n = o.n
  · by_cases g : fr x.k = fr o.k
    · rw [decide_eq_true ((cd_zero _ _).2 ⟨h, g⟩)]; simp [h, g]
    · rw [decide_eq_false (fun e => g ((cd_zero _ _).1 e).2)]; simp [h, g]
  · rw [decide_eq_false (fun e => h ((cd_zero _ _).1 e).1)]; simp [h]
theorem mine_any (x o : D) (b bp : Nat) (W : World) (hb : W.heap[b]? = some (.cells o.cs.toArray 32 (0, 0))) (hp : W.heap[bp]? = some (.cells #[.bool (fr o.k)] 4 (0, 0))) :
    Calls Try.prog 20 #[x.v, .pointer (some ⟨b, 0, none⟩), .pointer (some ⟨bp, 0, none⟩)] W fun e w' => e = .returned (.bool (mn o x)) ∧ Below W.heap.size W w' := by
  have HB := Lib.hid (ba W (.cells x.cs.toArray 32))
  obtain ⟨z0, z1, z2, _⟩ := box_cells hb
  obtain ⟨y0, _⟩ := one_cell hp
  have hbl := (Array.getElem?_eq_some_iff.1 hb).1
  have hpl := (Array.getElem?_eq_some_iff.1 hp).1
  have HM := Lib.hid (mn_eq o x)
  obtain ⟨m, ko, po⟩ := o
  obtain ⟨n, k, p⟩ := x
  simp only [D.v]
  clear hb hp
  by_cases hn : n = m
  · subst hn
    have key : k = 4 ∨ (k ≠ 4 ∧ k = 5) ∨ (k ≠ 4 ∧ k ≠ 5) := by omega
    rcases key with rfl | ⟨_, rfl⟩ | ⟨h4, h5⟩
    · cases hf : fr ko
      · rw [hf] at y0
        have HV : Hid (mn ⟨n, ko, po⟩ ⟨n, 4, p⟩ = false) := Lib.hid (by rw [HM.out, hf]; simp [fr])
        clear HM hf
        go_enter Try.func20, Try.ntmps20; go_wp2; go_ret; exact ⟨rb HV.out.symm, HB.out⟩
      · rw [hf] at y0
        have HV : Hid (mn ⟨n, ko, po⟩ ⟨n, 4, p⟩ = true) := Lib.hid (by rw [HM.out, hf]; simp [fr])
        clear HM hf
        go_enter Try.func20, Try.ntmps20; go_wp2; go_ret; exact ⟨rb HV.out.symm, HB.out⟩
    · cases hf : fr ko
      · rw [hf] at y0
        have HV : Hid (mn ⟨n, ko, po⟩ ⟨n, 5, p⟩ = false) := Lib.hid (by rw [HM.out, hf]; simp [fr])
        clear HM hf
        go_enter Try.func20, Try.ntmps20; go_wp2; go_ret; exact ⟨rb HV.out.symm, HB.out⟩
      · rw [hf] at y0
        have HV : Hid (mn ⟨n, ko, po⟩ ⟨n, 5, p⟩ = true) := Lib.hid (by rw [HM.out, hf]; simp [fr])
        clear HM hf
        go_enter Try.func20, Try.ntmps20; go_wp2; go_ret; exact ⟨rb HV.out.symm, HB.out⟩
    · have e4 : (k == 4) = false := by rw [beq_eq_false_iff_ne]; exact h4
      have e5 : (k == 5) = false := by rw [beq_eq_false_iff_ne]; exact h5
      have hk : fr k = false := by simp [fr, h4, h5]
      cases hf : fr ko
      · rw [hf] at y0
        have HV : Hid (mn ⟨n, ko, po⟩ ⟨n, k, p⟩ = true) := Lib.hid (by rw [HM.out, hf]; simp [hk])
        clear HM hf hk h4 h5
        go_enter Try.func20, Try.ntmps20; go_wp2; go_ret; exact ⟨rb HV.out.symm, HB.out⟩
      · rw [hf] at y0
        have HV : Hid (mn ⟨n, ko, po⟩ ⟨n, k, p⟩ = false) := Lib.hid (by rw [HM.out, hf]; simp [hk])
        clear HM hf hk h4 h5
        go_enter Try.func20, Try.ntmps20; go_wp2; go_ret; exact ⟨rb HV.out.symm, HB.out⟩
  · have hne : (n == m) = false := by rw [beq_eq_false_iff_ne]; exact hn
    have HV : Hid (mn ⟨m, ko, po⟩ ⟨n, k, p⟩ = false) := Lib.hid (by rw [HM.out]; simp [hn])
    clear HM hn
    go_enter Try.func20, Try.ntmps20; go_wp2; go_ret; exact ⟨rb HV.out.symm, HB.out⟩
/-- all that stands behind the set -/
structure SA (w wB : World) (p q : Nat) (F G : Nat → Prop) (aw : Option Addr) (cw : Nat) (l m : List D) (o : D) (bp : Nat) (wx : World) : Prop where
  tp : Tb wx p F l
  tq : Tb wx q G m
  was : Rw wx aw cw l
  box : wx.heap[w.heap.size]? = some (.cells o.cs.toArray 32 (0, 0))
  pre : wx.heap[bp]? = some (.cells #[.bool (fr o.k)] 4 (0, 0))
  gq : ∀ j, G j → wB.heap.size ≤ j
  bB : Below wB.heap.size wB wx
  bw : Below w.heap.size w wx
theorem SA.below {w wB : World} {p q : Nat} {F G : Nat → Prop} {aw : Option Addr} {cw : Nat} {l m : List D} {o : D} {bp : Nat} {w1 w2 : World} (h : SA w wB p q F G aw cw l m o bp w1) (hb : Below w1.heap.size w1 w2) : SA w wB p q F G aw cw l m o bp w2 :=
  ⟨h.tp.below hb, h.tq.below hb, h.was.below hb, (hb.block _ (Array.getElem?_eq_some_iff.1 h.box).1).trans h.box, (hb.block _ (Array.getElem?_eq_some_iff.1 h.pre).1).trans h.pre, h.gq, h.bB.trans (hb.mono h.bB.size), h.bw.trans (hb.mono h.bw.size)⟩
theorem Gr.push {W w : World} {v' : Value} {xs : List D} {x : D} (h : w.ownsRow W.heap.size 32 3 v' (xs.length + 1) (flat xs ++ x.cs)) : Gr W v' (xs ++ [x]) w := by
  unfold Gr
  rw [List.length_append, flat_append, flat_cons, flat_nil, List.append_nil]
  exact h
theorem Gr.lt {W w : World} {v : Value} {xs : List D} (h : Gr W v xs w) : ∀ k, v.ownBlock = some k → W.heap.size ≤ k ∧ k < w.heap.size := World.ownsRow.lt h
def L2 (wc : World) (l : List D) (o : D) (g : Nat) (s13 s78 : Value) (wr : World) : Prop :=
  ∃ k : Nat, k ≤ l.length ∧ g = l.length - k ∧ s78 = .int .i64 k ∧ Gr wc s13 (nm (l.take k) o) wr ∧ Below wc.heap.size wc wr
def L3 (wm : World) (m : List D) (o : D) (g : Nat) (s14 s17 s94 : Value) (wr : World) : Prop :=
  ∃ k : Nat, k ≤ m.length ∧ g = m.length - k ∧ s94 = .int .i64 k ∧ s17 = .int .i64 (cnt (m.take k) o : Nat) ∧ Gr wm s14 (nm (m.take k) o) wr ∧ Below wm.heap.size wm wr
def L4 (wn : World) (l : List D) (o : D) (g : Nat) (s : Value) (wr : World) : Prop :=
  ∃ k : Nat, k ≤ l.length ∧ g = l.length - k ∧ s = .int .i64 k ∧ (∀ x ∈ l.take k, mn o x = false) ∧ Below wn.heap.size wn wr
theorem nm_le (l : List D) (o : D) (k : Nat) : (nm (l.take k) o).length ≤ l.length := Nat.le_trans (List.length_filter_le _ _) (by rw [List.length_take]; omega)
theorem cnt_le (l : List D) (o : D) (k : Nat) : cnt (l.take k) o ≤ l.length := Nat.le_trans (List.length_filter_le _ _) (by rw [List.length_take]; omega)
set_option linter.unusedSimpArgs false
set_option maxRecDepth 100000 in
set_option maxHeartbeats 8000000 in
theorem walk (w : World) (a0 : Option Addr) (n0 c0 : Nat) (t0 : List opa.D) (x0 : opm.ORow w a0 n0 t0) (d1 : opa.D) :
    Calls Try.prog 6 #[.slice a0 n0 c0, d1.v] w fun e w' => e = .returned (.bool true) ∧ Below w.heap.size w w' := by
  have H0 := Lib.hid x0
  have HN : Hid (n0 ≤ 4398046511101) := Lib.hid (by have := x0.reach; omega)
  clear x0
  have HB0 := Lib.hid (And.intro (ba w (.cells d1.cs.toArray 32)) (alloc_at w (.cells d1.cs.toArray 32)))
  obtain ⟨n, ko, po⟩ := d1
  simp only [D.v]
  go_enter Try.func6, Try.ntmps6
  go_wp2_with fail
  refine (new_any _).mono ?_
  rintro e w1 ⟨p, rfl, hp, F0, ht0, hb0, hF0⟩
  have H1 : Hid (OwnX w (fun j => j = w.heap.size) p newL w1 ∧ w1.heap[w.heap.size]? = some (.cells (D.cs ⟨n, ko, po⟩).toArray 32 (0, 0))) := Lib.hid ⟨⟨F0, ht0, HB0.out.1.trans (hb0.mono HB0.out.1.size), fun j hj => by have := hF0 j hj; simp at this; exact ⟨by omega, by omega⟩⟩, (hb0.block _ (by simp)).trans HB0.out.2⟩
  clear ht0 hb0 hF0 hp
  go_wp2_with fail
  go_loopg [25] n0 (P1 w p n0 ⟨n, ko, po⟩)
  case atStart => exact ⟨0, newL, by omega, by omega, rfl, newL_inv, H1.out.1, H1.out.2⟩
  case round =>
    obtain ⟨k, l, hk, rfl, rfl, hI, how, hbo⟩ := hrel
    by_cases hlt : k < n0
    · obtain ⟨F, ht, hb, hF⟩ := how
      obtain ⟨b, o, hbl, e0, e1, e2, hix⟩ := (row_below H0.out hb).look hlt
      have hix' := hix c0
      obtain ⟨x, hx⟩ : ∃ x, x = t0.getD k d0 := ⟨_, rfl⟩
      rw [← hx] at e0 e1 e2
      have HH := Lib.hid (And.intro hI (And.intro ht (And.intro hb (And.intro hF hbo))))
      clear hix hI ht hb hF hx hbo
      by_cases h30 : k < 30
      · have hd : decide ((k : Int) < 30) = true := decide_eq_true (by omega)
        go_wp2_with fail
        have hbx := ba wr (.cells x.cs.toArray 32)
        refine (set_any x _ (HH.out.2.1.below hbx) HH.out.1).mono ?_
        rintro e w5 ⟨rfl, hN⟩
        have hbo1 := (Array.getElem?_eq_some_iff.1 HH.out.2.2.2.2).1
        obtain ⟨s1, s2⟩ := OwnX.step (X := fun j => j = w.heap.size) (HH.out.2.2.1.trans (hbx.mono HH.out.2.2.1.size)) HH.out.2.2.2.1 (fun j e => by have := hbx.size; omega) hN
        have H5 := Lib.hid (And.intro (HH.out.1.setL x) (And.intro s1 ((s2 _ (by have := hbx.size; omega) rfl).trans ((hbx.block _ hbo1).trans HH.out.2.2.2.2))))
        clear hbx hN e0 e1 e2 hix' s1 s2 hbo1
        go_wp2_with fail
        go_roundg (n0 - (k + 1))
        case measure => omega
        case rel => exact ⟨k + 1, _, hlt, rfl, by go_num, H5.out.1, H5.out.2.1, H5.out.2.2⟩
      · have hd : decide ((k : Int) < 30) = false := decide_eq_false (by omega)
        go_wp2_with fail
        have hbx := ba wr (.cells x.cs.toArray 32)
        go_roundg (n0 - (k + 1))
        case measure => omega
        case rel => exact ⟨k + 1, l, hlt, rfl, by have := HN.out; rw [show wrap64 ((k : Int) + 1) = ((k + 1 : Nat) : Int) by unfold wrap64; omega], HH.out.1, ⟨F, HH.out.2.1.below hbx, HH.out.2.2.1.trans (hbx.mono HH.out.2.2.1.size), HH.out.2.2.2.1⟩, (hbx.block _ (Array.getElem?_eq_some_iff.1 HH.out.2.2.2.2).1).trans HH.out.2.2.2.2⟩
    · obtain ⟨F, ht, hb, hF⟩ := how
      have HI := Lib.hid (And.intro hI (And.intro ht (And.intro hb hbo)))
      have HL : Hid (l.length ≤ 100) := Lib.hid hI.len
      clear hI ht hb hF hbo
      go_wp2_with fail
      refine (all_any _ HI.out.2.1 (by have := HL.out; omega)).mono ?_
      rintro e wB ⟨aw, cw, rfl, hrw, hbB, hwo⟩
      have HWO : Hid (∀ k, (Value.slice aw l.length cw).ownBlock = some k → w.heap.size < k) := Lib.hid fun k e => Nat.lt_of_lt_of_le (Array.getElem?_eq_some_iff.1 HI.out.2.2.2).1 (hwo k e)
      clear hwo
      have HB : Hid (Tb wB p F l ∧ Rw wB aw cw l ∧ wB.heap[w.heap.size]? = some (.cells (D.cs ⟨n, ko, po⟩).toArray 32 (0, 0)) ∧ Below w.heap.size w wB) := Lib.hid ⟨HI.out.2.1.below hbB, hrw, (hbB.block _ (Array.getElem?_eq_some_iff.1 HI.out.2.2.2).1).trans HI.out.2.2.2, HI.out.2.2.1.trans (hbB.mono HI.out.2.2.1.size)⟩
      clear hrw hbB hlt hk
      go_wp2_with fail
      refine (copy_any _ HB.out.1 (by have := HL.out; omega)).mono ?_
      rintro e wC ⟨q, rfl, hq, hmC⟩
      have HC := Lib.hid hmC
      clear hmC hq
      go_wp2_with fail
      obtain ⟨G, htC, hbC, hG⟩ := HC.out
      refine (all_any _ htC (by have := HL.out; omega)).mono ?_
      rintro e wD ⟨aD, cD, rfl, hrD, hbD, _⟩
      have HD : Hid (Tb wD q G l ∧ Rw wD aD cD l ∧ Below wB.heap.size wB wD ∧ ∀ j, G j → wB.heap.size ≤ j) := Lib.hid ⟨htC.below hbD, hrD, hbC.trans (hbD.mono hbC.size), hG⟩
      clear htC hbC hG hrD hbD
      go_wp2_with fail
      refine (same_any _ HD.out.2.1 (HB.out.2.1.below HD.out.2.2.1) (by have := HL.out; omega)).mono ?_
      rintro e wE ⟨rfl, hbE⟩
      rw [decide_eq_true rfl]
      have HE : Hid (Tb wE q G l ∧ Below wB.heap.size wB wE) := Lib.hid ⟨HD.out.1.below hbE, HD.out.2.2.1.trans (hbE.mono HD.out.2.2.1.size)⟩
      clear hbE
      obtain ⟨z0, z1, z2, _⟩ := box_cells ((HE.out.2.block _ (Array.getElem?_eq_some_iff.1 HB.out.2.2.1).1).trans HB.out.2.2.1)
      go_wp2_with fail
      refine (set_any ⟨n, ko, po⟩ _ HE.out.1 HI.out.1).mono ?_
      rintro e wF ⟨rfl, hN⟩
      have HF : Hid (Own wB q (setL l ⟨n, ko, po⟩) wF) := Lib.hid (Own.step HE.out.2 HD.out.2.2.2 hN)
      clear hN z0 z1 z2
      generalize he : setE l ⟨n, ko, po⟩ = er
      have HER := Lib.hid he
      clear he
      by_cases her : er = 0
      · subst her
        go_upto_region 15 with fail
        obtain ⟨z0, z1, z2, _⟩ := box_cells ((HF.out.choose_spec.2.1.block _ (Array.getElem?_eq_some_iff.1 HB.out.2.2.1).1).trans HB.out.2.2.1)
        have hbw : w.heap.size < wF.heap.size := by have := (Array.getElem?_eq_some_iff.1 HB.out.2.2.1).1; have := HF.out.choose_spec.2.1.size; omega
        go_cut [11] from 67 to 74 (fun s wx => s = .pointer (some ⟨wF.heap.size, 0, none⟩) ∧ wx.heap[wF.heap.size]? = some (.cells #[.bool (fr ko)] 4 (0, 0)) ∧ Below wF.heap.size wF wx)
        case first =>
          have key : ko = 4 ∨ (ko ≠ 4 ∧ ko = 5) ∨ (ko ≠ 4 ∧ ko ≠ 5) := by omega
          rcases key with h4 | ⟨h4, h5⟩ | ⟨h4, h5⟩
          · subst h4
            go_wp2_with fail
            go_meet
            exact ⟨rfl, alloc_at wF _, ba _ _⟩
          · subst h5
            go_wp2_with fail
            go_meet
            exact ⟨rfl, alloc_at wF _, ba _ _⟩
          · have e4 : (ko == 4) = false := by rw [beq_eq_false_iff_ne]; exact h4
            have e5 : (ko == 5) = false := by rw [beq_eq_false_iff_ne]; exact h5
            have hk : Hid (fr ko = false) := Lib.hid (by simp [fr, h4, h5])
            clear h4 h5
            go_wp2_with fail
            go_meet
            rw [hk.out]
            exact ⟨rfl, alloc_at wF _, ba _ _⟩
        case rest =>
          obtain ⟨rfl, hpre, hbc⟩ := hcut
          obtain ⟨G2, htq, hbq, hGq⟩ := HF.out
          have hbBc := hbq.trans (hbc.mono hbq.size)
          have hSA : SA w wB p q F G2 aw cw l (setL l ⟨n, ko, po⟩) ⟨n, ko, po⟩ wF.heap.size wc := ⟨HB.out.1.below hbBc, htq.below hbc, HB.out.2.1.below hbBc, (hbBc.block _ (Array.getElem?_eq_some_iff.1 HB.out.2.2.1).1).trans HB.out.2.2.1, hpre, hGq, hbBc, HB.out.2.2.2.trans (hbBc.mono HB.out.2.2.2.size)⟩
          generalize wF.heap.size = bp at hSA
          have HIm : Hid (Inv (setL l ⟨n, ko, po⟩)) := Lib.hid (HI.out.1.setL _)
          generalize hm : setL l ⟨n, ko, po⟩ = m at hSA HIm
          have HM := Lib.hid (And.intro hm HER.out)
          have HSA := Lib.hid hSA
          clear hpre hbc htq hbq hGq hbBc hSA hm z0 z1 z2 hbw
          obtain ⟨ti, hi1, hi2, hi3, hi4⟩ := info_o
          have HTI := Lib.hid (And.intro hi1 (And.intro hi2 (And.intro hi3 hi4)))
          clear hi1 hi2 hi3 hi4
          go_wp2_with fail
          go_loopg [13, 78] l.length (L2 wc l ⟨n, ko, po⟩)
          case atStart => exact ⟨0, by omega, by omega, rfl, Gr.nil _ _, br _⟩
          case round =>
            obtain ⟨j, hj, rfl, rfl, hgr, hbr⟩ := hrel
            have HR := Lib.hid (And.intro (HSA.out.below hbr) (And.intro hgr hbr))
            obtain ⟨a3, c3, rfl⟩ := Gr.shape hgr
            clear hgr hbr
            by_cases hlt2 : j < l.length
            · obtain ⟨P, rfl, hP, e0, e1, e2, _, hix⟩ := HR.out.1.was.look hlt2
              obtain ⟨x, hx⟩ : ∃ x, x = l[j] := ⟨_, rfl⟩
              rw [← hx] at e0 e1 e2
              have HX := Lib.hid hx
              clear hx
              go_wp2_with fail
              have hbx := ba wr (.cells x.cs.toArray 32)
              refine (mine_any x ⟨n, ko, po⟩ _ _ _ (HR.out.1.below hbx).box (HR.out.1.below hbx).pre).mono ?_
              rintro e w5 ⟨rfl, hb5⟩
              have hx5 := (hb5.block _ (by simp)).trans (alloc_at wr (.cells x.cs.toArray 32))
              have hb15 := bt hbx hb5
              obtain ⟨y0, y1, y2, _⟩ := box_cells hx5
              have H5 := Lib.hid (And.intro (HR.out.2.1.below hb15) (HR.out.2.2.trans (hb15.mono HR.out.2.2.size)))
              clear hbx hb5 hx5 hb15 e0 e1 e2 hix
              cases hmn : mn ⟨n, ko, po⟩ x
              · have HQ : Hid (nm (l.take (j + 1)) ⟨n, ko, po⟩ = nm (l.take j) ⟨n, ko, po⟩ ++ [x]) := Lib.hid (by rw [nm_next _ hlt2, ← HX.out, hmn]; rfl)
                clear hmn
                go_wp2_with (at_builtin; refine wpList_append_own_at _ rfl (.tmp 86) (.tmp 88) 22 rfl wc.heap.size 32 ti ZV 3 32 Try.underlying22 HTI.out.1 HTI.out.2.1 HTI.out.2.2.1 HTI.out.2.2.2 rfl (by decide) _ _ _ rfl (H5.out.1.below (ba w5 (.cells x.cs.toArray 32))) ⟨w5.heap.size, 0, none⟩ 1 1 x.cs rfl rfl (box_at (alloc_at w5 _)) (cs_one x) ?ac1 ?ac2 ?ac3 ?ac4)
                case ac1 => have := nm_le l ⟨n, ko, po⟩ j; have := HL.out; unfold maxLen; omega
                case ac2 => have := nm_le l ⟨n, ko, po⟩ j; have := HL.out; omega
                case ac3 => have := H5.out.2.size; simp; omega
                case ac4 =>
                  intro v' w9 hown hgrow _ _
                  have hbk := ((Keep.of_below (F := fun k => (Value.slice a3 (nm (l.take j) ⟨n, ko, po⟩).length c3).ownBlock = some k) (ba w5 (.cells x.cs.toArray 32))).trans (Keep.of_grown hgrow fun k e => e) fun _ => Or.inl).to_below (B := wc.heap.size) (fun k e => (Gr.lt H5.out.1 k e).1) H5.out.2.size
                  have H9 := Lib.hid (And.intro (Gr.push hown) (H5.out.2.trans hbk))
                  clear hown hgrow hbk y0 y1 y2
                  go_wp2_with fail
                  go_roundg (l.length - (j + 1))
                  case measure => omega
                  case rel => exact ⟨j + 1, hlt2, rfl, by have := HL.out; rw [show wrap64 ((j : Int) + 1) = ((j + 1 : Nat) : Int) by unfold wrap64; omega], by rw [HQ.out]; exact H9.out.1, H9.out.2⟩
              · have HQ : Hid (nm (l.take (j + 1)) ⟨n, ko, po⟩ = nm (l.take j) ⟨n, ko, po⟩) := Lib.hid (by rw [nm_next _ hlt2, ← HX.out, hmn]; simp)
                clear hmn
                go_wp2_with fail
                go_roundg (l.length - (j + 1))
                case measure => omega
                case rel => exact ⟨j + 1, hlt2, rfl, by have := HL.out; rw [show wrap64 ((j : Int) + 1) = ((j + 1 : Nat) : Int) by unfold wrap64; omega], by rw [HQ.out]; exact H5.out.1, H5.out.2⟩
            · have hjl : j = l.length := by omega
              subst hjl
              have HRest : Hid (Gr wc (.slice a3 (nm l ⟨n, ko, po⟩).length c3) (nm l ⟨n, ko, po⟩) wr) := Lib.hid (by have := HR.out.2.1; rw [List.take_length] at this; exact this)
              rw [List.take_length]
              clear hlt2
              go_wp2_with fail
              refine (all_any _ HR.out.1.tq (by have := HIm.out.len; omega)).mono ?_
              rintro e wm ⟨am, cm, rfl, hrm, hbm, _⟩
              have HSM := Lib.hid (And.intro (HR.out.1.below hbm) (And.intro hrm (HRest.out.below hbm)))
              clear hrm hbm
              go_wp2_with fail
              go_loopg [14, 17, 94] m.length (L3 wm m ⟨n, ko, po⟩)
              case atStart => exact ⟨0, by omega, by omega, rfl, rfl, Gr.nil _ _, br _⟩
              case round =>
                obtain ⟨j3, hj3, rfl, rfl, rfl, hgr, hbr⟩ := hrel
                have HR3 := Lib.hid (And.intro (HSM.out.1.below hbr) (And.intro (HSM.out.2.1.below hbr) (And.intro hgr hbr)))
                obtain ⟨a4, c4, rfl⟩ := Gr.shape hgr
                clear hgr hbr
                by_cases hlt3 : j3 < m.length
                · obtain ⟨P3, rfl, hP3, e0, e1, e2, _, hix⟩ := HR3.out.2.1.look hlt3
                  obtain ⟨x, hx⟩ : ∃ x, x = m[j3] := ⟨_, rfl⟩
                  rw [← hx] at e0 e1 e2
                  have HX := Lib.hid hx
                  clear hx
                  go_wp2_with fail
                  have hbx := ba wr (.cells x.cs.toArray 32)
                  refine (mine_any x ⟨n, ko, po⟩ _ _ _ (HR3.out.1.below hbx).box (HR3.out.1.below hbx).pre).mono ?_
                  rintro e w5 ⟨rfl, hb5⟩
                  have hx5 := (hb5.block _ (by simp)).trans (alloc_at wr (.cells x.cs.toArray 32))
                  have hb15 := bt hbx hb5
                  obtain ⟨y0, y1, y2, _⟩ := box_cells hx5
                  have H5 := Lib.hid (And.intro (HR3.out.2.2.1.below hb15) (And.intro (HR3.out.2.2.2.trans (hb15.mono HR3.out.2.2.2.size)) (HR3.out.1.below hb15)))
                  clear hbx hb5 hx5 hb15 e0 e1 e2 hix
                  cases hmn : mn ⟨n, ko, po⟩ x
                  · have HQ : Hid (nm (m.take (j3 + 1)) ⟨n, ko, po⟩ = nm (m.take j3) ⟨n, ko, po⟩ ++ [x] ∧ cnt (m.take (j3 + 1)) ⟨n, ko, po⟩ = cnt (m.take j3) ⟨n, ko, po⟩) := Lib.hid ⟨by rw [nm_next _ hlt3, ← HX.out, hmn]; rfl, by rw [cnt_next _ hlt3, ← HX.out, hmn]; rfl⟩
                    clear hmn
                    go_wp2_with (at_builtin; refine wpList_append_own_at _ rfl (.tmp 106) (.tmp 108) 22 rfl wm.heap.size 32 ti ZV 3 32 Try.underlying22 HTI.out.1 HTI.out.2.1 HTI.out.2.2.1 HTI.out.2.2.2 rfl (by decide) _ _ _ rfl (H5.out.1.below (ba w5 (.cells x.cs.toArray 32))) ⟨w5.heap.size, 0, none⟩ 1 1 x.cs rfl rfl (box_at (alloc_at w5 _)) (cs_one x) ?ad1 ?ad2 ?ad3 ?ad4)
                    case ad1 => have := nm_le m ⟨n, ko, po⟩ j3; have := HIm.out.len; unfold maxLen; omega
                    case ad2 => have := nm_le m ⟨n, ko, po⟩ j3; have := HIm.out.len; omega
                    case ad3 => have := H5.out.2.1.size; simp; omega
                    case ad4 =>
                      intro v' w9 hown hgrow _ _
                      have hbk := ((Keep.of_below (F := fun k => (Value.slice a4 (nm (m.take j3) ⟨n, ko, po⟩).length c4).ownBlock = some k) (ba w5 (.cells x.cs.toArray 32))).trans (Keep.of_grown hgrow fun k e => e) fun _ => Or.inl).to_below (B := wm.heap.size) (fun k e => (Gr.lt H5.out.1 k e).1) H5.out.2.1.size
                      have H9 := Lib.hid (And.intro (Gr.push hown) (H5.out.2.1.trans hbk))
                      clear hown hgrow hbk y0 y1 y2
                      go_wp2_with fail
                      go_roundg (m.length - (j3 + 1))
                      case measure => omega
                      case rel => exact ⟨j3 + 1, hlt3, rfl, by have := HIm.out.len; rw [show wrap64 ((j3 : Int) + 1) = ((j3 + 1 : Nat) : Int) by unfold wrap64; omega], by rw [HQ.out.2], by rw [HQ.out.1]; exact H9.out.1, H9.out.2⟩
                  · have hxo : x = ⟨n, ko, po⟩ := mine_one HM.out.2 (by rw [HX.out, HM.out.1]; exact List.getElem_mem _) hmn
                    have HQ : Hid (nm (m.take (j3 + 1)) ⟨n, ko, po⟩ = nm (m.take j3) ⟨n, ko, po⟩ ∧ cnt (m.take (j3 + 1)) ⟨n, ko, po⟩ = cnt (m.take j3) ⟨n, ko, po⟩ + 1) := Lib.hid ⟨by rw [nm_next _ hlt3, ← HX.out, hmn]; simp, by rw [cnt_next _ hlt3, ← HX.out, hmn]; rfl⟩
                    subst hxo
                    have hself := neqD ⟨n, ko, po⟩ ⟨n, ko, po⟩
                    rw [decide_eq_false (by simp)] at hself
                    simp only [D.v] at hself
                    obtain ⟨z0, z1, z2, _⟩ := box_cells H5.out.2.2.box
                    have hcl : Hid (cnt (m.take j3) ⟨n, ko, po⟩ ≤ 100) := Lib.hid (by have := cnt_le m ⟨n, ko, po⟩ j3; have := HIm.out.len; omega)
                    generalize hcc : cnt (m.take j3) ⟨n, ko, po⟩ = cc at HQ hcl
                    clear hmn hcc
                    go_wp2_with fail
                    go_roundg (m.length - (j3 + 1))
                    case measure => omega
                    case rel => exact ⟨j3 + 1, hlt3, rfl, by have := HIm.out.len; rw [show wrap64 ((j3 : Int) + 1) = ((j3 + 1 : Nat) : Int) by unfold wrap64; omega], by have := hcl.out; rw [HQ.out.2, show wrap64 ((cc : Int) + 1) = ((cc + 1 : Nat) : Int) by unfold wrap64; omega], by rw [HQ.out.1]; exact H5.out.1, H5.out.2.1⟩
                · have hjm : j3 = m.length := by omega
                  subst hjm
                  have hnm : nm m ⟨n, ko, po⟩ = nm l ⟨n, ko, po⟩ := by rw [← HM.out.1]; exact nm_set HI.out.1 _
                  have HNow : Hid (Gr wm (.slice a4 (nm l ⟨n, ko, po⟩).length c4) (nm l ⟨n, ko, po⟩) wr) := Lib.hid (by have := HR3.out.2.2.1; rw [List.take_length, hnm] at this; exact this)
                  have HRst := Lib.hid (HSM.out.2.2.below HR3.out.2.2.2)
                  have hcnt := cnt_set HI.out.1 HM.out.2
                  rw [HM.out.1] at hcnt
                  rw [List.take_length, hnm]
                  have hll : Hid ((nm l ⟨n, ko, po⟩).length ≤ 100) := Lib.hid (by have := nm_le l ⟨n, ko, po⟩ l.length; rw [List.take_length] at this; have := HL.out; omega)
                  obtain ⟨z0, z1, z2, _⟩ := box_cells HR3.out.1.box
                  obtain ⟨cc, hcc⟩ : ∃ cc, cc = cnt m ⟨n, ko, po⟩ := ⟨_, rfl⟩
                  rw [← hcc] at hcnt ⊢
                  have HS3 := Lib.hid HR3.out.1
                  have key : (0 < po ∧ cc = 1) ∨ (po ≤ 0 ∧ cc = 0) := by
                    by_cases hp : 0 < po
                    · exact Or.inl ⟨hp, hcnt.1 hp⟩
                    · exact Or.inr ⟨by omega, hcnt.2 (show po ≤ 0 by omega)⟩
                  clear hlt3 hnm hcnt hcc
                  go_upto_region 34 with fail
                  go_cut [133] from 111 to 133 (fun s wx => s = .bool false ∧ SA w wB p q F G2 aw cw l m ⟨n, ko, po⟩ bp wx)
                  case first =>
                    rcases key with ⟨hp, rfl⟩ | ⟨hp, rfl⟩
                    all_goals
                      go_wp2_with fail
                      refine (same_any _ HRst.out.rw_ HNow.out.rw_ (by have := hll.out; omega)).mono ?_
                      rintro e w6 ⟨rfl, hb6⟩
                      rw [decide_eq_true rfl]
                      have HS6 := Lib.hid (HS3.out.below hb6)
                      clear hb6 z0 z1 z2
                      go_wp2_with fail
                      refine (all_any _ HS6.out.tp (by have := HL.out; omega)).mono ?_
                      rintro e w7 ⟨a7, c7, rfl, hr7, hb7, _⟩
                      have HS7 := Lib.hid (And.intro (HS6.out.below hb7) hr7)
                      clear hr7 hb7
                      go_wp2_with fail
                      refine (same_any _ HS7.out.2 HS7.out.1.was (by have := HL.out; omega)).mono ?_
                      rintro e w8 ⟨rfl, hb8⟩
                      rw [decide_eq_true rfl]
                      have HS8 := Lib.hid (HS7.out.1.below hb8)
                      clear hb8
                      go_wp2_with fail
                      go_meet
                      exact ⟨by first | rfl | rw [decide_eq_false (by omega)], HS8.out⟩
                  case rest =>
                    obtain ⟨rfl, hS9⟩ := hcut
                    have HS9 := Lib.hid hS9
                    clear hS9 z0 z1 z2 key
                    go_wp2_with fail
                    go_loopg [136] l.length (L4 wc l ⟨n, ko, po⟩)
                    case atStart => exact ⟨0, by omega, by omega, rfl, by simp, br _⟩
                    case round =>
                      obtain ⟨j4, hj4, rfl, rfl, hno, hbr⟩ := hrel
                      have HR4 := Lib.hid (And.intro (HS9.out.below hbr) (And.intro hbr hno))
                      clear hbr hno
                      by_cases hlt4 : j4 < l.length
                      · obtain ⟨P4, rfl, hP4, e0, e1, e2, _, hix⟩ := HR4.out.1.was.look hlt4
                        obtain ⟨x, hx⟩ : ∃ x, x = l[j4] := ⟨_, rfl⟩
                        rw [← hx] at e0 e1 e2
                        have HX := Lib.hid hx
                        clear hx
                        go_wp2_with fail
                        have hbx := ba wr (.cells x.cs.toArray 32)
                        refine (mine_any x ⟨n, ko, po⟩ _ _ _ (HR4.out.1.below hbx).box (HR4.out.1.below hbx).pre).mono ?_
                        rintro e w5 ⟨rfl, hb5⟩
                        have hx5 := (hb5.block _ (by simp)).trans (alloc_at wr (.cells x.cs.toArray 32))
                        have hb15 := bt hbx hb5
                        obtain ⟨y0, y1, y2, _⟩ := box_cells hx5
                        have H5 := Lib.hid (And.intro (HR4.out.1.below hb15) (HR4.out.2.1.trans (hb15.mono HR4.out.2.1.size)))
                        clear hbx hb5 hx5 hb15 e0 e1 e2 hix
                        cases hmn : mn ⟨n, ko, po⟩ x
                        · have HQ := Lib.hid (And.intro hmn HR4.out.2.2)
                          clear hmn
                          go_wp2_with fail
                          go_roundg (l.length - (j4 + 1))
                          case measure => omega
                          case rel =>
                            refine ⟨j4 + 1, hlt4, rfl, by have := HL.out; rw [show wrap64 ((j4 : Int) + 1) = ((j4 + 1 : Nat) : Int) by unfold wrap64; omega], ?_, H5.out.2⟩
                            intro y hy
                            rw [List.take_succ_eq_append_getElem hlt4] at hy
                            rcases List.mem_append.1 hy with h | h
                            · exact HQ.out.2 y h
                            · have : y = l[j4] := List.mem_singleton.1 h
                              rw [this, ← HX.out]; exact HQ.out.1
                        · have hback := set_back HI.out.1 HM.out.2 (by rw [HX.out]; exact List.getElem_mem hlt4) hmn
                          rw [HM.out.1] at hback
                          have HV := Lib.hid hback
                          clear hback hmn
                          go_wp2_with fail
                          refine (set_any x _ H5.out.1.tq HIm.out).mono ?_
                          rintro e w6 ⟨rfl, hN⟩
                          rw [HV.out.2] at hN
                          rw [HV.out.1]
                          have H6 : Hid (Own wB q l w6) := Lib.hid (Own.step H5.out.1.bB H5.out.1.gq hN)
                          clear hN y0 y1 y2
                          go_wp2_with fail
                          obtain ⟨G6, ht6, hb6, _⟩ := H6.out
                          refine (all_any _ ht6 (by have := HL.out; omega)).mono ?_
                          rintro e w7 ⟨a7, c7, rfl, hr7, hb7, _⟩
                          have H7 := Lib.hid (And.intro hr7 (hb6.trans (hb7.mono hb6.size)))
                          clear ht6 hb6 hr7 hb7
                          go_wp2_with fail
                          refine (same_any _ H7.out.1 (HB.out.2.1.below H7.out.2) (by have := HL.out; omega)).mono ?_
                          rintro e w8 ⟨rfl, hb8⟩
                          rw [decide_eq_true rfl]
                          have H8 := Lib.hid (H7.out.2.trans (hb8.mono H7.out.2.size))
                          clear hb8
                          go_wp2_with fail
                          refine (awake_any _).mono ?_
                          rintro e wK ⟨rfl, hbK⟩
                          have HK := Lib.hid ((HB.out.2.2.2.trans (H8.out.mono HB.out.2.2.2.size)).trans (hbK.mono (Nat.le_trans HB.out.2.2.2.size H8.out.size)))
                          clear hbK
                          go_wp2_with fail
                          go_ret
                          exact ⟨rfl, HK.out⟩
                      · have hjl : j4 = l.length := by omega
                        subst hjl
                        have hnone : ∀ x ∈ l, mn ⟨n, ko, po⟩ x = false := by have := HR4.out.2.2; rw [List.take_length] at this; exact this
                        have hsn := set_none HI.out.1 HM.out.2 hnone
                        rw [HM.out.1] at hsn
                        have HV := Lib.hid hsn
                        clear hsn hnone hlt4
                        obtain ⟨z0, z1, z2, hzf⟩ := box_cells HR4.out.1.box
                        have g2 := hzf 2
                        clear hzf
                        go_wp2_with fail
                        have kk := Keep.setCell (F := fun k => k = w.heap.size) wr (p := ⟨w.heap.size, 2, none⟩) rfl (.int .i64 0)
                        have hwB : w.heap.size < wB.heap.size := (Array.getElem?_eq_some_iff.1 HB.out.2.2.1).1
                        have htq5 := HR4.out.1.tq.keep kk (fun k hk e => by have := HR4.out.1.gq k hk; omega)
                        refine (set_any ⟨n, ko, 0⟩ _ htq5 HIm.out).mono ?_
                        rintro e w6 ⟨rfl, hN⟩
                        rw [HV.out.2] at hN
                        rw [HV.out.1]
                        have hrow : Rw (wr.setCell ⟨w.heap.size, 2, none⟩ (.int .i64 0)) aw cw l := HR4.out.1.was.of_block fun k e => kk.block k (World.ownsRow.lt HR4.out.1.was k e).2 fun e2 => by have := HWO.out k e; omega
                        have hsz4 := HR4.out.1.bB.size
                        have hss : (wr.setCell ⟨w.heap.size, 2, none⟩ (.int .i64 0)).heap.size = wr.heap.size := by simp [World.setCell]
                        obtain ⟨G6, ht6, hk6, _⟩ := hN
                        have hrow6 : Rw w6 aw cw l := hrow.of_block fun k e => hk6.block k (World.ownsRow.lt hrow k e).2 fun hg => by
                          have h1 := HR4.out.1.gq k hg
                          have h2 := (World.ownsRow.lt HB.out.2.1 k e).2
                          omega
                        have hbw0 := HR4.out.1.bw
                        have hbw1 := hbw0.trans (kk.to_below (B := w.heap.size) (fun k e => by omega) hbw0.size)
                        have hbw6 := hbw1.trans (hk6.to_below (B := w.heap.size) (fun k hg => by have := HR4.out.1.gq k hg; omega) hbw1.size)
                        have H6 := Lib.hid (And.intro ht6 (And.intro hrow6 hbw6))
                        clear kk htq5 hrow hsz4 hss ht6 hk6 hrow6 hbw0 hbw1 hbw6 z0 z1 z2 g2
                        go_wp2_with fail
                        refine (all_any _ H6.out.1 (by have := HL.out; omega)).mono ?_
                        rintro e w7 ⟨a7, c7, rfl, hr7, hb7, _⟩
                        have H7 := Lib.hid (And.intro hr7 (And.intro (H6.out.2.1.below hb7) (H6.out.2.2.trans (hb7.mono H6.out.2.2.size))))
                        clear hr7 hb7
                        go_wp2_with fail
                        refine (same_any _ H7.out.1 H7.out.2.1 (by have := HL.out; omega)).mono ?_
                        rintro e w8 ⟨rfl, hb8⟩
                        rw [decide_eq_true rfl]
                        have H8 := Lib.hid (H7.out.2.2.trans (hb8.mono H7.out.2.2.size))
                        clear hb8
                        go_wp2_with fail
                        refine (awake_any _).mono ?_
                        rintro e wK ⟨rfl, hbK⟩
                        have HK := Lib.hid (H8.out.trans (hbK.mono H8.out.size))
                        clear hbK
                        go_wp2_with fail
                        go_ret
                        exact ⟨rfl, HK.out⟩
      · have q0 : (er != 0) = true := by rw [bne_iff_ne]; exact her
        have hsl : setL l ⟨n, ko, po⟩ = l := set_bad (by rw [HER.out]; exact her)
        rw [hsl] at HF
        clear her hsl
        go_wp2_with fail
        obtain ⟨G', htF, hbF, _⟩ := HF.out
        refine (all_any _ htF (by have := HL.out; omega)).mono ?_
        rintro e wG ⟨aG, cG, rfl, hrG, hbG, _⟩
        have HG : Hid (Rw wG aG cG l ∧ Below wB.heap.size wB wG) := Lib.hid ⟨hrG, hbF.trans (hbG.mono hbF.size)⟩
        clear htF hbF hrG hbG
        go_wp2_with fail
        refine (same_any _ HG.out.1 (HB.out.2.1.below HG.out.2) (by have := HL.out; omega)).mono ?_
        rintro e wH ⟨rfl, hbH⟩
        rw [decide_eq_true rfl]
        have HH := Lib.hid (HG.out.2.trans (hbH.mono HG.out.2.size))
        clear hbH
        go_wp2_with fail
        refine (all_any _ (HB.out.1.below HH.out) (by have := HL.out; omega)).mono ?_
        rintro e wI ⟨aI, cI, rfl, hrI, hbI, _⟩
        have HII : Hid (Rw wI aI cI l ∧ Below wB.heap.size wB wI) := Lib.hid ⟨hrI, HH.out.trans (hbI.mono HH.out.size)⟩
        clear hrI hbI
        go_wp2_with fail
        refine (same_any _ HII.out.1 (HB.out.2.1.below HII.out.2) (by have := HL.out; omega)).mono ?_
        rintro e wJ ⟨rfl, hbJ⟩
        rw [decide_eq_true rfl]
        have HJ := Lib.hid (HII.out.2.trans (hbJ.mono HII.out.2.size))
        clear hbJ
        go_wp2_with fail
        refine (awake_any _).mono ?_
        rintro e wK ⟨rfl, hbK⟩
        have HK := Lib.hid ((HB.out.2.2.2.trans (HJ.out.mono HB.out.2.2.2.size)).trans (hbK.mono (Nat.le_trans HB.out.2.2.2.size HJ.out.size)))
        clear hbK
        go_wp2_with fail
        go_ret
        exact ⟨rfl, HK.out⟩
set_option maxRecDepth 100000 in
theorem lifted (os : Os) (started : os.Started) (H : Type) (enc : TypeId × Value → H) :
    ReturnsInHanded {} Try.checked os 6 .any (Rows.opsApartSpec.pre6 enc Try.prog Try.f6 Rows.opsApartRow.domain false) (Rows.opsApartSpec.post enc Try.prog Try.f6 false true false false) := by
  refine returnsInHanded_of_change_sized (C := Try.checked) own started (by kernel_rfl) Try.func6
    (ChangeSpec.witness6 (enc := enc) (C := Try.checked) false ⟨#[], #[.slice none 0 0, .agg #[.string ⟨#[]⟩, .int .i64 0, .int .i64 0]], []⟩ 8 (by kernel_rfl) (by kernel_rfl) (by kernel_rfl) (by kernel_rfl)) ?_
  intro W base args ds gs before hval0 hW _ hsz0 _
  have hsz : (DataW.weightsEach Try.prog (Try.f6.params.toList ++ Rows.opsApartSpec.plain.varTypes Try.prog) (ds ++ gs)).all (· ≤ reachBytes) = true := hsz0
  clear hsz0
  have hval : ∀ (j : Nat) t v, Try.f6.params[j]? = some t → args[j]? = some v → Value.okWide Try.prog W .any base t v := hval0
  have hW' := hW
  obtain ⟨p, q, hA0, hV, rfl, hfz, hnd⟩ := hW
  have hA : DataW.TrodAll enc Try.prog W 0 (fun _ => true) true Try.f6.params.toList args.toList ds p := hA0
  rw [Try.params6] at hA hval hsz
  obtain ⟨v0, vs0, d0, ds0, p0, q0, hargs, rfl, rfl, h0, r0⟩ := trodAll_cons hA
  obtain ⟨v1, vs1, d1, ds1, p1, q1, rfl, rfl, rfl, h1, r1⟩ := trodAll_cons r0
  obtain ⟨rfl, rfl, rfl⟩ := trodAll_nil r1
  obtain rfl : args = #[v0, v1] := by cases args; simp_all
  obtain ⟨rfl, rfl⟩ := trodVars_none hV
  simp only [List.append_nil] at hW'
  have lt0 : ∀ x ∈ p0, x.block < W.heap.size := fun x hx => by
    have := hW'.lt x (by simp [hx])
    simpa using this
  have k0 := h0
  have lt1 : ∀ x ∈ p1, x.block < W.heap.size := fun x hx => by
    have := hW'.lt x (by simp [hx])
    simpa using this
  have k1 := h1
  obtain ⟨a0, n0, c0, rfl⟩ := okWide_slice Try.underlying22 (hval 0 22 v0 rfl rfl)
  obtain ⟨t0, x0⟩ := h0.elim fun fuel hf => opm.ops_open hf (lt0) (fun x y e => sized_slice hsz (j := 0) (t := 22) (e := 32) rfl (by rw [← e]; rfl) Try.underlying22)
  obtain ⟨t1, rfl⟩ := opm.op_arg (by obtain ⟨cs, hcs, _⟩ := okWide_struct Try.underlying32 (hval 1 32 v1 rfl rfl); exact ⟨cs, hcs⟩) h1
  clear hA0 hval0
  refine (walk W a0 n0 c0 t0 x0 t1).mono fun e W' ⟨he, hg⟩ => ?_
  subst he
  have ha := (trodAll_cons_mk (Below.trod laidOut (by kernel_rfl) (of_decide_eq_true (by kernel_rfl)) k0 hg lt0) (trodAll_cons_mk (Below.trod laidOut (by kernel_rfl) (of_decide_eq_true (by kernel_rfl)) k1 hg lt1) trodAll_mk0))
  refine ⟨_, rfl, _, _, _, [], _, [], hW', ?_, ha, rfl, hg.frame _, fun h => by cases h⟩
  exact (trodAll_cons_mk (shut_bool Try.underlying4 _) trodAll_mk0)
/-- THE STATEMENT. -/
theorem proved : Rows.OpsApartSaid :=
  OpenClaim.holds_of_wide 6 Try.f6 rfl rfl rfl rfl rfl rfl rfl ⟨rfl, rfl, rfl, rfl, rfl⟩ rfl rfl rfl rfl rfl (by kernel_rfl) Try.func6 (by kernel_rfl)
    (of_decide_eq_true (by kernel_rfl)) (by unfold Func.isWrapper; first | (rw [if_pos (by decide +kernel)]; kernel_rfl) | (rw [if_neg (by decide +kernel)]; exact ⟨rfl, rfl⟩))
    (fun os started H enc _ => lifted os started H enc)
#print axioms proved
end Go.Proofs.Ytnpdipmkikakcaa.opsApart
