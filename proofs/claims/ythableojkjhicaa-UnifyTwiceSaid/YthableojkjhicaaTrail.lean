/- Contracts of package trail's calls, over a trail and its heap. -/
import Derived.Test.YthableojkjhicaaTr
import Derived.Test.YthableojkjhicaaHeap
import Derived.StillTailTactics
import Derived.BigRegion
import Derived.LoopTactic
import Derived.Deep.LoopGhost
import Derived.Deep.DeepCutAuto
import Derived.Deep.CutBlock
namespace Go.Proofs.Ythableojkjhicaa.hp
open Go.ChangeShapes Go.WideShapes Go.ChangeAt Go.RowKit Go.Maps
open Go.Proofs.Ythableojkjhicaa.kp Go.Proofs.Ythableojkjhicaa.cel
set_option linter.unusedVariables false
theorem infoI : (Try.prog.info? 3).map (fun i => (i.zero, i.size, i.bytes)) = some (some (.int .i64 0), 1, 8) := by kernel_rfl
theorem slc_rule {a : Option Addr} {n c i : Nat} (hi : i ≤ c) (wx : World) : (Instr.slice 29 (.slice a n c) none (some (.int .i64 (i : Int))) none).run Try.prog wx = .ok (.slice a i c) wx := by
  have he : Try.prog.elem 29 = 23 := by kernel_rfl
  have hs : (sizeOf 23).run Try.prog wx = .ok 1 wx := by kernel_rfl
  rw [run_slice_h _ _ _ _ _ (by rw [he]; exact Try.underlying29) _ _ (by omega) (by omega), he, hs]
  cases a with
  | none => simp [Result.andThen, sliced]
  | some p => simp [Result.andThen, sliced, Addr.add]
theorem slcAt_rule {a : Option Addr} {n c i : Nat} (hi : i ≤ c) (wx : World) : (Instr.sliceAt 29 (.slice a n c) none (some (.int .i64 (i : Int))) none).run Try.prog wx = .ok (.slice a i c) wx := by
  have he : Try.prog.elem 29 = 23 := by kernel_rfl
  rw [run_sliceAt_slice _ _ _ _ _ _ (by rw [he]; exact Try.underlying29), slc_rule hi]
theorem sli_rule {a : Option Addr} {n c i : Nat} (hi : i ≤ c) (wx : World) : (Instr.slice 98 (.slice a n c) none (some (.int .i64 (i : Int))) none).run Try.prog wx = .ok (.slice a i c) wx := by
  have he : Try.prog.elem 98 = 3 := by kernel_rfl
  have hs : (sizeOf 3).run Try.prog wx = .ok 1 wx := by kernel_rfl
  rw [run_slice_h _ _ _ _ _ (by rw [he]; exact Try.underlying98) _ _ (by omega) (by omega), he, hs]
  cases a with
  | none => simp [Result.andThen, sliced]
  | some p => simp [Result.andThen, sliced, Addr.add]
theorem sliAt_rule {a : Option Addr} {n c i : Nat} (hi : i ≤ c) (wx : World) : (Instr.sliceAt 98 (.slice a n c) none (some (.int .i64 (i : Int))) none).run Try.prog wx = .ok (.slice a i c) wx := by
  have he : Try.prog.elem 98 = 3 := by kernel_rfl
  rw [run_sliceAt_slice _ _ _ _ _ _ (by rw [he]; exact Try.underlying98), sli_rule hi]
section
variable {w : World} {q : Nat} {G : Nat → Prop} {ps ss : List Int} {L : List Wr}
theorem tnew_any (w : World) : Calls Try.prog 24 #[] w fun e w' => e = .returned (.pointer (some ⟨w.heap.size, 0, none⟩)) ∧ w' = w.alloc (.cells #[.slice none 0 0, .slice none 0 0] TT) := by
  go_enter Try.func24, Try.ntmps24; go_wp2_with fail; go_ret
  exact ⟨rfl, rfl⟩
theorem tlen_any (h : Tp w q G ps ss) : Calls Try.prog 33 #[.pointer (some ⟨q, 0, none⟩)] w fun e w' => e = .returned (.int .i64 ps.length) ∧ w = w' := by
  obtain ⟨a, c, b, d, c0, c1, f0, f1, hc, hd, _⟩ := h.open_
  clear h
  go_enter Try.func33, Try.ntmps33; go_wp2_with fail; go_ret
  exact ⟨rfl, rfl⟩
theorem tlen_nil (w : World) : Calls Try.prog 33 #[.pointer none] w fun e w' => e = .returned (.int .i64 0) ∧ w = w' := by
  go_enter Try.func33, Try.ntmps33; go_wp2_with fail; go_ret
  exact ⟨rfl, rfl⟩
theorem tmark_any (h : Tp w q G ps ss) : Calls Try.prog 57 #[.pointer (some ⟨q, 0, none⟩)] w fun e w' => e = .returned (.int .i64 ps.length) ∧ w = w' := by
  have hl := tlen_any h
  clear h
  go_enter Try.func57, Try.ntmps57; go_wp2_with fail
  refine hl.mono ?_; rintro e w' ⟨rfl, rfl⟩
  go_wp2_with fail; go_ret
  exact ⟨rfl, rfl⟩
theorem tmark_nil (w : World) : Calls Try.prog 57 #[.pointer none] w fun e w' => e = .returned (.int .i64 0) ∧ w = w' := by
  have hl := tlen_nil w
  go_enter Try.func57, Try.ntmps57; go_wp2_with fail
  refine hl.mono ?_; rintro e w' ⟨rfl, rfl⟩
  go_wp2_with fail; go_ret
  exact ⟨rfl, rfl⟩
theorem thas_any (h : Tp w q G (pl L) ss) (n : Int) : Calls Try.prog 60 #[.pointer (some ⟨q, 0, none⟩), .int .i64 n] w fun e w' => e = .returned (.bool (hb L n)) ∧ w = w' := by
  have hl := tlen_any h
  rw [pl_len] at hl
  clear h
  by_cases h0 : 0 ≤ n
  · by_cases h1 : n ≤ L.length
    · have e := Lib.hid (show hb L n = true by simp [hb, h0, h1])
      have d : decide (n ≤ (L.length : Int)) = true := by simpa using h1
      go_enter Try.func60, Try.ntmps60; go_wp2_with fail
      refine hl.mono ?_; rintro e w' ⟨rfl, rfl⟩
      go_wp2_with fail; go_ret
      exact ⟨rb e.out.symm, rfl⟩
    · have e := Lib.hid (show hb L n = false by simp [hb, h1])
      have d : decide (n ≤ (L.length : Int)) = false := by simpa using h1
      go_enter Try.func60, Try.ntmps60; go_wp2_with fail
      refine hl.mono ?_; rintro e w' ⟨rfl, rfl⟩
      go_wp2_with fail; go_ret
      exact ⟨rb e.out.symm, rfl⟩
  · have e := Lib.hid (show hb L n = false by simp [hb, h0])
    go_enter Try.func60, Try.ntmps60; go_wp2_with fail; go_ret
    exact ⟨rb e.out.symm, rfl⟩
theorem thas_nil (n : Int) (w : World) : Calls Try.prog 60 #[.pointer none, .int .i64 n] w fun e w' => e = .returned (.bool false) ∧ w = w' := by
  go_enter Try.func60, Try.ntmps60; go_wp2_with fail; go_ret
  exact ⟨rfl, rfl⟩
/-! ### Drop -/
theorem tdrop_any (h : TP w q G L) (hL : L.length ≤ 1099511627776) (n : Int) : Calls Try.prog 62 #[.pointer (some ⟨q, 0, none⟩), .int .i64 n] w fun e w' => e = .returned (.int .i64 (nb L n)) ∧ ∃ G', TP w' q G' (kx L n) ∧ Keep G w w' ∧ ∀ k, G' k → G k ∨ w.heap.size ≤ k := by
  have hh := thas_any h n
  have hl := tlen_any h
  rw [pl_len] at hl
  by_cases h0 : 0 ≤ n ∧ n ≤ L.length
  · have e1 : hb L n = true := decide_eq_true h0
    have e2 := Lib.hid (show nb L n = L.length - n by unfold nb; rw [if_pos h0])
    have e3 := Lib.hid (show kx L n = L.take n.toNat by unfold kx; rw [if_pos h0])
    rw [e1] at hh
    obtain ⟨k, rfl⟩ := Int.eq_ofNat_of_zero_le h0.1
    have hk : k ≤ L.length := by omega
    obtain ⟨a, c, b, d, c0, c1, f0, f1, hc, hd, _⟩ := Tp.open_ h
    have N : ∀ w' : World, _ → Hid (∃ G', TP w'.drew q G' (L.take k) ∧ Keep G w w'.drew ∧ ∀ k, G' k → G k ∨ w.heap.size ≤ k) := fun w' e => Lib.hid (by
      obtain ⟨G', t, r, r2⟩ := TN.cut (w' := w') (k := k) h (by rw [pl_len]; exact hk) (by rw [sl_len]; exact hk) c0 c1 e
      exact ⟨G', by unfold TP; rw [pl_take, sl_take]; exact t.below (kp.bdr _), r.trans (Keep.drew (fun _ => False) _) (fun _ (h : False) => h.elim), r2⟩)
    rw [pl_len] at c0 hc
    rw [sl_len] at c1 hd
    have r1 := fun wx => slc_rule (a := b) (n := L.length) (c := d) (i := k) (by omega) wx
    have r2 := fun wx => slcAt_rule (a := b) (n := L.length) (c := d) (i := k) (by omega) wx
    have r3 := fun wx => sli_rule (a := a) (n := L.length) (c := c) (i := k) (by omega) wx
    have r4 := fun wx => sliAt_rule (a := a) (n := L.length) (c := c) (i := k) (by omega) wx
    clear h e1 h0
    go_enter Try.func62, Try.ntmps62; go_wp2_with fail
    refine hh.mono ?_; rintro e w' ⟨rfl, rfl⟩
    go_wp2_with fail
    refine hl.mono ?_; rintro e w' ⟨rfl, rfl⟩
    go_wp2_with fail
    go_region
    go_wp2_with fail
    go_ret
    exact ⟨kp.ri e2.out.symm, by rw [e3.out]; exact (N _ (Or.inl rfl)).out⟩
  · have e1 : hb L n = false := decide_eq_false h0
    have e2 := Lib.hid (show nb L n = 0 by unfold nb; rw [if_neg h0])
    have e3 := Lib.hid (show kx L n = L by unfold kx; rw [if_neg h0])
    rw [e1] at hh
    have HH := Lib.hid h
    clear h h0 e1
    go_enter Try.func62, Try.ntmps62; go_wp2_with fail
    refine hh.mono ?_; rintro e w' ⟨rfl, rfl⟩
    go_wp2_with fail; go_ret
    exact ⟨kp.ri e2.out.symm, G, by rw [e3.out]; exact HH.out, Keep.refl _ _, fun _ => Or.inl⟩
theorem tdrop_nil (n : Int) (w : World) : Calls Try.prog 62 #[.pointer none, .int .i64 n] w fun e w' => e = .returned (.int .i64 0) ∧ w = w' := by
  have hh := thas_nil n w
  go_enter Try.func62, Try.ntmps62; go_wp2_with fail
  refine hh.mono ?_; rintro e w' ⟨rfl, rfl⟩
  go_wp2_with fail; go_ret
  exact ⟨rfl, rfl⟩
/-! ### Set -/
theorem hd2 {l : List Int} {L : List Wr} {n : Int} (h : gb l n = true) : pl (tx l L n) = pl L ++ [n] ∧ sl (tx l L n) = sl L ++ [gv l n] := by
  unfold tx; rw [if_pos h, pl_add, sl_add]; exact ⟨rfl, rfl⟩
set_option maxHeartbeats 1000000 in
theorem tset_any {p : Nat} {K : Nat → Prop} {l : List Int} {m : Int} (h : Sys TH TP w p q K l m L) (hL : L.length < 1099511627776) (n u : Int) (hu : W64 u) :
    Calls Try.prog 137 #[.pointer (some ⟨q, 0, none⟩), .pointer (some ⟨p, 0, none⟩), .int .i64 n, .int .u64 u] w fun e w' => e = .returned (.bool (gb l n)) ∧ SN TH TP w p q K (sx l n u) m (tx l L n) w' := by
  obtain ⟨⟨F, G, a, b, c, d⟩, g⟩ := h
  have hg := get_any a n
  by_cases h0 : gb l n = true
  · have HD := Lib.hid (hd2 (L := L) h0)
    have hgd := g.tx (l := l) a.len_le a.wf n
    have HG := Lib.hid hgd
    have hn0 := of_decide_eq_true h0
    have HU := Lib.hid hu
    have HA := Lib.hid a
    have HB := Lib.hid b
    have HC := Lib.hid (And.intro c d)
    obtain ⟨sa, sc, sb, sd, c0, c1, f0, f1, hc, hd, ho1, ho2, hne1, hne2, hap, hG⟩ := Tp.open_ b
    rw [pl_len] at c0 hc ho1 hne1 hap hG
    rw [sl_len] at c1 hd ho2 hne2 hap hG
    have hql := Tp.lt b q (Tp.mine b)
    have HO := Lib.hid (And.intro ho1 (And.intro ho2 (And.intro hne1 (And.intro hne2 hap))))
    have HC0 := Lib.hid c0
    have HC1 := Lib.hid c1
    obtain ⟨i0, hi, hz0, hz1, hz2⟩ := info_parts infoI
    obtain ⟨j0, hj, hy0, hy1, hy2⟩ := info_parts infoC
    have HI := Lib.hid (And.intro hi (And.intro hz0 (And.intro hz1 hz2)))
    have HJ := Lib.hid (And.intro hj (And.intro hy0 (And.intro hy1 hy2)))
    have hx0 := h0
    rw [h0] at hg ⊢
    have hgv := gv_w a.wf n
    have HV := Lib.hid hgv
    generalize hx : gv l n = x at *
    clear a b c d g hgd hn0 hu ho1 ho2 hne1 hne2 hap hG hi hz0 hz1 hz2 hj hy0 hy1 hy2 hgv
    go_enter Try.func137, Try.ntmps137
    go_wp2_with fail
    refine hg.mono ?_; rintro e w' ⟨rfl, rfl⟩
    go_wp2_with (at_builtin; refine wpList_append_own_at _ rfl (.tmp 25) (.tmp 27) 98 rfl 0 3 i0 (.int .i64 0) 1 8 Try.underlying98 HI.out.1 HI.out.2.1 HI.out.2.2.1 HI.out.2.2.2 rfl (by decide) _ _ _ rfl (HO.out.1.alloc _) ⟨w.heap.size, 0, none⟩ 1 1 [.int .i64 n] rfl rfl (cell_one_new _ _ _) ?c2 ?b1 ?b2 ?b3 ?_)
    case c2 => intro z hz; simp at hz; subst hz; rfl
    case b1 => unfold maxLen; omega
    case b2 => omega
    case b3 => simp
    intro v' w2 hr2 g2 _ hat
    obtain ⟨a', c', rfl⟩ := kp.shape hr2
    have hne : some q ≠ (Value.slice sa L.length sc).ownBlock := fun e => HO.out.2.2.1 e.symm
    have f0' : w2.frozen? ⟨q, 0, none⟩ = false := ((World.frozen?_of_block (a := ⟨q, 0, none⟩) (g2.block q (by simp; omega) hne)).trans (World.frozen?_alloc_past _ _ _ hql)).trans f0
    have c0' := g2.cell (a := ⟨q, 0, none⟩) (by rw [World.cell?_alloc_past _ _ _ hql]; exact c0) hne
    have N := TN.push0 HB.out HC0.out ((Below.refl w.heap.size w).alloc (Nat.le_refl _) (.cells #[.int .i64 n] 3)) (by rw [pl_len]; simpa using hr2) g2 (by simpa using hat)
    have N1 := Lib.hid N
    clear hne hr2 g2 hat c0 c1 f0 f1 N
    go_upto_region 7 with fail
    obtain ⟨w3, hw3⟩ : ∃ w3, w3 = w2.setCell ⟨q, 0, none⟩ (.slice a' (L.length + 1) c') := ⟨_, rfl⟩
    have N2 := N1.out
    rw [← hw3] at N2 ⊢
    clear hw3 N1 f0' c0' hql hc hd HO HC0 HC1
    obtain ⟨G1, t1, k1, s1⟩ := N2
    obtain ⟨sa, sc, sb, sd, c0, c1, f0, f1, hc, hd, ho1, ho2, hne1, hne2, hap, hG⟩ := t1.open_
    rw [sl_len] at c1 hd ho2 hne2 hap hG
    have hql := t1.lt q t1.mine
    have HO := Lib.hid (And.intro ho2 hne2)
    have HT := Lib.hid (And.intro t1 (And.intro k1 s1))
    have HC1 := Lib.hid c1
    clear t1 k1 s1 ho1 ho2 hne1 hne2 hap hG c0 f0
    go_wp2_with (at_builtin; refine wpList_append_own_at _ rfl (.tmp 35) (.tmp 37) 29 rfl 0 23 j0 (.int .u64 0) 1 8 Try.underlying29 HJ.out.1 HJ.out.2.1 HJ.out.2.2.1 HJ.out.2.2.2 rfl (by decide) _ _ _ rfl (HO.out.1.alloc _) ⟨w3.heap.size, 0, none⟩ 1 1 [.int .u64 x] rfl rfl (cell_one_new _ _ _) ?c2 ?b1 ?b2 ?b3 ?_)
    case c2 => intro z hz; simp at hz; subst hz; rfl
    case b1 => unfold maxLen; omega
    case b2 => omega
    case b3 => simp
    intro v' w4 hr2 g2 _ hat
    obtain ⟨b', d', rfl⟩ := kp.shape hr2
    have hne : some q ≠ (Value.slice sb L.length sd).ownBlock := fun e => HO.out.2 e.symm
    have f1' : w4.frozen? ⟨q, 1, none⟩ = false := ((World.frozen?_of_block (a := ⟨q, 1, none⟩) (g2.block q (by simp; omega) hne)).trans (World.frozen?_alloc_past _ _ _ hql)).trans f1
    have c1' := g2.cell (a := ⟨q, 1, none⟩) (by rw [World.cell?_alloc_past _ _ _ hql]; exact c1) hne
    have N := TN.push1 HT.out.1 HC1.out ((Below.refl w3.heap.size w3).alloc (Nat.le_refl _) (.cells #[.int .u64 x] 23)) (by rw [sl_len]; simpa using hr2) g2 (by simpa using hat)
    have N1 := Lib.hid (TN.trans HT.out.2.1 HT.out.2.2 N)
    clear hne hr2 g2 hat c1 f1 N
    go_upto_region 8 with fail
    obtain ⟨w5, hw5⟩ : ∃ w5, w5 = w4.setCell ⟨q, 1, none⟩ (.slice b' (L.length + 1) d') := ⟨_, rfl⟩
    have N2 := N1.out
    rw [← hw5] at N2 ⊢
    clear hw5 N1 f1' c1' hql hc hd HO HT HC1
    rw [← HD.out.1, ← HD.out.2] at N2
    obtain ⟨G2, t2, k2, s2⟩ := N2
    have N3 := SN.trail (T := TH) (Tr := TP) HA.out HC.out.1 HC.out.2 HG.out (show TP w5 q G2 _ from t2) k2 s2
    clear t2 k2 s2
    obtain ⟨K3, ⟨⟨F3, G3, a3, b3, cc3, d3⟩, g3⟩, k3, s3⟩ := N3
    have hs := set_any a3 n u HU.out
    rw [hx0] at hs
    have FIN := fun w6 (nx : Next TH w5 p F3 (sx l n u) m w6) => Lib.hid (SN.trans k3 s3 (SN.heap frmP a3 b3 cc3 d3 g3 nx))
    clear a3 b3 cc3 d3 g3 k3 s3
    go_wp2_with fail
    refine hs.mono ?_; rintro e w6 ⟨rfl, nx⟩
    have FF := FIN w6 nx
    clear nx FIN
    go_wp2_with fail
    go_ret
    exact ⟨rfl, FF.out⟩
  · have hs := Lib.hid (show sx l n u = l by unfold sx; rw [if_neg (fun hh => h0 (decide_eq_true hh))])
    have ht := Lib.hid (show tx l L n = L by unfold tx; rw [if_neg h0])
    simp only [Bool.not_eq_true] at h0
    have N := Lib.hid (SN.same (T := TH) (Tr := TP) ⟨⟨F, G, a, b, c, d⟩, g⟩)
    rw [h0] at hg ⊢
    clear a b c d g hu
    go_enter Try.func137, Try.ntmps137
    go_wp2_with fail
    refine hg.mono ?_; rintro e w' ⟨rfl, rfl⟩
    go_wp2_with fail
    go_ret
    exact ⟨rfl, by rw [hs.out, ht.out]; exact N.out⟩
theorem tset_nil (h : Value) (n u : Int) (w : World) : Calls Try.prog 137 #[.pointer none, h, .int .i64 n, .int .u64 u] w fun e w' => e = .returned (.bool false) ∧ w = w' := by
  go_enter Try.func137, Try.ntmps137; go_wp2_with fail; go_ret
  exact ⟨rfl, rfl⟩
/-! ### Undo -/
def RU (w : World) (p q : Nat) (K : Nat → Prop) (l : List Int) (m : Int) (L : List Wr) (mk : Nat) (gk : Nat) (i : Value) (wr : World) : Prop := ∃ k : Nat, mk ≤ k ∧ k ≤ L.length ∧ gk = k - mk ∧ i = .int .i64 ((k : Int) - 1) ∧ SN TH TP w p q K (ub l (L.drop k)) m L wr
set_option maxRecDepth 100000 in
set_option maxHeartbeats 1000000 in
theorem tundo_any {p : Nat} {K : Nat → Prop} {l : List Int} {m : Int} (h : Sys TH TP w p q K l m L) (hL : L.length ≤ 1099511627776) (n : Int) :
    Calls Try.prog 32 #[.pointer (some ⟨q, 0, none⟩), .pointer (some ⟨p, 0, none⟩), .int .i64 n] w fun e w' => e = .returned (.int .i64 (nb L n)) ∧ SN TH TP w p q K (ux l L n) m (kx L n) w' := by
  obtain ⟨⟨F, G, a, b, c, d⟩, g⟩ := h
  have hh := thas_any b n
  have hl := tlen_any b
  rw [pl_len] at hl
  by_cases h0 : 0 ≤ n ∧ n ≤ L.length
  · have e1 : hb L n = true := decide_eq_true h0
    rw [e1] at hh
    obtain ⟨mk, rfl⟩ := Int.eq_ofNat_of_zero_le h0.1
    have hk : mk ≤ L.length := by omega
    have e2 := Lib.hid (show ux l L mk = ub l (L.drop mk) by unfold ux; rw [if_pos h0]; rfl)
    have hgd := Lib.hid g
    have S0 : SN TH TP w p q K (ub l (L.drop L.length)) m L w := by rw [List.drop_length]; exact SN.same ⟨⟨F, G, a, b, c, d⟩, g⟩
    have HS := Lib.hid S0
    clear a b c d g S0 h0 e1
    go_enter Try.func32, Try.ntmps32; go_wp2_with fail
    refine hh.mono ?_; rintro e w' ⟨rfl, rfl⟩
    go_wp2_with fail
    refine hl.mono ?_; rintro e w' ⟨rfl, rfl⟩
    clear hh hl
    go_wp2_with fail
    go_loopg [7] (L.length - mk) (RU w p q K l m L mk)
    case atStart => exact ⟨L.length, hk, by omega, rfl, rfl, HS.out⟩
    case round =>
      obtain ⟨k, hmk, hkl, rfl, rfl, sn⟩ := hrel
      obtain ⟨K1, ⟨⟨F, G, a, b, c, d⟩, g⟩, k1, s1⟩ := sn
      by_cases hlt : mk < k
      · obtain ⟨j, rfl⟩ : ∃ j, k = j + 1 := ⟨k - 1, by omega⟩
        have hj : j < L.length := by omega
        obtain ⟨x0, x1, x2, x3, c0, c1, hc, hd, z0, z1⟩ := Tp.at_ b j (by rw [pl_len]; exact hj) (by rw [sl_len]; exact hj)
        rw [pl_at] at z0
        rw [sl_at] at z1
        rw [pl_len] at c0 hc
        rw [sl_len] at c1 hd
        obtain ⟨hp0, hu⟩ := g.at_ j
        have es := Lib.hid (ub_step l L hj)
        generalize L.getD j wr0 = x at *
        obtain ⟨xa, xu⟩ := x
        have hs := fun i => Lib.hid (set_any (a.drewN i) xa xu hu)
        have FIN := fun w6 (nx : Next TH (wr.drewN 1) p F (sx (ub l (L.drop (j + 1))) xa xu) m w6) => Lib.hid (SN.trans k1 s1 (SN.trans (K' := K1) (Keep.of_below (kp.bdr wr)) (fun _ => Or.inl) (SN.heap frmP (a.drewN 1) (Tp.drewN b 1) c d g nx)))
        have hij : ((j + 1 : Nat) : Int) - 1 = (j : Int) := by omega
        rw [hij]
        have hlt' : (mk : Int) ≤ (j : Int) := by omega
        have HK := Lib.hid (And.intro hmk (And.intro hkl hlt))
        clear a b c d g k1 s1 hu hp0 hmk hkl hlt hij
        go_wp2_with fail
        go_still_tail 15, (by kernel_rfl)
        change wpList _ _ _ _ _ wr.drew
        have hs1 : Calls _ _ _ wr.drew _ := (hs 1).out
        generalize wr.drew = wd at *
        clear hs c0 c1 z0 z1
        go_wp2_with fail
        refine hs1.mono ?_; rintro e w6 ⟨rfl, nx⟩
        have FF := FIN w6 nx
        clear nx FIN hs1
        go_wp2_with fail
        go_roundg (j - mk)
        case measure => have := HK.out; omega
        case rel => exact ⟨j, by have := HK.out; omega, by have := HK.out; omega, rfl, by go_num, by rw [es.out]; exact FF.out⟩
      · obtain rfl : k = mk := by omega
        have hd := tdrop_any b hL k
        have FIN := fun w6 (nx : ∃ G', TP w6 q G' (kx L k) ∧ Keep G wr w6 ∧ ∀ i, G' i → G i ∨ wr.heap.size ≤ i) => Lib.hid (by
          obtain ⟨G', b', kk, ss⟩ := nx
          exact SN.trans k1 s1 (SN.trail a c d (by unfold kx; split; exact g.take _; exact g) b' kk ss))
        clear a b c d g k1 s1
        go_wp2_with fail
        refine hd.mono ?_; rintro e w6 ⟨rfl, nx⟩
        have FF := FIN w6 nx
        clear nx FIN hd
        go_wp2_with fail
        go_ret
        exact ⟨rfl, by rw [e2.out]; exact FF.out⟩
  · have e1 : hb L n = false := decide_eq_false h0
    have e2 := Lib.hid (show nb L n = 0 by unfold nb; rw [if_neg h0])
    have e3 := Lib.hid (show kx L n = L by unfold kx; rw [if_neg h0])
    have e4 := Lib.hid (show ux l L n = l by unfold ux; rw [if_neg h0])
    rw [e1] at hh
    have N := Lib.hid (SN.same (T := TH) (Tr := TP) ⟨⟨F, G, a, b, c, d⟩, g⟩)
    clear a b c d g h0 e1
    go_enter Try.func32, Try.ntmps32; go_wp2_with fail
    refine hh.mono ?_; rintro e w' ⟨rfl, rfl⟩
    go_wp2_with fail; go_ret
    exact ⟨kp.ri e2.out.symm, by rw [e3.out, e4.out]; exact N.out⟩
theorem tundo_nil (h : Value) (n : Int) (w : World) : Calls Try.prog 32 #[.pointer none, h, .int .i64 n] w fun e w' => e = .returned (.int .i64 0) ∧ w = w' := by
  have hh := thas_nil n w
  go_enter Try.func32, Try.ntmps32; go_wp2_with fail
  refine hh.mono ?_; rintro e w' ⟨rfl, rfl⟩
  go_wp2_with fail; go_ret
  exact ⟨rfl, rfl⟩
end
end Go.Proofs.Ythableojkjhicaa.hp
