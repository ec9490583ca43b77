/- The reference's quote. -/
import Derived.Test.YtdcidfpoojodmaaGreatDoorTrB
import Derived.Test.YtdcidfpoojodmaaGreatDoorTkD
namespace Go.Proofs.YtdcidfpoojodmaaGreatDoor.tr
open Go.ChangeShapes Go.WideShapes Go.ChangeAt Go.RowKit Go.Maps
open Go.Proofs.YtdcidfpoojodmaaGreatDoor.kp Go.Proofs.YtdcidfpoojodmaaGreatDoor.num Go.Proofs.YtdcidfpoojodmaaGreatDoor.dec Go.Proofs.YtdcidfpoojodmaaGreatDoor.tk
set_option linter.unusedVariables false
set_option linter.unusedSimpArgs false
/-- the scan's block, and a row of bytes of one's own -/
def RB (p : Nat) (w0 : World) (o : Obj) (v : Value) (acc : List UInt8) (w : World) : Prop := Nw p o w0 w ∧ w.ownsRow w0.heap.size 5 1 v acc.length (acc.map bv)
section
variable {w w' w0 w1 w2 : World} {p : Nat} {S l acc : List UInt8} {row : Value} {er : Int} {b : Bool} {o o' : Obj} {v v' : Value}
theorem RB.turn (h : RB p w0 o v acc w) (hp : p < w0.heap.size) (N : Nw p o' w w') : RB p w0 o' v acc w' :=
  ⟨h.1.trans N, ow_keep h.2 fun i hi => by
    have h1 := h.2.lt i hi
    exact N.2.block i h1.2 (by omega)⟩
theorem RB.push (h : RB p w0 o v acc w) (hp : p < w0.heap.size) (c : UInt8) (hr : w2.ownsRow w0.heap.size 5 1 v' (acc.length + 1) (acc.map bv ++ [bv c])) (g2 : (w.alloc (.cells #[bv c] 5)).grownBy w2 v.ownBlock) : RB p w0 o v' (acc ++ [c]) w2 := by
  obtain ⟨a, ow⟩ := h
  have K : Keep (fun k => w0.heap.size ≤ k) w w2 := (Keep.of_below (kp.ba w _)).trans (Keep.of_grown (F := fun k => w0.heap.size ≤ k) g2 fun k e => (ow.lt k e.symm.symm).1) (fun _ => Or.inl)
  have hp' := Nw.lt a.1
  refine ⟨⟨(K.block p hp' (by omega)).trans a.1, a.2.trans K fun i hi => Or.inr (by omega)⟩, ?_⟩
  simpa using hr
theorem RB.conv (h : RB p w0 o v acc w) : (convert 75 9 v).run Tryz.prog w = .ok (.string ⟨acc.toArray⟩) w := by
  obtain ⟨hl, hr⟩ := h.2
  rcases hr with ⟨rfl, h0⟩ | ⟨g, cap, cur, rfl, hg0, hg, hc, hm, hs, hx⟩
  · obtain rfl : acc = [] := List.eq_nil_of_length_eq_zero h0
    exact run_convert_bytes_nil (w := w) _ _ Tryz.underlying75 Tryz.underlying5 _ _ _ Tryz.underlying9
  · refine run_convert_bytes_back (P := Tryz.prog) w 75 9 5 ⟨g, 0, none⟩ cap acc Tryz.underlying75 Tryz.underlying5 Tryz.underlying9 fun j hj => ?_
    have h3 := World.ownsRow.cellAt h.2 j (by omega)
    rw [show (⟨g, 0, none⟩ : Addr).add j = ⟨g, j, none⟩ from by simp [Addr.add]; omega, h3, List.getElem?_map, List.getElem?_eq_getElem hj]
    rfl
/-- what a quote's loop does with a byte, nx the next one (0, if there is none) -/
theorem qt_cases (c : UInt8) (r : List UInt8) : (c = 10 ∧ qt (c :: r) = none) ∨
    (c ≠ 10 ∧ c = 39 ∧ r.headD 0 = 39 ∧ qt (c :: r) = (qt r.tail).map fun x => (39 :: x.1, x.2)) ∨
    (c ≠ 10 ∧ c = 39 ∧ r.headD 0 ≠ 39 ∧ qt (c :: r) = some ([], r)) ∨
    (c ≠ 10 ∧ c ≠ 39 ∧ c = 92 ∧ (r.headD 0 = 92 ∨ r.headD 0 = 39) ∧ qt (c :: r) = (qt r.tail).map fun x => (r.headD 0 :: x.1, x.2)) ∨
    (c ≠ 10 ∧ c ≠ 39 ∧ c = 92 ∧ r.headD 0 ≠ 92 ∧ r.headD 0 ≠ 39 ∧ r.headD 0 = 110 ∧ qt (c :: r) = (qt r.tail).map fun x => (10 :: x.1, x.2)) ∨
    (c ≠ 10 ∧ c ≠ 39 ∧ c = 92 ∧ r.headD 0 ≠ 92 ∧ r.headD 0 ≠ 39 ∧ r.headD 0 ≠ 110 ∧ qt (c :: r) = none) ∨
    (c ≠ 10 ∧ c ≠ 39 ∧ c ≠ 92 ∧ qt (c :: r) = (qt r).map fun x => (c :: x.1, x.2)) := by
  rw [qt_cons]
  by_cases h1 : c = 10
  · exact Or.inl ⟨h1, by rw [if_pos h1]⟩
  rw [if_neg h1]
  by_cases h2 : c = 92
  · rw [if_pos h2]
    have h3 : c ≠ 39 := by rw [h2]; decide
    cases r with
    | nil => exact Or.inr (Or.inr (Or.inr (Or.inr (Or.inr (Or.inl ⟨h1, h3, h2, by simp, by simp, by simp, rfl⟩)))))
    | cons d r' =>
      simp only [List.headD_cons, List.tail_cons]
      by_cases h4 : d = 110
      · exact Or.inr (Or.inr (Or.inr (Or.inr (Or.inl ⟨h1, h3, h2, by rw [h4]; decide, by rw [h4]; decide, h4, by rw [if_pos h4]⟩))))
      · rw [if_neg h4]
        by_cases h5 : d = 92 ∨ d = 39
        · exact Or.inr (Or.inr (Or.inr (Or.inl ⟨h1, h3, h2, h5, by rw [if_pos h5]⟩)))
        · refine Or.inr (Or.inr (Or.inr (Or.inr (Or.inr (Or.inl ⟨h1, h3, h2, fun e => h5 (Or.inl e), fun e => h5 (Or.inr e), h4, by rw [if_neg h5]⟩)))))
  · rw [if_neg h2]
    by_cases h3 : c = 39
    · rw [if_pos h3]
      cases r with
      | nil => exact Or.inr (Or.inr (Or.inl ⟨h1, h3, by simp, rfl⟩))
      | cons d r' =>
        simp only [List.headD_cons, List.tail_cons]
        by_cases h5 : d = 39
        · exact Or.inr (Or.inl ⟨h1, h3, h5, by rw [if_pos h5]⟩)
        · exact Or.inr (Or.inr (Or.inl ⟨h1, h3, h5, by rw [if_neg h5]⟩))
    · rw [if_neg h3]
      exact Or.inr (Or.inr (Or.inr (Or.inr (Or.inr (Or.inr ⟨h1, h3, h2, rfl⟩)))))
def QE (p : Nat) (w : World) (S : List UInt8) (row : Value) (er : Int) (b : Bool) (R : Option (List UInt8 × List UInt8)) (e : Ending) (w' : World) : Prop :=
  e = .returned (.tuple #[.string ⟨(match R with | none => [] | some x => x.1).toArray⟩, .bool R.isSome]) ∧ ∃ l', l' <:+ S ∧ (∀ x, R = some x → l' = x.2) ∧ Nw p (SN S l' row er b) w w'
def RQ3 (p : Nat) (w0 : World) (S : List UInt8) (row : Value) (er : Int) (b : Bool) (R : Option (List UInt8 × List UInt8)) (g : Nat) (s4 : Value) (wr : World) : Prop :=
  ∃ l acc v, l <:+ S ∧ g = l.length ∧ acc.length + l.length ≤ 65537 ∧ pre acc (qt l) = R ∧ RB p w0 (SN S l row er b) v acc wr ∧ s4 = v
theorem nmw {K : World → Prop} {w : World} {A B C D} (hk : K w) (h : ∀ w', K w' → Code.wp A B C D w') : Code.wp A B C D w := h w hk
set_option maxRecDepth 100000 in
set_option maxHeartbeats 8000000 in
theorem rquote_any {c0 : UInt8} (h : w.heap[p]? = some (SN S (c0 :: l) row er b)) (hs : c0 :: l <:+ S) (hS : S.length ≤ 65537) (R : Option (List UInt8 × List UInt8)) (hR : qt l = R) :
    Calls Tryz.prog 39 #[.pointer (some ⟨p, 0, none⟩)] w fun e w' => QE p w S row er b R e w' := by
  obtain ⟨⟨c0', c1, -⟩, f1, -⟩ := five' h
  obtain ⟨i, e0, e1, hi, -⟩ := suf_at hs
  rw [e0] at c1
  have hp := Nw.lt h
  have N1 : Nw p (SN S l row er b) w (w.setCell ⟨p, 1, none⟩ (.int .i64 ((i : Int) + 1))) := by
    show Nw p (.cells #[.string ⟨S.toArray⟩, .int .i64 ((S.length - l.length : Nat) : Int), row, .int .i64 er, .bool b] 39 (0, 0)) w _
    rw [e1]; exact Nw.set h 1 _
  have H0 : Hid (l <:+ S ∧ pre [] (qt l) = R ∧ RB p w (SN S l row er b) (.slice none 0 0) [] (w.setCell ⟨p, 1, none⟩ (.int .i64 ((i : Int) + 1))) ∧ l.length ≤ 65537) :=
    Lib.hid ⟨suf_tail hs, by rw [← hR]; cases qt l <;> simp [pre], ⟨N1, World.ownsRow_nil _ _ _ _⟩, by have := hs.length_le; simp at this; omega⟩
  have hw1 : wrap64 ((i : Int) + 1) = ((i + 1 : Nat) : Int) := by unfold wrap64; omega
  clear h hs N1 e0 e1 hR
  go_enter Tryz.func39, Tryz.ntmps39
  go_wp2_with fail
  clear c0' c1 f1 hw1
  go_loopg [4] l.length (RQ3 p w S row er b R)
  case atStart => exact ⟨l, [], _, H0.out.1, rfl, by simpa using H0.out.2.2.2, H0.out.2.1, H0.out.2.2.1, rfl⟩
  case round =>
    obtain ⟨l', acc, v, hl', rfl, hlen, hR, hX, rfl⟩ := hrel
    clear H0
    obtain ⟨sa, sc, rfl⟩ := kp.shape hX.2
    obtain ⟨⟨c0, c1, -⟩, f1, -⟩ := five' hX.1.1
    have HX := Lib.hid (And.intro hX (And.intro hlen hR))
    clear hX hR hlen
    cases l' with
    | nil =>
      have e0 : S.length - ([] : List UInt8).length = S.length := by simp
      rw [e0] at c1
      have hd : decide ((S.length : Int) < S.length) = false := by simp
      have HS := Lib.hid hl'
      clear e0 f1 hl'
      go_wp2_with fail
      go_quiet (fail)
      go_wp2_with fail
      go_ret2
      exact ⟨by rw [← HX.out.2.2]; rfl, _, HS.out, by rw [← HX.out.2.2]; intro x hx; simp [pre, qt] at hx, HX.out.1.1.trans (Nw.drewN HX.out.1.1.1 _)⟩
    | cons c r =>
      obtain ⟨i, e0, e1, hi, hb⟩ := suf_at hl'
      rw [e0] at c1
      have hd : decide ((i : Int) < S.length) = true := decide_eq_true (by omega)
      have hw1 : wrap64 ((i : Int) + 1) = ((i + 1 : Nat) : Int) := by unfold wrap64; omega
      have hw2 : wrap64 ((i : Int) + 1 + 1) = ((i + 1 + 1 : Nat) : Int) := by unfold wrap64; omega
      have SET1 : Hid (∀ W : World, W.heap[p]? = some (SN S (c :: r) row er b) → Nw p (SN S r row er b) W (W.setCell ⟨p, 1, none⟩ (.int .i64 ((i : Int) + 1)))) := Lib.hid fun W hW => by
        show Nw p (.cells #[.string ⟨S.toArray⟩, .int .i64 ((S.length - r.length : Nat) : Int), row, .int .i64 er, .bool b] 39 (0, 0)) W _
        rw [e1]; exact Nw.set hW 1 _
      go_wp2_with fail
      go_quiet (fail)
      go_wp2_with fail
      go_quiet (fail)
      rcases r with _ | ⟨d, r'⟩
      · -- nil
        have hSi : S.length = i + 1 := by simpa using e1
        have hd2 : decide ((i : Int) + 1 < S.length) = false := decide_eq_false (by omega)
        have HS := Lib.hid (And.intro hl' (suf_tail hl'))
        clear hl'
        go_wp2_with fail
        go_quiet (fail)
        go_upto_region 10 with fail
        refine nmw (K := RB p w (SN S (c :: []) row er b) (.slice sa acc.length sc) (acc)) (by first | exact HX.out.1.turn hp (Nw.drewN HX.out.1.1.1 _) | (rw [World.drewN_drewN]; exact HX.out.1.turn hp (Nw.drewN HX.out.1.1.1 _)) | (rw [World.drewN_drewN, World.drewN_drewN]; exact HX.out.1.turn hp (Nw.drewN HX.out.1.1.1 _)) | (rw [World.drewN_drewN, World.drewN_drewN, World.drewN_drewN]; exact HX.out.1.turn hp (Nw.drewN HX.out.1.1.1 _))) (fun wB XB => ?_)
        have XH := Lib.hid XB
        clear XB
        clear c0 c1 f1 hd hd2 hb
        obtain ⟨⟨c0, c1, -⟩, f1, -⟩ := five' XH.out.1.1
        rw [e0] at c1
        have K := qt_cases c ([])
        rcases K with ⟨h1, hq⟩ | ⟨h1, h2, n1, hq⟩ | ⟨h1, h2, n1, hq⟩ | ⟨h1, h2, h3, n1, hq⟩ | ⟨h1, h2, h3, n1, n2, n3, hq⟩ | ⟨h1, h2, h3, n1, n2, n3, hq⟩ | ⟨h1, h2, h3, hq⟩
        · have HQ := Lib.hid hq
          clear hq
          have b10 : ((c.toNat : Int) == 10) = decide (c = 10) := beq_byte c 10 10 rfl
          have b39 : ((c.toNat : Int) == 39) = decide (c = 39) := beq_byte c 39 39 rfl
          have b92 : ((c.toNat : Int) == 92) = decide (c = 92) := beq_byte c 92 92 rfl
          rw [decide_eq_true h1] at b10
          clear b39 b92
          go_wp2_with fail
          go_ret2
          exact ⟨by rw [← HX.out.2.2, HQ.out]; rfl, _, HS.out.1, by rw [← HX.out.2.2, HQ.out]; intro x hx; simp [pre] at hx, XH.out.1⟩
        · exact absurd n1 (by decide)
        · have HQ := Lib.hid hq
          clear hq
          have b10 : ((c.toNat : Int) == 10) = decide (c = 10) := beq_byte c 10 10 rfl
          have b39 : ((c.toNat : Int) == 39) = decide (c = 39) := beq_byte c 39 39 rfl
          have b92 : ((c.toNat : Int) == 92) = decide (c = 92) := beq_byte c 92 92 rfl
          rw [decide_eq_false h1] at b10
          rw [decide_eq_true h2] at b39
          clear b92
          have hcv := RB.conv (XH.out.turn hp (SET1.out _ XH.out.1.1))
          go_wp2_with fail
          go_ret2
          refine ⟨by rw [← HX.out.2.2, HQ.out]; simp [pre], _, HS.out.2, by rw [← HX.out.2.2, HQ.out]; intro x hx; simp [pre] at hx; rw [← hx], ?_⟩
          exact XH.out.1.trans (SET1.out _ XH.out.1.1)
        · exact absurd n1 (by decide)
        · exact absurd n3 (by decide)
        · have HQ := Lib.hid hq
          clear hq
          have b10 : ((c.toNat : Int) == 10) = decide (c = 10) := beq_byte c 10 10 rfl
          have b39 : ((c.toNat : Int) == 39) = decide (c = 39) := beq_byte c 39 39 rfl
          have b92 : ((c.toNat : Int) == 92) = decide (c = 92) := beq_byte c 92 92 rfl
          rw [decide_eq_false h1] at b10
          rw [decide_eq_false h2] at b39
          rw [decide_eq_true h3] at b92
          go_wp2_with fail
          go_ret2
          exact ⟨by rw [← HX.out.2.2, HQ.out]; rfl, _, HS.out.1, by rw [← HX.out.2.2, HQ.out]; intro x hx; simp [pre] at hx, XH.out.1⟩
        · have HQ := Lib.hid hq
          clear hq
          have b10 : ((c.toNat : Int) == 10) = decide (c = 10) := beq_byte c 10 10 rfl
          have b39 : ((c.toNat : Int) == 39) = decide (c = 39) := beq_byte c 39 39 rfl
          have b92 : ((c.toNat : Int) == 92) = decide (c = 92) := beq_byte c 92 92 rfl
          rw [decide_eq_false h1] at b10
          rw [decide_eq_false h2] at b39
          rw [decide_eq_false h3] at b92
          obtain ⟨i0, hi', hz0, hz1, hz2⟩ := info_of infoU
          have HI := Lib.hid (And.intro hi' (And.intro hz0 (And.intro hz1 hz2)))
          have hrow := XH.out.2
          have hlen9 : acc.length ≤ 65537 := by have := HX.out.2.1; omega
          have PU := Lib.hid (fun v' w2 hr g2 => RB.push (v' := v') (w2 := w2) XH.out hp (c) hr g2)
          have hsz9 := XH.out.1.2.size
          have HRW := Lib.hid (hrow.alloc (.cells #[bv (c)] 5))
          have HBS := Lib.hid (show w.heap.size ≤ (wB.alloc (.cells #[bv (c)] 5)).heap.size by rw [alloc_size]; omega)
          clear hi' hz0 hz1 hz2 hrow hsz9 c0 c1 f1
          go_wp2_with (at_builtin; refine wpList_append_own_at _ rfl (.tmp 61) (.tmp 63) 75 rfl (w.heap.size) 5 i0 (.int .u8 0) 1 1 Tryz.underlying75 HI.out.1 HI.out.2.1 HI.out.2.2.1 HI.out.2.2.2 rfl (by decide) _ _ _ rfl HRW.out ⟨wB.heap.size, 0, none⟩ 1 1 [bv (c)] rfl rfl (one_new _ _ _) ?c2 ?b1 ?b2 ?b3 ?_)
          case c2 => intro u hu; simp at hu; subst hu; rfl
          case b1 => unfold maxLen; omega
          case b2 => omega
          case b3 => exact HBS.out
          intro v' w9 hr9 g9 _ _
          have X2 := PU.out v' w9 (by simpa using hr9) g9
          clear hr9 g9 PU HRW HI HBS XH
          have hXc := five' X2.1.1
          obtain ⟨⟨c0, c1, -⟩, f1, -⟩ := hXc
          rw [e0] at c1
          have XH := Lib.hid X2
          clear X2
          go_wp2_with fail
          go_roundg ([] : List UInt8).length
          case measure => simp
          case rel => exact ⟨_, acc ++ [c], v', HS.out.2, rfl, by have := HX.out.2.1; simp only [List.length_append, List.length_cons, List.length_nil] at this ⊢; omega, by rw [← HX.out.2.2, HQ.out, pre_cons], XH.out.turn hp (SET1.out _ XH.out.1.1), rfl⟩
      · -- d :: r'
        obtain ⟨i2, e0', e1', hi2, hb2⟩ := suf_at (suf_tail hl')
        have h12 : i2 = i + 1 := by rw [← e0', ← e1]
        subst h12
        have hd2 : decide ((i : Int) + 1 < S.length) = true := decide_eq_true (by omega)
        have SET2 : Hid (∀ W : World, W.heap[p]? = some (SN S (d :: r') row er b) → Nw p (SN S r' row er b) W (W.setCell ⟨p, 1, none⟩ (.int .i64 ((i : Int) + 1 + 1)))) := Lib.hid fun W hW => by
            show Nw p (.cells #[.string ⟨S.toArray⟩, .int .i64 ((S.length - r'.length : Nat) : Int), row, .int .i64 er, .bool b] 39 (0, 0)) W _
            rw [e1']; exact Nw.set hW 1 _
        have HS := Lib.hid (And.intro hl' (suf_tail hl'))
        clear hl'
        go_wp2_with fail
        go_quiet (fail)
        go_upto_region 8 with fail
        go_quiet (fail)
        go_upto_region 10 with fail
        refine nmw (K := RB p w (SN S (c :: d :: r') row er b) (.slice sa acc.length sc) (acc)) (by first | exact HX.out.1.turn hp (Nw.drewN HX.out.1.1.1 _) | (rw [World.drewN_drewN]; exact HX.out.1.turn hp (Nw.drewN HX.out.1.1.1 _)) | (rw [World.drewN_drewN, World.drewN_drewN]; exact HX.out.1.turn hp (Nw.drewN HX.out.1.1.1 _)) | (rw [World.drewN_drewN, World.drewN_drewN, World.drewN_drewN]; exact HX.out.1.turn hp (Nw.drewN HX.out.1.1.1 _))) (fun wB XB => ?_)
        have XH := Lib.hid XB
        clear XB
        clear c0 c1 f1 hd hd2 hb hb2
        obtain ⟨⟨c0, c1, -⟩, f1, -⟩ := five' XH.out.1.1
        rw [e0] at c1
        have K := qt_cases c (d :: r')
        simp only [List.headD_cons, List.tail_cons] at K
        rcases K with ⟨h1, hq⟩ | ⟨h1, h2, n1, hq⟩ | ⟨h1, h2, n1, hq⟩ | ⟨h1, h2, h3, n1, hq⟩ | ⟨h1, h2, h3, n1, n2, n3, hq⟩ | ⟨h1, h2, h3, n1, n2, n3, hq⟩ | ⟨h1, h2, h3, hq⟩
        · have HQ := Lib.hid hq
          clear hq
          have b10 : ((c.toNat : Int) == 10) = decide (c = 10) := beq_byte c 10 10 rfl
          have b39 : ((c.toNat : Int) == 39) = decide (c = 39) := beq_byte c 39 39 rfl
          have b92 : ((c.toNat : Int) == 92) = decide (c = 92) := beq_byte c 92 92 rfl
          rw [decide_eq_true h1] at b10
          clear b39 b92
          go_wp2_with fail
          go_ret2
          exact ⟨by rw [← HX.out.2.2, HQ.out]; rfl, _, HS.out.1, by rw [← HX.out.2.2, HQ.out]; intro x hx; simp [pre] at hx, XH.out.1⟩
        · have HQ := Lib.hid hq
          clear hq
          have b10 : ((c.toNat : Int) == 10) = decide (c = 10) := beq_byte c 10 10 rfl
          have b39 : ((c.toNat : Int) == 39) = decide (c = 39) := beq_byte c 39 39 rfl
          have b92 : ((c.toNat : Int) == 92) = decide (c = 92) := beq_byte c 92 92 rfl
          rw [decide_eq_false h1] at b10
          rw [decide_eq_true h2] at b39
          clear b92
          have m39 : ((d.toNat : Int) == 39) = decide (d = 39) := beq_byte d 39 39 rfl
          have m92 : ((d.toNat : Int) == 92) = decide (d = 92) := beq_byte d 92 92 rfl
          have m110 : ((d.toNat : Int) == 110) = decide (d = 110) := beq_byte d 110 110 rfl
          rw [decide_eq_true n1] at m39
          clear m92 m110
          obtain ⟨i0, hi', hz0, hz1, hz2⟩ := info_of infoU
          have HI := Lib.hid (And.intro hi' (And.intro hz0 (And.intro hz1 hz2)))
          have hrow := XH.out.2
          have hlen9 : acc.length ≤ 65537 := by have := HX.out.2.1; omega
          have PU := Lib.hid (fun v' w2 hr g2 => RB.push (v' := v') (w2 := w2) XH.out hp (39) hr g2)
          have hsz9 := XH.out.1.2.size
          have HRW := Lib.hid (hrow.alloc (.cells #[bv (39)] 5))
          have HBS := Lib.hid (show w.heap.size ≤ (wB.alloc (.cells #[bv (39)] 5)).heap.size by rw [alloc_size]; omega)
          clear hi' hz0 hz1 hz2 hrow hsz9 c0 c1 f1
          go_wp2_with (at_builtin; refine wpList_append_own_at _ rfl (.tmp 75) (.tmp 76) 75 rfl (w.heap.size) 5 i0 (.int .u8 0) 1 1 Tryz.underlying75 HI.out.1 HI.out.2.1 HI.out.2.2.1 HI.out.2.2.2 rfl (by decide) _ _ _ rfl HRW.out ⟨wB.heap.size, 0, none⟩ 1 1 [bv (39)] rfl rfl (one_new _ _ _) ?c2 ?b1 ?b2 ?b3 ?_)
          case c2 => intro u hu; simp at hu; subst hu; rfl
          case b1 => unfold maxLen; omega
          case b2 => omega
          case b3 => exact HBS.out
          intro v' w9 hr9 g9 _ _
          have X2 := PU.out v' w9 (by simpa using hr9) g9
          clear hr9 g9 PU HRW HI HBS XH
          have hXc := five' X2.1.1
          obtain ⟨⟨c0, c1, -⟩, f1, -⟩ := hXc
          rw [e0] at c1
          have XH := Lib.hid X2
          clear X2
          go_wp2_with fail
          go_roundg r'.length
          case measure => simp; omega
          case rel => exact ⟨r', acc ++ [39], v', suf_tail HS.out.2, rfl, by have := HX.out.2.1; simp only [List.length_append, List.length_cons, List.length_nil] at this ⊢; omega, by rw [← HX.out.2.2, HQ.out, pre_cons], (XH.out.turn hp (SET1.out _ XH.out.1.1)).turn hp (SET2.out _ (SET1.out _ XH.out.1.1).1), rfl⟩
        · have HQ := Lib.hid hq
          clear hq
          have b10 : ((c.toNat : Int) == 10) = decide (c = 10) := beq_byte c 10 10 rfl
          have b39 : ((c.toNat : Int) == 39) = decide (c = 39) := beq_byte c 39 39 rfl
          have b92 : ((c.toNat : Int) == 92) = decide (c = 92) := beq_byte c 92 92 rfl
          rw [decide_eq_false h1] at b10
          rw [decide_eq_true h2] at b39
          clear b92
          have m39 : ((d.toNat : Int) == 39) = decide (d = 39) := beq_byte d 39 39 rfl
          have m92 : ((d.toNat : Int) == 92) = decide (d = 92) := beq_byte d 92 92 rfl
          have m110 : ((d.toNat : Int) == 110) = decide (d = 110) := beq_byte d 110 110 rfl
          rw [decide_eq_false n1] at m39
          clear m92 m110
          have hcv := RB.conv (XH.out.turn hp (SET1.out _ XH.out.1.1))
          go_wp2_with fail
          go_ret2
          refine ⟨by rw [← HX.out.2.2, HQ.out]; simp [pre], _, HS.out.2, by rw [← HX.out.2.2, HQ.out]; intro x hx; simp [pre] at hx; rw [← hx], ?_⟩
          exact XH.out.1.trans (SET1.out _ XH.out.1.1)
        · have HQ := Lib.hid hq
          clear hq
          have b10 : ((c.toNat : Int) == 10) = decide (c = 10) := beq_byte c 10 10 rfl
          have b39 : ((c.toNat : Int) == 39) = decide (c = 39) := beq_byte c 39 39 rfl
          have b92 : ((c.toNat : Int) == 92) = decide (c = 92) := beq_byte c 92 92 rfl
          rw [decide_eq_false h1] at b10
          rw [decide_eq_false h2] at b39
          rw [decide_eq_true h3] at b92
          have m39 : ((d.toNat : Int) == 39) = decide (d = 39) := beq_byte d 39 39 rfl
          have m92 : ((d.toNat : Int) == 92) = decide (d = 92) := beq_byte d 92 92 rfl
          have m110 : ((d.toNat : Int) == 110) = decide (d = 110) := beq_byte d 110 110 rfl
          clear m110
          rcases n1 with n1 | n1
          · rw [decide_eq_true n1] at m92
            clear m39
            have HQ2 : Hid (qt (c :: d :: r') = (qt r').map fun x => (92 :: x.1, x.2)) := Lib.hid (by rw [HQ.out, n1])
            clear HQ
            have HQ := HQ2
            clear HQ2
            obtain ⟨i0, hi', hz0, hz1, hz2⟩ := info_of infoU
            have HI := Lib.hid (And.intro hi' (And.intro hz0 (And.intro hz1 hz2)))
            have hrow := XH.out.2
            have hlen9 : acc.length ≤ 65537 := by have := HX.out.2.1; omega
            have PU := Lib.hid (fun v' w2 hr g2 => RB.push (v' := v') (w2 := w2) XH.out hp (92) hr g2)
            have hsz9 := XH.out.1.2.size
            have HRW := Lib.hid (hrow.alloc (.cells #[bv (92)] 5))
            have HBS := Lib.hid (show w.heap.size ≤ (wB.alloc (.cells #[bv (92)] 5)).heap.size by rw [alloc_size]; omega)
            clear hi' hz0 hz1 hz2 hrow hsz9 c0 c1 f1
            go_wp2_with (at_builtin; refine wpList_append_own_at _ rfl (.tmp 108) (.tmp 110) 75 rfl (w.heap.size) 5 i0 (.int .u8 0) 1 1 Tryz.underlying75 HI.out.1 HI.out.2.1 HI.out.2.2.1 HI.out.2.2.2 rfl (by decide) _ _ _ rfl HRW.out ⟨wB.heap.size, 0, none⟩ 1 1 [bv (92)] rfl rfl (one_new _ _ _) ?c2 ?b1 ?b2 ?b3 ?_)
            case c2 => intro u hu; simp at hu; subst hu; rfl
            case b1 => unfold maxLen; omega
            case b2 => omega
            case b3 => exact HBS.out
            intro v' w9 hr9 g9 _ _
            have X2 := PU.out v' w9 (by simpa using hr9) g9
            clear hr9 g9 PU HRW HI HBS XH
            have hXc := five' X2.1.1
            obtain ⟨⟨c0, c1, -⟩, f1, -⟩ := hXc
            rw [e0] at c1
            have XH := Lib.hid X2
            clear X2
            go_wp2_with fail
            go_roundg r'.length
            case measure => simp; omega
            case rel => exact ⟨r', acc ++ [92], v', suf_tail HS.out.2, rfl, by have := HX.out.2.1; simp only [List.length_append, List.length_cons, List.length_nil] at this ⊢; omega, by rw [← HX.out.2.2, HQ.out, pre_cons], (XH.out.turn hp (SET1.out _ XH.out.1.1)).turn hp (SET2.out _ (SET1.out _ XH.out.1.1).1), rfl⟩
          · rw [decide_eq_true n1] at m39
            rw [decide_eq_false (by rw [n1]; decide)] at m92
            have HQ2 : Hid (qt (c :: d :: r') = (qt r').map fun x => (39 :: x.1, x.2)) := Lib.hid (by rw [HQ.out, n1])
            clear HQ
            have HQ := HQ2
            clear HQ2
            obtain ⟨i0, hi', hz0, hz1, hz2⟩ := info_of infoU
            have HI := Lib.hid (And.intro hi' (And.intro hz0 (And.intro hz1 hz2)))
            have hrow := XH.out.2
            have hlen9 : acc.length ≤ 65537 := by have := HX.out.2.1; omega
            have PU := Lib.hid (fun v' w2 hr g2 => RB.push (v' := v') (w2 := w2) XH.out hp (39) hr g2)
            have hsz9 := XH.out.1.2.size
            have HRW := Lib.hid (hrow.alloc (.cells #[bv (39)] 5))
            have HBS := Lib.hid (show w.heap.size ≤ (wB.alloc (.cells #[bv (39)] 5)).heap.size by rw [alloc_size]; omega)
            clear hi' hz0 hz1 hz2 hrow hsz9 c0 c1 f1
            go_wp2_with (at_builtin; refine wpList_append_own_at _ rfl (.tmp 108) (.tmp 110) 75 rfl (w.heap.size) 5 i0 (.int .u8 0) 1 1 Tryz.underlying75 HI.out.1 HI.out.2.1 HI.out.2.2.1 HI.out.2.2.2 rfl (by decide) _ _ _ rfl HRW.out ⟨wB.heap.size, 0, none⟩ 1 1 [bv (39)] rfl rfl (one_new _ _ _) ?c2 ?b1 ?b2 ?b3 ?_)
            case c2 => intro u hu; simp at hu; subst hu; rfl
            case b1 => unfold maxLen; omega
            case b2 => omega
            case b3 => exact HBS.out
            intro v' w9 hr9 g9 _ _
            have X2 := PU.out v' w9 (by simpa using hr9) g9
            clear hr9 g9 PU HRW HI HBS XH
            have hXc := five' X2.1.1
            obtain ⟨⟨c0, c1, -⟩, f1, -⟩ := hXc
            rw [e0] at c1
            have XH := Lib.hid X2
            clear X2
            go_wp2_with fail
            go_roundg r'.length
            case measure => simp; omega
            case rel => exact ⟨r', acc ++ [39], v', suf_tail HS.out.2, rfl, by have := HX.out.2.1; simp only [List.length_append, List.length_cons, List.length_nil] at this ⊢; omega, by rw [← HX.out.2.2, HQ.out, pre_cons], (XH.out.turn hp (SET1.out _ XH.out.1.1)).turn hp (SET2.out _ (SET1.out _ XH.out.1.1).1), rfl⟩
        · have HQ := Lib.hid hq
          clear hq
          have b10 : ((c.toNat : Int) == 10) = decide (c = 10) := beq_byte c 10 10 rfl
          have b39 : ((c.toNat : Int) == 39) = decide (c = 39) := beq_byte c 39 39 rfl
          have b92 : ((c.toNat : Int) == 92) = decide (c = 92) := beq_byte c 92 92 rfl
          rw [decide_eq_false h1] at b10
          rw [decide_eq_false h2] at b39
          rw [decide_eq_true h3] at b92
          have m39 : ((d.toNat : Int) == 39) = decide (d = 39) := beq_byte d 39 39 rfl
          have m92 : ((d.toNat : Int) == 92) = decide (d = 92) := beq_byte d 92 92 rfl
          have m110 : ((d.toNat : Int) == 110) = decide (d = 110) := beq_byte d 110 110 rfl
          rw [decide_eq_false n1] at m92
          rw [decide_eq_false n2] at m39
          rw [decide_eq_true n3] at m110
          obtain ⟨i0, hi', hz0, hz1, hz2⟩ := info_of infoU
          have HI := Lib.hid (And.intro hi' (And.intro hz0 (And.intro hz1 hz2)))
          have hrow := XH.out.2
          have hlen9 : acc.length ≤ 65537 := by have := HX.out.2.1; omega
          have PU := Lib.hid (fun v' w2 hr g2 => RB.push (v' := v') (w2 := w2) XH.out hp (10) hr g2)
          have hsz9 := XH.out.1.2.size
          have HRW := Lib.hid (hrow.alloc (.cells #[bv (10)] 5))
          have HBS := Lib.hid (show w.heap.size ≤ (wB.alloc (.cells #[bv (10)] 5)).heap.size by rw [alloc_size]; omega)
          clear hi' hz0 hz1 hz2 hrow hsz9 c0 c1 f1
          go_wp2_with (at_builtin; refine wpList_append_own_at _ rfl (.tmp 126) (.tmp 127) 75 rfl (w.heap.size) 5 i0 (.int .u8 0) 1 1 Tryz.underlying75 HI.out.1 HI.out.2.1 HI.out.2.2.1 HI.out.2.2.2 rfl (by decide) _ _ _ rfl HRW.out ⟨wB.heap.size, 0, none⟩ 1 1 [bv (10)] rfl rfl (one_new _ _ _) ?c2 ?b1 ?b2 ?b3 ?_)
          case c2 => intro u hu; simp at hu; subst hu; rfl
          case b1 => unfold maxLen; omega
          case b2 => omega
          case b3 => exact HBS.out
          intro v' w9 hr9 g9 _ _
          have X2 := PU.out v' w9 (by simpa using hr9) g9
          clear hr9 g9 PU HRW HI HBS XH
          have hXc := five' X2.1.1
          obtain ⟨⟨c0, c1, -⟩, f1, -⟩ := hXc
          rw [e0] at c1
          have XH := Lib.hid X2
          clear X2
          go_wp2_with fail
          go_roundg r'.length
          case measure => simp; omega
          case rel => exact ⟨r', acc ++ [10], v', suf_tail HS.out.2, rfl, by have := HX.out.2.1; simp only [List.length_append, List.length_cons, List.length_nil] at this ⊢; omega, by rw [← HX.out.2.2, HQ.out, pre_cons], (XH.out.turn hp (SET1.out _ XH.out.1.1)).turn hp (SET2.out _ (SET1.out _ XH.out.1.1).1), rfl⟩
        · have HQ := Lib.hid hq
          clear hq
          have b10 : ((c.toNat : Int) == 10) = decide (c = 10) := beq_byte c 10 10 rfl
          have b39 : ((c.toNat : Int) == 39) = decide (c = 39) := beq_byte c 39 39 rfl
          have b92 : ((c.toNat : Int) == 92) = decide (c = 92) := beq_byte c 92 92 rfl
          rw [decide_eq_false h1] at b10
          rw [decide_eq_false h2] at b39
          rw [decide_eq_true h3] at b92
          have m39 : ((d.toNat : Int) == 39) = decide (d = 39) := beq_byte d 39 39 rfl
          have m92 : ((d.toNat : Int) == 92) = decide (d = 92) := beq_byte d 92 92 rfl
          have m110 : ((d.toNat : Int) == 110) = decide (d = 110) := beq_byte d 110 110 rfl
          rw [decide_eq_false n1] at m92
          rw [decide_eq_false n2] at m39
          rw [decide_eq_false n3] at m110
          go_wp2_with fail
          go_ret2
          exact ⟨by rw [← HX.out.2.2, HQ.out]; rfl, _, HS.out.1, by rw [← HX.out.2.2, HQ.out]; intro x hx; simp [pre] at hx, XH.out.1⟩
        · have HQ := Lib.hid hq
          clear hq
          have b10 : ((c.toNat : Int) == 10) = decide (c = 10) := beq_byte c 10 10 rfl
          have b39 : ((c.toNat : Int) == 39) = decide (c = 39) := beq_byte c 39 39 rfl
          have b92 : ((c.toNat : Int) == 92) = decide (c = 92) := beq_byte c 92 92 rfl
          rw [decide_eq_false h1] at b10
          rw [decide_eq_false h2] at b39
          rw [decide_eq_false h3] at b92
          obtain ⟨i0, hi', hz0, hz1, hz2⟩ := info_of infoU
          have HI := Lib.hid (And.intro hi' (And.intro hz0 (And.intro hz1 hz2)))
          have hrow := XH.out.2
          have hlen9 : acc.length ≤ 65537 := by have := HX.out.2.1; omega
          have PU := Lib.hid (fun v' w2 hr g2 => RB.push (v' := v') (w2 := w2) XH.out hp (c) hr g2)
          have hsz9 := XH.out.1.2.size
          have HRW := Lib.hid (hrow.alloc (.cells #[bv (c)] 5))
          have HBS := Lib.hid (show w.heap.size ≤ (wB.alloc (.cells #[bv (c)] 5)).heap.size by rw [alloc_size]; omega)
          clear hi' hz0 hz1 hz2 hrow hsz9 c0 c1 f1
          go_wp2_with (at_builtin; refine wpList_append_own_at _ rfl (.tmp 61) (.tmp 63) 75 rfl (w.heap.size) 5 i0 (.int .u8 0) 1 1 Tryz.underlying75 HI.out.1 HI.out.2.1 HI.out.2.2.1 HI.out.2.2.2 rfl (by decide) _ _ _ rfl HRW.out ⟨wB.heap.size, 0, none⟩ 1 1 [bv (c)] rfl rfl (one_new _ _ _) ?c2 ?b1 ?b2 ?b3 ?_)
          case c2 => intro u hu; simp at hu; subst hu; rfl
          case b1 => unfold maxLen; omega
          case b2 => omega
          case b3 => exact HBS.out
          intro v' w9 hr9 g9 _ _
          have X2 := PU.out v' w9 (by simpa using hr9) g9
          clear hr9 g9 PU HRW HI HBS XH
          have hXc := five' X2.1.1
          obtain ⟨⟨c0, c1, -⟩, f1, -⟩ := hXc
          rw [e0] at c1
          have XH := Lib.hid X2
          clear X2
          go_wp2_with fail
          go_roundg (d :: r').length
          case measure => simp
          case rel => exact ⟨_, acc ++ [c], v', HS.out.2, rfl, by have := HX.out.2.1; simp only [List.length_append, List.length_cons, List.length_nil] at this ⊢; omega, by rw [← HX.out.2.2, HQ.out, pre_cons], XH.out.turn hp (SET1.out _ XH.out.1.1), rfl⟩
end
end Go.Proofs.YtdcidfpoojodmaaGreatDoor.tr
