/- The library's replacer: what Replace tells. -/
import Derived.Test.YtedbcmagjbgbjaaGreatDoorTkR
import Derived.Test.YtedbcmagjbgbjaaGreatDoorShelf
import Derived.Deep.CutBlock
namespace Go.Proofs.YtedbcmagjbgbjaaGreatDoor.tk
open Go.ChangeShapes Go.WideShapes Go.ChangeAt Go.RowKit Go.Maps
open Go.Proofs.YtedbcmagjbgbjaaGreatDoor.kp Go.Proofs.YtedbcmagjbgbjaaGreatDoor.num Go.Proofs.YtedbcmagjbgbjaaGreatDoor.dec
set_option linter.unusedVariables false
set_option maxRecDepth 100000 in
theorem neq_nil (w : World) : (binOp BinOp.neq 123 (.slice none 0 0) (.slice none 0 0)).run Tryz.prog w = .ok (.bool false) w := by
  kernel_rfl
set_option maxRecDepth 100000 in
theorem neq_some (a : Addr) (n c : Nat) (w : World) : (binOp BinOp.neq 123 (.slice (some a) n c) (.slice none 0 0)).run Tryz.prog w = .ok (.bool true) w := by
  kernel_rfl
/-- how many of the first k sorts -/
def cn (s : List UInt8) : Nat → Nat
  | 0 => 0
  | 1 => s.count 39
  | 2 => s.count 39 + s.count 10
  | _ => s.count 39 + s.count 10 + s.count 92
theorem cn_le (s : List UInt8) (k : Nat) : cn s k ≤ s.length := by
  have h := nsp_count s
  have h2 := nsp_le s
  match k with
  | 0 => exact Nat.zero_le _
  | 1 => show s.count 39 ≤ _; omega
  | 2 => show s.count 39 + s.count 10 ≤ _; omega
  | k + 3 => show s.count 39 + s.count 10 + s.count 92 ≤ _; omega
theorem cn_step (s : List UInt8) (k : Nat) (c : UInt8) (h : [39, 10, 92][k]? = some c) : cn s (k + 1) = cn s k + s.count c := by
  match k, h with
  | 0, h => simp at h; subst h; simp [cn]
  | 1, h => simp at h; subst h; simp [cn]
  | 2, h => simp at h; subst h; simp [cn]
  | k + 3, h => simp at h
theorem rpv_sp {G : RG} {c : UInt8} (h : spc c = true) : ∃ g cap x, rpv G c = .slice (some ⟨g, 0, none⟩) 2 cap ∧ qb c = [92, x] ∧ ∀ w rb, BR w rb G → w.cell? ⟨g, 0, none⟩ = some (bv 92) ∧ w.cell? ⟨g, 1, none⟩ = some (bv x) := by
  unfold spc at h
  by_cases h1 : c = 92
  · exact ⟨G.g1, G.c1, 92, by unfold rpv; rw [if_pos h1], by unfold qb; rw [if_pos h1], fun w rb b => b.a1⟩
  · by_cases h2 : c = 10
    · exact ⟨G.g2, G.c2, 110, by unfold rpv; rw [if_neg h1, if_pos h2], by unfold qb; rw [if_neg h1, if_pos h2], fun w rb b => b.a2⟩
    · have h3 : c = 39 := by simpa [h1, h2] using h
      exact ⟨G.g3, G.c3, 39, by unfold rpv; rw [if_neg h1, if_neg h2, if_pos h3], by unfold qb; rw [if_neg h1, if_neg h2, if_pos h3], fun w rb b => b.a3⟩
theorem rpv_no {G : RG} {c : UInt8} (h : spc c = false) : rpv G c = .slice none 0 0 := by
  unfold spc at h
  simp at h
  unfold rpv
  rw [if_neg h.1.1, if_neg h.1.2, if_neg h.2]
theorem cp_two (w : World) (b j n g cap : Nat) (v0 v1 : Value) (hj : j + 2 ≤ n) (h0 : w.cell? ⟨b, j, none⟩ = some (.int .u8 0) ∧ w.frozen? ⟨b, j, none⟩ = false) (h1 : w.cell? ⟨b, j + 1, none⟩ = some (.int .u8 0) ∧ w.frozen? ⟨b, j + 1, none⟩ = false)
    (hg : w.cell? ⟨g, 0, none⟩ = some v0 ∧ w.cell? ⟨g, 1, none⟩ = some v1) (o0 : v0.oneCell' = true) (o1 : v1.oneCell' = true) (ty : TypeId) :
    (Builtin.copy_ #[123, 123] ty #[.slice (some ⟨b, j, none⟩) (n - j) (n - j), .slice (some ⟨g, 0, none⟩) 2 cap]).run Tryz.prog w = .ok (goInt 2) ((w.setCell ⟨b, j, none⟩ v0).setCell ⟨b, j + 1, none⟩ v1) := by
  have h := run_copy_cells (P := Tryz.prog) w 123 123 ty 5 b j (n - j) (n - j) ⟨g, 0, none⟩ 2 cap [v0, v1] Tryz.underlying123 (by kernel_rfl) (by show 2 = Nat.min 2 (n - j); exact (Nat.min_eq_left (by omega)).symm)
    (fun i v hv => by
      match i, hv with
      | 0, hv => simp at hv; subst hv; simpa [Addr.add] using hg.1
      | 1, hv => simp at hv; subst hv; simpa [Addr.add] using hg.2)
    (fun i hi => by
      match i, hi with
      | 0, _ => rw [Nat.add_zero, h0.1]; rfl
      | 1, _ => rw [h1.1]; rfl)
    (fun i hi => by
      match i, hi with
      | 0, _ => rw [Nat.add_zero]; exact h0.2
      | 1, _ => exact h1.2)
    (fun v hv => by
      simp only [List.mem_cons, List.not_mem_nil, or_false] at hv
      rcases hv with h | h
      · rw [h]; exact o0
      · rw [h]; exact o1)
  rw [h]
  rfl
def RC (w0 : World) (s : List UInt8) (ns any i : Value) (wr : World) : Prop :=
  ∃ k n : Nat, k ≤ 3 ∧ i = .int .i64 k ∧ ns = .int .i64 ((s.length + cn s k : Nat) : Int) ∧ any = .bool (decide (0 < cn s k)) ∧ wr = w0.drewN n
def RB2 (w0 : World) (s : List UInt8) (ns any i : Value) (wr : World) : Prop :=
  ∃ k : Nat, k ≤ s.length ∧ i = .int .i64 k ∧ ns = .int .i64 ((s.length + nsp (s.take k) : Nat) : Int) ∧ any = .bool (decide (0 < nsp (s.take k))) ∧ wr = w0
def RB3 (w0 : World) (b n : Nat) (s : List UInt8) (j i : Value) (wr : World) : Prop :=
  ∃ k : Nat, k ≤ s.length ∧ i = .int .i64 k ∧ j = .int .i64 ((((s.take k).flatMap qb).length : Nat) : Int) ∧ Nw b (BF n ((s.take k).flatMap qb)) w0 wr
set_option maxRecDepth 100000 in
set_option maxHeartbeats 8000000 in
theorem br_any {w : World} {rb : Nat} {G : RG} (h : BR w rb G) (s : List UInt8) (hs : s.length ≤ 65536) :
    Calls Tryz.prog 275 #[.pointer (some ⟨rb, 0, none⟩), .string ⟨s.toArray⟩] w fun e w' => e = .returned (.string ⟨(s.flatMap qb).toArray⟩) ∧ Below w.heap.size w w' := by
  have HB := Lib.hid h
  have ht := h.tor
  clear h
  obtain ⟨d24, hd24⟩ : ∃ d24, decide ((24 : Int) ≤ (s.length : Int)) = d24 := ⟨_, rfl⟩
  have en1 := neq_nil
  have en2 := neq_some
  go_enter Tryz.func275, Tryz.ntmps275
  go_upto_if 26 with fail
  go_cut [5, 6] (fun s5 s6 wx => s5 = .int .i64 ((s.length + nsp s : Nat) : Int) ∧ s6 = .bool (decide (0 < nsp s)) ∧ ∃ n, wx = w.drewN n)
  case first =>
    cases d24 with
    | true =>
      have h24 : 24 ≤ s.length := by have := of_decide_eq_true hd24; omega
      clear hd24
      go_wp2_with fail
      go_loopw [5, 6, 32] (fun ns any i wr => RC w s ns any i wr) (fun _ _ i _ => 3 - (intOf i).toNat)
      case atStart => exact ⟨0, 0, by omega, rfl, rfl, rfl, rfl⟩
      case round =>
        obtain ⟨k, nn, hk, rfl, rfl, rfl, rfl⟩ := hrel
        have hB := HB.out.below (drewN_below w nn)
        obtain ⟨wr, hwr⟩ : ∃ wr, wr = w.drewN nn := ⟨_, rfl⟩
        rw [← hwr] at hB ⊢
        have HNN := Lib.hid hwr
        clear hwr
        rcases (show k = 0 ∨ k = 1 ∨ k = 2 ∨ k = 3 by omega) with rfl | rfl | rfl | rfl
        · -- the byte 39
          have hr0 := (hB.rep 39)
          have gk : ∀ h, (⟨#[39]⟩ : ByteArray)[0]'h = 39 := fun _ => rfl
          have hr : wr.cell? ⟨rb, 39, none⟩ = some (.slice (some ⟨G.g3, 0, none⟩) 2 G.c3) := hr0
          have ht : wr.cell? ⟨G.tg, 0, none⟩ = some (.string ⟨#[39]⟩) := hB.t0
          have HC := Lib.hid (cn_step s 0 39 rfl)
          have HB2 := Lib.hid hB
          clear hB hr0
          obtain ⟨q, hq⟩ : ∃ q, s.count 39 = q := ⟨_, rfl⟩
          have hql : q ≤ s.length := by rw [← hq]; exact List.count_le_length
          have hcl : cn s 0 ≤ s.length := cn_le s 0
          rw [hq] at HC
          have HQ := Lib.hid hq
          generalize cn s 0 = y at *
          clear hq
          by_cases h0 : q = 0
          · have h0' : ((q : Int) != 0) = false := by rw [h0]; rfl
            go_wp2_with fail
            refine (Tryz.strings_Count_one _ _ _).mono ?_; rintro e w' ⟨rfl, rfl⟩
            rw [show Lib.countByte (⟨s.toArray⟩ : ByteArray).data.toList 39 = q from HQ.out]
            go_wp2_with fail
            go_roundw
            case rel => exact ⟨0 + 1, nn, by omega, by first | rfl | go_num, by rw [HC.out, h0]; rfl, by rw [HC.out, h0]; rfl, HNN.out⟩
            case measure => simp [intOf]
          · have h0' : ((q : Int) != 0) = true := by rw [bne_iff_ne]; omega
            have HH0 := Lib.hid h0
            clear h0
            go_wp2_with fail
            refine (Tryz.strings_Count_one _ _ _).mono ?_; rintro e w' ⟨rfl, rfl⟩
            rw [show Lib.countByte (⟨s.toArray⟩ : ByteArray).data.toList 39 = q from HQ.out]
            go_wp2_with fail
            go_quiet (fail)
            go_wp2_with fail
            go_roundw
            case rel => exact ⟨0 + 1, nn + _, by omega, by first | rfl | go_num, by rw [HC.out]; simp; omega, by rw [HC.out]; have := HH0.out; simp; omega, by rw [HNN.out, World.drewN_drewN]⟩
            case measure => simp [intOf]

        · -- the byte 10
          have hr0 := (hB.rep 10)
          have gk : ∀ h, (⟨#[10]⟩ : ByteArray)[0]'h = 10 := fun _ => rfl
          have hr : wr.cell? ⟨rb, 10, none⟩ = some (.slice (some ⟨G.g2, 0, none⟩) 2 G.c2) := hr0
          have ht : wr.cell? ⟨G.tg, 1, none⟩ = some (.string ⟨#[10]⟩) := hB.t1
          have HC := Lib.hid (cn_step s 1 10 rfl)
          have HB2 := Lib.hid hB
          clear hB hr0
          obtain ⟨q, hq⟩ : ∃ q, s.count 10 = q := ⟨_, rfl⟩
          have hql : q ≤ s.length := by rw [← hq]; exact List.count_le_length
          have hcl : cn s 1 ≤ s.length := cn_le s 1
          rw [hq] at HC
          have HQ := Lib.hid hq
          generalize cn s 1 = y at *
          clear hq
          by_cases h0 : q = 0
          · have h0' : ((q : Int) != 0) = false := by rw [h0]; rfl
            go_wp2_with fail
            refine (Tryz.strings_Count_one _ _ _).mono ?_; rintro e w' ⟨rfl, rfl⟩
            rw [show Lib.countByte (⟨s.toArray⟩ : ByteArray).data.toList 10 = q from HQ.out]
            go_wp2_with fail
            go_roundw
            case rel => exact ⟨1 + 1, nn, by omega, by first | rfl | go_num, by rw [HC.out, h0]; rfl, by rw [HC.out, h0]; rfl, HNN.out⟩
            case measure => simp [intOf]
          · have h0' : ((q : Int) != 0) = true := by rw [bne_iff_ne]; omega
            have HH0 := Lib.hid h0
            clear h0
            go_wp2_with fail
            refine (Tryz.strings_Count_one _ _ _).mono ?_; rintro e w' ⟨rfl, rfl⟩
            rw [show Lib.countByte (⟨s.toArray⟩ : ByteArray).data.toList 10 = q from HQ.out]
            go_wp2_with fail
            go_quiet (fail)
            go_wp2_with fail
            go_roundw
            case rel => exact ⟨1 + 1, nn + _, by omega, by first | rfl | go_num, by rw [HC.out]; simp; omega, by rw [HC.out]; have := HH0.out; simp; omega, by rw [HNN.out, World.drewN_drewN]⟩
            case measure => simp [intOf]

        · -- the byte 92
          have hr0 := (hB.rep 92)
          have gk : ∀ h, (⟨#[92]⟩ : ByteArray)[0]'h = 92 := fun _ => rfl
          have hr : wr.cell? ⟨rb, 92, none⟩ = some (.slice (some ⟨G.g1, 0, none⟩) 2 G.c1) := hr0
          have ht : wr.cell? ⟨G.tg, 2, none⟩ = some (.string ⟨#[92]⟩) := hB.t2
          have HC := Lib.hid (cn_step s 2 92 rfl)
          have HB2 := Lib.hid hB
          clear hB hr0
          obtain ⟨q, hq⟩ : ∃ q, s.count 92 = q := ⟨_, rfl⟩
          have hql : q ≤ s.length := by rw [← hq]; exact List.count_le_length
          have hcl : cn s 2 ≤ s.length := cn_le s 2
          rw [hq] at HC
          have HQ := Lib.hid hq
          generalize cn s 2 = y at *
          clear hq
          by_cases h0 : q = 0
          · have h0' : ((q : Int) != 0) = false := by rw [h0]; rfl
            go_wp2_with fail
            refine (Tryz.strings_Count_one _ _ _).mono ?_; rintro e w' ⟨rfl, rfl⟩
            rw [show Lib.countByte (⟨s.toArray⟩ : ByteArray).data.toList 92 = q from HQ.out]
            go_wp2_with fail
            go_roundw
            case rel => exact ⟨2 + 1, nn, by omega, by first | rfl | go_num, by rw [HC.out, h0]; rfl, by rw [HC.out, h0]; rfl, HNN.out⟩
            case measure => simp [intOf]
          · have h0' : ((q : Int) != 0) = true := by rw [bne_iff_ne]; omega
            have HH0 := Lib.hid h0
            clear h0
            go_wp2_with fail
            refine (Tryz.strings_Count_one _ _ _).mono ?_; rintro e w' ⟨rfl, rfl⟩
            rw [show Lib.countByte (⟨s.toArray⟩ : ByteArray).data.toList 92 = q from HQ.out]
            go_wp2_with fail
            go_quiet (fail)
            go_wp2_with fail
            go_roundw
            case rel => exact ⟨2 + 1, nn + _, by omega, by first | rfl | go_num, by rw [HC.out]; simp; omega, by rw [HC.out]; have := HH0.out; simp; omega, by rw [HNN.out, World.drewN_drewN]⟩
            case measure => simp [intOf]

        · have HC := Lib.hid (show cn s 3 = nsp s by rw [nsp_count]; rfl)
          rw [HC.out]
          clear hB
          go_wp2_with fail
          go_meet
          case rel => exact ⟨rfl, rfl, nn, HNN.out⟩
    | false =>
      clear hd24
      go_wp2_with fail
      go_loopw [5, 6, 10] (fun ns any i wr => RB2 w s ns any i wr) (fun _ _ i _ => s.length - (intOf i).toNat)
      case atStart => exact ⟨0, by omega, rfl, rfl, rfl, rfl⟩
      case round =>
        obtain ⟨k, hk, rfl, rfl, rfl, rfl⟩ := hrel
        by_cases hlt : k < s.length
        · obtain ⟨x, hx1⟩ : ∃ x, s[k] = x := ⟨_, rfl⟩
          have hT := nsp_take hlt
          rw [hx1] at hT
          have gk : ∀ h, (⟨s.toArray⟩ : ByteArray)[k]'h = x := fun _ => hx1
          have hbx := bi_lt x
          have hr := HB.out.rep x
          have hnl := nsp_take_le s k
          have HT := Lib.hid hT
          clear hx1 hT
          generalize nsp (s.take k) = y at *
          cases hsp : spc x
          · rw [rpv_no hsp] at hr
            rw [hsp] at HT
            clear hsp
            go_wp2_with fail
            go_roundw
            case rel => exact ⟨k + 1, by omega, by go_num, by rw [HT.out]; rfl, by rw [HT.out]; rfl, rfl⟩
            case measure => simp [intOf]; omega
          · obtain ⟨g, cap, x2, hv, -, -⟩ := rpv_sp (G := G) hsp
            rw [hv] at hr
            rw [hsp] at HT
            clear hsp hv
            go_wp2_with fail
            go_roundw
            case rel => exact ⟨k + 1, by omega, by go_num, by rw [HT.out]; simp; omega, by rw [HT.out]; simp, rfl⟩
            case measure => simp [intOf]; omega
        · obtain rfl : k = s.length := by omega
          rw [List.take_length]
          go_wp2_with fail
          go_meet
          case rel => exact ⟨rfl, rfl, 0, rfl⟩
  case rest =>
    obtain ⟨rfl, rfl, nn, hwc⟩ := hcut
    have hB0 : BR wc rb G := by rw [hwc]; exact HB.out.below (drewN_below w nn)
    have B0 := Lib.hid (show Below w.heap.size w wc by rw [hwc]; exact drewN_below w nn)
    have HB0 := Lib.hid hB0
    clear hwc hB0
    by_cases h0 : nsp s = 0
    · have hq := Lib.hid (qs_plain h0)
      have hd : decide (0 < nsp s) = false := by rw [h0]; rfl
      rw [hd]
      clear hd h0
      go_wp2_with fail
      go_ret; exact ⟨by rw [hq.out]; rfl, B0.out⟩
    · have hd : decide (0 < nsp s) = true := decide_eq_true (by omega)
      rw [hd]
      obtain ⟨n, hn⟩ : ∃ n, s.length + nsp s = n := ⟨_, rfl⟩
      rw [hn]
      have hn2 : n ≤ 140000 := by have := nsp_le s; omega
      have HQL := Lib.hid ((qs_len s).trans hn)
      have hmk := mk_bytes n (by omega) wc
      obtain ⟨b1, hb1⟩ : ∃ b1, b1 = wc.heap.size := ⟨_, rfl⟩
      obtain ⟨w1, hw1⟩ : ∃ w1, w1 = wc.alloc (BF n []) := ⟨_, rfl⟩
      have NB1 := Lib.hid (show w1.heap[b1]? = some (BF n []) by rw [hw1, hb1]; exact alloc_at wc _)
      have HW1 := Lib.hid (And.intro hb1 hw1)
      clear hd h0 hb1 hw1 hn
      go_upto_region 22 with fail
      change Code.wp _ _ _ _ (wc.alloc (BF n []))
      rw [← HW1.out.1, ← HW1.out.2]
      clear hmk
      go_wp2_with fail
      go_loopw [13, 14] (fun j i wr => RB3 w1 b1 n s j i wr) (fun _ i _ => s.length - (intOf i).toNat)
      case atStart => exact ⟨0, by omega, rfl, rfl, Nw.same NB1.out⟩
      case round =>
        obtain ⟨k, hk, rfl, rfl, N⟩ := hrel
        have K1 : Keep (fun i => i = b1) wc wr := by
          have h1 := N.2
          rw [HW1.out.2] at h1
          exact (Keep.of_below (kp.ba wc _)).trans h1 fun _ => Or.inl
        have K1' := Lib.hid K1
        by_cases hlt : k < s.length
        · have hbr := HB0.out.keep K1 (fun i hi => by rw [hi, HW1.out.1]; exact Nat.le_refl _)
          obtain ⟨x, hx1⟩ : ∃ x, s[k] = x := ⟨_, rfl⟩
          have hT := qs_take hlt
          rw [hx1] at hT
          have gk : ∀ h, (⟨s.toArray⟩ : ByteArray)[k]'h = x := fun _ => hx1
          have hbx := bi_lt x
          have hr := hbr.rep x
          have hle := qs_take_le (l := s) (k := k + 1) (by omega)
          rw [hT, List.length_append, HQL.out] at hle
          have HT := Lib.hid hT
          have HN := Lib.hid N
          have HBR := Lib.hid hbr
          clear hx1 hT K1 hbr N
          generalize hq : (s.take k).flatMap qb = q at *
          clear hq
          cases hsp : spc x
          · have hqb := qb_plain hsp
            rw [hqb, List.length_singleton] at hle
            rw [hqb] at HT
            rw [rpv_no hsp] at hr
            obtain ⟨d0, f0⟩ := BF.cell HN.out.1 (j := q.length) (Nat.le_refl _) (by omega)
            have NS := Lib.hid (HN.out.trans (BF.step HN.out.1 (by omega) x))
            have hq9 : (q.length : Int) < 140000 := by omega
            clear hsp hqb
            go_wp2_with fail
            go_roundw
            case rel => exact ⟨k + 1, by omega, by go_num, by rw [HT.out]; simp, by rw [HT.out]; exact NS.out⟩
            case measure => simp [intOf]; omega
          · obtain ⟨g, cap, x2, hv, hqb, hcs⟩ := rpv_sp (G := G) hsp
            have hg := hcs _ _ HBR.out
            rw [hqb] at hle HT
            simp only [List.length_cons, List.length_nil] at hle
            rw [hv] at hr
            obtain ⟨d0, f0⟩ := BF.cell HN.out.1 (j := q.length) (Nat.le_refl _) (by omega)
            obtain ⟨d1, f1⟩ := BF.cell HN.out.1 (j := q.length + 1) (by omega) (by omega)
            have N1 := HN.out.trans (BF.step HN.out.1 (by omega) 92)
            have N2 := N1.trans (BF.step N1.1 (by simp; omega) x2)
            have NS := Lib.hid N2
            have hq9 : (q.length : Int) < 140000 := by omega
            have hcp := cp_two wr.drew b1 q.length n g cap (bv 92) (bv x2) (by omega) ⟨d0, f0⟩ ⟨d1, f1⟩ hg rfl rfl
            clear hsp hqb hv hcs N1 N2 d0 d1 f0 f1
            go_wp2_with fail
            go_region
            go_wp2_with fail
            refine ⟨⟨k + 1, by omega, by simp, by rw [HT.out]; simp, ?_⟩, by simp [intOf]; omega⟩
            rw [HT.out]
            have NS2 := NS.out
            rw [List.length_append, List.length_singleton, List.append_assoc] at NS2
            exact NS2.trans (Nw.below NS2.1 (kp.bdr _))
        · obtain rfl : k = s.length := by omega
          rw [List.take_length] at N ⊢
          have hcv := BF.conv N.1 HQL.out
          have HK := Lib.hid (B0.out.trans ((show Below wc.heap.size wc wr from K1.to_below (fun i hi => by rw [hi, HW1.out.1]; exact Nat.le_refl _) (Nat.le_refl _)).mono B0.out.size))
          clear N hlt K1
          go_wp2_with fail
          go_ret; exact ⟨rfl, HK.out⟩
end Go.Proofs.YtedbcmagjbgbjaaGreatDoor.tk
