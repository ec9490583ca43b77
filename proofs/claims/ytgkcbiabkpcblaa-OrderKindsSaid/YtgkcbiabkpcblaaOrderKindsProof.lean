/- The law OrderKinds holds: for every input its Go function returns true and leaves its arguments as they were. No condition beyond the row's own. -/
import Derived.Test.YtgkcbiabkpcblaaRows
import Derived.WalkKit
import Derived.ProofKit
import Derived.OpenShut
import Derived.SizedLaws
import Derived.Test.YtgkcbiabkpcblaaTOpen
import Derived.Test.YtgkcbiabkpcblaaLgt
import Derived.Test.YtgkcbiabkpcblaaOrW
import Derived.Deep.QuietTactic
import Derived.BigQuiet
namespace Go.Proofs.Ytgkcbiabkpcblaa.orderKinds
open Go.ChangeShapes Go.WideShapes Go.ChangeAt Go.RowKit
open Go.ChangeMaps (open_string)
open Go.Proofs.Ytgkcbiabkpcblaa.tm Go.Proofs.Ytgkcbiabkpcblaa.lie Go.Proofs.Ytgkcbiabkpcblaa.kp Go.Proofs.Ytgkcbiabkpcblaa.top
set_option linter.unusedVariables false
theorem own : ownKnob Try.prog.godebug = none := by kernel_rfl
theorem laidOut : laidOutB Try.prog = true := by kernel_rfl
open Go.Proofs.Ytgkcbiabkpcblaa.tm Go.Proofs.Ytgkcbiabkpcblaa.lie Go.Proofs.Ytgkcbiabkpcblaa.kp Go.Proofs.Ytgkcbiabkpcblaa.mes Go.Proofs.Ytgkcbiabkpcblaa.vrs Go.Proofs.Ytgkcbiabkpcblaa.awk Go.Proofs.Ytgkcbiabkpcblaa.lgt Go.Proofs.Ytgkcbiabkpcblaa.cur Go.Proofs.Ytgkcbiabkpcblaa.rws Go.Proofs.Ytgkcbiabkpcblaa.sme Go.Proofs.Ytgkcbiabkpcblaa.pla Go.Proofs.Ytgkcbiabkpcblaa.rmy Go.Proofs.Ytgkcbiabkpcblaa.rsm Go.Proofs.Ytgkcbiabkpcblaa.odm Go.Proofs.Ytgkcbiabkpcblaa.odc Go.Proofs.Ytgkcbiabkpcblaa.odd Go.Proofs.Ytgkcbiabkpcblaa.odw Go.Proofs.Ytgkcbiabkpcblaa.odb
theorem want_eq {A B : Tm} {x : Int} (ga : good A = true) (gb : good B = true) (hk : A.kind ≠ B.kind) (h : Go.Proofs.Ytgkcbiabkpcblaa.num.cw (rk A.kind) (rk B.kind) = x) : ordR A B = x := by
  unfold ordR; rw [if_pos ga, if_pos gb, ord_kind hk, h]
set_option linter.unusedSimpArgs false in
set_option maxRecDepth 100000 in
set_option maxHeartbeats 16000000 in
theorem walk (w : World) (v0 : Value) (t0 : Tm) (x0 : Lies No w t0 v0) (v1 : Value) (t1 : Tm) (x1 : Lies No w t1 v1) :
    Calls Try.prog 6 #[v0, v1] w fun e w' => e = .returned (.bool true) ∧ Below w.heap.size w w' := by
  obtain ⟨A, hA⟩ : ∃ A, A = t0 := ⟨_, rfl⟩
  obtain ⟨B, hB⟩ : ∃ B, B = t1 := ⟨_, rfl⟩
  obtain ⟨k, n, i, re, im, l⟩ := t0
  obtain ⟨k', n', i', re', im', l'⟩ := t1
  have HL := Lib.hid (And.intro (show Lies No w A v0 from hA ▸ x0) (show Lies No w B v1 from hB ▸ x1))
  have HAB := Lib.hid (And.intro hA hB)
  rw [Lies] at x0 x1
  obtain ⟨aa, ca, rfl, hf, hr⟩ := x0
  obtain ⟨ab, cb, rfl, hf', hr'⟩ := x1
  clear hf hr hf' hr' hA hB
  have LL := Lib.hid (TB.mk w #[.int .i64 k, .string n, .int .i64 i, .int .u64 re, .int .u64 im, .slice aa l.length ca] #[.int .i64 k', .string n', .int .i64 i', .int .u64 re', .int .u64 im', .slice ab l'.length cb])
  have h0 : ∀ b : Bool, (b != b) = false := by simp
  go_enter Try.func6, Try.ntmps6
  go_wp2_with fail
  refine (Light_any [A, B] (some ⟨w.heap.size + 1 + 1, 0, none⟩) 2 _ ?_ (by simp)).mono ?_
  · have h3 := LL.out.2.2
    have := row_new _ #[Value.int IntKind.i64 k, Value.string n, Value.int IntKind.i64 i, Value.int IntKind.u64 re, Value.int IntKind.u64 im, Value.slice aa l.length ca, Value.int IntKind.i64 k', Value.string n', Value.int IntKind.i64 i', Value.int IntKind.u64 re', Value.int IntKind.u64 im', Value.slice ab l'.length cb] [A, B] (fun m hm => by
      match m, hm with
      | 0, _ => exact ⟨_, _, _, _, _, _, rfl, rfl, rfl, rfl, rfl, rfl, HL.out.1.below h3⟩
      | 1, _ => exact ⟨_, _, _, _, _, _, rfl, rfl, rfl, rfl, rfl, rfl, HL.out.2.below h3⟩
      | m + 2, hm => exact absurd hm (by simp))
    simpa [alloc_size] using this
  rintro e w2 ⟨b, rfl, hb⟩
  have L2 := Lib.hid (LL.out.below (bt (ba _ _) hb))
  clear hb
  cases b
  · go_wp2_with fail
    refine (awake_any _).mono ?_; rintro e w3 ⟨rfl, hb⟩
    have HB3 := Lib.hid (L2.out.below hb)
    clear hb
    go_wp2_with fail
    go_ret
    exact ⟨rfl, HB3.out.2.2⟩
  obtain ⟨e0, e1, e2, e3, e4, e5, f0, f1, f2, f3, f4, f5⟩ := L2.out.cells
  cases hga : good A
  · have hne : (may A != 0) = true := by rw [bne_iff_ne]; have := may_nogood hga; omega
    clear hga
    go_wp2_with fail
    refine (rMay_any _ _ _ (HL.out.1.below L2.out.2.2)).mono ?_
    rintro e w3 ⟨rfl, hb⟩
    have L3 := Lib.hid (L2.out.below hb)
    clear hb e0 e1 e2 e3 e4 e5 f0 f1 f2 f3 f4 f5
    go_wp2_with fail
    refine (awake_any _).mono ?_; rintro e w4 ⟨rfl, hb⟩
    have HB3 := Lib.hid (L3.out.below hb)
    clear hb
    go_wp2_with fail
    go_ret
    exact ⟨rfl, HB3.out.2.2⟩
  have hna : (may A != 0) = false := by rw [bne_eq_false_iff_eq]; exact may_good hga
  have GA := Lib.hid hga
  clear hga
  go_wp2_with fail
  refine (rMay_any _ _ _ (HL.out.1.below L2.out.2.2)).mono ?_
  rintro e w3 ⟨rfl, hb⟩
  have L3 := Lib.hid (L2.out.below hb)
  clear hb e0 e1 e2 e3 e4 e5 f0 f1 f2 f3 f4 f5
  obtain ⟨e0, e1, e2, e3, e4, e5, f0, f1, f2, f3, f4, f5⟩ := L3.out.cells
  cases hgb : good B
  · have hne : (may B != 0) = true := by rw [bne_iff_ne]; have := may_nogood hgb; omega
    clear hgb
    go_wp2_with fail
    refine (rMay_any _ _ _ (HL.out.2.below L3.out.2.2)).mono ?_
    rintro e w4 ⟨rfl, hb⟩
    have L4 := Lib.hid (L3.out.below hb)
    clear hb e0 e1 e2 e3 e4 e5 f0 f1 f2 f3 f4 f5
    go_wp2_with fail
    refine (awake_any _).mono ?_; rintro e w5 ⟨rfl, hb⟩
    have HB3 := Lib.hid (L4.out.below hb)
    clear hb
    go_wp2_with fail
    go_ret
    exact ⟨rfl, HB3.out.2.2⟩
  have hnb : (may B != 0) = false := by rw [bne_eq_false_iff_eq]; exact may_good hgb
  have GB := Lib.hid hgb
  clear hgb
  go_wp2_with fail
  refine (rMay_any _ _ _ (HL.out.2.below L3.out.2.2)).mono ?_
  rintro e w4 ⟨rfl, hb⟩
  have L4 := Lib.hid (L3.out.below hb)
  clear hb e0 e1 e2 e3 e4 e5 f0 f1 f2 f3 f4 f5
  obtain ⟨e0, e1, e2, e3, e4, e5, f0, f1, f2, f3, f4, f5⟩ := L4.out.cells
  by_cases hkk : k = k'
  · have q : (k == k') = true := by rw [beq_iff_eq]; exact hkk
    clear hkk
    go_wp2_with fail
    refine (awake_any _).mono ?_; rintro e w5 ⟨rfl, hb⟩
    have HB3 := Lib.hid (L4.out.below hb)
    clear hb
    go_wp2_with fail
    go_ret
    exact ⟨rfl, HB3.out.2.2⟩
  have q : (k == k') = false := by rw [beq_eq_false_iff_ne]; exact hkk
  have hkA : A.kind = k := by rw [HAB.out.1]; rfl
  have hkB : B.kind = k' := by rw [HAB.out.2]; rfl
  have hk1 := Go.Proofs.Ytgkcbiabkpcblaa.tm.chk_kind (sound_chk (good_sound GA.out))
  have hk2 := Go.Proofs.Ytgkcbiabkpcblaa.tm.chk_kind (sound_chk (good_sound GB.out))
  rw [hkA] at hk1; rw [hkB] at hk2
  obtain ⟨x, hx⟩ : ∃ x, x = Go.Proofs.Ytgkcbiabkpcblaa.num.cw (rk k) (rk k') := ⟨_, rfl⟩
  have hw : ordR A B = x := want_eq GA.out GB.out (by rw [hkA, hkB]; exact hkk) (by rw [hkA, hkB]; exact hx.symm)
  have HW := Lib.hid hw
  have HX := Lib.hid hx
  clear hw hx hkk hkA hkB HAB
  rcases hk1 with rfl | rfl | rfl | rfl | rfl <;> rcases hk2 with rfl | rfl | rfl | rfl | rfl <;> first | (exact absurd q (by decide)) | skip
  all_goals
    clear q
    go_wp2_with fail
    obtain ⟨w5, hw5⟩ : ∃ w5, w5 = w4.alloc (.cells #[.int .i64 0, .int .i64 0, .int .i64 3, .int .i64 2, .int .i64 1, .int .i64 4] 37) := ⟨_, rfl⟩
    have l5 := L4.out.below (ba w4 (.cells #[.int .i64 0, .int .i64 0, .int .i64 3, .int .i64 2, .int .i64 1, .int .i64 4] 37))
    rw [← hw5] at l5
    have har : w5.heap[w4.heap.size]? = some (.cells #[.int .i64 0, .int .i64 0, .int .i64 3, .int .i64 2, .int .i64 1, .int .i64 4] 37) := by rw [hw5]; exact alloc_at _ _
    have a1 : w5.cell? ⟨w4.heap.size, 1, none⟩ = some (.int .i64 0) := by simp [World.cell?, har]
    have a2 : w5.cell? ⟨w4.heap.size, 2, none⟩ = some (.int .i64 3) := by simp [World.cell?, har]
    have a3 : w5.cell? ⟨w4.heap.size, 3, none⟩ = some (.int .i64 2) := by simp [World.cell?, har]
    have a4 : w5.cell? ⟨w4.heap.size, 4, none⟩ = some (.int .i64 1) := by simp [World.cell?, har]
    have a5 : w5.cell? ⟨w4.heap.size, 5, none⟩ = some (.int .i64 4) := by simp [World.cell?, har]
    rw [← hw5]
    clear hw5 har e0 e1 e2 e3 e4 e5 f0 f1 f2 f3 f4 f5
    obtain ⟨e0, e1, e2, e3, e4, e5, f0, f1, f2, f3, f4, f5⟩ := l5.cells
    have L5' := Lib.hid l5
    clear l5
    go_quiet (fail)
    have L5 := Lib.hid (L5'.out.below (Go.Proofs.Ytgkcbiabkpcblaa.odb.below_drewN _ nq))
    first
      | (have hx : x = -1 := HX.out.trans (by decide)
         rw [hx] at HW
         clear HX hx)
      | (have hx : x = 1 := HX.out.trans (by decide)
         rw [hx] at HW
         clear HX hx)
    go_wp2_with fail
    refine (order_any _ _ _ _ _ (HL.out.1.below L5.out.2.2) (HL.out.2.below L5.out.2.2)).mono ?_
    rintro e w6 ⟨rfl, hb6⟩
    rw [HW.out]
    have L6 := Lib.hid (L5.out.below hb6)
    clear hb6 e0 e1 e2 e3 e4 e5 f0 f1 f2 f3 f4 f5
    go_wp2_with fail
    refine (awake_any _).mono ?_; rintro e w7 ⟨rfl, hb⟩
    have HB3 := Lib.hid (L6.out.below hb)
    clear hb
    go_wp2_with fail
    go_ret
    exact ⟨rfl, HB3.out.2.2⟩
set_option maxRecDepth 100000 in
theorem lifted (os : Os) (started : os.Started) (H : Type) (enc : TypeId × Value → H) :
    ReturnsInHanded {} Try.checked os 6 .any (Rows.orderKindsSpec.pre6 enc Try.prog Try.f6 Rows.orderKindsRow.domain false) (Rows.orderKindsSpec.post enc Try.prog Try.f6 false true false false) := by
  refine returnsInHanded_of_change_sized (C := Try.checked) own started (by kernel_rfl) Try.func6
    (ChangeSpec.witness6 (enc := enc) (C := Try.checked) false ⟨#[], #[.agg #[.int .i64 0, .string ⟨#[]⟩, .int .i64 0, .int .u64 0, .int .u64 0, .slice none 0 0], .agg #[.int .i64 0, .string ⟨#[]⟩, .int .i64 0, .int .u64 0, .int .u64 0, .slice none 0 0]], []⟩ 8 (by kernel_rfl) (by kernel_rfl) (by kernel_rfl) (by kernel_rfl)) ?_
  intro W base args ds gs before hval0 hW _ hsz0 _
  have hsz : (DataW.weightsEach Try.prog (Try.f6.params.toList ++ Rows.orderKindsSpec.plain.varTypes Try.prog) (ds ++ gs)).all (· ≤ reachBytes) = true := hsz0
  clear hsz0
  have hval : ∀ (j : Nat) t v, Try.f6.params[j]? = some t → args[j]? = some v → Value.okWide Try.prog W .any base t v := hval0
  have hW' := hW
  obtain ⟨p, q, hA0, hV, rfl, hfz, hnd⟩ := hW
  have hA : DataW.TrodAll enc Try.prog W 0 (fun _ => true) true Try.f6.params.toList args.toList ds p := hA0
  rw [Try.params6] at hA hval hsz
  obtain ⟨v0, vs0, d0, ds0, p0, q0, hargs, rfl, rfl, h0, r0⟩ := trodAll_cons hA
  obtain ⟨v1, vs1, d1, ds1, p1, q1, rfl, rfl, rfl, h1, r1⟩ := trodAll_cons r0
  obtain ⟨rfl, rfl, rfl⟩ := trodAll_nil r1
  obtain rfl : args = #[v0, v1] := by cases args; simp_all
  obtain ⟨rfl, rfl⟩ := trodVars_none hV
  simp only [List.append_nil] at hW'
  have lt0 : ∀ x ∈ p0, x.block < W.heap.size := fun x hx => by
    have := hW'.lt x (by simp [hx])
    simpa using this
  have k0 := h0
  have lt1 : ∀ x ∈ p1, x.block < W.heap.size := fun x hx => by
    have := hW'.lt x (by simp [hx])
    simpa using this
  have k1 := h1
  obtain ⟨t0, x0⟩ := term_arg (by obtain ⟨cs, hcs, _⟩ := okWide_struct Try.underlying25 (hval 0 25 v0 rfl rfl); exact ⟨cs, hcs⟩) h0
  obtain ⟨t1, x1⟩ := term_arg (by obtain ⟨cs, hcs, _⟩ := okWide_struct Try.underlying25 (hval 1 25 v1 rfl rfl); exact ⟨cs, hcs⟩) h1
  clear hA0 hval0
  refine (walk W v0 t0 x0 v1 t1 x1).mono fun e W' ⟨he, hg⟩ => ?_
  subst he
  have ha := (trodAll_cons_mk (Below.trod laidOut (by kernel_rfl) (of_decide_eq_true (by kernel_rfl)) k0 hg lt0) (trodAll_cons_mk (Below.trod laidOut (by kernel_rfl) (of_decide_eq_true (by kernel_rfl)) k1 hg lt1) trodAll_mk0))
  refine ⟨_, rfl, _, _, _, [], _, [], hW', ?_, ha, rfl, hg.frame _, fun h => by cases h⟩
  exact (trodAll_cons_mk (shut_bool Try.underlying4 _) trodAll_mk0)
/-- THE STATEMENT. -/
theorem proved : Rows.OrderKindsSaid :=
  OpenClaim.holds_of_wide 6 Try.f6 rfl rfl rfl rfl rfl rfl rfl ⟨rfl, rfl, rfl, rfl, rfl⟩ rfl rfl rfl rfl rfl (by kernel_rfl) Try.func6 (by kernel_rfl)
    (of_decide_eq_true (by kernel_rfl)) (by unfold Func.isWrapper; first | (rw [if_pos (by decide +kernel)]; kernel_rfl) | (rw [if_neg (by decide +kernel)]; exact ⟨rfl, rfl⟩))
    (fun os started H enc _ => lifted os started H enc)
#print axioms proved
end Go.Proofs.Ytgkcbiabkpcblaa.orderKinds
