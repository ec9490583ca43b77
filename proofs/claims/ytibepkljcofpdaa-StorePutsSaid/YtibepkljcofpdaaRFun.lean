/- The reference's Fun: is there a functor, its arguments too. -/
import Derived.Test.YtibepkljcofpdaaRHeap
import Derived.LoopTactic
import Derived.OwnWalk
namespace Go.Proofs.Ytibepkljcofpdaa.hp
open Go.ChangeShapes Go.WideShapes Go.ChangeAt Go.RowKit Go.Maps
open Go.Proofs.Ytibepkljcofpdaa.kp Go.Proofs.Ytibepkljcofpdaa.cel
set_option linter.unusedVariables false
/-- a functor's cell: is it one whose arguments are there -/
def fnk (l : List Int) (p : Int) : Bool := gb l p && decide (gv l p % 8 = 6) && decide (1 ≤ gv l p / 8 % 256) && decide (gv l p / 8 % 256 ≤ 20) && gb l (p + gv l p / 8 % 256)
def fna (l : List Int) (p : Int) : Int := if fnk l p = true then gv l p / 8 / 256 else 0
def fnn (l : List Int) (p : Int) : Int := if fnk l p = true then gv l p / 8 % 256 else 0
section
variable {w wr w' : World} {p : Nat} {F : Nat → Prop} {l : List Int} {m : Int}
theorem fn_no {l : List Int} {q : Int} (h : fnk l q = false) : Ending.returned (.tuple #[.int .i64 0, .int .i64 0, .bool false]) = .returned (.tuple #[.int .i64 (fna l q), .int .i64 (fnn l q), .bool (fnk l q)]) := by
  unfold fna fnn; rw [h]; rfl
theorem fn_yes {l : List Int} {q : Int} (h : fnk l q = true) : Ending.returned (.tuple #[.int .i64 (gv l q / 8 / 256), .int .i64 (gv l q / 8 % 256), .bool true]) = .returned (.tuple #[.int .i64 (fna l q), .int .i64 (fnn l q), .bool (fnk l q)]) := by
  unfold fna fnn; rw [h]; rfl
set_option maxRecDepth 100000 in
set_option maxHeartbeats 2000000 in
theorem rfun_any (h : Hp RH w p F l m) (c : Int) (hc : W64 c) : Calls Try.prog 75 #[.pointer (some ⟨p, 0, none⟩), .int .u64 c] w fun e w' => e = .returned (.tuple #[.int .i64 (fna l (c / 8)), .int .i64 (fnn l (c / 8)), .bool (fnk l (c / 8))]) ∧ ∃ n, w' = w.drewN n := by
  have hq : 0 ≤ c / 8 ∧ c / 8 < 2305843009213693952 := by have := hc.1; have := hc.2; omega
  obtain ⟨q, hqe⟩ : ∃ q, q = c / 8 := ⟨_, rfl⟩
  have hV := rvalue_any c w hc
  rw [← hqe] at hV hq ⊢
  have hI := fun n => rin_any (h.drewN n) q hq.1
  clear hqe hc
  by_cases hg : gb l q = true
  · obtain ⟨g, k, cp, rfl, c0, hk, hcell⟩ := at_slice h q hg
    have hx := gv_w h.wf (k : Int)
    have HG := Lib.hid hg
    have hle := h.len_le
    obtain ⟨x, hxe⟩ : ∃ x, x = gv l (k : Int) := ⟨_, rfl⟩
    rw [← hxe] at hx hcell
    have HX := Lib.hid hxe
    rw [hg] at hI
    have hT := fun n => Lib.hid (rtag_any x (w.drewN n) hx)
    have hI0 := hI 0
    by_cases h6 : x % 8 = 6
    · have hy : 0 ≤ x / 8 ∧ x / 8 < 2305843009213693952 := by have := hx.1; have := hx.2; omega
      have hVX := fun n => Lib.hid (rvalue_any x (w.drewN n) hx)
      have hT0 := rtag_any x w hx
      obtain ⟨y, hye⟩ : ∃ y, y = x / 8 := ⟨_, rfl⟩
      rw [← hye] at hy hVX
      have hand := and255 y ⟨by omega, by omega⟩
      obtain ⟨j, hje⟩ : ∃ j, j = y % 256 := ⟨_, rfl⟩
      rw [← hje] at hand
      have hjb : 0 ≤ j ∧ j < 256 := by omega
      have hsum : 0 ≤ (k : Int) + j := by omega
      have hIN := fun n => Lib.hid (rin_any (h.drewN n) ((k : Int) + j) hsum)
      have hdef : fnk l (k : Int) = (decide (1 ≤ j) && decide (j ≤ 20) && gb l ((k : Int) + j)) := by unfold fnk; rw [← hxe, HG.out, ← hye, ← hje]; simp [h6]
      have hgv : gv l (k : Int) / 8 / 256 = y / 256 ∧ gv l (k : Int) / 8 % 256 = j := ⟨by rw [← hxe, ← hye], by rw [← hxe, ← hye, ← hje]⟩
      have HD := Lib.hid hdef
      have HGV := Lib.hid hgv
      have HB := Lib.hid (And.intro hy hjb)
      rw [h6] at hT0
      clear hxe h6 hg hx h hT hye hje hdef hgv hy
      go_enter Try.func75, Try.ntmps75
      go_wp2_with fail
      refine hV.mono ?_; rintro e w' ⟨rfl, rfl⟩
      go_wp2_with fail
      refine hI0.mono ?_; rintro e w' ⟨rfl, rfl⟩
      go_wp2_with fail
      refine hT0.mono ?_; rintro e w' ⟨rfl, rfl⟩
      go_wp2_with fail
      go_quiet ((go_at_call 69; exact quiet_left (hVX _).out))
      have hIq := hIN nq
      clear hIN hVX hT0 hV hI0
      by_cases h1 : 1 ≤ j
      · by_cases h2 : j ≤ 20
        · have hI2 := hIq.out
          have hw64 : IntKind.u64.wrap j = j := by rw [IntKind.wrap_u64]; omega
          have hwk : IntKind.u64.wrap ((k : Int) + j) = (k : Int) + j := by rw [IntKind.wrap_u64]; omega
          by_cases h3 : gb l ((k : Int) + j) = true
          · have hyes := Lib.hid (show fnk l (k : Int) = true by rw [HD.out, h3]; simp [h1, h2])
            rw [h3] at hI2
            clear h3 hIq
            go_wp2_with fail
            refine hI2.mono ?_; rintro e w' ⟨rfl, rfl⟩
            go_wp2_with fail
            go_ret3
            have e := fn_yes hyes.out
            have hb := HB.out
            have hwy : wrap64 (y / 256) = y / 256 := w64_i _ ⟨by omega, by omega⟩
            rw [HGV.out.1, HGV.out.2, ← hwy] at e
            exact ⟨e, nq, rfl⟩
          · simp only [Bool.not_eq_true] at h3
            have hno := Lib.hid (fn_no (show fnk l (k : Int) = false by rw [HD.out, h3]; simp))
            rw [h3] at hI2
            clear h3 hIq
            go_wp2_with fail
            refine hI2.mono ?_; rintro e w' ⟨rfl, rfl⟩
            go_wp2_with fail
            go_ret3
            exact ⟨hno.out, nq, rfl⟩
        · have hno := Lib.hid (fn_no (show fnk l (k : Int) = false by rw [HD.out]; simp [h2]))
          clear hIq
          go_wp2_with fail
          go_ret3
          exact ⟨hno.out, nq, rfl⟩
      · have hno := Lib.hid (fn_no (show fnk l (k : Int) = false by rw [HD.out]; simp [h1]))
        clear hIq
        go_wp2_with fail
        go_ret3
        exact ⟨hno.out, nq, rfl⟩
    · have hno := Lib.hid (fn_no (l := l) (q := (k : Int)) (by unfold fnk; rw [← hxe, hg]; simp [h6]))
      have hb : (x % 8 != 6) = true := by simpa using h6
      have hT0 := rtag_any x w hx
      clear hxe h6 hg hx h hT
      go_enter Try.func75, Try.ntmps75
      go_wp2_with fail
      refine hV.mono ?_; rintro e w' ⟨rfl, rfl⟩
      go_wp2_with fail
      refine hI0.mono ?_; rintro e w' ⟨rfl, rfl⟩
      go_wp2_with fail
      refine hT0.mono ?_; rintro e w' ⟨rfl, rfl⟩
      go_wp2_with fail
      go_ret3
      exact ⟨hno.out, 0, rfl⟩
  · simp only [Bool.not_eq_true] at hg
    have hno := Lib.hid (fn_no (l := l) (q := q) (by unfold fnk; rw [hg]; rfl))
    rw [hg] at hI
    have hI0 := hI 0
    clear hg hI h
    go_enter Try.func75, Try.ntmps75
    go_wp2_with fail
    refine hV.mono ?_; rintro e w' ⟨rfl, rfl⟩
    go_wp2_with fail
    refine hI0.mono ?_; rintro e w' ⟨rfl, rfl⟩
    go_wp2_with fail
    go_ret3
    exact ⟨hno.out, 0, rfl⟩
end
end Go.Proofs.Ytibepkljcofpdaa.hp
