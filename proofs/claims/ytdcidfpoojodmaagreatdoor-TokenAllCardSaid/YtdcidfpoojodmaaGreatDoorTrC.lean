/- The reference's put. -/
import Derived.Test.YtdcidfpoojodmaaGreatDoorTrB
import Derived.Test.YtdcidfpoojodmaaGreatDoorTkF
import Derived.Deep.RegionLaw
namespace Go.Proofs.YtdcidfpoojodmaaGreatDoor.tr
open Go.ChangeShapes Go.WideShapes Go.ChangeAt Go.RowKit Go.Maps
open Go.Proofs.YtdcidfpoojodmaaGreatDoor.kp Go.Proofs.YtdcidfpoojodmaaGreatDoor.num Go.Proofs.YtdcidfpoojodmaaGreatDoor.dec Go.Proofs.YtdcidfpoojodmaaGreatDoor.tk
set_option linter.unusedVariables false
set_option linter.unusedSimpArgs false
def ZT : Value := .agg #[.int .i64 0, .string ⟨#[]⟩, .int .i64 0, .int .u64 0, .int .u64 0, .int .i64 0]
theorem info_t : ∃ i, Tryz.prog.info? 32 = some i ∧ i.zero = some ZT ∧ i.size = 6 ∧ i.bytes = 56 := by
  have h := infoT
  cases e : Tryz.prog.info? 32 with
  | none => rw [e] at h; cases h
  | some i => rw [e] at h; simp only [Option.map_some, Option.some.injEq, Prod.mk.injEq] at h; exact ⟨i, rfl, h.1, h.2.1, h.2.2⟩
theorem step_appT {w : World} {ops : Array Oper} {o : Oper} {a : Act} {K : Act → World → Prop} {Q : Exit → Act → World → Prop} {E : Prop} (hgd : o.guard = none) (s x : Operand)
    (ho : o.op = .call { callee := .builtin .append, args := #[s, x], argTypes := #[23, 23] })
    {B n : Nat} {v : Value} {xs : List Value} (hs : a.eval s = v) (hown : w.ownsRow B 32 6 v n xs) {ad : Addr} (news : List Value) (hx : a.eval x = .slice (some ad) 1 1) (hl : news.length = 1 * 6)
    (hsrc : ∀ j u, news[j]? = some u → w.cell? (ad.add j) = some u) (h1 : ∀ u ∈ news, u.oneCell' = true) (hnm : n + 1 ≤ 100000) (hB : B ≤ w.heap.size)
    (h : ∀ v' w', w'.ownsRow B 32 6 v' (n + 1) (xs ++ news) → w.grownBy w' v.ownBlock → K (a.put o.dst v') w') :
    if Region.wanted o (yielded ops a.tmps) = true then Oper.wp Tryz.prog o a w K Q else E := by
  have hw : Region.wanted o (yielded ops a.tmps) = true := by simp [Region.wanted, hgd]
  rw [if_pos hw]
  obtain ⟨i, hi1, hi2, hi3, hi4⟩ := info_t
  obtain ⟨v', w', hr, h2, h3, _, h4⟩ := run_append_own_at (P := Tryz.prog) w B 23 o.type 32 i ZT 6 56 Tryz.underlying23 hi1 hi2 hi3 hi4 rfl (by decide) v n xs hown ad 1 1 news hl hsrc h1 (by unfold maxLen; omega) (by omega) hB
  unfold Oper.wp
  simp [execOp, ho, resolve, invoke, builtin, hs, hx, hr, Result.andThen]
  exact h v' w' h2 h3
section
variable {w w' w0 : World} {p : Nat} {S l : List UInt8} {row : Value} {er : Int} {b : Bool} {ts : List Tk}
theorem tk_one (x : Tk) : ∀ u ∈ tkc x, u.oneCell' = true := by
  intro u hu
  simp only [tkc, List.mem_cons, List.mem_nil_iff, or_false] at hu
  rcases hu with rfl | rfl | rfl | rfl | rfl | rfl <;> rfl
set_option maxRecDepth 100000 in
set_option maxHeartbeats 8000000 in
theorem put_any (x : Tk) (h : LS p w0 (SN S l row er b) row ts w) (hp : p < w0.heap.size) (hz : w0.heap.size ≤ p + 1) (hl : ts.length ≤ 70000) :
    Calls Tryz.prog 40 #[.pointer (some ⟨p, 0, none⟩), .agg #[.int .i64 x.k, .string ⟨x.t.toArray⟩, .int .i64 x.n, .int .u64 (x.re : Int), .int .u64 (x.im : Int), .int .i64 (x.a : Int)]] w fun e w' => e = .returned (.tuple #[]) ∧ ∃ row', LS p w0 (SN S l row' er b) row' (ts ++ [x]) w' := by
  have hbx := kp.ba w (.cells (tkc x).toArray 32)
  have hA := kp.alloc_at w (.cells (tkc x).toArray 32)
  have h2 := h.below hbx
  obtain ⟨⟨c0, c1, c2, -⟩, -, f2, -⟩ := five' h2.1
  have hlt := Nw.lt h.1
  have H0 := Lib.hid (And.intro h2 (And.intro hp (And.intro hz hA)))
  have hlt2 : p < (w.alloc (.cells (tkc x).toArray 32)).heap.size := Nw.lt h2.1
  obtain ⟨⟨y0, y1, y2, y3, y4, y5⟩, -⟩ := six hA
  simp only [tkc] at c0 c1 c2 f2 y0 y1 y2 y3 y4 y5 hlt2
  clear h h2 hbx hA hp hz
  go_enter Tryz.func40, Tryz.ntmps40
  go_wp2_with fail
  obtain ⟨wB, hwB⟩ : ∃ wB, wB = w.alloc (.cells (tkc x).toArray 32) := ⟨_, rfl⟩
  have HB : Hid (LS p w0 (SN S l row er b) row ts wB ∧ p < w0.heap.size ∧ w0.heap.size ≤ p + 1) := Lib.hid (by rw [hwB]; exact ⟨H0.out.1, H0.out.2.1, H0.out.2.2.1⟩)
  simp only [tkc] at hwB
  rw [← hwB] at c0 c1 c2 f2 y0 y1 y2 y3 y4 y5 hlt2 ⊢
  have hHB := HB.out.1
  have hHD := HB.out.1.below (kp.bdr _)
  clear hwB H0 hlt c0 c1
  go_region_law (first
    | (refine step_appT rfl (.tmp 8) (.tmp 10) rfl rfl (show World.ownsRow (wB.alloc (.cells (tkc x).toArray 32)).drew (p + 1) 32 6 row ts.length (cellsT ts) from World.ownsRow.alloc hHB.2.1 _) (tkc x) rfl rfl (news6 wB (.int .i64 x.k) (.string ⟨x.t.toArray⟩) (.int .i64 x.n) (.int .u64 (x.re : Int)) (.int .u64 (x.im : Int)) (.int .i64 (x.a : Int)) 32) (tk_one x) (by omega) ?_ ?_
       rotate_left; intro v' w3 hown hgr
       obtain ⟨a9, c9, rfl⟩ := kp.shape hown
       have HL := Lib.hid (LS.push hHD HB.out.2.1 HB.out.2.2 x hown hgr)
       obtain ⟨⟨-, -, k2, -⟩, -, g2, -⟩ := five' HL.out.1
       have hl3 := Nw.lt HL.out.1
       clear hown hgr c2 f2 y0 y1 y2 y3 y4 y5 hHB hHD
       rotate_left; (have := HB.out.2; have := Nw.lt hHB.1; simp; omega)))
  all_goals
    go_wp2_with fail
    refine ⟨rfl, .tuple #[], results_none rfl _ _ _, rfl, ⟨_, HL.out.turn ?_⟩⟩
    have h9 := Nw.set HL.out.1 2 (.slice a9 (ts.length + 1) c9)
    first | (simpa using h9) | (have h8 := h9.trans (Nw.below h9.1 (kp.bdr _)); simpa using h8)
set_option maxRecDepth 100000 in
set_option maxHeartbeats 8000000 in
theorem name_any (k : Int) (t : List UInt8) (a : Nat) (h : LS p w0 (SN S l row er b) row ts w) (hp : p < w0.heap.size) (hz : w0.heap.size ≤ p + 1) (hl : ts.length ≤ 70000) (ht : t.length ≤ 70000) :
    Calls Tryz.prog 34 #[.pointer (some ⟨p, 0, none⟩), .int .i64 k, .string ⟨t.toArray⟩, .int .i64 (a : Int)] w fun e w' => e = .returned (.tuple #[]) ∧ ∃ row', LS p w0 (SN S l row' (if t.length ≤ 200 then er else 3) b) row' (ts ++ [⟨k, t, 0, 0, 0, a⟩]) w' := by
  by_cases h2 : t.length ≤ 200
  · rw [if_pos h2]
    have hd : decide (200 < (t.length : Int)) = false := decide_eq_false (by omega)
    have HP := Lib.hid (put_any ⟨k, t, 0, 0, 0, a⟩ h hp hz hl)
    clear h hp hz
    go_enter Tryz.func34, Tryz.ntmps34
    go_wp2_with fail
    refine HP.out.mono ?_
    rintro e w' ⟨rfl, hr⟩
    have HR := Lib.hid hr
    clear hr
    go_wp2_with fail
    exact ⟨rfl, .tuple #[], results_none rfl _ _ _, rfl, HR.out⟩
  · rw [if_neg h2]
    have hd : decide (200 < (t.length : Int)) = true := decide_eq_true (by omega)
    obtain ⟨⟨-, -, -, c3, -⟩, -, -, f3, -⟩ := five' h.1
    have hlt := Nw.lt h.1
    have h9 := h.turn (by simpa using Nw.set h.1 3 (.int .i64 3) : Nw p (SN S l row 3 b) w (w.setCell ⟨p, 3, none⟩ (.int .i64 3)))
    have HP := Lib.hid (put_any ⟨k, t, 0, 0, 0, a⟩ h9 hp hz hl)
    clear h hp hz h9
    go_enter Tryz.func34, Tryz.ntmps34
    go_wp2_with fail
    refine HP.out.mono ?_
    rintro e w' ⟨rfl, hr⟩
    have HR := Lib.hid hr
    clear hr
    go_wp2_with fail
    exact ⟨rfl, .tuple #[], results_none rfl _ _ _, rfl, HR.out⟩
end
end Go.Proofs.YtdcidfpoojodmaaGreatDoor.tr
