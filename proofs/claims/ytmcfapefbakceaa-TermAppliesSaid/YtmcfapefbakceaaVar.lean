/- Package term: Variant. -/
import Derived.Test.YtmcfapefbakceaaSame
namespace Go.Proofs.Ytmcfapefbakceaa.sme
set_option linter.unusedVariables false
open Go.ChangeShapes Go.WideShapes Go.ChangeAt Go.RowKit
open Go.Proofs.Ytmcfapefbakceaa.tm Go.Proofs.Ytmcfapefbakceaa.lie Go.Proofs.Ytmcfapefbakceaa.kp Go.Proofs.Ytmcfapefbakceaa.wlk Go.Proofs.Ytmcfapefbakceaa.cur Go.Proofs.Ytmcfapefbakceaa.mes Go.Proofs.Ytmcfapefbakceaa.vrs Go.Proofs.Ytmcfapefbakceaa.pla Go.Proofs.Ytmcfapefbakceaa.ren
/-- Variant's answer -/
def varB (a b : Tm) : Bool := sameB (renR a) (renR b)
set_option maxHeartbeats 1000000 in
theorem variant_any (a b : Tm) (va vb : Value) (w : World) (ha : Lies No w a va) (hb : Lies No w b vb) : Calls Try.prog 49 #[va, vb] w fun e w' => e = .returned (.bool (varB a b)) ∧ Below w.heap.size w w' := by
  have ha0 : Lies (fun k => w.heap.size ≤ k) w a va := ha.off fun b h1 h2 => absurd h1 (by omega)
  have hb0 : Lies (fun k => w.heap.size ≤ k) w b vb := hb.off fun b h1 h2 => absurd h1 (by omega)
  obtain ⟨A, hA⟩ : ∃ A, A = a := ⟨_, rfl⟩
  obtain ⟨B, hB⟩ : ∃ B, B = b := ⟨_, rfl⟩
  obtain ⟨k, n, i, re, im, l⟩ := a
  obtain ⟨k', n', i', re', im', l'⟩ := b
  rw [← hA, ← hB]
  rw [← hA] at ha0; rw [← hB] at hb0
  have HL := Lib.hid (And.intro ha0 hb0)
  rw [Lies] at ha hb
  obtain ⟨aa, c, rfl, hf, hr⟩ := ha
  obtain ⟨ab, c', rfl, hf', hr'⟩ := hb
  clear hf hr hf' hr' hA hB ha0 hb0
  have HX : Know w A B (.agg #[.int .i64 k, .string n, .int .i64 i, .int .u64 re, .int .u64 im, .slice aa l.length c]) (.agg #[.int .i64 k', .string n', .int .i64 i', .int .u64 re', .int .u64 im', .slice ab l'.length c']) (.cells #[.int .i64 k, .string n, .int .i64 i, .int .u64 re, .int .u64 im, .slice aa l.length c] 44) (.cells #[.int .i64 k', .string n', .int .i64 i', .int .u64 re', .int .u64 im', .slice ab l'.length c'] 44) ((w.alloc (.cells #[.int .i64 k, .string n, .int .i64 i, .int .u64 re, .int .u64 im, .slice aa l.length c] 44)).alloc (.cells #[.int .i64 k', .string n', .int .i64 i', .int .u64 re', .int .u64 im', .slice ab l'.length c'] 44)) := by
    obtain ⟨h1, h2, h3⟩ := two_box (br _)
    exact ⟨h1, h2, h3, HL.out.1.below h3, HL.out.2.below h3⟩
  have LL := Lib.hid (HX.below (bdr _))
  clear HX
  go_enter Try.func49, Try.ntmps49
  go_wp2_with fail
  obtain ⟨⟨e0, e1, e2, e3, e4, e5⟩, _⟩ := blk_facts LL.out.1
  obtain ⟨⟨f0, f1, f2, f3, f4, f5⟩, _⟩ := blk_facts LL.out.2.1
  go_region_with (first
    | (go_at_call_of 48 (Value.slice aa l.length c); refine (ren_any A _ _ ?_).mono ?_; exact LL.out.2.2.2.1.off fun _ _ h => h.elim; rintro e wN ⟨kq, nq, iq, req, imq, aq, lq, cq, rfl, hbN, hq⟩; have QA := Lib.hid (hq.off (Y := No) fun _ _ h => h.elim); (try have QB := Lib.hid (QB.out.below hbN)); have LL := Lib.hid (LL.out.below hbN); obtain ⟨⟨e0, e1, e2, e3, e4, e5⟩, _⟩ := blk_facts LL.out.1; obtain ⟨⟨f0, f1, f2, f3, f4, f5⟩, _⟩ := blk_facts LL.out.2.1; clear hbN hq)
    | (go_at_call_of 48 (Value.slice ab l'.length c'); refine (ren_any B _ _ ?_).mono ?_; exact LL.out.2.2.2.2.off fun _ _ h => h.elim; rintro e wN ⟨kq, nq, iq, req, imq, aq, lq, cq, rfl, hbN, hq⟩; have QB := Lib.hid (hq.off (Y := No) fun _ _ h => h.elim); (try have QA := Lib.hid (QA.out.below hbN)); have LL := Lib.hid (LL.out.below hbN); obtain ⟨⟨e0, e1, e2, e3, e4, e5⟩, _⟩ := blk_facts LL.out.1; obtain ⟨⟨f0, f1, f2, f3, f4, f5⟩, _⟩ := blk_facts LL.out.2.1; clear hbN hq)
    | (go_at_call 50; refine (same_any _ _ _ _ _ QA.out QB.out).mono ?_; rintro e wN ⟨rfl, hbN⟩; have LL := Lib.hid (LL.out.below hbN); clear hbN))
  all_goals go_wp2_with fail
  all_goals go_ret
  all_goals exact ⟨rfl, LL.out.2.2.1⟩
end Go.Proofs.Ytmcfapefbakceaa.sme
