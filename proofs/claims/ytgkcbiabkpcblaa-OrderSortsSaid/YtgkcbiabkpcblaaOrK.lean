/- The reference's SameTerms, of the same good terms. -/
import Derived.Test.YtgkcbiabkpcblaaOrJ
namespace Go.Proofs.Ytgkcbiabkpcblaa.odk
open Go.ChangeShapes Go.WideShapes Go.ChangeAt Go.RowKit
set_option linter.unusedVariables false
open Go.Proofs.Ytgkcbiabkpcblaa.tm Go.Proofs.Ytgkcbiabkpcblaa.lie Go.Proofs.Ytgkcbiabkpcblaa.kp Go.Proofs.Ytgkcbiabkpcblaa.cur Go.Proofs.Ytgkcbiabkpcblaa.rws Go.Proofs.Ytgkcbiabkpcblaa.pla Go.Proofs.Ytgkcbiabkpcblaa.wlk Go.Proofs.Ytgkcbiabkpcblaa.pln Go.Proofs.Ytgkcbiabkpcblaa.rsm Go.Proofs.Ytgkcbiabkpcblaa.sme Go.Proofs.Ytgkcbiabkpcblaa.rmy
def SRel (W : World) (N : Nat) (g : Nat) (i : Value) (wr : World) : Prop := ∃ k : Nat, k ≤ N ∧ g = N - k ∧ i = .int .i64 k ∧ Below W.heap.size W wr
set_option maxRecDepth 100000 in
set_option maxHeartbeats 1000000 in
theorem rsameT_any (L : List Tm) (a a' : Option Addr) (c c' : Nat) (w : World) (hr : TRow No w L a 0) (hr' : TRow No w L a' 0) (hL : L.length ≤ 2000) (hgd : ∀ x ∈ L, good x = true) : Calls Try.prog 14 #[.slice a L.length c, .slice a' L.length c'] w fun e w' => e = .returned (.bool true) ∧ Below w.heap.size w w' := by
  have HR := Lib.hid (And.intro hr (And.intro hr' hgd))
  obtain ⟨N, hN⟩ : ∃ N, N = L.length := ⟨_, rfl⟩
  have HN := Lib.hid hN
  rw [← hN] at hL ⊢
  clear hr hr' hgd hN
  go_enter Try.func14, Try.ntmps14
  go_wp2_with fail
  go_loopg [5, 13] N (fun g _ i wr => SRel w N g i wr)
  case atStart => exact ⟨0, by omega, by omega, rfl, br _⟩
  case round =>
    obtain ⟨kk, hk, hgk, rfl, hb⟩ := hrel
    by_cases hlt : kk < N
    · have hlt' : kk < L.length := by rw [← HN.out]; exact hlt
      obtain ⟨b1, o1, v0, v1, v2, v3, v4, v5, _, _, h6, hlx, hix⟩ := HR.out.1.look hlt'
      obtain ⟨b2, o2, u0, u1, u2, u3, u4, u5, _, _, h62, hlx2, hix2⟩ := HR.out.2.1.look hlt'
      have h6' := h6.keep (X := No) (Keep.of_below hb) id
      have h62' := h62.keep (X := No) (Keep.of_below hb) id
      have hix' := hix c
      have hix2' := hix2 c'
      rw [← HN.out] at hix' hix2'
      obtain ⟨kq, nq, iq, req, imq, lq, aq, cq, hv, _⟩ := lies_form hlx
      obtain ⟨rfl, rfl, rfl, rfl, rfl, rfl⟩ := hv
      obtain ⟨kp, np, ip, rp, mp, lp, ap, cp, hv, _⟩ := lies_form hlx2
      obtain ⟨rfl, rfl, rfl, rfl, rfl, rfl⟩ := hv
      obtain ⟨e0, e1, e2, e3, e4, e5⟩ := h6'
      obtain ⟨f0, f1, f2, f3, f4, f5⟩ := h62'
      have hgx := HR.out.2.2 _ (List.getElem_mem hlt')
      have hkd : (L[kk]).kind ≠ 0 := by
        have := Go.Proofs.Ytgkcbiabkpcblaa.tm.chk_kind (sound_chk (good_sound hgx)); omega
      have hsm : sameB L[kk] L[kk] = true := by rw [sameB_refl]; exact hgx
      have HX := Lib.hid (And.intro (hlx.below hb) (And.intro (hlx2.below hb) (And.intro hb (And.intro hsm hkd))))
      clear h6 h62 hlx hlx2 hix hix2 hb hgx hsm hkd
      go_wp2_with fail
      go_still_tail 8, (by kernel_rfl)
      change wpList _ _ _ _ _ wr.drew
      obtain ⟨wd, hwd⟩ : ∃ wd, wd = wr.drew := ⟨_, rfl⟩
      have hd : ∀ p, wr.cell? p = wd.cell? p := by intro p; rw [hwd]; rfl
      have hbd : Below wr.heap.size wr wd := by rw [hwd]; exact bdr wr
      have HD := Lib.hid hbd
      rw [← hwd]
      rw [hd] at e0 e1 e2 e3 e4 e5 f0 f1 f2 f3 f4 f5
      clear hwd hd hbd
      go_wp2_with fail
      refine (requal_k _ _ _ _ _ (HX.out.1.below HD.out) (HX.out.2.1.below HD.out) HX.out.2.2.2.2 HX.out.2.2.2.2).mono ?_
      rintro e w7 ⟨rfl, hb7⟩
      rw [HX.out.2.2.2.1]
      have HB7 := Lib.hid ((HX.out.2.2.1.trans (HD.out.mono HX.out.2.2.1.size)).trans (hb7.mono (by have := HD.out.size; have := HX.out.2.2.1.size; omega)))
      clear hb7 e0 e1 e2 e3 e4 e5 f0 f1 f2 f3 f4 f5
      go_wp2_with fail
      go_roundg (N - (kk + 1))
      case measure => omega
      case rel => exact ⟨kk + 1, by omega, rfl, by go_num, HB7.out⟩
    · have HB := Lib.hid hb
      clear hb
      go_wp2_with fail
      go_ret
      exact ⟨rfl, HB.out⟩
end Go.Proofs.Ytgkcbiabkpcblaa.odk
