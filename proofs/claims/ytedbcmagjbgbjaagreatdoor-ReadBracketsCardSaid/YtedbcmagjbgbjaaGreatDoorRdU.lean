/- The project's reader: begins; first, whatever it begins with. -/
import Derived.Test.YtedbcmagjbgbjaaGreatDoorRdR
import Derived.Test.YtedbcmagjbgbjaaGreatDoorRdS
import Derived.Test.YtedbcmagjbgbjaaGreatDoorRdJ
namespace Go.Proofs.YtedbcmagjbgbjaaGreatDoor.rd
open Go.ChangeShapes Go.WideShapes Go.ChangeAt Go.RowKit Go.Maps
open Go.Proofs.YtedbcmagjbgbjaaGreatDoor.kp Go.Proofs.YtedbcmagjbgbjaaGreatDoor.num Go.Proofs.YtedbcmagjbgbjaaGreatDoor.dec Go.Proofs.YtedbcmagjbgbjaaGreatDoor.tk
set_option linter.unusedVariables false
set_option linter.unusedSimpArgs false
section
variable {w w' w0 w1 w2 : World} {p m tp N k : Nat} {tv : Value} {all : List Tk} {tl : List opa.D} {ns : Names} {F F' FT : Nat → Prop} {rec : Rec} {f : Nat}
/-- what is told of what begins -/
def BF (N : Nat) (ts : List Tk) (b : Int × Int) : Prop := 0 ≤ b.1 ∧ b.1 ≤ 6 ∧ (b.1 = 2 ∨ b.1 = 3 → (see N ts 1).k ≠ 0) ∧ 0 ≤ b.2 ∧ b.2 ≤ 1200
theorem begs_facts {x : Bool} {O : OT} {ts : List Tk} {most : Int} (hO : ∀ s, (0 ≤ (O.dp s).p ∧ (O.dp s).p ≤ 1200) ∧ 0 ≤ (O.di s).p ∧ (O.di s).p ≤ 1200) : BF N ts (begs x O N most ts) := by
  have g : ∀ a c : Int, 0 ≤ a → a ≤ 6 → ¬ (a = 2 ∨ a = 3) → 0 ≤ c → c ≤ 1200 → BF N ts (a, c) := fun a c h1 h2 h3 h4 h5 => ⟨h1, h2, fun h => absurd h h3, h4, h5⟩
  have hat : BF N ts (atomB x O N most ts) := by
    unfold atomB
    dsimp only
    have h1 := hO (see N ts 0).t
    by_cases c1 : (see N ts 1).k = 7
    · rw [if_pos c1]; exact ⟨by decide, by decide, fun _ => by rw [c1]; decide, by decide, by decide⟩
    rw [if_neg c1]
    by_cases c2 : (see N ts 0).k = 2
    · rw [if_pos c2]; exact g _ _ (by decide) (by decide) (by decide) (by decide) (by decide)
    rw [if_neg c2]
    by_cases c3 : (see N ts 0).t = [45] ∧ (see N ts 1).k = 4 ∧ (see N ts 1).a = (see N ts 0).a + 1
    · rw [if_pos c3]; exact ⟨by show (0:Int) ≤ 2; decide, by show (2:Int) ≤ 6; decide, fun _ => by rw [c3.2.1]; decide, by show (0:Int) ≤ 0; decide, by show (0:Int) ≤ 1200; decide⟩
    rw [if_neg c3]
    by_cases c4 : shuts (see N ts 1) = true
    · rw [if_pos c4]; exact g _ _ (by decide) (by decide) (by decide) (by decide) (by decide)
    rw [if_neg c4]
    split
    · exact g _ _ (by decide) (by decide) (by decide) h1.1.1 h1.1.2
    · exact g _ _ (by decide) (by decide) (by decide) (by omega) (by omega)
  unfold begs
  dsimp only
  split
  · exact hat
  · split
    · exact g _ _ (by decide) (by decide) (by decide) (by decide) (by decide)
    · split
      · split
        · exact g _ _ (by decide) (by decide) (by decide) (by decide) (by decide)
        · exact g _ _ (by decide) (by decide) (by decide) (by decide) (by decide)
      · split
        · exact g _ _ (by decide) (by decide) (by decide) (by decide) (by decide)
        · split
          · split
            · exact g _ _ (by decide) (by decide) (by decide) (by decide) (by decide)
            · split
              · exact g _ _ (by decide) (by decide) (by decide) (by decide) (by decide)
              · exact g _ _ (by decide) (by decide) (by decide) (by decide) (by decide)
          · exact g _ _ (by decide) (by decide) (by decide) (by decide) (by decide)
theorem row_fuel {rec : Rec} (hsh : Short rec) {l : Nat} : ∀ f g acc ts ns, ts.length < f → ts.length < g → row N rec l f acc ts ns = row N rec l g acc ts ns := by
  intro f
  induction f with
  | zero => intro g acc ts ns h; omega
  | succ f ih =>
    intro g acc ts ns hf hg
    obtain ⟨g, rfl⟩ : ∃ q, g = q + 1 := ⟨g - 1, by omega⟩
    rw [row, row]
    cases hr : rec 999 l ts ns with
    | er e r n => rfl
    | ok v r n =>
      simp only [PR.bind]
      have h1 := hsh _ _ _ _ _ _ _ hr
      by_cases hp : isP (see N r 0) 44 = true
      · rw [if_pos hp, if_pos hp]
        have h2 : r.tail.length ≤ r.length := by simp
        exact ih g _ _ _ (by omega) (by omega)
      · rw [if_neg hp, if_neg hp]
theorem St.kn (h : St p m tv tp FT N all tl k ns F w) {j : Nat} (hk : (see N (all.drop k) j).k ≠ 0) : k + j < all.length := by
  by_cases hlt : k + j < all.length
  · exact hlt
  · rw [see_out (by omega)] at hk; exact absurd rfl hk
set_option maxRecDepth 100000 in
set_option maxHeartbeats 16000000 in
theorem begins_any (h : St p m tv tp FT N all tl k ns F w) (most : Int) :
    Calls Tryz.prog 86 #[.pointer (some ⟨p, 0, none⟩), .int .i64 most] w fun e w' => e = .returned (.tuple #[.int .i64 (begs true (OTof tl) N most (all.drop k)).1, .int .i64 (begs true (OTof tl) N most (all.drop k)).2]) ∧ Below w.heap.size w w' := by
  obtain ⟨nv, hp⟩ := h.ro
  have ha := h.ale
  have hk := h.kle
  have HT := Lib.hid (token_any hp h.env.toks (by omega) (by omega) 0 (by omega))
  have HAT := Lib.hid (fun (hx : (see N (all.drop k) 0).k ≠ 0) (W : World) (hb : Below w.heap.size w W) => atom_any (N := N) (k := k) (all := all) ((hb.block p (Nw.lt hp)).trans hp) (h.env.toks.below hb) (by omega) (by omega) (h.env.tab.below hb) h.env.srt h.env.len (by have hl := h.kn hx; rw [see_in hl]; exact (h.ok _ (List.getElem_mem _)).a) most)
  obtain ⟨A, hA'⟩ : ∃ A, A = begs true (OTof tl) N most (all.drop k) := ⟨_, rfl⟩
  have hA : A = begs true (OTof tl) N most (all.drop k) := hA'
  unfold begs at hA
  dsimp only at hA
  rw [← hA']
  obtain ⟨x, hx⟩ : ∃ x, x = see N (all.drop k) 0 := ⟨_, rfl⟩
  rw [← hx] at HT HAT hA
  have HA := Lib.hid hA
  clear h hp hA hA' hx
  by_cases c12 : x.k = 1 ∨ x.k = 2
  · have HQ := Lib.hid (show A = atomB true (OTof tl) N most (all.drop k) by rw [HA.out, if_pos c12])
    have HC := Lib.hid (HAT.out (by rcases c12 with e | e <;> rw [e] <;> decide))
    have split : (x.k == 1) = true ∨ ((x.k == 1) = false ∧ (x.k == 2) = true) := by
      rcases c12 with e | e
      · exact Or.inl (by rw [e]; rfl)
      · exact Or.inr ⟨by rw [e]; rfl, by rw [e]; rfl⟩
    clear c12 HAT
    go_enter Tryz.func86, Tryz.ntmps86
    go_wp2_with fail
    refine HT.out.mono ?_; rintro e w2 ⟨rfl, b2⟩
    unfold TV tkc
    obtain ⟨⟨z0, z1, z2, z3, z4, z5⟩, y0, y1, y2, y3, y4, y5⟩ := six (alloc_at w2 (TO 0 [] 0 0 0 0))
    have HG := Lib.hid (GT.of x b2)
    obtain ⟨g, hg⟩ : ∃ g, g = w2.heap.size := ⟨_, rfl⟩
    go_upto_region 2 with fail
    rw [← hg] at HG ⊢
    refine nmw (K := GT w g x) HG.out (fun W hW => ?_)
    have HW := Lib.hid hW
    obtain ⟨⟨t0, t1, t2, -⟩, -⟩ := six hW.2.1
    clear hg HG z0 z1 z2 z3 z4 z5 y0 y1 y2 y3 y4 y5 hW b2
    rcases split with k1 | ⟨k1, k2⟩
    all_goals
      go_wp2_with fail
      refine (HC.out W HW.out.1).mono ?_; rintro e w5 ⟨rfl, b5⟩
      have HB5 := Lib.hid (HW.out.1.trans (b5.mono HW.out.1.size))
      rw [← HQ.out]
      clear b5
      go_wp2_with fail
      go_ret2; exact ⟨rfl, HB5.out⟩
  clear HAT
  have n1 : ¬ x.k = 1 := fun h => c12 (Or.inl h)
  have n2 : ¬ x.k = 2 := fun h => c12 (Or.inr h)
  by_cases c35 : x.k = 3 ∨ x.k = 5
  · have HQ := Lib.hid (show A = (1, 0) by rw [HA.out, if_neg c12, if_pos c35])
    have split : (x.k == 3) = true ∨ ((x.k == 3) = false ∧ (x.k == 5) = true) := by
      rcases c35 with e | e
      · exact Or.inl (by rw [e]; rfl)
      · exact Or.inr ⟨by rw [e]; rfl, by rw [e]; rfl⟩
    have k1 : (x.k == 1) = false := by simpa using n1
    have k2 : (x.k == 2) = false := by simpa using n2
    clear c12 c35 n1 n2
    go_enter Tryz.func86, Tryz.ntmps86
    go_wp2_with fail
    refine HT.out.mono ?_; rintro e w2 ⟨rfl, b2⟩
    unfold TV tkc
    obtain ⟨⟨z0, z1, z2, z3, z4, z5⟩, y0, y1, y2, y3, y4, y5⟩ := six (alloc_at w2 (TO 0 [] 0 0 0 0))
    have HG := Lib.hid (GT.of x b2)
    obtain ⟨g, hg⟩ : ∃ g, g = w2.heap.size := ⟨_, rfl⟩
    go_upto_region 2 with fail
    rw [← hg] at HG ⊢
    refine nmw (K := GT w g x) HG.out (fun W hW => ?_)
    have HW := Lib.hid hW
    obtain ⟨⟨t0, t1, t2, -⟩, -⟩ := six hW.2.1
    clear hg HG z0 z1 z2 z3 z4 z5 y0 y1 y2 y3 y4 y5 hW b2
    rcases split with k3 | ⟨k3, k5⟩
    all_goals
      go_wp2_with fail
      go_ret2; exact ⟨by rw [HQ.out]; rfl, HW.out.1⟩
  have n3 : ¬ x.k = 3 := fun h => c35 (Or.inl h)
  have n5 : ¬ x.k = 5 := fun h => c35 (Or.inr h)
  by_cases p4 : x.k = 4
  · by_cases c : 0 ≤ x.n
    · have k1 : (x.k == 1) = false := by simpa using n1
      have k2 : (x.k == 2) = false := by simpa using n2
      have k3 : (x.k == 3) = false := by simpa using n3
      have k5 : (x.k == 5) = false := by simpa using n5
      have k4 : (x.k == 4) = true := by rw [p4]; rfl
      have hd : decide (x.n ≥ 0) = true := decide_eq_true c
      have HQ := Lib.hid (show A = (1, 0) by rw [HA.out, if_neg c12, if_neg c35, if_pos p4, if_pos c])
      clear c12 c35 n1 n2 n3 n5 p4 c
      go_enter Tryz.func86, Tryz.ntmps86
      go_wp2_with fail
      refine HT.out.mono ?_; rintro e w2 ⟨rfl, b2⟩
      unfold TV tkc
      obtain ⟨⟨z0, z1, z2, z3, z4, z5⟩, y0, y1, y2, y3, y4, y5⟩ := six (alloc_at w2 (TO 0 [] 0 0 0 0))
      have HG := Lib.hid (GT.of x b2)
      obtain ⟨g, hg⟩ : ∃ g, g = w2.heap.size := ⟨_, rfl⟩
      go_upto_region 2 with fail
      rw [← hg] at HG ⊢
      refine nmw (K := GT w g x) HG.out (fun W hW => ?_)
      have HW := Lib.hid hW
      obtain ⟨⟨t0, t1, t2, -⟩, -⟩ := six hW.2.1
      clear hg HG z0 z1 z2 z3 z4 z5 y0 y1 y2 y3 y4 y5 hW b2
      go_wp2_with fail
      go_ret2; exact ⟨by rw [HQ.out]; rfl, HW.out.1⟩
    · have k1 : (x.k == 1) = false := by simpa using n1
      have k2 : (x.k == 2) = false := by simpa using n2
      have k3 : (x.k == 3) = false := by simpa using n3
      have k5 : (x.k == 5) = false := by simpa using n5
      have k4 : (x.k == 4) = true := by rw [p4]; rfl
      have hd : decide (x.n ≥ 0) = false := decide_eq_false c
      have k7 : (x.k == 7) = false := by rw [p4]; rfl
      have k6 : (x.k == 6) = false := by rw [p4]; rfl
      have HQ := Lib.hid (show A = (0, 0) by rw [HA.out, if_neg c12, if_neg c35, if_pos p4, if_neg c])
      clear c12 c35 n1 n2 n3 n5 p4 c
      go_enter Tryz.func86, Tryz.ntmps86
      go_wp2_with fail
      refine HT.out.mono ?_; rintro e w2 ⟨rfl, b2⟩
      unfold TV tkc
      obtain ⟨⟨z0, z1, z2, z3, z4, z5⟩, y0, y1, y2, y3, y4, y5⟩ := six (alloc_at w2 (TO 0 [] 0 0 0 0))
      have HG := Lib.hid (GT.of x b2)
      obtain ⟨g, hg⟩ : ∃ g, g = w2.heap.size := ⟨_, rfl⟩
      go_upto_region 2 with fail
      rw [← hg] at HG ⊢
      refine nmw (K := GT w g x) HG.out (fun W hW => ?_)
      have HW := Lib.hid hW
      obtain ⟨⟨t0, t1, t2, -⟩, -⟩ := six hW.2.1
      clear hg HG z0 z1 z2 z3 z4 z5 y0 y1 y2 y3 y4 y5 hW b2
      go_wp2_with fail
      go_ret2; exact ⟨by rw [HQ.out]; rfl, HW.out.1⟩
  by_cases p7 : x.k = 7
  · have k1 : (x.k == 1) = false := by simpa using n1
    have k2 : (x.k == 2) = false := by simpa using n2
    have k3 : (x.k == 3) = false := by simpa using n3
    have k5 : (x.k == 5) = false := by simpa using n5
    have k7 : (x.k == 7) = true := by rw [p7]; rfl
    have k4 : (x.k == 4) = false := by simpa using p4
    have HQ := Lib.hid (show A = (5, 0) by rw [HA.out, if_neg c12, if_neg c35, if_neg p4, if_pos p7])
    clear c12 c35 n1 n2 n3 n5 p4 p7
    go_enter Tryz.func86, Tryz.ntmps86
    go_wp2_with fail
    refine HT.out.mono ?_; rintro e w2 ⟨rfl, b2⟩
    unfold TV tkc
    obtain ⟨⟨z0, z1, z2, z3, z4, z5⟩, y0, y1, y2, y3, y4, y5⟩ := six (alloc_at w2 (TO 0 [] 0 0 0 0))
    have HG := Lib.hid (GT.of x b2)
    obtain ⟨g, hg⟩ : ∃ g, g = w2.heap.size := ⟨_, rfl⟩
    go_upto_region 2 with fail
    rw [← hg] at HG ⊢
    refine nmw (K := GT w g x) HG.out (fun W hW => ?_)
    have HW := Lib.hid hW
    obtain ⟨⟨t0, t1, t2, -⟩, -⟩ := six hW.2.1
    clear hg HG z0 z1 z2 z3 z4 z5 y0 y1 y2 y3 y4 y5 hW b2
    go_wp2_with fail
    go_ret2; exact ⟨by rw [HQ.out]; rfl, HW.out.1⟩
  by_cases p6 : x.k = 6
  · by_cases c : x.t = [40]
    · have k1 : (x.k == 1) = false := by simpa using n1
      have k2 : (x.k == 2) = false := by simpa using n2
      have k3 : (x.k == 3) = false := by simpa using n3
      have k5 : (x.k == 5) = false := by simpa using n5
      have k6 : (x.k == 6) = true := by rw [p6]; rfl
      have k4 : (x.k == 4) = false := by simpa using p4
      have k7 : (x.k == 7) = false := by simpa using p7
      have q1 : (x.t == [40]) = true := by simpa using c
      have HQ := Lib.hid (show A = (5, 0) by rw [HA.out, if_neg c12, if_neg c35, if_neg p4, if_neg p7, if_pos p6, if_pos c])
      clear c12 c35 n1 n2 n3 n5 p4 p7 p6 c
      go_enter Tryz.func86, Tryz.ntmps86
      go_wp2_with fail
      refine HT.out.mono ?_; rintro e w2 ⟨rfl, b2⟩
      unfold TV tkc
      obtain ⟨⟨z0, z1, z2, z3, z4, z5⟩, y0, y1, y2, y3, y4, y5⟩ := six (alloc_at w2 (TO 0 [] 0 0 0 0))
      have HG := Lib.hid (GT.of x b2)
      obtain ⟨g, hg⟩ : ∃ g, g = w2.heap.size := ⟨_, rfl⟩
      go_upto_region 2 with fail
      rw [← hg] at HG ⊢
      refine nmw (K := GT w g x) HG.out (fun W hW => ?_)
      have HW := Lib.hid hW
      obtain ⟨⟨t0, t1, t2, -⟩, -⟩ := six hW.2.1
      clear hg HG z0 z1 z2 z3 z4 z5 y0 y1 y2 y3 y4 y5 hW b2
      go_wp2_with fail
      go_ret2; exact ⟨by rw [HQ.out]; rfl, HW.out.1⟩
    · by_cases c2 : x.t = [91]
      · have k1 : (x.k == 1) = false := by simpa using n1
        have k2 : (x.k == 2) = false := by simpa using n2
        have k3 : (x.k == 3) = false := by simpa using n3
        have k5 : (x.k == 5) = false := by simpa using n5
        have k6 : (x.k == 6) = true := by rw [p6]; rfl
        have k4 : (x.k == 4) = false := by simpa using p4
        have k7 : (x.k == 7) = false := by simpa using p7
        have q1 : (x.t == [40]) = false := by simpa using c
        have q2 : (x.t == [91]) = true := by simpa using c2
        have HQ := Lib.hid (show A = (6, 0) by rw [HA.out, if_neg c12, if_neg c35, if_neg p4, if_neg p7, if_pos p6, if_neg c, if_pos c2])
        clear c12 c35 n1 n2 n3 n5 p4 p7 p6 c c2
        go_enter Tryz.func86, Tryz.ntmps86
        go_wp2_with fail
        refine HT.out.mono ?_; rintro e w2 ⟨rfl, b2⟩
        unfold TV tkc
        obtain ⟨⟨z0, z1, z2, z3, z4, z5⟩, y0, y1, y2, y3, y4, y5⟩ := six (alloc_at w2 (TO 0 [] 0 0 0 0))
        have HG := Lib.hid (GT.of x b2)
        obtain ⟨g, hg⟩ : ∃ g, g = w2.heap.size := ⟨_, rfl⟩
        go_upto_region 2 with fail
        rw [← hg] at HG ⊢
        refine nmw (K := GT w g x) HG.out (fun W hW => ?_)
        have HW := Lib.hid hW
        obtain ⟨⟨t0, t1, t2, -⟩, -⟩ := six hW.2.1
        clear hg HG z0 z1 z2 z3 z4 z5 y0 y1 y2 y3 y4 y5 hW b2
        go_wp2_with fail
        go_ret2; exact ⟨by rw [HQ.out]; rfl, HW.out.1⟩
      · have k1 : (x.k == 1) = false := by simpa using n1
        have k2 : (x.k == 2) = false := by simpa using n2
        have k3 : (x.k == 3) = false := by simpa using n3
        have k5 : (x.k == 5) = false := by simpa using n5
        have k6 : (x.k == 6) = true := by rw [p6]; rfl
        have k4 : (x.k == 4) = false := by simpa using p4
        have k7 : (x.k == 7) = false := by simpa using p7
        have q1 : (x.t == [40]) = false := by simpa using c
        have q2 : (x.t == [91]) = false := by simpa using c2
        have HQ := Lib.hid (show A = (0, 0) by rw [HA.out, if_neg c12, if_neg c35, if_neg p4, if_neg p7, if_pos p6, if_neg c, if_neg c2])
        clear c12 c35 n1 n2 n3 n5 p4 p7 p6 c c2
        go_enter Tryz.func86, Tryz.ntmps86
        go_wp2_with fail
        refine HT.out.mono ?_; rintro e w2 ⟨rfl, b2⟩
        unfold TV tkc
        obtain ⟨⟨z0, z1, z2, z3, z4, z5⟩, y0, y1, y2, y3, y4, y5⟩ := six (alloc_at w2 (TO 0 [] 0 0 0 0))
        have HG := Lib.hid (GT.of x b2)
        obtain ⟨g, hg⟩ : ∃ g, g = w2.heap.size := ⟨_, rfl⟩
        go_upto_region 2 with fail
        rw [← hg] at HG ⊢
        refine nmw (K := GT w g x) HG.out (fun W hW => ?_)
        have HW := Lib.hid hW
        obtain ⟨⟨t0, t1, t2, -⟩, -⟩ := six hW.2.1
        clear hg HG z0 z1 z2 z3 z4 z5 y0 y1 y2 y3 y4 y5 hW b2
        go_wp2_with fail
        go_ret2; exact ⟨by rw [HQ.out]; rfl, HW.out.1⟩
  · have k1 : (x.k == 1) = false := by simpa using n1
    have k2 : (x.k == 2) = false := by simpa using n2
    have k3 : (x.k == 3) = false := by simpa using n3
    have k5 : (x.k == 5) = false := by simpa using n5
    have k4 : (x.k == 4) = false := by simpa using p4
    have k7 : (x.k == 7) = false := by simpa using p7
    have k6 : (x.k == 6) = false := by simpa using p6
    have HQ := Lib.hid (show A = (0, 0) by rw [HA.out, if_neg c12, if_neg c35, if_neg p4, if_neg p7, if_neg p6])
    clear c12 c35 n1 n2 n3 n5 p4 p7 p6
    go_enter Tryz.func86, Tryz.ntmps86
    go_wp2_with fail
    refine HT.out.mono ?_; rintro e w2 ⟨rfl, b2⟩
    unfold TV tkc
    obtain ⟨⟨z0, z1, z2, z3, z4, z5⟩, y0, y1, y2, y3, y4, y5⟩ := six (alloc_at w2 (TO 0 [] 0 0 0 0))
    have HG := Lib.hid (GT.of x b2)
    obtain ⟨g, hg⟩ : ∃ g, g = w2.heap.size := ⟨_, rfl⟩
    go_upto_region 2 with fail
    rw [← hg] at HG ⊢
    refine nmw (K := GT w g x) HG.out (fun W hW => ?_)
    have HW := Lib.hid hW
    obtain ⟨⟨t0, t1, t2, -⟩, -⟩ := six hW.2.1
    clear hg HG z0 z1 z2 z3 z4 z5 y0 y1 y2 y3 y4 y5 hW b2
    go_wp2_with fail
    go_ret2; exact ⟨by rw [HQ.out]; rfl, HW.out.1⟩
theorem first_any (hg : Good p m tv tp FT N all tl rec f) (hpt : Parts rec) (h : St p m tv tp FT N all tl k ns F w) (hf : all.length < f + 1 + k) (level : Nat) (hlev : level ≤ 2000) (a : Int) (ha : 1 ≤ a ∧ a ≤ 6) (hlt : k < all.length) (ha2 : a = 2 ∨ a = 3 → k + 1 < all.length) :
    Calls Tryz.prog 87 #[.pointer (some ⟨p, 0, none⟩), .int .i64 a, .int .i64 (level : Int)] w (PE p m tv tp FT N all tl (first (OTof tl) N rec a level (all.drop k) ns) F w) := by
  have hsh : Short rec := fun _ _ _ _ _ _ _ h => (hpt _ _ _ _ _ _ _ h).2
  have ht1 : (all.drop k).tail = all.drop (k + 1) := by rw [List.tail_drop]
  have ht2 : (all.drop k).tail.tail = all.drop (k + 2) := by rw [List.tail_drop, List.tail_drop]
  have hl : (see N (all.drop k) 0).t.length ≤ 70000 := (see_ok h hlt).t
  have hcase : a = 1 ∨ a = 2 ∨ a = 3 ∨ a = 4 ∨ a = 5 ∨ a = 6 := by omega
  unfold first
  dsimp only
  rcases hcase with rfl | rfl | rfl | rfl | rfl | rfl
  · rw [if_neg (by decide), if_neg (by decide), if_neg (by decide), if_neg (by decide), if_neg (by decide)]
    exact first_1 level (by omega) hlt h 1 rfl
  · rw [if_pos rfl]
    exact first_2 level (by omega) (ha2 (Or.inl rfl)) h
  · rw [if_neg (by decide), if_pos rfl]
    refine first_3 level (by omega) (ha2 (Or.inr rfl)) h fun W hW => ?_
    rw [ht2, row_fuel hsh ((all.drop k).length + 1) ((all.drop (k + 2)).length + 1) [] (all.drop (k + 2)) ns (by simp; omega) (by simp)]
    exact arguments_any (level + 1) (fun W2 hW2 => row_any hg hsh hW2 (by omega) (level + 1) (by omega)) hW _ hl
  · rw [if_neg (by decide), if_neg (by decide), if_pos rfl]
    refine first_4 level (by omega) hlt h fun W hW => ?_
    rw [ht1]
    exact operand_any hg hW (by omega) (level + 1) (by omega) _ hl
  · rw [if_neg (by decide), if_neg (by decide), if_neg (by decide), if_pos rfl]
    refine first_5 level (by omega) hlt h fun W hW => ?_
    rw [ht1]
    exact group_any hg hW (by omega) (level + 1) (by omega)
  · rw [if_neg (by decide), if_neg (by decide), if_neg (by decide), if_neg (by decide), if_pos rfl]
    refine first_6 level (by omega) hlt h fun W hW => ?_
    rw [ht1]
    exact list_any hg hpt hW (by omega) (level + 1) (by omega)
end
end Go.Proofs.YtedbcmagjbgbjaaGreatDoor.rd
