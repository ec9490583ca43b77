/- A scope with one label. Package unify's Bind; what it makes of cells and writes. -/
import Derived.Test.YthableojkjhicaaUnA
namespace Go.Proofs.Ythableojkjhicaa.un
open Go.ChangeShapes Go.WideShapes Go.ChangeAt Go.RowKit Go.Maps
open Go.Proofs.Ythableojkjhicaa.kp Go.Proofs.Ythableojkjhicaa.cel Go.Proofs.Ythableojkjhicaa.hp Go.Proofs.Ythableojkjhicaa.ob
set_option linter.unusedVariables false
def dj (J : Nat → Act → World → Prop) (n : Nat) (Q : Exit → Act → World → Prop) : Exit → Act → World → Prop
  | .goto l, a, w => ∃ n', n' < n ∧ l = 0 ∧ J n' a w
  | e, a, w => Q e a w
theorem wp_scope_one {P : Program} {a : Act} {w : World} {Q : Exit → Act → World → Prop} {c D : Code} (J : Nat → Act → World → Prop) (h0 : findLabel c 0 = some (Code.skip.seq D))
    (down : ∀ n a w, J n a w → D.wp P (dj J n Q) a w) (first : (∀ n a w, J n a w → D.wp P (dj J n Q) a w) → ∃ n, c.wp P (dj J n Q) a w) : (Code.scope c).wp P Q a w := by
  obtain ⟨n0, fst⟩ := first down
  intro b k cs
  have g0 : gotoIn 0 (.inScope c :: k) = some (.code (Code.skip.seq D) :: .inScope c :: k) := by simp [gotoIn, h0]
  have key : ∀ n a w, J n a w → ∃ e a' w', Q e a' w' ∧ Arrives P (lone (b.at a (.code (Code.skip.seq D) :: .inScope c :: k)) cs w) b k cs e a' w' := by
    intro n
    induction n using Nat.strongRecOn with
    | _ n ih =>
      intro a w hJ
      have hp : (Code.skip.seq D).wp P (dj J n Q) a w := wp_seq (wp_skip (down n a w hJ))
      obtain ⟨e, a₁, w₁, hq, harr⟩ := hp b (.inScope c :: k) cs
      cases e with
      | normal => exact ⟨.normal, a₁, w₁, hq, Steps.trans harr (.one step_inScope)⟩
      | exit id => exact ⟨.exit id, a₁, w₁, hq, fun k' hk => harr k' (by simp [exitTo, hk])⟩
      | goto l' =>
        obtain ⟨n', hn', rfl, hJ'⟩ := hq
        obtain ⟨e₂, a₂, w₂, hq₂, harr₂⟩ := ih n' hn' a₁ w₁ hJ'
        exact ⟨e₂, a₂, w₂, hq₂, .of_steps (harr _ g0) harr₂⟩
      | ret => exact ⟨_, a₁, w₁, hq, harr⟩
      | panic ch => exact ⟨_, a₁, w₁, hq, harr⟩
      | outgrown => exact ⟨_, a₁, w₁, hq, harr⟩
  obtain ⟨e, a₁, w₁, hq, harr⟩ := fst b (.inScope c :: k) cs
  cases e with
  | normal => exact ⟨.normal, a₁, w₁, hq, .head step_scope (Steps.trans harr (.one step_inScope))⟩
  | exit id => exact ⟨.exit id, a₁, w₁, hq, fun k' hk => .head step_scope (harr k' (by simp [exitTo, hk]))⟩
  | goto l' =>
    obtain ⟨n', hn', rfl, hJ'⟩ := hq
    obtain ⟨e₂, a₂, w₂, hq₂, harr₂⟩ := key n' a₁ w₁ hJ'
    exact ⟨e₂, a₂, w₂, hq₂, .of_steps (.head step_scope (harr _ g0)) harr₂⟩
  | ret => exact ⟨_, a₁, w₁, hq, .of_steps (.one step_scope) harr⟩
  | panic ch => exact ⟨_, a₁, w₁, hq, .of_steps (.one step_scope) harr⟩
  | outgrown => exact ⟨_, a₁, w₁, hq, .of_steps (.one step_scope) harr⟩
/-! ### Bind: of two cells, Dereffed: what is written, and where -/
def bw (l : List Int) (a b : Int) : Option (Int × Int) := if isV l a = true then if a = b then none else if isV l b = true ∧ a / 8 < b / 8 then some (b / 8, a) else some (a / 8, b) else none
def bl (l : List Int) (a b : Int) : List Int := match bw l a b with | none => l | some x => sx l x.1 x.2
def bL (l : List Int) (L : List Wr) (a b : Int) : List Wr := match bw l a b with | none => L | some x => tx l L x.1
theorem isV_gb {l : List Int} {c : Int} (h : isV l c = true) : c % 8 = 0 ∧ gb l (c / 8) = true ∧ gv l (c / 8) = c := by
  unfold isV at h
  simp only [Bool.and_eq_true, decide_eq_true_eq] at h
  exact ⟨h.1, h.2.1, h.2.2⟩
section
variable {w w' : World} {p q : Nat} {K : Nat → Prop} {l : List Int} {m : Int} {L : List Wr}
theorem ubind_nil1 (v : Value) (a b : Int) (w : World) (hv : ∃ q, v = .pointer q) : Calls Try.prog 122 #[.pointer none, v, .int .u64 a, .int .u64 b] w fun e w' => e = .returned (.bool false) ∧ w = w' := by
  obtain ⟨q, rfl⟩ := hv
  go_enter Try.func122, Try.ntmps122; go_wp2_with fail
  go_ret
  exact ⟨rfl, rfl⟩
theorem ubind_nil2 (p : Addr) (a b : Int) (w : World) : Calls Try.prog 122 #[.pointer (some p), .pointer none, .int .u64 a, .int .u64 b] w fun e w' => e = .returned (.bool false) ∧ w = w' := by
  go_enter Try.func122, Try.ntmps122; go_wp2_with fail
  go_ret
  exact ⟨rfl, rfl⟩
set_option maxHeartbeats 1000000 in
theorem ubind_any (h : hp.Sys TH TP w p q K l m L) (hL : L.length < 1099511627776) (a b : Int) (ha : W64 a) (hb : W64 b) :
    Calls Try.prog 122 #[.pointer (some ⟨p, 0, none⟩), .pointer (some ⟨q, 0, none⟩), .int .u64 a, .int .u64 b] w fun e w' => e = .returned (.bool (isV l (dr l l.length a))) ∧ SN TH TP w p q K (bl l (dr l l.length a) (dr l l.length b)) m (bL l L (dr l l.length a) (dr l l.length b)) w' := by
  have HS := Lib.hid h
  obtain ⟨⟨F, G, hp, ht, c, d⟩, g⟩ := h
  have hda := deref_any hp a ha
  have hdb := deref_any hp b hb
  have hwa := dr_w hp.wf l.length a ha
  have hwb := dr_w hp.wf l.length b hb
  have hva := uvar_any hp _ hwa
  have hvb := uvar_any hp _ hwb
  have hpa := uplace_any _ w hwa
  have hpb := uplace_any _ w hwb
  generalize dr l l.length a = x at *
  generalize dr l l.length b = y at *
  have hsx := fun n u hu => tset_any HS.out hL n u hu
  have HSX := Lib.hid (And.intro hsx (And.intro hwa hwb))
  clear hp ht c d g hsx hwa hwb ha hb hL
  by_cases vx : isV l x = true
  · by_cases e : x = y
    · subst e
      have HN := Lib.hid (show bw l x x = none by unfold bw; rw [if_pos vx, if_pos rfl])
      rw [vx] at hva hvb ⊢
      clear vx
      go_enter Try.func122, Try.ntmps122; go_wp2_with fail
      refine hda.mono ?_; rintro e w' ⟨rfl, rfl⟩
      go_wp2_with fail
      refine hdb.mono ?_; rintro e w' ⟨rfl, rfl⟩
      go_wp2_with fail
      refine hva.mono ?_; rintro e w' ⟨rfl, rfl⟩
      go_wp2_with fail
      go_ret
      refine ⟨rfl, ?_⟩
      unfold bl bL; rw [HN.out]; exact SN.same HS.out
    · have hne : (x == y) = false := by rw [beq_eq_false_iff_ne]; exact e
      have HE := Lib.hid e
      have HV := Lib.hid vx
      rw [vx] at hva ⊢
      by_cases vy : isV l y = true
      · rw [vy] at hvb
        by_cases hlt : x / 8 < y / 8
        · have HN := Lib.hid (show bw l x y = some (y / 8, x) by unfold bw; rw [if_pos vx, if_neg e, if_pos ⟨vy, hlt⟩])
          have HG := Lib.hid (isV_gb vy).2.1
          have hset := HSX.out.1 (y / 8) x HSX.out.2.1
          rw [HG.out] at hset
          generalize x / 8 = px at *
          generalize y / 8 = py at *
          have hd : decide (py > px) = true := decide_eq_true hlt
          clear vx vy e
          go_enter Try.func122, Try.ntmps122; go_wp2_with fail
          refine hda.mono ?_; rintro e w' ⟨rfl, rfl⟩
          go_wp2_with fail
          refine hdb.mono ?_; rintro e w' ⟨rfl, rfl⟩
          go_wp2_with fail
          refine hva.mono ?_; rintro e w' ⟨rfl, rfl⟩
          go_wp2_with fail
          refine hvb.mono ?_; rintro e w' ⟨rfl, rfl⟩
          go_wp2_with fail
          refine hpb.mono ?_; rintro e w' ⟨rfl, rfl⟩
          go_wp2_with fail
          refine hpa.mono ?_; rintro e w' ⟨rfl, rfl⟩
          go_wp2_with fail
          refine hpb.mono ?_; rintro e w' ⟨rfl, rfl⟩
          go_wp2_with fail
          refine hset.mono ?_; rintro e w' ⟨rfl, sn⟩
          have HF := Lib.hid sn
          clear sn
          go_wp2_with fail
          go_ret
          refine ⟨rfl, ?_⟩
          unfold bl bL; rw [HN.out]; exact HF.out
        · have HN := Lib.hid (show bw l x y = some (x / 8, y) by unfold bw; rw [if_pos vx, if_neg e, if_neg (fun h => hlt h.2)])
          have HG := Lib.hid (isV_gb vx).2.1
          have hset := HSX.out.1 (x / 8) y HSX.out.2.2
          rw [HG.out] at hset
          generalize x / 8 = px at *
          generalize y / 8 = py at *
          have hd : decide (py > px) = false := decide_eq_false hlt
          clear vx vy e
          go_enter Try.func122, Try.ntmps122; go_wp2_with fail
          refine hda.mono ?_; rintro e w' ⟨rfl, rfl⟩
          go_wp2_with fail
          refine hdb.mono ?_; rintro e w' ⟨rfl, rfl⟩
          go_wp2_with fail
          refine hva.mono ?_; rintro e w' ⟨rfl, rfl⟩
          go_wp2_with fail
          refine hvb.mono ?_; rintro e w' ⟨rfl, rfl⟩
          go_wp2_with fail
          refine hpb.mono ?_; rintro e w' ⟨rfl, rfl⟩
          go_wp2_with fail
          refine hpa.mono ?_; rintro e w' ⟨rfl, rfl⟩
          go_wp2_with fail
          refine hpa.mono ?_; rintro e w' ⟨rfl, rfl⟩
          go_wp2_with fail
          refine hset.mono ?_; rintro e w' ⟨rfl, sn⟩
          have HF := Lib.hid sn
          clear sn
          go_wp2_with fail
          go_ret
          refine ⟨rfl, ?_⟩
          unfold bl bL; rw [HN.out]; exact HF.out
      · have HN := Lib.hid (show bw l x y = some (x / 8, y) by unfold bw; rw [if_pos vx, if_neg e, if_neg (fun h => vy h.1)])
        simp only [Bool.not_eq_true] at vy
        rw [vy] at hvb
        have HG := Lib.hid (isV_gb vx).2.1
        have hset := HSX.out.1 (x / 8) y HSX.out.2.2
        rw [HG.out] at hset
        generalize x / 8 = px at *
        clear vx vy e
        go_enter Try.func122, Try.ntmps122; go_wp2_with fail
        refine hda.mono ?_; rintro e w' ⟨rfl, rfl⟩
        go_wp2_with fail
        refine hdb.mono ?_; rintro e w' ⟨rfl, rfl⟩
        go_wp2_with fail
        refine hva.mono ?_; rintro e w' ⟨rfl, rfl⟩
        go_wp2_with fail
        refine hvb.mono ?_; rintro e w' ⟨rfl, rfl⟩
        go_wp2_with fail
        refine hpa.mono ?_; rintro e w' ⟨rfl, rfl⟩
        go_wp2_with fail
        refine hset.mono ?_; rintro e w' ⟨rfl, sn⟩
        have HF := Lib.hid sn
        clear sn
        go_wp2_with fail
        go_ret
        refine ⟨rfl, ?_⟩
        unfold bl bL; rw [HN.out]; exact HF.out
  · have HN := Lib.hid (show bw l x y = none by unfold bw; rw [if_neg vx])
    simp only [Bool.not_eq_true] at vx
    rw [vx] at hva ⊢
    clear vx
    go_enter Try.func122, Try.ntmps122; go_wp2_with fail
    refine hda.mono ?_; rintro e w' ⟨rfl, rfl⟩
    go_wp2_with fail
    refine hdb.mono ?_; rintro e w' ⟨rfl, rfl⟩
    go_wp2_with fail
    refine hva.mono ?_; rintro e w' ⟨rfl, rfl⟩
    go_wp2_with fail
    go_ret
    refine ⟨rfl, ?_⟩
    unfold bl bL; rw [HN.out]; exact SN.same HS.out
end
end Go.Proofs.Ythableojkjhicaa.un
