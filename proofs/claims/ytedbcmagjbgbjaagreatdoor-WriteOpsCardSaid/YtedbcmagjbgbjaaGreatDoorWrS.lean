/- The reference's Says: does a name stand in a term; terms without an operator's name have one text. -/
import Derived.Test.YtedbcmagjbgbjaaGreatDoorWrA
namespace Go.Proofs.YtedbcmagjbgbjaaGreatDoor.wr
open Go.ChangeShapes Go.WideShapes Go.ChangeAt Go.RowKit
open Go.Proofs.YtedbcmagjbgbjaaGreatDoor.kp Go.Proofs.YtedbcmagjbgbjaaGreatDoor.tm Go.Proofs.YtedbcmagjbgbjaaGreatDoor.lie Go.Proofs.YtedbcmagjbgbjaaGreatDoor.tk
set_option linter.unusedVariables false
mutual
def says (S : LB) : Tm → Bool
  | .mk k n i re im l => ((decide (k = 2) || decide (k = 5)) && decide (bl n = S)) || (decide (k = 5) && saysL S l)
def saysL (S : LB) : List Tm → Bool
  | [] => false
  | t :: r => says S t || saysL S r
end
theorem saysL_app (S : LB) : ∀ a b, saysL S (a ++ b) = (saysL S a || saysL S b)
  | [], b => by simp [saysL]
  | t :: r, b => by rw [List.cons_append, saysL, saysL, saysL_app S r b, Bool.or_assoc]
theorem saysL_mem {S : LB} : ∀ {l : List Tm} {x : Tm}, x ∈ l → says S x = true → saysL S l = true
  | y :: l, x, h, hx => by
    rw [saysL]
    rcases List.mem_cons.1 h with rfl | h
    · rw [hx]; rfl
    · rw [saysL_mem h hx]; simp
def SRel (S : LB) (w : World) (l : List Tm) (g : Nat) (s9 : Value) (wr : World) : Prop :=
  ∃ k : Nat, k ≤ l.length ∧ g = l.length - k ∧ s9 = .int .i64 (k : Int) ∧ saysL S (l.take k) = false ∧ Below w.heap.size w wr
set_option maxRecDepth 100000 in
set_option maxHeartbeats 8000000 in
theorem says_any (S : LB) (t : Tm) : ∀ (w : World) (a : Option Addr) (c : Nat), TRow No w t.args a 0 → t.args.length ≤ 9223372036854775807 →
    Calls Tryz.prog 32 #[.string ⟨S.toArray⟩, .slice a t.args.length c] w fun e w' => e = .returned (.bool (saysL S t.args)) ∧ Below w.heap.size w w' := by
  induction t using Tm.ind with
  | h k n i re im l ih =>
  intro w a c hr hl
  simp only [Tm.args] at hr hl ⊢
  have R0 := Lib.hid hr
  have IH := Lib.hid ih
  clear hr ih
  go_enter Tryz.func32, Tryz.ntmps32
  go_wp2_with fail
  go_loopg [9] l.length (SRel S w l)
  case atStart => exact ⟨0, Nat.zero_le _, by omega, rfl, by simp [saysL], br w⟩
  case round =>
    obtain ⟨j, hj, hg, rfl, hno, hb⟩ := hrel
    by_cases hlt : j < l.length
    · obtain ⟨p1, o1, u0, u1, u2, u3, u4, u5, hbl, hnx, h6, hlx, hix⟩ := R0.out.look hlt
      have h6' := h6.keep (X := No) (Keep.of_below hb) id
      have hlx' := hlx.below hb
      have hix' := hix c
      obtain ⟨x, hx⟩ : ∃ x, x = l[j] := ⟨_, rfl⟩
      rw [← hx] at hlx'
      have hmem : x ∈ l := by rw [hx]; exact List.getElem_mem hlt
      have hih := IH.out x hmem
      have htake : saysL S (l.take (j + 1)) = says S x := by
        rw [List.take_succ_eq_append_getElem hlt, saysL_app, hno, ← hx]; simp [saysL]
      obtain ⟨kp, np, ip, rp, mp, lx⟩ := x
      obtain ⟨N, rfl⟩ : ∃ N : LB, np = ⟨N.toArray⟩ := ⟨bl np, rfl⟩
      rw [Lies] at hlx'
      obtain ⟨ap, cp, hv, hf, hrx⟩ := hlx'
      simp only [Value.agg.injEq, Array.mk.injEq, List.cons.injEq, and_true] at hv
      obtain ⟨rfl, rfl, rfl, rfl, rfl, rfl⟩ := hv
      obtain ⟨e0, e1, e2, e3, e4, e5⟩ := h6'
      have hd : decide ((j : Int) < (l.length : Int)) = true := decide_eq_true (by omega)
      have hbA := ba wr (.cells #[.int .i64 kp, .string ⟨N.toArray⟩, .int .i64 ip, .int .u64 rp, .int .u64 mp, .slice ap lx.length cp] 27)
      have hsx : says S (.mk kp ⟨N.toArray⟩ ip rp mp lx) = (((decide (kp = 2) || decide (kp = 5)) && decide (N = S)) || (decide (kp = 5) && saysL S lx)) := by rw [says]; rfl
      have hcall := hih (wr.alloc (.cells #[.int .i64 kp, .string ⟨N.toArray⟩, .int .i64 ip, .int .u64 rp, .int .u64 mp, .slice ap lx.length cp] 27)) ap cp (by simp only [Tm.args]; exact hrx.below hbA) (by simp only [Tm.args]; have h1 := hf.l1; have h2 := hf.c1; omega)
      simp only [Tm.args] at hcall
      have H0 := Lib.hid (And.intro (hb.trans (hbA.mono hb.size)) (And.intro hmem (And.intro htake (And.intro hsx (And.intro hcall (TB.new kp ⟨N.toArray⟩ ip rp mp (.slice ap lx.length cp) wr))))))
      clear hb hmem htake hsx hcall hno hx hih hlx hix hnx hbl h6 hf hrx hbA hj
      by_cases hA : (kp = 2 ∨ kp = 5) ∧ N = S
      · obtain ⟨hk, rfl⟩ := hA
        have hres : saysL N l = true := saysL_mem H0.out.2.1 (by rw [H0.out.2.2.2.1]; rcases hk with rfl | rfl <;> simp)
        have HR := Lib.hid hres
        have eN : (N == N) = true := beq_self_eq_true N
        clear hres
        rcases hk with rfl | rfl
        · go_wp2_with fail
          go_ret
          exact ⟨by rw [HR.out]; rfl, H0.out.1⟩
        · go_wp2_with fail
          go_ret
          exact ⟨by rw [HR.out]; rfl, H0.out.1⟩
      · by_cases h5 : kp = 5
        · subst h5
          have hN : (N == S) = false := beq_eq_false_iff_ne.2 fun e => hA ⟨Or.inr rfl, e⟩
          have hN2 : decide (N = S) = false := decide_eq_false fun e => hA ⟨Or.inr rfl, e⟩
          have hs2 : says S (.mk 5 ⟨N.toArray⟩ ip rp mp lx) = saysL S lx := by rw [H0.out.2.2.2.1, hN2]; simp
          have HS := Lib.hid hs2
          clear hs2 hN2 hA
          go_wp2_with fail
          refine H0.out.2.2.2.2.1.mono ?_
          cases hr : saysL S lx with
          | true =>
            rintro e w2 ⟨rfl, b2⟩
            have H2 := Lib.hid (And.intro (H0.out.1.trans (b2.mono H0.out.1.size)) (saysL_mem H0.out.2.1 (HS.out.trans hr)))
            clear b2 hr
            go_wp2_with fail
            go_ret
            exact ⟨by rw [H2.out.2]; rfl, H2.out.1⟩
          | false =>
            rintro e w2 ⟨rfl, b2⟩
            have H2 := Lib.hid (And.intro (H0.out.1.trans (b2.mono H0.out.1.size)) (H0.out.2.2.1.trans (HS.out.trans hr)))
            clear b2 hr e0 e1 e2 e3 e4 e5
            go_wp2_with fail
            go_roundg (l.length - (j + 1))
            case measure => omega
            case rel => exact ⟨j + 1, by omega, rfl, by first | rfl | go_num, H2.out.2, H2.out.1⟩
        · have d5 : (kp == 5) = false := beq_eq_false_iff_ne.2 h5
          have hs2 : says S (.mk kp ⟨N.toArray⟩ ip rp mp lx) = false := by
            rw [H0.out.2.2.2.1, decide_eq_false h5]
            by_cases h2 : kp = 2
            · have hN2 : decide (N = S) = false := decide_eq_false fun e => hA ⟨Or.inl h2, e⟩
              rw [hN2]; simp
            · rw [decide_eq_false h2]; rfl
          have HS := Lib.hid (And.intro (H0.out.2.2.1.trans hs2) H0.out.1)
          clear hs2
          by_cases h2 : kp = 2
          · subst h2
            have hN : (N == S) = false := beq_eq_false_iff_ne.2 fun e => hA ⟨Or.inl rfl, e⟩
            clear hA h5 d5
            go_wp2_with fail
            go_roundg (l.length - (j + 1))
            case measure => omega
            case rel => exact ⟨j + 1, by omega, rfl, by first | rfl | go_num, HS.out.1, HS.out.2⟩
          · have d2 : (kp == 2) = false := beq_eq_false_iff_ne.2 h2
            clear hA
            go_wp2_with fail
            go_roundg (l.length - (j + 1))
            case measure => omega
            case rel => exact ⟨j + 1, by omega, rfl, by first | rfl | go_num, HS.out.1, HS.out.2⟩
    · have hk' : j = l.length := by omega
      subst hk'
      rw [List.take_length] at hno
      have hd : decide ((l.length : Int) < (l.length : Int)) = false := decide_eq_false (by omega)
      have H0 := Lib.hid (And.intro hno hb)
      clear hno hb hj hg
      go_wp2_with fail
      go_ret
      exact ⟨by rw [H0.out.1]; rfl, H0.out.2⟩
theorem is_name {l : List opa.D} (h : opa.Srt l) {o : opa.D} (hs : opa.is l o = true) : ∃ d ∈ l, d.n = o.n := by
  obtain ⟨x, -, hm, hc, -⟩ := opa.at_is h hs
  exact ⟨x, hm, ((opa.cd_zero x o).1 hc).1⟩
/-- no operator's name stands in it -/
def Free (t : Tm) : Prop := ∀ d ∈ opa.newL, says d.n t = false
theorem free_name {k : Int} {n : ByteArray} {i re im : Int} {l : List Tm} (hk : k = 2 ∨ k = 5) (h : Free (.mk k n i re im l)) : WN.pf (bl n) = false ∧ WN.bt (bl n) = false := by
  have hno : ∀ d ∈ opa.newL, d.n ≠ bl n := by
    intro d hd e
    have := h d hd
    rw [says, e] at this
    rcases hk with rfl | rfl <;> simp at this
  constructor
  · cases he : opa.is opa.newL ⟨bl n, 4, 0⟩ with
    | true => obtain ⟨d, hd, e⟩ := is_name opa.newL_inv.srt he; exact absurd e (hno d hd)
    | false => show (opa.is opa.newL ⟨bl n, 4, 0⟩ && _) = false; rw [he]; rfl
  · cases he : opa.is opa.newL ⟨bl n, 1, 0⟩ with
    | true => obtain ⟨d, hd, e⟩ := is_name opa.newL_inv.srt he; exact absurd e (hno d hd)
    | false => show (opa.is opa.newL ⟨bl n, 1, 0⟩ && _) = false; rw [he]; rfl
theorem free_text (t : Tm) : sound t = true → Free t → w2 WN t = w2 W0 t := by
  induction t using Tm.ind with
  | h k n i re im l ih =>
    intro hs hf
    have hL : k = 5 → w2L WN l = w2L W0 l := by
      rintro rfl
      rw [w2L_map, w2L_map]
      refine List.map_congr_left fun x hx => ih x hx (sound_args hs rfl x hx) fun d hd => ?_
      have := hf d hd
      rw [says] at this
      simp only [decide_true, Bool.or_true, Bool.true_and, Bool.or_eq_false_iff] at this
      cases hx2 : says d.n x with
      | true => rw [saysL_mem hx hx2] at this; exact absurd this.2 (by simp)
      | false => rfl
    rcases sound_kind hs with ⟨rfl, -⟩ | ⟨rfl, -⟩ | rfl | rfl | ⟨rfl, -, -⟩
    · simp [w2, tx, tl, isP]
    · obtain ⟨h1, h2⟩ := free_name (Or.inl rfl) hf
      have ha : atT WN (bl n) = atT W0 (bl n) := by rw [atT0]; unfold atT; rw [if_pos (Or.inr ⟨h1, h2⟩)]
      simp [w2, tx, tl, isP, ha]
    · simp [w2, tx, tl, isP]
    · simp [w2, tx, tl, isP]
    · obtain ⟨h1, h2⟩ := free_name (Or.inr rfl) hf
      have hc : compT WN (bl n) (w2L W0 l) = compT W0 (bl n) (w2L W0 l) := by
        unfold compT
        rw [h1, h2]
        simp [W0]
      simp [w2, tx, tl, hL rfl, hc]
end Go.Proofs.YtedbcmagjbgbjaaGreatDoor.wr
