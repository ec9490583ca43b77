/- The law TrailUndoes holds: for every input its Go function returns true and leaves its arguments as they were. No condition beyond the row's own. -/
import Derived.Test.YtbonlmekphkahaaRows
import Derived.WalkKit
import Derived.ProofKit
import Derived.OpenShut
import Derived.SizedLaws
import Derived.Test.YtbonlmekphkahaaT6
import Derived.Test.YtbonlmekphkahaaRow
import Derived.Test.YtbonlmekphkahaaClr
import Derived.Test.YtbonlmekphkahaaRSame
import Derived.LoopTactic
import Derived.Deep.DeepCutAuto
import Derived.Deep.CutBlock
import Derived.Deep.LoopGhost
import Derived.Deep.RegionHeld3
import Derived.StillTailTactics
namespace Go.Proofs.Ytbonlmekphkahaa.trailUndoes
open Go.ChangeShapes Go.WideShapes Go.ChangeAt Go.RowKit
open Go.ChangeMaps (open_string)
open Go.Proofs.Ytbonlmekphkahaa.hp Go.Proofs.Ytbonlmekphkahaa.cel Go.Proofs.Ytbonlmekphkahaa.kp Go.Proofs.Ytbonlmekphkahaa.ob Go.Proofs.Ytbonlmekphkahaa.arg
set_option linter.unusedVariables false
theorem own : ownKnob Try.prog.godebug = none := by kernel_rfl
theorem laidOut : laidOutB Try.prog = true := by kernel_rfl
/-! ### what rounds of writes make, and undo -/
abbrev St := List Int × List Wr
def st0 : St := ([], [])
def step (s : St) (x : Cl) : St := (sx s.1 x.2.1 x.2.2, tx s.1 s.2 x.2.1)
def sets (s : St) (a : List Cl) : St := a.foldl step s
theorem sets_next {s : St} {a : List Cl} {k : Nat} (hk : k < a.length) : sets s (a.take (k + 1)) = step (sets s (a.take k)) (a.getD k cl0) := by
  unfold sets
  rw [List.take_succ_eq_append_getElem hk, List.foldl_append]
  simp [List.getD, hk]
theorem tx_len (l : List Int) (L : List Wr) (n : Int) : (tx l L n).length ≤ L.length + 1 := by unfold tx; split <;> simp
theorem sets_len (s : St) (a : List Cl) : (sets s a).2.length ≤ s.2.length + a.length := by
  induction a generalizing s with
  | nil => exact Nat.le_refl _
  | cons x a ih =>
    have := ih (step s x)
    have h2 := tx_len s.1 s.2 x.2.1
    show (sets (step s x) a).2.length ≤ _
    simp only [List.length_cons]
    have h3 : (step s x).2 = tx s.1 s.2 x.2.1 := rfl
    rw [h3] at this; omega
theorem sets_cells (s : St) (a : List Cl) : (sets s a).1.length = s.1.length := by
  induction a generalizing s with
  | nil => rfl
  | cons x a ih => show (sets (step s x) a).1.length = _; rw [ih]; exact sx_len _ _ _
/-- the writes behind s, undone, make s -/
def Rch (s s' : St) : Prop := ∃ M, s'.2 = s.2 ++ M ∧ ub s'.1 M = s.1
theorem Rch.refl (s : St) : Rch s s := ⟨[], by simp, rfl⟩
theorem sx_back (l : List Int) (n c : Int) (h : gb l n = true) : sx (sx l n c) n (gv l n) = l := by
  have h0 := of_decide_eq_true h
  obtain ⟨k, rfl⟩ := Int.eq_ofNat_of_zero_le h0.1
  have e1 : sx l k c = l.set k c := by unfold sx; rw [if_pos h0]; rfl
  have e2 : gv l k = l.getD k 0 := by unfold gv; rw [if_pos h0]; rfl
  rw [e1, e2]
  unfold sx
  rw [if_pos ⟨h0.1, by simpa using h0.2⟩, Int.toNat_natCast, List.set_set]
  have hk : k < l.length := by omega
  have e3 : l.getD k 0 = l[k] := by simp [List.getD, hk]
  rw [e3]; exact List.set_getElem_self hk
theorem Rch.step_ {s s' : St} (h : Rch s s') (x : Cl) : Rch s (step s' x) := by
  obtain ⟨M, h1, h2⟩ := h
  by_cases hg : gb s'.1 x.2.1 = true
  · refine ⟨M ++ [(x.2.1, gv s'.1 x.2.1)], ?_, ?_⟩
    · show tx s'.1 s'.2 x.2.1 = _
      unfold tx; rw [if_pos hg, h1, List.append_assoc]
    · show ub (sx s'.1 x.2.1 x.2.2) _ = _
      unfold ub
      rw [List.foldr_append]
      show ub (sx (sx s'.1 x.2.1 x.2.2) x.2.1 (gv s'.1 x.2.1)) M = _
      rw [sx_back _ _ _ hg, h2]
  · refine ⟨M, ?_, ?_⟩
    · show tx s'.1 s'.2 x.2.1 = _
      unfold tx; rw [if_neg hg, h1]
    · show ub (sx s'.1 x.2.1 x.2.2) M = _
      unfold sx; rw [if_neg (fun hh => hg (decide_eq_true hh)), h2]
theorem Rch.sets_ {s s' : St} (h : Rch s s') (a : List Cl) : Rch s (sets s' a) := by
  induction a generalizing s' with
  | nil => exact h
  | cons x a ih => exact ih (h.step_ x)
/-- each mark's state is what the next one comes back to -/
def Chain (hs : List St) (cur : St) : Prop := ∀ j, j < hs.length → Rch ((hs ++ [cur]).getD j st0) ((hs ++ [cur]).getD (j + 1) st0)
theorem Chain.nil (cur : St) : Chain [] cur := fun j hj => by simp at hj
theorem Chain.add {hs : List St} {cur cur' : St} (h : Chain hs cur) (r : Rch cur cur') : Chain (hs ++ [cur]) cur' := by
  intro j hj
  have e : ∀ i, i < (hs ++ [cur]).length → (hs ++ [cur] ++ [cur']).getD i st0 = (hs ++ [cur]).getD i st0 := fun i hi => by
    simp only [List.getD_eq_getElem?_getD]; rw [List.getElem?_append_left hi]
  rw [e j hj]
  by_cases h1 : j + 1 < (hs ++ [cur]).length
  · rw [e _ h1]
    exact h j (by simp at h1; omega)
  · have e1 : j = hs.length := by simp at hj h1; omega
    subst e1
    have e2 : (hs ++ [cur]).getD hs.length st0 = cur := by simp [List.getD]
    have e3 : (hs ++ [cur] ++ [cur']).getD (hs.length + 1) st0 = cur' := by simp [List.getD]
    rw [e2, e3]; exact r
theorem undo_to {s s' : St} (h : Rch s s') : nb s'.2 s.2.length = (s'.2.length : Int) - s.2.length ∧ ux s'.1 s'.2 s.2.length = s.1 ∧ kx s'.2 s.2.length = s.2 := by
  obtain ⟨M, h1, h2⟩ := h
  have hl : s.2.length ≤ s'.2.length := by rw [h1, List.length_append]; omega
  refine ⟨?_, ?_, ?_⟩
  · unfold nb; rw [if_pos ⟨by omega, by omega⟩]
  · unfold ux; rw [if_pos ⟨by omega, by omega⟩, Int.toNat_natCast]
    have : s'.2.drop s.2.length = M := by rw [h1, List.drop_left]
    rw [this, h2]
  · unfold kx; rw [if_pos ⟨by omega, by omega⟩, Int.toNat_natCast, h1, List.take_left]
/-! ### in memory -/
abbrev BH (p : Nat) : Obj := .cells #[.pointer (some ⟨p, 0, none⟩)] 23 (0, 0)
abbrev BX (x : Cl) : Obj := .cells #[.int .i64 x.1, .int .i64 x.2.1, .int .u64 x.2.2] 36 (0, 0)
def SB (p q bh : Nat) (l : List Int) (L : List Wr) : Ob := Tim (SO TH TP p q l 200 L) (Blk bh (BH p))
theorem frSB {p q bh : Nat} {l : List Int} {L : List Wr} : Fr (SB p q bh l L) := (frS frmP).tim (Fr.blk _ _)
section
variable {W wr w2 : World} {p q bh b n c : Nat} {a : Option Addr} {t : List Cl} {x : Cl} {l : List Int} {L : List Wr} {N : Nat → Prop} {C : Ob}
theorem SB.cell (h : Mine W (Tim (SB p q bh l L) C) wr) : wr.cell? ⟨bh, 0, none⟩ = some (.pointer (some ⟨p, 0, none⟩)) := by
  obtain ⟨N, ⟨_, _, ⟨_, _, _, b1, _⟩, _⟩, _⟩ := Mine.at_ h
  exact (Blk.cell b1 rfl).1
theorem SB.sys (fC : Fr C) (h : Mine W (Tim (SB p q bh l L) C) wr) : ∃ K, hp.Sys TH TP wr p q K l 200 L ∧ ∀ l' L' w', SN TH TP wr p q K l' 200 L' w' → Mine W (Tim (SB p q bh l' L') C) w' := by
  obtain ⟨N, a, _, up⟩ := Mine.at_ h
  obtain ⟨K1, a1, u1⟩ := Tim.at1 fC a
  obtain ⟨K2, a2, u2⟩ := Tim.at1 (Fr.blk _ _) a1
  exact ⟨K2, a2, fun l' L' w' n => up _ _ (u1 _ _ (u2 (SO TH TP p q l' 200 L') _ n))⟩
theorem SB.len (fC : Fr C) (h : Mine W (Tim (SB p q bh l L) C) wr) : (l.length : Int) ≤ 200 := by
  obtain ⟨K, ⟨⟨F, G, a1, _⟩, _⟩, _⟩ := SB.sys fC h
  exact a1.fits
theorem cPush (fC : Fr C) (u : Int) (hu : W64 u) (h : Mine W (Tim (SB p q bh l L) C) wr) : Calls Try.prog 16 #[.pointer (some ⟨p, 0, none⟩), .int .u64 u] wr fun e w' => e = .returned (.tuple #[.int .i64 (pv l 200), .int .i64 (pe l 200)]) ∧ Mine W (Tim (SB p q bh (px l 200 u) L) C) w' := by
  obtain ⟨K, ⟨⟨F, G, a1, b1, c, d⟩, g⟩, up⟩ := SB.sys fC h
  exact (push_any a1 u hu).mono fun e w' ⟨he, nx⟩ => ⟨he, up _ _ _ (SN.heap frmP a1 b1 c d g nx)⟩
theorem cSet (fC : Fr C) (n u : Int) (hu : W64 u) (hL : L.length < 1099511627776) (h : Mine W (Tim (SB p q bh l L) C) wr) : Calls Try.prog 11 #[.pointer (some ⟨q, 0, none⟩), .pointer (some ⟨p, 0, none⟩), .int .i64 n, .int .u64 u] wr fun e w' => e = .returned (.bool (gb l n)) ∧ Mine W (Tim (SB p q bh (sx l n u) (tx l L n)) C) w' := by
  obtain ⟨K, a, up⟩ := SB.sys fC h
  exact (tset_any a hL n u hu).mono fun e w' ⟨he, nx⟩ => ⟨he, up _ _ _ nx⟩
theorem cUndo (fC : Fr C) (n : Int) (hL : L.length ≤ 1099511627776) (h : Mine W (Tim (SB p q bh l L) C) wr) : Calls Try.prog 13 #[.pointer (some ⟨q, 0, none⟩), .pointer (some ⟨p, 0, none⟩), .int .i64 n] wr fun e w' => e = .returned (.int .i64 (nb L n)) ∧ Mine W (Tim (SB p q bh (ux l L n) (kx L n)) C) w' := by
  obtain ⟨K, a, up⟩ := SB.sys fC h
  exact (tundo_any a hL n).mono fun e w' ⟨he, nx⟩ => ⟨he, up _ _ _ nx⟩
theorem cLen (fC : Fr C) (h : Mine W (Tim (SB p q bh l L) C) wr) : Calls Try.prog 19 #[.pointer (some ⟨q, 0, none⟩)] wr fun e w' => e = .returned (.int .i64 L.length) ∧ wr = w' := by
  obtain ⟨K, ⟨⟨F, G, a1, b1, c, d⟩, g⟩, up⟩ := SB.sys fC h
  have := tlen_any b1; rwa [pl_len] at this
theorem cMark (fC : Fr C) (h : Mine W (Tim (SB p q bh l L) C) wr) : Calls Try.prog 20 #[.pointer (some ⟨q, 0, none⟩)] wr fun e w' => e = .returned (.int .i64 L.length) ∧ wr = w' := by
  obtain ⟨K, ⟨⟨F, G, a1, b1, c, d⟩, g⟩, up⟩ := SB.sys fC h
  have := tmark_any b1; rwa [pl_len] at this
theorem cHLen (fC : Fr C) (h : Mine W (Tim (SB p q bh l L) C) wr) : Calls Try.prog 24 #[.pointer (some ⟨p, 0, none⟩)] wr fun e w' => e = .returned (.int .i64 l.length) ∧ wr = w' := by
  obtain ⟨K, ⟨⟨F, G, a1, b1, c, d⟩, g⟩, up⟩ := SB.sys fC h
  exact len_any a1
theorem cGet (fC : Fr C) (n : Int) (h : Mine W (Tim (SB p q bh l L) C) wr) : Calls Try.prog 25 #[.pointer (some ⟨p, 0, none⟩), .int .i64 n] wr fun e w' => e = .returned (.tuple #[.int .u64 (gv l n), .bool (gb l n)]) ∧ wr = w' := by
  obtain ⟨K, ⟨⟨F, G, a1, b1, c, d⟩, g⟩, up⟩ := SB.sys fC h
  exact get_any a1 n
/-! ### the closure -/
theorem take_next {l : List Int} {k : Nat} (h : k < l.length) : (l.take (k + 1)).map (Value.int .u64) = (l.take k).map (Value.int .u64) ++ [.int .u64 (l.getD k 0)] := by
  have e : l.getD k 0 = l[k] := by simp [List.getD, h]
  rw [List.take_succ_eq_append_getElem h, List.map_append, e]; rfl
theorem gv_at {l : List Int} {k : Nat} (h : k < l.length) : gv l (k : Int) = l.getD k 0 := by unfold gv; rw [if_pos ⟨by omega, by omega⟩]; simp
abbrev RW (v : Value) (k : Nat) (l : List Int) : Ob := Row 34 1 v k ((l.take k).map (Value.int .u64))
def RL (W : World) (p q bh : Nat) (l : List Int) (L : List Wr) (C : Ob) (gk : Nat) (v i : Value) (wr : World) : Prop := ∃ k : Nat, k ≤ l.length ∧ gk = l.length - k ∧ i = .int .i64 k ∧ Mine W (Tim (Tim (SB p q bh l L) C) (RW v k l)) wr
set_option maxHeartbeats 4000000 in
theorem look_any (fC : Fr C) (h : Mine W (Tim (SB p q bh l L) C) wr) : Calls Try.prog 23 #[.pointer (some ⟨bh, 0, none⟩)] wr fun e w' => ∃ sa sc, e = .returned (.slice sa l.length sc) ∧ Mine W (Tim (Tim (SB p q bh l L) C) (Row 34 1 (.slice sa l.length sc) l.length (l.map (Value.int .u64)))) w' := by
  have H := Lib.hid h
  have hl := SB.len fC h
  have y0 := SB.cell h
  have fF : Fr (Tim (SB p q bh l L) C) := frSB.tim fC
  obtain ⟨j0, hj, hy0, hy1, hy2⟩ := info_parts infoC
  have HJ := Lib.hid (And.intro hj (And.intro hy0 (And.intro hy1 hy2)))
  clear h hj hy0 hy1 hy2
  go_enter Try.func23, Try.ntmps23
  go_wp2_with fail
  refine (cHLen fC H.out).mono ?_; rintro e w' ⟨rfl, rfl⟩
  clear y0
  go_wp2_with fail
  go_loopg [2, 8] l.length (RL W p q bh l L C)
  case atStart =>
    refine ⟨0, by omega, by omega, rfl, ?_⟩
    obtain ⟨N, a, b, f⟩ := H.out
    exact ⟨N, ⟨N, fun _ => False, a, (Row.nil wr : Row 34 1 (.slice none 0 0) 0 ((l.take 0).map (Value.int .u64)) wr _), fun _ _ => id, fun k => by simp⟩, b, f⟩
  case round =>
    obtain ⟨k, hk, rfl, rfl, one⟩ := hrel
    by_cases hlt : k < l.length
    · obtain ⟨N, a, b, up⟩ := Mine.at_ one
      obtain ⟨M1, row, u1⟩ := Tim.at2 fF a
      obtain ⟨sa, sc, rfl⟩ := row.shape
      have y0 := SB.cell one.fst
      have hg := cGet fC (k : Int) one.fst
      rw [gv_at hlt] at hg
      have hki : (k : Int) < (l.length : Int) := by omega
      have HO := Lib.hid row.1
      have FIN := fun v' w2 (hr : w2.ownsRow 0 34 1 v' (k + 1) ((l.take k).map (Value.int .u64) ++ [.int .u64 (l.getD k 0)])) (g2 : (wr.alloc (.cells #[.int .u64 (l.getD k 0)] 34)).grownBy w2 (Value.slice sa k sc).ownBlock) (hat : v'.ownBlock = (Value.slice sa k sc).ownBlock ∨ v'.ownBlock = some (wr.alloc (.cells #[.int .u64 (l.getD k 0)] 34)).heap.size) => Lib.hid (up _ _ (u1 (RW v' (k + 1) l) w2 (by
        have h2 := Row.push row (kp.ba wr _) hr g2 hat
        unfold RW; rw [take_next hlt]; exact h2)))
      generalize l.getD k 0 = c at *
      generalize gb l k = z at *
      clear row u1 a b up one
      go_wp2_with fail
      refine hg.mono ?_; rintro e w' ⟨rfl, rfl⟩
      clear y0 hg
      go_wp2_with (at_builtin; refine wpList_append_own_at _ rfl (.tmp 17) (.tmp 19) 45 rfl 0 34 j0 (.int .u64 0) 1 8 Try.underlying45 HJ.out.1 HJ.out.2.1 HJ.out.2.2.1 HJ.out.2.2.2 rfl (by decide) _ _ _ rfl (HO.out.alloc _) ⟨wr.heap.size, 0, none⟩ 1 1 [.int .u64 c] rfl rfl (cell_one_new _ _ _) ?c2 ?b1 ?b2 ?b3 ?_)
      case c2 => intro z hz; simp at hz; subst hz; rfl
      case b1 => unfold maxLen; omega
      case b2 => omega
      case b3 => simp
      intro v' w2 hr2 g2 _ hat
      have F9 := FIN v' w2 (by simpa using hr2) g2 (by simpa using hat)
      clear FIN hr2 g2 hat HO
      go_wp2_with fail
      go_roundg (l.length - (k + 1))
      case measure => omega
      case rel => exact ⟨k + 1, by omega, rfl, by go_num, F9.out⟩
    · obtain rfl : k = l.length := by omega
      obtain ⟨N, ⟨_, _, _, row, _⟩, _⟩ := Mine.at_ one
      obtain ⟨sa, sc, rfl⟩ := row.shape
      unfold RW at one
      rw [List.take_length] at one
      have O := Lib.hid one
      clear one row
      go_wp2_with fail
      go_ret
      exact ⟨sa, sc, rfl, O.out⟩
end
/-! ### the marks, what was, and all of it -/
abbrev Mk := St × (Option Addr × Nat)
abbrev zs (l : List Int) : List Value := l.map (Value.int .u64)
abbrev vOf (x : Mk) : Value := .slice x.2.1 x.1.1.length x.2.2
def UM (hs : List Mk) (ms ws : List Value) (mv wv : Value) : Ob := Tim (Cont 34 (hs.map fun x => (vOf x, zs x.1.1))) (Tim (Row 3 1 mv ms.length ms) (Row 45 1 wv ws.length ws))
def lens (hs : List Mk) : List Value := hs.map fun x => .int .i64 x.1.2.length
def UC (hs : List Mk) (mv wv : Value) : Ob := UM hs (lens hs) (hs.map vOf) mv wv
theorem frUM {hs : List Mk} {ms ws : List Value} {mv wv : Value} : Fr (UM hs ms ws mv wv) := Fr.cont.tim (Fr.row.tim Fr.row)
theorem frUC {hs : List Mk} {mv wv : Value} : Fr (UC hs mv wv) := frUM
section
variable {W wr w1 w2 : World} {p q bh : Nat} {l : List Int} {L : List Wr} {hs : List Mk} {ms ws : List Value} {mv wv : Value} {y : Mk} {s : St}
theorem markRow (h : Mine W (Tim (SB p q bh l L) (UM hs ms ws mv wv)) wr) : (∃ a c, mv = .slice a ms.length c) ∧ wr.ownsRow 0 3 1 mv ms.length ms ∧ ∀ v' x w1 w2, Below wr.heap.size wr w1 → w2.ownsRow 0 3 1 v' (ms.length + 1) (ms ++ [x]) → w1.grownBy w2 mv.ownBlock → (v'.ownBlock = mv.ownBlock ∨ v'.ownBlock = some w1.heap.size) → Mine W (Tim (SB p q bh l L) (UM hs (ms ++ [x]) ws v' wv)) w2 := by
  obtain ⟨N, a, b, up⟩ := Mine.at_ h
  obtain ⟨M1, c, u1⟩ := Tim.at2 frSB a
  obtain ⟨M2, d, u2⟩ := Tim.at2 Fr.cont c
  obtain ⟨M3, row, u3⟩ := Tim.at1 Fr.row d
  refine ⟨row.shape, row.1, fun v' x w1 w2 b1 hr g hat => ?_⟩
  refine up _ _ (u1 _ _ (u2 _ _ (u3 (Row 3 1 v' (ms ++ [x]).length (ms ++ [x])) w2 ?_)))
  have e : (ms ++ [x]).length = ms.length + 1 := by simp
  rw [e]
  exact Row.push row b1 hr g hat
theorem wasRow (h : Mine W (Tim (Tim (SB p q bh l L) (UM hs ms ws mv wv)) (Row 34 1 (vOf y) y.1.1.length (zs y.1.1))) wr) : (∃ a c, wv = .slice a ws.length c) ∧ wr.ownsRow 0 45 1 wv ws.length ws ∧ ∀ v' w1 w2, Below wr.heap.size wr w1 → w2.ownsRow 0 45 1 v' (ws.length + 1) (ws ++ [vOf y]) → w1.grownBy w2 wv.ownBlock → (v'.ownBlock = wv.ownBlock ∨ v'.ownBlock = some w1.heap.size) → Mine W (Tim (SB p q bh l L) (UM (hs ++ [y]) ms (ws ++ [vOf y]) mv v')) w2 := by
  obtain ⟨N, a, b, up⟩ := Mine.at_ h
  obtain ⟨M0, a0, u0⟩ := Tim.at1 Fr.row a
  obtain ⟨M1, c, u1⟩ := Tim.at2 frSB a0
  obtain ⟨M2, d, u2⟩ := Tim.at2 Fr.cont c
  obtain ⟨M3, row, u3⟩ := Tim.at2 Fr.row d
  refine ⟨row.shape, row.1, fun v' w1 w2 b1 hr g hat => ?_⟩
  have h2 := up _ _ (u0 _ _ (u1 _ _ (u2 _ _ (u3 (Row 45 1 v' (ws ++ [vOf y]).length (ws ++ [vOf y])) w2 (by
    have e : (ws ++ [vOf y]).length = ws.length + 1 := by simp
    rw [e]
    exact Row.push row b1 hr g hat)))))
  refine h2.imp fun N t => t.right_.map2 fun N t => t.rot.map1 fun N t => ?_
  have h3 := Cont.add (v := vOf y) (xs := zs y.1.1) (by simpa using t)
  simpa using h3
theorem markRow2 (h : Mine W (Tim (SB p q bh l L) (UC hs mv wv)) wr) : (∃ a c, mv = .slice a hs.length c) ∧ wr.ownsRow 0 3 1 mv hs.length (lens hs) ∧ ∀ v' x w1 w2, Below wr.heap.size wr w1 → w2.ownsRow 0 3 1 v' (hs.length + 1) (lens hs ++ [x]) → w1.grownBy w2 mv.ownBlock → (v'.ownBlock = mv.ownBlock ∨ v'.ownBlock = some w1.heap.size) → Mine W (Tim (SB p q bh l L) (UM hs (lens hs ++ [x]) (hs.map vOf) v' wv)) w2 := by
  have := markRow h
  rwa [show (lens hs).length = hs.length by simp [lens]] at this
theorem wasRow2 (h : Mine W (Tim (Tim (SB p q bh l L) (UM hs (lens hs ++ [.int .i64 y.1.2.length]) (hs.map vOf) mv wv)) (Row 34 1 (vOf y) y.1.1.length (zs y.1.1))) wr) : (∃ a c, wv = .slice a hs.length c) ∧ wr.ownsRow 0 45 1 wv hs.length (hs.map vOf) ∧ ∀ v' w1 w2, Below wr.heap.size wr w1 → w2.ownsRow 0 45 1 v' (hs.length + 1) (hs.map vOf ++ [vOf y]) → w1.grownBy w2 wv.ownBlock → (v'.ownBlock = wv.ownBlock ∨ v'.ownBlock = some w1.heap.size) → Mine W (Tim (SB p q bh l L) (UC (hs ++ [y]) mv v')) w2 := by
  have := wasRow h
  rw [show (hs.map vOf).length = hs.length by simp] at this
  refine ⟨this.1, this.2.1, fun v' w1 w2 b1 hr g hat => ?_⟩
  have h2 := this.2.2 v' w1 w2 b1 hr g hat
  unfold UC
  rw [show lens (hs ++ [y]) = lens hs ++ [.int .i64 y.1.2.length] by simp [lens], show (hs ++ [y]).map vOf = hs.map vOf ++ [vOf y] by simp]
  exact h2
theorem marks_at (h : Mine W (Tim (SB p q bh l L) (UC hs mv wv)) wr) {k : Nat} (hk : k < hs.length) : ∃ g c, mv = .slice (some ⟨g, 0, none⟩) hs.length c ∧ hs.length ≤ c ∧ wr.cell? ⟨g, k, none⟩ = some (.int .i64 hs[k].1.2.length) := by
  obtain ⟨N, a, b, up⟩ := Mine.at_ h
  obtain ⟨M1, c, u1⟩ := Tim.at2 frSB a
  obtain ⟨M2, d, u2⟩ := Tim.at2 Fr.cont c
  obtain ⟨M3, row, u3⟩ := Tim.at1 Fr.row d
  obtain ⟨a4, c4, rfl⟩ := row.shape
  have el : (lens hs).length = hs.length := by simp [lens]
  obtain ⟨g, x, e, _, hc, hx, hcell⟩ := Row.look row (k := k) (by rw [el]; exact hk)
  subst e
  refine ⟨g, c4, by rw [el], by rw [el] at hc; exact hc, hcell.trans ?_⟩
  rw [← hx]; simp [lens, hk]
theorem was_at (h : Mine W (Tim (SB p q bh l L) (UC hs mv wv)) wr) {k : Nat} (hk : k < hs.length) : ∃ g c, wv = .slice (some ⟨g, 0, none⟩) hs.length c ∧ hs.length ≤ c ∧ wr.cell? ⟨g, k, none⟩ = some (vOf hs[k]) := by
  obtain ⟨N, a, b, up⟩ := Mine.at_ h
  obtain ⟨M1, c, u1⟩ := Tim.at2 frSB a
  obtain ⟨M2, d, u2⟩ := Tim.at2 Fr.cont c
  obtain ⟨M3, row, u3⟩ := Tim.at2 Fr.row d
  obtain ⟨a4, c4, rfl⟩ := row.shape
  have el : (hs.map vOf).length = hs.length := by simp
  obtain ⟨g, x, e, _, hc, hx, hcell⟩ := Row.look row (k := k) (by rw [el]; exact hk)
  subst e
  refine ⟨g, c4, by rw [el], by rw [el] at hc; exact hc, hcell.trans ?_⟩
  rw [← hx]; simp [hk]
theorem cont_at (h : Mine W (Tim (SB p q bh l L) (UC hs mv wv)) wr) {k : Nat} (hk : k < hs.length) : wr.ownsRow 0 34 1 (vOf hs[k]) hs[k].1.1.length (zs hs[k].1.1) := by
  obtain ⟨N, a, b, up⟩ := Mine.at_ h
  obtain ⟨M1, c, u1⟩ := Tim.at2 frSB a
  obtain ⟨M2, d, u2⟩ := Tim.at1 (Fr.row.tim Fr.row) c
  have := d.1 (vOf hs[k], zs hs[k].1.1) (List.mem_map.2 ⟨hs[k], List.getElem_mem hk, rfl⟩)
  simpa using this
/-- what is held of the world in the last loop's region that draws -/
def SK (W : World) (p q bh : Nat) (s : St) (hs : List Mk) (mv wv : Value) (w : World) : Prop := Mine W (Tim (SB p q bh s.1 s.2) (UC hs mv wv)) w
def QL (v : Value) (l : List Int) (w : World) : Prop := w.ownsRow 0 34 1 v l.length (zs l)
theorem frSK : Fr (Tim (SB p q bh s.1 s.2) (UC hs mv wv)) := frSB.tim frUC
abbrev XB (b : Nat) (x : Cl) (hs : List Mk) (mv wv : Value) : Ob := Tim (UC hs mv wv) (Blk b (BX x))
theorem frXB {b : Nat} {x : Cl} : Fr (XB b x hs mv wv) := frUC.tim (Fr.blk _ _)
theorem XB.of {x : Cl} (h : Mine W (Tim (SB p q bh l L) (UC hs mv wv)) wr) : Mine W (Tim (SB p q bh l L) (XB wr.heap.size x hs mv wv)) (wr.alloc (BX x)) := (Mine.blk (frSB.tim frUC) h (BX x)).imp fun N t => t.right_
theorem XB.cells {b : Nat} {x : Cl} (h : Mine W (Tim (SB p q bh l L) (XB b x hs mv wv)) wr) : wr.cell? ⟨b, 0, none⟩ = some (.int .i64 x.1) ∧ wr.cell? ⟨b, 1, none⟩ = some (.int .i64 x.2.1) ∧ wr.cell? ⟨b, 2, none⟩ = some (.int .u64 x.2.2) := by
  obtain ⟨N, a, _⟩ := h.snd.snd
  exact ⟨(Blk.cell a rfl).1, (Blk.cell a rfl).1, (Blk.cell a rfl).1⟩
theorem XB.drop {b : Nat} {x : Cl} (h : Mine W (Tim (SB p q bh l L) (XB b x hs mv wv)) wr) : Mine W (Tim (SB p q bh l L) (UC hs mv wv)) wr :=
  (Mine.snd (h.imp fun N t => (t.swap.map1 fun N t => t.swap).right_)).imp fun N t => t.swap
theorem SK.drew (h : SK W p q bh s hs mv wv wr) : SK W p q bh s hs mv wv wr.drew := Mine.below frSK h (bdr _)
theorem QL.drew {v : Value} {l : List Int} (h : QL v l wr) : QL v l wr.drew := ow_keep h fun i e => rfl
theorem lenS (h : SK W p q bh s hs mv wv wr) : Calls Try.prog 19 #[.pointer (some ⟨q, 0, none⟩)] wr fun e w' => e = .returned (.int .i64 s.2.length) ∧ SK W p q bh s hs mv wv w' :=
  (cLen frUC h).mono fun e w' ⟨he, hw⟩ => ⟨he, hw ▸ h⟩
theorem lookS (h : SK W p q bh s hs mv wv wr) : Calls Try.prog 23 #[.pointer (some ⟨bh, 0, none⟩)] wr fun e w' => ∃ sa sc, e = .returned (.slice sa s.1.length sc) ∧ SK W p q bh s hs mv wv w' ∧ QL (.slice sa s.1.length sc) s.1 w' :=
  (look_any frUC h).mono fun e w' ⟨sa, sc, he, hm⟩ => ⟨sa, sc, he, hm.fst, by obtain ⟨N, a, _⟩ := hm.snd; exact a.1⟩
theorem sameS {a b : Option Addr} {c d : Nat} {l : List Int} (hn : l.length ≤ 1048576) (h : SK W p q bh s hs mv wv wr) (h1 : QL (.slice a l.length c) l wr) (h2 : QL (.slice b l.length d) l wr) :
    Calls Try.prog 26 #[.slice a l.length c, .slice b l.length d] wr fun e w' => e = .returned (.bool true) ∧ SK W p q bh s hs mv wv w' :=
  (same_any hn h1 h2).mono fun e w' ⟨he, m, hw⟩ => ⟨he, hw ▸ Mine.drewN frSK h m⟩
end
def R1 (W : World) (p q bh N : Nat) (gk : Nat) (i : Value) (wr : World) : Prop := ∃ (k : Nat) (l : List Int), k ≤ N ∧ gk = N - k ∧ i = .int .i64 k ∧ Mine W (Tim (SB p q bh l []) Nob) wr
/-- states at the marks, and the state now -/
def Inv (hs : List Mk) (s : St) : Prop := Chain (hs.map (·.1)) s ∧ ((hs.map (·.1) ++ [s]).getD 0 st0).2 = [] ∧ s.2.length ≤ 20 * hs.length
def R2 (W : World) (p q bh N : Nat) (gk : Nat) (mv wv i : Value) (wr : World) : Prop := ∃ (hs : List Mk) (s : St), hs.length ≤ N ∧ gk = N - hs.length ∧ i = .int .i64 hs.length ∧ Inv hs s ∧ Mine W (Tim (SB p q bh s.1 s.2) (UC hs mv wv)) wr
def R3 (W : World) (p q bh : Nat) (s : St) (hs : List Mk) (mv wv : Value) (t : List Cl) (n : Nat) (gk : Nat) (i : Value) (wr : World) : Prop := ∃ k : Nat, k ≤ n ∧ gk = n - k ∧ i = .int .i64 k ∧ Mine W (Tim (SB p q bh (sets s (t.take (min k 20))).1 (sets s (t.take (min k 20))).2) (UC hs mv wv)) wr
def at_ (hs : List Mk) (s : St) (k : Nat) : St := (hs.map (·.1) ++ [s]).getD k st0
def R4 (W : World) (p q bh : Nat) (hs : List Mk) (s : St) (mv wv : Value) (gk : Nat) (i : Value) (wr : World) : Prop := ∃ k : Nat, k ≤ hs.length ∧ gk = k ∧ i = .int .i64 ((k : Int) - 1) ∧ SK W p q bh (at_ hs s k) hs mv wv wr
def CutR (W : World) (p q bh : Nat) (mv wv : Value) (wr : World) : Prop := ∃ (hs : List Mk) (s : St), hs.length ≤ 8 ∧ Inv hs s ∧ SK W p q bh s hs mv wv wr
theorem UC.start {W wr : World} {A : Ob} (h : Mine W A wr) : Mine W (Tim A (UC [] (.slice none 0 0) (.slice none 0 0))) wr := by
  obtain ⟨N, a, b, f⟩ := h
  have hd : ∀ k : Nat, False → ¬ False := fun _ h => h.elim
  have he : ∀ k : Nat, False ↔ False ∨ False := fun k => by simp
  exact ⟨N, ⟨N, fun _ => False, a, ⟨fun _ => False, fun _ => False, Cont.nil _, ⟨fun _ => False, fun _ => False, Row.nil _, Row.nil _, hd, he⟩, hd, he⟩, fun k _ h => h, fun k => by simp⟩, b, f⟩
theorem CutR.mk {W wr : World} {p q bh : Nat} {hs : List Mk} {s : St} {mv wv : Value} (h8 : hs.length ≤ 8) (inv : Inv hs s) (h : Mine W (Tim (SB p q bh s.1 s.2) (UC hs mv wv)) wr) : CutR W p q bh mv wv wr := ⟨hs, s, h8, inv, h⟩
theorem infoS : (Try.prog.info? 45).map (fun i => (i.zero, i.size, i.bytes)) = some (some (.slice none 0 0), 1, 24) := by kernel_rfl
theorem Inv.nil (l : List Int) : Inv [] (l, []) := ⟨Chain.nil _, rfl, by simp⟩
theorem Inv.next {hs : List Mk} {s : St} (h : Inv hs s) (sa : Option Addr × Nat) (a : List Cl) (ha : a.length ≤ 20) : Inv (hs ++ [(s, sa)]) (sets s a) := by
  refine ⟨?_, ?_, ?_⟩
  · have e : (hs ++ [(s, sa)]).map (·.1) = hs.map (·.1) ++ [s] := by simp
    rw [e]
    exact h.1.add ((Rch.refl s).sets_ a)
  · have e : (hs ++ [(s, sa)]).map (·.1) = hs.map (·.1) ++ [s] := by simp
    rw [e]
    have h2 := h.2.1
    have e2 : (hs.map (·.1) ++ [s] ++ [sets s a]).getD 0 st0 = (hs.map (·.1) ++ [s]).getD 0 st0 := by
      simp only [List.getD_eq_getElem?_getD]; rw [List.getElem?_append_left (by simp)]
    rw [e2]; exact h2
  · have h3 := h.2.2
    have := sets_len s a
    simp only [List.length_append, List.length_cons, List.length_nil]; omega
theorem at_last (hs : List Mk) (s : St) : at_ hs s hs.length = s := by simp [at_, List.getD]
theorem at_mark {hs : List Mk} {s : St} {k : Nat} (hk : k < hs.length) : at_ hs s k = hs[k].1 := by
  unfold at_
  rw [List.getD_eq_getElem?_getD, List.getElem?_append_left (by simpa using hk)]
  simp [hk]
theorem at_len {hs : List Mk} {s : St} (h : Inv hs s) : ∀ k, k ≤ hs.length → (at_ hs s k).2.length ≤ 20 * hs.length := by
  intro k hk
  have key : ∀ d k, k + d = hs.length → (at_ hs s k).2.length ≤ 20 * hs.length := by
    intro d
    induction d with
    | zero => intro k e; have : k = hs.length := by omega
              subst this; rw [at_last]; exact h.2.2
    | succ d ih =>
      intro k e
      obtain ⟨M, h1, _⟩ := h.1 k (by simp; omega)
      have h2 := ih (k + 1) (by omega)
      unfold at_ at h2 ⊢
      rw [h1, List.length_append] at h2
      omega
  exact key (hs.length - k) k (by omega)
theorem cells_len {hs : List Mk} {s : St} (h : Inv hs s) : ∀ k, k ≤ hs.length → (at_ hs s k).1.length = s.1.length := by
  intro k hk
  have key : ∀ d k, k + d = hs.length → (at_ hs s k).1.length = s.1.length := by
    intro d
    induction d with
    | zero => intro k e; have : k = hs.length := by omega
              subst this; rw [at_last]
    | succ d ih =>
      intro k e
      obtain ⟨M, _, h1⟩ := h.1 k (by simp; omega)
      have h2 := ih (k + 1) (by omega)
      unfold at_ at h2 ⊢
      rw [← h1, ub_len]; exact h2
  exact key (hs.length - k) k (by omega)
theorem undo_at {hs : List Mk} {s : St} (inv : Inv hs s) {j : Nat} (hj : j < hs.length) : nb (at_ hs s (j + 1)).2 (at_ hs s j).2.length = ((at_ hs s (j + 1)).2.length : Int) - (at_ hs s j).2.length ∧ ux (at_ hs s (j + 1)).1 (at_ hs s (j + 1)).2 (at_ hs s j).2.length = (at_ hs s j).1 ∧ kx (at_ hs s (j + 1)).2 (at_ hs s j).2.length = (at_ hs s j).2 :=
  undo_to (inv.1 j (by simpa using hj))
theorem KP {W w : World} {p q bh gm gw cm cw j cj : Nat} {aj : Option Addr} {y z : St} {hs : List Mk} (hj : hs[j]? = some (y, (aj, cj))) (h : SK W p q bh z hs (.slice (some ⟨gm, 0, none⟩) hs.length cm) (.slice (some ⟨gw, 0, none⟩) hs.length cw) w) :
    w.cell? ⟨gm, j, none⟩ = some (.int .i64 y.2.length) ∧ w.cell? ⟨gw, j, none⟩ = some (.slice aj y.1.length cj) ∧ SK W p q bh z hs (.slice (some ⟨gm, 0, none⟩) hs.length cm) (.slice (some ⟨gw, 0, none⟩) hs.length cw) w := by
  obtain ⟨hl, he⟩ := List.getElem?_eq_some_iff.1 hj
  obtain ⟨g1, c1, e1, _, h1⟩ := marks_at h hl
  obtain ⟨g2, c2, e2, _, h2⟩ := was_at h hl
  rw [he] at h1 h2
  injection e1 with e1 _ _; injection e1 with e1; injection e1 with e1 _ _
  injection e2 with e2 _ _; injection e2 with e2; injection e2 with e2 _ _
  subst e1; subst e2
  exact ⟨h1, h2, h⟩
theorem QP {W w : World} {p q bh j cj : Nat} {aj : Option Addr} {mv wv : Value} {y z : St} {hs : List Mk} (hj : hs[j]? = some (y, (aj, cj))) (h : SK W p q bh z hs mv wv w) : QL (.slice aj y.1.length cj) y.1 w := by
  obtain ⟨hl, he⟩ := List.getElem?_eq_some_iff.1 hj
  have := cont_at h hl
  rw [he] at this
  exact this
set_option maxHeartbeats 16000000 in
set_option maxRecDepth 100000 in
theorem walk (w : World) (a0 : Option Addr) (n0 c0 : Nat) (t0 : List Int) (x0 : Ints w a0 n0 t0) (a1 : Option Addr) (n1 c1 : Nat) (t1 : Nat → Cr) (x1 : CRows w a1 n1 t1) :
    Calls Try.prog 5 #[.slice a0 n0 c0, .slice a1 n1 c1] w fun e w' => e = .returned (.bool true) ∧ Below w.heap.size w w' := by
  have hn0 : n0 ≤ 17592186044416 := by have := x0.reach; omega
  have hn1 : n1 ≤ 8796093022208 := by have := x1.reach; omega
  have X := Lib.hid x0
  have Y := Lib.hid x1
  have hmf : ∀ (fn : Fn) (first cap : Array Value) (w : World), (Instr.makeFunc fn first cap).run Try.prog w = .ok (.func fn first cap) w := fun _ _ _ _ => rfl
  clear x0 x1
  go_enter Try.func5, Try.ntmps5
  go_wp2_with fail
  refine (new_any 200 w).mono ?_; rintro e w1 ⟨rfl, h1⟩
  rw [show max 0 (min 200 1048576) = (200 : Int) by decide] at h1
  have H1 := Lib.hid (Mine.heap1 h1)
  clear h1
  generalize hp : w.heap.size = p at *
  go_wp2_with fail
  refine (tnew_any w1).mono ?_; rintro e w2 ⟨rfl, hw2⟩
  have H2 : Mine w _ w2 := (hw2 ▸ (Mine.trail frH H1.out))
  clear hw2 H1
  generalize w1.heap.size = q at *
  have S2 := Lib.hid (H2.imp fun N h => Sys.of_tim Gd.nil h)
  clear H2
  go_upto_region 2 with fail
  have H3 := Lib.hid (show Mine w (Tim (SB p q w2.heap.size [] []) Nob) (w2.alloc (BH p)) from (Mine.blk (frS frmP) S2.out (BH p)).nob)
  clear S2
  change Code.wp _ _ _ _ (w2.alloc (BH p))
  generalize w2.alloc (BH p) = w3 at *
  generalize w2.heap.size = bh at *
  go_wp2_with fail
  go_loopg [21] n0 (R1 w p q bh n0)
  case atStart => exact ⟨0, [], by omega, by omega, rfl, H3.out⟩
  case round =>
    obtain ⟨k, l, hk, rfl, rfl, one⟩ := hrel
    by_cases hlt : k < n0
    · obtain ⟨A, hA, hc, hix⟩ := X.out.look hlt
      have hc' := ((Mine.bel one).cell hA).trans hc
      have hcw := Lib.hid (X.out.at_wf k)
      have TW := Lib.hid one
      generalize t0.getD k 0 = c at *
      clear hc one
      by_cases h60 : k < 60
      · as_aux_lemma =>
        have y0 := SB.cell TW.out
        go_wp2_with fail
        refine (cPush Fr.nob c hcw.out TW.out).mono ?_; rintro e w6 ⟨rfl, t5⟩
        have T5 := Lib.hid t5
        clear t5 TW hc' y0
        go_wp2_with fail
        go_roundg (n0 - (k + 1))
        case measure => omega
        case rel => exact ⟨k + 1, px l 200 c, by omega, rfl, by go_num, T5.out⟩
      · as_aux_lemma =>
        go_wp2_with fail
        go_roundg (n0 - (k + 1))
        case measure => omega
        case rel => exact ⟨k + 1, l, by omega, rfl, by go_num, TW.out⟩
    · obtain rfl : k = n0 := by omega
      have S6 := Lib.hid one.fst
      clear one H3 X hlt hk
      go_upto_block 2 with fail
      go_cut [10, 11] (fun mv wv wx => CutR w p q bh mv wv wx)
      case first =>
        go_wp2_with fail
        go_loopg [10, 11, 35] (min n1 8) (R2 w p q bh (min n1 8))
        case atStart =>
          exact ⟨[], (l, []), by simp, by simp, rfl, Inv.nil l, UC.start S6.out⟩
        case round =>
          obtain ⟨hs, s, hk, rfl, rfl, inv, one⟩ := hrel
          by_cases hlt : hs.length < n1
          · obtain ⟨A, hA, hc, hcr, hix⟩ := Y.out.look hlt
            have hc' := ((Mine.bel one).cell hA).trans hc
            generalize t1 hs.length = x2 at *
            obtain ⟨a2, n2, c2, t2⟩ := x2
            dsimp only at hc hcr hc'
            have CR := Lib.hid hcr
            have hki : (hs.length : Int) < (n1 : Int) := by omega
            by_cases h8 : hs.length < 8
            · have hge : decide ((hs.length : Int) ≥ 8) = false := by simp; omega
              go_upto_region 15 with fail
              have hL : s.2.length ≤ 160 := by have := inv.2.2; omega
              have INV := Lib.hid inv
              obtain ⟨⟨am, cm, rfl⟩, ho1, up1⟩ := markRow2 one
              have hmk := cMark frUC one
              have OM := Lib.hid ho1
              have UP1 := Lib.hid up1
              obtain ⟨j0, hj, hy0, hy1, hy2⟩ := info_parts infoI
              have HJ := Lib.hid (And.intro hj (And.intro hy0 (And.intro hy1 hy2)))
              obtain ⟨j1, hj1, hy01, hy11, hy21⟩ := info_parts infoS
              have HJ1 := Lib.hid (And.intro hj1 (And.intro hy01 (And.intro hy11 hy21)))
              clear one inv ho1 up1 hcr hc hj hy0 hy1 hy2 hj1 hy01 hy11 hy21 hix hc' hge
              go_wp2_with fail
              refine hmk.mono ?_; rintro e w' ⟨rfl, rfl⟩
              clear hmk
              go_wp2_with (at_builtin; refine wpList_append_own_at _ rfl (.tmp 42) (.tmp 45) 58 rfl 0 3 j0 (.int .i64 0) 1 8 Try.underlying58 HJ.out.1 HJ.out.2.1 HJ.out.2.2.1 HJ.out.2.2.2 rfl (by decide) _ _ _ rfl (OM.out.alloc _) ⟨wr.heap.size, 0, none⟩ 1 1 [.int .i64 s.2.length] rfl rfl (cell_one_new _ _ _) ?c2 ?b1 ?b2 ?b3 ?_)
              case c2 => intro z hz; simp at hz; subst hz; rfl
              case b1 => unfold maxLen; omega
              case b2 => omega
              case b3 => simp
              intro v' w4 hr2 g2 _ hat
              have S4 := Lib.hid (UP1.out v' (.int .i64 s.2.length) _ w4 (kp.ba wr _) (by simpa using hr2) g2 (by simpa using hat))
              clear UP1 hr2 g2 hat OM
              go_wp2_with fail
              refine (look_any frUM S4.out).mono ?_; rintro e w5 ⟨sa, sc, rfl, t5⟩
              obtain ⟨⟨aw, cw, rfl⟩, ho1, up1⟩ := wasRow2 (y := (s, (sa, sc))) t5
              have OM := Lib.hid ho1
              have UP1 := Lib.hid up1
              clear ho1 up1 t5 S4
              go_wp2_with (at_builtin; refine wpList_append_own_at _ rfl (.tmp 47) (.tmp 50) 59 rfl 0 45 j1 (.slice none 0 0) 1 24 Try.underlying59 HJ1.out.1 HJ1.out.2.1 HJ1.out.2.2.1 HJ1.out.2.2.2 rfl (by decide) _ _ _ rfl (OM.out.alloc _) ⟨w5.heap.size, 0, none⟩ 1 1 [.slice sa s.1.length sc] rfl rfl (cell_one_new _ _ _) ?c2 ?b1 ?b2 ?b3 ?_)
              case c2 => intro z hz; simp at hz; subst hz; rfl
              case b1 => unfold maxLen; omega
              case b2 => omega
              case b3 => simp
              intro v2 w6 hr2 g2 _ hat
              have S6 := Lib.hid (UP1.out v2 _ w6 (kp.ba w5 _) (by simpa using hr2) g2 (by simpa using hat))
              clear UP1 hr2 g2 hat OM
              have S7 := Lib.hid (show Mine w (Tim (SB p q bh (sets s ((t2).take (min 0 20))).1 (sets s (t2.take (min 0 20))).2) (UC (hs ++ [(s, (sa, sc))]) v' v2)) w6 from S6.out)
              have hn2 : n2 ≤ 8796093022208 := by have := CR.out.reach; omega
              have htl := Lib.hid CR.out.len
              go_wp2_with fail
              go_loopg [54] n2 (R3 w p q bh s (hs ++ [(s, (sa, sc))]) v' v2 t2 n2)
              case atStart => exact ⟨0, by omega, by omega, rfl, S7.out⟩
              case round =>
                obtain ⟨k2, hk2, rfl, rfl, one⟩ := hrel
                by_cases hl2 : k2 < n2
                · obtain ⟨gx, o, hg, c0', c1', c2', hix⟩ := CR.out.look (k := k2) hl2
                  have TW := Lib.hid one
                  have hB := Mine.bel one
                  have d0 := (hB.cell (p := ⟨gx, o, none⟩) hg).trans c0'
                  have d1 := (hB.cell (p := ⟨gx, o + 1, none⟩) hg).trans c1'
                  have d2 := (hB.cell (p := ⟨gx, o + 2, none⟩) hg).trans c2'
                  have hwf := CR.out.wf k2
                  have hnx := fun h20 : k2 < 20 => Lib.hid (show sets s (t2.take (min (k2 + 1) 20)) = step (sets s (t2.take (min k2 20))) (t2.getD k2 cl0) by
                    rw [Nat.min_eq_left (by omega), Nat.min_eq_left (by omega)]; exact sets_next (by rw [htl.out]; exact hl2))
                  have hln : (sets s (t2.take (min k2 20))).2.length ≤ 2000 := by
                    have := sets_len s (t2.take (min k2 20))
                    simp only [List.length_take] at this
                    omega
                  generalize hs9 : sets s (t2.take (min k2 20)) = s9 at *
                  have HS9 := Lib.hid hs9
                  generalize t2.getD k2 cl0 = xx at *
                  obtain ⟨d, at9, cc⟩ := xx
                  have HW := Lib.hid (show W64 cc from hwf.2.2)
                  have hki3 : (k2 : Int) < (n2 : Int) := by omega
                  clear c0' c1' c2' hB hwf one hs9
                  go_upto_region 20 with fail
                  obtain ⟨bx, hbx⟩ : ∃ bx, bx = wr.heap.size := ⟨_, rfl⟩
                  obtain ⟨wa, hwa⟩ : ∃ wa, wa = wr.alloc (BX (d, at9, cc)) := ⟨_, rfl⟩
                  have TA : Hid (Mine w (Tim (SB p q bh s9.1 s9.2) (XB bx (d, at9, cc) (hs ++ [(s, (sa, sc))]) v' v2)) wa) := by rw [hwa, hbx]; exact Lib.hid (XB.of TW.out)
                  change Code.wp _ _ _ _ (wr.alloc (BX (d, at9, cc)))
                  rw [← hwa, ← hbx]
                  clear hwa hbx d0 d1 d2 hix TW
                  by_cases h20 : k2 < 20
                  · as_aux_lemma =>
                    obtain ⟨x0, x1, x2⟩ := XB.cells TA.out
                    have x3 := SB.cell TA.out
                    dsimp only at x0 x1 x2
                    have e := hnx h20
                    go_wp2_with fail
                    refine (cSet frXB at9 cc HW.out (by omega) TA.out).mono ?_; rintro e w5 ⟨rfl, t5⟩
                    have T5 := Lib.hid t5
                    clear t5 TA x0 x1 x2 x3 hnx
                    go_wp2_with fail
                    go_roundg (n2 - (k2 + 1))
                    case measure => omega
                    case rel => exact ⟨k2 + 1, by omega, rfl, by go_num, by rw [e.out]; exact XB.drop T5.out⟩
                  · as_aux_lemma =>
                    have e := Lib.hid (show sets s (t2.take (min (k2 + 1) 20)) = s9 by rw [← HS9.out, Nat.min_eq_right (by omega), Nat.min_eq_right (by omega)])
                    clear hnx
                    go_wp2_with fail
                    go_roundg (n2 - (k2 + 1))
                    case measure => omega
                    case rel => exact ⟨k2 + 1, by omega, rfl, by go_num, by rw [e.out]; exact XB.drop TA.out⟩
                · obtain rfl : k2 = n2 := by omega
                  have e : t2.take (min k2 20) = t2.take 20 := by
                    rcases Nat.le_total k2 20 with h | h
                    · rw [Nat.min_eq_left h, List.take_of_length_le (by rw [htl.out]; exact Nat.le_refl _), List.take_of_length_le (by rw [htl.out]; exact h)]
                    · rw [Nat.min_eq_right h]
                  rw [e] at one
                  have O := Lib.hid one
                  have IN := Lib.hid (INV.out.next (sa, sc) (t2.take 20) (by simp only [List.length_take]; omega))
                  clear one e hl2 hk2 S7 S6
                  go_wp2_with fail
                  go_roundg (min n1 8 - (hs.length + 1))
                  case measure => omega
                  case rel => exact ⟨hs ++ [(s, (sa, sc))], sets s (t2.take 20), by first | omega | (simp; omega) | simp, by first | (simp; done) | (simp; omega), by (have e8 : (hs ++ [(s, (sa, sc))]).length = hs.length + 1 := by simp); rw [e8]; first | rfl | (go_num; done) | (simp; done), IN.out, O.out⟩
            · have FIN := Lib.hid (CutR.mk (by omega) inv one)
              clear one inv hcr hc hk
              go_wp2_with fail
              go_meet
              exact FIN.out
          · have FIN := Lib.hid (CutR.mk (by omega) inv one)
            clear one inv
            go_wp2_with fail
            go_meet
            exact FIN.out
      case rest =>
        obtain ⟨hs, s, h8, inv, sk⟩ := hcut
        have SKH := Lib.hid sk
        have INV := Lib.hid inv
        have HL := Lib.hid (at_len inv)
        obtain ⟨⟨am, cm, rfl⟩, _, _⟩ := markRow2 sk
        have hwr : wrap64 ((hs.length : Int) - 1) = (hs.length : Int) - 1 := by unfold wrap64; omega
        clear sk inv S6 Y hn1
        go_wp2_with fail
        go_loopg [16] hs.length (R4 w p q bh hs s _ _)
        case atStart => exact ⟨hs.length, Nat.le_refl _, rfl, rfl, by rw [at_last]; exact SKH.out⟩
        case round =>
          obtain ⟨k5, hk5, hgk, rfl, one⟩ := hrel
          by_cases hk0 : k5 = 0
          · subst hk0
            have S0 := Lib.hid one
            have h0 := Lib.hid (show (at_ hs s 0).2 = [] from INV.out.2.1)
            generalize at_ hs s 0 = y at *
            obtain ⟨y1, y2⟩ := y
            have hy : y2 = [] := h0.out
            subst hy
            clear one SKH INV HL
            go_wp2_with fail
            refine (lenS S0.out).mono ?_; rintro e w9 ⟨rfl, s9⟩
            have HB := Lib.hid (Mine.bel s9)
            clear s9 S0
            go_wp2_with fail
            refine (awake_any _).mono ?_; rintro e w10 ⟨rfl, b9⟩
            go_wp2_with fail
            go_ret
            exact ⟨rfl, HB.out.trans (b9.mono HB.out.size)⟩
          · obtain ⟨j, rfl⟩ : ∃ j, k5 = j + 1 := ⟨k5 - 1, by omega⟩
            have ej : ((j + 1 : Nat) : Int) - 1 = (j : Int) := by omega
            obtain ⟨e1, e2, e3⟩ := undo_at INV.out (j := j) (by omega)
            have hlen := HL.out (j + 1) (by omega)
            obtain ⟨gm, cm', e0, hcm, hm⟩ := marks_at one (k := j) (by omega)
            obtain ⟨gw, cw, e9, hcw, hw⟩ := was_at one (k := j) (by omega)
            injection e0 with ea _ ec
            subst ea; subst ec; subst e9
            have hy := Lib.hid (at_mark (hs := hs) (s := s) (k := j) (by omega))
            obtain ⟨⟨y, aj, cj⟩, hyj⟩ : ∃ x, x = hs[j]'(by omega) := ⟨_, rfl⟩
            rw [← hyj] at hm hw hy
            have HY := Lib.hid (show hs[j]? = some (y, (aj, cj)) by rw [hyj]; exact List.getElem?_eq_getElem (by omega))
            have hu := cUndo frUC (y.2.length : Int) (by omega) one
            have hye : at_ hs s j = y := hy.out
            rw [hye] at e1 e2 e3
            rw [e1, e2, e3] at hu
            have hj : j < hs.length := by omega
            have hji : (j : Int) < (hs.length : Int) := by omega
            have HU := Lib.hid hu
            have EU := Lib.hid (And.intro e1 (And.intro e2 e3))
            have y0 := SB.cell one
            clear hu e1 e2 e3 hyj
            generalize at_ hs s (j + 1) = z at *
            have ONE := Lib.hid one
            have hlen2 := Lib.hid hlen
            have hj2 : j ≤ 8 := by omega
            have ISL := Lib.hid (show y.1.length ≤ 1048576 by
              have := HL.out
              have h200 := SB.len frUC SKH.out
              have hc := cells_len INV.out j (by omega)
              rw [hye] at hc
              omega)
            clear one hlen
            go_upto_region 27 with fail
            go_still_tail 6, (by kernel_rfl)
            change wpList _ _ _ _ _ wr.drew
            obtain ⟨wd, hwd⟩ : ∃ wd, wd = wr.drew := ⟨_, rfl⟩
            have OD := Lib.hid (show SK w p q bh z hs _ _ wd by rw [hwd]; exact SK.drew ONE.out)
            rw [← hwd]
            have hu := cUndo frUC (y.2.length : Int) (by have := hlen2.out; omega) OD.out
            rw [EU.out.1, EU.out.2.1, EU.out.2.2] at hu
            clear hwd ONE y0 hm hw HU
            go_wp2_with fail
            refine hu.mono ?_; rintro e w9 ⟨rfl, t9⟩
            have hSN : SK w p q bh y hs (.slice (some ⟨gm, 0, none⟩) hs.length cm) (.slice (some ⟨gw, 0, none⟩) hs.length cw) w9 := t9
            clear t9 hu OD
            go_upto_region 28 with fail
            go_region_held3 (fun w' => w'.cell? ⟨gm, j, none⟩ = some (.int .i64 y.2.length) ∧ w'.cell? ⟨gw, j, none⟩ = some (.slice aj y.1.length cj) ∧ SK w p q bh y hs (.slice (some ⟨gm, 0, none⟩) hs.length cm) (.slice (some ⟨gw, 0, none⟩) hs.length cw) w')
              (first | exact KP HY.out (by assumption) | exact KP HY.out (SK.drew (by assumption)) | go_keep)
              (first
              | (go_at_call 19; refine (lenS (W := w) (p := p) (bh := bh) (s := y) (hs := hs) (mv := .slice (some ⟨gm, 0, none⟩) hs.length cm) (wv := .slice (some ⟨gw, 0, none⟩) hs.length cw) ?_).mono ?_; (first | assumption | exact SK.drew (by assumption)); rintro e wN ⟨rfl, hSN⟩)
              | (go_at_call 23; refine (lookS (W := w) (p := p) (q := q) (s := y) (hs := hs) (mv := .slice (some ⟨gm, 0, none⟩) hs.length cm) (wv := .slice (some ⟨gw, 0, none⟩) hs.length cw) ?_).mono ?_; (first | assumption | exact SK.drew (by assumption)); rintro e wN ⟨sa, sc, rfl, hSN, hQL⟩)
              | (go_at_call 26; refine (sameS (W := w) (p := p) (q := q) (bh := bh) (s := y) (hs := hs) (mv := .slice (some ⟨gm, 0, none⟩) hs.length cm) (wv := .slice (some ⟨gw, 0, none⟩) hs.length cw) ISL.out ?_ ?_ ?_).mono ?_; (first | assumption | exact SK.drew (by assumption)); (first | assumption | exact QL.drew (by assumption)); (first | exact QP HY.out (by assumption) | exact QP HY.out (SK.drew (by assumption))); rintro e wN ⟨rfl, hSN⟩))
            all_goals go_wp2_with fail
            all_goals go_roundg j
            all_goals first
              | omega
              | exact ⟨j, by omega, rfl, by first | rfl | (go_num; done), by rw [hye]; assumption⟩
set_option maxRecDepth 100000 in
theorem lifted (os : Os) (started : os.Started) (H : Type) (enc : TypeId × Value → H) :
    ReturnsInHanded {} Try.checked os 5 .any (Rows.trailUndoesSpec.pre6 enc Try.prog Try.f5 Rows.trailUndoesRow.domain false) (Rows.trailUndoesSpec.post enc Try.prog Try.f5 false true false false) := by
  refine returnsInHanded_of_change_sized (C := Try.checked) own started (by kernel_rfl) Try.func5
    (ChangeSpec.witness6 (enc := enc) (C := Try.checked) false ⟨#[], #[.slice none 0 0, .slice none 0 0], []⟩ 8 (by kernel_rfl) (by kernel_rfl) (by kernel_rfl) (by kernel_rfl)) ?_
  intro W base args ds gs before hval0 hW _ hsz0 _
  have hsz : (DataW.weightsEach Try.prog (Try.f5.params.toList ++ Rows.trailUndoesSpec.plain.varTypes Try.prog) (ds ++ gs)).all (· ≤ reachBytes) = true := hsz0
  clear hsz0
  have hval : ∀ (j : Nat) t v, Try.f5.params[j]? = some t → args[j]? = some v → Value.okWide Try.prog W .any base t v := hval0
  have hW' := hW
  obtain ⟨p, q, hA0, hV, rfl, hfz, hnd⟩ := hW
  have hA : DataW.TrodAll enc Try.prog W 0 (fun _ => true) true Try.f5.params.toList args.toList ds p := hA0
  rw [Try.params5] at hA hval hsz
  obtain ⟨v0, vs0, d0, ds0, p0, q0, hargs, rfl, rfl, h0, r0⟩ := trodAll_cons hA
  obtain ⟨v1, vs1, d1, ds1, p1, q1, rfl, rfl, rfl, h1, r1⟩ := trodAll_cons r0
  obtain ⟨rfl, rfl, rfl⟩ := trodAll_nil r1
  obtain rfl : args = #[v0, v1] := by cases args; simp_all
  obtain ⟨rfl, rfl⟩ := trodVars_none hV
  simp only [List.append_nil] at hW'
  have lt0 : ∀ x ∈ p0, x.block < W.heap.size := fun x hx => by
    have := hW'.lt x (by simp [hx])
    simpa using this
  have k0 := h0
  have lt1 : ∀ x ∈ p1, x.block < W.heap.size := fun x hx => by
    have := hW'.lt x (by simp [hx])
    simpa using this
  have k1 := h1
  obtain ⟨a0, n0, c0, rfl⟩ := okWide_slice Try.underlying45 (hval 0 45 v0 rfl rfl)
  obtain ⟨t0, x0⟩ := h0.elim fun fuel hf => ints_open hf (lt0) (fun x y e => sized_slice hsz (j := 0) (t := 45) (e := 34) rfl (by rw [← e]; rfl) Try.underlying45)
  obtain ⟨a1, n1, c1, rfl⟩ := okWide_slice Try.underlying54 (hval 1 54 v1 rfl rfl)
  obtain ⟨t1, x1⟩ := h1.elim fun fuel hf => rows_open hf (lt1) (weights_le hsz (j := 1) (t := 54) rfl rfl)
  clear hA0 hval0
  refine (walk W a0 n0 c0 t0 x0 a1 n1 c1 t1 x1).mono fun e W' ⟨he, hg⟩ => ?_
  subst he
  have ha := (trodAll_cons_mk (Below.trod laidOut (by kernel_rfl) (of_decide_eq_true (by kernel_rfl)) k0 hg lt0) (trodAll_cons_mk (Below.trod laidOut (by kernel_rfl) (of_decide_eq_true (by kernel_rfl)) k1 hg lt1) trodAll_mk0))
  refine ⟨_, rfl, _, _, _, [], _, [], hW', ?_, ha, rfl, hg.frame _, fun h => by cases h⟩
  exact (trodAll_cons_mk (shut_bool Try.underlying4 _) trodAll_mk0)
/-- THE STATEMENT. -/
theorem proved : Rows.TrailUndoesSaid :=
  OpenClaim.holds_of_wide 5 Try.f5 rfl rfl rfl rfl rfl rfl rfl ⟨rfl, rfl, rfl, rfl, rfl⟩ rfl rfl rfl rfl rfl (by kernel_rfl) Try.func5 (by kernel_rfl)
    (of_decide_eq_true (by kernel_rfl)) (by unfold Func.isWrapper; first | (rw [if_pos (by decide +kernel)]; kernel_rfl) | (rw [if_neg (by decide +kernel)]; exact ⟨rfl, rfl⟩))
    (fun os started H enc _ => lifted os started H enc)
#print axioms proved
end Go.Proofs.Ytbonlmekphkahaa.trailUndoes
