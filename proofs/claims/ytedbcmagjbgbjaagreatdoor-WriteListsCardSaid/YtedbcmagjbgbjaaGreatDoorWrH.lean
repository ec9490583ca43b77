/- What laws WriteParts and WriteLists ask besides: the reference's Nodes; a compound, a list of good terms; their texts. -/
import Derived.Test.YtedbcmagjbgbjaaGreatDoorWrA
import Derived.Test.YtedbcmagjbgbjaaGreatDoorRDp
import Derived.Test.YtedbcmagjbgbjaaGreatDoorRSm
namespace Go.Proofs.YtedbcmagjbgbjaaGreatDoor.wr
open Go.ChangeShapes Go.WideShapes Go.ChangeAt Go.RowKit
open Go.Proofs.YtedbcmagjbgbjaaGreatDoor.kp Go.Proofs.YtedbcmagjbgbjaaGreatDoor.tm Go.Proofs.YtedbcmagjbgbjaaGreatDoor.lie Go.Proofs.YtedbcmagjbgbjaaGreatDoor.tk Go.Proofs.YtedbcmagjbgbjaaGreatDoor.rmy Go.Proofs.YtedbcmagjbgbjaaGreatDoor.pln Go.Proofs.YtedbcmagjbgbjaaGreatDoor.rws Go.Proofs.YtedbcmagjbgbjaaGreatDoor.pla
open Go.Proofs.YtedbcmagjbgbjaaGreatDoor.lst (lst)
set_option linter.unusedVariables false
/-- Nodes of a good term -/
theorem rnodes_good (t : Tm) (v : Value) (w : World) (ht : Lies No w t v) (hg : good t = true) : Calls Tryz.prog 17 #[v] w fun e w' => e = .returned (.int .i64 (size t)) ∧ Below w.heap.size w w' := by
  have HG := Lib.hid hg
  have HE := Lib.hid (rst_may t)
  have HN := Lib.hid (rst_nodes t)
  obtain ⟨T, hT⟩ : ∃ T, T = t := ⟨_, rfl⟩
  rw [← hT] at HG HE HN ⊢
  have HT := Lib.hid (show Lies No w T v from hT ▸ ht)
  obtain ⟨k, n, i, re, im, l⟩ := t
  rw [Lies] at ht
  obtain ⟨a, c, rfl, hf, hr⟩ := ht
  clear hf hr hg hT
  go_enter Tryz.func17, Tryz.ntmps17
  go_wp2_with fail
  refine (rmay_any _ _ (w.heap.size + 1) 1 0 0 _ ((((HT.out.off (Y := fun k => k = w.heap.size + 1) fun b h1 h2 => by omega)).below (ba _ _)).below (ba _ _)) ?_ (by omega) (by omega) (fun _ => by omega) (by omega)).mono ?_
  · have := alloc_at (w.alloc (.cells #[.int .i64 k, .string n, .int .i64 i, .int .u64 re, .int .u64 im, .slice a l.length c] 27)) (WO 0 0)
    rwa [alloc_size] at this
  rintro e w1 ⟨rfl, hk, hp⟩
  obtain ⟨q0, q1, q2, q3, _⟩ := at_p hp
  rw [HE.out, may_good HG.out] at q1
  have hN : ((pre 1 T).foldl rst (0, 0)).1 = size T := by
    have := HN.out
    rw [HE.out, may_good HG.out, if_pos rfl, nodes_good HG.out] at this
    exact this
  rw [hN] at q0
  have HB := Lib.hid ((bt (ba w _) (ba _ _)).trans (hk.to_below (fun i h => by subst h; omega) (by simp only [alloc_size]; omega)))
  clear hk hp hN
  go_wp2_with fail
  go_ret
  exact ⟨rfl, HB.out⟩
def FOO : ByteArray := ⟨#[102, 111, 111]⟩
theorem good_of {t : Tm} (h1 : size t ≤ 2000) (h2 : height t ≤ 500) (h3 : sound t = true) : good t = true := by
  simp only [good, Bool.and_eq_true, decide_eq_true_eq]; exact ⟨⟨h1, h2⟩, h3⟩
theorem good_height {t : Tm} (h : good t = true) : height t ≤ 500 := by simp only [good, Bool.and_eq_true, decide_eq_true_eq] at h; exact h.1.2
theorem sound_comp {n : ByteArray} {l : List Tm} (h0 : l ≠ []) (h1 : l.length ≤ 20) (hn : n.size ≤ 200) (hs : ∀ x ∈ l, sound x = true) : sound (comp n l) = true := by
  unfold comp
  rw [sound]
  have hc : chk (.mk 5 n 0 0 0 l) = 0 := by
    have : l.length ≠ 0 := fun e => h0 (List.eq_nil_of_length_eq_zero e)
    unfold chk
    simp
    rw [if_neg h0, if_neg (by omega), if_neg (by omega)]
  rw [hc]
  simp [soundL_all]
  exact hs
theorem sizeL_le {l : List Tm} {m : Nat} (h : ∀ x ∈ l, size x ≤ m) : sizeL l ≤ l.length * m := by
  induction l with
  | nil => simp [sizeL]
  | cons t r ih =>
    have h1 := h t (by simp)
    have h2 := ih fun x hx => h x (by simp [hx])
    rw [sizeL, List.length_cons, Nat.add_mul]; omega
theorem parts_good {l : List Tm} (h0 : l ≠ []) (h1 : l.length ≤ 8) (hg : ∀ x ∈ l, good x = true ∧ size x ≤ 150 ∧ height x ≤ 400) : good (comp FOO l) = true := by
  have hs := sizeL_le (m := 150) fun x hx => (hg x hx).2.1
  have hh : heightL l ≤ 400 := heightL_le.2 fun x hx => (hg x hx).2.2
  have e1 : size (comp FOO l) = 1 + sizeL l := by unfold comp; rw [size]; simp
  have e2 : height (comp FOO l) = 1 + heightL l := by unfold comp; rw [height]; simp
  exact good_of (by omega) (by omega) (sound_comp h0 (by omega) (by decide) fun x hx => good_sound (hg x hx).1)
theorem parts_text (l : List Tm) : wt W0 (comp FOO l) = [102, 111, 111, 40] ++ rowT (l.map (wt W0)) ++ [41] := by
  unfold comp
  rw [wt_mk]
  show compT W0 (bl FOO) (w2L W0 l) = _
  have hq : fnm (bl FOO) = [102, 111, 111] := by decide +kernel
  rw [compT0 (fun h => absurd h.2.1 (by decide)), hq, w2L_fst]
  simp
/-- a list of good terms -/
theorem lst_size : ∀ l : List Tm, size (lst l (atom ⟨#[91, 93]⟩)) = sizeL l + l.length + 1
  | [] => by rw [lst]; unfold atom; rw [size]; simp [sizeL]
  | t :: r => by
    rw [lst]; unfold comp; rw [size]
    simp only [if_true, sizeL, lst_size r, List.length_cons]; omega
theorem lst_height : ∀ l : List Tm, (∀ x ∈ l, height x ≤ 400) → height (lst l (atom ⟨#[91, 93]⟩)) ≤ 401 + l.length
  | [], _ => by rw [lst]; unfold atom; rw [height]; simp
  | t :: r, h => by
    have h1 := h t (by simp)
    have h2 := lst_height r fun x hx => h x (by simp [hx])
    rw [lst]; unfold comp; rw [height]
    simp only [if_true, heightL, List.length_cons]; omega
theorem lst_sound : ∀ l : List Tm, (∀ x ∈ l, sound x = true) → sound (lst l (atom ⟨#[91, 93]⟩)) = true
  | [], _ => by rw [lst]; rfl
  | t :: r, h => by
    rw [lst]
    refine sound_comp (by simp) (by simp) (by decide) fun x hx => ?_
    simp only [List.mem_cons, List.not_mem_nil, or_false] at hx
    rcases hx with rfl | rfl
    · exact h _ (by simp)
    · exact lst_sound r fun x hx => h x (by simp [hx])
theorem lst_wl : ∀ l : List Tm, wl W0 (lst l (atom ⟨#[91, 93]⟩)) = rT (l.map (wt W0))
  | [] => by rw [lst]; unfold atom; rw [wln rfl]; rfl
  | t :: r => by rw [lst]; unfold comp; rw [wlp rfl, lst_wl r, List.map_cons, rT_cons]
theorem lst_text (l : List Tm) : wt W0 (lst l (atom ⟨#[91, 93]⟩)) = [91] ++ rowT (l.map (wt W0)) ++ [93] := by
  cases l with
  | nil => decide +kernel
  | cons t r =>
    rw [lst]; unfold comp
    rw [wt_pair rfl, lst_wl, List.map_cons, rowT_cons]
    simp
theorem plain_plain (t : Tm) : plain (plain t) = plain t := by unfold plain; rw [sub_sub]; congr 1
theorem plain_text {t : Tm} (hg : good t = true) (W : Ways) : good (plain t) = true ∧ wt W (plain t) = wt W t := by
  have hgp := good_plain hg (good_sound hg)
  refine ⟨hgp, ?_⟩
  unfold wt
  rw [like_wt W (plain t) t (good_sound hgp) (good_sound hg) ((like_plain (plain t) t (good_sound hgp) (good_sound hg)).2 (plain_plain t))]
end Go.Proofs.YtedbcmagjbgbjaaGreatDoor.wr
