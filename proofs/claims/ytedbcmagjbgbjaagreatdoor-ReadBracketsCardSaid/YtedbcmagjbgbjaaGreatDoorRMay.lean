/- The reference's May. -/
import Derived.Test.YtedbcmagjbgbjaaGreatDoorPl
namespace Go.Proofs.YtedbcmagjbgbjaaGreatDoor.rmy
set_option linter.unusedVariables false
open Go.ChangeShapes Go.WideShapes Go.ChangeAt Go.RowKit
open Go.Proofs.YtedbcmagjbgbjaaGreatDoor.tm Go.Proofs.YtedbcmagjbgbjaaGreatDoor.lie Go.Proofs.YtedbcmagjbgbjaaGreatDoor.kp Go.Proofs.YtedbcmagjbgbjaaGreatDoor.wlk Go.Proofs.YtedbcmagjbgbjaaGreatDoor.cur Go.Proofs.YtedbcmagjbgbjaaGreatDoor.rws Go.Proofs.YtedbcmagjbgbjaaGreatDoor.pln
abbrev WO (n e : Int) : Obj := .cells #[.int .i64 n, .int .i64 e] 91
def RM (p d : Nat) (t : Tm) (n e0 : Int) (w : World) (e : Ending) (w' : World) : Prop :=
  e = .returned (.tuple #[]) ∧ Keep (fun k => k = p) w w' ∧ w'.heap[p]? = some (WO ((pre d t).foldl rst (n, e0)).1 ((pre d t).foldl rst (n, e0)).2)
/-- an error: nothing more is counted -/
theorem fold_err {d : Nat} {t : Tm} {n : Int} {n1 e1 : Int} (h : rst (n, 0) (t, d) = (n1, e1)) (he : e1 ≠ 0) : (pre d t).foldl rst (n, 0) = (n1, e1) := by
  obtain ⟨k, nm, i, re, im, l⟩ := t
  rw [pre, List.foldl_cons, h]
  exact rst_bad he _
theorem fold_leaf {d : Nat} {k : Int} {nm : ByteArray} {i re im : Int} {l : List Tm} {n : Int} {s : Int × Int} (h : rst (n, 0) (.mk k nm i re im l, d) = s) (hk : k ≠ 5) : (pre d (.mk k nm i re im l)).foldl rst (n, 0) = s := by
  rw [pre, if_neg hk, List.foldl_cons, h]; rfl
theorem rst_eq (n : Int) (t : Tm) (d : Nat) : rst (n, 0) (t, d) = (n + 1, if 2000 < n + 1 then 3 else if 500 < d then 3 else chk t) := by simp [rst]
theorem at_p {w : World} {p : Nat} {n e : Int} (h : w.heap[p]? = some (WO n e)) : w.cell? ⟨p, 0, none⟩ = some (.int .i64 n) ∧ w.cell? ⟨p, 1, none⟩ = some (.int .i64 e) ∧ w.frozen? ⟨p, 0, none⟩ = false ∧ w.frozen? ⟨p, 1, none⟩ = false ∧ p < w.heap.size := by
  refine ⟨?_, ?_, ?_, ?_, (Array.getElem?_eq_some_iff.1 h).1⟩ <;> simp [World.cell?, World.frozen?, h]
theorem fin1 {w : World} {p d : Nat} {t : Tm} {n e1 : Int} {o : Obj} (h : w.heap[p]? = some (WO n 0)) (hf : (pre d t).foldl rst (n, 0) = (n + 1, e1)) :
    RM p d t n 0 w (.returned (.tuple #[])) (((w.setCell ⟨p, 0, none⟩ (.int .i64 (n + 1))).setCell ⟨p, 1, none⟩ (.int .i64 e1)).alloc o) := by
  have hp := (at_p h).2.2.2.2
  have h2 := heap_setCell_same w p 0 _ _ (.int .i64 (n + 1)) h
  have h3 := heap_setCell_same _ p 1 _ _ (.int .i64 e1) h2
  have hs : p < ((w.setCell ⟨p, 0, none⟩ (.int .i64 (n + 1))).setCell ⟨p, 1, none⟩ (.int .i64 e1)).heap.size := (Array.getElem?_eq_some_iff.1 h3).1
  refine ⟨rfl, ((Keep.setCell (F := fun k => k = p) (p := ⟨p, 0, none⟩) w rfl _).trans (Keep.setCell (F := fun k => k = p) (p := ⟨p, 1, none⟩) _ rfl _) fun _ => Or.inl).trans (F' := No) (Keep.of_below (ba _ o)) fun _ h => h.elim, ?_⟩
  rw [(ba _ o).block p hs, h3, hf]; simp
theorem fin0 {w : World} {p d : Nat} {t : Tm} {n : Int} {o : Obj} (h : w.heap[p]? = some (WO n 0)) (hf : (pre d t).foldl rst (n, 0) = (n + 1, 0)) :
    RM p d t n 0 w (.returned (.tuple #[])) ((w.setCell ⟨p, 0, none⟩ (.int .i64 (n + 1))).alloc o) := by
  have h2 := heap_setCell_same w p 0 _ _ (.int .i64 (n + 1)) h
  have hs : p < (w.setCell ⟨p, 0, none⟩ (.int .i64 (n + 1))).heap.size := (Array.getElem?_eq_some_iff.1 h2).1
  refine ⟨rfl, (Keep.setCell (F := fun k => k = p) (p := ⟨p, 0, none⟩) w rfl _).trans (F' := No) (Keep.of_below (ba _ o)) fun _ h => h.elim, ?_⟩
  rw [(ba _ o).block p hs, h2, hf]; simp
/-- the arguments, one behind the other: what has been counted -/
def Rel (p d : Nat) (l : List Tm) (s0 : Int × Int) (w : World) (g : Nat) (s108 : Value) (wr : World) : Prop :=
  ∃ (k : Nat) (n e : Int), k ≤ l.length ∧ g = l.length - k ∧ s108 = .int .i64 k ∧ (n, e) = (preL d (l.take k)).foldl rst s0 ∧ 0 ≤ n ∧ n ≤ 2001 ∧ (e = 0 → n ≤ 2000) ∧ Keep (fun k => k = p) w wr ∧ wr.heap[p]? = some (WO n e)
theorem rst_bound : ∀ (L : List (Tm × Nat)) (n e : Int), 0 ≤ n → n ≤ 2001 → (e = 0 → n ≤ 2000) → 0 ≤ (L.foldl rst (n, e)).1 ∧ (L.foldl rst (n, e)).1 ≤ 2001 ∧ ((L.foldl rst (n, e)).2 = 0 → (L.foldl rst (n, e)).1 ≤ 2000)
  | [], n, e, h0, h1, h2 => ⟨h0, h1, h2⟩
  | x :: L, n, e, h0, h1, h2 => by
    rw [List.foldl_cons]
    by_cases he : e = 0
    · subst he
      have hn := h2 rfl
      have : rst (n, 0) x = (n + 1, if 2000 < n + 1 then 3 else if 500 < x.2 then 3 else chk x.1) := by simp [rst]
      rw [this]
      refine rst_bound L _ _ (by omega) (by omega) fun h => ?_
      by_cases c : 2000 < n + 1
      · rw [if_pos c] at h; omega
      · omega
    · have : rst (n, e) x = (n, e) := by simp [rst, he]
      rw [this]
      exact rst_bound L n e h0 h1 h2
theorem bad_rst {e0 : Int} (h : e0 ≠ 0) (n : Int) (L : List (Tm × Nat)) : L.foldl rst (n, e0) = (n, e0) := rst_bad (s := (n, e0)) h L
set_option maxRecDepth 100000 in
set_option maxHeartbeats 4000000 in
theorem rmay_any (t : Tm) : ∀ (v : Value) (p d : Nat) (n e0 : Int) (w : World), Lies (fun k => k = p) w t v → w.heap[p]? = some (WO n e0) → 0 ≤ n → n ≤ 2001 → (e0 = 0 → n ≤ 2000) → d ≤ 501 →
    Calls Tryz.prog 43 #[.pointer (some ⟨p, 0, none⟩), v, .int .i64 (d : Int)] w (RM p d t n e0 w) := by
  induction t using Tm.ind with
  | h k nm i re im l ih =>
    intro v p d n e0 w ht hp hn0 hn1 hn2 hd
    have IH := Lib.hid ih
    have HT := Lib.hid ht
    have HP := Lib.hid hp
    rw [Lies] at ht
    obtain ⟨a, c, rfl, hf, hr⟩ := ht
    have HR := Lib.hid (And.intro hf hr)
    obtain ⟨q0, q1, q2, q3, hpl⟩ := at_p hp
    clear hf hr ih hp
    by_cases he : e0 = 0
    · subst he
      have hn := hn2 rfl
      clear hn2
      by_cases c1 : 2000 < n + 1
      · have HF := Lib.hid (fold_err (d := d) (t := .mk k nm i re im l) (rst_eq n _ _) (by rw [if_pos c1]; decide))
        rw [if_pos c1] at HF
        go_enter Tryz.func43, Tryz.ntmps43
        go_wp2_with fail
        go_end0
        exact fin1 HP.out HF.out
      by_cases c2 : 500 < d
      · have HF := Lib.hid (fold_err (d := d) (t := .mk k nm i re im l) (rst_eq n _ _) (by rw [if_neg c1, if_pos c2]; decide))
        rw [if_neg c1, if_pos c2] at HF
        go_enter Tryz.func43, Tryz.ntmps43
        go_wp2_with fail
        go_end0
        exact fin1 HP.out HF.out
      have HR1 := Lib.hid (show rst (n, 0) (.mk k nm i re im l, d) = (n + 1, chk (.mk k nm i re im l)) by rw [rst_eq, if_neg c1, if_neg c2])
      have c2' : decide ((d : Int) > 500) = false := by simp; omega
      have c1' : n + 1 ≤ 2000 := by omega
      have c2'' : d ≤ 500 := by omega
      clear c1 c2 hd
      by_cases k1 : k = 1
      · subst k1
        by_cases i0 : i < 0
        · have HF := Lib.hid (fold_leaf HR1.out (by decide))
          have : chk (.mk 1 nm i re im l) = 1 := by simp [chk, i0]
          rw [this] at HF
          go_enter Tryz.func43, Tryz.ntmps43
          go_wp2_with fail
          go_end0
          exact fin1 HP.out HF.out
        · have HF := Lib.hid (fold_leaf HR1.out (by decide))
          have : chk (.mk 1 nm i re im l) = 0 := by simp [chk]; omega
          rw [this] at HF
          go_enter Tryz.func43, Tryz.ntmps43
          go_wp2_with fail
          go_end0
          exact fin0 HP.out HF.out
      by_cases k2 : k = 2
      · subst k2
        by_cases i0 : 200 < nm.size
        · have i0' : decide ((nm.size : Int) > 200) = true := by simp; omega
          have HF := Lib.hid (fold_leaf HR1.out (by decide))
          have : chk (.mk 2 nm i re im l) = 3 := by simp [chk, i0]
          rw [this] at HF
          go_enter Tryz.func43, Tryz.ntmps43
          go_wp2_with fail
          go_end0
          exact fin1 HP.out HF.out
        · have i0' : decide ((nm.size : Int) > 200) = false := by simp; omega
          have HF := Lib.hid (fold_leaf HR1.out (by decide))
          have : chk (.mk 2 nm i re im l) = 0 := by simp [chk]; omega
          rw [this] at HF
          go_enter Tryz.func43, Tryz.ntmps43
          go_wp2_with fail
          go_end0
          exact fin0 HP.out HF.out
      by_cases k3 : k = 3
      · subst k3
        have HF := Lib.hid (fold_leaf HR1.out (by decide))
        have : chk (.mk 3 nm i re im l) = 0 := by simp [chk]
        rw [this] at HF
        go_enter Tryz.func43, Tryz.ntmps43
        go_wp2_with fail
        go_end0
        exact fin0 HP.out HF.out
      by_cases k4 : k = 4
      · subst k4
        have HF := Lib.hid (fold_leaf HR1.out (by decide))
        have : chk (.mk 4 nm i re im l) = 0 := by simp [chk]
        rw [this] at HF
        go_enter Tryz.func43, Tryz.ntmps43
        go_wp2_with fail
        go_end0
        exact fin0 HP.out HF.out
      by_cases k5 : k = 5
      · subst k5
        by_cases j0 : l.length = 0
        · have j0' : ((l.length : Int) == 0) = true := by rw [beq_iff_eq]; omega
          have HF := Lib.hid (fold_err HR1.out (by simp [chk, j0]))
          have : chk (.mk 5 nm i re im l) = 1 := by simp [chk, j0]
          rw [this] at HF
          have J0 := Lib.hid j0
          clear j0
          go_enter Tryz.func43, Tryz.ntmps43
          go_wp2_with fail
          go_end0
          exact fin1 HP.out HF.out
        have j0' : ((l.length : Int) == 0) = false := by rw [beq_eq_false_iff_ne]; omega
        by_cases i0 : 200 < nm.size
        · have i0' : decide ((nm.size : Int) > 200) = true := by simp; omega
          have hc : chk (.mk 5 nm i re im l) = 3 := by simp [chk, j0, i0]
          have HF := Lib.hid (fold_err HR1.out (by rw [hc]; decide))
          rw [hc] at HF
          clear hc
          go_enter Tryz.func43, Tryz.ntmps43
          go_wp2_with fail
          go_end0
          exact fin1 HP.out HF.out
        have i0' : decide ((nm.size : Int) > 200) = false := by simp; omega
        by_cases l0 : 20 < l.length
        · have l0' : decide ((l.length : Int) > 20) = true := by simp; omega
          have hc : chk (.mk 5 nm i re im l) = 3 := by simp [chk, j0, l0]
          have HF := Lib.hid (fold_err HR1.out (by rw [hc]; decide))
          rw [hc] at HF
          clear hc
          go_enter Tryz.func43, Tryz.ntmps43
          go_wp2_with fail
          go_end0
          exact fin1 HP.out HF.out
        have l0' : decide ((l.length : Int) > 20) = false := by simp; omega
        have hc : chk (.mk 5 nm i re im l) = 0 := by simp [chk, j0]; omega
        have hfold : (pre d (.mk 5 nm i re im l)).foldl rst (n, 0) = (preL (d + 1) l).foldl rst (n + 1, 0) := by
          rw [pre, if_pos rfl, List.foldl_cons, HR1.out, hc]
        have HF := Lib.hid hfold
        have hl20 : l.length ≤ 20 := by omega
        clear hc hfold
        go_enter Tryz.func43, Tryz.ntmps43
        go_wp2_with fail
        have h2 := heap_setCell_same w p 0 _ _ (.int .i64 (n + 1)) HP.out
        have H2 := Lib.hid h2
        clear h2
        go_loopg [108] l.length (Rel p (d + 1) l (n + 1, 0) w)
        case atStart =>
          refine ⟨0, n + 1, 0, by omega, by omega, rfl, rfl, by omega, by omega, fun _ => by omega, (Keep.setCell (F := fun k => k = p) (p := ⟨p, 0, none⟩) w rfl _).trans (F' := No) (Keep.of_below (ba _ _)) fun _ h => h.elim, ?_⟩
          rw [(ba _ _).block p (Array.getElem?_eq_some_iff.1 H2.out).1, H2.out]; simp
        case round =>
          obtain ⟨kk, n1, e1, hk, rfl, rfl, hne, b0, b1, b2, hkp, hpr⟩ := hrel
          by_cases hlt : kk < l.length
          · obtain ⟨bb, o, v0, v1, v2, v3, v4, v5, hbl, hbX, h6, hlx, hix⟩ := HR.out.2.look hlt
            have h6' := h6.keep hkp hbX
            have hix' := hix c
            obtain ⟨kq, nq, iq, req, imq, lq, aq, cq, hv, _⟩ := lies_form hlx
            obtain ⟨rfl, rfl, rfl, rfl, rfl, rfl⟩ := hv
            obtain ⟨e0, e1', e2, e3, e4, e5⟩ := h6'
            have hmem := List.getElem_mem hlt
            generalize hx : l[kk] = x at hlx hmem
            have HX := Lib.hid (And.intro (Lies.keep hkp (fun _ _ => id) _ _ hlx) (And.intro hkp (And.intro hpr (And.intro (IH.out _ hmem) (And.intro hx hne)))))
            clear h6 hlx hix hkp hpr hx hmem hne
            go_wp2_with fail
            refine (HX.out.2.2.2.1 _ p (d + 1) n1 e1 _ (HX.out.1.below (ba _ _)) (((ba wr _).block p (at_p HX.out.2.2.1).2.2.2.2).trans HX.out.2.2.1) b0 b1 b2 (by omega)).mono ?_
            rintro e w3 ⟨rfl, hk3, hp3⟩
            have H3 := Lib.hid (And.intro hk3 hp3)
            clear hk3 hp3 e0 e1' e2 e3 e4 e5
            go_wp2_with fail
            go_roundg (l.length - (kk + 1))
            case measure => omega
            case rel =>
              obtain ⟨hl1, hkp, hpr, _, hx, hne⟩ := HX.out
              have hb := rst_bound (pre (d + 1) x) n1 e1 b0 b1 b2
              refine ⟨kk + 1, _, _, hlt, rfl, by go_num, ?_, hb.1, hb.2.1, hb.2.2, (hkp.trans (F' := No) (Keep.of_below (ba wr _)) fun _ h => h.elim).trans H3.out.1 fun _ => Or.inl, H3.out.2⟩
              rw [List.take_succ_eq_append_getElem hlt, preL_append, List.foldl_append, ← hne, hx]
              simp [preL]
          · have hkv : kk = l.length := by omega
            subst hkv
            rw [List.take_of_length_le (Nat.le_refl _)] at hne
            have HE := Lib.hid (And.intro hne (And.intro hkp hpr))
            clear hne hkp hpr
            go_wp2_with fail
            go_end0
            obtain ⟨hne, hkp, hpr⟩ := HE.out
            refine ⟨rfl, hkp, ?_⟩
            rw [HF.out, ← hne]
            exact hpr
      have hc : chk (.mk k nm i re im l) = 1 := by simp [chk, k1, k2, k3, k4, k5]
      have HF := Lib.hid (fold_leaf HR1.out k5)
      rw [hc] at HF
      clear hc
      by_cases kl : k < 1
      · have KK := Lib.hid (And.intro k1 (And.intro k2 (And.intro k3 (And.intro k4 k5))))
        clear k1 k2 k3 k4 k5
        go_enter Tryz.func43, Tryz.ntmps43
        go_wp2_with fail
        go_end0
        exact fin1 HP.out HF.out
      · have kg : k > 5 := by omega
        have KK := Lib.hid (And.intro k1 (And.intro k2 (And.intro k3 (And.intro k4 k5))))
        clear k1 k2 k3 k4 k5
        go_enter Tryz.func43, Tryz.ntmps43
        go_wp2_with fail
        go_end0
        exact fin1 HP.out HF.out
    · have hee : (e0 != 0) = true := by rw [bne_iff_ne]; exact he
      have HF := Lib.hid (bad_rst he n (pre d (.mk k nm i re im l)))
      clear he hn2
      go_enter Tryz.func43, Tryz.ntmps43
      go_wp2_with fail
      refine bodyPost_ret (v := .tuple #[]) (by simp [results, Tryz.results43, go_sem]) rfl ⟨rfl, Keep.of_below (ba w _), ?_⟩
      rw [HF.out]
      exact ((ba w _).block p hpl).trans HP.out
theorem rMay_any (t : Tm) (v : Value) (w : World) (ht : Lies No w t v) : Calls Tryz.prog 27 #[v] w fun e w' => e = .returned (.int .i64 (may t)) ∧ Below w.heap.size w w' := by
  obtain ⟨k, n, i, re, im, l⟩ := t
  have HT := Lib.hid ht
  rw [Lies] at ht
  obtain ⟨a, c, rfl, hf, hr⟩ := ht
  clear hf hr
  go_enter Tryz.func27, Tryz.ntmps27
  go_wp2_with fail
  refine (rmay_any _ _ (w.heap.size + 1) 1 0 0 _ ((((HT.out.off (Y := fun k => k = w.heap.size + 1) fun b h1 h2 => by omega)).below (ba _ _)).below (ba _ _)) ?_ (by omega) (by omega) (fun _ => by omega) (by omega)).mono ?_
  · have := alloc_at (w.alloc (.cells #[.int .i64 k, .string n, .int .i64 i, .int .u64 re, .int .u64 im, .slice a l.length c] 27)) (WO 0 0)
    rwa [alloc_size] at this
  rintro e w1 ⟨rfl, hk, hp⟩
  have h1 := at_p hp
  obtain ⟨q0, q1, q2, q3, _⟩ := h1
  rw [rst_may] at q1
  have HB := Lib.hid ((bt (ba w _) (ba _ _)).trans (hk.to_below (fun i h => by subst h; omega) (by simp only [alloc_size]; omega)))
  clear hk hp
  go_wp2_with fail
  go_ret
  exact ⟨rfl, HB.out⟩
end Go.Proofs.YtedbcmagjbgbjaaGreatDoor.rmy
