/- The project's reader, the mathematics: names are as many as variables, in their order, none twice but what is nobody's. What the laws ask of read.Term: an error's place; names, looked at. -/
import Derived.Test.YtedbcmagjbgbjaaGreatDoorRdO
import Derived.Test.YtedbcmagjbgbjaaGreatDoorRdW
namespace Go.Proofs.YtedbcmagjbgbjaaGreatDoor.rd
open Go.Proofs.YtedbcmagjbgbjaaGreatDoor.tk Go.Proofs.YtedbcmagjbgbjaaGreatDoor.tm
set_option linter.unusedVariables false
def Rg (n : Nat) : List Int := (List.range n).map Int.ofNat
theorem Rg_mem {n : Nat} {x : Int} : x ∈ Rg n ↔ 0 ≤ x ∧ x < n := by
  unfold Rg
  simp only [List.mem_map, List.mem_range]
  constructor
  · rintro ⟨a, h, rfl⟩; exact ⟨Int.natCast_nonneg a, by simpa using h⟩
  · rintro ⟨h1, h2⟩; exact ⟨x.toNat, by omega, by simp; omega⟩
theorem Rg_old {n k : Nat} (h : k < n) : addv (Rg n) (k : Int) = Rg n := by
  unfold addv; rw [if_pos (Rg_mem.2 ⟨by omega, by omega⟩)]
theorem Rg_new (n : Nat) : addv (Rg n) (n : Int) = Rg (n + 1) := by
  unfold addv
  rw [if_neg (fun h => by have := (Rg_mem.1 h).2; omega)]
  unfold Rg
  rw [List.range_succ]; simp
/-- none twice but what is nobody's -/
def Nd (ns : Names) : Prop := ∀ i j (hi : i < ns.length) (hj : j < ns.length), i < j → ns[i] = ns[j] → ns[i] = [95]
theorem number_nd {s : List UInt8} {ns : Names} (h : Nd ns) : Nd (number s ns).2 := by
  unfold number
  split
  · exact h
  · rename_i hc
    intro i j hi hj hij e
    simp only [List.length_append, List.length_singleton] at hi hj
    rw [List.getElem_append_left (by omega)] at e ⊢
    by_cases hj2 : j < ns.length
    · rw [List.getElem_append_left hj2] at e
      exact h i j _ hj2 hij e
    · rw [List.getElem_append_right (by omega)] at e
      have e2 : ns[i] = s := by simpa using e
      by_cases hs : s = [95]
      · rw [e2]; exact hs
      · exact absurd ⟨hs, e2 ▸ List.getElem_mem (by omega)⟩ hc
theorem number_fold (s : List UInt8) (ns : Names) : addv (Rg ns.length) ((number s ns).1 : Int) = Rg (number s ns).2.length := by
  unfold number
  split
  · rename_i hc
    exact Rg_old (List.idxOf_lt_length_of_mem hc.2)
  · simp only [List.length_append, List.length_singleton]
    exact Rg_new _
/-- what a term's variables do to the names -/
def Adds (L : List Int) (ns n : Names) : Prop := L.foldl addv (Rg ns.length) = Rg n.length ∧ (Nd ns → Nd n)
theorem Adds.nil (ns : Names) : Adds [] ns ns := ⟨rfl, id⟩
theorem Adds.app {L M : List Int} {a b c : Names} (h : Adds L a b) (g : Adds M b c) : Adds (L ++ M) a c :=
  ⟨by rw [List.foldl_append, h.1, g.1], fun x => g.2 (h.2 x)⟩
def Nam (rec : Rec) : Prop := ∀ most level ts ns v r n, rec most level ts ns = .ok v r n → Adds (occ v) ns n
theorem occ_comp (s : ByteArray) (l : List Tm) : occ (tm.comp s l) = occL l := by unfold tm.comp; simp [occ]
theorem occL_one (v : Tm) : occL [v] = occ v := by simp [occL]
theorem occL_app (a b : List Tm) : occL (a ++ b) = occL a ++ occL b := by simp [occL_flat]
theorem occ_listOf (l : List Tm) (e : Tm) : occ (listOf l e) = occL l ++ occ e := by
  induction l with
  | nil => simp [listOf, occL]
  | cons t r ih =>
    have : listOf (t :: r) e = pair t (listOf r e) := rfl
    rw [this]
    unfold pair
    rw [occ_comp]
    simp [occL, ih]
theorem whole_adds (t : Tk) (ns : Names) : Adds (occ (whole t ns).1) ns (whole t ns).2 := by
  unfold whole
  split
  · refine ⟨?_, number_nd⟩
    simp only [tm.var, occ]
    exact number_fold _ _
  · split
    · exact Adds.nil ns
    · split
      · exact Adds.nil ns
      · exact Adds.nil ns
section
variable {N : Nat} {O : OT} {rec : Rec}
theorem row_adds (hr : Nam rec) {level : Nat} {n0 : Names} : ∀ f acc ts ns l r n, row N rec level f acc ts ns = .ok l r n → Adds (occL acc) n0 ns → Adds (occL l) n0 n := by
  intro f
  induction f with
  | zero => intro acc ts ns l r n h; cases h
  | succ f ih =>
    intro acc ts ns l r n h ha
    obtain ⟨a, r1, n1, hx, h2⟩ := PR.bind_ok h
    have p1 : Adds (occL (acc ++ [a])) n0 n1 := by rw [occL_app, occL_one]; exact ha.app (hr _ _ _ _ _ _ _ hx)
    split at h2
    · exact ih _ _ _ _ _ _ h2 p1
    · cases h2; exact p1
theorem row_adds0 (hr : Nam rec) {level f : Nat} {ts : List Tk} {ns : Names} {l : List Tm} {r : List Tk} {n : Names} (h : row N rec level f [] ts ns = .ok l r n) : Adds (occL l) ns n :=
  row_adds hr _ _ _ _ _ _ _ h (by simp only [occL]; exact Adds.nil ns)
theorem occ_atom (s : ByteArray) : occ (tm.atom s) = [] := by simp [tm.atom, occ]
theorem list_adds (hr : Nam rec) {level : Nat} {ts : List Tk} {ns : Names} {v : Tm} {r : List Tk} {n : Names} (h : list N rec level ts ns = .ok v r n) : Adds (occ v) ns n := by
  unfold list at h
  split at h
  · cases h; unfold listE; rw [occ_atom]; exact Adds.nil ns
  · obtain ⟨a, r1, n1, hx, h2⟩ := PR.bind_ok h
    have p1 := row_adds0 hr hx
    split at h2
    · obtain ⟨b, u, hy, -, rfl⟩ := shut_ok h2
      rw [occ_listOf]
      exact p1.app (hr _ _ _ _ _ _ _ hy)
    · obtain ⟨b, u, hy, -, rfl⟩ := shut_ok h2
      cases hy
      rw [occ_listOf]
      unfold listE
      rw [occ_atom, List.append_nil]
      exact p1
theorem first_adds (hr : Nam rec) {a : Int} {level : Nat} {ts : List Tk} {ns : Names} {v : Tm} {r : List Tk} {n : Names} (h : first O N rec a level ts ns = .ok v r n) : Adds (occ v) ns n := by
  unfold first at h
  dsimp only at h
  split at h
  · cases h
    exact Adds.nil ns
  · split at h
    · obtain ⟨b, u, hy, -, rfl⟩ := shut_ok h
      rw [occ_comp]
      exact row_adds0 hr hy
    · split at h
      · obtain ⟨b, r1, n1, hx, h2⟩ := PR.bind_ok h
        cases h2
        rw [occ_comp, occL_one]
        exact hr _ _ _ _ _ _ _ hx
      · split at h
        · obtain ⟨b, u, hy, -, rfl⟩ := shut_ok h
          exact hr _ _ _ _ _ _ _ hy
        · split at h
          · exact list_adds hr h
          · cases h; exact whole_adds _ _
theorem goOn_adds (hr : Nam rec) {most : Int} {level : Nat} {n0 : Names} : ∀ f left pr ts ns v r n, goOn O N rec most level f left pr ts ns = .ok v r n → Adds (occ left) n0 ns → Adds (occ v) n0 n := by
  intro f
  induction f with
  | zero => intro left pr ts ns v r n h; cases h
  | succ f ih =>
    intro left pr ts ns v r n h ha
    unfold goOn at h
    dsimp only at h
    split at h
    · obtain ⟨a, r1, n1, hx, h2⟩ := PR.bind_ok h
      refine ih _ _ _ _ _ _ _ h2 ?_
      rw [occ_comp]
      have e : occL [left, a] = occ left ++ occ a := by simp [occL]
      rw [e]
      exact ha.app (hr _ _ _ _ _ _ _ hx)
    · cases h; exact ha
theorem term_nam (x : Bool) (O : OT) (N : Nat) : ∀ f, Nam (term x O N f) := by
  intro f
  induction f with
  | zero => intro most level ts ns v r n h; cases h
  | succ f ih =>
    intro most level ts ns v r n h
    unfold term step at h
    dsimp only at h
    split at h
    · cases h
    · split at h
      · cases h
      · obtain ⟨a, r1, n1, hx, h2⟩ := PR.bind_ok h
        exact goOn_adds ih _ _ _ _ _ _ _ _ h2 (first_adds ih hx)
/-- a clause's names and variables -/
theorem clause_names {x : Bool} {ts rest : List Tk} {t : Tm} {ns : Names} {a : Nat} (h : clause x O N ts = .ok t ns a rest) : tm.may t = 0 ∧ (tm.may t = 0 → tm.good t = true → vars t = Rg ns.length) ∧ Nd ns := by
  unfold clause at h
  split at h
  · cases h
  · rename_i v r n hx
    split at h
    · split at h
      · rename_i hm
        cases h
        have := term_nam x O N _ _ _ _ _ _ _ _ hx
        refine ⟨hm, fun _ hg => ?_, this.2 (fun i j hi => by simp at hi)⟩
        unfold vars
        rw [if_pos hg]
        exact this.1
      · cases h
    · cases h
end
end Go.Proofs.YtedbcmagjbgbjaaGreatDoor.rd
namespace Go.Proofs.YtedbcmagjbgbjaaGreatDoor.rd
open Go.ChangeShapes Go.WideShapes Go.ChangeAt Go.RowKit Go.Maps
open Go.Proofs.YtedbcmagjbgbjaaGreatDoor.kp Go.Proofs.YtedbcmagjbgbjaaGreatDoor.num Go.Proofs.YtedbcmagjbgbjaaGreatDoor.dec Go.Proofs.YtedbcmagjbgbjaaGreatDoor.tk
set_option linter.unusedVariables false
section
variable {N : Nat} {O : OT} {rec : Rec}
theorem PR.bind_er {α β : Type} {x : PR α} {f : α → List Tk → Names → PR β} {e : Int} {r : List Tk} {n : Names} (h : x.bind f = .er e r n) : x = .er e r n ∨ ∃ a r1 n1, x = .ok a r1 n1 ∧ f a r1 n1 = .er e r n := by
  cases x with
  | er => cases h; exact Or.inl rfl
  | ok a r1 n1 => exact Or.inr ⟨a, r1, n1, rfl, h⟩
theorem shut_er {α β : Type} {c : UInt8} {f : α → β} {x : PR α} {e : Int} {r : List Tk} {n : Names} (h : shut N c f x = .er e r n) : x = .er e r n ∨ ∃ a, x = .ok a r n := by
  rcases PR.bind_er h with h | ⟨a, r1, n1, hx, h2⟩
  · exact Or.inl h
  · split at h2
    · cases h2
    · cases h2; exact Or.inr ⟨a, hx⟩
/-- where an error is, is a part of what there was -/
def ErS (rec : Rec) : Prop := ∀ most level ts ns e r n, rec most level ts ns = .er e r n → r <:+ ts
theorem row_ers (hr : Parts rec) (he : ErS rec) {level : Nat} : ∀ f acc ts ns e r n, row N rec level f acc ts ns = .er e r n → r <:+ ts := by
  intro f
  induction f with
  | zero => intro acc ts ns e r n h; cases h; exact List.suffix_refl _
  | succ f ih =>
    intro acc ts ns e r n h
    rcases PR.bind_er h with h | ⟨a, r1, n1, hx, h2⟩
    · exact he _ _ _ _ _ _ _ h
    · have p1 := (hr _ _ _ _ _ _ _ hx).1
      split at h2
      · exact (ih _ _ _ _ _ _ h2).trans ((List.tail_suffix _).trans p1)
      · cases h2
theorem list_ers (hr : Parts rec) (he : ErS rec) {level : Nat} {ts : List Tk} {ns : Names} {e : Int} {r : List Tk} {n : Names} (h : list N rec level ts ns = .er e r n) : r <:+ ts := by
  unfold list at h
  split at h
  · cases h
  · rcases PR.bind_er h with h | ⟨a, r1, n1, hx, h2⟩
    · exact row_ers hr he _ _ _ _ _ _ _ h
    · have p1 := (row_part hr _ _ _ _ _ _ _ hx).1
      split at h2
      · rcases shut_er h2 with h3 | ⟨b, h3⟩
        · exact (he _ _ _ _ _ _ _ h3).trans ((List.tail_suffix _).trans p1)
        · exact (hr _ _ _ _ _ _ _ h3).1.trans ((List.tail_suffix _).trans p1)
      · rcases shut_er h2 with h3 | ⟨b, h3⟩
        · cases h3
        · cases h3; exact p1
theorem first_ers (hr : Parts rec) (he : ErS rec) {a : Int} {level : Nat} {ts : List Tk} {ns : Names} {e : Int} {r : List Tk} {n : Names} (h : first O N rec a level ts ns = .er e r n) : r <:+ ts := by
  unfold first at h
  dsimp only at h
  have t1 := List.tail_suffix ts
  split at h
  · cases h
  · split at h
    · rcases shut_er h with h3 | ⟨b, h3⟩
      · exact (row_ers hr he _ _ _ _ _ _ _ h3).trans ((List.tail_suffix _).trans t1)
      · exact (row_part hr _ _ _ _ _ _ _ h3).1.trans ((List.tail_suffix _).trans t1)
    · split at h
      · rcases PR.bind_er h with h | ⟨b, r1, n1, hx, h2⟩
        · exact (he _ _ _ _ _ _ _ h).trans t1
        · cases h2
      · split at h
        · rcases shut_er h with h3 | ⟨b, h3⟩
          · exact (he _ _ _ _ _ _ _ h3).trans t1
          · exact (hr _ _ _ _ _ _ _ h3).1.trans t1
        · split at h
          · exact (list_ers hr he h).trans t1
          · cases h
theorem goOn_ers (hr : Parts rec) (he : ErS rec) {most : Int} {level : Nat} : ∀ f left pr ts ns e r n, goOn O N rec most level f left pr ts ns = .er e r n → r <:+ ts := by
  intro f
  induction f with
  | zero => intro left pr ts ns e r n h; cases h; exact List.suffix_refl _
  | succ f ih =>
    intro left pr ts ns e r n h
    unfold goOn at h
    dsimp only at h
    split at h
    · rcases PR.bind_er h with h | ⟨a, r1, n1, hx, h2⟩
      · exact (he _ _ _ _ _ _ _ h).trans (List.tail_suffix _)
      · exact (ih _ _ _ _ _ _ _ h2).trans ((hr _ _ _ _ _ _ _ hx).1.trans (List.tail_suffix _))
    · cases h
theorem term_ers (x : Bool) (O : OT) (N : Nat) : ∀ f, ErS (term x O N f) := by
  intro f
  induction f with
  | zero => intro most level ts ns e r n h; cases h; exact List.suffix_refl _
  | succ f ih =>
    intro most level ts ns e r n h
    unfold term step at h
    dsimp only at h
    have hp := term_part x O N f
    split at h
    · cases h; exact List.suffix_refl _
    · rename_i hb
      split at h
      · cases h; exact List.suffix_refl _
      · rcases PR.bind_er h with h | ⟨a, r1, n1, hx, h2⟩
        · exact first_ers hp ih h
        · obtain ⟨t, s, rfl⟩ := begs_cons (fun e => hb (Or.inl e))
          exact (goOn_ers hp ih _ _ _ _ _ _ _ _ h2).trans (first_part hp hx).1
/-- a place among what is left -/
theorem see_le {ts r : List Tk} (h : r <:+ ts) (hN : ∀ x ∈ ts, x.a < N) (j : Nat) : (see N r j).a ≤ N := by
  unfold see
  cases hj : r[j]? with
  | none => exact Nat.le_refl _
  | some x => exact Nat.le_of_lt (hN x (h.subset (List.mem_of_getElem? hj)))
theorem clause_place {ts : List Tk} {e : Int} {a : Nat} (h : clause true O N ts = .er e a) (hN : ∀ x ∈ ts, x.a < N) : a ≤ N := by
  unfold clause at h
  split at h
  · rename_i e1 r n hx
    cases h
    exact see_le (term_ers _ _ _ _ _ _ _ _ _ _ _ hx) hN 0
  · rename_i t r n hx
    split at h
    · split at h
      · cases h
      · cases h; exact see_le (List.suffix_refl _) hN 0
    · cases h; exact see_le (term_part _ _ _ _ _ _ _ _ _ _ _ hx).1 hN 0
theorem Fine_mem {S : List UInt8} : ∀ {ts : List Tk} {lo : Nat}, Fine S lo ts → ∀ x ∈ ts, x.a < S.length
  | [], _, _, x, hx => by cases hx
  | y :: r, lo, h, x, hx => by
    rcases List.mem_cons.1 hx with rfl | hx
    · exact h.2.1
    · exact Fine_mem h.2.2.2 x hx
/-- the clause's own end stands in the text -/
theorem clause_end {ts rest : List Tk} {t : Tm} {ns : Names} {a : Nat} (h : clause true O N ts = .ok t ns a rest) : ∃ x, x :: rest <:+ ts ∧ x.k = 8 := by
  unfold clause at h
  split at h
  · cases h
  · rename_i v r n hx
    split at h
    · rename_i h8
      split at h
      · cases h
        have hp := (term_part _ _ _ _ _ _ _ _ _ _ _ hx).1
        cases r with
        | nil => cases h8
        | cons x s => exact ⟨x, hp, h8⟩
      · cases h
    · cases h
theorem readT_place {tl : List opa.D} {S : List UInt8} {e : Int} {a : Nat} (hS : S.length ≤ 65536) (h : readT tl S = .er e a) : a ≤ S.length := by
  unfold readT at h
  have hf := all_fine hS (ts := (allT S).1) (p := (allT S).2.1) (e := (allT S).2.2) rfl
  split at h
  · rename_i he
    cases h
    exact Nat.le_of_lt (hf.2 he).1
  · rename_i he
    have hF := Fine_mem (hf.1 (by simpa using he))
    unfold termOf at h
    split at h
    · rename_i hc
      cases h
      exact clause_place hc hF
    · rename_i t n a' r hc
      split at h
      · cases h
      · cases h
        obtain ⟨x, hx, -⟩ := clause_end hc
        have hl := hx.length_le
        simp only [List.length_cons] at hl
        have hlt : (allT S).1.length - r.length - 1 < (allT S).1.length := by omega
        have hs : see S.length ((allT S).1.drop ((allT S).1.length - r.length - 1)) 0 = (allT S).1[(allT S).1.length - r.length - 1] := see_in (by omega)
        rw [hs]
        have := hF _ (List.getElem_mem hlt)
        omega
end
/-- names, looked at -/
theorem str_row {w : World} {B : Nat} {a : Option Addr} {c : Nat} {ns : Names} (h : w.ownsRow B 9 1 (.slice a ns.length c) ns.length (ns.map sv)) (hne : ns ≠ []) :
    ∃ g, a = some ⟨g, 0, none⟩ ∧ g < w.heap.size ∧ ∀ j (hj : j < ns.length), w.cell? ⟨g, j, none⟩ = some (.string ⟨ns[j].toArray⟩) := by
  obtain ⟨hl, hr⟩ := h
  rcases hr with ⟨-, hz⟩ | ⟨g, cap, cur, hv, hg0, hgc, g1, g2, g3, g4⟩
  · exact absurd (List.eq_nil_of_length_eq_zero hz) hne
  · cases hv
    refine ⟨g, rfl, Nw.lt hgc, fun j hj => ?_⟩
    have e := congrArg (fun l : List Value => l[j]?) g4
    simp only [List.getElem?_map, List.getElem?_eq_getElem hj, Option.map_some] at e
    rw [List.getElem?_take_of_lt (by omega)] at e
    simp only [World.cell?, hgc]
    simpa [sv, nm] using e
theorem int_row {w : World} {B : Nat} {v : Value} {l : List Int} (h : w.ownsRow B 2 1 v l.length (l.map (Value.int .i64))) (hne : l ≠ []) :
    ∃ g c, v = .slice (some ⟨g, 0, none⟩) l.length c ∧ g < w.heap.size ∧ ∀ j (hj : j < l.length), w.cell? ⟨g, j, none⟩ = some (.int .i64 l[j]) := by
  obtain ⟨hl, hr⟩ := h
  rcases hr with ⟨-, hz⟩ | ⟨g, cap, cur, hv, hg0, hgc, g1, g2, g3, g4⟩
  · exact absurd (List.eq_nil_of_length_eq_zero hz) hne
  · cases hv
    refine ⟨g, cap, rfl, Nw.lt hgc, fun j hj => ?_⟩
    have e := congrArg (fun l : List Value => l[j]?) g4
    simp only [List.getElem?_map, List.getElem?_eq_getElem hj, Option.map_some] at e
    rw [List.getElem?_take_of_lt (by omega)] at e
    simp only [World.cell?, hgc]
    simpa using e
theorem elStr : Tryz.prog.elem 28 = 9 := by kernel_rfl
theorem szStr (w : World) : (sizeOf 9).run Tryz.prog w = .ok 1 w := by kernel_rfl
theorem str_ix {g n c k : Nat} (hk : k < n) (w : World) : (Instr.indexAt 28 (.slice (some ⟨g, 0, none⟩) n c) (.int .i64 (k : Int))).run Tryz.prog w = .ok (.pointer (some ⟨g, k, none⟩)) w := by
  rw [run_indexAt_slice w 28 _ _ _ _ _ (by rw [elStr]; exact Tryz.underlying28), if_pos ⟨by omega, by omega⟩, elStr, szStr]
  simp [Result.andThen, Addr.add]; omega
theorem elInt : Tryz.prog.elem 55 = 2 := by kernel_rfl
theorem szInt (w : World) : (sizeOf 2).run Tryz.prog w = .ok 1 w := by kernel_rfl
theorem int_ix {g n c k : Nat} (hk : k < n) (w : World) : (Instr.indexAt 55 (.slice (some ⟨g, 0, none⟩) n c) (.int .i64 (k : Int))).run Tryz.prog w = .ok (.pointer (some ⟨g, k, none⟩)) w := by
  rw [run_indexAt_slice w 55 _ _ _ _ _ (by rw [elInt]; exact Tryz.underlying55), if_pos ⟨by omega, by omega⟩, elInt, szInt]
  simp [Result.andThen, Addr.add]; omega
end Go.Proofs.YtedbcmagjbgbjaaGreatDoor.rd
