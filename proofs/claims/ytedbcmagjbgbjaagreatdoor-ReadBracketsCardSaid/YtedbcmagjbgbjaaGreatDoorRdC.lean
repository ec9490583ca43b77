/- The project's reader: the variables' names and their numbers. The project's reader: a token that is a term by itself. The project's reader: the state between its calls, and what a call tells. -/
import Derived.Test.YtedbcmagjbgbjaaGreatDoorRdB
import Derived.Maps.OwnSet
import Derived.Maps.AppendAt
import Derived.WalkSpells
import Derived.Outline
import Derived.Test.YtedbcmagjbgbjaaGreatDoorWalk
namespace Go.Proofs.YtedbcmagjbgbjaaGreatDoor.rd
open Go.ChangeShapes Go.WideShapes Go.ChangeAt Go.RowKit Go.Maps Go.WideMaps
open Go.Proofs.YtedbcmagjbgbjaaGreatDoor.kp Go.Proofs.YtedbcmagjbgbjaaGreatDoor.num Go.Proofs.YtedbcmagjbgbjaaGreatDoor.dec Go.Proofs.YtedbcmagjbgbjaaGreatDoor.tk
set_option linter.unusedVariables false
set_option linter.unusedSimpArgs false
abbrev Key (s : List UInt8) : Lit := .string (nm s).data.toList
theorem Key_ne {s t : List UInt8} (h : s ≠ t) : Key s ≠ Key t := by
  intro e; exact h (by injection e)
/-- what the map of numbers holds -/
def hs (ns : Names) (s : List UInt8) : Bool := decide (s ≠ [95] ∧ s ∈ ns)
def NS (D : DataW Unit) (ns : Names) : Prop := ∀ s : List UInt8, has D (Key s) = hs ns s ∧ D.atKey (Key s) (.lit (.int .i64 0)) = .lit (.int .i64 (if hs ns s = true then (ns.idxOf s : Int) else 0))
theorem NS_nil : NS (.map []) [] := fun s => ⟨by simp [has, hs], by simp [DataW.atKey, hs]⟩
theorem hs_other {ns : Names} {s t : List UInt8} (h : t ≠ s) : hs (ns ++ [s]) t = hs ns t := by unfold hs; simp [h]
theorem hs_us {ns : Names} (t : List UInt8) : hs (ns ++ [[95]]) t = hs ns t := by
  by_cases h : t = [95]
  · subst h; simp [hs]
  · exact hs_other h
theorem idx_old {ns : Names} {s t : List UInt8} (h : hs ns t = true) : (ns ++ [s]).idxOf t = ns.idxOf t := by
  have : t ∈ ns := by simp only [hs, decide_eq_true_eq] at h; exact h.2
  simp [List.idxOf_append, this]
theorem NS_put {D : DataW Unit} {ns : Names} {s : List UInt8} (h : NS D ns) (hD : IsMap D) (h5 : s ≠ [95]) (hn : s ∉ ns) : NS (D.put (Key s) (.lit (.int .i64 ns.length))) (ns ++ [s]) := by
  intro t
  by_cases e : t = s
  · subst e
    have h1 : hs (ns ++ [t]) t = true := by simp [hs, h5]
    refine ⟨?_, ?_⟩
    · rw [has_put_same hD (by simp [WideAt.IsKeyLit]), h1]
    · rw [atKey_put_same hD (by simp [WideAt.IsKeyLit]), if_pos h1]
      simp [List.idxOf_append, hn]
  · refine ⟨?_, ?_⟩
    · rw [has_put_other (Key_ne e), (h t).1, hs_other e]
    · rw [atKey_put_other (Key_ne e), (h t).2, hs_other e]
      by_cases m : hs ns t = true
      · rw [if_pos m, if_pos m, idx_old m]
      · rw [if_neg m, if_neg m]
theorem NS_us {D : DataW Unit} {ns : Names} (h : NS D ns) : NS D (ns ++ [[95]]) := by
  intro t
  refine ⟨by rw [(h t).1, hs_us], ?_⟩
  rw [(h t).2, hs_us]
  by_cases m : hs ns t = true
  · rw [if_pos m, if_pos m, idx_old m]
  · rw [if_neg m, if_neg m]
abbrev sv (s : List UInt8) : Value := .string (nm s)
/-- the reader at p, its numbers' map at m; F: its own blocks (the reader, the map, the names) -/
def RS (p m : Nat) (tv tb : Value) (N k : Nat) (ns : Names) (F : Nat → Prop) (w : World) : Prop :=
  ∃ nv D kl, w.heap[p]? = some (RO tv N k tb (.map (some m)) nv) ∧ w.ownsMap Tryz.prog 9 (plainElem (H := Unit) Tryz.prog 2) m kl D ∧ kl ≤ ns.length ∧ NS D ns ∧
    w.ownsRow 0 9 1 nv ns.length (ns.map sv) ∧ p ≠ m ∧ nv.ownBlock ≠ some p ∧ nv.ownBlock ≠ some m ∧ (∀ i, F i ↔ i = p ∨ i = m ∨ nv.ownBlock = some i)
section
variable {w w' w0 : World} {p m : Nat} {tv tb : Value} {N k : Nat} {ns : Names} {F : Nat → Prop}
theorem RS.lt (h : RS p m tv tb N k ns F w) : ∀ i, F i → i < w.heap.size := by
  obtain ⟨nv, D, kl, hp, hm, _, _, hr, _, _, _, hF⟩ := h
  intro i hi
  rcases (hF i).1 hi with rfl | rfl | e
  · exact (Array.getElem?_eq_some_iff.1 hp).1
  · exact hm.lt
  · exact (hr.lt i e).2
theorem RS.keep {G : Nat → Prop} (h : RS p m tv tb N k ns F w) (hk : Keep G w w') (hd : ∀ i, F i → ¬ G i) : RS p m tv tb N k ns F w' := by
  have hlt := h.lt
  obtain ⟨nv, D, kl, hp, hm, hkl, hn, hr, h1, h2, h3, hF⟩ := h
  have hb : ∀ i, F i → w'.heap[i]? = w.heap[i]? := fun i f => hk.block i (hlt i f) (hd i f)
  refine ⟨nv, D, kl, (hb p ((hF p).2 (Or.inl rfl))).trans hp, ?_, hkl, hn, ?_, h1, h2, h3, hF⟩
  · obtain ⟨es, clock, hmb, r⟩ := hm
    exact ⟨es, clock, (hb m ((hF m).2 (Or.inr (Or.inl rfl)))).trans hmb, r⟩
  · obtain ⟨hl, hr⟩ := hr
    refine ⟨hl, ?_⟩
    rcases hr with hr | ⟨g, cap, cur, rfl, hg0, hg, r⟩
    · exact Or.inl hr
    · exact Or.inr ⟨g, cap, cur, rfl, hg0, (hb g ((hF g).2 (Or.inr (Or.inr rfl)))).trans hg, r⟩
theorem RS.below (h : RS p m tv tb N k ns F w) (hb : Below w.heap.size w w') : RS p m tv tb N k ns F w' :=
  h.keep (G := fun _ => False) (Keep.of_below hb) (fun _ _ => id)
/-- the reader goes on to another token -/
theorem RS.to (h : RS p m tv tb N k ns F w) {k' : Nat} {nv' : Value} (N' : ∀ nv, w.heap[p]? = some (RO tv N k tb (.map (some m)) nv) → Nw p (RO tv N k' tb (.map (some m)) nv) w w') : RS p m tv tb N k' ns F w' := by
  have hlt := h.lt
  obtain ⟨nv, D, kl, hp, hm, hkl, hn, hr, h1, h2, h3, hF⟩ := h
  have hN := N' nv hp
  have hb : ∀ i, i ≠ p → F i → w'.heap[i]? = w.heap[i]? := fun i hne f => hN.2.block i (hlt i f) hne
  refine ⟨nv, D, kl, hN.1, ?_, hkl, hn, ?_, h1, h2, h3, hF⟩
  · obtain ⟨es, clock, hmb, r⟩ := hm
    exact ⟨es, clock, (hb m (fun e => h1 e.symm) ((hF m).2 (Or.inr (Or.inl rfl)))).trans hmb, r⟩
  · obtain ⟨hl, hr⟩ := hr
    refine ⟨hl, ?_⟩
    rcases hr with hr | ⟨g, cap, cur, rfl, hg0, hg, r⟩
    · exact Or.inl hr
    · exact Or.inr ⟨g, cap, cur, rfl, hg0, (hb g (fun e => h2 (by rw [e]; rfl)) ((hF g).2 (Or.inr (Or.inr rfl)))).trans hg, r⟩
def RNext (p m : Nat) (tv tb : Value) (N k : Nat) (ns : Names) (F : Nat → Prop) (w w' : World) : Prop := ∃ F', RS p m tv tb N k ns F' w' ∧ Keep F w w' ∧ ∀ i, F' i → F i ∨ w.heap.size ≤ i
theorem RNext.same (h : RS p m tv tb N k ns F w) : RNext p m tv tb N k ns F w w := ⟨F, h, Keep.refl _ _, fun _ => Or.inl⟩
theorem law : Keyed Tryz.prog 9 := string_keyed Tryz.underlying9
theorem zeroI (w : World) : (zeroValue 2).run Tryz.prog w = .ok (.int .i64 0) w := by kernel_rfl
theorem infoS : (Tryz.prog.info? 9).map (fun i => (i.zero, i.size, i.bytes)) = some (some (.string ⟨#[]⟩), 1, 16) := by kernel_rfl
set_option maxRecDepth 100000 in
set_option maxHeartbeats 8000000 in
theorem number_old (h : RS p m tv tb N k ns F w) (s : List UInt8) (hl : s.length ≤ 70000) (hi : hs ns s = true) :
    Calls Tryz.prog 167 #[.pointer (some ⟨p, 0, none⟩), .string ⟨s.toArray⟩] w fun e w' => e = .returned (.int .i64 (ns.idxOf s : Int)) ∧ w = w' := by
  obtain ⟨nv, D, kl, hp, hm, hkl, hn, hr, h1, h2, h3, hF⟩ := h
  obtain ⟨⟨-, -, -, -, c4, c5⟩, -⟩ := six hp
  have hkey : keyOf Tryz.prog 9 (.string ⟨s.toArray⟩) = some (Key s) := keyOf_string_mk Tryz.underlying9 (by show s.length ≤ maxLen; unfold maxLen; omega)
  obtain ⟨g1, g2⟩ := hn s
  rw [hi] at g1
  rw [if_pos hi] at g2
  have G1 := Lib.hid g1
  have G2 := Lib.hid g2
  clear hp hn hr h1 h2 h3 hF g1 g2 hi
  go_enter Tryz.func167, Tryz.ntmps167
  go_wp2_with (first
    | (at_lookup; refine wpList_lookup_own_ok_int _ rfl _ _ 70 rfl 9 2 .i64 law Tryz.underlying70 Tryz.underlying2 (zeroI _) m _ D rfl hm _ _ rfl hkey ?_; intro c hat hwc; rw [G1.out]))
  go_ret
  have e1 := G2.out.symm.trans hat
  injection e1 with e1; injection e1 with _ e1
  rw [e1]
  exact ⟨rfl, rfl⟩
theorem grown_of_below {w w' : World} (h : Below w.heap.size w w') (row : Option Nat) : w.grownBy w' row := ⟨h.os, h.tape, h.output, h.size, fun k hk _ => h.block k hk⟩
theorem RNext.mk {w w2 w4 : World} {nv v' : Value} {D' : DataW Unit} {kl : Nat} {s : List UInt8}
    (hp : w.heap[p]? = some (RO tv N k tb (.map (some m)) nv)) (hpm : p ≠ m) (hvp : nv.ownBlock ≠ some p) (hvm : nv.ownBlock ≠ some m) (hF : ∀ i, F i ↔ i = p ∨ i = m ∨ nv.ownBlock = some i)
    (hm : m < w.heap.size) (hkl : kl ≤ ns.length + 1) (hn' : NS D' (ns ++ [s])) {w1 : World} (b1 : Below w.heap.size w w1) (hr' : w2.ownsRow 0 9 1 v' (ns.length + 1) ((ns ++ [s]).map sv)) (g2 : w1.grownBy w2 nv.ownBlock)
    (hat : v'.ownBlock = nv.ownBlock ∨ v'.ownBlock = some w1.heap.size)
    (hm4 : w4.ownsMap Tryz.prog 9 (plainElem (H := Unit) Tryz.prog 2) m kl D') (g4 : (w2.setCell ⟨p, 5, none⟩ v').grownBy w4 (some m)) : RNext p m tv tb N k (ns ++ [s]) F w w4 := by
  have hpl : p < w.heap.size := (Array.getElem?_eq_some_iff.1 hp).1
  have s1 := b1.size
  have s2 := g2.size
  have p1 := (b1.block p hpl).trans hp
  have p2 : w2.heap[p]? = some (RO tv N k tb (.map (some m)) nv) := (g2.block p (by omega) (fun e => hvp e.symm)).trans p1
  have p3 : (w2.setCell ⟨p, 5, none⟩ v').heap[p]? = some (RO tv N k tb (.map (some m)) v') := (Nw.set p2 5 v').1
  have s3 : (w2.setCell ⟨p, 5, none⟩ v').heap.size = w2.heap.size := by simp [World.setCell]
  have p4 : w4.heap[p]? = some (RO tv N k tb (.map (some m)) v') := (g4.block p (by omega) (fun e => hpm (by injection e))).trans p3
  have hv'p : v'.ownBlock ≠ some p := by rcases hat with e | e <;> rw [e]; exact hvp; intro e; injection e with e; omega
  have hv'm : v'.ownBlock ≠ some m := by rcases hat with e | e <;> rw [e]; exact hvm; intro e; injection e with e; omega
  have hr3 : (w2.setCell ⟨p, 5, none⟩ v').ownsRow 0 9 1 v' (ns.length + 1) ((ns ++ [s]).map sv) := by
    obtain ⟨q1, q2⟩ := hr'
    refine ⟨q1, ?_⟩
    rcases q2 with q | ⟨g, cap, cur, rfl, q3, q4, r⟩
    · exact Or.inl q
    · exact Or.inr ⟨g, cap, cur, rfl, q3, by rw [Below.heap_setCell _ _ _ _ (by intro e; exact hv'p (by simp [Value.ownBlock]; exact e))]; exact q4, r⟩
  have hr4 := hr3.kept g4 (Or.inr hv'm)
  have s4 := g4.size
  refine ⟨fun i => i = p ∨ i = m ∨ v'.ownBlock = some i, ⟨v', D', kl, p4, hm4, by rw [List.length_append]; exact hkl, hn', ?_, hpm, hv'p, hv'm, fun _ => Iff.rfl⟩, ?_, ?_⟩
  · rw [List.length_append]; exact hr4
  · have k1 : Keep F w w1 := Keep.of_below b1
    have k2 : Keep F w1 w2 := Keep.of_grown g2 fun i e => (hF i).2 (Or.inr (Or.inr e.symm.symm))
    have k3 : Keep F w2 (w2.setCell ⟨p, 5, none⟩ v') := Keep.setCell w2 ((hF p).2 (Or.inl rfl)) v'
    have k4 : Keep F (w2.setCell ⟨p, 5, none⟩ v') w4 := Keep.of_grown g4 fun i e => (hF i).2 (Or.inr (Or.inl (by injection e with e; exact e.symm)))
    exact ((k1.trans k2 fun _ => Or.inl).trans k3 fun _ => Or.inl).trans k4 fun _ => Or.inl
  · rintro i (rfl | rfl | e)
    · exact Or.inl ((hF i).2 (Or.inl rfl))
    · exact Or.inl ((hF i).2 (Or.inr (Or.inl rfl)))
    · rcases hat with e' | e'
      · exact Or.inl ((hF i).2 (Or.inr (Or.inr (e'.symm.trans e))))
      · right; rw [e'] at e; injection e with e; omega
set_option maxRecDepth 100000 in
set_option maxHeartbeats 8000000 in
theorem number_new (h : RS p m tv tb N k ns F w) (s : List UInt8) (hl : s.length ≤ 70000) (hnl : ns.length ≤ 70000) (h5 : s ≠ [95]) (hi : s ∉ ns) :
    Calls Tryz.prog 167 #[.pointer (some ⟨p, 0, none⟩), .string ⟨s.toArray⟩] w fun e w' => e = .returned (.int .i64 (ns.length : Int)) ∧ RNext p m tv tb N k (ns ++ [s]) F w w' := by
  obtain ⟨nv, D, kl, hp, hm, hkl, hn, hr, h1, h2, h3, hF⟩ := h
  obtain ⟨a, c, rfl⟩ := kp.shape hr
  obtain ⟨⟨-, -, -, -, c4, c5⟩, -, -, -, -, f4, f5⟩ := six hp
  have hpl : p < w.heap.size := (Array.getElem?_eq_some_iff.1 hp).1
  have hml := hm.lt
  have hkey : keyOf Tryz.prog 9 (.string ⟨s.toArray⟩) = some (Key s) := keyOf_string_mk Tryz.underlying9 (by show s.length ≤ maxLen; unfold maxLen; omega)
  obtain ⟨g1, g2⟩ := hn s
  have his : hs ns s = false := by simp [hs, hi]
  rw [his] at g1
  have G1 := Lib.hid g1
  have HN := Lib.hid (NS_put hn hm.isMap h5 hi)
  have HP := Lib.hid hp
  have HF := Lib.hid hF
  have HR := Lib.hid hr
  have HM := Lib.hid hm
  have H1 := Lib.hid h1
  have H2 := Lib.hid h2
  have H3 := Lib.hid h3
  have HK := Lib.hid hkl
  have wfl : (Lit.int .i64 (ns.length : Int)).wf = true := WalkArith.wf_i64 (by omega)
  have WFL := Lib.hid wfl
  have hus : (!s == [95]) = true := by simpa using h5
  obtain ⟨i0, hi0, hz0, hz1, hz2⟩ := info_of infoS
  have HI := Lib.hid hi0
  have HI1 := Lib.hid hz0
  have HI2 := Lib.hid hz1
  have HI3 := Lib.hid hz2
  clear hp hn hF hr h1 h2 h3 wfl hi0 hz0 hz1 hz2 hkl g1 g2 his h5 hi
  go_enter Tryz.func167, Tryz.ntmps167
  go_wp2_with (first
    | (at_lookup; refine wpList_lookup_own_ok_int _ rfl _ _ 70 rfl 9 2 .i64 law Tryz.underlying70 Tryz.underlying2 (zeroI _) m _ D rfl hm _ _ rfl hkey ?_; intro cv hat hwc; rw [G1.out])
    | (at_builtin; refine wpList_append_own_at _ rfl (.tmp 28) (.tmp 30) 28 rfl 0 9 i0 (.string ⟨#[]⟩) 1 16 Tryz.underlying28 HI.out HI1.out HI2.out HI3.out rfl (by decide) _ _ _ rfl (HR.out.alloc _) ⟨w.heap.size, 0, none⟩ 1 1 [sv s] rfl rfl (one_new _ _ _) ?c2 ?b1 ?b2 ?b3 ?_))
  case c2 => intro u hu; simp at hu; subst hu; rfl
  case b1 => unfold maxLen; omega
  case b2 => omega
  case b3 => simp
  intro v' w2 hr2 g2 _ hat2
  obtain ⟨a', c', rfl⟩ := kp.shape hr2
  have hne : some p ≠ (Value.slice a ns.length c).ownBlock := fun e => H2.out e.symm
  have hne' : some m ≠ (Value.slice a ns.length c).ownBlock := fun e => H3.out e.symm
  have hb2 : w2.heap[p]? = some (RO tv N k tb (.map (some m)) (.slice a ns.length c)) := (g2.block p (by simp; omega) hne).trans (((kp.ba w _).block p hpl).trans HP.out)
  clear c4 c5 f4 f5
  obtain ⟨⟨-, -, -, -, c4, c5⟩, -, -, -, -, f4, f5⟩ := six hb2
  have hlt2 := Nw.lt hb2
  have HM2 := (HM.out.alloc (.cells #[sv s] 9)).kept g2 hne'
  have HM3 := Lib.hid (HM2.setCell (a := ⟨p, 5, none⟩) (fun e => H1.out e.symm) (.slice a' (ns.length + 1) c'))
  have HR2 := Lib.hid hr2
  have G2 := Lib.hid g2
  have HAT := Lib.hid hat2
  clear hne hne' HM2 hr2 g2 hat2 hb2
  go_wp2_with (at_mapUpdate; refine wpList_mapUpdate_own _ rfl _ _ _ 70 rfl 9 2 law Tryz.underlying70 _ m kl D rfl HM3.out ?b4 _ _ _ rfl rfl hkey _ [] (plainElem_int Tryz.underlying2 WFL.out) ?_)
  case b4 => have := HK.out; unfold maxLen; omega
  intro w4 hm4 g4
  go_wp2_with fail
  go_ret
  exact ⟨rfl, RNext.mk HP.out H1.out H2.out H3.out HF.out hml (by have := HK.out; omega) HN.out (kp.ba w _) (by have := HR2.out; simpa using this) G2.out (by have := HAT.out; simpa using this) hm4 g4⟩
set_option maxRecDepth 100000 in
set_option maxHeartbeats 8000000 in
theorem number_us (h : RS p m tv tb N k ns F w) (s : List UInt8) (hl : s.length ≤ 70000) (hnl : ns.length ≤ 70000) (h5 : s = [95]) :
    Calls Tryz.prog 167 #[.pointer (some ⟨p, 0, none⟩), .string ⟨s.toArray⟩] w fun e w' => e = .returned (.int .i64 (ns.length : Int)) ∧ RNext p m tv tb N k (ns ++ [s]) F w w' := by
  obtain ⟨nv, D, kl, hp, hm, hkl, hn, hr, h1, h2, h3, hF⟩ := h
  obtain ⟨a, c, rfl⟩ := kp.shape hr
  obtain ⟨⟨-, -, -, -, c4, c5⟩, -, -, -, -, f4, f5⟩ := six hp
  have hpl : p < w.heap.size := (Array.getElem?_eq_some_iff.1 hp).1
  have hml := hm.lt
  have hkey : keyOf Tryz.prog 9 (.string ⟨s.toArray⟩) = some (Key s) := keyOf_string_mk Tryz.underlying9 (by show s.length ≤ maxLen; unfold maxLen; omega)
  obtain ⟨g1, g2⟩ := hn s
  have his : hs ns s = false := by simp [hs, h5]
  rw [his] at g1
  have G1 := Lib.hid g1
  have HN := Lib.hid (h5 ▸ NS_us hn)
  have HP := Lib.hid hp
  have HF := Lib.hid hF
  have HR := Lib.hid hr
  have HM := Lib.hid hm
  have H1 := Lib.hid h1
  have H2 := Lib.hid h2
  have H3 := Lib.hid h3
  have HK := Lib.hid hkl
  have wfl : (Lit.int .i64 (ns.length : Int)).wf = true := WalkArith.wf_i64 (by omega)
  have WFL := Lib.hid wfl
  have hus : (!s == [95]) = false := by rw [h5]; rfl
  obtain ⟨i0, hi0, hz0, hz1, hz2⟩ := info_of infoS
  have HI := Lib.hid hi0
  have HI1 := Lib.hid hz0
  have HI2 := Lib.hid hz1
  have HI3 := Lib.hid hz2
  clear hp hn hF hr h1 h2 h3 wfl hi0 hz0 hz1 hz2 hkl g1 g2 his h5
  go_enter Tryz.func167, Tryz.ntmps167
  go_wp2_with (first
    | (at_lookup; refine wpList_lookup_own_ok_int _ rfl _ _ 70 rfl 9 2 .i64 law Tryz.underlying70 Tryz.underlying2 (zeroI _) m _ D rfl hm _ _ rfl hkey ?_; intro cv hat hwc; rw [G1.out])
    | (at_builtin; refine wpList_append_own_at _ rfl (.tmp 28) (.tmp 30) 28 rfl 0 9 i0 (.string ⟨#[]⟩) 1 16 Tryz.underlying28 HI.out HI1.out HI2.out HI3.out rfl (by decide) _ _ _ rfl (HR.out.alloc _) ⟨w.heap.size, 0, none⟩ 1 1 [sv s] rfl rfl (one_new _ _ _) ?c2 ?b1 ?b2 ?b3 ?_))
  case c2 => intro u hu; simp at hu; subst hu; rfl
  case b1 => unfold maxLen; omega
  case b2 => omega
  case b3 => simp
  intro v' w2 hr2 g2 _ hat2
  obtain ⟨a', c', rfl⟩ := kp.shape hr2
  have hne : some p ≠ (Value.slice a ns.length c).ownBlock := fun e => H2.out e.symm
  have hne' : some m ≠ (Value.slice a ns.length c).ownBlock := fun e => H3.out e.symm
  have hb2 : w2.heap[p]? = some (RO tv N k tb (.map (some m)) (.slice a ns.length c)) := (g2.block p (by simp; omega) hne).trans (((kp.ba w _).block p hpl).trans HP.out)
  clear c4 c5 f4 f5
  obtain ⟨⟨-, -, -, -, c4, c5⟩, -, -, -, -, f4, f5⟩ := six hb2
  have hlt2 := Nw.lt hb2
  have HM2 := (HM.out.alloc (.cells #[sv s] 9)).kept g2 hne'
  have HM3 := Lib.hid (HM2.setCell (a := ⟨p, 5, none⟩) (fun e => H1.out e.symm) (.slice a' (ns.length + 1) c'))
  have HR2 := Lib.hid hr2
  have G2 := Lib.hid g2
  have HAT := Lib.hid hat2
  clear hne hne' HM2 hr2 g2 hat2 hb2
  go_wp2_with fail
  go_ret
  exact ⟨rfl, RNext.mk HP.out H1.out H2.out H3.out HF.out hml (by have := HK.out; omega) HN.out (kp.ba w _) (by have := HR2.out; simpa using this) G2.out (by have := HAT.out; simpa using this) HM3.out (grown_of_below (kp.br _) _)⟩
theorem number_any (h : RS p m tv tb N k ns F w) (s : List UInt8) (hl : s.length ≤ 70000) (hnl : ns.length ≤ 70000) :
    Calls Tryz.prog 167 #[.pointer (some ⟨p, 0, none⟩), .string ⟨s.toArray⟩] w fun e w' => e = .returned (.int .i64 ((number s ns).1 : Int)) ∧ RNext p m tv tb N k (number s ns).2 F w w' := by
  unfold number
  by_cases h5 : s = [95]
  · rw [if_neg (fun h => h.1 h5)]; exact number_us h s hl hnl h5
  · by_cases hi : s ∈ ns
    · rw [if_pos ⟨h5, hi⟩]
      refine (number_old h s hl (by simp [hs, h5, hi])).mono ?_
      rintro e w' ⟨rfl, rfl⟩
      exact ⟨rfl, RNext.same h⟩
    · rw [if_neg (fun h => hi h.2)]; exact number_new h s hl hnl h5 hi
end
end Go.Proofs.YtedbcmagjbgbjaaGreatDoor.rd
namespace Go.Proofs.YtedbcmagjbgbjaaGreatDoor.rd
open Go.ChangeShapes Go.WideShapes Go.ChangeAt Go.RowKit Go.Maps
open Go.Proofs.YtedbcmagjbgbjaaGreatDoor.kp Go.Proofs.YtedbcmagjbgbjaaGreatDoor.num Go.Proofs.YtedbcmagjbgbjaaGreatDoor.dec Go.Proofs.YtedbcmagjbgbjaaGreatDoor.tk
set_option linter.unusedVariables false
set_option linter.unusedSimpArgs false
/-- a term's value -/
def tmV (k : Int) (n : List UInt8) (i re im : Int) (a : Value) : Value := .agg #[.int .i64 k, .string ⟨n.toArray⟩, .int .i64 i, .int .u64 re, .int .u64 im, a]
abbrev TZ : Obj := .cells #[.int .i64 0, .string ⟨#[]⟩, .int .i64 0, .int .u64 0, .int .u64 0, .slice none 0 0] 27
def Leaf (t : Tm) (v : Value) : Prop := ∀ X w, lie.Lies X w t v
theorem leaf_any {k : Int} {n : List UInt8} {i re im : Int} (h : lie.Fit k (nm n) i re im 0 0) : Leaf (.mk k (nm n) i re im []) (tmV k n i re im (.slice none 0 0)) := by
  intro X w
  rw [lie.Lies]
  exact ⟨none, 0, rfl, h, by rw [lie.TRow]; trivial⟩
section
variable {w w' w0 : World} {p m : Nat} {tv tb : Value} {N k : Nat} {ns : Names} {F : Nat → Prop}
theorem RNext.trans {k' : Nat} {ns' : Names} {w1 w2 : World} (b : Below w.heap.size w w1) (hF : ∀ i, F i → i < w.heap.size) (h : RNext p m tv tb N k' ns' F w1 w2) : RNext p m tv tb N k' ns' F w w2 := by
  obtain ⟨F', a, c, d⟩ := h
  exact ⟨F', a, (Keep.of_below b).trans c fun _ => Or.inl, fun i hi => by rcases d i hi with h | h; exact Or.inl h; exact Or.inr (by have := b.size; omega)⟩
/-- a new block turns behind it -/
theorem RNext.set {k' : Nat} {ns' : Names} {w2 w3 : World} {r0 : Nat} {o : Obj} (h : RNext p m tv tb N k' ns' F w w2) (hr : w.heap.size ≤ r0) (hn : ∀ F', RS p m tv tb N k' ns' F' w2 → (∀ i, F' i → F i ∨ w0.heap.size ≤ i) → ¬ F' r0) (h0 : ∀ i, w.heap.size ≤ i → w0.heap.size ≤ i) (N' : Nw r0 o w2 w3) : RNext p m tv tb N k' ns' F w w3 := by
  obtain ⟨F', a, c, d⟩ := h
  refine ⟨F', a.keep (G := fun i => i = r0) N'.2 (fun i hi e => hn F' a (fun j hj => ?_) (e ▸ hi)), c.trans N'.2 fun i hi => Or.inr (by omega), d⟩
  rcases d j hj with h | h
  · exact Or.inl h
  · exact Or.inr (h0 j h)
/-- a boxed token at g, a new term's block at r0 -/
def WT (w : World) (g r0 : Nat) (x : Tk) (W : World) : Prop := Below w.heap.size w W ∧ W.heap[g]? = some (.cells #[.int .i64 x.k, .string ⟨x.t.toArray⟩, .int .i64 x.n, .int .u64 (x.re : Int), .int .u64 (x.im : Int), .int .i64 (x.a : Int)] 76 (0, 0)) ∧ W.heap[r0]? = some (.cells #[.int .i64 0, .string ⟨#[]⟩, .int .i64 0, .int .u64 0, .int .u64 0, .slice none 0 0] 27 (0, 0)) ∧ w.heap.size ≤ r0
theorem WT.start (w : World) (x : Tk) : WT w w.heap.size (w.heap.size + 1) x ((w.alloc (.cells #[.int .i64 x.k, .string ⟨x.t.toArray⟩, .int .i64 x.n, .int .u64 (x.re : Int), .int .u64 (x.im : Int), .int .i64 (x.a : Int)] 76)).alloc TZ) := by
  have b1 := kp.ba w (.cells #[.int .i64 x.k, .string ⟨x.t.toArray⟩, .int .i64 x.n, .int .u64 (x.re : Int), .int .u64 (x.im : Int), .int .i64 (x.a : Int)] 76)
  have b2 := kp.ba (w.alloc (.cells #[.int .i64 x.k, .string ⟨x.t.toArray⟩, .int .i64 x.n, .int .u64 (x.re : Int), .int .u64 (x.im : Int), .int .i64 (x.a : Int)] 76)) TZ
  have h1 := alloc_at w (.cells #[.int .i64 x.k, .string ⟨x.t.toArray⟩, .int .i64 x.n, .int .u64 (x.re : Int), .int .u64 (x.im : Int), .int .i64 (x.a : Int)] 76)
  refine ⟨b1.trans (b2.mono b1.size), (b2.block _ (Nw.lt h1)).trans h1, ?_, by omega⟩
  have h2 := alloc_at (w.alloc (.cells #[.int .i64 x.k, .string ⟨x.t.toArray⟩, .int .i64 x.n, .int .u64 (x.re : Int), .int .u64 (x.im : Int), .int .i64 (x.a : Int)] 76)) TZ
  rwa [alloc_size] at h2
structure TkOk (x : Tk) : Prop where
  t : x.t.length ≤ 70000
  n0 : -9223372036854775808 ≤ x.n
  n1 : x.n ≤ 9223372036854775807
  r : x.re ≤ 18446744073709551615
  i : x.im ≤ 18446744073709551615
  a : x.a ≤ 1000000
theorem RNext.fin {ns' : Names} {x : Tk} {W w3 U : World} {g r0 : Nat} {o : Obj} (h : RNext p m tv tb N k ns' F W w3) (hW : WT w g r0 x W) (h0 : RS p m tv tb N k ns F w) (N' : Nw r0 o w3 U) : RNext p m tv tb N k ns' F w U := by
  have hlt := h0.lt
  have h2 := RNext.trans hW.1 hlt h
  obtain ⟨F', a, c, d⟩ := h
  obtain ⟨F2, a2, c2, d2⟩ := h2
  refine ⟨F', a.keep (G := fun i => i = r0) N'.2 (fun i hi e => ?_), c2.trans N'.2 fun i hi => Or.inr (by have := hW.2.2.2; omega), fun i hi => ?_⟩
  · subst e
    rcases d _ hi with h | h
    · have := hlt _ h; have := hW.2.2.2; omega
    · have := Nw.lt hW.2.2.1; omega
  · rcases d i hi with h | h
    · exact Or.inl h
    · exact Or.inr (by have := hW.1.size; omega)
set_option maxRecDepth 100000 in
set_option maxHeartbeats 8000000 in
theorem whole_any (h : RS p m tv tb N k ns F w) (x : Tk) (hx : TkOk x) (hnl : ns.length ≤ 70000) :
    Calls Tryz.prog 132 #[.pointer (some ⟨p, 0, none⟩), TV x] w fun e w' => ∃ v, e = .returned v ∧ Leaf (whole x ns).1 v ∧ RNext p m tv tb N k (whole x ns).2 F w w' := by
  obtain ⟨g, hg⟩ : ∃ g, g = w.heap.size := ⟨_, rfl⟩
  obtain ⟨r0, hr0⟩ : ∃ r0, r0 = w.heap.size + 1 := ⟨_, rfl⟩
  have HG := Lib.hid (And.intro hg hr0)
  have H := Lib.hid h
  have HX := Lib.hid hx
  clear hg hr0 h hx
  unfold TV tkc
  by_cases k3 : x.k = 3
  · have HWH := Lib.hid (show whole x ns = (tm.var (number x.t ns).1, (number x.t ns).2) by unfold whole; rw [if_pos k3])
    have q3 : (x.k == 3) = true := by rw [k3]; rfl
    clear k3
    go_enter Tryz.func132, Tryz.ntmps132
    go_upto_region 1 with fail
    refine nmw (K := WT w g r0 x) (by rw [HG.out.1, HG.out.2]; exact WT.start w x) (fun W hW => ?_)
    rw [← HG.out.2, ← HG.out.1]
    obtain ⟨⟨t0, t1, t2, t3, t4, t5⟩, -⟩ := six hW.2.1
    have HNU := Lib.hid (number_any (H.out.below hW.1) x.t HX.out.t hnl)
    have HWW := Lib.hid hW
    clear hW
    obtain ⟨nn, hnn⟩ : ∃ nn, nn = (number x.t ns).1 := ⟨_, rfl⟩
    have hnb : nn ≤ 70000 := by
      rw [hnn]; unfold number; split
      · exact Nat.le_trans List.idxOf_le_length hnl
      · exact hnl
    rw [← hnn] at HNU HWH
    clear hnn
    go_wp2_with fail
    refine HNU.out.mono ?_; rintro e w3 ⟨rfl, hR⟩
    have hz : w3.heap[r0]? = some (.cells #[.int .i64 0, .string ⟨#[]⟩, .int .i64 0, .int .u64 0, .int .u64 0, .slice none 0 0] 27 (0, 0)) := by
      obtain ⟨F', -, c, -⟩ := hR
      exact (c.block r0 (Nw.lt HWW.out.2.2.1) (fun hF => by have := H.out.lt _ hF; have := HWW.out.2.2.2; omega)).trans HWW.out.2.2.1
    have HR := Lib.hid hR
    obtain ⟨⟨z0, z1, z2, z3, z4, z5⟩, y0, y1, y2, y3, y4, y5⟩ := six hz
    have hlz := Nw.lt hz
    obtain ⟨U, hU, hN⟩ := fin6 hz (.int .i64 1) (.string ⟨#[]⟩) (.int .i64 (nn : Int)) (.int .u64 0) (.int .u64 0) (.slice none 0 0)
    obtain ⟨⟨e0, e1, e2, e3, e4, e5⟩, -⟩ := six hN.1
    have HN := Lib.hid hN
    clear hN hz hR t0 t1 t2 t3 t4 t5
    go_wp2_with fail
    refine bodyPost_ret (v := tmV 1 [] nn 0 0 (.slice none 0 0)) (by simp [results, Tryz.results132, go_sem, e0, e1, e2, e3, e4, e5, tmV]) rfl ⟨_, rfl, ?_, ?_⟩
    · rw [HWH.out]; exact leaf_any (n := []) ⟨by omega, by omega, by decide, by omega, by omega, by omega, by omega, by omega, by omega, by omega, by omega⟩
    · rw [HWH.out]; exact HR.out.fin HWW.out H.out HN.out
  have q3 : (x.k == 3) = false := by simpa using k3
  by_cases k4 : x.k = 4
  · have HWH := Lib.hid (show whole x ns = (.mk 3 tm.E x.n 0 0 [], ns) by unfold whole; rw [if_neg k3, if_pos k4])
    have q4 : (x.k == 4) = true := by rw [k4]; rfl
    clear k3 k4
    go_enter Tryz.func132, Tryz.ntmps132
    go_upto_region 1 with fail
    refine nmw (K := WT w g r0 x) (by rw [HG.out.1, HG.out.2]; exact WT.start w x) (fun W hW => ?_)
    rw [← HG.out.2, ← HG.out.1]
    obtain ⟨⟨t0, t1, t2, t3, t4, t5⟩, -⟩ := six hW.2.1
    obtain ⟨⟨z0, z1, z2, z3, z4, z5⟩, y0, y1, y2, y3, y4, y5⟩ := six hW.2.2.1
    have hlz := Nw.lt hW.2.2.1
    obtain ⟨U, hU, hN⟩ := fin6 hW.2.2.1 (.int .i64 3) (.string ⟨#[]⟩) (.int .i64 x.n) (.int .u64 0) (.int .u64 0) (.slice none 0 0)
    obtain ⟨⟨e0, e1, e2, e3, e4, e5⟩, -⟩ := six hN.1
    have HN := Lib.hid (And.intro hW hN)
    clear hW hN
    go_wp2_with fail
    refine bodyPost_ret (v := tmV 3 [] x.n 0 0 (.slice none 0 0)) (by simp [results, Tryz.results132, go_sem, e0, e1, e2, e3, e4, e5, tmV]) rfl ⟨_, rfl, ?_, ?_⟩
    · rw [HWH.out]; exact leaf_any (n := []) ⟨by omega, by omega, by decide, HX.out.n0, HX.out.n1, by omega, by omega, by omega, by omega, by omega, by omega⟩
    · rw [HWH.out]; exact (RNext.same (H.out.below HN.out.1.1)).fin HN.out.1 H.out HN.out.2
  have q4 : (x.k == 4) = false := by simpa using k4
  by_cases k5 : x.k = 5
  · have HWH := Lib.hid (show whole x ns = (.mk 4 tm.E 0 x.re x.im [], ns) by unfold whole; rw [if_neg k3, if_neg k4, if_pos k5])
    have q5 : (x.k == 5) = true := by rw [k5]; rfl
    clear k3 k4 k5
    go_enter Tryz.func132, Tryz.ntmps132
    go_upto_region 1 with fail
    refine nmw (K := WT w g r0 x) (by rw [HG.out.1, HG.out.2]; exact WT.start w x) (fun W hW => ?_)
    rw [← HG.out.2, ← HG.out.1]
    obtain ⟨⟨t0, t1, t2, t3, t4, t5⟩, -⟩ := six hW.2.1
    obtain ⟨⟨z0, z1, z2, z3, z4, z5⟩, y0, y1, y2, y3, y4, y5⟩ := six hW.2.2.1
    have hlz := Nw.lt hW.2.2.1
    obtain ⟨U, hU, hN⟩ := fin6 hW.2.2.1 (.int .i64 4) (.string ⟨#[]⟩) (.int .i64 0) (.int .u64 (x.re : Int)) (.int .u64 (x.im : Int)) (.slice none 0 0)
    obtain ⟨⟨e0, e1, e2, e3, e4, e5⟩, -⟩ := six hN.1
    have HN := Lib.hid (And.intro hW hN)
    clear hW hN
    go_wp2_with fail
    refine bodyPost_ret (v := tmV 4 [] 0 x.re x.im (.slice none 0 0)) (by simp [results, Tryz.results132, go_sem, e0, e1, e2, e3, e4, e5, tmV]) rfl ⟨_, rfl, ?_, ?_⟩
    · rw [HWH.out]; exact leaf_any (n := []) ⟨by omega, by omega, by decide, by omega, by omega, by omega, by have := HX.out.r; omega, by omega, by have := HX.out.i; omega, by omega, by omega⟩
    · rw [HWH.out]; exact (RNext.same (H.out.below HN.out.1.1)).fin HN.out.1 H.out HN.out.2
  have q5 : (x.k == 5) = false := by simpa using k5
  · have HWH := Lib.hid (show whole x ns = (tm.atom (nm x.t), ns) by unfold whole; rw [if_neg k3, if_neg k4, if_neg k5])
    clear k3 k4 k5
    go_enter Tryz.func132, Tryz.ntmps132
    go_upto_region 1 with fail
    refine nmw (K := WT w g r0 x) (by rw [HG.out.1, HG.out.2]; exact WT.start w x) (fun W hW => ?_)
    rw [← HG.out.2, ← HG.out.1]
    obtain ⟨⟨t0, t1, t2, t3, t4, t5⟩, -⟩ := six hW.2.1
    obtain ⟨⟨z0, z1, z2, z3, z4, z5⟩, y0, y1, y2, y3, y4, y5⟩ := six hW.2.2.1
    have hlz := Nw.lt hW.2.2.1
    obtain ⟨U, hU, hN⟩ := fin6 hW.2.2.1 (.int .i64 2) (.string ⟨x.t.toArray⟩) (.int .i64 0) (.int .u64 0) (.int .u64 0) (.slice none 0 0)
    obtain ⟨⟨e0, e1, e2, e3, e4, e5⟩, -⟩ := six hN.1
    have HN := Lib.hid (And.intro hW hN)
    clear hW hN
    go_wp2_with fail
    refine bodyPost_ret (v := tmV 2 x.t 0 0 0 (.slice none 0 0)) (by simp [results, Tryz.results132, go_sem, e0, e1, e2, e3, e4, e5, tmV]) rfl ⟨_, rfl, ?_, ?_⟩
    · rw [HWH.out]; exact leaf_any (n := x.t) ⟨by omega, by omega, by show x.t.length ≤ _; have := HX.out.t; omega, by omega, by omega, by omega, by omega, by omega, by omega, by omega, by omega⟩
    · rw [HWH.out]; exact (RNext.same (H.out.below HN.out.1.1)).fin HN.out.1 H.out HN.out.2
set_option maxRecDepth 100000 in
set_option maxHeartbeats 8000000 in
theorem compound_any (n : List UInt8) (a : Option Addr) (l c : Nat) (w : World) : Calls Tryz.prog 90 #[.string ⟨n.toArray⟩, .slice a l c] w fun e w' => e = .returned (tmV 5 n 0 0 0 (.slice a l c)) ∧ Below w.heap.size w w' := by
  obtain ⟨g, hg⟩ : ∃ g, g = w.heap.size := ⟨_, rfl⟩
  have HG := Lib.hid hg
  clear hg
  go_enter Tryz.func90, Tryz.ntmps90
  go_upto_region 1 with fail
  change Code.wp _ _ _ _ (w.alloc TZ)
  refine nmw (K := fun W => Below w.heap.size w W ∧ W.heap[g]? = some (.cells #[.int .i64 0, .string ⟨#[]⟩, .int .i64 0, .int .u64 0, .int .u64 0, .slice none 0 0] 27 (0, 0))) ⟨kp.ba w _, by rw [HG.out]; exact alloc_at w _⟩ (fun W hW => ?_)
  rw [← HG.out]
  obtain ⟨⟨z0, z1, z2, z3, z4, z5⟩, y0, y1, y2, y3, y4, y5⟩ := six hW.2
  have hlz := Nw.lt hW.2
  obtain ⟨U, hU, hN⟩ := fin6 hW.2 (.int .i64 5) (.string ⟨n.toArray⟩) (.int .i64 0) (.int .u64 0) (.int .u64 0) (.slice a l c)
  obtain ⟨⟨e0, e1, e2, e3, e4, e5⟩, -⟩ := six hN.1
  have HN := Lib.hid (And.intro hW.1 hN.2)
  clear hW hN
  go_wp2_with fail
  refine bodyPost_ret (v := tmV 5 n 0 0 0 (.slice a l c)) (by simp [results, Tryz.results90, go_sem, e0, e1, e2, e3, e4, e5, tmV]) rfl ⟨rfl, ?_⟩
  exact HN.out.1.trans (HN.out.2.to_below (fun i hi => by rw [hi, HG.out]; exact Nat.le_refl _) (by have := HN.out.2.size; have := HN.out.1.size; omega))
/-- a compound over a row of terms -/
theorem comp_lies {X : Nat → Prop} {n : List UInt8} {l : List Tm} {a : Option Addr} {c : Nat} (h : lie.TRow X w l a 0) (hc : l.length ≤ c) (hc2 : c ≤ 9223372036854775807) (hn : n.length ≤ 70000) : lie.Lies X w (tm.comp (nm n) l) (tmV 5 n 0 0 0 (.slice a l.length c)) := by
  unfold tm.comp
  rw [lie.Lies]
  exact ⟨a, c, rfl, ⟨by omega, by omega, by show n.length ≤ _; omega, by omega, by omega, by omega, by omega, by omega, by omega, hc, hc2⟩, h⟩
end
end Go.Proofs.YtedbcmagjbgbjaaGreatDoor.rd
namespace Go.Proofs.YtedbcmagjbgbjaaGreatDoor.rd
open Go.ChangeShapes Go.WideShapes Go.ChangeAt Go.RowKit Go.Maps
open Go.Proofs.YtedbcmagjbgbjaaGreatDoor.kp Go.Proofs.YtedbcmagjbgbjaaGreatDoor.num Go.Proofs.YtedbcmagjbgbjaaGreatDoor.dec Go.Proofs.YtedbcmagjbgbjaaGreatDoor.tk
set_option linter.unusedVariables false
set_option linter.unusedSimpArgs false
/-- what does not turn: the tokens, the operators -/
structure Env (tv : Value) (tp : Nat) (FT : Nat → Prop) (all : List Tk) (tl : List opa.D) (F : Nat → Prop) (w : World) : Prop where
  toks : Toks 0 w tv all
  toff : ∀ i, tv.ownBlock = some i → ¬ F i
  tab : opb.Tb w tp FT tl
  tabo : ∀ i, FT i → ¬ F i
  srt : opa.Srt tl
  len : tl.length ≤ 1000
  pri : ∀ o ∈ tl, 0 ≤ o.p ∧ o.p ≤ 1200
section
variable {w w' w0 w1 w2 : World} {p m tp N k : Nat} {tv : Value} {all : List Tk} {tl : List opa.D} {ns : Names} {F F' FT : Nat → Prop}
theorem Env.next (h : Env tv tp FT all tl F w) (K : Keep F w w') (hF : ∀ i, F' i → F i ∨ w.heap.size ≤ i) : Env tv tp FT all tl F' w' := by
  refine ⟨ow_keep h.toks fun i e => K.block i (h.toks.lt i e).2 (h.toff i e), fun i e hi => ?_, h.tab.keep K h.tabo, fun i hi hf => ?_, h.srt, h.len, h.pri⟩
  · rcases hF i hi with a | a
    · exact h.toff i e a
    · have := (h.toks.lt i e).2; omega
  · rcases hF i hf with a | a
    · exact h.tabo i hi a
    · have := h.tab.lt i hi; omega
theorem Env.gd (h : Env tv tp FT all tl F w) (o : opa.D) : 0 ≤ (ope.gd tl o).p ∧ (ope.gd tl o).p ≤ 1200 := by
  unfold ope.gd
  cases hm : (opa.md tl o).head? with
  | none => simp
  | some x =>
    have hx : x ∈ opa.md tl o := List.mem_of_mem_head? hm
    exact h.pri x (List.mem_filter.1 hx).1
/-- the reader ahead of token k -/
structure St (p m : Nat) (tv : Value) (tp : Nat) (FT : Nat → Prop) (N : Nat) (all : List Tk) (tl : List opa.D) (k : Nat) (ns : Names) (F : Nat → Prop) (w : World) : Prop where
  rs : RS p m tv (.pointer (some ⟨tp, 0, none⟩)) N k ns F w
  env : Env tv tp FT all tl F w
  kle : k ≤ all.length
  ale : all.length ≤ 65536
  nle : ns.length ≤ k
  ok : ∀ x ∈ all, TkOk x
/-- from w to w' the reader's own blocks alone have turned -/
structure Nx (F : Nat → Prop) (w : World) (F' : Nat → Prop) (w' : World) : Prop where
  keep : Keep F w w'
  own : ∀ i, F' i → F i ∨ w.heap.size ≤ i
theorem Nx.trans {F1 F2 : Nat → Prop} (h : Nx F w F1 w1) (g : Nx F1 w1 F2 w2) : Nx F w F2 w2 :=
  ⟨h.keep.trans g.keep fun i hi => by rcases h.own i hi with a | a; exact Or.inl a; exact Or.inr a, fun i hi => by
    rcases g.own i hi with a | a
    · exact h.own i a
    · exact Or.inr (Nat.le_trans h.keep.size a)⟩
theorem Nx.below (hb : Below w.heap.size w w') : Nx F w F w' := ⟨Keep.of_below hb, fun _ => Or.inl⟩
theorem Nx.lies (h : Nx F w F' w') {t : Tm} {v : Value} (hl : lie.Lies F w t v) : lie.Lies F' w' t v :=
  lie.Lies.keep h.keep (fun b hb hy => by rcases h.own b hy with a | a; exact a; omega) t v hl
theorem Nx.row (h : Nx F w F' w') {l : List Tm} {a : Option Addr} {j : Nat} (hl : lie.TRow F w l a j) : lie.TRow F' w' l a j :=
  lie.TRow.keep h.keep (fun b hb hy => by rcases h.own b hy with a | a; exact a; omega) l j hl
theorem St.below (h : St p m tv tp FT N all tl k ns F w) (hb : Below w.heap.size w w') : St p m tv tp FT N all tl k ns F w' :=
  ⟨h.rs.below hb, h.env.next (Keep.of_below hb) (fun _ => Or.inl), h.kle, h.ale, h.nle, h.ok⟩
theorem St.ro (h : St p m tv tp FT N all tl k ns F w) : ∃ nv, w.heap[p]? = some (RO tv N k (.pointer (some ⟨tp, 0, none⟩)) (.map (some m)) nv) := by
  obtain ⟨nv, D, kl, hp, -⟩ := h.rs; exact ⟨nv, hp⟩
theorem St.mine (h : St p m tv tp FT N all tl k ns F w) : F p := by
  obtain ⟨nv, D, kl, hp, hm, hkl, hn, hr, h1, h2, h3, hF⟩ := h.rs; exact (hF p).2 (Or.inl rfl)
/-- to another token -/
theorem St.to (h : St p m tv tp FT N all tl k ns F w) {k' : Nat} {nv : Value} (hp : w.heap[p]? = some (RO tv N k (.pointer (some ⟨tp, 0, none⟩)) (.map (some m)) nv)) (N' : Nw p (RO tv N k' (.pointer (some ⟨tp, 0, none⟩)) (.map (some m)) nv) w w') (hk : k ≤ k') (hk2 : k' ≤ all.length) :
    St p m tv tp FT N all tl k' ns F w' ∧ Nx F w F w' := by
  have K : Keep F w w' := N'.2.mono fun i hi => hi ▸ h.mine
  refine ⟨⟨h.rs.to (nv' := nv) (fun nv2 h2 => ?_), h.env.next K (fun _ => Or.inl), hk2, h.ale, Nat.le_trans h.nle hk, h.ok⟩, ⟨K, fun _ => Or.inl⟩⟩
  have e := hp.symm.trans h2
  simp only [Option.some.injEq, Obj.cells.injEq, true_and, and_true] at e
  have e5 : nv = nv2 := by
    have := congrArg (fun a : Array Value => a[5]?) e
    simpa using this
  rw [← e5]; exact N'
abbrev Z0 : Value := tmV 0 [] 0 0 0 (.slice none 0 0)
/-- what a call that reads a term tells -/
def PE (p m : Nat) (tv : Value) (tp : Nat) (FT : Nat → Prop) (N : Nat) (all : List Tk) (tl : List opa.D) (R : PR Tm) (F : Nat → Prop) (w : World) (e : Ending) (w' : World) : Prop := match R with
  | .er n rest ns' => e = .returned (.tuple #[Z0, .int .i64 n]) ∧ n ≠ 0 ∧ ∃ k' F', all.drop k' = rest ∧ St p m tv tp FT N all tl k' ns' F' w' ∧ Nx F w F' w'
  | .ok t rest ns' => ∃ v k' F', e = .returned (.tuple #[v, .int .i64 0]) ∧ all.drop k' = rest ∧ St p m tv tp FT N all tl k' ns' F' w' ∧ Nx F w F' w' ∧ lie.Lies (fun i => F' i ∨ i < w.heap.size) w' t v
/-- passes, over the state -/
theorem passes_st (h : St p m tv tp FT N all tl k ns F w) (c : UInt8) :
    Calls Tryz.prog 166 #[.pointer (some ⟨p, 0, none⟩), .string ⟨[c].toArray⟩] w fun e w' => e = .returned (.bool (isP (see N (all.drop k) 0) c)) ∧
      St p m tv tp FT N all tl (if isP (see N (all.drop k) 0) c = true then k + 1 else k) ns F w' ∧ Nx F w F w' ∧ (isP (see N (all.drop k) 0) c = true → all.drop (k + 1) = (all.drop k).tail) := by
  obtain ⟨nv, hp⟩ := h.ro
  have ha := h.ale
  have hk := h.kle
  refine (passes_any hp h.env.toks (by omega) (by omega) [c]).mono ?_
  rintro e w' ⟨rfl, hN⟩
  have hpe : pas [c] (see N (all.drop k) 0) = isP (see N (all.drop k) 0) c := rfl
  unfold adv at hN
  rw [hpe] at hN ⊢
  cases hb : isP (see N (all.drop k) 0) c with
  | true =>
    rw [hb] at hN
    have hlt : k < all.length := by
      by_cases hlt : k < all.length
      · exact hlt
      · rw [see_out (by omega)] at hb; simp [isP] at hb
    obtain ⟨a, b⟩ := h.to (k' := k + 1) hp hN (by omega) (by omega)
    exact ⟨rfl, by rw [if_pos rfl]; exact a, b, fun _ => by rw [List.tail_drop]⟩
  | false =>
    rw [hb] at hN
    obtain ⟨a, b⟩ := h.to (k' := k) hp hN (Nat.le_refl _) hk
    exact ⟨rfl, by rw [if_neg (by simp)]; exact a, b, fun h => by cases h⟩
theorem Nx.block (h : Nx F w F' w') {b : Nat} (hb : b < w.heap.size) (hF : ¬ F b) : w'.heap[b]? = w.heap[b]? ∧ ¬ F' b :=
  ⟨h.keep.block b hb hF, fun hi => by rcases h.own b hi with a | a; exact hF a; omega⟩
theorem St.lt (h : St p m tv tp FT N all tl k ns F w) : ∀ i, F i → i < w.heap.size := h.rs.lt
/-- a block of a caller's own turns -/
theorem St.set {k0 : Nat} {ns0 : Names} {F0 : Nat → Prop} {o : Obj} {b : Nat} (h0 : St p m tv tp FT N all tl k0 ns0 F0 w0) (h : St p m tv tp FT N all tl k ns F w) (hn : Nx F0 w0 F w) (hb : w0.heap.size ≤ b) (hF : ¬ F b) (N' : Nw b o w w') :
    St p m tv tp FT N all tl k ns F w' ∧ Nx F0 w0 F w' := by
  refine ⟨⟨h.rs.keep (G := fun i => i = b) N'.2 (fun i hi e => hF (e ▸ hi)), ⟨ow_keep h.env.toks fun i e => N'.2.block i (h.env.toks.lt i e).2 (fun e2 => ?_), h.env.toff, h.env.tab.keep N'.2 (fun i hi e2 => ?_), h.env.tabo, h.env.srt, h.env.len, h.env.pri⟩, h.kle, h.ale, h.nle, h.ok⟩, ⟨hn.keep.trans N'.2 fun i hi => Or.inr (by omega), hn.own⟩⟩
  · have := (h0.env.toks.lt i e).2; omega
  · have := h0.env.tab.lt i hi; omega
/-- a term of blocks that are none of the reader's and not older than B -/
def Lv (F : Nat → Prop) (B : Nat) (w : World) (t : Tm) (v : Value) : Prop := lie.Lies (fun i => F i ∨ i < B) w t v
theorem Nx.lv (h : Nx F w F' w') {B : Nat} {t : Tm} {v : Value} (hl : Lv F B w t v) : Lv F' B w' t v :=
  lie.Lies.keep (h.keep.mono (G := fun i => F i ∨ i < B) fun i hi => Or.inl hi) (fun b hb hy => by
    rcases hy with hy | hy
    · rcases h.own b hy with a | a
      · exact Or.inl a
      · omega
    · exact Or.inr hy) t v hl
theorem Lv.set {o : Obj} {b B : Nat} {t : Tm} {v : Value} (hl : Lv F B w t v) (hb : b < B) (N' : Nw b o w w') : Lv F B w' t v :=
  lie.Lies.keep (N'.2.mono (G := fun i => F i ∨ i < B) fun i hi => Or.inr (hi ▸ hb)) (fun _ _ => id) t v hl
theorem Lv.mono {B B' : Nat} {t : Tm} {v : Value} (hl : Lv F B w t v) (hb : B' ≤ B) : Lv F B' w t v :=
  lie.Lies.off (fun b _ hy => by rcases hy with a | a; exact Or.inl a; exact Or.inr (by omega)) hl
theorem Lv.leaf {B : Nat} {t : Tm} {v : Value} (h : Leaf t v) : Lv F B w t v := h _ _
theorem Lv.shape {B : Nat} {t : Tm} {v : Value} (h : Lv F B w t v) : ∃ k n i re im a l c, v = .agg #[.int .i64 k, .string n, .int .i64 i, .int .u64 re, .int .u64 im, .slice a l c] := by
  obtain ⟨k, n, i, re, im, args⟩ := t
  unfold Lv at h
  rw [lie.Lies] at h
  obtain ⟨a, c, rfl, -⟩ := h
  exact ⟨_, _, _, _, _, _, _, _, rfl⟩
/-- one call of term, with so many tokens left, does as rec says -/
def Good (p m : Nat) (tv : Value) (tp : Nat) (FT : Nat → Prop) (N : Nat) (all : List Tk) (tl : List opa.D) (rec : Rec) (f : Nat) : Prop :=
  ∀ (most : Int) (level k : Nat) (ns : Names) (F : Nat → Prop) (w : World), St p m tv tp FT N all tl k ns F w → all.length < f + k → -10 ≤ most → most ≤ 1200 → level ≤ 3000 →
    Calls Tryz.prog 57 #[.pointer (some ⟨p, 0, none⟩), .int .i64 most, .int .i64 (level : Int)] w (PE p m tv tp FT N all tl (rec most level (all.drop k) ns) F w)
end
end Go.Proofs.YtedbcmagjbgbjaaGreatDoor.rd
