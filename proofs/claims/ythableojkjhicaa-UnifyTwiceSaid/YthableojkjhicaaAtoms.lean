/- What the calls of package atoms do, call by call: their answers, and what becomes of the table. More on package atoms: Number of a name that is there changes nothing; of one that may be there, its number is its place. What the page's own table of names does, call by call. -/
import Derived.Test.YthableojkjhicaaTab
import Derived.Test.YthableojkjhicaaShelf
import Derived.WalkSpells
import Derived.Outline
namespace Go.Proofs.Ythableojkjhicaa.atm
open Go.ChangeShapes Go.WideShapes Go.ChangeAt Go.RowKit Go.Maps Go.WideMaps
theorem law : Keyed Try.prog 9 := string_keyed Try.underlying9
theorem zeroI (w : World) : (zeroValue 3).run Try.prog w = .ok (.int .i64 0) w := by kernel_rfl
theorem infoS : (Try.prog.info? 9).map (fun i => (i.zero, i.size, i.bytes)) = some (some (.string ⟨#[]⟩), 1, 16) := by kernel_rfl
theorem qT (w : World) (r : Option Nat) : (binOp .eql 85 (.map r) (.map none)).run Try.prog w = .ok (.bool r.isNone) w := run_eql_map_nil w _ _ _ r Try.underlying85
set_option maxHeartbeats 400000 in
theorem begin_any {w : World} {p : Nat} {F : Nat → Prop} {l : List ByteArray} (h : Tab w p F l) :
    Calls Try.prog 52 #[.pointer (some ⟨p, 0, none⟩)] w fun e w' => e = .returned (.tuple #[]) ∧ w = w' := by
  obtain ⟨m, v, D, hp, hm, hn, hr, h1, h2, h3, hF⟩ := h
  obtain ⟨c0, c1, f0, f1⟩ := two_cells hp
  clear hp hm hn hr h1 h2 h3 hF
  have q := qT
  go_enter Try.func52, Try.ntmps52
  go_wp2_with fail
  go_end0
  exact ⟨rfl, rfl⟩
set_option maxHeartbeats 400000 in
theorem len_any {w : World} {p : Nat} {F : Nat → Prop} {l : List ByteArray} (h : Tab w p F l) :
    Calls Try.prog 136 #[.pointer (some ⟨p, 0, none⟩)] w fun e w' => e = .returned (.int .i64 l.length) ∧ w = w' := by
  have hb := begin_any h
  obtain ⟨m, v, D, hp, hm, hn, hr, h1, h2, h3, hF⟩ := h
  obtain ⟨c0, c1, f0, f1⟩ := two_cells hp
  obtain ⟨a, c, rfl⟩ := shape hr
  clear hp hm hn hr h1 h2 h3 hF
  go_enter Try.func136, Try.ntmps136
  go_wp2_with fail
  refine hb.mono ?_; rintro e w' ⟨rfl, rfl⟩
  go_wp2_with fail
  go_ret
  exact ⟨rfl, rfl⟩
set_option maxHeartbeats 400000 in
theorem find_any {w : World} {p : Nat} {F : Nat → Prop} {l : List ByteArray} (h : Tab w p F l) (s : ByteArray) (hs : s.size ≤ maxLen) :
    Calls Try.prog 135 #[.pointer (some ⟨p, 0, none⟩), .string s] w fun e w' => e = .returned (.tuple #[.int .i64 (fi l s), .bool (fb l s)]) ∧ w = w' := by
  have hb := begin_any h
  obtain ⟨m, v, D, hp, hm, hn, hr, h1, h2, h3, hF⟩ := h
  obtain ⟨c0, c1, f0, f1⟩ := two_cells hp
  have hkey : keyOf Try.prog 9 (.string s) = some (Key s) := keyOf_string_mk Try.underlying9 hs
  obtain ⟨g1, g2⟩ := hn s
  have G1 := Lib.hid g1
  have G2 := Lib.hid g2
  clear hp hn hr h1 h2 h3 hF g1 g2
  go_enter Try.func135, Try.ntmps135
  go_wp2_with fail
  refine hb.mono ?_; rintro e w' ⟨rfl, rfl⟩
  go_wp2_with (first
    | (at_lookup; refine wpList_lookup_own_ok_int _ rfl _ _ 85 rfl 9 3 .i64 law Try.underlying85 Try.underlying3 (zeroI _) m _ D rfl hm _ _ rfl hkey ?_; intro c hat hwc))
  go_ret2
  rw [G1.out]
  have e1 := G2.out.symm.trans hat
  injection e1 with e1; injection e1 with _ e1
  rw [e1]
  exact ⟨rfl, rfl⟩
/-- Name's test, decided -/
theorem name_in {w : World} {p : Nat} {F : Nat → Prop} {l : List ByteArray} (h : Tab w p F l) (i : Nat) (hi : i < l.length) :
    Calls Try.prog 119 #[.pointer (some ⟨p, 0, none⟩), .int .i64 i] w fun e w' => e = .returned (.tuple #[.string (l.getD i ByteArray.empty), .bool true]) ∧ w = w' := by
  have hb := len_any h
  obtain ⟨m, v, D, hp, hm, hn, hr, h1, h2, h3, hF⟩ := h
  obtain ⟨c0, c1, f0, f1⟩ := two_cells hp
  rcases hr.2 with ⟨_, e0⟩ | ⟨g, cap, cur, rfl, _⟩
  · omega
  have hc := hr.cells (g := g) rfl i (.string (l.getD i ByteArray.empty)) (by simp [List.getD, hi])
  have hadd : (⟨g, 0, none⟩ : Addr).add i = ⟨g, i, none⟩ := by unfold Addr.add; split <;> simp_all
  rw [hadd] at hc
  have hc' := hc
  generalize l.getD i ByteArray.empty = x at *
  clear hp hm hn hr h1 h2 h3 hF hc
  have t1 : decide ((i : Int) < 0) = false := by simp
  go_enter Try.func119, Try.ntmps119
  go_wp2_with fail
  refine hb.mono ?_; rintro e w' ⟨rfl, rfl⟩
  go_wp2_with fail
  go_ret2
  exact ⟨rfl, rfl⟩
theorem name_neg {w : World} {p : Nat} (i : Int) (hi : i < 0) :
    Calls Try.prog 119 #[.pointer (some ⟨p, 0, none⟩), .int .i64 i] w fun e w' => e = .returned (.tuple #[.string ⟨#[]⟩, .bool false]) ∧ w = w' := by
  go_enter Try.func119, Try.ntmps119
  go_wp2_with fail
  go_ret2
  exact ⟨rfl, rfl⟩
theorem name_over {w : World} {p : Nat} {F : Nat → Prop} {l : List ByteArray} (h : Tab w p F l) (i : Nat) (hi : l.length ≤ i) :
    Calls Try.prog 119 #[.pointer (some ⟨p, 0, none⟩), .int .i64 i] w fun e w' => e = .returned (.tuple #[.string ⟨#[]⟩, .bool false]) ∧ w = w' := by
  have hb := len_any h
  clear h
  go_enter Try.func119, Try.ntmps119
  go_wp2_with fail
  refine hb.mono ?_; rintro e w' ⟨rfl, rfl⟩
  go_wp2_with fail
  go_ret2
  exact ⟨rfl, rfl⟩
theorem name_any {w : World} {p : Nat} {F : Nat → Prop} {l : List ByteArray} (h : Tab w p F l) (n : Int) :
    Calls Try.prog 119 #[.pointer (some ⟨p, 0, none⟩), .int .i64 n] w fun e w' => e = .returned (.tuple #[.string (nm l n), .bool (nb l n)]) ∧ w = w' := by
  by_cases h0 : n < 0
  · have e1 : nm l n = ⟨#[]⟩ := by unfold nm; rw [if_neg (by omega)]
    have e2 : nb l n = false := by simp [nb]; omega
    rw [e1, e2]; exact name_neg n h0
  · obtain ⟨i, rfl⟩ := Int.eq_ofNat_of_zero_le (by omega : 0 ≤ n)
    by_cases hi : i < l.length
    · have e1 : nm l i = l.getD i ByteArray.empty := by unfold nm; rw [if_pos (by omega)]; rfl
      have e2 : nb l i = true := by simp [nb]; omega
      rw [e1, e2]; exact name_in h i hi
    · have e1 : nm l i = ⟨#[]⟩ := by unfold nm; rw [if_neg (by omega)]
      have e2 : nb l i = false := by simp [nb]; omega
      rw [e1, e2]; exact name_over h i (by omega)
theorem clone_any (s : ByteArray) (w : World) (hs : s.size ≤ 281474976710656) : Calls Try.prog 107 #[.string s] w fun e w' => e = .returned (.string s) ∧ Below w.heap.size w w' := by
  go_enter Try.func107, Try.ntmps107
  go_wp2_with fail
  refine (Try.stringslite_Clone _ _ hs).mono ?_; rintro e w' ⟨rfl, b⟩
  go_wp2_with fail
  go_ret
  exact ⟨rfl, b⟩
theorem grown_of_below {w w' : World} (h : Below w.heap.size w w') (row : Option Nat) : w.grownBy w' row := ⟨h.os, h.tape, h.output, h.size, fun k hk _ => h.block k hk⟩
/-- what add leaves: the new name behind the others -/
theorem Next.mk {w w1 w2 w4 : World} {p m : Nat} {F : Nat → Prop} {l : List ByteArray} {s : ByteArray} {v v' : Value} {D' : DataW Unit}
    (hp : w.heap[p]? = some (.cells #[.map (some m), v] 88 (0, 0))) (hpm : p ≠ m) (hvp : v.ownBlock ≠ some p) (hvm : v.ownBlock ≠ some m) (hF : ∀ k, F k ↔ k = p ∨ k = m ∨ v.ownBlock = some k)
    (hm : m < w.heap.size) (hn' : Nums D' (l ++ [s])) (b1 : Below w.heap.size w w1) (hr' : w2.ownsRow 0 9 1 v' (l.length + 1) ((l ++ [s]).map Value.string)) (g2 : w1.grownBy w2 v.ownBlock)
    (hat : v'.ownBlock = v.ownBlock ∨ v'.ownBlock = some w1.heap.size)
    (hm4 : w4.ownsMap Try.prog 9 (plainElem (H := Unit) Try.prog 3) m (l.length + 1) D') (g4 : (w2.setCell ⟨p, 1, none⟩ v').grownBy w4 (some m)) : Next w p F (l ++ [s]) w4 := by
  have hpl : p < w.heap.size := (Array.getElem?_eq_some_iff.1 hp).1
  have s1 := b1.size
  have s2 := g2.size
  have p1 : w1.heap[p]? = some (.cells #[.map (some m), v] 88 (0, 0)) := (b1.block p hpl).trans hp
  have p2 : w2.heap[p]? = some (.cells #[.map (some m), v] 88 (0, 0)) := (g2.block p (by omega) (fun e => hvp e.symm)).trans p1
  have p3 : (w2.setCell ⟨p, 1, none⟩ v').heap[p]? = some (.cells #[.map (some m), v'] 88 (0, 0)) := by
    simp [World.setCell, p2, Array.getElem?_modify]
  have s3 : (w2.setCell ⟨p, 1, none⟩ v').heap.size = w2.heap.size := by simp [World.setCell]
  have p4 : w4.heap[p]? = some (.cells #[.map (some m), v'] 88 (0, 0)) := (g4.block p (by omega) (fun e => hpm (by injection e))).trans p3
  have hv'p : v'.ownBlock ≠ some p := by rcases hat with e | e <;> rw [e]; exact hvp; intro e; injection e with e; omega
  have hv'm : v'.ownBlock ≠ some m := by rcases hat with e | e <;> rw [e]; exact hvm; intro e; injection e with e; omega
  have hr3 : (w2.setCell ⟨p, 1, none⟩ v').ownsRow 0 9 1 v' (l.length + 1) ((l ++ [s]).map Value.string) := by
    obtain ⟨q1, q2⟩ := hr'
    refine ⟨q1, ?_⟩
    rcases q2 with q | ⟨g, cap, cur, rfl, q3, q4, r⟩
    · exact Or.inl q
    · exact Or.inr ⟨g, cap, cur, rfl, q3, by rw [Below.heap_setCell _ _ _ _ (by intro e; exact hv'p (by simp [Value.ownBlock]; exact e))]; exact q4, r⟩
  have hr4 := hr3.kept g4 (Or.inr hv'm)
  have s4 := g4.size
  refine ⟨fun k => k = p ∨ k = m ∨ v'.ownBlock = some k, ⟨m, v', D', p4, ?_, hn', ?_, hpm, hv'p, hv'm, fun _ => Iff.rfl⟩, ?_, ?_⟩
  · rw [List.length_append]; exact hm4
  · rw [List.length_append]; exact hr4
  · have k1 : Keep F w w1 := Keep.of_below b1
    have k2 : Keep F w1 w2 := Keep.of_grown g2 fun k e => (hF k).2 (Or.inr (Or.inr e))
    have k3 : Keep F w2 (w2.setCell ⟨p, 1, none⟩ v') := Keep.setCell w2 ((hF p).2 (Or.inl rfl)) v'
    have k4 : Keep F (w2.setCell ⟨p, 1, none⟩ v') w4 := Keep.of_grown g4 fun k e => (hF k).2 (Or.inr (Or.inl (by injection e with e; exact e.symm)))
    exact ((k1.trans k2 fun _ => Or.inl).trans k3 fun _ => Or.inl).trans k4 fun _ => Or.inl
  · rintro k (rfl | rfl | e)
    · exact Or.inl ((hF k).2 (Or.inl rfl))
    · exact Or.inl ((hF k).2 (Or.inr (Or.inl rfl)))
    · rcases hat with e' | e'
      · exact Or.inl ((hF k).2 (Or.inr (Or.inr (e'.symm.trans e))))
      · right; rw [e'] at e; injection e with e; omega
set_option maxHeartbeats 1000000 in
theorem add_any {w : World} {p : Nat} {F : Nat → Prop} {l : List ByteArray} (h : Tab w p F l) (s : ByteArray) (hs : s.size ≤ 200) (hl : l.length < 4096) (hin : s ∉ l) :
    Calls Try.prog 80 #[.pointer (some ⟨p, 0, none⟩), .string s] w fun e w' => e = .returned (.int .i64 l.length) ∧ Next w p F (l ++ [s]) w' := by
  obtain ⟨m, v, D, hp, hm, hn, hr, h1, h2, h3, hF⟩ := h
  obtain ⟨c0, c1, f0, f1⟩ := two_cells hp
  obtain ⟨a, c, rfl⟩ := shape hr
  have hpl : p < w.heap.size := (Array.getElem?_eq_some_iff.1 hp).1
  have hml := hm.lt
  have hkey : keyOf Try.prog 9 (.string s) = some (Key s) := keyOf_string_mk Try.underlying9 (by unfold maxLen; omega)
  have HN := Lib.hid (Nums_put hn hm.isMap hin)
  have HP := Lib.hid hp
  have HF := Lib.hid hF
  have HR := Lib.hid hr
  have HM := Lib.hid hm
  have H1 := Lib.hid h1
  have H2 := Lib.hid h2
  have H3 := Lib.hid h3
  have wfl : (Lit.int .i64 (l.length : Int)).wf = true := WalkArith.wf_i64 (by omega)
  have WFL := Lib.hid wfl
  obtain ⟨i0, hi, hz0, hz1, hz2⟩ := info_parts infoS
  have HI := Lib.hid hi
  have HI1 := Lib.hid hz0
  have HI2 := Lib.hid hz1
  have HI3 := Lib.hid hz2
  clear hp hn hF hin hr hm h1 h2 h3 wfl hi hz0 hz1 hz2
  go_enter Try.func80, Try.ntmps80
  go_wp2_with fail
  refine (clone_any s _ (by omega)).mono ?_; rintro e w1 ⟨rfl, b1⟩
  have c0' := (b1.cell (p := ⟨p, 0, none⟩) hpl).trans c0
  have c1' := (b1.cell (p := ⟨p, 1, none⟩) hpl).trans c1
  have f0' := (b1.frozen (p := ⟨p, 0, none⟩) hpl).trans f0
  have f1' := (b1.frozen (p := ⟨p, 1, none⟩) hpl).trans f1
  have hpl1 : p < w1.heap.size := Nat.lt_of_lt_of_le hpl b1.size
  have B1 := Lib.hid b1
  have HR1 := Lib.hid (HR.out.kept (grown_of_below b1 none) (by cases a <;> simp [Value.ownBlock]))
  have HM1 := Lib.hid (HM.out.kept (grown_of_below b1 none) (by simp))
  clear c0 c1 f0 f1 b1
  go_wp2_with (at_builtin; refine wpList_append_own_at _ rfl (.tmp 17) (.tmp 19) 86 rfl 0 9 i0 (.string ⟨#[]⟩) 1 16 Try.underlying86 HI.out HI1.out HI2.out HI3.out rfl (by decide) _ _ _ rfl (HR1.out.alloc _) ⟨w1.heap.size, 0, none⟩ 1 1 [.string s] rfl rfl (cell_one_new _ _ _) ?c2 ?b1 ?b2 ?b3 ?_)
  case c2 => intro u hu; simp at hu; subst hu; rfl
  case b1 => unfold maxLen; omega
  case b2 => omega
  case b3 => simp
  intro v' w2 hr2 g2 _ hat
  obtain ⟨a', c', rfl⟩ := shape hr2
  have hne : some p ≠ (Value.slice a l.length c).ownBlock := fun e => H2.out e.symm
  have hne' : some m ≠ (Value.slice a l.length c).ownBlock := fun e => H3.out e.symm
  have c0'' := g2.cell (a := ⟨p, 0, none⟩) (by rw [World.cell?_alloc_past _ _ _ hpl1]; exact c0') hne
  have c1'' := g2.cell (a := ⟨p, 1, none⟩) (by rw [World.cell?_alloc_past _ _ _ hpl1]; exact c1') hne
  have hfz : ∀ o, w2.frozen? ⟨p, o, none⟩ = w1.frozen? ⟨p, o, none⟩ := fun o => (World.frozen?_of_block (a := ⟨p, o, none⟩) (g2.block p (by simp; omega) hne)).trans (World.frozen?_alloc_past _ _ _ hpl1)
  have f0'' := (hfz 0).trans f0'
  have f1'' := (hfz 1).trans f1'
  have HM2 := (HM1.out.alloc (.cells #[Value.string s] 9)).kept g2 hne'
  have HM3 := Lib.hid (HM2.setCell (a := ⟨p, 1, none⟩) (fun e => H1.out e.symm) (.slice a' (l.length + 1) c'))
  have HR2 := Lib.hid hr2
  have G2 := Lib.hid g2
  have HAT := Lib.hid hat
  clear c0' c1' f0' f1' hfz hne hne' HM2 hr2 g2 hat
  go_wp2_with (at_mapUpdate; refine wpList_mapUpdate_own _ rfl _ _ _ 85 rfl 9 3 law Try.underlying85 _ m l.length D rfl HM3.out ?b4 _ _ _ rfl rfl hkey _ [] (plainElem_int Try.underlying3 WFL.out) ?_)
  case b4 => unfold maxLen; omega
  intro w4 hm4 g4
  go_wp2_with fail
  go_ret
  exact ⟨rfl, Next.mk HP.out H1.out H2.out H3.out HF.out hml HN.out (B1.out.alloc B1.out.size _) (by have := HR2.out; simpa using this) G2.out (by have := HAT.out; simpa using this) hm4 g4⟩
set_option maxHeartbeats 400000 in
theorem num_long {w : World} {p : Nat} {F : Nat → Prop} {l : List ByteArray} (h : Tab w p F l) (s : ByteArray) (hs : 200 < s.size) (hm : s.size ≤ maxLen) :
    Calls Try.prog 112 #[.pointer (some ⟨p, 0, none⟩), .string s] w fun e w' => e = .returned (.tuple #[.int .i64 0, .int .i64 3]) ∧ Next w p F l w' := by
  have N := Lib.hid (Next.same h)
  clear h
  unfold maxLen at hm
  go_enter Try.func112, Try.ntmps112
  go_wp2_with fail
  go_ret2
  exact ⟨rfl, N.out⟩
set_option maxHeartbeats 400000 in
theorem num_old {w : World} {p : Nat} {F : Nat → Prop} {l : List ByteArray} (h : Tab w p F l) (s : ByteArray) (hs : s.size ≤ 200) (hi : s ∈ l) :
    Calls Try.prog 112 #[.pointer (some ⟨p, 0, none⟩), .string s] w fun e w' => e = .returned (.tuple #[.int .i64 (l.idxOf s), .int .i64 0]) ∧ Next w p F l w' := by
  have N := Lib.hid (Next.same h)
  have hf := find_any h s (by unfold maxLen; omega)
  rw [show fb l s = true by simp [fb, hi], show fi l s = l.idxOf s by simp [fi, hi]] at hf
  clear h hi
  go_enter Try.func112, Try.ntmps112
  go_wp2_with fail
  refine hf.mono ?_; rintro e w' ⟨rfl, rfl⟩
  go_wp2_with fail
  go_ret2
  exact ⟨rfl, N.out⟩
set_option maxHeartbeats 400000 in
set_option maxRecDepth 100000 in
theorem num_full {w : World} {p : Nat} {F : Nat → Prop} {l : List ByteArray} (h : Tab w p F l) (s : ByteArray) (hs : s.size ≤ 200) (hi : s ∉ l) (hl : 4096 ≤ l.length) :
    Calls Try.prog 112 #[.pointer (some ⟨p, 0, none⟩), .string s] w fun e w' => e = .returned (.tuple #[.int .i64 0, .int .i64 8]) ∧ Next w p F l w' := by
  have N := Lib.hid (Next.same h)
  have hf := find_any h s (by unfold maxLen; omega)
  rw [show fb l s = false by simp [fb, hi], show fi l s = 0 by simp [fi, hi]] at hf
  obtain ⟨m, v, D, hp, hm, hn, hr, h1, h2, h3, hF⟩ := h
  obtain ⟨c0, c1, f0, f1⟩ := two_cells hp
  obtain ⟨a, c, rfl⟩ := shape hr
  clear hp hm hn hr h1 h2 h3 hF hi
  go_enter Try.func112, Try.ntmps112
  go_wp2_with fail
  refine hf.mono ?_; rintro e w' ⟨rfl, rfl⟩
  go_wp2_with fail
  go_ret2
  exact ⟨rfl, N.out⟩
set_option maxHeartbeats 400000 in
set_option maxRecDepth 100000 in
theorem num_new {w : World} {p : Nat} {F : Nat → Prop} {l : List ByteArray} (h : Tab w p F l) (s : ByteArray) (hs : s.size ≤ 200) (hi : s ∉ l) (hl : l.length < 4096) :
    Calls Try.prog 112 #[.pointer (some ⟨p, 0, none⟩), .string s] w fun e w' => e = .returned (.tuple #[.int .i64 l.length, .int .i64 0]) ∧ Next w p F (l ++ [s]) w' := by
  have hf := find_any h s (by unfold maxLen; omega)
  rw [show fb l s = false by simp [fb, hi], show fi l s = 0 by simp [fi, hi]] at hf
  have ha := add_any h s hs hl hi
  obtain ⟨m, v, D, hp, hm, hn, hr, h1, h2, h3, hF⟩ := h
  obtain ⟨c0, c1, f0, f1⟩ := two_cells hp
  obtain ⟨a, c, rfl⟩ := shape hr
  clear hp hm hn hr h1 h2 h3 hF hi
  go_enter Try.func112, Try.ntmps112
  go_wp2_with fail
  refine hf.mono ?_; rintro e w' ⟨rfl, rfl⟩
  go_wp2_with fail
  refine ha.mono ?_; rintro e w' ⟨rfl, N⟩
  have N := Lib.hid N
  go_wp2_with fail
  go_ret2
  exact ⟨rfl, N.out⟩
theorem num_any {w : World} {p : Nat} {F : Nat → Prop} {l : List ByteArray} (h : Tab w p F l) (s : ByteArray) (hs : s.size ≤ maxLen) :
    Calls Try.prog 112 #[.pointer (some ⟨p, 0, none⟩), .string s] w fun e w' => e = .returned (.tuple #[.int .i64 (nv l s), .int .i64 (ne l s)]) ∧ Next w p F (nx l s) w' := by
  unfold nv ne nx
  by_cases h1 : 200 < s.size
  · simp only [if_pos h1]; exact num_long h s h1 hs
  · simp only [if_neg h1]
    by_cases h2 : s ∈ l
    · simp only [if_pos h2]; exact num_old h s (by omega) h2
    · simp only [if_neg h2]
      by_cases h3 : 4096 ≤ l.length
      · simp only [if_pos h3]; exact num_full h s (by omega) h2 h3
      · simp only [if_neg h3]; exact num_new h s (by omega) h2 (by omega)
/-- the two names of lists -/
def l0 : List ByteArray := [⟨#[91, 93]⟩, ⟨#[46]⟩]
theorem Tab_made {w : World} {p : Nat} (hp : w.heap[p]? = some (.cells #[.map none, .slice none 0 0] 88 (0, 0))) :
    Tab ((w.setCell ⟨p, 0, none⟩ (.map (some w.heap.size))).alloc (.map #[] 0)) p (fun k => k = p ∨ k = w.heap.size) [] := by
  have hpl : p < w.heap.size := (Array.getElem?_eq_some_iff.1 hp).1
  have hs : (w.setCell ⟨p, 0, none⟩ (.map (some w.heap.size))).heap.size = w.heap.size := by simp [World.setCell]
  refine ⟨w.heap.size, .slice none 0 0, .map [], ?_, ?_, Nums_nil, ?_, by omega, by simp [Value.ownBlock], by simp [Value.ownBlock], by simp [Value.ownBlock]⟩
  · rw [Below.heap_alloc _ _ _ (by omega)]
    simp only [World.setCell, Array.getElem?_modify, hp]; simp
  · have := World.ownsMap_made (w.setCell ⟨p, 0, none⟩ (.map (some w.heap.size))) Try.prog 9 (plainElem (H := Unit) Try.prog 3)
    rw [hs] at this; exact this
  · exact World.ownsRow_nil _ _ _ _
theorem Next.trans {a b c : World} {p : Nat} {F F' : Nat → Prop} {l : List ByteArray} (k : Keep F a b) (hs : ∀ i, F' i → F i ∨ a.heap.size ≤ i) (n : Next b p F' l c) : Next a p F l c := by
  obtain ⟨G, t, k2, h2⟩ := n
  refine ⟨G, t, k.trans k2 hs, fun i hi => ?_⟩
  rcases h2 i hi with h | h
  · exact hs i h
  · exact Or.inr (Nat.le_trans k.size h)
set_option maxHeartbeats 400000 in
theorem begin_new {w : World} {p : Nat} (hp : w.heap[p]? = some (.cells #[.map none, .slice none 0 0] 88 (0, 0))) :
    Calls Try.prog 52 #[.pointer (some ⟨p, 0, none⟩)] w fun e w' => e = .returned (.tuple #[]) ∧ Next w p (fun k => k = p) l0 w' := by
  have q := qT
  have hmm := @run_makeMap Try.prog
  obtain ⟨c0, c1, f0, f1⟩ := two_cells hp
  have hpl : p < w.heap.size := (Array.getElem?_eq_some_iff.1 hp).1
  have hadd := add_any (Tab_made hp) ⟨#[91, 93]⟩ (by decide) (by decide) (by simp)
  have K1 : Keep (fun k => k = p) w ((w.setCell ⟨p, 0, none⟩ (.map (some w.heap.size))).alloc (.map #[] 0)) :=
    (Keep.setCell w (F := fun k => k = p) (p := ⟨p, 0, none⟩) rfl _).trans (Keep.of_below (F := fun k => k = p) ((Below.refl _ _).alloc (Nat.le_refl _) _)) (fun _ => Or.inl)
  have K1 := Lib.hid K1
  clear hp
  go_enter Try.func52, Try.ntmps52
  go_wp2_with fail
  refine hadd.mono ?_; rintro e w1 ⟨rfl, N⟩
  obtain ⟨F1, t1, k1, s1⟩ := N
  have hadd2 := add_any t1 ⟨#[46]⟩ (by decide) (by decide) (by simp)
  have K2 := Lib.hid k1
  have S1 := Lib.hid s1
  clear t1 k1 s1
  go_wp2_with fail
  refine hadd2.mono ?_; rintro e w2 ⟨rfl, N⟩
  have N := Lib.hid N
  go_wp2_with fail
  go_end0
  have hsz := K1.out.size
  exact ⟨rfl, Next.trans (K1.out.trans K2.out (by rintro i (h | h); exact Or.inl h; exact Or.inr (by omega))) (fun i hi => by
    rcases S1.out i hi with (h | h) | h
    · exact Or.inl h
    · exact Or.inr (by omega)
    · exact Or.inr (by omega)) N.out⟩
set_option maxHeartbeats 400000 in
theorem new_any (w : World) : Calls Try.prog 18 #[] w fun e w' => e = .returned (.pointer (some ⟨w.heap.size, 0, none⟩)) ∧ Made w l0 w' := by
  have hb := begin_new (w := w.alloc (.cells #[.map none, .slice none 0 0] 88)) (p := w.heap.size) (heap_alloc_new w _)
  go_enter Try.func18, Try.ntmps18
  go_wp2_with fail
  refine hb.mono ?_; rintro e w1 ⟨rfl, N⟩
  have N := Lib.hid N
  go_wp2_with fail
  go_ret
  refine ⟨rfl, ?_⟩
  obtain ⟨F, t, k, s⟩ := N.out
  refine ⟨F, t, ?_, fun i hi => ?_⟩
  · exact ((Below.refl w.heap.size w).alloc (Nat.le_refl _) _).trans (k.to_below (fun i hi => by omega) (by simp))
  · rcases s i hi with h | h
    · omega
    · simp at h; omega
theorem Made.next {w w1 w2 : World} {l' : List ByteArray} {p : Nat} {F : Nat → Prop} (hp : p = w.heap.size) (hb : Below w.heap.size w w1) (hF : ∀ k, F k → w.heap.size ≤ k) (n : Next w1 p F l' w2) : Made w l' w2 := by
  obtain ⟨G, t, k, s⟩ := n
  subst hp
  refine ⟨G, t, hb.trans (k.to_below hF hb.size), fun i hi => ?_⟩
  rcases s i hi with h | h
  · exact hF i h
  · exact Nat.le_trans hb.size h
theorem nx_old {l : List ByteArray} {s : ByteArray} (h : s ∈ l) : nx l s = l := by unfold nx; rw [if_pos h]; split <;> rfl
/-! ### a table that there isn't -/
theorem num_nil (s : ByteArray) (w : World) : Calls Try.prog 112 #[.pointer none, .string s] w fun e w' => e = .returned (.tuple #[.int .i64 0, .int .i64 1]) ∧ w = w' := by
  go_enter Try.func112, Try.ntmps112
  go_wp2_with fail
  go_ret2
  exact ⟨rfl, rfl⟩
theorem find_nil (s : ByteArray) (w : World) : Calls Try.prog 135 #[.pointer none, .string s] w fun e w' => e = .returned (.tuple #[.int .i64 0, .bool false]) ∧ w = w' := by
  go_enter Try.func135, Try.ntmps135
  go_wp2_with fail
  go_ret2
  exact ⟨rfl, rfl⟩
theorem len_nil (w : World) : Calls Try.prog 136 #[.pointer none] w fun e w' => e = .returned (.int .i64 0) ∧ w = w' := by
  go_enter Try.func136, Try.ntmps136
  go_wp2_with fail
  go_ret
  exact ⟨rfl, rfl⟩
theorem name_nil (n : Int) (w : World) : Calls Try.prog 119 #[.pointer none, .int .i64 n] w fun e w' => e = .returned (.tuple #[.string ⟨#[]⟩, .bool false]) ∧ w = w' := by
  have hl := len_nil w
  by_cases h0 : n < 0
  · go_enter Try.func119, Try.ntmps119
    go_wp2_with fail
    go_ret2
    exact ⟨rfl, rfl⟩
  · obtain ⟨i, rfl⟩ := Int.eq_ofNat_of_zero_le (by omega : 0 ≤ n)
    go_enter Try.func119, Try.ntmps119
    go_wp2_with fail
    refine hl.mono ?_; rintro e w' ⟨rfl, rfl⟩
    go_wp2_with fail
    go_ret2
    exact ⟨rfl, rfl⟩
end Go.Proofs.Ythableojkjhicaa.atm
namespace Go.Proofs.Ythableojkjhicaa.atm
open Go.ChangeShapes Go.WideShapes Go.ChangeAt Go.RowKit Go.Maps Go.WideMaps
set_option maxHeartbeats 400000 in
theorem num_old_w {w : World} {p : Nat} {F : Nat → Prop} {l : List ByteArray} (h : Tab w p F l) (s : ByteArray) (hs : s.size ≤ 200) (hi : s ∈ l) :
    Calls Try.prog 112 #[.pointer (some ⟨p, 0, none⟩), .string s] w fun e w' => e = .returned (.tuple #[.int .i64 (l.idxOf s), .int .i64 0]) ∧ w = w' := by
  have hf := find_any h s (by unfold maxLen; omega)
  rw [show fb l s = true by simp [fb, hi], show fi l s = l.idxOf s by simp [fi, hi]] at hf
  clear h hi
  go_enter Try.func112, Try.ntmps112
  go_wp2_with fail
  refine hf.mono ?_; rintro e w' ⟨rfl, rfl⟩
  go_wp2_with fail
  go_ret2
  exact ⟨rfl, rfl⟩
theorem nx_short {l : List ByteArray} {s : ByteArray} (hs : s.size ≤ 200) (hl : l.length < 4096) : nx l s = if s ∈ l then l else l ++ [s] := by
  unfold nx; rw [if_neg (by omega)]; split
  · rfl
  · rw [if_neg (by omega)]
theorem nx_mem {l : List ByteArray} {s : ByteArray} (hs : s.size ≤ 200) (hl : l.length < 4096) : s ∈ nx l s := by
  rw [nx_short hs hl]; split <;> simp_all
theorem nx_cases (l : List ByteArray) (s : ByteArray) : nx l s = l ∨ (s ∉ l ∧ nx l s = l ++ [s]) := by
  unfold nx; split
  · exact Or.inl rfl
  · split
    · exact Or.inl rfl
    · split
      · exact Or.inl rfl
      · exact Or.inr ⟨by assumption, rfl⟩
theorem nx_len (l : List ByteArray) (s : ByteArray) : l.length ≤ (nx l s).length ∧ (nx l s).length ≤ l.length + 1 := by
  rcases nx_cases l s with h | ⟨_, h⟩ <;> rw [h] <;> simp
theorem nx_old_mem {l : List ByteArray} {s t : ByteArray} (h : t ∈ l) : t ∈ nx l s := by
  rcases nx_cases l s with e | ⟨_, e⟩ <;> rw [e] <;> simp [h]
theorem nx_old_idx {l : List ByteArray} {s t : ByteArray} (h : t ∈ l) : (nx l s).idxOf t = l.idxOf t := by
  rcases nx_cases l s with e | ⟨_, e⟩ <;> rw [e]
  simp [List.idxOf_append, h]
theorem getD_idx {l : List ByteArray} {s : ByteArray} (h : s ∈ l) : l.getD (l.idxOf s) ByteArray.empty = s := by
  have := List.idxOf_lt_length_of_mem h
  simp [List.getD, this]
theorem num_ok {w : World} {p : Nat} {F : Nat → Prop} {l : List ByteArray} (h : Tab w p F l) (s : ByteArray) (hs : s.size ≤ 200) (hl : l.length < 4096) :
    Calls Try.prog 112 #[.pointer (some ⟨p, 0, none⟩), .string s] w fun e w' => e = .returned (.tuple #[.int .i64 ((nx l s).idxOf s), .int .i64 0]) ∧ Next w p F (nx l s) w' := by
  rw [nx_short hs hl]
  by_cases hi : s ∈ l
  · rw [if_pos hi]; exact num_old h s hs hi
  · rw [if_neg hi]
    have e : (l ++ [s]).idxOf s = l.length := by simp [List.idxOf_append, hi]
    rw [e]; exact num_new h s hs hi hl
end Go.Proofs.Ythableojkjhicaa.atm
namespace Go.Proofs.Ythableojkjhicaa.atm
open Go.ChangeShapes Go.WideShapes Go.ChangeAt Go.RowKit
theorem one_cell {w : World} {p : Nat} {a : Value} {t : TypeId} (h : w.heap[p]? = some (.cells #[a] t (0, 0))) : w.cell? ⟨p, 0, none⟩ = some a ∧ w.frozen? ⟨p, 0, none⟩ = false := by
  refine ⟨?_, ?_⟩ <;> simp [World.cell?, World.frozen?, h]
theorem tl_ne {x s : ByteArray} (h : x ≠ s) : (x.toList == s.toList) = false := by
  rw [beq_eq_false_iff_ne, ByteArray.toList_eq, ByteArray.toList_eq]
  intro e; apply h; apply ByteArray.ext; exact Array.ext' e
end Go.Proofs.Ythableojkjhicaa.atm
