/- What the page's own table of names does, call by call. -/
import Derived.Test.YtibepkljcofpdaaAtoms2
namespace Go.Proofs.Ytibepkljcofpdaa.atm
open Go.ChangeShapes Go.WideShapes Go.ChangeAt Go.RowKit
/-- THE PAGE's TABLE at block p holds the names l; F: its own blocks. -/
def Ref (w : World) (p : Nat) (F : Nat → Prop) (l : List ByteArray) : Prop :=
  ∃ v, w.heap[p]? = some (.cells #[v] 46 (0, 0)) ∧ w.ownsRow 0 9 1 v l.length (l.map Value.string) ∧ v.ownBlock ≠ some p ∧ (∀ k, F k ↔ k = p ∨ v.ownBlock = some k)
theorem Ref.lt {w : World} {p : Nat} {F : Nat → Prop} {l : List ByteArray} (h : Ref w p F l) : ∀ k, F k → k < w.heap.size := by
  obtain ⟨v, hp, hr, _, hF⟩ := h
  intro k hk
  rcases (hF k).1 hk with rfl | e
  · exact (Array.getElem?_eq_some_iff.1 hp).1
  · exact (hr.lt k e).2
theorem Ref.keep {w w' : World} {p : Nat} {F G : Nat → Prop} {l : List ByteArray} (h : Ref w p F l) (hk : Keep G w w') (hd : ∀ k, F k → ¬ G k) : Ref w' p F l := by
  have hlt := h.lt
  obtain ⟨v, hp, hr, h2, hF⟩ := h
  have hb : ∀ k, F k → w'.heap[k]? = w.heap[k]? := fun k f => hk.block k (hlt k f) (hd k f)
  refine ⟨v, (hb p ((hF p).2 (Or.inl rfl))).trans hp, ?_, h2, hF⟩
  obtain ⟨hl, hr⟩ := hr
  refine ⟨hl, ?_⟩
  rcases hr with hr | ⟨g, cap, cur, rfl, hg0, hg, r⟩
  · exact Or.inl hr
  · exact Or.inr ⟨g, cap, cur, rfl, hg0, (hb g ((hF g).2 (Or.inr rfl))).trans hg, r⟩
theorem Ref.below {w w' : World} {p : Nat} {F : Nat → Prop} {l : List ByteArray} (h : Ref w p F l) (hb : Below w.heap.size w w') : Ref w' p F l :=
  h.keep (G := fun _ => False) (Keep.of_below hb) (fun _ _ => id)
def RNext (w : World) (p : Nat) (F : Nat → Prop) (l : List ByteArray) (w' : World) : Prop := ∃ F', Ref w' p F' l ∧ Keep F w w' ∧ ∀ k, F' k → F k ∨ w.heap.size ≤ k
def RMade (w : World) (q : Nat) (l : List ByteArray) (w' : World) : Prop := ∃ F, Ref w' q F l ∧ Below w.heap.size w w' ∧ ∀ k, F k → w.heap.size ≤ k
theorem one_cell {w : World} {p : Nat} {a : Value} {t : TypeId} (h : w.heap[p]? = some (.cells #[a] t (0, 0))) : w.cell? ⟨p, 0, none⟩ = some a ∧ w.frozen? ⟨p, 0, none⟩ = false := by
  refine ⟨?_, ?_⟩ <;> simp [World.cell?, World.frozen?, h]
set_option maxHeartbeats 400000 in
theorem rnew_any (w : World) : Calls Try.prog 15 #[] w fun e w' => e = .returned (.pointer (some ⟨w.heap.size + 1, 0, none⟩)) ∧ RMade w (w.heap.size + 1) l0 w' := by
  have M : RMade w (w.heap.size + 1) l0 ((w.alloc (.cells #[.string ⟨#[91, 93]⟩, .string ⟨#[46]⟩] 9)).alloc (.cells #[.slice (some ⟨w.heap.size, 0, none⟩) 2 2] 46)) := by
    refine ⟨fun k => k = w.heap.size + 1 ∨ k = w.heap.size, ⟨.slice (some ⟨w.heap.size, 0, none⟩) 2 2, ?_, ?_, by simp [Value.ownBlock], fun k => by simp [Value.ownBlock, eq_comm]⟩, ((Below.refl _ _).alloc (Nat.le_refl _) _).alloc (by simp) _, fun k hk => by omega⟩
    · have := heap_alloc_new (w.alloc (.cells #[.string ⟨#[91, 93]⟩, .string ⟨#[46]⟩] 9)) (.cells #[.slice (some ⟨w.heap.size, 0, none⟩) 2 2] 46)
      simpa using this
    · refine ⟨rfl, Or.inr ⟨w.heap.size, 2, #[.string ⟨#[91, 93]⟩, .string ⟨#[46]⟩], rfl, Nat.zero_le _, ?_, Nat.le_refl _, by decide, rfl, rfl⟩⟩
      rw [Below.heap_alloc _ _ _ (by simp)]; exact heap_alloc_new w _
  have M := Lib.hid M
  go_enter Try.func15, Try.ntmps15
  go_wp2_with fail
  go_ret
  exact ⟨rfl, M.out⟩
theorem tl_ne {x s : ByteArray} (h : x ≠ s) : (x.toList == s.toList) = false := by
  rw [beq_eq_false_iff_ne, ByteArray.toList_eq, ByteArray.toList_eq]
  intro e; apply h; apply ByteArray.ext; exact Array.ext' e
set_option maxHeartbeats 1000000 in
theorem rfind_any {w : World} {p : Nat} {F : Nat → Prop} {l : List ByteArray} (h : Ref w p F l) (s : ByteArray) (hl : l.length ≤ 5000) :
    Calls Try.prog 50 #[.pointer (some ⟨p, 0, none⟩), .string s] w fun e w' => e = .returned (.tuple #[.int .i64 (fi l s), .bool (fb l s)]) ∧ w = w' := by
  obtain ⟨v, hp, hr, h2, hF⟩ := h
  obtain ⟨c0, f0⟩ := one_cell hp
  obtain ⟨a, c, rfl⟩ := shape hr
  have hcell : ∀ i, i < l.length → ∃ g, a = some ⟨g, 0, none⟩ ∧ w.cell? ⟨g, i, none⟩ = some (.string (l.getD i ByteArray.empty)) := fun i hi => by
    rcases hr.2 with ⟨_, e0⟩ | ⟨g, cap, cur, e, _⟩
    · omega
    · injection e with e
      subst e
      have hc := hr.cells (g := g) rfl i (.string (l.getD i ByteArray.empty)) (by simp [List.getD, hi])
      have hadd : (⟨g, 0, none⟩ : Addr).add i = ⟨g, i, none⟩ := by unfold Addr.add; split <;> simp_all
      rw [hadd] at hc
      exact ⟨g, rfl, hc⟩
  have HC := Lib.hid hcell
  have hix : ∀ i, i < l.length → ∃ A : Addr, w.cell? A = some (.string (l.getD i ByteArray.empty)) ∧ ∀ w' : World, (Instr.indexAt 44 (.slice a l.length c) (.int .i64 (i : Int))).run Try.prog w' = .ok (.pointer (some A)) w' := fun i hi => by
    obtain ⟨g, rfl, hc⟩ := HC.out i hi
    refine ⟨⟨g, i, none⟩, hc, fun w' => ?_⟩
    have he : Try.prog.elem 44 = 9 := by kernel_rfl
    have hs : (sizeOf 9).run Try.prog w' = .ok 1 w' := by kernel_rfl
    rw [run_indexAt_slice w' 44 _ _ _ _ _ (by rw [he]; exact Try.underlying44), if_pos ⟨by omega, by omega⟩, he, hs]
    have hadd : (⟨g, 0, none⟩ : Addr).add i = ⟨g, i, none⟩ := by unfold Addr.add; split <;> simp_all
    simp [Result.andThen, hadd]
  have HIX := Lib.hid hix
  clear hp hr h2 hF hcell hix HC f0
  go_enter Try.func50, Try.ntmps50
  go_wp2_with fail
  go_loop [13] (fun i => ∃ k : Nat, k ≤ l.length ∧ i = .int .i64 k ∧ Hid (s ∉ l.take k)) (fun i => l.length - (intOf i).toNat)
  case atStart => exact ⟨0, Nat.zero_le _, rfl, Lib.hid (by simp)⟩
  case round =>
    obtain ⟨k, hk, rfl, hn⟩ := hrel
    by_cases hlt : k < l.length
    · obtain ⟨A, hc, hi⟩ := HIX.out k hlt
      obtain ⟨x, ex⟩ : ∃ x, x = l.getD k ByteArray.empty := ⟨_, rfl⟩
      rw [← ex] at hc
      have hx : l[k] = x := by rw [ex]; simp [List.getD, hlt]
      have EX := Lib.hid hx
      clear ex hx
      by_cases e : x = s
      · have hm : s ∈ l := by rw [← e, ← EX.out]; exact List.getElem_mem hlt
        have hidx : l.idxOf s = k := by
          have h1 := List.take_append_drop k l
          have h2 : l.drop k = s :: l.drop (k + 1) := by rw [List.drop_eq_getElem_cons hlt, EX.out, e]
          rw [← h1, List.idxOf_append, if_neg hn.out, h2]
          simp [Nat.min_eq_left hk]
        have e1 : fb l s = true := by simp [fb, hm]
        have e2 : fi l s = (k : Int) := by simp [fi, hm, hidx]
        have E1 := Lib.hid e1
        have E2 := Lib.hid e2
        subst e
        clear e1 e2 hm hidx EX
        go_wp2_with fail
        go_ret2
        refine ⟨?_, rfl⟩
        rw [E1.out, E2.out]; rfl
      · have q : (x.toList == s.toList) = false := tl_ne e
        have nn : Hid (s ∉ l.take (k + 1)) := Lib.hid (by
          rw [List.take_succ_eq_append_getElem hlt, EX.out]
          simp only [List.mem_append, List.mem_singleton, not_or]
          exact ⟨hn.out, fun h => e h.symm⟩)
        clear e EX
        go_wp2_with fail
        go_round
        case rel => exact ⟨k + 1, by omega, by go_num, nn⟩
        case measure => simp [intOf]; omega
    · have hm : s ∉ l := by have := hn.out; rwa [List.take_of_length_le (by omega)] at this
      have e1 : fb l s = false := by simp [fb, hm]
      have e2 : fi l s = 0 := by simp [fi, hm]
      have E1 := Lib.hid e1
      have E2 := Lib.hid e2
      clear e1 e2 hm hn
      go_wp2_with fail
      go_ret2
      refine ⟨?_, rfl⟩
      rw [E1.out, E2.out]; rfl
set_option maxHeartbeats 400000 in
theorem rnum_long {w : World} {p : Nat} (s : ByteArray) (hs : 200 < s.size) (hm : s.size ≤ maxLen) :
    Calls Try.prog 23 #[.pointer (some ⟨p, 0, none⟩), .string s] w fun e w' => e = .returned (.tuple #[.int .i64 0, .int .i64 3]) ∧ w = w' := by
  unfold maxLen at hm
  go_enter Try.func23, Try.ntmps23
  go_wp2_with fail
  go_ret2
  exact ⟨rfl, rfl⟩
set_option maxHeartbeats 400000 in
theorem rnum_old {w : World} {p : Nat} {F : Nat → Prop} {l : List ByteArray} (h : Ref w p F l) (s : ByteArray) (hs : s.size ≤ 200) (hl : l.length ≤ 5000) (hi : s ∈ l) :
    Calls Try.prog 23 #[.pointer (some ⟨p, 0, none⟩), .string s] w fun e w' => e = .returned (.tuple #[.int .i64 (l.idxOf s), .int .i64 0]) ∧ w = w' := by
  have hf := rfind_any h s hl
  rw [show fb l s = true by simp [fb, hi], show fi l s = l.idxOf s by simp [fi, hi]] at hf
  clear h hi
  go_enter Try.func23, Try.ntmps23
  go_wp2_with fail
  refine hf.mono ?_; rintro e w' ⟨rfl, rfl⟩
  go_wp2_with fail
  go_ret2
  exact ⟨rfl, rfl⟩
theorem RNext.mk {w w2 : World} {p : Nat} {F : Nat → Prop} {l : List ByteArray} {s : ByteArray} {v v' : Value} {o : Obj}
    (hp : w.heap[p]? = some (.cells #[v] 46 (0, 0))) (hvp : v.ownBlock ≠ some p) (hF : ∀ k, F k ↔ k = p ∨ v.ownBlock = some k)
    (hr' : w2.ownsRow 0 9 1 v' (l.length + 1) ((l ++ [s]).map Value.string)) (g2 : (w.alloc o).grownBy w2 v.ownBlock)
    (hat : v'.ownBlock = v.ownBlock ∨ v'.ownBlock = some (w.heap.size + 1)) : RNext w p F (l ++ [s]) (w2.setCell ⟨p, 0, none⟩ v') := by
  have hpl : p < w.heap.size := (Array.getElem?_eq_some_iff.1 hp).1
  have b1 : Below w.heap.size w (w.alloc o) := (Below.refl _ _).alloc (Nat.le_refl _) o
  have z : (w.alloc o).heap.size = w.heap.size + 1 := by simp
  have s2 := g2.size
  have p1 : (w.alloc o).heap[p]? = some (.cells #[v] 46 (0, 0)) := (b1.block p hpl).trans hp
  have p2 : w2.heap[p]? = some (.cells #[v] 46 (0, 0)) := (g2.block p (by omega) (fun e => hvp e.symm)).trans p1
  have p3 : (w2.setCell ⟨p, 0, none⟩ v').heap[p]? = some (.cells #[v'] 46 (0, 0)) := by
    simp [World.setCell, p2, Array.getElem?_modify]
  have hv'p : v'.ownBlock ≠ some p := by rcases hat with e | e <;> rw [e]; exact hvp; intro e; injection e with e; omega
  have hr3 : (w2.setCell ⟨p, 0, none⟩ v').ownsRow 0 9 1 v' (l.length + 1) ((l ++ [s]).map Value.string) := by
    obtain ⟨q1, q2⟩ := hr'
    refine ⟨q1, ?_⟩
    rcases q2 with q | ⟨g, cap, cur, rfl, q3, q4, r⟩
    · exact Or.inl q
    · exact Or.inr ⟨g, cap, cur, rfl, q3, by rw [Below.heap_setCell _ _ _ _ (by intro e; exact hv'p (by simp [Value.ownBlock]; exact e))]; exact q4, r⟩
  refine ⟨fun k => k = p ∨ v'.ownBlock = some k, ⟨v', p3, by rw [List.length_append]; exact hr3, hv'p, fun _ => Iff.rfl⟩, ?_, ?_⟩
  · have k1 : Keep F w (w.alloc o) := Keep.of_below b1
    have k2 : Keep F (w.alloc o) w2 := Keep.of_grown g2 fun k e => (hF k).2 (Or.inr e)
    have k3 : Keep F w2 (w2.setCell ⟨p, 0, none⟩ v') := Keep.setCell w2 ((hF p).2 (Or.inl rfl)) v'
    exact (k1.trans k2 fun _ => Or.inl).trans k3 fun _ => Or.inl
  · rintro k (rfl | e)
    · exact Or.inl ((hF k).2 (Or.inl rfl))
    · rcases hat with e' | e'
      · exact Or.inl ((hF k).2 (Or.inr (e'.symm.trans e)))
      · right; rw [e'] at e; injection e with e; omega
set_option maxHeartbeats 1000000 in
set_option maxRecDepth 100000 in
theorem rnum_new {w : World} {p : Nat} {F : Nat → Prop} {l : List ByteArray} (h : Ref w p F l) (s : ByteArray) (hs : s.size ≤ 200) (hi : s ∉ l) (hl : l.length < 4096) :
    Calls Try.prog 23 #[.pointer (some ⟨p, 0, none⟩), .string s] w fun e w' => e = .returned (.tuple #[.int .i64 l.length, .int .i64 0]) ∧ RNext w p F (l ++ [s]) w' := by
  have hf := rfind_any h s (by omega)
  rw [show fb l s = false by simp [fb, hi], show fi l s = 0 by simp [fi, hi]] at hf
  obtain ⟨v, hp, hr, h2, hF⟩ := h
  obtain ⟨c0, f0⟩ := one_cell hp
  obtain ⟨a, c, rfl⟩ := shape hr
  have hpl : p < w.heap.size := (Array.getElem?_eq_some_iff.1 hp).1
  obtain ⟨i0, hi0, hz0, hz1, hz2⟩ := info_parts infoS
  have HI := Lib.hid hi0
  have HI1 := Lib.hid hz0
  have HI2 := Lib.hid hz1
  have HI3 := Lib.hid hz2
  have HP := Lib.hid hp
  have HF := Lib.hid hF
  have HR := Lib.hid hr
  have H2 := Lib.hid h2
  clear hp hr h2 hF hi hi0 hz0 hz1 hz2
  go_enter Try.func23, Try.ntmps23
  go_wp2_with fail
  refine hf.mono ?_; rintro e w' ⟨rfl, rfl⟩
  go_wp2_with (at_builtin; refine wpList_append_own_at _ rfl (.tmp 29) (.tmp 31) 44 rfl 0 9 i0 (.string ⟨#[]⟩) 1 16 Try.underlying44 HI.out HI1.out HI2.out HI3.out rfl (by decide) _ _ _ rfl (HR.out.alloc _) ⟨w.heap.size, 0, none⟩ 1 1 [.string s] rfl rfl (cell_one_new _ _ _) ?c2 ?b1 ?b2 ?b3 ?_)
  case c2 => intro u hu; simp at hu; subst hu; rfl
  case b1 => unfold maxLen; omega
  case b2 => omega
  case b3 => simp
  intro v' w2 hr2 g2 _ hat
  obtain ⟨a', c', rfl⟩ := shape hr2
  have hne : some p ≠ (Value.slice a l.length c).ownBlock := fun e => H2.out e.symm
  have c0'' := g2.cell (a := ⟨p, 0, none⟩) (by rw [World.cell?_alloc_past _ _ _ hpl]; exact c0) hne
  have f0'' : w2.frozen? ⟨p, 0, none⟩ = false := (World.frozen?_of_block (a := ⟨p, 0, none⟩) (g2.block p (by simp; omega) hne)).trans ((World.frozen?_alloc_past _ _ _ hpl).trans f0)
  have HR2 := Lib.hid hr2
  have G2 := Lib.hid g2
  have HAT := Lib.hid hat
  clear c0 f0 hne hr2 g2 hat
  go_wp2_with fail
  go_ret2
  exact ⟨rfl, RNext.mk HP.out H2.out HF.out (by have := HR2.out; simpa using this) G2.out (by have := HAT.out; simpa using this)⟩
end Go.Proofs.Ytibepkljcofpdaa.atm
