/- Objects in memory side by side: an object is what a world holds on blocks of its own (Ob); Tim: one beside another, apart; Mine: made behind W. A call that turns one (Nx) leaves the others. -/
import Derived.Test.YthableojkjhicaaKeep
import Derived.Deep.Draws
namespace Go.Proofs.Ythableojkjhicaa.ob
open Go.ChangeShapes Go.WideShapes Go.ChangeAt Go.RowKit Go.Maps
open Go.Proofs.Ythableojkjhicaa.kp
set_option linter.unusedVariables false
abbrev Ob := World → (Nat → Prop) → Prop
structure Fr (A : Ob) : Prop where
  lt : ∀ {w N}, A w N → ∀ k, N k → k < w.heap.size
  keep : ∀ {w w' N} {F : Nat → Prop}, A w N → Keep F w w' → (∀ k, N k → ¬ F k) → A w' N
/-- A' stands where what had the blocks K stood: nothing else has turned -/
def Nx (A : Ob) (w : World) (K : Nat → Prop) (w' : World) : Prop := ∃ K', A w' K' ∧ Keep K w w' ∧ ∀ k, K' k → K k ∨ w.heap.size ≤ k
def Tim (A B : Ob) : Ob := fun w N => ∃ K M, A w K ∧ B w M ∧ (∀ k, K k → ¬ M k) ∧ ∀ k, N k ↔ K k ∨ M k
def Mine (W : World) (A : Ob) (w : World) : Prop := ∃ N, A w N ∧ Below W.heap.size W w ∧ ∀ k, N k → W.heap.size ≤ k
/-- one block, whole -/
def Blk (b : Nat) (o : Obj) : Ob := fun w N => w.heap[b]? = some o ∧ ∀ k, N k ↔ k = b
theorem dBelow (w : World) (n : Nat) : Below w.heap.size w (w.drewN n) := by
  induction n with
  | zero => exact Below.refl _ _
  | succ n ih => exact ih.drew
section
variable {A A' B B' C : Ob} {W w w' w2 : World} {N K M : Nat → Prop}
theorem Fr.below (f : Fr A) (h : A w N) (b : Below w.heap.size w w') : A w' N := f.keep h (F := fun _ => False) (Keep.of_below b) fun _ _ => id
theorem Fr.drewN (f : Fr A) (h : A w N) (n : Nat) : A (w.drewN n) N := f.below h (dBelow w n)
theorem Fr.tim (f : Fr A) (g : Fr B) : Fr (Tim A B) where
  lt := by
    rintro w N ⟨K, M, a, b, _, e⟩ k hk
    rcases (e k).1 hk with h | h
    · exact f.lt a k h
    · exact g.lt b k h
  keep := by
    rintro w w' N F ⟨K, M, a, b, d, e⟩ k hd
    exact ⟨K, M, f.keep a k fun i hi => hd i ((e i).2 (Or.inl hi)), g.keep b k fun i hi => hd i ((e i).2 (Or.inr hi)), d, e⟩
theorem Fr.blk (b : Nat) (o : Obj) : Fr (Blk b o) where
  lt := by
    rintro w N ⟨h, e⟩ k hk
    rw [(e k).1 hk]; exact (Array.getElem?_eq_some_iff.1 h).1
  keep := by
    rintro w w' N F ⟨h, e⟩ k hd
    exact ⟨(k.block b (Array.getElem?_eq_some_iff.1 h).1 (hd b ((e b).2 rfl))).trans h, e⟩
theorem Nx.same (h : A w K) : Nx A w K w := ⟨K, h, Keep.refl _ _, fun _ => Or.inl⟩
theorem Nx.trans {K' : Nat → Prop} (k : Keep K w w') (hs : ∀ i, K' i → K i ∨ w.heap.size ≤ i) (n : Nx A w' K' w2) : Nx A w K w2 := by
  obtain ⟨H, t, k2, h2⟩ := n
  refine ⟨H, t, k.trans k2 hs, fun i hi => ?_⟩
  rcases h2 i hi with h | h
  · exact hs i h
  · exact Or.inr (Nat.le_trans k.size h)
theorem Nx.below (f : Fr A) (n : Nx A w K w') (b : Below w'.heap.size w' w2) : Nx A w K w2 := by
  obtain ⟨H, t, k2, h2⟩ := n
  exact ⟨H, f.below t b, k2.trans (Keep.of_below (F := fun _ => False) b) (fun _ (h : False) => h.elim), h2⟩
/-- from a world that has only grown -/
theorem Nx.past (b : Below w.heap.size w w') (n : Nx A w' K w2) : Nx A w K w2 := Nx.trans (Keep.of_below b) (fun _ => Or.inl) n
theorem Tim.at1 (g : Fr B) (h : Tim A B w N) : ∃ K, A w K ∧ ∀ A' w', Nx A' w K w' → Nx (Tim A' B) w N w' := by
  obtain ⟨K, M, a, b, d, e⟩ := h
  have hlt := g.lt b
  refine ⟨K, a, fun A' w' ⟨K', a', k, s⟩ => ⟨fun i => K' i ∨ M i, ⟨K', M, a', g.keep b k (fun i hm hk => d i hk hm), fun i hk hm => ?_, fun _ => Iff.rfl⟩, k.mono fun i hi => (e i).2 (Or.inl hi), fun i hi => ?_⟩⟩
  · rcases s i hk with h | h
    · exact d i h hm
    · have := hlt i hm; omega
  · rcases hi with hi | hi
    · exact (s i hi).imp (fun h => (e i).2 (Or.inl h)) id
    · exact Or.inl ((e i).2 (Or.inr hi))
theorem Tim.at2 (f : Fr A) (h : Tim A B w N) : ∃ M, B w M ∧ ∀ B' w', Nx B' w M w' → Nx (Tim A B') w N w' := by
  obtain ⟨K, M, a, b, d, e⟩ := h
  have hlt := f.lt a
  refine ⟨M, b, fun B' w' ⟨M', b', k, s⟩ => ⟨fun i => K i ∨ M' i, ⟨K, M', f.keep a k (fun i hm hk => d i hm hk), b', fun i hk hm => ?_, fun _ => Iff.rfl⟩, k.mono fun i hi => (e i).2 (Or.inr hi), fun i hi => ?_⟩⟩
  · rcases s i hm with h | h
    · exact d i hk h
    · have := hlt i hk; omega
  · rcases hi with hi | hi
    · exact Or.inl ((e i).2 (Or.inl hi))
    · exact (s i hi).imp (fun h => (e i).2 (Or.inr h)) id
theorem Mine.at_ (h : Mine W A w) : ∃ N, A w N ∧ Below W.heap.size W w ∧ ∀ A' w', Nx A' w N w' → Mine W A' w' := by
  obtain ⟨N, a, b, f⟩ := h
  exact ⟨N, a, b, fun A' w' ⟨N', a', k, s⟩ => ⟨N', a', b.trans (k.to_below f b.size), fun j hj => (s j hj).elim (f j) (Nat.le_trans b.size)⟩⟩
theorem Mine.bel (h : Mine W A w) : Below W.heap.size W w := h.choose_spec.2.1
theorem Mine.below (f : Fr A) (h : Mine W A w) (b : Below w.heap.size w w') : Mine W A w' := by
  obtain ⟨N, a, b0, g⟩ := h
  exact ⟨N, f.below a b, b0.trans (b.mono b0.size), g⟩
theorem Mine.drewN (f : Fr A) (h : Mine W A w) (n : Nat) : Mine W A (w.drewN n) := h.below f (dBelow w n)
theorem Mine.first (b : Below W.heap.size W w) (a : A w N) (s : ∀ k, N k → W.heap.size ≤ k) : Mine W A w := ⟨N, a, b, s⟩
/-- one more, made now -/
theorem Mine.more (f : Fr A) (h : Mine W A w) (b : Below w.heap.size w w') (a : B w' M) (s : ∀ k, M k → w.heap.size ≤ k) : Mine W (Tim A B) w' := by
  obtain ⟨N, x, b0, g⟩ := h
  refine ⟨fun k => N k ∨ M k, ⟨N, M, f.below x b, a, fun k hn hm => ?_, fun _ => Iff.rfl⟩, b0.trans (b.mono b0.size), fun k hk => ?_⟩
  · have := f.lt x k hn; have := s k hm; omega
  · rcases hk with h | h
    · exact g k h
    · exact Nat.le_trans b0.size (s k h)
theorem Mine.blk (f : Fr A) (h : Mine W A w) (o : Obj) : Mine W (Tim A (Blk w.heap.size o)) (w.alloc o) :=
  h.more f (kp.ba w o) (M := fun k => k = w.heap.size) ⟨alloc_at w o, fun _ => Iff.rfl⟩ fun k hk => by omega
theorem Mine.fst (h : Mine W (Tim A B) w) : Mine W A w := by
  obtain ⟨N, ⟨K, M, a, b, d, e⟩, b0, g⟩ := h
  exact ⟨K, a, b0, fun k hk => g k ((e k).2 (Or.inl hk))⟩
theorem Mine.snd (h : Mine W (Tim A B) w) : Mine W B w := by
  obtain ⟨N, ⟨K, M, a, b, d, e⟩, b0, g⟩ := h
  exact ⟨M, b, b0, fun k hk => g k ((e k).2 (Or.inr hk))⟩
/-- rearranged: (A beside B) beside C as A beside (B beside C) -/
theorem Tim.right_ (h : Tim (Tim A B) C w N) : Tim A (Tim B C) w N := by
  obtain ⟨K, M, ⟨K1, M1, a, b, d1, e1⟩, c, d, e⟩ := h
  refine ⟨K1, fun k => M1 k ∨ M k, a, ⟨M1, M, b, c, fun k h1 h2 => d k ((e1 k).2 (Or.inr h1)) h2, fun _ => Iff.rfl⟩, fun k h1 h2 => ?_, fun k => ?_⟩
  · rcases h2 with h2 | h2
    · exact d1 k h1 h2
    · exact d k ((e1 k).2 (Or.inl h1)) h2
  · rw [e k, e1 k, or_assoc]
theorem Tim.swap (h : Tim A B w N) : Tim B A w N := by
  obtain ⟨K, M, a, b, d, e⟩ := h
  exact ⟨M, K, b, a, fun k h1 h2 => d k h2 h1, fun k => by rw [e k, or_comm]⟩
theorem Tim.map1 (f : ∀ K, A w K → A' w K) (h : Tim A B w N) : Tim A' B w N := by
  obtain ⟨K, M, a, b, d, e⟩ := h
  exact ⟨K, M, f K a, b, d, e⟩
theorem Tim.map2 (f : ∀ K, B w K → B' w K) (h : Tim A B w N) : Tim A B' w N := by
  obtain ⟨K, M, a, b, d, e⟩ := h
  exact ⟨K, M, a, f M b, d, e⟩
/-- (A beside B) beside C as (A beside C) beside B -/
theorem Tim.rot (h : Tim (Tim A B) C w N) : Tim (Tim A C) B w N := by
  obtain ⟨K, M, ⟨K1, M1, a, b, d1, e1⟩, c, d, e⟩ := h
  refine ⟨fun k => K1 k ∨ M k, M1, ⟨K1, M, a, c, fun k h1 h2 => d k ((e1 k).2 (Or.inl h1)) h2, fun _ => Iff.rfl⟩, b, fun k h1 h2 => ?_, fun k => ?_⟩
  · rcases h1 with h1 | h1
    · exact d1 k h1 h2
    · exact d k ((e1 k).2 (Or.inr h2)) h1
  · rw [e k, e1 k, or_assoc, or_assoc, or_comm (a := M1 k)]
theorem Mine.imp (h : Mine W A w) (f : ∀ N, A w N → B w N) : Mine W B w := by
  obtain ⟨N, a, r⟩ := h
  exact ⟨N, f N a, r⟩
/-- nothing -/
def Nob : Ob := fun _ N => ∀ k, ¬ N k
theorem Fr.nob : Fr Nob := ⟨fun h k hk => (h k hk).elim, fun h _ _ => h⟩
theorem Mine.nob (h : Mine W A w) : Mine W (Tim A Nob) w := by
  obtain ⟨N, a, b, f⟩ := h
  exact ⟨N, ⟨N, fun _ => False, a, fun _ => id, fun _ _ => id, fun k => by simp⟩, b, f⟩
theorem Blk.cell {b j : Nat} {cs : Array Value} {t : TypeId} {v : Value} (h : Blk b (.cells cs t (0, 0)) w N) (hv : cs[j]? = some v) : w.cell? ⟨b, j, none⟩ = some v ∧ w.frozen? ⟨b, j, none⟩ = false := by
  have h := h.1
  refine ⟨?_, ?_⟩
  · simp [World.cell?, h, hv]
  · simp [World.frozen?, h]
end
end Go.Proofs.Ythableojkjhicaa.ob
