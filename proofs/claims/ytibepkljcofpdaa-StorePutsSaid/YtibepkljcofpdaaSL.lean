/- What the laws of the store share: a term in a box, a heap, names beside; Light of one term. -/
import Derived.Test.YtibepkljcofpdaaS7
import Derived.Test.YtibepkljcofpdaaLgs
namespace Go.Proofs.Ytibepkljcofpdaa.sl
set_option linter.unusedVariables false
open Go.ChangeShapes Go.WideShapes Go.ChangeAt Go.RowKit Go.Maps
open Go.Proofs.Ytibepkljcofpdaa.hp Go.Proofs.Ytibepkljcofpdaa.cel Go.Proofs.Ytibepkljcofpdaa.kp Go.Proofs.Ytibepkljcofpdaa.ob Go.Proofs.Ytibepkljcofpdaa.pm Go.Proofs.Ytibepkljcofpdaa.tm Go.Proofs.Ytibepkljcofpdaa.lie Go.Proofs.Ytibepkljcofpdaa.ppt
open Go.Proofs.Ytibepkljcofpdaa.rpt (putT HB frHB)
open Go.Proofs.Ytibepkljcofpdaa.atm (l0)
section
variable {A B C : Ob} {W w w' : World}
theorem Mine.two (f : Fr A) (h : Mine W (Tim A B) w) : ∃ M, B w M ∧ (∀ k, M k → W.heap.size ≤ k) ∧ Below W.heap.size W w ∧ ∀ B' w', Nx B' w M w' → Mine W (Tim A B') w' := by
  obtain ⟨N, ⟨K, M, a, b, d, e⟩, b0, g⟩ := h
  refine ⟨M, b, fun k hk => g k ((e k).2 (Or.inr hk)), b0, fun B' w' nn => ?_⟩
  obtain ⟨H, t, k, s⟩ := nn
  have hlt := f.lt a
  refine ⟨fun i => K i ∨ H i, ⟨K, H, f.keep a k (fun i hm hk => d i hm hk), t, fun i hk hm => ?_, fun _ => Iff.rfl⟩, b0.trans (k.to_below (fun i hi => g i ((e i).2 (Or.inr hi))) b0.size), fun i hi => ?_⟩
  · rcases s i hm with h | h
    · exact d i hk h
    · have := hlt i hk; omega
  · rcases hi with hi | hi
    · exact g i ((e i).2 (Or.inl hi))
    · exact (s i hi).elim (fun h => g i ((e i).2 (Or.inr h))) (Nat.le_trans b0.size)
theorem Mine.one (f : Fr B) (h : Mine W (Tim A B) w) : ∃ M, A w M ∧ (∀ k, M k → W.heap.size ≤ k) ∧ Below W.heap.size W w ∧ ∀ A' w', Nx A' w M w' → Mine W (Tim A' B) w' := by
  obtain ⟨M, a, s, b, up⟩ := Mine.two f (h.imp fun _ t => t.swap)
  exact ⟨M, a, s, b, fun A' w' n => (up A' w' n).imp fun _ t => t.swap⟩
theorem Tim.left_ {N : Nat → Prop} (h : Tim A (Tim B C) w N) : Tim (Tim A B) C w N := by
  obtain ⟨K, M, a, ⟨K1, M1, b, c, d1, e1⟩, d, e⟩ := h
  refine ⟨fun k => K k ∨ K1 k, M1, ⟨K, K1, a, b, fun k h1 h2 => d k h1 ((e1 k).2 (Or.inl h2)), fun _ => Iff.rfl⟩, c, fun k h1 h2 => ?_, fun k => ?_⟩
  · rcases h1 with h1 | h1
    · exact d k h1 ((e1 k).2 (Or.inr h2))
    · exact d1 k h1 h2
  · rw [e k, e1 k, or_assoc]
/-- a block turns -/
theorem Nx.blk {b : Nat} {o o' : Obj} {M : Nat → Prop} (h : Blk b o w M) (k : kp.Keep (fun q => q = b) w w') (hb : w'.heap[b]? = some o') : Nx (Blk b o') w M w' :=
  ⟨fun q => q = b, ⟨hb, fun _ => Iff.rfl⟩, k.mono fun q e => (h.2 q).2 e, fun q e => Or.inl ((h.2 q).2 e)⟩
/-- terms of the call's are off what was made since -/
theorem lies_off {T : Tm} {v : Value} {M : Nat → Prop} (h : Lies No W T v) (s : ∀ k, M k → W.heap.size ≤ k) (b : Below W.heap.size W w) : Lies M w T v :=
  Lies.keep (Keep.of_below (F := No) b) (fun k hk hM => by have := s k hM; omega) _ _ h
end
/-- a box, a heap, names -/
def OB (b : Nat) (o : Obj) (p q : Nat) (h : List Int) (m : Int) (a : List ByteArray) : Ob := Tim (Blk b o) (Tim (HB TH p h m) (PO q a))
theorem frOB {b : Nat} {o : Obj} {p q : Nat} {h : List Int} {m : Int} {a : List ByteArray} : Fr (OB b o p q h m a) := (Fr.blk _ _).tim (frHB.tim frPO)
section
variable {w w1 w2 w3 wr : World} {b p q : Nat} {o : Obj} {h : List Int} {m : Int} {a : List ByteArray}
theorem OB.start {o : Obj} (hb : Below (w.alloc o).heap.size (w.alloc o) w1) (h1 : hp.Made TH w1 [] m w2) (h2 : atm.Made w2 l0 w3) : Mine w (OB w.heap.size o w1.heap.size w2.heap.size [] m l0) w3 := by
  have m0 : Mine w (Blk w.heap.size o) (w.alloc o) := ⟨fun k => k = w.heap.size, ⟨kp.alloc_at w o, fun _ => Iff.rfl⟩, kp.ba w o, fun k e => by omega⟩
  have m1 := m0.below (Fr.blk _ _) hb
  obtain ⟨F, a, b, s⟩ := h1
  have m2 := m1.more (Fr.blk _ _) b (B := HB TH w1.heap.size [] m) a s
  obtain ⟨F2, a2, b2, s2⟩ := h2
  have m3 := m2.more ((Fr.blk _ _).tim frHB) b2 (B := PO w2.heap.size l0) a2 s2
  exact m3.imp fun _ t => t.right_
theorem OB.box {v0 v1 v2 v3 v4 v5 : Value} {t : TypeId} {C : Ob} (h : Mine w (Tim (OB b (.cells #[v0, v1, v2, v3, v4, v5] t (0, 0)) p q h m a) C) wr) : wr.cell? ⟨b, 0, none⟩ = some v0 ∧ wr.cell? ⟨b, 1, none⟩ = some v1 ∧ wr.cell? ⟨b, 2, none⟩ = some v2 ∧ wr.cell? ⟨b, 3, none⟩ = some v3 ∧ wr.cell? ⟨b, 4, none⟩ = some v4 ∧ wr.cell? ⟨b, 5, none⟩ = some v5 := by
  obtain ⟨N, ⟨K, M, ⟨K1, K2, hb, _⟩, _⟩, _⟩ := h
  have := hb.1
  refine ⟨?_, ?_, ?_, ?_, ?_, ?_⟩ <;> simp [World.cell?, this]
theorem OB.heap {C : Ob} (hm : Mine w (Tim (OB b o p q h m a) C) wr) : ∃ F, Hp TH wr p F h m := by
  obtain ⟨N, ⟨K, M, ⟨K1, K2, _, ⟨K3, K4, x, _⟩, _⟩, _⟩, _⟩ := hm
  exact ⟨_, x⟩
theorem OB.names {C : Ob} (hm : Mine w (Tim (OB b o p q h m a) C) wr) : ∃ F, atm.Tab wr q F a := by
  obtain ⟨N, ⟨K, M, ⟨K1, K2, _, ⟨K3, K4, x, y, _⟩, _⟩, _⟩, _⟩ := hm
  exact ⟨_, y⟩
/-- Put of a term of the call's -/
theorem OB.put {C : Ob} (fC : Fr C) {T : Tm} {v : Value} (hm : Mine w (Tim (OB b o p q h m a) C) wr) (ht : Lies No w T v) (ha : a.length + size T ≤ 4096) (R : Int × Int × S) (hR : R = putT m T ⟨h, a, []⟩) :
    Calls Try.prog 16 #[.pointer (some ⟨p, 0, none⟩), .pointer (some ⟨q, 0, none⟩), v, .map none] wr fun e w' => e = .returned (.tuple #[.int .u64 R.1, .int .i64 R.2.1]) ∧ Mine w (Tim (OB b o p q R.2.2.h m R.2.2.a) C) w' := by
  have h2 : Mine w (Tim (Tim (Blk b o) C) (Tim (HB TH p h m) (PO q a))) wr := hm.imp fun _ t => t.rot
  obtain ⟨M, hM, hs, hb, up⟩ := Mine.two ((Fr.blk _ _).tim fC) h2
  exact (pPut_new T v hM (lies_off ht hs hb) ha R hR).mono fun e w' ⟨he, nn⟩ => ⟨he, (up _ _ nn).imp fun _ t => t.rot⟩
end
/-- one term in a slice of its own -/
theorem one_row {T : Tm} {v : Value} (w : World) {v0 v1 v2 v3 v4 v5 : Value} (hv : v = .agg #[v0, v1, v2, v3, v4, v5]) (h : Lies No w T v) : TRow No (w.alloc (.cells #[v0, v1, v2, v3, v4, v5] 36)) [T] (some ⟨w.heap.size, 0, none⟩) 0 :=
  s7.row_newX w _ [T] id fun m hm => by
    match m, hm with
    | 0, _ => exact ⟨v0, v1, v2, v3, v4, v5, rfl, rfl, rfl, rfl, rfl, rfl, hv ▸ h⟩
theorem size_one {T : Tm} (h : sizeL [T] ≤ 4000) : size T ≤ 4000 := by simpa [sizeL] using h
end Go.Proofs.Ytibepkljcofpdaa.sl
