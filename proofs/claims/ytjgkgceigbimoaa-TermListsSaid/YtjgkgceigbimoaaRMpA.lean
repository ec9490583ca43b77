/- The reference's mapped: the maths, a node whose arguments are being appended while a counter turns; Nodes. -/
import Derived.Test.YtjgkgceigbimoaaNmd
import Derived.Test.YtjgkgceigbimoaaApp
namespace Go.Proofs.Ytjgkgceigbimoaa.rmp
set_option linter.unusedVariables false
open Go.ChangeShapes Go.WideShapes Go.ChangeAt Go.RowKit
open Go.Proofs.Ytjgkgceigbimoaa.tm Go.Proofs.Ytjgkgceigbimoaa.lie Go.Proofs.Ytjgkgceigbimoaa.kp Go.Proofs.Ytjgkgceigbimoaa.cur Go.Proofs.Ytjgkgceigbimoaa.pln Go.Proofs.Ytjgkgceigbimoaa.pla Go.Proofs.Ytjgkgceigbimoaa.wlk Go.Proofs.Ytjgkgceigbimoaa.ow6 Go.Proofs.Ytjgkgceigbimoaa.rws Go.Proofs.Ytjgkgceigbimoaa.rsm Go.Proofs.Ytjgkgceigbimoaa.rpl Go.Proofs.Ytjgkgceigbimoaa.ren Go.Proofs.Ytjgkgceigbimoaa.vrs Go.Proofs.Ytjgkgceigbimoaa.awk Go.Proofs.Ytjgkgceigbimoaa.sme Go.Proofs.Ytjgkgceigbimoaa.nmd Go.Proofs.Ytjgkgceigbimoaa.app Go.Proofs.Ytjgkgceigbimoaa.rmy
/-- what mapped comes to: the term and its nodes counted, or one that may not be, the count too great -/
def OutM (T M : Tm) (x x' : Nat) : Prop := (M = T ∧ x' = x + size M) ∨ (2000 < x' ∧ sound M = false ∧ 2000 < x + size T)
def OutL (Ts Ms : List Tm) (x x' : Nat) : Prop := (Ms = Ts ∧ x' = x + sizeL Ts) ∨ (2000 < x' ∧ soundL Ms = false ∧ 2000 < x + sizeL Ts)
theorem OutL.nil (x : Nat) : OutL [] [] x x := Or.inl ⟨rfl, by simp [sizeL]⟩
theorem sizeL_app (a b : List Tm) : sizeL (a ++ b) = sizeL a + sizeL b := by rw [sizeL_sum, sizeL_sum, sizeL_sum]; simp
theorem soundL_app (a b : List Tm) : soundL (a ++ b) = (soundL a && soundL b) := by rw [soundL_all, soundL_all, soundL_all, List.all_append]
theorem OutL.snoc {Ts Ms : List Tm} {T M : Tm} {x x1 x2 : Nat} (h : OutL Ts Ms x x1) (k : OutM T M x1 x2) : OutL (Ts ++ [T]) (Ms ++ [M]) x x2 := by
  have e1 : sizeL (Ts ++ [T]) = sizeL Ts + size T := by rw [sizeL_app]; simp [sizeL]
  have e2 : soundL (Ms ++ [M]) = (soundL Ms && sound M) := by rw [soundL_app]; simp [soundL]
  rcases h with ⟨rfl, rfl⟩ | ⟨h1, h2, h3⟩
  · rcases k with ⟨rfl, rfl⟩ | ⟨k1, k2, k3⟩
    · exact Or.inl ⟨rfl, by rw [e1]; omega⟩
    · exact Or.inr ⟨k1, by rw [e2, k2]; simp, by rw [e1]; omega⟩
  · rcases k with ⟨rfl, rfl⟩ | ⟨k1, k2, k3⟩
    · exact Or.inr ⟨by omega, by rw [e2, h2]; simp, by rw [e1]; omega⟩
    · exact Or.inr ⟨k1, by rw [e2, h2]; simp, by rw [e1]; omega⟩
theorem OutM.comp_ {n : ByteArray} {Ts Ms : List Tm} {x x' : Nat} (h : OutL Ts Ms (x + 1) x') : OutM (comp n Ts) (comp n Ms) x x' := by
  rcases h with ⟨rfl, rfl⟩ | ⟨h1, h2, h3⟩
  · exact Or.inl ⟨rfl, by simp only [comp, size, if_true]; omega⟩
  · exact Or.inr ⟨h1, by simp [comp, sound, h2], by simp only [comp, size, if_true]; omega⟩
theorem OutM.zero_ {T : Tm} {x : Nat} (h : 2000 < x) : OutM T zero x x := Or.inr ⟨h, by simp [zero, sound, chk], by omega⟩
theorem sizeL_mem {x : Tm} : ∀ {l : List Tm}, x ∈ l → size x ≤ sizeL l
  | [], h => by simp at h
  | y :: r, h => by
    rcases List.mem_cons.1 h with rfl | h
    · simp only [sizeL]; omega
    · have := sizeL_mem (l := r) h; simp only [sizeL]; omega
/-- what stands for a variable is good where the whole is -/
theorem good_at {s : Int → Tm} (t : Tm) : ∀ v ∈ occ t, good (sub s t) = true → good (s v) = true := by
  induction t using Tm.ind with
  | h k n i re im l ih =>
    intro v hv hg
    by_cases h1 : k = 1
    · subst h1
      simp only [occ, if_true, List.mem_singleton] at hv
      subst hv
      simpa [sub] using hg
    · by_cases h5 : k = 5
      · subst h5
        simp only [occ, occL_flat] at hv
        simp at hv
        obtain ⟨x, hx, hvx⟩ := hv
        refine ih x hx v hvx ?_
        have e : sub s (.mk 5 n i re im l) = comp n (l.map (sub s)) := by simp [sub, subL_map, comp]
        rw [e] at hg
        simp only [comp, good, size, height, sound, if_true, Bool.and_eq_true, decide_eq_true_eq] at hg
        obtain ⟨⟨g1, g2⟩, _, g3⟩ := hg
        have hm : sub s x ∈ l.map (sub s) := List.mem_map_of_mem hx
        have hh : height (sub s x) ≤ heightL (l.map (sub s)) := (heightL_le.1 (Nat.le_refl _)) _ hm
        have hs : sound (sub s x) = true := by rw [soundL_all] at g3; exact (List.all_eq_true.1 g3) _ hm
        have hz : size (sub s x) ≤ sizeL (l.map (sub s)) := by
          exact sizeL_mem hm
        simp only [good, Bool.and_eq_true, decide_eq_true_eq]
        exact ⟨⟨by omega, by omega⟩, hs⟩
      · simp [occ, h1, h5] at hv
/-- a node in block b whose arguments are being appended, while the counter in block N turns -/
structure GrowK (N B0 b : Nat) (k : Int) (n : ByteArray) (L : List Tm) (s : Value) (w wr : World) : Prop where
  own : XOwn (Zb B0 b) (b + 1) L s wr
  box : wr.heap[b]? = some (.cells #[.int .i64 k, .string n, .int .i64 0, .int .u64 0, .int .u64 0, s] 25 (0, 0))
  kp : Keep (fun q => q = N) w wr
  wb : w.heap.size ≤ b
  nw : N < w.heap.size
  b0 : B0 ≤ N
theorem GrowK.lt {N B0 b : Nat} {k : Int} {n : ByteArray} {L : List Tm} {s : Value} {w wr : World} (h : GrowK N B0 b k n L s w wr) : b < wr.heap.size := (Array.getElem?_eq_some_iff.1 h.box).1
theorem GrowK.keep {N B0 b : Nat} {k : Int} {n : ByteArray} {L : List Tm} {s : Value} {w wr w' : World} (h : GrowK N B0 b k n L s w wr) (hk : Keep (fun q => q = N) wr w') : GrowK N B0 b k n L s w w' :=
  ⟨h.own.keep hk fun q e => by subst e; have := h.wb; have := h.nw; exact ⟨⟨h.b0, by omega⟩, by omega⟩,
    (hk.block _ h.lt (fun e => by have := h.wb; have := h.nw; omega)).trans h.box, h.kp.trans hk (fun _ => Or.inl), h.wb, h.nw, h.b0⟩
theorem GrowK.below {N B0 b : Nat} {k : Int} {n : ByteArray} {L : List Tm} {s : Value} {w wr w' : World} (h : GrowK N B0 b k n L s w wr) (hb : Below wr.heap.size wr w') : GrowK N B0 b k n L s w w' :=
  h.keep (Keep.of_below hb)
theorem GrowK.pre {N B0 b : Nat} {k : Int} {n : ByteArray} {L : List Tm} {s : Value} {w wr w0 w3 : World} {q : Tm} {v : Value} (h : GrowK N B0 b k n L s w wr) (hb : Below wr.heap.size wr w0) (hb3 : Keep (fun q => q = N) w0 w3)
    (hq : Lies (fun k => B0 ≤ k ∧ k < w0.heap.size) w3 q v) : GrowK N B0 b k n L s w w3 ∧ Lies (fun k => Zb B0 b k ∨ s.ownBlock = some k) w3 q v := by
  have h0 := h.below hb
  refine ⟨h0.keep hb3, hq.off fun i _ hi => ?_⟩
  have := h0.lt; have := h.b0; have := h.nw; have := h.wb
  rcases hi with hi | hi
  · exact ⟨hi.1, by have := hi.2; omega⟩
  · obtain ⟨xs, ho, _⟩ := h0.own.ex
    have := ho.lt i hi
    exact ⟨by omega, this.2⟩
theorem GrowK.post {N B0 b g' c' : Nat} {k : Int} {n : ByteArray} {L : List Tm} {s : Value} {w w3 w4 : World} {q : Tm} {o : Obj} {v0 v1 v2 v3 v4 v5 : Value} {xs : List Value} (h : GrowK N B0 b k n L s w w3)
    (hx : ∀ (m : Nat) (hm : m < L.length), ∃ v0 v1 v2 v3 v4 v5, xs[m * 6]? = some v0 ∧ xs[m * 6 + 1]? = some v1 ∧ xs[m * 6 + 2]? = some v2 ∧ xs[m * 6 + 3]? = some v3 ∧ xs[m * 6 + 4]? = some v4 ∧ xs[m * 6 + 5]? = some v5 ∧
    Lies (fun k => Zb B0 b k ∨ s.ownBlock = some k) w3 L[m] (.agg #[v0, v1, v2, v3, v4, v5])) (ho : w3.ownsRow (b + 1) 25 6 s L.length xs)
    (hq : Lies (fun k => Zb B0 b k ∨ s.ownBlock = some k) w3 q (.agg #[v0, v1, v2, v3, v4, v5])) (ho4 : w4.ownsRow (b + 1) 25 6 (.slice (some ⟨g', 0, none⟩) (L.length + 1) c') (L.length + 1) (xs ++ [v0, v1, v2, v3, v4, v5]))
    (hg4 : (w3.alloc o).grownBy w4 s.ownBlock) (ha : s.ownBlock = some g' ∨ g' = (w3.alloc o).heap.size) :
    (w4.cell? ⟨b, 5, none⟩ = some s ∧ w4.frozen? ⟨b, 5, none⟩ = false) ∧ GrowK N B0 b k n (L ++ [q]) (.slice (some ⟨g', 0, none⟩) (L.length + 1) c') w (w4.setCell ⟨b, 5, none⟩ (.slice (some ⟨g', 0, none⟩) (L.length + 1) c')) ∧ w4.heap[N]? = w3.heap[N]? := by
  obtain ⟨ha1, hk⟩ := XOwn.add hx ho hq ho4 hg4 (ha.imp id fun e => by rw [alloc_size] at e; omega)
  have hbl := h.lt
  have hnb : ¬ s.ownBlock = some b := fun e => by have := (ho.lt b e).1; omega
  have hwb := h.wb; have hb0 := h.b0; have hnw := h.nw
  have hnN : ¬ s.ownBlock = some N := fun e => by have := (ho.lt N e).1; omega
  have hb4 : w4.heap[b]? = some (.cells #[.int .i64 k, .string n, .int .i64 0, .int .u64 0, .int .u64 0, s] 25 (0, 0)) := (hk.block b hbl hnb).trans h.box
  refine ⟨⟨by simp [World.cell?, hb4], by simp [World.frozen?, hb4]⟩, ?_, hk.block N (by omega) hnN⟩
  have ks : Keep (fun i => i = b) w4 (w4.setCell ⟨b, 5, none⟩ (.slice (some ⟨g', 0, none⟩) (L.length + 1) c')) := Keep.setCell (F := fun i => i = b) w4 rfl _
  have s4 := hk.size
  refine ⟨?_, ?_, ?_, h.wb, h.nw, h.b0⟩
  · have := ha1.keep ks fun i hi => by subst hi; exact ⟨⟨by omega, Nat.le_refl _⟩, by omega⟩
    simpa using this
  · have := heap_setCell_same w4 b 5 _ 25 (.slice (some ⟨g', 0, none⟩) (L.length + 1) c') hb4
    simpa using this
  · exact (h.kp.trans hk (fun i hi => by have := (ho.lt i hi).1; exact Or.inr (by omega))).trans ks (fun i hi => by subst hi; exact Or.inr hwb)
theorem GrowK.lies {N B0 b : Nat} {n : ByteArray} {L : List Tm} {s : Value} {w wr : World} (h : GrowK N B0 b 5 n L s w wr) (hn : n.size ≤ 9223372036854775807) : ∃ a c, s = .slice a L.length c ∧ Lies (Zb B0 b) wr (comp n L) (.agg #[.int .i64 5, .string n, .int .i64 0, .int .u64 0, .int .u64 0, s]) := by
  obtain ⟨a, c, rfl, h1, h2, hr⟩ := h.own.row (Y := Zb B0 b) fun k hk => ⟨hk, by have := hk.2; omega⟩
  exact ⟨a, c, rfl, comp_lies hn h1 h2 hr⟩
/-- Nodes of a good term -/
theorem rnodes_good (t : Tm) (v : Value) (w : World) (ht : Lies No w t v) (hg : good t = true) : Calls Try.prog 49 #[v] w fun e w' => e = .returned (.int .i64 (size t)) ∧ Below w.heap.size w w' := by
  have HG := Lib.hid hg
  have HE := Lib.hid (rst_may t)
  have HN := Lib.hid (rst_nodes t)
  obtain ⟨T, hT⟩ : ∃ T, T = t := ⟨_, rfl⟩
  rw [← hT] at HG HE HN ⊢
  have HT := Lib.hid (show Lies No w T v from hT ▸ ht)
  obtain ⟨k, n, i, re, im, l⟩ := t
  rw [Lies] at ht
  obtain ⟨a, c, rfl, hf, hr⟩ := ht
  clear hf hr hg hT
  go_enter Try.func49, Try.ntmps49
  go_wp2_with fail
  refine (rmay_any _ _ (w.heap.size + 1) 1 0 0 _ ((((HT.out.off (Y := fun k => k = w.heap.size + 1) fun b h1 h2 => by omega)).below (ba _ _)).below (ba _ _)) ?_ (by omega) (by omega) (fun _ => by omega) (by omega)).mono ?_
  · have := alloc_at (w.alloc (.cells #[.int .i64 k, .string n, .int .i64 i, .int .u64 re, .int .u64 im, .slice a l.length c] 25)) (WO 0 0)
    rwa [alloc_size] at this
  rintro e w1 ⟨rfl, hk, hp⟩
  obtain ⟨q0, q1, q2, q3, _⟩ := at_p hp
  rw [HE.out, may_good HG.out] at q1
  have hN : ((pre 1 T).foldl rst (0, 0)).1 = size T := by
    have := HN.out
    rw [HE.out, may_good HG.out, if_pos rfl, nodes_good HG.out] at this
    exact this
  rw [hN] at q0
  have HB := Lib.hid ((bt (ba w _) (ba _ _)).trans (hk.to_below (fun i h => by subst h; omega) (by simp only [alloc_size]; omega)))
  clear hk hp hN
  go_wp2_with fail
  go_ret
  exact ⟨rfl, HB.out⟩
end Go.Proofs.Ytjgkgceigbimoaa.rmp
