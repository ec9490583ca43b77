/- The heap, names and variables of the project side by side, as one object; the calls upon it. -/
import Derived.Test.YtibepkljcofpdaaRPutA
import Derived.Test.YtibepkljcofpdaaHeap
import Derived.Test.YtibepkljcofpdaaAtoms2
namespace Go.Proofs.Ytibepkljcofpdaa.ppt
set_option linter.unusedVariables false
open Go.ChangeShapes Go.WideShapes Go.ChangeAt Go.RowKit Go.Maps
open Go.Proofs.Ytibepkljcofpdaa.hp Go.Proofs.Ytibepkljcofpdaa.cel Go.Proofs.Ytibepkljcofpdaa.kp Go.Proofs.Ytibepkljcofpdaa.ob Go.Proofs.Ytibepkljcofpdaa.pm Go.Proofs.Ytibepkljcofpdaa.tm
open Go.Proofs.Ytibepkljcofpdaa.atm (nv ne nx Tab)
open Go.Proofs.Ytibepkljcofpdaa.rpt (toA toK CK CK_ne law zeroC VM VO frV HB frHB mapC_keep)
def PO (q : Nat) (a : List ByteArray) : Ob := fun w F => Tab w q F a
theorem frPO {q : Nat} {a : List ByteArray} : Fr (PO q a) := ⟨fun h => Tab.lt h, fun h k d => Tab.keep h (toA k) d⟩
def PB (p q mb : Nat) (m : Int) (s : S) : Ob := Tim (HB TH p s.h m) (Tim (PO q s.a) (VO mb s.v))
theorem frP {p q mb : Nat} {m : Int} {s : S} : Fr (PB p q mb m s) := frHB.tim (frPO.tim frV)
section
variable {w w0 wr w' : World} {p q mb : Nat} {m : Int} {s s' : S} {C : Ob} {N K : Nat → Prop}
/-- behind w0, beside C -/
def XX (w0 : World) (N : Nat → Prop) (p q mb : Nat) (m : Int) (s : S) (C : Ob) (wr : World) : Prop := Nx (Tim (PB p q mb m s) C) w0 N wr
theorem XX.open_ (fC : Fr C) (h : XX w0 N p q mb m s C wr) : ∃ K, PB p q mb m s wr K ∧ (∀ k, K k → N k ∨ w0.heap.size ≤ k) ∧ kp.Keep N w0 wr ∧ ∀ s' w', Nx (PB p q mb m s') wr K w' → XX w0 N p q mb m s' C w' := by
  obtain ⟨K, a, k, sub⟩ := h
  obtain ⟨K2, K3, b2, b3, d, e⟩ := a
  have hlt := fC.lt b3
  refine ⟨K2, b2, fun i hi => sub i ((e i).2 (Or.inl hi)), k, fun s' w' ⟨K', a', k', s3⟩ => ?_⟩
  refine Nx.trans k sub ⟨fun i => K' i ∨ K3 i, ⟨K', K3, a', fC.keep b3 k' (fun i hm hk => d i hk hm), fun i hk hm => ?_, fun _ => Iff.rfl⟩, k'.mono fun i hi => (e i).2 (Or.inl hi), fun i hi => ?_⟩
  · rcases s3 i hk with h | h
    · exact d i h hm
    · have := hlt i hm; omega
  · rcases hi with hi | hi
    · exact (s3 i hi).imp (fun h => (e i).2 (Or.inl h)) id
    · exact Or.inl ((e i).2 (Or.inr hi))
theorem XX.start (h : PB p q mb m s w0 N) (o : Obj) : XX w0 N p q mb m s (Blk w0.heap.size o) (w0.alloc o) := by
  have hlt := frP.lt h
  refine ⟨fun k => N k ∨ k = w0.heap.size, ⟨N, fun k => k = w0.heap.size, frP.below h (kp.ba w0 o), ⟨alloc_at w0 o, fun _ => Iff.rfl⟩, fun k h1 h2 => by have := hlt k h1; omega, fun _ => Iff.rfl⟩, Keep.of_below (kp.ba w0 o), fun k h1 => h1.imp id (fun h => by omega)⟩
theorem XX.drop (h : XX w0 N p q mb m s C wr) : Nx (PB p q mb m s) w0 N wr := by
  obtain ⟨K, ⟨K1, K2, a, b, d, e⟩, k, sub⟩ := h
  exact ⟨K1, a, k, fun i hi => sub i ((e i).2 (Or.inl hi))⟩
theorem XX.box {b : Nat} {o : Obj} (h : XX w0 N p q mb m s (Blk b o) wr) : wr.heap[b]? = some o := by
  obtain ⟨K, ⟨K1, K2, a, b, d, e⟩, k, sub⟩ := h
  exact b.1
theorem XX.cells {b : Nat} {v0 v1 v2 v3 v4 v5 : Value} {t : TypeId} (h : XX w0 N p q mb m s (Blk b (.cells #[v0, v1, v2, v3, v4, v5] t (0, 0))) wr) :
    wr.cell? ⟨b, 0, none⟩ = some v0 ∧ wr.cell? ⟨b, 1, none⟩ = some v1 ∧ wr.cell? ⟨b, 2, none⟩ = some v2 ∧ wr.cell? ⟨b, 3, none⟩ = some v3 ∧ wr.cell? ⟨b, 4, none⟩ = some v4 ∧ wr.cell? ⟨b, 5, none⟩ = some v5 := by
  have := h.box
  refine ⟨?_, ?_, ?_, ?_, ?_, ?_⟩ <;> simp [World.cell?, this]
theorem XX.drew (fC : Fr C) (h : XX w0 N p q mb m s C wr) : XX w0 N p q mb m s C wr.drew := Nx.below (frP.tim fC) h (bdr wr)
theorem XX.below (fC : Fr C) (h : XX w0 N p q mb m s C wr) (b : Below wr.heap.size wr w') : XX w0 N p q mb m s C w' := Nx.below (frP.tim fC) h b
theorem XX.heap (fC : Fr C) (h : XX w0 N p q mb m s C wr) : ∃ F, Hp TH wr p F s.h m ∧ ∀ h' w', hp.Next TH wr p F h' m w' → XX w0 N p q mb m ⟨h', s.a, s.v⟩ C w' := by
  obtain ⟨K, a, _, _, up⟩ := h.open_ fC
  obtain ⟨F, hF, u1⟩ := Tim.at1 (frPO.tim frV) a
  exact ⟨F, hF, fun h' w' n => up ⟨h', s.a, s.v⟩ _ (u1 (HB TH p h' m) _ n)⟩
theorem XX.names (fC : Fr C) (h : XX w0 N p q mb m s C wr) : ∃ F, Tab wr q F s.a ∧ ∀ a' w', atm.Next wr q F a' w' → XX w0 N p q mb m ⟨s.h, a', s.v⟩ C w' := by
  obtain ⟨K, a, _, _, up⟩ := h.open_ fC
  obtain ⟨K2, b, u1⟩ := Tim.at2 frHB a
  obtain ⟨F, hF, u2⟩ := Tim.at1 frV b
  exact ⟨F, hF, fun a' w' ⟨F', hr, k, sub⟩ => up ⟨s.h, a', s.v⟩ _ (u1 _ _ (u2 (PO q a') _ ⟨F', hr, toK k, sub⟩))⟩
theorem XX.vars (fC : Fr C) (h : XX w0 N p q mb m s C wr) : ∃ D, wr.ownsMap Try.prog 2 (plainElem (H := Unit) Try.prog 37) mb s.v.length D ∧ VM D s.v ∧ (∀ v' D' w', w'.ownsMap Try.prog 2 (plainElem (H := Unit) Try.prog 37) mb v'.length D' → VM D' v' → Maps.size D' = v'.length → wr.grownBy w' (some mb) → XX w0 N p q mb m ⟨s.h, s.a, v'⟩ C w') ∧ Maps.size D = s.v.length := by
  obtain ⟨K, a, _, _, up⟩ := h.open_ fC
  obtain ⟨K2, b, u1⟩ := Tim.at2 frHB a
  obtain ⟨F, ⟨⟨D, hD, hv, hz⟩, hF⟩, u2⟩ := Tim.at2 frPO b
  refine ⟨D, hD, hv, fun v' D' w' h1 h2 h3 g => up ⟨s.h, s.a, v'⟩ _ (u1 _ _ (u2 (VO mb v') _ ⟨F, ⟨⟨D', h1, h2, h3⟩, hF⟩, Keep.of_grown g fun k e => (hF k).2 (by injection e with e; exact e.symm), fun _ => Or.inl⟩)), hz⟩
theorem pPush (fC : Fr C) (u : Int) (hu : W64 u) (h : XX w0 N p q mb m s C wr) : Calls Try.prog 20 #[.pointer (some ⟨p, 0, none⟩), .int .u64 u] wr fun e w' => e = .returned (.tuple #[.int .i64 (pv s.h m), .int .i64 (pe s.h m)]) ∧ XX w0 N p q mb m ⟨px s.h m u, s.a, s.v⟩ C w' := by
  obtain ⟨F, hF, up⟩ := h.heap fC
  exact (push_any hF u hu).mono fun e w' ⟨he, n⟩ => ⟨he, up _ _ n⟩
theorem pVar (fC : Fr C) (h : XX w0 N p q mb m s C wr) : Calls Try.prog 95 #[.pointer (some ⟨p, 0, none⟩)] wr fun e w' => e = .returned (.tuple #[.int .i64 (pv s.h m), .int .i64 (pe s.h m)]) ∧ XX w0 N p q mb m ⟨px s.h m (s.h.length * 8), s.a, s.v⟩ C w' := by
  obtain ⟨F, hF, up⟩ := h.heap fC
  exact (var_any hF).mono fun e w' ⟨he, n⟩ => ⟨he, up _ _ n⟩
theorem pSet (fC : Fr C) (n u : Int) (hu : W64 u) (h : XX w0 N p q mb m s C wr) : Calls Try.prog 62 #[.pointer (some ⟨p, 0, none⟩), .int .i64 n, .int .u64 u] wr fun e w' => e = .returned (.bool (gb s.h n)) ∧ XX w0 N p q mb m ⟨sx s.h n u, s.a, s.v⟩ C w' := by
  obtain ⟨F, hF, up⟩ := h.heap fC
  exact (set_any hF n u hu).mono fun e w' ⟨he, n⟩ => ⟨he, up _ _ n⟩
theorem pLen (fC : Fr C) (h : XX w0 N p q mb m s C wr) : Calls Try.prog 29 #[.pointer (some ⟨p, 0, none⟩)] wr fun e w' => e = .returned (.int .i64 s.h.length) ∧ wr = w' := by
  obtain ⟨F, hF, up⟩ := h.heap fC
  exact len_any hF
theorem pNum (fC : Fr C) (n : ByteArray) (hn : n.size ≤ 200) (h : XX w0 N p q mb m s C wr) : Calls Try.prog 22 #[.pointer (some ⟨q, 0, none⟩), .string n] wr fun e w' => e = .returned (.tuple #[.int .i64 (nv s.a n), .int .i64 (ne s.a n)]) ∧ XX w0 N p q mb m ⟨s.h, nx s.a n, s.v⟩ C w' := by
  obtain ⟨F, hF, up⟩ := h.names fC
  exact (atm.num_any hF n (by unfold maxLen; omega)).mono fun e w' ⟨he, n⟩ => ⟨he, up _ _ n⟩
theorem XX.len (fC : Fr C) (h : XX w0 N p q mb m s C wr) : (s.h.length : Int) ≤ 1048576 ∧ (s.h.length : Int) ≤ m ∧ m ≤ 1048576 ∧ ∀ c ∈ s.h, W64 c := by
  obtain ⟨F, hF, up⟩ := h.heap fC
  exact ⟨hF.len_le, hF.fits, hF.most, hF.wf⟩
/-- the putter -/
def PC (p q mb : Nat) : Obj := .cells #[.pointer (some ⟨p, 0, none⟩), .pointer (some ⟨q, 0, none⟩), .map (some mb)] 84 (0, 0)
def PK (pb p q mb : Nat) (C : Ob) : Ob := Tim (Blk pb (PC p q mb)) C
theorem frPK {pb p q mb : Nat} (fC : Fr C) : Fr (PK pb p q mb C) := (Fr.blk _ _).tim fC
theorem XX.beside (h : XX w0 N p q mb m s C wr) : ∃ K, C wr K := by
  obtain ⟨K, ⟨K1, K2, a, b, d, e⟩, k, sub⟩ := h
  exact ⟨K2, b⟩
theorem XX.putter {pb : Nat} (h : XX w0 N p q mb m s (PK pb p q mb C) wr) : wr.cell? ⟨pb, 0, none⟩ = some (.pointer (some ⟨p, 0, none⟩)) ∧ wr.cell? ⟨pb, 1, none⟩ = some (.pointer (some ⟨q, 0, none⟩)) ∧ wr.cell? ⟨pb, 2, none⟩ = some (.map (some mb)) := by
  obtain ⟨K, K1, K2, a, b, d, e⟩ := h.beside
  have := a.1
  refine ⟨?_, ?_, ?_⟩ <;> simp [World.cell?, this, PC]
/-- one block more -/
theorem XX.alloc (fC : Fr C) (h : XX w0 N p q mb m s C wr) (o : Obj) : XX w0 N p q mb m s (Tim C (Blk wr.heap.size o)) (wr.alloc o) := by
  obtain ⟨K, a, k, sub⟩ := h
  have hlt := (frP.tim fC).lt a
  have hb := kp.ba wr o
  have key : Tim (Tim (PB p q mb m s) C) (Blk wr.heap.size o) (wr.alloc o) (fun i => K i ∨ i = wr.heap.size) :=
    ⟨K, fun i => i = wr.heap.size, (frP.tim fC).below a hb, ⟨alloc_at wr o, fun _ => Iff.rfl⟩, fun i h1 h2 => by have := hlt i h1; omega, fun _ => Iff.rfl⟩
  refine ⟨_, key.right_, k.trans (F' := fun _ => False) (Keep.of_below hb) (fun _ h => h.elim), fun i hi => ?_⟩
  rcases hi with hi | hi
  · exact sub i hi
  · have := k.size; exact Or.inr (by omega)
/-- what stands beside is put away -/
theorem XX.less {D : Ob} (h : XX w0 N p q mb m s (Tim C D) wr) : XX w0 N p q mb m s C wr := by
  obtain ⟨K, ⟨K1, K2, a, ⟨K3, K4, b, c, d2, e2⟩, d, e⟩, k, sub⟩ := h
  exact ⟨fun i => K1 i ∨ K3 i, ⟨K1, K3, a, b, fun i h1 h2 => d i h1 ((e2 i).2 (Or.inl h2)), fun _ => Iff.rfl⟩, k, fun i hi => sub i ((e i).2 (hi.imp id fun h => (e2 i).2 (Or.inl h)))⟩
end
end Go.Proofs.Ytibepkljcofpdaa.ppt
