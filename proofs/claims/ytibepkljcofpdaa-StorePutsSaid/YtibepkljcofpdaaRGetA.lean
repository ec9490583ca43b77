/- The reference's getter as an object: heap, names, places' numbers, its own block; its function name. -/
import Derived.Test.YtibepkljcofpdaaRPutA
import Derived.Test.YtibepkljcofpdaaGetM
import Derived.Test.YtibepkljcofpdaaRFun
namespace Go.Proofs.Ytibepkljcofpdaa.rgt
set_option linter.unusedVariables false
open Go.ChangeShapes Go.WideShapes Go.ChangeAt Go.RowKit Go.Maps
open Go.Proofs.Ytibepkljcofpdaa.hp Go.Proofs.Ytibepkljcofpdaa.cel Go.Proofs.Ytibepkljcofpdaa.kp Go.Proofs.Ytibepkljcofpdaa.ob Go.Proofs.Ytibepkljcofpdaa.pm Go.Proofs.Ytibepkljcofpdaa.tm Go.Proofs.Ytibepkljcofpdaa.rpt
open Go.Proofs.Ytibepkljcofpdaa.atm (Ref)
theorem lawI : Keyed Try.prog 3 := int_keyed Try.underlying3
theorem zeroI (w : World) : (zeroValue 2).run Try.prog w = .ok (.int .i64 0) w := by kernel_rfl
def VI (D : DataW Unit) (v : List (Int × Int)) : Prop := ∀ i : Int, has D (CK i) = (pm.look v i).isSome ∧ D.atKey (CK i) (.lit (.int .i64 0)) = .lit (.int .i64 ((pm.look v i).getD 0))
theorem VI.nil : VI (.map []) [] := fun i => by simp [has, DataW.atKey, pm.look]
theorem VI.put {D : DataW Unit} {v : List (Int × Int)} {i c : Int} (h : VI D v) (hD : IsMap D) (hi : pm.look v i = none) : VI (D.put (CK i) (.lit (.int .i64 c))) (v ++ [(i, c)]) := by
  intro j
  by_cases e : j = i
  · subst e
    rw [has_put_same hD (by simp [WideAt.IsKeyLit]), atKey_put_same hD (by simp [WideAt.IsKeyLit]), look_new hi]; simp
  · rw [has_put_other (CK_ne e), atKey_put_other (CK_ne e), look_old (fun h => e h.symm)]
    exact h j
/-- D has as many keys as v -/
def VG (mb : Nat) (v : List (Int × Int)) : Ob := fun w N => (∃ D, w.ownsMap Try.prog 3 (plainElem (H := Unit) Try.prog 2) mb v.length D ∧ VI D v ∧ Maps.size D = v.length) ∧ ∀ k, N k ↔ k = mb
theorem mapI_keep {w w' : World} {mb n : Nat} {D : DataW Unit} (h : w.ownsMap Try.prog 3 (plainElem (H := Unit) Try.prog 2) mb n D) (hb : w'.heap[mb]? = w.heap[mb]?) : w'.ownsMap Try.prog 3 (plainElem (H := Unit) Try.prog 2) mb n D := by
  obtain ⟨es, clock, hmb, q⟩ := h
  exact ⟨es, clock, hb.trans hmb, q⟩
theorem frG {mb : Nat} {v : List (Int × Int)} : Fr (VG mb v) where
  lt := by
    rintro w N ⟨⟨D, h, _⟩, f⟩ k hk
    rw [(f k).1 hk]; exact h.lt
  keep := by
    rintro w w' N F ⟨⟨D, h, hv⟩, f⟩ k hd
    exact ⟨⟨D, mapI_keep h (k.block mb h.lt (hd mb ((f mb).2 rfl))), hv⟩, f⟩
abbrev BG (p q mb : Nat) (n e : Int) : Obj := .cells #[.pointer (some ⟨p, 0, none⟩), .pointer (some ⟨q, 0, none⟩), .map (some mb), .int .i64 n, .int .i64 e] 95 (0, 0)
def GB (p q mb gb : Nat) (l : List Int) (m : Int) (a : List ByteArray) (g : G) : Ob := Tim (HB RH p l m) (Tim (RO q a) (Tim (VG mb g.v) (Blk gb (BG p q mb g.n g.e))))
theorem frGB {p q mb gb : Nat} {l : List Int} {m : Int} {a : List ByteArray} {g : G} : Fr (GB p q mb gb l m a g) := frHB.tim (frR.tim (frG.tim (Fr.blk _ _)))
section
variable {w w' : World} {p q mb gb : Nat} {l : List Int} {m : Int} {a : List ByteArray} {g : G} {N : Nat → Prop}
theorem GB.blk (h : GB p q mb gb l m a g w N) : w.heap[gb]? = some (BG p q mb g.n g.e) := by
  obtain ⟨_, _, _, ⟨_, _, _, ⟨_, _, _, b, _⟩, _⟩, _⟩ := h
  exact b.1
theorem GB.cells (h : GB p q mb gb l m a g w N) : (w.cell? ⟨gb, 0, none⟩ = some (.pointer (some ⟨p, 0, none⟩)) ∧ w.cell? ⟨gb, 1, none⟩ = some (.pointer (some ⟨q, 0, none⟩)) ∧ w.cell? ⟨gb, 2, none⟩ = some (.map (some mb)) ∧ w.cell? ⟨gb, 3, none⟩ = some (.int .i64 g.n) ∧ w.cell? ⟨gb, 4, none⟩ = some (.int .i64 g.e)) ∧ w.frozen? ⟨gb, 3, none⟩ = false ∧ w.frozen? ⟨gb, 4, none⟩ = false := by
  have := h.blk
  refine ⟨⟨?_, ?_, ?_, ?_, ?_⟩, ?_, ?_⟩ <;> simp [World.cell?, World.frozen?, this]
theorem GB.keep (h : GB p q mb gb l m a g w N) (b : Below w.heap.size w w') : GB p q mb gb l m a g w' N := frGB.below h b
/-- the getter's own block turns -/
theorem GB.turn (h : GB p q mb gb l m a g w N) {g' : G} (hv : g'.v = g.v) (hk : kp.Keep (fun k => k = gb) w w') (hb : w'.heap[gb]? = some (BG p q mb g'.n g'.e)) : GB p q mb gb l m a g' w' N ∧ kp.Keep N w w' := by
  obtain ⟨K1, M1, h1, ⟨K2, M2, h2, ⟨K3, M3, h3, h4, d3, e3⟩, d2, e2⟩, d1, e1⟩ := h
  have g3 : M3 gb := (h4.2 gb).2 rfl
  have g2 : M2 gb := (e3 gb).2 (Or.inr g3)
  have g1 : M1 gb := (e2 gb).2 (Or.inr g2)
  refine ⟨⟨K1, M1, frHB.keep h1 hk (fun k hk1 e => d1 k hk1 (by rw [e]; exact g1)), ⟨K2, M2, frR.keep h2 hk (fun k hk2 e => d2 k hk2 (by rw [e]; exact g2)), ⟨K3, M3, ?_, ⟨hb, h4.2⟩, d3, e3⟩, d2, e2⟩, d1, e1⟩, hk.mono fun i hi => by rw [hi]; exact (e1 gb).2 (Or.inr g1)⟩
  rw [hv]
  exact frG.keep h3 hk (fun k hk3 e => d3 k hk3 (by rw [e]; exact g3))
theorem GB.setN (h : GB p q mb gb l m a g w N) (n : Nat) : GB p q mb gb l m a ⟨n, g.v, g.e⟩ (w.setCell ⟨gb, 3, none⟩ (.int .i64 n)) N ∧ kp.Keep N w (w.setCell ⟨gb, 3, none⟩ (.int .i64 n)) :=
  h.turn (g' := ⟨n, g.v, g.e⟩) rfl (Keep.setCell (F := fun k => k = gb) w (p := ⟨gb, 3, none⟩) rfl _) (by simp [World.setCell, h.blk, Array.getElem?_modify])
theorem GB.setE (h : GB p q mb gb l m a g w N) (e : Int) : GB p q mb gb l m a ⟨g.n, g.v, e⟩ (w.setCell ⟨gb, 4, none⟩ (.int .i64 e)) N ∧ kp.Keep N w (w.setCell ⟨gb, 4, none⟩ (.int .i64 e)) :=
  h.turn (g' := ⟨g.n, g.v, e⟩) rfl (Keep.setCell (F := fun k => k = gb) w (p := ⟨gb, 4, none⟩) rfl _) (by simp [World.setCell, h.blk, Array.getElem?_modify])
theorem GB.heap (h : GB p q mb gb l m a g w N) : ∃ F, Hp RH w p F l m := by
  obtain ⟨K1, M1, h1, _⟩ := h
  exact ⟨K1, h1⟩
theorem GB.ref (h : GB p q mb gb l m a g w N) : ∃ F, Ref w q F a := by
  obtain ⟨K1, M1, h1, ⟨K2, M2, h2, _⟩, _⟩ := h
  exact ⟨K2, h2⟩
theorem ref_cell {F : Nat → Prop} (h : Ref w q F a) : ∃ b c, w.cell? ⟨q, 0, none⟩ = some (.slice b a.length c) ∧ a.length ≤ c ∧ ∀ k, k < a.length → ∃ gg, b = some ⟨gg, 0, none⟩ ∧ w.cell? ⟨gg, k, none⟩ = some (.string (a.getD k ByteArray.empty)) := by
  obtain ⟨v, hp, hr, h2, hF⟩ := h
  obtain ⟨c0, _⟩ := atm.one_cell hp
  obtain ⟨b, c, rfl⟩ := kp.shape hr
  have hcap : a.length ≤ c := by
    rcases hr.2 with ⟨e1, e0⟩ | ⟨g, cap, cur, e, _, _, hc, _⟩
    · rw [e0]; exact Nat.zero_le _
    · injection e with _ _ e; omega
  refine ⟨b, c, c0, hcap, fun k hk => ?_⟩
  rcases hr.2 with ⟨_, e0⟩ | ⟨g, cap, cur, e, _, _, hc, _⟩
  · omega
  · injection e with e
    subst e
    have e2 := hr.cellAt k (by omega)
    refine ⟨g, rfl, e2.trans ?_⟩
    simp [List.getD, hk]
set_option maxRecDepth 100000 in
set_option maxHeartbeats 1000000 in
theorem rname_any (h : GB p q mb gb l m a g w N) (n : Int) (h0 : 0 ≤ n) (h1 : n < 2305843009213693952) (ha : a.length ≤ 5000) :
    Calls Try.prog 72 #[.pointer (some ⟨gb, 0, none⟩), .int .u64 n] w fun e w' => e = .returned (.string (if n < a.length then a.getD n.toNat ByteArray.empty else ⟨#[]⟩)) ∧ GB p q mb gb l m a ⟨g.n, g.v, if n < a.length then g.e else 2⟩ w' N ∧ kp.Keep N w w' := by
  obtain ⟨F, hr⟩ := h.ref
  obtain ⟨b, c, q0, hcap, hat⟩ := ref_cell hr
  obtain ⟨⟨c0, c1, c2, c3, c4⟩, f3, f4⟩ := h.cells
  have hal : IntKind.u64.wrap (a.length : Int) = a.length := by rw [IntKind.wrap_u64]; omega
  by_cases hlt : n < a.length
  · obtain ⟨k, rfl⟩ := Int.eq_ofNat_of_zero_le h0
    have hk : k < a.length := by omega
    obtain ⟨gg, rfl, hcell⟩ := hat k hk
    have E1 := Lib.hid (show (if (k : Int) < a.length then a.getD (k : Int).toNat ByteArray.empty else ⟨#[]⟩) = a.getD k ByteArray.empty by rw [if_pos hlt]; rfl)
    have E2 := Lib.hid (show (if (k : Int) < (a.length : Int) then g.e else 2) = g.e by rw [if_pos hlt])
    have H := Lib.hid h
    rw [E1.out, E2.out]
    generalize a.getD k ByteArray.empty = sN at *
    clear hat hr h h1
    go_enter Try.func72, Try.ntmps72
    go_wp2_with fail
    go_ret
    exact ⟨rfl, H.out, Keep.refl _ _⟩
  · have E1 := Lib.hid (show (if n < a.length then a.getD n.toNat ByteArray.empty else (⟨#[]⟩ : ByteArray)) = ⟨#[]⟩ by rw [if_neg hlt])
    have E2 := Lib.hid (show (if n < (a.length : Int) then g.e else 2) = 2 by rw [if_neg hlt])
    have hge : decide (n ≥ (a.length : Int)) = true := by simp; omega
    have H := Lib.hid (h.setE 2)
    rw [E1.out, E2.out]
    clear hat hr h h0 h1 ha hcap
    go_enter Try.func72, Try.ntmps72
    go_wp2_with fail
    go_ret
    exact ⟨rfl, H.out.1, H.out.2⟩
end
end Go.Proofs.Ytibepkljcofpdaa.rgt
