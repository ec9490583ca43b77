/- The reference's getter as an object: heap, names, places' numbers, its own block; its function name. The reference's get, where no more is told. Lemmas of get's arms. -/
import Derived.Test.YtickdmfcdfocmaaRPutA
import Derived.Test.YtickdmfcdfocmaaPutM
import Derived.Test.YtickdmfcdfocmaaHeap
import Derived.Test.YtickdmfcdfocmaaPl
import Derived.Deep.DeepCutAuto
import Derived.Deep.CutBlock
import Derived.BigRegion
import Derived.RegionTactic
import Derived.LoopTactic
import Derived.Deep.LoopGhost
namespace Go.Proofs.Ytickdmfcdfocmaa.rgt
set_option linter.unusedVariables false
open Go.ChangeShapes Go.WideShapes Go.ChangeAt Go.RowKit Go.Maps
open Go.Proofs.Ytickdmfcdfocmaa.hp Go.Proofs.Ytickdmfcdfocmaa.cel Go.Proofs.Ytickdmfcdfocmaa.kp Go.Proofs.Ytickdmfcdfocmaa.ob Go.Proofs.Ytickdmfcdfocmaa.pm Go.Proofs.Ytickdmfcdfocmaa.tm Go.Proofs.Ytickdmfcdfocmaa.rpt
open Go.Proofs.Ytickdmfcdfocmaa.atm (Ref)
theorem lawI : Keyed Try.prog 3 := int_keyed Try.underlying3
theorem zeroI (w : World) : (zeroValue 2).run Try.prog w = .ok (.int .i64 0) w := by kernel_rfl
def VI (D : DataW Unit) (v : List (Int × Int)) : Prop := ∀ i : Int, has D (CK i) = (pm.look v i).isSome ∧ D.atKey (CK i) (.lit (.int .i64 0)) = .lit (.int .i64 ((pm.look v i).getD 0))
theorem VI.nil : VI (.map []) [] := fun i => by simp [has, DataW.atKey, pm.look]
theorem VI.put {D : DataW Unit} {v : List (Int × Int)} {i c : Int} (h : VI D v) (hD : IsMap D) (hi : pm.look v i = none) : VI (D.put (CK i) (.lit (.int .i64 c))) (v ++ [(i, c)]) := by
  intro j
  by_cases e : j = i
  · subst e
    rw [has_put_same hD (by simp [WideAt.IsKeyLit]), atKey_put_same hD (by simp [WideAt.IsKeyLit]), look_new hi]; simp
  · rw [has_put_other (CK_ne e), atKey_put_other (CK_ne e), look_old (fun h => e h.symm)]
    exact h j
/-- D has as many keys as v -/
def VG (mb : Nat) (v : List (Int × Int)) : Ob := fun w N => (∃ D, w.ownsMap Try.prog 3 (plainElem (H := Unit) Try.prog 2) mb v.length D ∧ VI D v ∧ Maps.size D = v.length) ∧ ∀ k, N k ↔ k = mb
theorem mapI_keep {w w' : World} {mb n : Nat} {D : DataW Unit} (h : w.ownsMap Try.prog 3 (plainElem (H := Unit) Try.prog 2) mb n D) (hb : w'.heap[mb]? = w.heap[mb]?) : w'.ownsMap Try.prog 3 (plainElem (H := Unit) Try.prog 2) mb n D := by
  obtain ⟨es, clock, hmb, q⟩ := h
  exact ⟨es, clock, hb.trans hmb, q⟩
theorem frG {mb : Nat} {v : List (Int × Int)} : Fr (VG mb v) where
  lt := by
    rintro w N ⟨⟨D, h, _⟩, f⟩ k hk
    rw [(f k).1 hk]; exact h.lt
  keep := by
    rintro w w' N F ⟨⟨D, h, hv⟩, f⟩ k hd
    exact ⟨⟨D, mapI_keep h (k.block mb h.lt (hd mb ((f mb).2 rfl))), hv⟩, f⟩
abbrev BG (p q mb : Nat) (n e : Int) : Obj := .cells #[.pointer (some ⟨p, 0, none⟩), .pointer (some ⟨q, 0, none⟩), .map (some mb), .int .i64 n, .int .i64 e] 111 (0, 0)
/-- the blocks that a getter turns -/
abbrev NG (gb mb : Nat) : Nat → Prop := fun k => k = gb ∨ k = mb
def GB (p q mb gb : Nat) (l : List Int) (m : Int) (a : List ByteArray) (g : G) : Ob := Tim (HB RH p l m) (Tim (RO q a) (Tim (VG mb g.v) (Blk gb (BG p q mb g.n g.e))))
theorem frGB {p q mb gb : Nat} {l : List Int} {m : Int} {a : List ByteArray} {g : G} : Fr (GB p q mb gb l m a g) := frHB.tim (frR.tim (frG.tim (Fr.blk _ _)))
section
variable {w w' : World} {p q mb gb : Nat} {l : List Int} {m : Int} {a : List ByteArray} {g : G} {N : Nat → Prop}
theorem GB.blk (h : GB p q mb gb l m a g w N) : w.heap[gb]? = some (BG p q mb g.n g.e) := by
  obtain ⟨_, _, _, ⟨_, _, _, ⟨_, _, _, b, _⟩, _⟩, _⟩ := h
  exact b.1
theorem GB.cells (h : GB p q mb gb l m a g w N) : (w.cell? ⟨gb, 0, none⟩ = some (.pointer (some ⟨p, 0, none⟩)) ∧ w.cell? ⟨gb, 1, none⟩ = some (.pointer (some ⟨q, 0, none⟩)) ∧ w.cell? ⟨gb, 2, none⟩ = some (.map (some mb)) ∧ w.cell? ⟨gb, 3, none⟩ = some (.int .i64 g.n) ∧ w.cell? ⟨gb, 4, none⟩ = some (.int .i64 g.e)) ∧ w.frozen? ⟨gb, 3, none⟩ = false ∧ w.frozen? ⟨gb, 4, none⟩ = false := by
  have := h.blk
  refine ⟨⟨?_, ?_, ?_, ?_, ?_⟩, ?_, ?_⟩ <;> simp [World.cell?, World.frozen?, this]
theorem GB.keep (h : GB p q mb gb l m a g w N) (b : Below w.heap.size w w') : GB p q mb gb l m a g w' N := frGB.below h b
theorem GB.ngs (h : GB p q mb gb l m a g w N) : gb < w.heap.size ∧ mb < w.heap.size := by
  obtain ⟨_, _, _, ⟨_, _, _, ⟨_, _, ⟨⟨D, hD, _⟩, _⟩, b, _⟩, _⟩, _⟩ := h
  exact ⟨(Array.getElem?_eq_some_iff.1 b.1).1, hD.lt⟩
/-- the getter's own block turns -/
theorem GB.turn (h : GB p q mb gb l m a g w N) {g' : G} (hv : g'.v = g.v) (hk : kp.Keep (fun k => k = gb) w w') (hb : w'.heap[gb]? = some (BG p q mb g'.n g'.e)) : GB p q mb gb l m a g' w' N ∧ kp.Keep (NG gb mb) w w' := by
  obtain ⟨K1, M1, h1, ⟨K2, M2, h2, ⟨K3, M3, h3, h4, d3, e3⟩, d2, e2⟩, d1, e1⟩ := h
  have g3 : M3 gb := (h4.2 gb).2 rfl
  have g2 : M2 gb := (e3 gb).2 (Or.inr g3)
  have g1 : M1 gb := (e2 gb).2 (Or.inr g2)
  refine ⟨⟨K1, M1, frHB.keep h1 hk (fun k hk1 e => d1 k hk1 (by rw [e]; exact g1)), ⟨K2, M2, frR.keep h2 hk (fun k hk2 e => d2 k hk2 (by rw [e]; exact g2)), ⟨K3, M3, ?_, ⟨hb, h4.2⟩, d3, e3⟩, d2, e2⟩, d1, e1⟩, hk.mono fun i hi => Or.inl hi⟩
  rw [hv]
  exact frG.keep h3 hk (fun k hk3 e => d3 k hk3 (by rw [e]; exact g3))
theorem GB.setN (h : GB p q mb gb l m a g w N) (n : Nat) : GB p q mb gb l m a ⟨n, g.v, g.e⟩ (w.setCell ⟨gb, 3, none⟩ (.int .i64 n)) N ∧ kp.Keep (NG gb mb) w (w.setCell ⟨gb, 3, none⟩ (.int .i64 n)) :=
  h.turn (g' := ⟨n, g.v, g.e⟩) rfl (Keep.setCell (F := fun k => k = gb) w (p := ⟨gb, 3, none⟩) rfl _) (by simp [World.setCell, h.blk, Array.getElem?_modify])
theorem GB.setE (h : GB p q mb gb l m a g w N) (e : Int) : GB p q mb gb l m a ⟨g.n, g.v, e⟩ (w.setCell ⟨gb, 4, none⟩ (.int .i64 e)) N ∧ kp.Keep (NG gb mb) w (w.setCell ⟨gb, 4, none⟩ (.int .i64 e)) :=
  h.turn (g' := ⟨g.n, g.v, e⟩) rfl (Keep.setCell (F := fun k => k = gb) w (p := ⟨gb, 4, none⟩) rfl _) (by simp [World.setCell, h.blk, Array.getElem?_modify])
theorem GB.heap (h : GB p q mb gb l m a g w N) : ∃ F, Hp RH w p F l m := by
  obtain ⟨K1, M1, h1, _⟩ := h
  exact ⟨K1, h1⟩
theorem GB.ref (h : GB p q mb gb l m a g w N) : ∃ F, Ref w q F a := by
  obtain ⟨K1, M1, h1, ⟨K2, M2, h2, _⟩, _⟩ := h
  exact ⟨K2, h2⟩
theorem ref_cell {F : Nat → Prop} (h : Ref w q F a) : ∃ b c, w.cell? ⟨q, 0, none⟩ = some (.slice b a.length c) ∧ a.length ≤ c ∧ ∀ k, k < a.length → ∃ gg, b = some ⟨gg, 0, none⟩ ∧ w.cell? ⟨gg, k, none⟩ = some (.string (a.getD k ByteArray.empty)) := by
  obtain ⟨v, hp, hr, h2, hF⟩ := h
  obtain ⟨c0, _⟩ := atm.one_cell hp
  obtain ⟨b, c, rfl⟩ := kp.shape hr
  have hcap : a.length ≤ c := by
    rcases hr.2 with ⟨e1, e0⟩ | ⟨g, cap, cur, e, _, _, hc, _⟩
    · rw [e0]; exact Nat.zero_le _
    · injection e with _ _ e; omega
  refine ⟨b, c, c0, hcap, fun k hk => ?_⟩
  rcases hr.2 with ⟨_, e0⟩ | ⟨g, cap, cur, e, _, _, hc, _⟩
  · omega
  · injection e with e
    subst e
    have e2 := hr.cellAt k (by omega)
    refine ⟨g, rfl, e2.trans ?_⟩
    simp [List.getD, hk]
set_option maxRecDepth 100000 in
set_option maxHeartbeats 1000000 in
theorem rname_any (h : GB p q mb gb l m a g w N) (n : Int) (h0 : 0 ≤ n) (h1 : n < 2305843009213693952) (ha : a.length ≤ 5000) :
    Calls Try.prog 98 #[.pointer (some ⟨gb, 0, none⟩), .int .u64 n] w fun e w' => e = .returned (.string (if n < a.length then a.getD n.toNat ByteArray.empty else ⟨#[]⟩)) ∧ GB p q mb gb l m a ⟨g.n, g.v, if n < a.length then g.e else 2⟩ w' N ∧ kp.Keep (NG gb mb) w w' := by
  obtain ⟨F, hr⟩ := h.ref
  obtain ⟨b, c, q0, hcap, hat⟩ := ref_cell hr
  obtain ⟨⟨c0, c1, c2, c3, c4⟩, f3, f4⟩ := h.cells
  have hal : IntKind.u64.wrap (a.length : Int) = a.length := by rw [IntKind.wrap_u64]; omega
  by_cases hlt : n < a.length
  · obtain ⟨k, rfl⟩ := Int.eq_ofNat_of_zero_le h0
    have hk : k < a.length := by omega
    obtain ⟨gg, rfl, hcell⟩ := hat k hk
    have E1 := Lib.hid (show (if (k : Int) < a.length then a.getD (k : Int).toNat ByteArray.empty else ⟨#[]⟩) = a.getD k ByteArray.empty by rw [if_pos hlt]; rfl)
    have E2 := Lib.hid (show (if (k : Int) < (a.length : Int) then g.e else 2) = g.e by rw [if_pos hlt])
    have H := Lib.hid h
    rw [E1.out, E2.out]
    generalize a.getD k ByteArray.empty = sN at *
    clear hat hr h h1
    go_enter Try.func98, Try.ntmps98
    go_wp2_with fail
    go_ret
    exact ⟨rfl, H.out, Keep.refl _ _⟩
  · have E1 := Lib.hid (show (if n < a.length then a.getD n.toNat ByteArray.empty else (⟨#[]⟩ : ByteArray)) = ⟨#[]⟩ by rw [if_neg hlt])
    have E2 := Lib.hid (show (if n < (a.length : Int) then g.e else 2) = 2 by rw [if_neg hlt])
    have hge : decide (n ≥ (a.length : Int)) = true := by simp; omega
    have H := Lib.hid (h.setE 2)
    rw [E1.out, E2.out]
    clear hat hr h h0 h1 ha hcap
    go_enter Try.func98, Try.ntmps98
    go_wp2_with fail
    go_ret
    exact ⟨rfl, H.out.1, H.out.2⟩
end
end Go.Proofs.Ytickdmfcdfocmaa.rgt
namespace Go.Proofs.Ytickdmfcdfocmaa.rgt
set_option linter.unusedVariables false
open Go.ChangeShapes Go.WideShapes Go.ChangeAt Go.RowKit Go.Maps
open Go.Proofs.Ytickdmfcdfocmaa.hp Go.Proofs.Ytickdmfcdfocmaa.cel Go.Proofs.Ytickdmfcdfocmaa.kp Go.Proofs.Ytickdmfcdfocmaa.ob Go.Proofs.Ytickdmfcdfocmaa.pm Go.Proofs.Ytickdmfcdfocmaa.tm Go.Proofs.Ytickdmfcdfocmaa.rpt Go.Proofs.Ytickdmfcdfocmaa.lie Go.Proofs.Ytickdmfcdfocmaa.cur Go.Proofs.Ytickdmfcdfocmaa.pla Go.Proofs.Ytickdmfcdfocmaa.pln Go.Proofs.Ytickdmfcdfocmaa.wlk
def GetsR (p q mb gb : Nat) (l : List Int) (m : Int) (a : List ByteArray) (r : Nat) (c : Int) (g : G) (w : World) (N : Nat → Prop) (e : Ending) (w' : World) : Prop :=
  ∃ t' k nn i re im aa len cc, e = .returned (.agg #[.int .i64 k, .string nn, .int .i64 i, .int .u64 re, .int .u64 im, .slice aa len cc]) ∧ Lies (Old w) w' t' (.agg #[.int .i64 k, .string nn, .int .i64 i, .int .u64 re, .int .u64 im, .slice aa len cc]) ∧ ((pm.get l a r c g).2.e = 0 → t' = (pm.get l a r c g).1) ∧ GB p q mb gb l m a (pm.get l a r c g).2 w' N ∧ kp.Keep (NG gb mb) w w'
/-- behind w, with the answer's place rv -/
structure GX (p q mb gB : Nat) (l : List Int) (m : Int) (a : List ByteArray) (g : G) (w : World) (N : Nat → Prop) (wr : World) : Prop where
  gb : GB p q mb gB l m a g wr N
  keep : kp.Keep (NG gB mb) w wr
  zt : wr.heap[w.heap.size]? = some ZT
  lt : ∀ k, N k → k < w.heap.size
  ng : gB < w.heap.size ∧ mb < w.heap.size
section
variable {w wr w' : World} {p q mb gb : Nat} {l : List Int} {m : Int} {a : List ByteArray} {g g' : G} {N : Nat → Prop} {r : Nat} {c : Int}
theorem GX.start (h : GB p q mb gb l m a g w N) : GX p q mb gb l m a g w N (w.alloc ZT) :=
  ⟨h.keep (kp.ba w ZT), Keep.of_below (kp.ba w ZT), alloc_at w ZT, frGB.lt h, h.ngs⟩
theorem GX.step (h : GX p q mb gb l m a g w N wr) (hg : GB p q mb gb l m a g' w' N) (k : kp.Keep (NG gb mb) wr w') : GX p q mb gb l m a g' w N w' :=
  ⟨hg, h.keep.trans k fun _ => Or.inl, (k.block _ (Array.getElem?_eq_some_iff.1 h.zt).1 (fun hn => by have := h.ng; rcases hn with e | e <;> omega)).trans h.zt, h.lt, h.ng⟩
theorem GX.below (h : GX p q mb gb l m a g w N wr) (b : Below wr.heap.size wr w') : GX p q mb gb l m a g w N w' := h.step (h.gb.keep b) (Keep.of_below b)
theorem GX.setN (h : GX p q mb gb l m a g w N wr) (n : Nat) : GX p q mb gb l m a ⟨n, g.v, g.e⟩ w N (wr.setCell ⟨gb, 3, none⟩ (.int .i64 n)) := h.step (h.gb.setN n).1 (h.gb.setN n).2
theorem GX.setE (h : GX p q mb gb l m a g w N wr) (e : Int) : GX p q mb gb l m a ⟨g.n, g.v, e⟩ w N (wr.setCell ⟨gb, 4, none⟩ (.int .i64 e)) := h.step (h.gb.setE e).1 (h.gb.setE e).2
/-- the answer is stored: the end -/
theorem GX.fin (h : GX p q mb gb l m a g' w N wr) (v0 v1 v2 v3 v4 v5 : Value) {W : World} (k6 : kp.Keep (fun i => i = w.heap.size) wr W) (hget : (pm.get l a r c g).2 = g') {k : Int} {nn : ByteArray} {i re im : Int} {aa : Option Addr} {len cc : Nat} {t' : Tm}
    (hl : Lies (Old w) W t' (.agg #[.int .i64 k, .string nn, .int .i64 i, .int .u64 re, .int .u64 im, .slice aa len cc])) (ht : g'.e = 0 → t' = (pm.get l a r c g).1) :
    GetsR p q mb gb l m a r c g w N (.returned (.agg #[.int .i64 k, .string nn, .int .i64 i, .int .u64 re, .int .u64 im, .slice aa len cc])) W := by
  refine ⟨t', k, nn, i, re, im, aa, len, cc, rfl, hl, by rw [hget]; exact ht, ?_, h.keep.trans k6 fun j hj => Or.inr (by rw [hj]; exact Nat.le_refl _)⟩
  rw [hget]
  exact frGB.keep h.gb k6 fun j hj e => by have := h.lt j hj; omega
theorem zero_lies2 (X : Nat → Prop) (W : World) : Lies X W zero (.agg #[.int .i64 0, .string ⟨#[]⟩, .int .i64 0, .int .u64 0, .int .u64 0, .slice none 0 0]) := zero_lies X W
set_option maxRecDepth 100000 in
set_option maxHeartbeats 1000000 in
theorem rget_err (h : GB p q mb gb l m a g w N) (he : g.e ≠ 0) (d : Int) : Calls Try.prog 63 #[.pointer (some ⟨gb, 0, none⟩), .int .u64 c, .int .i64 d] w (GetsR p q mb gb l m a r c g w N) := by
  have X1 := Lib.hid (GX.start h)
  obtain ⟨⟨c0, c1, c2, c3, c4⟩, f3, f4⟩ := X1.out.gb.cells
  have hget := Lib.hid (show pm.get l a r c g = (zero, g) by cases r with | zero => rw [pm.get, if_neg he] | succ r => rw [pm.get, if_neg he])
  have HE := Lib.hid he
  have hb : (g.e != 0) = true := by simpa using he
  clear h he
  go_enter Try.func63, Try.ntmps63
  go_wp2_with fail
  obtain ⟨⟨e0, e1, e2, e3, e4, e5⟩, _⟩ := blk_facts X1.out.zt
  exact bodyPost_ret (v := .agg #[.int .i64 0, .string ⟨#[]⟩, .int .i64 0, .int .u64 0, .int .u64 0, .slice none 0 0]) (by simp [results, Try.results63, go_sem, e0, e1, e2, e3, e4, e5]) rfl (X1.out.fin (.int .i64 0) (.string ⟨#[]⟩) (.int .i64 0) (.int .u64 0) (.int .u64 0) (.slice none 0 0) (Keep.refl _ _) (by rw [hget.out]) (zero_lies2 _ _) (fun h => absurd h HE.out))
set_option maxRecDepth 100000 in
set_option maxHeartbeats 1000000 in
theorem rget_long (h : GB p q mb gb l m a g w N) (he : g.e = 0) (hn : g.n ≤ 1000000) (hr : r ≤ 500) (hl : 2000 ≤ g.n ∨ r = 0) : Calls Try.prog 63 #[.pointer (some ⟨gb, 0, none⟩), .int .u64 c, .int .i64 (501 - (r : Int))] w (GetsR p q mb gb l m a r c g w N) := by
  obtain ⟨w1, hw1⟩ : ∃ w1, w1 = w.alloc ZT := ⟨_, rfl⟩
  have X1 := Lib.hid (show GX p q mb gb l m a g w N w1 by rw [hw1]; exact GX.start h)
  have hget := Lib.hid (show pm.get l a r c g = (zero, ⟨g.n + 1, g.v, 3⟩) by
    cases r with
    | zero => rw [pm.get, if_pos he]
    | succ r => rw [pm.get, if_pos he, if_pos (hl.resolve_right (by omega))])
  have HL := Lib.hid hl
  have HW1 := Lib.hid hw1
  have HE := Lib.hid he
  have hcase : (2000 < (g.n : Int) + 1) ∨ (¬ 2000 < (g.n : Int) + 1 ∧ 500 < 501 - (r : Int)) := by omega
  have HCS := Lib.hid hcase
  clear h he hl hw1 hcase
  go_enter Try.func63, Try.ntmps63
  go_upto_region 1 with fail
  change Code.wp _ _ _ _ (w.alloc ZT)
  rw [← HW1.out]
  obtain ⟨⟨c0, c1, c2, c3, c4⟩, f3, f4⟩ := X1.out.gb.cells
  rw [HE.out] at c4
  go_upto_region 4 with fail
  obtain ⟨w2, hw2⟩ : ∃ w2, w2 = w1.setCell ⟨gb, 3, none⟩ (.int .i64 ((g.n : Int) + 1)) := ⟨_, rfl⟩
  have X2 := Lib.hid (show GX p q mb gb l m a ⟨g.n + 1, g.v, g.e⟩ w N w2 by rw [hw2]; exact X1.out.setN (g.n + 1))
  rw [← hw2]
  clear hw2 c0 c1 c2 c3 c4 f3 f4 X1
  obtain ⟨⟨c0, c1, c2, c3, c4⟩, f3, f4⟩ := X2.out.gb.cells
  dsimp only at c3 c4
  rw [HE.out] at c4
  rcases HCS.out with h1 | ⟨h1, h2⟩
  · go_upto_region 6 with fail
    obtain ⟨w3, hw3⟩ : ∃ w3, w3 = w2.setCell ⟨gb, 4, none⟩ (.int .i64 3) := ⟨_, rfl⟩
    have X3 := Lib.hid (show GX p q mb gb l m a ⟨g.n + 1, g.v, 3⟩ w N w3 by rw [hw3]; exact X2.out.setE 3)
    rw [← hw3]
    clear hw3 c0 c1 c2 c3 c4 f3 f4 X2
    obtain ⟨⟨z0, z1, z2, z3, z4, z5⟩, y0, y1, y2, y3, y4, y5⟩ := blk_facts X3.out.zt
    go_wp2_with fail
    obtain ⟨W, hW, e0, e1, e2, e3, e4, e5, k6⟩ := res_fin X3.out.zt (.int .i64 0) (.string ⟨#[]⟩) (.int .i64 0) (.int .u64 0) (.int .u64 0) (.slice none 0 0)
    rw [hW]
    exact bodyPost_ret (v := .agg #[.int .i64 0, .string ⟨#[]⟩, .int .i64 0, .int .u64 0, .int .u64 0, .slice none 0 0]) (by simp [results, Try.results63, go_sem, e0, e1, e2, e3, e4, e5]) rfl (X3.out.fin (.int .i64 0) (.string ⟨#[]⟩) (.int .i64 0) (.int .u64 0) (.int .u64 0) (.slice none 0 0) k6 (by rw [hget.out]) (zero_lies2 _ _) (fun h => absurd h (show ¬ (3 : Int) = 0 by decide)))
  · go_upto_region 6 with fail
    obtain ⟨w3, hw3⟩ : ∃ w3, w3 = w2.setCell ⟨gb, 4, none⟩ (.int .i64 3) := ⟨_, rfl⟩
    have X3 := Lib.hid (show GX p q mb gb l m a ⟨g.n + 1, g.v, 3⟩ w N w3 by rw [hw3]; exact X2.out.setE 3)
    rw [← hw3]
    clear hw3 c0 c1 c2 c3 c4 f3 f4 X2
    obtain ⟨⟨z0, z1, z2, z3, z4, z5⟩, y0, y1, y2, y3, y4, y5⟩ := blk_facts X3.out.zt
    go_wp2_with fail
    obtain ⟨W, hW, e0, e1, e2, e3, e4, e5, k6⟩ := res_fin X3.out.zt (.int .i64 0) (.string ⟨#[]⟩) (.int .i64 0) (.int .u64 0) (.int .u64 0) (.slice none 0 0)
    rw [hW]
    exact bodyPost_ret (v := .agg #[.int .i64 0, .string ⟨#[]⟩, .int .i64 0, .int .u64 0, .int .u64 0, .slice none 0 0]) (by simp [results, Try.results63, go_sem, e0, e1, e2, e3, e4, e5]) rfl (X3.out.fin (.int .i64 0) (.string ⟨#[]⟩) (.int .i64 0) (.int .u64 0) (.int .u64 0) (.slice none 0 0) k6 (by rw [hget.out]) (zero_lies2 _ _) (fun h => absurd h (show ¬ (3 : Int) = 0 by decide)))
end
end Go.Proofs.Ytickdmfcdfocmaa.rgt
namespace Go.Proofs.Ytickdmfcdfocmaa.rgt
set_option linter.unusedVariables false
open Go.ChangeShapes Go.WideShapes Go.ChangeAt Go.RowKit Go.Maps
open Go.Proofs.Ytickdmfcdfocmaa.hp Go.Proofs.Ytickdmfcdfocmaa.cel Go.Proofs.Ytickdmfcdfocmaa.kp Go.Proofs.Ytickdmfcdfocmaa.ob Go.Proofs.Ytickdmfcdfocmaa.pm Go.Proofs.Ytickdmfcdfocmaa.tm Go.Proofs.Ytickdmfcdfocmaa.rpt Go.Proofs.Ytickdmfcdfocmaa.lie Go.Proofs.Ytickdmfcdfocmaa.cur Go.Proofs.Ytickdmfcdfocmaa.pla Go.Proofs.Ytickdmfcdfocmaa.pln Go.Proofs.Ytickdmfcdfocmaa.wlk
theorem rInt_any (n : Int) (w : World) :
    Calls Try.prog 99 #[.int .i64 n] w fun e w' => e = .returned (.agg #[.int .i64 3, .string ⟨#[]⟩, .int .i64 n, .int .u64 0, .int .u64 0, .slice none 0 0]) ∧ Below w.heap.size w w' := by
  go_enter Try.func99, Try.ntmps99
  go_wp2_with fail
  exact bodyPost_ret (v := .agg #[.int .i64 3, .string ⟨#[]⟩, .int .i64 n, .int .u64 0, .int .u64 0, .slice none 0 0]) (by simp [results, Try.results99, go_sem]) rfl ⟨rfl, ba w _⟩
theorem int_lies (X : Nat → Prop) (i : Int) (w : World) (h0 : I64 i) : Lies X w (.mk 3 tm.E i 0 0 []) (.agg #[.int .i64 3, .string ⟨#[]⟩, .int .i64 i, .int .u64 0, .int .u64 0, .slice none 0 0]) := by
  rw [Lies]
  exact ⟨none, 0, rfl, ⟨by decide, by decide, by decide, h0.1, h0.2, by decide, by decide, by decide, by decide, Nat.le_refl _, by decide⟩, by rw [TRow]; trivial⟩
theorem cpx_lies (X : Nat → Prop) (re im : Int) (w : World) (hr : W64 re) (hi : W64 im) : Lies X w (.mk 4 tm.E 0 re im []) (.agg #[.int .i64 4, .string ⟨#[]⟩, .int .i64 0, .int .u64 re, .int .u64 im, .slice none 0 0]) := by
  rw [Lies]
  exact ⟨none, 0, rfl, ⟨by decide, by decide, by decide, by decide, by decide, hr.1, by have := hr.2; omega, hi.1, by have := hi.2; omega, Nat.le_refl _, by decide⟩, by rw [TRow]; trivial⟩
theorem sg_i {d : Int} (h : W64 d) : I64 (sg d) := by obtain ⟨h0, h1⟩ := h; unfold sg wrap64 I64; omega
theorem get_succ {l : List Int} {a : List ByteArray} {r : Nat} {c d : Int} {g : G} (he : g.e = 0) (hn : ¬ 2000 ≤ g.n) (hd : d = dr l l.length c) : pm.get l a (r + 1) c g =
      if d % 8 = 0 then (if gb l (d / 8) = true ∧ gv l (d / 8) = d then
          (match pm.look g.v (d / 8) with
            | some k => (var k, ⟨g.n + 1, g.v, 0⟩)
            | none => (var g.v.length, ⟨g.n + 1, g.v ++ [(d / 8, (g.v.length : Int))], 0⟩))
        else (zero, ⟨g.n + 1, g.v, 2⟩))
      else if d % 8 = 2 then (if d / 8 < a.length then (atom (a.getD (d / 8).toNat ByteArray.empty), ⟨g.n + 1, g.v, 0⟩) else (zero, ⟨g.n + 1, g.v, 2⟩))
      else if d % 8 = 3 then (.mk 3 tm.E (sg d) 0 0 [], ⟨g.n + 1, g.v, 0⟩)
      else if d % 8 = 4 then (if gb l (d / 8) = true then (.mk 3 tm.E (wrap64 (gv l (d / 8))) 0 0 [], ⟨g.n + 1, g.v, 0⟩) else (zero, ⟨g.n + 1, g.v, 2⟩))
      else if d % 8 = 5 then (if gb l (d / 8) = true ∧ gb l (d / 8 + 1) = true then (.mk 4 tm.E 0 (gv l (d / 8)) (gv l (d / 8 + 1)) [], ⟨g.n + 1, g.v, 0⟩) else (zero, ⟨g.n + 1, g.v, 2⟩))
      else if d % 8 = 1 ∧ fok l (d / 8) = true then
        (if gv l (d / 8) / 8 / 256 < a.length then
          (match getL (pm.get l a r) l (gv l (d / 8) / 8 % 256).toNat ((d / 8).toNat + 1) ⟨g.n + 1, g.v, 0⟩ with
            | (ts, g2) => (comp (a.getD (gv l (d / 8) / 8 / 256).toNat ByteArray.empty) ts, g2))
          else (zero, ⟨g.n + 1, g.v, 2⟩))
      else (zero, ⟨g.n + 1, g.v, 2⟩) := by
  subst hd
  rw [pm.get, if_pos he, if_neg hn]
  rfl
theorem getD_mem' {a : List ByteArray} {k : Nat} (h : k < a.length) : a.getD k ByteArray.empty ∈ a := by rw [List.getD_eq_getElem?_getD, List.getElem?_eq_getElem h]; exact List.getElem_mem h
end Go.Proofs.Ytickdmfcdfocmaa.rgt
