/- Package copy's small calls: place, tagged, get, deref, size; the copier beside what it copies from and to, as an object. -/
import Derived.Test.YthableojkjhicaaPPA
import Derived.Test.YthableojkjhicaaCpM
import Derived.Test.YthableojkjhicaaUnB
namespace Go.Proofs.Ythableojkjhicaa.cpy
open Go.ChangeShapes Go.WideShapes Go.ChangeAt Go.RowKit Go.Maps
open Go.Proofs.Ythableojkjhicaa.kp Go.Proofs.Ythableojkjhicaa.cel Go.Proofs.Ythableojkjhicaa.hp Go.Proofs.Ythableojkjhicaa.ob Go.Proofs.Ythableojkjhicaa.tm Go.Proofs.Ythableojkjhicaa.pm
open Go.Proofs.Ythableojkjhicaa.rpt (HB frHB zeroC)
set_option linter.unusedVariables false
/-! ### what was met, in memory -/
abbrev CU (i : Int) : Lit := .int .u64 i
theorem CU_ne {i j : Int} (h : i ≠ j) : CU i ≠ CU j := fun e => h (by injection e)
theorem lawU : Keyed Try.prog 23 := int_keyed Try.underlying23
def VMU (D : DataW Unit) (v : List (Int × Int)) : Prop := ∀ i : Int, has D (CU i) = (pm.look v i).isSome ∧ D.atKey (CU i) (.lit (.int .u64 0)) = .lit (.int .u64 ((pm.look v i).getD 0))
theorem VMU.nil : VMU (.map []) [] := fun i => by simp [has, DataW.atKey, pm.look]
theorem VMU.put {D : DataW Unit} {v : List (Int × Int)} {i c : Int} (h : VMU D v) (hD : IsMap D) (hi : pm.look v i = none) : VMU (D.put (CU i) (.lit (.int .u64 c))) (v ++ [(i, c)]) := by
  intro j
  by_cases e : j = i
  · subst e
    rw [has_put_same hD (by simp [WideAt.IsKeyLit]), atKey_put_same hD (by simp [WideAt.IsKeyLit]), look_new hi]; simp
  · rw [has_put_other (CU_ne e), atKey_put_other (CU_ne e), look_old (fun h => e h.symm)]
    exact h j
def VU (mb : Nat) (v : List (Int × Int)) : Ob := fun w N => (∃ D, w.ownsMap Try.prog 23 (plainElem (H := Unit) Try.prog 23) mb v.length D ∧ VMU D v ∧ Maps.size D = v.length) ∧ ∀ k, N k ↔ k = mb
theorem mapU_keep {w w' : World} {mb n : Nat} {D : DataW Unit} (h : w.ownsMap Try.prog 23 (plainElem (H := Unit) Try.prog 23) mb n D) (hb : w'.heap[mb]? = w.heap[mb]?) : w'.ownsMap Try.prog 23 (plainElem (H := Unit) Try.prog 23) mb n D := by
  obtain ⟨es, clock, hmb, q⟩ := h
  exact ⟨es, clock, hb.trans hmb, q⟩
theorem frVU {mb : Nat} {v : List (Int × Int)} : Fr (VU mb v) where
  lt := by
    rintro w N ⟨⟨D, h, _⟩, f⟩ k hk
    rw [(f k).1 hk]; exact h.lt
  keep := by
    rintro w w' N F ⟨⟨D, h, hv⟩, f⟩ k hd
    exact ⟨⟨D, mapU_keep h (k.block mb h.lt (hd mb ((f mb).2 rfl))), hv⟩, f⟩
theorem sizeU_new {w : World} {mb n : Nat} {D : DataW Unit} {v : List (Int × Int)} {i c : Int} (hD : w.ownsMap Try.prog 23 (plainElem (H := Unit) Try.prog 23) mb n D) (hv : VMU D v) (hi : pm.look v i = none) (hz : Maps.size D = v.length) : Maps.size (D.put (CU i) (.lit (.int .u64 c))) = (v ++ [(i, c)]).length := by
  rw [size_put (hD.tidy lawU), (hv i).1, hi, hz]
  simp
/-! ### where it is copied from and to -/
structure Env (p q : Nat) (l : List Int) (m : Int) (b : Nat) (E : List Int → Ob) : Prop where
  fr : ∀ T, Fr (E T)
  ml : m ≤ 1048576
  ll : l.length ≤ 1048576
  lw : ∀ c ∈ l, W64 c
  get : ∀ {T : List Int} {w : World} {N : Nat → Prop}, E T w N → ∀ n : Nat, n < l.length → Calls Try.prog 85 #[.pointer (some ⟨p, 0, none⟩), .int .i64 (n : Int)] w fun e w' => e = .returned (.tuple #[.int .u64 (l.getD n 0), .bool true]) ∧ w = w'
  len : ∀ {T : List Int} {w : World} {N : Nat → Prop}, E T w N → Calls Try.prog 22 #[.pointer (some ⟨q, 0, none⟩)] w fun e w' => e = .returned (.int .i64 (T.length : Int)) ∧ w = w'
  push : ∀ {T : List Int} {w : World} {N : Nat → Prop}, E T w N → ∀ u : Int, W64 u → (T.length : Int) < m → Calls Try.prog 79 #[.pointer (some ⟨q, 0, none⟩), .int .u64 u] w fun e w' => e = .returned (.tuple #[.int .i64 (T.length : Int), .int .i64 0]) ∧ Nx (E (T ++ [u])) w N w'
  var : ∀ {T : List Int} {w : World} {N : Nat → Prop}, E T w N → (T.length : Int) < m → Calls Try.prog 50 #[.pointer (some ⟨q, 0, none⟩)] w fun e w' => e = .returned (.tuple #[.int .i64 (T.length : Int), .int .i64 0]) ∧ Nx (E (T ++ [(T.length : Int) * 8])) w N w'
  set : ∀ {T : List Int} {w : World} {N : Nat → Prop}, E T w N → ∀ (x : Nat) (c : Int), b ≤ x → x < T.length → W64 c → Calls Try.prog 61 #[.pointer (some ⟨q, 0, none⟩), .int .i64 (x : Int), .int .u64 c] w fun e w' => e = .returned (.bool true) ∧ Nx (E (T.set x c)) w N w'
/-- the copier's block -/
abbrev CPB (p : Nat) (e : Int) (q mb : Nat) (n : Int) : Obj := .cells #[.pointer (some ⟨p, 0, none⟩), .int .i64 e, .pointer (some ⟨q, 0, none⟩), .map (some mb), .int .i64 n] 115 (0, 0)
def CB (E : List Int → Ob) (p q mb pb : Nat) (e : Int) (s : S) (n : Int) : Ob := Tim (E s.h) (Tim (VU mb s.v) (Blk pb (CPB p e q mb n)))
/-- behind w0, beside C -/
def XC (w0 : World) (N : Nat → Prop) (E : List Int → Ob) (p q mb pb : Nat) (e : Int) (s : S) (n : Int) (C : Ob) (wr : World) : Prop := Nx (Tim (CB E p q mb pb e s n) C) w0 N wr
section
variable {E : List Int → Ob} {l : List Int} {m : Int} {b : Nat} {p q mb pb : Nat} {e : Int} {s s' : S} {n n' : Int} {C C' : Ob} {w w0 wr w' : World} {N K : Nat → Prop}
theorem frCB (v : Env p q l m b E) : Fr (CB E p q mb pb e s n) := (v.fr _).tim (frVU.tim (Fr.blk _ _))
theorem XC.below (v : Env p q l m b E) (fC : Fr C) (h : XC w0 N E p q mb pb e s n C wr) (bb : Below wr.heap.size wr w') : XC w0 N E p q mb pb e s n C w' := Nx.below ((frCB v).tim fC) h bb
theorem XC.drew (v : Env p q l m b E) (fC : Fr C) (h : XC w0 N E p q mb pb e s n C wr) : XC w0 N E p q mb pb e s n C wr.drew := h.below v fC (kp.bdr wr)
theorem XC.env (v : Env p q l m b E) (fC : Fr C) (h : XC w0 N E p q mb pb e s n C wr) : ∃ K, E s.h wr K ∧ ∀ T' w', Nx (E T') wr K w' → XC w0 N E p q mb pb e ⟨T', s.a, s.v⟩ n C w' := by
  obtain ⟨K, a, k, sub⟩ := h
  obtain ⟨K1, c, up⟩ := Tim.at1 fC a
  obtain ⟨K2, d, up2⟩ := Tim.at1 (frVU.tim (Fr.blk _ _)) c
  exact ⟨K2, d, fun T' w' nn => Nx.trans k sub (up (CB E p q mb pb e ⟨T', s.a, s.v⟩ n) _ (up2 _ _ nn))⟩
theorem XC.vars (v : Env p q l m b E) (fC : Fr C) (h : XC w0 N E p q mb pb e s n C wr) : ∃ D, wr.ownsMap Try.prog 23 (plainElem (H := Unit) Try.prog 23) mb s.v.length D ∧ VMU D s.v ∧ Maps.size D = s.v.length ∧
    (∀ v' D' w', w'.ownsMap Try.prog 23 (plainElem (H := Unit) Try.prog 23) mb v'.length D' → VMU D' v' → Maps.size D' = v'.length → wr.grownBy w' (some mb) → XC w0 N E p q mb pb e ⟨s.h, s.a, v'⟩ n C w') := by
  obtain ⟨K, a, k, sub⟩ := h
  obtain ⟨K1, c, up⟩ := Tim.at1 fC a
  obtain ⟨K2, d, up2⟩ := Tim.at2 (v.fr _) c
  obtain ⟨K3, ⟨⟨D, hD, hv, hz⟩, hF⟩, up3⟩ := Tim.at1 (Fr.blk _ _) d
  refine ⟨D, hD, hv, hz, fun v' D' w' h1 h2 h3 g => Nx.trans k sub (up (CB E p q mb pb e ⟨s.h, s.a, v'⟩ n) _ (up2 _ _ (up3 (VU mb v') _ ⟨K3, ⟨⟨D', h1, h2, h3⟩, hF⟩, Keep.of_grown g fun k e => (hF k).2 (by injection e with e; exact e.symm), fun _ => Or.inl⟩)))⟩
theorem XC.put (v : Env p q l m b E) (fC : Fr C) (h : XC w0 N E p q mb pb e s n C wr) {D : DataW Unit} (hD : wr.ownsMap Try.prog 23 (plainElem (H := Unit) Try.prog 23) mb s.v.length D) (hv : VMU D s.v) {i c : Int} (hi : pm.look s.v i = none) {w7 : World}
    (hm : w7.ownsMap Try.prog 23 (plainElem (H := Unit) Try.prog 23) mb (s.v.length + 1) (D.put (CU i) (.lit (.int .u64 c)))) (g : wr.grownBy w7 (some mb)) : XC w0 N E p q mb pb e ⟨s.h, s.a, s.v ++ [(i, c)]⟩ n C w7 := by
  obtain ⟨D', hD', hv', hz, up⟩ := h.vars v fC
  have hz2 : Maps.size D = s.v.length := by
    obtain ⟨es, clock, hb, _, _, rfl⟩ := hD
    obtain ⟨es', clock', hb', _, _, rfl⟩ := hD'
    rw [hb] at hb'
    injection hb' with e
    injection e with e _
    subst e
    exact hz
  exact up _ _ w7 (by rw [List.length_append]; exact hm) (hv.put hD.isMap hi) (sizeU_new hD hv hi hz2) g
theorem XC.blk (v : Env p q l m b E) (fC : Fr C) (h : XC w0 N E p q mb pb e s n C wr) : wr.heap[pb]? = some (CPB p e q mb n) ∧ ∀ n' w', kp.Keep (fun i => i = pb) wr w' → w'.heap[pb]? = some (CPB p e q mb n') → XC w0 N E p q mb pb e s n' C w' := by
  obtain ⟨K, a, k, sub⟩ := h
  obtain ⟨K1, c, up⟩ := Tim.at1 fC a
  obtain ⟨K2, d, up2⟩ := Tim.at2 (v.fr _) c
  obtain ⟨K3, g, up3⟩ := Tim.at2 frVU d
  refine ⟨g.1, fun n' w' hk hb => Nx.trans k sub (up (CB E p q mb pb e s n') _ (up2 _ _ (up3 _ _ ⟨K3, ⟨hb, g.2⟩, hk.mono fun i hi => (g.2 i).2 hi, fun _ => Or.inl⟩)))⟩
theorem XC.five (v : Env p q l m b E) (fC : Fr C) (h : XC w0 N E p q mb pb e s n C wr) : (wr.cell? ⟨pb, 0, none⟩ = some (.pointer (some ⟨p, 0, none⟩)) ∧ wr.cell? ⟨pb, 1, none⟩ = some (.int .i64 e) ∧ wr.cell? ⟨pb, 2, none⟩ = some (.pointer (some ⟨q, 0, none⟩)) ∧ wr.cell? ⟨pb, 3, none⟩ = some (.map (some mb)) ∧ wr.cell? ⟨pb, 4, none⟩ = some (.int .i64 n)) ∧ wr.frozen? ⟨pb, 4, none⟩ = false := by
  have h := (h.blk v fC).1
  refine ⟨⟨?_, ?_, ?_, ?_, ?_⟩, ?_⟩ <;> simp [World.cell?, World.frozen?, h]
theorem XC.open2 (v : Env p q l m b E) (h : XC w0 N E p q mb pb e s n C wr) : ∃ M, C wr M ∧ ∀ C' w', Nx C' wr M w' → XC w0 N E p q mb pb e s n C' w' := by
  obtain ⟨K, a, k, sub⟩ := h
  obtain ⟨M, c, up⟩ := Tim.at2 (frCB v) a
  exact ⟨M, c, fun C' w' nn => Nx.trans k sub (up C' w' nn)⟩
theorem XC.imp (h : XC w0 N E p q mb pb e s n C wr) (f : ∀ K, C wr K → C' wr K) : XC w0 N E p q mb pb e s n C' wr := by
  obtain ⟨K, a, k, sub⟩ := h
  exact ⟨K, a.map2 f, k, sub⟩
theorem XC.alloc (v : Env p q l m b E) (fC : Fr C) (h : XC w0 N E p q mb pb e s n C wr) (o : Obj) : XC w0 N E p q mb pb e s n (Tim C (Blk wr.heap.size o)) (wr.alloc o) := by
  obtain ⟨K, a, k, sub⟩ := h
  have f := (frCB (mb := mb) (pb := pb) (e := e) (s := s) (n := n) v).tim fC
  have hlt := f.lt a
  have a2 := f.below a (kp.ba wr o)
  refine ⟨fun i => K i ∨ i = wr.heap.size, Tim.right_ ⟨K, fun i => i = wr.heap.size, a2, ⟨kp.alloc_at wr o, fun _ => Iff.rfl⟩, fun i h1 h2 => by have := hlt i h1; omega, fun _ => Iff.rfl⟩, k.trans (F' := fun _ => False) (Keep.of_below (kp.ba wr o)) (fun _ h => h.elim), fun i hi => ?_⟩
  rcases hi with hi | hi
  · exact sub i hi
  · have := k.size; exact Or.inr (by omega)
/-! ### the calls -/
theorem ctagged_any (t n : Int) (w : World) (h0 : 0 ≤ t) (h1 : t ≤ 6) (h2 : 0 ≤ n) (h3 : n < 2305843009213693952) : Calls Try.prog 132 #[.int .i64 t, .int .i64 n] w fun e w' => e = .returned (.int .u64 (jn t n)) ∧ w = w' := by
  have hm := make_any t n w ⟨by omega, by omega⟩ ⟨h2, by omega⟩
  have e1 : mv t n = jn t n := by unfold mv; rw [if_pos ⟨h0, h1, h3⟩]
  have e2 : mo t n = true := decide_eq_true ⟨h0, h1, h3⟩
  have hcv : IntKind.u64.wrap n = n := by rw [IntKind.wrap_u64]; omega
  rw [e1, e2] at hm
  clear e1 e2
  go_enter Try.func132, Try.ntmps132
  go_wp2_with fail
  refine hm.mono ?_; rintro e w' ⟨rfl, rfl⟩
  go_wp2_with fail
  go_ret
  exact ⟨rfl, rfl⟩
theorem cplace_any (c : Int) (w : World) (h : W64 c) : Calls Try.prog 105 #[.int .u64 c] w fun e w' => e = .returned (.int .i64 (c / 8)) ∧ w = w' := by
  have hv := value_any c w h
  have hcv2 : wrap64 (c / 8) = c / 8 := by obtain ⟨h0, h1⟩ := h; unfold wrap64; omega
  go_enter Try.func105, Try.ntmps105
  go_wp2_with fail
  refine hv.mono ?_; rintro e w' ⟨rfl, rfl⟩
  go_wp2_with fail
  go_ret
  exact ⟨kp.ri hcv2, rfl⟩
theorem cget_any (v : Env p q l m b E) (fC : Fr C) (h : XC w0 N E p q mb pb (l.length : Int) s n C wr) (k : Nat) (hk : k < l.length) :
    Calls Try.prog 77 #[.pointer (some ⟨pb, 0, none⟩), .int .i64 (k : Int)] wr fun e w' => e = .returned (.tuple #[.int .u64 (l.getD k 0), .bool true]) ∧ wr = w' := by
  obtain ⟨⟨c0, c1, c2, c3, c4⟩, f4⟩ := h.five v fC
  obtain ⟨K, hE, _⟩ := h.env v fC
  have hg := v.get hE k hk
  have hge : (decide ((l.length : Int) ≤ (k : Int))) = false := decide_eq_false (by omega)
  have hge2 : (decide ((k : Int) ≥ (l.length : Int))) = false := decide_eq_false (by omega)
  have hlt : ¬ (l.length : Int) ≤ (k : Int) := by omega
  clear h hE v hk
  generalize (l.length : Int) = z at *
  generalize l.getD k 0 = x at *
  generalize (k : Int) = y at *
  go_enter Try.func77, Try.ntmps77
  go_wp2_with fail
  refine hg.mono ?_; rintro e w' ⟨rfl, rfl⟩
  go_wp2_with fail
  go_ret2
  exact ⟨rfl, rfl⟩
/-- what leads nowhere else -/
def Ends1 (l : List Int) (c : Int) : Prop := c % 8 ≠ 0 ∨ ∃ k : Nat, c = (k : Int) * 8 ∧ k < l.length ∧ l.getD k 0 = c
theorem cderef_ok (v : Env p q l m b E) (fC : Fr C) (h : XC w0 N E p q mb pb (l.length : Int) s n C wr) (c : Int) (hc : W64 c) (he : Ends1 l c) :
    Calls Try.prog 102 #[.pointer (some ⟨pb, 0, none⟩), .int .u64 c] wr fun e w' => e = .returned (.int .u64 c) ∧ wr = w' := by
  obtain ⟨⟨c0, c1, c2, c3, c4⟩, f4⟩ := h.five v fC
  have ht := tag_any c wr hc
  rcases he with he | ⟨k, hck, hk, hlk⟩
  · have hb : (c % 8 != 0) = true := by simpa using he
    clear h v hc he
    generalize (l.length : Int) = z at *
    generalize c % 8 = t at *
    go_enter Try.func102, Try.ntmps102
    go_wp2_with fail
    refine un.wp_scope_one (fun _ _ _ => False) rfl (fun _ _ _ h => h.elim) ?_
    intro dn
    refine ⟨0, ?_⟩
    clear dn
    go_wp2_with fail
    refine wp_label ?_
    go_wp2_with fail
    refine ht.mono ?_; rintro e w' ⟨rfl, rfl⟩
    go_wp2_with fail
    simp only [un.dj]
    change bodyPost _ _ _ Exit.ret _ _
    go_ret
    exact ⟨rfl, rfl⟩
  · have hpl := cplace_any c wr hc
    have hg := cget_any v fC h k hk
    have e8 : c % 8 = 0 := by omega
    have e9 : c / 8 = (k : Int) := by omega
    rw [e8] at ht
    rw [e9] at hpl
    rw [hlk] at hg
    have hz : ((l.length : Int) == 0) = false := by rw [beq_eq_false_iff_ne]; omega
    clear h v hc hlk e8 e9 hk
    generalize (l.length : Int) = z at *
    subst hck
    generalize (k : Int) * 8 = c at *
    generalize (k : Int) = y at *
    go_enter Try.func102, Try.ntmps102
    go_wp2_with fail
    refine un.wp_scope_one (fun _ _ _ => False) rfl (fun _ _ _ h => h.elim) ?_
    intro dn
    refine ⟨0, ?_⟩
    clear dn
    go_wp2_with fail
    refine wp_label ?_
    go_wp2_with fail
    refine ht.mono ?_; rintro e w' ⟨rfl, rfl⟩
    go_wp2_with fail
    refine hpl.mono ?_; rintro e w' ⟨rfl, rfl⟩
    go_wp2_with fail
    refine hg.mono ?_; rintro e w' ⟨rfl, rfl⟩
    go_wp2_with fail
    simp only [un.dj]
    change bodyPost _ _ _ Exit.ret _ _
    go_ret
    exact ⟨rfl, rfl⟩
set_option maxRecDepth 100000 in
set_option maxHeartbeats 1000000 in
theorem csize_0 (v : Env p q l m b E) (fC : Fr C) (h : XC w0 N E p q mb pb (l.length : Int) s n C wr) (c : Int) (k : Nat) (hck : c = (k : Int) * 8) (hk : k < l.length) (hlk : l.getD k 0 = c) :
    Calls Try.prog 103 #[.pointer (some ⟨pb, 0, none⟩), .int .u64 c] wr fun e w' => e = .returned (.tuple #[.int .i64 1, .bool true]) ∧ wr = w' := by
  have hll := v.ll
  have hc : W64 c := ⟨by omega, by omega⟩
  have ht := tag_any c wr hc
  have hpl := cplace_any c wr hc
  have hg := cget_any v fC h k hk
  have e8 : c % 8 = 0 := by omega
  have e9 : c / 8 = (k : Int) := by omega
  rw [e8] at ht
  rw [e9] at hpl
  rw [hlk] at hg
  clear h v hc hlk e8 e9 hk hll
  subst hck
  generalize (k : Int) * 8 = c at *
  generalize (k : Int) = y at *
  go_enter Try.func103, Try.ntmps103
  go_wp2_with fail
  refine ht.mono ?_; rintro e w' ⟨rfl, rfl⟩
  go_wp2_with fail
  refine hpl.mono ?_; rintro e w' ⟨rfl, rfl⟩
  go_wp2_with fail
  refine hg.mono ?_; rintro e w' ⟨rfl, rfl⟩
  go_wp2_with fail
  go_ret2
  exact ⟨by simp, rfl⟩
set_option maxRecDepth 100000 in
set_option maxHeartbeats 1000000 in
theorem csize_23 (c : Int) (hc : W64 c) (ht3 : c % 8 = 2 ∨ c % 8 = 3) :
    Calls Try.prog 103 #[.pointer (some ⟨pb, 0, none⟩), .int .u64 c] wr fun e w' => e = .returned (.tuple #[.int .i64 0, .bool true]) ∧ wr = w' := by
  have ht := tag_any c wr hc
  rcases ht3 with h3 | h3
  · rw [h3] at ht
    clear hc h3
    go_enter Try.func103, Try.ntmps103
    go_wp2_with fail
    refine ht.mono ?_; rintro e w' ⟨rfl, rfl⟩
    go_wp2_with fail
    go_ret2
    exact ⟨rfl, rfl⟩
  · rw [h3] at ht
    clear hc h3
    go_enter Try.func103, Try.ntmps103
    go_wp2_with fail
    refine ht.mono ?_; rintro e w' ⟨rfl, rfl⟩
    go_wp2_with fail
    go_ret2
    exact ⟨rfl, rfl⟩
set_option maxRecDepth 100000 in
set_option maxHeartbeats 1000000 in
theorem csize_45 (v : Env p q l m b E) (fC : Fr C) (h : XC w0 N E p q mb pb (l.length : Int) s n C wr) (k j : Nat) (hj : j = 1 ∨ j = 2) (hk : k + j ≤ l.length) :
    Calls Try.prog 103 #[.pointer (some ⟨pb, 0, none⟩), .int .u64 (jn ((j : Int) + 3) (k : Int))] wr fun e w' => e = .returned (.tuple #[.int .i64 (j : Int), .bool true]) ∧ wr = w' := by
  have hll := v.ll
  rcases hj with rfl | rfl
  · obtain ⟨c, hcc⟩ : ∃ c, c = jn (((1 : Nat) : Int) + 3) (k : Int) := ⟨_, rfl⟩
    have hc : W64 c := by rw [hcc]; exact jn_w _ (by decide) (by decide)
    have e8 : c % 8 = 4 := by rw [hcc]; exact jn_tag _ _ (by decide) (by decide)
    have e9 : c / 8 = (k : Int) := by rw [hcc]; exact jn_val _ _ (by decide) (by decide) (by omega) (by omega)
    have ht := tag_any c wr hc
    have hpl := cplace_any c wr hc
    have hg := cget_any v fC h k (by omega)
    have HG := Lib.hid (show ∀ x : Int, x = (k : Int) → Calls Try.prog 77 #[.pointer (some ⟨pb, 0, none⟩), .int .i64 x] wr fun e w' => e = .returned (.tuple #[.int .u64 (l.getD k 0), .bool true]) ∧ wr = w' from fun x hx => hx ▸ hg)
    clear hg
    rw [e8] at ht
    rw [e9] at hpl
    rw [← hcc]
    have hy : (k : Int) ≤ 1048576 := by omega
    have hy0 : 0 ≤ (k : Int) := by omega
    clear h v hc e8 e9 hk hll hcc
    generalize l.getD k 0 = u at *
    generalize (k : Int) = y at *
    go_enter Try.func103, Try.ntmps103
    go_wp2_with fail
    refine ht.mono ?_; rintro e w' ⟨rfl, rfl⟩
    go_wp2_with fail
    refine hpl.mono ?_; rintro e w' ⟨rfl, rfl⟩
    go_wp2_with fail
    refine (HG.out _ (by omega)).mono ?_; rintro e w' ⟨rfl, rfl⟩
    go_wp2_with fail
    go_ret2
    exact ⟨rfl, rfl⟩
  · obtain ⟨c, hcc⟩ : ∃ c, c = jn (((2 : Nat) : Int) + 3) (k : Int) := ⟨_, rfl⟩
    have hc : W64 c := by rw [hcc]; exact jn_w _ (by decide) (by decide)
    have e8 : c % 8 = 5 := by rw [hcc]; exact jn_tag _ _ (by decide) (by decide)
    have e9 : c / 8 = (k : Int) := by rw [hcc]; exact jn_val _ _ (by decide) (by decide) (by omega) (by omega)
    have ht := tag_any c wr hc
    have hpl := cplace_any c wr hc
    have hg := cget_any v fC h (k + 1) (by omega)
    rw [e8] at ht
    rw [e9] at hpl
    rw [← hcc]
    have hy : (k : Int) ≤ 1048576 := by omega
    have hy0 : 0 ≤ (k : Int) := by omega
    have HG := Lib.hid (show ∀ x : Int, x = (k : Int) + 1 → Calls Try.prog 77 #[.pointer (some ⟨pb, 0, none⟩), .int .i64 x] wr fun e w' => e = .returned (.tuple #[.int .u64 (l.getD (k + 1) 0), .bool true]) ∧ wr = w' from fun x hx => by rw [show x = ((k + 1 : Nat) : Int) by omega]; exact hg)
    clear hg
    clear h v hc e8 e9 hk hll hcc
    generalize l.getD (k + 1) 0 = u at *
    generalize (k : Int) = y at *
    go_enter Try.func103, Try.ntmps103
    go_wp2_with fail
    refine ht.mono ?_; rintro e w' ⟨rfl, rfl⟩
    go_wp2_with fail
    refine hpl.mono ?_; rintro e w' ⟨rfl, rfl⟩
    go_wp2_with fail
    refine (HG.out _ (by omega)).mono ?_; rintro e w' ⟨rfl, rfl⟩
    go_wp2_with fail
    go_ret2
    exact ⟨rfl, rfl⟩
set_option maxRecDepth 100000 in
set_option maxHeartbeats 1000000 in
theorem csize_1 (v : Env p q l m b E) (fC : Fr C) (h : XC w0 N E p q mb pb (l.length : Int) s n C wr) (k j a : Nat) (hj : 1 ≤ j ∧ j ≤ 20) (ha : a < 4096) (hk : k + j < l.length) (hf : l.getD k 0 = jn 6 ((a : Int) * 256 + j)) :
    Calls Try.prog 103 #[.pointer (some ⟨pb, 0, none⟩), .int .u64 (jn 1 (k : Int))] wr fun e w' => e = .returned (.tuple #[.int .i64 (1 + (j : Int)), .bool true]) ∧ wr = w' := by
  have hll := v.ll
  obtain ⟨c, hcc⟩ : ∃ c, c = jn 1 (k : Int) := ⟨_, rfl⟩
  have hc : W64 c := by rw [hcc]; exact jn_w _ (by decide) (by decide)
  have e8 : c % 8 = 1 := by rw [hcc]; exact jn_tag _ _ (by decide) (by decide)
  have e9 : c / 8 = (k : Int) := by rw [hcc]; exact jn_val _ _ (by decide) (by decide) (by omega) (by omega)
  have ht := tag_any c wr hc
  have hpl := cplace_any c wr hc
  have hg := cget_any v fC h k (by omega)
  have hg2 := cget_any v fC h (k + j) (by omega)
  rw [e8] at ht
  rw [e9] at hpl
  rw [← hcc]
  rw [hf] at hg
  have t1 : jn 6 ((a : Int) * 256 + j) % 8 = 6 := jn_tag _ _ (by decide) (by decide)
  have t2 : jn 6 ((a : Int) * 256 + j) / 8 = (a : Int) * 256 + j := jn_val _ _ (by decide) (by decide) (by omega) (by omega)
  have hfw : W64 (jn 6 ((a : Int) * 256 + j)) := jn_w _ (by decide) (by decide)
  have hp1 : pa (jn 6 ((a : Int) * 256 + j)) = (a : Int) := by unfold pa; rw [t1, t2]; split <;> omega
  have hp2 : pk (jn 6 ((a : Int) * 256 + j)) = (j : Int) := by unfold pk; rw [t1, t2]; split <;> omega
  have hpa := fun w => parts_any (jn 6 ((a : Int) * 256 + j)) w hfw
  rw [hp1, hp2] at hpa
  have hfu := fun w => functor_any (a : Int) (j : Int) w (by unfold I64; omega) (by unfold I64; omega)
  have hfo : fo (a : Int) (j : Int) = true := by unfold fo; exact decide_eq_true ⟨by omega, by omega, by omega, by omega⟩
  rw [hfo] at hfu
  have hy : (k : Int) ≤ 1048576 := by omega
  have hy0 : 0 ≤ (k : Int) := by omega
  have hj0 : 0 ≤ (j : Int) := by omega
  have hj2 : (j : Int) ≤ 20 := by omega
  have HG := Lib.hid (show ∀ x : Int, x = (k : Int) + (j : Int) → Calls Try.prog 77 #[.pointer (some ⟨pb, 0, none⟩), .int .i64 x] wr fun e w' => e = .returned (.tuple #[.int .u64 (l.getD (k + j) 0), .bool true]) ∧ wr = w' from fun x hx => by rw [show x = ((k + j : Nat) : Int) by omega]; exact hg2)
  clear hg2
  clear h v hc e8 e9 hk hll hcc hf t1 t2 hfw hp1 hp2 hfo ha hj
  generalize fv (a : Int) (j : Int) = fq at *
  generalize jn 6 ((a : Int) * 256 + j) = f at *
  generalize l.getD (k + j) 0 = u at *
  generalize (k : Int) = y at *
  generalize (j : Int) = z at *
  generalize (a : Int) = x at *
  go_enter Try.func103, Try.ntmps103
  go_wp2_with fail
  refine ht.mono ?_; rintro e w' ⟨rfl, rfl⟩
  go_wp2_with fail
  refine hpl.mono ?_; rintro e w' ⟨rfl, rfl⟩
  go_wp2_with fail
  refine hg.mono ?_; rintro e w' ⟨rfl, rfl⟩
  go_wp2_with fail
  refine (hpa _).mono ?_; rintro e w' ⟨rfl, rfl⟩
  go_wp2_with fail
  refine (hfu _).mono ?_; rintro e w' ⟨rfl, rfl⟩
  go_wp2_with fail
  refine hpl.mono ?_; rintro e w' ⟨rfl, rfl⟩
  go_wp2_with fail
  refine (HG.out _ (by omega)).mono ?_; rintro e w' ⟨rfl, rfl⟩
  go_wp2_with fail
  go_ret2
  exact ⟨rfl, rfl⟩
end
end Go.Proofs.Ythableojkjhicaa.cpy
