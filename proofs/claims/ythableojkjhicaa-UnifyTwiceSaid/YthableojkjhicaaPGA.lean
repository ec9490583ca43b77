/- The project's Get of no heap, no names; Sound of these. The getter of the project as an object; its variable. The getter of the project: a compound, a node. -/
import Derived.Test.YthableojkjhicaaPl
import Derived.Test.YthableojkjhicaaRPutA
import Derived.Test.YthableojkjhicaaPPA
import Derived.Test.YthableojkjhicaaRGetA
namespace Go.Proofs.Ythableojkjhicaa.pgt
set_option linter.unusedVariables false
open Go.ChangeShapes Go.WideShapes Go.ChangeAt Go.RowKit Go.Maps
open Go.Proofs.Ythableojkjhicaa.kp Go.Proofs.Ythableojkjhicaa.tm Go.Proofs.Ythableojkjhicaa.lie Go.Proofs.Ythableojkjhicaa.cur Go.Proofs.Ythableojkjhicaa.pla Go.Proofs.Ythableojkjhicaa.pln Go.Proofs.Ythableojkjhicaa.wlk
abbrev zv : Value := .agg #[.int .i64 0, .string ⟨#[]⟩, .int .i64 0, .int .u64 0, .int .u64 0, .slice none 0 0]
set_option maxRecDepth 100000 in
theorem pGet_nil1 (q : Option Addr) (c : Int) (v3 : Value) (w : World) : Calls Try.prog 20 #[.pointer none, .pointer q, .int .u64 c, v3] w fun e w' => e = .returned (.tuple #[zv, .int .i64 1]) ∧ Below w.heap.size w w' := by
  have hb1 := ba w ZT
  have hz := alloc_at w ZT
  obtain ⟨⟨z0, z1, z2, z3, z4, z5⟩, y0, y1, y2, y3, y4, y5⟩ := blk_facts hz
  go_enter Try.func20, Try.ntmps20
  go_wp2_with fail
  exact bodyPost_ret (v := .tuple #[zv, .int .i64 1]) (by simp [results, Try.results20, go_sem, z0, z1, z2, z3, z4, z5]) rfl ⟨rfl, hb1⟩
set_option maxRecDepth 100000 in
theorem pGet_nil2 (p : Addr) (c : Int) (v3 : Value) (w : World) : Calls Try.prog 20 #[.pointer (some p), .pointer none, .int .u64 c, v3] w fun e w' => e = .returned (.tuple #[zv, .int .i64 1]) ∧ Below w.heap.size w w' := by
  have hb1 := ba w ZT
  have hz := alloc_at w ZT
  obtain ⟨⟨z0, z1, z2, z3, z4, z5⟩, y0, y1, y2, y3, y4, y5⟩ := blk_facts hz
  go_enter Try.func20, Try.ntmps20
  go_wp2_with fail
  exact bodyPost_ret (v := .tuple #[zv, .int .i64 1]) (by simp [results, Try.results20, go_sem, z0, z1, z2, z3, z4, z5]) rfl ⟨rfl, hb1⟩
end Go.Proofs.Ythableojkjhicaa.pgt
namespace Go.Proofs.Ythableojkjhicaa.pgt
set_option linter.unusedVariables false
open Go.ChangeShapes Go.WideShapes Go.ChangeAt Go.RowKit Go.Maps
open Go.Proofs.Ythableojkjhicaa.hp Go.Proofs.Ythableojkjhicaa.cel Go.Proofs.Ythableojkjhicaa.kp Go.Proofs.Ythableojkjhicaa.ob Go.Proofs.Ythableojkjhicaa.pm Go.Proofs.Ythableojkjhicaa.tm Go.Proofs.Ythableojkjhicaa.lie Go.Proofs.Ythableojkjhicaa.cur Go.Proofs.Ythableojkjhicaa.pla Go.Proofs.Ythableojkjhicaa.pln Go.Proofs.Ythableojkjhicaa.wlk
open Go.Proofs.Ythableojkjhicaa.ppt (PO frPO)
open Go.Proofs.Ythableojkjhicaa.rpt (HB frHB CK CK_ne)
open Go.Proofs.Ythableojkjhicaa.rgt (VG frG VI lawI zeroI)
open Go.Proofs.Ythableojkjhicaa.atm (Tab)
section
variable {A : Ob} {w0 wr w' : World} {N : Nat → Prop}
theorem Nx.alloc (f : Fr A) (h : Nx A w0 N wr) (o : Obj) : Nx (Tim A (Blk wr.heap.size o)) w0 N (wr.alloc o) := by
  obtain ⟨K, a, k, s⟩ := h
  have hlt := f.lt a
  refine ⟨fun i => K i ∨ i = wr.heap.size, ⟨K, fun i => i = wr.heap.size, f.below a (kp.ba wr o), ⟨kp.alloc_at wr o, fun _ => Iff.rfl⟩, fun i h1 h2 => by have := hlt i h1; omega, fun _ => Iff.rfl⟩, k.trans (F' := fun _ => False) (Keep.of_below (kp.ba wr o)) (fun _ h => h.elim), fun i hi => ?_⟩
  rcases hi with hi | hi
  · exact s i hi
  · have := k.size; exact Or.inr (by omega)
/-- the result's block turns, and is put away -/
theorem Nx.res {r : Nat} {o : Obj} (f : Fr A) (h : Nx (Tim A (Blk r o)) w0 N wr) (k : kp.Keep (fun q => q = r) wr w') : Nx A w0 N w' := by
  obtain ⟨K, ⟨K1, M1, a, b, d, e⟩, k0, s⟩ := h
  refine ⟨K1, f.keep a k fun i hi e => d i hi ((b.2 i).2 e), k0.trans k fun i hi => s i ((e i).2 (Or.inr ((b.2 i).2 hi))), fun i hi => s i ((e i).2 (Or.inl hi))⟩
theorem Nx.box {r : Nat} {o : Obj} (h : Nx (Tim A (Blk r o)) w0 N wr) : wr.heap[r]? = some o := by
  obtain ⟨K, ⟨K1, M1, a, b, d, e⟩, _⟩ := h
  exact b.1
theorem Nx.imp_ {B : Ob} (h : Nx A w0 N wr) (f : ∀ K, A wr K → B wr K) : Nx B w0 N wr := by
  obtain ⟨K, a, k, s⟩ := h
  exact ⟨K, f K a, k, s⟩
theorem Tim.lft {B C : Ob} (h : Tim A (Tim B C) wr N) : Tim (Tim A B) C wr N := by
  obtain ⟨K, M, a, ⟨K1, M1, b, c, d1, e1⟩, d, e⟩ := h
  refine ⟨fun k => K k ∨ K1 k, M1, ⟨K, K1, a, b, fun k h1 h2 => d k h1 ((e1 k).2 (Or.inl h2)), fun _ => Iff.rfl⟩, c, fun k h1 h2 => ?_, fun k => ?_⟩
  · rcases h1 with h1 | h1
    · exact d k h1 ((e1 k).2 (Or.inr h2))
    · exact d1 k h1 h2
  · rw [e k, e1 k, or_assoc]
theorem Nx.step (f : Fr A) (h : Nx A w0 N wr) (b : Below wr.heap.size wr w') : Nx A w0 N w' := Nx.below f h b
end
def BGP (p q mb : Nat) : Obj := .cells #[.pointer (some ⟨p, 0, none⟩), .pointer (some ⟨q, 0, none⟩), .map (some mb)] 93 (0, 0)
/-- the getter: heap, names, places' numbers, its own block; C beside -/
def PG (p q mb gb : Nat) (l : List Int) (m : Int) (a : List ByteArray) (v : List (Int × Int)) (C : Ob) : Ob := Tim (Tim (HB TH p l m) (Tim (PO q a) (Tim (VG mb v) (Blk gb (BGP p q mb))))) C
theorem frPG {p q mb gb : Nat} {l : List Int} {m : Int} {a : List ByteArray} {v : List (Int × Int)} {C : Ob} (fC : Fr C) : Fr (PG p q mb gb l m a v C) := (frHB.tim (frPO.tim (frG.tim (Fr.blk _ _)))).tim fC
section
variable {p q mb gb : Nat} {l : List Int} {m : Int} {a : List ByteArray} {v v' : List (Int × Int)} {C : Ob} {w0 w wr w' : World} {N : Nat → Prop}
theorem PG.heap (h : Nx (PG p q mb gb l m a v C) w0 N wr) : ∃ F, Hp TH wr p F l m := by
  obtain ⟨K, ⟨_, _, ⟨_, _, x, _⟩, _⟩, _⟩ := h
  exact ⟨_, x⟩
theorem PG.names (h : Nx (PG p q mb gb l m a v C) w0 N wr) : ∃ F, Tab wr q F a := by
  obtain ⟨K, ⟨_, _, ⟨_, _, _, ⟨_, _, x, _⟩, _⟩, _⟩, _⟩ := h
  exact ⟨_, x⟩
theorem PG.cells (h : Nx (PG p q mb gb l m a v C) w0 N wr) : wr.cell? ⟨gb, 0, none⟩ = some (.pointer (some ⟨p, 0, none⟩)) ∧ wr.cell? ⟨gb, 1, none⟩ = some (.pointer (some ⟨q, 0, none⟩)) ∧ wr.cell? ⟨gb, 2, none⟩ = some (.map (some mb)) := by
  obtain ⟨K, ⟨_, _, ⟨_, _, _, ⟨_, _, _, ⟨_, _, _, b, _⟩, _⟩, _⟩, _⟩, _⟩ := h
  have := b.1
  refine ⟨?_, ?_, ?_⟩ <;> simp [World.cell?, this, BGP]
theorem PG.vars (fC : Fr C) (h : Nx (PG p q mb gb l m a v C) w0 N wr) : ∃ D, wr.ownsMap Try.prog 3 (plainElem (H := Unit) Try.prog 2) mb v.length D ∧ VI D v ∧ Maps.size D = v.length ∧
    ∀ v' D' w', w'.ownsMap Try.prog 3 (plainElem (H := Unit) Try.prog 2) mb v'.length D' → VI D' v' → Maps.size D' = v'.length → wr.grownBy w' (some mb) → Nx (PG p q mb gb l m a v' C) w0 N w' := by
  obtain ⟨K, t, k, s⟩ := h
  obtain ⟨K1, t1, u1⟩ := Tim.at1 fC t
  obtain ⟨K2, t2, u2⟩ := Tim.at2 frHB t1
  obtain ⟨K3, t3, u3⟩ := Tim.at2 frPO t2
  obtain ⟨K4, ⟨⟨D, hD, hv, hz⟩, hF⟩, u4⟩ := Tim.at1 (Fr.blk _ _) t3
  refine ⟨D, hD, hv, hz, fun v' D' w' h1 h2 h3 g => Nx.trans k s (u1 _ _ (u2 _ _ (u3 _ _ (u4 (VG mb v') _ ⟨K4, ⟨⟨D', h1, h2, h3⟩, hF⟩, Keep.of_grown g fun i e => (hF i).2 (by injection e with e; exact e.symm), fun _ => Or.inl⟩))))⟩
theorem ptr_tag {c : Int} (h : W64 c) : wrap64 (c / 8) = c / 8 := by obtain ⟨h0, h1⟩ := h; unfold wrap64; omega
abbrev vv (k : Int) : Value := .agg #[.int .i64 1, .string ⟨#[]⟩, .int .i64 k, .int .u64 0, .int .u64 0, .slice none 0 0]
/-- what a call that tells a term answers -/
def Tells (v : Value) (b : Bool) (B : Ob) (w0 : World) (N : Nat → Prop) (e : Ending) (w' : World) : Prop := e = .returned (.tuple #[v, .bool b]) ∧ Nx B w0 N w'
set_option maxRecDepth 100000 in
set_option maxHeartbeats 1000000 in
theorem gvar_bad (fC : Fr C) (c : Int) (hc : W64 c) (h : Nx (PG p q mb gb l m a v C) w0 N wr) (hb : ¬ (hp.gb l (c / 8) = true ∧ gv l (c / 8) = c)) :
    Calls Try.prog 117 #[.pointer (some ⟨gb, 0, none⟩), .int .u64 c] wr (Tells zv false (PG p q mb gb l m a v C) w0 N) := by
  have X1 := Lib.hid (Nx.alloc (frPG fC) h ZT)
  have hpl := fun w => ppt.place_any c w hc
  obtain ⟨r0, hr0⟩ : ∃ r0, r0 = wr.heap.size := ⟨_, rfl⟩
  obtain ⟨w1, hw1⟩ : ∃ w1, w1 = wr.alloc ZT := ⟨_, rfl⟩
  have HW := Lib.hid (And.intro hr0 hw1)
  rw [← hr0, ← hw1] at X1
  obtain ⟨F, hH⟩ := PG.heap (Nx.res (frPG fC) X1.out (Keep.refl _ _))
  have hg := get_any hH (c / 8)
  obtain ⟨b0, b1, b2⟩ := PG.cells (Nx.res (frPG fC) X1.out (Keep.refl _ _))
  obtain ⟨⟨z0, z1, z2, z3, z4, z5⟩, f0, f1, f2, f3, f4, f5⟩ := blk_facts (Nx.box X1.out)
  have hb' : hp.gb l (c / 8) = false ∨ (hp.gb l (c / 8) = true ∧ (gv l (c / 8) != c) = true) := by
    cases hx : hp.gb l (c / 8)
    · exact Or.inl rfl
    · exact Or.inr ⟨rfl, by rw [bne_iff_ne]; exact fun e => hb ⟨hx, e⟩⟩
  clear hH h hb hr0 hw1
  generalize gv l (c / 8) = x at *
  generalize hp.gb l (c / 8) = y at *
  generalize c / 8 = qc at *
  rcases hb' with rfl | ⟨rfl, hne⟩
  all_goals
    go_enter Try.func117, Try.ntmps117
    go_upto_region 1 with fail
    change Code.wp _ _ _ _ (wr.alloc ZT)
    rw [← HW.out.1, ← HW.out.2]
    go_wp2_with fail
    refine (hpl _).mono ?_; rintro e w' ⟨rfl, rfl⟩
    go_wp2_with fail
    refine hg.mono ?_; rintro e w' ⟨rfl, rfl⟩
    go_wp2_with fail
    obtain ⟨W, hW, e0, e1, e2, e3, e4, e5, k6⟩ := res_fin (Nx.box X1.out) (.int .i64 0) (.string ⟨#[]⟩) (.int .i64 0) (.int .u64 0) (.int .u64 0) (.slice none 0 0)
    rw [hW]
    exact bodyPost_ret (v := .tuple #[zv, .bool false]) (by simp [results, Try.results117, go_sem, e0, e1, e2, e3, e4, e5]) rfl ⟨rfl, Nx.res (frPG fC) X1.out k6⟩
/-- one number more -/
theorem PG.put (fC : Fr C) (h : Nx (PG p q mb gb l m a v C) w0 N wr) {D : DataW Unit} (hD : wr.ownsMap Try.prog 3 (plainElem (H := Unit) Try.prog 2) mb v.length D) (hv : VI D v) (hz : Maps.size D = v.length) {i c : Int} (hi : pm.look v i = none) {w7 : World}
    (hm : w7.ownsMap Try.prog 3 (plainElem (H := Unit) Try.prog 2) mb (v.length + 1) (D.put (CK i) (.lit (.int .i64 c)))) (g : wr.grownBy w7 (some mb)) : Nx (PG p q mb gb l m a (v ++ [(i, c)]) C) w0 N w7 := by
  obtain ⟨D', hD', hv', hz', up⟩ := PG.vars fC h
  refine up _ _ w7 (by rw [List.length_append]; exact hm) (hv.put hD.isMap hi) ?_ g
  rw [size_put (hD.tidy lawI), (hv i).1, hi, hz]
  simp
set_option maxRecDepth 100000 in
set_option maxHeartbeats 2000000 in
theorem gvar_old (fC : Fr C) (c : Int) (hc : W64 c) (h : Nx (PG p q mb gb l m a v C) w0 N wr) (hb1 : hp.gb l (c / 8) = true) (hb2 : gv l (c / 8) = c) {k : Int} (hl : pm.look v (c / 8) = some k) :
    Calls Try.prog 117 #[.pointer (some ⟨gb, 0, none⟩), .int .u64 c] wr (Tells (vv k) true (PG p q mb gb l m a v C) w0 N) := by
  have X1 := Lib.hid (Nx.alloc (frPG fC) h ZT)
  have hpl := fun w => ppt.place_any c w hc
  obtain ⟨r0, hr0⟩ : ∃ r0, r0 = wr.heap.size := ⟨_, rfl⟩
  obtain ⟨w1, hw1⟩ : ∃ w1, w1 = wr.alloc ZT := ⟨_, rfl⟩
  have HW := Lib.hid (And.intro hr0 hw1)
  rw [← hr0, ← hw1] at X1
  have X0 := Nx.res (frPG fC) X1.out (Keep.refl _ _)
  obtain ⟨F, hH⟩ := PG.heap X0
  have hg := get_any hH (c / 8)
  rw [hb1, hb2] at hg
  obtain ⟨b0, b1, b2⟩ := PG.cells X0
  obtain ⟨⟨z0, z1, z2, z3, z4, z5⟩, f0, f1, f2, f3, f4, f5⟩ := blk_facts (Nx.box X1.out)
  obtain ⟨D, hD, hv, hz, up⟩ := PG.vars fC X0
  have hkey : keyOf Try.prog 3 (.int .i64 (c / 8)) = some (CK (c / 8)) := keyOf_int_mk Try.underlying3 (WalkArith.wf_i64 (by obtain ⟨h0, h1⟩ := hc; omega))
  have hv2 := hv (c / 8)
  rw [hl] at hv2
  have HD := Lib.hid hD
  have HV := Lib.hid hv2
  have hsome : (some k).isSome = true := rfl
  clear hH h hb1 hb2 hr0 hw1 X0 hD hv hz up hv2 hl
  generalize c / 8 = qc at *
  go_enter Try.func117, Try.ntmps117
  go_upto_region 1 with fail
  change Code.wp _ _ _ _ (wr.alloc ZT)
  rw [← HW.out.1, ← HW.out.2]
  go_wp2_with fail
  refine (hpl _).mono ?_; rintro e w' ⟨rfl, rfl⟩
  go_wp2_with fail
  refine hg.mono ?_; rintro e w' ⟨rfl, rfl⟩
  go_wp2_with (at_lookup; refine wpList_lookup_own_ok_int _ rfl _ _ 56 rfl 3 2 .i64 lawI Try.underlying56 Try.underlying2 (zeroI _) mb _ D rfl HD.out _ _ rfl hkey ?_; intro c9 hat hwc; rw [HV.out.1, hsome])
  have hcc : c9 = k := by
    have h2 := HV.out.2
    rw [hat] at h2
    injection h2 with e; injection e with _ e
  subst hcc
  obtain ⟨W, hW, e0, e1, e2, e3, e4, e5, k6⟩ := res_fin (Nx.box X1.out) (.int .i64 1) (.string ⟨#[]⟩) (.int .i64 c9) (.int .u64 0) (.int .u64 0) (.slice none 0 0)
  rw [hW]
  exact bodyPost_ret (v := .tuple #[vv c9, .bool true]) (by simp [results, Try.results117, go_sem, e0, e1, e2, e3, e4, e5]) rfl ⟨rfl, Nx.res (frPG fC) X1.out k6⟩
set_option maxRecDepth 100000 in
set_option maxHeartbeats 2000000 in
theorem gvar_new (fC : Fr C) (c : Int) (hc : W64 c) (h : Nx (PG p q mb gb l m a v C) w0 N wr) (hb1 : hp.gb l (c / 8) = true) (hb2 : gv l (c / 8) = c) (hl : pm.look v (c / 8) = none) (hv9 : v.length < 1000000) :
    Calls Try.prog 117 #[.pointer (some ⟨gb, 0, none⟩), .int .u64 c] wr (Tells (vv v.length) true (PG p q mb gb l m a (v ++ [(c / 8, (v.length : Int))]) C) w0 N) := by
  have X1 := Lib.hid (Nx.alloc (frPG fC) h ZT)
  have hpl := fun w => ppt.place_any c w hc
  obtain ⟨r0, hr0⟩ : ∃ r0, r0 = wr.heap.size := ⟨_, rfl⟩
  obtain ⟨w1, hw1⟩ : ∃ w1, w1 = wr.alloc ZT := ⟨_, rfl⟩
  have HW := Lib.hid (And.intro hr0 hw1)
  rw [← hr0, ← hw1] at X1
  have X0 : Nx (PG p q mb gb l m a v (Tim C (Blk r0 ZT))) w0 N w1 := Nx.imp_ X1.out fun _ => Tim.right_
  obtain ⟨F, hH⟩ := PG.heap X0
  have hg := get_any hH (c / 8)
  rw [hb1, hb2] at hg
  obtain ⟨b0, b1, b2⟩ := PG.cells X0
  obtain ⟨⟨z0, z1, z2, z3, z4, z5⟩, f0, f1, f2, f3, f4, f5⟩ := blk_facts (Nx.box X1.out)
  obtain ⟨D, hD, hv, hz, up⟩ := PG.vars (fC.tim (Fr.blk _ _)) X0
  have hkey : keyOf Try.prog 3 (.int .i64 (c / 8)) = some (CK (c / 8)) := keyOf_int_mk Try.underlying3 (WalkArith.wf_i64 (by obtain ⟨h0, h1⟩ := hc; omega))
  have hv2 := hv (c / 8)
  rw [hl] at hv2
  have HD := Lib.hid hD
  have HV := Lib.hid hv2
  have HV1 := Lib.hid hv
  have HZ := Lib.hid hz
  have HL := Lib.hid hl
  have HK := Lib.hid hkey
  have X2 := Lib.hid X0
  have hlen := hD.len Try.underlying56 3
  rw [hz] at hlen
  have hwf : (Lit.int .i64 (v.length : Int)).wf = true := WalkArith.wf_i64 (by omega)
  have HW9 := Lib.hid hwf
  have HV9 := Lib.hid (show v.length < maxLen by unfold maxLen; omega)
  have hsome : (none : Option Int).isSome = false := rfl
  clear hH h hb1 hb2 hr0 hw1 X0 hD hv hz up hv2 hl hwf hv9
  generalize c / 8 = qc at *
  go_enter Try.func117, Try.ntmps117
  go_upto_region 1 with fail
  change Code.wp _ _ _ _ (wr.alloc ZT)
  rw [← HW.out.1, ← HW.out.2]
  go_wp2_with fail
  refine (hpl _).mono ?_; rintro e w' ⟨rfl, rfl⟩
  go_wp2_with fail
  refine hg.mono ?_; rintro e w' ⟨rfl, rfl⟩
  go_wp2_with (first | (at_lookup; refine wpList_lookup_own_ok_int _ rfl _ _ 56 rfl 3 2 .i64 lawI Try.underlying56 Try.underlying2 (zeroI _) mb _ D rfl HD.out _ _ rfl hkey ?_; intro c9 hat hwc; rw [HV.out.1, hsome]; clear hat hwc) | (at_mapUpdate; refine wpList_mapUpdate_own _ rfl _ _ _ 56 rfl 3 2 lawI Try.underlying56 _ mb v.length D rfl HD.out HV9.out _ _ _ rfl rfl HK.out _ [] (plainElem_int Try.underlying2 HW9.out) ?_; intro w7 hm7 hg7; have X7 := Lib.hid (Nx.imp_ (PG.put (fC.tim (Fr.blk _ _)) X2.out HD.out HV1.out HZ.out HL.out hm7 hg7) fun _ => Tim.lft); clear hm7 hg7 z0 z1 z2 z3 z4 z5 f0 f1 f2 f3 f4 f5; obtain ⟨⟨z0, z1, z2, z3, z4, z5⟩, f0, f1, f2, f3, f4, f5⟩ := blk_facts (Nx.box X7.out)))
  obtain ⟨W, hW, e0, e1, e2, e3, e4, e5, k6⟩ := res_fin (Nx.box X7.out) (.int .i64 1) (.string ⟨#[]⟩) (.int .i64 (v.length : Int)) (.int .u64 0) (.int .u64 0) (.slice none 0 0)
  rw [hW]
  exact bodyPost_ret (v := .tuple #[vv v.length, .bool true]) (by simp [results, Try.results117, go_sem, e0, e1, e2, e3, e4, e5]) rfl ⟨rfl, Nx.res (frPG fC) X7.out k6⟩
end
end Go.Proofs.Ythableojkjhicaa.pgt
namespace Go.Proofs.Ythableojkjhicaa.pgt
set_option linter.unusedVariables false
open Go.ChangeShapes Go.WideShapes Go.ChangeAt Go.RowKit Go.Maps
open Go.Proofs.Ythableojkjhicaa.hp Go.Proofs.Ythableojkjhicaa.cel Go.Proofs.Ythableojkjhicaa.kp Go.Proofs.Ythableojkjhicaa.ob Go.Proofs.Ythableojkjhicaa.pm Go.Proofs.Ythableojkjhicaa.tm Go.Proofs.Ythableojkjhicaa.lie Go.Proofs.Ythableojkjhicaa.cur Go.Proofs.Ythableojkjhicaa.pla Go.Proofs.Ythableojkjhicaa.pln Go.Proofs.Ythableojkjhicaa.wlk
open Go.Proofs.Ythableojkjhicaa.ppt (PO frPO)
open Go.Proofs.Ythableojkjhicaa.rpt (HB frHB CK CK_ne)
open Go.Proofs.Ythableojkjhicaa.rgt (VG frG VI lawI zeroI)
open Go.Proofs.Ythableojkjhicaa.atm (Tab nm nb)
section
variable {p q mb gb : Nat} {l : List Int} {m : Int} {a : List ByteArray} {v v' : List (Int × Int)} {C : Ob} {w0 w wr w' : World} {N : Nat → Prop}
/-- the compound's node -/
abbrev cv (n : ByteArray) (b k : Nat) : Value := .agg #[.int .i64 5, .string n, .int .i64 0, .int .u64 0, .int .u64 0, .slice (some ⟨b, 0, none⟩) k k]
theorem PG.wf (h : Nx (PG p q mb gb l m a v C) w0 N wr) (n : Int) : W64 (gv l n) := by
  obtain ⟨F, hH⟩ := PG.heap h
  exact gv_w hH.wf n
set_option maxRecDepth 100000 in
set_option maxHeartbeats 1000000 in
theorem gcomp_1 (fC : Fr C) (at_ : Int) (h0 : 0 ≤ at_ ∧ at_ < 2305843009213693952) (h : Nx (PG p q mb gb l m a v C) w0 N wr) (hb : fo (pa (gv l at_)) (pk (gv l at_)) = false) :
    Calls Try.prog 118 #[.pointer (some ⟨gb, 0, none⟩), .int .i64 at_] wr (Tells zv false (PG p q mb gb l m a v C) w0 N) := by
  have X1 := Lib.hid (Nx.alloc (frPG fC) h ZT)
  obtain ⟨r0, hr0⟩ : ∃ r0, r0 = wr.heap.size := ⟨_, rfl⟩
  obtain ⟨w1, hw1⟩ : ∃ w1, w1 = wr.alloc ZT := ⟨_, rfl⟩
  have HW := Lib.hid (And.intro hr0 hw1)
  rw [← hr0, ← hw1] at X1
  have X0 := Nx.res (frPG fC) X1.out (Keep.refl _ _)
  obtain ⟨F, hH⟩ := PG.heap X0
  have hg := get_any hH at_
  have hw := gv_w hH.wf at_
  have hpa := fun w => parts_any (gv l at_) w hw
  have hfu := fun w => functor_any (pa (gv l at_)) (pk (gv l at_)) w (by obtain ⟨h1, h2⟩ := hw; unfold pa I64; split <;> omega) (by obtain ⟨h1, h2⟩ := hw; unfold pk I64; split <;> omega)
  rw [hb] at hfu
  obtain ⟨b0, b1, b2⟩ := PG.cells X0
  obtain ⟨⟨z0, z1, z2, z3, z4, z5⟩, f0, f1, f2, f3, f4, f5⟩ := blk_facts (Nx.box X1.out)
  clear hH h hb hr0 hw1 X0 hw h0
  generalize pa (gv l at_) = qa at *
  generalize pk (gv l at_) = qk at *
  generalize fv qa qk = qf at *
  generalize gv l at_ = x at *
  generalize hp.gb l at_ = y at *
  go_enter Try.func118, Try.ntmps118
  go_upto_region 1 with fail
  change Code.wp _ _ _ _ (wr.alloc ZT)
  rw [← HW.out.1, ← HW.out.2]
  go_wp2_with fail
  refine hg.mono ?_; rintro e w' ⟨rfl, rfl⟩
  go_wp2_with fail
  refine (hpa _).mono ?_; rintro e w' ⟨rfl, rfl⟩
  go_wp2_with fail
  refine (hfu _).mono ?_; rintro e w' ⟨rfl, rfl⟩
  go_wp2_with fail
  obtain ⟨W, hW, e0, e1, e2, e3, e4, e5, k6⟩ := res_fin (Nx.box X1.out) (.int .i64 0) (.string ⟨#[]⟩) (.int .i64 0) (.int .u64 0) (.int .u64 0) (.slice none 0 0)
  rw [hW]
  exact bodyPost_ret (v := .tuple #[zv, .bool false]) (by simp [results, Try.results118, go_sem, e0, e1, e2, e3, e4, e5]) rfl ⟨rfl, Nx.res (frPG fC) X1.out k6⟩
set_option maxRecDepth 100000 in
set_option maxHeartbeats 1000000 in
theorem gcomp_2 (fC : Fr C) (at_ : Int) (h0 : 0 ≤ at_ ∧ at_ < 2305843009213693952) (h : Nx (PG p q mb gb l m a v C) w0 N wr) (hb : fo (pa (gv l at_)) (pk (gv l at_)) = true)
    (hn : nb a (pa (gv l at_)) = false ∨ (nb a (pa (gv l at_)) = true ∧ hp.gb l (at_ + pk (gv l at_)) = false)) :
    Calls Try.prog 118 #[.pointer (some ⟨gb, 0, none⟩), .int .i64 at_] wr (Tells zv false (PG p q mb gb l m a v C) w0 N) := by
  have X1 := Lib.hid (Nx.alloc (frPG fC) h ZT)
  obtain ⟨r0, hr0⟩ : ∃ r0, r0 = wr.heap.size := ⟨_, rfl⟩
  obtain ⟨w1, hw1⟩ : ∃ w1, w1 = wr.alloc ZT := ⟨_, rfl⟩
  have HW := Lib.hid (And.intro hr0 hw1)
  rw [← hr0, ← hw1] at X1
  have X0 := Nx.res (frPG fC) X1.out (Keep.refl _ _)
  obtain ⟨F, hH⟩ := PG.heap X0
  obtain ⟨F2, hT⟩ := PG.names X0
  have hg := get_any hH at_
  have hg2 := get_any hH (at_ + pk (gv l at_))
  have hna := atm.name_any hT (pa (gv l at_))
  have hw := gv_w hH.wf at_
  have hpa := fun w => parts_any (gv l at_) w hw
  have hfu := fun w => functor_any (pa (gv l at_)) (pk (gv l at_)) w (by obtain ⟨h1, h2⟩ := hw; unfold pa I64; split <;> omega) (by obtain ⟨h1, h2⟩ := hw; unfold pk I64; split <;> omega)
  rw [hb] at hfu
  obtain ⟨b0, b1, b2⟩ := PG.cells X0
  obtain ⟨⟨z0, z1, z2, z3, z4, z5⟩, f0, f1, f2, f3, f4, f5⟩ := blk_facts (Nx.box X1.out)
  have hk : 0 ≤ pk (gv l at_) ∧ pk (gv l at_) ≤ 20 := by have := of_decide_eq_true hb; omega
  have hsum : IntKind.i64.wrap (at_ + pk (gv l at_)) = at_ + pk (gv l at_) := by rw [IntKind.wrap_i64]; omega
  clear hH hT h hb hr0 hw1 X0 hw h0
  generalize pa (gv l at_) = qa at *
  generalize pk (gv l at_) = qk at *
  generalize fv qa qk = qf at *
  generalize gv l at_ = x at *
  generalize hp.gb l at_ = y at *
  generalize gv l (at_ + qk) = x2 at *
  generalize hp.gb l (at_ + qk) = y2 at *
  generalize nb a qa = y3 at *
  generalize nm a qa = x3 at *
  rcases hn with rfl | ⟨rfl, rfl⟩
  all_goals
    go_enter Try.func118, Try.ntmps118
    go_upto_region 1 with fail
    change Code.wp _ _ _ _ (wr.alloc ZT)
    rw [← HW.out.1, ← HW.out.2]
    go_wp2_with fail
    refine hg.mono ?_; rintro e w' ⟨rfl, rfl⟩
    go_wp2_with fail
    refine (hpa _).mono ?_; rintro e w' ⟨rfl, rfl⟩
    go_wp2_with fail
    refine (hfu _).mono ?_; rintro e w' ⟨rfl, rfl⟩
    go_wp2_with fail
    refine hna.mono ?_; rintro e w' ⟨rfl, rfl⟩
    go_wp2_with fail
    refine hg2.mono ?_; rintro e w' ⟨rfl, rfl⟩
    go_wp2_with fail
    obtain ⟨W, hW, e0, e1, e2, e3, e4, e5, k6⟩ := res_fin (Nx.box X1.out) (.int .i64 0) (.string ⟨#[]⟩) (.int .i64 0) (.int .u64 0) (.int .u64 0) (.slice none 0 0)
    rw [hW]
    exact bodyPost_ret (v := .tuple #[zv, .bool false]) (by simp [results, Try.results118, go_sem, e0, e1, e2, e3, e4, e5]) rfl ⟨rfl, Nx.res (frPG fC) X1.out k6⟩
set_option maxRecDepth 100000 in
set_option maxHeartbeats 1000000 in
theorem gcomp_3 (fC : Fr C) (at_ : Int) (h0 : 0 ≤ at_ ∧ at_ < 2305843009213693952) (h : Nx (PG p q mb gb l m a v C) w0 N wr) (hb : fo (pa (gv l at_)) (pk (gv l at_)) = true)
    (hn1 : nb a (pa (gv l at_)) = true) (hn2 : hp.gb l (at_ + pk (gv l at_)) = true) {k : Nat} (hkk : pk (gv l at_) = k) :
    Calls Try.prog 118 #[.pointer (some ⟨gb, 0, none⟩), .int .i64 at_] wr fun e w' => ∃ b, e = .returned (.tuple #[cv (nm a (pa (gv l at_))) b k, .bool true]) ∧ Nx (Tim (PG p q mb gb l m a v C) (Blk b (.cells (MC k) 36))) w0 N w' := by
  have X1 := Lib.hid (Nx.alloc (frPG fC) h ZT)
  obtain ⟨r0, hr0⟩ : ∃ r0, r0 = wr.heap.size := ⟨_, rfl⟩
  obtain ⟨w1, hw1⟩ : ∃ w1, w1 = wr.alloc ZT := ⟨_, rfl⟩
  have HW := Lib.hid (And.intro hr0 hw1)
  rw [← hr0, ← hw1] at X1
  have X0 := Nx.res (frPG fC) X1.out (Keep.refl _ _)
  obtain ⟨F, hH⟩ := PG.heap X0
  obtain ⟨F2, hT⟩ := PG.names X0
  have hg := get_any hH at_
  have hg2 := get_any hH (at_ + pk (gv l at_))
  have hna := atm.name_any hT (pa (gv l at_))
  have hw := gv_w hH.wf at_
  have hpa := fun w => parts_any (gv l at_) w hw
  have hfu := fun w => functor_any (pa (gv l at_)) (pk (gv l at_)) w (by obtain ⟨h1, h2⟩ := hw; unfold pa I64; split <;> omega) (by obtain ⟨h1, h2⟩ := hw; unfold pk I64; split <;> omega)
  rw [hb] at hfu
  rw [hn1] at hna
  rw [hn2] at hg2
  obtain ⟨b0, b1, b2⟩ := PG.cells X0
  obtain ⟨⟨z0, z1, z2, z3, z4, z5⟩, f0, f1, f2, f3, f4, f5⟩ := blk_facts (Nx.box X1.out)
  have hk : 0 ≤ pk (gv l at_) ∧ pk (gv l at_) ≤ 20 := by have := of_decide_eq_true hb; omega
  have hsum : IntKind.i64.wrap (at_ + pk (gv l at_)) = at_ + pk (gv l at_) := by rw [IntKind.wrap_i64]; omega
  clear hH hT h hb hr0 hw1 X0 hw h0
  have hmk := make_run k (by omega)
  rw [hkk] at *
  generalize pa (gv l at_) = qa at *
  generalize fv qa k = qf at *
  generalize gv l at_ = x at *
  generalize hp.gb l at_ = y at *
  generalize gv l (at_ + k) = x2 at *
  generalize nm a qa = x3 at *
  clear hn1 hn2 hk hkk
  go_enter Try.func118, Try.ntmps118
  go_upto_region 1 with fail
  change Code.wp _ _ _ _ (wr.alloc ZT)
  rw [← HW.out.1, ← HW.out.2]
  go_wp2_with fail
  refine hg.mono ?_; rintro e w' ⟨rfl, rfl⟩
  go_wp2_with fail
  refine (hpa _).mono ?_; rintro e w' ⟨rfl, rfl⟩
  go_wp2_with fail
  refine (hfu _).mono ?_; rintro e w' ⟨rfl, rfl⟩
  go_wp2_with fail
  refine hna.mono ?_; rintro e w' ⟨rfl, rfl⟩
  go_wp2_with fail
  refine hg2.mono ?_; rintro e w' ⟨rfl, rfl⟩
  go_upto_region 10 with fail
  obtain ⟨b, hbk⟩ : ∃ b, b = w1.heap.size := ⟨_, rfl⟩
  have X2 := Lib.hid (Nx.alloc ((frPG fC).tim (Fr.blk _ _)) X1.out (.cells (MC k) 36))
  obtain ⟨w2, hw2⟩ : ∃ w2, w2 = w1.alloc (.cells (MC k) 36) := ⟨_, rfl⟩
  have hmk1 := hmk w1
  rw [← hbk, ← hw2] at X2 hmk1; clear hmk
  have X3 := Lib.hid (Nx.imp_ X2.out fun _ => Tim.rot)
  clear hw2 hbk z0 z1 z2 z3 z4 z5 f0 f1 f2 f3 f4 f5
  obtain ⟨⟨z0, z1, z2, z3, z4, z5⟩, f0, f1, f2, f3, f4, f5⟩ := blk_facts (Nx.box X3.out)
  go_wp2_with fail
  obtain ⟨W, hW, e0, e1, e2, e3, e4, e5, k6⟩ := res_fin (Nx.box X3.out) (.int .i64 5) (.string x3) (.int .i64 0) (.int .u64 0) (.int .u64 0) (.slice (some ⟨b, 0, none⟩) k k)
  rw [hW]
  exact bodyPost_ret (v := .tuple #[cv x3 b k, .bool true]) (by simp [results, Try.results118, go_sem, e0, e1, e2, e3, e4, e5]) rfl ⟨b, rfl, Nx.res ((frPG fC).tim (Fr.blk _ _)) X3.out k6⟩
end
end Go.Proofs.Ythableojkjhicaa.pgt
