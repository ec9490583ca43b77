/- Package term: sameNode, Same, Variant. -/
import Derived.Test.YtjgkgceigbimoaaSm
import Derived.Test.YtjgkgceigbimoaaRen
import Derived.Deep.LoopGhost
import Derived.Deep.CutRange
import Derived.Deep.RegionWith
namespace Go.Proofs.Ytjgkgceigbimoaa.sme
set_option linter.unusedVariables false
open Go.ChangeShapes Go.WideShapes Go.ChangeAt Go.RowKit
open Go.Proofs.Ytjgkgceigbimoaa.tm Go.Proofs.Ytjgkgceigbimoaa.lie Go.Proofs.Ytjgkgceigbimoaa.kp Go.Proofs.Ytjgkgceigbimoaa.wlk Go.Proofs.Ytjgkgceigbimoaa.cur Go.Proofs.Ytjgkgceigbimoaa.mes Go.Proofs.Ytjgkgceigbimoaa.vrs Go.Proofs.Ytjgkgceigbimoaa.pla Go.Proofs.Ytjgkgceigbimoaa.ren
theorem tl_ne {x s : ByteArray} (h : x ≠ s) : (x.toList == s.toList) = false := by
  rw [beq_eq_false_iff_ne, ByteArray.toList_eq, ByteArray.toList_eq]
  intro e; apply h; apply ByteArray.ext; exact Array.ext' e
theorem bd (a b : Int) : (a == b) = decide (a = b) := by by_cases h : a = b <;> simp [h]
def snv (k k' : Int) (n n' : ByteArray) (i i' re re' im im' : Int) (len len' : Nat) : Bool :=
  decide (k = k') && (if k = 2 then decide (n = n') else if k = 4 then decide (re = re') && decide (im = im') else if k = 5 then decide (n = n') && decide (len = len') else decide (i = i'))
theorem sameNode_any (k k' : Int) (n n' : ByteArray) (i i' re re' im im' : Int) (a a' : Option Addr) (len len' c c' : Nat) (w : World) :
    Calls Try.prog 43 #[.agg #[.int .i64 k, .string n, .int .i64 i, .int .u64 re, .int .u64 im, .slice a len c], .agg #[.int .i64 k', .string n', .int .i64 i', .int .u64 re', .int .u64 im', .slice a' len' c']] w
      fun e w' => e = .returned (.bool (snv k k' n n' i i' re re' im im' len len')) ∧ Below w.heap.size w w' := by
  have hb : Below w.heap.size w ((w.alloc (.cells #[.int .i64 k, .string n, .int .i64 i, .int .u64 re, .int .u64 im, .slice a len c] 25)).alloc (.cells #[.int .i64 k', .string n', .int .i64 i', .int .u64 re', .int .u64 im', .slice a' len' c'] 25)) := bt (ba _ _) (ba _ _)
  have HB := Lib.hid hb
  clear hb
  by_cases hk : k = k'
  · subst hk
    by_cases h2 : k = 2
    · subst h2
      have HS : Hid (snv 2 2 n n' i i' re re' im im' len len' = decide (n = n')) := Lib.hid (by simp [snv])
      rw [HS.out]
      by_cases hn : n = n'
      · subst hn
        go_enter Try.func43, Try.ntmps43
        go_wp2_with fail
        go_ret
        exact ⟨rb (by simp), HB.out⟩
      · have q := tl_ne hn
        have HN := Lib.hid hn
        clear hn
        go_enter Try.func43, Try.ntmps43
        go_wp2_with fail
        go_ret
        exact ⟨rb (by simp [HN.out]), HB.out⟩
    have h2' : (k == 2) = false := by rw [beq_eq_false_iff_ne]; exact h2
    by_cases h4 : k = 4
    · subst h4
      have HS : Hid (snv 4 4 n n' i i' re re' im im' len len' = (decide (re = re') && decide (im = im'))) := Lib.hid (by simp [snv])
      rw [HS.out]
      by_cases hr : re = re'
      · subst hr
        go_enter Try.func43, Try.ntmps43
        go_wp2_with fail
        go_ret
        exact ⟨rb (by simp [bd]), HB.out⟩
      · have q : (re == re') = false := by rw [beq_eq_false_iff_ne]; exact hr
        have HR := Lib.hid hr
        clear hr
        go_enter Try.func43, Try.ntmps43
        go_wp2_with fail
        go_ret
        exact ⟨rb (by simp [HR.out]), HB.out⟩
    have h4' : (k == 4) = false := by rw [beq_eq_false_iff_ne]; exact h4
    by_cases h5 : k = 5
    · subst h5
      have HS : Hid (snv 5 5 n n' i i' re re' im im' len len' = (decide (n = n') && decide (len = len'))) := Lib.hid (by simp [snv])
      rw [HS.out]
      by_cases hn : n = n'
      · subst hn
        go_enter Try.func43, Try.ntmps43
        go_wp2_with fail
        go_ret
        exact ⟨rb (by simp [bd, Int.natCast_inj]), HB.out⟩
      · have q := tl_ne hn
        have HN := Lib.hid hn
        clear hn
        go_enter Try.func43, Try.ntmps43
        go_wp2_with fail
        go_ret
        exact ⟨rb (by simp [HN.out]), HB.out⟩
    have h5' : (k == 5) = false := by rw [beq_eq_false_iff_ne]; exact h5
    have HS : Hid (snv k k n n' i i' re re' im im' len len' = decide (i = i')) := Lib.hid (by simp [snv, h2, h4, h5])
    rw [HS.out]
    clear h2 h4 h5
    go_enter Try.func43, Try.ntmps43
    go_wp2_with fail
    go_ret
    exact ⟨rb (bd _ _), HB.out⟩
  · have HS : Hid (snv k k' n n' i i' re re' im im' len len' = false) := Lib.hid (by simp [snv, hk])
    have hk' : (k != k') = true := by rw [bne_iff_ne]; exact hk
    rw [HS.out]
    clear hk
    go_enter Try.func43, Try.ntmps43
    go_wp2_with fail
    go_ret
    exact ⟨rfl, HB.out⟩
/-- next, with what is told where there is no node -/
def NextQ (B r : Nat) (L : List (Tm × Nat)) (p : Nat) (F : Nat → Prop) (w : World) (e : Ending) (w' : World) : Prop :=
  ∃ k0 n0 i0 re0 im0 a0 l0 c0 d b, e = .returned (.tuple #[.agg #[.int .i64 k0, .string n0, .int .i64 i0, .int .u64 re0, .int .u64 im0, .slice a0 l0 c0], .int .i64 d, .bool b]) ∧ Keep F w w' ∧
    ((L = [] ∧ b = false ∧ k0 = 0) ∨ ∃ t k L' R' F', L = (t, k) :: L' ∧ b = true ∧ Lies (Off B r) w' t (.agg #[.int .i64 k0, .string n0, .int .i64 i0, .int .u64 re0, .int .u64 im0, .slice a0 l0 c0]) ∧ TWay B r w' p F' R' ∧ flat R' = L' ∧ R'.length ≤ k + 1 ∧ ∀ i, F' i → F i ∨ w.heap.size ≤ i)
theorem next_q (B r : Nat) (w : World) (p : Nat) (F : Nat → Prop) (R : List (List Tm)) (h : TWay B r w p F R) (h9 : R.length ≤ 1000) (hr : r < w.heap.size) :
    Calls Try.prog 42 #[.pointer (some ⟨p, 0, none⟩)] w (NextQ B r (flat R) p F w) := by
  rcases flat_cases R with ⟨h0, hR⟩ | ⟨R0, E, t, row, rfl, hE, hL⟩
  · refine (next_none B r w p F R h hR h9).mono fun e w' ⟨he, hk⟩ => ?_
    exact ⟨_, _, _, _, _, _, _, _, _, _, he, hk, Or.inl ⟨h0, rfl, rfl⟩⟩
  · have hl : (R0 ++ (t :: row) :: E).length = R0.length + 1 + E.length := by simp; omega
    refine (next_some B r w p F R0 E t row h hE (by omega) hr).mono fun e w' ⟨v, he, hv, F', hw, hk, hF⟩ => ?_
    have hv' := hv
    obtain ⟨k, n, i, re, im, l⟩ := t
    rw [Lies] at hv'
    obtain ⟨a, c, rfl, _⟩ := hv'
    refine ⟨_, _, _, _, _, _, _, _, _, _, he, hk, Or.inr ⟨_, _, _, _, F', hL, rfl, hv, hw, rfl, ?_, hF⟩⟩
    have := kids_len (Tm.mk k n i re im l)
    simp only [List.length_append, List.length_cons, List.length_nil]; omega
/-- both ways at once: what is still to come of each -/
def Two (B : Nat) (La Lb : List (Tm × Nat)) (pa pb : Nat) (w : World) : Prop :=
  ∃ Ra Rb Fa Fb ra rb, TWay B ra w pa Fa Ra ∧ TWay B rb w pb Fb Rb ∧ flat Ra = La ∧ flat Rb = Lb ∧ Ra.length ≤ 501 ∧ Rb.length ≤ 501 ∧ (∀ k, Fa k → ¬ Fb k) ∧ ¬ Fb ra ∧ ¬ Fa rb ∧ ra < w.heap.size ∧ rb < w.heap.size
/-- a way that has just begun, at world w -/
def Fresh (B : Nat) (t : Tm) (w : World) (p : Nat) (w' : World) : Prop := ∃ F r, TWay B r w' p F [[t]] ∧ (∀ k, F k → w.heap.size ≤ k) ∧ w.heap.size ≤ r ∧ r < w'.heap.size
theorem flat_one (t : Tm) : flat [[t]] = pre 1 t := by simp [flat, flatR, preL]
theorem Two.start {B : Nat} {a b : Tm} {w w1 w2 : World} {pa pb : Nat} (ha : Fresh B a w pa w1) (hb : Fresh B b w1 pb w2) (hk : Below w1.heap.size w1 w2) : Two B (pre 1 a) (pre 1 b) pa pb w2 ∧ Two B (pre 1 b) (pre 1 a) pb pa w2 := by
  obtain ⟨Fa, ra, ta, fa, ra1, ra2⟩ := ha
  obtain ⟨Fb, rb, tb, fb, rb1, rb2⟩ := hb
  have hs := hk.size
  have ta' := ta.keep (G := No) (Keep.of_below hk) (fun _ _ => id) (fun _ h => h.elim)
  have hd : ∀ k, Fa k → ¬ Fb k := fun k h1 h2 => by have := (ta.lt k h1).2.2; have := fb k h2; omega
  have h1 : ¬ Fb ra := fun h => by have := fb _ h; omega
  have h2 : ¬ Fa rb := fun h => by have := (ta.lt _ h).2.2; omega
  exact ⟨⟨_, _, Fa, Fb, ra, rb, ta', tb, flat_one a, flat_one b, by simp, by simp, hd, h1, h2, by omega, by omega⟩, ⟨_, _, Fb, Fa, rb, ra, tb, ta', flat_one b, flat_one a, by simp, by simp, fun k x y => hd k y x, h2, h1, by omega, by omega⟩⟩
theorem two_step {B ra rb pa pb : Nat} {Fa Fb Fa' Fb' : Nat → Prop} {Ra Rb Ra' Rb' : List (List Tm)} {w w1 x1 w2 w4 : World} (ha : TWay B ra w pa Fa Ra) (hb : TWay B rb w pb Fb Rb)
    (hd : ∀ k, Fa k → ¬ Fb k) (h1 : ¬ Fb ra) (h2 : ¬ Fa rb) (h3 : ra < w.heap.size) (h4 : rb < w.heap.size) (k1 : Keep Fa w w1) (ta : TWay B ra w1 pa Fa' Ra') (fa : ∀ i, Fa' i → Fa i ∨ w.heap.size ≤ i)
    (kx : Below w1.heap.size w1 x1) (k2 : Keep Fb x1 w2) (tb : TWay B rb w2 pb Fb' Rb') (fb : ∀ i, Fb' i → Fb i ∨ x1.heap.size ≤ i) (ky : Below w2.heap.size w2 w4) (la : Ra'.length ≤ 501) (lb : Rb'.length ≤ 501) :
    Two B (flat Ra') (flat Rb') pa pb w4 := by
  have s1 := k1.size; have sx := kx.size; have s2 := k2.size; have sy := ky.size
  have la1 := ha.lt; have lb1 := hb.lt; have lt1 := ta.lt; have lt2 := tb.lt
  have n1 : ∀ k, Fa' k → ¬ Fb k := fun k h h' => by
    rcases fa k h with e | e
    · exact hd k e h'
    · have := (lb1 k h').2.2; omega
  have ta2 := (ta.keep (G := No) (Keep.of_below kx) (fun _ _ => id) (fun _ h => h.elim)).keep k2 (fun k h => n1 k h) (fun k h => ⟨(lb1 k h).1, fun e => h1 (e ▸ h)⟩)
  have ta4 := ta2.keep (G := No) (Keep.of_below ky) (fun _ _ => id) (fun _ h => h.elim)
  have tb4 := tb.keep (G := No) (Keep.of_below ky) (fun _ _ => id) (fun _ h => h.elim)
  refine ⟨Ra', Rb', Fa', Fb', ra, rb, ta4, tb4, rfl, rfl, la, lb, fun k h h' => ?_, fun h => ?_, fun h => ?_, by omega, by omega⟩
  · rcases fb k h' with e | e
    · exact n1 k h e
    · have := (lt1 k h).2.2; omega
  · rcases fb _ h with e | e
    · exact h1 e
    · omega
  · rcases fa _ h with e | e
    · exact h2 e
    · omega
def Ok (L : List (Tm × Nat)) : Prop := ∀ x ∈ L, x.2 ≤ 500 ∧ chk x.1 = 0
theorem ok_pre {t : Tm} (h : good t = true) : Ok (pre 1 t) := by
  simp only [good, Bool.and_eq_true, decide_eq_true_eq] at h
  have f := pre_facts t 1
  intro x hx
  exact ⟨(f.2.2.2 500).2 (by omega) x hx, f.2.1.2 h.2 x hx⟩
def Rel (B pa pb : Nat) (a b : Tm) (w : World) (g : Nat) (wr : World) : Prop :=
  ∃ La Lb, g = La.length ∧ Two B La Lb pa pb wr ∧ Below B w wr ∧ pf La Lb = like a b ∧ Ok La ∧ Ok Lb
theorem snv_sn {X Y : Nat → Prop} {w w' : World} {t t' : Tm} {k k' : Int} {n n' : ByteArray} {i i' re re' im im' : Int} {a a' : Option Addr} {len len' c c' : Nat} (h : Lies X w t (.agg #[.int .i64 k, .string n, .int .i64 i, .int .u64 re, .int .u64 im, .slice a len c]))
    (h' : Lies Y w' t' (.agg #[.int .i64 k', .string n', .int .i64 i', .int .u64 re', .int .u64 im', .slice a' len' c'])) : snv k k' n n' i i' re re' im im' len len' = sn t t' := by
  obtain ⟨k1, n1, i1, re1, im1, l1⟩ := t
  obtain ⟨k2, n2, i2, re2, im2, l2⟩ := t'
  rw [Lies] at h h'
  obtain ⟨a1, c1, hv, _, _⟩ := h
  obtain ⟨a2, c2, hv', _, _⟩ := h'
  simp only [Value.agg.injEq, Array.mk.injEq, List.cons.injEq, Value.int.injEq, Value.string.injEq, Value.slice.injEq, and_true, true_and] at hv hv'
  obtain ⟨rfl, rfl, rfl, rfl, rfl, rfl, rfl, rfl⟩ := hv
  obtain ⟨rfl, rfl, rfl, rfl, rfl, rfl, rfl, rfl⟩ := hv'
  rfl
theorem kind_of {X : Nat → Prop} {w : World} {t : Tm} {k : Int} {n : ByteArray} {i re im : Int} {a : Option Addr} {len c : Nat} (h : Lies X w t (.agg #[.int .i64 k, .string n, .int .i64 i, .int .u64 re, .int .u64 im, .slice a len c])) : t.kind = k := by
  obtain ⟨k1, n1, i1, re1, im1, l1⟩ := t
  rw [Lies] at h
  obtain ⟨a1, c1, hv, _, _⟩ := h
  simp only [Value.agg.injEq, Array.mk.injEq, List.cons.injEq, Value.int.injEq, Value.string.injEq, Value.slice.injEq, and_true, true_and] at hv
  exact hv.1.symm
theorem two_box {w w1 : World} {o o' : Obj} (h : Below ((w.alloc o).alloc o').heap.size ((w.alloc o).alloc o') w1) : w1.heap[w.heap.size]? = some o ∧ w1.heap[w.heap.size + 1]? = some o' ∧ Below w.heap.size w w1 := by
  refine ⟨?_, ?_, bt (bt (ba _ _) (ba _ _)) h⟩
  · rw [h.block _ (by simp only [alloc_size]; omega), (ba (w.alloc o) o').block _ (by simp only [alloc_size]; omega)]
    exact alloc_at _ _
  · rw [h.block _ (by simp only [alloc_size]; omega)]
    have := alloc_at (w.alloc o) o'
    rwa [alloc_size] at this
/-- what is known of a world behind w: both boxes, both terms -/
def Know (w : World) (a b : Tm) (va vb : Value) (oa ob : Obj) (W : World) : Prop := W.heap[w.heap.size]? = some oa ∧ W.heap[w.heap.size + 1]? = some ob ∧ Below w.heap.size w W ∧ Lies (fun k => w.heap.size ≤ k) W a va ∧ Lies (fun k => w.heap.size ≤ k) W b vb
theorem Know.below {w W W' : World} {a b : Tm} {va vb : Value} {oa ob : Obj} (h : Know w a b va vb oa ob W) (k : Below W.heap.size W W') : Know w a b va vb oa ob W' := by
  obtain ⟨h1, h2, h3, h4, h5⟩ := h
  exact ⟨(k.block _ (Array.getElem?_eq_some_iff.1 h1).1).trans h1, (k.block _ (Array.getElem?_eq_some_iff.1 h2).1).trans h2, h3.trans (k.mono h3.size), h4.below k, h5.below k⟩
/-- behind the first way's step, its node in a new block: the other way is as it was -/
theorem two_next {B rb pb ra pa : Nat} {Fa Fb : Nat → Prop} {Ra Rb : List (List Tm)} {w w1 : World} {o : Obj} (ha : TWay B ra w pa Fa Ra) (hb : TWay B rb w pb Fb Rb) (hd : ∀ k, Fa k → ¬ Fb k) (h1 : ¬ Fb ra) (h4 : ¬ Fa rb ∧ ra < w.heap.size ∧ rb < w.heap.size) (k1 : Keep Fa w w1) :
    TWay B rb (w1.alloc o) pb Fb Rb ∧ (w1.alloc o).heap[w1.heap.size]? = some o ∧ rb < (w1.alloc o).heap.size ∧ ∀ w2, Keep Fb (w1.alloc o) w2 → w2.heap[w1.heap.size]? = some o := by
  have la := ha.lt; have lb := hb.lt; have s1 := k1.size
  have hb1 := hb.keep k1 (fun k h h' => hd k h' h) (fun k h => ⟨(la k h).1, fun e => h4.1 (e ▸ h)⟩)
  refine ⟨hb1.keep (G := No) (Keep.of_below (ba _ _)) (fun _ _ => id) (fun _ h => h.elim), alloc_at _ _, by rw [alloc_size]; omega, fun w2 k2 => ?_⟩
  rw [k2.block _ (by rw [alloc_size]; omega) fun h => by have := (lb _ h).2.2; omega]
  exact alloc_at _ _
set_option maxRecDepth 100000 in
set_option maxHeartbeats 1000000 in
theorem same_any (a b : Tm) (va vb : Value) (w : World) (ha : Lies No w a va) (hb : Lies No w b vb) : Calls Try.prog 20 #[va, vb] w fun e w' => e = .returned (.bool (sameB a b)) ∧ Below w.heap.size w w' := by
  have ha0 : Lies (fun k => w.heap.size ≤ k) w a va := ha.off fun b h1 h2 => absurd h1 (by omega)
  have hb0 : Lies (fun k => w.heap.size ≤ k) w b vb := hb.off fun b h1 h2 => absurd h1 (by omega)
  obtain ⟨A, hA⟩ : ∃ A, A = a := ⟨_, rfl⟩
  obtain ⟨B, hB⟩ : ∃ B, B = b := ⟨_, rfl⟩
  obtain ⟨k, n, i, re, im, l⟩ := a
  obtain ⟨k', n', i', re', im', l'⟩ := b
  rw [← hA, ← hB]
  have HA := Lib.hid (show Lies No w A va from hA ▸ ha)
  have HB := Lib.hid (show Lies No w B vb from hB ▸ hb)
  rw [← hA] at ha0; rw [← hB] at hb0
  have HL := Lib.hid (And.intro ha0 hb0)
  rw [Lies] at ha hb
  obtain ⟨aa, c, rfl, hf, hr⟩ := ha
  obtain ⟨ab, c', rfl, hf', hr'⟩ := hb
  clear hf hr hf' hr' hA hB ha0 hb0
  have HX : ∀ w1, Below ((w.alloc (.cells #[.int .i64 k, .string n, .int .i64 i, .int .u64 re, .int .u64 im, .slice aa l.length c] 25)).alloc (.cells #[.int .i64 k', .string n', .int .i64 i', .int .u64 re', .int .u64 im', .slice ab l'.length c'] 25)).heap.size ((w.alloc (.cells #[.int .i64 k, .string n, .int .i64 i, .int .u64 re, .int .u64 im, .slice aa l.length c] 25)).alloc (.cells #[.int .i64 k', .string n', .int .i64 i', .int .u64 re', .int .u64 im', .slice ab l'.length c'] 25)) w1 →
      Know w A B (.agg #[.int .i64 k, .string n, .int .i64 i, .int .u64 re, .int .u64 im, .slice aa l.length c]) (.agg #[.int .i64 k', .string n', .int .i64 i', .int .u64 re', .int .u64 im', .slice ab l'.length c']) (.cells #[.int .i64 k, .string n, .int .i64 i, .int .u64 re, .int .u64 im, .slice aa l.length c] 25) (.cells #[.int .i64 k', .string n', .int .i64 i', .int .u64 re', .int .u64 im', .slice ab l'.length c'] 25) w1 := by
    intro w1 h
    obtain ⟨h1, h2, h3⟩ := two_box h
    exact ⟨h1, h2, h3, HL.out.1.below h3, HL.out.2.below h3⟩
  have HXH := Lib.hid HX
  clear HX
  cases hga : good A
  · have HS : Hid (sameB A B = false) := Lib.hid (by simp [sameB, hga])
    have hne : (may A != 0) = true := by rw [bne_iff_ne]; have := may_nogood hga; omega
    rw [HS.out]
    clear hga
    go_enter Try.func20, Try.ntmps20
    go_wp2_with fail
    refine (may_any _ _ _ ((HA.out.below (ba _ _)).below (ba _ _))).mono ?_
    rintro e w1 ⟨rfl, hb⟩
    have HK := Lib.hid (HXH.out _ hb)
    clear hb
    go_wp2_with fail
    go_ret
    exact ⟨rfl, HK.out.2.2.1⟩
  cases hgb : good B
  · have HS : Hid (sameB A B = false) := Lib.hid (by simp [sameB, hgb])
    have hne : (may B != 0) = true := by rw [bne_iff_ne]; have := may_nogood hgb; omega
    rw [HS.out]
    have HG := Lib.hid hga
    clear hga hgb
    go_enter Try.func20, Try.ntmps20
    go_wp2_with fail
    refine (may_ok HG.out _ _ ((HA.out.below (ba _ _)).below (ba _ _))).mono ?_
    rintro e w1 ⟨rfl, hb⟩
    have HK := Lib.hid (HXH.out _ hb)
    obtain ⟨⟨e0, e1, e2, e3, e4, e5⟩, _⟩ := blk_facts HK.out.2.1
    clear hb
    go_wp2_with fail
    refine (may_any _ _ _ (HK.out.2.2.2.2.off fun _ _ h => h.elim)).mono ?_
    rintro e w2 ⟨rfl, hb⟩
    have HK2 := Lib.hid (HK.out.below hb)
    clear hb
    go_wp2_with fail
    go_ret
    exact ⟨rfl, HK2.out.2.2.1⟩
  have HG := Lib.hid (And.intro hga hgb)
  have HS : Hid (sameB A B = like A B) := Lib.hid (by simp [sameB, hga, hgb])
  rw [HS.out]
  clear hga hgb
  go_enter Try.func20, Try.ntmps20
  go_wp2_with fail
  refine (may_ok HG.out.1 _ _ ((HA.out.below (ba _ _)).below (ba _ _))).mono ?_
  rintro e w1 ⟨rfl, hb⟩
  have HK := Lib.hid (HXH.out _ hb)
  obtain ⟨⟨e0, e1, e2, e3, e4, e5⟩, _⟩ := blk_facts HK.out.2.1
  clear hb
  go_wp2_with fail
  refine (may_ok HG.out.2 _ _ (HK.out.2.2.2.2.off fun _ _ h => h.elim)).mono ?_
  rintro e w2 ⟨rfl, hb⟩
  have HK2 := Lib.hid (HK.out.below hb)
  clear hb e0 e1 e2 e3 e4 e5
  go_upto_region 3 with fail
  go_cut [5, 6] from 21 to 24 (fun s5 s6 wx => ∃ pa pb, s5 = .pointer (some ⟨pa, 0, none⟩) ∧ s6 = .pointer (some ⟨pb, 0, none⟩) ∧ Two w.heap.size (pre 1 A) (pre 1 B) pa pb wx ∧ Below w.heap.size w wx)
  case first =>
    have LL := Lib.hid (HK2.out.below (bdr w2))
    obtain ⟨⟨e0, e1, e2, e3, e4, e5⟩, _⟩ := blk_facts LL.out.1
    obtain ⟨⟨f0, f1, f2, f3, f4, f5⟩, _⟩ := blk_facts LL.out.2.1
    go_region_with (first
      | (go_at_call_of 41 (Value.slice aa l.length c); refine (begin_any w.heap.size A _ _ ?_ ?_).mono ?_; exact LL.out.2.2.1.size; exact LL.out.2.2.2.1; rintro e wN ⟨p, F, r, rfl, hw, hbN, hF, hr1, hr2⟩; have HFA := Lib.hid (show Fresh _ A _ p wN from ⟨F, r, hw, hF, hr1, hr2⟩); have HBA := Lib.hid hbN; have LL := Lib.hid (LL.out.below hbN); obtain ⟨⟨e0, e1, e2, e3, e4, e5⟩, _⟩ := blk_facts LL.out.1; obtain ⟨⟨f0, f1, f2, f3, f4, f5⟩, _⟩ := blk_facts LL.out.2.1; clear hw hbN hF hr1 hr2)
      | (go_at_call_of 41 (Value.slice ab l'.length c'); refine (begin_any w.heap.size B _ _ ?_ ?_).mono ?_; exact LL.out.2.2.1.size; exact LL.out.2.2.2.2; rintro e wN ⟨p, F, r, rfl, hw, hbN, hF, hr1, hr2⟩; have HFB := Lib.hid (show Fresh _ B _ p wN from ⟨F, r, hw, hF, hr1, hr2⟩); have HBB := Lib.hid hbN; have LL := Lib.hid (LL.out.below hbN); obtain ⟨⟨e0, e1, e2, e3, e4, e5⟩, _⟩ := blk_facts LL.out.1; obtain ⟨⟨f0, f1, f2, f3, f4, f5⟩, _⟩ := blk_facts LL.out.2.1; clear hw hbN hF hr1 hr2))
    all_goals go_wp2_with fail
    all_goals go_meet
    all_goals first | exact ⟨_, _, rfl, rfl, (Two.start HFA.out HFB.out HBB.out).1, LL.out.2.2.1⟩ | exact ⟨_, _, rfl, rfl, (Two.start HFB.out HFA.out HBA.out).2, LL.out.2.2.1⟩
  case rest =>
    obtain ⟨pa, pb, rfl, rfl, hT, hb⟩ := hcut
    have H0 := Lib.hid (show Rel w.heap.size pa pb A B w (pre 1 A).length _ from ⟨_, _, rfl, hT, hb, pf_like (good_sound HG.out.1) (good_sound HG.out.2), ok_pre HG.out.1, ok_pre HG.out.2⟩)
    clear hT hb
    go_wp2_with fail
    go_loopg [] (pre 1 A).length (Rel w.heap.size pa pb A B w)
    case atStart => exact H0.out
    case round =>
      obtain ⟨La, Lb, rfl, ⟨Ra, Rb, Fa, Fb, ra, rb', hta, htb, rfl, rfl, hla, hlb, hd, h1, h2, h3, h4⟩, hb, hpf, oka, okb⟩ := hrel
      have HR := Lib.hid (And.intro hta (And.intro htb (And.intro hla (And.intro hlb (And.intro hd (And.intro h1 (And.intro h2 (And.intro h3 h4))))))))
      have HQ := Lib.hid (And.intro hb (And.intro hpf (And.intro oka okb)))
      clear hta htb hla hlb hd h1 h2 h3 h4 hb hpf oka okb
      go_wp2_with fail
      refine (next_q w.heap.size ra wr pa Fa Ra HR.out.1 (by have := HR.out.2.2.1; omega) HR.out.2.2.2.2.2.2.2.1).mono ?_
      rintro e w1 ⟨k0, n0, i0, re0, im0, a0, l0, c0, d, b, rfl, hk1, hca⟩
      have HK1 := Lib.hid hk1
      have hx1 := two_next (o := .cells #[.int .i64 k0, .string n0, .int .i64 i0, .int .u64 re0, .int .u64 im0, .slice a0 l0 c0] 25) HR.out.1 HR.out.2.1 HR.out.2.2.2.2.1 HR.out.2.2.2.2.2.1 HR.out.2.2.2.2.2.2 hk1
      have HX1 := Lib.hid hx1
      clear hk1 hx1
      rcases hca with ⟨hL, rfl, hk0⟩ | ⟨ta, ka, La', Ra', Fa', hL, rfl, hLa, hta', hfa, hla', hFa⟩
      · have HLn := Lib.hid (And.intro hL hk0)
        clear hL hk0
        go_wp2_with fail
        refine (next_q w.heap.size rb' _ pb Fb Rb HX1.out.1 (by have := HR.out.2.2.2.1; omega) HX1.out.2.2.1).mono ?_
        rintro e w2 ⟨k1, n1, i1, re1, im1, a1, l1, c1, d1, b1, rfl, hk2, hcb⟩
        have HK2' := Lib.hid hk2
        clear hk2 hcb
        go_wp2_with fail
        go_ret
        refine ⟨rb ?_, ?_⟩
        · rw [← HQ.out.2.1, HLn.out.1]
          rfl
        · have s1 := HK1.out.size; have s2 := HK2'.out.size; have sb := HQ.out.1.size
          have la := HR.out.1.lt; have lb := HR.out.2.1.lt
          exact ((HQ.out.1.trans (HK1.out.to_below (fun i h => (la i h).1) sb)).trans (((ba w1 _).mono (by omega)).trans (HK2'.out.to_below (fun i h => (lb i h).1) (by rw [alloc_size] at *; omega)))).trans ((ba w2 _).mono (by rw [alloc_size] at *; omega))
      · have HLa := Lib.hid (And.intro hL (And.intro hLa (And.intro hta' (And.intro hfa (And.intro hla' hFa)))))
        clear hL hLa hta' hfa hla' hFa
        go_wp2_with fail
        refine (next_q w.heap.size rb' _ pb Fb Rb HX1.out.1 (by have := HR.out.2.2.2.1; omega) HX1.out.2.2.1).mono ?_
        rintro e w2 ⟨k1, n1, i1, re1, im1, a1, l1, c1, d1, b1, rfl, hk2, hcb⟩
        have HK2' := Lib.hid (And.intro hk2 hcb)
        have hbx := ((ba w2 (.cells #[.int .i64 k1, .string n1, .int .i64 i1, .int .u64 re1, .int .u64 im1, .slice a1 l1 c1] 25)).block w1.heap.size (Array.getElem?_eq_some_iff.1 (HX1.out.2.2.2 w2 hk2)).1).trans (HX1.out.2.2.2 w2 hk2)
        obtain ⟨⟨x0, x1, x2, x3, x4, x5⟩, _⟩ := blk_facts hbx
        clear hk2 hcb hbx
        go_wp2_with fail
        refine (sameNode_any _ _ _ _ _ _ _ _ _ _ _ _ _ _ _ _ _).mono ?_
        rintro e w4 ⟨rfl, hb4⟩
        have HB4 := Lib.hid hb4
        clear hb4 x0 x1 x2 x3 x4 x5
        have hbig : Below w.heap.size w w4 := by
          have s1 := HK1.out.size; have s2 := HK2'.out.1.size; have sb := HQ.out.1.size
          have la := HR.out.1.lt; have lb := HR.out.2.1.lt
          have hy := HB4.out
          rw [alloc_size] at s2 hy
          exact (((HQ.out.1.trans (HK1.out.to_below (fun i h => (la i h).1) sb)).trans (((ba w1 _).mono (by omega)).trans (HK2'.out.1.to_below (fun i h => (lb i h).1) (by rw [alloc_size]; omega)))).trans ((ba w2 _).mono (by omega))).trans (hy.mono (by omega))
        have HBG := Lib.hid hbig
        clear hbig
        cases hs : snv k0 k1 n0 n1 i0 i1 re0 re1 im0 im1 l0 l1
        · have hs := Lib.hid hs
          go_wp2_with fail
          go_ret
          refine ⟨rb ?_, HBG.out⟩
          rw [← HQ.out.2.1, HLa.out.1]
          rcases HK2'.out.2 with ⟨hL, _, _⟩ | ⟨tb, kb, Lb', Rb', Fb', hL, _, hLb, _⟩
          · rw [hL]; rfl
          · rw [hL, pf, ← snv_sn HLa.out.2.1 hLb, hs.out]; rfl
        · have hs := Lib.hid hs
          go_wp2_with fail
          rcases HK2'.out.2 with ⟨hL, _, h0⟩ | ⟨tb, kb, Lb', Rb', Fb', hL, _, hLb, htb', hfb, hlb', hFb⟩
          · exfalso
            have hk := hs.out
            simp only [snv, Bool.and_eq_true, decide_eq_true_eq] at hk
            have e1 := kind_of HLa.out.2.1
            have e2 := chk_kind (HQ.out.2.2.1 _ (by rw [HLa.out.1]; exact List.mem_cons_self)).2
            simp only [e1] at e2
            omega
          · have HLb := Lib.hid (And.intro hL (And.intro hLb (And.intro htb' (And.intro hfb (And.intro hlb' hFb)))))
            clear hL hLb htb' hfb hlb' hFb
            go_roundg La'.length
            case measure => rw [HLa.out.1]; simp
            case rel =>
              have oka := HQ.out.2.2.1; have okb := HQ.out.2.2.2
              rw [HLa.out.1] at oka; rw [HLb.out.1] at okb
              have ka500 := (oka _ List.mem_cons_self).1
              have kb500 := (okb _ List.mem_cons_self).1
              have la5 := HLa.out.2.2.2.2.1; have lb5 := HLb.out.2.2.2.2.1
              simp only at ka500 kb500
              have ts := two_step HR.out.1 HR.out.2.1 HR.out.2.2.2.2.1 HR.out.2.2.2.2.2.1 HR.out.2.2.2.2.2.2.1 HR.out.2.2.2.2.2.2.2.1 HR.out.2.2.2.2.2.2.2.2 HK1.out HLa.out.2.2.1 HLa.out.2.2.2.2.2 (ba w1 _) HK2'.out.1 HLb.out.2.2.1 HLb.out.2.2.2.2.2 (bt (ba w2 _) HB4.out) (by omega) (by omega)
              rw [HLa.out.2.2.2.1, HLb.out.2.2.2.1] at ts
              refine ⟨La', Lb', rfl, ts, HBG.out, ?_, fun x hx => oka x (List.mem_cons_of_mem _ hx), fun x hx => okb x (List.mem_cons_of_mem _ hx)⟩
              rw [← HQ.out.2.1, HLa.out.1, HLb.out.1, pf, ← snv_sn HLa.out.2.1 HLb.out.2.1, hs.out, Bool.true_and]
end Go.Proofs.Ytjgkgceigbimoaa.sme
