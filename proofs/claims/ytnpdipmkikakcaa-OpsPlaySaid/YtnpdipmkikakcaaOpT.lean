/- The reference's put. -/
import Derived.Test.YtnpdipmkikakcaaOpS
import Derived.Deep.RegionLaw
import Derived.StillTailTactics
namespace Go.Proofs.Ytnpdipmkikakcaa.opt
open Go.ChangeShapes Go.WideShapes Go.ChangeAt Go.RowKit
open Go.Proofs.Ytnpdipmkikakcaa.kp Go.Proofs.Ytnpdipmkikakcaa.opa Go.Proofs.Ytnpdipmkikakcaa.opb Go.Proofs.Ytnpdipmkikakcaa.opb2 Go.Proofs.Ytnpdipmkikakcaa.opc Go.Proofs.Ytnpdipmkikakcaa.opd Go.Proofs.Ytnpdipmkikakcaa.ope Go.Proofs.Ytnpdipmkikakcaa.opf Go.Proofs.Ytnpdipmkikakcaa.opg Go.Proofs.Ytnpdipmkikakcaa.oph Go.Proofs.Ytnpdipmkikakcaa.opq Go.Proofs.Ytnpdipmkikakcaa.opr Go.Proofs.Ytnpdipmkikakcaa.ops_
set_option linter.unusedVariables false
set_option linter.unusedSimpArgs false
/-- append to a row of one's own, of what may be nothing -/
theorem app_run {w : World} {B n : Nat} {v : Value} {xs : List Value} (hown : w.ownsRow B 32 3 v n xs) (ty : TypeId) (a2 : Option Addr) (m c2 : Nat) (news : List Value) (hl : news.length = m * 3)
    (hsrc : ∀ j u, news[j]? = some u → ∃ ad, a2 = some ad ∧ w.cell? (ad.add j) = some u) (h1 : ∀ u ∈ news, u.oneCell' = true) (hnm : n + m ≤ 10000) (hB : B ≤ w.heap.size) :
    ∃ v' w', (Builtin.append_ #[22, 22] ty #[v, .slice a2 m c2]).run Try.prog w = .ok v' w' ∧ w'.ownsRow B 32 3 v' (n + m) (xs ++ news) ∧ w.grownBy w' v.ownBlock ∧ (v'.ownBlock = v.ownBlock ∨ v'.ownBlock = some w.heap.size) := by
  obtain ⟨i, hi1, hi2, hi3, hi4⟩ := info_o
  have hu : Try.prog.underlying 22 = some (.slice 32) := Try.underlying22
  cases a2 with
  | some ad =>
    obtain ⟨v', w', h2, h3, h4, _, h5⟩ := run_append_own_at (P := Try.prog) w B 22 ty 32 i ZV 3 32 hu hi1 hi2 hi3 hi4 rfl (by decide) v n xs hown ad m c2 news hl (fun j u hj => by obtain ⟨ad', e, hc⟩ := hsrc j u hj; injection e with e; rw [e]; exact hc) h1 (by unfold maxLen; omega) (by omega) hB
    exact ⟨v', w', h2, h3, h4, h5⟩
  | none =>
    have hn : news = [] := by
      cases news with
      | nil => rfl
      | cons u r => obtain ⟨ad, e, _⟩ := hsrc 0 u rfl; cases e
    subst hn
    have hm : m = 0 := by simp at hl; omega
    subst hm
    refine ⟨v, w, ?_, by simpa using hown, ⟨rfl, rfl, rfl, Nat.le_refl _, fun _ _ _ => rfl⟩, Or.inl rfl⟩
    rcases hown.2 with ⟨rfl, rfl⟩ | ⟨g, cap, cur, rfl, _, _, hnc, _⟩
    · simp [Builtin.append_, run_underlying hu, Builtin.lenOf, Builtin.firstCells, sizeOf, typeInfo, hi1, loadCells, loadCellsFrom, storeCells]
    · simp [Builtin.append_, run_underlying hu, Builtin.lenOf, Builtin.firstCells, sizeOf, typeInfo, hi1, hnc, loadCells, loadCellsFrom, storeCells]
theorem step_app {w : World} {ops : Array Oper} {o : Oper} {a : Act} {K : Act → World → Prop} {Q : Exit → Act → World → Prop} {E : Prop} (hgd : o.guard = none) (s x : Operand)
    (ho : o.op = .call { callee := .builtin .append, args := #[s, x], argTypes := #[22, 22] })
    {B n : Nat} {v : Value} {xs : List Value} (hs : a.eval s = v) (hown : w.ownsRow B 32 3 v n xs) {a2 : Option Addr} {m c2 : Nat} (news : List Value) (hx : a.eval x = .slice a2 m c2) (hl : news.length = m * 3)
    (hsrc : ∀ j u, news[j]? = some u → ∃ ad, a2 = some ad ∧ w.cell? (ad.add j) = some u) (h1 : ∀ u ∈ news, u.oneCell' = true) (hnm : n + m ≤ 10000) (hB : B ≤ w.heap.size)
    (h : ∀ v' w', w'.ownsRow B 32 3 v' (n + m) (xs ++ news) → w.grownBy w' v.ownBlock → (v'.ownBlock = v.ownBlock ∨ v'.ownBlock = some w.heap.size) → K (a.put o.dst v') w') :
    if Region.wanted o (yielded ops a.tmps) = true then Oper.wp Try.prog o a w K Q else E := by
  have hw : Region.wanted o (yielded ops a.tmps) = true := by simp [Region.wanted, hgd]
  rw [if_pos hw]
  obtain ⟨v', w', hr, h2, h3, h4⟩ := app_run hown o.type a2 m c2 news hl hsrc h1 hnm hB
  unfold Oper.wp
  simp [execOp, ho, resolve, invoke, builtin, hs, hx, hr, Result.andThen]
  exact h v' w' h2 h3 h4
/-- the table's slice, the box: in whatever has come of it -/
structure SP (w0 : World) (p b : Nat) (a : Option Addr) (c : Nat) (l : List D) (o : D) (w : World) : Prop where
  cell : w.heap[p]? = some (.cells #[.slice a l.length c] 30 (0, 0))
  row : Rw w a c l
  box : w.heap[b]? = some (.cells o.cs.toArray 32 (0, 0))
  bel : Below w0.heap.size w0 w
theorem SP.below {w0 w1 w2 : World} {p b : Nat} {a : Option Addr} {c : Nat} {l : List D} {o : D} (h : SP w0 p b a c l o w1) (hb : Below w1.heap.size w1 w2) : SP w0 p b a c l o w2 :=
  ⟨(hb.block _ (Array.getElem?_eq_some_iff.1 h.cell).1).trans h.cell, h.row.below hb, (hb.block _ (Array.getElem?_eq_some_iff.1 h.box).1).trans h.box, h.bel.trans (hb.mono h.bel.size)⟩
theorem src_lo {w : World} {a : Option Addr} {c : Nat} {l : List D} (h : Rw w a c l) (k : Nat) : ∀ j u, (flat (l.take k))[j]? = some u → ∃ ad, a = some ad ∧ w.cell? (ad.add j) = some u := by
  intro j u hj
  have hjl := (List.getElem?_eq_some_iff.1 hj).1
  rw [flat_len, List.length_take] at hjl
  obtain ⟨g, sp, rfl, hb⟩ := Rw.bk h (by omega)
  refine ⟨_, rfl, ?_⟩
  rw [add0]
  have := bk_cell hb 0 j u (by
    rw [List.drop_zero]
    rw [← flat_take, List.getElem?_take, if_pos (by omega)] at hj
    exact hj)
  rwa [Nat.zero_mul, Nat.zero_add] at this
theorem cut_hi2 (a : Option Addr) (n c k : Nat) (hk : k ≤ n) (hn : n ≤ c) : (∀ w, (Instr.slice 22 (.slice a n c) none (some (.int .i64 (k : Int))) none).run Try.prog w = .ok (.slice a k c) w) ∧
    (∀ w, (Instr.sliceAt 22 (.slice a n c) none (some (.int .i64 (k : Int))) none).run Try.prog w = .ok (.slice a k c) w) := by
  have r : ∀ w, (Instr.slice 22 (.slice a n c) none (some (.int .i64 (k : Int))) none).run Try.prog w = .ok (.slice a k c) w := fun w => by
    rw [run_slice_h w 22 _ _ _ und _ _ (by omega) (by omega), elT, szT]
    cases a with
    | none => simp [Result.andThen, sliced]
    | some p => simp [Result.andThen, sliced, Addr.add]
  exact ⟨r, fun w => by rw [run_sliceAt_slice _ _ _ _ _ _ und, r]⟩
theorem cut_lo2 (a : Option Addr) (n c k : Nat) (hk : k ≤ n) (hn : n ≤ c) : ∃ a', (∀ w, (Instr.slice 22 (.slice a n c) (some (.int .i64 (k : Int))) none none).run Try.prog w = .ok (.slice a' (n - k) (c - k)) w) ∧
    (∀ w, (Instr.sliceAt 22 (.slice a n c) (some (.int .i64 (k : Int))) none none).run Try.prog w = .ok (.slice a' (n - k) (c - k)) w) ∧ (k < n → ∀ g, a = some ⟨g, 0, none⟩ → a' = some ⟨g, k * 3, none⟩) := by
  obtain ⟨a', ha'⟩ : ∃ a', a' = (if k = c then a else a.map fun p => p.add (k * 3)) := ⟨_, rfl⟩
  have r : ∀ w, (Instr.slice 22 (.slice a n c) (some (.int .i64 (k : Int))) none none).run Try.prog w = .ok (.slice a' (n - k) (c - k)) w := fun w => by
    rw [run_slice_l w 22 _ _ _ und _ _ (by omega) (by omega), elT, szT, ha']
    cases a with
    | none => simp [Result.andThen, sliced]
    | some p =>
      by_cases e : k = c
      · simp [Result.andThen, sliced, e]
      · simp [Result.andThen, sliced, e, Ne.symm e]
  refine ⟨a', r, fun w => by rw [run_sliceAt_slice _ _ _ _ _ _ und, r], fun q g e => ?_⟩
  rw [ha', if_neg (by omega), e]
  simp [add0]
theorem src_hi {w : World} {a a' : Option Addr} {c k : Nat} {l : List D} (h : Rw w a c l) (ha : k < l.length → ∀ g, a = some ⟨g, 0, none⟩ → a' = some ⟨g, k * 3, none⟩) : ∀ j u, (flat (l.drop k))[j]? = some u → ∃ ad, a' = some ad ∧ w.cell? (ad.add j) = some u := by
  intro j u hj
  have hjl := (List.getElem?_eq_some_iff.1 hj).1
  rw [flat_len, List.length_drop] at hjl
  obtain ⟨g, sp, rfl, hb⟩ := Rw.bk h (by omega)
  refine ⟨_, ha (by omega) g rfl, ?_⟩
  rw [addo]
  exact bk_cell hb k j u hj
theorem Cl7 {w0 w : World} {a b c d e f g : Nat × Nat × Value} (h : Cl w0 [a, b, c, d, e, f, g] w) : Cy w a ∧ Cy w b ∧ Cy w c ∧ Cy w d ∧ Cy w e ∧ Cy w f ∧ Cy w g := ⟨h.at_ a (by simp), h.at_ b (by simp), h.at_ c (by simp), h.at_ d (by simp), h.at_ e (by simp), h.at_ f (by simp), h.at_ g (by simp)⟩
/-- put's loop -/
def PL (w0 : World) (p b : Nat) (a : Option Addr) (c : Nat) (l : List D) (o : D) (g : Nat) (s : Value) (wr : World) : Prop :=
  ∃ k : Nat, k ≤ l.length ∧ g = l.length - k ∧ s = .int .i64 k ∧ (∀ m (h : m < l.length), m < k → cd l[m] o < 0) ∧ SP w0 p b a c l o wr
theorem at_end {l : List D} (hs : Srt l) {o : D} (hn : is l o = false) {k : Nat} (hk : k ≤ l.length) (h1 : ∀ m (h : m < l.length), m < k → cd l[m] o < 0) (h2 : ∀ h : k < l.length, ¬ cd l[k] o < 0) : ix l o = k := by
  refine ix_of hk h1 fun m hm hle hcd => ?_
  by_cases e : k = m
  · subst e; exact h2 hm hcd
  · have := List.pairwise_iff_getElem.1 hs k m (by omega) hm (by omega)
    exact h2 (by omega) (cd_trans this hcd)
theorem BNal {wN X : World} (h : Below wN.heap.size wN X) (o : Obj) : Below wN.heap.size wN (X.alloc o) := h.trans ((ba _ _).mono h.size)
theorem BNgr {wN X Y : World} {row : Option Nat} (h : Below wN.heap.size wN X) (g : X.grownBy Y row) (hr : ∀ k, row = some k → wN.heap.size ≤ k) : Below wN.heap.size wN Y :=
  h.trans ((Keep.of_grown (F := fun k => row = some k) g fun k e => e).to_below hr h.size)
theorem ow_alloc {w : World} {B n : Nat} {v : Value} {xs : List Value} (h : w.ownsRow B 32 3 v n xs) (o : Obj) : (w.alloc o).ownsRow B 32 3 v n xs := h.alloc o
theorem rput_end {w wN w3 : World} {p i : Nat} {F : Nat → Prop} {l : List D} {o : D} {a a9 : Option Addr} {c c9 : Nat} (h : RTb w p F l) (hsp : SP w p w.heap.size a c l o wN) (hie : l.take i ++ o :: l.drop i = ins l o) (hi : i ≤ l.length)
    (h3 : w3.ownsRow wN.heap.size 32 3 (.slice a9 (0 + i + 1 + (l.length - i)) c9) (0 + i + 1 + (l.length - i)) ([] ++ flat (l.take i) ++ D.cs o ++ flat (l.drop i))) (hB : Below wN.heap.size wN w3) :
    RNext w p F (ins l o) (w3.setCell ⟨p, 0, none⟩ (.slice a9 (i + 1 + (l.length - i)) c9)) := by
  have hlen : (ins l o).length = i + 1 + (l.length - i) := by rw [← hie]; simp only [List.length_append, List.length_cons, List.length_take, List.length_drop]; omega
  have hfl : [] ++ flat (l.take i) ++ D.cs o ++ flat (l.drop i) = flat (ins l o) := by rw [← hie]; simp [flat]
  obtain ⟨a0, c0, hp, hr0, h1, hF⟩ := h.ex
  have hpl := (Array.getElem?_eq_some_iff.1 hp).1
  have hcell := hsp.cell
  rw [hsp.bel.block p hpl, hp] at hcell
  have ec := (one_cell hp).1
  have hlt := World.ownsRow.lt h3
  have hrw : Rw w3 a9 c9 (ins l o) := by
    unfold Rw
    rw [hlen, ← hfl, show i + 1 + (l.length - i) = 0 + i + 1 + (l.length - i) by omega]
    exact ⟨h3.1, h3.2.imp id (fun ⟨g, cap, cur, a, b, r⟩ => ⟨g, cap, cur, a, Nat.zero_le _, r⟩)⟩
  have hsz := hsp.bel.size
  have hpN := (Array.getElem?_eq_some_iff.1 hsp.cell).1
  have := RNext.put h ec (Keep.of_below ((hsp.bel.trans (hB.mono hsp.bel.size)))) hrw (fun k e => Or.inr (by
    rw [hlen, show i + 1 + (l.length - i) = 0 + i + 1 + (l.length - i) by omega] at e
    exact Nat.le_trans hsz (hlt k e).1))
  rw [hlen] at this
  exact this
set_option maxRecDepth 100000 in
set_option maxHeartbeats 16000000 in
theorem rput_any {p : Nat} {F : Nat → Prop} {l : List D} (o : D) (w : World) (h : RTb w p F l) (hs : Srt l) (hn : is l o = false) (hl : l.length ≤ 1000) :
    Calls Try.prog 25 #[.pointer (some ⟨p, 0, none⟩), o.v] w fun e w' => e = .returned (.tuple #[]) ∧ RNext w p F (ins l o) w' := by
  obtain ⟨a, c, hpb, hrw, hown, hF⟩ := h.ex
  have hcap := hrw.caps
  have h0 : SP w p w.heap.size a c l o (w.alloc (.cells o.cs.toArray 32)) := ⟨((ba w _).block _ (Array.getElem?_eq_some_iff.1 hpb).1).trans hpb, hrw.below (ba _ _), alloc_at _ _, ba _ _⟩
  have H0 := Lib.hid (And.intro h0 (And.intro h (And.intro hs (And.intro hn (And.intro hown hF)))))
  have HL := Lib.hid (And.intro hl hcap)
  obtain ⟨n, k, q⟩ := o
  simp only [D.v]
  clear hpb hrw hown hF h0 h hs hn hl hcap
  go_enter Try.func25, Try.ntmps25
  go_wp2_with fail
  go_loopg [4] l.length (PL w p w.heap.size a c l ⟨n, k, q⟩)
  case atStart => exact ⟨0, by omega, by omega, rfl, by omega, H0.out.1⟩
  case round =>
    obtain ⟨i, hi, rfl, rfl, hlo, hsp⟩ := hrel
    obtain ⟨f0, g0⟩ := one_cell hsp.cell
    obtain ⟨z0, z1, z2, _⟩ := box_cells hsp.box
    have HP := Lib.hid (And.intro hlo hsp)
    have key : (∃ hlt : i < l.length, cd l[i] ⟨n, k, q⟩ < 0) ∨ (∃ hlt : i < l.length, ¬ cd l[i] ⟨n, k, q⟩ < 0) ∨ ¬ i < l.length := by
      by_cases h1 : i < l.length
      · by_cases h2 : cd l[i] ⟨n, k, q⟩ < 0
        · exact Or.inl ⟨h1, h2⟩
        · exact Or.inr (Or.inl ⟨h1, h2⟩)
      · exact Or.inr (Or.inr h1)
    rcases key with ⟨hlt, hz⟩ | ⟨hlt, hz⟩ | hlt
    case' inl =>
      have hbf := fun W => rbefore_any l[i] ⟨n, k, q⟩ W
      rw [decide_eq_true hz] at hbf
    case' inr.inl =>
      have hbf := fun W => rbefore_any l[i] ⟨n, k, q⟩ W
      rw [decide_eq_false hz] at hbf
      have HI := Lib.hid (at_end H0.out.2.2.1 H0.out.2.2.2.1 hi HP.out.1 (fun _ => hz))
    case' inr.inr =>
      have hg : decide ((i : Int) < l.length) = false := decide_eq_false (by omega)
      have HI := Lib.hid (at_end H0.out.2.2.1 H0.out.2.2.2.1 hi HP.out.1 (fun h => absurd h hlt))
      clear hlo hsp
      go_wp2_with fail
      go_quiet (fail)
      obtain ⟨wN, hwN⟩ : ∃ wN, wN = wr.drewN nq := ⟨_, rfl⟩
      have HS5 : Hid (SP w p w.heap.size a c l ⟨n, k, q⟩ wN) := Lib.hid (by rw [hwN]; exact HP.out.2.below (drewN_below _ _))
      rw [← hwN]
      clear hwN f0 g0 z0 z1 z2 hg hlt
    case' inl | inr.inl =>
      have hg : decide ((i : Int) < l.length) = true := decide_eq_true (by omega)
      obtain ⟨P, hP, _, e0, e1, e2, _, hix⟩ := hsp.row.look hlt
      have HZ := Lib.hid hz
      obtain ⟨x, hx⟩ : ∃ x, x = l[i] := ⟨_, rfl⟩
      rw [← hx] at e0 e1 e2 hbf
      have hcl : Cl wr [(p, 0, .slice a l.length c), (P, i * 3, .string ⟨x.n.toArray⟩), (P, i * 3 + 1, .int .i64 x.k), (P, i * 3 + 2, .int .i64 x.p), (w.heap.size, 0, .string ⟨n.toArray⟩), (w.heap.size, 1, .int .i64 k), (w.heap.size, 2, .int .i64 q)] wr := ⟨by simp [f0, e0, e1, e2, z0, z1, z2], br _⟩
      simp only [D.v] at hbf
      have HBF := Lib.hid hbf
      clear hlo hsp hx hP hz hbf
      go_wp2_with fail
      go_region_held3 (fun w' => w'.cell? ⟨p, 0, none⟩ = some (.slice a l.length c) ∧ w'.cell? ⟨P, i * 3, none⟩ = some (.string ⟨x.n.toArray⟩) ∧ w'.cell? ⟨P, i * 3 + 1, none⟩ = some (.int .i64 x.k) ∧ w'.cell? ⟨P, i * 3 + 2, none⟩ = some (.int .i64 x.p) ∧ w'.cell? ⟨w.heap.size, 0, none⟩ = some (.string ⟨n.toArray⟩) ∧ w'.cell? ⟨w.heap.size, 1, none⟩ = some (.int .i64 k) ∧ w'.cell? ⟨w.heap.size, 2, none⟩ = some (.int .i64 q))
        (first | (exact Cl7 (by assumption)) | (exact Cl7 (Cl.drew (by assumption))) | go_keep)
        (first
          | (go_at_call 34; (with_reducible refine (HBF.out _).mono ?_); rintro e wN ⟨rfl, hbN⟩; have hCN := Cl.below (by (first | assumption | exact Cl.drew (by assumption))) hbN; clear hbN))
      have hbl := Cl.bel (by assumption : Cl wr [(p, 0, .slice a l.length c), (P, i * 3, .string ⟨x.n.toArray⟩), (P, i * 3 + 1, .int .i64 x.k), (P, i * 3 + 2, .int .i64 x.p), (w.heap.size, 0, .string ⟨n.toArray⟩), (w.heap.size, 1, .int .i64 k), (w.heap.size, 2, .int .i64 q)] wN)
      have HS5 := Lib.hid (HP.out.2.below hbl)
      clear hbl hcl hCN f0 g0 z0 z1 z2 e0 e1 e2 hix hg
    case' inl =>
      go_wp2_with fail
      go_roundg (l.length - (i + 1))
      case measure => omega
      case rel =>
        refine ⟨i + 1, hlt, rfl, by have := HL.out.1; first | rw [show wrap64 ((i : Int) + 1) = ((i + 1 : Nat) : Int) by unfold wrap64; omega] | go_num, ?_, HS5.out⟩
        intro m hm hmi
        by_cases e : m = i
        · subst e; exact HZ.out
        · exact HP.out.1 m hm (by omega)
    all_goals
      go_wp2_with fail
      have hix := HI.out
      have hie : l.take i ++ (⟨n, k, q⟩ : D) :: l.drop i = ins l ⟨n, k, q⟩ := by rw [← hix]; exact Go.Proofs.Ytnpdipmkikakcaa.opi.ins_eq H0.out.2.2.1 H0.out.2.2.2.1
      obtain ⟨f0, g0⟩ := one_cell HS5.out.cell
      obtain ⟨z0, z1, z2, _⟩ := box_cells HS5.out.box
      have hpl := (Array.getElem?_eq_some_iff.1 HS5.out.cell).1
      have hbl := (Array.getElem?_eq_some_iff.1 HS5.out.box).1
      obtain ⟨s1, s2⟩ := cut_hi2 a l.length c i hi HL.out.2.1
      obtain ⟨a', s3, s4, ha'⟩ := cut_lo2 a l.length c i hi HL.out.2.1
      obtain ⟨X1, hX1⟩ : ∃ X1, X1 = flat (l.take i) := ⟨_, rfl⟩
      have hX1l : X1.length = i * 3 := by rw [hX1, flat_len, List.length_take]; omega
      have hsp0 : SP w p w.heap.size a c l ⟨n, k, q⟩ wN.drew := HS5.out.below (bdr wN)
      have HR := Lib.hid (And.intro hie (And.intro ha' (And.intro hX1 hX1l)))
      clear hix hie ha' hX1 hX1l
      have hB0 : Below wN.heap.size wN wN.drew := bdr wN
      go_region_law (first
        | (refine step_app rfl (.const (.slice none 0 0)) (.tmp 31) rfl rfl (World.ownsRow_nil _ wN.heap.size _ _) (flat (l.take i)) rfl (by rw [flat_len, List.length_take]; omega) (src_lo (HS5.out.row.below (by first | assumption | exact BNal (by assumption) _)) i) (flat_one _) (by have := HL.out; omega) (by first | exact Below.size (by assumption) | exact Below.size (BNal (by assumption) _)) ?_; intro v1 w1 hown1 hgr1 hat1
           have hB1 := BNgr (by first | assumption | exact BNal (by assumption) _) hgr1 (fun k e => by cases e)
           have hSP1 := HS5.out.below hB1
           obtain ⟨fa, ga⟩ := one_cell hSP1.cell
           obtain ⟨za, zb, zc, _⟩ := box_cells hSP1.box
           have hpa := (Array.getElem?_eq_some_iff.1 hSP1.cell).1
           have hba := (Array.getElem?_eq_some_iff.1 hSP1.box).1
           (first | (have hbx1 := (hgr1.block _ (by simp) (show some wN.drew.heap.size ≠ (none : Option Nat) from fun e => by cases e)).trans (alloc_at wN.drew (.cells (D.cs ⟨n, k, q⟩).toArray 32))) | skip)
           have hown1' := Lib.hid hown1
           clear hown1 hgr1 hat1 hSP1)
        | (refine step_app rfl (.tmp 32) (.tmp 34) rfl rfl (by first | exact hown1'.out | exact ow_alloc hown1'.out _) (D.cs ⟨n, k, q⟩) rfl rfl (fun j u hj => ⟨_, rfl, box_at (by first | exact alloc_at _ _ | assumption) j u hj⟩) (cs_one _) (by have := HL.out; omega) (by first | exact Below.size (by assumption) | exact Below.size (BNal (by assumption) _)) ?_; intro v2 w2 hown2 hgr2 hat2
           have hB2 := BNgr (by first | assumption | exact BNal (by assumption) _) hgr2 (fun k e => (World.ownsRow.lt hown1'.out k e).1)
           have hSP2 := HS5.out.below hB2
           obtain ⟨fd, gd'⟩ := one_cell hSP2.cell
           have hpd := (Array.getElem?_eq_some_iff.1 hSP2.cell).1
           have hown2' := Lib.hid hown2
           clear hown2 hgr2 hat2 hSP2)
        | (refine step_app rfl (.tmp 35) (.tmp 41) rfl rfl hown2'.out (flat (l.drop i)) rfl (by rw [flat_len, List.length_drop]) (src_hi (HS5.out.row.below (by assumption)) HR.out.2.1) (flat_one _) (by have := HL.out; omega) (Below.size (by assumption)) ?_; intro v3 w3 hown3 hgr3 hat3
           have hB3 := BNgr (by assumption) hgr3 (fun k e => (World.ownsRow.lt hown2'.out k e).1)
           have hSP3 := HS5.out.below hB3
           obtain ⟨fe, ge⟩ := one_cell hSP3.cell
           obtain ⟨a9, c9, rfl⟩ := kp.shape hown3
           have hown3' := Lib.hid (And.intro hown3 hB3)
           clear hown3 hgr3 hat3 hSP3))
      all_goals
        go_wp2_with fail
        refine ⟨rfl, .tuple #[], results_none rfl _ _ _, rfl, ?_⟩
        exact rput_end H0.out.2.1 HS5.out HR.out.1 hi hown3'.out.1 hown3'.out.2
end Go.Proofs.Ytnpdipmkikakcaa.opt
