/- The law OrderSets holds: for every input its Go function returns true and leaves its arguments as they were. No condition beyond the row's own. -/
import Derived.Test.YtgkcbiabkpcblaaRows
import Derived.WalkKit
import Derived.ProofKit
import Derived.OpenShut
import Derived.SizedLaws
import Derived.Test.YtgkcbiabkpcblaaTOpen
import Derived.Test.YtgkcbiabkpcblaaLgt
import Derived.Test.YtgkcbiabkpcblaaOrW
import Derived.Test.YtgkcbiabkpcblaaOrK
import Derived.Deep.QuietTactic
import Derived.BigQuiet
import Derived.StillTailTactics
import Derived.Deep.LoopGhost
import Derived.Deep.RegionHeld3
namespace Go.Proofs.Ytgkcbiabkpcblaa.orderSets
open Go.ChangeShapes Go.WideShapes Go.ChangeAt Go.RowKit
open Go.ChangeMaps (open_string)
open Go.Proofs.Ytgkcbiabkpcblaa.tm Go.Proofs.Ytgkcbiabkpcblaa.lie Go.Proofs.Ytgkcbiabkpcblaa.kp Go.Proofs.Ytgkcbiabkpcblaa.top
set_option linter.unusedVariables false
theorem own : ownKnob Try.prog.godebug = none := by kernel_rfl
theorem laidOut : laidOutB Try.prog = true := by kernel_rfl
open Go.Proofs.Ytgkcbiabkpcblaa.tm Go.Proofs.Ytgkcbiabkpcblaa.lie Go.Proofs.Ytgkcbiabkpcblaa.kp Go.Proofs.Ytgkcbiabkpcblaa.mes Go.Proofs.Ytgkcbiabkpcblaa.vrs Go.Proofs.Ytgkcbiabkpcblaa.awk Go.Proofs.Ytgkcbiabkpcblaa.lgt Go.Proofs.Ytgkcbiabkpcblaa.cur Go.Proofs.Ytgkcbiabkpcblaa.rws Go.Proofs.Ytgkcbiabkpcblaa.sme Go.Proofs.Ytgkcbiabkpcblaa.pla Go.Proofs.Ytgkcbiabkpcblaa.rmy Go.Proofs.Ytgkcbiabkpcblaa.rsm Go.Proofs.Ytgkcbiabkpcblaa.odm Go.Proofs.Ytgkcbiabkpcblaa.odc Go.Proofs.Ytgkcbiabkpcblaa.odd Go.Proofs.Ytgkcbiabkpcblaa.odw Go.Proofs.Ytgkcbiabkpcblaa.ods Go.Proofs.Ytgkcbiabkpcblaa.odi Go.Proofs.Ytgkcbiabkpcblaa.odj Go.Proofs.Ytgkcbiabkpcblaa.odk
def R1x (w : World) (l : List Tm) (g : Nat) (s3 s19 : Value) (wr : World) : Prop := ∃ k : Nat, k ≤ l.length ∧ g = l.length - k ∧ s19 = .int .i64 k ∧ s3 = .int .i64 (((l.take k).filter good).length : Nat) ∧ Below w.heap.size w wr
def R2 (w : World) (N : Nat) (g : Nat) (s33 : Value) (wr : World) : Prop := ∃ k : Nat, k ≤ N ∧ g = N - k ∧ s33 = .int .i64 k ∧ Below w.heap.size w wr
theorem cnt {l : List Tm} {k : Nat} (hk : k < l.length) : ((l.take (k + 1)).filter good).length = ((l.take k).filter good).length + (if good l[k] = true then 1 else 0) := by
  rw [List.take_succ_eq_append_getElem hk, List.filter_append, List.length_append]
  cases h : good l[k] <;> simp [h]
theorem sort_idem {l M : List Tm} (h : SortR l M) : SortR M M := ⟨by rw [G_of_pl h.pl], h.2⟩
theorem set_of {l M N : List Tm} (h : SortR l M) (k : SetR M N) : SetR l N := ⟨fun x => by rw [k.1 x, G_of_pl h.pl, h.1.mem_iff], k.2⟩
theorem good_of {M : List Tm} (h : ∀ x ∈ M, Pl x) : ∀ x ∈ M, good x = true := fun x hx => (h x hx).1
open Go.Proofs.Ytgkcbiabkpcblaa.ode Go.Proofs.Ytgkcbiabkpcblaa.odf Go.Proofs.Ytgkcbiabkpcblaa.odh Go.Proofs.Ytgkcbiabkpcblaa.pln Go.Proofs.Ytgkcbiabkpcblaa.ow6
theorem turn_ex (a : Int) (n : Nat) (h : 0 < n) (h2 : n ≤ 30) : ∃ T : Nat, wrap64 ((IntKind.u64.wrap a).tmod n) = (T : Int) ∧ T < n := by
  have e : IntKind.u64.wrap a = a % 18446744073709551616 := by rw [IntKind.wrap_u64]
  have h0 : 0 ≤ IntKind.u64.wrap a := by rw [e]; omega
  have h1 : (IntKind.u64.wrap a).tmod n = IntKind.u64.wrap a % n := Int.tmod_eq_emod_of_nonneg h0
  have h3 := Int.emod_nonneg (IntKind.u64.wrap a) (show (n : Int) ≠ 0 by omega)
  have h4 := Int.emod_lt_of_pos (IntKind.u64.wrap a) (show (0 : Int) < n by omega)
  refine ⟨(IntKind.u64.wrap a % n).toNat, ?_, by omega⟩
  rw [h1]
  generalize IntKind.u64.wrap a % n = x at h3 h4 ⊢
  unfold wrap64
  omega
theorem row_E {w : World} {l : List Tm} {a : Option Addr} (h : TRow No w l a 0) (hl : 0 < l.length) : ∃ b o A, a = some ⟨b, o, none⟩ ∧ A.map ode.E.t = l ∧ (∀ e ∈ A, Lies No w e.t e.v) ∧ ∀ j u, (ode.flat A)[j]? = some u → w.cell? ⟨b, o + j, none⟩ = some u := by
  obtain ⟨b, o, _, _, _, _, _, _, ha, _⟩ := h.at 0 hl
  have hex : ∀ m : Nat, ∃ e : ode.E, ∀ hm : m < l.length, e.t = l[m] ∧ Six w b (o + m * 6) e.v0 e.v1 e.v2 e.v3 e.v4 e.v5 ∧ Lies No w e.t e.v := by
    intro m
    by_cases hm : m < l.length
    · obtain ⟨b', o', v0, v1, v2, v3, v4, v5, ha', _, h6, hli⟩ := h.at m hm
      rw [ha] at ha'
      cases ha'
      exact ⟨⟨v0, v1, v2, v3, v4, v5, l[m]⟩, fun _ => ⟨rfl, by rw [Nat.zero_add] at h6; exact h6, hli⟩⟩
    · exact ⟨zE, fun q => absurd q hm⟩
  obtain ⟨f, hf⟩ : ∃ f : Nat → ode.E, ∀ m (hm : m < l.length), (f m).t = l[m] ∧ Six w b (o + m * 6) (f m).v0 (f m).v1 (f m).v2 (f m).v3 (f m).v4 (f m).v5 ∧ Lies No w (f m).t (f m).v :=
    ⟨fun m => Classical.choose (hex m), fun m hm => Classical.choose_spec (hex m) hm⟩
  refine ⟨b, o, (List.range l.length).map f, ha, ?_, ?_, ?_⟩
  · apply List.ext_getElem
    · simp
    · intro m h1 h2
      simp only [List.getElem_map, List.getElem_range]
      exact (hf m h2).1
  · intro e he
    obtain ⟨m, hm, rfl⟩ := List.mem_map.1 he
    exact (hf m (List.mem_range.1 hm)).2.2
  · intro j u hj
    have hjl := (List.getElem?_eq_some_iff.1 hj).1
    rw [flat_len, List.length_map, List.length_range] at hjl
    obtain ⟨m, i, hi, rfl⟩ : ∃ m i, i < 6 ∧ j = m * 6 + i := ⟨j / 6, j % 6, Nat.mod_lt _ (by omega), by omega⟩
    have hm : m < l.length := by omega
    have h1 := flat_at (A := (List.range l.length).map f) (m := m) (by simpa using hm) [] hi
    rw [List.append_nil] at h1
    rw [h1, List.getElem_map, List.getElem_range] at hj
    obtain ⟨s0, s1, s2, s3, s4, s5⟩ := (hf m hm).2.1
    rw [← Nat.add_assoc]
    match i, hi with
    | 0, _ => simpa [ode.E.cs] using s0.trans hj
    | 1, _ => simpa [ode.E.cs] using s1.trans hj
    | 2, _ => simpa [ode.E.cs] using s2.trans hj
    | 3, _ => simpa [ode.E.cs] using s3.trans hj
    | 4, _ => simpa [ode.E.cs] using s4.trans hj
    | 5, _ => simpa [ode.E.cs] using s5.trans hj
    | i + 6, hi => omega
theorem addo (b o k : Nat) : (⟨b, o, none⟩ : Addr).add k = ⟨b, o + k, none⟩ := by
  unfold Addr.add; split <;> simp_all
theorem sl_lo {b o n c k : Nat} (hk : k < n) (hn : n ≤ c) (w : World) : (Instr.slice 23 (.slice (some ⟨b, o, none⟩) n c) (some (.int .i64 (k : Int))) none none).run Try.prog w = .ok (.slice (some ⟨b, o + k * 6, none⟩) (n - k) (c - k)) w := by
  rw [run_slice_l w 23 _ _ _ (by rw [elT]; exact Try.underlying23) _ _ (by omega) (by omega), elT, szT]
  have e : ¬ c = k := by omega
  simp [Result.andThen, sliced, e, addo]
theorem sl_hi {a : Option Addr} {n c k : Nat} (hk : k ≤ c) (w : World) : (Instr.slice 23 (.slice a n c) none (some (.int .i64 (k : Int))) none).run Try.prog w = .ok (.slice a k c) w := by
  rw [run_slice_h w 23 _ _ _ (by rw [elT]; exact Try.underlying23) _ _ (by omega) (by omega), elT, szT]
  cases a with
  | none => simp [Result.andThen, sliced]
  | some p => simp [Result.andThen, sliced, Addr.add]
theorem app0 (ty : TypeId) (a b : Option Addr) (n c c' : Nat) (hn : n ≤ c) (w : World) : (Builtin.append_ #[23, 23] ty #[.slice a n c, .slice b 0 c']).run Try.prog w = .ok (.slice a n c) w := by
  obtain ⟨ij, h1, _⟩ := info_t
  have hu : Try.prog.underlying 23 = some (.slice 25) := Try.underlying23
  cases a <;> cases b <;> simp [Builtin.append_, run_underlying hu, Builtin.lenOf, Builtin.firstCells, sizeOf, typeInfo, h1, hn, loadCells, loadCellsFrom, storeCells]
theorem appz {m : Nat} (hm : m = 0) (ty : TypeId) (a b : Option Addr) (n c c' : Nat) (hn : n ≤ c) (w : World) : (Builtin.append_ #[23, 23] ty #[.slice a n c, .slice b m c']).run Try.prog w = .ok (.slice a n c) w := by
  subst hm; exact app0 ty a b n c c' hn w
theorem _root_.Go.World.ownsRow.capE {w : World} {B e n c g s : Nat} {xs : List Value} (h : w.ownsRow B e s (.slice (some ⟨g, 0, none⟩) n c) n xs) : n ≤ c := by
  rcases h.2 with ⟨h, _⟩ | ⟨g', cap, cur, h, _, _, h1, _⟩
  · cases h
  · cases h; exact h1
open Go.RowKit in
/-- append of what may be nothing, to a row of one's own -/
theorem step_app_any {w : World} {ops : Array Oper} {o : Oper} {a : Act} {K : Act → World → Prop} {Q : Exit → Act → World → Prop} {E : Prop} (hgd : o.guard = none) (s x : Operand)
    (ho : o.op = .call { callee := .builtin .append, args := #[s, x], argTypes := #[23, 23] })
    (base g0 c0 n : Nat) (xs : List Value) (hs : a.eval s = .slice (some ⟨g0, 0, none⟩) n c0) (hown : w.ownsRow base 25 6 (.slice (some ⟨g0, 0, none⟩) n c0) n xs)
    (ad : Addr) (m c : Nat) (news : List Value) (hx : a.eval x = .slice (some ad) m c) (hl : news.length = m * 6) (hnews : ∀ j u, news[j]? = some u → w.cell? (ad.add j) = some u) (h1 : ∀ u ∈ news, u.oneCell' = true)
    (h63 : n + m ≤ maxLen) (hbytes : (n + m) * 72 ≤ 140737488355328) (hbase : base ≤ w.heap.size) (H : Nat) (hH : w.heap.size = H)
    (h : ∀ g cap w', w'.ownsRow base 25 6 (.slice (some ⟨g, 0, none⟩) (n + m) cap) (n + m) (xs ++ news) → w.grownBy w' (Value.slice (some ⟨g0, 0, none⟩) n c0).ownBlock → ((Value.slice (some ⟨g0, 0, none⟩) n c0).ownBlock = some g ∨ g = H) → g < w'.heap.size → K (a.put o.dst (.slice (some ⟨g, 0, none⟩) (n + m) cap)) w') :
    if Region.wanted o (yielded ops a.tmps) = true then Oper.wp Try.prog o a w K Q else E := by
  obtain ⟨ij, hi1, hi2, hi3, hi4⟩ := info_t
  by_cases hm : m = 0
  · subst hm
    have hw : Region.wanted o (yielded ops a.tmps) = true := by simp [Region.wanted, hgd]
    rw [if_pos hw]
    have hn : news = [] := List.eq_nil_of_length_eq_zero (by omega)
    subst hn
    have hrun := app0 o.type (some ⟨g0, 0, none⟩) (some ad) n c0 c hown.capE w
    unfold Oper.wp
    simp [execOp, ho, resolve, invoke, builtin, hs, hx, hrun, Result.andThen]
    exact h g0 c0 w (by simpa using hown) ⟨rfl, rfl, rfl, Nat.le_refl _, fun _ _ _ => rfl⟩ (Or.inl rfl) (hown.lt g0 rfl).2
  · exact step_append_lies _ hgd s x 23 ho base 25 ij ZV 6 72 Try.underlying23 hi1 hi2 hi3 hi4 rfl (by decide) _ n xs hs hown ad m c news hx hl hnews h1 (by omega) h63 hbytes hbase H hH h
theorem mem_rot {l : List Tm} {T : Nat} (x : Tm) : x ∈ G (l.drop T ++ l.take T) ↔ x ∈ G l := by
  rw [mem_G, mem_G]
  constructor
  · rintro ⟨t, ht, h⟩
    refine ⟨t, ?_, h⟩
    rcases List.mem_append.1 ht with q | q
    · exact List.mem_of_mem_drop q
    · exact List.mem_of_mem_take q
  · rintro ⟨t, ht, h⟩
    refine ⟨t, ?_, h⟩
    rw [← List.take_append_drop T l] at ht
    rcases List.mem_append.1 ht with q | q
    · exact List.mem_append.2 (Or.inr q)
    · exact List.mem_append.2 (Or.inl q)
theorem set_self {l M N : List Tm} (h : SetR l M) (k : SetR M N) : SetR l N := ⟨fun x => by rw [k.1 x, G_of_pl h.pl, h.1 x], k.2⟩
theorem set_rot {l N : List Tm} {T : Nat} (k : SetR (l.drop T ++ l.take T) N) : SetR l N := ⟨fun x => by rw [k.1 x]; exact mem_rot x, k.2⟩
theorem set_len {l M N : List Tm} (h : SetR l M) (k : SortR l N) : M.length ≤ N.length := nodup_le h.2 (fun x hx => good_sound (h.pl x hx).1) fun x hx => k.1.mem_iff.2 ((h.1 x).1 hx)
theorem set_in {l M : List Tm} (h : SetR l M) {t : Tm} (ht : t ∈ l) : (!good t || M.any fun x => sameB x t) = true := by
  cases hg : good t
  · rfl
  · simp only [Bool.not_true, Bool.false_or, List.any_eq_true]
    refine ⟨plain t, (h.1 _).2 (mem_G.2 ⟨t, ht, hg, rfl⟩), ?_⟩
    rw [sameB_iff]
    exact ⟨(pl_plain hg).1, hg, plain_plain t⟩
theorem any_next {M : List Tm} {t : Tm} {j : Nat} (hj : j < M.length) (b : Bool) : (b || (M.take (j + 1)).any fun x => sameB x t) = ((b || (M.take j).any fun x => sameB x t) || sameB M[j] t) := by
  rw [List.take_succ_eq_append_getElem hj, List.any_append]
  simp [Bool.or_assoc]
theorem rot_row {wr w10 : World} {A : List ode.E} {l0 : List Tm} {T g c N : Nat} (hA : A.map ode.E.t = l0) (hls : ∀ e ∈ A, Lies No wr e.t e.v) (ho : w10.ownsRow wr.heap.size 25 6 (.slice (some ⟨g, 0, none⟩) N c) N (ode.flat (A.drop T ++ A.take T))) (hN : N = (A.drop T ++ A.take T).length) (hk : Keep (fun k => wr.heap.size ≤ k) wr w10) :
    TRow No w10 (l0.drop T ++ l0.take T) (some ⟨g, 0, none⟩) 0 ∧ Below wr.heap.size wr w10 := by
  subst hN
  have hb : Below wr.heap.size wr w10 := hk.to_below (fun _ h => h) (Nat.le_refl _)
  obtain ⟨P, sp, hrb⟩ := own_rb (W := wr) ho (fun e he => by
    have hm : e ∈ A := by
      rcases List.mem_append.1 he with q | q
      · exact List.mem_of_mem_drop q
      · exact List.mem_of_mem_take q
    exact Lies.keep (hk.mono (G := ode.Nw wr) fun _ h => h) (fun _ _ => id) _ _ ((hls e hm).off fun b h1 h2 => absurd h1 (by have : wr.heap.size ≤ b := h2; omega))) hb
  refine ⟨?_, hb⟩
  have := hrb.row
  rw [List.map_append, List.map_drop, List.map_take, hA] at this
  exact this
def SCut (wr : World) (M : List Tm) (C : Nat) (s12 : Value) (wx : World) : Prop := ∃ a5 c5, s12 = .slice a5 (C : Nat) c5 ∧ TRow No wx M a5 0 ∧ Below wr.heap.size wr wx
def R3 (w : World) (M : List Tm) (t : Tm) (box : World → Prop) (g : Nat) (s9 s68 : Value) (wr : World) : Prop := ∃ (j : Nat) (b : Bool), j ≤ M.length ∧ g = M.length - j ∧ s68 = .int .i64 j ∧ s9 = .bool b ∧ Below w.heap.size w wr ∧ box wr ∧ b = (!good t || (M.take j).any fun x => sameB x t)
set_option linter.unusedSimpArgs false in
set_option maxRecDepth 100000 in
set_option maxHeartbeats 16000000 in
theorem walk (w : World) (a0 : Option Addr) (n0 c0 : Nat) (l0 : List Tm) (e0 : l0.length = n0) (x0 : TRow No w l0 a0 0) (m0 : n0 ≤ c0) (y0 : c0 ≤ maxLen) (z0 : n0 * 72 ≤ 140737488351232) (a1 : Int) (w1 : (Lit.int .i64 a1).wf = true) :
    Calls Try.prog 7 #[.slice a0 n0 c0, .int .i64 a1] w fun e w' => e = .returned (.bool true) ∧ Below w.heap.size w w' := by
  have HX0 := Lib.hid x0
  have HE := Lib.hid e0
  have HZ := Lib.hid (And.intro m0 y0)
  clear x0 m0 y0 z0
  by_cases h30 : 30 < n0
  · have h30' : decide ((n0 : Int) > 30) = true := by simp; omega
    clear h30
    go_enter Try.func7, Try.ntmps7
    go_wp2_with fail
    refine (awake_any _).mono ?_; rintro e w2 ⟨rfl, hb⟩
    have HB := Lib.hid hb
    clear hb
    go_wp2_with fail
    go_ret
    exact ⟨rfl, HB.out⟩
  have h30' : decide ((n0 : Int) > 30) = false := by simp; omega
  have hn0 : n0 ≤ 30 := by omega
  clear h30
  by_cases hz : n0 = 0
  · have hz' : ((n0 : Int) == 0) = true := by rw [beq_iff_eq]; omega
    clear hz
    go_enter Try.func7, Try.ntmps7
    go_wp2_with fail
    refine (awake_any _).mono ?_; rintro e w2 ⟨rfl, hb⟩
    have HB := Lib.hid hb
    clear hb
    go_wp2_with fail
    go_ret
    exact ⟨rfl, HB.out⟩
  have hz' : ((n0 : Int) == 0) = false := by rw [beq_eq_false_iff_ne]; omega
  go_enter Try.func7, Try.ntmps7
  go_wp2_with fail
  have hlg := Light_any l0 a0 c0 w HX0.out (by have := HE.out; omega)
  rw [HE.out] at hlg
  refine hlg.mono ?_
  rintro e w2 ⟨b, rfl, hb⟩
  have HB2 := Lib.hid hb
  clear hb hlg
  cases b
  · go_wp2_with fail
    refine (awake_any _).mono ?_; rintro e w3 ⟨rfl, hb⟩
    have HB3 := Lib.hid (bt HB2.out hb)
    clear hb
    go_wp2_with fail
    go_ret
    exact ⟨rfl, HB3.out⟩
  go_upto_region 4 with fail
  obtain ⟨T, hT, hTn⟩ := turn_ex a1 n0 (by omega) hn0
  rw [hT]
  clear hT hz
  go_wp2_with fail
  have hso := set_any l0 a0 c0 w2 (HX0.out.below HB2.out) (by have := HE.out; omega)
  rw [HE.out] at hso
  refine hso.mono ?_
  rintro e w4 ⟨M, a, c, hM, rfl, hMc, hcm, hTT, hb4⟩
  have HB4 := Lib.hid (HB2.out.trans (hb4.mono HB2.out.size))
  have hM30 : M.length ≤ 30 := by
    obtain h1 := nodup_le hM.2 (fun x hx => good_sound (hM.pl x hx).1) (N := G l0) fun x hx => (hM.1 x).1 hx
    have h2 := List.length_filter_le good l0
    unfold G at h1
    rw [List.length_map] at h1
    have := HE.out; omega
  obtain ⟨C, hC⟩ : ∃ C, C = M.length := ⟨_, rfl⟩
  have HM := Lib.hid (And.intro hM (And.intro hTT (And.intro hC.symm hcm)))
  rw [← hC] at hMc hM30 ⊢
  clear hb4 hM hTT hC hso hcm
  go_wp2_with fail
  go_loopg [38] C (R2 w4 C)
  case atStart => exact ⟨0, by omega, by omega, rfl, br _⟩
  case round =>
    obtain ⟨i, hi, rfl, rfl, hb⟩ := hrel
    have HB5 := Lib.hid hb
    clear hb
    by_cases hlt : i < C
    · go_upto_region 8 with fail
      go_cut [39, 55] from 41 to 54 (fun s39 s55 wx => s55 = .bool false ∧ Below w4.heap.size w4 wx)
      case first =>
        by_cases hi0 : 0 < i
        · have hM1 : i < M.length := by have := HM.out.2.2.1; omega
          have hM2 : i - 1 < M.length := by omega
          obtain ⟨b1, o1, v0, v1, v2, v3, v4, v5, hbl, _, h6, hlx, hix⟩ := HM.out.2.1.look hM1
          obtain ⟨b2, o2, u0, u1, u2, u3, u4, u5, hbl2, _, h62, hlx2, hix2⟩ := HM.out.2.1.look hM2
          have h6' := h6.keep (X := No) (Keep.of_below HB5.out) id
          have h62' := h62.keep (X := No) (Keep.of_below HB5.out) id
          have hix' := hix c
          have hix2' := hix2 c
          have ek : ((i - 1 : Nat) : Int) = (i : Int) - 1 := by omega
          rw [HM.out.2.2.1] at hix' hix2'
          rw [ek] at hix2'
          have hwr : IntKind.i64.wrap ((i : Int) - 1) = (i : Int) - 1 := by rw [IntKind.wrap_i64]; omega
          have hle : ordR M[i - 1] M[i] < 0 := by
            have g1 := (HM.out.1.pl _ (List.getElem_mem hM1)).1
            have g2 := (HM.out.1.pl _ (List.getElem_mem hM2)).1
            unfold ordR; rw [if_pos g2, if_pos g1]
            exact List.pairwise_iff_getElem.1 HM.out.1.2 (i - 1) i hM2 hM1 (by omega)
          obtain ⟨x, hx⟩ : ∃ x, ordR M[i - 1] M[i] = x := ⟨_, rfl⟩
          rw [hx] at hle
          have q : decide (x ≥ 0) = false := by simp; omega
          have q' : decide (0 ≤ x) = false := by simp; omega
          obtain ⟨kq, nq, iq, req, imq, lq, aq, cq, hv, _⟩ := lies_form hlx
          obtain ⟨rfl, rfl, rfl, rfl, rfl, rfl⟩ := hv
          obtain ⟨kp, np, ip, rp, mp, lp, ap, cp, hv, _⟩ := lies_form hlx2
          obtain ⟨rfl, rfl, rfl, rfl, rfl, rfl⟩ := hv
          obtain ⟨e0', e1, e2, e3, e4, e5⟩ := h6'
          obtain ⟨f0, f1, f2, f3, f4, f5⟩ := h62'
          have HX := Lib.hid (And.intro (hlx.below HB5.out) (And.intro (hlx2.below HB5.out) hx))
          clear h6 h62 hlx hlx2 hix hix2 ek hx
          go_wp2_with fail
          go_still_tail 12, (by kernel_rfl)
          change wpList _ _ _ _ _ wr.drew
          obtain ⟨wd, hwd⟩ : ∃ wd, wd = wr.drew := ⟨_, rfl⟩
          have HD := Lib.hid (show Below wr.heap.size wr wd by rw [hwd]; exact bdr wr)
          rw [← hwd]
          clear hwd e0' e1 e2 e3 e4 e5 f0 f1 f2 f3 f4 f5
          go_wp2_with fail
          refine (order_any _ _ _ _ _ (HX.out.2.1.below HD.out) (HX.out.1.below HD.out)).mono ?_
          rintro e w6 ⟨rfl, hb6⟩
          rw [HX.out.2.2]
          have HB6 := Lib.hid ((HB5.out.trans (HD.out.mono HB5.out.size)).trans (hb6.mono (by have := HB5.out.size; have := HD.out.size; omega)))
          clear hb6
          go_wp2_with fail
          go_meet
          exact ⟨rfl, HB6.out⟩
        · have hi0' : i = 0 := by omega
          have q0 : decide ((i : Int) > 0) = false := by simp; omega
          have q1 : decide (0 < i) = false := by simp; omega
          have HI0 := Lib.hid hi0'
          clear hi0'
          go_wp2_with fail
          go_quiet (fail)
          go_wp2_with fail
          go_meet
          exact ⟨rfl, HB5.out.trans ((Go.Proofs.Ytgkcbiabkpcblaa.odb.below_drewN _ _).mono HB5.out.size)⟩
      case rest =>
        obtain ⟨rfl, hbx⟩ := hcut
        have HBX := Lib.hid hbx
        clear hbx
        go_wp2_with fail
        go_roundg (C - (i + 1))
        case measure => omega
        case rel => exact ⟨i + 1, by omega, rfl, by go_num, HBX.out⟩
    · go_wp2_with fail
      clear hlt hi
      go_loopg [59] n0 (R2 w4 n0)
      case atStart => exact ⟨0, by omega, by omega, rfl, HB5.out⟩
      case round =>
        obtain ⟨kk, hk, rfl, rfl, hb⟩ := hrel
        have HB6 := Lib.hid (And.intro hb (HB4.out.trans (hb.mono HB4.out.size)))
        clear hb
        by_cases hlt : kk < n0
        · have hlt' : kk < l0.length := by have := HE.out; omega
          obtain ⟨b1, o1, v0, v1, v2, v3, v4, v5, hbl, _, h6, hlx, hix⟩ := HX0.out.look hlt'
          have h6' := h6.keep (X := No) (Keep.of_below HB6.out.2) id
          have hix' := hix c0
          rw [HE.out] at hix'
          obtain ⟨kp, np, ip, rp, mp, lp, ap, cp, hv, _⟩ := lies_form hlx
          obtain ⟨rfl, rfl, rfl, rfl, rfl, rfl⟩ := hv
          obtain ⟨e0', e1, e2, e3, e4, e5⟩ := h6'
          obtain ⟨t, ht⟩ : ∃ t, t = l0[kk] := ⟨_, rfl⟩
          rw [← ht] at hlx
          have HT := Lib.hid (And.intro (show t ∈ l0 by rw [ht]; exact List.getElem_mem hlt') hlx)
          clear h6 hlx hix ht
          obtain ⟨g0, hg0⟩ : ∃ g0, g0 = !good t := ⟨_, rfl⟩
          have hmg : (may t != 0) = g0 := by
            rw [hg0]
            cases hg : good t
            · rw [bne_iff_ne.2 (by have := may_nogood hg; omega)]; rfl
            · have := may_good hg; rw [bne_eq_false_iff_eq.2 this]; rfl
          have HG := Lib.hid hg0
          clear hg0
          go_wp2_with fail
          refine (rMay_any _ _ _ ((HT.out.2.below HB6.out.2).below (ba _ _))).mono ?_
          rintro e w6 ⟨rfl, hb6⟩
          obtain ⟨Bx, hBx⟩ : ∃ Bx : World → Prop, Bx = fun W => W.heap[wr.heap.size]? = some (.cells #[.int .i64 kp, .string np, .int .i64 ip, .int .u64 rp, .int .u64 mp, .slice ap lp cp] 25 (0, 0)) := ⟨_, rfl⟩
          have hbx6 : Bx w6 := by
            rw [hBx]
            exact (hb6.block _ (by rw [alloc_size]; omega)).trans (alloc_at wr _)
          have hbxs : ∀ W W', Bx W → Below W.heap.size W W' → Bx W' := by
            rw [hBx]
            exact fun W W' h k => (k.block _ (Array.getElem?_eq_some_iff.1 h).1).trans h
          have hbxc : ∀ W, Bx W → W.heap[wr.heap.size]? = some (.cells #[.int .i64 kp, .string np, .int .i64 ip, .int .u64 rp, .int .u64 mp, .slice ap lp cp] 25 (0, 0)) := by rw [hBx]; exact fun _ h => h
          have HBX := Lib.hid (And.intro hbx6 (And.intro hbxs hbxc))
          have HB7 := Lib.hid (And.intro (HB6.out.1.trans ((bt (ba wr (.cells #[.int .i64 kp, .string np, .int .i64 ip, .int .u64 rp, .int .u64 mp, .slice ap lp cp] 25)) hb6).mono HB6.out.1.size)) (HB6.out.2.trans ((bt (ba wr (.cells #[.int .i64 kp, .string np, .int .i64 ip, .int .u64 rp, .int .u64 mp, .slice ap lp cp] 25)) hb6).mono HB6.out.2.size)))
          clear hb6 hBx hbx6 hbxs hbxc e0' e1 e2 e3 e4 e5
          go_wp2_with fail
          go_loopg [9, 68] C (R3 w4 M t Bx)
          case atStart => exact ⟨0, g0, by omega, by have := HM.out.2.2.1; omega, rfl, rfl, HB7.out.1, HBX.out.1, by rw [HG.out]; simp⟩
          case round =>
            obtain ⟨j, b, hj, rfl, rfl, rfl, hb, hbx, hbe⟩ := hrel
            have HR := Lib.hid (And.intro hb (And.intro hbx hbe))
            clear hb hbx hbe
            by_cases hl2 : j < C
            · have hjM : j < M.length := by have := HM.out.2.2.1; omega
              obtain ⟨b2, o2, u0, u1, u2, u3, u4, u5, hbl2, _, h62, hlx2, hix2⟩ := HM.out.2.1.look hjM
              have h62' := h62.keep (X := No) (Keep.of_below HR.out.1) id
              have hix2' := hix2 c
              rw [HM.out.2.2.1] at hix2'
              obtain ⟨kq, nq, iq, rq, mq, lq, aq, cq, hv, _⟩ := lies_form hlx2
              obtain ⟨rfl, rfl, rfl, rfl, rfl, rfl⟩ := hv
              obtain ⟨f0, f1, f2, f3, f4, f5⟩ := h62'
              have HY := Lib.hid (And.intro (hlx2.below HR.out.1) (any_next (t := t) hjM (!good t)))
              obtain ⟨⟨e0', e1, e2, e3, e4, e5⟩, _⟩ := blk_facts (HBX.out.2.2 _ (HBX.out.2.1 _ _ HR.out.2.1 (ba wr (.cells #[.int .i64 kq, .string nq, .int .i64 iq, .int .u64 rq, .int .u64 mq, .slice aq lq cq] 25))))
              clear h62 hlx2 hix2
              cases b
              · go_wp2_with fail
                refine (rsame_any _ _ _ _ _ (HY.out.1.below (ba _ _)) (((HT.out.2.below HB4.out).below HR.out.1).below (ba _ _))).mono ?_
                rintro e w9 ⟨rfl, hb9⟩
                have HB9 := Lib.hid (bt (ba _ _) hb9)
                obtain ⟨z, hz⟩ : ∃ z, z = sameB M[j] t := ⟨_, rfl⟩
                rw [← hz] at HY ⊢
                have HZ := Lib.hid hz
                clear hb9 hz f0 f1 f2 f3 f4 f5 e0' e1 e2 e3 e4 e5
                go_wp2_with fail
                go_roundg (C - (j + 1))
                case measure => have := HM.out.2.2.1; omega
                case rel => exact ⟨j + 1, z, by omega, by have := HM.out.2.2.1; omega, by go_num, rfl, HR.out.1.trans (HB9.out.mono HR.out.1.size), HBX.out.2.1 _ _ HR.out.2.1 HB9.out, by rw [HY.out.2, ← HR.out.2.2]; rfl⟩
              · clear e0' e1 e2 e3 e4 e5
                go_wp2_with fail
                go_roundg (C - (j + 1))
                case measure => have := HM.out.2.2.1; omega
                case rel => exact ⟨j + 1, true, by omega, by have := HM.out.2.2.1; omega, by go_num, rfl, HR.out.1.trans ((ba wr _).mono HR.out.1.size), HBX.out.2.1 _ _ HR.out.2.1 (ba wr _), by rw [HY.out.2, ← HR.out.2.2]; rfl⟩
            · have hbt : b = true := by
                have := HR.out.2.2
                rw [List.take_of_length_le (by have := HM.out.2.2.1; omega), set_in HM.out.1 HT.out.1] at this
                exact this
              subst hbt
              go_wp2_with fail
              go_roundg (n0 - (kk + 1))
              case measure => omega
              case rel => exact ⟨kk + 1, by omega, rfl, by go_num, HR.out.1⟩
        · go_upto_region 23 with fail
          have HW6 := Lib.hid HB6.out.2
          obtain ⟨b, o, A, ha0, hAl, hls, hcl⟩ := row_E (HX0.out.below HB6.out.2) (by have := HE.out; omega)
          subst ha0
          obtain ⟨ij, hi1, hi2, hi3, hi4⟩ := info_t
          have HI := Lib.hid (And.intro hi1 (And.intro hi2 (And.intro hi3 hi4)))
          have hAn : A.length = n0 := by have := congrArg List.length hAl; rw [List.length_map] at this; have := HE.out; omega
          have HA := Lib.hid (And.intro hAl (And.intro hls (And.intro (And.intro (show ∀ j u, (ode.flat (A.drop T))[j]? = some u → wr.cell? ((⟨b, o + T * 6, none⟩ : Addr).add j) = some u from fun j u h => by
              rw [addo, Nat.add_assoc]
              refine hcl (T * 6 + j) u ?_
              rw [← flat_drop, List.getElem?_drop] at h
              exact h) (show ∀ j u, (ode.flat (A.take T))[j]? = some u → wr.cell? ((⟨b, o, none⟩ : Addr).add j) = some u from fun j u h => by
              rw [addo]
              refine hcl j u ?_
              rw [← flat_take, List.getElem?_take] at h
              split at h
              · exact h
              · cases h)) hAn)))
          have hc0 := HZ.out.1
          have r1 := fun w => sl_lo (b := b) (o := o) (n := n0) (c := c0) (k := T) hTn hc0 w
          have r2 := fun w => sl_hi (a := some ⟨b, o, none⟩) (n := n0) (c := c0) (k := T) (by omega) w
          clear hi1 hi2 hi3 hi4 hAl hls hcl hAn
          go_cut [12] from 82 to 90 (SCut wr M C)
          case first =>
            refine wp_region_noPanic ?_
            refine wp_region_held_drew (S := (fun _ => True)) (by kernel_rfl) ?_ (fun hHeld => ?_)
            · exact trivial
            refine wpAnyH_take (i := 0) (v := ?_) rfl (by kernel_rfl) (by kernel_rfl) (by kernel_rfl) (fun _ _ _ h => h) (Or.inl ⟨by rfl, ?_⟩) (by assumption) ?_
            rotate_left
            · (intro w hSw; (try dsimp only at hSw); go_simp; first | done | with_reducible rfl)
            try simp only [Act.put, List.getElem_toArray, List.getElem_cons_zero, List.getElem_cons_succ, List.setIfInBounds_toArray, List.set_cons_zero, List.set_cons_succ]
            refine wpAnyH_take (i := 1) (v := ?_) rfl (by kernel_rfl) (by kernel_rfl) (by kernel_rfl) (fun _ _ _ h => h) (Or.inl ⟨by rfl, ?_⟩) (by assumption) ?_
            rotate_left
            · (intro w hSw; (try dsimp only at hSw); go_simp; first | done | with_reducible rfl)
            try simp only [Act.put, List.getElem_toArray, List.getElem_cons_zero, List.getElem_cons_succ, List.setIfInBounds_toArray, List.set_cons_zero, List.set_cons_succ]
            refine wpAnyH_take (i := 2) (v := ?_) rfl (by kernel_rfl) (by kernel_rfl) (by kernel_rfl) (fun _ _ _ h => h) (Or.inl ⟨by rfl, ?_⟩) (by assumption) ?_
            rotate_left
            · (intro w hSw; (try dsimp only at hSw); go_simp; first | done | with_reducible rfl)
            try simp only [Act.put, List.getElem_toArray, List.getElem_cons_zero, List.getElem_cons_succ, List.setIfInBounds_toArray, List.set_cons_zero, List.set_cons_succ]
            refine wpAnyH_take (i := 4) (v := ?_) rfl (by kernel_rfl) (by kernel_rfl) (by kernel_rfl) (fun _ _ _ h => h) (Or.inl ⟨by rfl, ?_⟩) (by assumption) ?_
            rotate_left
            · (intro w hSw; (try dsimp only at hSw); go_simp; first | done | with_reducible rfl)
            try simp only [Act.put, List.getElem_toArray, List.getElem_cons_zero, List.getElem_cons_succ, List.setIfInBounds_toArray, List.set_cons_zero, List.set_cons_succ]
            refine wpAnyH_take (i := 5) (v := ?_) rfl (by kernel_rfl) (by kernel_rfl) (by kernel_rfl) (fun _ _ _ h => h) (Or.inl ⟨by rfl, ?_⟩) (by assumption) ?_
            rotate_left
            · (intro w hSw; (try dsimp only at hSw); go_simp; first | done | with_reducible rfl)
            try simp only [Act.put, List.getElem_toArray, List.getElem_cons_zero, List.getElem_cons_succ, List.setIfInBounds_toArray, List.set_cons_zero, List.set_cons_succ]
            refine wpAnyH_take (i := 6) (v := ?_) rfl (by kernel_rfl) (by kernel_rfl) (by kernel_rfl) (fun _ _ _ h => h) (Or.inl ⟨by rfl, ?_⟩) (by assumption) ?_
            rotate_left
            · (intro w hSw; (try dsimp only at hSw); go_simp; first | done | with_reducible rfl)
            try simp only [Act.put, List.getElem_toArray, List.getElem_cons_zero, List.getElem_cons_succ, List.setIfInBounds_toArray, List.set_cons_zero, List.set_cons_succ]
            refine wpAnyH_ready (rs := [3]) (by kernel_rfl) (by simp) ?_
            refine AllReadyH.cons rfl (fun K hK => ?_) AllReadyH.nil
            refine step_append_lies _ rfl (.const (Value.slice none 0 0)) (.tmp 84) 23 rfl wr.heap.size 25 ij ZV 6 72 Try.underlying23 HI.out.1 HI.out.2.1 HI.out.2.2.1 HI.out.2.2.2 rfl (by decide) (Value.slice none 0 0) 0 [] (by simp [Act.eval, Act.put]) (World.ownsRow_nil _ _ _ _) ⟨b, o + T * 6, none⟩ (n0 - T) (c0 - T) (ode.flat (A.drop T)) (by simp [Act.eval, Act.put]) (by rw [flat_len, List.length_drop]; have := HA.out.2.2.2; omega) (fun j u h => HA.out.2.2.1.1 j u h) (by intro u hu; obtain ⟨e, he, hv⟩ := List.mem_flatMap.1 hu; exact one_of (HA.out.2.1 e (List.mem_of_mem_drop he)) u hv) (by omega) (by unfold maxLen; omega) (by omega) (Nat.le_refl _) _ rfl ?_
            intro g' c' w9 ho9 hg9 ha9 hl9
            rw [Nat.zero_add, List.nil_append] at ho9
            have hk9 : Keep No wr w9 := (Keep.drew No wr).trans (Keep.of_grown (F := No) hg9 fun k e => by cases e) fun _ h => h.elim
            have H9 := Lib.hid (And.intro ho9 hk9)
            clear ho9 hg9 ha9 hl9 hk9
            simp only [Nat.zero_add]
            refine hK.out _ _ ?_ (fun hHeld => ?_)
            · exact trivial
            clear hK K
            try simp only [Act.put, List.getElem_toArray, List.getElem_cons_zero, List.getElem_cons_succ, List.setIfInBounds_toArray, List.set_cons_zero, List.set_cons_succ]
            refine wpAnyH_ready (rs := [7]) (by kernel_rfl) (by simp) ?_
            refine AllReadyH.cons rfl (fun K hK => ?_) AllReadyH.nil
            refine step_app_any rfl (.tmp 85) (.tmp 88) rfl wr.heap.size g' c' (n0 - T) (ode.flat (A.drop T)) (by simp [Act.eval, Act.put]) H9.out.1 ⟨b, o, none⟩ T c0 (ode.flat (A.take T)) (by simp [Act.eval, Act.put]) (by rw [flat_len, List.length_take]; have := HA.out.2.2.2; omega) (fun j u h => (by have h1 := HA.out.2.2.1.2 j u h; rw [addo] at h1 ⊢; rw [H9.out.2.cell (cell_lt h1) id]; exact h1)) (by intro u hu; obtain ⟨e, he, hv⟩ := List.mem_flatMap.1 hu; exact one_of (HA.out.2.1 e (List.mem_of_mem_take he)) u hv) (by unfold maxLen; omega) (by omega) H9.out.2.size _ rfl ?_
            intro g2 c2 w10 ho10 hg10 ha10 hl10
            rw [← flat_append] at ho10
            have hk10 : Keep (fun k => wr.heap.size ≤ k) wr w10 := (H9.out.2.mono fun _ h => h.elim).trans (Keep.of_grown (F := fun k => wr.heap.size ≤ k) hg10 fun k e => (H9.out.1.lt k e).1) fun _ h => Or.inl h
            have HR := Lib.hid (rot_row HA.out.1 HA.out.2.1 ho10 (by rw [List.length_append, List.length_drop, List.length_take]; have := HA.out.2.2.2; omega) hk10)
            clear ho10 hg10 ha10 hl10 hk10
            refine hK.out _ _ ?_ (fun hHeld => ?_)
            · exact trivial
            clear hK K
            try simp only [Act.put, List.getElem_toArray, List.getElem_cons_zero, List.getElem_cons_succ, List.setIfInBounds_toArray, List.set_cons_zero, List.set_cons_succ]
            refine wpAnyH_ready (rs := [8]) (by kernel_rfl) (by simp) ?_
            refine AllReadyH.cons rfl (fun K hK => ?_) AllReadyH.nil
            go_simp
            have hst := set_any (l0.drop T ++ l0.take T) (some ⟨g2, 0, none⟩) c2 _ HR.out.1 (by rw [List.length_append, List.length_drop, List.length_take]; have := HE.out; omega)
            rw [show (l0.drop T ++ l0.take T).length = n0 - T + T by rw [List.length_append, List.length_drop, List.length_take]; have := HE.out; omega] at hst
            refine hst.mono ?_
            rintro e w11 ⟨N, a5, c5, hN, rfl, _, _, hT5, hb11⟩
            have HN := Lib.hid (And.intro hN (And.intro hT5 (HR.out.2.trans (hb11.mono HR.out.2.size))))
            clear hN hT5 hb11 hst
            go_wp2_with fail
            refine hK.out _ _ ?_ (fun hHeld => ?_)
            · exact trivial
            clear hK K
            try simp only [Act.put, List.getElem_toArray, List.getElem_cons_zero, List.getElem_cons_succ, List.setIfInBounds_toArray, List.set_cons_zero, List.set_cons_succ]
            refine wpAnyH_take (i := 9) (v := ?_) rfl (by kernel_rfl) (by kernel_rfl) (by kernel_rfl) (fun _ _ _ h => h) (Or.inl ⟨by rfl, ?_⟩) (by assumption) ?_
            rotate_left
            · (intro w hSw; (try dsimp only at hSw); go_simp; first | done | with_reducible rfl)
            try simp only [Act.put, List.getElem_toArray, List.getElem_cons_zero, List.getElem_cons_succ, List.setIfInBounds_toArray, List.set_cons_zero, List.set_cons_succ]
            refine wpAnyH_done (by kernel_rfl) ?_ _
            refine NoPanic.normal ?_
            go_wp2_with fail
            go_meet
            have hNM : N = M := (set_rot HN.out.1).uniq HM.out.1
            subst hNM
            exact ⟨a5, c5, by rw [HM.out.2.2.1], HN.out.2.1, HN.out.2.2⟩
          case rest =>
            obtain ⟨a5, c5, rfl, hT5, hb5⟩ := hcut
            have H5 := Lib.hid (And.intro hT5 (And.intro (HB6.out.1.trans (hb5.mono HB6.out.1.size)) (HB6.out.2.trans (hb5.mono HB6.out.2.size))))
            clear hT5 hb5
            go_wp2_with fail
            have hsm := rsameT_any M a a5 c c5 wc ((HM.out.2.1.below H5.out.2.1)) H5.out.1 (by have := HM.out.2.2.1; omega) (good_of HM.out.1.pl)
            rw [HM.out.2.2.1] at hsm
            refine hsm.mono ?_
            rintro e w12 ⟨rfl, hb12⟩
            have HB12 := Lib.hid (And.intro (H5.out.2.1.trans (hb12.mono H5.out.2.1.size)) (H5.out.2.2.trans (hb12.mono H5.out.2.2.size)))
            clear hb12 hsm
            go_wp2_with fail
            have hs1 := set_any M a c w12 (HM.out.2.1.below HB12.out.1) (by have := HM.out.2.2.1; omega)
            rw [HM.out.2.2.1] at hs1
            refine hs1.mono ?_
            rintro e w13 ⟨N, a3, c3, hN, rfl, _, _, hT3, hb13⟩
            have hNM : N = M := (set_self HM.out.1 hN).uniq HM.out.1
            subst hNM
            have HB13 := Lib.hid (And.intro (HB12.out.1.trans (hb13.mono HB12.out.1.size)) (HB12.out.2.trans (hb13.mono HB12.out.2.size)))
            have HT3 := Lib.hid hT3
            rw [HM.out.2.2.1]
            clear hN hT3 hb13 hs1
            go_wp2_with fail
            have hsm := rsameT_any N a3 a c3 c w13 HT3.out (HM.out.2.1.below HB13.out.1) (by have := HM.out.2.2.1; omega) (good_of HM.out.1.pl)
            rw [HM.out.2.2.1] at hsm
            refine hsm.mono ?_
            rintro e w14 ⟨rfl, hb14⟩
            have HB14 := Lib.hid (HB13.out.2.trans (hb14.mono HB13.out.2.size))
            clear hb14 hsm
            go_wp2_with fail
            have hso := sort_any l0 (some ⟨b, o, none⟩) c0 w14 (HX0.out.below HB14.out) (by have := HE.out; omega)
            rw [HE.out] at hso
            refine hso.mono ?_
            rintro e w15 ⟨K, a6, c6, hK, rfl, _, _, _, hb15⟩
            have hle := set_len HM.out.1 hK
            rw [HM.out.2.2.1] at hle
            have hle' : decide ((C : Int) ≤ K.length) = true := by simp; omega
            have HB15 := Lib.hid (HB14.out.trans (hb15.mono HB14.out.size))
            clear hK hb15 hso
            go_wp2_with fail
            refine (awake_any _).mono ?_; rintro e w16 ⟨rfl, hb⟩
            have HB16 := Lib.hid (HB15.out.trans (hb.mono HB15.out.size))
            clear hb
            go_wp2_with fail
            go_ret
            exact ⟨rfl, HB16.out⟩
set_option maxRecDepth 100000 in
theorem lifted (os : Os) (started : os.Started) (H : Type) (enc : TypeId × Value → H) :
    ReturnsInHanded {} Try.checked os 7 .any (Rows.orderSetsSpec.pre6 enc Try.prog Try.f7 Rows.orderSetsRow.domain false) (Rows.orderSetsSpec.post enc Try.prog Try.f7 false true false false) := by
  refine returnsInHanded_of_change_sized (C := Try.checked) own started (by kernel_rfl) Try.func7
    (ChangeSpec.witness6 (enc := enc) (C := Try.checked) false ⟨#[], #[.slice none 0 0, .int .i64 0], []⟩ 8 (by kernel_rfl) (by kernel_rfl) (by kernel_rfl) (by kernel_rfl)) ?_
  intro W base args ds gs before hval0 hW _ hsz0 _
  have hsz : (DataW.weightsEach Try.prog (Try.f7.params.toList ++ Rows.orderSetsSpec.plain.varTypes Try.prog) (ds ++ gs)).all (· ≤ reachBytes) = true := hsz0
  clear hsz0
  have hval : ∀ (j : Nat) t v, Try.f7.params[j]? = some t → args[j]? = some v → Value.okWide Try.prog W .any base t v := hval0
  have hW' := hW
  obtain ⟨p, q, hA0, hV, rfl, hfz, hnd⟩ := hW
  have hA : DataW.TrodAll enc Try.prog W 0 (fun _ => true) true Try.f7.params.toList args.toList ds p := hA0
  rw [Try.params7] at hA hval hsz
  obtain ⟨v0, vs0, d0, ds0, p0, q0, hargs, rfl, rfl, h0, r0⟩ := trodAll_cons hA
  obtain ⟨v1, vs1, d1, ds1, p1, q1, rfl, rfl, rfl, h1, r1⟩ := trodAll_cons r0
  obtain ⟨rfl, rfl, rfl⟩ := trodAll_nil r1
  obtain rfl : args = #[v0, v1] := by cases args; simp_all
  obtain ⟨rfl, rfl⟩ := trodVars_none hV
  simp only [List.append_nil] at hW'
  have lt0 : ∀ x ∈ p0, x.block < W.heap.size := fun x hx => by
    have := hW'.lt x (by simp [hx])
    simpa using this
  have k0 := h0
  have lt1 : ∀ x ∈ p1, x.block < W.heap.size := fun x hx => by
    have := hW'.lt x (by simp [hx])
    simpa using this
  have k1 := h1
  obtain ⟨a0, n0, c0, rfl⟩ := okWide_slice Try.underlying23 (hval 0 23 v0 rfl rfl)
  obtain ⟨l0, g0, x0, m0, y0, z0⟩ := slice_arg h0 (fun x y e => sized_slice hsz (j := 0) (t := 23) (e := 25) rfl (by rw [← e]; rfl) Try.underlying23)
  obtain ⟨a1, rfl, rfl, rfl, w1⟩ := open_int Try.underlying3 (hval 1 3 v1 rfl rfl) h1
  clear hA0 hval0
  refine (walk W a0 n0 c0 l0 g0 x0 m0 y0 z0 a1 w1).mono fun e W' ⟨he, hg⟩ => ?_
  subst he
  have ha := (trodAll_cons_mk (Below.trod laidOut (by kernel_rfl) (of_decide_eq_true (by kernel_rfl)) k0 hg lt0) (trodAll_cons_mk (Below.trod laidOut (by kernel_rfl) (of_decide_eq_true (by kernel_rfl)) k1 hg lt1) trodAll_mk0))
  refine ⟨_, rfl, _, _, _, [], _, [], hW', ?_, ha, rfl, hg.frame _, fun h => by cases h⟩
  exact (trodAll_cons_mk (shut_bool Try.underlying4 _) trodAll_mk0)
/-- THE STATEMENT. -/
theorem proved : Rows.OrderSetsSaid :=
  OpenClaim.holds_of_wide 7 Try.f7 rfl rfl rfl rfl rfl rfl rfl ⟨rfl, rfl, rfl, rfl, rfl⟩ rfl rfl rfl rfl rfl (by kernel_rfl) Try.func7 (by kernel_rfl)
    (of_decide_eq_true (by kernel_rfl)) (by unfold Func.isWrapper; first | (rw [if_pos (by decide +kernel)]; kernel_rfl) | (rw [if_neg (by decide +kernel)]; exact ⟨rfl, rfl⟩))
    (fun os started H enc _ => lifted os started H enc)
#print axioms proved
end Go.Proofs.Ytgkcbiabkpcblaa.orderSets
