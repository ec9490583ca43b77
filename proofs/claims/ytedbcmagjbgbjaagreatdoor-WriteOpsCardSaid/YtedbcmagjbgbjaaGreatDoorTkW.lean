/- The library's Once at a replacer: load, buildOnce, doSlow, Do; NewReplacer; Replace. -/
import Derived.Test.YtedbcmagjbgbjaaGreatDoorTkV
import Derived.Deep.AppendLies
namespace Go.Proofs.YtedbcmagjbgbjaaGreatDoor.onc
open Go.ChangeShapes Go.WideShapes Go.ChangeAt Go.RowKit Go.Maps
open Go.Proofs.YtedbcmagjbgbjaaGreatDoor.kp Go.Proofs.YtedbcmagjbgbjaaGreatDoor.tk
set_option linter.unusedVariables false
abbrev RO (d st : Int) (x row : Value) : Obj := .cells #[.int .u32 d, .int .i32 st, .int .u32 0, x, row] 234 (0, 0)
theorem five {w : World} {b : Nat} {v0 v1 v2 v3 v4 : Value} {t : TypeId} (h : w.heap[b]? = some (.cells #[v0, v1, v2, v3, v4] t (0, 0))) :
    (w.cell? ⟨b, 0, none⟩ = some v0 ∧ w.cell? ⟨b, 1, none⟩ = some v1 ∧ w.cell? ⟨b, 2, none⟩ = some v2 ∧ w.cell? ⟨b, 3, none⟩ = some v3 ∧ w.cell? ⟨b, 4, none⟩ = some v4) ∧
      w.frozen? ⟨b, 0, none⟩ = false ∧ w.frozen? ⟨b, 1, none⟩ = false ∧ w.frozen? ⟨b, 2, none⟩ = false ∧ w.frozen? ⟨b, 3, none⟩ = false ∧ w.frozen? ⟨b, 4, none⟩ = false := by
  refine ⟨⟨?_, ?_, ?_, ?_, ?_⟩, ?_, ?_, ?_, ?_, ?_⟩ <;> simp [World.cell?, World.frozen?, h]
theorem load_any (a : Addr) (w : World) (h0 : w.cell? a = some (.int .u32 0)) : Calls Tryz.prog 207 #[.pointer (some a)] w fun e w' => e = .returned (.bool false) ∧ w = w' := by
  have hl := run_call_load (P := Tryz.prog) Tryz.func211 (by kernel_rfl) (by kernel_rfl) (by kernel_rfl) .u32 (by kernel_rfl) h0
  go_enter Tryz.func207, Tryz.ntmps207
  go_wp2
  go_ret
  exact ⟨rfl, rfl⟩
theorem buildOnce_any {w : World} {b og cap : Nat} {d st : Int} {x row : Value} (hb : w.heap[b]? = some (RO d st x row)) (hon : ON w b og cap) :
    Calls Tryz.prog 200 #[.pointer (some ⟨b, 0, none⟩)] w fun e w' => e = .returned (.tuple #[]) ∧ ∃ rb G, BR w' rb G ∧ Bnd w.heap.size rb G ∧ Nw b (RO d st (.iface 262 (.pointer (some ⟨rb, 0, none⟩))) (.slice none 0 0)) w w' := by
  have hbd := build_any hon
  have HB := Lib.hid hb
  clear hb hon
  go_enter Tryz.func200, Tryz.ntmps200
  go_wp2_with fail
  refine hbd.mono ?_; rintro e w1 ⟨⟨rb, G, rfl, hbr, hbn⟩, b1⟩
  have N1 := Nw.below HB.out b1
  have n2 := N1.trans (Nw.set N1.1 3 (.iface 262 (.pointer (some ⟨rb, 0, none⟩))))
  have n3 := n2.trans (Nw.set n2.1 4 (.slice none 0 0))
  have hlb := Nw.lt HB.out
  have HN := Lib.hid n3
  have HK := Lib.hid ((Nw.set N1.1 3 (.iface 262 (.pointer (some ⟨rb, 0, none⟩)))).trans (Nw.set (Nw.set N1.1 3 (.iface 262 (.pointer (some ⟨rb, 0, none⟩)))).1 4 (.slice none 0 0)))
  obtain ⟨⟨c0, c1, c2, c3, c4⟩, f0, f1, f2, f3, f4⟩ := five N1.1
  have HBR := Lib.hid (And.intro hbr (And.intro hbn hlb))
  clear N1 n2 n3 b1 hbr hbd hbn hlb
  go_wp2_with fail
  go_end0
  exact ⟨rfl, rb, G, HBR.out.1.off HBR.out.2.1 HK.out.2 (fun i hi => by have := HBR.out.2.2; omega), HBR.out.2.1, HN.out⟩
theorem hnot : ∀ (x : Bool) (w : World), (Op.unary .not (.bool x)).run Tryz.prog w = .ok (.bool (!x)) w := fun _ _ => rfl
set_option maxRecDepth 100000 in
set_option maxHeartbeats 1600000 in
theorem slow_any {w : World} {b og cap : Nat} {x row : Value} (hb : w.heap[b]? = some (RO 0 0 x row)) (hon : ON w b og cap) :
    Calls Tryz.prog 208 #[.pointer (some ⟨b, 0, none⟩), .func (.func 200) #[.pointer (some ⟨b, 0, none⟩)] #[]] w fun e w' => e = .returned (.tuple #[]) ∧ ∃ rb G, BR w' rb G ∧ Nw b (RO 1 0 (.iface 262 (.pointer (some ⟨rb, 0, none⟩))) (.slice none 0 0)) w w' := by
  obtain ⟨⟨c0, c1, c2, c3, c4⟩, f0, f1, f2, f3, f4⟩ := five hb
  have hlk := lock_free ⟨b, 1, none⟩ w c1 f1
  have N1 := Nw.set hb 1 (.int .i32 1)
  obtain ⟨⟨d0, d1, d2, d3, d4⟩, g0, g1, g2, g3, g4⟩ := five N1.1
  have hld := load_any ⟨b, 0, none⟩ (w.setCell ⟨b, 1, none⟩ (.int .i32 1)) d0
  have hon1 : ON (w.setCell ⟨b, 1, none⟩ (.int .i32 1)) b og cap := by
    obtain ⟨q, o0, o1, o2, o3, o4, o5⟩ := hon
    have hq : og ≠ b := by intro e; subst e; rw [c0] at o0; cases o0
    have e : ∀ o v, w.cell? ⟨og, o, none⟩ = some v → (w.setCell ⟨b, 1, none⟩ (.int .i32 1)).cell? ⟨og, o, none⟩ = some v := fun o v h => by
      rw [World.cell?_setCell_other _ ⟨b, 1, none⟩ ⟨og, o, none⟩ _ (by intro e; injection e with e; exact hq e.symm)]; exact h
    refine ⟨?_, e _ _ o0, e _ _ o1, e _ _ o2, e _ _ o3, e _ _ o4, e _ _ o5⟩
    rw [World.cell?_setCell_other _ ⟨b, 1, none⟩ ⟨b, 4, none⟩ _ (by simp)]; exact q
  have hbo := buildOnce_any N1.1 hon1
  have hn := hnot
  go_enter_defers Tryz.func208, Tryz.ntmps208
  go_wp2_with (first | (go_at_call 212; refine hlk.mono ?_; rintro e w' ⟨rfl, rfl⟩) | (go_at_call 207; refine hld.mono ?_; rintro e w' ⟨rfl, hw⟩; subst hw))
  refine hbo.mono ?_; rintro e w2 ⟨rfl, rb, G, hbr, hbn, N2⟩
  have hlb : b < w.heap.size := Nw.lt hb
  have hsz : (w.setCell ⟨b, 1, none⟩ (.int .i32 1)).heap.size = w.heap.size := by simp
  have HB := Lib.hid (And.intro hbr (And.intro hbn (And.intro N2 N1)))
  obtain ⟨⟨k0, k1, k2, k3, k4⟩, j0, j1, j2, j3, j4⟩ := five N2.1
  clear hbr hbn N2 N1
  go_wp2_with fail
  have D := Nw.drewN HB.out.2.2.1.1 1
  have M1 := D.trans (Nw.set D.1 0 (.int .u32 1))
  have M2 := M1.trans (Nw.set M1.1 1 (.int .i32 0))
  obtain ⟨⟨m0, m1, m2, m3, m4⟩, l0, l1, l2, l3, l4⟩ := five M1.1
  have HM := Lib.hid M2
  clear D M1 M2
  refine leaves_cons (f := 214) (args := #[.pointer (some ⟨b, 0, none⟩), .bool true]) (by simp) (by simp [go_sem]) ?_
  refine (store_deferred ⟨b, 0, none⟩ (.int .u32 0) .returning _ k0 j0).mono ?_
  rintro e u' w'' ⟨rfl, rfl, rfl⟩
  refine leaves_cons (f := 213) (args := #[.pointer (some ⟨b, 1, none⟩)]) (by simp [settle]) (by simp [go_sem]) ?_
  refine (unlock_deferred ⟨b, 1, none⟩ _ _ m1 l1).mono ?_
  rintro e u' w'' ⟨rfl, rfl, rfl⟩
  have KK := HB.out.2.2.2.trans (HB.out.2.2.1.trans HM.out)
  have HG : ∃ rb G, BR ((w2.drew.setCell ⟨b, 0, none⟩ (.int .u32 1)).setCell ⟨b, 1, none⟩ (.int .i32 0)) rb G ∧ Nw b (RO 1 0 (.iface 262 (.pointer (some ⟨rb, 0, none⟩))) (.slice none 0 0)) w ((w2.drew.setCell ⟨b, 0, none⟩ (.int .u32 1)).setCell ⟨b, 1, none⟩ (.int .i32 0)) :=
    ⟨rb, G, HB.out.1.off HB.out.2.1 HM.out.2 (fun i hi => by rw [hsz]; omega), KK⟩
  simp [Leaves, settle, results, Tryz.results208]
  obtain ⟨rb', G', h1, h2⟩ := HG
  exact ⟨rb', ⟨G', h1⟩, h2⟩
set_option maxRecDepth 100000 in
set_option maxHeartbeats 1600000 in
theorem do_any {w : World} {b og cap : Nat} {x row : Value} (hb : w.heap[b]? = some (RO 0 0 x row)) (hon : ON w b og cap) :
    Calls Tryz.prog 199 #[.pointer (some ⟨b, 0, none⟩), .func (.func 200) #[.pointer (some ⟨b, 0, none⟩)] #[]] w fun e w' => e = .returned (.tuple #[]) ∧ ∃ rb G, BR w' rb G ∧ Nw b (RO 1 0 (.iface 262 (.pointer (some ⟨rb, 0, none⟩))) (.slice none 0 0)) w w' := by
  obtain ⟨⟨c0, c1, c2, c3, c4⟩, f0, f1, f2, f3, f4⟩ := five hb
  have hld := load_any ⟨b, 0, none⟩ w c0
  have hsl := slow_any hb hon
  have hn := hnot
  go_enter Tryz.func199, Tryz.ntmps199
  go_wp2_with (go_at_call 207; refine hld.mono ?_; rintro e w' ⟨rfl, hw⟩; subst hw)
  refine hsl.mono ?_; rintro e w2 ⟨rfl, rb, G, hbr, N2⟩
  go_wp2_with fail
  go_end0
  exact ⟨rfl, rb, G, hbr, N2⟩
set_option maxRecDepth 100000 in
set_option maxHeartbeats 1600000 in
/-- (*Replacer).Replace of a fresh replacer -/
theorem replace_any {w : World} {b og cap : Nat} {x row : Value} (s : List UInt8) (hs : s.length ≤ 65536) (hb : w.heap[b]? = some (RO 0 0 x row)) (hon : ON w b og cap) :
    Calls Tryz.prog 187 #[.pointer (some ⟨b, 0, none⟩), .string ⟨s.toArray⟩] w fun e w' => e = .returned (.string ⟨(s.flatMap qb).toArray⟩) ∧ Keep (fun k => k = b) w w' := by
  have hdo := do_any hb hon
  go_enter Tryz.func187, Tryz.ntmps187
  go_wp2_with fail
  refine hdo.mono ?_; rintro e w2 ⟨rfl, rb, G, hbr, N2⟩
  obtain ⟨⟨c0, c1, c2, c3, c4⟩, f0, f1, f2, f3, f4⟩ := five N2.1
  have hbs := br_any hbr s hs
  have hme : ∀ w : World, (Go.method 301 262 (.pointer (some ⟨rb, 0, none⟩)) "Replace").run Tryz.prog w = .ok (275, .pointer (some ⟨rb, 0, none⟩)) w := fun _ => by kernel_rfl
  have HN := Lib.hid N2
  clear N2 hbr
  go_wp2_with fail
  refine hbs.mono ?_; rintro e w3 ⟨rfl, b3⟩
  have K3 : Keep (fun k => k = b) w w3 := HN.out.2.trans (Keep.of_below b3) fun _ => Or.inl
  clear b3
  go_wp2_with fail
  go_ret
  exact ⟨rfl, K3⟩
set_option maxRecDepth 100000 in
set_option maxHeartbeats 1600000 in
/-- NewReplacer -/
theorem newReplacer_any {w : World} {r : Nat} (hr : ∀ j u, ([.string ⟨#[92]⟩, .string ⟨#[92, 92]⟩, .string ⟨#[10]⟩, .string ⟨#[92, 110]⟩, .string ⟨#[39]⟩, .string ⟨#[92, 39]⟩] : List Value)[j]? = some u → w.cell? ((⟨r, 0, none⟩ : Addr).add j) = some u) :
    Calls Tryz.prog 186 #[.slice (some ⟨r, 0, none⟩) 6 6] w fun e w' => ∃ b og cap row, e = .returned (.pointer (some ⟨b, 0, none⟩)) ∧ w'.heap[b]? = some (RO 0 0 .nilIface row) ∧ ON w' b og cap ∧ w.heap.size ≤ b ∧ Below w.heap.size w w' := by
  obtain ⟨i0, hi1, hi2, hi3, hi4⟩ := info_of infoS
  have HI := Lib.hid (And.intro hi1 (And.intro hi2 (And.intro hi3 hi4)))
  clear hi1 hi2 hi3 hi4
  have HR := Lib.hid hr
  clear hr
  go_enter Tryz.func186, Tryz.ntmps186
  go_wp2_with (at_builtin; refine wpList_append_lies _ rfl (.const (.slice none 0 0)) (.tmp 8) 28 rfl w.heap.size 9 i0 (.string ⟨#[]⟩) 1 16 Tryz.underlying28 HI.out.1 HI.out.2.1 HI.out.2.2.1 HI.out.2.2.2 rfl (by decide) _ 0 [] rfl (World.ownsRow_nil _ _ _ _) ⟨r, 0, none⟩ 6 6 [.string ⟨#[92]⟩, .string ⟨#[92, 92]⟩, .string ⟨#[10]⟩, .string ⟨#[92, 110]⟩, .string ⟨#[39]⟩, .string ⟨#[92, 39]⟩] rfl rfl HR.out ?ac1 (by omega) ?ac2 ?ac3 (Nat.le_refl _) _ rfl ?_)
  case ac1 => intro u hu; simp only [List.mem_cons, List.not_mem_nil, or_false] at hu; rcases hu with rfl | rfl | rfl | rfl | rfl | rfl <;> rfl
  case ac2 => unfold maxLen; omega
  case ac3 => omega
  intro g cap w1 ho hg ha hl
  have HO := Lib.hid (And.intro ho (And.intro hg (And.intro ha hl)))
  clear ho hg ha hl
  go_wp2_with fail
  go_ret
  have hk : Keep (fun k => (Value.slice none 0 0).ownBlock = some k) w w1 := Keep.of_grown HO.out.2.1 fun k e => e
  have hb1 : Below w.heap.size w w1 := hk.to_below (fun k e => by cases e) (Nat.le_refl _)
  have hc : ∀ o v, w1.cell? ⟨g, o, none⟩ = some v → (w1.alloc (RO 0 0 .nilIface (.slice (some ⟨g, 0, none⟩) 6 cap))).cell? ⟨g, o, none⟩ = some v := fun o v h => cell_keep (Keep.of_below (F := fun _ => False) (kp.ba w1 _)) (fun f => f) h
  have hn := heap_alloc_new w1 (RO 0 0 .nilIface (.slice (some ⟨g, 0, none⟩) 6 cap))
  refine ⟨w1.heap.size, g, cap, _, rfl, hn, ⟨(five hn).1.2.2.2.2, hc _ _ (HO.out.1.cellAt 0 (by omega)), hc _ _ (HO.out.1.cellAt 1 (by omega)), hc _ _ (HO.out.1.cellAt 2 (by omega)), hc _ _ (HO.out.1.cellAt 3 (by omega)), hc _ _ (HO.out.1.cellAt 4 (by omega)), hc _ _ (HO.out.1.cellAt 5 (by omega))⟩, hb1.size, hb1.trans ((kp.ba w1 _).mono hb1.size)⟩
end Go.Proofs.YtedbcmagjbgbjaaGreatDoor.onc
