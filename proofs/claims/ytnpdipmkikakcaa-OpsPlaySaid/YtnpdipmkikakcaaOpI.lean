/- (*Table).add, Set. -/
import Derived.Test.YtnpdipmkikakcaaOpH
import Derived.Deep.RegionWith
import Derived.Deep.Cut
import Derived.Deep.CutBlock
namespace Go.Proofs.Ytnpdipmkikakcaa.opi
open Go.ChangeShapes Go.WideShapes Go.ChangeAt Go.RowKit
open Go.Proofs.Ytnpdipmkikakcaa.kp Go.Proofs.Ytnpdipmkikakcaa.opa Go.Proofs.Ytnpdipmkikakcaa.opb Go.Proofs.Ytnpdipmkikakcaa.opc Go.Proofs.Ytnpdipmkikakcaa.opd Go.Proofs.Ytnpdipmkikakcaa.ope Go.Proofs.Ytnpdipmkikakcaa.opf Go.Proofs.Ytnpdipmkikakcaa.opg Go.Proofs.Ytnpdipmkikakcaa.oph
set_option linter.unusedVariables false
theorem ins_eq {l : List D} (h : Srt l) {o : D} (hn : is l o = false) : l.take (ix l o) ++ o :: l.drop (ix l o) = ins l o := by
  obtain ⟨_, _, e1, e2, _⟩ := at_no h hn
  rw [e1, e2]; rfl
set_option maxRecDepth 100000 in
set_option maxHeartbeats 4000000 in
theorem add_any {p : Nat} {F : Nat → Prop} {l : List D} (o : D) (w : World) (h : Tb w p F l) (hs : Srt l) (hn : is l o = false) (hl : l.length ≤ 1000) :
    Calls Try.prog 23 #[.pointer (some ⟨p, 0, none⟩), o.v] w fun e w' => e = .returned (.tuple #[]) ∧ opb.Next w p F (ins l o) w' := by
  have hix := ix_le l o
  have hie := ins_eq hs hn
  have hb0 := ba w (.cells o.cs.toArray 32)
  have hbx := alloc_at w (.cells o.cs.toArray 32)
  have HR := Lib.hid (And.intro (h.below hb0) (And.intro hs (And.intro hb0 (And.intro hbx (And.intro hie (And.intro hn h))))))
  obtain ⟨n, k, q⟩ := o
  simp only [D.v]
  clear h hs hb0 hbx hie hn
  go_enter Try.func23, Try.ntmps23
  go_wp2_with fail
  have HR2 := HR
  simp only [D.cs] at HR2
  refine (find_any ⟨n, k, q⟩ _ HR2.out.1 HR2.out.2.1 hl).mono ?_
  clear HR2
  rintro e w1 ⟨rfl, hb1⟩
  have ht1 : Tb w1 p F l := HR.out.1.below hb1
  have hx1 : w1.heap[w.heap.size]? = some (.cells (D.cs ⟨n, k, q⟩).toArray 32 (0, 0)) := (hb1.block _ (by simp)).trans HR.out.2.2.2.1
  have hbb : Below w.heap.size w w1 := HR.out.2.2.1.trans (hb1.mono (by simp))
  obtain ⟨e0, e1, e2, _⟩ := box_cells hx1
  obtain ⟨a, c, hpb, hrw, hown, hF⟩ := ht1.ex
  obtain ⟨f0, g0⟩ := one_cell hpb
  have hlt := ht1.lt p ht1.mine
  generalize hi : ix l ⟨n, k, q⟩ = i at hix
  have H1 := Lib.hid (And.intro ht1 (And.intro hbb (And.intro hrw (And.intro hown (And.intro hF (And.intro hpb hi))))))
  clear ht1 hx1 hbb hrw hown hF hpb hb1 hi
  go_wp2_with fail
  have hb2 : Below w1.heap.size w1 (w1.drew.alloc (.cells #[.string ⟨n.toArray⟩, .int .i64 k, .int .i64 q] 32)) := bt (bdr w1) (ba _ _)
  have hx2 : (w1.drew.alloc (.cells (D.cs ⟨n, k, q⟩).toArray 32)).heap[w1.heap.size]? = some (.cells (D.cs ⟨n, k, q⟩).toArray 32 (0, 0)) := alloc_at w1.drew _
  have hlw : ∀ k, (Value.slice a l.length c).ownBlock = some k → k < w1.heap.size := fun k e => (World.ownsRow.lt H1.out.2.2.1 k e).2
  have H2 := Lib.hid (And.intro (H1.out.2.2.1.below hb2) (And.intro hx2 (And.intro hb2 hlw)))
  have f2 : (w1.drew.alloc (.cells #[.string ⟨n.toArray⟩, .int .i64 k, .int .i64 q] 32)).cell? ⟨p, 0, none⟩ = some (.slice a l.length c) := ((Keep.of_below (F := fun _ => False) hb2).cell hlt id).trans f0
  have g2 : (w1.drew.alloc (.cells #[.string ⟨n.toArray⟩, .int .i64 k, .int .i64 q] 32)).frozen? ⟨p, 0, none⟩ = false := ((Keep.of_below (F := fun _ => False) hb2).frozen hlt id).trans g0
  clear hb2 hx2 hlw
  go_region_with (first
    | (go_at_call 33; refine (insert_any (o := ⟨n, k, q⟩) H2.out.1 hix hl H2.out.2.1 (fun e => by have := H2.out.2.2.2 _ e; omega)).mono ?_; rintro e w4 ⟨a', c', rfl, hr4, hk4, ho4⟩; have f4 := (hk4.cell (b := p) (o := 0) (by have := H2.out.2.2.1.size; omega) H1.out.2.2.2.1).trans f2; have g4 := (hk4.frozen (b := p) (o := 0) (by have := H2.out.2.2.1.size; omega) H1.out.2.2.2.1).trans g2; have H4 := Lib.hid (And.intro hr4 (And.intro hk4 ho4)); clear hr4 hk4 ho4))
  all_goals
    refine ⟨rfl, .tuple #[], results_none rfl _ _ _, rfl, ?_⟩
    have hN := opb.Next.put (HR.out.2.2.2.2.2.2.below (H1.out.2.1.trans (H2.out.2.2.1.mono H1.out.2.1.size))) f2 H4.out.2.1 H4.out.1 H4.out.2.2
    have el : (l.take i ++ (⟨n, k, q⟩ : D) :: l.drop i).length = i + (l.length - i + 1) := by rw [List.length_append, List.length_cons, List.length_take, List.length_drop]; omega
    rw [el] at hN
    have hie := HR.out.2.2.2.2.1
    rw [H1.out.2.2.2.2.2.2] at hie
    rw [← hie]
    exact opb.Next.trans (F' := F) (Keep.of_below (H1.out.2.1.trans (H2.out.2.2.1.mono H1.out.2.1.size))) (fun _ => Or.inl) hN
end Go.Proofs.Ytnpdipmkikakcaa.opi
