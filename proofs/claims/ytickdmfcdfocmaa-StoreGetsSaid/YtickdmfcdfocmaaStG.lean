/- StoreGets: heaps and names of both kinds, the call's own: Push, Number, Get of each. -/
import Derived.Test.YtickdmfcdfocmaaRGetH
import Derived.Test.YtickdmfcdfocmaaGetG
namespace Go.Proofs.Ytickdmfcdfocmaa.rgh
set_option linter.unusedVariables false
open Go.ChangeShapes Go.WideShapes Go.ChangeAt Go.RowKit Go.Maps
open Go.Proofs.Ytickdmfcdfocmaa.hp Go.Proofs.Ytickdmfcdfocmaa.cel Go.Proofs.Ytickdmfcdfocmaa.kp Go.Proofs.Ytickdmfcdfocmaa.ob Go.Proofs.Ytickdmfcdfocmaa.pm Go.Proofs.Ytickdmfcdfocmaa.tm Go.Proofs.Ytickdmfcdfocmaa.lie Go.Proofs.Ytickdmfcdfocmaa.cur Go.Proofs.Ytickdmfcdfocmaa.ppt
open Go.Proofs.Ytickdmfcdfocmaa.rpt (HB frHB RO frR)
open Go.Proofs.Ytickdmfcdfocmaa.pgt (SC6 nv6 zv getT OT frOT GetP)
open Go.Proofs.Ytickdmfcdfocmaa.atm (l0 nx)
/-- both sides, behind W -/
def SG (W : World) (p q p2 q2 : Nat) (l : List Int) (a : List ByteArray) (wr : World) : Prop := Mine W (Tim (Tim (HB TH p l 100) (PO q a)) (Tim (HB RH p2 l 100) (RO q2 a))) wr
abbrev LA (p q : Nat) (l : List Int) (a : List ByteArray) : Ob := Tim (HB TH p l 100) (PO q a)
abbrev RA2 (p q : Nat) (l : List Int) (a : List ByteArray) : Ob := Tim (HB RH p l 100) (RO q a)
theorem frLA {p q : Nat} {l : List Int} {a : List ByteArray} : Fr (LA p q l a) := frHB.tim frPO
theorem frRA {p q : Nat} {l : List Int} {a : List ByteArray} : Fr (RA2 p q l a) := frHB.tim frR
section
variable {W w wr w' : World} {p q p2 q2 : Nat} {l l' : List Int} {a a' : List ByteArray} {C : Ob}
theorem SG.bel (h : SG W p q p2 q2 l a wr) : Below W.heap.size W wr := Mine.bel h
theorem SG.below (h : SG W p q p2 q2 l a wr) (b : Below wr.heap.size wr w') : SG W p q p2 q2 l a w' := Mine.below (frLA.tim frRA) h b
theorem push2 (h : Mine W (Tim (LA p q l a) (RA2 p2 q2 l' a')) wr) (u : Int) (hu : W64 u) :
    Calls Try.prog 16 #[.pointer (some ⟨p, 0, none⟩), .int .u64 u] wr fun e w' => e = .returned (.tuple #[.int .i64 (pv l 100), .int .i64 (pe l 100)]) ∧ Mine W (Tim (LA p q (px l 100 u) a) (RA2 p2 q2 l' a')) w' := by
  obtain ⟨M, hM, hs, hb, up⟩ := sl.Mine.one frRA h
  obtain ⟨K, hK, up2⟩ := Tim.at1 frPO hM
  exact (push_any hK u hu).mono fun e w' ⟨he, nn⟩ => ⟨he, up _ _ (up2 _ _ nn)⟩
theorem rpush2 (h : Mine W (Tim (LA p q l a) (RA2 p2 q2 l' a')) wr) (u : Int) (hu : W64 u) :
    Calls Try.prog 17 #[.pointer (some ⟨p2, 0, none⟩), .int .u64 u] wr fun e w' => e = .returned (.tuple #[.int .i64 (pv l' 100), .int .i64 (pe l' 100)]) ∧ Mine W (Tim (LA p q l a) (RA2 p2 q2 (px l' 100 u) a')) w' := by
  obtain ⟨M, hM, hs, hb, up⟩ := sl.Mine.two frLA h
  obtain ⟨K, hK, up2⟩ := Tim.at1 frR hM
  exact (rpush_any hK u hu).mono fun e w' ⟨he, nn⟩ => ⟨he, up _ _ (up2 _ _ nn)⟩
theorem num2 (h : Mine W (Tim (LA p q l a) (RA2 p2 q2 l' a')) wr) (s : ByteArray) (hs : s.size ≤ maxLen) :
    Calls Try.prog 18 #[.pointer (some ⟨q, 0, none⟩), .string s] wr fun e w' => (∃ v, e = .returned v) ∧ Mine W (Tim (LA p q l (nx a s)) (RA2 p2 q2 l' a')) w' := by
  obtain ⟨M, hM, hs2, hb, up⟩ := sl.Mine.one frRA h
  obtain ⟨K, hK, up2⟩ := Tim.at2 frHB hM
  exact (atm.num_any hK s hs).mono fun e w' ⟨he, F', t', k', s'⟩ => ⟨⟨_, he⟩, up _ _ (up2 (PO q (nx a s)) _ ⟨F', t', rpt.toK k', s'⟩)⟩
theorem rnum2 (h : Mine W (Tim (LA p q l a) (RA2 p2 q2 l' a')) wr) (s : ByteArray) (hs : s.size ≤ maxLen) (ha : a'.length < 4096) :
    Calls Try.prog 19 #[.pointer (some ⟨q2, 0, none⟩), .string s] wr fun e w' => (∃ v, e = .returned v) ∧ Mine W (Tim (LA p q l a) (RA2 p2 q2 l' (nx a' s))) w' := by
  obtain ⟨M, hM, hs2, hb, up⟩ := sl.Mine.two frLA h
  obtain ⟨K, hK, up2⟩ := Tim.at2 frHB hM
  unfold atm.nx
  by_cases h1 : 200 < s.size
  · rw [if_pos h1]
    refine (atm.rnum_long s h1 hs).mono fun e w' ⟨he, hw⟩ => ⟨⟨_, he⟩, ?_⟩
    subst hw; exact h
  rw [if_neg h1]
  by_cases h2 : s ∈ a'
  · rw [if_pos h2]
    refine (atm.rnum_old hK s (by omega) (by omega) h2).mono fun e w' ⟨he, hw⟩ => ⟨⟨_, he⟩, ?_⟩
    subst hw; exact h
  · rw [if_neg h2, if_neg (by omega)]
    exact (atm.rnum_new hK s (by omega) h2 ha).mono fun e w' ⟨he, F', t', k', s'⟩ => ⟨⟨_, he⟩, up _ _ (up2 (RO q2 (a' ++ [s])) _ ⟨F', t', rpt.toK k', s'⟩)⟩
/-- both are made -/
theorem SG.mk_ {w1 w2 w3 w4 : World} (h1 : hp.Made TH W [] 100 w1) (h2 : atm.Made w1 l0 w2) (h3 : hp.Made RH w2 [] 100 w3) (h4 : atm.RMade w3 q2 l0 w4) : SG W W.heap.size w1.heap.size w2.heap.size q2 [] l0 w4 := by
  have m2 := sl.HP.mk_ h1 h2
  obtain ⟨F, a, b, s⟩ := h3
  have m3 := Mine.more frLA m2 b (B := HB RH w2.heap.size [] 100) a s
  obtain ⟨F2, a2, b2, s2⟩ := h4
  have m4 := Mine.more (frLA.tim frHB) m3 b2 (B := RO q2 l0) a2 s2
  exact m4.imp fun N t => Tim.right_ t
end
end Go.Proofs.Ytickdmfcdfocmaa.rgh
