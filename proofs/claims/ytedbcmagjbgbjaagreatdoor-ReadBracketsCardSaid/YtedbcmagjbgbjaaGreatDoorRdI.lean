/- The project's reader: row (a row of terms that grows). -/
import Derived.Test.YtedbcmagjbgbjaaGreatDoorRdF
import Derived.Test.YtedbcmagjbgbjaaGreatDoorOwn6
namespace Go.Proofs.YtedbcmagjbgbjaaGreatDoor.rd
open Go.ChangeShapes Go.WideShapes Go.ChangeAt Go.RowKit Go.Maps
open Go.Proofs.YtedbcmagjbgbjaaGreatDoor.kp Go.Proofs.YtedbcmagjbgbjaaGreatDoor.num Go.Proofs.YtedbcmagjbgbjaaGreatDoor.dec Go.Proofs.YtedbcmagjbgbjaaGreatDoor.tk
set_option linter.unusedVariables false
set_option linter.unusedSimpArgs false
section
variable {w w' w0 w1 w2 : World} {p m tp N k : Nat} {tv : Value} {all : List Tk} {tl : List opa.D} {ns : Names} {F F' FT : Nat → Prop} {rec : Rec} {f : Nat}
/-- a row of one's own that grows, off the reader's blocks, its terms not older than B -/
structure OW (F : Nat → Prop) (B : Nat) (l : List Tm) (v : Value) (w : World) : Prop where
  x : ow6.XOwn (fun i => F i ∨ i < B) B l v w
  o : ∀ i, v.ownBlock = some i → ¬ F i
theorem OW.nil (F : Nat → Prop) (B : Nat) (w : World) : OW F B [] (.slice none 0 0) w := ⟨ow6.XOwn.nil _ _ _, fun i h => by cases h⟩
theorem OW.nx {B : Nat} {l : List Tm} {v : Value} (h : OW F B l v w) (n : Nx F w F' w') : OW F' B l v w' := by
  obtain ⟨⟨xs, ho, hx⟩, hf⟩ := h
  refine ⟨⟨xs, ow6.row6_keep ho fun i e => n.keep.block i (ho.lt i e).2 (hf i e), fun m hm => ?_⟩, fun i e hi => ?_⟩
  · obtain ⟨v0, v1, v2, v3, v4, v5, h0, h1, h2, h3, h4, h5, ht⟩ := hx m hm
    refine ⟨v0, v1, v2, v3, v4, v5, h0, h1, h2, h3, h4, h5, lie.Lies.keep (n.keep.mono (G := fun i => (F i ∨ i < B) ∨ v.ownBlock = some i) fun i hi => Or.inl (Or.inl hi)) (fun b hb hy => ?_) _ _ ht⟩
    rcases hy with (hy | hy) | hy
    · rcases n.own b hy with a | a
      · exact Or.inl (Or.inl a)
      · omega
    · exact Or.inl (Or.inr hy)
    · exact Or.inr hy
  · rcases n.own i hi with a | a
    · exact hf i e a
    · have := (ho.lt i e).2; omega
theorem OW.lw {B : Nat} {l : List Tm} {v : Value} (h : OW F B l v w) : ∃ a c, v = .slice a l.length c ∧ Lw F B w l a c := by
  obtain ⟨⟨xs, ho, hx⟩, hf⟩ := h
  rcases ho.2 with ⟨rfl, h0⟩ | ⟨g, cap, cur, rfl, hg0, hgc, h1, h2, h3, h4⟩
  · have : l = [] := List.eq_nil_of_length_eq_zero h0
    subst this
    exact ⟨none, 0, rfl, by rw [lie.TRow]; trivial, by simp, by omega⟩
  · refine ⟨_, cap, rfl, lie.TRow.mk l 0 fun m hm => ?_, h1, by have : cap ≤ maxLen := h2; unfold maxLen at this; omega⟩
    obtain ⟨v0, v1, v2, v3, v4, v5, e0, e1, e2, e3, e4, e5, ht⟩ := hx m hm
    have e : ∀ j x, xs[j]? = some x → w.cell? ⟨g, j, none⟩ = some x := fun j x hj => by
      rw [← h4, List.getElem?_take] at hj
      split at hj
      · simp [World.cell?, hgc]; simpa using hj
      · cases hj
    refine ⟨g, 0, v0, v1, v2, v3, v4, v5, rfl, ?_, ?_, ht.off fun b _ hb => Or.inl hb⟩
    · rintro (hi | hi)
      · exact hf g rfl hi
      · omega
    simp only [Nat.zero_add]
    exact ⟨e _ _ e0, e _ _ e1, e _ _ e2, e _ _ e3, e _ _ e4, e _ _ e5⟩
/-- a caller's own block turns -/
theorem St.turn {k0 : Nat} {ns0 : Names} {F0 : Nat → Prop} {G : Nat → Prop} (h0 : St p m tv tp FT N all tl k0 ns0 F0 w0) (h : St p m tv tp FT N all tl k ns F w) (hn : Nx F0 w0 F w) (hb : ∀ i, G i → w0.heap.size ≤ i) (hF : ∀ i, G i → ¬ F i) (K : Keep G w w') :
    St p m tv tp FT N all tl k ns F w' ∧ Nx F0 w0 F w' := by
  refine ⟨⟨h.rs.keep K (fun i hi hg => hF i hg hi), ⟨ow_keep h.env.toks fun i e => K.block i (h.env.toks.lt i e).2 (fun e2 => ?_), h.env.toff, h.env.tab.keep K (fun i hi e2 => ?_), h.env.tabo, h.env.srt, h.env.len, h.env.pri⟩, h.kle, h.ale, h.nle, h.ok⟩, ⟨hn.keep.trans K fun i hi => Or.inr (hb i hi), hn.own⟩⟩
  · have := (h0.env.toks.lt i e).2; have := hb i e2; omega
  · have := h0.env.tab.lt i hi; have := hb i e2; omega
/-- each term takes a token -/
def Short (rec : Rec) : Prop := ∀ most level ts ns v r n, rec most level ts ns = .ok v r n → r.length < ts.length
def WR (p m : Nat) (tv : Value) (tp : Nat) (FT : Nat → Prop) (N : Nat) (all : List Tk) (tl : List opa.D) (rec : Rec) (level k : Nat) (R : PR (List Tm)) (F : Nat → Prop) (w : World) (g : Nat) (s6 : Value) (wr : World) : Prop :=
  ∃ j acc ns' F' fu, g = all.length - j ∧ St p m tv tp FT N all tl j ns' F' wr ∧ Nx F w F' wr ∧ OW F' w.heap.size acc s6 wr ∧ acc.length ≤ j ∧ k ≤ j ∧ all.length - j < fu ∧ row N rec level fu acc (all.drop j) ns' = R
theorem info_tm : ∃ i, Tryz.prog.info? 27 = some i ∧ i.zero = some pln.ZV ∧ i.size = 6 ∧ i.bytes = 72 := info_of pln.infoT
set_option maxRecDepth 100000 in
set_option maxHeartbeats 8000000 in
theorem row_any (hg : Good p m tv tp FT N all tl rec f) (hsh : Short rec) (h : St p m tv tp FT N all tl k ns F w) (hf : all.length < f + k) (level : Nat) (hlev : level ≤ 3000) :
    Calls Tryz.prog 165 #[.pointer (some ⟨p, 0, none⟩), .int .i64 (level : Int)] w (RE p m tv tp FT N all tl (row N rec level ((all.drop k).length + 1) [] (all.drop k) ns) F w) := by
  obtain ⟨R, hR⟩ : ∃ R, R = row N rec level ((all.drop k).length + 1) [] (all.drop k) ns := ⟨_, rfl⟩
  rw [← hR]
  have H0 := Lib.hid (And.intro h (And.intro hg (And.intro hsh (And.intro hf (And.intro hlev hR.symm)))))
  clear h hg hsh hf hR hlev
  go_enter Tryz.func165, Tryz.ntmps165
  go_wp2_with fail
  go_loopg [6] (all.length - k) (WR p m tv tp FT N all tl rec level k R F w)
  case atStart => exact ⟨k, [], ns, F, (all.drop k).length + 1, rfl, H0.out.1, Nx.below (kp.br _), OW.nil _ _ _, by simp, Nat.le_refl _, by simp, H0.out.2.2.2.2.2⟩
  case round =>
    obtain ⟨j, acc, ns', F', fu, rfl, hS, hN, hO, haj, hkj, hfu, hRj⟩ := hrel
    obtain ⟨fu, rfl⟩ : ∃ q, fu = q + 1 := ⟨fu - 1, by omega⟩
    have HC := Lib.hid (H0.out.2.1 999 level j ns' F' wr hS (by have := H0.out.2.2.2.1; omega) (by omega) (by omega) H0.out.2.2.2.2.1)
    obtain ⟨T, hT⟩ : ∃ T, rec 999 level (all.drop j) ns' = T := ⟨_, rfl⟩
    rw [row, hT] at hRj
    have hT2 := hT
    rw [hT] at HC
    have H := Lib.hid (And.intro hS (And.intro hN (And.intro hO (And.intro haj (And.intro hkj (And.intro hfu (And.intro hRj hT2)))))))
    clear hS hN hO haj hkj hfu hRj hT hT2
    cases T with
    | er n rest ns2 =>
      go_wp2_with fail
      refine HC.out.mono ?_; rintro e w2 ⟨rfl, hn0, k', F2, hd, hS2, hN2⟩
      have e1 : (n != 0) = true := by rw [bne_iff_ne]; exact hn0
      have HS := Lib.hid (And.intro hn0 (And.intro hd (And.intro hS2 (H.out.2.1.trans hN2))))
      unfold Z0 tmV
      obtain ⟨⟨a0, a1, a2, a3, a4, a5⟩, b0, b1, b2, b3, b4, b5⟩ := six (alloc_at w2 TZ)
      clear hn0 hd hS2 hN2
      go_upto_region 3 with fail
      refine nmw (K := fun W => Below w2.heap.size w2 W) (kp.ba w2 _) (fun W hW => ?_)
      have HU := Lib.hid (And.intro (HS.out.2.2.1.below hW) (HS.out.2.2.2.trans (Nx.below hW)))
      clear a0 a1 a2 a3 a4 a5 b0 b1 b2 b3 b4 b5 hW
      go_wp2_with fail
      go_ret2
      rw [← H.out.2.2.2.2.2.2.1]
      exact ⟨rfl, HS.out.1, k', F2, HS.out.2.1, HU.out.1, HU.out.2⟩
    | ok t rest ns2 =>
      go_wp2_with fail
      refine HC.out.mono ?_; rintro e w2 ⟨v, k', F2, rfl, hd, hS2, hN2, hL⟩
      obtain ⟨v0, v1, v2, v3, v4, va, vl, vc, rfl⟩ := Lv.shape hL
      have HS := Lib.hid (And.intro hL (And.intro hd (And.intro hS2 (And.intro (H.out.2.1.trans hN2) (H.out.2.2.1.nx hN2)))))
      obtain ⟨⟨a0, a1, a2, a3, a4, a5⟩, b0, b1, b2, b3, b4, b5⟩ := six (alloc_at w2 TZ)
      obtain ⟨g, hgq⟩ : ∃ g, g = w2.heap.size := ⟨_, rfl⟩
      clear hL hd hS2 hN2
      go_upto_region 3 with fail
      refine nmw (K := fun W => Below w2.heap.size w2 W ∧ W.heap[g]? = some (TC (.int .i64 v0) (.string v1) (.int .i64 v2) (.int .u64 v3) (.int .u64 v4) (.slice va vl vc))) ⟨kp.ba w2 _, by rw [hgq]; exact alloc_at w2 _⟩ (fun W hW => ?_)
      rw [← hgq]
      obtain ⟨⟨s0, s1, s2, s3, s4, s5⟩, -⟩ := six hW.2
      have hOW := HS.out.2.2.2.2.nx (Nx.below hW.1)
      have HWW := Lib.hid (And.intro (HS.out.2.2.1.below hW.1) (And.intro (HS.out.2.2.2.1.trans (Nx.below hW.1)) (And.intro hOW (Nx.lv (Nx.below hW.1) HS.out.1))))
      obtain ⟨xs, ho, hx⟩ := hOW.x.ex
      obtain ⟨ra, rc, rfl⟩ := kp.shape ho
      have HO := Lib.hid (And.intro ho hx)
      obtain ⟨i0, hi0, hz0, hz1, hz2⟩ := info_tm
      have HI := Lib.hid (And.intro hi0 (And.intro hz0 (And.intro hz1 hz2)))
      have hacc : acc.length ≤ 65536 := by have := H.out.2.2.2.1; have := H.out.1.kle; have := H.out.1.ale; omega
      clear a0 a1 a2 a3 a4 a5 b0 b1 b2 b3 b4 b5 hW hOW ho hx hi0 hz0 hz1 hz2 hgq
      go_wp2_with (at_builtin; refine wpList_append_lies _ rfl (.tmp 18) (.tmp 20) 25 rfl w.heap.size 27 i0 pln.ZV 6 72 Tryz.underlying25 HI.out.1 HI.out.2.1 HI.out.2.2.1 HI.out.2.2.2 rfl (by decide) _ acc.length xs rfl (ow6.row6_keep HO.out.1 fun q e => (kp.ba _ _).block q (HO.out.1.lt q e).2) ⟨W.heap.size, 0, none⟩ 1 1 [.int .i64 v0, .string v1, .int .i64 v2, .int .u64 v3, .int .u64 v4, .slice va vl vc] rfl rfl (tk.news6 _ _ _ _ _ _ _ _) ?ac1 (by omega) ?ac2 ?ac3 ?ac4 _ rfl ?_)
      case ac1 => intro u hu; simp only [List.mem_cons, List.not_mem_nil, or_false] at hu; rcases hu with rfl | rfl | rfl | rfl | rfl | rfl <;> rfl
      case ac2 => unfold maxLen; omega
      case ac3 => omega
      case ac4 => have := HWW.out.2.1.keep.size; rw [alloc_size]; omega
      intro g' c' w9 ho9 hg9 ha9 hl9
      have hown : ∀ i, (Value.slice ra acc.length rc).ownBlock = some i → w.heap.size ≤ i ∧ i < wr.heap.size := fun i e => by
        obtain ⟨ys, hy, -⟩ := H.out.2.2.1.x.ex
        exact ⟨(HO.out.1.lt i e).1, (hy.lt i e).2⟩
      have hww := H.out.2.1.keep.size
      have ht : lie.Lies (fun i => (F2 i ∨ i < w.heap.size) ∨ (Value.slice ra acc.length rc).ownBlock = some i) W t (.agg #[.int .i64 v0, .string v1, .int .i64 v2, .int .u64 v3, .int .u64 v4, .slice va vl vc]) :=
        lie.Lies.off (fun b _ hy => by
          rcases hy with (hy | hy) | hy
          · exact Or.inl hy
          · exact Or.inr (by omega)
          · exact Or.inr (hown b hy).2) HWW.out.2.2.2
      have hadd := ow6.XOwn.add (Z := fun i => F2 i ∨ i < w.heap.size) (t := t) HO.out.2 HO.out.1 ht ho9 hg9 (ha9.imp id fun e => by omega)
      have hnF : ¬ F2 g' := by
        rcases ha9 with e | e
        · exact HWW.out.2.2.1.o g' e
        · intro hf; have := HWW.out.1.lt g' hf; omega
      have hT := St.turn (G := fun i => (Value.slice ra acc.length rc).ownBlock = some i) H0.out.1 HWW.out.1 HWW.out.2.1 (fun i e => (hown i e).1) (fun i e => HWW.out.2.2.1.o i e) hadd.2
      have hOW9 : OW F2 w.heap.size (acc ++ [t]) (.slice (some ⟨g', 0, none⟩) (acc ++ [t]).length c') w9 := ⟨hadd.1, fun i e => by simp only [Value.ownBlock, Option.some.injEq] at e; subst e; exact hnF⟩
      have hlen : (acc ++ [t]).length = acc.length + 1 := by simp
      rw [hlen] at hOW9
      have HPA := Lib.hid (passes_st hT.1 44)
      have H9 := Lib.hid (And.intro hT.1 (And.intro hT.2 hOW9))
      obtain ⟨bp, hbp⟩ : ∃ bp, bp = isP (see N (all.drop k') 0) 44 := ⟨_, rfl⟩
      rw [← hbp] at HPA
      have HBP := Lib.hid hbp
      have HLN := Lib.hid hlen
      have hkk : j < k' := by
        have h1 := H0.out.2.2.1 _ _ _ _ _ _ _ H.out.2.2.2.2.2.2.2
        rw [← HS.out.2.1, List.length_drop, List.length_drop] at h1
        have := HS.out.2.2.1.kle; omega
      have HKK := Lib.hid hkk
      have hRj := H.out.2.2.2.2.2.2.1
      change (if isP (see N rest 0) 44 = true then row N rec level fu (acc ++ [t]) rest.tail ns2 else PR.ok (acc ++ [t]) rest ns2) = R at hRj
      rw [← HS.out.2.1, ← hbp] at hRj
      have HRJ := Lib.hid hRj
      clear hown hww ht hadd hnF hT hOW9 hlen hbp hkk hRj ho9 hg9 ha9 hl9 s0 s1 s2 s3 s4 s5
      go_wp2_with fail
      refine HPA.out.mono ?_; rintro e w3 ⟨rfl, hS3, hN3, hd3⟩
      cases bp with
      | true =>
        rw [if_pos rfl] at hS3
        have HU := Lib.hid (And.intro hS3 (And.intro (H9.out.2.1.trans hN3) (And.intro (H9.out.2.2.nx hN3) (hd3 rfl))))
        clear hS3 hN3 hd3
        go_wp2_with fail
        go_roundg (all.length - (k' + 1))
        case measure => have := HKK.out; have := HU.out.1.kle; omega
        case rel =>
          have hRj := HRJ.out
          rw [if_pos (by first | rfl | trivial)] at hRj
          exact ⟨k' + 1, acc ++ [t], ns2, F2, fu, rfl, HU.out.1, HU.out.2.1, HU.out.2.2.1, by have := HLN.out; have := H.out.2.2.2.1; have := HKK.out; omega, by have := H.out.2.2.2.2.1; have := HKK.out; omega, by have := H.out.2.2.2.2.2.1; have := HKK.out; have := HU.out.1.kle; omega, by rw [HU.out.2.2.2]; exact hRj⟩
      | false =>
        rw [if_neg (by decide)] at hS3
        have HU := Lib.hid (And.intro hS3 (And.intro (H9.out.2.1.trans hN3) (H9.out.2.2.nx hN3)))
        clear hS3 hN3 hd3
        go_wp2_with fail
        go_ret2
        have hRj := HRJ.out
        rw [if_neg (by decide)] at hRj
        rw [← hRj]
        obtain ⟨a9, c9, h9, hl9⟩ := HU.out.2.2.lw
        rw [HLN.out] at h9
        exact ⟨a9, c9, k', F2, by rw [HLN.out, ← h9]; rfl, rfl, HU.out.1, HU.out.2.1, hl9⟩
end
end Go.Proofs.YtedbcmagjbgbjaaGreatDoor.rd
