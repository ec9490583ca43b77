/- The law HeapPlays holds: for every input its Go function returns true and leaves its arguments as they were. No condition beyond the row's own. -/
import Derived.Test.YthcfbolakjgfgaaRows
import Derived.WalkKit
import Derived.ProofKit
import Derived.OpenShut
import Derived.SizedLaws
import Derived.Test.YthcfbolakjgfgaaRHeap
import Derived.Test.YthcfbolakjgfgaaH5
import Derived.Test.YthcfbolakjgfgaaCls
import Derived.LoopTactic
import Derived.Deep.DeepCutAuto
import Derived.Deep.CutBlock
import Derived.Deep.LoopGhost
import Derived.StillTailTactics
namespace Go.Proofs.Ythcfbolakjgfgaa.heapPlays
open Go.ChangeShapes Go.WideShapes Go.ChangeAt Go.RowKit
open Go.ChangeMaps (open_string)
open Go.Proofs.Ythcfbolakjgfgaa.arg
open Go.Proofs.Ythcfbolakjgfgaa.hp Go.Proofs.Ythcfbolakjgfgaa.cel Go.Proofs.Ythcfbolakjgfgaa.kp
set_option linter.unusedVariables false
theorem own : ownKnob Try.prog.godebug = none := by kernel_rfl
theorem laidOut : laidOutB Try.prog = true := by kernel_rfl
theorem sl_rule {a : Option Addr} {n c i : Nat} (hi : i ≤ c) (wx : World) : (Instr.slice 30 (.slice a n c) none (some (.int .i64 (i : Int))) none).run Try.prog wx = .ok (.slice a i c) wx := by
  have he : Try.prog.elem 30 = 24 := by kernel_rfl
  have hs : (sizeOf 24).run Try.prog wx = .ok 1 wx := by kernel_rfl
  rw [run_slice_h _ _ _ _ _ (by rw [he]; exact Try.underlying30) _ _ (by omega) (by omega), he, hs]
  cases a with
  | none => simp [Result.andThen, sliced]
  | some p => simp [Result.andThen, sliced, Addr.add]
theorem slAt_rule {a : Option Addr} {n c i : Nat} (hi : i ≤ c) (wx : World) : (Instr.sliceAt 30 (.slice a n c) none (some (.int .i64 (i : Int))) none).run Try.prog wx = .ok (.slice a i c) wx := by
  have he : Try.prog.elem 30 = 24 := by kernel_rfl
  rw [run_sliceAt_slice _ _ _ _ _ _ (by rw [he]; exact Try.underlying30), sl_rule hi]
/-- the cells behind one call -/
def stp (x : Cl) (l : List Int) (m : Int) : List Int := if x.1 = 0 then px l m x.2.2 else if x.1 = 1 then px l m (l.length * 8) else if x.1 = 2 then sx l x.2.1 x.2.2 else if x.1 = 3 then cx l x.2.1 else l
/-- the heap and the page's heap, apart -/
def Two (W : World) (p q : Nat) (la lb : List Int) (m : Int) (wr : World) : Prop := ∃ F G : Nat → Prop, Hp TH wr p F la m ∧ Hp RH wr q G lb m ∧ (∀ j, F j → ¬ G j) ∧ Below W.heap.size W wr ∧ (∀ j, F j → W.heap.size ≤ j) ∧ (∀ j, G j → W.heap.size ≤ j)
theorem Two.below {W wr w2 : World} {p q : Nat} {la lb : List Int} {m : Int} (h : Two W p q la lb m wr) (b : Below wr.heap.size wr w2) : Two W p q la lb m w2 := by
  obtain ⟨F, G, ta, tb, d, b0, f, g⟩ := h
  exact ⟨F, G, ta.below b, tb.below b, d, b0.trans (b.mono b0.size), f, g⟩
theorem Two.drewN {W wr : World} {p q : Nat} {la lb : List Int} {m : Int} (h : Two W p q la lb m wr) (n : Nat) : Two W p q la lb m (wr.drewN n) := h.below (drewN_below wr n)
def R (W : World) (p q N : Nat) (m : Int) (gk : Nat) (i : Value) (wr : World) : Prop := ∃ (k : Nat) (l : List Int), k ≤ N ∧ gk = N - k ∧ i = .int .i64 k ∧ Two W p q l l m wr
/-- the block that a call lies in -/
def Blk3 (w : World) (b : Nat) (x : Cl) : Prop := w.heap[b]? = some (.cells #[.int .i64 x.1, .int .i64 x.2.1, .int .u64 x.2.2] 34 (0, 0))
theorem Blk3.lt {w : World} {b : Nat} {x : Cl} (h : Blk3 w b x) : b < w.heap.size := (Array.getElem?_eq_some_iff.1 h).1
theorem Blk3.cells {w : World} {b : Nat} {x : Cl} (h : Blk3 w b x) : w.cell? ⟨b, 0, none⟩ = some (.int .i64 x.1) ∧ w.cell? ⟨b, 1, none⟩ = some (.int .i64 x.2.1) ∧ w.cell? ⟨b, 2, none⟩ = some (.int .u64 x.2.2) := by
  unfold Blk3 at h; refine ⟨?_, ?_, ?_⟩ <;> simp [World.cell?, h]
/-- .. and the call's block, of neither -/
def TX (W : World) (p q b : Nat) (x : Cl) (la lb : List Int) (m : Int) (wr : World) : Prop := ∃ F G : Nat → Prop, Hp TH wr p F la m ∧ Hp RH wr q G lb m ∧ (∀ j, F j → ¬ G j) ∧ Below W.heap.size W wr ∧ (∀ j, F j → W.heap.size ≤ j) ∧ (∀ j, G j → W.heap.size ≤ j) ∧ ¬ F b ∧ ¬ G b ∧ Blk3 wr b x
theorem TX.two {W wr : World} {p q b : Nat} {x : Cl} {la lb : List Int} {m : Int} (h : TX W p q b x la lb m wr) : Two W p q la lb m wr := by
  obtain ⟨F, G, ta, tb, d, b0, f, g, _⟩ := h
  exact ⟨F, G, ta, tb, d, b0, f, g⟩
theorem TX.of_two {W wr : World} {p q : Nat} {x : Cl} {la lb : List Int} {m : Int} (h : Two W p q la lb m wr) : TX W p q wr.heap.size x la lb m (wr.alloc (.cells #[.int .i64 x.1, .int .i64 x.2.1, .int .u64 x.2.2] 34)) := by
  have h2 := h.below (ba wr (.cells #[.int .i64 x.1, .int .i64 x.2.1, .int .u64 x.2.2] 34))
  obtain ⟨F, G, ta, tb, d, b0, f, g⟩ := h
  exact ⟨F, G, ta.below (ba _ _), tb.below (ba _ _), d, b0.trans ((ba wr _).mono b0.size), f, g, fun h => by have := ta.lt _ h; omega, fun h => by have := tb.lt _ h; omega, alloc_at _ _⟩
theorem TX.drewN {W wr : World} {p q b : Nat} {x : Cl} {la lb : List Int} {m : Int} (h : TX W p q b x la lb m wr) (n : Nat) : TX W p q b x la lb m (wr.drewN n) := by
  obtain ⟨F, G, ta, tb, d, b0, f, g, h1, h2, h3⟩ := h
  exact ⟨F, G, ta.drewN n, tb.drewN n, d, b0.trans ((drewN_below wr n).mono b0.size), f, g, h1, h2, h3⟩
theorem TX.left {W wr w2 : World} {p q b : Nat} {x : Cl} {lb la' : List Int} {m : Int} {F G : Nat → Prop} (tb : Hp RH wr q G lb m) (d : ∀ j, F j → ¬ G j) (b0 : Below W.heap.size W wr) (f : ∀ j, F j → W.heap.size ≤ j) (g : ∀ j, G j → W.heap.size ≤ j)
    (h1 : ¬ F b) (h2 : ¬ G b) (h3 : Blk3 wr b x) (n : hp.Next TH wr p F la' m w2) : TX W p q b x la' lb m w2 := by
  obtain ⟨F2, t2, k2, s2⟩ := n
  have hlt := tb.lt
  refine ⟨F2, G, t2, tb.keep k2 (fun j hg hf => d j hf hg), fun j hf hg => ?_, b0.trans (k2.to_below f b0.size), fun j hj => (s2 j hj).elim (f j) (Nat.le_trans b0.size), g, fun h => ?_, h2, ?_⟩
  · rcases s2 j hf with h | h
    · exact d j h hg
    · have := hlt j hg; omega
  · rcases s2 b h with h | h
    · exact h1 h
    · have := h3.lt; omega
  · unfold Blk3 at h3 ⊢; rw [k2.block b (Array.getElem?_eq_some_iff.1 h3).1 h1]; exact h3
theorem TX.right {W wr w2 : World} {p q b : Nat} {x : Cl} {la lb' : List Int} {m : Int} {F G : Nat → Prop} (ta : Hp TH wr p F la m) (d : ∀ j, F j → ¬ G j) (b0 : Below W.heap.size W wr) (f : ∀ j, F j → W.heap.size ≤ j) (g : ∀ j, G j → W.heap.size ≤ j)
    (h1 : ¬ F b) (h2 : ¬ G b) (h3 : Blk3 wr b x) (n : hp.Next RH wr q G lb' m w2) : TX W p q b x la lb' m w2 := by
  obtain ⟨G2, t2, k2, s2⟩ := n
  have hlt := ta.lt
  refine ⟨F, G2, ta.keep k2 (fun j hf hg => d j hf hg), t2, fun j hf hg => ?_, b0.trans (k2.to_below g b0.size), f, fun j hj => (s2 j hj).elim (g j) (Nat.le_trans b0.size), h1, fun h => ?_, ?_⟩
  · rcases s2 j hg with h | h
    · exact d j hf h
    · have := hlt j hf; omega
  · rcases s2 b h with h | h
    · exact h2 h
    · have := h3.lt; omega
  · unfold Blk3 at h3 ⊢; rw [k2.block b (Array.getElem?_eq_some_iff.1 h3).1 h2]; exact h3
def InBool (l : List Int) (n : Int) (wa : World) (s : Value) (wx : World) : Prop := s = .bool (gb l n) ∧ ∃ j, wx = wa.drewN j
def TXc (W : World) (p q b : Nat) (x : Cl) (l : List Int) (m : Int) (wr : World) : Prop := TX W p q b x l l m wr
set_option maxHeartbeats 16000000 in
set_option maxRecDepth 100000 in
theorem walk (w : World) (a0 : Int) (w0 : (Lit.int .i64 a0).wf = true) (a1 : Option Addr) (n1 c1 : Nat) (t1 : List Cl) (x1 : CRow w a1 n1 t1) (a2 : Int) (w2 : (Lit.int .u64 a2).wf = true) :
    Calls Try.prog 3 #[.int .i64 a0, .slice a1 n1 c1, .int .u64 a2] w fun e w' => e = .returned (.bool true) ∧ Below w.heap.size w w' := by
  have hn0 : n1 ≤ 8796093022208 := by have := x1.reach; omega
  have X := Lib.hid x1
  have HC := Lib.hid (w64_wf w2)
  obtain ⟨m, hm⟩ : ∃ m, m = max 0 (min a0 1048576) := ⟨_, rfl⟩
  clear x1 w0 w2
  go_enter Try.func3, Try.ntmps3
  go_wp2_with fail
  refine (new_any a0 w).mono ?_; rintro e w1 ⟨rfl, made⟩
  rw [← hm] at made
  have O1 := Lib.hid made
  have hm' := Lib.hid hm
  clear made hm
  go_wp2_with fail
  refine (rnew_any a0 w1).mono ?_; rintro e w2 ⟨rfl, made⟩
  rw [← hm'.out] at made
  have S0 : Two w w.heap.size w1.heap.size [] [] m w2 := by
    obtain ⟨F, t, b, s⟩ := O1.out
    obtain ⟨G, t2, b2, s2⟩ := made
    have hlt := t.lt
    exact ⟨F, G, t.below b2, t2, fun j hf hg => by have := hlt j hf; have := s2 j hg; omega, b.trans (b2.mono b.size), s, fun j hj => Nat.le_trans b.size (s2 j hj)⟩
  clear made O1 hm'
  obtain ⟨q, hq⟩ : ∃ q, q = w1.heap.size := ⟨_, rfl⟩
  obtain ⟨p, hp⟩ : ∃ p, p = w.heap.size := ⟨_, rfl⟩
  have S1 : Hid (Two w p q [] [] m w2) := by rw [hq, hp]; exact Lib.hid S0
  clear S0
  rw [← hq, ← hp]
  clear hq hp
  obtain ⟨F, G, ta, tb, dj, b, f, g⟩ := S1.out
  have cm := fun n => Lib.hid (most_any (ta.drewN n))
  obtain ⟨ma, mc, c0, c1', f0, f1, _⟩ := tb.open_
  clear ta tb dj b f g
  go_wp2_with fail
  go_quiet ((go_at_call 11; exact quiet_left (cm _).out))
  have S2 := Lib.hid (S1.out.drewN nq)
  generalize w2.drewN nq = w3 at *
  clear cm c0 c1' f0 f1 S1
  go_wp2_with fail
  go_loopg [9] (min n1 150) (R w p q (min n1 150) m)
  case atStart => exact ⟨0, [], by omega, by omega, rfl, S2.out⟩
  case round =>
    obtain ⟨k, l, hk, rfl, rfl, two⟩ := hrel
    have TW := Lib.hid two
    obtain ⟨F, G, ta, tb, dj, b, f, g⟩ := two
    by_cases hlt : k < n1 ∧ k < 150
    · obtain ⟨hlt, h150⟩ := hlt
      obtain ⟨gx, o, hg, c0, c1, c2, hix⟩ := X.out.look (k := k) hlt
      have hB := b
      have c0' := (hB.cell (p := ⟨gx, o, none⟩) hg).trans c0
      have c1' := (hB.cell (p := ⟨gx, o + 1, none⟩) hg).trans c1
      have c2' := (hB.cell (p := ⟨gx, o + 2, none⟩) hg).trans c2
      have hwf := X.out.wf k
      generalize t1.getD k cl0 = xx at *
      obtain ⟨d, at_, cc⟩ := xx
      have hgw : gx < wr.heap.size := Nat.lt_of_lt_of_le hg hB.size
      have HW := Lib.hid hwf
      clear c0 c1 c2 hB hwf ta tb dj b f g
      go_upto_region 8 with fail
      obtain ⟨bx, hbx⟩ : ∃ bx, bx = wr.heap.size := ⟨_, rfl⟩
      obtain ⟨wa, hwa⟩ : ∃ wa, wa = wr.alloc (.cells #[.int .i64 d, .int .i64 at_, .int .u64 cc] 34) := ⟨_, rfl⟩
      have TA : Hid (TX w p q bx (d, at_, cc) l l m wa) := by rw [hwa, hbx]; exact TX.of_two (x := (d, at_, cc)) TW.out
      rw [← hwa, ← hbx]
      clear hwa hbx c0' c1' c2' hix TW
      go_cut [11] (fun s wx => InBool l at_ wa s wx)
      case first => as_aux_lemma =>
        obtain ⟨F, G, ta, tb, dj, b, f, g, g1, g2, g3⟩ := TA.out
        obtain ⟨ma, mc, e0, e1, f0, f1, _⟩ := tb.open_
        obtain ⟨x0, x1, x2⟩ := g3.cells
        clear ta tb dj b f g g1 g2 g3
        by_cases h0 : 0 ≤ at_
        · have eg := Lib.hid (show gb l at_ = decide (at_ < (l.length : Int)) by unfold gb; simp [h0])
          go_quiet (fail)
          go_wp2_with fail
          go_meet
          exact ⟨by rw [eg.out], _, rfl⟩
        · have eg := Lib.hid (show gb l at_ = false by unfold gb; simp [h0])
          have d0 : decide (0 ≤ at_) = false := by simpa using h0
          go_quiet (fail)
          go_wp2_with fail
          go_meet
          exact ⟨by rw [eg.out], _, rfl⟩
      case rest =>
        obtain ⟨rfl, j, rfl⟩ := hcut
        have TB := Lib.hid (TA.out.drewN j)
        generalize wa.drewN j = wb at *
        clear TA
        obtain ⟨F, G, ta, tb, dj, b, f, g, g1, g2, g3⟩ := TB.out
        obtain ⟨x0, x1, x2⟩ := g3.cells
        clear ta tb dj b f g g1 g2 g3
        go_upto_block 2 with fail
        go_cut [11] (fun _ wx => TXc w p q bx (d, at_, cc) (stp (d, at_, cc) l m) m wx)
        case first =>
          obtain ⟨F, G, ta, tb, dj, b, f, g, g1, g2, g3⟩ := TB.out
          have hw3 : W64 cc := HW.out.2.2
          by_cases d0 : d = 0
          · as_aux_lemma =>
            subst d0
            have hp1 := push_any ta cc hw3
            have ST := fun w2 => Lib.hid (fun (n : hp.Next TH wb p F (px l m cc) m w2) => TX.left (w2 := w2) (la' := px l m cc) tb dj b f g g1 g2 g3 n)
            have HWW := Lib.hid hw3
            clear ta tb dj b f g g1 g2 g3 hw3
            go_wp2_with fail
            refine hp1.mono ?_; rintro e w4 ⟨rfl, nx⟩
            have T4 := (ST w4).out nx
            obtain ⟨F, G, ta, tb, dj, b, f, g, g1, g2, g3⟩ := T4
            have hp2 := rpush_any tb cc HWW.out
            have ST2 := fun w2 => Lib.hid (fun (n : hp.Next RH w4 q G (px l m cc) m w2) => TX.right (w2 := w2) (lb' := px l m cc) ta dj b f g g1 g2 g3 n)
            obtain ⟨y0, y1, y2⟩ := g3.cells
            clear ta tb dj b f g g1 g2 g3 nx ST hp1
            go_wp2_with fail
            refine hp2.mono ?_; rintro e w5 ⟨rfl, nx⟩
            have T5 := Lib.hid ((ST2 w5).out nx)
            clear nx ST2 hp2
            go_wp2_with fail
            go_meet
            show TX _ _ _ _ _ (stp (0, at_, cc) l m) (stp (0, at_, cc) l m) _ _
            rw [show stp (0, at_, cc) l m = px l m cc from rfl]; exact T5.out
          · by_cases d1 : d = 1
            · as_aux_lemma =>
              subst d1
              have hp1 := var_any ta
              have ST := fun w2 => Lib.hid (fun (n : hp.Next TH wb p F (px l m (l.length * 8)) m w2) => TX.left (w2 := w2) (la' := px l m (l.length * 8)) tb dj b f g g1 g2 g3 n)
              clear ta tb dj b f g g1 g2 g3 hw3 d0
              go_wp2_with fail
              refine hp1.mono ?_; rintro e w4 ⟨rfl, nx⟩
              have T4 := (ST w4).out nx
              obtain ⟨F, G, ta, tb, dj, b, f, g, g1, g2, g3⟩ := T4
              have hp2 := rvar_any tb
              have ST2 := fun w2 => Lib.hid (fun (n : hp.Next RH w4 q G (px l m (l.length * 8)) m w2) => TX.right (w2 := w2) (lb' := px l m (l.length * 8)) ta dj b f g g1 g2 g3 n)
              clear ta tb dj b f g g1 g2 g3 nx ST hp1
              go_wp2_with fail
              refine hp2.mono ?_; rintro e w5 ⟨rfl, nx⟩
              have T5 := Lib.hid ((ST2 w5).out nx)
              clear nx ST2 hp2
              go_wp2_with fail
              go_meet
              show TX _ _ _ _ _ (stp (1, at_, cc) l m) (stp (1, at_, cc) l m) _ _
              rw [show stp (1, at_, cc) l m = px l m (l.length * 8) from rfl]; exact T5.out
            · by_cases d2 : d = 2
              · subst d2
                have hp1 := set_any ta at_ cc hw3
                have ST := fun w2 => Lib.hid (fun (n : hp.Next TH wb p F (sx l at_ cc) m w2) => TX.left (w2 := w2) (la' := sx l at_ cc) tb dj b f g g1 g2 g3 n)
                have HWW := Lib.hid hw3
                clear ta tb dj b f g g1 g2 g3 hw3 d0 d1
                by_cases hin : gb l at_ = true
                · as_aux_lemma =>
                  have H0 := Lib.hid (of_decide_eq_true hin)
                  rw [hin] at hp1 ⊢
                  clear hin
                  go_wp2_with fail
                  refine hp1.mono ?_; rintro e w4 ⟨rfl, nx⟩
                  have T4 := (ST w4).out nx
                  obtain ⟨F, G, ta, tb, dj, b, f, g, g1, g2, g3⟩ := T4
                  obtain ⟨i, hi⟩ := Int.eq_ofNat_of_zero_le H0.out.1
                  subst hi
                  have hil : i < l.length := by have := H0.out.2; omega
                  obtain ⟨gc, cap, z0, zf, hgw', hgq, _, hcap, zc, zz, _⟩ := tb.at_ i hil
                  have NN := fun n => Lib.hid (Next.set_ (tb.drewN n) hil (g := gc) (c := cap) z0 cc HWW.out)
                  have ST2 := fun n w2 => Lib.hid (fun (nn : hp.Next RH (w4.drewN n) q G (l.set i cc) m w2) => TX.right (w2 := w2) (lb' := l.set i cc) (ta.drewN n) dj (b.trans ((drewN_below w4 n).mono b.size)) f g g1 g2 g3 nn)
                  have es := Lib.hid (show sx l i cc = l.set i cc by unfold sx; rw [if_pos H0.out]; simp)
                  obtain ⟨y0, y1, y2⟩ := g3.cells
                  generalize l.getD i 0 = old at *
                  have hle := ta.len_le
                  clear ta tb dj b f g g1 g2 g3 nx ST hp1
                  go_wp2_with fail
                  go_still_tail 9, (by kernel_rfl)
                  change wpList _ _ _ _ _ w4.drew
                  obtain ⟨wd, hwd⟩ : ∃ wd, wd = w4.drew := ⟨_, rfl⟩
                  have zc' : wd.cell? ⟨gc, i, none⟩ = some (.int .u64 old) := by rw [hwd]; exact zc
                  have zz' : wd.frozen? ⟨gc, i, none⟩ = false := by rw [hwd]; exact zz
                  have FIN : ∀ wz, wz = wd.setCell ⟨gc, i, none⟩ (.int .u64 cc) → TX w p q bx (2, (i : Int), cc) (l.set i cc) (l.set i cc) m wz := by
                    rintro wz rfl
                    rw [es.out] at ST2
                    exact (ST2 1 _).out (by rw [hwd]; exact (NN 1).out)
                  have FIN := Lib.hid FIN
                  have ES := Lib.hid (show stp (2, (i : Int), cc) l m = l.set i cc from es.out)
                  rw [← hwd]
                  clear zc zz y0 y1 y2 hwd ST2 NN es
                  go_wp2_with fail
                  go_meet
                  show TX _ _ _ _ _ (stp (2, (i : Int), cc) l m) (stp (2, (i : Int), cc) l m) _ _
                  rw [ES.out]; exact FIN.out _ rfl
                · as_aux_lemma =>
                  simp only [Bool.not_eq_true] at hin
                  have es := Lib.hid (show sx l at_ cc = l by unfold sx; rw [if_neg (of_decide_eq_false hin)])
                  rw [hin] at hp1 ⊢
                  rw [es.out] at ST hp1
                  have ES := Lib.hid (show stp (2, at_, cc) l m = l from es.out)
                  clear hin es
                  go_wp2_with fail
                  refine hp1.mono ?_; rintro e w4 ⟨rfl, nx⟩
                  have T4 := Lib.hid ((ST w4).out nx)
                  clear nx ST hp1
                  go_wp2_with fail
                  go_meet
                  show TX _ _ _ _ _ (stp (2, at_, cc) l m) (stp (2, at_, cc) l m) _ _
                  rw [ES.out]; exact T4.out
              · by_cases d3 : d = 3
                · subst d3
                  have hp1 := fun n => Lib.hid (cut_any (ta.drewN n) at_)
                  have ST := fun n w2 => Lib.hid (fun (nn : hp.Next TH (wb.drewN n) p F (cx l at_) m w2) => TX.left (w2 := w2) (la' := cx l at_) (tb.drewN n) dj (b.trans ((drewN_below wb n).mono b.size)) f g g1 g2 g3 nn)
                  obtain ⟨ma, mc, e0, e1, f0, f1, _⟩ := tb.open_
                  have hle := ta.len_le
                  clear ta tb dj b f g g1 g2 g3 hw3 d0 d1 d2
                  by_cases hin : cb l at_ = true
                  · as_aux_lemma =>
                    have H0 := Lib.hid (of_decide_eq_true hin)
                    obtain ⟨i, hi⟩ := Int.eq_ofNat_of_zero_le H0.out.1
                    subst hi
                    have hil : i ≤ l.length := by have := H0.out.2; omega
                    rw [hin] at hp1
                    clear hin hle
                    go_wp2_with fail
                    go_quiet (fail)
                    go_wp2_with fail
                    refine (hp1 _).out.mono ?_; rintro e w4 ⟨rfl, nx⟩
                    have T4 := (ST _ w4).out nx
                    obtain ⟨F, G, ta, tb, dj, b, f, g, g1, g2, g3⟩ := T4
                    obtain ⟨mb, mcb, z0, z1, zf, zf1, hcap⟩ := tb.open_
                    have NN := fun n => Lib.hid (Next.cut (tb.drewN n) hil (a := mb) (c := mcb) z0)
                    have ST2 := fun n w2 => Lib.hid (fun (nn : hp.Next RH (w4.drewN n) q G (l.take i) m w2) => TX.right (w2 := w2) (lb' := l.take i) (ta.drewN n) dj (b.trans ((drewN_below w4 n).mono b.size)) f g g1 g2 g3 nn)
                    have es := Lib.hid (show cx l i = l.take i by unfold cx; rw [if_pos H0.out]; simp)
                    obtain ⟨y0, y1, y2⟩ := g3.cells
                    have hle := ta.len_le
                    have hle2 := tb.len_le
                    clear ta tb dj b f g g1 g2 g3 nx ST hp1 e0 e1 f0 f1 x0 x1 x2
                    go_wp2_with fail
                    have hs1 := fun wx => sl_rule (a := mb) (n := l.length) (c := mcb) (i := i) (by omega) wx
                    have hs2 := fun wx => slAt_rule (a := mb) (n := l.length) (c := mcb) (i := i) (by omega) wx
                    go_still_tail 10, (by kernel_rfl)
                    change wpList _ _ _ _ _ w4.drew
                    obtain ⟨wd, hwd⟩ : ∃ wd, wd = w4.drew := ⟨_, rfl⟩
                    have zc' : wd.cell? ⟨q, 0, none⟩ = some (.slice mb l.length mcb) := by rw [hwd]; exact z0
                    have zz' : wd.frozen? ⟨q, 0, none⟩ = false := by rw [hwd]; exact zf
                    have FIN : ∀ wz, wz = wd.setCell ⟨q, 0, none⟩ (.slice mb i mcb) → TX w p q bx (3, (i : Int), cc) (l.take i) (l.take i) m wz := by
                      rintro wz rfl
                      rw [es.out] at ST2
                      exact (ST2 1 _).out (by rw [hwd]; exact (NN 1).out)
                    have FIN := Lib.hid FIN
                    have ES := Lib.hid (show stp (3, (i : Int), cc) l m = l.take i from es.out)
                    rw [← hwd]
                    clear z0 z1 zf zf1 y0 y1 y2 hwd ST2 NN es
                    go_wp2_with fail
                    go_meet
                    show TX _ _ _ _ _ (stp (3, (i : Int), cc) l m) (stp (3, (i : Int), cc) l m) _ _
                    rw [ES.out]; exact FIN.out _ rfl
                  · simp only [Bool.not_eq_true] at hin
                    have es := Lib.hid (show cx l at_ = l by unfold cx; rw [if_neg (of_decide_eq_false hin)])
                    have HN := Lib.hid (of_decide_eq_false hin)
                    rw [hin] at hp1
                    rw [es.out] at ST hp1
                    have ES := Lib.hid (show stp (3, at_, cc) l m = l from es.out)
                    clear hin es
                    rcases (show at_ < 0 ∨ (0 ≤ at_ ∧ (l.length : Int) < at_) by have := HN.out; omega) with h0 | ⟨h0, h1⟩
                    case' inl =>
                      have t0 : decide (0 ≤ at_) = false := by simpa using h0
                    case' inr =>
                      have t0 : decide (at_ ≤ (l.length : Int)) = false := by simpa using h1
                    all_goals as_aux_lemma =>
                      clear HN
                      go_wp2_with fail
                      go_quiet (fail)
                      go_wp2_with fail
                      refine (hp1 _).out.mono ?_; rintro e w4 ⟨rfl, nx⟩
                      have T4 := Lib.hid ((ST _ w4).out nx)
                      clear nx ST hp1
                      go_wp2_with fail
                      go_meet
                      show TX _ _ _ _ _ (stp (3, at_, cc) l m) (stp (3, at_, cc) l m) _ _
                      rw [ES.out]; exact T4.out
                · as_aux_lemma =>
                  have ES := Lib.hid (show stp (d, at_, cc) l m = l by simp only [stp, d0, d1, d2, d3, if_false])
                  have e0 : (d == 0) = false := by simpa using d0
                  have e1 : (d == 1) = false := by simpa using d1
                  have e2 : (d == 2) = false := by simpa using d2
                  have e3 : (d == 3) = false := by simpa using d3
                  clear ta tb dj b f g g1 g2 g3 hw3
                  go_wp2_with fail
                  go_meet
                  show TX _ _ _ _ _ (stp (d, at_, cc) l m) (stp (d, at_, cc) l m) _ _
                  rw [ES.out]; exact TB.out
        case rest =>
          obtain ⟨l2, hl2⟩ : ∃ l2, l2 = stp (d, at_, cc) l m := ⟨_, rfl⟩
          have TC : Hid (TX w p q bx (d, at_, cc) l2 l2 m wc) := by rw [hl2]; exact hcut
          clear hcut hl2 TB x0 x1 x2
          obtain ⟨F, G, ta, tb, dj, b, f, g, g1, g2, g3⟩ := TC.out
          obtain ⟨x0, x1, x2⟩ := g3.cells
          have hg := get_any ta at_
          clear ta tb dj b f g g1 g2 g3
          go_wp2_with fail
          refine hg.mono ?_; rintro e w' ⟨rfl, rfl⟩
          clear hg
          go_upto_region 32 with fail
          go_cut [11] (fun s wx => InBool l2 at_ wc s wx)
          case first => as_aux_lemma =>
            obtain ⟨F, G, ta, tb, dj, b, f, g, g1, g2, g3⟩ := TC.out
            obtain ⟨ma, mc, e0, e1, f0, f1, _⟩ := tb.open_
            obtain ⟨x0, x1, x2⟩ := g3.cells
            clear ta tb dj b f g g1 g2 g3
            by_cases h0 : 0 ≤ at_
            · have eg := Lib.hid (show gb l2 at_ = decide (at_ < (l2.length : Int)) by unfold gb; simp [h0])
              go_quiet (fail)
              go_wp2_with fail
              go_meet
              exact ⟨by rw [eg.out], _, rfl⟩
            · have eg := Lib.hid (show gb l2 at_ = false by unfold gb; simp [h0])
              have d0 : decide (0 ≤ at_) = false := by simpa using h0
              go_quiet (fail)
              go_wp2_with fail
              go_meet
              exact ⟨by rw [eg.out], _, rfl⟩
          case rest =>
            obtain ⟨rfl, j2, rfl⟩ := hcut
            have TD := Lib.hid (TC.out.drewN j2)
            generalize wc.drewN j2 = wd at *
            clear TC x0 x1 x2
            obtain ⟨F, G, ta, tb, dj, b, f, g, g1, g2, g3⟩ := TD.out
            obtain ⟨x0, x1, x2⟩ := g3.cells
            have cl := fun n => Lib.hid (len_any (ta.drewN n))
            have cd := fun n => Lib.hid (deref_any (ta.drewN n) cc HW.out.2.2)
            have cr := fun n => Lib.hid (rderef_any (tb.drewN n) cc HW.out.2.2)
            obtain ⟨ma, mc, e0, e1, f0, f1, _⟩ := tb.open_
            by_cases hin : gb l2 at_ = true
            · as_aux_lemma =>
              obtain ⟨g', i, c', hi, z0, hil, z2⟩ := at_slice tb at_ hin
              rw [e0] at z0
              injection z0 with z0; injection z0 with z0 z0' z0''
              subst z0; subst z0''
              rw [hin]
              have hle := ta.len_le
              clear hin ta tb dj b f g g1 g2 g3 z0'
              subst hi
              generalize gv l2 (i : Int) = v at *
              go_wp2_with fail
              go_quiet ((first | (go_at_call 19; exact quiet_left (cl _).out) | (go_at_call 20; exact quiet_left (cd _).out) | (go_at_call 21; exact Calls.quiet_of (cr _).out)))
              have T9 := Lib.hid (TD.out.drewN nq).two
              generalize wd.drewN nq = we at *
              clear cl cd cr x0 x1 x2 e0 e1 f0 f1 z2 TD
              go_wp2_with fail
              go_roundg (min n1 150 - (k + 1))
              case measure => omega
              case rel => exact ⟨k + 1, l2, by omega, rfl, by go_num, T9.out⟩
            · as_aux_lemma =>
              simp only [Bool.not_eq_true] at hin
              have ev : gv l2 at_ = 0 := by unfold gv; rw [if_neg (of_decide_eq_false hin)]
              rw [hin, ev]
              clear hin ev ta tb dj b f g g1 g2 g3
              go_wp2_with fail
              go_quiet ((first | (go_at_call 19; exact quiet_left (cl _).out) | (go_at_call 20; exact quiet_left (cd _).out) | (go_at_call 21; exact Calls.quiet_of (cr _).out)))
              have T9 := Lib.hid (TD.out.drewN nq).two
              generalize wd.drewN nq = we at *
              clear cl cd cr x0 x1 x2 e0 e1 f0 f1 TD
              go_wp2_with fail
              go_roundg (min n1 150 - (k + 1))
              case measure => omega
              case rel => exact ⟨k + 1, l2, by omega, rfl, by go_num, T9.out⟩
    · have cd := deref_any ta a2 HC.out
      have cr := rderef_any tb a2 HC.out
      have HB := Lib.hid b
      have hl2 : ¬ k < n1 ∨ (k < n1 ∧ ¬ k < 150) := by omega
      clear ta tb dj b f g hlt
      rcases hl2 with h1 | ⟨h1, h2⟩
      all_goals as_aux_lemma =>
        go_wp2_with fail
        refine cd.mono ?_; rintro e w' ⟨rfl, rfl⟩
        go_wp2_with fail
        refine cr.mono ?_; rintro e w' ⟨rfl, nn, rfl⟩
        go_wp2_with fail
        refine (awake_any _).mono ?_; rintro e w9 ⟨rfl, b9⟩
        go_wp2_with fail
        go_ret
        exact ⟨rfl, HB.out.trans (((drewN_below wr nn).trans b9).mono HB.out.size)⟩
set_option maxRecDepth 100000 in
theorem lifted (os : Os) (started : os.Started) (H : Type) (enc : TypeId × Value → H) :
    ReturnsInHanded {} Try.checked os 3 .any (Rows.heapPlaysSpec.pre6 enc Try.prog Try.f3 Rows.heapPlaysRow.domain false) (Rows.heapPlaysSpec.post enc Try.prog Try.f3 false true false false) := by
  refine returnsInHanded_of_change_sized (C := Try.checked) own started (by kernel_rfl) Try.func3
    (ChangeSpec.witness6 (enc := enc) (C := Try.checked) false ⟨#[], #[.int .i64 0, .slice none 0 0, .int .u64 0], []⟩ 8 (by kernel_rfl) (by kernel_rfl) (by kernel_rfl) (by kernel_rfl)) ?_
  intro W base args ds gs before hval0 hW _ hsz0 _
  have hsz : (DataW.weightsEach Try.prog (Try.f3.params.toList ++ Rows.heapPlaysSpec.plain.varTypes Try.prog) (ds ++ gs)).all (· ≤ reachBytes) = true := hsz0
  clear hsz0
  have hval : ∀ (j : Nat) t v, Try.f3.params[j]? = some t → args[j]? = some v → Value.okWide Try.prog W .any base t v := hval0
  have hW' := hW
  obtain ⟨p, q, hA0, hV, rfl, hfz, hnd⟩ := hW
  have hA : DataW.TrodAll enc Try.prog W 0 (fun _ => true) true Try.f3.params.toList args.toList ds p := hA0
  rw [Try.params3] at hA hval hsz
  obtain ⟨v0, vs0, d0, ds0, p0, q0, hargs, rfl, rfl, h0, r0⟩ := trodAll_cons hA
  obtain ⟨v1, vs1, d1, ds1, p1, q1, rfl, rfl, rfl, h1, r1⟩ := trodAll_cons r0
  obtain ⟨v2, vs2, d2, ds2, p2, q2, rfl, rfl, rfl, h2, r2⟩ := trodAll_cons r1
  obtain ⟨rfl, rfl, rfl⟩ := trodAll_nil r2
  obtain rfl : args = #[v0, v1, v2] := by cases args; simp_all
  obtain ⟨rfl, rfl⟩ := trodVars_none hV
  simp only [List.append_nil] at hW'
  have lt0 : ∀ x ∈ p0, x.block < W.heap.size := fun x hx => by
    have := hW'.lt x (by simp [hx])
    simpa using this
  have k0 := h0
  have lt1 : ∀ x ∈ p1, x.block < W.heap.size := fun x hx => by
    have := hW'.lt x (by simp [hx])
    simpa using this
  have k1 := h1
  have lt2 : ∀ x ∈ p2, x.block < W.heap.size := fun x hx => by
    have := hW'.lt x (by simp [hx])
    simpa using this
  have k2 := h2
  obtain ⟨a0, rfl, rfl, rfl, w0⟩ := open_int Try.underlying3 (hval 0 3 v0 rfl rfl) h0
  obtain ⟨a1, n1, c1, rfl⟩ := okWide_slice Try.underlying22 (hval 1 22 v1 rfl rfl)
  obtain ⟨t1, x1⟩ := h1.elim fun fuel hf => calls_open hf (lt1) (fun x y e => sized_slice hsz (j := 1) (t := 22) (e := 34) rfl (by rw [← e]; rfl) Try.underlying22)
  obtain ⟨a2, rfl, rfl, rfl, w2⟩ := open_int Try.underlying24 (hval 2 24 v2 rfl rfl) h2
  clear hA0 hval0
  refine (walk W a0 w0 a1 n1 c1 t1 x1 a2 w2).mono fun e W' ⟨he, hg⟩ => ?_
  subst he
  have ha := (trodAll_cons_mk (Below.trod laidOut (by kernel_rfl) (of_decide_eq_true (by kernel_rfl)) k0 hg lt0) (trodAll_cons_mk (Below.trod laidOut (by kernel_rfl) (of_decide_eq_true (by kernel_rfl)) k1 hg lt1) (trodAll_cons_mk (Below.trod laidOut (by kernel_rfl) (of_decide_eq_true (by kernel_rfl)) k2 hg lt2) trodAll_mk0)))
  refine ⟨_, rfl, _, _, _, [], _, [], hW', ?_, ha, rfl, hg.frame _, fun h => by cases h⟩
  exact (trodAll_cons_mk (shut_bool Try.underlying4 _) trodAll_mk0)
/-- THE STATEMENT. -/
theorem proved : Rows.HeapPlaysSaid :=
  OpenClaim.holds_of_wide 3 Try.f3 rfl rfl rfl rfl rfl rfl rfl ⟨rfl, rfl, rfl, rfl, rfl⟩ rfl rfl rfl rfl rfl (by kernel_rfl) Try.func3 (by kernel_rfl)
    (of_decide_eq_true (by kernel_rfl)) (by unfold Func.isWrapper; first | (rw [if_pos (by decide +kernel)]; kernel_rfl) | (rw [if_neg (by decide +kernel)]; exact ⟨rfl, rfl⟩))
    (fun os started H enc _ => lifted os started H enc)
#print axioms proved
end Go.Proofs.Ythcfbolakjgfgaa.heapPlays
