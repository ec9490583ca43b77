/- The law AtomsMany holds: for every input its Go function returns true and leaves its arguments as they were. No condition beyond the row's own. -/
import Derived.Test.YtjdbppdanckfnaaRows
import Derived.WalkKit
import Derived.ProofKit
import Derived.OpenShut
import Derived.SizedLaws
import Derived.Test.YtjdbppdanckfnaaAtoms2
import Derived.Test.YtjdbppdanckfnaaStrs
import Derived.Laws.BytesArg
import Derived.Laws.OwnMore
import Derived.Laws.MakeOwn
import Derived.Deep.RegionWith
import Derived.Deep.CutRange
import Derived.Deep.DeepCutAuto
import Derived.Deep.DeepFit
namespace Go.Proofs.Ytjdbppdanckfnaa.atomsMany
open Go.ChangeShapes Go.WideShapes Go.ChangeAt Go.RowKit
open Go.ChangeMaps (open_string)
open Go.Proofs.Ytjdbppdanckfnaa.atm
set_option linter.unusedVariables false
theorem own : ownKnob Try.prog.godebug = none := by kernel_rfl
theorem laidOut : laidOutB Try.prog = true := by kernel_rfl
open Go.Maps Go.WideMaps
theorem u64_nonneg (a : Int) : 0 ≤ IntKind.u64.wrap a := by
  simp only [IntKind.wrap, IntKind.signed, IntKind.bits]
  simp
  omega
/-- the k-th name -/
def nm3 (k : Nat) : ByteArray := strOfNums [(k : Int) % 256, (k : Int) / 256, 120]
theorem nm3_size (k : Nat) : (nm3 k).size = 3 := by unfold nm3; rw [strOfNums_size]; rfl
theorem u8_inj {a b : Int} (h0 : 0 ≤ a) (h1 : a < 256) (h2 : 0 ≤ b) (h3 : b < 256) (h : UInt8.ofNat a.toNat = UInt8.ofNat b.toNat) : a = b := by
  have := congrArg UInt8.toNat h
  simp only [UInt8.toNat_ofNat'] at this
  omega
theorem nm3_inj {j k : Nat} (hj : j < 65536) (hk : k < 65536) (h : nm3 j = nm3 k) : j = k := by
  have h1 := congrArg (fun s : ByteArray => s.data.toList) h
  simp only [nm3, strOfNums_data, List.map_cons, List.map_nil, List.cons.injEq, and_true] at h1
  have e1 := u8_inj (by omega) (by omega) (by omega) (by omega) h1.1
  have e2 := u8_inj (by omega) (by omega) (by omega) (by omega) h1.2
  omega
def names (m : Nat) : List ByteArray := l0 ++ (List.range m).map nm3
theorem names_len (m : Nat) : (names m).length = m + 2 := by simp [names, l0]
theorem names_succ (m : Nat) : names (m + 1) = names m ++ [nm3 m] := by simp [names, List.range_succ]
theorem names_not {m k : Nat} (hm : m ≤ k) (hk : k < 65536) : nm3 k ∉ names m := by
  simp only [names, List.mem_append, List.mem_map, List.mem_range, not_or, not_exists, not_and]
  refine ⟨fun h => ?_, fun j hj e => by have := nm3_inj (by omega) hk e; omega⟩
  have h3 := nm3_size k
  simp only [l0, List.mem_cons, List.not_mem_nil, or_false] at h
  rcases h with h | h <;> rw [h] at h3 <;> revert h3 <;> decide
def R (W : World) (p N : Nat) (i : Value) (wr : World) : Prop := ∃ (k : Nat) (F : Nat → Prop), k ≤ N ∧ i = .int .i64 k ∧ Tab wr p F (names (min k 4094)) ∧ Below W.heap.size W wr ∧ ∀ j, F j → W.heap.size ≤ j
theorem R.step {W wr w2 : World} {p N k : Nat} {F : Nat → Prop} {o : Obj} (hk : k < N) (b : Below W.heap.size W wr) (f : ∀ j, F j → W.heap.size ≤ j) (n : atm.Next (wr.alloc o) p F (names (min (k + 1) 4094)) w2) : R W p N (.int .i64 ((k : Int) + 1)) w2 := by
  obtain ⟨F2, t2, k2, s2⟩ := n
  have b' := b.alloc b.size o
  exact ⟨k + 1, F2, hk, by simp, t2, b'.trans (k2.to_below f b'.size), fun j hj => (s2 j hj).elim (f j) (Nat.le_trans b'.size)⟩
theorem conv3 (wr : World) (k : Nat) : (convert 41 9 (.slice (some ⟨wr.heap.size, 0, none⟩) 3 3)).run Try.prog (wr.alloc (.cells #[.int .u8 ((k : Int) % 256), .int .u8 ((k : Int) / 256), .int .u8 120] 5)) =
    .ok (.string (nm3 k)) (wr.alloc (.cells #[.int .u8 ((k : Int) % 256), .int .u8 ((k : Int) / 256), .int .u8 120] 5)) :=
  run_convert_bytes_arg _ 41 5 Try.underlying41 Try.underlying5 wr.heap.size 0 3 3 [(k : Int) % 256, (k : Int) / 256, 120] rfl (fun i hi => by
    match i, hi with
    | 0, _ => simp
    | 1, _ => simp
    | 2, _ => simp) 9 Try.underlying9
/-- a text of S noughts -/
def zs (S : Nat) : ByteArray := strOfNums (List.replicate S 0)
theorem zs_size (S : Nat) : (zs S).size = S := by unfold zs; rw [strOfNums_size]; simp
def M0 (S : Nat) : Array Value := madeCells (Value.int .u8 0).cells S
theorem infoB : (Try.prog.info? 5).map (fun i => (i.zero, i.size, i.bytes)) = some (some (.int .u8 0), 1, 1) := by kernel_rfl
theorem mk_any (S : Nat) (hS : S ≤ 300) (W : World) : (Instr.makeSlice 41 (.int .i64 (S : Int)) (.int .i64 (S : Int))).run Try.prog W = .ok (.slice (some ⟨W.heap.size, 0, none⟩) S S) (W.alloc (.cells (M0 S) 5)) := by
  obtain ⟨i0, hi, hz0, hz1, hz2⟩ := info_parts infoB
  have h := run_make (P := Try.prog) W 41 5 i0 (.int .u8 0) Try.underlying41 hi hz0 .i64 .i64 (S : Int) (S : Int) (by omega) (by omega) (by rw [hz2]; omega) (by omega)
  rw [hz1] at h
  simpa [M0] using h
theorem cv_at (S b : Nat) (W : World) (hb : W.heap[b]? = some (.cells (M0 S) 5 (0, 0))) : (convert 41 9 (.slice (some ⟨b, 0, none⟩) S S)).run Try.prog W = .ok (.string (zs S)) W :=
  run_convert_bytes_arg W 41 5 Try.underlying41 Try.underlying5 b 0 S S (List.replicate S 0) (by simp) (fun i hi => by
    have e := toList_madeCells_one (Value.int .u8 0) S
    have e' : (M0 S).toList = List.replicate S (Value.int .u8 0) := e
    have hx : (M0 S)[0 + i]? = some (Value.int .u8 0) := by
      rw [← Array.getElem?_toList, e']; simp [hi]
    rw [cell_of_row W b (0 + i) (M0 S) 5 (0, 0) hb, hx]
    simp [List.getD, hi]) 9 Try.underlying9
theorem cv_new (S : Nat) (W : World) : (convert 41 9 (.slice (some ⟨W.heap.size, 0, none⟩) S S)).run Try.prog (W.alloc (.cells (M0 S) 5)) = .ok (.string (zs S)) (W.alloc (.cells (M0 S) 5)) :=
  cv_at S _ _ (heap_alloc_new W _)
theorem cv_later (S b : Nat) {W W' : World} (hb : W.heap[b]? = some (.cells (M0 S) 5 (0, 0))) (h : Below W.heap.size W W') : (convert 41 9 (.slice (some ⟨b, 0, none⟩) S S)).run Try.prog W' = .ok (.string (zs S)) W' :=
  cv_at S _ _ ((h.block _ (Array.getElem?_eq_some_iff.1 hb).1).trans hb)
theorem fin_a {wr wN w5 : World} {F1 : Nat → Prop} {o : Obj} (b : Below wr.drew.heap.size wr.drew wN) (f : ∀ k, F1 k → wr.drew.heap.size ≤ k) (k : Keep F1 (wN.alloc o) w5) : Below wr.heap.size wr w5 :=
  (((Below.refl wr.heap.size wr).drew.trans b).alloc b.size o).trans (k.to_below f (Nat.le_trans b.size (by simp)))
theorem fin_b {wr wN w5 : World} {F1 : Nat → Prop} {o : Obj} (b : Below (wr.alloc o).drew.heap.size (wr.alloc o).drew wN) (f : ∀ k, F1 k → (wr.alloc o).drew.heap.size ≤ k) (k : Keep F1 wN w5) : Below wr.heap.size wr w5 := by
  have h : wr.heap.size ≤ (wr.alloc o).drew.heap.size := by
    show wr.heap.size ≤ (wr.alloc o).heap.size
    simp
  exact ((((Below.refl wr.heap.size wr).alloc (Nat.le_refl _) o).drew).trans (b.mono h)).trans (k.to_below (fun i hi => Nat.le_trans h (f i hi)) (Nat.le_trans h b.size))
theorem num_zs {w : World} {p : Nat} {F : Nat → Prop} (t : Tab w p F l0) (S : Nat) (hS : S ≤ 300) (er : Int) (her : er = if S ≤ 200 then 0 else 3) :
    Calls Try.prog 11 #[.pointer (some ⟨p, 0, none⟩), .string (zs S)] w fun e w' => e = .returned (.tuple #[.int .i64 (nv l0 (zs S)), .int .i64 er]) ∧ atm.Next w p F (nx l0 (zs S)) w' := by
  have h := num_any t (zs S) (by rw [zs_size]; unfold maxLen; omega)
  have e : ne l0 (zs S) = er := by
    unfold ne; rw [zs_size, her]
    by_cases h2 : S ≤ 200
    · rw [if_neg (by omega), if_pos h2]; split
      · rfl
      · rw [if_neg (by decide)]
    · rw [if_pos (by omega), if_neg h2]
  rw [e] at h; exact h
set_option maxHeartbeats 8000000 in
set_option maxRecDepth 100000 in
theorem walk (w : World) (a0 : Int) (w0 : (Lit.int .i64 a0).wf = true) (a1 : Int) (w1 : (Lit.int .i64 a1).wf = true) :
    Calls Try.prog 4 #[.int .i64 a0, .int .i64 a1] w fun e w' => e = .returned (.bool true) ∧ Below w.heap.size w w' := by
  have u0 := u64_nonneg a0
  have u1 := u64_nonneg a1
  go_enter Try.func4, Try.ntmps4
  go_wp2_with fail
  refine (new_any w).mono ?_; rintro e w1 ⟨rfl, M⟩
  have M' := Lib.hid M
  clear M
  go_wp2_with fail
  obtain ⟨N, hN⟩ : ∃ N : Nat, 4090 + IntKind.u64.wrap a0 % 8 = (N : Int) := ⟨(4090 + IntKind.u64.wrap a0 % 8).toNat, by omega⟩
  have hN1 : N ≤ 4097 := by omega
  have hN2 : 4090 ≤ N := by omega
  rw [hN]
  clear hN u0
  have S0 : R w w.heap.size N (.int .i64 0) w1 := by
    obtain ⟨F, t, b, s⟩ := M'.out
    exact ⟨0, F, Nat.zero_le _, rfl, t, b, s⟩
  obtain ⟨p, hp⟩ : ∃ p, p = w.heap.size := ⟨_, rfl⟩
  have S1 : Hid (R w p N (.int .i64 0) w1) := by rw [hp]; exact S0
  clear S0 M'
  rw [← hp]
  clear hp
  go_loopw [18] (fun i wr => R w p N i wr) (fun i _ => N - (intOf i).toNat)
  case atStart => exact S1.out
  case round =>
    obtain ⟨k, F, hk, rfl, t, b, f⟩ := hrel
    have B := Lib.hid b
    have FF := Lib.hid f
    by_cases hlt : k < N
    · have hcv := conv3 wr k
      have t' := t.below ((Below.refl _ _).alloc (Nat.le_refl _) (.cells #[.int .u8 ((k : Int) % 256), .int .u8 ((k : Int) / 256), .int .u8 120] 5))
      by_cases h4 : k < 4094
      · have cn := num_new t' (nm3 k) (by rw [nm3_size]; omega) (names_not (by omega) (by omega)) (by rw [names_len]; omega)
        rw [show ((names (min k 4094)).length : Int) = (k : Int) + 2 by rw [names_len]; omega, show min k 4094 = k by omega, ← names_succ] at cn
        have CN := Lib.hid cn
        clear t b f t' cn
        go_wp2_with fail
        refine CN.out.mono ?_; rintro e w2 ⟨rfl, n⟩
        have NN := Lib.hid n
        clear n
        go_wp2_with fail
        go_roundw
        case rel => exact R.step hlt B.out FF.out (by rw [show min (k + 1) 4094 = k + 1 by omega]; exact NN.out)
        case measure => simp [intOf]; omega
      · have cn := num_full t' (nm3 k) (by rw [nm3_size]; omega) (names_not (by omega) (by omega)) (by rw [names_len]; omega)
        rw [show min k 4094 = 4094 by omega] at cn
        have CN := Lib.hid cn
        clear t b f t' cn
        go_wp2_with fail
        refine CN.out.mono ?_; rintro e w2 ⟨rfl, n⟩
        have NN := Lib.hid n
        clear n
        go_wp2_with fail
        go_roundw
        case rel => exact R.step hlt B.out FF.out (by rw [show min (k + 1) 4094 = 4094 by omega]; exact NN.out)
        case measure => simp [intOf]; omega
    · have e : k = N := by omega
      subst e
      clear hlt hk
      have T := Lib.hid t
      clear t b f
      go_wp2_with fail
      obtain ⟨z, hz⟩ : ∃ z : Nat, IntKind.u64.wrap a1 % 5 = (z : Int) := ⟨(IntKind.u64.wrap a1 % 5).toNat, by omega⟩
      have hz5 : z < 5 := by omega
      obtain ⟨S, hS⟩ : ∃ S : Nat, 198 + z = S := ⟨_, rfl⟩
      have e1 : (IntKind.u64.wrap a1).tmod 5 = (z : Int) := by rw [Int.tmod_eq_emod_of_nonneg u1]; exact hz
      have e2 : IntKind.i64.wrap (z : Int) = (z : Int) := IntWalk.i64_in _ (by omega)
      have e3 : IntKind.i64.wrap (198 + (z : Int)) = (S : Int) := by rw [IntWalk.i64_in _ (by omega)]; omega
      have HMK := Lib.hid (mk_any S (by omega))
      have HCV := Lib.hid (cv_new S)
      have ER : ∃ er : Int, er = (if S ≤ 200 then 0 else 3) := ⟨_, rfl⟩
      obtain ⟨er, her⟩ := ER
      have HER := Lib.hid her
      have HZ := Lib.hid hz
      clear her hz
      go_cut [10] from 60 to 71 (fun s10 wx => s10 = .int .i64 er ∧ Below wr.heap.size wr wx)
      case first =>
        have hmk := HMK.out
        have hcv := HCV.out
        have hcv2 : (convert 41 9 (.slice (some ⟨wr.heap.size, 0, none⟩) S S)).run Try.prog (wr.alloc (.cells (M0 S) 5)).drew = .ok (.string (zs S)) (wr.alloc (.cells (M0 S) 5)).drew := cv_at S _ _ (heap_alloc_new wr _)
        have hS3 : S ≤ 300 := by omega
        go_region_with (first
          | (go_at_call 9; refine (new_any _).mono ?_; rintro e wN ⟨rfl, F1, t1, b1, s1⟩; (first | have T1 := Lib.hid (show Tab wN wr.heap.size F1 l0 from t1) | have T1 := Lib.hid (show Tab wN (wr.heap.size + 1) F1 l0 from by simpa using t1)); have B1 := Lib.hid b1; have SF := Lib.hid s1; (try have cvl := cv_later S wr.heap.size (W := (wr.alloc (.cells (M0 S) 5)).drew) (heap_alloc_new wr _) b1); clear t1 b1 s1)
          | (go_at_call 11; (first | (with_reducible refine (num_zs T1.out S hS3 er HER.out).mono ?_) | (with_reducible refine (num_zs (T1.out.below ((Below.refl _ _).alloc (Nat.le_refl _) _)) S hS3 er HER.out).mono ?_)); rintro e w5 ⟨rfl, F5, t5, k5, s5⟩; have K5 := Lib.hid k5; clear t5 k5 s5))
        all_goals go_wp2_with fail
        all_goals go_meet
        all_goals first | exact ⟨rfl, fin_b B1.out SF.out K5.out⟩ | exact ⟨rfl, fin_a B1.out SF.out K5.out⟩
      case rest =>
        obtain ⟨rfl, bc⟩ := hcut
        have hl := len_any (T.out.below bc)
        have BC := Lib.hid bc
        have HL := Lib.hid hl
        have hzz := HZ.out
        clear bc hl
        by_cases h200 : S ≤ 200
        · have e0 : er = 0 := by rw [HER.out, if_pos h200]
          subst e0
          have q : IntKind.u64.wrap a1 % 5 ≤ 2 := by omega
          clear hzz e1 e2 e3 hS
          by_cases h42 : k + 2 ≤ 4096
          · have hl2 := HL.out
            rw [show ((names (min k 4094)).length : Int) = (k : Int) + 2 by rw [names_len]; omega] at hl2
            have HL2 := Lib.hid hl2
            have hmin : ∀ (ts : Array TypeId) (t : TypeId) (W : World), (Builtin.min_ ts t #[.int .i64 ((k : Int) + 2), .int .i64 4096]).run Try.prog W = .ok (.int .i64 ((k : Int) + 2)) W := fun ts t W => by rw [run_min_int2, if_neg (by omega)]
            have hkb : (k : Int) ≤ 5000 := by omega
            clear hl2 hN1 hN2 h42
            go_wp2_with fail
            refine HL2.out.mono ?_; rintro e w' ⟨rfl, rfl⟩
            go_wp2_with fail
            refine (awake_any _).mono ?_; rintro e w' ⟨rfl, hb⟩
            go_wp2_with fail
            go_ret
            exact ⟨rfl, (B.out.trans (BC.out.mono B.out.size)).trans (hb.mono (Nat.le_trans B.out.size BC.out.size))⟩
          · have hl2 := HL.out
            rw [show ((names (min k 4094)).length : Int) = 4096 by rw [names_len]; omega] at hl2
            have HL2 := Lib.hid hl2
            have hmin : ∀ (ts : Array TypeId) (t : TypeId) (W : World), (Builtin.min_ ts t #[.int .i64 ((k : Int) + 2), .int .i64 4096]).run Try.prog W = .ok (.int .i64 4096) W := fun ts t W => by rw [run_min_int2, if_pos (by omega)]
            have hkb : (k : Int) ≤ 5000 := by omega
            clear hl2 hN1 hN2 h42
            go_wp2_with fail
            refine HL2.out.mono ?_; rintro e w' ⟨rfl, rfl⟩
            go_wp2_with fail
            refine (awake_any _).mono ?_; rintro e w' ⟨rfl, hb⟩
            go_wp2_with fail
            go_ret
            exact ⟨rfl, (B.out.trans (BC.out.mono B.out.size)).trans (hb.mono (Nat.le_trans B.out.size BC.out.size))⟩
        · have e0 : er = 3 := by rw [HER.out, if_neg h200]
          subst e0
          have q : 3 ≤ IntKind.u64.wrap a1 % 5 := by omega
          have q2 : decide (198 + IntKind.u64.wrap a1 % 5 ≤ 200) = false := by simp; omega
          clear hzz e1 e2 e3 hS
          by_cases h42 : k + 2 ≤ 4096
          · have hl2 := HL.out
            rw [show ((names (min k 4094)).length : Int) = (k : Int) + 2 by rw [names_len]; omega] at hl2
            have HL2 := Lib.hid hl2
            have hmin : ∀ (ts : Array TypeId) (t : TypeId) (W : World), (Builtin.min_ ts t #[.int .i64 ((k : Int) + 2), .int .i64 4096]).run Try.prog W = .ok (.int .i64 ((k : Int) + 2)) W := fun ts t W => by rw [run_min_int2, if_neg (by omega)]
            have hkb : (k : Int) ≤ 5000 := by omega
            clear hl2 hN1 hN2 h42
            go_wp2_with fail
            refine HL2.out.mono ?_; rintro e w' ⟨rfl, rfl⟩
            go_wp2_with fail
            refine (awake_any _).mono ?_; rintro e w' ⟨rfl, hb⟩
            go_wp2_with fail
            go_ret
            exact ⟨rfl, (B.out.trans (BC.out.mono B.out.size)).trans (hb.mono (Nat.le_trans B.out.size BC.out.size))⟩
          · have hl2 := HL.out
            rw [show ((names (min k 4094)).length : Int) = 4096 by rw [names_len]; omega] at hl2
            have HL2 := Lib.hid hl2
            have hmin : ∀ (ts : Array TypeId) (t : TypeId) (W : World), (Builtin.min_ ts t #[.int .i64 ((k : Int) + 2), .int .i64 4096]).run Try.prog W = .ok (.int .i64 4096) W := fun ts t W => by rw [run_min_int2, if_pos (by omega)]
            have hkb : (k : Int) ≤ 5000 := by omega
            clear hl2 hN1 hN2 h42
            go_wp2_with fail
            refine HL2.out.mono ?_; rintro e w' ⟨rfl, rfl⟩
            go_wp2_with fail
            refine (awake_any _).mono ?_; rintro e w' ⟨rfl, hb⟩
            go_wp2_with fail
            go_ret
            exact ⟨rfl, (B.out.trans (BC.out.mono B.out.size)).trans (hb.mono (Nat.le_trans B.out.size BC.out.size))⟩
set_option maxRecDepth 100000 in
theorem lifted (os : Os) (started : os.Started) (H : Type) (enc : TypeId × Value → H) :
    ReturnsInHanded {} Try.checked os 4 .any (Rows.atomsManySpec.pre6 enc Try.prog Try.f4 Rows.atomsManyRow.domain false) (Rows.atomsManySpec.post enc Try.prog Try.f4 false true false false) := by
  refine returnsInHanded_of_change_sized (C := Try.checked) own started (by kernel_rfl) Try.func4
    (ChangeSpec.witness6 (enc := enc) (C := Try.checked) false ⟨#[], #[.int .i64 0, .int .i64 0], []⟩ 8 (by kernel_rfl) (by kernel_rfl) (by kernel_rfl) (by kernel_rfl)) ?_
  intro W base args ds gs before hval0 hW _ hsz0 _
  have hsz : (DataW.weightsEach Try.prog (Try.f4.params.toList ++ Rows.atomsManySpec.plain.varTypes Try.prog) (ds ++ gs)).all (· ≤ reachBytes) = true := hsz0
  clear hsz0
  have hval : ∀ (j : Nat) t v, Try.f4.params[j]? = some t → args[j]? = some v → Value.okWide Try.prog W .any base t v := hval0
  have hW' := hW
  obtain ⟨p, q, hA0, hV, rfl, hfz, hnd⟩ := hW
  have hA : DataW.TrodAll enc Try.prog W 0 (fun _ => true) true Try.f4.params.toList args.toList ds p := hA0
  rw [Try.params4] at hA hval hsz
  obtain ⟨v0, vs0, d0, ds0, p0, q0, hargs, rfl, rfl, h0, r0⟩ := trodAll_cons hA
  obtain ⟨v1, vs1, d1, ds1, p1, q1, rfl, rfl, rfl, h1, r1⟩ := trodAll_cons r0
  obtain ⟨rfl, rfl, rfl⟩ := trodAll_nil r1
  obtain rfl : args = #[v0, v1] := by cases args; simp_all
  obtain ⟨rfl, rfl⟩ := trodVars_none hV
  simp only [List.append_nil] at hW'
  have lt0 : ∀ x ∈ p0, x.block < W.heap.size := fun x hx => by
    have := hW'.lt x (by simp [hx])
    simpa using this
  have k0 := h0
  have lt1 : ∀ x ∈ p1, x.block < W.heap.size := fun x hx => by
    have := hW'.lt x (by simp [hx])
    simpa using this
  have k1 := h1
  obtain ⟨a0, rfl, rfl, rfl, w0⟩ := open_int Try.underlying3 (hval 0 3 v0 rfl rfl) h0
  obtain ⟨a1, rfl, rfl, rfl, w1⟩ := open_int Try.underlying3 (hval 1 3 v1 rfl rfl) h1
  clear hA0 hval0
  refine (walk W a0 w0 a1 w1).mono fun e W' ⟨he, hg⟩ => ?_
  subst he
  have ha := (trodAll_cons_mk (Below.trod laidOut (by kernel_rfl) (of_decide_eq_true (by kernel_rfl)) k0 hg lt0) (trodAll_cons_mk (Below.trod laidOut (by kernel_rfl) (of_decide_eq_true (by kernel_rfl)) k1 hg lt1) trodAll_mk0))
  refine ⟨_, rfl, _, _, _, [], _, [], hW', ?_, ha, rfl, hg.frame _, fun h => by cases h⟩
  exact (trodAll_cons_mk (shut_bool Try.underlying4 _) trodAll_mk0)
/-- THE STATEMENT. -/
theorem proved : Rows.AtomsManySaid :=
  OpenClaim.holds_of_wide 4 Try.f4 rfl rfl rfl rfl rfl rfl rfl ⟨rfl, rfl, rfl, rfl, rfl⟩ rfl rfl rfl rfl rfl (by kernel_rfl) Try.func4 (by kernel_rfl)
    (of_decide_eq_true (by kernel_rfl)) (by unfold Func.isWrapper; first | (rw [if_pos (by decide +kernel)]; kernel_rfl) | (rw [if_neg (by decide +kernel)]; exact ⟨rfl, rfl⟩))
    (fun os started H enc _ => lifted os started H enc)
#print axioms proved
end Go.Proofs.Ytjdbppdanckfnaa.atomsMany
