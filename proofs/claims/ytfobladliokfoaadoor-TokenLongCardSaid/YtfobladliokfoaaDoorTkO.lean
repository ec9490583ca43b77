/- Texts of one byte again and again: the mathematics; a row of bytes that is being laid. -/
import Derived.Test.YtfobladliokfoaaDoorTkL
import Derived.Laws.MakeOwn
namespace Go.Proofs.YtfobladliokfoaaDoor.tk
open Go.ChangeShapes Go.WideShapes Go.ChangeAt Go.RowKit Go.Maps
open Go.Proofs.YtfobladliokfoaaDoor.kp Go.Proofs.YtfobladliokfoaaDoor.num Go.Proofs.YtfobladliokfoaaDoor.dec
set_option linter.unusedVariables false
theorem u64_nonneg (a : Int) : 0 ≤ IntKind.u64.wrap a := by rw [IntKind.wrap_u64]; omega
/-- a block of n bytes, k of them laid -/
abbrev FL (n k : Nat) (x : Value) : Obj := .cells (List.replicate k x ++ List.replicate (n - k) (Value.int .u8 0)).toArray 5 (0, 0)
theorem made0 (S : Nat) : madeCells (Value.int .u8 0).cells S = (List.replicate S (Value.int .u8 0)).toArray := by
  apply Array.ext
  · simp [madeCells]
  · intro i h1 h2
    simp [madeCells, Value.cells, Nat.mod_one]
theorem mk_any (S : Nat) (hS : S ≤ 70000) (W : World) (x : Value) : (Instr.makeSlice 23 (.int .i64 (S : Int)) (.int .i64 (S : Int))).run Tryd.prog W = .ok (.slice (some ⟨W.heap.size, 0, none⟩) S S) (W.alloc (FL S 0 x)) := by
  obtain ⟨i0, hi, hz0, hz1, hz2⟩ := info_of infoU
  have h := run_make (P := Tryd.prog) W 23 5 i0 (.int .u8 0) Tryd.underlying23 hi hz0 .i64 .i64 (S : Int) (S : Int) (by omega) (by omega) (by rw [hz2]; omega) (by omega)
  rw [hz1] at h
  rw [h]
  simp [made0, FL]
theorem FL.step {w : World} {b n k : Nat} {x : Value} (h : w.heap[b]? = some (FL n k x)) (hk : k < n) : Nw b (FL n (k + 1) x) w (w.setCell ⟨b, k, none⟩ x) := by
  have h1 := Nw.set h k x
  have e : ((List.replicate k x ++ List.replicate (n - k) (Value.int .u8 0)).toArray.setIfInBounds k x) = (List.replicate (k + 1) x ++ List.replicate (n - (k + 1)) (Value.int .u8 0)).toArray := by
    rw [List.setIfInBounds_toArray]
    congr 1
    rw [List.set_append_right _ _ (by simp)]
    simp only [List.length_replicate, Nat.sub_self]
    obtain ⟨j, hj⟩ : ∃ j, n - k = j + 1 := ⟨n - k - 1, by omega⟩
    rw [hj, List.replicate_succ, List.set_cons_zero, show n - (k + 1) = j by omega, List.replicate_succ', List.append_assoc]
    rfl
  rw [e] at h1
  exact h1
theorem FL.cell {w : World} {b n k : Nat} {x : Value} (h : w.heap[b]? = some (FL n k x)) (hk : k < n) : w.cell? ⟨b, k, none⟩ = some (.int .u8 0) ∧ w.frozen? ⟨b, k, none⟩ = false := by
  have e : (List.replicate k x ++ List.replicate (n - k) (Value.int .u8 0))[k]? = some (.int .u8 0) := by
    rw [List.getElem?_append_right (by simp)]
    obtain ⟨j, hj⟩ : ∃ j, n - k = j + 1 := ⟨n - k - 1, by omega⟩
    rw [hj, List.length_replicate, Nat.sub_self]; rfl
  constructor
  · simp only [World.cell?, h]
    simpa using e
  · simp [World.frozen?, h]
theorem FL.conv {w : World} {b n : Nat} {c : UInt8} (h : w.heap[b]? = some (FL n n (bv c))) : (convert 23 9 (.slice (some ⟨b, 0, none⟩) n n)).run Tryd.prog w = .ok (.string ⟨(List.replicate n c).toArray⟩) w := by
  have h3 := run_convert_bytes_back (P := Tryd.prog) w 23 9 5 ⟨b, 0, none⟩ n (List.replicate n c) Tryd.underlying23 Tryd.underlying5 Tryd.underlying9 fun j hj => by
    simp only [List.length_replicate] at hj
    rw [show (⟨b, 0, none⟩ : Addr).add j = ⟨b, j, none⟩ from by simp [Addr.add]; omega]
    simp only [World.cell?, h]
    simp [hj]
    rfl
  rw [List.length_replicate] at h3
  exact h3
theorem long_name (n : Nat) (c : UInt8) (hc : c = 97 ∨ c = 65) (h0 : 1 ≤ n) (h1 : n ≤ 65536) : allT (List.replicate n c) = if n ≤ 200 then ([⟨if c = 97 then 1 else 3, List.replicate n c, 0, 0, 0, 0⟩], 0, 0) else ([], 0, 3) := by
  obtain ⟨m, rfl⟩ : ∃ m, n = m + 1 := ⟨n - 1, by omega⟩
  unfold allT
  rw [if_pos (by simp; omega)]
  have hw : (List.replicate m c).all wd = true := by
    rw [List.all_eq_true]; intro x hx
    rw [List.eq_of_mem_replicate hx]
    rcases hc with rfl | rfl <;> decide
  have hf : fresh c = true := by rcases hc with rfl | rfl <;> decide
  have e := take_all (r := []) hw (by intro c hc; cases hc)
  rw [List.append_nil] at e
  have hsk := sk_fresh (List.replicate m c) (c :: List.replicate m c) hf
  have ht : Go.Proofs.YtfobladliokfoaaDoor.tk.tok (0, []) c (List.replicate m c) = txt (if c = 97 then 1 else 3) (c :: List.replicate m c) [] := by
    unfold Go.Proofs.YtfobladliokfoaaDoor.tk.tok
    rw [e.1, e.2]
    rcases hc with rfl | rfl
    · rw [if_pos (by decide)]; rfl
    · rw [if_neg (by decide), if_pos (by decide)]; rfl
  rw [List.replicate_succ]
  by_cases hn : m + 1 ≤ 200
  · rw [if_pos hn]
    have ht2 := ht.trans (txt_ok (by simp; omega))
    rw [lex_one hsk (by rw [if_pos rfl]; exact ht2), List.length_cons, lex_nil0, cons1_ok]
    simp
  · rw [if_neg hn]
    have ht2 : Go.Proofs.YtfobladliokfoaaDoor.tk.tok (0, []) c (List.replicate m c) = .er 3 := by rw [ht]; unfold txt; rw [if_neg (by simp; omega)]
    rw [List.length_cons]
    simp only [lex, hsk, if_true, ht2]
    simp
theorem sk_blanks (n : Nat) : ∀ b, sk .bt b (List.replicate n 32) = (true, []) := by
  induction n with
  | zero => intro b; rfl
  | succ n ih => intro b; rw [List.replicate_succ, sk, if_pos (by decide)]; exact ih _
theorem long_space (n : Nat) : allT (List.replicate n 32) = if n ≤ 65536 then ([], 0, 0) else ([], 0, 3) := by
  unfold allT
  rw [List.length_replicate]
  by_cases h : n ≤ 65536
  · rw [if_pos h, if_pos h]; exact lex_end (sk_blanks n _)
  · rw [if_neg h, if_neg h]
def RL (w0 : World) (b n : Nat) (x : Value) (i : Value) (wr : World) : Prop := ∃ k, k ≤ n ∧ i = .int .i64 k ∧ Nw b (FL n k x) w0 wr
end Go.Proofs.YtfobladliokfoaaDoor.tk
