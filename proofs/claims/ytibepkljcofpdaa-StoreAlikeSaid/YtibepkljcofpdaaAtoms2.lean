/- More on package atoms: Number of a name that is there changes nothing; of one that may be there, its number is its place. -/
import Derived.Test.YtibepkljcofpdaaAtoms
namespace Go.Proofs.Ytibepkljcofpdaa.atm
open Go.ChangeShapes Go.WideShapes Go.ChangeAt Go.RowKit Go.Maps Go.WideMaps
set_option maxHeartbeats 400000 in
theorem num_old_w {w : World} {p : Nat} {F : Nat → Prop} {l : List ByteArray} (h : Tab w p F l) (s : ByteArray) (hs : s.size ≤ 200) (hi : s ∈ l) :
    Calls Try.prog 22 #[.pointer (some ⟨p, 0, none⟩), .string s] w fun e w' => e = .returned (.tuple #[.int .i64 (l.idxOf s), .int .i64 0]) ∧ w = w' := by
  have hf := find_any h s (by unfold maxLen; omega)
  rw [show fb l s = true by simp [fb, hi], show fi l s = l.idxOf s by simp [fi, hi]] at hf
  clear h hi
  go_enter Try.func22, Try.ntmps22
  go_wp2_with fail
  refine hf.mono ?_; rintro e w' ⟨rfl, rfl⟩
  go_wp2_with fail
  go_ret2
  exact ⟨rfl, rfl⟩
theorem nx_short {l : List ByteArray} {s : ByteArray} (hs : s.size ≤ 200) (hl : l.length < 4096) : nx l s = if s ∈ l then l else l ++ [s] := by
  unfold nx; rw [if_neg (by omega)]; split
  · rfl
  · rw [if_neg (by omega)]
theorem nx_mem {l : List ByteArray} {s : ByteArray} (hs : s.size ≤ 200) (hl : l.length < 4096) : s ∈ nx l s := by
  rw [nx_short hs hl]; split <;> simp_all
theorem nx_cases (l : List ByteArray) (s : ByteArray) : nx l s = l ∨ (s ∉ l ∧ nx l s = l ++ [s]) := by
  unfold nx; split
  · exact Or.inl rfl
  · split
    · exact Or.inl rfl
    · split
      · exact Or.inl rfl
      · exact Or.inr ⟨by assumption, rfl⟩
theorem nx_len (l : List ByteArray) (s : ByteArray) : l.length ≤ (nx l s).length ∧ (nx l s).length ≤ l.length + 1 := by
  rcases nx_cases l s with h | ⟨_, h⟩ <;> rw [h] <;> simp
theorem nx_old_mem {l : List ByteArray} {s t : ByteArray} (h : t ∈ l) : t ∈ nx l s := by
  rcases nx_cases l s with e | ⟨_, e⟩ <;> rw [e] <;> simp [h]
theorem nx_old_idx {l : List ByteArray} {s t : ByteArray} (h : t ∈ l) : (nx l s).idxOf t = l.idxOf t := by
  rcases nx_cases l s with e | ⟨_, e⟩ <;> rw [e]
  simp [List.idxOf_append, h]
theorem getD_idx {l : List ByteArray} {s : ByteArray} (h : s ∈ l) : l.getD (l.idxOf s) ByteArray.empty = s := by
  have := List.idxOf_lt_length_of_mem h
  simp [List.getD, this]
theorem num_ok {w : World} {p : Nat} {F : Nat → Prop} {l : List ByteArray} (h : Tab w p F l) (s : ByteArray) (hs : s.size ≤ 200) (hl : l.length < 4096) :
    Calls Try.prog 22 #[.pointer (some ⟨p, 0, none⟩), .string s] w fun e w' => e = .returned (.tuple #[.int .i64 ((nx l s).idxOf s), .int .i64 0]) ∧ Next w p F (nx l s) w' := by
  rw [nx_short hs hl]
  by_cases hi : s ∈ l
  · rw [if_pos hi]; exact num_old h s hs hi
  · rw [if_neg hi]
    have e : (l ++ [s]).idxOf s = l.length := by simp [List.idxOf_append, hi]
    rw [e]; exact num_new h s hs hi hl
end Go.Proofs.Ytibepkljcofpdaa.atm
