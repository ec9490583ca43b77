/- Package unify: a variable and what it is made one with (bind); two terms made one: what is answered, by cells and writes alone. -/
import Derived.Test.YthableojkjhicaaUnD
namespace Go.Proofs.Ythableojkjhicaa.un
open Go.ChangeShapes Go.WideShapes Go.ChangeAt Go.RowKit Go.Maps
open Go.Proofs.Ythableojkjhicaa.kp Go.Proofs.Ythableojkjhicaa.cel Go.Proofs.Ythableojkjhicaa.hp Go.Proofs.Ythableojkjhicaa.ob
set_option linter.unusedVariables false
/-- what a call of unify answers, and leaves: is it so, the error, cells, writes, visits left -/
structure UR where
  is : Bool
  e : Int
  l : List Int
  L : List Wr
  k : Nat
def bdY (l : List Int) (L : List Wr) (k : Nat) (x y : Int) : UR :=
  if isV l y = true then ⟨true, 0, bl l x y, bL l L x y, k⟩ else
  if (occW l x k y []).1 = true ∨ ¬ (occW l x k y []).2.1 = 0 then ⟨false, (occW l x k y []).2.1, l, L, (occW l x k y []).2.2⟩ else ⟨true, 0, bl l x y, bL l L x y, (occW l x k y []).2.2⟩
/-- one of both is a variable -/
def bdW (l : List Int) (L : List Wr) (k : Nat) (a b : Int) : UR := if isV l a = true then bdY l L k a b else bdY l L k b a
def pairs : Int → Int → Nat → List (Int × Int)
  | _, _, 0 => []
  | p, q, n + 1 => (p, q) :: pairs (p + 1) (q + 1) n
inductive St
  | fin (r : UR)
  | go (k : Nat) (l : List Int) (L : List Wr) (td : List (Int × Int))
/-- one pair, Dereffed -/
def stepU (k : Nat) (l : List Int) (L : List Wr) (x y : Int) (td : List (Int × Int)) : St :=
  if (nd l x).ok = false ∨ (nd l y).ok = false then .fin ⟨false, 2, l, L, k⟩ else
  if (nd l x).k = 1 ∨ (nd l y).k = 1 then
    if (bdW l L k x y).is = true then .go (bdW l L k x y).k (bdW l L k x y).l (bdW l L k x y).L td else .fin ⟨false, (bdW l L k x y).e, l, L, (bdW l L k x y).k⟩ else
  if ¬ (nd l x).k = (nd l y).k ∨ ¬ ((nd l x).w0 = (nd l y).w0 ∧ (nd l x).w1 = (nd l y).w1) then .fin ⟨false, 0, l, L, k⟩ else
  .go k l L (if (nd l x).k = 5 then pairs (nd l x).f (nd l y).f (nd l x).a.toNat ++ td else td)
def uniW : Nat → Nat → List Int → List Wr → Int → Int → List (Int × Int) → UR
  | 0, k, l, L, _, _, _ => ⟨false, 3, l, L, k⟩
  | _ + 1, 0, l, L, _, _, _ => ⟨false, 3, l, L, 0⟩
  | f + 1, k + 1, l, L, a, b, td =>
    match stepU k l L (dr l l.length a) (dr l l.length b) td with
    | .fin r => r
    | .go k' l' L' [] => ⟨true, 0, l', L', k'⟩
    | .go k' l' L' ((p, q) :: r) => uniW f k' l' L' (gv l' p) (gv l' q) r
def contU (f k : Nat) (l : List Int) (L : List Wr) : List (Int × Int) → UR
  | [] => ⟨true, 0, l, L, k⟩
  | (p, q) :: r => uniW f k l L (gv l p) (gv l q) r
theorem uni_step (f k : Nat) (l : List Int) (L : List Wr) (a b : Int) (td : List (Int × Int)) : uniW (f + 1) (k + 1) l L a b td =
    match stepU k l L (dr l l.length a) (dr l l.length b) td with | .fin r => r | .go k' l' L' td' => contU f k' l' L' td' := by
  show (match stepU k l L (dr l l.length a) (dr l l.length b) td with
    | .fin r => r
    | .go k' l' L' [] => ⟨true, 0, l', L', k'⟩
    | .go k' l' L' ((p, q) :: r) => uniW f k' l' L' (gv l' p) (gv l' q) r) = _
  cases stepU k l L (dr l l.length a) (dr l l.length b) td with
  | fin r => rfl
  | go k' l' L' td' => cases td' <;> rfl
theorem occ_k (l : List Int) (v : Int) : ∀ (k : Nat) (c : Int) (td : List Int), (occW l v k c td).2.2 ≤ k := by
  intro k
  induction k with
  | zero => intro c td; rw [occW]; exact Nat.le_refl _
  | succ k ih =>
    intro c td
    rw [occ_succ]
    split
    · show k ≤ k + 1; omega
    split
    · show k ≤ k + 1; omega
    generalize (if (nd l (dr l l.length c)).k = 5 then kids l (nd l (dr l l.length c)).f (nd l (dr l l.length c)).a.toNat ++ td else td) = z
    cases z with
    | nil => show k ≤ k + 1; omega
    | cons x r => have := ih x r; show (occW l v k x r).2.2 ≤ k + 1; omega
theorem bl_len (l : List Int) (a b : Int) : (bl l a b).length = l.length := by
  unfold bl; split
  · rfl
  · exact sx_len _ _ _
theorem bL_len (l : List Int) (L : List Wr) (a b : Int) : (bL l L a b).length ≤ L.length + 1 := by
  unfold bL; split
  · omega
  · unfold tx; split
    · simp
    · omega
theorem bdY_facts (l : List Int) (L : List Wr) (k : Nat) (a b : Int) : (bdY l L k a b).l.length = l.length ∧ (bdY l L k a b).L.length ≤ L.length + 1 ∧ (bdY l L k a b).k ≤ k := by
  have h1 := occ_k l a k b []
  have h2 := bl_len l a b
  have h3 := bL_len l L a b
  unfold bdY
  split
  · exact ⟨h2, h3, Nat.le_refl _⟩
  split
  · exact ⟨rfl, Nat.le_succ _, h1⟩
  · exact ⟨h2, h3, h1⟩
theorem bdW_facts (l : List Int) (L : List Wr) (k : Nat) (a b : Int) : (bdW l L k a b).l.length = l.length ∧ (bdW l L k a b).L.length ≤ L.length + 1 ∧ (bdW l L k a b).k ≤ k := by
  unfold bdW; split <;> exact bdY_facts _ _ _ _ _
theorem bdY_fail (l : List Int) (L : List Wr) (k : Nat) (a b : Int) (h : (bdY l L k a b).is = false) : (bdY l L k a b).l = l ∧ (bdY l L k a b).L = L := by
  unfold bdY at h ⊢
  split at h
  · cases h
  rename_i h1
  rw [if_neg h1]
  split at h
  · rename_i h2
    rw [if_pos h2]; exact ⟨rfl, rfl⟩
  · cases h
theorem bdW_fail (l : List Int) (L : List Wr) (k : Nat) (a b : Int) (h : (bdW l L k a b).is = false) : (bdW l L k a b).l = l ∧ (bdW l L k a b).L = L := by
  unfold bdW at h ⊢
  split at h
  · rename_i h1; rw [if_pos h1]; exact bdY_fail _ _ _ _ _ h
  · rename_i h1; rw [if_neg h1]; exact bdY_fail _ _ _ _ _ h
theorem nd_ar {l : List Int} {c : Int} (h5 : (nd l c).k = 5) : (nd l c).a = pk (nd l c).w0 := by
  unfold nd at h5 ⊢
  split at h5
  · simp at h5
  rename_i t0
  rw [if_neg t0]
  split at h5
  · rename_i t1
    rw [if_pos t1]
    unfold cn at h5 ⊢
    split at h5
    · rename_i hf
      rw [if_pos hf]
    · simp [n0] at h5
  split at h5
  · simp at h5
  split at h5
  · simp at h5
  split at h5
  · simp at h5
  split at h5
  · simp at h5
  · simp [n0] at h5
/-- a cell that stands for a term leads nowhere -/
theorem nd_off {l : List Int} {c : Int} (h : (nd l c).ok = true) : ¬ on l c := by
  rintro ⟨h8, h1, h2⟩
  unfold nd at h
  rw [if_pos h8] at h
  obtain ⟨_, hg, hv⟩ := isV_gb h
  have hg := of_decide_eq_true hg
  unfold gv at hv
  rw [if_pos hg] at hv
  exact h2 hv
theorem nd_var {l : List Int} {c : Int} (h : (nd l c).ok = true) : isV l c = true ↔ (nd l c).k = 1 := by
  unfold nd at h ⊢
  split at h
  · rename_i t0
    rw [if_pos t0]; simp only [iff_true]; exact h
  · rename_i t0
    rw [if_neg t0]
    constructor
    · intro hv; exact absurd (isV_gb hv).1 t0
    · intro hk
      split at hk
      · unfold cn at hk; split at hk <;> simp [n0] at hk
      split at hk
      · simp at hk
      split at hk
      · simp at hk
      split at hk
      · simp at hk
      split at hk
      · simp at hk
      · simp [n0] at hk
def HS (p q : Nat) (l : List Int) (m : Int) (L : List Wr) : Ob := fun w K => hp.Sys TH TP w p q K l m L
theorem frHS {p q : Nat} {l : List Int} {m : Int} {L : List Wr} : Fr (HS p q l m L) := ⟨fun h => Sys.lt frmP h, fun h k d => Sys.keep frmP h k d⟩
/-- heap, trail, walker -/
abbrev HW (p q b : Nat) (l : List Int) (m : Int) (L : List Wr) (k : Nat) : Ob := Tim (HS p q l m L) (Blk b (UW p (k : Int)))
section
variable {w w' : World} {p q b k : Nat} {N : Nat → Prop} {l : List Int} {m : Int} {L : List Wr}
theorem HW_lift {w1 w2 : World} {k' : Nat} {l' : List Int} {L' : List Wr} (h : HW p q b l m L k w N) : ∃ K, hp.Sys TH TP w p q K l m L ∧ w.heap[b]? = some (UW p (k : Int)) ∧ ¬ K b ∧
    ∀ w1 (k' : Nat), Keep (fun i => i = b) w w1 → w1.heap[b]? = some (UW p (k' : Int)) → hp.Sys TH TP w1 p q K l m L ∧ ∀ l' L' w2, SN TH TP w1 p q K l' m L' w2 → Nx (HW p q b l' m L' k') w N w2 := by
  obtain ⟨K, M, hs, ⟨hb, hM⟩, hd, hN⟩ := h
  have hKb : ¬ K b := fun hk => hd b hk ((hM b).2 rfl)
  refine ⟨K, hs, hb, hKb, fun w1 k' k1 hb1 => ?_⟩
  have hs1 := Sys.keep frmP hs k1 (fun i hi e => hKb (e ▸ hi))
  refine ⟨hs1, fun l' L' w2 sn => ?_⟩
  have t1 : HW p q b l m L k' w1 N := ⟨K, M, hs1, ⟨hb1, hM⟩, hd, hN⟩
  obtain ⟨K2, a2, up⟩ := Tim.at1 (Fr.blk _ _) t1
  have hkn : Keep N w w1 := k1.mono fun i hi => (hN i).2 (Or.inr ((hM i).2 hi))
  obtain ⟨K3, a3, k3, s3⟩ := sn
  refine Nx.trans hkn (K' := N) (fun _ => Or.inl) ?_
  refine ⟨fun i => K3 i ∨ M i, ⟨K3, M, a3, (Fr.blk _ _).keep ⟨hb1, hM⟩ k3 (fun i h1 h2 => hd i h2 h1), fun i h1 h2 => ?_, fun _ => Iff.rfl⟩, k3.mono fun i hi => (hN i).2 (Or.inl hi), fun i hi => ?_⟩
  · rcases s3 i h1 with h | h
    · exact hd i h h2
    · have hbl : b < w1.heap.size := (Array.getElem?_eq_some_iff.1 hb1).1
      have := (hM i).1 h2; omega
  · rcases hi with hi | hi
    · exact (s3 i hi).imp (fun h => (hN i).2 (Or.inl h)) id
    · exact Or.inl ((hN i).2 (Or.inr hi))
end
end Go.Proofs.Ythableojkjhicaa.un
