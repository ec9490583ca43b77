/- Terms' variables: the plain mathematics; no program. -/
import Derived.Test.YtibepkljcofpdaaTm
namespace Go.Proofs.Ytibepkljcofpdaa.tm
/-! ### variables -/
def addv (acc : List Int) (v : Int) : List Int := if v ∈ acc then acc else acc ++ [v]
def vars (t : Tm) : List Int := if good t = true then (occ t).foldl addv [] else []
/-- the variables of these nodes, as they are met -/
def occP (L : List (Tm × Nat)) : List Int := L.filterMap fun x => if x.1.kind = 1 then some x.1.int else none
theorem addv_len (acc : List Int) (v : Int) : (addv acc v).length ≤ acc.length + 1 := by
  unfold addv; split <;> simp
theorem addv_nodup {acc : List Int} (h : acc.Nodup) (v : Int) : (addv acc v).Nodup := by
  unfold addv
  split
  · exact h
  · rename_i hv
    rw [List.nodup_append]
    exact ⟨h, by simp, fun a ha b hb => by simp at hb; subst hb; exact fun e => hv (e ▸ ha)⟩
theorem fold_nodup : ∀ (l : List Int) {acc : List Int}, acc.Nodup → (l.foldl addv acc).Nodup
  | [], _, h => h
  | v :: l, _, h => fold_nodup l (addv_nodup h v)
theorem fold_mem : ∀ (l : List Int) (acc : List Int) (x : Int), x ∈ l.foldl addv acc ↔ x ∈ acc ∨ x ∈ l
  | [], acc, x => by simp
  | v :: l, acc, x => by
    rw [List.foldl_cons, fold_mem l]
    unfold addv
    split
    · rename_i h
      simp only [List.mem_cons]
      exact ⟨fun h => h.imp id Or.inr, fun h => h.elim Or.inl fun h => h.elim (fun e => Or.inl (by subst e; assumption)) Or.inr⟩
    · simp [List.mem_append, List.mem_cons, or_assoc]
theorem fold_len : ∀ (l : List Int) (acc : List Int), (l.foldl addv acc).length ≤ acc.length + l.length
  | [], acc => by simp
  | v :: l, acc => by
    have := fold_len l (addv acc v)
    have := addv_len acc v
    simp only [List.foldl_cons, List.length_cons]; omega
theorem occ_pre (t : Tm) : occP (pre 1 t) = occ t := (pre_facts t 1).2.2.1
theorem occ_len (t : Tm) : (occ t).length ≤ size t := by
  rw [← occ_pre t, ← (pre_facts t 1).1]
  exact List.length_filterMap_le _ _
end Go.Proofs.Ytibepkljcofpdaa.tm
