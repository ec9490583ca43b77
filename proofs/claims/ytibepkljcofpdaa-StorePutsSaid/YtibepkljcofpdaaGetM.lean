/- Terms told from cells: what Get tells, step by step; Get of what Put laid. The mathematics. -/
import Derived.Test.YtibepkljcofpdaaPutB
import Derived.Test.YtibepkljcofpdaaVm
namespace Go.Proofs.Ytibepkljcofpdaa.pm
set_option linter.unusedVariables false
open Go.ChangeShapes Go.WideShapes Go.ChangeAt Go.RowKit
open Go.Proofs.Ytibepkljcofpdaa.tm Go.Proofs.Ytibepkljcofpdaa.hp Go.Proofs.Ytibepkljcofpdaa.cel Go.Proofs.Ytibepkljcofpdaa.ren
/-- how many nodes were told, the numbers of places (in the order in which they were met), an error -/
structure G where
  n : Nat
  v : List (Int × Int)
  e : Int
/-- as many, one behind the other, as long as there is no error -/
def getL (f : Int → G → Tm × G) (l : List Int) : Nat → Nat → G → List Tm × G
  | 0, _, g => ([], g)
  | n + 1, p, g => if g.e = 0 then (match f (l.getD p 0) g with
      | (t, g1) => match getL f l n (p + 1) g1 with
        | (ts, g2) => (t :: ts, g2)) else ([], g)
/-- a functor's cell: is it one whose arguments are there -/
def fok (l : List Int) (p : Int) : Bool := gb l p && decide (gv l p % 8 = 6) && decide (1 ≤ gv l p / 8 % 256) && decide (gv l p / 8 % 256 ≤ 20) && gb l (p + gv l p / 8 % 256)
/-- what a cell stands for; r: how many levels may still come -/
def get (l : List Int) (a : List ByteArray) : Nat → Int → G → Tm × G
  | 0, c, g => if g.e = 0 then (zero, ⟨g.n + 1, g.v, 3⟩) else (zero, g)
  | r + 1, c, g => if g.e = 0 then (if 2000 ≤ g.n then (zero, ⟨g.n + 1, g.v, 3⟩) else
      if dr l l.length c % 8 = 0 then (if gb l (dr l l.length c / 8) = true ∧ gv l (dr l l.length c / 8) = dr l l.length c then
          (match look g.v (dr l l.length c / 8) with
            | some k => (var k, ⟨g.n + 1, g.v, 0⟩)
            | none => (var g.v.length, ⟨g.n + 1, g.v ++ [(dr l l.length c / 8, (g.v.length : Int))], 0⟩))
        else (zero, ⟨g.n + 1, g.v, 2⟩))
      else if dr l l.length c % 8 = 2 then (if dr l l.length c / 8 < a.length then (atom (a.getD (dr l l.length c / 8).toNat ByteArray.empty), ⟨g.n + 1, g.v, 0⟩) else (zero, ⟨g.n + 1, g.v, 2⟩))
      else if dr l l.length c % 8 = 3 then (.mk 3 E (sg (dr l l.length c)) 0 0 [], ⟨g.n + 1, g.v, 0⟩)
      else if dr l l.length c % 8 = 4 then (if gb l (dr l l.length c / 8) = true then (.mk 3 E (wrap64 (gv l (dr l l.length c / 8))) 0 0 [], ⟨g.n + 1, g.v, 0⟩) else (zero, ⟨g.n + 1, g.v, 2⟩))
      else if dr l l.length c % 8 = 5 then (if gb l (dr l l.length c / 8) = true ∧ gb l (dr l l.length c / 8 + 1) = true then (.mk 4 E 0 (gv l (dr l l.length c / 8)) (gv l (dr l l.length c / 8 + 1)) [], ⟨g.n + 1, g.v, 0⟩) else (zero, ⟨g.n + 1, g.v, 2⟩))
      else if dr l l.length c % 8 = 1 ∧ fok l (dr l l.length c / 8) = true then
        (if gv l (dr l l.length c / 8) / 8 / 256 < a.length then
          (match getL (get l a r) l (gv l (dr l l.length c / 8) / 8 % 256).toNat ((dr l l.length c / 8).toNat + 1) ⟨g.n + 1, g.v, 0⟩ with
            | (ts, g2) => (comp (a.getD (gv l (dr l l.length c / 8) / 8 / 256).toNat ByteArray.empty) ts, g2))
          else (zero, ⟨g.n + 1, g.v, 2⟩))
      else (zero, ⟨g.n + 1, g.v, 2⟩)) else (zero, g)
/-! ### Get of what Put laid -/
/-- numbers stand for themselves -/
def wf : Tm → Prop := fun t => True
/-- where a variable's cell is -/
def pl (s : S) (i : Int) : Int := (look s.v i).getD 0 / 8
/-- the numbers are 0, 1 .. -/
def Num (v : List (Int × Int)) : Prop := ∀ x, look v x = if x ∈ keys v then some (ix0 (keys v) x) else none
theorem Num.nil : Num [] := fun x => by simp [look, keys]
theorem Num.add {v : List (Int × Int)} (h : Num v) {x : Int} (hx : x ∉ keys v) : Num (v ++ [(x, (v.length : Int))]) := by
  intro y
  have hl : (keys v).length = v.length := by simp [keys]
  rw [keys_add]
  by_cases e : x = y
  · subst e
    rw [look_new (look_none.2 hx), if_pos (by simp)]
    simp [ix0, List.idxOf_append, hx, hl]
  · rw [look_old e, h y]
    by_cases hy : y ∈ keys v
    · rw [if_pos hy, if_pos (by simp [hy])]
      simp [ix0, hy, List.idxOf_append]
    · rw [if_neg hy, if_neg (by simp [hy, show ¬ y = x from fun h => e h.symm])]
theorem fold_pre (l acc : List Int) : ∃ b, l.foldl addv acc = acc ++ b := by
  induction l generalizing acc with
  | nil => exact ⟨[], by simp⟩
  | cons x l ih =>
    obtain ⟨b, hb⟩ := ih (addv acc x)
    simp only [List.foldl_cons]
    rw [hb]
    unfold addv
    split
    · exact ⟨b, rfl⟩
    · exact ⟨x :: b, by simp⟩
theorem ix0_pre {k : List Int} {x : Int} (hx : x ∈ k) (b : List Int) : ix0 (k ++ b) x = ix0 k x := by
  simp [ix0, hx, List.idxOf_append]
theorem fold_has {l acc : List Int} {x : Int} (h : x ∈ l ∨ x ∈ acc) : x ∈ l.foldl addv acc := (fold_mem l acc x).2 h.symm
mutual
/-- each number stands in 64 bits -/
def ints : Tm → Prop
  | .mk k n i re im l => (k = 3 → I64 i) ∧ intsL l
def intsL : List Tm → Prop
  | [] => True
  | t :: r => ints t ∧ intsL r
end
theorem intsL_mem : ∀ {l : List Tm}, intsL l → ∀ x ∈ l, ints x
  | t :: r, h, x, hx => by
    rw [intsL] at h
    rcases List.mem_cons.1 hx with rfl | hx
    · exact h.1
    · exact intsL_mem h.2 x hx
theorem jn_tag (t : Int) (p : Int) (h0 : 0 ≤ t) (h1 : t < 8) : jn t p % 8 = t := by unfold jn; omega
theorem jn_val (t : Int) (p : Int) (h0 : 0 ≤ t) (h1 : t < 8) (hp : 0 ≤ p) (hq : p < 2305843009213693952) : jn t p / 8 = p := by unfold jn; omega
theorem sv_tag {i : Int} (h : so i = true) : sv i % 8 = 3 := by
  have := of_decide_eq_true h
  unfold sv; rw [if_pos this]; unfold jn; omega
theorem sg_sv {i : Int} (h : so i = true) : sg (sv i) = i := by
  have := of_decide_eq_true h
  unfold sv; rw [if_pos this]; unfold sg jn wrap64; omega
theorem w64_u64 {i : Int} (h : I64 i) : wrap64 (u64 i) = i := by
  obtain ⟨h0, h1⟩ := h
  unfold u64; rw [IntKind.wrap_u64]; unfold wrap64; omega
/-- what stands for a term is not followed any further -/
theorem rep_dr {O : Nat → Prop} {s : S} {t : Tm} {c : Int} (hv : Vs O s) (h : Rep O s t c) (n : Nat) : dr s.h n c = c := by
  apply dr_off
  rintro ⟨h0, h1, h2⟩
  obtain ⟨k, nm, i, re, im, l⟩ := t
  rw [Rep] at h
  by_cases k2 : k = 2
  · rw [if_pos k2] at h
    obtain ⟨j, rfl, _⟩ := h
    rw [jn_tag _ _ (by decide) (by decide)] at h0; omega
  rw [if_neg k2] at h
  by_cases k3 : k = 3
  · rw [if_pos k3] at h
    split at h
    · rename_i hso
      rw [h, sv_tag hso] at h0; omega
    · obtain ⟨p, rfl, _⟩ := h
      rw [jn_tag _ _ (by decide) (by decide)] at h0; omega
  rw [if_neg k3] at h
  by_cases k4 : k = 4
  · rw [if_pos k4] at h
    obtain ⟨p, rfl, _⟩ := h
    rw [jn_tag _ _ (by decide) (by decide)] at h0; omega
  rw [if_neg k4] at h
  by_cases k1 : k = 1
  · rw [if_pos k1] at h
    obtain ⟨p, rfl, _, hp, hc⟩ := hv.cell i c h
    apply h2
    have : ((p : Int) * 8 / 8).toNat = p := by omega
    rw [this]; exact hc
  rw [if_neg k1] at h
  obtain ⟨p, j, rfl, _⟩ := h
  rw [jn_tag _ _ (by decide) (by decide)] at h0; omega
theorem gb_nat {l : List Int} {p : Nat} (h : p < l.length) : gb l (p : Int) = true := decide_eq_true ⟨by omega, by omega⟩
theorem gv_nat {l : List Int} {p : Nat} (h : p < l.length) : gv l (p : Int) = l.getD p 0 := by unfold gv; rw [if_pos ⟨by omega, by omega⟩]; simp
/-- the term as it is told: variables by their places' numbers -/
def told (s : S) (ks : List Int) (t : Tm) : Tm := sub (fun i => var (ix0 ks (pl s i))) t
structure Told (s : S) (g : G) (n : Nat) (os : List Int) (g' : G) : Prop where
  n : g'.n = g.n + n
  e : g'.e = 0
  num : Num g'.v
  keys : keys g'.v = (os.map (pl s)).foldl addv (keys g.v)
theorem pl_of {O : Nat → Prop} {s : S} (hv : Vs O s) {i c : Int} (h : look s.v i = some c) : ∃ p : Nat, pl s i = p ∧ c = (p : Int) * 8 ∧ p < s.h.length ∧ s.h.getD p 0 = c := by
  obtain ⟨p, e, _, hp, hc⟩ := hv.cell i c h
  exact ⟨p, by unfold pl; rw [h]; simp; omega, e, hp, hc⟩
theorem told_more {s : S} {ks b : List Int} {t : Tm} (h : ∀ i ∈ occ t, pl s i ∈ ks) : told s (ks ++ b) t = told s ks t := by
  unfold told
  refine sub_congr t fun i hi => ?_
  rw [ix0_pre (h i hi)]
theorem get_ok (s : S) (O : Nat → Prop) (hv : Vs O s) (hlen : s.h.length ≤ 1048576) (ha : s.a.length ≤ 4096) (t : Tm) : ∀ (c : Int) (r : Nat) (g : G), Rep O s t c → sound t = true → ints t → height t ≤ r → g.e = 0 → Num g.v → g.n + size t ≤ 2000 →
    ∃ g', get s.h s.a r c g = (told s (keys g'.v) t, g') ∧ Told s g (size t) (occ t) g' := by
  induction t using Tm.ind with
  | h k n i re im l ih =>
    intro c r g hr hs hi hh he hg hn
    have hdr := rep_dr hv hr s.h.length
    have hc := sound_chk hs
    have hk := chk_kind hc
    simp only [Tm.kind] at hk
    have hsz : 1 ≤ size (.mk k n i re im l) := by rw [size]; omega
    have hht : 1 ≤ height (.mk k n i re im l) := by rw [height]; omega
    obtain ⟨r, rfl⟩ : ∃ r', r = r' + 1 := ⟨r - 1, by omega⟩
    obtain ⟨gn, gv_, ge⟩ := g
    simp only at he hg hn
    subst he
    rw [get]
    dsimp only
    rw [if_pos rfl, if_neg (by omega), hdr]
    rw [Rep] at hr
    have leaf : ∀ (k : Int) (n : ByteArray) (i re im : Int) (l : List Tm), k ≠ 1 → k ≠ 5 → size (.mk k n i re im l) = 1 ∧ occ (.mk k n i re im l) = [] := fun k n i re im l h1 h5 => by simp [size, occ, h1, h5]
    rcases hk with rfl | rfl | rfl | rfl | rfl
    · -- a variable
      rw [if_neg (by decide), if_neg (by decide), if_neg (by decide), if_pos rfl] at hr
      obtain ⟨p, hp, hcp, hpl, hcell⟩ := pl_of hv hr
      have e1 : c % 8 = 0 := by omega
      have e2 : c / 8 = (p : Int) := by omega
      rw [if_pos e1, e2, if_pos ⟨gb_nat hpl, by rw [gv_nat hpl]; exact hcell⟩]
      have hsz1 : size (.mk 1 n i re im l) = 1 := by simp [size]
      have ho : occ (.mk 1 n i re im l) = [i] := by simp [occ]
      have htl : ∀ ks, told s ks (.mk 1 n i re im l) = var (ix0 ks p) := fun ks => by unfold told; simp [sub, hp]
      rw [hg (p : Int)]
      by_cases hm : (p : Int) ∈ keys gv_
      · rw [if_pos hm]
        refine ⟨⟨gn + 1, gv_, 0⟩, ?_, ?_⟩
        · rw [htl]
        · exact ⟨by rw [hsz1], rfl, hg, by rw [ho]; simp [addv, hp, hm]⟩
      · rw [if_neg hm]
        refine ⟨⟨gn + 1, gv_ ++ [((p : Int), (gv_.length : Int))], 0⟩, ?_, ?_⟩
        · rw [htl]
          have : ix0 (keys (gv_ ++ [((p : Int), (gv_.length : Int))])) p = gv_.length := by
            have hkl : (keys gv_).length = gv_.length := by simp [keys]
            rw [keys_add]; simp [ix0, List.idxOf_append, hm, hkl]
          rw [this]
        · exact ⟨by rw [hsz1], rfl, hg.add hm, by rw [ho]; simp [addv, hp, hm, keys_add]⟩
    · -- an atom
      rw [if_pos rfl] at hr
      obtain ⟨j, rfl, hj, hn2⟩ := hr
      obtain ⟨l1, l2⟩ := leaf 2 n i re im l (by decide) (by decide)
      have hja := (List.getElem?_eq_some_iff.1 hn2).1
      rw [jn_tag _ _ (by decide) (by decide), jn_val _ _ (by decide) (by decide) (by omega) (by omega), if_neg (by decide), if_pos rfl, if_pos (by omega)]
      refine ⟨⟨gn + 1, gv_, 0⟩, ?_, by rw [l1], rfl, hg, by rw [l2]; simp⟩
      unfold told; simp [sub, atom, List.getD, hn2]
    · -- a number
      rw [if_neg (by decide), if_pos rfl] at hr
      obtain ⟨l1, l2⟩ := leaf 3 n i re im l (by decide) (by decide)
      rw [ints] at hi
      refine ⟨⟨gn + 1, gv_, 0⟩, ?_, by rw [l1], rfl, hg, by rw [l2]; simp⟩
      have htl : told s (keys gv_) (.mk 3 n i re im l) = .mk 3 E i 0 0 [] := by unfold told; simp [sub]
      rw [htl]
      split at hr
      · rename_i hso
        subst hr
        rw [sv_tag hso, if_neg (by decide), if_neg (by decide), if_pos rfl, sg_sv hso]
      · obtain ⟨p, rfl, _, hp, hcell⟩ := hr
        rw [jn_tag _ _ (by decide) (by decide), jn_val _ _ (by decide) (by decide) (by omega) (by omega), if_neg (by decide), if_neg (by decide), if_neg (by decide), if_pos rfl, if_pos (gb_nat hp), gv_nat hp, hcell, w64_u64 (hi.1 rfl)]
    · -- a complex number
      rw [if_neg (by decide), if_neg (by decide), if_pos rfl] at hr
      obtain ⟨l1, l2⟩ := leaf 4 n i re im l (by decide) (by decide)
      obtain ⟨p, rfl, _, _, hp, h1, h2⟩ := hr
      have hp1 : ((p : Int) + 1) = ((p + 1 : Nat) : Int) := by omega
      rw [jn_tag _ _ (by decide) (by decide), jn_val _ _ (by decide) (by decide) (by omega) (by omega), if_neg (by decide), if_neg (by decide), if_neg (by decide), if_neg (by decide), if_pos rfl, hp1, if_pos ⟨gb_nat (by omega), gb_nat hp⟩, gv_nat (by omega), gv_nat hp, h1, h2]
      refine ⟨⟨gn + 1, gv_, 0⟩, ?_, by rw [l1], rfl, hg, by rw [l2]; simp⟩
      unfold told; simp [sub]
    · -- a compound
      rw [if_neg (by decide), if_neg (by decide), if_neg (by decide), if_neg (by decide)] at hr
      obtain ⟨p, j, rfl, _, hp, hj, hf, hn2, hl⟩ := hr
      have hja := (List.getElem?_eq_some_iff.1 hn2).1
      have h20 : 1 ≤ l.length ∧ l.length ≤ 20 := by
        simp only [chk] at hc; simp at hc
        split at hc
        · omega
        · split at hc
          · omega
          · refine ⟨?_, by omega⟩
            rename_i h0 _
            exact List.length_pos_iff.2 h0
      have hp0 : p < s.h.length := by omega
      have g1 : gv s.h (p : Int) = jn 6 ((j : Int) * 256 + l.length) := by rw [gv_nat hp0, hf]
      have t1 : jn 6 ((j : Int) * 256 + l.length) % 8 = 6 := jn_tag _ _ (by decide) (by decide)
      have t2 : jn 6 ((j : Int) * 256 + l.length) / 8 = (j : Int) * 256 + l.length := jn_val _ _ (by decide) (by decide) (by omega) (by omega)
      have t3 : ((j : Int) * 256 + l.length) % 256 = l.length := by omega
      have t4 : ((j : Int) * 256 + l.length) / 256 = j := by omega
      have hfok : fok s.h (p : Int) = true := by
        unfold fok
        rw [g1, t2, t3, gb_nat hp0]
        have : (p : Int) + l.length = ((p + l.length : Nat) : Int) := by omega
        rw [this, gb_nat hp]
        simp [t1]; omega
      rw [jn_tag _ _ (by decide) (by decide), jn_val _ _ (by decide) (by decide) (by omega) (by omega), if_neg (by decide), if_neg (by decide), if_neg (by decide), if_neg (by decide), if_neg (by decide), if_pos ⟨rfl, hfok⟩, g1, t2, t3, t4, if_pos (by omega)]
      have hsz5 : size (.mk 5 n i re im l) = 1 + sizeL l := by simp [size]
      have hht5 : height (.mk 5 n i re im l) = 1 + heightL l := by simp [height]
      have ho5 : occ (.mk 5 n i re im l) = occL l := by simp [occ]
      rw [hsz5] at hn
      rw [hht5] at hh
      rw [ints] at hi
      have key : ∀ (l : List Tm) (p : Nat) (g : G), (∀ x ∈ l, ∀ (c : Int) (r : Nat) (g : G), Rep O s x c → sound x = true → ints x → height x ≤ r → g.e = 0 → Num g.v → g.n + size x ≤ 2000 → ∃ g', get s.h s.a r c g = (told s (keys g'.v) x, g') ∧ Told s g (size x) (occ x) g') →
          RepL O s l p → (∀ x ∈ l, sound x = true) → (∀ x ∈ l, ints x) → heightL l ≤ r → g.e = 0 → Num g.v → g.n + sizeL l ≤ 2000 →
          ∃ g', getL (get s.h s.a r) s.h l.length p g = (l.map (told s (keys g'.v)), g') ∧ Told s g (sizeL l) (occL l) g' := by
        intro l
        induction l with
        | nil => intro p g _ _ _ _ _ he hg _; exact ⟨g, by simp [getL], by simp [sizeL], he, hg, by simp [occL]⟩
        | cons t l ihl =>
          intro p g hx hrl hss hii hhh he hg hnn
          rw [RepL] at hrl
          simp only [heightL] at hhh
          simp only [sizeL] at hnn
          obtain ⟨g1, e1, k1⟩ := hx t (by simp) _ r g hrl.2.2.1 (hss t (by simp)) (hii t (by simp)) (by omega) he hg (by omega)
          obtain ⟨g2, e2, k2⟩ := ihl (p + 1) g1 (fun x hx' => hx x (by simp [hx'])) hrl.2.2.2 (fun x h => hss x (by simp [h])) (fun x h => hii x (by simp [h])) (by omega) k1.e k1.num (by have := k1.n; omega)
          refine ⟨g2, ?_, ?_, k2.e, k2.num, ?_⟩
          · rw [List.length_cons, getL, if_pos he, e1]
            dsimp only
            rw [e2]
            dsimp only
            obtain ⟨b, hb⟩ := fold_pre ((occL l).map (pl s)) (keys g1.v)
            rw [← k2.keys] at hb
            have : told s (keys g1.v) t = told s (keys g2.v) t := by
              rw [hb, told_more fun i hi => ?_]
              rw [k1.keys]
              exact fold_has (Or.inl (List.mem_map.2 ⟨i, hi, rfl⟩))
            rw [this]; rfl
          · have := k1.n; have := k2.n; simp only [sizeL]; omega
          · rw [k2.keys, k1.keys, occL, List.map_append, List.foldl_append]
      obtain ⟨g', e1, k1⟩ := key l (p + 1) ⟨gn + 1, gv_, 0⟩ ih hl (sound_args hs rfl) (intsL_mem hi.2) (by omega) rfl hg (by show gn + 1 + _ ≤ _; omega)
      have tn : ((p : Int)).toNat + 1 = p + 1 := by omega
      have tl : ((l.length : Int)).toNat = l.length := by omega
      rw [tn, tl, e1]
      refine ⟨g', ?_, ?_, k1.e, k1.num, ?_⟩
      · dsimp only
        unfold told
        simp [sub, comp, subL_map, List.getD, hn2]
      · have h9 : g'.n = gn + 1 + sizeL l := k1.n
        rw [hsz5]; show g'.n = gn + (1 + sizeL l); omega
      · rw [k1.keys, ho5]
end Go.Proofs.Ytibepkljcofpdaa.pm
