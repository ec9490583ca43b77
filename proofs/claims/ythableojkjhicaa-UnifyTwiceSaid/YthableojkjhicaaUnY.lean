/- What was made one is alike: a second time nothing is bound. The mathematics of UnifyTwice. -/
import Derived.Test.YthableojkjhicaaUnX
namespace Go.Proofs.Ythableojkjhicaa.unw
open Go.Proofs.Ythableojkjhicaa.hp Go.Proofs.Ythableojkjhicaa.cel Go.Proofs.Ythableojkjhicaa.kp Go.Proofs.Ythableojkjhicaa.tm Go.Proofs.Ythableojkjhicaa.un
open Go.Proofs.Ythableojkjhicaa.pm hiding nd
set_option linter.unusedVariables false
abbrev D (l : List Int) (c : Int) : Int := dr l l.length c
section
variable {l l' : List Int} {B B' : Nat → Prop} {c v x y : Int}
/-! ### no error of form -/
theorem kids_to (w : WT l B) : ∀ (n q : Nat), (∀ i, i < n → q + i < l.length ∧ ¬ B (q + i)) → ∀ d ∈ kids l (q : Int) n, TO l B d
  | 0, q, _, d, hd => by simp [kids] at hd
  | n + 1, q, h, d, hd => by
    rw [kids] at hd
    rcases List.mem_cons.1 hd with rfl | hd
    · obtain ⟨h1, h2⟩ := h 0 (by omega)
      rw [gvD]; exact w.c q h1 h2
    · rw [show (q : Int) + 1 = ((q + 1 : Nat) : Int) by omega] at hd
      exact kids_to w n (q + 1) (fun i hi => by have := h (i + 1) (by omega); rwa [show q + 1 + i = q + (i + 1) by omega]) d hd
theorem occ_e (g : GH l B) (v : Int) : ∀ (k : Nat) (c : Int) (td : List Int), TO l B c → (∀ d ∈ td, TO l B d) → (occW l v k c td).2.1 = 0 ∨ (occW l v k c td).2.1 = 3 := by
  intro k
  induction k with
  | zero => intro c td _ _; exact Or.inr rfl
  | succ k ih =>
    intro c td hc htd
    rw [occ_succ]
    split
    · exact Or.inl rfl
    obtain ⟨n1, _, _, n5⟩ := nd_at g (dr_to g.w g.hl l.length c hc) (g.ends c hc)
    rw [if_neg (by rw [n1]; simp)]
    have hz : ∀ d ∈ (if (nd l (dr l l.length c)).k = 5 then kids l (nd l (dr l l.length c)).f (nd l (dr l l.length c)).a.toNat ++ td else td), TO l B d := by
      split
      · rename_i h5
        obtain ⟨p, n, e1, e2, e3, e4, e5⟩ := n5 h5
        intro d hd
        rcases List.mem_append.1 hd with hd | hd
        · rw [e1, e2, show (p : Int) + 1 = ((p + 1 : Nat) : Int) by omega, show ((n : Int)).toNat = n by omega] at hd
          exact kids_to g.w n (p + 1) (fun i hi => ⟨by omega, by rw [show p + 1 + i = p + (i + 1) by omega]; exact e5 (i + 1) (by omega) (by omega)⟩) d hd
        · exact htd d hd
      · exact htd
    generalize (if (nd l (dr l l.length c)).k = 5 then kids l (nd l (dr l l.length c)).f (nd l (dr l l.length c)).a.toNat ++ td else td) = z at hz
    cases z with
    | nil => exact Or.inl rfl
    | cons d r => exact ih d r (hz d (by simp)) (fun e he => hz e (by simp [he]))
/-! ### one binding -/
structure BS (l l' : List Int) (B : Nat → Prop) (x y : Int) : Prop where
  gh : GH l' B
  gr : Gr l B l' B
  len : l'.length = l.length
  eq : ∀ a b, TO l B a → TO l B b → D l a = D l b → D l' a = D l' b
  nv : ∀ a, TO l B a → D l a % 8 ≠ 0 → D l' a = D l a
  one : ∀ a b, TO l B a → TO l B b → D l a = x → D l b = y → D l' a = D l' b
theorem BS.symm (h : BS l l' B x y) : BS l l' B y x := ⟨h.gh, h.gr, h.len, h.eq, h.nv, fun a b ha hb e1 e2 => (h.one b a hb ha e2 e1).symm⟩
theorem bs_bind (g : GH l B) (hv : isV l x = true) (tx : TO l B x) (ty : TO l B y) (oy : ¬ on l y) (hne : y ≠ x) : BS l (sx l (x / 8) y) B x y := by
  obtain ⟨g', gr, hd⟩ := g.bound hv tx oy ty hne
  refine ⟨g', gr, sx_len _ _ _, fun a b ha hb e => ?_, fun a ha e => ?_, fun a b ha hb e1 e2 => ?_⟩
  · rw [D, D, hd a ha, hd b hb]; unfold D at e; rw [e]
  · rw [D, hd a ha, if_neg (fun h => e (by unfold D; rw [h]; exact (isV_gb hv).1))]
  · unfold D at e1 e2
    rw [D, D, hd a ha, hd b hb, if_pos e1, e2, if_neg hne]
theorem bl_bs (g : GH l B) (hv : isV l x = true) (tx : TO l B x) (ty : TO l B y) (oy : ¬ on l y) : BS l (bl l x y) B x y := by
  unfold bl bw
  rw [if_pos hv]
  by_cases h : x = y
  · rw [if_pos h]
    subst h
    exact ⟨g, Gr.refl, rfl, fun _ _ _ _ e => e, fun _ _ _ => rfl, fun a b _ _ e1 e2 => by unfold D at e1 e2 ⊢; rw [e1, e2]⟩
  rw [if_neg h]
  by_cases h2 : isV l y = true ∧ x / 8 < y / 8
  · rw [if_pos h2]
    exact (bs_bind g h2.1 ty tx (v_off hv) h).symm
  · rw [if_neg h2]
    exact bs_bind g hv tx ty oy (fun e => h e.symm)
theorem bdY_bs (g : GH l B) (hv : isV l x = true) (tx : TO l B x) (ty : TO l B y) (oy : ¬ on l y) (L : List Wr) (k : Nat) :
    ((bdY l L k x y).is = false ∧ ((bdY l L k x y).e = 0 ∨ (bdY l L k x y).e = 3)) ∨ ((bdY l L k x y).is = true ∧ BS l (bdY l L k x y).l B x y) := by
  have hb := bl_bs g hv tx ty oy
  unfold bdY
  split
  · exact Or.inr ⟨rfl, hb⟩
  split
  · exact Or.inl ⟨rfl, occ_e g x k y [] ty (fun d h => by simp at h)⟩
  · exact Or.inr ⟨rfl, hb⟩
theorem bdW_bs (g : GH l B) (tx : TO l B x) (ty : TO l B y) (ox : ¬ on l x) (oy : ¬ on l y) (hv : isV l x = true ∨ isV l y = true) (L : List Wr) (k : Nat) :
    ((bdW l L k x y).is = false ∧ ((bdW l L k x y).e = 0 ∨ (bdW l L k x y).e = 3)) ∨ ((bdW l L k x y).is = true ∧ BS l (bdW l L k x y).l B x y) := by
  unfold bdW
  split
  · rename_i h; exact bdY_bs g h tx ty oy L k
  · rename_i h
    rcases bdY_bs g (hv.resolve_left h) ty tx ox L k with h1 | ⟨h1, h2⟩
    · exact Or.inl h1
    · exact Or.inr ⟨h1, h2.symm⟩
/-! ### pairs that are alike -/
def it (z : Int × Int) : Int × Int := (z.1 * 8, z.2 * 8)
def PP (l : List Int) (B : Nat → Prop) (td : List (Int × Int)) : Prop := ∀ z ∈ td, ∃ p q : Nat, z = ((p : Int), (q : Int)) ∧ p < l.length ∧ ¬ B p ∧ q < l.length ∧ ¬ B q
/-- alike, but for what is in the arguments -/
def Al (l : List Int) (H : Int × Int → Prop) (x y : Int) : Prop :=
  x = y ∨ (x % 8 ≠ 0 ∧ y % 8 ≠ 0 ∧ (nd l x).k = (nd l y).k ∧ ((nd l x).w0 = (nd l y).w0 ∧ (nd l x).w1 = (nd l y).w1) ∧ ((nd l x).k = 5 → ∀ z ∈ pairs (nd l x).f (nd l y).f (nd l x).a.toNat, H (it z)))
def Gd (l : List Int) (B : Nat → Prop) (V T : List (Int × Int)) : Prop := ∀ z ∈ V, TO l B z.1 ∧ TO l B z.2 ∧ Al l (fun w => w ∈ V ∨ w ∈ T) (D l z.1) (D l z.2)
theorem pairs_pp : ∀ (n p q : Nat), (∀ i, i < n → p + i < l.length ∧ ¬ B (p + i)) → (∀ i, i < n → q + i < l.length ∧ ¬ B (q + i)) → PP l B (pairs (p : Int) (q : Int) n)
  | 0, p, q, _, _, z, hz => by simp [pairs] at hz
  | n + 1, p, q, h1, h2, z, hz => by
    rw [pairs] at hz
    rcases List.mem_cons.1 hz with rfl | hz
    · exact ⟨p, q, rfl, (h1 0 (by omega)).1, (h1 0 (by omega)).2, (h2 0 (by omega)).1, (h2 0 (by omega)).2⟩
    · rw [show (p : Int) + 1 = ((p + 1 : Nat) : Int) by omega, show (q : Int) + 1 = ((q + 1 : Nat) : Int) by omega] at hz
      exact pairs_pp n (p + 1) (q + 1) (fun i hi => by have := h1 (i + 1) (by omega); rwa [show p + 1 + i = p + (i + 1) by omega]) (fun i hi => by have := h2 (i + 1) (by omega); rwa [show q + 1 + i = q + (i + 1) by omega]) z hz
theorem D_place (g : GH l B) {p : Nat} (hp : p < l.length) (hb : ¬ B p) : D l (gv l (p : Int)) = D l ((p : Int) * 8) ∧ TO l B ((p : Int) * 8) ∧ TO l B (gv l (p : Int)) := by
  have h1 : TO l B ((p : Int) * 8) := Or.inl ⟨p, rfl, hp, hb⟩
  have h2 : TO l B (gv l (p : Int)) := by rw [gvD]; exact g.w.c p hp hb
  refine ⟨?_, h1, h2⟩
  have e : ((p : Int) * 8 / 8).toNat = p := by omega
  by_cases ho : on l ((p : Int) * 8)
  · have h3 : dr l (l.length + 1) ((p : Int) * 8) = dr l l.length (gv l (p : Int)) := by rw [dr_on ho, e, gvD]
    rw [D, D, ← h3]
    exact dr_end (g.ends _ h1) (Nat.le_succ _)
  · have h3 : l.getD p 0 = (p : Int) * 8 := Classical.byContradiction fun h => ho ⟨by omega, by omega, by rw [e]; exact h⟩
    rw [gvD, h3]
/-- the pairs of two compounds' arguments -/
theorem nd_pairs (g : GH l B) (tx : TO l B x) (ty : TO l B y) (ox : ¬ on l x) (oy : ¬ on l y) (hk : (nd l x).k = (nd l y).k) (hw : (nd l x).w0 = (nd l y).w0) (h5 : (nd l x).k = 5) :
    PP l B (pairs (nd l x).f (nd l y).f (nd l x).a.toNat) := by
  obtain ⟨_, _, _, f5⟩ := nd_at g tx ox
  obtain ⟨_, _, _, g5⟩ := nd_at g ty oy
  obtain ⟨p, n, e1, e2, e3, e4, e5⟩ := f5 h5
  obtain ⟨q, m, d1, d2, d3, d4, d5⟩ := g5 (hk ▸ h5)
  have ha : (n : Int) = (m : Int) := by rw [← e2, ← d2, nd_ar h5, nd_ar (hk ▸ h5), hw]
  have ha : n = m := by omega
  subst ha
  rw [e1, d1, e2, show ((n : Int)).toNat = n by omega, show (p : Int) + 1 = ((p + 1 : Nat) : Int) by omega, show (q : Int) + 1 = ((q + 1 : Nat) : Int) by omega]
  exact pairs_pp n (p + 1) (q + 1) (fun i hi => ⟨by omega, by rw [show p + 1 + i = p + (i + 1) by omega]; exact e5 _ (by omega) (by omega)⟩) (fun i hi => ⟨by omega, by rw [show q + 1 + i = q + (i + 1) by omega]; exact d5 _ (by omega) (by omega)⟩)
theorem Gd.next {V T T' : List (Int × Int)} {z : Int × Int} (b : BS l l' B x y) (g : GH l B) (h : Gd l B V (z :: T)) (hT : ∀ w ∈ T, w ∈ T') : ∀ w ∈ V, TO l' B w.1 ∧ TO l' B w.2 ∧ Al l' (fun u => u ∈ z :: V ∨ u ∈ T') (D l' w.1) (D l' w.2) := by
  intro w hw
  obtain ⟨h1, h2, h3⟩ := h w hw
  refine ⟨h1.gr b.gr, h2.gr b.gr, ?_⟩
  rcases h3 with h3 | ⟨n1, n2, n3, n4, n5⟩
  · exact Or.inl (b.eq _ _ h1 h2 h3)
  · have e1 := b.nv _ h1 n1
    have e2 := b.nv _ h2 n2
    have m1 := nd_gr b.gh.hl (dr_to g.w g.hl l.length _ h1) n1 b.gr
    have m2 := nd_gr b.gh.hl (dr_to g.w g.hl l.length _ h2) n2 b.gr
    rw [e1, e2]
    unfold Al
    unfold D at n1 n2 n3 n4 n5 ⊢
    rw [m1, m2]
    refine Or.inr ⟨n1, n2, n3, n4, fun h5 u hu => ?_⟩
    rcases n5 h5 u hu with h | h
    · exact Or.inl (List.mem_cons_of_mem _ h)
    · rcases List.mem_cons.1 h with h | h
      · exact Or.inl (by rw [h]; exact List.mem_cons_self)
      · exact Or.inr (hT _ h)
theorem BS.same (g : GH l B) (x : Int) : BS l l B x x := ⟨g, Gr.refl, rfl, fun _ _ _ _ e => e, fun _ _ _ => rfl, fun a b _ _ e1 e2 => by unfold D at e1 e2 ⊢; rw [e1, e2]⟩
theorem sim_run : ∀ (f k : Nat) (l : List Int) (L : List Wr) (a b : Int) (td V : List (Int × Int)) (a0 b0 : Int), GH l B → TO l B a → TO l B b → TO l B a0 → TO l B b0 → D l a = D l a0 → D l b = D l b0 → PP l B td → Gd l B V ((a0, b0) :: td.map it) →
    ((uniW f k l L a b td).is = false ∧ ((uniW f k l L a b td).e = 0 ∨ (uniW f k l L a b td).e = 3)) ∨
    ((uniW f k l L a b td).is = true ∧ (uniW f k l L a b td).e = 0 ∧ ∃ V', Gd (uniW f k l L a b td).l B V' [] ∧ GH (uniW f k l L a b td).l B ∧ Gr l B (uniW f k l L a b td).l B ∧ (∀ z ∈ V, z ∈ V') ∧ (a0, b0) ∈ V') := by
  intro f
  induction f with
  | zero => intro k l L a b td V a0 b0 _ _ _ _ _ _ _ _ _; rw [uniW]; exact Or.inl ⟨rfl, Or.inr rfl⟩
  | succ f ih =>
    intro k l L a b td V a0 b0 g ta tb ta0 tb0 ea eb pp gd
    cases k with
    | zero => rw [uniW]; exact Or.inl ⟨rfl, Or.inr rfl⟩
    | succ k =>
      rw [uni_step]
      have tx := dr_to g.w g.hl l.length a ta
      have ty := dr_to g.w g.hl l.length b tb
      have ox := g.ends a ta
      have oy := g.ends b tb
      obtain ⟨x, hx⟩ : ∃ x, x = dr l l.length a := ⟨_, rfl⟩
      obtain ⟨y, hy⟩ : ∃ y, y = dr l l.length b := ⟨_, rfl⟩
      have ea' : D l a0 = x := by rw [← ea, hx]
      have eb' : D l b0 = y := by rw [← eb, hy]
      rw [← hx] at tx ox ⊢
      rw [← hy] at ty oy ⊢
      obtain ⟨x1, x2, x3, _⟩ := nd_at g tx ox
      obtain ⟨y1, y2, y3, _⟩ := nd_at g ty oy
      -- what goes on
      have go : ∀ (l' : List Int) (L' : List Wr) (k' : Nat) (td' : List (Int × Int)) (x' y' : Int), BS l l' B x' y' → (∀ z ∈ td, z ∈ td') → PP l' B td' → Al l' (fun u => u ∈ (a0, b0) :: V ∨ u ∈ td'.map it) (D l' a0) (D l' b0) →
          ((contU f k' l' L' td').is = false ∧ ((contU f k' l' L' td').e = 0 ∨ (contU f k' l' L' td').e = 3)) ∨
          ((contU f k' l' L' td').is = true ∧ (contU f k' l' L' td').e = 0 ∧ ∃ V', Gd (contU f k' l' L' td').l B V' [] ∧ GH (contU f k' l' L' td').l B ∧ Gr l B (contU f k' l' L' td').l B ∧ (∀ z ∈ V, z ∈ V') ∧ (a0, b0) ∈ V') := by
        intro l' L' k' td' x' y' bs hsub pp' hal
        have gd' : Gd l' B ((a0, b0) :: V) (td'.map it) := by
          intro w hw
          rcases List.mem_cons.1 hw with rfl | hw
          · exact ⟨ta0.gr bs.gr, tb0.gr bs.gr, hal⟩
          · exact Gd.next bs g gd (fun w hw => by
              obtain ⟨z, hz, rfl⟩ := List.mem_map.1 hw
              exact List.mem_map.2 ⟨z, hsub z hz, rfl⟩) w hw
        cases td' with
        | nil => exact Or.inr ⟨rfl, rfl, _, gd', bs.gh, bs.gr, fun z hz => List.mem_cons_of_mem _ hz, List.mem_cons_self⟩
        | cons z r =>
          obtain ⟨p, q, rfl, p1, p2, q1, q2⟩ := pp' z (by simp)
          obtain ⟨d1, d2, d3⟩ := D_place bs.gh p1 p2
          obtain ⟨d4, d5, d6⟩ := D_place bs.gh q1 q2
          rcases ih k' l' L' (gv l' p) (gv l' q) r ((a0, b0) :: V) ((p : Int) * 8) ((q : Int) * 8) bs.gh d3 d6 d2 d5 d1 d4 (fun z hz => pp' z (by simp [hz])) gd' with h | ⟨h1, h2, V', h3, h4, h5, h6, h7⟩
          · exact Or.inl h
          · exact Or.inr ⟨h1, h2, V', h3, h4, bs.gr.trans h5, fun z hz => h6 z (List.mem_cons_of_mem _ hz), h6 _ List.mem_cons_self⟩
      unfold stepU
      rw [if_neg (by rw [x1, y1]; simp)]
      by_cases hv : (nd l x).k = 1 ∨ (nd l y).k = 1
      · rw [if_pos hv]
        have hv' : isV l x = true ∨ isV l y = true := hv.imp x2.1 y2.1
        rcases bdW_bs g tx ty ox oy hv' L k with ⟨h1, h2⟩ | ⟨h1, h2⟩
        · rw [if_neg (by rw [h1]; decide)]
          exact Or.inl ⟨rfl, h2⟩
        · rw [if_pos h1]
          exact go _ _ _ td x y h2 (fun z h => h) (fun z hz => by
            obtain ⟨p, q, e1, e2, e3, e4, e5⟩ := pp z hz
            exact ⟨p, q, e1, by rw [h2.len]; exact e2, e3, by rw [h2.len]; exact e4, e5⟩) (Or.inl (h2.one a0 b0 ta0 tb0 ea' eb'))
      · rw [if_neg hv]
        by_cases hh : ¬ (nd l x).k = (nd l y).k ∨ ¬ ((nd l x).w0 = (nd l y).w0 ∧ (nd l x).w1 = (nd l y).w1)
        · rw [if_pos hh]; exact Or.inl ⟨rfl, Or.inl rfl⟩
        · rw [if_neg hh]
          have hk : (nd l x).k = (nd l y).k := Classical.byContradiction fun h => hh (Or.inl h)
          have hw : (nd l x).w0 = (nd l y).w0 ∧ (nd l x).w1 = (nd l y).w1 := Classical.byContradiction fun h => hh (Or.inr h)
          have n1 : x % 8 ≠ 0 := fun h => hv (Or.inl (x3.2 h))
          have n2 : y % 8 ≠ 0 := fun h => hv (Or.inr (y3.2 h))
          refine go l L k _ x x (BS.same g x) ?_ ?_ ?_
          · intro z hz
            split
            · exact List.mem_append_right _ hz
            · exact hz
          · split
            · rename_i h5
              intro z hz
              rcases List.mem_append.1 hz with hz | hz
              · exact nd_pairs g tx ty ox oy hk hw.1 h5 z hz
              · exact pp z hz
            · exact pp
          · rw [ea', eb']
            refine Or.inr ⟨n1, n2, hk, hw, fun h5 z hz => Or.inr ?_⟩
            rw [if_pos h5]
            exact List.mem_map.2 ⟨z, List.mem_append_left _ hz, rfl⟩
/-- pairs that are alike are made one, and nothing is bound -/
theorem sim_again (g : GH l B) {V : List (Int × Int)} (gd : Gd l B V []) : ∀ (f k : Nat) (L : List Wr) (a b : Int) (td : List (Int × Int)) (a0 b0 : Int), TO l B a → TO l B b → TO l B a0 → TO l B b0 → D l a = D l a0 → D l b = D l b0 → PP l B td →
    ((a0, b0) ∈ V ∨ a0 = b0) → (∀ z ∈ td, it z ∈ V ∨ (it z).1 = (it z).2) →
    ((uniW f k l L a b td).is = false ∧ (uniW f k l L a b td).e = 3) ∨ ((uniW f k l L a b td).is = true ∧ (uniW f k l L a b td).e = 0 ∧ (uniW f k l L a b td).l = l ∧ (uniW f k l L a b td).L = L) := by
  intro f
  induction f with
  | zero => intro k L a b td a0 b0 _ _ _ _ _ _ _ _ _; rw [uniW]; exact Or.inl ⟨rfl, rfl⟩
  | succ f ih =>
    intro k L a b td a0 b0 ta tb ta0 tb0 ea eb pp h0 htd
    cases k with
    | zero => rw [uniW]; exact Or.inl ⟨rfl, rfl⟩
    | succ k =>
      rw [uni_step]
      have tx := dr_to g.w g.hl l.length a ta
      have ty := dr_to g.w g.hl l.length b tb
      have ox := g.ends a ta
      have oy := g.ends b tb
      obtain ⟨x, hx⟩ : ∃ x, x = dr l l.length a := ⟨_, rfl⟩
      obtain ⟨y, hy⟩ : ∃ y, y = dr l l.length b := ⟨_, rfl⟩
      have ea' : D l a0 = x := by rw [← ea, hx]
      have eb' : D l b0 = y := by rw [← eb, hy]
      rw [← hx] at tx ox ⊢
      rw [← hy] at ty oy ⊢
      obtain ⟨x1, x2, x3, _⟩ := nd_at g tx ox
      obtain ⟨y1, y2, y3, _⟩ := nd_at g ty oy
      have hal : Al l (fun u => u ∈ V ∨ u.1 = u.2) x y := by
        rcases h0 with h | h
        · have h3 := (gd _ h).2.2
          dsimp only at h3
          rw [ea', eb'] at h3
          rcases h3 with h3 | ⟨n1, n2, n3, n4, n5⟩
          · exact Or.inl h3
          · exact Or.inr ⟨n1, n2, n3, n4, fun h5 z hz => Or.inl ((n5 h5 z hz).resolve_right (by simp))⟩
        · left; rw [← ea', ← eb', h]
      have go : ∀ (k' : Nat) (td' : List (Int × Int)), PP l B td' → (∀ z ∈ td', it z ∈ V ∨ (it z).1 = (it z).2) →
          ((contU f k' l L td').is = false ∧ (contU f k' l L td').e = 3) ∨ ((contU f k' l L td').is = true ∧ (contU f k' l L td').e = 0 ∧ (contU f k' l L td').l = l ∧ (contU f k' l L td').L = L) := by
        intro k' td' pp' ht'
        cases td' with
        | nil => exact Or.inr ⟨rfl, rfl, rfl, rfl⟩
        | cons z r =>
          obtain ⟨p, q, rfl, p1, p2, q1, q2⟩ := pp' z (by simp)
          obtain ⟨d1, d2, d3⟩ := D_place g p1 p2
          obtain ⟨d4, d5, d6⟩ := D_place g q1 q2
          exact ih k' L (gv l p) (gv l q) r ((p : Int) * 8) ((q : Int) * 8) d3 d6 d2 d5 d1 d4 (fun z hz => pp' z (by simp [hz])) (ht' _ List.mem_cons_self) (fun z hz => ht' z (by simp [hz]))
      unfold stepU
      rw [if_neg (by rw [x1, y1]; simp)]
      by_cases hv : (nd l x).k = 1 ∨ (nd l y).k = 1
      · rw [if_pos hv]
        have hxy : x = y := by
          rcases hal with h | ⟨n1, n2, _⟩
          · exact h
          · rcases hv with h | h
            · exact absurd (x3.1 h) n1
            · exact absurd (y3.1 h) n2
        subst hxy
        have hV : isV l x = true := x2.1 (hv.elim id id)
        have hB : bdW l L k x x = ⟨true, 0, l, L, k⟩ := by
          unfold bdW bdY bl bL bw
          rw [if_pos hV, if_pos hV, if_pos hV, if_pos rfl]
        rw [hB, if_pos rfl]
        exact go k td pp htd
      · rw [if_neg hv]
        have n1 : x % 8 ≠ 0 := fun h => hv (Or.inl (x3.2 h))
        have n2 : y % 8 ≠ 0 := fun h => hv (Or.inr (y3.2 h))
        have hk : (nd l x).k = (nd l y).k ∧ ((nd l x).w0 = (nd l y).w0 ∧ (nd l x).w1 = (nd l y).w1) ∧ ((nd l x).k = 5 → ∀ z ∈ pairs (nd l x).f (nd l y).f (nd l x).a.toNat, it z ∈ V ∨ (it z).1 = (it z).2) := by
          rcases hal with h | ⟨_, _, h1, h2, h3⟩
          · subst h
            refine ⟨rfl, ⟨rfl, rfl⟩, fun h5 z hz => Or.inr ?_⟩
            have hp : ∀ (n : Nat) (p : Int), ∀ z ∈ pairs p p n, z.1 = z.2 := by
              intro n
              induction n with
              | zero => intro p z hz; simp [pairs] at hz
              | succ n ihn =>
                intro p z hz
                rw [pairs] at hz
                rcases List.mem_cons.1 hz with rfl | hz
                · rfl
                · exact ihn _ z hz
            unfold it; dsimp only; rw [hp _ _ z hz]
          · exact ⟨h1, h2, h3⟩
        rw [if_neg (by rintro (h | h); exact h hk.1; exact h hk.2.1)]
        refine go k _ ?_ ?_
        · split
          · rename_i h5
            intro z hz
            rcases List.mem_append.1 hz with hz | hz
            · exact nd_pairs g tx ty ox oy hk.1 hk.2.1.1 h5 z hz
            · exact pp z hz
          · exact pp
        · split
          · rename_i h5
            intro z hz
            rcases List.mem_append.1 hz with hz | hz
            · exact hk.2.2 h5 z hz
            · exact htd z hz
          · exact htd
end
/-! ### a laid term with itself -/
theorem pairs_cat (l : List Int) (L : List Wr) (q n : Nat) (td : List (Int × Int)) (f k : Nat) : contU f k l L (pairs (q : Int) (q : Int) (n + 1) ++ td) = uniW f k l L (l.getD q 0) (l.getD q 0) (pairs ((q + 1 : Nat) : Int) ((q + 1 : Nat) : Int) n ++ td) := by
  rw [pairs, List.cons_append, contU, gvD]; rfl
theorem uni_self {s : S} (hv : Vs NN s) (hl : s.h.length ≤ 1048576) (L : List Wr) (T : Tm) : ∀ (c : Int) (f k : Nat) (td : List (Int × Int)), Rep NN s T c → sound T = true → tm.size T ≤ k → tm.size T ≤ f →
    uniW f k s.h L c c td = contU (f - tm.size T) (k - tm.size T) s.h L td := by
  induction T using Tm.ind with
  | h k n j re im l ih =>
    intro c f kk td hr hs hk hf
    have hdr := rep_dr hv hr s.h.length
    have h1 : 1 ≤ tm.size (.mk k n j re im l) := tm.size_pos _
    obtain ⟨f, rfl⟩ : ∃ f', f = f' + 1 := ⟨f - 1, by omega⟩
    obtain ⟨kk, rfl⟩ : ∃ f', kk = f' + 1 := ⟨kk - 1, by omega⟩
    rw [uni_step, hdr]
    by_cases k1 : k = 1
    · subst k1
      have hz : tm.size (.mk 1 n j re im l) = 1 := by simp [tm.size]
      rw [hz]
      rw [Rep, if_neg (by decide), if_neg (by decide), if_neg (by decide), if_pos rfl] at hr
      obtain ⟨hV, p, hcp, _⟩ := var_isV hv hr
      have hnd : nd s.h c = ⟨1, 0, 0, 0, 0, true⟩ := by unfold nd; rw [if_pos (by omega), hV]
      have hB : bdW s.h L kk c c = ⟨true, 0, s.h, L, kk⟩ := by
        unfold bdW bdY bl bL bw
        rw [if_pos hV, if_pos hV, if_pos hV, if_pos rfl]
      unfold stepU
      rw [hnd, if_neg (by simp), if_pos (by simp), hB, if_pos rfl]
      rfl
    · obtain ⟨hc8, hok, hkk, _⟩ := rep_hd hr hs k1 hl
      unfold stepU
      rw [if_neg (by rw [hok]; simp), if_neg (by rw [hkk]; rintro (h | h) <;> exact k1 h), if_neg (by simp)]
      by_cases k5 : k = 5
      · subst k5
        have hz : tm.size (.mk 5 n j re im l) = 1 + sizeL l := by simp [tm.size]
        rw [hz] at hk hf ⊢
        rw [Rep, if_neg (by decide), if_neg (by decide), if_neg (by decide), if_neg (by decide)] at hr
        obtain ⟨p, jj, rfl, _, hp, hjj, hfc, _, hL⟩ := hr
        rw [nd_5 hs hl hp hjj hfc, if_pos rfl]
        dsimp only
        rw [show ((p : Int) + 1) = ((p + 1 : Nat) : Int) by omega, show ((l.length : Int)).toNat = l.length by omega]
        have key : ∀ (l : List Tm), (∀ x ∈ l, ∀ (c : Int) (f k : Nat) (td : List (Int × Int)), Rep NN s x c → sound x = true → tm.size x ≤ k → tm.size x ≤ f → uniW f k s.h L c c td = contU (f - tm.size x) (k - tm.size x) s.h L td) →
            (∀ x ∈ l, sound x = true) → ∀ (q f k : Nat) (td : List (Int × Int)), RepL NN s l q → sizeL l ≤ k → sizeL l ≤ f → contU f k s.h L (pairs (q : Int) (q : Int) l.length ++ td) = contU (f - sizeL l) (k - sizeL l) s.h L td := by
          intro l
          induction l with
          | nil => intro _ _ q f k td _ _ _; simp [pairs, sizeL]
          | cons t r ihr =>
            intro hx hss q f k td hq hk hf
            rw [RepL] at hq
            simp only [sizeL] at hk hf
            rw [List.length_cons, pairs_cat, hx t (by simp) (s.h.getD q 0) f k _ hq.2.2.1 (hss t (by simp)) (by omega) (by omega)]
            rw [ihr (fun x hx' => hx x (by simp [hx'])) (fun x hx' => hss x (by simp [hx'])) (q + 1) _ _ td hq.2.2.2 (by omega) (by omega)]
            rw [sizeL, Nat.sub_sub, Nat.sub_sub]
        have := key l ih (sound_args hs rfl) (p + 1) f kk td hL (by omega) (by omega)
        rw [show f + 1 - (1 + sizeL l) = f - sizeL l by omega, show kk + 1 - (1 + sizeL l) = kk - sizeL l by omega]
        exact this
      · have hz : tm.size (.mk k n j re im l) = 1 := by simp [tm.size, k5]
        rw [hz, hkk, if_neg k5]
        rfl
theorem ST.none : ST ⟨[], Go.Proofs.Ythableojkjhicaa.atm.l0, []⟩ (fun _ => False) := ⟨⟨fun q h => h.elim, fun q hq => by simp at hq⟩, fun x hx => by simp at hx, fun q hq => by simp at hq, by decide⟩
/-- what was laid is a heap of good cells -/
theorem laid_gh {A B : Tm} (ga : good A = true) (gb : good B = true) {x y : Int} {s1 s : S} (p1 : rpt.putT 20000 A ⟨[], Go.Proofs.Ythableojkjhicaa.atm.l0, []⟩ = (x, 0, s1)) (p2 : rpt.putT 20000 B s1 = (y, 0, s)) (hl : s.h.length ≤ 20000) : ∃ C, GH s.h C ∧ TO s.h C x ∧ TO s.h C y := by
  have h1 : may A = 0 := (may_iff A).2 ga
  have h2 : may B = 0 := (may_iff B).2 gb
  unfold rpt.putT at p1 p2
  rw [if_pos h1] at p1
  rw [if_pos h2] at p2
  obtain ⟨B1, R1⟩ := put_wt 20000 A (-1) _ _ ST.none (good_sound ga) (Or.inl (by decide)) x s1 p1
  obtain ⟨B2, R2⟩ := put_wt 20000 B (-1) s1 B1 R1.st (good_sound gb) (Or.inl (by decide)) y s p2
  exact ⟨B2, GH.laid R2.st (by omega), R1.tt.gr R2.gr, R2.tt⟩
theorem self_all {T : Tm} {s : S} {c : Int} (lT : Laid s T c) (hs : sound T = true) (hz : tm.size T ≤ 1000) (hl : s.h.length ≤ 20000) (L : List Wr) : (uniT s.h L c c).is = true ∧ (uniT s.h L c c).e = 0 ∧ uL (uniT s.h L c c) s.h = s.h ∧ uT (uniT s.h L c c) L = L := by
  unfold uniT
  rw [uni_self lT.vs (by omega) L T c 100001 100000 [] lT.rep hs (by omega) (by omega)]
  exact ⟨rfl, rfl, rfl, rfl⟩
theorem twice_all {l : List Int} {C : Nat → Prop} {x y : Int} (g : GH l C) (tx : TO l C x) (ty : TO l C y) :
    ((uniT l [] x y).is = false ∧ ((uniT l [] x y).e = 0 ∨ (uniT l [] x y).e = 3)) ∨
    ((uniT l [] x y).is = true ∧ (uniT l [] x y).e = 0 ∧ ∀ L', (((uniT (uniT l [] x y).l L' x y).is = false ∧ (uniT (uniT l [] x y).l L' x y).e = 3) ∨ ((uniT (uniT l [] x y).l L' x y).is = true ∧ (uniT (uniT l [] x y).l L' x y).e = 0 ∧ (uniT (uniT l [] x y).l L' x y).L = L'))) := by
  rcases sim_run 100001 100000 l [] x y [] [] x y g tx ty tx ty rfl rfl (fun z hz => by simp at hz) (fun z hz => by simp at hz) with h | ⟨h1, h2, V, h3, h4, h5, _, h7⟩
  · exact Or.inl h
  · refine Or.inr ⟨h1, h2, fun L' => ?_⟩
    rcases sim_again h4 h3 100001 100000 L' x y [] x y (tx.gr h5) (ty.gr h5) (tx.gr h5) (ty.gr h5) rfl rfl (fun z hz => by simp at hz) (Or.inl h7) (fun z hz => by simp at hz) with h | ⟨k1, k2, k3, k4⟩
    · exact Or.inl h
    · exact Or.inr ⟨k1, k2, k4⟩
theorem twice_len (l : List Int) (x y : Int) : (uniT l [] x y).L.length ≤ 100000 := by
  have := uni_len 100001 100000 l [] x y []
  simpa [uniT] using this
end Go.Proofs.Ythableojkjhicaa.unw
