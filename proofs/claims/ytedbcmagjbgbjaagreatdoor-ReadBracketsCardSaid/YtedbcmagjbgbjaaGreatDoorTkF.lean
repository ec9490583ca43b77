/- The project's All: any text's tokens. -/
import Derived.Test.YtedbcmagjbgbjaaGreatDoorTkE
namespace Go.Proofs.YtedbcmagjbgbjaaGreatDoor.tk
open Go.ChangeShapes Go.WideShapes Go.ChangeAt Go.RowKit Go.Maps
open Go.Proofs.YtedbcmagjbgbjaaGreatDoor.kp Go.Proofs.YtedbcmagjbgbjaaGreatDoor.num Go.Proofs.YtedbcmagjbgbjaaGreatDoor.dec
set_option linter.unusedVariables false
def tkc (x : Tk) : List Value := [.int .i64 x.k, .string ⟨x.t.toArray⟩, .int .i64 x.n, .int .u64 (x.re : Int), .int .u64 (x.im : Int), .int .i64 (x.a : Int)]
def cellsT (ts : List Tk) : List Value := ts.flatMap tkc
theorem cellsT_len (ts : List Tk) : (cellsT ts).length = ts.length * 6 := by
  induction ts with
  | nil => rfl
  | cons x r ih => simp only [cellsT, List.flatMap_cons, List.length_append, tkc, List.length_cons, List.length_nil] at *; omega
theorem cellsT_snoc (ts : List Tk) (x : Tk) : cellsT (ts ++ [x]) = cellsT ts ++ tkc x := by simp [cellsT]
/-- the slice v holds the tokens ts, in blocks from B on -/
def Toks (B : Nat) (w : World) (v : Value) (ts : List Tk) : Prop := w.ownsRow B 76 6 v ts.length (cellsT ts)
theorem Toks.nil (B : Nat) (w : World) : Toks B w (.slice none 0 0) [] := World.ownsRow_nil _ _ _ _
theorem Toks.shape {B : Nat} {w : World} {v : Value} {ts : List Tk} (h : Toks B w v ts) : ∃ a c, v = .slice a ts.length c := kp.shape h
theorem Toks.keep {B : Nat} {w w' : World} {v : Value} {ts : List Tk} {F : Nat → Prop} (h : Toks B w v ts) (k : Keep F w w') (hF : ∀ i, F i → i < B) : Toks B w' v ts :=
  ow_keep h fun i e => k.block i (h.lt i e).2 fun hf => by have := hF i hf; have := (h.lt i e).1; omega
theorem Toks.below {B : Nat} {w w' : World} {v : Value} {ts : List Tk} (h : Toks B w v ts) (b : Below w.heap.size w w') : Toks B w' v ts :=
  ow_keep h fun i e => b.block i (h.lt i e).2
theorem Toks.mono {B B' : Nat} {w : World} {v : Value} {ts : List Tk} (h : Toks B w v ts) (hb : B' ≤ B) : Toks B' w v ts := by
  obtain ⟨hl, hr⟩ := h
  refine ⟨hl, ?_⟩
  rcases hr with hr | ⟨g, cap, cur, rfl, hg0, r⟩
  · exact Or.inl hr
  · exact Or.inr ⟨g, cap, cur, rfl, Nat.le_trans hb hg0, r⟩
theorem infoT : (Tryz.prog.info? 76).map (fun i => (i.zero, i.size, i.bytes)) = some (some (.agg #[.int .i64 0, .string ⟨#[]⟩, .int .i64 0, .int .u64 0, .int .u64 0, .int .i64 0]), 6, 56) := by kernel_rfl
theorem news6 (w : World) (x0 x1 x2 x3 x4 x5 : Value) (t : TypeId) : ∀ j u, [x0, x1, x2, x3, x4, x5][j]? = some u → (w.alloc (.cells #[x0, x1, x2, x3, x4, x5] t)).cell? ((⟨w.heap.size, 0, none⟩ : Addr).add j) = some u := by
  intro j u hj
  have h := kp.alloc_at w (.cells #[x0, x1, x2, x3, x4, x5] t)
  have e : (⟨w.heap.size, 0, none⟩ : Addr).add j = ⟨w.heap.size, j, none⟩ := by simp [Addr.add]; omega
  rw [e]
  simp only [World.cell?, h]
  simpa using hj
/-! ### one step -/
theorem txt_kind {k : Int} {q rest : List UInt8} {k' : Int} {t : List UInt8} {n : Int} {re im : Nat} {r : List UInt8} (h : txt k q rest = .ok k' t n re im r) : k' = k := by
  unfold txt at h; split at h
  · cases h; rfl
  · cases h
theorem txt_er {k : Int} {q rest : List UInt8} {e : Int} (h : txt k q rest = .er e) : e = 3 := by
  unfold txt at h; split at h
  · cases h
  · cases h; rfl
theorem tok_kind {la : Int × List UInt8} {c : UInt8} {r : List UInt8} {k : Int} {t : List UInt8} {n : Int} {re im : Nat} {rest : List UInt8} (h : tok la c r = .ok k t n re im rest) : 1 ≤ k ∧ k ≤ 8 := by
  unfold tok at h
  split at h
  · have := txt_kind h; omega
  · split at h
    · have := txt_kind h; omega
    · split at h
      · unfold nmb at h
        repeat' split at h
        all_goals first | (cases h; decide) | cases h
      · split at h
        · split at h
          · cases h; decide
          · have := txt_kind h; omega
        · split at h
          · have := txt_kind h; omega
          · split at h
            · split at h
              · cases h; decide
              · have := txt_kind h; omega
            · split at h
              · split at h
                · cases h
                · have := txt_kind h; omega
              · cases h
theorem tok_er {la : Int × List UInt8} {c : UInt8} {r : List UInt8} {e : Int} (h : tok la c r = .er e) : e ≠ 0 := by
  unfold tok at h
  split at h
  · have := txt_er h; omega
  · split at h
    · have := txt_er h; omega
    · split at h
      · unfold nmb at h
        repeat' split at h
        all_goals first | cases h | skip
        assumption
      · split at h
        · split at h
          · cases h
          · have := txt_er h; omega
        · split at h
          · have := txt_er h; omega
          · split at h
            · split at h
              · cases h
              · have := txt_er h; omega
            · split at h
              · split at h
                · cases h; decide
                · have := txt_er h; omega
              · cases h; decide
/-- what is told ahead of what is still to come -/
def comb (ts0 : List Tk) (R : List Tk × Nat × Int) : List Tk × Nat × Int := if R.2.2 = 0 then (ts0 ++ R.1, R.2.1, 0) else ([], R.2.1, R.2.2)
theorem la_eq {N : Nat} {l s : List UInt8} (hl : l.length ≤ N) (hs : s.length ≤ l.length) (k : Int) (t : List UInt8) :
    LA ((N - l.length : Nat) : Int) ((N - s.length : Nat) : Int) k t = (if s.length = l.length then (k, t) else (0, [])) := by
  unfold LA
  by_cases h : s.length = l.length
  · rw [if_pos h, if_pos (by omega)]
  · rw [if_neg h, if_neg (by omega)]
theorem lex_bad {N : Nat} : ∀ f la l ts p e, lex N f la l = (ts, p, e) → e ≠ 0 → ts = [] := by
  intro f
  induction f with
  | zero => intro la l ts p e h he; simp only [lex] at h; cases h; rfl
  | succ f ih =>
    intro la l ts p e h he
    simp only [lex] at h
    split at h
    · cases h; rfl
    · cases h; rfl
    · split at h
      · injection h with h1 h2; exact h1.symm
      · split at h
        · injection h with h1 h2; injection h2 with h2 h3; exact absurd h3.symm he
        · injection h with h1 h2; exact h1.symm
theorem lex_er {N : Nat} {l : List UInt8} {k : Int} {t : List UInt8} {x : Bool × List UInt8} {e : Int} (hl : l.length ≤ N) (hx : sk .bt l l = x) (hT : nxT ((N - l.length : Nat) : Int) N k t x = .er e) (f : Nat) :
    lex N (f + 1) (k, t) l = ([], N - x.2.length, e) ∧ e ≠ 0 := by
  obtain ⟨x1, x2⟩ := x
  cases x1 with
  | false =>
    simp only [nxT] at hT; cases hT
    simp only [lex, hx]; exact ⟨trivial, by decide⟩
  | true =>
    cases x2 with
    | nil => simp only [nxT] at hT; cases hT
    | cons c r =>
      simp only [nxT] at hT
      have hs := (sk_ok hx).length_le
      rw [la_eq hl hs] at hT
      have he := tok_er hT
      simp only [lex, hx, hT]
      exact ⟨trivial, he⟩
theorem lex_nil {N : Nat} {l : List UInt8} {k : Int} {t : List UInt8} {x : Bool × List UInt8} {t' : List UInt8} {n : Int} {re im : Nat} {rest : List UInt8} (hx : sk .bt l l = x) (en : Int) (hT : nxT en N k t x = .ok 0 t' n re im rest) (f : Nat) :
    lex N (f + 1) (k, t) l = ([], 0, 0) := by
  obtain ⟨x1, x2⟩ := x
  cases x1 with
  | false => simp only [nxT] at hT; cases hT
  | true =>
    cases x2 with
    | nil => simp only [lex, hx]
    | cons c r => simp only [nxT] at hT; have := tok_kind hT; omega
theorem lex_ok {N : Nat} {l : List UInt8} {k : Int} {t : List UInt8} {x : Bool × List UInt8} {k' : Int} {t' : List UInt8} {n : Int} {re im : Nat} {rest : List UInt8} (hl : l.length ≤ N) (hx : sk .bt l l = x)
    (hT : nxT ((N - l.length : Nat) : Int) N k t x = .ok k' t' n re im rest) (hk : k' ≠ 0) (ts0 : List Tk) :
    rest.length < l.length ∧ rest <:+ l ∧ comb ts0 (lex N (l.length + 1) (k, t) l) = comb (ts0 ++ [⟨k', t', n, re, im, N - x.2.length⟩]) (lex N (rest.length + 1) (k', t') rest) := by
  obtain ⟨x1, x2⟩ := x
  cases x1 with
  | false => simp only [nxT] at hT; cases hT
  | true =>
    cases x2 with
    | nil => simp only [nxT] at hT; cases hT; exact absurd rfl hk
    | cons c r =>
      simp only [nxT] at hT
      have hsx := sk_ok hx
      have hs := hsx.length_le
      rw [la_eq hl hs] at hT
      have hr := tok_suf hT
      have hr2 := hr.length_le
      have hlen : rest.length < l.length := by simp only [List.length_cons] at hs; omega
      refine ⟨hlen, hr.trans ((List.suffix_cons _ _).trans hsx), ?_⟩
      rw [show lex N (l.length + 1) (k, t) l = (match lex N l.length (k', t') rest with
        | (ts, p, e) => if e = 0 then (⟨k', t', n, re, im, N - (c :: r).length⟩ :: ts, 0, 0) else ([], p, e)) by simp only [lex, hx, hT]]
      rw [lex_fuel N rest.length rest (Nat.le_refl _) l.length (rest.length + 1) (k', t') hlen (by omega)]
      generalize hL : lex N (rest.length + 1) (k', t') rest = L
      obtain ⟨ts, p, e⟩ := L
      by_cases he : e = 0
      · subst he
        have hp : p = 0 := by
          have key : ∀ f la l ts p, lex N f la l = (ts, p, 0) → p = 0 := by
            intro f
            induction f with
            | zero => intro la l ts p h; simp only [lex] at h; cases h; rfl
            | succ f ih =>
              intro la l ts p h
              simp only [lex] at h
              split at h
              · cases h
              · cases h; rfl
              · split at h
                · rename_i e ht; injection h with h1 h2; injection h2 with h2 h3; exact absurd h3 (tok_er ht)
                · split at h
                  · injection h with h1 h2; injection h2 with h2 h3; exact h2.symm
                  · rename_i hne; injection h with h1 h2; injection h2 with h2 h3; exact absurd h3 hne
          exact key _ _ _ _ _ hL
        subst hp
        simp [comb]
      · simp [comb, he]
section
variable {w w' w0 w1 w2 : World} {p : Nat} {S l b : List UInt8} {k : Int} {t : List UInt8} {n re im a en : Int} {o o' : Obj} {v v' : Value} {ts : List Tk}
/-- the machine and the tokens so far -/
def LS (p : Nat) (w0 : World) (o : Obj) (v : Value) (ts : List Tk) (wr : World) : Prop := wr.heap[p]? = some o ∧ Toks (p + 1) wr v ts ∧ Keep (fun k => k = p) w0 wr
theorem LS.turn (h : LS p w0 o v ts w) (N : Nw p o' w w') : LS p w0 o' v ts w' :=
  ⟨N.1, h.2.1.keep N.2 (fun i hi => by omega), h.2.2.trans N.2 fun _ => Or.inl⟩
theorem LS.below (h : LS p w0 o v ts w) (b : Below w.heap.size w w') : LS p w0 o v ts w' := h.turn (Nw.below h.1 b)
/-- a new block of its own turns -/
theorem LS.set (h : LS p w0 o v ts w) {tb : Nat} (hb : tb ≠ p) (hv : v.ownBlock ≠ some tb) (hz : w0.heap.size ≤ tb) (j : Nat) (u : Value) : LS p w0 o v ts (w.setCell ⟨tb, j, none⟩ u) := by
  have k : Keep (fun k => k = tb) w (w.setCell ⟨tb, j, none⟩ u) := Keep.setCell (F := fun k => k = tb) w rfl u
  refine ⟨(k.block p (Nw.lt h.1) (fun e => hb e.symm)).trans h.1, ow_keep h.2.1 fun i e => k.block i (h.2.1.lt i e).2 (fun e2 => hv (e2 ▸ e)), h.2.2.trans k fun i hi => Or.inr (by omega)⟩
theorem LS.push (h : LS p w0 o v ts w) (hp : p < w0.heap.size) (hz : w0.heap.size ≤ p + 1) (x : Tk) (hr : w2.ownsRow (p + 1) 76 6 v' (ts.length + 1) (cellsT ts ++ tkc x)) (g2 : (w.alloc (.cells (tkc x).toArray 76)).grownBy w2 v.ownBlock) : LS p w0 o v' (ts ++ [x]) w2 := by
  obtain ⟨a1, ow, a5⟩ := h
  have K : Keep (fun k => p + 1 ≤ k) w w2 := (Keep.of_below (kp.ba w _)).trans (Keep.of_grown (F := fun k => p + 1 ≤ k) g2 fun k e => (ow.lt k e).1) (fun _ => Or.inl)
  refine ⟨(K.block p (Nw.lt a1) (by omega)).trans a1, ?_, a5.trans K fun i hi => Or.inr (by omega)⟩
  unfold Toks
  rw [List.length_append, cellsT_snoc]
  exact hr
theorem LS.six (h : LS p w0 (MO S l b k t n re im a en) v ts w) (k' : Int) (t' : List UInt8) (n' re' im' a' en' : Int) : ∃ W,
    (((((((w.setCell ⟨p, 3, none⟩ (.int .i64 k')).setCell ⟨p, 4, none⟩ (.string ⟨t'.toArray⟩)).setCell ⟨p, 5, none⟩ (.int .i64 n')).setCell ⟨p, 6, none⟩ (.int .u64 re')).setCell ⟨p, 7, none⟩ (.int .u64 im')).setCell ⟨p, 8, none⟩ (.int .i64 a')).setCell ⟨p, 9, none⟩ (.int .i64 en')) = W ∧
      LS p w0 (MO S l b k' t' n' re' im' a' en') v ts W := by
  refine ⟨_, rfl, h.turn ?_⟩
  have a3 := Nw.set h.1 3 (.int .i64 k')
  have a4 := a3.trans (Nw.set a3.1 4 (.string ⟨t'.toArray⟩))
  have a5 := a4.trans (Nw.set a4.1 5 (.int .i64 n'))
  have a6 := a5.trans (Nw.set a5.1 6 (.int .u64 re'))
  have a7 := a6.trans (Nw.set a6.1 7 (.int .u64 im'))
  have a8 := a7.trans (Nw.set a7.1 8 (.int .i64 a'))
  have a9 := a8.trans (Nw.set a8.1 9 (.int .i64 en'))
  simpa using a9
def AllEnd (w : World) (S : List UInt8) (e : Ending) (w' : World) : Prop :=
  (∃ v, e = .returned (.tuple #[v, .int .i64 ((allT S).2.1 : Nat), .int .i64 (allT S).2.2]) ∧ Toks w.heap.size w' v (allT S).1) ∧ Below w.heap.size w w'
def ARel (p : Nat) (w0 : World) (S : List UInt8) (z : Nat) (x : Value) (wr : World) : Prop :=
  ∃ (l b : List UInt8) (k : Int) (t : List UInt8) (n re im a : Int) (ts : List Tk), z = l.length ∧ l <:+ S ∧ b <:+ S ∧ ts.length + l.length ≤ S.length ∧ LS p w0 (MO S l b k t n re im a ((S.length - l.length : Nat) : Int)) x ts wr ∧ comb ts (lex S.length (l.length + 1) (k, t) l) = allT S
theorem LS.done (h : LS p w0 o v ts w') (h0 : w0 = w.alloc o') (hp : p = w.heap.size) : Toks w.heap.size w' v ts ∧ Below w.heap.size w w' := by
  refine ⟨h.2.1.mono (by omega), ?_⟩
  subst h0
  exact (kp.ba w o').trans (h.2.2.to_below (fun i hi => by omega) (by rw [alloc_size]; omega))
abbrev M0 (S : List UInt8) : Obj := .cells #[.string ⟨S.toArray⟩, .int .i64 0, .int .i64 0, .int .i64 0, .string ⟨#[]⟩, .int .i64 0, .int .u64 0, .int .u64 0, .int .i64 0, .int .i64 0] 105 (0, 0)
set_option maxRecDepth 100000 in
set_option maxHeartbeats 4000000 in
theorem all_any (S : List UInt8) (hS0 : S.length ≤ 140737488351232) (w : World) (hv : VR w.heap.size w) : Calls Tryz.prog 34 #[.string ⟨S.toArray⟩] w (AllEnd w S) := by
  by_cases hS : S.length ≤ 65536
  · obtain ⟨p, hp⟩ : ∃ p, p = w.heap.size := ⟨_, rfl⟩
    obtain ⟨w0, hw0⟩ : ∃ w0, w0 = w.alloc (M0 S) := ⟨_, rfl⟩
    have h0 : w0.heap[p]? = some (MO S S S 0 [] 0 0 0 0 ((S.length - S.length : Nat) : Int)) := by
      have e : MO S S S 0 [] 0 0 0 0 ((S.length - S.length : Nat) : Int) = M0 S := by unfold MO M0; rw [Nat.sub_self]; rfl
      rw [hp, hw0, e]; exact alloc_at w _
    have V0 : VR w.heap.size w0 := by rw [hw0]; exact hv.below (kp.ba w _)
    have hsz : w0.heap.size = p + 1 := by rw [hw0, alloc_size, hp]
    have HW := Lib.hid (And.intro hp (And.intro hw0 (And.intro V0 hsz)))
    have HA := Lib.hid (show comb [] (lex S.length (S.length + 1) (0, []) S) = allT S by
      unfold allT comb; rw [if_pos hS]
      by_cases he : (lex S.length (S.length + 1) (0, []) S).2.2 = 0
      · rw [if_pos he, List.nil_append]; exact Prod.ext rfl (Prod.ext rfl he.symm)
      · rw [if_neg he]; have := lex_bad _ _ _ _ _ _ rfl he; rw [← this])
    have H0 := Lib.hid h0
    clear hv hp hw0 h0 V0 hsz
    go_enter Tryz.func34, Tryz.ntmps34
    go_upto_region 4 with fail
    go_wp2_with fail
    change Code.wp _ _ _ _ (w.alloc (M0 S))
    rw [← HW.out.1, ← HW.out.2.1]
    go_loopg [5] S.length (ARel p w0 S)
    case atStart => exact ⟨S, S, 0, [], 0, 0, 0, 0, [], rfl, List.suffix_refl _, List.suffix_refl _, by simp, ⟨H0.out, Toks.nil _ _, Keep.refl _ _⟩, HA.out⟩
    case round =>
      obtain ⟨l, b, k, t, n, re, im, a, ts, rfl, hl, hb, hn, L, hR⟩ := hrel
      obtain ⟨sa, sc, rfl⟩ := L.2.1.shape
      obtain ⟨x, hx⟩ : ∃ x, sk .bt l l = x := ⟨_, rfl⟩
      obtain ⟨T, hT⟩ : ∃ T, nxT ((S.length - l.length : Nat) : Int) S.length k t x = T := ⟨_, rfl⟩
      have hB : ∀ i, i = p → w.heap.size ≤ i := fun i hi => by rw [hi, HW.out.1]; exact Nat.le_refl _
      have hnx := next_any L.1 hl hb hS (HW.out.2.2.1.keep L.2.2 hB) (hB p rfl) x hx T hT
      have hxs : x.2 <:+ S := by
        obtain ⟨x1, x2⟩ := x
        cases x1 with
        | true => exact (sk_ok hx).trans hl
        | false => exact (sk_no hx).trans hl
      have hll := hl.length_le
      cases T with
      | er e =>
        obtain ⟨h1, h2⟩ := lex_er hll hx hT l.length
        rw [h1] at hR
        have HK := Lib.hid (show allT S = ([], S.length - x.2.length, e) by rw [← hR]; unfold comb; simp only; rw [if_neg h2])
        have hne : (e != 0) = true := by rw [bne_iff_ne]; exact h2
        have HL := Lib.hid L
        clear h1 h2 hR hT hx L hl hb hn hll hB
        unfold NEnd trv tkV at hnx
        go_wp2_with fail
        refine hnx.mono ?_; rintro e9 w1 ⟨rfl, l2, hl2, hr2, N⟩
        have L1 := Lib.hid ((HL.out.turn N).below (kp.ba w1 (TO 0 [] 0 0 0 0)))
        obtain ⟨⟨c0, c1, c2, -⟩, -⟩ := ten L1.out.1
        clear N hl2 hr2 hnx
        go_upto_region 7 with fail
        change Code.wp _ _ _ _ (w1.alloc (TO 0 [] 0 0 0 0))
        generalize w1.alloc (TO 0 [] 0 0 0 0) = w2 at *
        go_wp2_with fail
        go_quiet (fail)
        go_wp2_with fail
        go_ret3
        obtain ⟨hd1, hd2⟩ := L1.out.done HW.out.2.1 HW.out.1
        refine ⟨⟨.slice none 0 0, by rw [HK.out]; rfl, by rw [HK.out]; exact Toks.nil _ _⟩, ?_⟩
        have := drewN_below w2
        first | exact hd2.trans ((this _).mono hd2.size) | exact hd2
      | ok k' t' n' re' im' rest =>
        by_cases hk0 : k' = 0
        · subst hk0
          have h1 := lex_nil hx _ hT l.length
          rw [h1] at hR
          have HK := Lib.hid (show allT S = (ts, 0, 0) by rw [← hR]; unfold comb; simp)
          have HL := Lib.hid L
          clear h1 hR hT hx L hl hb hn hll hB
          unfold NEnd trv tkV at hnx
          go_wp2_with fail
          refine hnx.mono ?_; rintro e9 w1 ⟨rfl, l2, hl2, hr2, N⟩
          have L1 := Lib.hid ((HL.out.turn N).below (kp.ba w1 (TO 0 t' n' re' im' 0)))
          obtain ⟨⟨z0, z1, z2, z3, z4, z5⟩, y0, y1, y2, y3, y4, y5⟩ := six (alloc_at w1 (TO 0 t' n' re' im' 0))
          clear N hl2 hr2 hnx
          go_upto_region 8 with fail
          change Code.wp _ _ _ _ (w1.alloc (TO 0 t' n' re' im' 0))
          generalize hw2 : w1.alloc (TO 0 t' n' re' im' 0) = w2 at L1 z0 z1 z2 z3 z4 z5 y0 y1 y2 y3 y4 y5 ⊢
          go_wp2_with fail
          go_ret3
          obtain ⟨hd1, hd2⟩ := L1.out.done HW.out.2.1 HW.out.1
          exact ⟨⟨_, by rw [HK.out]; rfl, by rw [HK.out]; exact hd1⟩, hd2⟩
        · obtain ⟨h1, h2, h3⟩ := lex_ok hll hx hT hk0 ts
          have hk0' : (k' == 0) = false := by rw [beq_eq_false_iff_ne]; exact hk0
          rw [h3] at hR
          have HR := Lib.hid (And.intro h1 (And.intro (h2.trans hl) (And.intro hxs (And.intro hn hR))))
          have HL := Lib.hid L
          clear h1 h2 h3 hR hT hx L hl hb hll hB hk0
          unfold NEnd trv tkV at hnx
          go_wp2_with fail
          refine hnx.mono ?_; rintro e9 w1 ⟨rfl, l2, hl2, hr2, N⟩
          obtain rfl : l2 = rest := hr2 _ _ _ _ _ _ rfl
          obtain ⟨tb, htb⟩ : ∃ tb, tb = w1.heap.size := ⟨_, rfl⟩
          obtain ⟨w2, hw2⟩ : ∃ w2, w2 = w1.alloc (TO k' t' n' re' im' 0) := ⟨_, rfl⟩
          have L2 : LS p w0 (MO S l2 x.2 k t n re im a ((S.length - l.length : Nat) : Int)) (.slice sa ts.length sc) ts w2 := by rw [hw2]; exact (HL.out.turn N).below (kp.ba w1 _)
          have hT2 : w2.heap[tb]? = some (TO k' t' n' re' im' 0) := by rw [hw2, htb]; exact alloc_at w1 _
          have hpt : p < tb := by rw [htb]; exact Nw.lt N.1
          have hbt : (Value.slice sa ts.length sc).ownBlock ≠ some tb := fun e => by
            have h1 := (HL.out.turn N).2.1.lt tb e
            omega
          have hz : w0.heap.size ≤ tb := by have := (HL.out.turn N).2.2.size; omega
          obtain ⟨w3, hw3⟩ : ∃ w3, w3 = w2.setCell ⟨tb, 5, none⟩ (.int .i64 ((S.length - x.2.length : Nat) : Int)) := ⟨_, rfl⟩
          have L3 := Lib.hid (show LS p w0 (MO S l2 x.2 k t n re im a ((S.length - l.length : Nat) : Int)) (.slice sa ts.length sc) ts w3 by rw [hw3]; exact L2.set (by omega) hbt hz _ _)
          have hT3 : w3.heap[tb]? = some (TO k' t' n' re' im' ((S.length - x.2.length : Nat) : Int)) := by rw [hw3]; exact (Nw.set hT2 5 _).1
          have HW2 := Lib.hid (And.intro htb (And.intro hw2 hw3))
          have HB := Lib.hid (And.intro hpt (And.intro hbt hz))
          obtain ⟨⟨z0, z1, z2, z3, z4, z5⟩, y0, y1, y2, y3, y4, y5⟩ := six hT2
          obtain ⟨⟨c0, c1, c2, -⟩, -⟩ := ten L2.1
          have HT3 := Lib.hid hT3
          clear N hl2 hr2 hnx hT2 hT3 hpt hbt hz htb hw2 hw3 L2
          go_upto_region 8 with fail
          change Code.wp _ _ _ _ (w1.alloc (TO k' t' n' re' im' 0))
          rw [← HW2.out.1, ← HW2.out.2.1]
          go_upto_region 11 with fail
          rw [← HW2.out.2.2]
          clear z0 z1 z2 z3 z4 z5 y0 y1 y2 y3 y4 y5 c0 c1 c2
          obtain ⟨⟨z0, z1, z2, z3, z4, z5⟩, -⟩ := six HT3.out
          obtain ⟨i0, hi, hz0, hz1, hz2⟩ := info_of infoT
          have HI := Lib.hid (And.intro hi (And.intro hz0 (And.intro hz1 hz2)))
          have PU := Lib.hid (fun v' w5 hr g2 => LS.push (v' := v') (w2 := w5) L3.out (by have := HW.out.2.2.2; omega) (by have := HW.out.2.2.2; omega) ⟨k', t', n', re', im', S.length - x.2.length⟩ hr g2)
          have hrow := L3.out.2.1
          have hsz9 := Nw.lt L3.out.1
          have HRW := Lib.hid (ow_keep hrow fun q e => (kp.ba w3 (.cells (tkc ⟨k', t', n', re', im', S.length - x.2.length⟩).toArray 76)).block q (hrow.lt q e).2)
          have HBS := Lib.hid (show p + 1 ≤ (w3.alloc (.cells (tkc ⟨k', t', n', re', im', S.length - x.2.length⟩).toArray 76)).heap.size by rw [alloc_size]; omega)
          have hn9 : ts.length ≤ 65536 := by have := HR.out.2.2.2.1; omega
          clear hi hz0 hz1 hz2 hrow hsz9
          go_wp2_with (at_builtin; refine wpList_append_own_at _ rfl (.tmp 30) (.tmp 32) 67 rfl (p + 1) 76 i0 (.agg #[.int .i64 0, .string ⟨#[]⟩, .int .i64 0, .int .u64 0, .int .u64 0, .int .i64 0]) 6 56 Tryz.underlying67 HI.out.1 HI.out.2.1 HI.out.2.2.1 HI.out.2.2.2 rfl (by decide) _ _ _ rfl HRW.out ⟨w3.heap.size, 0, none⟩ 1 1 (tkc ⟨k', t', n', re', im', S.length - x.2.length⟩) rfl rfl (news6 _ _ _ _ _ _ _ _) ?c2 ?b1 ?b2 ?b3 ?_)
          case c2 => intro u hu; simp only [tkc, List.mem_cons, List.not_mem_nil, or_false] at hu; rcases hu with rfl | rfl | rfl | rfl | rfl | rfl <;> rfl
          case b1 => unfold maxLen; omega
          case b2 => omega
          case b3 => exact HBS.out
          intro v' w5 hr5 g5 _ hat
          have L5 := Lib.hid (PU.out v' w5 hr5 g5)
          have hb5 := g5.block tb (by rw [alloc_size]; have := Nw.lt HT3.out; omega) (fun e => HB.out.2.1 e.symm)
          have HT5 := Lib.hid ((hb5.trans ((kp.ba w3 _).block tb (Nw.lt HT3.out))).trans HT3.out)
          clear hr5 g5 PU HRW HI HBS hat hb5 z0 z1 z2 z3 z4 z5
          obtain ⟨⟨z0, z1, z2, z3, z4, z5⟩, -⟩ := six HT5.out
          obtain ⟨⟨c0, c1, c2, c3, c4, c5, c6, c7, c8, c9⟩, f1, f2, f3, f4, f5, f6, f7, f8, f9⟩ := ten L5.out.1
          go_wp2_with fail
          obtain ⟨W, hW, L6⟩ := L5.out.six k' t' n' re' im' ((S.length - x.2.length : Nat) : Int) ((S.length - l2.length : Nat) : Int)
          have HL6 := Lib.hid L6
          rw [hW]
          clear L6 hW
          go_roundg l2.length
          case measure => exact HR.out.1
          case rel => exact ⟨l2, x.2, k', t', n', re', im', _, _, rfl, HR.out.2.1, HR.out.2.2.1, by have := HR.out.2.2.2.1; have := HR.out.1; simp only [List.length_append, List.length_cons, List.length_nil]; omega, HL6.out, HR.out.2.2.2.2⟩
  · have HA := Lib.hid (show allT S = ([], 0, 3) by unfold allT; rw [if_neg hS])
    clear hv
    go_enter Tryz.func34, Tryz.ntmps34; go_wp2_with fail
    go_ret3
    refine ⟨⟨.slice none 0 0, by rw [HA.out]; rfl, by rw [HA.out]; exact Toks.nil _ _⟩, kp.br _⟩
end
end Go.Proofs.YtedbcmagjbgbjaaGreatDoor.tk
