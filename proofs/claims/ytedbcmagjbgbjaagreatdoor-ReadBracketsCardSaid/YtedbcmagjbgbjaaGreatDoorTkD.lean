/- The project's machine: quote (two labels, a row of bytes). -/
import Derived.Test.YtedbcmagjbgbjaaGreatDoorTkC
import Derived.Laws.OwnMore
namespace Go.Proofs.YtedbcmagjbgbjaaGreatDoor.tk
open Go.ChangeShapes Go.WideShapes Go.ChangeAt Go.RowKit Go.Maps
open Go.Proofs.YtedbcmagjbgbjaaGreatDoor.kp Go.Proofs.YtedbcmagjbgbjaaGreatDoor.num Go.Proofs.YtedbcmagjbgbjaaGreatDoor.dec
set_option linter.unusedVariables false
def bv (c : UInt8) : Value := .int .u8 (c.toNat : Int)
theorem infoU : (Tryz.prog.info? 5).map (fun i => (i.zero, i.size, i.bytes)) = some (some (.int .u8 0), 1, 1) := by kernel_rfl
theorem info_of {i? : Option TypeInfo} {z : Value} {s b : Nat} (h : i?.map (fun i => (i.zero, i.size, i.bytes)) = some (some z, s, b)) : ∃ i, i? = some i ∧ i.zero = some z ∧ i.size = s ∧ i.bytes = b := by
  cases i? with
  | none => cases h
  | some i => simp at h; exact ⟨i, rfl, h.1, h.2.1, h.2.2⟩
theorem ow_keep {w w' : World} {b e s n : Nat} {v : Value} {xs : List Value} (h : w.ownsRow b e s v n xs) (hk : ∀ k, v.ownBlock = some k → w'.heap[k]? = w.heap[k]?) : w'.ownsRow b e s v n xs := by
  obtain ⟨hl, hr⟩ := h
  refine ⟨hl, ?_⟩
  rcases hr with hr | ⟨g, cap, cur, rfl, hg0, hg, r⟩
  · exact Or.inl hr
  · exact Or.inr ⟨g, cap, cur, rfl, hg0, (hk g rfl).trans hg, r⟩
/-- the result's block beside the machine's, and a row of bytes of one's own -/
def RW (p r0 : Nat) (w0 : World) (o : Obj) (v : Value) (acc : List UInt8) (w : World) : Prop :=
  Door p r0 w0 w o ∧ w.ownsRow (r0 + 1) 5 1 v acc.length (acc.map bv)
section
variable {w w' w0 w1 w2 : World} {p r0 : Nat} {S l b acc : List UInt8} {k : Int} {t : List UInt8} {n re im a en : Int} {o o' : Obj} {v v' : Value}
theorem RW.start (h : Door p r0 w0 w o) : RW p r0 w0 o (.slice none 0 0) [] w := ⟨h, World.ownsRow_nil _ _ _ _⟩
theorem RW.turn (h : RW p r0 w0 o v acc w) (N : Nw p o' w w') : RW p r0 w0 o' v acc w' := by
  refine ⟨h.1.turn N, ow_keep h.2 fun i hi => ?_⟩
  have h1 := h.2.lt i hi
  have h2 := h.1.2.1
  exact N.2.block i h1.2 (by omega)
theorem RW.push (h : RW p r0 w0 o v acc w) (c : UInt8) (hr : w2.ownsRow (r0 + 1) 5 1 v' (acc.length + 1) (acc.map bv ++ [bv c])) (g2 : (w.alloc (.cells #[bv c] 5)).grownBy w2 v.ownBlock) : RW p r0 w0 o v' (acc ++ [c]) w2 := by
  obtain ⟨⟨a1, a2, a3, a4, a5⟩, ow⟩ := h
  have K : Keep (fun k => r0 + 1 ≤ k) w w2 := (Keep.of_below (kp.ba w _)).trans (Keep.of_grown (F := fun k => r0 + 1 ≤ k) g2 fun k e => (ow.lt k e.symm.symm).1) (fun _ => Or.inl)
  have hp := Nw.lt a3
  have hr0 := Nw.lt a4
  refine ⟨⟨a1, a2, (K.block p hp (by omega)).trans a3, (K.block r0 hr0 (by omega)).trans a4, a5.trans K fun i hi => Or.inr (by omega)⟩, ?_⟩
  simpa using hr
theorem RW.conv (h : RW p r0 w0 o v acc w) : (convert 123 9 v).run Tryz.prog w = .ok (.string ⟨acc.toArray⟩) w := by
  obtain ⟨hl, hr⟩ := h.2
  rcases hr with ⟨rfl, h0⟩ | ⟨g, cap, cur, rfl, hg0, hg, hc, hm, hs, hx⟩
  · obtain rfl : acc = [] := List.eq_nil_of_length_eq_zero h0
    exact run_convert_bytes_nil (w := w) _ _ Tryz.underlying123 Tryz.underlying5 _ _ _ Tryz.underlying9
  · refine run_convert_bytes_back (P := Tryz.prog) w 123 9 5 ⟨g, 0, none⟩ cap acc Tryz.underlying123 Tryz.underlying5 Tryz.underlying9 fun j hj => ?_
    have h3 := World.ownsRow.cellAt h.2 j (by omega)
    rw [show (⟨g, 0, none⟩ : Addr).add j = ⟨g, j, none⟩ from by simp [Addr.add]; omega, h3, List.getElem?_map, List.getElem?_eq_getElem hj]
    rfl
theorem one_new (w : World) (x : Value) (t : TypeId) : ∀ j u, [x][j]? = some u → (w.alloc (.cells #[x] t)).cell? ((⟨w.heap.size, 0, none⟩ : Addr).add j) = some u := by
  intro j u hj
  have h := kp.alloc_at w (.cells #[x] t)
  have e : (⟨w.heap.size, 0, none⟩ : Addr).add j = ⟨w.heap.size, j, none⟩ := by simp [Addr.add]; omega
  rw [e]
  simp only [World.cell?, h]
  simpa using hj
/-- what an escape comes to -/
def qe : List UInt8 → Option (List UInt8 × List UInt8)
  | [] => none
  | d :: r' => if d = 110 then (qt r').map fun x => (10 :: x.1, x.2) else if d = 92 ∨ d = 39 then (qt r').map fun x => (d :: x.1, x.2) else none
def pre (acc : List UInt8) (x : Option (List UInt8 × List UInt8)) : Option (List UInt8 × List UInt8) := x.map fun x => (acc ++ x.1, x.2)
theorem pre_cons (acc : List UInt8) (c : UInt8) (x : Option (List UInt8 × List UInt8)) : pre acc (x.map fun x => (c :: x.1, x.2)) = pre (acc ++ [c]) x := by
  cases x <;> simp [pre]
def qtr : Option (List UInt8 × List UInt8) → TR
  | none => .er 2
  | some x => txt 2 x.1 x.2
def QEnd (p : Nat) (w0 : World) (S b : List UInt8) (k : Int) (t : List UInt8) (n re im a en : Int) (R : Option (List UInt8 × List UInt8)) (e : Ending) (w' : World) : Prop :=
  e = .returned (trv (qtr R)) ∧ ∃ l', l' <:+ S ∧ (∀ x, R = some x → l' = x.2) ∧ Nw p (MO S l' b k t n re im a en) w0 w'
def JQ (esc : Bool) (p r0 : Nat) (w0 : World) (S b : List UInt8) (k : Int) (t : List UInt8) (n re im a en : Int) (R : Option (List UInt8 × List UInt8)) (z : Nat) (a' : Act) (w' : World) : Prop :=
  ∃ (l acc : List UInt8) (v x : Value) (U : Nat → Value), l <:+ S ∧ z = l.length ∧ acc.length + l.length ≤ 65536 ∧ pre acc (if esc = true then qe l else qt l) = R ∧ RW p r0 w0 (MO S l b k t n re im a en) v acc w' ∧
    a' = { tmps := (.pointer (some ⟨p, 0, none⟩) :: U 1 :: .pointer (some ⟨r0, 0, none⟩) :: .int .i64 0 :: v :: x :: U 6 :: U 7 :: U 8 :: U 9 :: U 10 :: U 11 :: U 12 :: U 13 :: U 14 :: U 15 :: U 16 :: U 17 :: U 18 :: U 19 :: U 20 :: U 21 :: U 22 :: U 23 :: U 24 :: U 25 :: U 26 :: U 27 :: U 28 :: U 29 :: U 30 :: U 31 :: U 32 :: U 33 :: U 34 :: U 35 :: U 36 :: U 37 :: U 38 :: U 39 :: U 40 :: U 41 :: U 42 :: U 43 :: U 44 :: U 45 :: []).toArray, defers := [] }
theorem JQ.mk {esc : Bool} {R : Option (List UInt8 × List UInt8)} {z : Nat} {a' : Act} (l acc : List UInt8) (v x : Value)
    (h1 : l <:+ S) (h2 : z = l.length) (h3 : acc.length + l.length ≤ 65536) (h4 : pre acc (if esc = true then qe l else qt l) = R) (h5 : RW p r0 w0 (MO S l b k t n re im a en) v acc w')
    (h : a' = { tmps := (.pointer (some ⟨p, 0, none⟩) :: a'.tmps.getD 1 undef :: .pointer (some ⟨r0, 0, none⟩) :: .int .i64 0 :: v :: x :: a'.tmps.getD 6 undef :: a'.tmps.getD 7 undef :: a'.tmps.getD 8 undef :: a'.tmps.getD 9 undef :: a'.tmps.getD 10 undef :: a'.tmps.getD 11 undef :: a'.tmps.getD 12 undef :: a'.tmps.getD 13 undef :: a'.tmps.getD 14 undef :: a'.tmps.getD 15 undef :: a'.tmps.getD 16 undef :: a'.tmps.getD 17 undef :: a'.tmps.getD 18 undef :: a'.tmps.getD 19 undef :: a'.tmps.getD 20 undef :: a'.tmps.getD 21 undef :: a'.tmps.getD 22 undef :: a'.tmps.getD 23 undef :: a'.tmps.getD 24 undef :: a'.tmps.getD 25 undef :: a'.tmps.getD 26 undef :: a'.tmps.getD 27 undef :: a'.tmps.getD 28 undef :: a'.tmps.getD 29 undef :: a'.tmps.getD 30 undef :: a'.tmps.getD 31 undef :: a'.tmps.getD 32 undef :: a'.tmps.getD 33 undef :: a'.tmps.getD 34 undef :: a'.tmps.getD 35 undef :: a'.tmps.getD 36 undef :: a'.tmps.getD 37 undef :: a'.tmps.getD 38 undef :: a'.tmps.getD 39 undef :: a'.tmps.getD 40 undef :: a'.tmps.getD 41 undef :: a'.tmps.getD 42 undef :: a'.tmps.getD 43 undef :: a'.tmps.getD 44 undef :: a'.tmps.getD 45 undef :: []).toArray, defers := [] }) : JQ esc p r0 w0 S b k t n re im a en R z a' w' :=
  ⟨l, acc, v, x, fun i => a'.tmps.getD i undef, h1, h2, h3, h4, h5, h⟩
theorem u8_byte (c : UInt8) : IntKind.u8.wrap (c.toNat : Int) = (c.toNat : Int) := by
  have := bi_lt c
  show (c.toNat : Int) % 256 = _
  omega
set_option maxRecDepth 100000 in
set_option maxHeartbeats 4000000 in
theorem quote_any (h : w.heap[p]? = some (MO S l b k t n re im a en)) (hs : l <:+ S) (hS : S.length ≤ 65536) (R : Option (List UInt8 × List UInt8)) (hR : qt l = R) :
    Calls Tryz.prog 81 #[.pointer (some ⟨p, 0, none⟩)] w fun e w' => QEnd p w S b k t n re im a en R e w' := by
  obtain ⟨r0, hr0⟩ : ∃ r0, r0 = w.heap.size := ⟨_, rfl⟩
  obtain ⟨w1, hw1⟩ : ∃ w1, w1 = w.alloc (TO 0 [] 0 0 0 0) := ⟨_, rfl⟩
  have D1 : Door p r0 w w1 (MO S l b k t n re im a en) := by rw [hr0, hw1]; exact Door.start h
  have HW := Lib.hid (And.intro hr0 hw1)
  have H0 := Lib.hid (And.intro hs (And.intro (RW.start D1) hR))
  have hbs : ∀ c : UInt8, IntKind.u8.wrap (c.toNat : Int) = (c.toNat : Int) := u8_byte
  clear h hs D1 hr0 hw1 hR
  go_enter Tryz.func81, Tryz.ntmps81
  go_upto_region 1 with fail
  change Code.wp _ _ _ _ (w.alloc (TO 0 [] 0 0 0 0))
  rw [← HW.out.1, ← HW.out.2]
  go_wp2_with fail
  refine wp_scope_three (JQ false p r0 w S b k t n re im a en R) (JQ true p r0 w S b k t n re im a en R) (fun _ _ _ => False) rfl (fun _ => rfl) (fun ⟨_, _, _, h⟩ => h.elim) ?_ (D2 := Code.skip) (fun _ _ _ h => h.elim) ?_ ?_
  · rintro n9 a9 wr ⟨l, acc, v, x, U, hl, rfl, hz, hk, X, rfl⟩
    simp only [if_pos] at hk
    have htk := take_any X.1.2.2.1 hl hS
    obtain ⟨sa, sc, rfl⟩ := kp.shape X.2
    have HX := Lib.hid (And.intro hl (And.intro hz X))
    clear hl hz X
    cases l with
    | nil =>
      have HK := Lib.hid hk
      clear hk
      simp only [List.head?, bi, List.tail] at htk
      go_wp2_with fail
      refine htk.mono ?_; rintro e w1 ⟨rfl, N1⟩
      have X1 := Lib.hid (HX.out.2.2.turn N1)
      obtain ⟨⟨z0, z1, z2, z3, z4, z5⟩, y0, y1, y2, y3, y4, y5⟩ := X1.out.1.z
      clear N1
      go_wp2_with fail
      obtain ⟨W, hW, ⟨e0, e1, e2, e3, e4, e5⟩, N⟩ := X1.out.1.fin (.int .i64 0) (.string ⟨#[]⟩) (.int .i64 0) (.int .u64 0) (.int .u64 0) (.int .i64 0)
      rw [hW]
      simp only [d3]
      refine bodyPost_ret (v := .tuple #[tkV 0 [] 0 0 0 0, .int .i64 2]) (by simp [results, Tryz.results81, go_sem, e0, e1, e2, e3, e4, e5, tkV]) rfl ?_
      rw [← HK.out]
      exact ⟨rfl, [], HX.out.1, (fun x hx => by cases hx), N⟩
    | cons c r =>
      simp only [List.head?, bi, List.tail] at htk
      rw [qe] at hk
      have h110 := beq_byte c 110 110 rfl
      have h92 := beq_byte c 92 92 rfl
      have h39 := beq_byte c 39 39 rfl
      by_cases hc : c = 110
      · rw [if_pos hc, pre_cons] at hk
        have HK := Lib.hid hk
        rw [decide_eq_true hc] at h110
        have h110 := show ((c.toNat : Int) == 110) = true from h110
        clear hk hc h92 h39
        go_wp2_with fail
        refine htk.mono ?_; rintro e w1 ⟨rfl, N1⟩
        have X1 := Lib.hid (HX.out.2.2.turn N1)
        clear N1
        obtain ⟨i0, hi, hz0, hz1, hz2⟩ := info_of infoU
        have HI := Lib.hid (And.intro hi (And.intro hz0 (And.intro hz1 hz2)))
        have hrow := X1.out.2
        have hlen9 : acc.length ≤ 65536 := by have := HX.out.2.1; omega
        have PU := Lib.hid (fun v' w2 hr g2 => RW.push (v' := v') (w2 := w2) X1.out (10) hr g2)
        have hsz9 := Nw.lt X1.out.1.2.2.2.1
        have HRW := Lib.hid (hrow.alloc (.cells #[bv (10)] 5))
        have HBS := Lib.hid (show r0 + 1 ≤ ((w1).alloc (.cells #[bv (10)] 5)).heap.size by rw [alloc_size]; omega)
        clear hi hz0 hz1 hz2 hrow hsz9
        go_wp2_with (at_builtin; refine wpList_append_own_at _ rfl (.tmp 41) (.tmp 44) 123 rfl (r0 + 1) 5 i0 (.int .u8 0) 1 1 Tryz.underlying123 HI.out.1 HI.out.2.1 HI.out.2.2.1 HI.out.2.2.2 rfl (by decide) _ _ _ rfl HRW.out ⟨(w1).heap.size, 0, none⟩ 1 1 [bv (10)] rfl rfl (one_new _ _ _) ?c2 ?b1 ?b2 ?b3 ?_)
        case c2 => intro u hu; simp at hu; subst hu; rfl
        case b1 => unfold maxLen; omega
        case b2 => omega
        case b3 => exact HBS.out
        intro v' w9 hr9 g9 _ _
        have X2 := Lib.hid (PU.out v' w9 (by simpa using hr9) g9)
        clear hr9 g9 PU HRW HI HBS
        go_wp2_with fail
        go_step3
        refine ⟨r.length, by simp, Or.inl ⟨rfl, JQ.mk r (acc ++ [10]) _ _ (suf_tail HX.out.1) rfl ?_ ?_ X2.out rfl⟩⟩
        · have := HX.out.2.1; simp only [List.length_cons, List.length_append, List.length_nil] at *; omega
        · exact HK.out
      · rw [if_neg hc] at hk
        rw [decide_eq_false hc] at h110
        have h110 := show ((c.toNat : Int) == 110) = false from h110
        by_cases hc2 : c = 92 ∨ c = 39
        · rw [if_pos hc2, pre_cons] at hk
          have HK := Lib.hid hk
          clear hk hc
          by_cases hc9 : c = 92
          · rw [decide_eq_true hc9] at h92
            have h92 := show ((c.toNat : Int) == 92) = true from h92
            clear hc9 hc2 h39
            go_wp2_with fail
            refine htk.mono ?_; rintro e w1 ⟨rfl, N1⟩
            have X1 := Lib.hid (HX.out.2.2.turn N1)
            clear N1
            obtain ⟨i0, hi, hz0, hz1, hz2⟩ := info_of infoU
            have HI := Lib.hid (And.intro hi (And.intro hz0 (And.intro hz1 hz2)))
            have hrow := X1.out.2
            have hlen9 : acc.length ≤ 65536 := by have := HX.out.2.1; omega
            have PU := Lib.hid (fun v' w2 hr g2 => RW.push (v' := v') (w2 := w2) X1.out (c) hr g2)
            have hsz9 := Nw.lt X1.out.1.2.2.2.1
            have HRW := Lib.hid (hrow.alloc (.cells #[bv (c)] 5))
            have HBS := Lib.hid (show r0 + 1 ≤ ((w1).alloc (.cells #[bv (c)] 5)).heap.size by rw [alloc_size]; omega)
            clear hi hz0 hz1 hz2 hrow hsz9
            go_wp2_with (at_builtin; refine wpList_append_own_at _ rfl (.tmp 41) (.tmp 44) 123 rfl (r0 + 1) 5 i0 (.int .u8 0) 1 1 Tryz.underlying123 HI.out.1 HI.out.2.1 HI.out.2.2.1 HI.out.2.2.2 rfl (by decide) _ _ _ rfl HRW.out ⟨(w1).heap.size, 0, none⟩ 1 1 [bv (c)] rfl rfl (one_new _ _ _) ?c2 ?b1 ?b2 ?b3 ?_)
            case c2 => intro u hu; simp at hu; subst hu; rfl
            case b1 => unfold maxLen; omega
            case b2 => omega
            case b3 => exact HBS.out
            intro v' w9 hr9 g9 _ _
            have X2 := Lib.hid (PU.out v' w9 (by simpa using hr9) g9)
            clear hr9 g9 PU HRW HI HBS
            go_wp2_with fail
            go_step3
            refine ⟨r.length, by simp, Or.inl ⟨rfl, JQ.mk r (acc ++ [c]) _ _ (suf_tail HX.out.1) rfl ?_ ?_ X2.out rfl⟩⟩
            · have := HX.out.2.1; simp only [List.length_cons, List.length_append, List.length_nil] at *; omega
            · exact HK.out
          · rw [decide_eq_false hc9] at h92
            have h92 := show ((c.toNat : Int) == 92) = false from h92
            rw [decide_eq_true (hc2.resolve_left hc9)] at h39
            have h39 := show ((c.toNat : Int) == 39) = true from h39
            clear hc9 hc2
            go_wp2_with fail
            refine htk.mono ?_; rintro e w1 ⟨rfl, N1⟩
            have X1 := Lib.hid (HX.out.2.2.turn N1)
            clear N1
            obtain ⟨i0, hi, hz0, hz1, hz2⟩ := info_of infoU
            have HI := Lib.hid (And.intro hi (And.intro hz0 (And.intro hz1 hz2)))
            have hrow := X1.out.2
            have hlen9 : acc.length ≤ 65536 := by have := HX.out.2.1; omega
            have PU := Lib.hid (fun v' w2 hr g2 => RW.push (v' := v') (w2 := w2) X1.out (c) hr g2)
            have hsz9 := Nw.lt X1.out.1.2.2.2.1
            have HRW := Lib.hid (hrow.alloc (.cells #[bv (c)] 5))
            have HBS := Lib.hid (show r0 + 1 ≤ ((w1).alloc (.cells #[bv (c)] 5)).heap.size by rw [alloc_size]; omega)
            clear hi hz0 hz1 hz2 hrow hsz9
            go_wp2_with (at_builtin; refine wpList_append_own_at _ rfl (.tmp 41) (.tmp 44) 123 rfl (r0 + 1) 5 i0 (.int .u8 0) 1 1 Tryz.underlying123 HI.out.1 HI.out.2.1 HI.out.2.2.1 HI.out.2.2.2 rfl (by decide) _ _ _ rfl HRW.out ⟨(w1).heap.size, 0, none⟩ 1 1 [bv (c)] rfl rfl (one_new _ _ _) ?c2 ?b1 ?b2 ?b3 ?_)
            case c2 => intro u hu; simp at hu; subst hu; rfl
            case b1 => unfold maxLen; omega
            case b2 => omega
            case b3 => exact HBS.out
            intro v' w9 hr9 g9 _ _
            have X2 := Lib.hid (PU.out v' w9 (by simpa using hr9) g9)
            clear hr9 g9 PU HRW HI HBS
            go_wp2_with fail
            go_step3
            refine ⟨r.length, by simp, Or.inl ⟨rfl, JQ.mk r (acc ++ [c]) _ _ (suf_tail HX.out.1) rfl ?_ ?_ X2.out rfl⟩⟩
            · have := HX.out.2.1; simp only [List.length_cons, List.length_append, List.length_nil] at *; omega
            · exact HK.out
        · rw [if_neg hc2] at hk
          have HK := Lib.hid hk
          rw [decide_eq_false (fun h => hc2 (Or.inl h))] at h92
          have h92 := show ((c.toNat : Int) == 92) = false from h92
          rw [decide_eq_false (fun h => hc2 (Or.inr h))] at h39
          have h39 := show ((c.toNat : Int) == 39) = false from h39
          clear hk hc hc2
          go_wp2_with fail
          refine htk.mono ?_; rintro e w1 ⟨rfl, N1⟩
          have X1 := Lib.hid (HX.out.2.2.turn N1)
          obtain ⟨⟨z0, z1, z2, z3, z4, z5⟩, y0, y1, y2, y3, y4, y5⟩ := X1.out.1.z
          clear N1
          go_wp2_with fail
          obtain ⟨W, hW, ⟨e0, e1, e2, e3, e4, e5⟩, N⟩ := X1.out.1.fin (.int .i64 0) (.string ⟨#[]⟩) (.int .i64 0) (.int .u64 0) (.int .u64 0) (.int .i64 0)
          rw [hW]
          simp only [d3]
          refine bodyPost_ret (v := .tuple #[tkV 0 [] 0 0 0 0, .int .i64 2]) (by simp [results, Tryz.results81, go_sem, e0, e1, e2, e3, e4, e5, tkV]) rfl ?_
          rw [← HK.out]
          exact ⟨rfl, r, suf_tail HX.out.1, (fun x hx => by cases hx), N⟩
  · rintro n9 a9 wr ⟨l, acc, v, x, U, hl, rfl, hz, hk, X, rfl⟩
    simp only [Bool.false_eq_true, if_false] at hk
    have htk := take_any X.1.2.2.1 hl hS
    obtain ⟨sa, sc, rfl⟩ := kp.shape X.2
    have HX := Lib.hid (And.intro hl (And.intro hz X))
    clear hl hz X
    cases l with
    | nil =>
      have HK := Lib.hid hk
      clear hk
      simp only [List.head?, bi, List.tail] at htk
      go_wp2_with fail
      refine htk.mono ?_; rintro e w1 ⟨rfl, N1⟩
      have X1 := Lib.hid (HX.out.2.2.turn N1)
      obtain ⟨⟨z0, z1, z2, z3, z4, z5⟩, y0, y1, y2, y3, y4, y5⟩ := X1.out.1.z
      clear N1
      go_wp2_with fail
      obtain ⟨W, hW, ⟨e0, e1, e2, e3, e4, e5⟩, N⟩ := X1.out.1.fin (.int .i64 0) (.string ⟨#[]⟩) (.int .i64 0) (.int .u64 0) (.int .u64 0) (.int .i64 0)
      rw [hW]
      simp only [d3]
      refine bodyPost_ret (v := .tuple #[tkV 0 [] 0 0 0 0, .int .i64 2]) (by simp [results, Tryz.results81, go_sem, e0, e1, e2, e3, e4, e5, tkV]) rfl ?_
      rw [← HK.out]
      exact ⟨rfl, [], HX.out.1, (fun x hx => by cases hx), N⟩
    | cons c r =>
      simp only [List.head?, bi, List.tail] at htk
      rw [qt_cons] at hk
      have hne : (((c.toNat : Int)) == -1) = false := by have := bi_lt c; rw [beq_eq_false_iff_ne]; omega
      have h10 := beq_byte c 10 10 rfl
      have h92 := beq_byte c 92 92 rfl
      have h39 := beq_byte c 39 39 rfl
      by_cases hc : c = 10
      · rw [if_pos hc] at hk
        have HK := Lib.hid hk
        rw [decide_eq_true hc] at h10
        have h10 := show ((c.toNat : Int) == 10) = true from h10
        clear hk hc h92 h39
        go_wp2_with fail
        refine htk.mono ?_; rintro e w1 ⟨rfl, N1⟩
        have X1 := Lib.hid (HX.out.2.2.turn N1)
        obtain ⟨⟨z0, z1, z2, z3, z4, z5⟩, y0, y1, y2, y3, y4, y5⟩ := X1.out.1.z
        clear N1
        go_wp2_with fail
        obtain ⟨W, hW, ⟨e0, e1, e2, e3, e4, e5⟩, N⟩ := X1.out.1.fin (.int .i64 0) (.string ⟨#[]⟩) (.int .i64 0) (.int .u64 0) (.int .u64 0) (.int .i64 0)
        rw [hW]
        simp only [d3]
        refine bodyPost_ret (v := .tuple #[tkV 0 [] 0 0 0 0, .int .i64 2]) (by simp [results, Tryz.results81, go_sem, e0, e1, e2, e3, e4, e5, tkV]) rfl ?_
        rw [← HK.out]
        exact ⟨rfl, r, suf_tail HX.out.1, (fun x hx => by cases hx), N⟩
      · rw [if_neg hc] at hk
        rw [decide_eq_false hc] at h10
        have h10 := show ((c.toNat : Int) == 10) = false from h10
        by_cases hc9 : c = 92
        · rw [if_pos hc9] at hk
          have hk2 : pre acc (qe r) = R := by rw [← hk]; cases r <;> rfl
          have HK := Lib.hid hk2
          rw [decide_eq_true hc9] at h92
          have h92 := show ((c.toNat : Int) == 92) = true from h92
          clear hk hk2 hc hc9 h39
          go_wp2_with fail
          refine htk.mono ?_; rintro e w1 ⟨rfl, N1⟩
          have X1 := Lib.hid (HX.out.2.2.turn N1)
          clear N1
          go_wp2_with fail
          go_step3
          refine ⟨r.length, by simp, Or.inr (Or.inl ⟨rfl, JQ.mk r acc _ _ (suf_tail HX.out.1) rfl ?_ ?_ X1.out rfl⟩)⟩
          · have := HX.out.2.1; simp only [List.length_cons] at *; omega
          · exact HK.out
        · rw [if_neg hc9] at hk
          rw [decide_eq_false hc9] at h92
          have h92 := show ((c.toNat : Int) == 92) = false from h92
          by_cases hc3 : c = 39
          · rw [if_pos hc3] at hk
            rw [decide_eq_true hc3] at h39
            have h39 := show ((c.toNat : Int) == 39) = true from h39
            cases r with
            | nil =>
              have HK := Lib.hid hk
              clear hk hc hc9 hc3
              obtain ⟨k', t', n', re', im', er, hsh⟩ := trv_shape (txt 2 acc [])
              have htx := fun w => texted_any 2 acc [] (by have := HX.out.2.1; omega) w
              simp only [hsh] at htx
              have HSH := Lib.hid hsh
              clear hsh
              go_wp2_with fail
              refine htk.mono ?_; rintro e w1 ⟨rfl, N1⟩
              have X1 := Lib.hid (HX.out.2.2.turn N1)
              have hpk := peek_any N1.1 (suf_tail HX.out.1) hS
              simp only [List.head?, bi] at hpk
              clear N1
              go_wp2_with fail
              refine hpk.mono ?_; rintro e w2 ⟨rfl, N2⟩
              have X2 := Lib.hid (X1.out.turn N2)
              have hcv := X2.out.conv
              clear N2
              go_wp2_with fail
              refine (htx _).mono ?_; rintro e w6 ⟨rfl, b6⟩
              have D6 := Lib.hid (X2.out.1.below b6)
              clear b6 htx hcv
              obtain ⟨⟨z0, z1, z2, z3, z4, z5⟩, y0, y1, y2, y3, y4, y5⟩ := D6.out.z
              unfold tkV
              go_wp2_with fail
              obtain ⟨W, hW, ⟨e0, e1, e2, e3, e4, e5⟩, N⟩ := D6.out.fin (.int .i64 k') (.string ⟨t'.toArray⟩) (.int .i64 n') (.int .u64 re') (.int .u64 im') (.int .i64 0)
              rw [hW]
              simp only [d3]
              refine bodyPost_ret (v := .tuple #[tkV k' t' n' re' im' 0, .int .i64 er]) (by simp [results, Tryz.results81, go_sem, e0, e1, e2, e3, e4, e5, tkV]) rfl ?_
              rw [← HK.out]
              refine ⟨?_, [], suf_tail HX.out.1, (fun x hx => by simp [pre] at hx; rw [← hx]), N⟩
              simp only [pre, Option.map, qtr, List.append_nil]
              rw [HSH.out]
            | cons d r' =>
              have h39d := beq_byte d 39 39 rfl
              by_cases hd : d = 39
              · dsimp only at hk
                rw [if_pos hd, pre_cons] at hk
                have HK := Lib.hid (show pre (acc ++ [c]) (qt r') = R by rw [hc3]; exact hk)
                rw [decide_eq_true hd] at h39d
                have h39d := show ((d.toNat : Int) == 39) = true from h39d
                have hn39 : ((d.toNat : Int) != 39) = false := by rw [bne, h39d]; rfl
                clear hk hc hc9 hc3 hd
                go_wp2_with fail
                refine htk.mono ?_; rintro e w1 ⟨rfl, N1⟩
                have X0 := Lib.hid (HX.out.2.2.turn N1)
                have hpk := peek_any N1.1 (suf_tail HX.out.1) hS
                simp only [List.head?, bi] at hpk
                clear N1
                go_wp2_with fail
                refine hpk.mono ?_; rintro e w2 ⟨rfl, N2⟩
                have X0b := Lib.hid (X0.out.turn N2)
                have htk2 := take_any N2.1 (suf_tail HX.out.1) hS
                simp only [List.tail] at htk2
                clear N2
                go_wp2_with fail
                refine htk2.mono ?_; rintro e w3 ⟨rfl, N3⟩
                have X1 := Lib.hid (X0b.out.turn N3)
                clear N3
                obtain ⟨i0, hi, hz0, hz1, hz2⟩ := info_of infoU
                have HI := Lib.hid (And.intro hi (And.intro hz0 (And.intro hz1 hz2)))
                have hrow := X1.out.2
                have hlen9 : acc.length ≤ 65536 := by have := HX.out.2.1; omega
                have PU := Lib.hid (fun v' w2 hr g2 => RW.push (v' := v') (w2 := w2) X1.out (c) hr g2)
                have hsz9 := Nw.lt X1.out.1.2.2.2.1
                have HRW := Lib.hid (hrow.alloc (.cells #[bv (c)] 5))
                have HBS := Lib.hid (show r0 + 1 ≤ ((w3).alloc (.cells #[bv (c)] 5)).heap.size by rw [alloc_size]; omega)
                clear hi hz0 hz1 hz2 hrow hsz9
                go_wp2_with (at_builtin; refine wpList_append_own_at _ rfl (.tmp 27) (.tmp 30) 123 rfl (r0 + 1) 5 i0 (.int .u8 0) 1 1 Tryz.underlying123 HI.out.1 HI.out.2.1 HI.out.2.2.1 HI.out.2.2.2 rfl (by decide) _ _ _ rfl HRW.out ⟨(w3).heap.size, 0, none⟩ 1 1 [bv (c)] rfl rfl (one_new _ _ _) ?c2 ?b1 ?b2 ?b3 ?_)
                case c2 => intro u hu; simp at hu; subst hu; rfl
                case b1 => unfold maxLen; omega
                case b2 => omega
                case b3 => exact HBS.out
                intro v' w9 hr9 g9 _ _
                have X2 := Lib.hid (PU.out v' w9 (by simpa using hr9) g9)
                clear hr9 g9 PU HRW HI HBS
                go_wp2_with fail
                go_step3
                refine ⟨r'.length, by simp; omega, Or.inl ⟨rfl, JQ.mk r' (acc ++ [c]) _ _ (suf_tail (suf_tail HX.out.1)) rfl ?_ ?_ X2.out rfl⟩⟩
                · have := HX.out.2.1; simp only [List.length_cons, List.length_append, List.length_nil] at *; omega
                · exact HK.out
              · dsimp only at hk
                rw [if_neg hd] at hk
                have HK := Lib.hid hk
                rw [decide_eq_false hd] at h39d
                have h39d := show ((d.toNat : Int) == 39) = false from h39d
                have hn39 : ((d.toNat : Int) != 39) = true := by rw [bne, h39d]; rfl
                clear hk hc hc9 hc3 hd
                obtain ⟨k', t', n', re', im', er, hsh⟩ := trv_shape (txt 2 acc (d :: r'))
                have htx := fun w => texted_any 2 acc (d :: r') (by have := HX.out.2.1; omega) w
                simp only [hsh] at htx
                have HSH := Lib.hid hsh
                clear hsh
                go_wp2_with fail
                refine htk.mono ?_; rintro e w1 ⟨rfl, N1⟩
                have X1 := Lib.hid (HX.out.2.2.turn N1)
                have hpk := peek_any N1.1 (suf_tail HX.out.1) hS
                simp only [List.head?, bi] at hpk
                clear N1
                go_wp2_with fail
                refine hpk.mono ?_; rintro e w2 ⟨rfl, N2⟩
                have X2 := Lib.hid (X1.out.turn N2)
                have hcv := X2.out.conv
                clear N2
                go_wp2_with fail
                refine (htx _).mono ?_; rintro e w6 ⟨rfl, b6⟩
                have D6 := Lib.hid (X2.out.1.below b6)
                clear b6 htx hcv
                obtain ⟨⟨z0, z1, z2, z3, z4, z5⟩, y0, y1, y2, y3, y4, y5⟩ := D6.out.z
                unfold tkV
                go_wp2_with fail
                obtain ⟨W, hW, ⟨e0, e1, e2, e3, e4, e5⟩, N⟩ := D6.out.fin (.int .i64 k') (.string ⟨t'.toArray⟩) (.int .i64 n') (.int .u64 re') (.int .u64 im') (.int .i64 0)
                rw [hW]
                simp only [d3]
                refine bodyPost_ret (v := .tuple #[tkV k' t' n' re' im' 0, .int .i64 er]) (by simp [results, Tryz.results81, go_sem, e0, e1, e2, e3, e4, e5, tkV]) rfl ?_
                rw [← HK.out]
                refine ⟨?_, (d :: r'), suf_tail HX.out.1, (fun x hx => by simp [pre] at hx; rw [← hx]), N⟩
                simp only [pre, Option.map, qtr, List.append_nil]
                rw [HSH.out]
          · rw [if_neg hc3, pre_cons] at hk
            have HK := Lib.hid hk
            rw [decide_eq_false hc3] at h39
            have h39 := show ((c.toNat : Int) == 39) = false from h39
            clear hk hc hc9 hc3
            go_wp2_with fail
            refine htk.mono ?_; rintro e w1 ⟨rfl, N1⟩
            have X1 := Lib.hid (HX.out.2.2.turn N1)
            clear N1
            obtain ⟨i0, hi, hz0, hz1, hz2⟩ := info_of infoU
            have HI := Lib.hid (And.intro hi (And.intro hz0 (And.intro hz1 hz2)))
            have hrow := X1.out.2
            have hlen9 : acc.length ≤ 65536 := by have := HX.out.2.1; omega
            have PU := Lib.hid (fun v' w2 hr g2 => RW.push (v' := v') (w2 := w2) X1.out (c) hr g2)
            have hsz9 := Nw.lt X1.out.1.2.2.2.1
            have HRW := Lib.hid (hrow.alloc (.cells #[bv (c)] 5))
            have HBS := Lib.hid (show r0 + 1 ≤ ((w1).alloc (.cells #[bv (c)] 5)).heap.size by rw [alloc_size]; omega)
            clear hi hz0 hz1 hz2 hrow hsz9
            go_wp2_with (at_builtin; refine wpList_append_own_at _ rfl (.tmp 27) (.tmp 30) 123 rfl (r0 + 1) 5 i0 (.int .u8 0) 1 1 Tryz.underlying123 HI.out.1 HI.out.2.1 HI.out.2.2.1 HI.out.2.2.2 rfl (by decide) _ _ _ rfl HRW.out ⟨(w1).heap.size, 0, none⟩ 1 1 [bv (c)] rfl rfl (one_new _ _ _) ?c2 ?b1 ?b2 ?b3 ?_)
            case c2 => intro u hu; simp at hu; subst hu; rfl
            case b1 => unfold maxLen; omega
            case b2 => omega
            case b3 => exact HBS.out
            intro v' w9 hr9 g9 _ _
            have X2 := Lib.hid (PU.out v' w9 (by simpa using hr9) g9)
            clear hr9 g9 PU HRW HI HBS
            go_wp2_with fail
            go_step3
            refine ⟨r.length, by simp, Or.inl ⟨rfl, JQ.mk r (acc ++ [c]) _ _ (suf_tail HX.out.1) rfl ?_ ?_ X2.out rfl⟩⟩
            · have := HX.out.2.1; simp only [List.length_cons, List.length_append, List.length_nil] at *; omega
            · exact HK.out
  · intro dn
    refine ⟨l.length, ?_⟩
    go_wp2_with fail
    refine wp_label ?_
    refine (by assumption : ∀ a w, Code.wp Tryz.prog _ _ a w → _) _ _ ?_
    refine dn _ _ _ (JQ.mk l [] _ _ H0.out.1 rfl (by have := H0.out.1.length_le; simp only [List.length_nil]; omega) ?_ H0.out.2.1 rfl)
    rw [← H0.out.2.2]; simp [pre]
end
end Go.Proofs.YtedbcmagjbgbjaaGreatDoor.tk
