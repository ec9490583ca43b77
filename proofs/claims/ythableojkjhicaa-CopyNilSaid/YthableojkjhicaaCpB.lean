/- Package copy: first, what is met for the first time is laid but for its arguments. -/
import Derived.Test.YthableojkjhicaaCpA
namespace Go.Proofs.Ythableojkjhicaa.cpy
open Go.ChangeShapes Go.WideShapes Go.ChangeAt Go.RowKit Go.Maps
open Go.Proofs.Ythableojkjhicaa.kp Go.Proofs.Ythableojkjhicaa.cel Go.Proofs.Ythableojkjhicaa.hp Go.Proofs.Ythableojkjhicaa.ob Go.Proofs.Ythableojkjhicaa.tm Go.Proofs.Ythableojkjhicaa.pm
open Go.Proofs.Ythableojkjhicaa.rpt (HB frHB zeroC)
set_option linter.unusedVariables false
/-- the first i cells of what is laid -/
def fs (l : List Int) (tag : Int) (pl : Nat) : Nat → List Int → List Int
  | 0, T => T
  | i + 1, T => if tag = 0 ∨ (tag = 1 ∧ 0 < i) then fs l tag pl i T ++ [((fs l tag pl i T).length : Int) * 8] else fs l tag pl i T ++ [l.getD (pl + i) 0]
theorem fs_len (l : List Int) (tag : Int) (pl : Nat) (T : List Int) : ∀ i, (fs l tag pl i T).length = T.length + i
  | 0 => rfl
  | i + 1 => by rw [fs]; split <;> (rw [List.length_append, fs_len l tag pl T i]; simp; omega)
theorem fs_0 (l : List Int) (pl : Nat) (T : List Int) : fs l 0 pl 1 T = T ++ [(T.length : Int) * 8] := by rw [fs, if_pos (Or.inl rfl), fs]
theorem fs_4 (l : List Int) (pl : Nat) (T : List Int) : fs l 4 pl 1 T = T ++ [l.getD pl 0] := by rw [fs, if_neg (by simp), fs]; rfl
theorem fs_5 (l : List Int) (pl : Nat) (T : List Int) : fs l 5 pl 2 T = T ++ [l.getD pl 0] ++ [l.getD (pl + 1) 0] := by rw [fs, if_neg (by simp), fs, if_neg (by simp), fs]; rfl
theorem vrs_snoc : ∀ (n : Nat) (T : List Int), vrs (n + 1) T = vrs n T ++ [((vrs n T).length : Int) * 8]
  | 0, T => rfl
  | n + 1, T => by rw [vrs, vrs_snoc n, ← vrs]
theorem fs_1 (l : List Int) (pl : Nat) (T : List Int) : ∀ k, fs l 1 pl (k + 1) T = vrs k (T ++ [l.getD pl 0])
  | 0 => by rw [fs, if_neg (by simp), fs]; rfl
  | k + 1 => by rw [fs, if_pos (Or.inr ⟨rfl, by omega⟩), fs_1 l pl T k, ← vrs_snoc]
section
variable {E : List Int → Ob} {l : List Int} {m : Int} {b : Nat} {p q mb pb : Nat} {e : Int} {s s' : S} {n n' : Int} {C C' : Ob} {w w0 wr w' : World} {N K : Nat → Prop}
theorem cLen (v : Env p q l m b E) (fC : Fr C) (h : XC w0 N E p q mb pb e s n C wr) : Calls Try.prog 22 #[.pointer (some ⟨q, 0, none⟩)] wr fun e w' => e = .returned (.int .i64 (s.h.length : Int)) ∧ wr = w' := by
  obtain ⟨K, hE, _⟩ := h.env v fC
  exact v.len hE
theorem cVar (v : Env p q l m b E) (fC : Fr C) (h : XC w0 N E p q mb pb e s n C wr) (hm : (s.h.length : Int) < m) : Calls Try.prog 50 #[.pointer (some ⟨q, 0, none⟩)] wr fun e9 w' => e9 = .returned (.tuple #[.int .i64 (s.h.length : Int), .int .i64 0]) ∧ XC w0 N E p q mb pb e ⟨s.h ++ [(s.h.length : Int) * 8], s.a, s.v⟩ n C w' := by
  obtain ⟨K, hE, up⟩ := h.env v fC
  exact (v.var hE hm).mono fun e9 w' ⟨h1, h2⟩ => ⟨h1, up _ _ h2⟩
theorem cPush (v : Env p q l m b E) (fC : Fr C) (h : XC w0 N E p q mb pb e s n C wr) (u : Int) (hu : W64 u) (hm : (s.h.length : Int) < m) : Calls Try.prog 79 #[.pointer (some ⟨q, 0, none⟩), .int .u64 u] wr fun e9 w' => e9 = .returned (.tuple #[.int .i64 (s.h.length : Int), .int .i64 0]) ∧ XC w0 N E p q mb pb e ⟨s.h ++ [u], s.a, s.v⟩ n C w' := by
  obtain ⟨K, hE, up⟩ := h.env v fC
  exact (v.push hE u hu hm).mono fun e9 w' ⟨h1, h2⟩ => ⟨h1, up _ _ h2⟩
theorem cSet (v : Env p q l m b E) (fC : Fr C) (h : XC w0 N E p q mb pb e s n C wr) (x : Nat) (c : Int) (hb : b ≤ x) (hx : x < s.h.length) (hc : W64 c) : Calls Try.prog 61 #[.pointer (some ⟨q, 0, none⟩), .int .i64 (x : Int), .int .u64 c] wr fun e9 w' => e9 = .returned (.bool true) ∧ XC w0 N E p q mb pb e ⟨s.h.set x c, s.a, s.v⟩ n C w' := by
  obtain ⟨K, hE, up⟩ := h.env v fC
  exact (v.set hE x c hb hx hc).mono fun e9 w' ⟨h1, h2⟩ => ⟨h1, up _ _ h2⟩
/-- an argument's own cell -/
theorem cfirst_own (c k at_ : Int) (hc : W64 c) (h8 : c % 8 = 0) (h0 : 0 ≤ at_) (h1 : at_ < 1048576) :
    Calls Try.prog 104 #[.pointer (some ⟨pb, 0, none⟩), .int .u64 c, .int .i64 k, .int .i64 at_] wr fun e9 w' => e9 = .returned (.tuple #[.int .u64 (at_ * 8), .int .i64 0]) ∧ wr = w' := by
  have ht := tag_any c wr hc
  rw [h8] at ht
  have hg := ctagged_any 0 at_ wr (by decide) (by decide) h0 (by omega)
  rw [show jn 0 at_ = at_ * 8 by unfold jn; omega] at hg
  have hne : (at_ != -1) = true := by simp; omega
  clear hc h8 h0 h1
  generalize at_ * 8 = d at *
  go_enter Try.func104, Try.ntmps104
  go_wp2_with fail
  refine ht.mono ?_; rintro e w' ⟨rfl, rfl⟩
  go_wp2_with fail
  refine hg.mono ?_; rintro e w' ⟨rfl, rfl⟩
  go_wp2_with fail
  go_ret2
  exact ⟨rfl, rfl⟩
def FW (w0 : World) (N : Nat → Prop) (E : List Int → Ob) (p q mb pb : Nat) (e : Int) (l : List Int) (tag : Int) (pl k : Nat) (s : S) (n : Int) (C : Ob) (g : Nat) (iv : Value) (wr : World) : Prop :=
  ∃ i : Nat, i + g = k ∧ iv = .int .i64 (i : Int) ∧ XC w0 N E p q mb pb e ⟨fs l tag pl i s.h, s.a, s.v⟩ n C wr
set_option maxRecDepth 100000 in
set_option maxHeartbeats 4000000 in
theorem cfirst_any (v : Env p q l m b E) (fC : Fr C) (h : XC w0 N E p q mb pb (l.length : Int) s n C wr) (tag : Int) (pl k : Nat) (at_ : Int) (ht : (tag = 0 ∧ at_ = -1) ∨ tag = 1 ∨ tag = 4 ∨ tag = 5) (hk : pl + k ≤ l.length) (hm : (s.h.length : Int) + k ≤ m) :
    Calls Try.prog 104 #[.pointer (some ⟨pb, 0, none⟩), .int .u64 (jn tag (pl : Int)), .int .i64 (k : Int), .int .i64 at_] wr fun e9 w' => e9 = .returned (.tuple #[.int .u64 (jn tag (s.h.length : Int)), .int .i64 0]) ∧ XC w0 N E p q mb pb (l.length : Int) ⟨fs l tag pl k s.h, s.a, s.v⟩ n C w' := by
  have hll := v.ll
  have hml := v.ml
  have t0 : 0 ≤ tag ∧ tag ≤ 6 := by omega
  obtain ⟨c, hcc⟩ : ∃ c, c = jn tag (pl : Int) := ⟨_, rfl⟩
  have hc : W64 c := by rw [hcc]; exact jn_w _ t0.1 (by omega)
  have e8 : c % 8 = tag := by rw [hcc]; exact jn_tag _ _ t0.1 (by omega)
  have e9 : c / 8 = (pl : Int) := by rw [hcc]; exact jn_val _ _ t0.1 (by omega) (by omega) (by omega)
  have htag := fun w => tag_any c w hc
  rw [e8] at htag
  have hpl := fun w => cplace_any c w hc
  rw [e9] at hpl
  rw [← hcc]
  have hlen := cLen v fC h
  have htg := ctagged_any tag (s.h.length : Int) wr t0.1 t0.2 (by omega) (by omega)
  obtain ⟨⟨c0, c1, c2, c3, c4⟩, f4⟩ := h.five v fC
  have X1 := Lib.hid h
  have HM := Lib.hid hm
  have HK := Lib.hid hk
  have HT := Lib.hid ht
  have hpk : (pl : Int) ≤ 1048576 ∧ (k : Int) ≤ 1048576 := by omega
  have HPK := Lib.hid hpk
  have hguard : ((tag == 0) && (at_ != -1)) = false := by
    rcases ht with ⟨_, h⟩ | h | h | h
    · subst h; simp
    · subst h; simp
    · subst h; simp
    · subst h; simp
  clear h hcc hc e8 e9 hm hk hpk hll hml t0
  obtain ⟨z, hz⟩ : ∃ z, z = (s.h.length : Int) := ⟨_, rfl⟩
  rw [← hz] at hlen htg ⊢
  have HZ := Lib.hid hz
  clear hz
  obtain ⟨dd, hdd⟩ : ∃ dd, dd = jn tag z := ⟨_, rfl⟩
  rw [← hdd] at htg ⊢
  clear hdd
  go_enter Try.func104, Try.ntmps104
  go_wp2_with fail
  refine (htag _).mono ?_; rintro e w' ⟨rfl, rfl⟩
  have hstart : ∀ g : Nat, g = k → FW w0 N E p q mb pb (l.length : Int) l tag pl k s n C g (.int .i64 0) wr := fun g hg => ⟨0, by omega, rfl, X1.out⟩
  have hround : True := trivial
  rcases ht with ⟨rfl, rfl⟩ | rfl | rfl | rfl
  all_goals clear hround hguard
  · go_wp2_with fail
    refine hlen.mono ?_; rintro e w' ⟨rfl, rfl⟩
    go_wp2_with fail
    refine htg.mono ?_; rintro e w' ⟨rfl, rfl⟩
    clear hlen htg htag c0 c1 c2 c3 c4 f4
    go_wp2_with fail
    go_loopg [35] k (FW w0 N E p q mb pb (l.length : Int) l 0 pl k s n C)
    case atStart => exact hstart _ rfl
    case round =>
      obtain ⟨i, hig, rfl, x⟩ := hrel
      by_cases hlt : i < k
      · obtain ⟨⟨c0, c1, c2, c3, c4⟩, f4⟩ := x.five v fC
        have hv := cVar v fC x (by show ((fs l 0 pl i s.h).length : Int) < m; rw [fs_len]; have := HM.out; omega)
        obtain ⟨g9, rfl⟩ : ∃ g9, gk = g9 + 1 := ⟨gk - 1, by omega⟩
        have hki : (i : Int) < (k : Int) := by omega
        have HL := Lib.hid hlt
        have hib : (i : Int) ≤ 1048576 := by have := HPK.out; omega
        clear hlt x
        go_wp2_with fail
        refine hv.mono ?_; rintro e w5 ⟨rfl, x5⟩
        have X5 := Lib.hid x5
        clear x5 hv c0 c1 c2 c3 c4 f4
        go_wp2_with fail
        go_roundg g9
        case measure => omega
        case rel => exact ⟨i + 1, by omega, by go_num, by have := X5.out; rw [fs, if_pos (Or.inl rfl)]; exact this⟩
      · have hki : ¬ (i : Int) < (k : Int) := by omega
        have hik : i = k := by omega
        subst hik
        have X5 := Lib.hid x
        clear x hki hlt
        have hki : ¬ (i : Int) < (i : Int) := by omega
        go_wp2_with fail
        go_ret2
        exact ⟨rfl, X5.out⟩
  · go_wp2_with fail
    refine hlen.mono ?_; rintro e w' ⟨rfl, rfl⟩
    go_wp2_with fail
    refine htg.mono ?_; rintro e w' ⟨rfl, rfl⟩
    clear hlen htg htag c0 c1 c2 c3 c4 f4
    go_wp2_with fail
    go_loopg [35] k (FW w0 N E p q mb pb (l.length : Int) l 1 pl k s n C)
    case atStart => exact hstart _ rfl
    case round =>
      obtain ⟨i, hig, rfl, x⟩ := hrel
      by_cases hlt : i < k
      · obtain ⟨⟨c0, c1, c2, c3, c4⟩, f4⟩ := x.five v fC
        by_cases hi : i = 0
        · have HI := Lib.hid hi
          clear hi
          have hv := cPush v fC x (l.getD (pl + i) 0) (hp.getD_w v.lw _) (by show ((fs l 1 pl i s.h).length : Int) < m; rw [fs_len]; have := HM.out; omega)
          have hgt := cget_any v fC x (pl + i) (by have := HK.out; omega)
          have HG := Lib.hid (show ∀ y : Int, y = (pl : Int) + (i : Int) → Calls Try.prog 77 #[.pointer (some ⟨pb, 0, none⟩), .int .i64 y] wr fun e w' => e = .returned (.tuple #[.int .u64 (l.getD (pl + i) 0), .bool true]) ∧ wr = w' from fun y hy => by rw [show y = ((pl + i : Nat) : Int) by omega]; exact hgt)
          clear hgt
          have hpb := HPK.out.1
          have hpb0 : 0 ≤ (pl : Int) := by omega
          obtain ⟨g9, rfl⟩ : ∃ g9, gk = g9 + 1 := ⟨gk - 1, by omega⟩
          have hki : (i : Int) < (k : Int) := by omega
          have HL := Lib.hid hlt
          have hib : (i : Int) ≤ 1048576 := by have := HPK.out; omega
          have HFS := Lib.hid (show fs l 1 pl (i + 1) s.h = fs l 1 pl i s.h ++ [l.getD (pl + i) 0] by rw [fs, if_neg (by rw [HI.out]; simp)])
          have hi0 : ¬ (i : Int) > 0 := by have := HI.out; omega
          clear hlt x
          generalize l.getD (pl + i) 0 = u at *
          go_wp2_with fail
          refine (hpl _).mono ?_; rintro e w' ⟨rfl, rfl⟩
          go_wp2_with fail
          refine (HG.out _ (by omega)).mono ?_; rintro e w' ⟨rfl, rfl⟩
          go_wp2_with fail
          refine hv.mono ?_; rintro e w5 ⟨rfl, x5⟩
          have X5 := Lib.hid x5
          clear x5 hv c0 c1 c2 c3 c4 f4
          go_wp2_with fail
          go_roundg g9
          case measure => omega
          case rel => exact ⟨i + 1, by omega, by go_num, by have := X5.out; rw [HFS.out]; exact this⟩
        · have HI := Lib.hid (Nat.pos_of_ne_zero hi)
          clear hi
          have hv := cVar v fC x (by show ((fs l 1 pl i s.h).length : Int) < m; rw [fs_len]; have := HM.out; omega)
          obtain ⟨g9, rfl⟩ : ∃ g9, gk = g9 + 1 := ⟨gk - 1, by omega⟩
          have hki : (i : Int) < (k : Int) := by omega
          have HL := Lib.hid hlt
          have hib : (i : Int) ≤ 1048576 := by have := HPK.out; omega
          have hi0 : (i : Int) > 0 := by have := HI.out; omega
          clear hlt x
          go_wp2_with fail
          refine hv.mono ?_; rintro e w5 ⟨rfl, x5⟩
          have X5 := Lib.hid x5
          clear x5 hv c0 c1 c2 c3 c4 f4
          go_wp2_with fail
          go_roundg g9
          case measure => omega
          case rel => exact ⟨i + 1, by omega, by go_num, by have := X5.out; rw [fs, if_pos (Or.inr ⟨rfl, HI.out⟩)]; exact this⟩
      · have hki : ¬ (i : Int) < (k : Int) := by omega
        have hik : i = k := by omega
        subst hik
        have X5 := Lib.hid x
        clear x hki hlt
        have hki : ¬ (i : Int) < (i : Int) := by omega
        go_wp2_with fail
        go_ret2
        exact ⟨rfl, X5.out⟩
  · go_wp2_with fail
    refine hlen.mono ?_; rintro e w' ⟨rfl, rfl⟩
    go_wp2_with fail
    refine htg.mono ?_; rintro e w' ⟨rfl, rfl⟩
    clear hlen htg htag c0 c1 c2 c3 c4 f4
    go_wp2_with fail
    go_loopg [35] k (FW w0 N E p q mb pb (l.length : Int) l 4 pl k s n C)
    case atStart => exact hstart _ rfl
    case round =>
      obtain ⟨i, hig, rfl, x⟩ := hrel
      by_cases hlt : i < k
      · obtain ⟨⟨c0, c1, c2, c3, c4⟩, f4⟩ := x.five v fC
        have hv := cPush v fC x (l.getD (pl + i) 0) (hp.getD_w v.lw _) (by show ((fs l 4 pl i s.h).length : Int) < m; rw [fs_len]; have := HM.out; omega)
        have hgt := cget_any v fC x (pl + i) (by have := HK.out; omega)
        have HG := Lib.hid (show ∀ y : Int, y = (pl : Int) + (i : Int) → Calls Try.prog 77 #[.pointer (some ⟨pb, 0, none⟩), .int .i64 y] wr fun e w' => e = .returned (.tuple #[.int .u64 (l.getD (pl + i) 0), .bool true]) ∧ wr = w' from fun y hy => by rw [show y = ((pl + i : Nat) : Int) by omega]; exact hgt)
        clear hgt
        have hpb := HPK.out.1
        have hpb0 : 0 ≤ (pl : Int) := by omega
        obtain ⟨g9, rfl⟩ : ∃ g9, gk = g9 + 1 := ⟨gk - 1, by omega⟩
        have hki : (i : Int) < (k : Int) := by omega
        have HL := Lib.hid hlt
        have hib : (i : Int) ≤ 1048576 := by have := HPK.out; omega
        have HFS := Lib.hid (show fs l 4 pl (i + 1) s.h = fs l 4 pl i s.h ++ [l.getD (pl + i) 0] by rw [fs, if_neg (by simp; try omega)])
        clear hlt x
        generalize l.getD (pl + i) 0 = u at *
        go_wp2_with fail
        refine (hpl _).mono ?_; rintro e w' ⟨rfl, rfl⟩
        go_wp2_with fail
        refine (HG.out _ (by omega)).mono ?_; rintro e w' ⟨rfl, rfl⟩
        go_wp2_with fail
        refine hv.mono ?_; rintro e w5 ⟨rfl, x5⟩
        have X5 := Lib.hid x5
        clear x5 hv c0 c1 c2 c3 c4 f4
        go_wp2_with fail
        go_roundg g9
        case measure => omega
        case rel => exact ⟨i + 1, by omega, by go_num, by have := X5.out; rw [HFS.out]; exact this⟩
      · have hki : ¬ (i : Int) < (k : Int) := by omega
        have hik : i = k := by omega
        subst hik
        have X5 := Lib.hid x
        clear x hki hlt
        have hki : ¬ (i : Int) < (i : Int) := by omega
        go_wp2_with fail
        go_ret2
        exact ⟨rfl, X5.out⟩
  · go_wp2_with fail
    refine hlen.mono ?_; rintro e w' ⟨rfl, rfl⟩
    go_wp2_with fail
    refine htg.mono ?_; rintro e w' ⟨rfl, rfl⟩
    clear hlen htg htag c0 c1 c2 c3 c4 f4
    go_wp2_with fail
    go_loopg [35] k (FW w0 N E p q mb pb (l.length : Int) l 5 pl k s n C)
    case atStart => exact hstart _ rfl
    case round =>
      obtain ⟨i, hig, rfl, x⟩ := hrel
      by_cases hlt : i < k
      · obtain ⟨⟨c0, c1, c2, c3, c4⟩, f4⟩ := x.five v fC
        have hv := cPush v fC x (l.getD (pl + i) 0) (hp.getD_w v.lw _) (by show ((fs l 5 pl i s.h).length : Int) < m; rw [fs_len]; have := HM.out; omega)
        have hgt := cget_any v fC x (pl + i) (by have := HK.out; omega)
        have HG := Lib.hid (show ∀ y : Int, y = (pl : Int) + (i : Int) → Calls Try.prog 77 #[.pointer (some ⟨pb, 0, none⟩), .int .i64 y] wr fun e w' => e = .returned (.tuple #[.int .u64 (l.getD (pl + i) 0), .bool true]) ∧ wr = w' from fun y hy => by rw [show y = ((pl + i : Nat) : Int) by omega]; exact hgt)
        clear hgt
        have hpb := HPK.out.1
        have hpb0 : 0 ≤ (pl : Int) := by omega
        obtain ⟨g9, rfl⟩ : ∃ g9, gk = g9 + 1 := ⟨gk - 1, by omega⟩
        have hki : (i : Int) < (k : Int) := by omega
        have HL := Lib.hid hlt
        have hib : (i : Int) ≤ 1048576 := by have := HPK.out; omega
        have HFS := Lib.hid (show fs l 5 pl (i + 1) s.h = fs l 5 pl i s.h ++ [l.getD (pl + i) 0] by rw [fs, if_neg (by simp; try omega)])
        clear hlt x
        generalize l.getD (pl + i) 0 = u at *
        go_wp2_with fail
        refine (hpl _).mono ?_; rintro e w' ⟨rfl, rfl⟩
        go_wp2_with fail
        refine (HG.out _ (by omega)).mono ?_; rintro e w' ⟨rfl, rfl⟩
        go_wp2_with fail
        refine hv.mono ?_; rintro e w5 ⟨rfl, x5⟩
        have X5 := Lib.hid x5
        clear x5 hv c0 c1 c2 c3 c4 f4
        go_wp2_with fail
        go_roundg g9
        case measure => omega
        case rel => exact ⟨i + 1, by omega, by go_num, by have := X5.out; rw [HFS.out]; exact this⟩
      · have hki : ¬ (i : Int) < (k : Int) := by omega
        have hik : i = k := by omega
        subst hik
        have X5 := Lib.hid x
        clear x hki hlt
        have hki : ¬ (i : Int) < (i : Int) := by omega
        go_wp2_with fail
        go_ret2
        exact ⟨rfl, X5.out⟩
end
end Go.Proofs.Ythableojkjhicaa.cpy
