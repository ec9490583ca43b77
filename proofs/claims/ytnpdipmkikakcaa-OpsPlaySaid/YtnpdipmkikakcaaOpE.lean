/- (*Table).get, Prefix, Infix. -/
import Derived.Test.YtnpdipmkikakcaaOpD
namespace Go.Proofs.Ytnpdipmkikakcaa.ope
open Go.ChangeShapes Go.WideShapes Go.ChangeAt Go.RowKit
open Go.Proofs.Ytnpdipmkikakcaa.kp Go.Proofs.Ytnpdipmkikakcaa.opa Go.Proofs.Ytnpdipmkikakcaa.opb Go.Proofs.Ytnpdipmkikakcaa.opc Go.Proofs.Ytnpdipmkikakcaa.opd
set_option linter.unusedVariables false
def gd (l : List D) (o : D) : D := (md l o).head?.getD ⟨[], 0, 0⟩
theorem gd_no {l : List D} {o : D} (h : is l o = false) : gd l o = ⟨[], 0, 0⟩ := by
  have : md l o = [] := by unfold is at h; simpa using h
  simp [gd, this]
theorem gd_is {l : List D} (hs : Srt l) {o : D} (h : is l o = true) : ∃ hx : ix l o < l.length, l[ix l o] = gd l o := by
  obtain ⟨x, e, _, _, _, hx, q, _⟩ := at_is hs h
  exact ⟨hx, by rw [q hx]; simp [gd, e]⟩
theorem set3_block {w : World} {b : Nat} {d z : D} (h : w.heap[b]? = some (.cells z.cs.toArray 32 (0, 0))) : (set3 w b 0 d).heap[b]? = some (.cells d.cs.toArray 32 (0, 0)) := by
  simp only [set3, World.setCell, Array.getElem?_modify, h]
  simp [D.cs]
theorem zero_run (w : World) : (zeroValue 32).run Try.prog w = .ok ZV w := by kernel_rfl
set_option maxRecDepth 100000 in
set_option maxHeartbeats 4000000 in
theorem get_nil (o : D) (w : World) : Calls Try.prog 32 #[.pointer none, o.v] w fun e w' => e = .returned (.tuple #[ZV, .bool false]) ∧ Below w.heap.size w w' := by
  obtain ⟨n, k, q⟩ := o
  simp only [D.v]
  go_enter Try.func32, Try.ntmps32
  go_wp2_with fail
  have hz := alloc_at (w.alloc (.cells #[.string ⟨n.toArray⟩, .int .i64 k, .int .i64 q] 32)) (.cells (D.cs ⟨[], 0, 0⟩).toArray 32)
  rw [alloc_size] at hz
  obtain ⟨z0, z1, z2, _⟩ := box_cells hz
  simp only [D.cs] at z0 z1 z2
  exact bodyPost_ret (v := .tuple #[ZV, .bool false]) (by simp [results, Try.results32, go_sem, z0, z1, z2, ZV]) rfl ⟨rfl, bt (ba _ _) (ba _ _)⟩
set_option maxRecDepth 100000 in
set_option maxHeartbeats 4000000 in
theorem get_any {p : Nat} {F : Nat → Prop} {l : List D} (o : D) (w : World) (h : Tb w p F l) (hs : Srt l) (hl : l.length ≤ 1000) :
    Calls Try.prog 32 #[.pointer (some ⟨p, 0, none⟩), o.v] w fun e w' => e = .returned (.tuple #[(gd l o).v, .bool (is l o)]) ∧ Below w.heap.size w w' := by
  have hb1 := ba w (.cells o.cs.toArray 32)
  have hb2 := ba (w.alloc (.cells o.cs.toArray 32)) (.cells #[.string ⟨#[]⟩, .int .i64 0, .int .i64 0] 32)
  have hb := bt hb1 hb2
  obtain ⟨f0, f1, f2, _⟩ := box_cells (alloc_at w (.cells o.cs.toArray 32))
  obtain ⟨n, k, q⟩ := o
  simp only [D.v, D.cs] at hb f0 f1 f2 ⊢
  have HR := Lib.hid (And.intro (h.below hb) (And.intro hs hb))
  clear h hs hb hb1 hb2
  go_enter Try.func32, Try.ntmps32
  go_wp2_with fail
  have hz := alloc_at (w.alloc (.cells #[.string ⟨n.toArray⟩, .int .i64 k, .int .i64 q] 32)) (.cells #[.string ⟨#[]⟩, .int .i64 0, .int .i64 0] 32)
  rw [alloc_size] at hz
  generalize hw1 : ((w.alloc (.cells #[.string ⟨n.toArray⟩, .int .i64 k, .int .i64 q] 32)).alloc (.cells #[.string ⟨#[]⟩, .int .i64 0, .int .i64 0] 32)) = w1 at hz ⊢
  have HR1 : Hid (Tb w1 p F l ∧ Srt l ∧ Below w.heap.size w w1) := Lib.hid (by rw [← hw1]; exact HR.out)
  clear hw1 HR f0 f1 f2
  have HZ := Lib.hid hz
  clear hz
  refine (find_any ⟨n, k, q⟩ _ HR1.out.1 HR1.out.2.1 hl).mono ?_
  rintro e w4 ⟨rfl, hb4⟩
  have ht4 := HR1.out.1.below hb4
  have hz4 : w4.heap[w.heap.size + 1]? = some (.cells (D.cs ⟨[], 0, 0⟩).toArray 32 (0, 0)) := (hb4.block _ (Array.getElem?_eq_some_iff.1 HZ.out).1).trans HZ.out
  have hb5 := HR1.out.2.2.trans (hb4.mono HR1.out.2.2.size)
  obtain ⟨z0, z1, z2, hzf⟩ := box_cells hz4
  have g0 := hzf 0
  have g1 := hzf 1
  have g2 := hzf 2
  have hlt := (Array.getElem?_eq_some_iff.1 hz4).1
  cases hq : is l ⟨n, k, q⟩
  · have H4 := Lib.hid (And.intro hq hb5)
    have HV := Lib.hid (gd_no hq)
    have HZ4 := Lib.hid (And.intro hz4 hlt)
    clear ht4 hz4 hb5 hb4 hzf
    go_wp2_with fail
    have hz9 := set3_block (d := ⟨[], 0, 0⟩) HZ4.out.1
    obtain ⟨y0, y1, y2, _⟩ := box_cells hz9
    have hb9 := (set3_keep w4 (w.heap.size + 1) 0 ⟨[], 0, 0⟩).to_below (B := w.heap.size) (fun k e => by subst e; omega) (by have := HZ4.out.2; omega)
    simp only [set3] at y0 y1 y2 hb9
    exact bodyPost_ret (v := .tuple #[ZV, .bool false]) (by simp [results, Try.results32, go_sem, y0, y1, y2, ZV]) rfl ⟨by rw [HV.out, H4.out.1]; rfl, H4.out.2.trans hb9⟩
  · obtain ⟨hx, hxe⟩ := gd_is HR1.out.2.1 hq
    obtain ⟨a, c, e0, _, hrw⟩ := ht4.open_
    obtain ⟨P, rfl, hP, e1, e2, e3, _, hix⟩ := hrw.look (m := ix l ⟨n, k, q⟩) hx
    rw [hxe] at e1 e2 e3
    have H4 := Lib.hid (And.intro hq hb5)
    have HZ4 := Lib.hid (And.intro hz4 hlt)
    clear ht4 hz4 hb5 hb4 hzf hrw hxe
    generalize hd : gd l ⟨n, k, q⟩ = d at e1 e2 e3 ⊢
    have HD := Lib.hid hd
    clear hd
    go_wp2_with fail
    have hz9 := set3_block (d := d) HZ4.out.1
    obtain ⟨y0, y1, y2, _⟩ := box_cells hz9
    have hb9 := (set3_keep w4 (w.heap.size + 1) 0 d).to_below (B := w.heap.size) (fun k e => by subst e; omega) (by have := HZ4.out.2; omega)
    simp only [set3] at y0 y1 y2 hb9
    exact bodyPost_ret (v := .tuple #[d.v, .bool true]) (by simp [results, Try.results32, go_sem, y0, y1, y2, D.v]) rfl ⟨by rw [H4.out.1, HD.out]; rfl, H4.out.2.trans hb9⟩
set_option maxRecDepth 100000 in
set_option maxHeartbeats 4000000 in
theorem prefix_any {p : Nat} {F : Nat → Prop} {l : List D} (n : List UInt8) (w : World) (h : Tb w p F l) (hs : Srt l) (hl : l.length ≤ 1000) :
    Calls Try.prog 15 #[.pointer (some ⟨p, 0, none⟩), .string ⟨n.toArray⟩] w fun e w' => e = .returned (.tuple #[(gd l ⟨n, 4, 0⟩).v, .bool (is l ⟨n, 4, 0⟩)]) ∧ Below w.heap.size w w' := by
  have hb := ba w (.cells (D.cs ⟨[], 0, 0⟩).toArray 32)
  have hz := alloc_at w (.cells (D.cs ⟨[], 0, 0⟩).toArray 32)
  have HR := Lib.hid (And.intro (h.below hb) (And.intro hs (And.intro hb hz)))
  clear h hs hb hz
  go_enter Try.func15, Try.ntmps15
  go_wp2_with fail
  have HR2 := HR
  simp only [D.cs] at HR2
  refine (get_any ⟨n, 4, 0⟩ _ HR2.out.1 HR2.out.2.1 hl).mono ?_
  clear HR2
  rintro e w4 ⟨rfl, hb4⟩
  have hz4 : w4.heap[w.heap.size]? = some (.cells (D.cs ⟨[], 0, 0⟩).toArray 32 (0, 0)) := (hb4.block _ (by simp)).trans HR.out.2.2.2
  have hb5 : Below w.heap.size w w4 := HR.out.2.2.1.trans (hb4.mono (by simp))
  obtain ⟨z0, z1, z2, hzf⟩ := box_cells hz4
  have g0 := hzf 0
  have g1 := hzf 1
  have g2 := hzf 2
  have hlt := (Array.getElem?_eq_some_iff.1 hz4).1
  generalize hd : gd l ⟨n, 4, 0⟩ = d
  generalize hi : is l ⟨n, 4, 0⟩ = i
  have HZ4 := Lib.hid (And.intro hz4 (And.intro hlt hb5))
  have HDI := Lib.hid (And.intro hd hi)
  simp only [D.v]
  clear hz4 hb4 hzf hd hi hb5
  go_wp2_with fail
  have hz9 := set3_block (d := d) HZ4.out.1
  obtain ⟨y0, y1, y2, _⟩ := box_cells hz9
  have hb9 := (set3_keep w4 w.heap.size 0 d).to_below (B := w.heap.size) (fun k e => by subst e; omega) (by have := HZ4.out.2.1; omega)
  simp only [set3] at y0 y1 y2 hb9
  exact bodyPost_ret (v := .tuple #[d.v, .bool i]) (by simp [results, Try.results15, go_sem, y0, y1, y2, D.v]) rfl ⟨by rw [HDI.out.1, HDI.out.2], HZ4.out.2.2.trans hb9⟩
set_option maxRecDepth 100000 in
set_option maxHeartbeats 4000000 in
theorem prefix_nil (n : List UInt8) (w : World) : Calls Try.prog 15 #[.pointer none, .string ⟨n.toArray⟩] w fun e w' => e = .returned (.tuple #[ZV, .bool false]) ∧ Below w.heap.size w w' := by
  have hb := ba w (.cells (D.cs ⟨[], 0, 0⟩).toArray 32)
  have hz := alloc_at w (.cells (D.cs ⟨[], 0, 0⟩).toArray 32)
  have HR := Lib.hid (And.intro hb hz)
  clear hb hz
  go_enter Try.func15, Try.ntmps15
  go_wp2_with fail
  refine (get_nil ⟨n, 4, 0⟩ _).mono ?_
  rintro e w4 ⟨rfl, hb4⟩
  have hz4 : w4.heap[w.heap.size]? = some (.cells (D.cs ⟨[], 0, 0⟩).toArray 32 (0, 0)) := (hb4.block _ (by simp)).trans HR.out.2
  have hb5 : Below w.heap.size w w4 := HR.out.1.trans (hb4.mono (by simp))
  obtain ⟨z0, z1, z2, hzf⟩ := box_cells hz4
  have g0 := hzf 0
  have g1 := hzf 1
  have g2 := hzf 2
  have hlt := (Array.getElem?_eq_some_iff.1 hz4).1
  have HZ4 := Lib.hid (And.intro hz4 (And.intro hlt hb5))
  simp only [ZV]
  clear hz4 hb4 hzf hb5
  go_wp2_with fail
  have hz9 := set3_block (d := ⟨[], 0, 0⟩) HZ4.out.1
  obtain ⟨y0, y1, y2, _⟩ := box_cells hz9
  have hb9 := (set3_keep w4 w.heap.size 0 ⟨[], 0, 0⟩).to_below (B := w.heap.size) (fun k e => by subst e; omega) (by have := HZ4.out.2.1; omega)
  simp only [set3] at y0 y1 y2 hb9
  exact bodyPost_ret (v := .tuple #[ZV, .bool false]) (by simp [results, Try.results15, go_sem, y0, y1, y2, ZV]) rfl ⟨rfl, HZ4.out.2.2.trans hb9⟩
set_option maxRecDepth 100000 in
set_option maxHeartbeats 4000000 in
theorem infix_any {p : Nat} {F : Nat → Prop} {l : List D} (n : List UInt8) (w : World) (h : Tb w p F l) (hs : Srt l) (hl : l.length ≤ 1000) :
    Calls Try.prog 17 #[.pointer (some ⟨p, 0, none⟩), .string ⟨n.toArray⟩] w fun e w' => e = .returned (.tuple #[(gd l ⟨n, 1, 0⟩).v, .bool (is l ⟨n, 1, 0⟩)]) ∧ Below w.heap.size w w' := by
  have hb := ba w (.cells (D.cs ⟨[], 0, 0⟩).toArray 32)
  have hz := alloc_at w (.cells (D.cs ⟨[], 0, 0⟩).toArray 32)
  have HR := Lib.hid (And.intro (h.below hb) (And.intro hs (And.intro hb hz)))
  clear h hs hb hz
  go_enter Try.func17, Try.ntmps17
  go_wp2_with fail
  have HR2 := HR
  simp only [D.cs] at HR2
  refine (get_any ⟨n, 1, 0⟩ _ HR2.out.1 HR2.out.2.1 hl).mono ?_
  clear HR2
  rintro e w4 ⟨rfl, hb4⟩
  have hz4 : w4.heap[w.heap.size]? = some (.cells (D.cs ⟨[], 0, 0⟩).toArray 32 (0, 0)) := (hb4.block _ (by simp)).trans HR.out.2.2.2
  have hb5 : Below w.heap.size w w4 := HR.out.2.2.1.trans (hb4.mono (by simp))
  obtain ⟨z0, z1, z2, hzf⟩ := box_cells hz4
  have g0 := hzf 0
  have g1 := hzf 1
  have g2 := hzf 2
  have hlt := (Array.getElem?_eq_some_iff.1 hz4).1
  generalize hd : gd l ⟨n, 1, 0⟩ = d
  generalize hi : is l ⟨n, 1, 0⟩ = i
  have HZ4 := Lib.hid (And.intro hz4 (And.intro hlt hb5))
  have HDI := Lib.hid (And.intro hd hi)
  simp only [D.v]
  clear hz4 hb4 hzf hd hi hb5
  go_wp2_with fail
  have hz9 := set3_block (d := d) HZ4.out.1
  obtain ⟨y0, y1, y2, _⟩ := box_cells hz9
  have hb9 := (set3_keep w4 w.heap.size 0 d).to_below (B := w.heap.size) (fun k e => by subst e; omega) (by have := HZ4.out.2.1; omega)
  simp only [set3] at y0 y1 y2 hb9
  exact bodyPost_ret (v := .tuple #[d.v, .bool i]) (by simp [results, Try.results17, go_sem, y0, y1, y2, D.v]) rfl ⟨by rw [HDI.out.1, HDI.out.2], HZ4.out.2.2.trans hb9⟩
set_option maxRecDepth 100000 in
set_option maxHeartbeats 4000000 in
theorem infix_nil (n : List UInt8) (w : World) : Calls Try.prog 17 #[.pointer none, .string ⟨n.toArray⟩] w fun e w' => e = .returned (.tuple #[ZV, .bool false]) ∧ Below w.heap.size w w' := by
  have hb := ba w (.cells (D.cs ⟨[], 0, 0⟩).toArray 32)
  have hz := alloc_at w (.cells (D.cs ⟨[], 0, 0⟩).toArray 32)
  have HR := Lib.hid (And.intro hb hz)
  clear hb hz
  go_enter Try.func17, Try.ntmps17
  go_wp2_with fail
  refine (get_nil ⟨n, 1, 0⟩ _).mono ?_
  rintro e w4 ⟨rfl, hb4⟩
  have hz4 : w4.heap[w.heap.size]? = some (.cells (D.cs ⟨[], 0, 0⟩).toArray 32 (0, 0)) := (hb4.block _ (by simp)).trans HR.out.2
  have hb5 : Below w.heap.size w w4 := HR.out.1.trans (hb4.mono (by simp))
  obtain ⟨z0, z1, z2, hzf⟩ := box_cells hz4
  have g0 := hzf 0
  have g1 := hzf 1
  have g2 := hzf 2
  have hlt := (Array.getElem?_eq_some_iff.1 hz4).1
  have HZ4 := Lib.hid (And.intro hz4 (And.intro hlt hb5))
  simp only [ZV]
  clear hz4 hb4 hzf hb5
  go_wp2_with fail
  have hz9 := set3_block (d := ⟨[], 0, 0⟩) HZ4.out.1
  obtain ⟨y0, y1, y2, _⟩ := box_cells hz9
  have hb9 := (set3_keep w4 w.heap.size 0 ⟨[], 0, 0⟩).to_below (B := w.heap.size) (fun k e => by subst e; omega) (by have := HZ4.out.2.1; omega)
  simp only [set3] at y0 y1 y2 hb9
  exact bodyPost_ret (v := .tuple #[ZV, .bool false]) (by simp [results, Try.results17, go_sem, y0, y1, y2, ZV]) rfl ⟨rfl, HZ4.out.2.2.trans hb9⟩
end Go.Proofs.Ytnpdipmkikakcaa.ope
