/- The reader's values: one value, and so many one behind the other. -/
import Derived.Test.YthplnjgijmilnaaDoorRdB
import Derived.Lib.Strings
import Derived.Lib.Walk
import Derived.Lib.BufferWrite
import Derived.Lib.UnsafeStr
import Derived.Laws.MakeOwn
namespace Go.Proofs.YthplnjgijmilnaaDoor
open Go.RowKit

theorem cells_u8 : Tryd.prog.cellsOf 5 = 1 := by kernel_rfl

set_option maxHeartbeats 1000000 in
set_option maxRecDepth 100000 in
theorem lClone_any (x : List UInt8) (w : World) (hx : x.length ≤ 255) :
    Calls Tryd.prog 87 #[.string (str x)] w fun e w' => e = .returned (.string (str x)) ∧ Below w.heap.size w w' := by
  have hs := str_size x
  by_cases h0 : x = []
  · subst h0
    go_enter Tryd.func87, Tryd.ntmps87
    go_wp2
    go_ret
    exact ⟨rfl, Below.refl _ _⟩
  · have hpos := List.length_pos_iff.2 h0
    have hmk : ∀ W, (Instr.makeSlice 37 (.int .i64 (x.length : Int)) (.int .i64 (x.length : Int))).run Tryd.prog W = .ok (.slice (some ⟨W.heap.size, 0, none⟩) x.length x.length) (W.alloc (.cells (madeCells #[.int .u8 0] x.length) 5)) :=
      fun W => run_make_row' 37 5 (.int .u8 0) 1 (by kernel_rfl) info_u8 rfl .i64 .i64 x.length (by omega) (by omega) W
    obtain ⟨M, hM⟩ : ∃ M, M = madeCells #[Value.int .u8 0] x.length := ⟨_, rfl⟩
    have hMs : M.size = x.length := by rw [hM, size_madeCells]
    rw [← hM] at hmk
    clear hM
    have hcp := Lib.run_copy_row_string (P := Tryd.prog) (w.alloc (.cells M 5)) 37 9 3 5 w.heap.size 0 x.length x.length (str x) M 5 Tryd.underlying37 (by kernel_rfl) (MapKept.heap_alloc w _).1 (by omega) (by omega)
    obtain ⟨Y, hY⟩ : ∃ Y, Y = (M.toList.take 0 ++ Lib.byteCells (str x).data.toList ++ M.toList.drop (0 + (str x).size)).toArray := ⟨_, rfl⟩
    rw [← hY] at hcp
    have hYl : Y.toList = Lib.byteCells x := by
      rw [hY, List.toList_toArray, List.take_zero, List.nil_append, List.drop_of_length_le (by rw [Array.length_toList]; omega), List.append_nil]
      simp [str]
    have hYs : Y.size = x.length := by rw [← Array.length_toList, hYl, Lib.byteCells_length]
    have hgY : ((w.alloc (.cells M 5)).setRow w.heap.size Y).heap[w.heap.size]? = some (.cells Y 5 (0, 0)) := setRow_heap _ _ M _ 5 (0, 0) (MapKept.heap_alloc w _).1
    have hUS := Lib.run_unsafeString_row (P := Tryd.prog) (w := (w.alloc (.cells M 5)).setRow w.heap.size Y) 125 3 9 5 Tryd.underlying125 cells_u8 w.heap.size Y.size (by unfold World.shape?; rw [hgY]) x h0 (by omega) (by omega)
      (fun j b hb => Lib.cells_of_row hgY Y.size j _ (by rw [List.take_of_length_le (by rw [Array.length_toList]; exact Nat.le_refl _), hYl]; simp [Lib.byteCells, hb]))
    rw [hs] at hcp
    clear hY
    have hz : ((x.length : Int) == 0) = false := by rw [beq_eq_false_iff_ne]; omega
    have hix : (0 : Int) ≤ 0 ∧ (0 : Int) < (x.length : Int) := by omega
    clear hpos
    go_enter Tryd.func87, Tryd.ntmps87
    go_wp2
    go_ret
    have hb1 : Below w.heap.size w (w.alloc (.cells M 5)) := (Below.refl _ w).alloc (Nat.le_refl _) _
    have hb2 : Below w.heap.size (w.alloc (.cells M 5)) ((w.alloc (.cells M 5)).setRow w.heap.size Y) := ⟨rfl, rfl, rfl, by simp, fun k hk => setRow_other _ _ _ _ (by omega)⟩
    exact ⟨rfl, Lib.below_freeze (hb1.trans hb2) (p := ⟨w.heap.size, 0, none⟩) (Nat.le_refl _) _⟩

set_option maxHeartbeats 400000 in
theorem sClone_any (x : List UInt8) (w : World) (hx : x.length ≤ 255) :
    Calls Tryd.prog 86 #[.string (str x)] w fun e w' => e = .returned (.string (str x)) ∧ Below w.heap.size w w' := by
  go_enter Tryd.func86, Tryd.ntmps86
  go_wp2_with (go_at_call 87; refine (lClone_any x _ hx).mono ?_; rintro e w' ⟨rfl, hb⟩)
  go_ret
  exact ⟨rfl, hb⟩

/-- A text behind its length. -/
def rdText (bs : List UInt8) : Option (List UInt8 × List UInt8) :=
  match rdByte bs with
  | none => none
  | some (n, r) => rdTake n r
/-- The next value of a type. -/
def rdValue (t : Int) (bs : List UInt8) : Option (V × List UInt8) :=
  if t = 1 then (rdNumber bs).map fun x => (⟨1, x.1, str []⟩, x.2)
  else if t = 2 then (rdByte bs).map fun x => (⟨2, (x.1 : Int), str []⟩, x.2)
  else (rdText bs).map fun x => (⟨3, 0, str x.1⟩, x.2)

theorem RKeep.alloc {w w' : World} {g : Nat} (h : RKeep w w' g) (o : Obj) : RKeep w (w'.alloc o) g := h.trans (RKeep.of_below ((Below.refl _ _).alloc (Nat.le_refl _) _) g)
theorem RAt.alloc {w : World} {g : Nat} {t : Int} {bs : List UInt8} {a2 : Addr} (h : RAt w g t bs a2) (o : Obj) : RAt (w.alloc o) g t bs a2 := h.below ((Below.refl _ _).alloc (Nat.le_refl _) _)
theorem RKeep.setNew {w w' : World} {g k : Nat} (h : RKeep w w' g) (hk : w.heap.size ≤ k) (i : Nat) (v : Value) : RKeep w (w'.setCell ⟨k, i, none⟩ v) g :=
  ⟨h.os, h.tape, h.output, by simpa [World.setCell] using h.size, fun j hj hn => (Below.heap_setCell _ _ _ _ (by show j ≠ k; omega)).trans (h.block j hj hn)⟩
theorem RAt.setOther {w : World} {g k : Nat} {t : Int} {bs : List UInt8} {a2 : Addr} (h : RAt w g t bs a2) (hk : k ≠ g) (h2 : k ≠ 2) (i : Nat) (v : Value) : RAt (w.setCell ⟨k, i, none⟩ v) g t bs a2 :=
  ⟨h.far, by rw [Below.heap_setCell _ _ _ _ (by show g ≠ k; omega)]; exact h.cells, by rw [World.cell?_of_block (w := w) (Below.heap_setCell _ _ _ _ (by show 2 ≠ k; omega))]; exact h.form, h.len⟩


theorem value_fin {w w1 : World} {g : Nat} {t : Int} {rest : List UInt8} {a2 : Addr} {o : Obj} (hg : g < w.heap.size) (hk : RKeep (w.alloc o) w1 g) (hA : RAt w1 g t rest a2) (x y z : Value) :
    RKeep w (((w1.setCell ⟨w.heap.size, 0, none⟩ x).setCell ⟨w.heap.size, 1, none⟩ y).setCell ⟨w.heap.size, 2, none⟩ z) g ∧ RAt (((w1.setCell ⟨w.heap.size, 0, none⟩ x).setCell ⟨w.heap.size, 1, none⟩ y).setCell ⟨w.heap.size, 2, none⟩ z) g t rest a2 := by
  have hf := hA.far
  exact ⟨(((((RKeep.refl w g).alloc o).trans hk).setNew (Nat.le_refl _) _ _).setNew (Nat.le_refl _) _ _).setNew (Nat.le_refl _) _ _, ((hA.setOther (by omega) (by omega) _ _).setOther (by omega) (by omega) _ _).setOther (by omega) (by omega) _ _⟩
theorem value_end {w w1 : World} {g : Nat} (hg : g < w.heap.size) (hk : RKeep (w.alloc (.cells #[.int .i64 0, .int .i64 0, .string ⟨#[]⟩] 25)) w1 g) (x y z : Value) :
    (w1.setCell ⟨w.heap.size, 0, none⟩ x).cell? ⟨w.heap.size, 0, none⟩ = some x ∧
    ((w1.setCell ⟨w.heap.size, 0, none⟩ x).setCell ⟨w.heap.size, 1, none⟩ y).cell? ⟨w.heap.size, 1, none⟩ = some y ∧
    (((w1.setCell ⟨w.heap.size, 0, none⟩ x).setCell ⟨w.heap.size, 1, none⟩ y).setCell ⟨w.heap.size, 2, none⟩ z).cell? ⟨w.heap.size, 2, none⟩ = some z := by
  have hbk := hk.block w.heap.size (by simp) (by omega)
  have hnew : w1.heap[w.heap.size]? = some (.cells #[.int .i64 0, .int .i64 0, .string ⟨#[]⟩] 25 (0, 0)) := by rw [hbk]; exact (MapKept.heap_alloc w _).1
  refine ⟨?_, ?_, ?_⟩ <;> simp [World.cell?, World.setCell, Array.getElem?_modify, hnew]
theorem value_new {w w1 : World} {g : Nat} (hg : g < w.heap.size) (hk : RKeep (w.alloc (.cells #[.int .i64 0, .int .i64 0, .string ⟨#[]⟩] 25)) w1 g) :
    w1.cell? ⟨w.heap.size, 0, none⟩ = some (.int .i64 0) ∧ w1.cell? ⟨w.heap.size, 1, none⟩ = some (.int .i64 0) ∧ w1.cell? ⟨w.heap.size, 2, none⟩ = some (.string ⟨#[]⟩) ∧ ∀ i, w1.frozen? ⟨w.heap.size, i, none⟩ = false := by
  have hbk := hk.block w.heap.size (by simp) (by omega)
  have hnew : w1.heap[w.heap.size]? = some (.cells #[.int .i64 0, .int .i64 0, .string ⟨#[]⟩] 25 (0, 0)) := by rw [hbk]; exact (MapKept.heap_alloc w _).1
  exact ⟨by simp [World.cell?, hnew], by simp [World.cell?, hnew], by simp [World.cell?, hnew], fun i => by simp [World.frozen?, hnew]⟩

set_option maxRecDepth 100000 in
set_option maxHeartbeats 1000000 in
theorem value_int (g : Nat) (bs : List UInt8) (a2 : Addr) (w : World) (h : RAt w g 1 bs a2) :
    Calls Tryd.prog 83 #[.pointer (some ⟨g, 0, none⟩)] w (ROut w g 1 a2 (rdValue 1 bs) fun v x _ => x = v.val) := by
  have hg := h.lt
  have hn := number_any g 1 bs a2 _ (h.alloc (.cells #[.int .i64 0, .int .i64 0, .string ⟨#[]⟩] 25))
  have c0 := h.typ
  go_enter Tryd.func83, Tryd.ntmps83
  go_wp2_with fail
  refine hn.mono ?_
  rintro e w1 ⟨hk, ⟨hr, rfl⟩ | ⟨x, rest, v, hr, rfl, rfl, hA⟩⟩
  · go_wp2_with fail
    exact ⟨rfl, ROut.up ((RKeep.refl w g).alloc _ |>.trans hk) (by simp [rdValue, hr])⟩
  · obtain ⟨d0, d1, d2, d3⟩ := value_new hg hk
    go_wp2
    obtain ⟨e0, e1, e2⟩ := value_end hg hk (.int .i64 1) (.int .i64 x) (.string ⟨#[]⟩)
    obtain ⟨hk2, hA2⟩ := value_fin hg hk hA (.int .i64 1) (.int .i64 x) (.string ⟨#[]⟩)
    refine bodyPost_ret (v := .agg #[.int .i64 1, .int .i64 x, .string ⟨#[]⟩]) (by simp [results, Tryd.results83, go_sem, e0, e1, e2]) rfl ?_
    exact ROut.ok (x := ⟨1, x, str []⟩) hk2 (by simp [rdValue, hr]) rfl hA2

set_option maxRecDepth 100000 in
set_option maxHeartbeats 1000000 in
theorem value_bool (g : Nat) (bs : List UInt8) (a2 : Addr) (w : World) (h : RAt w g 2 bs a2) :
    Calls Tryd.prog 83 #[.pointer (some ⟨g, 0, none⟩)] w (ROut w g 2 a2 (rdValue 2 bs) fun v x _ => x = v.val) := by
  have hg := h.lt
  have hn := small_any g 2 bs a2 _ (h.alloc (.cells #[.int .i64 0, .int .i64 0, .string ⟨#[]⟩] 25))
  have c0 := h.typ
  go_enter Tryd.func83, Tryd.ntmps83
  go_wp2_with fail
  refine hn.mono ?_
  rintro e w1 ⟨hk, ⟨hr, rfl⟩ | ⟨x, rest, v, hr, rfl, rfl, hA⟩⟩
  · go_wp2_with fail
    exact ⟨rfl, ROut.up ((RKeep.refl w g).alloc _ |>.trans hk) (by simp [rdValue, hr])⟩
  · obtain ⟨d0, d1, d2, d3⟩ := value_new hg hk
    go_wp2
    obtain ⟨e0, e1, e2⟩ := value_end hg hk (.int .i64 2) (.int .i64 (x : Int)) (.string ⟨#[]⟩)
    obtain ⟨hk2, hA2⟩ := value_fin hg hk hA (.int .i64 2) (.int .i64 (x : Int)) (.string ⟨#[]⟩)
    refine bodyPost_ret (v := .agg #[.int .i64 2, .int .i64 (x : Int), .string ⟨#[]⟩]) (by simp [results, Tryd.results83, go_sem, e0, e1, e2]) rfl ?_
    exact ROut.ok (x := ⟨2, (x : Int), str []⟩) hk2 (by simp [rdValue, hr]) rfl hA2

set_option maxRecDepth 100000 in
set_option maxHeartbeats 1000000 in
theorem value_text (g : Nat) (bs : List UInt8) (a2 : Addr) (w : World) (h : RAt w g 3 bs a2) :
    Calls Tryd.prog 83 #[.pointer (some ⟨g, 0, none⟩)] w (ROut w g 3 a2 (rdValue 3 bs) fun v x _ => x = v.val) := by
  have hg := h.lt
  have hn := small_any g 3 bs a2 _ (h.alloc (.cells #[.int .i64 0, .int .i64 0, .string ⟨#[]⟩] 25))
  have c0 := h.typ
  go_enter Tryd.func83, Tryd.ntmps83
  go_wp2_with fail
  refine hn.mono ?_
  rintro e w1 ⟨hk, ⟨hr, rfl⟩ | ⟨n, rest, v, hr, rfl, rfl, hA⟩⟩
  · go_wp2_with fail
    exact ⟨rfl, ROut.up ((RKeep.refl w g).alloc _ |>.trans hk) (by simp [rdValue, rdText, hr])⟩
  · have hn256 := rdByte_lt hr
    have ht := take_any g 3 rest a2 n w1 hA
    clear hn
    go_wp2_with fail
    refine ht.mono ?_
    rintro e w2 ⟨hk2, ⟨hr2, rfl⟩ | ⟨x, rest2, v, hr2, rfl, rfl, hA2⟩⟩
    · go_wp2_with fail
      exact ⟨rfl, ROut.up (((RKeep.refl w g).alloc _ |>.trans hk).trans hk2) (by simp [rdValue, rdText, hr, hr2])⟩
    · have hxl := rdTake_length hr2
      clear ht
      go_wp2_with fail
      refine (sClone_any x _ (by omega)).mono ?_
      rintro e w3 ⟨rfl, hb3⟩
      have hk3 := (hk.trans hk2).trans (RKeep.of_below hb3 g)
      obtain ⟨d0, d1, d2, d3⟩ := value_new hg hk3
      obtain ⟨hk4, hA4⟩ := value_fin hg hk3 (hA2.below hb3) (.int .i64 3) (.int .i64 0) (.string (str x))
      clear hxl hn256
      go_wp2
      obtain ⟨e0, e1, e2⟩ := value_end hg hk3 (.int .i64 3) (.int .i64 0) (.string (str x))
      refine bodyPost_ret (v := .agg #[.int .i64 3, .int .i64 0, .string (str x)]) (by simp [results, Tryd.results83, go_sem, e0, e1, e2]) rfl ?_
      exact ROut.ok (x := ⟨3, 0, str x⟩) hk4 (by simp [rdValue, rdText, hr, hr2]) rfl hA4

theorem value_any (g : Nat) (t : Int) (bs : List UInt8) (a2 : Addr) (w : World) (h : RAt w g t bs a2) (ht : t = 1 ∨ t = 2 ∨ t = 3) :
    Calls Tryd.prog 83 #[.pointer (some ⟨g, 0, none⟩)] w (ROut w g t a2 (rdValue t bs) fun v x _ => x = v.val) := by
  rcases ht with rfl | rfl | rfl
  · exact value_int g bs a2 w h
  · exact value_bool g bs a2 w h
  · exact value_text g bs a2 w h
end Go.Proofs.YthplnjgijmilnaaDoor
