/- Rows in new memory: a list of rows, each in a block of its own. -/
import Derived.Test.YtiicoehcjoocbaaGreatDoorTf
namespace Go.Proofs.YtiicoehcjoocbaaGreatDoor
open Go.RowKit

def gridV (b : Nat) (r : List V) : Value := .slice (some ⟨b, 0, none⟩) r.length r.length
structure Grid (w : World) (B g : Nat) (bs : List Nat) (rs : List (List V)) : Prop where
  len : bs.length = rs.length
  outer : w.rowIs g 51 rs.length (fun j => gridV (bs.getD j 0) (rs.getD j []))
  rows : ∀ (i : Nat) b r, bs[i]? = some b → rs[i]? = some r → RowT w b r []
  from_ : B ≤ g ∧ ∀ b ∈ bs, B ≤ b ∧ b ≠ g
  nodup : bs.Nodup
theorem Grid.below {w w' : World} {B g : Nat} {bs : List Nat} {rs : List (List V)} (h : Grid w B g bs rs) (hb : Below w.heap.size w w') : Grid w' B g bs rs :=
  ⟨h.len, h.outer.of_block (hb.block g h.outer.lt), fun i b r hi hr => (h.rows i b r hi hr).of_block (hb.block b (h.rows i b r hi hr).lt), h.from_, h.nodup⟩
theorem Grid.rowsAt {w : World} {B g : Nat} {bs : List Nat} {rs : List (List V)} (h : Grid w B g bs rs) : RowsAt w (some ⟨g, 0, none⟩) (List.zipWith (fun b (r : List V) => ((some ⟨b, 0, none⟩ : Option Addr), r.length)) bs rs) rs := by
  refine ⟨by simp [h.len], .inr ⟨g, 0, rfl, h.outer.lt, fun i v hv => ?_⟩, fun i x r hx hr => ?_⟩
  · have hi : i < rs.length := by
      rcases Nat.lt_or_ge i rs.length with h' | h'
      · exact h'
      · rw [List.getElem?_eq_none (by simp; omega)] at hv; simp at hv
    have hi2 : i < bs.length := by rw [h.len]; exact hi
    rw [Nat.zero_add, h.outer.cell hi]
    rw [List.getElem?_zipWith, List.getElem?_zipWith, List.getElem?_eq_getElem hi, List.getElem?_eq_getElem hi2] at hv
    simp [rowV] at hv
    simp [gridV, hi, hi2, ← hv]
  · have hi : i < rs.length := by
      rcases Nat.lt_or_ge i rs.length with h' | h'
      · exact h'
      · rw [List.getElem?_eq_none h'] at hr; simp at hr
    have hi2 : i < bs.length := by rw [h.len]; exact hi
    rw [List.getElem?_zipWith] at hx
    simp [hi, hi2] at hx hr
    subst hx hr
    exact (h.rows i bs[i] rs[i] (by simp [hi2]) (by simp [hi])).vals

theorem info_Row : (Tryz.prog.info? 51).map (fun i => (i.zero, i.size, i.bytes)) = some (some (.slice none 0 0), 1, 24) := by kernel_rfl
theorem make_Row (n : Nat) (hn : n ≤ 1000) (W : World) : ∃ C, (Instr.makeSlice 51 (.int .i64 (n : Int)) (.int .i64 (n : Int))).run Tryz.prog W = .ok (.slice (some ⟨W.heap.size, 0, none⟩) n n) (W.alloc (.cells C 49)) ∧ RowT (W.alloc (.cells C 49)) W.heap.size (List.replicate n zeroV) [] := by
  obtain ⟨i, hi, hz, hs3, hby⟩ := info_parts infoV
  have hr := run_make (P := Tryz.prog) W 51 49 i _ (by kernel_rfl) hi hz .i64 .i64 (n : Int) (n : Int) (by omega) (Int.le_refl _) (by rw [hby]; omega) (by omega)
  rw [Int.toNat_natCast, hs3] at hr
  exact ⟨_, hr, _, (MapKept.heap_alloc W _).1, by rw [List.append_nil]; exact made_V n⟩

set_option maxRecDepth 100000 in
set_option maxHeartbeats 1000000 in
theorem blank_any (n width : Nat) (w : World) (hn : n ≤ 1000) (hw : width ≤ 1000) :
    Calls Tryz.prog 134 #[.int .i64 (n : Int), .int .i64 (width : Int)] w fun e w' => e = .returned (.slice (some ⟨w.heap.size, 0, none⟩) n n) ∧ (∃ bs, Grid w' w.heap.size w.heap.size bs (List.replicate n (List.replicate width zeroV))) ∧ Below w.heap.size w w' := by
  have hmk : ∀ W, (Instr.makeSlice 29 (.int .i64 (n : Int)) (.int .i64 (n : Int))).run Tryz.prog W = .ok (.slice (some ⟨W.heap.size, 0, none⟩) n n) (W.alloc (.cells (madeCells #[.slice none 0 0] n) 51)) :=
    fun W => run_make_row' 29 51 (.slice none 0 0) 24 (by kernel_rfl) info_Row rfl .i64 .i64 n (by omega) (by omega) W
  go_enter Tryz.func134, Tryz.ntmps134
  go_wp2
  clear hmk
  go_loopw [11] (fun i wr => ∃ (k : Nat) (bs : List Nat), k ≤ n ∧ i = .int .i64 k ∧ Hid (bs.length = k) ∧ wr.rowIs w.heap.size 51 n (fun j => if j < k then gridV (bs.getD j 0) (List.replicate width zeroV) else .slice none 0 0) ∧ (∀ b ∈ bs, RowT wr b (List.replicate width zeroV) [] ∧ w.heap.size < b) ∧ bs.Nodup ∧ Below w.heap.size w wr) (fun i _ => n - (intOf i).toNat)
  case atStart => exact ⟨0, [], by omega, rfl, rfl, (World.rowIs_made _ _ _ _).congr (fun j _ => by simp), by simp, by simp, (Below.refl _ _).alloc (Nat.le_refl _) _⟩
  case round =>
    obtain ⟨k, bs, hk, rfl, HL, hrow, hrows, hnd, hbw⟩ := hrel
    have HR : Hid (∀ b ∈ bs, RowT wr b (List.replicate width zeroV) [] ∧ w.heap.size < b) := hrows
    clear hrows
    have hlt0 := hrow.lt
    by_cases hlt : k < n
    · obtain ⟨C, hmk, hnew⟩ := make_Row width hw wr
      have c1 := hrow.cell hlt
      have c2 := hrow.frozen k
      simp only [Nat.lt_irrefl, if_false] at c1
      go_wp2
      go_roundw
      case rel =>
        obtain ⟨C2, e1, e2⟩ := hnew
        rw [heap_alloc_new] at e1
        simp at e1
        subst e1
        have hss : (wr.setCell ⟨w.heap.size, k, none⟩ (.slice (some ⟨wr.heap.size, 0, none⟩) width width)).heap.size = wr.heap.size := by simp [World.setCell]
        have hbs := hbw.setCell (p := ⟨w.heap.size, k, none⟩) (Nat.le_refl _) (.slice (some ⟨wr.heap.size, 0, none⟩) width width)
        refine ⟨k + 1, bs ++ [wr.heap.size], by omega, by go_num, by show _ = _; rw [List.length_append, HL.out]; rfl, ((hrow.set k _).alloc _).congr fun j hj => ?_, ?_, ?_, below_alloc hbs _⟩
        · by_cases e : j = k
          · subst e
            have hl := HL.out
            simp [gridV, hl]
          · by_cases h1 : j < k
            · have h2 : j < k + 1 := by omega
              have hl := HL.out
              simp [e, h1, h2, List.getElem?_append_left (show j < bs.length by omega)]
            · have h2 : ¬ j < k + 1 := by omega
              simp [e, h1, h2]
        · intro b hb
          rcases List.mem_append.1 hb with h | h
          · obtain ⟨r1, r2⟩ := HR.out b h
            exact ⟨(r1.of_block (Below.heap_setCell _ _ _ _ (by simp; omega))).of_block (Below.heap_alloc _ _ b (by rw [hss]; exact r1.lt)), r2⟩
          · simp at h
            subst h
            refine ⟨⟨C, ?_, e2⟩, hlt0⟩
            have := heap_alloc_new (wr.setCell ⟨w.heap.size, k, none⟩ (.slice (some ⟨wr.heap.size, 0, none⟩) width width)) (.cells C 49)
            rw [hss] at this
            exact this
        · rw [List.nodup_append]
          refine ⟨hnd, by simp, fun a ha b hb => ?_⟩
          simp at hb
          subst hb
          have := (HR.out a ha).1.lt
          omega
      case measure => simp [intOf]; omega
    · obtain rfl : k = n := by omega
      go_wp2
      go_ret
      refine ⟨rfl, ⟨bs, by rw [List.length_replicate]; exact HL.out, ?_, ?_, ⟨Nat.le_refl _, fun b hb => ⟨by have := (HR.out b hb).2; omega, by have := (HR.out b hb).2; omega⟩⟩, hnd⟩, hbw⟩
      · rw [List.length_replicate]
        refine hrow.congr fun j hj => ?_
        simp [hj]
      · intro i b r hi hr
        have hib : b ∈ bs := List.mem_of_getElem? hi
        have hrr : r = List.replicate width zeroV := by
          have := List.mem_of_getElem? hr
          exact (List.mem_replicate.1 this).2
        subst hrr
        exact (HR.out b hib).1
end Go.Proofs.YtiicoehcjoocbaaGreatDoor
