/- A set's names; a table's rows. -/
import Derived.Test.YtfgklnenpichcaaGreatDoorTl
namespace Go.Proofs.YtfgklnenpichcaaGreatDoor
open Go.RowKit Go.Shelf

def nameV (Ts : List TS) (j : Nat) : Value := .string ((Ts.map TS.name).getD j ⟨#[]⟩)

set_option maxRecDepth 100000 in
set_option maxHeartbeats 1000000 in
theorem tNames_any (w : World) (F : Nat → Prop) (s d : Nat) (Ts : List TS) (sv : Value) (bs : List Nat) (h : SetX w F s d Ts sv bs) :
    Calls Tryz.prog 32 #[.pointer (some ⟨s, 0, none⟩)] w fun e w' => e = .returned (.slice (some ⟨w.heap.size, 0, none⟩) Ts.length Ts.length) ∧ w'.rowIs w.heap.size 9 Ts.length (nameV Ts) ∧ Below w.heap.size w w' := by
  have hfew := h.few
  have hmk : ∀ W, (Instr.makeSlice 46 (.int .i64 (Ts.length : Int)) (.int .i64 (Ts.length : Int))).run Tryz.prog W = .ok (.slice (some ⟨W.heap.size, 0, none⟩) Ts.length Ts.length) (W.alloc (.cells (madeCells #[.string ⟨#[]⟩] Ts.length) 9)) :=
    fun W => run_make_row' 46 9 (.string ⟨#[]⟩) 16 (by kernel_rfl) info_string rfl .i64 .i64 Ts.length (by omega) (by omega) W
  obtain ⟨_, c1⟩ := h.field
  obtain ⟨a, cap, hsv, _⟩ := h.own.cells
  rw [List.length_map, h.len] at hsv
  have hsl := lt_of_heap h.cells
  have c1a : ∀ o, (w.alloc o).cell? ⟨s, 1, none⟩ = some sv := fun o => (alloc_cell w o _ _ hsl).trans c1
  subst hsv
  go_enter Tryz.func32, Tryz.ntmps32
  go_wp2
  clear hmk
  go_loopw [17] (fun i wr => ∃ k : Nat, k ≤ Ts.length ∧ i = .int .i64 k ∧ wr.rowIs w.heap.size 9 Ts.length (fun j => if j < k then nameV Ts j else .string ⟨#[]⟩) ∧ Below w.heap.size w wr) (fun i _ => Ts.length - (intOf i).toNat)
  case atStart => exact ⟨0, Nat.zero_le _, rfl, (World.rowIs_made w _ _ _).congr fun j hj => by simp, (Below.refl _ _).alloc (Nat.le_refl _) _⟩
  case round =>
    obtain ⟨k, hk, rfl, hrow, hbw⟩ := hrel
    by_cases hlt : k < Ts.length
    · obtain ⟨b, o, hse, c2, ht⟩ := (h.below hbw).at hlt
      simp at hse
      subst hse
      obtain ⟨ta, tc, sa, sc, hs, hT⟩ := ht
      obtain ⟨t0, _, _, _, _⟩ := hT.field
      have c3 := hrow.cell hlt
      have c4 := hrow.frozen k
      simp only [Nat.lt_irrefl, if_false] at c3
      go_wp2
      go_roundw
      case rel =>
        refine ⟨k + 1, by omega, by go_num, (hrow.set k _).congr fun j hj => ?_, hbw.setCell (p := ⟨w.heap.size, k, none⟩) (Nat.le_refl _) _⟩
        by_cases e : j = k
        · subst e
          simp [nameV, hlt]
        · by_cases h1 : j < k
          · have h2 : j < k + 1 := by omega
            simp [e, h1, h2]
          · have h2 : ¬ j < k + 1 := by omega
            simp [e, h1, h2]
      case measure => simp [intOf]; omega
    · obtain rfl : k = Ts.length := by omega
      go_wp2
      go_ret
      exact ⟨rfl, hrow.congr fun j hj => by simp [hj], hbw⟩

/-- A table that stands on a disk as it was laid. -/
structure TabOk (D : DS) (T : TS) : Prop where
  cols : 1 ≤ T.types.length ∧ T.types.length ≤ 6
  rows : T.rows ≤ 200
  group : 1 ≤ T.group ∧ T.group ≤ 64
  count : T.segs.length = ckN T.rows T.group * T.types.length
  segs : ∀ l ∈ T.segs, l ≠ [] ∧ l.length ≤ 1000
  full : ∀ l ∈ T.segs, ∀ t, readL D l = .inl t → t ≠ []
/-- What is read of a table: its rows, or the page that is told. -/
def tabRows (D : DS) (T : TS) : List (List V) ⊕ Nat := (readF D T.types T.segs (List.replicate T.rows (List.replicate T.types.length zeroV)) (cks T.rows T.group (ckN T.rows T.group))).1
/-- The same by columns, as read tells it. -/
def tabCols (D : DS) (T : TS) : List (List V) ⊕ Nat := (colF D T.types T.segs (List.replicate T.types.length []) (cks T.rows T.group (ckN T.rows T.group))).1
theorem tabRows_eq (D : DS) (T : TS) (hg : 1 ≤ T.group) : tabRows D T = Sum.map (gridOf T.rows) id (tabCols D T) ∧ ∀ cs, tabCols D T = .inl cs → cs.length = T.types.length ∧ ∀ c, c < cs.length → (cs.getD c []).length = T.rows := by
  obtain ⟨h1, h2⟩ := readF_grid D T.types T.segs T.rows T.group hg (fun l t m vs h => valsOf_len h) (ckN T.rows T.group) (Nat.le_refl _)
  refine ⟨h1, fun cs h => ?_⟩
  obtain ⟨q1, q2⟩ := h2 cs h
  refine ⟨q1, fun c hc => ?_⟩
  rw [q2 c hc]
  exact Nat.min_eq_right (ckN_reach hg)
/-- What Rows answers. -/
def RowsPost (w : World) (et pg : Addr) (r : Option (List (List V) ⊕ Nat)) (e : Ending) (w' : World) : Prop :=
  Below w.heap.size w w' ∧ match r with
    | none => e = .returned (.tuple #[.slice none 0 0, .iface 255 (.pointer (some et))])
    | some (.inl cs) => ∃ g svs, e = .returned (.tuple #[.slice (some ⟨g, 0, none⟩) cs.length cs.length, .nilIface]) ∧ ColT w' w.heap.size g svs cs
    | some (.inr j) => ∃ b, e = .returned (.tuple #[.slice none 0 0, .iface 109 (.pointer (some ⟨b, 0, none⟩))]) ∧ w.heap.size ≤ b ∧ Chain w' (.iface 109 (.pointer (some ⟨b, 0, none⟩))) pg (some (-1)) (some (j : Int))
def rowsO (D : DS) (Ts : List TS) (n : ByteArray) : Option (List (List V) ⊕ Nat) := (Ts[findI Ts n]?).map (tabRows D)
def colsO (D : DS) (Ts : List TS) (n : ByteArray) : Option (List (List V) ⊕ Nat) := (Ts[findI Ts n]?).map (tabCols D)
/-- What the columns say of the rows. -/
theorem rowsO_eq (D : DS) (Ts : List TS) (n : ByteArray) (hok : ∀ T ∈ Ts, TabOk D T) : (colsO D Ts n = none ∧ rowsO D Ts n = none) ∨ (∃ j, colsO D Ts n = some (.inr j) ∧ rowsO D Ts n = some (.inr j)) ∨ ∃ cs m, colsO D Ts n = some (.inl cs) ∧ rowsO D Ts n = some (.inl (gridOf m cs)) ∧ m ≤ 200 ∧ 1 ≤ cs.length ∧ cs.length ≤ 6 ∧ ∀ c, c < cs.length → (cs.getD c []).length = m := by
  unfold colsO rowsO
  cases h : Ts[findI Ts n]? with
  | none => exact .inl ⟨rfl, rfl⟩
  | some T =>
    have hT := hok T (List.mem_of_getElem? h)
    obtain ⟨h1, h2⟩ := tabRows_eq D T hT.group.1
    simp only [Option.map_some]
    rw [h1]
    cases hc : tabCols D T with
    | inr j => exact .inr (.inl ⟨j, rfl, rfl⟩)
    | inl cs =>
      obtain ⟨q1, q2⟩ := h2 cs hc
      exact .inr (.inr ⟨cs, T.rows, rfl, rfl, hT.rows, by rw [q1]; exact hT.cols.1, by rw [q1]; exact hT.cols.2, q2⟩)

set_option maxRecDepth 100000 in
set_option maxHeartbeats 1000000 in
theorem tRows_any (n : ByteArray) (w : World) (F G : Nat → Prop) (s d : Nat) (D : DS) (Ts : List TS) (sv : Value) (bs : List Nat) (h : SetX w G s d Ts sv bs) (hd : DiskAt w F d D) (hok : ∀ T ∈ Ts, TabOk D T) (a0 a1 a2 : Addr) (he : Errs w a0 a1 a2) (et pg : Addr) (hpg : w.cell? ⟨6, 0, none⟩ = some (.iface 255 (.pointer (some pg)))) (het : w.cell? ⟨1, 0, none⟩ = some (.iface 255 (.pointer (some et)))) :
    Calls Tryz.prog 33 #[.pointer (some ⟨s, 0, none⟩), .string n] w fun e w' => RowsPost w et pg (colsO D Ts n) e w' := by
  have hf := tFind_any n w G s d Ts sv bs h
  have hnn := run_neq_nil_nil (P := Tryz.prog)
  by_cases hlt : findI Ts n < Ts.length
  · have hfv : findV Ts n = (findI Ts n : Int) := by unfold findV; rw [if_pos hlt]
    have hO : colsO D Ts n = some (tabCols D Ts[findI Ts n]) := by simp [colsO, hlt]
    rw [hfv] at hf
    generalize hk : findI Ts n = k at *
    have hokT := hok _ (List.getElem_mem hlt)
    have HRD : Hid (∀ W b, Below w.heap.size w W → TabAt W G b Ts[k] → Calls Tryz.prog 60 #[.pointer (some ⟨s, 0, none⟩), .pointer (some ⟨b, 0, none⟩)] W fun e w' => TReadPost W pg (tabCols D Ts[k]) e w') := fun W b hb hT =>
      tRead_any s d b Ts[k] W F G D (hd.below hb) (cell_below hb h.field.1) hT hokT.cols hokT.rows hokT.group.1 hokT.group.2 hokT.count hokT.segs hokT.full a0 a1 a2 (he.below hb) pg (cell_below hb hpg)
    have HO : Hid (colsO D Ts n = some (tabCols D Ts[k])) := hO
    obtain ⟨b, o, hse, c2, ht⟩ := h.at hlt
    obtain ⟨_, c1⟩ := h.field
    obtain ⟨a, cap, hsv, _⟩ := h.own.cells
    rw [List.length_map, h.len] at hsv
    subst hsv
    simp at hse
    subst hse
    have hfew := h.few
    generalize bs[k]'_ = tk at c2 ht
    have hrd0 := fun W hb => HRD.out W tk hb (ht.stands hb.size fun x _ hx => hb.block x hx)
    have HRE : Hid (∀ W, Below w.heap.size w W → Calls Tryz.prog 60 #[.pointer (some ⟨s, 0, none⟩), .pointer (some ⟨tk, 0, none⟩)] W fun e w' => TReadPost W pg (tabCols D Ts[k]) e w') := hrd0
    clear hO hfv hok hokT hk h hrd0 HRD ht
    generalize hr : tabCols D Ts[k] = r at *
    rcases r with rs | j
    · have hrd : Hid (∀ W, Below w.heap.size w W → Calls Tryz.prog 60 #[.pointer (some ⟨s, 0, none⟩), .pointer (some ⟨tk, 0, none⟩)] W fun e w' => Below W.heap.size W w' ∧ ∃ g bs, e = .returned (.tuple #[.slice (some ⟨g, 0, none⟩) rs.length rs.length, .nilIface]) ∧ ColT w' W.heap.size g bs rs) := HRE.out
      clear HRE
      go_enter Tryz.func33, Tryz.ntmps33
      go_wp2_with (first | (go_at_call 55; refine hf.mono ?_; rintro e W1 ⟨rfl, hb1⟩; have d1 := cell_below hb1 c1; have d2 := cell_below hb1 c2) | (go_at_call 60; refine (hrd.out W1 hb1).mono ?_; rintro e W2 ⟨hb2, g, gs, rfl, hg⟩))
      go_ret2
      rw [HO.out]
      exact ⟨below_then hb1 hb2, g, gs, rfl, ⟨hg.row, Nat.le_trans hb1.size hg.low, hg.len, fun i hi => (hg.own i hi).mono hb1.size, hg.ne, hg.apart⟩⟩
    · have hrd : Hid (∀ W, Below w.heap.size w W → Calls Tryz.prog 60 #[.pointer (some ⟨s, 0, none⟩), .pointer (some ⟨tk, 0, none⟩)] W fun e w' => Below W.heap.size W w' ∧ ∃ b, e = .returned (.tuple #[.slice none 0 0, .iface 152 (.pointer (some ⟨b, 0, none⟩))]) ∧ W.heap.size ≤ b ∧ Chain w' (.iface 152 (.pointer (some ⟨b, 0, none⟩))) pg none (some (j : Int))) := HRE.out
      clear HRE
      go_enter Tryz.func33, Tryz.ntmps33
      go_wp2_with (first | (go_at_call 55; refine hf.mono ?_; rintro e W1 ⟨rfl, hb1⟩; have d1 := cell_below hb1 c1; have d2 := cell_below hb1 c2) | (go_at_call 60; refine (hrd.out W1 hb1).mono ?_; rintro e W2 ⟨hb2, be, rfl, hbe, hch⟩))
      go_ret2
      rw [HO.out]
      have hb12 := below_then hb1 hb2
      have hba : Below W2.heap.size W2 (W2.alloc (.cells #[.string n, .int .i64 (-1), .iface 152 (.pointer (some ⟨be, 0, none⟩))] 111)) := (Below.refl _ _).alloc (Nat.le_refl _) _
      obtain ⟨_, z1, z2⟩ := new3 W2 (.string n) (.int .i64 (-1)) (.iface 152 (.pointer (some ⟨be, 0, none⟩))) 111
      obtain ⟨h1, h2⟩ := hch.disk_at
      exact ⟨below_alloc hb12 _, W2.heap.size, rfl, hb12.size, .both W2.heap.size be pg (-1) j z1 z2 (cell_below hba h1) (cell_below hba h2)⟩
  · have hfv : findV Ts n = -1 := by unfold findV; rw [if_neg hlt]
    have HO : Hid (colsO D Ts n = none) := by show _ = _; simp [colsO]; omega
    rw [hfv] at hf
    clear hfv hlt hok h
    go_enter Tryz.func33, Tryz.ntmps33
    go_wp2_with (first | (go_at_call 55; refine hf.mono ?_; rintro e W1 ⟨rfl, hb1⟩; have het1 := cell_below hb1 het))
    go_quiet (fail)
    go_wp2
    go_ret2
    rw [HO.out]
    exact ⟨below_drewN hb1 _, rfl⟩
end Go.Proofs.YtfgklnenpichcaaGreatDoor
