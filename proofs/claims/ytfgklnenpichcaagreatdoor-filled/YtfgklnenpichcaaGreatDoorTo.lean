/- A table taken off a set's list: slices.Delete, of one place of a row that is known cell by cell. -/
import Derived.Test.YtfgklnenpichcaaGreatDoorTm
import Derived.Deep.RegionLaw
import Derived.Deep.RegionHeld3
import Derived.Lib.LazyBuf
import Derived.Lib.SlicesDelete
namespace Go.Proofs.YtfgklnenpichcaaGreatDoor
open Go.RowKit Go.Shelf

theorem info_ptable : (Tryz.prog.info? 112).map (fun i => (i.zero, i.size, i.bytes)) = some (some (.pointer none), 1, 8) := by kernel_rfl
theorem zero_ptable (w : World) : (zeroValue 112).run Tryz.prog w = .ok (.pointer none) w := by first | kernel_rfl | simp [go_sem]

/-- The row behind it: what stood behind the place has moved down by one, and the last place is empty. -/
def shutF (f : Nat → Value) (i m : Nat) (j : Nat) : Value := if j = i + m then .pointer none else if i ≤ j ∧ j < i + m then f (j + 1) else f j
def upF (f : Nat → Value) (i m : Nat) : List Value := (List.range m).map fun t => f (i + 1 + t)
theorem upF_at (f : Nat → Value) (i m t : Nat) (ht : t < m) : (upF f i m)[t]? = some (f (i + 1 + t)) := by simp [upF, ht]
theorem keep_set (g o : Nat) (vs : List Value) : ∀ (w : World), Keep (fun k => k = g) w (w.setCells g o vs) := by
  induction vs generalizing o with
  | nil => intro w; exact Keep.refl _ _
  | cons v vs ih => intro w; exact ((Keep.refl (fun k => k = g) w).set rfl o v).trans (ih (o + 1) _)

set_option maxHeartbeats 2000000 in
set_option maxRecDepth 100000 in
theorem tDelete_row (g cap i m : Nat) (f : Nat → Value) (w : World) (hrow : w.rowIs g 112 cap f) (h1c : ∀ j, j < i + 1 + m → (f j).oneCell' = true) (hn : i + 1 + m ≤ cap) (hm : cap ≤ 9223372036854775807) :
    Calls Tryz.prog 63 #[.slice (some ⟨g, 0, none⟩) (i + 1 + m) cap, .int .i64 (i : Int), .int .i64 ((i : Int) + 1)] w fun e w' => e = .returned (.slice (some ⟨g, 0, none⟩) (i + m) cap) ∧ w'.rowIs g 112 cap (shutF f i m) ∧ Keep (fun k => k = g) w w' := by
  obtain ⟨i0, hi0, hz0, hz1, hz2⟩ := info_parts info_ptable
  have hrowD : w.drew.rowIs g 112 cap f := hrow
  have hsome : ∀ {X : World} {F : Nat → Value}, X.rowIs g 112 cap F → ∀ j, j < cap → (X.cell? ⟨g, j, none⟩).isSome = true ∧ X.frozen? ⟨g, j, none⟩ = false := fun {X F} hX j hj => by
    have := hX.cell hj
    obtain ⟨c, hc, _, _⟩ := hX
    exact ⟨by rw [this]; rfl, by simp [World.frozen?, hc]⟩
  obtain ⟨A, hA, hAc⟩ : ∃ A : Addr, (if cap = i + 1 then some (⟨g, 0, none⟩ : Addr) else some ⟨g, i + 1, none⟩) = some A ∧ Hid (∀ t u, (upF f i m)[t]? = some u → w.drew.cell? (A.add t) = some u) := by
    by_cases h : cap = i + 1
    · refine ⟨⟨g, 0, none⟩, by simp [h], fun t u hu => ?_⟩
      have h0 : m = 0 := by omega
      subst h0
      simp [upF] at hu
    · refine ⟨⟨g, i + 1, none⟩, by simp [h], fun t u hu => ?_⟩
      have ht : t < m := by
        have := (List.getElem?_eq_some_iff.1 hu).1
        simpa [upF] using this
      rw [upF_at f i m t ht] at hu
      rw [Addr.add_lit, hrowD.cell (by omega)]
      exact hu
  have s1 : Hid ((upF f i m).length = m * 1) := by show _ = _; simp [upF]
  have s2 : Hid (∀ u ∈ upF f i m, u.oneCell' = true) := fun u hu => by
    obtain ⟨t, ht, rfl⟩ := List.mem_map.1 hu
    exact h1c _ (by have := List.mem_range.1 ht; omega)
  have s3 : Hid (∀ t, t < (upF f i m).length → (w.drew.cell? ⟨g, 0 + i * 1 + t, none⟩).isSome = true ∧ w.drew.frozen? ⟨g, 0 + i * 1 + t, none⟩ = false) := fun t ht => hsome hrowD _ (by simp [upF] at ht; omega)
  obtain ⟨W1, hW1⟩ : ∃ W1, W1 = w.drew.setCells g (0 + i * 1) (upF f i m) := ⟨_, rfl⟩
  have hrow1 : W1.rowIs g 112 cap (fun j => if i ≤ j ∧ j < i + m then f (j + 1) else f j) := by
    rw [hW1]
    refine (Go.rowIs_setCells (upF f i m) (0 + i * 1) w.drew f hrowD).congr fun j _ => ?_
    rw [show 0 + i * 1 = i by omega, show (upF f i m).length = m by simp [upF]]
    by_cases h : i ≤ j ∧ j < i + m
    · rw [if_pos h, if_pos h, upF_at f i m (j - i) (by omega), show i + 1 + (j - i) = j + 1 by omega]; rfl
    · rw [if_neg h, if_neg h]
  have hk1 : Keep (fun k => k = g) w W1 := by
    rw [hW1]
    exact (⟨rfl, rfl, rfl, Nat.le_refl _, fun _ _ _ => rfl⟩ : Keep (fun k => k = g) w w.drew).trans (keep_set g _ _ w.drew)
  have hclr : ∀ ty, (Builtin.clear_ #[101] ty #[.slice (some ⟨g, i + m, none⟩) 1 (cap - (i + m))]).run Tryz.prog W1 = .ok (.tuple #[]) (W1.setCells g (i + m) [.pointer none]) := fun ty =>
    Lib.run_clear_slice W1 _ _ ty _ Tryz.underlying101 zero_ptable rfl rfl g (i + m) 1 _ (by omega) (fun t ht => (hsome hrow1 (i + m + t) (by omega)).1) (fun t ht => (hsome hrow1 (i + m + t) (by omega)).2)
  have hrow2 : (W1.setCells g (i + m) [.pointer none]).rowIs g 112 cap (shutF f i m) := by
    refine (Go.rowIs_setCells [.pointer none] (i + m) W1 _ hrow1).congr fun j _ => ?_
    unfold shutF
    by_cases h : j = i + m
    · subst h
      simp
    · rw [if_neg (by simp; omega), if_neg h]
  have HR2 : Hid ((W1.setCells g (i + m) [.pointer none]).rowIs g 112 cap (shutF f i m) ∧ Keep (fun k => k = g) w (W1.setCells g (i + m) [.pointer none])) := ⟨hrow2, hk1.trans (keep_set g _ _ W1)⟩
  have hl1 : i + 1 + m - (i + 1) = m := by omega
  have hl2 : i + 1 + m - (i + m) = 1 := by omega
  have hic : i ≤ cap := by omega
  have hjc : i + 1 ≤ cap := by omega
  have h5a : (0 : Int) ≤ (i : Int) + 1 := by omega
  have h5b : (i : Int) + 1 ≤ (i : Int) + 1 + (m : Int) := by omega
  have HW : Hid (W1 = w.drew.setCells g (0 + i * 1) (upF f i m)) := hW1
  clear hrow hrowD hsome hrow1 hk1 hrow2 hW1 h1c
  go_enter Tryz.func63, Tryz.ntmps63
  go_wp2_with fail
  refine wp_region_held_drew (S := fun _ => True) (by kernel_rfl) trivial (fun hH => ?_)
  refine wpAnyH_take (i := 0) (v := ?_) rfl (by kernel_rfl) (by kernel_rfl) (by kernel_rfl) (fun _ _ _ h => h) (Or.inl ⟨by rfl, ?_⟩) hH ?_
  rotate_left 1
  · intro w hSw; (try dsimp only at hSw); go_simp; try rfl
  simp only [Act.put, List.getElem_toArray, List.getElem_cons_zero, List.setIfInBounds_toArray, List.set_cons_zero, List.set_cons_succ]
  refine wpAnyH_take (i := 1) (v := ?_) rfl (by kernel_rfl) (by kernel_rfl) (by kernel_rfl) (fun _ _ _ h => h) (Or.inl ⟨by rfl, ?_⟩) hH ?_
  rotate_left 1
  · intro w hSw; (try dsimp only at hSw); go_simp; try rfl
  simp only [Act.put, List.getElem_toArray, List.getElem_cons_zero, List.getElem_cons_succ, List.setIfInBounds_toArray, List.set_cons_zero, List.set_cons_succ]
  refine wpAnyH_take (i := 2) (v := ?_) rfl (by kernel_rfl) (by kernel_rfl) (by kernel_rfl) (fun _ _ _ h => h) (Or.inl ⟨by rfl, ?_⟩) hH ?_
  rotate_left 1
  · intro w hSw; (try dsimp only at hSw); go_simp; try rfl
  simp only [Act.put, List.getElem_toArray, List.getElem_cons_zero, List.getElem_cons_succ, List.setIfInBounds_toArray, List.set_cons_zero, List.set_cons_succ]
  refine wpAnyH_take (i := 3) (v := ?_) rfl (by kernel_rfl) (by kernel_rfl) (by kernel_rfl) (fun _ _ _ h => h) (Or.inl ⟨by rfl, ?_⟩) hH ?_
  rotate_left 1
  · intro w hSw; (try dsimp only at hSw); go_simp; try rfl
  simp only [Act.put, List.getElem_toArray, List.getElem_cons_zero, List.getElem_cons_succ, List.setIfInBounds_toArray, List.set_cons_zero, List.set_cons_succ]
  refine wpAnyH_take (i := 4) (v := ?_) rfl (by kernel_rfl) (by kernel_rfl) (by kernel_rfl) (fun _ _ _ h => h) (Or.inl ⟨by rfl, ?_⟩) hH ?_
  rotate_left 1
  · intro w hSw; (try dsimp only at hSw); go_simp; try rfl
  simp only [Act.put, List.getElem_toArray, List.getElem_cons_zero, List.getElem_cons_succ, List.setIfInBounds_toArray, List.set_cons_zero, List.set_cons_succ]
  refine wpAnyH_take (i := 5) (v := ?_) rfl (by kernel_rfl) (by kernel_rfl) (by kernel_rfl) (fun _ _ _ h => h) (Or.inl ⟨by rfl, ?_⟩) hH ?_
  rotate_left 1
  · intro w hSw; (try dsimp only at hSw); go_simp; try rfl
  simp only [Act.put, List.getElem_toArray, List.getElem_cons_zero, List.getElem_cons_succ, List.setIfInBounds_toArray, List.set_cons_zero, List.set_cons_succ]
  refine wpAnyH_ready (rs := [6]) (by kernel_rfl) (by simp) (AllReadyH.cons rfl (fun K hK => ?_) AllReadyH.nil)
  refine step_append_room rfl (.tmp 22) (.tmp 25) 101 rfl 112 i0 1 Tryz.underlying101 hi0 hz1 g 0 i cap rfl A m (cap - (i + 1)) (upF f i m) rfl s1.out hAc.out s2.out (by omega) s3.out ?_
  rw [← HW.out]
  refine hK.out _ _ trivial (fun hH => ?_)
  clear hK K
  simp only [Act.put, List.getElem_toArray, List.getElem_cons_zero, List.getElem_cons_succ, List.setIfInBounds_toArray, List.set_cons_zero, List.set_cons_succ]
  refine wpAnyH_take (i := 7) (v := ?_) rfl (by kernel_rfl) (by kernel_rfl) (by kernel_rfl) (fun _ _ _ h => h) (Or.inl ⟨by rfl, ?_⟩) hH ?_
  rotate_left 1
  · intro w hSw; (try dsimp only at hSw); go_simp; try rfl
  simp only [Act.put, List.getElem_toArray, List.getElem_cons_zero, List.getElem_cons_succ, List.setIfInBounds_toArray, List.set_cons_zero]
  refine wpAnyH_done (by kernel_rfl) ?_ _
  go_wp2
  go_ret
  exact ⟨rfl, HR2.out.1, HR2.out.2⟩

/-- A list of one's own, one place taken out. -/
theorem tDelete_own (B g cap i : Nat) (bs : List Nat) (w : World) (h : OwnC w B 112 (.slice (some ⟨g, 0, none⟩) bs.length cap) (bs.map tabV)) (hi : i < bs.length) :
    Calls Tryz.prog 63 #[.slice (some ⟨g, 0, none⟩) bs.length cap, .int .i64 (i : Int), .int .i64 ((i : Int) + 1)] w fun e w' => e = .returned (.slice (some ⟨g, 0, none⟩) (bs.length - 1) cap) ∧ OwnC w' B 112 (.slice (some ⟨g, 0, none⟩) (bs.length - 1) cap) ((bs.eraseIdx i).map tabV) ∧ Keep (fun k => k = g) w w' := by
  rcases h.2 with ⟨hv, _⟩ | ⟨g', cap', cur, hv, hB, hg, hnc, hm, hcs, hcur⟩
  · cases hv
  · simp only [Value.slice.injEq, Option.some.injEq, Addr.mk.injEq, List.length_map] at hv
    obtain ⟨⟨rfl, _⟩, _, rfl⟩ := hv
    rw [Nat.mul_one] at hcs hcur
    rw [List.length_map] at hcur hnc
    have hrow : w.rowIs g 112 cap (fun j => (cur[j]?).getD default) := ⟨cur, hg, hcs, fun j hj => by simp only [Array.getElem?_eq_getElem (show j < cur.size by omega), Option.getD_some]⟩
    have hcell : ∀ k (hk : k < bs.length), cur[k]? = some (tabV bs[k]) := fun k hk => by
      have := congrArg (fun l => l[k]?) hcur
      simp only [List.getElem?_take, if_pos hk, List.getElem?_map, List.getElem?_eq_getElem hk, Option.map_some, Array.getElem?_toList] at this
      exact this
    obtain ⟨m, hmm⟩ : ∃ m, bs.length = i + 1 + m := ⟨bs.length - (i + 1), by omega⟩
    have hd := tDelete_row g cap i m _ w hrow (fun j hj => by rw [hcell j (by omega)]; rfl) (by omega) (by unfold maxLen at hm; omega)
    rw [← hmm] at hd
    refine hd.mono ?_
    rintro e w' ⟨rfl, ⟨c2, hc2, hs2, hv2⟩, hk⟩
    have e1 : bs.length - 1 = i + m := by omega
    have hEl : ((bs.eraseIdx i).map tabV).length = i + m := by rw [List.length_map, List.length_eraseIdx, if_pos hi]; omega
    rw [e1]
    refine ⟨rfl, ⟨by simp, .inr ⟨g, cap, c2, by rw [hEl], hB, hc2, by rw [hEl]; omega, hm, by rw [Nat.mul_one]; exact hs2, ?_⟩⟩, hk⟩
    apply List.ext_getElem?
    intro k
    rw [Nat.mul_one, hEl, List.getElem?_take, List.getElem?_map, List.getElem?_eraseIdx]
    by_cases hk' : k < i + m
    · rw [if_pos hk', Array.getElem?_toList, hv2 k (by omega)]
      unfold shutF
      rw [if_neg (by omega)]
      by_cases h2 : k < i
      · rw [if_neg (by omega), if_pos h2]
        simp only [hcell k (by omega), List.getElem?_eq_getElem (show k < bs.length by omega), Option.getD_some, Option.map_some]
      · rw [if_pos ⟨by omega, hk'⟩, if_neg h2]
        simp only [hcell (k + 1) (by omega), List.getElem?_eq_getElem (show k + 1 < bs.length by omega), Option.getD_some, Option.map_some]
    · rw [if_neg hk']
      by_cases h2 : k < i
      · omega
      · rw [if_neg h2, List.getElem?_eq_none (by omega)]
        rfl
end Go.Proofs.YtfgklnenpichcaaGreatDoor

/- A table let go: Drop. -/
namespace Go.Proofs.YtfgklnenpichcaaGreatDoor
open Go.RowKit Go.Shelf

/-- What Drop answers. -/
def DropPost (w : World) (F G : Nat → Prop) (s d : Nat) (D : DS) (Ts : List TS) (sv : Value) (bs : List Nat) (et : Addr) (n : ByteArray) (e : Ending) (w' : World) : Prop :=
  Keep (fun k => F k ∨ setF s sv k) w w' ∧ match Ts[findI Ts n]? with
    | none => e = .returned (.iface 255 (.pointer (some et))) ∧ Below w.heap.size w w'
    | some T => e = .returned .nilIface ∧ DiskAt w' F d (relAll D T.segs) ∧ ∃ sv', sv'.ownBlock = sv.ownBlock ∧ SetX w' G s d (Ts.eraseIdx (findI Ts n)) sv' (bs.eraseIdx (findI Ts n))

theorem eraseIdx_pair {α β : Type} (i : Nat) (xs : List α) (ys : List β) (j : Nat) (x : α) (y : β) (hx : (xs.eraseIdx i)[j]? = some x) (hy : (ys.eraseIdx i)[j]? = some y) : ∃ k : Nat, xs[k]? = some x ∧ ys[k]? = some y := by
  rw [List.getElem?_eraseIdx] at hx hy
  by_cases h : j < i
  · rw [if_pos h] at hx hy
    exact ⟨j, hx, hy⟩
  · rw [if_neg h] at hx hy
    exact ⟨j + 1, hx, hy⟩

set_option maxRecDepth 100000 in
set_option maxHeartbeats 1000000 in
theorem tDrop_any (n : ByteArray) (w : World) (F G : Nat → Prop) (s d : Nat) (D : DS) (Ts : List TS) (sv : Value) (bs : List Nat) (h : SetX w G s d Ts sv bs) (hd : DiskAt w F d D) (hFG : ∀ k, G k → ¬ F k) (hsF : ¬ F s) (hgF : ∀ g, sv.ownBlock = some g → ¬ F g) (hok : ∀ T ∈ Ts, T.segs.length ≤ 1000000 ∧ ∀ l ∈ T.segs, l.length ≤ 1000000) (et : Addr) (het : w.cell? ⟨1, 0, none⟩ = some (.iface 255 (.pointer (some et)))) :
    Calls Tryz.prog 36 #[.pointer (some ⟨s, 0, none⟩), .string n] w fun e w' => DropPost w F G s d D Ts sv bs et n e w' := by
  have hf := tFind_any n w G s d Ts sv bs h
  by_cases hlt : findI Ts n < Ts.length
  · have hfv : findV Ts n = (findI Ts n : Int) := by unfold findV; rw [if_pos hlt]
    have hT : Ts[findI Ts n]? = some Ts[findI Ts n] := by simp [hlt]
    unfold DropPost
    rw [hT]
    dsimp only
    rw [hfv] at hf
    generalize findI Ts n = k at *
    have hokT := hok _ (List.getElem_mem hlt)
    have hkb : k < bs.length := by rw [h.len]; exact hlt
    obtain ⟨b, o, hse, c2, ht⟩ := h.at hlt
    obtain ⟨c0, c1⟩ := h.field
    obtain ⟨a, cap, hsv, _⟩ := h.own.cells
    rw [List.length_map] at hsv
    subst hsv
    simp at hse
    obtain ⟨rfl, hbt⟩ := hse
    clear hbt
    have ho0 : o = 0 := by
      rcases h.own.2 with ⟨hv, _⟩ | ⟨g', cap', cur, hv, _⟩
      · cases hv
      · simp at hv
        exact hv.1.2
    subst ho0
    rw [Nat.zero_add] at c2
    generalize bs[k]'_ = tk at c2 ht
    obtain ⟨ta, tc, sa, sc, hs, hX⟩ := ht
    obtain ⟨_, _, _, _, t4⟩ := hX.field
    have hgb := h.gF b rfl
    have hbF := hgF b rfl
    have HS : Hid (SetX w G s d Ts (.slice (some ⟨b, 0, none⟩) bs.length cap) bs) := h
    have HRL : Hid (∀ W, Below w.heap.size w W → Calls Tryz.prog 62 #[.pointer (some ⟨s, 0, none⟩), .slice sa Ts[k].segs.length sc] W fun e w' => e = .returned (.tuple #[]) ∧ DiskAt w' F d (relAll D Ts[k].segs) ∧ Keep F W w') := fun W hb =>
      tRelease_any s d sa sc hs Ts[k].segs W F G D (hd.below hb) (hX.segs.stands hb.size fun x _ hx => hb.block x hx) hFG (cell_below hb c0) hsF hokT.1 hokT.2
    have HDL : Hid (∀ W, OwnC W 0 112 (.slice (some ⟨b, 0, none⟩) bs.length cap) (bs.map tabV) → Calls Tryz.prog 63 #[.slice (some ⟨b, 0, none⟩) bs.length cap, .int .i64 (k : Int), .int .i64 ((k : Int) + 1)] W fun e w' => e = .returned (.slice (some ⟨b, 0, none⟩) (bs.length - 1) cap) ∧ OwnC w' 0 112 (.slice (some ⟨b, 0, none⟩) (bs.length - 1) cap) ((bs.eraseIdx k).map tabV) ∧ Keep (fun x => x = b) W w') := fun W hW => tDelete_own 0 b cap k bs W hW hkb
    have hfew := h.few
    have hsl := lt_of_heap h.cells
    have hbl : b < w.heap.size := own_block_ge h.own rfl
    clear hok hfv hT h hokT hX
    go_enter Tryz.func36, Tryz.ntmps36
    go_wp2_with (first | (go_at_call 55; refine hf.mono ?_; rintro e W1 ⟨rfl, hb1⟩; have d1 := cell_below hb1 c1; have d2 := cell_below hb1 c2; have d4 := cell_below hb1 t4) | (go_at_call 62; refine (HRL.out W1 hb1).mono ?_; rintro e W2 ⟨rfl, hd2, hk2⟩; have e1 := hk2.cell d1 hsF))
    have hown : OwnC W2 0 112 (.slice (some ⟨b, 0, none⟩) bs.length cap) (bs.map tabV) := own_of_block HS.out.own fun g hg => by
      have hgb' : b = g := by simpa [Value.ownBlock] using hg
      subst hgb'
      exact (hk2.block b (Nat.lt_of_lt_of_le hbl hb1.size) hbF).trans (hb1.block b hbl)
    refine (HDL.out W2 hown).mono ?_
    rintro e W3 ⟨rfl, ho3, hk3⟩
    have hs3 : W3.heap[s]? = some (.cells #[.pointer (some ⟨d, 0, none⟩), .slice (some ⟨b, 0, none⟩) bs.length cap] 103 (0, 0)) := ((hk3.block s (Nat.lt_of_lt_of_le (Nat.lt_of_lt_of_le hsl hb1.size) hk2.size) hgb.2.symm).trans ((hk2.block s (Nat.lt_of_lt_of_le hsl hb1.size) hsF).trans (hb1.block s hsl))).trans HS.out.cells
    have f1 := hk3.cell e1 hgb.2.symm
    have f2 : W3.frozen? ⟨s, 1, none⟩ = false := by simp [World.frozen?, hs3]
    have HS3 : Hid (W3.heap[s]? = some (.cells #[.pointer (some ⟨d, 0, none⟩), .slice (some ⟨b, 0, none⟩) bs.length cap] 103 (0, 0))) := hs3
    clear hs3
    go_wp2
    go_ret
    have hz1 := hb1.size
    have hz2 := hk2.size
    have hz3 := hk3.size
    have hall : ∀ x, x < w.heap.size → ¬ F x → x ≠ b → x ≠ s → (W3.setCell ⟨s, 1, none⟩ (.slice (some ⟨b, 0, none⟩) (bs.length - 1) cap)).heap[x]? = w.heap[x]? := fun x hx hF hb hs =>
      (Below.heap_setCell _ _ _ _ hs).trans ((hk3.block x (by omega) hb).trans ((hk2.block x (by omega) hF).trans (hb1.block x hx)))
    have hsz : (W3.setCell ⟨s, 1, none⟩ (.slice (some ⟨b, 0, none⟩) (bs.length - 1) cap)).heap.size = W3.heap.size := by simp [World.setCell]
    refine ⟨⟨(hk3.os.trans hk2.os).trans hb1.os, (hk3.tape.trans hk2.tape).trans hb1.tape, (hk3.output.trans hk2.output).trans hb1.output, by rw [hsz]; omega, fun x hx hn => hall x hx (fun hF => hn (.inl hF)) (fun e => hn (.inr (.inr (by rw [e]; rfl)))) (fun e => hn (.inr (.inl e)))⟩, rfl, ?_, .slice (some ⟨b, 0, none⟩) (bs.length - 1) cap, rfl, ?_⟩
    · refine hd2.stands fun x hF hx => ?_
      have n1 : x ≠ s := fun e => hsF (by rw [← e]; exact hF)
      have n2 : x ≠ b := fun e => hbF (by rw [← e]; exact hF)
      exact (Below.heap_setCell _ _ _ _ n1).trans (hk3.block x hx n2)
    · have h := HS.out
      refine ⟨heap_setCell_same W3 s 1 _ _ _ HS3.out, own_of_block ho3 fun g hg => ?_, h.sF, fun g hg => h.gF g hg, by rw [List.length_eraseIdx, List.length_eraseIdx, h.len], fun j b' T hb hT => ?_, ?_⟩
      · have hgb' : b = g := by simpa [Value.ownBlock] using hg
        subst hgb'
        exact Below.heap_setCell _ _ _ _ hgb.2
      · obtain ⟨k', hx, hy⟩ := eraseIdx_pair k bs Ts j b' T hb hT
        exact (h.tab k' b' T hx hy).stands (by rw [hsz]; omega) fun x hG hx => hall x hx (hFG x hG) (fun e => hgb.1 (by rw [← e]; exact hG)) (fun e => h.sF (by rw [← e]; exact hG))
      · rw [List.length_eraseIdx, if_pos hlt]
        omega
  · have hfv : findV Ts n = -1 := by unfold findV; rw [if_neg hlt]
    have HO : Hid (Ts[findI Ts n]? = none) := by show _ = _; simp; omega
    rw [hfv] at hf
    clear hfv hlt hok h
    go_enter Tryz.func36, Tryz.ntmps36
    go_wp2_with (first | (go_at_call 55; refine hf.mono ?_; rintro e W1 ⟨rfl, hb1⟩; have het1 := cell_below hb1 het))
    go_ret
    unfold DropPost
    rw [HO.out]
    exact ⟨.of_below hb1, rfl, hb1⟩
end Go.Proofs.YtfgklnenpichcaaGreatDoor
