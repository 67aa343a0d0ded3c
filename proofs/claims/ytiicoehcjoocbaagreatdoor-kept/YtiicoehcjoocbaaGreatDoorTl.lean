/- A table read from the disk: the walk. -/
import Derived.Test.YtiicoehcjoocbaaGreatDoorTk
namespace Go.Proofs.YtiicoehcjoocbaaGreatDoor
open Go.RowKit Go.Shelf
attribute [local go_sem] Oper.semAt_some

theorem alloc3 (w : World) (o0 o1 o2 : Obj) (W : World) (hW : ((w.alloc o0).alloc o1).alloc o2 = W) :
    W.heap.size = w.heap.size + 3 ∧ W.heap[w.heap.size]? = some o0 ∧ W.heap[w.heap.size + 1]? = some o1 ∧ W.heap[w.heap.size + 1 + 1]? = some o2 ∧ Below w.heap.size w W := by
  subst hW
  refine ⟨by simp, ?_, ?_, ?_, ?_⟩
  · rw [Below.heap_alloc _ _ _ (by simp only [World.size_alloc]; omega), Below.heap_alloc _ _ _ (by simp)]; exact alloc_at _ _ _ rfl
  · rw [Below.heap_alloc _ _ _ (by simp)]; exact alloc_at _ _ _ (by simp only [World.size_alloc])
  · exact alloc_at _ _ _ (by simp only [World.size_alloc])
  exact (((Below.refl _ w).alloc (Nat.le_refl _) _).alloc (by simp) _).alloc (by simp; omega) _

set_option maxRecDepth 100000 in
set_option maxHeartbeats 4000000 in
theorem tRead_any (s d tb : Nat) (T : TS) (w : World) (F G : Nat → Prop) (D : DS) (h : DiskAt w F d D) (hs0 : w.cell? ⟨s, 0, none⟩ = some (.pointer (some ⟨d, 0, none⟩))) (hT : TabAt w G tb T) (htl : 1 ≤ T.types.length ∧ T.types.length ≤ 6) (hr : T.rows ≤ 200) (hg : 1 ≤ T.group) (hg2 : T.group ≤ 64) (hsl : T.segs.length = ckN T.rows T.group * T.types.length) (hl0 : ∀ l ∈ T.segs, l ≠ [] ∧ l.length ≤ 1000) (hne : ∀ l ∈ T.segs, ∀ t, readL D l = .inl t → t ≠ []) (a0 a1 a2 : Addr) (he : Errs w a0 a1 a2) (pg : Addr) (hpg : w.cell? ⟨6, 0, none⟩ = some (.iface 385 (.pointer (some pg)))) :
    Calls Tryz.prog 90 #[.pointer (some ⟨s, 0, none⟩), .pointer (some ⟨tb, 0, none⟩)] w fun e w' => TReadPost w pg (readF D T.types T.segs (List.replicate T.rows (List.replicate T.types.length zeroV)) (cks T.rows T.group (ckN T.rows T.group))).1 e w' := by
  obtain ⟨ta, tc, sa, sc, hs, hX⟩ := hT
  obtain ⟨t0, t1, t2, t3, t4⟩ := hX.field
  have htb := lt_of_heap hX.cells
  refine (callsIn_wide (n := 3)).1 ?_
  refine callsIn_of_wp_marks Tryz.func90 rfl trivial ?_ rfl
  simp only [Tryz.ntmps90, List.size_toArray, List.length_cons, List.length_nil, Nat.reduceAdd, Nat.reduceSub, Array.replicate_succ, Array.replicate_zero, List.push_toArray, List.append_toArray, List.nil_append, List.cons_append]
  have HSL : Hid (T.segs.length = ckN T.rows T.group * T.types.length) := hsl
  have HL0 : Hid (∀ l ∈ T.segs, l ≠ [] ∧ l.length ≤ 1000) := hl0
  have HNE : Hid (∀ l ∈ T.segs, ∀ t, readL D l = .inl t → t ≠ []) := hne
  clear hsl hl0 hne
  gi_wp2
  generalize hW : World.alloc _ (Obj.cells #[.nilIface] 100) = W
  have e0 : W.heap[w.heap.size]? = some (.cells #[.pointer (some ⟨s, 0, none⟩)] 95 (0, 0)) := by
    subst hW
    rw [Below.heap_alloc _ _ _ (by simp only [World.size_alloc]; omega), Below.heap_alloc _ _ _ (by simp only [World.size_alloc]; omega), Below.heap_alloc _ _ _ (by simp)]; exact alloc_at _ _ _ rfl
  have e1 : W.heap[w.heap.size + 1]? = some (.cells #[.pointer (some ⟨tb, 0, none⟩)] 177 (0, 0)) := by
    subst hW
    rw [Below.heap_alloc _ _ _ (by simp only [World.size_alloc]; omega), Below.heap_alloc _ _ _ (by simp)]; exact alloc_at _ _ _ (by simp only [World.size_alloc])
  have e2 : W.heap[w.heap.size + 1 + 1]? = some (.cells #[.slice none 0 0] 29 (0, 0)) := by
    subst hW
    rw [Below.heap_alloc _ _ _ (by simp)]; exact alloc_at _ _ _ (by simp only [World.size_alloc])
  have e3 : W.heap[w.heap.size + 1 + 1 + 1]? = some (.cells #[.nilIface] 100 (0, 0)) := by
    subst hW
    exact alloc_at _ _ _ (by simp only [World.size_alloc])
  have hbel : Below w.heap.size w W := by
    subst hW
    exact ((((Below.refl _ w).alloc (Nat.le_refl _) _).alloc (by simp) _).alloc (by simp; omega) _).alloc (by simp; omega) _
  have HS : Hid (W.heap.size = w.heap.size + 4) := by show _ = _; subst hW; simp
  clear hW
  have d1 : W.drew.cell? ⟨w.heap.size + 1, 0, none⟩ = some (.pointer (some ⟨tb, 0, none⟩)) := by
    show W.cell? _ = _
    simp [World.cell?, e1]
  refine Code.wpIn_mono OnlyN.imp (wpIn_wide.2 ?_)
  refine wp_region_held_drew (S := fun X => X.cell? ⟨w.heap.size + 1, 0, none⟩ = some (.pointer (some ⟨tb, 0, none⟩)) ∧ X.cell? ⟨tb, 2, none⟩ = some (.int .i64 (T.rows : Int)) ∧ X.cell? ⟨tb, 1, none⟩ = some (.slice ta T.types.length tc)) (by kernel_rfl) ⟨d1, cell_below hbel t2, cell_below hbel t1⟩ (fun hH => ?_)
  have HBL : Hid (∀ X : World, Calls Tryz.prog 134 #[.int .i64 (T.rows : Int), .int .i64 (T.types.length : Int)] X fun e w' => e = .returned (.slice (some ⟨X.heap.size, 0, none⟩) T.rows T.rows) ∧ (∃ bs, Grid w' X.heap.size X.heap.size bs (List.replicate T.rows (List.replicate T.types.length zeroV))) ∧ Below X.heap.size X w') := fun X => blank_any T.rows T.types.length X (by omega) (by omega)
  refine wpAnyH_take (i := 0) (v := ?_) rfl (by kernel_rfl) (by kernel_rfl) (by kernel_rfl) (fun _ _ _ h => h) (Or.inl ⟨by rfl, ?_⟩) hH ?_
  rotate_left 1
  · intro w hSw; (try dsimp only at hSw); go_simp; try rfl
  simp only [Act.put, List.getElem_toArray, List.getElem_cons_zero, List.setIfInBounds_toArray, List.set_cons_zero, List.set_cons_succ]
  refine wpAnyH_take (i := 1) (v := ?_) rfl (by kernel_rfl) (by kernel_rfl) (by kernel_rfl) (fun _ _ _ h => h) (Or.inl ⟨by rfl, ?_⟩) hH ?_
  rotate_left 1
  · intro w hSw; (try dsimp only at hSw); go_simp; try rfl
  simp only [Act.put, List.getElem_toArray, List.getElem_cons_zero, List.getElem_cons_succ, List.setIfInBounds_toArray, List.set_cons_zero, List.set_cons_succ]
  refine wpAnyH_take (i := 2) (v := ?_) rfl (by kernel_rfl) (by kernel_rfl) (by kernel_rfl) (fun _ _ _ h => h) (Or.inl ⟨by rfl, ?_⟩) hH ?_
  rotate_left 1
  · intro w hSw; (try dsimp only at hSw); go_simp; try rfl
  simp only [Act.put, List.getElem_toArray, List.getElem_cons_zero, List.getElem_cons_succ, List.setIfInBounds_toArray, List.set_cons_zero, List.set_cons_succ]
  refine wpAnyH_take (i := 3) (v := ?_) rfl (by kernel_rfl) (by kernel_rfl) (by kernel_rfl) (fun _ _ _ h => h) (Or.inl ⟨by rfl, ?_⟩) hH ?_
  rotate_left 1
  · intro w hSw; (try dsimp only at hSw); go_simp; try rfl
  simp only [Act.put, List.getElem_toArray, List.getElem_cons_zero, List.getElem_cons_succ, List.setIfInBounds_toArray, List.set_cons_zero, List.set_cons_succ]
  refine wpAnyH_take (i := 4) (v := ?_) rfl (by kernel_rfl) (by kernel_rfl) (by kernel_rfl) (fun _ _ _ h => h) (Or.inl ⟨by rfl, ?_⟩) hH ?_
  rotate_left 1
  · intro w hSw; (try dsimp only at hSw); go_simp; try rfl
  simp only [Act.put, List.getElem_toArray, List.getElem_cons_zero, List.getElem_cons_succ, List.setIfInBounds_toArray, List.set_cons_zero, List.set_cons_succ]
  refine wpAnyH_take (i := 5) (v := ?_) rfl (by kernel_rfl) (by kernel_rfl) (by kernel_rfl) (fun _ _ _ h => h) (Or.inl ⟨by rfl, ?_⟩) hH ?_
  rotate_left 1
  · intro w hSw; (try dsimp only at hSw); go_simp; try rfl
  simp only [Act.put, List.getElem_toArray, List.getElem_cons_zero, List.getElem_cons_succ, List.setIfInBounds_toArray, List.set_cons_zero, List.set_cons_succ]
  refine wpAnyH_take (i := 6) (v := ?_) rfl (by kernel_rfl) (by kernel_rfl) (by kernel_rfl) (fun _ _ _ h => h) (Or.inl ⟨by rfl, ?_⟩) hH ?_
  rotate_left 1
  · intro w hSw; (try dsimp only at hSw); go_simp; try rfl
  simp only [Act.put, List.getElem_toArray, List.getElem_cons_zero, List.getElem_cons_succ, List.setIfInBounds_toArray, List.set_cons_zero, List.set_cons_succ]
  refine wpAnyH_take (i := 7) (v := ?_) rfl (by kernel_rfl) (by kernel_rfl) (by kernel_rfl) (fun _ _ _ h => h) (Or.inl ⟨by rfl, ?_⟩) hH ?_
  rotate_left 1
  · intro w hSw; (try dsimp only at hSw); go_simp; try rfl
  simp only [Act.put, List.getElem_toArray, List.getElem_cons_zero, List.getElem_cons_succ, List.setIfInBounds_toArray, List.set_cons_zero, List.set_cons_succ]
  refine wpAnyH_take (i := 8) (v := ?_) rfl (by kernel_rfl) (by kernel_rfl) (by kernel_rfl) (fun _ _ _ h => h) (Or.inl ⟨by rfl, ?_⟩) hH ?_
  rotate_left 1
  · intro w hSw; (try dsimp only at hSw); go_simp; try rfl
  simp only [Act.put, List.getElem_toArray, List.getElem_cons_zero, List.getElem_cons_succ, List.setIfInBounds_toArray, List.set_cons_zero, List.set_cons_succ]
  refine wpAnyH_ready (rs := [9]) (by kernel_rfl) (by simp) (AllReadyH.cons rfl (fun K hK => ?_) AllReadyH.nil)
  go_simp
  refine (HBL.out _).mono ?_
  rintro e W1 ⟨rfl, ⟨bs, hgr⟩, hb1⟩
  go_simp
  replace hb1 : Below W.heap.size W W1 := below_undrew hb1
  refine hK.out _ _ ⟨cell_below hb1 (by simp [World.cell?, e1]), cell_below (hbel.trans (hb1.mono hbel.size)) t2, cell_below (hbel.trans (hb1.mono hbel.size)) t1⟩ (fun hH2 => ?_)
  clear hK K hH HBL
  refine wpAnyH_take (i := 10) (v := ?_) rfl (by kernel_rfl) (by kernel_rfl) (by kernel_rfl) (fun _ _ _ h => h) (Or.inl ⟨by rfl, ?_⟩) hH2 ?_
  rotate_left 1
  · intro w hSw; (try dsimp only at hSw); go_simp; try rfl
  simp only [Act.put, List.getElem_toArray, List.getElem_cons_zero, List.getElem_cons_succ, List.setIfInBounds_toArray, List.set_cons_zero, List.set_cons_succ]
  refine wpAnyH_done (by kernel_rfl) (OnlyN.go ?_) _
  replace e0 := (hb1.block _ (lt_of_heap e0)).trans e0
  replace e1 := (hb1.block _ (lt_of_heap e1)).trans e1
  replace e2 := (hb1.block _ (lt_of_heap e2)).trans e2
  replace e3 := (hb1.block _ (lt_of_heap e3)).trans e3
  replace hbel := hbel.trans (hb1.mono hbel.size)
  have HG0 : Hid (W.heap.size = w.heap.size + 4) := HS.out
  replace HS : Hid (w.heap.size + 4 ≤ W1.heap.size) := by show _ ≤ _; have := HS.out; have := hb1.size; omega
  replace hgr : Grid W1 W.heap.size W.heap.size bs (List.replicate T.rows (List.replicate T.types.length zeroV)) := hgr
  have HG : Hid (W.heap.size = w.heap.size + 4) := HG0
  clear HG0
  obtain ⟨g, hgg⟩ : ∃ g, W.heap.size = g := ⟨_, rfl⟩
  rw [hgg] at hgr HG ⊢
  have hgB : Grid W1 (w.heap.size + 4) g bs (List.replicate T.rows (List.replicate T.types.length zeroV)) := by
    have := HG.out
    rw [← this]
    exact hgr
  clear hgg hgr hH2
  have c1 : W1.cell? ⟨w.heap.size + 1, 0, none⟩ = some (.pointer (some ⟨tb, 0, none⟩)) := by simp [World.cell?, e1]
  have u1 := cell_below hbel t1
  have u3 := cell_below hbel t3
  have u4 := cell_below hbel t4
  have c1a : ∀ o, (W1.alloc o).cell? ⟨w.heap.size + 1, 0, none⟩ = some (.pointer (some ⟨tb, 0, none⟩)) := fun o => (alloc_cell W1 o _ 0 (lt_of_heap e1)).trans c1
  have u3a : ∀ o, (W1.alloc o).cell? ⟨tb, 3, none⟩ = some (.int .i64 (T.group : Int)) := fun o => (alloc_cell W1 o _ 3 (Nat.lt_of_lt_of_le htb hbel.size)).trans u3
  have hck := fun (X : World) => chunk_any (some ⟨g, 0, none⟩) T.rows T.rows T.group hg X
  gi_wp2_with (refine ⟨trivial, ?_⟩; gi_at_call 130; refine (callsIn_wide.2 (hck _)).mono ?_; rintro e w' ⟨rfl, rfl⟩)
  generalize hW0 : World.alloc _ (Obj.cells #[.int .i64 (T.group : Int)] 3) = W0
  obtain ⟨hsz, f0, f1, f2, hb2⟩ := alloc3 W1 _ _ _ W0 hW0
  clear hW0 hck c1a u3a
  obtain ⟨q, hq⟩ : ∃ q, W1.heap.size = q := ⟨_, rfl⟩
  have hgq : g < q ∧ ∀ b ∈ bs, b < q := by
    rw [← hq]
    refine ⟨hgB.outer.lt, fun b hb => ?_⟩
    obtain ⟨i, hi, rfl⟩ := List.getElem_of_mem hb
    have hi2 : i < (List.replicate T.rows (List.replicate T.types.length zeroV)).length := by rw [← hgB.len]; exact hi
    exact (hgB.rows i bs[i] _ (by simp [hi]) (List.getElem?_eq_getElem hi2)).lt
  have HGQ : Hid (g < q ∧ ∀ b ∈ bs, b < q) := hgq
  have hb3 : Below w.heap.size w W0 := hbel.trans (hb2.mono hbel.size)
  have hl0 := lt_of_heap e0
  have hl1 := lt_of_heap e1
  have hl2 := lt_of_heap e2
  have hl3 := lt_of_heap e3
  have HI0 : Hid (ReadI w G s tb T.types.length g q bs W0 (List.replicate T.rows (List.replicate T.types.length zeroV)) T.segs) :=
    ⟨(hb2.block _ hl0).trans e0, (hb2.block _ hl1).trans e1, (hb2.block _ hl2).trans e2, (hb2.block _ hl3).trans e3, ⟨sa, hs, sc, by rw [← hq]; exact f0, hX.segs, hX.cap⟩, hgB.below hb2, fun r hr => by rw [(List.mem_replicate.1 hr).2, List.length_replicate], hb3, ⟨by rw [← hq]; exact HS.out, hgq.1, hgq.2⟩, by rw [hsz, hq]; exact Nat.le_refl _⟩
  rw [hq] at f1 f2 ⊢
  have HS0 : Hid (W0.heap.size = q + 3) := by show _ = _; rw [hsz, hq]
  have HQ : Hid (w.heap.size + 4 ≤ q) := by show _ ≤ _; rw [← hq]; exact HS.out
  clear hsz hq hgq HS e0 e1 e2 e3 f0 hl0 hl1 hl2 hl3 hb2 hgB hbel hb1 c1 u1 u3 u4 d1
  refine wpIn_rangeFunc_ownG rfl (by omega) (gf := 175) (lb := #[.pointer (some ⟨q + 1, 0, none⟩), .pointer (some ⟨q + 1 + 1, 0, none⟩)]) rfl trivial (enters_of Tryz.func175 (by kernel_rfl) rfl)
    (chunk_stops 2 (by omega) (q + 1) (q + 1 + 1) (some ⟨g, 0, none⟩) T.rows T.rows T.group hg hg2 (by omega) (Nat.le_refl _) (.inr ⟨g, 0, rfl⟩) W0 (lt_of_heap f1) (lt_of_heap f2) (by simp [World.cell?, f1]) (by simp [World.cell?, f2]))
    (fun h k => ⟨k.1.trans h.1, k.2.trans h.2⟩) ?hKb (Below.refl _ _) (fun _ => rfl)
    (fun pre W => ∃ R, (readF D T.types T.segs (List.replicate T.rows (List.replicate T.types.length zeroV)) (pre.map Subtype.val)).1 = .inl R ∧ Hid (R.length = T.rows) ∧ ReadI w G s tb T.types.length g q bs W R (T.segs.drop (pre.length * T.types.length)))
    (fun c pre W => c = .ret ∧ ∃ j, (readF D T.types T.segs (List.replicate T.rows (List.replicate T.types.length zeroV)) (pre.map Subtype.val)).1 = .inr j ∧ ReadX w pg W j)
    ?hI ?hIx ?h0
    (fun x => { tmps := #[.pointer (some ⟨s, 0, none⟩), .pointer (some ⟨tb, 0, none⟩), .pointer (some ⟨w.heap.size, 0, none⟩), .pointer (some ⟨w.heap.size + 1, 0, none⟩), .pointer (some ⟨w.heap.size + 1 + 1, 0, none⟩), .pointer (some ⟨w.heap.size + 1 + 1 + 1, 0, none⟩), .slice (some ⟨g, 0, none⟩) T.rows T.rows, .pointer (some ⟨q, 0, none⟩), ckV (some ⟨g, 0, none⟩) x.1, undef, undef, undef, undef, undef, undef,
      .pointer (some ⟨tb, 0, none⟩), .pointer (some ⟨tb, 0, none⟩), .pointer (some ⟨tb, 2, none⟩), .int .i64 (T.rows : Int), .pointer (some ⟨tb, 0, none⟩), .pointer (some ⟨tb, 0, none⟩), .pointer (some ⟨tb, 1, none⟩), .slice ta T.types.length tc, .int .i64 (T.types.length : Int), .slice (some ⟨g, 0, none⟩) T.rows T.rows,
      .pointer (some ⟨tb, 0, none⟩), .pointer (some ⟨tb, 0, none⟩), .pointer (some ⟨tb, 4, none⟩), .slice sa T.segs.length sc, .slice (some ⟨g, 0, none⟩) T.rows T.rows, .pointer (some ⟨tb, 0, none⟩), .pointer (some ⟨tb, 0, none⟩), .pointer (some ⟨tb, 3, none⟩), .int .i64 (T.group : Int), .func (.func 175) #[] #[.pointer (some ⟨q + 1, 0, none⟩), .pointer (some ⟨q + 1 + 1, 0, none⟩)], ckV (some ⟨g, 0, none⟩) x.1,
      undef, undef, undef, undef, undef, undef, undef, undef, undef, undef, undef, undef, undef, undef, undef, undef, undef, undef, undef, undef, undef, undef, undef, undef, undef, undef, undef, undef, undef, undef, undef, undef, undef, undef, undef, undef, undef, undef, undef, undef, undef, undef, undef], defers := [] }) ?assign ?body ?done ?stop
  case hKb =>
    intro W l o o' hl ho hc _
    have := HS0.out
    exact ⟨World.putObj_heap_other (by omega), World.putObj_heap_other (by omega)⟩
  case hI =>
    rintro s W W' row ⟨R, h1, h2, h3⟩ hg hr
    exact ⟨R, h1, h2, h3.kept hg fun r e => ⟨by have := (hr r e).1; have := HS0.out; have := HQ.out; omega, (hr r e).2⟩⟩
  case hIx =>
    rintro c s W W' row ⟨hc, j, h1, h3⟩ hg hr
    exact ⟨hc, j, h1, h3.kept hg fun r e => ⟨by have := (hr r e).1; have := HS0.out; have := HQ.out; omega, (hr r e).2⟩⟩
  case h0 => exact ⟨_, rfl, by show _ = _; rw [List.length_replicate], by simpa using HI0.out⟩
  case assign =>
    intro l x W K hK
    gi_wp2
    exact hK
  case body =>
    rintro l pre x W ⟨R, hR, hRL, hI⟩ hpre
    have HN : Hid (pre.length * T.types.length + T.types.length ≤ T.segs.length) := by
      show _ ≤ _
      rw [HSL.out, ← Nat.succ_mul]
      exact Nat.mul_le_mul_right _ hpre
    obtain ⟨ls, HLS⟩ : ∃ ls, Hid (T.segs.drop (pre.length * T.types.length) = ls) := ⟨_, rfl⟩
    have HLL : Hid (T.types.length ≤ ls.length) := by
      show _ ≤ _
      rw [← HLS.out, List.length_drop]
      have := HN.out
      omega
    have HLM : Hid (∀ y ∈ ls, y ∈ T.segs) := fun y hy => by rw [← HLS.out] at hy; exact List.mem_of_mem_drop hy
    have HPF : Hid ((readF D T.types T.segs (List.replicate T.rows (List.replicate T.types.length zeroV)) ((pre ++ [x]).map Subtype.val)).1 = readK D ls T.types x.1 R T.types.length) := by
      show _ = _
      rw [List.map_append, List.map_cons, List.map_nil, readF_snoc]
      simp only [readS, hR, readF_left, List.length_map, HLS.out]
    have HPD : Hid (T.segs.drop ((pre ++ [x]).length * T.types.length) = ls.drop T.types.length) := by
      show _ = _
      rw [← HLS.out, List.drop_drop, List.length_append, Nat.add_mul]
      congr 1
      simp
    rw [HLS.out] at hI
    obtain ⟨⟨xo, xn⟩, hxo, hxn, hx64⟩ := x
    simp only at hxo hxn hx64
    have hckv : ckV (some ⟨g, 0, none⟩) (xo, xn) = .slice (some ⟨g, xo, none⟩) xn xn := by simp [ckV]
    simp only [hckv]
    have c1 := hI.b1.cell
    have u1 := cell_below hI.below t1
    clear hR hckv
    gi_wp2
    gi_loopw [41] (fun i wr => ∃ (c : Nat) (R2 : List (List V)) (lsd : List (List Nat)), c ≤ T.types.length ∧ i = .int .i64 c ∧ Hid (readK D ls T.types (xo, xn) R c = .inl R2) ∧ Hid (R2.length = T.rows) ∧ Hid (ls.drop c = lsd) ∧ ReadI w G s tb T.types.length g q bs wr R2 lsd ∧ KeepsFrom W0.heap.size W wr ∧ KpC (q + 1) (q + 1 + 1) W wr) (fun i _ => T.types.length - (intOf i).toNat)
    case atStart => exact ⟨0, R, ls, Nat.zero_le _, rfl, rfl, hRL, by show _ = _; simp, hI, KeepsFrom.refl _ _, rfl, rfl⟩
    case round =>
      obtain ⟨c, R2, lsd, hc, rfl, HK, HR2, HLD, hJ, hkf, hkc⟩ := hrel
      by_cases hlt : c < T.types.length
      · have hbw := hJ.below
        obtain ⟨b1, o1, rfl, hb1, y1⟩ := Ints.at (hX.types.below hbw) hlt
        obtain ⟨sa2, hs2, sc2, hL, hSG, hcap⟩ := hJ.left
        have hpos : 0 < lsd.length := by
          rw [← HLD.out, List.length_drop]
          have := HLL.out
          omega
        obtain ⟨b2, o2, ra, rc, rfl, hF2, hb2, y2, hcs, hfs⟩ := hSG.at hpos
        obtain ⟨lg, hlg⟩ : ∃ lg, lsd[0] = lg := ⟨_, rfl⟩
        have HLG : Hid (lsd[0] = lg) := hlg
        clear hlg
        rw [HLG.out] at y2 hcs
        rw [Nat.add_zero] at y2
        have HGD : Hid (ls.getD c [] = lg) := by
          show _ = _
          rw [← HLG.out]
          have hcl : c < ls.length := by have := HLL.out; omega
          simp only [← HLD.out, List.getElem_drop, Nat.add_zero, List.getD_eq_getElem?_getD, List.getElem?_eq_getElem hcl, Option.getD_some]
        have HMEM : Hid (lg ∈ T.segs) := by
          apply HLM.out
          have hm := List.getElem_mem hpos
          rw [HLG.out] at hm
          have hm2 : lg ∈ ls.drop c := by rw [HLD.out]; exact hm
          exact List.mem_of_mem_drop hm2
        have HVA : Hid (∀ X, Below w.heap.size w X → Calls Tryz.prog 135 #[.pointer (some ⟨s, 0, none⟩), .slice ra lg.length rc, .int .i64 T.types[c], .int .i64 (xn : Int)] X fun e w' => ValsPost X pg (valsOf D lg T.types[c] xn) e w') := fun X hb => by
          have hh := HL0.out lg HMEM.out
          exact tValues_any s d ra rc lg T.types[c] xn X F D (h.below hb) (cell_below hb hs0) (hcs.below hb) hh.1 (by omega) (HNE.out lg HMEM.out) a0 a1 a2 (he.below hb) pg (cell_below hb hpg)
        have HKS : Hid (readK D ls T.types (xo, xn) R (c + 1) = match valsOf D lg T.types[c] xn with | .inr j => .inr j | .inl vs => .inl (putCol R2 xo c vs)) := by
          show _ = _
          simp only [readK, HK.out, HGD.out]
          rw [show T.types.getD c 0 = T.types[c] by simp [hlt]]
          cases valsOf D lg T.types[c] xn <;> rfl
        have c0 := hJ.b0.cell
        have c7 := hL.cell
        have l0 := hJ.b0.lt
        have l7 := hL.lt
        have y2w := cell_below hbw y2
        have hb2w : b2 < wr.heap.size := Nat.lt_of_lt_of_le hb2 hbw.size
        clear y2
        have HVN : Hid (∀ vs, valsOf D lg T.types[c] xn = .inl vs → vs.length = xn) := fun vs hv => by
          unfold valsOf at hv
          split at hv
          · cases hv
          · split at hv
            · split at hv
              · rename_i hh
                cases hv
                exact hh.2
              · cases hv
            · cases hv
        generalize valsOf D lg T.types[c] xn = vr at *
        rcases vr with vs | j
        · have HVB : Hid (∀ X, Below w.heap.size w X → Calls Tryz.prog 135 #[.pointer (some ⟨s, 0, none⟩), .slice ra lg.length rc, .int .i64 T.types[c], .int .i64 (xn : Int)] X fun e w' => Below X.heap.size X w' ∧ ∃ b, e = .returned (.tuple #[.slice (some ⟨b, 0, none⟩) vs.length vs.length, .nilIface]) ∧ X.heap.size ≤ b ∧ RowT w' b vs []) := HVA.out
          have HVL : Hid (vs.length = xn) := HVN.out vs rfl
          have hvl : vs.length ≤ 64 := by rw [HVL.out]; exact hx64
          have HK2 : Hid (readK D ls T.types (xo, xn) R (c + 1) = .inl (putCol R2 xo c vs)) := HKS.out
          clear HVA HKS HK HVN
          gi_wp2
          refine region_round (S := fun X => X.cell? ⟨w.heap.size, 0, none⟩ = some (.pointer (some ⟨s, 0, none⟩)) ∧ X.cell? ⟨q, 0, none⟩ = some (.slice (some ⟨b2, o2, none⟩) lsd.length sc2) ∧ X.cell? ⟨b2, o2, none⟩ = some (.slice ra lg.length rc) ∧ Below w.heap.size w X) (by kernel_rfl) (by kernel_rfl) ⟨c0, c7, y2w, hbw.drew⟩ (fun hH => ?_)
          refine wpAnyH_take (i := 0) (v := ?_) rfl (by kernel_rfl) (by kernel_rfl) (by kernel_rfl) (fun _ _ _ h => h) (Or.inl ⟨by rfl, ?_⟩) hH ?_
          rotate_left 1
          · intro w hSw; (try dsimp only at hSw); go_simp; try rfl
          simp only [Act.put, List.getElem_toArray, List.getElem_cons_zero, List.setIfInBounds_toArray, List.set_cons_zero, List.set_cons_succ]
          refine wpAnyH_take (i := 1) (v := ?_) rfl (by kernel_rfl) (by kernel_rfl) (by kernel_rfl) (fun _ _ _ h => h) (Or.inl ⟨by rfl, ?_⟩) hH ?_
          rotate_left 1
          · intro w hSw; (try dsimp only at hSw); go_simp; try rfl
          simp only [Act.put, List.getElem_toArray, List.getElem_cons_zero, List.getElem_cons_succ, List.setIfInBounds_toArray, List.set_cons_zero, List.set_cons_succ]
          refine wpAnyH_take (i := 2) (v := ?_) rfl (by kernel_rfl) (by kernel_rfl) (by kernel_rfl) (fun _ _ _ h => h) (Or.inl ⟨by rfl, ?_⟩) hH ?_
          rotate_left 1
          · intro w hSw; (try dsimp only at hSw); go_simp; try rfl
          simp only [Act.put, List.getElem_toArray, List.getElem_cons_zero, List.getElem_cons_succ, List.setIfInBounds_toArray, List.set_cons_zero, List.set_cons_succ]
          refine wpAnyH_take (i := 3) (v := ?_) rfl (by kernel_rfl) (by kernel_rfl) (by kernel_rfl) (fun _ _ _ h => h) (Or.inl ⟨by rfl, ?_⟩) hH ?_
          rotate_left 1
          · intro w hSw; (try dsimp only at hSw); go_simp; try rfl
          simp only [Act.put, List.getElem_toArray, List.getElem_cons_zero, List.getElem_cons_succ, List.setIfInBounds_toArray, List.set_cons_zero, List.set_cons_succ]
          refine wpAnyH_take (i := 4) (v := ?_) rfl (by kernel_rfl) (by kernel_rfl) (by kernel_rfl) (fun _ _ _ h => h) (Or.inl ⟨by rfl, ?_⟩) hH ?_
          rotate_left 1
          · intro w hSw; (try dsimp only at hSw); go_simp; try rfl
          simp only [Act.put, List.getElem_toArray, List.getElem_cons_zero, List.getElem_cons_succ, List.setIfInBounds_toArray, List.set_cons_zero, List.set_cons_succ]
          refine wpAnyH_take (i := 5) (v := ?_) rfl (by kernel_rfl) (by kernel_rfl) (by kernel_rfl) (fun _ _ _ h => h) (Or.inl ⟨by rfl, ?_⟩) hH ?_
          rotate_left 1
          · intro w hSw; (try dsimp only at hSw); go_simp; try rfl
          simp only [Act.put, List.getElem_toArray, List.getElem_cons_zero, List.getElem_cons_succ, List.setIfInBounds_toArray, List.set_cons_zero, List.set_cons_succ]
          refine wpAnyH_take (i := 6) (v := ?_) rfl (by kernel_rfl) (by kernel_rfl) (by kernel_rfl) (fun _ _ _ h => h) (Or.inl ⟨by rfl, ?_⟩) hH ?_
          rotate_left 1
          · intro w hSw; (try dsimp only at hSw); go_simp; try rfl
          simp only [Act.put, List.getElem_toArray, List.getElem_cons_zero, List.getElem_cons_succ, List.setIfInBounds_toArray, List.set_cons_zero, List.set_cons_succ]
          refine wpAnyH_ready (rs := [7]) (by kernel_rfl) (by simp) (AllReadyH.cons rfl (fun K hK => ?_) AllReadyH.nil)
          go_simp
          refine (HVB.out _ hH.2.2.2).mono ?_
          rintro e w2 ⟨hbc, vb, rfl, hvb, hrow⟩
          go_simp
          obtain ⟨kk, _⟩ := below_keep hbc
          refine hK.out _ _ ⟨(kk w.heap.size 0 l0).trans c0, (kk q 0 l7).trans c7, (kk b2 o2 hb2w).trans y2w, hbw.trans ((below_undrew hbc).mono hbw.size)⟩ (fun hH2 => ?_)
          clear hK K kk hH
          refine wpAnyH_take (i := 8) (v := ?_) rfl (by kernel_rfl) (by kernel_rfl) (by kernel_rfl) (fun _ _ _ h => h) (Or.inl ⟨by rfl, ?_⟩) hH2 ?_
          rotate_left 1
          · intro w hSw; (try dsimp only at hSw); go_simp; try rfl
          simp only [Act.put, List.getElem_toArray, List.getElem_cons_zero, List.getElem_cons_succ, List.setIfInBounds_toArray, List.set_cons_zero, List.set_cons_succ]
          refine wpAnyH_take (i := 9) (v := ?_) rfl (by kernel_rfl) (by kernel_rfl) (by kernel_rfl) (fun _ _ _ h => h) (Or.inl ⟨by rfl, ?_⟩) hH2 ?_
          rotate_left 1
          · intro w hSw; (try dsimp only at hSw); go_simp; try rfl
          simp only [Act.put, List.getElem_toArray, List.getElem_cons_zero, List.getElem_cons_succ, List.setIfInBounds_toArray, List.set_cons_zero, List.set_cons_succ]
          refine wpAnyH_take (i := 10) (v := ?_) rfl (by kernel_rfl) (by kernel_rfl) (by kernel_rfl) (fun _ _ _ h => h) (Or.inl ⟨by rfl, ?_⟩) hH2 ?_
          rotate_left 1
          · intro w hSw; (try dsimp only at hSw); go_simp; try rfl
          simp only [Act.put, List.getElem_toArray, List.getElem_cons_zero, List.getElem_cons_succ, List.setIfInBounds_toArray, List.set_cons_zero, List.set_cons_succ]
          refine wpAnyH_take (i := 11) (v := ?_) rfl (by kernel_rfl) (by kernel_rfl) (by kernel_rfl) (fun _ _ _ h => h) (Or.inl ⟨by rfl, ?_⟩) hH2 ?_
          rotate_left 1
          · intro w hSw; (try dsimp only at hSw); go_simp; try rfl
          simp only [Act.put, List.getElem_toArray, List.getElem_cons_zero, List.getElem_cons_succ, List.setIfInBounds_toArray, List.set_cons_zero, List.set_cons_succ]
          refine wpAnyH_take (i := 12) (v := ?_) rfl (by kernel_rfl) (by kernel_rfl) (by kernel_rfl) (fun _ _ _ h => h) (Or.inl ⟨by rfl, ?_⟩) hH2 ?_
          rotate_left 1
          · intro w hSw; (try dsimp only at hSw); go_simp; try rfl
          simp only [Act.put, List.getElem_toArray, List.getElem_cons_zero, List.getElem_cons_succ, List.setIfInBounds_toArray, List.set_cons_zero, List.set_cons_succ]
          refine wpAnyH_done (by kernel_rfl) (OnlyN.go ?_) _
          replace hbc : Below wr.heap.size wr w2 := below_undrew hbc
          replace hvb : wr.heap.size ≤ vb := hvb
          have hJ3 := hJ.ahead hbc
          have d7 := hH2.2.1
          have hL3 : Boxed w2 q 115 (.slice (some ⟨b2, o2, none⟩) lsd.length sc2) := (hbc.block _ l7).trans hL
          have q7 := hL3.frozen
          have hnn := run_neq_nil_nil (P := Tryz.prog)
          have hit : ∃ o3, (o3 = o2 + 1 ∨ lsd.length ≤ 1) ∧ (if sc2 = 1 then (some ⟨b2, o2, none⟩ : Option Addr) else some ⟨b2, o2 + 1, none⟩) = some ⟨b2, o3, none⟩ := by
            by_cases e : sc2 = 1
            · exact ⟨o2, .inr (by omega), by rw [if_pos e]⟩
            · exact ⟨o2 + 1, .inl rfl, by rw [if_neg e]⟩
          obtain ⟨o3, HO3, hite⟩ := hit
          replace HO3 : Hid (o3 = o2 + 1 ∨ lsd.length ≤ 1) := HO3
          have hq3 := hJ.size
          have hJ4 := hJ3.next hL3 hSG hcap HO3.out
          have HRW : Hid (RowT (w2.setCell ⟨q, 0, none⟩ (.slice (some ⟨b2, o3, none⟩) (lsd.length - 1) (sc2 - 1))) vb vs []) := hrow.of_block (Below.heap_setCell _ _ _ _ (by simp; omega))
          have HKF : Hid (KeepsFrom W0.heap.size W (w2.setCell ⟨q, 0, none⟩ (.slice (some ⟨b2, o3, none⟩) (lsd.length - 1) (sc2 - 1)))) := hkf.trans (((keeps_below hbc).trans (KeepsOthers.setCell _ _ _)).from _)
          have HKP : Hid (KpC (q + 1) (q + 1 + 1) W (w2.setCell ⟨q, 0, none⟩ (.slice (some ⟨b2, o3, none⟩) (lsd.length - 1) (sc2 - 1)))) :=
            ⟨((Below.heap_setCell _ _ _ _ (by simp)).trans (hbc.block _ (by omega))).trans hkc.1, ((Below.heap_setCell _ _ _ _ (by simp <;> omega)).trans (hbc.block _ (by omega))).trans hkc.2⟩
          have HVQ : Hid (q + 3 ≤ vb) := by show _ ≤ _; omega
          replace hJ4 : Hid (ReadI w G s tb T.types.length g q bs (w2.setCell ⟨q, 0, none⟩ (.slice (some ⟨b2, o3, none⟩) (lsd.length - 1) (sc2 - 1))) R2 (lsd.drop 1)) := hJ4
          have HLD2 : Hid (ls.drop (c + 1) = lsd.drop 1) := by show _ = _; rw [← HLD.out, List.drop_drop]
          gi_wp2
          generalize hW3 : World.setCell w2 _ _ = W3 at *
          obtain ⟨wo, hwo⟩ : ∃ wo, wo = wr := ⟨_, rfl⟩
          subst hwo
          obtain ⟨ls2, hls2⟩ : ∃ ls2, lsd.drop 1 = ls2 := ⟨_, rfl⟩
          rw [hls2] at hJ4 HLD2
          clear hls2 hH2 hJ3 hJ d7 q7 hL3 hite HO3 hrow hbc hL c7 hSG hW3 hkf hkc c0 y2w hbw l0 l7 hb2w hvb hq3 hcap hcs hfs
          have HMX : Hid (xo + xn ≤ R2.length ∧ xo + xn ≤ bs.length) := by
            have e1 := hJ4.out.grid.len
            have e2 := HR2.out
            show _ ∧ _
            omega
          gi_loopw [64] (fun i wr => ∃ m : Nat, m ≤ vs.length ∧ i = .int .i64 m ∧ ReadI w G s tb T.types.length g q bs wr (putCol R2 xo c (vs.take m)) ls2 ∧ RowT wr vb vs [] ∧ KeepsFrom W0.heap.size W wr ∧ KpC (q + 1) (q + 1 + 1) W wr) (fun i _ => vs.length - (intOf i).toNat)
          case atStart => exact ⟨0, Nat.zero_le _, rfl, by rw [putCol_zero]; exact hJ4.out, HRW.out, HKF.out, HKP.out⟩
          case round =>
            obtain ⟨m, hm, rfl, hJm, hrm, hkfm, hkpm⟩ := hrel
            by_cases hlt2 : m < vs.length
            · obtain ⟨b3, p3, he3, hb3', x1, x2, x3⟩ := hrm.vals.at hlt2
              cases he3
              rw [Nat.zero_add] at x1 x2 x3
              have hmi : xo + m < R2.length := by have := HMX.out; have := HVL.out; omega
              have hmb : xo + m < bs.length := by have := HMX.out; have := HVL.out; omega
              obtain ⟨hat, hstep⟩ := putCol_step R2 xo c vs m hlt2 hmi
              have hRm : xo + m < (putCol R2 xo c (vs.take m)).length := by rw [putCol_length]; exact hmi
              have hate : (putCol R2 xo c (vs.take m))[xo + m] = R2[xo + m] := by rw [List.getElem?_eq_getElem hRm] at hat; exact Option.some.inj hat
              have hwid : R2[xo + m].length = T.types.length := hJ4.out.wid _ (List.getElem_mem hmi)
              obtain ⟨⟨u, ⟨k0, f0⟩, ⟨k1, f1⟩, ⟨k2, f2⟩⟩, hJn, hon, hkn⟩ := hJm.put (xo + m) c hRm hmb hlt vs[m] (.cells #[.int .i64 vs[m].k, .int .i64 vs[m].n, .string vs[m].s] 49)
              have hbn := (hJm.grid.from_.2 _ (List.getElem_mem hmb)).2
              have hbq := hJm.apart.2.2 _ (List.getElem_mem hmb)
              have hgq := hJm.apart.2.1
              have hmz := hJm.size
              have y : wr.cell? ⟨g, xo + m, none⟩ = some (.slice (some ⟨bs[xo + m], 0, none⟩) T.types.length T.types.length) := by
                rw [hJm.grid.outer.cell hRm]
                simp only [gridV, List.getD_eq_getElem?_getD, hat, List.getElem?_eq_getElem hmb, Option.getD_some, hwid]
              have ya : ∀ o, (wr.alloc o).cell? ⟨g, xo + m, none⟩ = some (.slice (some ⟨bs[xo + m], 0, none⟩) T.types.length T.types.length) := fun o => (alloc_cell wr o _ _ (by omega)).trans y
              rw [hate, ← hstep] at hJn
              clear y hat hate hwid
              replace hJn := (show Hid _ from hJn)
              replace hon := (show Hid _ from hon)
              replace hkn := (show Hid _ from hkn)
              generalize bs[xo + m] = bi at *
              clear hstep
              obtain ⟨z0, z1, z2⟩ := new3 wr (.int .i64 vs[m].k) (.int .i64 vs[m].n) (.string vs[m].s) 49
              have hmxn : m < xn := by have := HVL.out; omega
              gi_wp2
              refine region_round (S := fun X => X.cell? ⟨g, xo + m, none⟩ = some (.slice (some ⟨bi, 0, none⟩) T.types.length T.types.length) ∧ X.cell? ⟨wr.heap.size, 0, none⟩ = some (.int .i64 vs[m].k) ∧ X.cell? ⟨wr.heap.size, 1, none⟩ = some (.int .i64 vs[m].n) ∧ X.cell? ⟨wr.heap.size, 2, none⟩ = some (.string vs[m].s)) (by kernel_rfl) (by kernel_rfl) ⟨ya _, z0, z1, z2⟩ (fun hH => ?_)
              refine wpAnyH_take (i := 0) (v := ?_) rfl (by kernel_rfl) (by kernel_rfl) (by kernel_rfl) (fun _ _ _ h => h) (Or.inl ⟨by rfl, ?_⟩) hH ?_
              rotate_left 1
              · intro w hSw; (try dsimp only at hSw); go_simp; try rfl
              simp only [Act.put, List.getElem_toArray, List.getElem_cons_zero, List.setIfInBounds_toArray, List.set_cons_zero, List.set_cons_succ]
              refine wpAnyH_take (i := 1) (v := ?_) rfl (by kernel_rfl) (by kernel_rfl) (by kernel_rfl) (fun _ _ _ h => h) (Or.inl ⟨by rfl, ?_⟩) hH ?_
              rotate_left 1
              · intro w hSw; (try dsimp only at hSw); go_simp; try rfl
              simp only [Act.put, List.getElem_toArray, List.getElem_cons_zero, List.getElem_cons_succ, List.setIfInBounds_toArray, List.set_cons_zero, List.set_cons_succ]
              refine wpAnyH_take (i := 2) (v := ?_) rfl (by kernel_rfl) (by kernel_rfl) (by kernel_rfl) (fun _ _ _ h => h) (Or.inl ⟨by rfl, ?_⟩) hH ?_
              rotate_left 1
              · intro w hSw; (try dsimp only at hSw); go_simp; try rfl
              simp only [Act.put, List.getElem_toArray, List.getElem_cons_zero, List.getElem_cons_succ, List.setIfInBounds_toArray, List.set_cons_zero, List.set_cons_succ]
              refine wpAnyH_take (i := 3) (v := ?_) rfl (by kernel_rfl) (by kernel_rfl) (by kernel_rfl) (fun _ _ _ h => h) (Or.inl ⟨by rfl, ?_⟩) hH ?_
              rotate_left 1
              · intro w hSw; (try dsimp only at hSw); go_simp; try rfl
              simp only [Act.put, List.getElem_toArray, List.getElem_cons_zero, List.getElem_cons_succ, List.setIfInBounds_toArray, List.set_cons_zero, List.set_cons_succ]
              refine wpAnyH_take (i := 4) (v := ?_) rfl (by kernel_rfl) (by kernel_rfl) (by kernel_rfl) (fun _ _ _ h => h) (Or.inl ⟨by rfl, ?_⟩) hH ?_
              rotate_left 1
              · intro w hSw; (try dsimp only at hSw); go_simp; try rfl
              simp only [Act.put, List.getElem_toArray, List.getElem_cons_zero, List.getElem_cons_succ, List.setIfInBounds_toArray, List.set_cons_zero, List.set_cons_succ]
              refine wpAnyH_take (i := 5) (v := ?_) rfl (by kernel_rfl) (by kernel_rfl) (by kernel_rfl) (fun _ _ _ h => h) (Or.inl ⟨by rfl, ?_⟩) hH ?_
              rotate_left 1
              · intro w hSw; (try dsimp only at hSw); go_simp; try rfl
              simp only [Act.put, List.getElem_toArray, List.getElem_cons_zero, List.getElem_cons_succ, List.setIfInBounds_toArray, List.set_cons_zero, List.set_cons_succ]
              refine wpAnyH_take (i := 6) (v := ?_) rfl (by kernel_rfl) (by kernel_rfl) (by kernel_rfl) (fun _ _ _ h => h) (Or.inl ⟨by rfl, ?_⟩) hH ?_
              rotate_left 1
              · intro w hSw; (try dsimp only at hSw); go_simp; try rfl
              simp only [Act.put, List.getElem_toArray, List.getElem_cons_zero, List.getElem_cons_succ, List.setIfInBounds_toArray, List.set_cons_zero, List.set_cons_succ]
              refine wpAnyH_ready (rs := [7]) (by kernel_rfl) (by simp) (AllReadyH.cons rfl (fun K hK => ?_) AllReadyH.nil)
              go_simp
              have hoth : ∀ k off, k ≠ bi → (((((wr.alloc (.cells #[.int .i64 vs[m].k, .int .i64 vs[m].n, .string vs[m].s] 49)).setCell ⟨bi, c * 3, none⟩ (.int .i64 vs[m].k)).setCell ⟨bi, c * 3 + 1, none⟩ (.int .i64 vs[m].n)).setCell ⟨bi, c * 3 + 2, none⟩ (.string vs[m].s)).drew).cell? ⟨k, off, none⟩ = (wr.alloc (.cells #[.int .i64 vs[m].k, .int .i64 vs[m].n, .string vs[m].s] 49)).cell? ⟨k, off, none⟩ := fun k off hk => by
                show (World.setCell _ _ _).cell? _ = _
                rw [World.cell?_setCell_other _ _ _ _ (by intro e; cases e; exact hk rfl), World.cell?_setCell_other _ _ _ _ (by intro e; cases e; exact hk rfl), World.cell?_setCell_other _ _ _ _ (by intro e; cases e; exact hk rfl)]
              refine hK.out _ _ ⟨(hoth g _ hbn.symm).trans (ya _), (hoth wr.heap.size 0 (by omega)).trans z0, (hoth wr.heap.size 1 (by omega)).trans z1, (hoth wr.heap.size 2 (by omega)).trans z2⟩ (fun hH2 => ?_)
              clear hK K hH hoth
              refine wpAnyH_done (by kernel_rfl) (OnlyN.go ?_) _
              gi_wp2
              go_roundw
              case rel =>
                have hvq := HVQ.out
                have hq1 : q + 1 ≠ bi := by omega
                have hq2 : q + 1 + 1 ≠ bi := by omega
                refine ⟨m + 1, by omega, by go_num, hJn.out.ahead (Below.refl _ _).drew, hrm.of_block (hon.out vb (by omega) hrm.lt), hkfm.trans ⟨hkn.out.size, fun k o _ hk ho => hkn.out.same k o hk ho⟩, ?_, ?_⟩
                · exact (hon.out (q + 1) hq1 (by omega)).trans hkpm.1
                · exact (hon.out (q + 1 + 1) hq2 (by omega)).trans hkpm.2
              case measure => simp [intOf]; omega
            · obtain rfl : m = vs.length := by omega
              rw [List.take_length] at hJm
              gi_wp2
              refine ⟨⟨c + 1, putCol R2 xo c vs, ls2, by omega, by go_num, HK2.out, by show _ = _; rw [putCol_length]; exact HR2.out, HLD2.out, hJm, hkfm, hkpm⟩, ?_⟩
              simp [intOf]
              omega
        · have HVB : Hid (∀ X, Below w.heap.size w X → Calls Tryz.prog 135 #[.pointer (some ⟨s, 0, none⟩), .slice ra lg.length rc, .int .i64 T.types[c], .int .i64 (xn : Int)] X fun e w' => Below X.heap.size X w' ∧ ∃ b, e = .returned (.tuple #[.slice none 0 0, .iface 226 (.pointer (some ⟨b, 0, none⟩))]) ∧ X.heap.size ≤ b ∧ Chain w' (.iface 226 (.pointer (some ⟨b, 0, none⟩))) pg none (some (j : Int))) := HVA.out
          have HF : Hid ((readF D T.types T.segs (List.replicate T.rows (List.replicate T.types.length zeroV)) ((pre ++ [(⟨(xo, xn), hxo, hxn, hx64⟩ : Ck T.rows)]).map Subtype.val)).1 = .inr j) := by
            show _ = _
            rw [HPF.out]
            exact readK_bad D ls T.types (xo, xn) R j (c + 1) _ HKS.out hlt
          clear HVA HKS HK
          gi_wp2
          refine region_round (S := fun X => X.cell? ⟨w.heap.size, 0, none⟩ = some (.pointer (some ⟨s, 0, none⟩)) ∧ X.cell? ⟨q, 0, none⟩ = some (.slice (some ⟨b2, o2, none⟩) lsd.length sc2) ∧ X.cell? ⟨b2, o2, none⟩ = some (.slice ra lg.length rc) ∧ Below w.heap.size w X) (by kernel_rfl) (by kernel_rfl) ⟨c0, c7, y2w, hbw.drew⟩ (fun hH => ?_)
          refine wpAnyH_take (i := 0) (v := ?_) rfl (by kernel_rfl) (by kernel_rfl) (by kernel_rfl) (fun _ _ _ h => h) (Or.inl ⟨by rfl, ?_⟩) hH ?_
          rotate_left 1
          · intro w hSw; (try dsimp only at hSw); go_simp; try rfl
          simp only [Act.put, List.getElem_toArray, List.getElem_cons_zero, List.setIfInBounds_toArray, List.set_cons_zero, List.set_cons_succ]
          refine wpAnyH_take (i := 1) (v := ?_) rfl (by kernel_rfl) (by kernel_rfl) (by kernel_rfl) (fun _ _ _ h => h) (Or.inl ⟨by rfl, ?_⟩) hH ?_
          rotate_left 1
          · intro w hSw; (try dsimp only at hSw); go_simp; try rfl
          simp only [Act.put, List.getElem_toArray, List.getElem_cons_zero, List.getElem_cons_succ, List.setIfInBounds_toArray, List.set_cons_zero, List.set_cons_succ]
          refine wpAnyH_take (i := 2) (v := ?_) rfl (by kernel_rfl) (by kernel_rfl) (by kernel_rfl) (fun _ _ _ h => h) (Or.inl ⟨by rfl, ?_⟩) hH ?_
          rotate_left 1
          · intro w hSw; (try dsimp only at hSw); go_simp; try rfl
          simp only [Act.put, List.getElem_toArray, List.getElem_cons_zero, List.getElem_cons_succ, List.setIfInBounds_toArray, List.set_cons_zero, List.set_cons_succ]
          refine wpAnyH_take (i := 3) (v := ?_) rfl (by kernel_rfl) (by kernel_rfl) (by kernel_rfl) (fun _ _ _ h => h) (Or.inl ⟨by rfl, ?_⟩) hH ?_
          rotate_left 1
          · intro w hSw; (try dsimp only at hSw); go_simp; try rfl
          simp only [Act.put, List.getElem_toArray, List.getElem_cons_zero, List.getElem_cons_succ, List.setIfInBounds_toArray, List.set_cons_zero, List.set_cons_succ]
          refine wpAnyH_take (i := 4) (v := ?_) rfl (by kernel_rfl) (by kernel_rfl) (by kernel_rfl) (fun _ _ _ h => h) (Or.inl ⟨by rfl, ?_⟩) hH ?_
          rotate_left 1
          · intro w hSw; (try dsimp only at hSw); go_simp; try rfl
          simp only [Act.put, List.getElem_toArray, List.getElem_cons_zero, List.getElem_cons_succ, List.setIfInBounds_toArray, List.set_cons_zero, List.set_cons_succ]
          refine wpAnyH_take (i := 5) (v := ?_) rfl (by kernel_rfl) (by kernel_rfl) (by kernel_rfl) (fun _ _ _ h => h) (Or.inl ⟨by rfl, ?_⟩) hH ?_
          rotate_left 1
          · intro w hSw; (try dsimp only at hSw); go_simp; try rfl
          simp only [Act.put, List.getElem_toArray, List.getElem_cons_zero, List.getElem_cons_succ, List.setIfInBounds_toArray, List.set_cons_zero, List.set_cons_succ]
          refine wpAnyH_take (i := 6) (v := ?_) rfl (by kernel_rfl) (by kernel_rfl) (by kernel_rfl) (fun _ _ _ h => h) (Or.inl ⟨by rfl, ?_⟩) hH ?_
          rotate_left 1
          · intro w hSw; (try dsimp only at hSw); go_simp; try rfl
          simp only [Act.put, List.getElem_toArray, List.getElem_cons_zero, List.getElem_cons_succ, List.setIfInBounds_toArray, List.set_cons_zero, List.set_cons_succ]
          refine wpAnyH_ready (rs := [7]) (by kernel_rfl) (by simp) (AllReadyH.cons rfl (fun K hK => ?_) AllReadyH.nil)
          go_simp
          refine (HVB.out _ hH.2.2.2).mono ?_
          rintro e w2 ⟨hbc, be, rfl, hbe, hch⟩
          go_simp
          obtain ⟨kk, _⟩ := below_keep hbc
          refine hK.out _ _ ⟨(kk w.heap.size 0 l0).trans c0, (kk q 0 l7).trans c7, (kk b2 o2 hb2w).trans y2w, hbw.trans ((below_undrew hbc).mono hbw.size)⟩ (fun hH2 => ?_)
          clear hK K kk hH
          refine wpAnyH_take (i := 8) (v := ?_) rfl (by kernel_rfl) (by kernel_rfl) (by kernel_rfl) (fun _ _ _ h => h) (Or.inl ⟨by rfl, ?_⟩) hH2 ?_
          rotate_left 1
          · intro w hSw; (try dsimp only at hSw); go_simp; try rfl
          simp only [Act.put, List.getElem_toArray, List.getElem_cons_zero, List.getElem_cons_succ, List.setIfInBounds_toArray, List.set_cons_zero, List.set_cons_succ]
          refine wpAnyH_take (i := 9) (v := ?_) rfl (by kernel_rfl) (by kernel_rfl) (by kernel_rfl) (fun _ _ _ h => h) (Or.inl ⟨by rfl, ?_⟩) hH2 ?_
          rotate_left 1
          · intro w hSw; (try dsimp only at hSw); go_simp; try rfl
          simp only [Act.put, List.getElem_toArray, List.getElem_cons_zero, List.getElem_cons_succ, List.setIfInBounds_toArray, List.set_cons_zero, List.set_cons_succ]
          refine wpAnyH_take (i := 10) (v := ?_) rfl (by kernel_rfl) (by kernel_rfl) (by kernel_rfl) (fun _ _ _ h => h) (Or.inl ⟨by rfl, ?_⟩) hH2 ?_
          rotate_left 1
          · intro w hSw; (try dsimp only at hSw); go_simp; try rfl
          simp only [Act.put, List.getElem_toArray, List.getElem_cons_zero, List.getElem_cons_succ, List.setIfInBounds_toArray, List.set_cons_zero, List.set_cons_succ]
          refine wpAnyH_take (i := 11) (v := ?_) rfl (by kernel_rfl) (by kernel_rfl) (by kernel_rfl) (fun _ _ _ h => h) (Or.inl ⟨by rfl, ?_⟩) hH2 ?_
          rotate_left 1
          · intro w hSw; (try dsimp only at hSw); go_simp; try rfl
          simp only [Act.put, List.getElem_toArray, List.getElem_cons_zero, List.getElem_cons_succ, List.setIfInBounds_toArray, List.set_cons_zero, List.set_cons_succ]
          refine wpAnyH_take (i := 12) (v := ?_) rfl (by kernel_rfl) (by kernel_rfl) (by kernel_rfl) (fun _ _ _ h => h) (Or.inl ⟨by rfl, ?_⟩) hH2 ?_
          rotate_left 1
          · intro w hSw; (try dsimp only at hSw); go_simp; try rfl
          simp only [Act.put, List.getElem_toArray, List.getElem_cons_zero, List.getElem_cons_succ, List.setIfInBounds_toArray, List.set_cons_zero, List.set_cons_succ]
          refine wpAnyH_done (by kernel_rfl) (OnlyN.go ?_) _
          have hJ3 := hJ.ahead (below_undrew hbc)
          have r2 := hJ3.b2.cell
          have q2 := hJ3.b2.frozen
          have r3 := hJ3.b3.cell
          have q3 := hJ3.b3.frozen
          gi_wp2
          have hqe : q ≤ be := by
            have h1 : wr.heap.size ≤ be := hbe
            have := hJ.size
            omega
          have hx := hJ3.bad be j pg hqe hch
          exact ⟨hkf.trans (((keeps_below (below_undrew hbc)).trans hx.2).from _), rfl, j, HF.out, hx.1⟩
      · obtain rfl : c = T.types.length := by omega
        gi_wp2
        exact ⟨hkf, hkc, R2, by rw [HPF.out, HK.out], HR2, by rw [HPD.out, HLD.out]; exact hJ⟩
  case done =>
    rintro Dd ys W hD hys ⟨R, h1, h2, h3⟩ hK
    rw [hys] at h1
    have c2 := h3.b2.cell
    have f2 := h3.b2.frozen
    have c3 := h3.b3.cell
    have f3 := h3.b3.frozen
    have HF : Hid ((readF D T.types T.segs (List.replicate T.rows (List.replicate T.types.length zeroV)) (cks T.rows T.group (ckN T.rows T.group))).1 = .inl R) := h1
    have HI := h3.grid
    replace HI : Hid (Grid W (w.heap.size + 4) g bs R) := HI
    have HB : Hid (Below w.heap.size w W) := h3.below
    clear h1 h3 hys
    gi_wp2
    have hK1 := ((KeepsOthers.setCell W ⟨w.heap.size + 1 + 1, 0, none⟩ (.slice (some ⟨g, 0, none⟩) T.rows T.rows)).trans (KeepsOthers.setCell _ ⟨w.heap.size + 1 + 1 + 1, 0, none⟩ .nilIface)).same Dd _ hK rfl
    refine ⟨by simp, .inl ⟨_, _, rfl, run_takeDeferred hK1, ?_⟩⟩
    have g2 : ((W.setCell ⟨w.heap.size + 1 + 1, 0, none⟩ (.slice (some ⟨g, 0, none⟩) T.rows T.rows)).setCell ⟨w.heap.size + 1 + 1 + 1, 0, none⟩ .nilIface).cell? ⟨w.heap.size + 1 + 1, 0, none⟩ = some (.slice (some ⟨g, 0, none⟩) T.rows T.rows) := by
      rw [World.cell?_setCell_other _ _ _ _ (by simp)]
      exact World.cell?_setCell_same' _ _ _ (by rw [c2]; rfl)
    have g3 : ((W.setCell ⟨w.heap.size + 1 + 1, 0, none⟩ (.slice (some ⟨g, 0, none⟩) T.rows T.rows)).setCell ⟨w.heap.size + 1 + 1 + 1, 0, none⟩ .nilIface).cell? ⟨w.heap.size + 1 + 1 + 1, 0, none⟩ = some .nilIface :=
      World.cell?_setCell_same' _ _ _ (by rw [World.cell?_setCell_other _ _ _ _ (by simp), c3]; rfl)
    have hrD : ∀ r, some Dd = some r → ∃ o : Obj, ((W.setCell ⟨w.heap.size + 1 + 1, 0, none⟩ (.slice (some ⟨g, 0, none⟩) T.rows T.rows)).setCell ⟨w.heap.size + 1 + 1 + 1, 0, none⟩ .nilIface).heap[r]? = some o ∧ o.isCells = false := fun r e => by cases e; exact ⟨_, hK1, rfl⟩
    have k2 := cell_kept g2 (grownBy_putObj' _ Dd (.deferred none)) hrD
    have k3 := cell_kept g3 (grownBy_putObj' _ Dd (.deferred none)) hrD
    refine ⟨.tuple #[.slice (some ⟨g, 0, none⟩) T.rows T.rows, .nilIface], by simp [results, Tryz.f90, go_sem, k2, k3], ?_⟩
    rw [HF.out]
    have hq4 := HQ.out
    have hs0 := HS0.out
    have hfr := HI.out.from_
    have hbe : Below w.heap.size w ((W.setCell ⟨w.heap.size + 1 + 1, 0, none⟩ (.slice (some ⟨g, 0, none⟩) T.rows T.rows)).setCell ⟨w.heap.size + 1 + 1 + 1, 0, none⟩ .nilIface) := (HB.out.setCell (p := ⟨w.heap.size + 1 + 1, 0, none⟩) (by simp; omega) _).setCell (p := ⟨w.heap.size + 1 + 1 + 1, 0, none⟩) (by simp; omega) _
    have hgd := (HI.out.of_blocks (w' := (W.setCell ⟨w.heap.size + 1 + 1, 0, none⟩ (.slice (some ⟨g, 0, none⟩) T.rows T.rows)).setCell ⟨w.heap.size + 1 + 1 + 1, 0, none⟩ .nilIface) (by rw [Below.heap_setCell _ _ _ _ (by have := hfr.1; simp; omega), Below.heap_setCell _ _ _ _ (by have := hfr.1; simp; omega)])
      (fun b hb => by have := (hfr.2 b hb).1; rw [Below.heap_setCell _ _ _ _ (by simp; omega), Below.heap_setCell _ _ _ _ (by simp; omega)])).kept (grownBy_putObj' _ Dd (.deferred none)) hrD
    refine ⟨hbe.trans (belowK_b (w := w) (Nat.le_refl _) _ Dd _ _ (by omega) hK1 rfl rfl), g, bs, by rw [h2.out], hgd.len, hgd.outer, hgd.rows, ⟨by have := hfr.1; omega, fun b hb => ⟨by have := (hfr.2 b hb).1; omega, (hfr.2 b hb).2⟩⟩, hgd.nodup⟩
  case stop =>
    rintro Dd c pre W hD ⟨k, hk, hpre⟩ ⟨rfl, j, h1, h3⟩ hK
    rw [hpre] at h1
    obtain ⟨zs, hzs⟩ := cks_prefix T.rows T.group k _ hk
    have HF : Hid ((readF D T.types T.segs (List.replicate T.rows (List.replicate T.types.length zeroV)) (cks T.rows T.group (ckN T.rows T.group))).1 = .inr j) := by show _ = _; rw [hzs]; exact readF_bad D T.types T.segs _ _ _ _ h1
    obtain ⟨b, hb3, hbl, cb1, cb2⟩ := h3.b3
    have c2 := h3.b2.cell
    have c3 := hb3.cell
    have hbe := h3.below
    clear h1 h3 hpre hzs
    gi_wp2
    have hrD : ∀ r, some Dd = some r → ∃ o : Obj, W.heap[r]? = some o ∧ o.isCells = false := fun r e => by cases e; exact ⟨_, hK, rfl⟩
    refine ⟨by simp, .inl ⟨_, _, rfl, run_takeDeferred hK, ?_⟩⟩
    have k2 := cell_kept c2 (grownBy_putObj' _ Dd (.deferred none)) hrD
    have k3 := cell_kept c3 (grownBy_putObj' _ Dd (.deferred none)) hrD
    refine ⟨.tuple #[.slice none 0 0, .iface 226 (.pointer (some ⟨b, 0, none⟩))], by simp [results, Tryz.f90, go_sem, k2, k3], ?_⟩
    rw [HF.out]
    exact ⟨hbe.trans (belowK_b (w := w) (Nat.le_refl _) _ Dd _ _ (by have := HS0.out; have := HQ.out; omega) hK rfl rfl), b, rfl, hbl, .disk b pg j (cell_kept cb1 (grownBy_putObj' _ Dd (.deferred none)) hrD) (cell_kept cb2 (grownBy_putObj' _ Dd (.deferred none)) hrD)⟩
end Go.Proofs.YtiicoehcjoocbaaGreatDoor
