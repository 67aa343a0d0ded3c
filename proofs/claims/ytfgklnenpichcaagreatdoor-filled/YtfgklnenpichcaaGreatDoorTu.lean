/- Load of a set: the table is there. -/
import Derived.Test.YtfgklnenpichcaaGreatDoorTt
import Derived.Deep.AppendLies
namespace Go.Proofs.YtfgklnenpichcaaGreatDoor
open Go.RowKit Go.Shelf

set_option maxRecDepth 100000 in
set_option maxHeartbeats 4000000 in
theorem tLoad_ok (s d : Nat) (F G : Nat → Prop) (D : DS) (Ts : List TS) (sv : Value) (bs : List Nat) (name : ByteArray) (at_ ar ah : Option Addr) (ct cr ch : Nat) (ts hs : List Int) (xs : List (Option Addr × Nat)) (rs : List (List V)) (g : Nat) (w : World) (h : LoadIn w s d F G D Ts sv bs name at_ ar ah cr ts hs xs rs g) (a0 a1 a2 : Addr) (he : Errs w a0 a1 a2)
    (T : List (List UInt8)) (hp : packF rs ts hs (cks rs.length g (ckN rs.length g)) = .inl T) (q qw : Addr) (hq : w.cell? ⟨4, 0, none⟩ = some (.iface 255 (.pointer (some q)))) (hw : w.cell? ⟨5, 0, none⟩ = some (.iface 255 (.pointer (some qw)))) (hFq : ¬ F 4) (hFw : ¬ F 5) (hx : (layAll D T).2.2 = none) :
    Calls Tryz.prog 31 #[.pointer (some ⟨s, 0, none⟩), tabArg name at_ ar ct cr ts rs, .slice ah hs.length ch, .int .i64 (g : Int)] w fun e w' => e = .returned .nilIface ∧ LoadOk w s d F G D Ts sv bs name ts rs g T w' := by
  have hb0 : Below w.heap.size w (w.alloc (tabObj name at_ ar ct cr ts rs)) := (Below.refl _ w).alloc (Nat.le_refl _) _
  obtain ⟨hT, hW, hF, hP, hL⟩ := h.hid ct ch a0 a1 a2 he T hp q qw hq hw hFq hFw
  have HW : Hid (∀ W, Below w.heap.size w W → Calls Tryz.prog 54 #[.slice ah hs.length ch, .slice at_ ts.length ct] W fun e w' => e = .returned (.bool true) ∧ w' = W) := hW
  have HF : Hid (∀ W, Below w.heap.size w W → Calls Tryz.prog 55 #[.pointer (some ⟨s, 0, none⟩), .string name] W fun e w' => e = .returned (.int .i64 (-1)) ∧ Below W.heap.size W w') := hF
  have HP : Hid (∀ W, Below w.heap.size w W → Calls Tryz.prog 56 #[.agg #[.string name, .slice at_ ts.length ct, .slice ar rs.length cr], .slice ah hs.length ch, .int .i64 (g : Int)] W fun e w' => Below W.heap.size W w' ∧ ∃ a cap, e = .returned (.tuple #[.slice a T.length cap, .nilIface]) ∧ Cells w' a (T.map tv) ∧ ∀ b o, a = some ⟨b, o, none⟩ → W.heap.size ≤ b) := hP
  have HL : Hid (∀ W a cap, Below w.heap.size w W → Cells W a (T.map tv) → (∀ b o, a = some ⟨b, o, none⟩ → w.heap.size ≤ b) → Calls Tryz.prog 57 #[.pointer (some ⟨s, 0, none⟩), .slice a T.length cap] W fun e w' => Keep F W w' ∧ ∃ FD : Nat → Prop, DiskAt w' FD d (layAll D T).1 ∧ (∀ k, FD k → F k ∨ W.heap.size ≤ k) ∧ (∀ k, FD k → k < w'.heap.size) ∧ ∃ sa sc us, e = .returned (.tuple #[.slice sa (layAll D T).2.1.length sc, .nilIface]) ∧ SegsAt w' (fun k => W.heap.size ≤ k ∧ k < w'.heap.size ∧ ¬ FD k) sa us (layAll D T).2.1 ∧ (layAll D T).2.1.length ≤ sc) := fun W a cap h1 h2 h3 =>
    (hL W a cap h1 h2 h3).mono fun e w' hpost => by
      unfold LayAllPost at hpost
      rw [hx] at hpost
      exact hpost
  have q0 : (w.alloc (tabObj name at_ ar ct cr ts rs)).cell? ⟨w.heap.size, 0, none⟩ = some (.string name) := by simp
  have q1 : (w.alloc (tabObj name at_ ar ct cr ts rs)).cell? ⟨w.heap.size, 1, none⟩ = some (.slice at_ ts.length ct) := by simp
  have q2 : (w.alloc (tabObj name at_ ar ct cr ts rs)).cell? ⟨w.heap.size, 2, none⟩ = some (.slice ar rs.length cr) := by simp
  have hn0 : ¬ F w.heap.size := fun hf => Nat.lt_irrefl _ (h.lt _ (.inl hf))
  have HH : Hid (LoadIn w s d F G D Ts sv bs name at_ ar ah cr ts hs xs rs g) := h
  obtain ⟨_, c1⟩ := h.set.field
  obtain ⟨a, cap, hsv, _⟩ := h.set.own.cells
  rw [List.length_map, h.set.len] at hsv
  subst hsv
  have hfew := h.few
  have hg1 := h.g1
  have hg2 := h.g2
  have hsF := h.sF
  have hne : ts ≠ [] := fun e => by have := h.tab.2.1.1.1; rw [e] at this; simp at this
  obtain ⟨tb, tof, rfl⟩ : ∃ b o, at_ = some ⟨b, o, none⟩ := by
    rcases h.args.types with h0 | ⟨b, o, hb, _⟩
    · simp at h0; exact absurd h0 hne
    · exact ⟨b, o, hb⟩
  have HNE : Hid (ts ≠ []) := hne
  have hr200 : rs.length ≤ 200 := h.tab.2.2.1
  generalize hR : (layAll D T).2.1 = R at *
  have HR : Hid ((layAll D T).2.1 = R) := hR
  clear hR
  have HSC : Hid (∀ W, Calls Tryz.prog 58 #[.string name] W fun e w' => e = .returned (.string name) ∧ Below W.heap.size W w') := fun W => by
    have := sClone_any name.toList W (by have := h.tab.1.2; rw [← str_size, str_toList]; omega)
    rwa [str_toList] at this
  have HCI : Hid (∀ W, Ints W (some ⟨tb, tof, none⟩) ts → Calls Tryz.prog 59 #[.slice (some ⟨tb, tof, none⟩) ts.length ct] W fun e w' => Below W.heap.size W w' ∧ ∃ g c, e = .returned (.slice (some ⟨g, 0, none⟩) ts.length c) ∧ W.heap.size ≤ g ∧ g < w'.heap.size ∧ Ints w' (some ⟨g, 0, none⟩) ts) := fun W hI => cloneInts_any tb tof ct ts W hne (by have := h.tab.2.1.1.2; omega) hI
  obtain ⟨i0, hi0, hz0, hz1, hz2⟩ := info_parts info_ptable
  clear h hp hW hF hP hL hq hw hx hne
  go_enter Tryz.func31, Tryz.ntmps31
  go_wp2_with (first | (go_at_call 53; refine hT.mono ?_; rintro e W1 ⟨rfl, hb1⟩; have hb2 := below_then hb0 hb1; have d0 := cell_below hb1 q0; have d1 := cell_below hb1 q1; have d2 := cell_below hb1 q2) | (go_at_call 54; refine (HW.out W1 hb2).mono ?_; rintro e W2 ⟨rfl, rfl⟩) | (go_at_call 55; refine (HF.out _ hb2).mono ?_; rintro e W3 ⟨rfl, hb3⟩; have hb4 := below_then hb2 hb3; have dc1 := cell_below hb4 c1; have e0 := cell_below hb3 d0; have e1 := cell_below hb3 d1; have e2 := cell_below hb3 d2) | (go_at_call 56; refine (HP.out _ hb4).mono ?_; rintro e W4 ⟨hb5, pa, pc, rfl, hpc, hpa⟩; have hb6 := below_then hb4 hb5; have f0 := cell_below hb5 e0; have f1 := cell_below hb5 e1; have f2 := cell_below hb5 e2; have fc := cell_below hb6 c1; have z4 := hb4.size) | (go_at_call 57; refine (HL.out _ pa pc hb6 hpc (fun b o hb => Nat.le_trans z4 (hpa b o hb))).mono ?_; rintro e W5 ⟨hk5, FD, hd5, hf5, hl5, sa, sc, us, rfl, hsg, hsc⟩; have g0 := hk5.cell f0 hn0; have g1 := hk5.cell f1 hn0; have g2 := hk5.cell f2 hn0; have gc := hk5.cell fc hsF))
  have hIt : Ints W5 (some ⟨tb, tof, none⟩) ts := (HH.out.args.types.below hb6).of_block hk5.size fun b o hbo hl => by
    simp at hbo
    obtain ⟨rfl, rfl⟩ := hbo
    exact hk5.block _ hl (HH.out.tF _ _ rfl)
  have HIT : Hid (Ints W5 (some ⟨tb, tof, none⟩) ts) := hIt
  have HSG : Hid (SegsAt W5 (fun k => W4.heap.size ≤ k ∧ k < W5.heap.size ∧ ¬ FD k) sa us R) := hsg
  clear hIt hsg hT q0 q1 q2 d0 d1 d2 e0 e1 e2 f0 f1 f2 fc dc1 c1 hpc hpa HW HF HP HL
  refine wp_region_held_drew (S := fun X => X.cell? ⟨w.heap.size, 0, none⟩ = some (.string name) ∧ X.cell? ⟨w.heap.size, 1, none⟩ = some (.slice (some ⟨tb, tof, none⟩) ts.length ct) ∧ X.cell? ⟨w.heap.size, 2, none⟩ = some (.slice ar rs.length cr)) (by kernel_rfl) ⟨g0, g1, g2⟩ (fun hH => ?_)
  refine wpAnyH_take (i := 0) (v := ?_) rfl (by kernel_rfl) (by kernel_rfl) (by kernel_rfl) (fun _ _ _ h => h) (Or.inl ⟨by rfl, ?_⟩) hH ?_
  rotate_left 1
  · intro w hSw; (try dsimp only at hSw); go_simp; try rfl
  simp only [Act.put, List.getElem_toArray, List.getElem_cons_zero, List.setIfInBounds_toArray, List.set_cons_zero, List.set_cons_succ]
  refine wpAnyH_take (i := 1) (v := ?_) rfl (by kernel_rfl) (by kernel_rfl) (by kernel_rfl) (fun _ _ _ h => h) (Or.inl ⟨by rfl, ?_⟩) hH ?_
  rotate_left 1
  · intro w hSw; (try dsimp only at hSw); go_simp; try rfl
  simp only [Act.put, List.getElem_toArray, List.getElem_cons_zero, List.getElem_cons_succ, List.setIfInBounds_toArray, List.set_cons_zero, List.set_cons_succ]
  refine wpAnyH_take (i := 2) (v := ?_) rfl (by kernel_rfl) (by kernel_rfl) (by kernel_rfl) (fun _ _ _ h => h) (Or.inl ⟨by rfl, ?_⟩) hH ?_
  rotate_left 1
  · intro w hSw; (try dsimp only at hSw); go_simp; try rfl
  simp only [Act.put, List.getElem_toArray, List.getElem_cons_zero, List.getElem_cons_succ, List.setIfInBounds_toArray, List.set_cons_zero, List.set_cons_succ]
  refine wpAnyH_take (i := 3) (v := ?_) rfl (by kernel_rfl) (by kernel_rfl) (by kernel_rfl) (fun _ _ _ h => h) (Or.inl ⟨by rfl, ?_⟩) hH ?_
  rotate_left 1
  · intro w hSw; (try dsimp only at hSw); go_simp; try rfl
  simp only [Act.put, List.getElem_toArray, List.getElem_cons_zero, List.getElem_cons_succ, List.setIfInBounds_toArray, List.set_cons_zero, List.set_cons_succ]
  refine wpAnyH_take (i := 5) (v := ?_) rfl (by kernel_rfl) (by kernel_rfl) (by kernel_rfl) (fun _ _ _ h => h) (Or.inl ⟨by rfl, ?_⟩) hH ?_
  rotate_left 1
  · intro w hSw; (try dsimp only at hSw); go_simp; try rfl
  simp only [Act.put, List.getElem_toArray, List.getElem_cons_zero, List.getElem_cons_succ, List.setIfInBounds_toArray, List.set_cons_zero, List.set_cons_succ]
  refine wpAnyH_take (i := 6) (v := ?_) rfl (by kernel_rfl) (by kernel_rfl) (by kernel_rfl) (fun _ _ _ h => h) (Or.inl ⟨by rfl, ?_⟩) hH ?_
  rotate_left 1
  · intro w hSw; (try dsimp only at hSw); go_simp; try rfl
  simp only [Act.put, List.getElem_toArray, List.getElem_cons_zero, List.getElem_cons_succ, List.setIfInBounds_toArray, List.set_cons_zero, List.set_cons_succ]
  refine wpAnyH_take (i := 8) (v := ?_) rfl (by kernel_rfl) (by kernel_rfl) (by kernel_rfl) (fun _ _ _ h => h) (Or.inl ⟨by rfl, ?_⟩) hH ?_
  rotate_left 1
  · intro w hSw; (try dsimp only at hSw); go_simp; try rfl
  simp only [Act.put, List.getElem_toArray, List.getElem_cons_zero, List.getElem_cons_succ, List.setIfInBounds_toArray, List.set_cons_zero, List.set_cons_succ]
  refine wpAnyH_take (i := 9) (v := ?_) rfl (by kernel_rfl) (by kernel_rfl) (by kernel_rfl) (fun _ _ _ h => h) (Or.inl ⟨by rfl, ?_⟩) hH ?_
  rotate_left 1
  · intro w hSw; (try dsimp only at hSw); go_simp; try rfl
  simp only [Act.put, List.getElem_toArray, List.getElem_cons_zero, List.getElem_cons_succ, List.setIfInBounds_toArray, List.set_cons_zero, List.set_cons_succ]
  refine wpAnyH_take (i := 11) (v := ?_) rfl (by kernel_rfl) (by kernel_rfl) (by kernel_rfl) (fun _ _ _ h => h) (Or.inl ⟨by rfl, ?_⟩) hH ?_
  rotate_left 1
  · intro w hSw; (try dsimp only at hSw); go_simp; try rfl
  simp only [Act.put, List.getElem_toArray, List.getElem_cons_zero, List.getElem_cons_succ, List.setIfInBounds_toArray, List.set_cons_zero, List.set_cons_succ]
  refine wpAnyH_take (i := 12) (v := ?_) rfl (by kernel_rfl) (by kernel_rfl) (by kernel_rfl) (fun _ _ _ h => h) (Or.inl ⟨by rfl, ?_⟩) hH ?_
  rotate_left 1
  · intro w hSw; (try dsimp only at hSw); go_simp; try rfl
  simp only [Act.put, List.getElem_toArray, List.getElem_cons_zero, List.getElem_cons_succ, List.setIfInBounds_toArray, List.set_cons_zero, List.set_cons_succ]
  refine wpAnyH_take (i := 13) (v := ?_) rfl (by kernel_rfl) (by kernel_rfl) (by kernel_rfl) (fun _ _ _ h => h) (Or.inl ⟨by rfl, ?_⟩) hH ?_
  rotate_left 1
  · intro w hSw; (try dsimp only at hSw); go_simp; try rfl
  simp only [Act.put, List.getElem_toArray, List.getElem_cons_zero, List.getElem_cons_succ, List.setIfInBounds_toArray, List.set_cons_zero, List.set_cons_succ]
  refine wpAnyH_take (i := 14) (v := ?_) rfl (by kernel_rfl) (by kernel_rfl) (by kernel_rfl) (fun _ _ _ h => h) (Or.inl ⟨by rfl, ?_⟩) hH ?_
  rotate_left 1
  · intro w hSw; (try dsimp only at hSw); go_simp; try rfl
  simp only [Act.put, List.getElem_toArray, List.getElem_cons_zero, List.getElem_cons_succ, List.setIfInBounds_toArray, List.set_cons_zero, List.set_cons_succ]
  refine wpAnyH_take (i := 15) (v := ?_) rfl (by kernel_rfl) (by kernel_rfl) (by kernel_rfl) (fun _ _ _ h => h) (Or.inl ⟨by rfl, ?_⟩) hH ?_
  rotate_left 1
  · intro w hSw; (try dsimp only at hSw); go_simp; try rfl
  simp only [Act.put, List.getElem_toArray, List.getElem_cons_zero, List.getElem_cons_succ, List.setIfInBounds_toArray, List.set_cons_zero, List.set_cons_succ]
  refine wpAnyH_ready (rs := [4, 7]) (by kernel_rfl) (by simp) (AllReadyH.cons rfl (fun K hK => ?_) (AllReadyH.cons rfl (fun K hK => ?_) AllReadyH.nil))
  · go_simp
    refine hK.out _ _ hH (fun hH => ?_)
    clear hK K
    refine wpAnyH_ready (rs := [7]) (by kernel_rfl) (by simp) (AllReadyH.cons rfl (fun K hK => ?_) AllReadyH.nil)
    go_simp
    refine (HSC.out _).mono ?_
    rintro e X1 ⟨rfl, hx1⟩
    have s1 := cell_below hx1 (show W5.drew.cell? _ = _ from gc)
    go_simp
    refine hK.out _ _ ⟨cell_below hx1 hH.1, cell_below hx1 hH.2.1, cell_below hx1 hH.2.2⟩ (fun hH => ?_)
    clear hK K
    refine wpAnyH_ready (rs := [10]) (by kernel_rfl) (by simp) (AllReadyH.cons rfl (fun K hK => ?_) AllReadyH.nil)
    go_simp
    refine (HCI.out _ ((HIT.out.of_block (w' := X1) hx1.size fun b o _ hl => hx1.block b hl))).mono ?_
    rintro e X2 ⟨hx2, g7, c7, rfl, hg7, hg7l, hI7⟩
    have HI7 : Hid (Ints X2 (some ⟨g7, 0, none⟩) ts) := hI7
    clear hI7
    have s2 := cell_below hx2 s1
    go_simp
    refine hK.out _ _ ⟨cell_below hx2 hH.1, cell_below hx2 hH.2.1, cell_below hx2 hH.2.2⟩ (fun hH => ?_)
    clear hK K
    refine wpAnyH_take (i := 16) (v := ?_) rfl (by kernel_rfl) (by kernel_rfl) (by kernel_rfl) (fun _ _ _ h => h) (Or.inl ⟨by rfl, ?_⟩) hH ?_
    rotate_left 1
    · intro w hSw; (try dsimp only at hSw); go_simp; try rfl
    simp only [Act.put, List.getElem_toArray, List.getElem_cons_zero, List.getElem_cons_succ, List.setIfInBounds_toArray, List.set_cons_zero, List.set_cons_succ]
    refine wpAnyH_ready (rs := [17]) (by kernel_rfl) (by simp) (AllReadyH.cons rfl (fun K hK => ?_) AllReadyH.nil)
    go_simp
    have hx3 : Below X2.heap.size X2 (X2.alloc (recObj name g7 c7 ts rs g sa R.length sc)) := (Below.refl _ _).alloc (Nat.le_refl _) _
    have s3 := cell_below hx3 s2
    refine hK.out _ _ ⟨cell_below hx3 hH.1, cell_below hx3 hH.2.1, cell_below hx3 hH.2.2⟩ (fun hH => ?_)
    clear hK K
    refine wpAnyH_ready (rs := [18]) (by kernel_rfl) (by simp) (AllReadyH.cons rfl (fun K hK => ?_) AllReadyH.nil)
    go_simp
    have hx4 : Below (X2.alloc (recObj name g7 c7 ts rs g sa R.length sc)).heap.size (X2.alloc (recObj name g7 c7 ts rs g sa R.length sc)) ((X2.alloc (recObj name g7 c7 ts rs g sa R.length sc)).alloc (.cells #[.pointer (some ⟨X2.heap.size, 0, none⟩)] 112)) := (Below.refl _ _).alloc (Nat.le_refl _) _
    have s4 := cell_below hx4 s3
    refine hK.out _ _ ⟨cell_below hx4 hH.1, cell_below hx4 hH.2.1, cell_below hx4 hH.2.2⟩ (fun hH => ?_)
    clear hK K
    refine wpAnyH_ready (rs := [19]) (by kernel_rfl) (by simp) (AllReadyH.cons rfl (fun K hK => ?_) AllReadyH.nil)
    have z1 : W5.heap.size ≤ X1.heap.size := hx1.size
    have hb7 : Below W5.heap.size W5 X2 := below_undrew (below_then hx1 hx2)
    have hst : ∀ k, k < W5.heap.size → ((X2.alloc (recObj name g7 c7 ts rs g sa R.length sc)).alloc (.cells #[.pointer (some ⟨X2.heap.size, 0, none⟩)] 112)).heap[k]? = W5.heap[k]? := fun k hk => by
      have z2 := hb7.size
      rw [hx4.block k (by simp; omega), hx3.block k (by omega), hb7.block k hk]
    have hown4 : OwnC ((X2.alloc (recObj name g7 c7 ts rs g sa R.length sc)).alloc (.cells #[.pointer (some ⟨X2.heap.size, 0, none⟩)] 112)) 0 112 (.slice a Ts.length cap) (bs.map tabV) := own_of_block HH.out.set.own fun k hk => by
      have hkl := own_block_ge HH.out.set.own hk
      have z6 := hb6.size
      have z5 := hk5.size
      rw [hst k (by omega), hk5.block k (by omega) (HH.out.gF k hk), hb6.block k hkl]
    have hown5 : ((X2.alloc (recObj name g7 c7 ts rs g sa R.length sc)).alloc (.cells #[.pointer (some ⟨X2.heap.size, 0, none⟩)] 112)).ownsRow 0 112 1 (.slice a Ts.length cap) Ts.length (bs.map tabV) := by
      have := hown4
      unfold OwnC at this
      rwa [List.length_map, HH.out.set.len] at this
    have hs4 : ((X2.alloc (recObj name g7 c7 ts rs g sa R.length sc)).alloc (.cells #[.pointer (some ⟨X2.heap.size, 0, none⟩)] 112)).heap[s]? = some (.cells #[.pointer (some ⟨d, 0, none⟩), .slice a Ts.length cap] 103 (0, 0)) := by
      have hsl := lt_of_heap HH.out.set.cells
      have z6 := hb6.size
      have z5 := hk5.size
      rw [hst s (by omega), hk5.block s (by omega) HH.out.sF, hb6.block s hsl]
      exact HH.out.set.cells
    have hb4n : ((X2.alloc (recObj name g7 c7 ts rs g sa R.length sc)).alloc (.cells #[.pointer (some ⟨X2.heap.size, 0, none⟩)] 112)).heap[X2.heap.size + 1]? = some (.cells #[.pointer (some ⟨X2.heap.size, 0, none⟩)] 112 (0, 0)) := by
      have := heap_alloc_new (X2.alloc (recObj name g7 c7 ts rs g sa R.length sc)) (.cells #[.pointer (some ⟨X2.heap.size, 0, none⟩)] 112)
      rwa [World.size_alloc] at this
    refine step_append_lies ((X2.alloc (recObj name g7 c7 ts rs g sa R.length sc)).alloc (.cells #[.pointer (some ⟨X2.heap.size, 0, none⟩)] 112)) rfl (.tmp 73) (.tmp 87) 101 rfl 0 112 i0 (.pointer none) 1 8 Tryz.underlying101 hi0 hz0 hz1 hz2 rfl (by decide) (.slice a Ts.length cap) Ts.length (bs.map tabV) rfl hown5 ⟨X2.heap.size + 1, 0, none⟩ 1 1 [tabV X2.heap.size] rfl rfl (fun j u hu => World.news_of_block hb4n j u (by simpa [tabV] using hu)) (fun u hu => by simp at hu; subst hu; rfl) (by decide) (by unfold maxLen; omega) (by omega) (Nat.zero_le _) (X2.heap.size + 2) (by simp) (fun g9 cap9 X5 ho9 hg9 hat9 hl9 => ?_)
    have z9 := hg9.size
    have hne9 : (Value.slice a Ts.length cap).ownBlock ≠ some s := fun e => (HH.out.set.gF s e).2 rfl
    have hnw9 : (Value.slice a Ts.length cap).ownBlock ≠ some w.heap.size := fun e => Nat.lt_irrefl _ (own_block_ge HH.out.set.own e)
    have hs5 : X5.heap[s]? = some (.cells #[.pointer (some ⟨d, 0, none⟩), .slice a Ts.length cap] 103 (0, 0)) := (hg9.block s (lt_of_heap hs4) (Ne.symm hne9)).trans hs4
    have hw5 : X5.heap[w.heap.size]? = ((X2.alloc (recObj name g7 c7 ts rs g sa R.length sc)).alloc (.cells #[.pointer (some ⟨X2.heap.size, 0, none⟩)] 112)).heap[w.heap.size]? := hg9.block w.heap.size (lt_of_cell hH.1) (Ne.symm hnw9)
    have hcw : ∀ o : Nat, X5.cell? ⟨w.heap.size, o, none⟩ = ((X2.alloc (recObj name g7 c7 ts rs g sa R.length sc)).alloc (.cells #[.pointer (some ⟨X2.heap.size, 0, none⟩)] 112)).cell? ⟨w.heap.size, o, none⟩ := fun o => by simp only [World.cell?, hw5]
    have hsw : s ≠ w.heap.size := fun e => by have := lt_of_heap HH.out.set.cells; omega
    refine hK.out _ _ ⟨(hcw 0).trans hH.1, (hcw 1).trans hH.2.1, (hcw 2).trans hH.2.2⟩ (fun hH => ?_)
    clear hK K hcw hw5 hown4 hst
    have s5 : X5.cell? ⟨s, 1, none⟩ = some (.slice a Ts.length cap) := by simp [World.cell?, hs5]
    have f5 : X5.frozen? ⟨s, 1, none⟩ = false := by simp [World.frozen?, hs5]
    simp only [Act.put, List.getElem_toArray, List.getElem_cons_zero, List.getElem_cons_succ, List.setIfInBounds_toArray, List.set_cons_zero, List.set_cons_succ]
    refine wpAnyH_take (i := 20) (v := ?_) rfl (by kernel_rfl) (by kernel_rfl) (by kernel_rfl) (fun _ _ _ h => h) (Or.inl ⟨by rfl, ?_⟩) hH ?_
    rotate_left 1
    · intro w hSw; (try dsimp only at hSw); go_simp; try rfl
    simp only [Act.put, List.getElem_toArray, List.getElem_cons_zero, List.getElem_cons_succ, List.setIfInBounds_toArray, List.set_cons_zero, List.set_cons_succ]
    refine wpAnyH_take (i := 21) (v := ?_) rfl (by kernel_rfl) (by kernel_rfl) (by kernel_rfl) (fun _ _ _ h => h) (Or.inl ⟨by rfl, ?_⟩) hH ?_
    rotate_left 1
    · intro w hSw; (try dsimp only at hSw); go_simp; try rfl
    simp only [Act.put, List.getElem_toArray, List.getElem_cons_zero, List.getElem_cons_succ, List.setIfInBounds_toArray, List.set_cons_zero, List.set_cons_succ]
    refine wpAnyH_ready (rs := [22]) (by kernel_rfl) (by simp) (AllReadyH.cons rfl (fun K hK => ?_) AllReadyH.nil)
    go_simp
    have hcs : ∀ o : Nat, (X5.setCell ⟨s, 1, none⟩ (.slice (some ⟨g9, 0, none⟩) (Ts.length + 1) cap9)).cell? ⟨w.heap.size, o, none⟩ = X5.cell? ⟨w.heap.size, o, none⟩ := fun o => World.cell?_setCell_other _ _ _ _ (by intro e; injection e with e1; exact absurd e1 (by omega))
    refine hK.out _ _ ⟨(hcs 0).trans hH.1, (hcs 1).trans hH.2.1, (hcs 2).trans hH.2.2⟩ (fun hH => ?_)
    clear hK K hcs
    refine wpAnyH_done (by kernel_rfl) ?_ _
    clear hH s5 f5
    have hfin : LoadOk w s d F G D Ts (.slice a Ts.length cap) bs name ts rs g T (X5.setCell ⟨s, 1, none⟩ (.slice (some ⟨g9, 0, none⟩) (Ts.length + 1) cap9)) := by
      obtain rfl := HR.out
      refine load_done HH.out hb6 hk5 hd5 hf5 hl5 HSG.out hsc hb7 (Nat.le_trans z1 hg7) hg7l HI7.out (sv' := .slice (some ⟨g9, 0, none⟩) (Ts.length + 1) cap9) ?_ hg9 (by rcases hat9 with e | e; exact .inl (by rw [e]; rfl); exact .inr (by rw [e]; rfl))
      unfold OwnC
      rw [List.length_append, List.length_map, HH.out.set.len]
      exact ho9
    have HFIN : Hid (LoadOk w s d F G D Ts (.slice a Ts.length cap) bs name ts rs g T (X5.setCell ⟨s, 1, none⟩ (.slice (some ⟨g9, 0, none⟩) (Ts.length + 1) cap9))) := hfin
    clear hfin
    generalize X5.setCell ⟨s, 1, none⟩ (.slice (some ⟨g9, 0, none⟩) (Ts.length + 1) cap9) = X6 at *
    go_wp2
    go_ret
    exact ⟨rfl, HFIN.out⟩
  · go_simp
    refine (HSC.out _).mono ?_
    rintro e X1 ⟨rfl, hx1⟩
    have s1 := cell_below hx1 (show W5.drew.cell? _ = _ from gc)
    go_simp
    refine hK.out _ _ ⟨cell_below hx1 hH.1, cell_below hx1 hH.2.1, cell_below hx1 hH.2.2⟩ (fun hH => ?_)
    clear hK K
    refine wpAnyH_ready (rs := [4, 10]) (by kernel_rfl) (by simp) (AllReadyH.cons rfl (fun K hK => ?_) (AllReadyH.cons rfl (fun K hK => ?_) AllReadyH.nil))
    · go_simp
      refine hK.out _ _ hH (fun hH => ?_)
      clear hK K
      refine wpAnyH_ready (rs := [10]) (by kernel_rfl) (by simp) (AllReadyH.cons rfl (fun K hK => ?_) AllReadyH.nil)
      go_simp
      refine (HCI.out _ ((HIT.out.of_block (w' := X1) hx1.size fun b o _ hl => hx1.block b hl))).mono ?_
      rintro e X2 ⟨hx2, g7, c7, rfl, hg7, hg7l, hI7⟩
      have HI7 : Hid (Ints X2 (some ⟨g7, 0, none⟩) ts) := hI7
      clear hI7
      have s2 := cell_below hx2 s1
      go_simp
      refine hK.out _ _ ⟨cell_below hx2 hH.1, cell_below hx2 hH.2.1, cell_below hx2 hH.2.2⟩ (fun hH => ?_)
      clear hK K
      refine wpAnyH_take (i := 16) (v := ?_) rfl (by kernel_rfl) (by kernel_rfl) (by kernel_rfl) (fun _ _ _ h => h) (Or.inl ⟨by rfl, ?_⟩) hH ?_
      rotate_left 1
      · intro w hSw; (try dsimp only at hSw); go_simp; try rfl
      simp only [Act.put, List.getElem_toArray, List.getElem_cons_zero, List.getElem_cons_succ, List.setIfInBounds_toArray, List.set_cons_zero, List.set_cons_succ]
      refine wpAnyH_ready (rs := [17]) (by kernel_rfl) (by simp) (AllReadyH.cons rfl (fun K hK => ?_) AllReadyH.nil)
      go_simp
      have hx3 : Below X2.heap.size X2 (X2.alloc (recObj name g7 c7 ts rs g sa R.length sc)) := (Below.refl _ _).alloc (Nat.le_refl _) _
      have s3 := cell_below hx3 s2
      refine hK.out _ _ ⟨cell_below hx3 hH.1, cell_below hx3 hH.2.1, cell_below hx3 hH.2.2⟩ (fun hH => ?_)
      clear hK K
      refine wpAnyH_ready (rs := [18]) (by kernel_rfl) (by simp) (AllReadyH.cons rfl (fun K hK => ?_) AllReadyH.nil)
      go_simp
      have hx4 : Below (X2.alloc (recObj name g7 c7 ts rs g sa R.length sc)).heap.size (X2.alloc (recObj name g7 c7 ts rs g sa R.length sc)) ((X2.alloc (recObj name g7 c7 ts rs g sa R.length sc)).alloc (.cells #[.pointer (some ⟨X2.heap.size, 0, none⟩)] 112)) := (Below.refl _ _).alloc (Nat.le_refl _) _
      have s4 := cell_below hx4 s3
      refine hK.out _ _ ⟨cell_below hx4 hH.1, cell_below hx4 hH.2.1, cell_below hx4 hH.2.2⟩ (fun hH => ?_)
      clear hK K
      refine wpAnyH_ready (rs := [19]) (by kernel_rfl) (by simp) (AllReadyH.cons rfl (fun K hK => ?_) AllReadyH.nil)
      have z1 : W5.heap.size ≤ X1.heap.size := hx1.size
      have hb7 : Below W5.heap.size W5 X2 := below_undrew (below_then hx1 hx2)
      have hst : ∀ k, k < W5.heap.size → ((X2.alloc (recObj name g7 c7 ts rs g sa R.length sc)).alloc (.cells #[.pointer (some ⟨X2.heap.size, 0, none⟩)] 112)).heap[k]? = W5.heap[k]? := fun k hk => by
        have z2 := hb7.size
        rw [hx4.block k (by simp; omega), hx3.block k (by omega), hb7.block k hk]
      have hown4 : OwnC ((X2.alloc (recObj name g7 c7 ts rs g sa R.length sc)).alloc (.cells #[.pointer (some ⟨X2.heap.size, 0, none⟩)] 112)) 0 112 (.slice a Ts.length cap) (bs.map tabV) := own_of_block HH.out.set.own fun k hk => by
        have hkl := own_block_ge HH.out.set.own hk
        have z6 := hb6.size
        have z5 := hk5.size
        rw [hst k (by omega), hk5.block k (by omega) (HH.out.gF k hk), hb6.block k hkl]
      have hown5 : ((X2.alloc (recObj name g7 c7 ts rs g sa R.length sc)).alloc (.cells #[.pointer (some ⟨X2.heap.size, 0, none⟩)] 112)).ownsRow 0 112 1 (.slice a Ts.length cap) Ts.length (bs.map tabV) := by
        have := hown4
        unfold OwnC at this
        rwa [List.length_map, HH.out.set.len] at this
      have hs4 : ((X2.alloc (recObj name g7 c7 ts rs g sa R.length sc)).alloc (.cells #[.pointer (some ⟨X2.heap.size, 0, none⟩)] 112)).heap[s]? = some (.cells #[.pointer (some ⟨d, 0, none⟩), .slice a Ts.length cap] 103 (0, 0)) := by
        have hsl := lt_of_heap HH.out.set.cells
        have z6 := hb6.size
        have z5 := hk5.size
        rw [hst s (by omega), hk5.block s (by omega) HH.out.sF, hb6.block s hsl]
        exact HH.out.set.cells
      have hb4n : ((X2.alloc (recObj name g7 c7 ts rs g sa R.length sc)).alloc (.cells #[.pointer (some ⟨X2.heap.size, 0, none⟩)] 112)).heap[X2.heap.size + 1]? = some (.cells #[.pointer (some ⟨X2.heap.size, 0, none⟩)] 112 (0, 0)) := by
        have := heap_alloc_new (X2.alloc (recObj name g7 c7 ts rs g sa R.length sc)) (.cells #[.pointer (some ⟨X2.heap.size, 0, none⟩)] 112)
        rwa [World.size_alloc] at this
      refine step_append_lies ((X2.alloc (recObj name g7 c7 ts rs g sa R.length sc)).alloc (.cells #[.pointer (some ⟨X2.heap.size, 0, none⟩)] 112)) rfl (.tmp 73) (.tmp 87) 101 rfl 0 112 i0 (.pointer none) 1 8 Tryz.underlying101 hi0 hz0 hz1 hz2 rfl (by decide) (.slice a Ts.length cap) Ts.length (bs.map tabV) rfl hown5 ⟨X2.heap.size + 1, 0, none⟩ 1 1 [tabV X2.heap.size] rfl rfl (fun j u hu => World.news_of_block hb4n j u (by simpa [tabV] using hu)) (fun u hu => by simp at hu; subst hu; rfl) (by decide) (by unfold maxLen; omega) (by omega) (Nat.zero_le _) (X2.heap.size + 2) (by simp) (fun g9 cap9 X5 ho9 hg9 hat9 hl9 => ?_)
      have z9 := hg9.size
      have hne9 : (Value.slice a Ts.length cap).ownBlock ≠ some s := fun e => (HH.out.set.gF s e).2 rfl
      have hnw9 : (Value.slice a Ts.length cap).ownBlock ≠ some w.heap.size := fun e => Nat.lt_irrefl _ (own_block_ge HH.out.set.own e)
      have hs5 : X5.heap[s]? = some (.cells #[.pointer (some ⟨d, 0, none⟩), .slice a Ts.length cap] 103 (0, 0)) := (hg9.block s (lt_of_heap hs4) (Ne.symm hne9)).trans hs4
      have hw5 : X5.heap[w.heap.size]? = ((X2.alloc (recObj name g7 c7 ts rs g sa R.length sc)).alloc (.cells #[.pointer (some ⟨X2.heap.size, 0, none⟩)] 112)).heap[w.heap.size]? := hg9.block w.heap.size (lt_of_cell hH.1) (Ne.symm hnw9)
      have hcw : ∀ o : Nat, X5.cell? ⟨w.heap.size, o, none⟩ = ((X2.alloc (recObj name g7 c7 ts rs g sa R.length sc)).alloc (.cells #[.pointer (some ⟨X2.heap.size, 0, none⟩)] 112)).cell? ⟨w.heap.size, o, none⟩ := fun o => by simp only [World.cell?, hw5]
      have hsw : s ≠ w.heap.size := fun e => by have := lt_of_heap HH.out.set.cells; omega
      refine hK.out _ _ ⟨(hcw 0).trans hH.1, (hcw 1).trans hH.2.1, (hcw 2).trans hH.2.2⟩ (fun hH => ?_)
      clear hK K hcw hw5 hown4 hst
      have s5 : X5.cell? ⟨s, 1, none⟩ = some (.slice a Ts.length cap) := by simp [World.cell?, hs5]
      have f5 : X5.frozen? ⟨s, 1, none⟩ = false := by simp [World.frozen?, hs5]
      simp only [Act.put, List.getElem_toArray, List.getElem_cons_zero, List.getElem_cons_succ, List.setIfInBounds_toArray, List.set_cons_zero, List.set_cons_succ]
      refine wpAnyH_take (i := 20) (v := ?_) rfl (by kernel_rfl) (by kernel_rfl) (by kernel_rfl) (fun _ _ _ h => h) (Or.inl ⟨by rfl, ?_⟩) hH ?_
      rotate_left 1
      · intro w hSw; (try dsimp only at hSw); go_simp; try rfl
      simp only [Act.put, List.getElem_toArray, List.getElem_cons_zero, List.getElem_cons_succ, List.setIfInBounds_toArray, List.set_cons_zero, List.set_cons_succ]
      refine wpAnyH_take (i := 21) (v := ?_) rfl (by kernel_rfl) (by kernel_rfl) (by kernel_rfl) (fun _ _ _ h => h) (Or.inl ⟨by rfl, ?_⟩) hH ?_
      rotate_left 1
      · intro w hSw; (try dsimp only at hSw); go_simp; try rfl
      simp only [Act.put, List.getElem_toArray, List.getElem_cons_zero, List.getElem_cons_succ, List.setIfInBounds_toArray, List.set_cons_zero, List.set_cons_succ]
      refine wpAnyH_ready (rs := [22]) (by kernel_rfl) (by simp) (AllReadyH.cons rfl (fun K hK => ?_) AllReadyH.nil)
      go_simp
      have hcs : ∀ o : Nat, (X5.setCell ⟨s, 1, none⟩ (.slice (some ⟨g9, 0, none⟩) (Ts.length + 1) cap9)).cell? ⟨w.heap.size, o, none⟩ = X5.cell? ⟨w.heap.size, o, none⟩ := fun o => World.cell?_setCell_other _ _ _ _ (by intro e; injection e with e1; exact absurd e1 (by omega))
      refine hK.out _ _ ⟨(hcs 0).trans hH.1, (hcs 1).trans hH.2.1, (hcs 2).trans hH.2.2⟩ (fun hH => ?_)
      clear hK K hcs
      refine wpAnyH_done (by kernel_rfl) ?_ _
      clear hH s5 f5
      have hfin : LoadOk w s d F G D Ts (.slice a Ts.length cap) bs name ts rs g T (X5.setCell ⟨s, 1, none⟩ (.slice (some ⟨g9, 0, none⟩) (Ts.length + 1) cap9)) := by
        obtain rfl := HR.out
        refine load_done HH.out hb6 hk5 hd5 hf5 hl5 HSG.out hsc hb7 (Nat.le_trans z1 hg7) hg7l HI7.out (sv' := .slice (some ⟨g9, 0, none⟩) (Ts.length + 1) cap9) ?_ hg9 (by rcases hat9 with e | e; exact .inl (by rw [e]; rfl); exact .inr (by rw [e]; rfl))
        unfold OwnC
        rw [List.length_append, List.length_map, HH.out.set.len]
        exact ho9
      have HFIN : Hid (LoadOk w s d F G D Ts (.slice a Ts.length cap) bs name ts rs g T (X5.setCell ⟨s, 1, none⟩ (.slice (some ⟨g9, 0, none⟩) (Ts.length + 1) cap9))) := hfin
      clear hfin
      generalize X5.setCell ⟨s, 1, none⟩ (.slice (some ⟨g9, 0, none⟩) (Ts.length + 1) cap9) = X6 at *
      go_wp2
      go_ret
      exact ⟨rfl, HFIN.out⟩
    · go_simp
      refine (HCI.out _ ((HIT.out.of_block (w' := X1) hx1.size fun b o _ hl => hx1.block b hl))).mono ?_
      rintro e X2 ⟨hx2, g7, c7, rfl, hg7, hg7l, hI7⟩
      have HI7 : Hid (Ints X2 (some ⟨g7, 0, none⟩) ts) := hI7
      clear hI7
      have s2 := cell_below hx2 s1
      go_simp
      refine hK.out _ _ ⟨cell_below hx2 hH.1, cell_below hx2 hH.2.1, cell_below hx2 hH.2.2⟩ (fun hH => ?_)
      clear hK K
      refine wpAnyH_take (i := 16) (v := ?_) rfl (by kernel_rfl) (by kernel_rfl) (by kernel_rfl) (fun _ _ _ h => h) (Or.inl ⟨by rfl, ?_⟩) hH ?_
      rotate_left 1
      · intro w hSw; (try dsimp only at hSw); go_simp; try rfl
      simp only [Act.put, List.getElem_toArray, List.getElem_cons_zero, List.getElem_cons_succ, List.setIfInBounds_toArray, List.set_cons_zero, List.set_cons_succ]
      refine wpAnyH_ready (rs := [4, 17]) (by kernel_rfl) (by simp) (AllReadyH.cons rfl (fun K hK => ?_) (AllReadyH.cons rfl (fun K hK => ?_) AllReadyH.nil))
      · go_simp
        refine hK.out _ _ hH (fun hH => ?_)
        clear hK K
        refine wpAnyH_ready (rs := [17]) (by kernel_rfl) (by simp) (AllReadyH.cons rfl (fun K hK => ?_) AllReadyH.nil)
        go_simp
        have hx3 : Below X2.heap.size X2 (X2.alloc (recObj name g7 c7 ts rs g sa R.length sc)) := (Below.refl _ _).alloc (Nat.le_refl _) _
        have s3 := cell_below hx3 s2
        refine hK.out _ _ ⟨cell_below hx3 hH.1, cell_below hx3 hH.2.1, cell_below hx3 hH.2.2⟩ (fun hH => ?_)
        clear hK K
        refine wpAnyH_ready (rs := [18]) (by kernel_rfl) (by simp) (AllReadyH.cons rfl (fun K hK => ?_) AllReadyH.nil)
        go_simp
        have hx4 : Below (X2.alloc (recObj name g7 c7 ts rs g sa R.length sc)).heap.size (X2.alloc (recObj name g7 c7 ts rs g sa R.length sc)) ((X2.alloc (recObj name g7 c7 ts rs g sa R.length sc)).alloc (.cells #[.pointer (some ⟨X2.heap.size, 0, none⟩)] 112)) := (Below.refl _ _).alloc (Nat.le_refl _) _
        have s4 := cell_below hx4 s3
        refine hK.out _ _ ⟨cell_below hx4 hH.1, cell_below hx4 hH.2.1, cell_below hx4 hH.2.2⟩ (fun hH => ?_)
        clear hK K
        refine wpAnyH_ready (rs := [19]) (by kernel_rfl) (by simp) (AllReadyH.cons rfl (fun K hK => ?_) AllReadyH.nil)
        have z1 : W5.heap.size ≤ X1.heap.size := hx1.size
        have hb7 : Below W5.heap.size W5 X2 := below_undrew (below_then hx1 hx2)
        have hst : ∀ k, k < W5.heap.size → ((X2.alloc (recObj name g7 c7 ts rs g sa R.length sc)).alloc (.cells #[.pointer (some ⟨X2.heap.size, 0, none⟩)] 112)).heap[k]? = W5.heap[k]? := fun k hk => by
          have z2 := hb7.size
          rw [hx4.block k (by simp; omega), hx3.block k (by omega), hb7.block k hk]
        have hown4 : OwnC ((X2.alloc (recObj name g7 c7 ts rs g sa R.length sc)).alloc (.cells #[.pointer (some ⟨X2.heap.size, 0, none⟩)] 112)) 0 112 (.slice a Ts.length cap) (bs.map tabV) := own_of_block HH.out.set.own fun k hk => by
          have hkl := own_block_ge HH.out.set.own hk
          have z6 := hb6.size
          have z5 := hk5.size
          rw [hst k (by omega), hk5.block k (by omega) (HH.out.gF k hk), hb6.block k hkl]
        have hown5 : ((X2.alloc (recObj name g7 c7 ts rs g sa R.length sc)).alloc (.cells #[.pointer (some ⟨X2.heap.size, 0, none⟩)] 112)).ownsRow 0 112 1 (.slice a Ts.length cap) Ts.length (bs.map tabV) := by
          have := hown4
          unfold OwnC at this
          rwa [List.length_map, HH.out.set.len] at this
        have hs4 : ((X2.alloc (recObj name g7 c7 ts rs g sa R.length sc)).alloc (.cells #[.pointer (some ⟨X2.heap.size, 0, none⟩)] 112)).heap[s]? = some (.cells #[.pointer (some ⟨d, 0, none⟩), .slice a Ts.length cap] 103 (0, 0)) := by
          have hsl := lt_of_heap HH.out.set.cells
          have z6 := hb6.size
          have z5 := hk5.size
          rw [hst s (by omega), hk5.block s (by omega) HH.out.sF, hb6.block s hsl]
          exact HH.out.set.cells
        have hb4n : ((X2.alloc (recObj name g7 c7 ts rs g sa R.length sc)).alloc (.cells #[.pointer (some ⟨X2.heap.size, 0, none⟩)] 112)).heap[X2.heap.size + 1]? = some (.cells #[.pointer (some ⟨X2.heap.size, 0, none⟩)] 112 (0, 0)) := by
          have := heap_alloc_new (X2.alloc (recObj name g7 c7 ts rs g sa R.length sc)) (.cells #[.pointer (some ⟨X2.heap.size, 0, none⟩)] 112)
          rwa [World.size_alloc] at this
        refine step_append_lies ((X2.alloc (recObj name g7 c7 ts rs g sa R.length sc)).alloc (.cells #[.pointer (some ⟨X2.heap.size, 0, none⟩)] 112)) rfl (.tmp 73) (.tmp 87) 101 rfl 0 112 i0 (.pointer none) 1 8 Tryz.underlying101 hi0 hz0 hz1 hz2 rfl (by decide) (.slice a Ts.length cap) Ts.length (bs.map tabV) rfl hown5 ⟨X2.heap.size + 1, 0, none⟩ 1 1 [tabV X2.heap.size] rfl rfl (fun j u hu => World.news_of_block hb4n j u (by simpa [tabV] using hu)) (fun u hu => by simp at hu; subst hu; rfl) (by decide) (by unfold maxLen; omega) (by omega) (Nat.zero_le _) (X2.heap.size + 2) (by simp) (fun g9 cap9 X5 ho9 hg9 hat9 hl9 => ?_)
        have z9 := hg9.size
        have hne9 : (Value.slice a Ts.length cap).ownBlock ≠ some s := fun e => (HH.out.set.gF s e).2 rfl
        have hnw9 : (Value.slice a Ts.length cap).ownBlock ≠ some w.heap.size := fun e => Nat.lt_irrefl _ (own_block_ge HH.out.set.own e)
        have hs5 : X5.heap[s]? = some (.cells #[.pointer (some ⟨d, 0, none⟩), .slice a Ts.length cap] 103 (0, 0)) := (hg9.block s (lt_of_heap hs4) (Ne.symm hne9)).trans hs4
        have hw5 : X5.heap[w.heap.size]? = ((X2.alloc (recObj name g7 c7 ts rs g sa R.length sc)).alloc (.cells #[.pointer (some ⟨X2.heap.size, 0, none⟩)] 112)).heap[w.heap.size]? := hg9.block w.heap.size (lt_of_cell hH.1) (Ne.symm hnw9)
        have hcw : ∀ o : Nat, X5.cell? ⟨w.heap.size, o, none⟩ = ((X2.alloc (recObj name g7 c7 ts rs g sa R.length sc)).alloc (.cells #[.pointer (some ⟨X2.heap.size, 0, none⟩)] 112)).cell? ⟨w.heap.size, o, none⟩ := fun o => by simp only [World.cell?, hw5]
        have hsw : s ≠ w.heap.size := fun e => by have := lt_of_heap HH.out.set.cells; omega
        refine hK.out _ _ ⟨(hcw 0).trans hH.1, (hcw 1).trans hH.2.1, (hcw 2).trans hH.2.2⟩ (fun hH => ?_)
        clear hK K hcw hw5 hown4 hst
        have s5 : X5.cell? ⟨s, 1, none⟩ = some (.slice a Ts.length cap) := by simp [World.cell?, hs5]
        have f5 : X5.frozen? ⟨s, 1, none⟩ = false := by simp [World.frozen?, hs5]
        simp only [Act.put, List.getElem_toArray, List.getElem_cons_zero, List.getElem_cons_succ, List.setIfInBounds_toArray, List.set_cons_zero, List.set_cons_succ]
        refine wpAnyH_take (i := 20) (v := ?_) rfl (by kernel_rfl) (by kernel_rfl) (by kernel_rfl) (fun _ _ _ h => h) (Or.inl ⟨by rfl, ?_⟩) hH ?_
        rotate_left 1
        · intro w hSw; (try dsimp only at hSw); go_simp; try rfl
        simp only [Act.put, List.getElem_toArray, List.getElem_cons_zero, List.getElem_cons_succ, List.setIfInBounds_toArray, List.set_cons_zero, List.set_cons_succ]
        refine wpAnyH_take (i := 21) (v := ?_) rfl (by kernel_rfl) (by kernel_rfl) (by kernel_rfl) (fun _ _ _ h => h) (Or.inl ⟨by rfl, ?_⟩) hH ?_
        rotate_left 1
        · intro w hSw; (try dsimp only at hSw); go_simp; try rfl
        simp only [Act.put, List.getElem_toArray, List.getElem_cons_zero, List.getElem_cons_succ, List.setIfInBounds_toArray, List.set_cons_zero, List.set_cons_succ]
        refine wpAnyH_ready (rs := [22]) (by kernel_rfl) (by simp) (AllReadyH.cons rfl (fun K hK => ?_) AllReadyH.nil)
        go_simp
        have hcs : ∀ o : Nat, (X5.setCell ⟨s, 1, none⟩ (.slice (some ⟨g9, 0, none⟩) (Ts.length + 1) cap9)).cell? ⟨w.heap.size, o, none⟩ = X5.cell? ⟨w.heap.size, o, none⟩ := fun o => World.cell?_setCell_other _ _ _ _ (by intro e; injection e with e1; exact absurd e1 (by omega))
        refine hK.out _ _ ⟨(hcs 0).trans hH.1, (hcs 1).trans hH.2.1, (hcs 2).trans hH.2.2⟩ (fun hH => ?_)
        clear hK K hcs
        refine wpAnyH_done (by kernel_rfl) ?_ _
        clear hH s5 f5
        have hfin : LoadOk w s d F G D Ts (.slice a Ts.length cap) bs name ts rs g T (X5.setCell ⟨s, 1, none⟩ (.slice (some ⟨g9, 0, none⟩) (Ts.length + 1) cap9)) := by
          obtain rfl := HR.out
          refine load_done HH.out hb6 hk5 hd5 hf5 hl5 HSG.out hsc hb7 (Nat.le_trans z1 hg7) hg7l HI7.out (sv' := .slice (some ⟨g9, 0, none⟩) (Ts.length + 1) cap9) ?_ hg9 (by rcases hat9 with e | e; exact .inl (by rw [e]; rfl); exact .inr (by rw [e]; rfl))
          unfold OwnC
          rw [List.length_append, List.length_map, HH.out.set.len]
          exact ho9
        have HFIN : Hid (LoadOk w s d F G D Ts (.slice a Ts.length cap) bs name ts rs g T (X5.setCell ⟨s, 1, none⟩ (.slice (some ⟨g9, 0, none⟩) (Ts.length + 1) cap9))) := hfin
        clear hfin
        generalize X5.setCell ⟨s, 1, none⟩ (.slice (some ⟨g9, 0, none⟩) (Ts.length + 1) cap9) = X6 at *
        go_wp2
        go_ret
        exact ⟨rfl, HFIN.out⟩
      · go_simp
        have hx3 : Below X2.heap.size X2 (X2.alloc (recObj name g7 c7 ts rs g sa R.length sc)) := (Below.refl _ _).alloc (Nat.le_refl _) _
        have s3 := cell_below hx3 s2
        refine hK.out _ _ ⟨cell_below hx3 hH.1, cell_below hx3 hH.2.1, cell_below hx3 hH.2.2⟩ (fun hH => ?_)
        clear hK K
        refine wpAnyH_ready (rs := [4, 18]) (by kernel_rfl) (by simp) (AllReadyH.cons rfl (fun K hK => ?_) (AllReadyH.cons rfl (fun K hK => ?_) AllReadyH.nil))
        · go_simp
          refine hK.out _ _ hH (fun hH => ?_)
          clear hK K
          refine wpAnyH_ready (rs := [18]) (by kernel_rfl) (by simp) (AllReadyH.cons rfl (fun K hK => ?_) AllReadyH.nil)
          go_simp
          have hx4 : Below (X2.alloc (recObj name g7 c7 ts rs g sa R.length sc)).heap.size (X2.alloc (recObj name g7 c7 ts rs g sa R.length sc)) ((X2.alloc (recObj name g7 c7 ts rs g sa R.length sc)).alloc (.cells #[.pointer (some ⟨X2.heap.size, 0, none⟩)] 112)) := (Below.refl _ _).alloc (Nat.le_refl _) _
          have s4 := cell_below hx4 s3
          refine hK.out _ _ ⟨cell_below hx4 hH.1, cell_below hx4 hH.2.1, cell_below hx4 hH.2.2⟩ (fun hH => ?_)
          clear hK K
          refine wpAnyH_ready (rs := [19]) (by kernel_rfl) (by simp) (AllReadyH.cons rfl (fun K hK => ?_) AllReadyH.nil)
          have z1 : W5.heap.size ≤ X1.heap.size := hx1.size
          have hb7 : Below W5.heap.size W5 X2 := below_undrew (below_then hx1 hx2)
          have hst : ∀ k, k < W5.heap.size → ((X2.alloc (recObj name g7 c7 ts rs g sa R.length sc)).alloc (.cells #[.pointer (some ⟨X2.heap.size, 0, none⟩)] 112)).heap[k]? = W5.heap[k]? := fun k hk => by
            have z2 := hb7.size
            rw [hx4.block k (by simp; omega), hx3.block k (by omega), hb7.block k hk]
          have hown4 : OwnC ((X2.alloc (recObj name g7 c7 ts rs g sa R.length sc)).alloc (.cells #[.pointer (some ⟨X2.heap.size, 0, none⟩)] 112)) 0 112 (.slice a Ts.length cap) (bs.map tabV) := own_of_block HH.out.set.own fun k hk => by
            have hkl := own_block_ge HH.out.set.own hk
            have z6 := hb6.size
            have z5 := hk5.size
            rw [hst k (by omega), hk5.block k (by omega) (HH.out.gF k hk), hb6.block k hkl]
          have hown5 : ((X2.alloc (recObj name g7 c7 ts rs g sa R.length sc)).alloc (.cells #[.pointer (some ⟨X2.heap.size, 0, none⟩)] 112)).ownsRow 0 112 1 (.slice a Ts.length cap) Ts.length (bs.map tabV) := by
            have := hown4
            unfold OwnC at this
            rwa [List.length_map, HH.out.set.len] at this
          have hs4 : ((X2.alloc (recObj name g7 c7 ts rs g sa R.length sc)).alloc (.cells #[.pointer (some ⟨X2.heap.size, 0, none⟩)] 112)).heap[s]? = some (.cells #[.pointer (some ⟨d, 0, none⟩), .slice a Ts.length cap] 103 (0, 0)) := by
            have hsl := lt_of_heap HH.out.set.cells
            have z6 := hb6.size
            have z5 := hk5.size
            rw [hst s (by omega), hk5.block s (by omega) HH.out.sF, hb6.block s hsl]
            exact HH.out.set.cells
          have hb4n : ((X2.alloc (recObj name g7 c7 ts rs g sa R.length sc)).alloc (.cells #[.pointer (some ⟨X2.heap.size, 0, none⟩)] 112)).heap[X2.heap.size + 1]? = some (.cells #[.pointer (some ⟨X2.heap.size, 0, none⟩)] 112 (0, 0)) := by
            have := heap_alloc_new (X2.alloc (recObj name g7 c7 ts rs g sa R.length sc)) (.cells #[.pointer (some ⟨X2.heap.size, 0, none⟩)] 112)
            rwa [World.size_alloc] at this
          refine step_append_lies ((X2.alloc (recObj name g7 c7 ts rs g sa R.length sc)).alloc (.cells #[.pointer (some ⟨X2.heap.size, 0, none⟩)] 112)) rfl (.tmp 73) (.tmp 87) 101 rfl 0 112 i0 (.pointer none) 1 8 Tryz.underlying101 hi0 hz0 hz1 hz2 rfl (by decide) (.slice a Ts.length cap) Ts.length (bs.map tabV) rfl hown5 ⟨X2.heap.size + 1, 0, none⟩ 1 1 [tabV X2.heap.size] rfl rfl (fun j u hu => World.news_of_block hb4n j u (by simpa [tabV] using hu)) (fun u hu => by simp at hu; subst hu; rfl) (by decide) (by unfold maxLen; omega) (by omega) (Nat.zero_le _) (X2.heap.size + 2) (by simp) (fun g9 cap9 X5 ho9 hg9 hat9 hl9 => ?_)
          have z9 := hg9.size
          have hne9 : (Value.slice a Ts.length cap).ownBlock ≠ some s := fun e => (HH.out.set.gF s e).2 rfl
          have hnw9 : (Value.slice a Ts.length cap).ownBlock ≠ some w.heap.size := fun e => Nat.lt_irrefl _ (own_block_ge HH.out.set.own e)
          have hs5 : X5.heap[s]? = some (.cells #[.pointer (some ⟨d, 0, none⟩), .slice a Ts.length cap] 103 (0, 0)) := (hg9.block s (lt_of_heap hs4) (Ne.symm hne9)).trans hs4
          have hw5 : X5.heap[w.heap.size]? = ((X2.alloc (recObj name g7 c7 ts rs g sa R.length sc)).alloc (.cells #[.pointer (some ⟨X2.heap.size, 0, none⟩)] 112)).heap[w.heap.size]? := hg9.block w.heap.size (lt_of_cell hH.1) (Ne.symm hnw9)
          have hcw : ∀ o : Nat, X5.cell? ⟨w.heap.size, o, none⟩ = ((X2.alloc (recObj name g7 c7 ts rs g sa R.length sc)).alloc (.cells #[.pointer (some ⟨X2.heap.size, 0, none⟩)] 112)).cell? ⟨w.heap.size, o, none⟩ := fun o => by simp only [World.cell?, hw5]
          have hsw : s ≠ w.heap.size := fun e => by have := lt_of_heap HH.out.set.cells; omega
          refine hK.out _ _ ⟨(hcw 0).trans hH.1, (hcw 1).trans hH.2.1, (hcw 2).trans hH.2.2⟩ (fun hH => ?_)
          clear hK K hcw hw5 hown4 hst
          have s5 : X5.cell? ⟨s, 1, none⟩ = some (.slice a Ts.length cap) := by simp [World.cell?, hs5]
          have f5 : X5.frozen? ⟨s, 1, none⟩ = false := by simp [World.frozen?, hs5]
          simp only [Act.put, List.getElem_toArray, List.getElem_cons_zero, List.getElem_cons_succ, List.setIfInBounds_toArray, List.set_cons_zero, List.set_cons_succ]
          refine wpAnyH_take (i := 20) (v := ?_) rfl (by kernel_rfl) (by kernel_rfl) (by kernel_rfl) (fun _ _ _ h => h) (Or.inl ⟨by rfl, ?_⟩) hH ?_
          rotate_left 1
          · intro w hSw; (try dsimp only at hSw); go_simp; try rfl
          simp only [Act.put, List.getElem_toArray, List.getElem_cons_zero, List.getElem_cons_succ, List.setIfInBounds_toArray, List.set_cons_zero, List.set_cons_succ]
          refine wpAnyH_take (i := 21) (v := ?_) rfl (by kernel_rfl) (by kernel_rfl) (by kernel_rfl) (fun _ _ _ h => h) (Or.inl ⟨by rfl, ?_⟩) hH ?_
          rotate_left 1
          · intro w hSw; (try dsimp only at hSw); go_simp; try rfl
          simp only [Act.put, List.getElem_toArray, List.getElem_cons_zero, List.getElem_cons_succ, List.setIfInBounds_toArray, List.set_cons_zero, List.set_cons_succ]
          refine wpAnyH_ready (rs := [22]) (by kernel_rfl) (by simp) (AllReadyH.cons rfl (fun K hK => ?_) AllReadyH.nil)
          go_simp
          have hcs : ∀ o : Nat, (X5.setCell ⟨s, 1, none⟩ (.slice (some ⟨g9, 0, none⟩) (Ts.length + 1) cap9)).cell? ⟨w.heap.size, o, none⟩ = X5.cell? ⟨w.heap.size, o, none⟩ := fun o => World.cell?_setCell_other _ _ _ _ (by intro e; injection e with e1; exact absurd e1 (by omega))
          refine hK.out _ _ ⟨(hcs 0).trans hH.1, (hcs 1).trans hH.2.1, (hcs 2).trans hH.2.2⟩ (fun hH => ?_)
          clear hK K hcs
          refine wpAnyH_done (by kernel_rfl) ?_ _
          clear hH s5 f5
          have hfin : LoadOk w s d F G D Ts (.slice a Ts.length cap) bs name ts rs g T (X5.setCell ⟨s, 1, none⟩ (.slice (some ⟨g9, 0, none⟩) (Ts.length + 1) cap9)) := by
            obtain rfl := HR.out
            refine load_done HH.out hb6 hk5 hd5 hf5 hl5 HSG.out hsc hb7 (Nat.le_trans z1 hg7) hg7l HI7.out (sv' := .slice (some ⟨g9, 0, none⟩) (Ts.length + 1) cap9) ?_ hg9 (by rcases hat9 with e | e; exact .inl (by rw [e]; rfl); exact .inr (by rw [e]; rfl))
            unfold OwnC
            rw [List.length_append, List.length_map, HH.out.set.len]
            exact ho9
          have HFIN : Hid (LoadOk w s d F G D Ts (.slice a Ts.length cap) bs name ts rs g T (X5.setCell ⟨s, 1, none⟩ (.slice (some ⟨g9, 0, none⟩) (Ts.length + 1) cap9))) := hfin
          clear hfin
          generalize X5.setCell ⟨s, 1, none⟩ (.slice (some ⟨g9, 0, none⟩) (Ts.length + 1) cap9) = X6 at *
          go_wp2
          go_ret
          exact ⟨rfl, HFIN.out⟩
        · go_simp
          have hx4 : Below (X2.alloc (recObj name g7 c7 ts rs g sa R.length sc)).heap.size (X2.alloc (recObj name g7 c7 ts rs g sa R.length sc)) ((X2.alloc (recObj name g7 c7 ts rs g sa R.length sc)).alloc (.cells #[.pointer (some ⟨X2.heap.size, 0, none⟩)] 112)) := (Below.refl _ _).alloc (Nat.le_refl _) _
          have s4 := cell_below hx4 s3
          refine hK.out _ _ ⟨cell_below hx4 hH.1, cell_below hx4 hH.2.1, cell_below hx4 hH.2.2⟩ (fun hH => ?_)
          clear hK K
          refine wpAnyH_ready (rs := [4]) (by kernel_rfl) (by simp) (AllReadyH.cons rfl (fun K hK => ?_) AllReadyH.nil)
          go_simp
          refine hK.out _ _ hH (fun hH => ?_)
          clear hK K
          refine wpAnyH_ready (rs := [19]) (by kernel_rfl) (by simp) (AllReadyH.cons rfl (fun K hK => ?_) AllReadyH.nil)
          have z1 : W5.heap.size ≤ X1.heap.size := hx1.size
          have hb7 : Below W5.heap.size W5 X2 := below_undrew (below_then hx1 hx2)
          have hst : ∀ k, k < W5.heap.size → ((X2.alloc (recObj name g7 c7 ts rs g sa R.length sc)).alloc (.cells #[.pointer (some ⟨X2.heap.size, 0, none⟩)] 112)).heap[k]? = W5.heap[k]? := fun k hk => by
            have z2 := hb7.size
            rw [hx4.block k (by simp; omega), hx3.block k (by omega), hb7.block k hk]
          have hown4 : OwnC ((X2.alloc (recObj name g7 c7 ts rs g sa R.length sc)).alloc (.cells #[.pointer (some ⟨X2.heap.size, 0, none⟩)] 112)) 0 112 (.slice a Ts.length cap) (bs.map tabV) := own_of_block HH.out.set.own fun k hk => by
            have hkl := own_block_ge HH.out.set.own hk
            have z6 := hb6.size
            have z5 := hk5.size
            rw [hst k (by omega), hk5.block k (by omega) (HH.out.gF k hk), hb6.block k hkl]
          have hown5 : ((X2.alloc (recObj name g7 c7 ts rs g sa R.length sc)).alloc (.cells #[.pointer (some ⟨X2.heap.size, 0, none⟩)] 112)).ownsRow 0 112 1 (.slice a Ts.length cap) Ts.length (bs.map tabV) := by
            have := hown4
            unfold OwnC at this
            rwa [List.length_map, HH.out.set.len] at this
          have hs4 : ((X2.alloc (recObj name g7 c7 ts rs g sa R.length sc)).alloc (.cells #[.pointer (some ⟨X2.heap.size, 0, none⟩)] 112)).heap[s]? = some (.cells #[.pointer (some ⟨d, 0, none⟩), .slice a Ts.length cap] 103 (0, 0)) := by
            have hsl := lt_of_heap HH.out.set.cells
            have z6 := hb6.size
            have z5 := hk5.size
            rw [hst s (by omega), hk5.block s (by omega) HH.out.sF, hb6.block s hsl]
            exact HH.out.set.cells
          have hb4n : ((X2.alloc (recObj name g7 c7 ts rs g sa R.length sc)).alloc (.cells #[.pointer (some ⟨X2.heap.size, 0, none⟩)] 112)).heap[X2.heap.size + 1]? = some (.cells #[.pointer (some ⟨X2.heap.size, 0, none⟩)] 112 (0, 0)) := by
            have := heap_alloc_new (X2.alloc (recObj name g7 c7 ts rs g sa R.length sc)) (.cells #[.pointer (some ⟨X2.heap.size, 0, none⟩)] 112)
            rwa [World.size_alloc] at this
          refine step_append_lies ((X2.alloc (recObj name g7 c7 ts rs g sa R.length sc)).alloc (.cells #[.pointer (some ⟨X2.heap.size, 0, none⟩)] 112)) rfl (.tmp 73) (.tmp 87) 101 rfl 0 112 i0 (.pointer none) 1 8 Tryz.underlying101 hi0 hz0 hz1 hz2 rfl (by decide) (.slice a Ts.length cap) Ts.length (bs.map tabV) rfl hown5 ⟨X2.heap.size + 1, 0, none⟩ 1 1 [tabV X2.heap.size] rfl rfl (fun j u hu => World.news_of_block hb4n j u (by simpa [tabV] using hu)) (fun u hu => by simp at hu; subst hu; rfl) (by decide) (by unfold maxLen; omega) (by omega) (Nat.zero_le _) (X2.heap.size + 2) (by simp) (fun g9 cap9 X5 ho9 hg9 hat9 hl9 => ?_)
          have z9 := hg9.size
          have hne9 : (Value.slice a Ts.length cap).ownBlock ≠ some s := fun e => (HH.out.set.gF s e).2 rfl
          have hnw9 : (Value.slice a Ts.length cap).ownBlock ≠ some w.heap.size := fun e => Nat.lt_irrefl _ (own_block_ge HH.out.set.own e)
          have hs5 : X5.heap[s]? = some (.cells #[.pointer (some ⟨d, 0, none⟩), .slice a Ts.length cap] 103 (0, 0)) := (hg9.block s (lt_of_heap hs4) (Ne.symm hne9)).trans hs4
          have hw5 : X5.heap[w.heap.size]? = ((X2.alloc (recObj name g7 c7 ts rs g sa R.length sc)).alloc (.cells #[.pointer (some ⟨X2.heap.size, 0, none⟩)] 112)).heap[w.heap.size]? := hg9.block w.heap.size (lt_of_cell hH.1) (Ne.symm hnw9)
          have hcw : ∀ o : Nat, X5.cell? ⟨w.heap.size, o, none⟩ = ((X2.alloc (recObj name g7 c7 ts rs g sa R.length sc)).alloc (.cells #[.pointer (some ⟨X2.heap.size, 0, none⟩)] 112)).cell? ⟨w.heap.size, o, none⟩ := fun o => by simp only [World.cell?, hw5]
          have hsw : s ≠ w.heap.size := fun e => by have := lt_of_heap HH.out.set.cells; omega
          refine hK.out _ _ ⟨(hcw 0).trans hH.1, (hcw 1).trans hH.2.1, (hcw 2).trans hH.2.2⟩ (fun hH => ?_)
          clear hK K hcw hw5 hown4 hst
          have s5 : X5.cell? ⟨s, 1, none⟩ = some (.slice a Ts.length cap) := by simp [World.cell?, hs5]
          have f5 : X5.frozen? ⟨s, 1, none⟩ = false := by simp [World.frozen?, hs5]
          simp only [Act.put, List.getElem_toArray, List.getElem_cons_zero, List.getElem_cons_succ, List.setIfInBounds_toArray, List.set_cons_zero, List.set_cons_succ]
          refine wpAnyH_take (i := 20) (v := ?_) rfl (by kernel_rfl) (by kernel_rfl) (by kernel_rfl) (fun _ _ _ h => h) (Or.inl ⟨by rfl, ?_⟩) hH ?_
          rotate_left 1
          · intro w hSw; (try dsimp only at hSw); go_simp; try rfl
          simp only [Act.put, List.getElem_toArray, List.getElem_cons_zero, List.getElem_cons_succ, List.setIfInBounds_toArray, List.set_cons_zero, List.set_cons_succ]
          refine wpAnyH_take (i := 21) (v := ?_) rfl (by kernel_rfl) (by kernel_rfl) (by kernel_rfl) (fun _ _ _ h => h) (Or.inl ⟨by rfl, ?_⟩) hH ?_
          rotate_left 1
          · intro w hSw; (try dsimp only at hSw); go_simp; try rfl
          simp only [Act.put, List.getElem_toArray, List.getElem_cons_zero, List.getElem_cons_succ, List.setIfInBounds_toArray, List.set_cons_zero, List.set_cons_succ]
          refine wpAnyH_ready (rs := [22]) (by kernel_rfl) (by simp) (AllReadyH.cons rfl (fun K hK => ?_) AllReadyH.nil)
          go_simp
          have hcs : ∀ o : Nat, (X5.setCell ⟨s, 1, none⟩ (.slice (some ⟨g9, 0, none⟩) (Ts.length + 1) cap9)).cell? ⟨w.heap.size, o, none⟩ = X5.cell? ⟨w.heap.size, o, none⟩ := fun o => World.cell?_setCell_other _ _ _ _ (by intro e; injection e with e1; exact absurd e1 (by omega))
          refine hK.out _ _ ⟨(hcs 0).trans hH.1, (hcs 1).trans hH.2.1, (hcs 2).trans hH.2.2⟩ (fun hH => ?_)
          clear hK K hcs
          refine wpAnyH_done (by kernel_rfl) ?_ _
          clear hH s5 f5
          have hfin : LoadOk w s d F G D Ts (.slice a Ts.length cap) bs name ts rs g T (X5.setCell ⟨s, 1, none⟩ (.slice (some ⟨g9, 0, none⟩) (Ts.length + 1) cap9)) := by
            obtain rfl := HR.out
            refine load_done HH.out hb6 hk5 hd5 hf5 hl5 HSG.out hsc hb7 (Nat.le_trans z1 hg7) hg7l HI7.out (sv' := .slice (some ⟨g9, 0, none⟩) (Ts.length + 1) cap9) ?_ hg9 (by rcases hat9 with e | e; exact .inl (by rw [e]; rfl); exact .inr (by rw [e]; rfl))
            unfold OwnC
            rw [List.length_append, List.length_map, HH.out.set.len]
            exact ho9
          have HFIN : Hid (LoadOk w s d F G D Ts (.slice a Ts.length cap) bs name ts rs g T (X5.setCell ⟨s, 1, none⟩ (.slice (some ⟨g9, 0, none⟩) (Ts.length + 1) cap9))) := hfin
          clear hfin
          generalize X5.setCell ⟨s, 1, none⟩ (.slice (some ⟨g9, 0, none⟩) (Ts.length + 1) cap9) = X6 at *
          go_wp2
          go_ret
          exact ⟨rfl, HFIN.out⟩
end Go.Proofs.YtfgklnenpichcaaGreatDoor
