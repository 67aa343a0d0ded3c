/- A table read from the disk, column by column; the columns told as rows. -/
import Derived.Test.YtfgklnenpichcaaGreatDoorTk
namespace Go.Proofs.YtfgklnenpichcaaGreatDoor
open Go.RowKit Go.Shelf
attribute [local go_sem] Oper.semAt_some

theorem info_VS : (Tryz.prog.info? 37).map (fun i => (i.zero, i.size, i.bytes)) = some (some (.slice none 0 0), 1, 24) := by kernel_rfl
/-- columns.New: no rows. -/
theorem cNew_any (n : Nat) (w : World) (hn : n ≤ 1000) :
    Calls Tryz.prog 88 #[.int .i64 (n : Int)] w fun e w' => e = .returned (.slice (some ⟨w.heap.size, 0, none⟩) n n) ∧ ColT w' w.heap.size w.heap.size (List.replicate n (.slice none 0 0)) (List.replicate n []) ∧ Below w.heap.size w w' := by
  have hmk : ∀ W, (Instr.makeSlice 73 (.int .i64 (n : Int)) (.int .i64 (n : Int))).run Tryz.prog W = .ok (.slice (some ⟨W.heap.size, 0, none⟩) n n) (W.alloc (.cells (madeCells #[.slice none 0 0] n) 37)) :=
    fun W => run_make_row' 73 37 (.slice none 0 0) 24 (by kernel_rfl) info_VS rfl .i64 .i64 n (by omega) (by omega) W
  go_enter Tryz.func88, Tryz.ntmps88
  go_wp2
  go_ret
  have hsv : ∀ i, svAt (List.replicate n (.slice none 0 0)) i = .slice none 0 0 := fun i => by
    unfold svAt
    rw [List.getD_eq_getElem?_getD, List.getElem?_replicate]
    split <;> rfl
  refine ⟨rfl, ⟨?_, Nat.le_refl _, by simp, fun i hi => ?_, fun i hi => ?_, fun i j b hi hj hij hb => ?_⟩, (Below.refl _ _).alloc (Nat.le_refl _) _⟩
  · rw [List.length_replicate]
    exact (World.rowIs_made _ _ _ _).congr fun j _ => (hsv j).symm
  · rw [hsv, List.getD_eq_getElem?_getD, List.getElem?_replicate]
    split <;> exact OwnV.nil _ _
  · rw [hsv]; simp [Value.ownBlock]
  · rw [hsv] at hb; simp [Value.ownBlock] at hb

/-- What read answers: the table's columns, or the page that is told. -/
def TReadPost (w : World) (pg : Addr) (r : List (List V) ⊕ Nat) (e : Ending) (w' : World) : Prop :=
  Below w.heap.size w w' ∧ match r with
    | .inl cs => ∃ g svs, e = .returned (.tuple #[.slice (some ⟨g, 0, none⟩) cs.length cs.length, .nilIface]) ∧ ColT w' w.heap.size g svs cs
    | .inr j => ∃ b, e = .returned (.tuple #[.slice none 0 0, .iface 152 (.pointer (some ⟨b, 0, none⟩))]) ∧ w.heap.size ≤ b ∧ Chain w' (.iface 152 (.pointer (some ⟨b, 0, none⟩))) pg none (some (j : Int))

set_option maxRecDepth 100000 in
set_option maxHeartbeats 4000000 in
theorem tRead_any (s d tb : Nat) (T : TS) (w : World) (F G : Nat → Prop) (D : DS) (h : DiskAt w F d D) (hs0 : w.cell? ⟨s, 0, none⟩ = some (.pointer (some ⟨d, 0, none⟩))) (hT : TabAt w G tb T) (htl : 1 ≤ T.types.length ∧ T.types.length ≤ 6) (hr : T.rows ≤ 200) (hg : 1 ≤ T.group) (hg2 : T.group ≤ 64) (hsl : T.segs.length = ckN T.rows T.group * T.types.length) (hl0 : ∀ l ∈ T.segs, l ≠ [] ∧ l.length ≤ 1000) (hne : ∀ l ∈ T.segs, ∀ t, readL D l = .inl t → t ≠ []) (a0 a1 a2 : Addr) (he : Errs w a0 a1 a2) (pg : Addr) (hpg : w.cell? ⟨6, 0, none⟩ = some (.iface 255 (.pointer (some pg)))) :
    Calls Tryz.prog 60 #[.pointer (some ⟨s, 0, none⟩), .pointer (some ⟨tb, 0, none⟩)] w fun e w' => TReadPost w pg (colF D T.types T.segs (List.replicate T.types.length []) (cks T.rows T.group (ckN T.rows T.group))).1 e w' := by
  obtain ⟨ta, tc, sa, sc, hs, hX⟩ := hT
  obtain ⟨t0, t1, t2, t3, t4⟩ := hX.field
  have HSL : Hid (T.segs.length = ckN T.rows T.group * T.types.length) := hsl
  have hmn := Nat.mul_le_mul (Nat.le_refl (ckN T.rows T.group)) htl.2
  have HL0 : Hid (∀ l ∈ T.segs, l ≠ [] ∧ l.length ≤ 1000) := hl0
  have HNE : Hid (∀ l ∈ T.segs, ∀ t, readL D l = .inl t → t ≠ []) := hne
  have HVL : Hid (∀ (X : World) (ra : Option Addr) (rc : Nat) (l : List Nat) (typ : Int) (n : Nat), Below w.heap.size w X → l ∈ T.segs → Cells X ra (l.map nv) → Calls Tryz.prog 89 #[.pointer (some ⟨s, 0, none⟩), .slice ra l.length rc, .int .i64 typ, .int .i64 (n : Int)] X fun e w' => ValsPost X pg (valsOf D l typ n) e w') :=
    fun X ra rc l typ n hb hl hc => tValues_any s d ra rc l typ n X F D (h.below hb) (cell_below hb hs0) hc (hl0 l hl).1 (by have := (hl0 l hl).2; omega) (hne l hl) a0 a1 a2 (he.below hb) pg (cell_below hb hpg)
  have hnw := cNew_any T.types.length w (by omega)
  have hnn := run_neq_nil_nil (P := Tryz.prog)
  have HTY : Hid (Ints w ta T.types) := hX.types
  have HSG : Hid (SegsAt w G sa hs T.segs ∧ T.segs.length ≤ sc) := ⟨hX.segs, hX.cap⟩
  clear hsl hl0 hne h hs0 he hpg hX hmn
  go_enter Tryz.func60, Tryz.ntmps60
  go_wp2_with (first | (go_at_call 88; refine hnw.mono ?_; rintro e W1 ⟨rfl, hcol, hb1⟩; have t1a := cell_below hb1 t1; have t4a := cell_below hb1 t4))
  clear hnw t1a t4a
  go_loopw [7, 8] (fun lv fv wr => ∃ (k f : Nat) (cs : List (List V)) (svs : List Value) (sa' : Option Addr) (sc' : Nat) (hs' : List (Option Addr × Nat)) (ls : List (List Nat)), k ≤ ckN T.rows T.group ∧ Hid (f = k * T.group) ∧ f ≤ 300 ∧ fv = .int .i64 (f : Int) ∧ Hid ((colF D T.types T.segs (List.replicate T.types.length []) (cks T.rows T.group k)).1 = .inl cs) ∧ Hid (cs.length = T.types.length) ∧ Hid (∀ j, (cs.getD j []).length ≤ f) ∧ Hid (T.segs.drop (k * T.types.length) = ls) ∧ lv = .slice sa' ls.length sc' ∧ Hid (SegsAt w G sa' hs' ls ∧ ls.length ≤ sc') ∧ ColT wr w.heap.size w.heap.size svs cs ∧ Below w.heap.size w wr) (fun _ fv _ => T.rows - (intOf fv).toNat)
  case atStart =>
    refine ⟨0, 0, _, _, sa, sc, hs, T.segs, Nat.zero_le _, by show 0 = _; simp, by omega, rfl, by show _ = _; simp [cks, colF], by show _ = _; simp, ?_, by show _ = _; simp, rfl, HSG.out, hcol, hb1⟩
    intro j
    rw [List.getD_eq_getElem?_getD, List.getElem?_replicate]
    split <;> simp
  case round =>
    obtain ⟨k, f, cs, svs, sa', sc', hs', ls, hk, HF, hf3, rfl, HC, HCL, HCF, HLS, rfl, HSS, hcol, hbw⟩ := hrel
    have t1r := cell_below hbw t1
    have t2r := cell_below hbw t2
    have t3r := cell_below hbw t3
    by_cases hlt : f < T.rows
    · have HKL : Hid (k < ckN T.rows T.group) := by
        show _ < _
        rcases Nat.lt_or_ge k (ckN T.rows T.group) with h | h
        · exact h
        · have h1 := ckN_reach (len := T.rows) hg
          have h2 : k = ckN T.rows T.group := by omega
          rw [← h2, ← HF.out] at h1
          omega
      obtain ⟨m, hm⟩ : ∃ m, m = min T.group (T.rows - f) := ⟨_, rfl⟩
      have hmi : min (T.group : Int) ((T.rows : Int) - (f : Int)) = (m : Int) := by omega
      have hm64 : m ≤ 64 := by omega
      have HM : Hid (m = min T.group (T.rows - f)) := hm
      clear hm
      go_wp2
      refine wp_region_held_drew (S := fun X => X.cell? ⟨tb, 3, none⟩ = some (.int .i64 (T.group : Int)) ∧ X.cell? ⟨tb, 2, none⟩ = some (.int .i64 (T.rows : Int))) (by kernel_rfl) ⟨t3r, t2r⟩ (fun hH => ?_)
      refine wpAnyH_take (i := 0) (v := ?_) rfl (by kernel_rfl) (by kernel_rfl) (by kernel_rfl) (fun _ _ _ h => h) (Or.inl ⟨by rfl, ?_⟩) hH ?_
      rotate_left 1
      · intro w hSw; (try dsimp only at hSw); go_simp; try rfl
      simp only [Act.put, List.getElem_toArray, List.getElem_cons_zero, List.setIfInBounds_toArray, List.set_cons_zero, List.set_cons_succ]
      refine wpAnyH_take (i := 1) (v := ?_) rfl (by kernel_rfl) (by kernel_rfl) (by kernel_rfl) (fun _ _ _ h => h) (Or.inl ⟨by rfl, ?_⟩) hH ?_
      rotate_left 1
      · intro w hSw; (try dsimp only at hSw); go_simp; try rfl
      simp only [Act.put, List.getElem_toArray, List.getElem_cons_zero, List.getElem_cons_succ, List.setIfInBounds_toArray, List.set_cons_zero, List.set_cons_succ]
      refine wpAnyH_take (i := 2) (v := ?_) rfl (by kernel_rfl) (by kernel_rfl) (by kernel_rfl) (fun _ _ _ h => h) (Or.inl ⟨by rfl, ?_⟩) hH ?_
      rotate_left 1
      · intro w hSw; (try dsimp only at hSw); go_simp; try rfl
      simp only [Act.put, List.getElem_toArray, List.getElem_cons_zero, List.getElem_cons_succ, List.setIfInBounds_toArray, List.set_cons_zero, List.set_cons_succ]
      refine wpAnyH_take (i := 3) (v := ?_) rfl (by kernel_rfl) (by kernel_rfl) (by kernel_rfl) (fun _ _ _ h => h) (Or.inl ⟨by rfl, ?_⟩) hH ?_
      rotate_left 1
      · intro w hSw; (try dsimp only at hSw); go_simp; try rfl
      simp only [Act.put, List.getElem_toArray, List.getElem_cons_zero, List.getElem_cons_succ, List.setIfInBounds_toArray, List.set_cons_zero, List.set_cons_succ]
      refine wpAnyH_take (i := 4) (v := ?_) rfl (by kernel_rfl) (by kernel_rfl) (by kernel_rfl) (fun _ _ _ h => h) (Or.inl ⟨by rfl, ?_⟩) hH ?_
      rotate_left 1
      · intro w hSw; (try dsimp only at hSw); go_simp; try rfl
      simp only [Act.put, List.getElem_toArray, List.getElem_cons_zero, List.getElem_cons_succ, List.setIfInBounds_toArray, List.set_cons_zero, List.set_cons_succ]
      refine wpAnyH_take (i := 5) (v := ?_) rfl (by kernel_rfl) (by kernel_rfl) (by kernel_rfl) (fun _ _ _ h => h) (Or.inl ⟨by rfl, ?_⟩) hH ?_
      rotate_left 1
      · intro w hSw; (try dsimp only at hSw); go_simp; try rfl
      simp only [Act.put, List.getElem_toArray, List.getElem_cons_zero, List.getElem_cons_succ, List.setIfInBounds_toArray, List.set_cons_zero, List.set_cons_succ]
      refine wpAnyH_take (i := 6) (v := ?_) rfl (by kernel_rfl) (by kernel_rfl) (by kernel_rfl) (fun _ _ _ h => h) (Or.inl ⟨by rfl, ?_⟩) hH ?_
      rotate_left 1
      · intro w hSw; (try dsimp only at hSw); go_simp; try rfl
      simp only [Act.put, List.getElem_toArray, List.getElem_cons_zero, List.getElem_cons_succ, List.setIfInBounds_toArray, List.set_cons_zero, List.set_cons_succ]
      refine wpAnyH_take (i := 7) (v := ?_) rfl (by kernel_rfl) (by kernel_rfl) (by kernel_rfl) (fun _ _ _ h => h) (Or.inl ⟨by rfl, ?_⟩) hH ?_
      rotate_left 1
      · intro w hSw; (try dsimp only at hSw); go_simp; try rfl
      simp only [Act.put, List.getElem_toArray, List.getElem_cons_zero, List.getElem_cons_succ, List.setIfInBounds_toArray, List.set_cons_zero, List.set_cons_succ]
      refine wpAnyH_take (i := 8) (v := ?_) rfl (by kernel_rfl) (by kernel_rfl) (by kernel_rfl) (fun _ _ _ h => h) (Or.inl ⟨by rfl, ?_⟩) hH ?_
      rotate_left 1
      · intro w hSw; (try dsimp only at hSw); go_simp; try rfl
      simp only [Act.put, List.getElem_toArray, List.getElem_cons_zero, List.getElem_cons_succ, List.setIfInBounds_toArray, List.set_cons_zero, List.set_cons_succ]
      refine wpAnyH_take (i := 9) (v := ?_) rfl (by kernel_rfl) (by kernel_rfl) (by kernel_rfl) (fun _ _ _ h => h) (Or.inl ⟨by rfl, ?_⟩) hH ?_
      rotate_left 1
      · intro w hSw; (try dsimp only at hSw); go_simp; try rfl
      simp only [Act.put, List.getElem_toArray, List.getElem_cons_zero, List.getElem_cons_succ, List.setIfInBounds_toArray, List.set_cons_zero, List.set_cons_succ]
      refine wpAnyH_take (i := 10) (v := ?_) rfl (by kernel_rfl) (by kernel_rfl) (by kernel_rfl) (fun _ _ _ h => h) (Or.inl ⟨by rfl, ?_⟩) hH ?_
      rotate_left 1
      · intro w hSw; (try dsimp only at hSw); go_simp; try rfl
      simp only [Act.put, List.getElem_toArray, List.getElem_cons_zero, List.getElem_cons_succ, List.setIfInBounds_toArray, List.set_cons_zero, List.set_cons_succ]
      refine wpAnyH_take (i := 11) (v := ?_) rfl (by kernel_rfl) (by kernel_rfl) (by kernel_rfl) (fun _ _ _ h => h) (Or.inl ⟨by rfl, ?_⟩) hH ?_
      rotate_left 1
      · intro w hSw; (try dsimp only at hSw); go_simp; try rfl
      simp only [Act.put, List.getElem_toArray, List.getElem_cons_zero, List.getElem_cons_succ, List.setIfInBounds_toArray, List.set_cons_zero, List.set_cons_succ]
      refine wpAnyH_done (by kernel_rfl) ?_ _
      have hwr : IntKind.i64.wrap ((T.rows : Int) - (f : Int)) = (T.rows : Int) - (f : Int) := by rw [IntKind.wrap_i64]; omega
      rw [hwr, hmi]
      clear hwr hmi
      have HLL : Hid (T.types.length ≤ ls.length) := by
        show _ ≤ _
        rw [← HLS.out, List.length_drop, HSL.out]
        have h1 : (k + 1) * T.types.length ≤ ckN T.rows T.group * T.types.length := Nat.mul_le_mul_right _ HKL.out
        rw [Nat.succ_mul] at h1
        omega
      have HLM : Hid (∀ y ∈ ls, y ∈ T.segs) := fun y hy => by rw [← HLS.out] at hy; exact List.mem_of_mem_drop hy
      clear hH
      go_wp2
      go_loopw [7, 52] (fun lv i wr => ∃ (c : Nat) (cs2 : List (List V)) (svs2 : List Value) (sa2 : Option Addr) (sc2 : Nat) (hs2 : List (Option Addr × Nat)) (lsd : List (List Nat)), c ≤ T.types.length ∧ i = .int .i64 (c : Int) ∧ Hid (colK D ls T.types m cs c = .inl cs2) ∧ Hid (cs2.length = T.types.length) ∧ Hid (∀ j, (cs2.getD j []).length ≤ if j < c then f + m else f) ∧ Hid (ls.drop c = lsd) ∧ lv = .slice sa2 lsd.length sc2 ∧ Hid (SegsAt w G sa2 hs2 lsd ∧ lsd.length ≤ sc2) ∧ ColT wr w.heap.size w.heap.size svs2 cs2 ∧ Below w.heap.size w wr) (fun _ i _ => T.types.length - (intOf i).toNat)
      case atStart => exact ⟨0, cs, svs, sa', sc', hs', ls, Nat.zero_le _, rfl, rfl, HCL, fun j => by rw [if_neg (Nat.not_lt_zero _)]; exact HCF.out j, rfl, rfl, HSS, hcol.below (Below.refl _ _).drew, hbw.drew⟩
      case round =>
        obtain ⟨c, cs2, svs2, sa2, sc2, hs2, lsd, hc, rfl, HK, HL2, HB2, HLD, rfl, HS2, hcol2, hb2⟩ := hrel
        have t3s := cell_below hb2 t3
        by_cases hlc : c < T.types.length
        · obtain ⟨b1, o1, rfl, hb1, y1⟩ := Ints.at (HTY.out.below hb2) hlc
          have hpos : 0 < lsd.length := by
            rw [← HLD.out, List.length_drop]
            have := HLL.out
            omega
          have hcap := HS2.out.2
          obtain ⟨b3, o3, ra, rc, rfl, hF2, hb3, y2, hcs, hfs⟩ := HS2.out.1.at hpos
          obtain ⟨lg, hlg⟩ : ∃ lg, lsd[0] = lg := ⟨_, rfl⟩
          have HLG : Hid (lsd[0] = lg) := hlg
          clear hlg
          rw [HLG.out] at y2 hcs
          rw [Nat.add_zero] at y2
          have HGD : Hid (ls.getD c [] = lg) := by
            show _ = _
            rw [← HLG.out]
            have hcl : c < ls.length := by have := HLL.out; omega
            simp only [← HLD.out, List.getElem_drop, Nat.add_zero, List.getD_eq_getElem?_getD, List.getElem?_eq_getElem hcl, Option.getD_some]
          have HMEM : Hid (lg ∈ T.segs) := by
            apply HLM.out
            have hm := List.getElem_mem hpos
            rw [HLG.out] at hm
            have hm2 : lg ∈ ls.drop c := by rw [HLD.out]; exact hm
            exact List.mem_of_mem_drop hm2
          have HVA : Hid (∀ X, Below w.heap.size w X → Calls Tryz.prog 89 #[.pointer (some ⟨s, 0, none⟩), .slice ra lg.length rc, .int .i64 T.types[c], .int .i64 (m : Int)] X fun e w' => ValsPost X pg (valsOf D lg T.types[c] m) e w') := fun X hb => HVL.out X ra rc lg _ m hb HMEM.out (hcs.below hb)
          have HKS : Hid (colK D ls T.types m cs (c + 1) = match valsOf D lg T.types[c] m with | .inr j => .inr j | .inl vs => .inl (cs2.set c (cs2.getD c [] ++ vs))) := by
            show _ = _
            simp only [colK, HK.out, HGD.out]
            rw [show T.types.getD c 0 = T.types[c] by simp [hlc]]
            cases valsOf D lg T.types[c] m <;> rfl
          have HVN : Hid (∀ vs, valsOf D lg T.types[c] m = .inl vs → vs.length = m) := fun vs hv => valsOf_len hv
          have y2w := cell_below hb2 y2
          clear y2 hcs hfs
          generalize valsOf D lg T.types[c] m = vr at *
          rcases vr with vs | j
          · have HVB : Hid (∀ X, Below w.heap.size w X → Calls Tryz.prog 89 #[.pointer (some ⟨s, 0, none⟩), .slice ra lg.length rc, .int .i64 T.types[c], .int .i64 (m : Int)] X fun e w' => Below X.heap.size X w' ∧ ∃ b, e = .returned (.tuple #[.slice (some ⟨b, 0, none⟩) vs.length vs.length, .nilIface]) ∧ X.heap.size ≤ b ∧ RowT w' b vs []) := HVA.out
            have HVL2 : Hid (vs.length = m) := HVN.out vs rfl
            have HK2 : Hid (colK D ls T.types m cs (c + 1) = .inl (cs2.set c (cs2.getD c [] ++ vs))) := HKS.out
            have hlc2 : c < cs2.length := by rw [HL2.out]; exact hlc
            obtain ⟨sv, hsv⟩ : ∃ sv, svAt svs2 c = sv := ⟨_, rfl⟩
            have HSV : Hid (svAt svs2 c = sv) := hsv
            obtain ⟨us, hus⟩ : ∃ us, cs2.getD c [] = us := ⟨_, rfl⟩
            have HUS : Hid (cs2.getD c [] = us) := hus
            have hul : us.length + vs.length ≤ 1000000 := by rw [← hus, HVL2.out]; have := HB2.out c; rw [if_neg (Nat.lt_irrefl _)] at this; omega
            have HUL : Hid (us.length + vs.length ≤ 1000000) := hul
            have HX1 : Hid (∀ X, ColT X w.heap.size w.heap.size svs2 cs2 → X.cell? ⟨w.heap.size, c, none⟩ = some sv ∧ X.frozen? ⟨w.heap.size, c, none⟩ = false ∧ OwnV X w.heap.size sv us) := fun X hx => by
              have := hx.row.cell (i := c) (by rw [hx.len]; exact hlc2)
              rw [hsv] at this
              have h2 := hx.own c hlc2
              rw [hsv, hus] at h2
              exact ⟨this, hx.row.frozen c, h2⟩
            have HX2 : Hid (∀ X Y, ColT X w.heap.size w.heap.size svs2 cs2 → X.grownBy Y sv.ownBlock → Y.cell? ⟨w.heap.size, c, none⟩ = some sv ∧ Y.frozen? ⟨w.heap.size, c, none⟩ = false) := fun X Y hx hg => by
              have hn := hx.ne c hlc2
              rw [hsv] at hn
              have hb := hg.block w.heap.size hx.row.lt (fun e => hn e.symm)
              obtain ⟨h1, h2, _⟩ := HX1.out X hx
              exact ⟨by rw [World.cell?_of_block hb]; exact h1, by rw [World.frozen?_of_block hb]; exact h2⟩
            have hit : ∃ o4, (o4 = o3 + 1 ∨ lsd.length ≤ 1) ∧ (if sc2 = 1 then (some ⟨b3, o3, none⟩ : Option Addr) else some ⟨b3, o3 + 1, none⟩) = some ⟨b3, o4, none⟩ := by
              by_cases e : sc2 = 1
              · exact ⟨o3, .inr (by omega), by rw [if_pos e]⟩
              · exact ⟨o3 + 1, .inl rfl, by rw [if_neg e]⟩
            obtain ⟨o4, HO4, hite⟩ := hit
            replace HO4 : Hid (o4 = o3 + 1 ∨ lsd.length ≤ 1) := HO4
            clear HVA HKS HK HVN hsv hus hul
            go_wp2_with (first | (go_at_call 89; refine (HVB.out _ hb2).mono ?_; rintro e W2 ⟨hbc, vb, rfl, hvb, hrow⟩; have hcol3 := hcol2.below hbc; obtain ⟨x1, x2, hown⟩ := HX1.out W2 hcol3; have hbw2 := below_then hb2 hbc) | (at_builtin; refine wpList_append_Vs (by rfl) _ _ (by rfl) w.heap.size _ _ (by rfl) hown _ _ vs (by rfl) hrow HUL.out hbw2.size ?_; intro sv' w3 q1 q2 q3; obtain ⟨x3, x4⟩ := HX2.out W2 w3 hcol3 q2; obtain ⟨a5, c5, hsv5, _⟩ := q1.vals; rw [List.length_append] at hsv5; subst hsv5))
            go_roundw
            case rel =>
              refine ⟨c + 1, cs2.set c (cs2.getD c [] ++ vs), svs2.set c (.slice a5 (us.length + vs.length) c5), some ⟨b3, o4, none⟩, sc2 - 1, hs2.drop 1, lsd.drop 1, by omega, by go_num, HK2, by show _ = _; rw [List.length_set]; exact HL2.out, fun j => ?_, by show _ = _; rw [← HLD.out, List.drop_drop], by simp, ⟨HS2.out.1.tail o4 HO4.out, by rw [List.length_drop]; omega⟩, hcol3.put hlc2 (by rw [HUS.out]; exact q1) (by rw [HSV.out]; exact q2) (by rw [HSV.out]; exact q3), (hbw2.grown q2 hbw2.size (fun g hg => (owns_block hown hg).1)).setCell (p := ⟨w.heap.size, c, none⟩) (Nat.le_refl _) _⟩
              rw [col_set hlc2]
              have hj := HB2.out j
              have hv := HVL2.out
              by_cases e : j = c
              · subst e
                rw [if_neg (Nat.lt_irrefl _)] at hj
                rw [if_pos rfl, if_pos (by omega), List.length_append]
                omega
              · rw [if_neg e]
                by_cases e2 : j < c
                · rw [if_pos e2] at hj; rw [if_pos (by omega)]; exact hj
                · rw [if_neg e2] at hj; rw [if_neg (by omega)]; exact hj
            case measure => simp [intOf]; omega
          · have HVB : Hid (∀ X, Below w.heap.size w X → Calls Tryz.prog 89 #[.pointer (some ⟨s, 0, none⟩), .slice ra lg.length rc, .int .i64 T.types[c], .int .i64 (m : Int)] X fun e w' => Below X.heap.size X w' ∧ ∃ b, e = .returned (.tuple #[.slice none 0 0, .iface 152 (.pointer (some ⟨b, 0, none⟩))]) ∧ X.heap.size ≤ b ∧ Chain w' (.iface 152 (.pointer (some ⟨b, 0, none⟩))) pg none (some (j : Int))) := HVA.out
            have HFJ : Hid ((colF D T.types T.segs (List.replicate T.types.length []) (cks T.rows T.group (ckN T.rows T.group))).1 = .inr j) := by
              show _ = _
              obtain ⟨zs, hzs⟩ := cks_prefix T.rows T.group (k + 1) _ HKL.out
              rw [hzs]
              refine colF_bad D T.types T.segs _ _ _ _ ?_
              rw [cks_succ, colF_snoc]
              simp only [colS, HC.out, colF_left, cks_length, HLS.out]
              refine colK_bad D ls T.types _ cs j (c + 1) _ ?_ hlc
              have := HKS.out
              rw [HM.out, HF.out] at this
              exact this
            clear HVA HKS HK HVN
            go_wp2_with (first | (go_at_call 89; refine (HVB.out _ hb2).mono ?_; rintro e W2 ⟨hbc, be, rfl, hbe, hch⟩))
            go_ret2
            rw [HFJ.out]
            exact ⟨below_then hb2 hbc, be, rfl, Nat.le_trans hb2.size hbe, hch⟩
        · obtain rfl : c = T.types.length := by omega
          go_wp2
          go_roundw
          case rel =>
            refine ⟨k + 1, f + T.group, cs2, svs2, sa2, sc2, hs2, lsd, HKL.out, by show _ = _; rw [Nat.succ_mul, HF.out], by omega, by go_num, ?_, HL2, fun j => ?_, ?_, rfl, HS2, hcol2, hb2⟩
            · show _ = _
              rw [cks_succ, colF_snoc]
              simp only [colS, HC.out, colF_left, cks_length, HLS.out]
              have := HK.out
              rw [HM.out, HF.out] at this
              exact this
            · have hj := HB2.out j
              have hm := HM.out
              split at hj <;> omega
            · show _ = _
              rw [← HLD.out, ← HLS.out, List.drop_drop, Nat.succ_mul]
          case measure => simp [intOf]; omega
    · obtain ⟨_, rfl⟩ : True ∧ k = ckN T.rows T.group := by
        refine ⟨trivial, ?_⟩
        rcases Nat.lt_or_ge k (ckN T.rows T.group) with h | h
        · have := ckN_lt hg h
          rw [← HF.out] at this
          omega
        · omega
      have hcl := HCL.out
      go_wp2
      go_ret2
      rw [HC.out]
      rw [← hcl]
      exact ⟨hbw, _, svs, rfl, hcol⟩

/-- columns.Len: how many rows there are. -/
theorem cLen_any (g n cap : Nat) (a : Option Addr) (l c : Nat) (w : World) (hn : 1 ≤ n) (h0 : w.cell? ⟨g, 0, none⟩ = some (.slice a l c)) :
    Calls Tryz.prog 90 #[.slice (some ⟨g, 0, none⟩) n cap] w fun e w' => e = .returned (.int .i64 (l : Int)) ∧ w' = w := by
  have q : ((n : Int) == 0) = false := by rw [beq_eq_false_iff_ne]; omega
  go_enter Tryz.func90, Tryz.ntmps90
  go_wp2
  go_ret
  exact ⟨rfl, rfl⟩

/-- The row with the number j of columns. -/
def rowAt (cs : List (List V)) (j : Nat) : List V := cs.map fun c => c.getD j zeroV
theorem rowAt_length (cs : List (List V)) (j : Nat) : (rowAt cs j).length = cs.length := by simp [rowAt]
theorem gridOf_at (n : Nat) (cs : List (List V)) (j : Nat) (hj : j < n) : (gridOf n cs)[j]? = some (rowAt cs j) := by simp [gridOf, rowAt, hj]
theorem row_put (L : List V) (c n : Nat) (hl : L.length = n) (hc : c < n) : (L.take c ++ List.replicate (n - c) zeroV).set c L[c] = L.take (c + 1) ++ List.replicate (n - (c + 1)) zeroV := by
  obtain ⟨d, hd⟩ : ∃ d, n - c = d + 1 := ⟨n - c - 1, by omega⟩
  have hd2 : n - (c + 1) = d := by omega
  rw [hd, hd2, List.replicate_succ, List.set_append_right _ _ (by rw [List.length_take]; omega)]
  rw [List.length_take, Nat.min_eq_left (by omega), Nat.sub_self, List.set_cons_zero, take_snoc L c (by omega), List.append_assoc]
  rfl

set_option maxRecDepth 100000 in
set_option maxHeartbeats 4000000 in
theorem cList_any (g cap : Nat) (svs : List Value) (cs : List (List V)) (n : Nat) (w : World) (hrw : w.rowIs g 37 svs.length (svAt svs)) (hl : svs.length = cs.length) (hv : ∀ i, i < cs.length → ∃ a c, svAt svs i = .slice a (cs.getD i []).length c ∧ Vals w a (cs.getD i [])) (hc : ∀ i, i < cs.length → (cs.getD i []).length = n) (h1 : 1 ≤ cs.length) (h2 : cs.length ≤ 1000) (hn : n ≤ 10000) :
    Calls Tryz.prog 61 #[.slice (some ⟨g, 0, none⟩) cs.length cap] w fun e w' => e = .returned (.slice (some ⟨w.heap.size, 0, none⟩) n n) ∧ (∃ bs, Grid w' w.heap.size w.heap.size bs (gridOf n cs)) ∧ Below w.heap.size w w' := by
  have hmo : ∀ W, (Instr.makeSlice 24 (.int .i64 (n : Int)) (.int .i64 (n : Int))).run Tryz.prog W = .ok (.slice (some ⟨W.heap.size, 0, none⟩) n n) (W.alloc (.cells (madeCells #[.slice none 0 0] n) 38)) :=
    fun W => run_make_row' 24 38 (.slice none 0 0) 24 (by kernel_rfl) info_Row rfl .i64 .i64 n (by omega) (by omega) W
  have hg0 := hrw.cell (i := 0) (by omega)
  obtain ⟨a00, c00, e00, _⟩ := hv 0 (by omega)
  rw [e00, hc 0 (by omega)] at hg0
  have hlen := cLen_any g cs.length cap a00 n c00 w h1 hg0
  have hgl := hrw.lt
  have HCV : Hid (∀ (W : World) (i k : Nat) (hi : i < cs.length) (hk : k < n), Below w.heap.size w W → ∃ b o rc, W.cell? ⟨g, i, none⟩ = some (.slice (some ⟨b, o, none⟩) n rc) ∧ b < w.heap.size ∧ VAt W b (o + k * 3) ((rowAt cs k)[i]'(by rw [rowAt_length]; exact hi))) := fun W i k hi hk hb => by
    obtain ⟨a, rc, e1, e2⟩ := hv i hi
    have hki : k < (cs.getD i []).length := by rw [hc i hi]; exact hk
    obtain ⟨b, o, rfl, hbl, hva⟩ := (e2.below hb).at hki
    obtain ⟨b', o', e3, hbl', _⟩ := e2.at hki
    simp at e3
    obtain ⟨rfl, rfl⟩ := e3
    refine ⟨b, o, rc, ?_, hbl', ?_⟩
    · rw [hb.cell (p := ⟨g, i, none⟩) hgl, hrw.cell (by omega), e1, hc i hi]
    · have e : cs.getD i [] = cs[i] := by rw [List.getD_eq_getElem?_getD, List.getElem?_eq_getElem hi]; rfl
      have hk' : k < cs[i].length := by rw [← e]; exact hki
      have e2 : (cs.getD i [])[k] = cs[i][k] := by simp only [e]
      have : (rowAt cs k)[i]'(by rw [rowAt_length]; exact hi) = (cs.getD i [])[k] := by
        rw [e2]
        simp only [rowAt, List.getElem_map]
        rw [List.getD_eq_getElem?_getD, List.getElem?_eq_getElem hk']
        rfl
      rw [this]
      exact hva
  clear hv hc hg0 e00 hrw hl
  go_enter Tryz.func61, Tryz.ntmps61
  go_wp2_with (first | (go_at_call 90; refine hlen.mono ?_; rintro e W1 ⟨rfl, hW1⟩; subst W1))
  clear hmo hlen
  go_loopw [12] (fun i wr => ∃ (k : Nat) (bs : List Nat), k ≤ n ∧ i = .int .i64 k ∧ Hid (bs.length = k) ∧ wr.rowIs w.heap.size 38 n (fun j => if j < k then .slice (some ⟨bs.getD j 0, 0, none⟩) cs.length cs.length else .slice none 0 0) ∧ Hid (∀ j b, bs[j]? = some b → RowT wr b (rowAt cs j) [] ∧ w.heap.size < b) ∧ Hid bs.Nodup ∧ Below w.heap.size w wr) (fun i _ => n - (intOf i).toNat)
  case atStart => exact ⟨0, [], by omega, rfl, rfl, (World.rowIs_made _ _ _ _).congr (fun j _ => by simp), fun j b h => by simp at h, List.nodup_nil, (Below.refl _ _).alloc (Nat.le_refl _) _⟩
  case round =>
    obtain ⟨k, bs, hk, rfl, HL, hrow, HR, HND, hbw⟩ := hrel
    obtain ⟨wo, hwo⟩ : ∃ wo, wo = wr := ⟨_, rfl⟩
    subst hwo
    have hlt0 := hrow.lt
    by_cases hlt : k < n
    · obtain ⟨C, hmk, hnew⟩ := make_Row cs.length h2 wo
      have c1 := hrow.cell hlt
      have c2 := hrow.frozen k
      simp only [Nat.lt_irrefl, if_false] at c1
      go_wp2
      clear hmk c1 c2
      have hbs := hbw.setCell (p := ⟨w.heap.size, k, none⟩) (Nat.le_refl _) (.slice (some ⟨wo.heap.size, 0, none⟩) cs.length cs.length)
      have hss : (wo.setCell ⟨w.heap.size, k, none⟩ (.slice (some ⟨wo.heap.size, 0, none⟩) cs.length cs.length)).heap.size = wo.heap.size := by simp [World.setCell]
      go_loopw [23] (fun i wr => ∃ c : Nat, c ≤ cs.length ∧ i = .int .i64 c ∧ RowT wr wo.heap.size ((rowAt cs k).take c ++ List.replicate (cs.length - c) zeroV) [] ∧ wr.rowIs w.heap.size 38 n (fun j => if j = k then .slice (some ⟨wo.heap.size, 0, none⟩) cs.length cs.length else if j < k then .slice (some ⟨bs.getD j 0, 0, none⟩) cs.length cs.length else .slice none 0 0) ∧ Hid (∀ x, x < wo.heap.size → x ≠ w.heap.size → wr.heap[x]? = wo.heap[x]?) ∧ wo.heap.size < wr.heap.size ∧ Below w.heap.size w wr) (fun i _ => cs.length - (intOf i).toNat)
      case atStart =>
        obtain ⟨C2, e1, e2⟩ := hnew
        rw [heap_alloc_new] at e1
        simp at e1
        subst e1
        refine ⟨0, Nat.zero_le _, rfl, ⟨C, ?_, by simpa using e2⟩, (hrow.set k _).alloc _, fun x hx hxn => ?_, by rw [World.size_alloc, hss]; omega, below_alloc hbs _⟩
        · have := heap_alloc_new (wo.setCell ⟨w.heap.size, k, none⟩ (.slice (some ⟨wo.heap.size, 0, none⟩) cs.length cs.length)) (.cells C 36)
          rw [hss] at this
          exact this
        · rw [Below.heap_alloc _ _ x (by rw [hss]; exact hx), Below.heap_setCell _ _ _ _ hxn]
      case round =>
        obtain ⟨c, hc, rfl, hrow2, hli, HOT, hsz, hbr⟩ := hrel
        have HLI : Hid (wr.rowIs w.heap.size 38 n (fun j => if j = k then .slice (some ⟨wo.heap.size, 0, none⟩) cs.length cs.length else if j < k then .slice (some ⟨bs.getD j 0, 0, none⟩) cs.length cs.length else .slice none 0 0)) := hli
        by_cases hlc : c < cs.length
        · obtain ⟨b2, o2, rc, x1, hb2, z1, z2, z3⟩ := HCV.out wr c k hlc hlt hbr
          have hlk := hli.cell hlt
          simp only [if_true] at hlk
          have hrl : c < (rowAt cs k).length := by rw [rowAt_length]; exact hlc
          have hlen : ((rowAt cs k).take c ++ List.replicate (cs.length - c) zeroV).length = cs.length := by
            rw [List.length_append, List.length_take, rowAt_length, List.length_replicate]; omega
          obtain ⟨old, ⟨c0, e0⟩, ⟨c1, e1⟩, ⟨c2, e2⟩, hset⟩ := hrow2.put (rowAt cs k)[c] c (by rw [hlen]; exact hlc)
          rw [row_put (rowAt cs k) c cs.length (rowAt_length _ _) hlc] at hset
          generalize (rowAt cs k)[c] = v at z1 z2 z3 hset
          have HSET : Hid (RowT (((wr.setCell ⟨wo.heap.size, c * 3, none⟩ (.int .i64 v.k)).setCell ⟨wo.heap.size, c * 3 + 1, none⟩ (.int .i64 v.n)).setCell ⟨wo.heap.size, c * 3 + 2, none⟩ (.string v.s)) wo.heap.size ((rowAt cs k).take (c + 1) ++ List.replicate (cs.length - (c + 1)) zeroV) []) := hset
          have hwo := hbw.size
          clear hset hlen hrl hli hrow hnew hbs hss
          go_wp2
          refine wp_region_held_drew (S := fun X => X.cell? ⟨w.heap.size, k, none⟩ = some (.slice (some ⟨wo.heap.size, 0, none⟩) cs.length cs.length) ∧ X.cell? ⟨b2, o2 + k * 3, none⟩ = some (.int .i64 v.k) ∧ X.cell? ⟨b2, o2 + k * 3 + 1, none⟩ = some (.int .i64 v.n) ∧ X.cell? ⟨b2, o2 + k * 3 + 2, none⟩ = some (.string v.s)) (by kernel_rfl) ⟨hlk, z1, z2, z3⟩ (fun hH => ?_)
          refine wpAnyH_take (i := 0) (v := ?_) rfl (by kernel_rfl) (by kernel_rfl) (by kernel_rfl) (fun _ _ _ h => h) (Or.inl ⟨by rfl, ?_⟩) hH ?_
          rotate_left 1
          · intro w hSw; (try dsimp only at hSw); go_simp; try rfl
          simp only [Act.put, List.getElem_toArray, List.getElem_cons_zero, List.setIfInBounds_toArray, List.set_cons_zero, List.set_cons_succ]
          refine wpAnyH_take (i := 1) (v := ?_) rfl (by kernel_rfl) (by kernel_rfl) (by kernel_rfl) (fun _ _ _ h => h) (Or.inl ⟨by rfl, ?_⟩) hH ?_
          rotate_left 1
          · intro w hSw; (try dsimp only at hSw); go_simp; try rfl
          simp only [Act.put, List.getElem_toArray, List.getElem_cons_zero, List.getElem_cons_succ, List.setIfInBounds_toArray, List.set_cons_zero, List.set_cons_succ]
          refine wpAnyH_take (i := 2) (v := ?_) rfl (by kernel_rfl) (by kernel_rfl) (by kernel_rfl) (fun _ _ _ h => h) (Or.inl ⟨by rfl, ?_⟩) hH ?_
          rotate_left 1
          · intro w hSw; (try dsimp only at hSw); go_simp; try rfl
          simp only [Act.put, List.getElem_toArray, List.getElem_cons_zero, List.getElem_cons_succ, List.setIfInBounds_toArray, List.set_cons_zero, List.set_cons_succ]
          refine wpAnyH_take (i := 3) (v := ?_) rfl (by kernel_rfl) (by kernel_rfl) (by kernel_rfl) (fun _ _ _ h => h) (Or.inl ⟨by rfl, ?_⟩) hH ?_
          rotate_left 1
          · intro w hSw; (try dsimp only at hSw); go_simp; try rfl
          simp only [Act.put, List.getElem_toArray, List.getElem_cons_zero, List.getElem_cons_succ, List.setIfInBounds_toArray, List.set_cons_zero, List.set_cons_succ]
          refine wpAnyH_take (i := 4) (v := ?_) rfl (by kernel_rfl) (by kernel_rfl) (by kernel_rfl) (fun _ _ _ h => h) (Or.inl ⟨by rfl, ?_⟩) hH ?_
          rotate_left 1
          · intro w hSw; (try dsimp only at hSw); go_simp; try rfl
          simp only [Act.put, List.getElem_toArray, List.getElem_cons_zero, List.getElem_cons_succ, List.setIfInBounds_toArray, List.set_cons_zero, List.set_cons_succ]
          refine wpAnyH_take (i := 5) (v := ?_) rfl (by kernel_rfl) (by kernel_rfl) (by kernel_rfl) (fun _ _ _ h => h) (Or.inl ⟨by rfl, ?_⟩) hH ?_
          rotate_left 1
          · intro w hSw; (try dsimp only at hSw); go_simp; try rfl
          simp only [Act.put, List.getElem_toArray, List.getElem_cons_zero, List.getElem_cons_succ, List.setIfInBounds_toArray, List.set_cons_zero, List.set_cons_succ]
          refine wpAnyH_take (i := 6) (v := ?_) rfl (by kernel_rfl) (by kernel_rfl) (by kernel_rfl) (fun _ _ _ h => h) (Or.inl ⟨by rfl, ?_⟩) hH ?_
          rotate_left 1
          · intro w hSw; (try dsimp only at hSw); go_simp; try rfl
          simp only [Act.put, List.getElem_toArray, List.getElem_cons_zero, List.getElem_cons_succ, List.setIfInBounds_toArray, List.set_cons_zero, List.set_cons_succ]
          refine wpAnyH_take (i := 7) (v := ?_) rfl (by kernel_rfl) (by kernel_rfl) (by kernel_rfl) (fun _ _ _ h => h) (Or.inl ⟨by rfl, ?_⟩) hH ?_
          rotate_left 1
          · intro w hSw; (try dsimp only at hSw); go_simp; try rfl
          simp only [Act.put, List.getElem_toArray, List.getElem_cons_zero, List.getElem_cons_succ, List.setIfInBounds_toArray, List.set_cons_zero, List.set_cons_succ]
          refine wpAnyH_take (i := 8) (v := ?_) rfl (by kernel_rfl) (by kernel_rfl) (by kernel_rfl) (fun _ _ _ h => h) (Or.inl ⟨by rfl, ?_⟩) hH ?_
          rotate_left 1
          · intro w hSw; (try dsimp only at hSw); go_simp; try rfl
          simp only [Act.put, List.getElem_toArray, List.getElem_cons_zero, List.getElem_cons_succ, List.setIfInBounds_toArray, List.set_cons_zero, List.set_cons_succ]
          refine wpAnyH_take (i := 9) (v := ?_) rfl (by kernel_rfl) (by kernel_rfl) (by kernel_rfl) (fun _ _ _ h => h) (Or.inl ⟨by rfl, ?_⟩) hH ?_
          rotate_left 1
          · intro w hSw; (try dsimp only at hSw); go_simp; try rfl
          simp only [Act.put, List.getElem_toArray, List.getElem_cons_zero, List.getElem_cons_succ, List.setIfInBounds_toArray, List.set_cons_zero, List.set_cons_succ]
          refine wpAnyH_ready (rs := [10]) (by kernel_rfl) (by simp) (AllReadyH.cons rfl (fun K hK => ?_) AllReadyH.nil)
          go_simp
          have hoth : ∀ (b o : Nat) (u : Value), b ≠ wo.heap.size → wr.cell? ⟨b, o, none⟩ = some u → (((wr.setCell ⟨wo.heap.size, c * 3, none⟩ (.int .i64 v.k)).setCell ⟨wo.heap.size, c * 3 + 1, none⟩ (.int .i64 v.n)).setCell ⟨wo.heap.size, c * 3 + 2, none⟩ (.string v.s)).cell? ⟨b, o, none⟩ = some u := fun b o u hb hv => by
            rw [World.cell?_setCell_other _ _ _ _ (by first | (simp; done) | (simp; omega)), World.cell?_setCell_other _ _ _ _ (by first | (simp; done) | (simp; omega)), World.cell?_setCell_other _ _ _ _ (by first | (simp; done) | (simp; omega))]; exact hv
          refine hK.out _ _ ⟨hoth _ _ _ (by omega) hlk, hoth _ _ _ (by omega) z1, hoth _ _ _ (by omega) z2, hoth _ _ _ (by omega) z3⟩ (fun hH2 => ?_)
          clear hK K hoth hH hH2 c0 e0 c1 e1 c2 e2
          refine wpAnyH_done (by kernel_rfl) ?_ _
          have hrow5 : Hid ((((wr.setCell ⟨wo.heap.size, c * 3, none⟩ (.int .i64 v.k)).setCell ⟨wo.heap.size, c * 3 + 1, none⟩ (.int .i64 v.n)).setCell ⟨wo.heap.size, c * 3 + 2, none⟩ (.string v.s)).rowIs w.heap.size 38 n (fun j => if j = k then .slice (some ⟨wo.heap.size, 0, none⟩) cs.length cs.length else if j < k then .slice (some ⟨bs.getD j 0, 0, none⟩) cs.length cs.length else .slice none 0 0)) :=
            ((HLI.out.setOther (a := ⟨wo.heap.size, c * 3, none⟩) (by show w.heap.size ≠ wo.heap.size; omega) _).setOther (a := ⟨wo.heap.size, c * 3 + 1, none⟩) (by show w.heap.size ≠ wo.heap.size; omega) _).setOther (a := ⟨wo.heap.size, c * 3 + 2, none⟩) (by show w.heap.size ≠ wo.heap.size; omega) _
          have hbf : Below w.heap.size w (((wr.setCell ⟨wo.heap.size, c * 3, none⟩ (.int .i64 v.k)).setCell ⟨wo.heap.size, c * 3 + 1, none⟩ (.int .i64 v.n)).setCell ⟨wo.heap.size, c * 3 + 2, none⟩ (.string v.s)) :=
            ((hbr.setCell (p := ⟨wo.heap.size, c * 3, none⟩) hwo _).setCell (p := ⟨wo.heap.size, c * 3 + 1, none⟩) hwo _).setCell (p := ⟨wo.heap.size, c * 3 + 2, none⟩) hwo _
          have HO5 : Hid (∀ x, x < wo.heap.size → x ≠ w.heap.size → (((wr.setCell ⟨wo.heap.size, c * 3, none⟩ (.int .i64 v.k)).setCell ⟨wo.heap.size, c * 3 + 1, none⟩ (.int .i64 v.n)).setCell ⟨wo.heap.size, c * 3 + 2, none⟩ (.string v.s)).heap[x]? = wo.heap[x]?) := fun x hx hxn => by
            rw [Below.heap_setCell _ _ _ _ (by show x ≠ wo.heap.size; omega), Below.heap_setCell _ _ _ _ (by show x ≠ wo.heap.size; omega), Below.heap_setCell _ _ _ _ (by show x ≠ wo.heap.size; omega)]; exact HOT.out x hx hxn
          have hs5 : wo.heap.size < (((wr.setCell ⟨wo.heap.size, c * 3, none⟩ (.int .i64 v.k)).setCell ⟨wo.heap.size, c * 3 + 1, none⟩ (.int .i64 v.n)).setCell ⟨wo.heap.size, c * 3 + 2, none⟩ (.string v.s)).heap.size := by simp [World.setCell]; exact hsz
          generalize ((wr.setCell ⟨wo.heap.size, c * 3, none⟩ (.int .i64 v.k)).setCell ⟨wo.heap.size, c * 3 + 1, none⟩ (.int .i64 v.n)).setCell ⟨wo.heap.size, c * 3 + 2, none⟩ (.string v.s) = w5 at *
          go_wp2
          go_roundw
          case rel => exact ⟨c + 1, by omega, by go_num, HSET.out, hrow5.out, HO5.out, hs5, hbf.drew⟩
          case measure => simp [intOf]; omega
        · obtain rfl : c = cs.length := by omega
          rw [Nat.sub_self, List.replicate_zero, List.append_nil, List.take_of_length_le (by rw [rowAt_length]; exact Nat.le_refl _)] at hrow2
          have HR2 : Hid (RowT wr wo.heap.size (rowAt cs k) []) := hrow2
          have hwo := hbw.size
          clear hrow2 hli hrow hnew hbs hss
          go_wp2
          go_roundw
          case rel =>
            refine ⟨k + 1, bs ++ [wo.heap.size], by omega, by go_num, by show _ = _; rw [List.length_append, HL.out]; rfl, HLI.out.congr fun j hj => ?_, fun j b hb => ?_, ?_, hbr⟩
            · have hl := HL.out
              by_cases e : j = k
              · subst e
                simp [hl]
              · by_cases h1 : j < k
                · have h2 : j < k + 1 := by omega
                  simp [e, h1, h2, List.getElem?_append_left (show j < bs.length by omega)]
                · have h2 : ¬ j < k + 1 := by omega
                  simp [e, h1, h2]
            · by_cases e : j < bs.length
              · rw [List.getElem?_append_left e] at hb
                obtain ⟨r1, r2⟩ := HR.out j b hb
                exact ⟨r1.of_block (HOT.out b r1.lt (by omega)), r2⟩
              · have hl := HL.out
                have hj : j = k := by
                  have := (List.getElem?_eq_some_iff.1 hb).1
                  simp at this
                  omega
                subst hj
                rw [← hl, List.getElem?_append_right (Nat.le_refl _), Nat.sub_self] at hb
                simp at hb
                subst hb
                exact ⟨HR2.out, by omega⟩
            · show (bs ++ [wo.heap.size]).Nodup
              rw [List.nodup_append]
              refine ⟨HND.out, by simp, fun a ha b hb => ?_⟩
              simp at hb
              subst hb
              obtain ⟨j, hj, rfl⟩ := List.getElem_of_mem ha
              have := (HR.out j _ (List.getElem?_eq_getElem hj)).1.lt
              omega
          case measure => simp [intOf]; omega
    · obtain rfl : k = n := by omega
      go_wp2
      go_ret
      refine ⟨rfl, ⟨bs, by rw [gridOf_length]; exact HL.out, ?_, ?_, ⟨Nat.le_refl _, fun b hb => ?_⟩, HND.out⟩, hbw⟩
      · rw [gridOf_length]
        refine hrow.congr fun j hj => ?_
        rw [if_pos hj]
        unfold gridV
        rw [List.getD_eq_getElem?_getD (l := gridOf k cs), gridOf_at k cs j hj]
        simp only [Option.getD_some, rowAt_length]
      · intro i b r hi hr
        have hil : i < k := by
          have := (List.getElem?_eq_some_iff.1 hr).1
          rw [gridOf_length] at this
          exact this
        rw [gridOf_at k cs i hil] at hr
        simp at hr
        subst hr
        exact (HR.out i b hi).1
      · obtain ⟨j, hj, rfl⟩ := List.getElem_of_mem hb
        have := (HR.out j _ (List.getElem?_eq_getElem hj)).2
        omega
end Go.Proofs.YtfgklnenpichcaaGreatDoor
