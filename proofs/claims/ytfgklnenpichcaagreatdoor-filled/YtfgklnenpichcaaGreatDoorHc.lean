/- The statements' own helper: a table out of a raw one. -/
import Derived.Test.YtfgklnenpichcaaGreatDoorHb
import Derived.Test.YtfgklnenpichcaaGreatDoorTe
namespace Go.Proofs.YtfgklnenpichcaaGreatDoor
open Go.RowKit

/-- A row as it must be. -/
def rowOk (ts : List Int) (r : List V) : Prop := r.length = ts.length ∧ ∀ j (hj : j < r.length), okB (ts.getD j 0) r[j].k r[j].n r[j].s = true ∧ inI64 r[j].n
theorem zero_ok (t : Int) : okB t zeroV.k zeroV.n zeroV.s = true := by simp [okB, zeroV]
theorem zero_in : inI64 zeroV.n := by simp [inI64, zeroV]

/-- A table in the making: its record in block tb, its rows, each in a block of its own. -/
structure TabW (w : World) (tb : Nat) (name : ByteArray) (tsv rv : Value) (bs : List Nat) (rs : List (List V)) : Prop where
  cells : w.heap[tb]? = some (.cells #[.string name, tsv, rv] 26 (0, 0))
  own : OwnC w (tb + 1) 38 rv (List.zipWith gridV bs rs)
  len : bs.length = rs.length
  rows : ∀ (i : Nat) b r, bs[i]? = some b → rs[i]? = some r → RowT w b r []
  new : ∀ b ∈ bs, tb < b ∧ rv.ownBlock ≠ some b
theorem TabW.lt {w : World} {tb : Nat} {name : ByteArray} {tsv rv : Value} {bs : List Nat} {rs : List (List V)} (h : TabW w tb name tsv rv bs rs) : tb < w.heap.size := lt_of_heap h.cells
theorem TabW.below {w w' : World} {tb : Nat} {name : ByteArray} {tsv rv : Value} {bs : List Nat} {rs : List (List V)} (h : TabW w tb name tsv rv bs rs) (hb : Below w.heap.size w w') : TabW w' tb name tsv rv bs rs :=
  ⟨(hb.block _ h.lt).trans h.cells, h.own.below hb, h.len, fun i b r hi hr => (h.rows i b r hi hr).of_block (hb.block _ (h.rows i b r hi hr).lt), h.new⟩
theorem zipWith_grid (bs : List Nat) (rs : List (List V)) (h : bs.length = rs.length) (b : Nat) (r : List V) : List.zipWith gridV (bs ++ [b]) (rs ++ [r]) = List.zipWith gridV bs rs ++ [gridV b r] := by
  rw [List.zipWith_append h]; rfl

/-- One row more. -/
theorem TabW.more {w w4 : World} {tb : Nat} {name : ByteArray} {tsv rv rv' : Value} {bs : List Nat} {rs : List (List V)} (h : TabW w tb name tsv rv bs rs) (rb : Nat) (r : List V) (hr : RowT w rb r []) (hrb : tb < rb) (hne : rv.ownBlock ≠ some rb) (o : Obj)
    (hown : OwnC w4 (tb + 1) 38 rv' (List.zipWith gridV bs rs ++ [gridV rb r])) (hg : (w.alloc o).grownBy w4 rv.ownBlock) (hb : rv'.ownBlock = rv.ownBlock ∨ rv'.ownBlock = some (w.alloc o).heap.size) :
    TabW (w4.setCell ⟨tb, 2, none⟩ rv') tb name tsv rv' (bs ++ [rb]) (rs ++ [r]) := by
  have hst : ∀ k, k < w.heap.size → rv.ownBlock ≠ some k → w4.heap[k]? = w.heap[k]? := fun k hk hn => (hg.block k (by simp; omega) (Ne.symm hn)).trans (Below.heap_alloc w o k hk)
  have htb : w4.heap[tb]? = some (.cells #[.string name, tsv, rv] 26 (0, 0)) := (hst tb h.lt fun e => by have := (owns_block h.own e).1; omega).trans h.cells
  have hnew : ∀ b, b < w.heap.size → rv.ownBlock ≠ some b → rv'.ownBlock ≠ some b := fun b hb' hn e => by
    rcases hb with e2 | e2
    · exact hn (e2 ▸ e)
    · rw [e2] at e; simp at e; omega
  refine ⟨by have := heap_set htb 2 rv'; simpa using this, ?_, by simp [h.len], ?_, ?_⟩
  · rw [zipWith_grid bs rs h.len]
    exact own_of_block hown fun g hg' => Below.heap_setCell _ _ _ _ (by have := (owns_block hown hg').1; simp; omega)
  · intro i b q hi hq
    rcases get_snoc hi with ⟨hl, hi⟩ | ⟨hl, rfl⟩
    · rw [List.getElem?_append_left (by rw [← h.len]; exact hl)] at hq
      have hrow := h.rows i b q hi hq
      have hnb := h.new b (List.mem_of_getElem? hi)
      exact (hrow.of_block (hst b hrow.lt hnb.2)).of_block (Below.heap_setCell _ _ _ _ (by simp; omega))
    · rw [hl, h.len, List.getElem?_append_right (Nat.le_refl _)] at hq
      simp at hq
      subst hq
      exact (hr.of_block (hst rb hr.lt hne)).of_block (Below.heap_setCell _ _ _ _ (by simp; omega))
  · intro b hb'
    rcases List.mem_append.1 hb' with hm | hm
    · obtain ⟨i, hi, e⟩ := List.getElem_of_mem hm
      have hrow := h.rows i b (rs[i]'(by rw [← h.len]; exact hi)) (by rw [← e]; simp [hi]) (by simp [show i < rs.length by rw [← h.len]; exact hi])
      exact ⟨(h.new b hm).1, hnew b hrow.lt (h.new b hm).2⟩
    · simp at hm
      subst hm
      exact ⟨hrb, hnew b hr.lt hne⟩

theorem zip_row (bs : List Nat) : ∀ rs : List (List V), List.zipWith rowV (List.zipWith (fun b (r : List V) => ((some ⟨b, 0, none⟩ : Option Addr), r.length)) bs rs) rs = List.zipWith gridV bs rs := by
  induction bs with
  | nil => intro rs; simp
  | cons b bs ih =>
    intro rs
    cases rs with
    | nil => simp
    | cons r rs => simp [rowV, gridV, ih rs]
theorem zip_get (bs : List Nat) (rs : List (List V)) (h : bs.length = rs.length) {i : Nat} {x : Option Addr × Nat} (hx : (List.zipWith (fun b (r : List V) => ((some ⟨b, 0, none⟩ : Option Addr), r.length)) bs rs)[i]? = some x) : ∃ b, bs[i]? = some b ∧ x.1 = some ⟨b, 0, none⟩ := by
  have hi : i < bs.length := by
    rcases Nat.lt_or_ge i bs.length with h' | h'
    · exact h'
    · rw [List.getElem?_eq_none (by simp; omega)] at hx; simp at hx
  have hi2 : i < rs.length := by omega
  rw [List.getElem?_zipWith, List.getElem?_eq_getElem hi, List.getElem?_eq_getElem hi2] at hx
  simp at hx
  exact ⟨bs[i], by simp [hi], by rw [← hx]⟩
/-- The rows of a table in the making, seen when only block q has turned. -/
theorem TabW.out {w w' : World} {tb : Nat} {name : ByteArray} {tsv : Value} {a : Option Addr} {n c q : Nat} {bs : List Nat} {rs : List (List V)} (h : TabW w tb name tsv (.slice a n c) bs rs) (hs : w.heap.size ≤ w'.heap.size) (hq : q ≤ tb) (hk : ∀ k, k ≠ q → w'.heap[k]? = w.heap[k]?) :
    RowsAt w' a (List.zipWith (fun b (r : List V) => ((some ⟨b, 0, none⟩ : Option Addr), r.length)) bs rs) rs ∧ rs.length ≤ c ∧ (∀ b o, a = some ⟨b, o, none⟩ → tb < b) ∧ ∀ b ∈ bs, tb < b := by
  have hab : ∀ b o, a = some ⟨b, o, none⟩ → tb < b := fun b o hb => by have := (owns_block h.own ((own_slice h.own).2 b o hb)).1; omega
  refine ⟨⟨by simp [h.len], ?_, fun i x r hx hr => ?_⟩, ?_, hab, fun b hb => (h.new b hb).1⟩
  · rw [zip_row]
    exact (own_slice h.own).1.of_block hs fun b o hb _ => hk b (by have := hab b o hb; omega)
  · obtain ⟨b, hb, hx1⟩ := zip_get bs rs h.len hx
    rw [hx1]
    exact ((h.rows i b r hb hr).of_block (hk b (by have := (h.new b (List.mem_of_getElem? hb)).1; omega))).vals
  · have hl : (List.zipWith gridV bs rs).length = rs.length := by simp [h.len]
    rcases h.own.2 with ⟨hv, h0⟩ | ⟨g, cap, cur, hv, _, _, hle, _⟩
    · rw [hl] at h0; omega
    · simp at hv
      rw [hl] at hle
      omega

/-- What table answers: a table's value, its types and rows in new memory. -/
structure TabNew (w w' : World) (name : ByteArray) (ts : List Int) (rs : List (List V)) (v : Value) : Prop where
  val : ∃ ta tc ra rc bs, v = .agg #[.string name, .slice ta ts.length tc, .slice ra rs.length rc] ∧ Ints w' ta ts ∧ RowsAt w' ra (List.zipWith (fun b (r : List V) => ((some ⟨b, 0, none⟩ : Option Addr), r.length)) bs rs) rs ∧ rs.length ≤ rc ∧ (∀ b o, ta = some ⟨b, o, none⟩ → w.heap.size ≤ b) ∧ (∀ b o, ra = some ⟨b, o, none⟩ → w.heap.size ≤ b) ∧ ∀ b ∈ bs, w.heap.size ≤ b
  types : (1 ≤ ts.length ∧ ts.length ≤ 6) ∧ ∀ t ∈ ts, tOk t
  rows : ∀ r ∈ rs, rowOk ts r

set_option maxRecDepth 100000 in
set_option maxHeartbeats 2000000 in
theorem ktable_any (rn name : ByteArray) (at_ ar : Option Addr) (ct cr M : Nat) (ns : List Int) (xs : List (Option Addr × Nat)) (raws : List (List V)) (w : World) (hM : M ≤ 200) (hn : ns.length ≤ maxLen) (hrr : ∀ r ∈ raws, r.length ≤ maxLen) (hin : ∀ r ∈ raws, ∀ v ∈ r, inI64 v.k ∧ inI64 v.n) (hx : Ints w at_ ns) (hy : RowsAt w ar xs raws) :
    Calls Tryz.prog 9 #[.agg #[.string rn, .slice at_ ns.length ct, .slice ar raws.length cr], .string name, .int .i64 (M : Int)] w fun e w' => ∃ ts rs v, e = .returned v ∧ TabNew w w' name ts rs v ∧ rs.length ≤ M ∧ Below w.heap.size w w' := by
  have hB0 : Below w.heap.size w ((w.alloc (.cells #[.string rn, .slice at_ ns.length ct, .slice ar raws.length cr] 26)).alloc (.cells #[.string ⟨#[]⟩, .slice none 0 0, .slice none 0 0] 26)) := ((Below.refl _ _).alloc (Nat.le_refl _) _).alloc (by simp) _
  have hty := ktypes_any at_ ct ns _ hn (hx.below hB0)
  unfold maxLen at hn
  have HRR : Hid (∀ r ∈ raws, r.length ≤ maxLen) := hrr
  have HIN : Hid (∀ r ∈ raws, ∀ v ∈ r, inI64 v.k ∧ inI64 v.n) := hin
  clear hrr hin
  go_enter Tryz.func9, Tryz.ntmps9
  go_wp2_with (go_at_call 27; refine hty.mono ?_; rintro e w1 ⟨ts, tsv, rfl, htown, htl, hto, hbt⟩; obtain ⟨ta, tc, htv, htc⟩ := htown.cells; rw [List.length_map] at htv; subst htv)
  have hw1 := hbt.size
  simp at hw1
  have hb01 : Below w.heap.size w w1 := hB0.trans (hbt.mono (by simp; omega))
  have raw0 : ∀ (X : World), Below w1.heap.size w1 X → X.cell? ⟨w.heap.size, 2, none⟩ = some (.slice ar raws.length cr) := fun X hX => by
    rw [hX.cell (p := ⟨w.heap.size, 2, none⟩) (by simp; omega), hbt.cell (p := ⟨w.heap.size, 2, none⟩) (by simp; omega)]
    simp
  have HRAW : Hid (∀ (X : World), Below w1.heap.size w1 X → X.cell? ⟨w.heap.size, 2, none⟩ = some (.slice ar raws.length cr)) := raw0
  have htno : ∀ b o, ta = some ⟨b, o, none⟩ → w.heap.size + 2 ≤ b ∧ b < w1.heap.size := fun b o hb => by
    have := owns_block htown ((own_slice htown).2 b o hb)
    simp at this
    omega
  have HTN : Hid (∀ b o, ta = some ⟨b, o, none⟩ → w.heap.size + 2 ≤ b ∧ b < w1.heap.size) := htno
  have HTO : Hid (∀ t ∈ ts, tOk t) := hto
  clear raw0 htno hto hty
  have hstart : TabW (w1.alloc (.cells #[.string name, .slice ta ts.length tc, .slice none 0 0] 26)) w1.heap.size name (.slice ta ts.length tc) (.slice none 0 0) [] [] :=
    ⟨heap_alloc_new _ _, OwnC.nil _ _ _, rfl, fun i b r hi => by simp at hi, fun b hb => by simp at hb⟩
  go_loopw [8] (fun i wr => ∃ (k : Nat) (rv : Value) (bs : List Nat) (rs : List (List V)), k ≤ raws.length ∧ k ≤ M ∧ i = .int .i64 k ∧ rs.length ≤ k ∧ Hid (∀ r ∈ rs, rowOk ts r) ∧ TabW wr w1.heap.size name (.slice ta ts.length tc) rv bs rs ∧ Below w1.heap.size w1 wr) (fun i _ => M - (intOf i).toNat)
  case atStart => exact ⟨0, _, [], [], Nat.zero_le _, Nat.zero_le _, rfl, Nat.le_refl _, by intro r hr; simp at hr, hstart, (Below.refl _ _).alloc (Nat.le_refl _) _⟩
  case round =>
    rename_i i
    obtain ⟨k, rv, bs, rs, hk, hkM, rfl, hrk, HRO, hT, hbw⟩ := hrel
    obtain ⟨wo, hwo⟩ : ∃ wo, wo = wr := ⟨_, rfl⟩
    subst hwo
    have c2 := HRAW.out wo hbw
    have ctt : wo.cell? ⟨w1.heap.size, 1, none⟩ = some (.slice ta ts.length tc) := by simp [World.cell?, hT.cells]
    have ctr : wo.cell? ⟨w1.heap.size, 2, none⟩ = some rv := by simp [World.cell?, hT.cells]
    have hb0w := hb01.trans (hbw.mono (by omega))
    obtain ⟨ra0, rc0, hrv, _⟩ := hT.own.cells
    have hzl : (List.zipWith gridV bs rs).length = rs.length := by simp [hT.len]
    rw [hzl] at hrv
    have HZL : Hid ((List.zipWith gridV bs rs).length = rs.length) := hzl
    clear hzl
    subst hrv
    by_cases hlt : k < raws.length ∧ k < M
    · obtain ⟨h1, h2⟩ := hlt
      obtain ⟨C, hmk, hnew⟩ := make_Row ts.length (by omega) wo
      go_wp2
      clear hmk
      go_loopw [10] (fun i wr => ∃ (c : Nat) (L : List V), c ≤ ts.length ∧ i = .int .i64 c ∧ Hid (L.length = c ∧ ∀ j (hj : j < L.length), okB (ts.getD j 0) L[j].k L[j].n L[j].s = true ∧ inI64 L[j].n) ∧ RowT wr wo.heap.size (L ++ List.replicate (ts.length - c) zeroV) [] ∧ Below wo.heap.size wo wr) (fun i _ => ts.length - (intOf i).toNat)
      case atStart => exact ⟨0, [], Nat.zero_le _, rfl, ⟨rfl, fun j hj => by simp at hj⟩, by simpa using hnew, (Below.refl _ _).alloc (Nat.le_refl _) _⟩
      case round =>
        rename_i i2
        obtain ⟨c, L, hc, rfl, HL, hrow, hbc⟩ := hrel
        have hbwc := hbw.trans (hbc.mono hbw.size)
        have hb0c := hb01.trans (hbwc.mono (by omega))
        have d2 := HRAW.out wr hbwc
        have dtt : wr.cell? ⟨w1.heap.size, 1, none⟩ = some (.slice ta ts.length tc) := by rw [hbc.cell (p := ⟨w1.heap.size, 1, none⟩) hT.lt]; exact ctt
        obtain ⟨b1, o1, ra, rc, har, hb1, x1w, hvw⟩ := hy.at h1
        subst har
        have x1 := cell_below hb0c x1w
        by_cases hlc : c < ts.length
        · obtain ⟨bt, ot, hta, hbt2, y1⟩ := Ints.at (htc.below hbwc) hlc
          subst hta
          by_cases hcl : c < raws[k].length
          · obtain ⟨b2, o2, hra, hb2, z1w, z2w, z3w⟩ := hvw.at hcl
            subst hra
            have z1 := cell_below hb0c z1w
            have z2 := cell_below hb0c z2w
            have z3 := cell_below hb0c z3w
            have hbtb := HTN.out bt ot rfl
            have hwo := hbw.size
            have hTlt := hT.lt
            have hwr := hbc.size
            have hzi := HIN.out _ (List.getElem_mem h1) _ (List.getElem_mem hcl)
            have HKV : Hid (∀ W, Calls Tryz.prog 28 #[raws[k][c].val, .int .i64 ts[c]] W fun e w' => (∃ u : V, e = .returned u.val ∧ okB ts[c] u.k u.n u.s = true ∧ inI64 u.n) ∧ Below W.heap.size W w') := fun W => kvalue_any raws[k][c] ts[c] W (HTO.out _ (List.getElem_mem hlc)) hzi.1 hzi.2
            have hlen : (L ++ List.replicate (ts.length - c) zeroV).length = ts.length := by rw [List.length_append, HL.out.1, List.length_replicate]; omega
            have HLEN : Hid ((L ++ List.replicate (ts.length - c) zeroV).length = ts.length) := hlen
            clear hlen
            go_wp2
            refine wp_region_held_drew (S := fun X => X.cell? ⟨w.heap.size, 2, none⟩ = some (.slice (some ⟨b1, o1, none⟩) raws.length cr) ∧ X.cell? ⟨b1, o1 + k, none⟩ = some (.slice (some ⟨b2, o2, none⟩) raws[k].length rc) ∧ X.cell? ⟨b2, o2 + c * 3, none⟩ = some (.int .i64 raws[k][c].k) ∧ X.cell? ⟨b2, o2 + c * 3 + 1, none⟩ = some (.int .i64 raws[k][c].n) ∧ X.cell? ⟨b2, o2 + c * 3 + 2, none⟩ = some (.string raws[k][c].s) ∧ X.cell? ⟨w1.heap.size, 1, none⟩ = some (.slice (some ⟨bt, ot, none⟩) ts.length tc) ∧ X.cell? ⟨bt, ot + c, none⟩ = some (.int .i64 ts[c])) (by kernel_rfl) ⟨d2, x1, z1, z2, z3, dtt, y1⟩ (fun hH => ?_)
            refine wpAnyH_take (i := 0) (v := ?_) rfl (by kernel_rfl) (by kernel_rfl) (by kernel_rfl) (fun _ _ _ h => h) (Or.inl ⟨by rfl, ?_⟩) hH ?_
            rotate_left 1
            · intro w hSw; (try dsimp only at hSw); go_simp; try rfl
            simp only [Act.put, List.getElem_toArray, List.getElem_cons_zero, List.setIfInBounds_toArray, List.set_cons_zero, List.set_cons_succ]
            refine wpAnyH_take (i := 1) (v := ?_) rfl (by kernel_rfl) (by kernel_rfl) (by kernel_rfl) (fun _ _ _ h => h) (Or.inl ⟨by rfl, ?_⟩) hH ?_
            rotate_left 1
            · intro w hSw; (try dsimp only at hSw); go_simp; try rfl
            simp only [Act.put, List.getElem_toArray, List.getElem_cons_zero, List.getElem_cons_succ, List.setIfInBounds_toArray, List.set_cons_zero, List.set_cons_succ]
            refine wpAnyH_take (i := 2) (v := ?_) rfl (by kernel_rfl) (by kernel_rfl) (by kernel_rfl) (fun _ _ _ h => h) (Or.inl ⟨by rfl, ?_⟩) hH ?_
            rotate_left 1
            · intro w hSw; (try dsimp only at hSw); go_simp; try rfl
            simp only [Act.put, List.getElem_toArray, List.getElem_cons_zero, List.getElem_cons_succ, List.setIfInBounds_toArray, List.set_cons_zero, List.set_cons_succ]
            refine wpAnyH_take (i := 3) (v := ?_) rfl (by kernel_rfl) (by kernel_rfl) (by kernel_rfl) (fun _ _ _ h => h) (Or.inl ⟨by rfl, ?_⟩) hH ?_
            rotate_left 1
            · intro w hSw; (try dsimp only at hSw); go_simp; try rfl
            simp only [Act.put, List.getElem_toArray, List.getElem_cons_zero, List.getElem_cons_succ, List.setIfInBounds_toArray, List.set_cons_zero, List.set_cons_succ]
            refine wpAnyH_take (i := 4) (v := ?_) rfl (by kernel_rfl) (by kernel_rfl) (by kernel_rfl) (fun _ _ _ h => h) (Or.inl ⟨by rfl, ?_⟩) hH ?_
            rotate_left 1
            · intro w hSw; (try dsimp only at hSw); go_simp; try rfl
            simp only [Act.put, List.getElem_toArray, List.getElem_cons_zero, List.getElem_cons_succ, List.setIfInBounds_toArray, List.set_cons_zero, List.set_cons_succ]
            refine wpAnyH_take (i := 5) (v := ?_) rfl (by kernel_rfl) (by kernel_rfl) (by kernel_rfl) (fun _ _ _ h => h) (Or.inl ⟨by rfl, ?_⟩) hH ?_
            rotate_left 1
            · intro w hSw; (try dsimp only at hSw); go_simp; try rfl
            simp only [Act.put, List.getElem_toArray, List.getElem_cons_zero, List.getElem_cons_succ, List.setIfInBounds_toArray, List.set_cons_zero, List.set_cons_succ]
            refine wpAnyH_take (i := 6) (v := ?_) rfl (by kernel_rfl) (by kernel_rfl) (by kernel_rfl) (fun _ _ _ h => h) (Or.inl ⟨by rfl, ?_⟩) hH ?_
            rotate_left 1
            · intro w hSw; (try dsimp only at hSw); go_simp; try rfl
            simp only [Act.put, List.getElem_toArray, List.getElem_cons_zero, List.getElem_cons_succ, List.setIfInBounds_toArray, List.set_cons_zero, List.set_cons_succ]
            refine wpAnyH_take (i := 7) (v := ?_) rfl (by kernel_rfl) (by kernel_rfl) (by kernel_rfl) (fun _ _ _ h => h) (Or.inl ⟨by rfl, ?_⟩) hH ?_
            rotate_left 1
            · intro w hSw; (try dsimp only at hSw); go_simp; try rfl
            simp only [Act.put, List.getElem_toArray, List.getElem_cons_zero, List.getElem_cons_succ, List.setIfInBounds_toArray, List.set_cons_zero, List.set_cons_succ]
            refine wpAnyH_take (i := 8) (v := ?_) rfl (by kernel_rfl) (by kernel_rfl) (by kernel_rfl) (fun _ _ _ h => h) (Or.inl ⟨by rfl, ?_⟩) hH ?_
            rotate_left 1
            · intro w hSw; (try dsimp only at hSw); go_simp; try rfl
            simp only [Act.put, List.getElem_toArray, List.getElem_cons_zero, List.getElem_cons_succ, List.setIfInBounds_toArray, List.set_cons_zero, List.set_cons_succ]
            refine wpAnyH_take (i := 9) (v := ?_) rfl (by kernel_rfl) (by kernel_rfl) (by kernel_rfl) (fun _ _ _ h => h) (Or.inl ⟨by rfl, ?_⟩) hH ?_
            rotate_left 1
            · intro w hSw; (try dsimp only at hSw); go_simp; try rfl
            simp only [Act.put, List.getElem_toArray, List.getElem_cons_zero, List.getElem_cons_succ, List.setIfInBounds_toArray, List.set_cons_zero, List.set_cons_succ]
            refine wpAnyH_take (i := 10) (v := ?_) rfl (by kernel_rfl) (by kernel_rfl) (by kernel_rfl) (fun _ _ _ h => h) (Or.inl ⟨by rfl, ?_⟩) hH ?_
            rotate_left 1
            · intro w hSw; (try dsimp only at hSw); go_simp; try rfl
            simp only [Act.put, List.getElem_toArray, List.getElem_cons_zero, List.getElem_cons_succ, List.setIfInBounds_toArray, List.set_cons_zero, List.set_cons_succ]
            refine wpAnyH_take (i := 11) (v := ?_) rfl (by kernel_rfl) (by kernel_rfl) (by kernel_rfl) (fun _ _ _ h => h) (Or.inl ⟨by rfl, ?_⟩) hH ?_
            rotate_left 1
            · intro w hSw; (try dsimp only at hSw); go_simp; try rfl
            simp only [Act.put, List.getElem_toArray, List.getElem_cons_zero, List.getElem_cons_succ, List.setIfInBounds_toArray, List.set_cons_zero, List.set_cons_succ]
            refine wpAnyH_take (i := 12) (v := ?_) rfl (by kernel_rfl) (by kernel_rfl) (by kernel_rfl) (fun _ _ _ h => h) (Or.inl ⟨by rfl, ?_⟩) hH ?_
            rotate_left 1
            · intro w hSw; (try dsimp only at hSw); go_simp; try rfl
            simp only [Act.put, List.getElem_toArray, List.getElem_cons_zero, List.getElem_cons_succ, List.setIfInBounds_toArray, List.set_cons_zero, List.set_cons_succ]
            refine wpAnyH_take (i := 13) (v := ?_) rfl (by kernel_rfl) (by kernel_rfl) (by kernel_rfl) (fun _ _ _ h => h) (Or.inl ⟨by rfl, ?_⟩) hH ?_
            rotate_left 1
            · intro w hSw; (try dsimp only at hSw); go_simp; try rfl
            simp only [Act.put, List.getElem_toArray, List.getElem_cons_zero, List.getElem_cons_succ, List.setIfInBounds_toArray, List.set_cons_zero, List.set_cons_succ]
            refine wpAnyH_take (i := 14) (v := ?_) rfl (by kernel_rfl) (by kernel_rfl) (by kernel_rfl) (fun _ _ _ h => h) (Or.inl ⟨by rfl, ?_⟩) hH ?_
            rotate_left 1
            · intro w hSw; (try dsimp only at hSw); go_simp; try rfl
            simp only [Act.put, List.getElem_toArray, List.getElem_cons_zero, List.getElem_cons_succ, List.setIfInBounds_toArray, List.set_cons_zero, List.set_cons_succ]
            refine wpAnyH_ready (rs := [15]) (by kernel_rfl) (by simp) (AllReadyH.cons rfl (fun K hK => ?_) AllReadyH.nil)
            go_simp
            refine (HKV.out _).mono ?_
            rintro e w3 ⟨⟨u, rfl, hu, hui⟩, hbv⟩
            go_simp
            obtain ⟨kk, _⟩ := below_keep hbv
            refine hK.out _ _ ⟨(kk _ _ (by show w.heap.size < wr.heap.size; omega)).trans hH.1, (kk _ _ (by show b1 < wr.heap.size; omega)).trans hH.2.1, (kk _ _ (by show b2 < wr.heap.size; omega)).trans hH.2.2.1, (kk _ _ (by show b2 < wr.heap.size; omega)).trans hH.2.2.2.1, (kk _ _ (by show b2 < wr.heap.size; omega)).trans hH.2.2.2.2.1, (kk _ _ (by show w1.heap.size < wr.heap.size; omega)).trans hH.2.2.2.2.2.1, (kk _ _ (by show bt < wr.heap.size; omega)).trans hH.2.2.2.2.2.2⟩ (fun hH2 => ?_)
            clear hK K kk hH
            refine wpAnyH_take (i := 16) (v := ?_) rfl (by kernel_rfl) (by kernel_rfl) (by kernel_rfl) (fun _ _ _ h => h) (Or.inl ⟨by rfl, ?_⟩) hH2 ?_
            rotate_left 1
            · intro w hSw; (try dsimp only at hSw); go_simp; try rfl
            simp only [Act.put, List.getElem_toArray, List.getElem_cons_zero, List.getElem_cons_succ, List.setIfInBounds_toArray, List.set_cons_zero, List.set_cons_succ]
            have hrow3 : RowT w3 wo.heap.size (L ++ List.replicate (ts.length - c) zeroV) [] := hrow.of_block ((below_undrew hbv).block _ hrow.lt)
            obtain ⟨old, ⟨c0, e0⟩, ⟨c1, e1⟩, ⟨c2', e2⟩, hset⟩ := hrow3.put u c (by rw [HLEN.out]; exact hlc)
            rw [set_at L c ts.length u HL.out.1 hlc] at hset
            have HSET : Hid (RowT (((w3.setCell ⟨wo.heap.size, c * 3, none⟩ (.int .i64 u.k)).setCell ⟨wo.heap.size, c * 3 + 1, none⟩ (.int .i64 u.n)).setCell ⟨wo.heap.size, c * 3 + 2, none⟩ (.string u.s)) wo.heap.size (L ++ [u] ++ List.replicate (ts.length - (c + 1)) zeroV) []) := hset
            clear hset
            refine wpAnyH_ready (rs := [17]) (by kernel_rfl) (by simp) (AllReadyH.cons rfl (fun K hK => ?_) AllReadyH.nil)
            go_simp
            have hoth : ∀ (b o : Nat) (v : Value), b ≠ wo.heap.size → w3.cell? ⟨b, o, none⟩ = some v → (((w3.setCell ⟨wo.heap.size, c * 3, none⟩ (.int .i64 u.k)).setCell ⟨wo.heap.size, c * 3 + 1, none⟩ (.int .i64 u.n)).setCell ⟨wo.heap.size, c * 3 + 2, none⟩ (.string u.s)).cell? ⟨b, o, none⟩ = some v := fun b o v hb hv => by
              rw [World.cell?_setCell_other _ _ _ _ (by first | (simp; done) | (simp; omega)), World.cell?_setCell_other _ _ _ _ (by first | (simp; done) | (simp; omega)), World.cell?_setCell_other _ _ _ _ (by first | (simp; done) | (simp; omega))]; exact hv
            refine hK.out _ _ ⟨hoth _ _ _ (by omega) hH2.1, hoth _ _ _ (by omega) hH2.2.1, hoth _ _ _ (by omega) hH2.2.2.1, hoth _ _ _ (by omega) hH2.2.2.2.1, hoth _ _ _ (by omega) hH2.2.2.2.2.1, hoth _ _ _ (by omega) hH2.2.2.2.2.2.1, hoth _ _ _ (by omega) hH2.2.2.2.2.2.2⟩ (fun hH3 => ?_)
            clear hK K hoth hH2 hH3 c0 e0 c1 e1 c2' e2
            refine wpAnyH_done (by kernel_rfl) ?_ _
            have hbf : Below wo.heap.size wo (((w3.setCell ⟨wo.heap.size, c * 3, none⟩ (.int .i64 u.k)).setCell ⟨wo.heap.size, c * 3 + 1, none⟩ (.int .i64 u.n)).setCell ⟨wo.heap.size, c * 3 + 2, none⟩ (.string u.s)) :=
              (((hbc.trans ((below_undrew hbv).mono hwr)).setCell (p := ⟨wo.heap.size, c * 3, none⟩) (Nat.le_refl _) _).setCell (p := ⟨wo.heap.size, c * 3 + 1, none⟩) (Nat.le_refl _) _).setCell (p := ⟨wo.heap.size, c * 3 + 2, none⟩) (Nat.le_refl _) _
            generalize ((w3.setCell ⟨wo.heap.size, c * 3, none⟩ (.int .i64 u.k)).setCell ⟨wo.heap.size, c * 3 + 1, none⟩ (.int .i64 u.n)).setCell ⟨wo.heap.size, c * 3 + 2, none⟩ (.string u.s) = w5 at *
            go_wp2
            go_roundw
            case rel =>
              refine ⟨c + 1, L ++ [u], by omega, by go_num, ⟨by rw [List.length_append, HL.out.1]; rfl, fun j hj => ?_⟩, HSET.out, hbf⟩
              by_cases e : j < L.length
              · rw [List.getElem_append_left e]; exact HL.out.2 j e
              · have hjl : j = L.length := by simp at hj; omega
                subst hjl
                rw [List.getElem_append_right (Nat.le_refl _)]
                have hgd : ts.getD L.length 0 = ts[c] := by rw [HL.out.1]; simp [hlc]
                simp only [Nat.sub_self, List.getElem_cons_zero, hgd]
                exact ⟨hu, hui⟩
            case measure => simp [intOf]; omega
          · have HSM : Hid (L ++ List.replicate (ts.length - c) zeroV = (L ++ [zeroV]) ++ List.replicate (ts.length - (c + 1)) zeroV) := by
              show _ = _
              obtain ⟨d, hd⟩ : ∃ d, ts.length - c = d + 1 := ⟨ts.length - c - 1, by omega⟩
              have hd2 : ts.length - (c + 1) = d := by omega
              rw [hd, hd2, List.replicate_succ]
              simp
            go_wp2
            go_roundw
            case rel =>
              refine ⟨c + 1, L ++ [zeroV], by omega, by go_num, ⟨by rw [List.length_append, HL.out.1]; rfl, fun j hj => ?_⟩, by rw [← HSM.out]; exact hrow, hbc⟩
              by_cases e : j < L.length
              · rw [List.getElem_append_left e]; exact HL.out.2 j e
              · have hjl : j = L.length := by simp at hj; omega
                subst hjl
                rw [List.getElem_append_right (Nat.le_refl _)]
                simp only [Nat.sub_self, List.getElem_cons_zero]
                exact ⟨zero_ok _, zero_in⟩
            case measure => simp [intOf]; omega
        · obtain rfl : c = ts.length := by omega
          rw [Nat.sub_self, List.replicate_zero, List.append_nil] at hrow
          have hTr := hT.below hbc
          have hTlt := hTr.lt
          have hwo := hbw.size
          have hwr := hbc.size
          have e2 : wr.cell? ⟨w1.heap.size, 2, none⟩ = some (.slice ra0 rs.length rc0) := by simp [World.cell?, hTr.cells]
          have hnoR : (Value.slice ra0 rs.length rc0).ownBlock ≠ some wo.heap.size := fun e => by have := (owns_block hT.own e).2; omega
          have hTl0 := hT.lt
          go_wp2_with (at_builtin; go_must (refine wpList_append_D (by rfl) _ _ 24 38 _ 24 info_Row (by rfl) (by decide) (by kernel_rfl) (by rfl) (w1.heap.size + 1) _ _ (by rfl) (OwnC.alloc hTr.own _) ⟨wr.heap.size, 0, none⟩ 1 [.slice (some ⟨wo.heap.size, 0, none⟩) ts.length ts.length] (by rfl) (by exact news_one wr _ _) (by intro u hu; simp at hu; subst hu; rfl) (by rw [HZL.out]; simp only [List.length_cons, List.length_nil]; omega) (by simp; omega) ?_); intro sv' w3 q1 q2 q3; go_must (have hmore := hTr.more wo.heap.size L hrow (by omega) hnoR _ (rv' := sv') (w4 := w3) (by unfold gridV; rw [HL.out.1]; exact q1) q2 q3); obtain ⟨a2, cap2, hsv2, _⟩ := q1.cells; subst hsv2; go_must (have ee : w3.cell? ⟨w1.heap.size, 2, none⟩ = some (.slice ra0 rs.length rc0) := (by rw [q2.cell_far _ (by simp; omega) (fun e => absurd (owns_block hTr.own e.symm).1 (by simp))]; exact (alloc_cell wr _ _ 2 (by omega)).trans e2)); go_must (have ef : w3.frozen? ⟨w1.heap.size, 2, none⟩ = false := (by rw [q2.frozen_far _ (by simp; omega) (fun e => absurd (owns_block hTr.own e.symm).1 (by simp))]; refine (alloc_frozen wr _ _ 2 (by omega)).trans ?_; simp [World.frozen?, hTr.cells])))
          have hbz : Below w1.heap.size w1 w3 := ((hbw.trans (hbc.mono hwo)).alloc (by omega) _).grown q2 (by simp; omega) (fun g hg => by have := (owns_block hTr.own hg).1; omega)
          go_roundw
          case rel =>
            simp only [List.length_append, List.length_zipWith, List.length_cons, List.length_nil, Nat.zero_add] at hmore
            refine ⟨k + 1, _, bs ++ [wo.heap.size], rs ++ [L], by omega, by omega, by go_num, by simp; omega, ?_, hmore, hbz.setCell (p := ⟨w1.heap.size, 2, none⟩) (Nat.le_refl _) _⟩
            intro r hr
            rcases List.mem_append.1 hr with h | h
            · exact HRO.out r h
            · simp at h
              subst h
              exact HL.out
          case measure => simp [intOf]; omega
    · have hTl0 := hT.lt
      have hcell : wo.heap[w1.heap.size]? = some (.cells #[.string name, .slice ta ts.length tc, .slice ra0 rs.length rc0] 26 (0, 0)) := hT.cells
      have ctn : wo.cell? ⟨w1.heap.size, 0, none⟩ = some (.string name) := by simp [World.cell?, hT.cells]
      have rb0 : wo.heap[w.heap.size + 1]? = some (.cells #[.string ⟨#[]⟩, .slice none 0 0, .slice none 0 0] 26 (0, 0)) := by
        rw [hbw.block _ (by omega), hbt.block _ (by simp)]
        have := heap_alloc_new (w.alloc (.cells #[.string rn, .slice at_ ns.length ct, .slice ar raws.length cr] 26)) (.cells #[.string ⟨#[]⟩, .slice none 0 0, .slice none 0 0] 26)
        rw [World.size_alloc] at this
        exact this
      have g0 : wo.cell? ⟨w.heap.size + 1, 0, none⟩ = some (.string ⟨#[]⟩) := by simp [World.cell?, rb0]
      have g1 : wo.cell? ⟨w.heap.size + 1, 1, none⟩ = some (.slice none 0 0) := by simp [World.cell?, rb0]
      have g2 : wo.cell? ⟨w.heap.size + 1, 2, none⟩ = some (.slice none 0 0) := by simp [World.cell?, rb0]
      have f0 : ∀ o, wo.frozen? ⟨w.heap.size + 1, o, none⟩ = false := fun o => by simp [World.frozen?, rb0]
      by_cases h1 : k < raws.length
      · have h2 : ¬ k < M := fun h => hlt ⟨h1, h⟩
        go_wp2
        have hoth : ∀ k, k ≠ w.heap.size + 1 → (((wo.setCell ⟨w.heap.size + 1, 0, none⟩ (.string name)).setCell ⟨w.heap.size + 1, 1, none⟩ (.slice ta ts.length tc)).setCell ⟨w.heap.size + 1, 2, none⟩ (.slice ra0 rs.length rc0)).heap[k]? = wo.heap[k]? := fun k hk => by
          rw [Below.heap_setCell _ _ _ _ hk, Below.heap_setCell _ _ _ _ hk, Below.heap_setCell _ _ _ _ hk]
        have hwo := hbw.size
        have hs5 : wo.heap.size ≤ (((wo.setCell ⟨w.heap.size + 1, 0, none⟩ (.string name)).setCell ⟨w.heap.size + 1, 1, none⟩ (.slice ta ts.length tc)).setCell ⟨w.heap.size + 1, 2, none⟩ (.slice ra0 rs.length rc0)).heap.size := by simp [World.setCell]
        have hblk := heap_set (heap_set (heap_set rb0 0 (.string name)) 1 (.slice ta ts.length tc)) 2 (.slice ra0 rs.length rc0)
        simp at hblk
        obtain ⟨o1, o2, o3, o4⟩ := hT.out (q := w.heap.size + 1) hs5 (by omega) hoth
        have hb5 : Below w.heap.size w (((wo.setCell ⟨w.heap.size + 1, 0, none⟩ (.string name)).setCell ⟨w.heap.size + 1, 1, none⟩ (.slice ta ts.length tc)).setCell ⟨w.heap.size + 1, 2, none⟩ (.slice ra0 rs.length rc0)) :=
          ((hb0w.setCell (p := ⟨w.heap.size + 1, 0, none⟩) (by simp) _).setCell (p := ⟨w.heap.size + 1, 1, none⟩) (by simp) _).setCell (p := ⟨w.heap.size + 1, 2, none⟩) (by simp) _
        have hti : Ints (((wo.setCell ⟨w.heap.size + 1, 0, none⟩ (.string name)).setCell ⟨w.heap.size + 1, 1, none⟩ (.slice ta ts.length tc)).setCell ⟨w.heap.size + 1, 2, none⟩ (.slice ra0 rs.length rc0)) ta ts := (htc.below hbw).of_block hs5 fun b o hb _ => hoth b (by have := (HTN.out b o hb).1; omega)
        generalize ((wo.setCell ⟨w.heap.size + 1, 0, none⟩ (.string name)).setCell ⟨w.heap.size + 1, 1, none⟩ (.slice ta ts.length tc)).setCell ⟨w.heap.size + 1, 2, none⟩ (.slice ra0 rs.length rc0) = w5 at *
        refine bodyPost_ret (v := .agg #[.string name, .slice ta ts.length tc, .slice ra0 rs.length rc0]) (by simp [results, Tryz.results9, go_sem, World.cell?, hblk]) rfl ⟨ts, rs, _, rfl, ⟨⟨ta, tc, ra0, rc0, bs, rfl, hti, o1, o2, fun b o hb => by have := (HTN.out b o hb).1; omega, fun b o hb => by have := o3 b o hb; omega, fun b hb => by have := o4 b hb; omega⟩, ⟨htl, HTO.out⟩, HRO.out⟩, by omega, hb5⟩
      · go_wp2
        have hoth : ∀ k, k ≠ w.heap.size + 1 → (((wo.setCell ⟨w.heap.size + 1, 0, none⟩ (.string name)).setCell ⟨w.heap.size + 1, 1, none⟩ (.slice ta ts.length tc)).setCell ⟨w.heap.size + 1, 2, none⟩ (.slice ra0 rs.length rc0)).heap[k]? = wo.heap[k]? := fun k hk => by
          rw [Below.heap_setCell _ _ _ _ hk, Below.heap_setCell _ _ _ _ hk, Below.heap_setCell _ _ _ _ hk]
        have hwo := hbw.size
        have hs5 : wo.heap.size ≤ (((wo.setCell ⟨w.heap.size + 1, 0, none⟩ (.string name)).setCell ⟨w.heap.size + 1, 1, none⟩ (.slice ta ts.length tc)).setCell ⟨w.heap.size + 1, 2, none⟩ (.slice ra0 rs.length rc0)).heap.size := by simp [World.setCell]
        have hblk := heap_set (heap_set (heap_set rb0 0 (.string name)) 1 (.slice ta ts.length tc)) 2 (.slice ra0 rs.length rc0)
        simp at hblk
        obtain ⟨o1, o2, o3, o4⟩ := hT.out (q := w.heap.size + 1) hs5 (by omega) hoth
        have hb5 : Below w.heap.size w (((wo.setCell ⟨w.heap.size + 1, 0, none⟩ (.string name)).setCell ⟨w.heap.size + 1, 1, none⟩ (.slice ta ts.length tc)).setCell ⟨w.heap.size + 1, 2, none⟩ (.slice ra0 rs.length rc0)) :=
          ((hb0w.setCell (p := ⟨w.heap.size + 1, 0, none⟩) (by simp) _).setCell (p := ⟨w.heap.size + 1, 1, none⟩) (by simp) _).setCell (p := ⟨w.heap.size + 1, 2, none⟩) (by simp) _
        have hti : Ints (((wo.setCell ⟨w.heap.size + 1, 0, none⟩ (.string name)).setCell ⟨w.heap.size + 1, 1, none⟩ (.slice ta ts.length tc)).setCell ⟨w.heap.size + 1, 2, none⟩ (.slice ra0 rs.length rc0)) ta ts := (htc.below hbw).of_block hs5 fun b o hb _ => hoth b (by have := (HTN.out b o hb).1; omega)
        generalize ((wo.setCell ⟨w.heap.size + 1, 0, none⟩ (.string name)).setCell ⟨w.heap.size + 1, 1, none⟩ (.slice ta ts.length tc)).setCell ⟨w.heap.size + 1, 2, none⟩ (.slice ra0 rs.length rc0) = w5 at *
        refine bodyPost_ret (v := .agg #[.string name, .slice ta ts.length tc, .slice ra0 rs.length rc0]) (by simp [results, Tryz.results9, go_sem, World.cell?, hblk]) rfl ⟨ts, rs, _, rfl, ⟨⟨ta, tc, ra0, rc0, bs, rfl, hti, o1, o2, fun b o hb => by have := (HTN.out b o hb).1; omega, fun b o hb => by have := o3 b o hb; omega, fun b hb => by have := o4 b hb; omega⟩, ⟨htl, HTO.out⟩, HRO.out⟩, by omega, hb5⟩
end Go.Proofs.YtfgklnenpichcaaGreatDoor
