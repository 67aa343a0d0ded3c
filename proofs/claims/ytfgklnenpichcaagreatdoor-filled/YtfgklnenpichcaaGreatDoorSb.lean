/- A store's calls that tell: Tables, Used, Scan. -/
import Derived.Test.YtfgklnenpichcaaGreatDoorTo
namespace Go.Proofs.YtfgklnenpichcaaGreatDoor
open Go.RowKit Go.Shelf

/-- A store's record: its disk, its tables. -/
def StoreAt (w : World) (st d s : Nat) : Prop := w.heap[st]? = some (.cells #[.pointer (some ⟨d, 0, none⟩), .pointer (some ⟨s, 0, none⟩)] 67 (0, 0))
theorem StoreAt.field {w : World} {st d s : Nat} (h : StoreAt w st d s) : w.cell? ⟨st, 0, none⟩ = some (.pointer (some ⟨d, 0, none⟩)) ∧ w.cell? ⟨st, 1, none⟩ = some (.pointer (some ⟨s, 0, none⟩)) := by
  unfold StoreAt at h
  simp [World.cell?, h]

theorem Tables_any (st : Nat) (w : World) (F : Nat → Prop) (s d : Nat) (Ts : List TS) (sv : Value) (bs : List Nat) (hst : StoreAt w st d s) (h : SetX w F s d Ts sv bs) :
    Calls Tryz.prog 16 #[.pointer (some ⟨st, 0, none⟩)] w fun e w' => e = .returned (.slice (some ⟨w.heap.size, 0, none⟩) Ts.length Ts.length) ∧ w'.rowIs w.heap.size 9 Ts.length (nameV Ts) ∧ Below w.heap.size w w' := by
  obtain ⟨_, c1⟩ := hst.field
  have hn := tNames_any w F s d Ts sv bs h
  clear h hst
  go_enter Tryz.func16, Tryz.ntmps16
  go_wp2_with (go_at_call 32; refine hn.mono ?_; rintro e W1 ⟨rfl, hrow, hb⟩)
  go_ret
  exact ⟨rfl, hrow, hb⟩

theorem Used_any (st : Nat) (w : World) (F : Nat → Prop) (s d : Nat) (D : DS) (hst : StoreAt w st d s) (hd : DiskAt w F d D) :
    Calls Tryz.prog 13 #[.pointer (some ⟨st, 0, none⟩)] w fun e w' => e = .returned (.int .i64 ((usedOf D.pages : Nat) : Int)) ∧ w' = w := by
  obtain ⟨c0, _⟩ := hst.field
  have hn := dUsed_any d w F D hd
  clear hd hst
  go_enter Tryz.func13, Tryz.ntmps13
  go_wp2_with (go_at_call 29; refine hn.mono ?_; rintro e W1 ⟨rfl, rfl⟩)
  go_ret
  exact ⟨rfl, rfl⟩

/-- What Scan answers. -/
def ScanPost (w : World) (r : Option (List (List V) ⊕ Nat)) (e : Ending) (w' : World) : Prop :=
  Below w.heap.size w w' ∧ match r with
    | none => e = .returned (.tuple #[.slice none 0 0, faultAt 4 (-1) (-1)])
    | some (.inl rs) => ∃ g bs, e = .returned (.tuple #[.slice (some ⟨g, 0, none⟩) rs.length rs.length, fault 0]) ∧ Grid w' w.heap.size g bs rs
    | some (.inr j) => e = .returned (.tuple #[.slice none 0 0, faultAt 7 (-1) (j : Int)])

set_option maxRecDepth 100000 in
set_option maxHeartbeats 1000000 in
/-- What listOf makes of an error. -/
theorem listOf_err (rv v : Value) (c nd row col pg : Int) (w : World) (hv : ∃ ty x, v = .iface ty x) (hF : ∀ W, Below w.heap.size w W → Calls Tryz.prog 30 #[v] W fun e w' => e = .returned (faultR c nd row col pg) ∧ Below W.heap.size W w') :
    Calls Tryz.prog 34 #[rv, v] w fun e w' => e = .returned (.tuple #[.slice none 0 0, faultR c nd row col pg]) ∧ Below w.heap.size w w' := by
  obtain ⟨ty, x, rfl⟩ := hv
  have hb0 : Below w.heap.size w (w.alloc (.cells #[.int .i64 0, .int .i64 0, .int .i64 0, .int .i64 0, .int .i64 0] 43)) := (Below.refl _ _).alloc (Nat.le_refl _) _
  have HF := hF _ hb0
  clear hF
  go_enter Tryz.func34, Tryz.ntmps34
  go_wp2_with fail
  refine HF.mono ?_
  rintro e w2 ⟨rfl, hb3⟩
  obtain ⟨k1, k2⟩ := below_keep hb3
  have hb4 := below_then hb0 hb3
  go_wp2
  exact bodyPost_ret (v := .tuple #[.slice none 0 0, faultR c nd row col pg]) (by simp [results, Tryz.results34, go_sem, k1]) rfl ⟨rfl, below_set5 hb4 (Nat.le_refl _) _ _ _ _ _⟩
set_option maxRecDepth 100000 in
set_option maxHeartbeats 1000000 in
/-- What listOf makes of rows. -/
theorem listOf_ok (g : Nat) (svs : List Value) (cs : List (List V)) (n : Nat) (B : Nat) (w : World) (hT : ColT w B g svs cs) (hc : ∀ i, i < cs.length → (cs.getD i []).length = n) (h1 : 1 ≤ cs.length) (h2 : cs.length ≤ 1000) (hn : n ≤ 10000) :
    Calls Tryz.prog 34 #[.slice (some ⟨g, 0, none⟩) cs.length cs.length, .nilIface] w fun e w' => Below w.heap.size w w' ∧ ∃ g' bs, e = .returned (.tuple #[.slice (some ⟨g', 0, none⟩) n n, fault 0]) ∧ Grid w' w.heap.size g' bs (gridOf n cs) := by
  have hb0 : Below w.heap.size w (w.alloc (.cells #[.int .i64 0, .int .i64 0, .int .i64 0, .int .i64 0, .int .i64 0] 43)) := (Below.refl _ _).alloc (Nat.le_refl _) _
  have hnn := run_neq_nil_nil (P := Tryz.prog)
  have hT0 := hT.below hb0
  have hls := cList_any g cs.length svs cs n _ hT0.row hT0.len (fun i hi => (hT0.own i hi).vals) hc h1 h2 hn
  clear hT hT0
  go_enter Tryz.func34, Tryz.ntmps34
  go_wp2_with fail
  refine hls.mono ?_
  rintro e w1 ⟨rfl, ⟨gs, hg⟩, hb1⟩
  clear hls
  go_wp2_with fail
  refine (fault_nil w1).mono ?_
  rintro e w2 ⟨rfl, hb3⟩
  have hb2 := below_then hb0 hb1
  obtain ⟨k1, k2⟩ := below_keep (below_then hb1 hb3)
  have hb4 := below_then hb2 hb3
  have hg2 := hg.below hb3
  rw [World.size_alloc] at hg2
  have hfr := hg2.from_
  have low : ∀ X : World, Grid X (w.heap.size + 1) (w.heap.size + 1) gs (gridOf n cs) → Grid X w.heap.size (w.heap.size + 1) gs (gridOf n cs) := fun X h3 => ⟨h3.len, h3.outer, h3.rows, ⟨by have := h3.from_.1; omega, fun b hb => ⟨by have := (h3.from_.2 b hb).1; omega, (h3.from_.2 b hb).2⟩⟩, h3.nodup⟩
  go_wp2
  refine bodyPost_ret (v := .tuple #[.slice (some ⟨w.heap.size + 1, 0, none⟩) n n, fault 0]) (by simp [results, Tryz.results34, go_sem, k1]) rfl ⟨below_set5 hb4 (Nat.le_refl _) _ _ _ _ _, ?_⟩
  refine ⟨w.heap.size + 1, gs, rfl, ?_⟩
  refine low _ (hg2.of_blocks ?_ (fun b hb => ?_))
  · rw [Below.heap_setCell _ _ _ _ (by show w.heap.size + 1 ≠ w.heap.size; omega), Below.heap_setCell _ _ _ _ (by show w.heap.size + 1 ≠ w.heap.size; omega), Below.heap_setCell _ _ _ _ (by show w.heap.size + 1 ≠ w.heap.size; omega), Below.heap_setCell _ _ _ _ (by show w.heap.size + 1 ≠ w.heap.size; omega), Below.heap_setCell _ _ _ _ (by show w.heap.size + 1 ≠ w.heap.size; omega)]
  · have hbb := (hfr.2 b hb).1
    rw [Below.heap_setCell _ _ _ _ (by show b ≠ w.heap.size; omega), Below.heap_setCell _ _ _ _ (by show b ≠ w.heap.size; omega), Below.heap_setCell _ _ _ _ (by show b ≠ w.heap.size; omega), Below.heap_setCell _ _ _ _ (by show b ≠ w.heap.size; omega), Below.heap_setCell _ _ _ _ (by show b ≠ w.heap.size; omega)]

set_option maxRecDepth 100000 in
set_option maxHeartbeats 1000000 in
theorem Scan_any (st : Nat) (n : ByteArray) (w : World) (F G : Nat → Prop) (s d : Nat) (D : DS) (Ts : List TS) (sv : Value) (bs : List Nat) (hst : StoreAt w st d s) (h : SetX w G s d Ts sv bs) (hd : DiskAt w F d D) (hok : ∀ T ∈ Ts, TabOk D T) (a0 a1 a2 et q wr pg : Addr) (he : Errs w a0 a1 a2) (hm : More w a0 a1 a2 et q wr pg) :
    Calls Tryz.prog 17 #[.pointer (some ⟨st, 0, none⟩), .string n] w fun e w' => ScanPost w (rowsO D Ts n) e w' := by
  have hb0 : Below w.heap.size w (w.alloc (.cells #[.int .i64 0, .int .i64 0, .int .i64 0, .int .i64 0, .int .i64 0] 43)) := (Below.refl _ _).alloc (Nat.le_refl _) _
  have c1 := cell_below hb0 hst.field.2
  have hn := tRows_any n _ F G s d D Ts sv bs (h.below hb0) (hd.below hb0) hok a0 a1 a2 (he.below hb0) et pg (hm.below hb0).cp (hm.below hb0).ct
  obtain ⟨_, _, _, n4, _, _, n7⟩ := codeAt_names hm
  have heq := rowsO_eq D Ts n hok
  clear h hd hok hst
  go_enter Tryz.func17, Tryz.ntmps17
  go_wp2_with fail
  refine hn.mono ?_
  clear hn
  rintro e w1 ⟨hb1, hp⟩
  have hb2 := below_then hb0 hb1
  rcases heq with ⟨hr, hr2⟩ | ⟨j, hr, hr2⟩ | ⟨cs, m, hr, hr2, hm2, hcl, hcu, hcc⟩
  · rw [hr] at hp
    simp only at hp
    subst hp
    have HR : Hid (rowsO D Ts n = none) := hr2
    have hf : ∀ W, Below w1.heap.size w1 W → Calls Tryz.prog 30 #[.iface 255 (.pointer (some et))] W fun e w' => e = .returned (faultR 4 (-1) (-1) (-1) (-1)) ∧ Below W.heap.size W w' := fun W hW => by
      have hbW := below_then hb2 hW
      have := faultOf_any _ et none none W (.root et) (heap_below hbW hm.bt) a0 a1 a2 et q wr pg (by simp) (he.below hbW) (hm.below hbW)
      rw [n4] at this
      exact this
    have hlo := listOf_err (.slice none 0 0) _ 4 (-1) (-1) (-1) (-1) w1 ⟨_, _, rfl⟩ hf
    clear hr hr2 hf
    go_wp2_with fail
    refine hlo.mono ?_
    rintro e w2 ⟨rfl, hb3⟩
    obtain ⟨k1, k2⟩ := below_keep (below_then hb1 hb3)
    have hb4 := below_then hb2 hb3
    go_wp2
    exact bodyPost_ret (v := .tuple #[.slice none 0 0, faultAt 4 (-1) (-1)]) (by simp [results, Tryz.results17, go_sem, k1]) rfl ⟨below_set5 hb4 (Nat.le_refl _) _ _ _ _ _, by rw [HR.out]⟩
  · rw [hr] at hp
    obtain ⟨b, rfl, hbb, hch⟩ := hp
    have HR : Hid (rowsO D Ts n = some (.inr j)) := hr2
    have hf : ∀ W, Below w1.heap.size w1 W → Calls Tryz.prog 30 #[.iface 109 (.pointer (some ⟨b, 0, none⟩))] W fun e w' => e = .returned (faultR 7 (-1) (-1) (-1) (j : Int)) ∧ Below W.heap.size W w' := fun W hW => by
      have hbW := below_then hb2 hW
      have := faultOf_any _ pg (some (-1)) (some (j : Int)) W (hch.below hW) (heap_below hbW hm.bp) a0 a1 a2 et q wr pg (by simp) (he.below hbW) (hm.below hbW)
      rw [n7] at this
      exact this
    have hlo := listOf_err (.slice none 0 0) _ 7 (-1) (-1) (-1) (j : Int) w1 ⟨_, _, rfl⟩ hf
    clear hr hr2 hf hch
    go_wp2_with fail
    refine hlo.mono ?_
    rintro e w2 ⟨rfl, hb3⟩
    obtain ⟨k1, k2⟩ := below_keep (below_then hb1 hb3)
    have hb4 := below_then hb2 hb3
    go_wp2
    exact bodyPost_ret (v := .tuple #[.slice none 0 0, faultAt 7 (-1) (j : Int)]) (by simp [results, Tryz.results17, go_sem, k1]) rfl ⟨below_set5 hb4 (Nat.le_refl _) _ _ _ _ _, by rw [HR.out]⟩
  · rw [hr] at hp
    obtain ⟨g, svs, rfl, hg⟩ := hp
    have HR : Hid (rowsO D Ts n = some (.inl (gridOf m cs))) := hr2
    have hlo := listOf_ok g svs cs m _ w1 hg hcc hcl (by omega) (by omega)
    clear hr hr2 hcc hg
    go_wp2_with fail
    refine hlo.mono ?_
    rintro e w2 ⟨hb3, g', gs, rfl, hg2⟩
    obtain ⟨k1, k2⟩ := below_keep (below_then hb1 hb3)
    have hb4 := below_then hb2 hb3
    have hfr := hg2.from_
    have hw1 := hb1.size
    rw [World.size_alloc] at hw1
    have low : ∀ X : World, Grid X w1.heap.size g' gs (gridOf m cs) → Grid X w.heap.size g' gs (gridOf m cs) := fun X h3 => ⟨h3.len, h3.outer, h3.rows, ⟨by have := h3.from_.1; omega, fun b hb => ⟨by have := (h3.from_.2 b hb).1; omega, (h3.from_.2 b hb).2⟩⟩, h3.nodup⟩
    go_wp2
    refine bodyPost_ret (v := .tuple #[.slice (some ⟨g', 0, none⟩) m m, fault 0]) (by simp [results, Tryz.results17, go_sem, k1]) rfl ⟨below_set5 hb4 (Nat.le_refl _) _ _ _ _ _, ?_⟩
    rw [HR.out]
    refine ⟨g', gs, by rw [gridOf_length], ?_⟩
    refine low _ (hg2.of_blocks ?_ (fun b hb => ?_))
    · have hgg := hfr.1
      rw [Below.heap_setCell _ _ _ _ (by show g' ≠ w.heap.size; omega), Below.heap_setCell _ _ _ _ (by show g' ≠ w.heap.size; omega), Below.heap_setCell _ _ _ _ (by show g' ≠ w.heap.size; omega), Below.heap_setCell _ _ _ _ (by show g' ≠ w.heap.size; omega), Below.heap_setCell _ _ _ _ (by show g' ≠ w.heap.size; omega)]
    · have hbb := (hfr.2 b hb).1
      rw [Below.heap_setCell _ _ _ _ (by show b ≠ w.heap.size; omega), Below.heap_setCell _ _ _ _ (by show b ≠ w.heap.size; omega), Below.heap_setCell _ _ _ _ (by show b ≠ w.heap.size; omega), Below.heap_setCell _ _ _ _ (by show b ≠ w.heap.size; omega), Below.heap_setCell _ _ _ _ (by show b ≠ w.heap.size; omega)]
end Go.Proofs.YtfgklnenpichcaaGreatDoor

/- A store's Drop. -/
namespace Go.Proofs.YtfgklnenpichcaaGreatDoor
open Go.RowKit Go.Shelf

/-- What a store's Drop answers. -/
def SDropPost (w : World) (F G : Nat → Prop) (s d : Nat) (D : DS) (Ts : List TS) (sv : Value) (bs : List Nat) (n : ByteArray) (e : Ending) (w' : World) : Prop :=
  Keep (fun k => F k ∨ setF s sv k) w w' ∧ match Ts[findI Ts n]? with
    | none => e = .returned (faultAt 4 (-1) (-1)) ∧ Below w.heap.size w w'
    | some T => e = .returned (fault 0) ∧ DiskAt w' F d (relAll D T.segs) ∧ ∃ sv', sv'.ownBlock = sv.ownBlock ∧ SetX w' G s d (Ts.eraseIdx (findI Ts n)) sv' (bs.eraseIdx (findI Ts n))

theorem set5_other (W : World) (B : Nat) (v0 v1 v2 v3 v4 : Value) (k : Nat) (hk : k ≠ B) : (((((W.setCell ⟨B, 0, none⟩ v0).setCell ⟨B, 1, none⟩ v1).setCell ⟨B, 2, none⟩ v2).setCell ⟨B, 3, none⟩ v3).setCell ⟨B, 4, none⟩ v4).heap[k]? = W.heap[k]? := by
  rw [Below.heap_setCell _ _ _ _ hk, Below.heap_setCell _ _ _ _ hk, Below.heap_setCell _ _ _ _ hk, Below.heap_setCell _ _ _ _ hk, Below.heap_setCell _ _ _ _ hk]
theorem set5_size (W : World) (B : Nat) (v0 v1 v2 v3 v4 : Value) : (((((W.setCell ⟨B, 0, none⟩ v0).setCell ⟨B, 1, none⟩ v1).setCell ⟨B, 2, none⟩ v2).setCell ⟨B, 3, none⟩ v3).setCell ⟨B, 4, none⟩ v4).heap.size = W.heap.size := by simp [World.setCell]

set_option maxRecDepth 100000 in
set_option maxHeartbeats 1000000 in
theorem Drop_any (st : Nat) (n : ByteArray) (w : World) (F G : Nat → Prop) (s d : Nat) (D : DS) (Ts : List TS) (sv : Value) (bs : List Nat) (hst : StoreAt w st d s) (h : SetX w G s d Ts sv bs) (hd : DiskAt w F d D) (hFG : ∀ k, G k → ¬ F k) (hsF : ¬ F s) (hgF : ∀ g, sv.ownBlock = some g → ¬ F g) (hlF : ∀ k, F k ∨ G k → k < w.heap.size) (hok : ∀ T ∈ Ts, T.segs.length ≤ 1000000 ∧ ∀ l ∈ T.segs, l.length ≤ 1000000) (a0 a1 a2 et q wr pg : Addr) (he : Errs w a0 a1 a2) (hm : More w a0 a1 a2 et q wr pg) :
    Calls Tryz.prog 19 #[.pointer (some ⟨st, 0, none⟩), .string n] w fun e w' => SDropPost w F G s d D Ts sv bs n e w' := by
  have hb0 : Below w.heap.size w (w.alloc (.cells #[.int .i64 0, .int .i64 0, .int .i64 0, .int .i64 0, .int .i64 0] 43)) := (Below.refl _ _).alloc (Nat.le_refl _) _
  have c1 := cell_below hb0 hst.field.2
  have hn := tDrop_any n _ F G s d D Ts sv bs (h.below hb0) (hd.below hb0) hFG hsF hgF hok et (hm.below hb0).ct
  obtain ⟨_, _, _, n4, _, _, n7⟩ := codeAt_names hm
  have hsl := lt_of_heap h.cells
  have hvl : ∀ g, sv.ownBlock = some g → g < w.heap.size := fun g hg => own_block_ge h.own hg
  clear h hd hok hst
  go_enter Tryz.func19, Tryz.ntmps19
  go_wp2_with fail
  refine hn.mono ?_
  clear hn
  rintro e w1 ⟨hk1, hp⟩
  cases hr : Ts[findI Ts n]? with
  | none =>
    rw [hr] at hp
    obtain ⟨rfl, hb1⟩ := hp
    have HR : Hid (Ts[findI Ts n]? = none) := hr
    clear hr hk1
    have hb2 := below_then hb0 hb1
    go_wp2_with fail
    have hf := faultOf_any _ et none none w1 (.root et) (heap_below hb2 hm.bt) a0 a1 a2 et q wr pg (by simp) (he.below hb2) (hm.below hb2)
    rw [n4] at hf
    refine hf.mono ?_
    rintro e w2 ⟨rfl, hb3⟩
    obtain ⟨k1, k2⟩ := below_keep (below_then hb1 hb3)
    have hb4 := below_then hb2 hb3
    go_wp2
    have hb5 := fun v0 v1 v2 v3 v4 => below_set5 hb4 (Nat.le_refl _) v0 v1 v2 v3 v4
    exact bodyPost_ret (v := faultAt 4 (-1) (-1)) (by simp [results, Tryz.results19, go_sem, k1]) rfl ⟨.of_below (hb5 _ _ _ _ _), by rw [HR.out]; exact ⟨rfl, hb5 _ _ _ _ _⟩⟩
  | some T =>
    rw [hr] at hp
    obtain ⟨rfl, hd1, sv', hsv', hS1⟩ := hp
    have HR : Hid (Ts[findI Ts n]? = some T) := hr
    clear hr
    go_wp2_with fail
    refine (fault_nil w1).mono ?_
    rintro e w2 ⟨rfl, hb3⟩
    have hnF : ¬ (F w.heap.size ∨ setF s sv w.heap.size) := by
      rintro (hF | hF | hF)
      · have := hlF _ (.inl hF); omega
      · omega
      · have := hvl _ hF; omega
    have hblk : w2.heap[w.heap.size]? = (w.alloc (.cells #[.int .i64 0, .int .i64 0, .int .i64 0, .int .i64 0, .int .i64 0] 43)).heap[w.heap.size]? := by
      have h1 := hk1.block w.heap.size (by simp) hnF
      have h2 := hk1.size
      rw [World.size_alloc] at h2
      exact (hb3.block _ (by omega)).trans h1
    have k1 : ∀ o, w2.cell? ⟨w.heap.size, o, none⟩ = (w.alloc (.cells #[.int .i64 0, .int .i64 0, .int .i64 0, .int .i64 0, .int .i64 0] 43)).cell? ⟨w.heap.size, o, none⟩ := fun o => World.cell?_of_block (a := ⟨w.heap.size, o, none⟩) hblk
    have k2 : ∀ o, w2.frozen? ⟨w.heap.size, o, none⟩ = (w.alloc (.cells #[.int .i64 0, .int .i64 0, .int .i64 0, .int .i64 0, .int .i64 0] 43)).frozen? ⟨w.heap.size, o, none⟩ := fun o => World.frozen?_of_block (a := ⟨w.heap.size, o, none⟩) hblk
    have hd2 := hd1.below hb3
    have hS2 := hS1.below hb3
    have hK2 : Keep (fun k => F k ∨ setF s sv k) w w2 := (Keep.of_below hb0).trans (hk1.trans (Keep.of_below hb3))
    clear hblk
    go_wp2
    refine bodyPost_ret (v := fault 0) (by simp [results, Tryz.results19, go_sem, k1]) rfl ⟨⟨hK2.os, hK2.tape, hK2.output, by rw [set5_size]; exact hK2.size, fun k hk hn => (set5_other _ _ _ _ _ _ _ k (by omega)).trans (hK2.block k hk hn)⟩, ?_⟩
    rw [HR.out]
    refine ⟨rfl, hd2.stands fun k hF _ => set5_other _ _ _ _ _ _ _ k (by have := hlF k (.inl hF); omega), sv', hsv', hS2.stands (by rw [set5_size]; exact Nat.le_refl _) fun k hk _ => set5_other _ _ _ _ _ _ _ k ?_⟩
    rcases hk with hG | hk | hk
    · have := hlF k (.inr hG); omega
    · omega
    · rw [hsv'] at hk
      have := hvl k hk
      omega
end Go.Proofs.YtfgklnenpichcaaGreatDoor
