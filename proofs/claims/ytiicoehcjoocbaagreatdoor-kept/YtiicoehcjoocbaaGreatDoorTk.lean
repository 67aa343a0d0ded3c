/- A table read from the disk. -/
import Derived.Test.YtiicoehcjoocbaaGreatDoorTj
import Derived.Test.YtiicoehcjoocbaaGreatDoorTg
import Derived.Test.YtiicoehcjoocbaaGreatDoorMa
namespace Go.Proofs.YtiicoehcjoocbaaGreatDoor
open Go.RowKit Go.Shelf
attribute [local go_sem] Oper.semAt_some

/-- A column's values put into rows, from row o on. -/
def putCol (R : List (List V)) (o c : Nat) (vs : List V) : List (List V) := R.mapIdx fun i r => if o ≤ i ∧ i < o + vs.length then r.set c (vs.getD (i - o) zeroV) else r
theorem putCol_length (R : List (List V)) (o c : Nat) (vs : List V) : (putCol R o c vs).length = R.length := by simp [putCol]
/-- The first columns of a group read. -/
def readK (D : DS) (ls : List (List Nat)) (ts : List Int) (x : Nat × Nat) (R : List (List V)) : Nat → List (List V) ⊕ Nat
  | 0 => .inl R
  | k + 1 => match readK D ls ts x R k with
    | .inr j => .inr j
    | .inl R' => match valsOf D (ls.getD k []) (ts.getD k 0) x.2 with
      | .inr j => .inr j
      | .inl vs => .inl (putCol R' x.1 k vs)
theorem readK_bad (D : DS) (ls : List (List Nat)) (ts : List Int) (x : Nat × Nat) (R : List (List V)) (j : Nat) : ∀ (k m : Nat), readK D ls ts x R k = .inr j → k ≤ m → readK D ls ts x R m = .inr j := by
  intro k m h hm
  induction m with
  | zero => have : k = 0 := by omega
            subst this; exact h
  | succ m ih =>
    by_cases e : k = m + 1
    · subst e; exact h
    · simp only [readK, ih (by omega)]
def readS (D : DS) (ts : List Int) (acc : (List (List V) ⊕ Nat) × List (List Nat)) (x : Nat × Nat) : (List (List V) ⊕ Nat) × List (List Nat) :=
  (match acc.1 with
    | .inr j => .inr j
    | .inl R => readK D acc.2 ts x R ts.length, acc.2.drop ts.length)
/-- A table's rows, or the page that is told. -/
def readF (D : DS) (ts : List Int) (ls : List (List Nat)) (R : List (List V)) (xs : List (Nat × Nat)) : (List (List V) ⊕ Nat) × List (List Nat) := xs.foldl (readS D ts) (.inl R, ls)
theorem readF_snoc (D : DS) (ts : List Int) (ls : List (List Nat)) (R : List (List V)) (xs : List (Nat × Nat)) (x : Nat × Nat) : readF D ts ls R (xs ++ [x]) = readS D ts (readF D ts ls R xs) x := by simp [readF]
theorem readF_left (D : DS) (ts : List Int) (ls : List (List Nat)) (R : List (List V)) : ∀ xs : List (Nat × Nat), (readF D ts ls R xs).2 = ls.drop (xs.length * ts.length) := by
  intro xs
  have key : ∀ (xs : List (Nat × Nat)) (acc : (List (List V) ⊕ Nat) × List (List Nat)), (xs.foldl (readS D ts) acc).2 = acc.2.drop (xs.length * ts.length) := by
    intro xs
    induction xs with
    | nil => intro acc; simp
    | cons x xs ih =>
      intro acc
      rw [List.foldl_cons, ih]
      simp only [readS, List.drop_drop, List.length_cons]
      congr 1
      rw [Nat.succ_mul]
      omega
  exact key xs _
theorem readF_bad (D : DS) (ts : List Int) (ls : List (List Nat)) (R : List (List V)) (xs ys : List (Nat × Nat)) (j : Nat) (h : (readF D ts ls R xs).1 = .inr j) : (readF D ts ls R (xs ++ ys)).1 = .inr j := by
  have key : ∀ (ys : List (Nat × Nat)) (acc : (List (List V) ⊕ Nat) × List (List Nat)), acc.1 = .inr j → (ys.foldl (readS D ts) acc).1 = .inr j := by
    intro ys
    induction ys with
    | nil => intro acc h; exact h
    | cons y ys ih => intro acc h; exact ih _ (by simp [readS, h])
  unfold readF at h ⊢
  rw [List.foldl_append]
  exact key ys _ h

theorem putCol_zero (R : List (List V)) (o c : Nat) (vs : List V) : putCol R o c (vs.take 0) = R := by
  apply List.ext_getElem?
  intro i
  have h0 : (vs.take 0).length = 0 := rfl
  simp only [putCol, List.getElem?_mapIdx]
  cases R[i]? with
  | none => rfl
  | some r => simp only [Option.map_some]; rw [if_neg (by rw [h0]; omega)]
theorem putCol_step (R : List (List V)) (o c : Nat) (vs : List V) (m : Nat) (hm : m < vs.length) (hR : o + m < R.length) :
    (putCol R o c (vs.take m))[o + m]? = some R[o + m] ∧ putCol R o c (vs.take (m + 1)) = (putCol R o c (vs.take m)).set (o + m) (R[o + m].set c vs[m]) := by
  have h1 : (vs.take m).length = m := by rw [List.length_take]; omega
  have h2 : (vs.take (m + 1)).length = m + 1 := by rw [List.length_take]; omega
  constructor
  · simp only [putCol, List.getElem?_mapIdx, h1, List.getElem?_eq_getElem hR, Option.map_some]
    rw [if_neg (by omega)]
  · apply List.ext_getElem?
    intro i
    rw [List.getElem?_set]
    simp only [putCol, List.getElem?_mapIdx, List.length_mapIdx, h1, h2]
    by_cases e : o + m = i
    · subst e
      rw [if_pos rfl, if_pos hR, List.getElem?_eq_getElem hR, Option.map_some, if_pos ⟨by omega, by omega⟩]
      congr 2
      rw [Nat.add_sub_cancel_left, List.getD_eq_getElem?_getD, List.getElem?_take, if_pos (by omega), List.getElem?_eq_getElem hm]
      rfl
    · rw [if_neg e]
      cases R[i]? with
      | none => rfl
      | some r =>
        simp only [Option.map_some]
        congr 1
        by_cases hlt : o ≤ i ∧ i < o + m
        · rw [if_pos ⟨hlt.1, by omega⟩, if_pos hlt]
          congr 1
          rw [List.getD_eq_getElem?_getD, List.getD_eq_getElem?_getD, List.getElem?_take, List.getElem?_take, if_pos (by omega), if_pos (by omega)]
        · rw [if_neg (by omega), if_neg hlt]
theorem putCol_wid (R : List (List V)) (o c n : Nat) (vs : List V) (h : ∀ r ∈ R, r.length = n) : ∀ r ∈ putCol R o c vs, r.length = n := by
  intro r hr
  obtain ⟨i, hi, e⟩ := List.getElem_of_mem hr
  simp only [putCol, List.getElem_mapIdx] at e
  have hi' : i < R.length := by simpa [putCol] using hi
  have := h _ (List.getElem_mem hi')
  rw [← e]
  split <;> simp [this]

theorem Grid.kept {w w' : World} {B g : Nat} {bs : List Nat} {rs : List (List V)} {row : Option Nat} (h : Grid w B g bs rs) (hg : w.grownBy w' row) (hr : ∀ r, row = some r → ∃ o : Obj, w.heap[r]? = some o ∧ o.isCells = false) : Grid w' B g bs rs := by
  refine ⟨h.len, ?_, fun i b r hi hr' => ?_, h.from_, h.nodup⟩
  · obtain ⟨C, hC, _⟩ := h.outer
    exact h.outer.of_block ((kept_cells hC hg hr).trans hC.symm)
  · obtain ⟨C, hC, _⟩ := h.rows i b r hi hr'
    exact (h.rows i b r hi hr').of_block ((kept_cells hC hg hr).trans hC.symm)
theorem Grid.of_blocks {w w' : World} {B g : Nat} {bs : List Nat} {rs : List (List V)} (h : Grid w B g bs rs) (hg : w'.heap[g]? = w.heap[g]?) (hb : ∀ b ∈ bs, w'.heap[b]? = w.heap[b]?) : Grid w' B g bs rs :=
  ⟨h.len, h.outer.of_block hg, fun i b r hi hr => (h.rows i b r hi hr).of_block (hb b (List.mem_of_getElem? hi)), h.from_, h.nodup⟩

/-- Between two columns: the boxes, the rows so far, the segments that are left. -/
structure ReadI (w : World) (G : Nat → Prop) (s tb n g q : Nat) (bs : List Nat) (W : World) (R : List (List V)) (ls : List (List Nat)) : Prop where
  b0 : Boxed W w.heap.size 95 (.pointer (some ⟨s, 0, none⟩))
  b1 : Boxed W (w.heap.size + 1) 177 (.pointer (some ⟨tb, 0, none⟩))
  b2 : Boxed W (w.heap.size + 1 + 1) 29 (.slice none 0 0)
  b3 : Boxed W (w.heap.size + 1 + 1 + 1) 100 .nilIface
  left : ∃ sa hs sc, Boxed W q 115 (.slice sa ls.length sc) ∧ SegsAt w G sa hs ls ∧ ls.length ≤ sc
  grid : Grid W (w.heap.size + 4) g bs R
  wid : ∀ r ∈ R, r.length = n
  below : Below w.heap.size w W
  apart : w.heap.size + 4 ≤ q ∧ g < q ∧ ∀ b ∈ bs, b < q
  size : q + 3 ≤ W.heap.size
theorem ReadI.kept {w : World} {G : Nat → Prop} {s tb n g q : Nat} {bs : List Nat} {W W' : World} {R : List (List V)} {ls : List (List Nat)} {row : Option Nat} (h : ReadI w G s tb n g q bs W R ls) (hg : W.grownBy W' row) (hr : ∀ r, row = some r → w.heap.size ≤ r ∧ ∃ o : Obj, W.heap[r]? = some o ∧ o.isCells = false) : ReadI w G s tb n g q bs W' R ls := by
  obtain ⟨sa, hs, sc, h1, h2, h3⟩ := h.left
  have hr' : ∀ r, row = some r → ∃ o : Obj, W.heap[r]? = some o ∧ o.isCells = false := fun r e => (hr r e).2
  exact ⟨kept_cells h.b0 hg hr', kept_cells h.b1 hg hr', kept_cells h.b2 hg hr', kept_cells h.b3 hg hr', ⟨sa, hs, sc, kept_cells h1 hg hr', h2, h3⟩, h.grid.kept hg hr', h.wid, h.below.grown hg h.below.size (fun k e => (hr k e).1), h.apart, Nat.le_trans h.size hg.size⟩
theorem ReadI.ahead {w : World} {G : Nat → Prop} {s tb n g q : Nat} {bs : List Nat} {W W' : World} {R : List (List V)} {ls : List (List Nat)} (h : ReadI w G s tb n g q bs W R ls) (hb : Below W.heap.size W W') : ReadI w G s tb n g q bs W' R ls :=
  h.kept (row := none) ⟨hb.os, hb.tape, hb.output, hb.size, fun k hk _ => hb.block k hk⟩ (fun r e => by cases e)

/-- How read leaves its last round where a page is spoilt. -/
structure ReadX (w : World) (pg : Addr) (W : World) (j : Nat) : Prop where
  b2 : Boxed W (w.heap.size + 1 + 1) 29 (.slice none 0 0)
  b3 : ∃ b, Boxed W (w.heap.size + 1 + 1 + 1) 100 (.iface 226 (.pointer (some ⟨b, 0, none⟩))) ∧ w.heap.size ≤ b ∧ W.cell? ⟨b, 0, none⟩ = some (.iface 385 (.pointer (some pg))) ∧ W.cell? ⟨b, 1, none⟩ = some (.int .i64 (j : Int))
  below : Below w.heap.size w W
theorem ReadX.kept {w : World} {pg : Addr} {W W' : World} {j : Nat} {row : Option Nat} (h : ReadX w pg W j) (hg : W.grownBy W' row) (hr : ∀ r, row = some r → w.heap.size ≤ r ∧ ∃ o : Obj, W.heap[r]? = some o ∧ o.isCells = false) : ReadX w pg W' j := by
  obtain ⟨b, h3, hb, c1, c2⟩ := h.b3
  have hr' : ∀ r, row = some r → ∃ o : Obj, W.heap[r]? = some o ∧ o.isCells = false := fun r e => (hr r e).2
  exact ⟨kept_cells h.b2 hg hr', ⟨b, kept_cells h3 hg hr', hb, cell_kept c1 hg hr', cell_kept c2 hg hr'⟩, h.below.grown hg h.below.size (fun k e => (hr k e).1)⟩

theorem ReadI.bad {w : World} {G : Nat → Prop} {s tb n g q : Nat} {bs : List Nat} {W3 : World} {R : List (List V)} {ls : List (List Nat)} (h : ReadI w G s tb n g q bs W3 R ls) (be j : Nat) (pg : Addr) (hbe : q ≤ be) (hch : Chain W3 (.iface 226 (.pointer (some ⟨be, 0, none⟩))) pg none (some (j : Int))) :
    ReadX w pg ((W3.setCell ⟨w.heap.size + 1 + 1, 0, none⟩ (.slice none 0 0)).setCell ⟨w.heap.size + 1 + 1 + 1, 0, none⟩ (.iface 226 (.pointer (some ⟨be, 0, none⟩)))) j ∧ KeepsOthers W3 ((W3.setCell ⟨w.heap.size + 1 + 1, 0, none⟩ (.slice none 0 0)).setCell ⟨w.heap.size + 1 + 1 + 1, 0, none⟩ (.iface 226 (.pointer (some ⟨be, 0, none⟩)))) := by
  have hq := h.apart.1
  have hc : W3.cell? ⟨be, 0, none⟩ = some (.iface 385 (.pointer (some pg))) ∧ W3.cell? ⟨be, 1, none⟩ = some (.int .i64 (j : Int)) := hch.disk_at
  have hb3 : Boxed (W3.setCell ⟨w.heap.size + 1 + 1, 0, none⟩ (.slice none 0 0)) (w.heap.size + 1 + 1 + 1) 100 .nilIface := (Below.heap_setCell _ _ _ _ (by simp)).trans h.b3
  refine ⟨⟨(Below.heap_setCell _ _ _ _ (by simp)).trans (h.b2.set _), ⟨be, hb3.set _, by omega, ?_, ?_⟩, ?_⟩, (KeepsOthers.setCell _ _ _).trans (KeepsOthers.setCell _ _ _)⟩
  · rw [World.cell?_of_block (w := W3)]
    · exact hc.1
    · show (World.setCell _ _ _).heap[be]? = _
      rw [Below.heap_setCell _ _ _ _ (by simp; omega), Below.heap_setCell _ _ _ _ (by simp; omega)]
  · rw [World.cell?_of_block (w := W3)]
    · exact hc.2
    · show (World.setCell _ _ _).heap[be]? = _
      rw [Below.heap_setCell _ _ _ _ (by simp; omega), Below.heap_setCell _ _ _ _ (by simp; omega)]
  · exact (h.below.setCell (p := ⟨w.heap.size + 1 + 1, 0, none⟩) (by simp; omega) _).setCell (p := ⟨w.heap.size + 1 + 1 + 1, 0, none⟩) (by simp; omega) _

/-- What read answers. -/
def TReadPost (w : World) (pg : Addr) (r : List (List V) ⊕ Nat) (e : Ending) (w' : World) : Prop :=
  Below w.heap.size w w' ∧ match r with
    | .inl rs => ∃ g bs, e = .returned (.tuple #[.slice (some ⟨g, 0, none⟩) rs.length rs.length, .nilIface]) ∧ Grid w' w.heap.size g bs rs
    | .inr j => ∃ b, e = .returned (.tuple #[.slice none 0 0, .iface 226 (.pointer (some ⟨b, 0, none⟩))]) ∧ w.heap.size ≤ b ∧ Chain w' (.iface 226 (.pointer (some ⟨b, 0, none⟩))) pg none (some (j : Int))

/-- The first segment is taken off. -/
theorem SegsAt.tail {w : World} {F : Nat → Prop} {b o : Nat} {hs : List (Option Addr × Nat)} {ls : List (List Nat)} (h : SegsAt w F (some ⟨b, o, none⟩) hs ls) (o' : Nat) (ho : o' = o + 1 ∨ ls.length ≤ 1) : SegsAt w F (some ⟨b, o', none⟩) (hs.drop 1) (ls.drop 1) := by
  refine ⟨by simp [h.len], ?_, fun i x l hx hl => ?_, fun b2 o2 hb => ?_, fun i x hx b o hb => ?_⟩
  · rcases ho with rfl | ho
    · rcases h.cells with h0 | ⟨b2, o2, he, hb, hc⟩
      · left
        rw [← List.drop_zipWith, h0]
        rfl
      · cases he
        right
        refine ⟨b, o + 1, rfl, hb, fun i v hv => ?_⟩
        rw [← List.drop_zipWith, List.getElem?_drop] at hv
        have := hc _ v hv
        rw [Nat.add_assoc]
        exact this
    · left
      have : ls.drop 1 = [] := List.drop_eq_nil_of_le ho
      rw [this]
      simp
  · rw [List.getElem?_drop] at hx hl
    exact h.segs _ x l hx hl
  · cases hb
    exact h.aF b o rfl
  · rw [List.getElem?_drop] at hx
    exact h.hF _ x hx b o hb

theorem Grid.put {W W' : World} {B g : Nat} {bs : List Nat} {R : List (List V)} (h : Grid W B g bs R) (i c : Nat) (hi : i < R.length) (hib : i < bs.length) (v : V) (hrow : RowT W' bs[i] (R[i].set c v) []) (ho : ∀ k, k ≠ bs[i] → k < W.heap.size → W'.heap[k]? = W.heap[k]?) : Grid W' B g bs (R.set i (R[i].set c v)) := by
  refine ⟨by rw [List.length_set]; exact h.len, ?_, fun j b r hj hr => ?_, h.from_, h.nodup⟩
  · rw [List.length_set]
    refine (h.outer.of_block (ho g (h.from_.2 _ (List.getElem_mem hib)).2.symm h.outer.lt)).congr fun j hj => ?_
    by_cases e : i = j
    · subst e
      simp [gridV, hi]
    · simp [gridV, List.getElem?_set_ne e]
  · by_cases e : i = j
    · subst e
      rw [List.getElem?_eq_getElem hib] at hj
      rw [List.getElem?_set, if_pos rfl, if_pos hi] at hr
      cases hj
      cases hr
      exact hrow
    · rw [List.getElem?_set_ne e] at hr
      have h0 := h.rows j b r hj hr
      refine h0.of_block (ho b (fun eb => e ?_) h0.lt)
      obtain ⟨hjl, hjb⟩ := List.getElem?_eq_some_iff.1 hj
      rw [eb] at hjb
      exact ((List.getElem_inj h.nodup).1 hjb).symm

/-- One value is put into its row, by way of a box. -/
theorem ReadI.put {w : World} {G : Nat → Prop} {s tb n g q : Nat} {bs : List Nat} {W : World} {R : List (List V)} {ls : List (List Nat)} (h : ReadI w G s tb n g q bs W R ls) (i c : Nat) (hi : i < R.length) (hib : i < bs.length) (hc : c < n) (v : V) (o : Obj) :
    (∃ u : V, ((W.alloc o).cell? ⟨bs[i], c * 3, none⟩ = some (.int .i64 u.k) ∧ (W.alloc o).frozen? ⟨bs[i], c * 3, none⟩ = false) ∧ ((W.alloc o).cell? ⟨bs[i], c * 3 + 1, none⟩ = some (.int .i64 u.n) ∧ (W.alloc o).frozen? ⟨bs[i], c * 3 + 1, none⟩ = false) ∧ ((W.alloc o).cell? ⟨bs[i], c * 3 + 2, none⟩ = some (.string u.s) ∧ (W.alloc o).frozen? ⟨bs[i], c * 3 + 2, none⟩ = false)) ∧
    ReadI w G s tb n g q bs ((((W.alloc o).setCell ⟨bs[i], c * 3, none⟩ (.int .i64 v.k)).setCell ⟨bs[i], c * 3 + 1, none⟩ (.int .i64 v.n)).setCell ⟨bs[i], c * 3 + 2, none⟩ (.string v.s)) (R.set i (R[i].set c v)) ls ∧
    (∀ k, k ≠ bs[i] → k < W.heap.size → ((((W.alloc o).setCell ⟨bs[i], c * 3, none⟩ (.int .i64 v.k)).setCell ⟨bs[i], c * 3 + 1, none⟩ (.int .i64 v.n)).setCell ⟨bs[i], c * 3 + 2, none⟩ (.string v.s)).heap[k]? = W.heap[k]?) ∧
    KeepsOthers W ((((W.alloc o).setCell ⟨bs[i], c * 3, none⟩ (.int .i64 v.k)).setCell ⟨bs[i], c * 3 + 1, none⟩ (.int .i64 v.n)).setCell ⟨bs[i], c * 3 + 2, none⟩ (.string v.s)) := by
  have hw : R[i].length = n := h.wid _ (List.getElem_mem hi)
  have hr0 := h.grid.rows i bs[i] R[i] (by simp [hib]) (by simp [hi])
  have hr1 : RowT (W.alloc o) bs[i] R[i] [] := hr0.of_block (Below.heap_alloc _ _ _ hr0.lt)
  obtain ⟨u, k0, k1, k2, hput⟩ := hr1.put v c (by rw [hw]; exact hc)
  have hbi := h.grid.from_.2 _ (List.getElem_mem hib)
  have hbq := h.apart.2.2 _ (List.getElem_mem hib)
  have ho : ∀ k, k ≠ bs[i] → k < W.heap.size → ((((W.alloc o).setCell ⟨bs[i], c * 3, none⟩ (.int .i64 v.k)).setCell ⟨bs[i], c * 3 + 1, none⟩ (.int .i64 v.n)).setCell ⟨bs[i], c * 3 + 2, none⟩ (.string v.s)).heap[k]? = W.heap[k]? := fun k hk hl => by
    rw [Below.heap_setCell _ _ _ _ hk, Below.heap_setCell _ _ _ _ hk, Below.heap_setCell _ _ _ _ hk, Below.heap_alloc _ _ _ hl]
  have hsz := h.size
  obtain ⟨hq4, hgq, _⟩ := h.apart
  obtain ⟨sa, hs, sc, h1, h2, h3⟩ := h.left
  have hss : ((((W.alloc o).setCell ⟨bs[i], c * 3, none⟩ (.int .i64 v.k)).setCell ⟨bs[i], c * 3 + 1, none⟩ (.int .i64 v.n)).setCell ⟨bs[i], c * 3 + 2, none⟩ (.string v.s)).heap.size = W.heap.size + 1 := by simp [World.setCell]
  have hge := hbi.1
  refine ⟨⟨u, k0, k1, k2⟩, ⟨(ho _ (by omega) h.b0.lt).trans h.b0, (ho _ (by omega) h.b1.lt).trans h.b1, (ho _ (by omega) h.b2.lt).trans h.b2, (ho _ (by omega) h.b3.lt).trans h.b3, ⟨sa, hs, sc, (ho _ (by omega) h1.lt).trans h1, h2, h3⟩, h.grid.put i c hi hib v hput ho, fun r hr => ?_, ?_, h.apart, by rw [hss]; omega⟩, ho, (((KeepsOthers.alloc W o).trans (KeepsOthers.setCell _ _ _)).trans (KeepsOthers.setCell _ _ _)).trans (KeepsOthers.setCell _ _ _)⟩
  · rcases List.mem_or_eq_of_mem_set hr with hr | rfl
    · exact h.wid r hr
    · rw [List.length_set]; exact hw
  · exact (((h.below.alloc h.below.size o).setCell (p := ⟨bs[i], c * 3, none⟩) (by simp; omega) _).setCell (p := ⟨bs[i], c * 3 + 1, none⟩) (by simp; omega) _).setCell (p := ⟨bs[i], c * 3 + 2, none⟩) (by simp; omega) _

/-- The first segment of those left is read. -/
theorem ReadI.next {w : World} {G : Nat → Prop} {s tb n g q : Nat} {bs : List Nat} {W : World} {R : List (List V)} {ls : List (List Nat)} (h : ReadI w G s tb n g q bs W R ls) {b o o' sc : Nat} {hs : List (Option Addr × Nat)} (hL : Boxed W q 115 (.slice (some ⟨b, o, none⟩) ls.length sc)) (hS : SegsAt w G (some ⟨b, o, none⟩) hs ls) (hc : ls.length ≤ sc) (ho : o' = o + 1 ∨ ls.length ≤ 1) :
    ReadI w G s tb n g q bs (W.setCell ⟨q, 0, none⟩ (.slice (some ⟨b, o', none⟩) (ls.length - 1) (sc - 1))) R (ls.drop 1) := by
  obtain ⟨hq4, hgq, hbq⟩ := h.apart
  have hsz := h.size
  have ho' : ∀ k, k ≠ q → (W.setCell ⟨q, 0, none⟩ (.slice (some ⟨b, o', none⟩) (ls.length - 1) (sc - 1))).heap[k]? = W.heap[k]? := fun k hk => Below.heap_setCell _ _ _ _ hk
  refine ⟨(ho' _ (by omega)).trans h.b0, (ho' _ (by omega)).trans h.b1, (ho' _ (by omega)).trans h.b2, (ho' _ (by omega)).trans h.b3, ⟨_, hs.drop 1, sc - 1, ?_, hS.tail o' ho, by rw [List.length_drop]; omega⟩, h.grid.of_blocks (ho' _ (by omega)) (fun b hb => ho' b (by have := hbq b hb; omega)), h.wid, h.below.setCell (p := ⟨q, 0, none⟩) (by simp; omega) _, h.apart, by simpa [World.setCell] using hsz⟩
  rw [List.length_drop]
  exact hL.set _
theorem new3 (w : World) (a b c : Value) (t : TypeId) : (w.alloc (.cells #[a, b, c] t)).cell? ⟨w.heap.size, 0, none⟩ = some a ∧ (w.alloc (.cells #[a, b, c] t)).cell? ⟨w.heap.size, 1, none⟩ = some b ∧ (w.alloc (.cells #[a, b, c] t)).cell? ⟨w.heap.size, 2, none⟩ = some c := by
  have h := heap_alloc_new w (.cells #[a, b, c] t)
  generalize w.alloc (.cells #[a, b, c] t) = X at *
  simp [World.cell?, h]
end Go.Proofs.YtiicoehcjoocbaaGreatDoor
