/- A table read from the disk. -/
import Derived.Test.YtfgklnenpichcaaGreatDoorTj
import Derived.Test.YtfgklnenpichcaaGreatDoorTg
import Derived.Test.YtfgklnenpichcaaGreatDoorMa
namespace Go.Proofs.YtfgklnenpichcaaGreatDoor
open Go.RowKit Go.Shelf
attribute [local go_sem] Oper.semAt_some

/-- A column's values put into rows, from row o on. -/
def putCol (R : List (List V)) (o c : Nat) (vs : List V) : List (List V) := R.mapIdx fun i r => if o ≤ i ∧ i < o + vs.length then r.set c (vs.getD (i - o) zeroV) else r
theorem putCol_length (R : List (List V)) (o c : Nat) (vs : List V) : (putCol R o c vs).length = R.length := by simp [putCol]
/-- The first columns of a group read. -/
def readK (D : DS) (ls : List (List Nat)) (ts : List Int) (x : Nat × Nat) (R : List (List V)) : Nat → List (List V) ⊕ Nat
  | 0 => .inl R
  | k + 1 => match readK D ls ts x R k with
    | .inr j => .inr j
    | .inl R' => match valsOf D (ls.getD k []) (ts.getD k 0) x.2 with
      | .inr j => .inr j
      | .inl vs => .inl (putCol R' x.1 k vs)
theorem readK_bad (D : DS) (ls : List (List Nat)) (ts : List Int) (x : Nat × Nat) (R : List (List V)) (j : Nat) : ∀ (k m : Nat), readK D ls ts x R k = .inr j → k ≤ m → readK D ls ts x R m = .inr j := by
  intro k m h hm
  induction m with
  | zero => have : k = 0 := by omega
            subst this; exact h
  | succ m ih =>
    by_cases e : k = m + 1
    · subst e; exact h
    · simp only [readK, ih (by omega)]
def readS (D : DS) (ts : List Int) (acc : (List (List V) ⊕ Nat) × List (List Nat)) (x : Nat × Nat) : (List (List V) ⊕ Nat) × List (List Nat) :=
  (match acc.1 with
    | .inr j => .inr j
    | .inl R => readK D acc.2 ts x R ts.length, acc.2.drop ts.length)
/-- A table's rows, or the page that is told. -/
def readF (D : DS) (ts : List Int) (ls : List (List Nat)) (R : List (List V)) (xs : List (Nat × Nat)) : (List (List V) ⊕ Nat) × List (List Nat) := xs.foldl (readS D ts) (.inl R, ls)
theorem readF_snoc (D : DS) (ts : List Int) (ls : List (List Nat)) (R : List (List V)) (xs : List (Nat × Nat)) (x : Nat × Nat) : readF D ts ls R (xs ++ [x]) = readS D ts (readF D ts ls R xs) x := by simp [readF]
theorem readF_left (D : DS) (ts : List Int) (ls : List (List Nat)) (R : List (List V)) : ∀ xs : List (Nat × Nat), (readF D ts ls R xs).2 = ls.drop (xs.length * ts.length) := by
  intro xs
  have key : ∀ (xs : List (Nat × Nat)) (acc : (List (List V) ⊕ Nat) × List (List Nat)), (xs.foldl (readS D ts) acc).2 = acc.2.drop (xs.length * ts.length) := by
    intro xs
    induction xs with
    | nil => intro acc; simp
    | cons x xs ih =>
      intro acc
      rw [List.foldl_cons, ih]
      simp only [readS, List.drop_drop, List.length_cons]
      congr 1
      rw [Nat.succ_mul]
      omega
  exact key xs _
theorem readF_bad (D : DS) (ts : List Int) (ls : List (List Nat)) (R : List (List V)) (xs ys : List (Nat × Nat)) (j : Nat) (h : (readF D ts ls R xs).1 = .inr j) : (readF D ts ls R (xs ++ ys)).1 = .inr j := by
  have key : ∀ (ys : List (Nat × Nat)) (acc : (List (List V) ⊕ Nat) × List (List Nat)), acc.1 = .inr j → (ys.foldl (readS D ts) acc).1 = .inr j := by
    intro ys
    induction ys with
    | nil => intro acc h; exact h
    | cons y ys ih => intro acc h; exact ih _ (by simp [readS, h])
  unfold readF at h ⊢
  rw [List.foldl_append]
  exact key ys _ h
/-- The first columns of a group read, each behind what was read of it. -/
def colK (D : DS) (ls : List (List Nat)) (ts : List Int) (m : Nat) (cols : List (List V)) : Nat → List (List V) ⊕ Nat
  | 0 => .inl cols
  | k + 1 => match colK D ls ts m cols k with
    | .inr j => .inr j
    | .inl cs => match valsOf D (ls.getD k []) (ts.getD k 0) m with
      | .inr j => .inr j
      | .inl vs => .inl (cs.set k (cs.getD k [] ++ vs))
theorem colK_bad (D : DS) (ls : List (List Nat)) (ts : List Int) (m : Nat) (cols : List (List V)) (j : Nat) : ∀ (k n : Nat), colK D ls ts m cols k = .inr j → k ≤ n → colK D ls ts m cols n = .inr j := by
  intro k n h hn
  induction n with
  | zero => have : k = 0 := by omega
            subst this; exact h
  | succ n ih =>
    by_cases e : k = n + 1
    · subst e; exact h
    · simp only [colK, ih (by omega)]
def colS (D : DS) (ts : List Int) (acc : (List (List V) ⊕ Nat) × List (List Nat)) (x : Nat × Nat) : (List (List V) ⊕ Nat) × List (List Nat) :=
  (match acc.1 with
    | .inr j => .inr j
    | .inl cs => colK D acc.2 ts x.2 cs ts.length, acc.2.drop ts.length)
/-- A table's columns, or the page that is told. -/
def colF (D : DS) (ts : List Int) (ls : List (List Nat)) (cols : List (List V)) (xs : List (Nat × Nat)) : (List (List V) ⊕ Nat) × List (List Nat) := xs.foldl (colS D ts) (.inl cols, ls)
theorem colF_snoc (D : DS) (ts : List Int) (ls : List (List Nat)) (cols : List (List V)) (xs : List (Nat × Nat)) (x : Nat × Nat) : colF D ts ls cols (xs ++ [x]) = colS D ts (colF D ts ls cols xs) x := by simp [colF]
theorem colF_left (D : DS) (ts : List Int) (ls : List (List Nat)) (cols : List (List V)) : ∀ xs : List (Nat × Nat), (colF D ts ls cols xs).2 = ls.drop (xs.length * ts.length) := by
  intro xs
  have key : ∀ (xs : List (Nat × Nat)) (acc : (List (List V) ⊕ Nat) × List (List Nat)), (xs.foldl (colS D ts) acc).2 = acc.2.drop (xs.length * ts.length) := by
    intro xs
    induction xs with
    | nil => intro acc; simp
    | cons x xs ih =>
      intro acc
      rw [List.foldl_cons, ih]
      simp only [colS, List.drop_drop, List.length_cons]
      congr 1
      rw [Nat.succ_mul]
      omega
  exact key xs _
theorem colF_bad (D : DS) (ts : List Int) (ls : List (List Nat)) (cols : List (List V)) (xs ys : List (Nat × Nat)) (j : Nat) (h : (colF D ts ls cols xs).1 = .inr j) : (colF D ts ls cols (xs ++ ys)).1 = .inr j := by
  have key : ∀ (ys : List (Nat × Nat)) (acc : (List (List V) ⊕ Nat) × List (List Nat)), acc.1 = .inr j → (ys.foldl (colS D ts) acc).1 = .inr j := by
    intro ys
    induction ys with
    | nil => intro acc h; exact h
    | cons y ys ih => intro acc h; exact ih _ (by simp [colS, h])
  unfold colF at h ⊢
  rw [List.foldl_append]
  exact key ys _ h

/-- Columns, as rows. -/
def gridOf (n : Nat) (cols : List (List V)) : List (List V) := (List.range n).map fun i => cols.map fun c => c.getD i zeroV
theorem gridOf_length (n : Nat) (cols : List (List V)) : (gridOf n cols).length = n := by simp [gridOf]
theorem gridOf_blank (n k : Nat) : gridOf n (List.replicate k []) = List.replicate n (List.replicate k zeroV) := by
  apply List.ext_getElem
  · simp [gridOf]
  · intro i h1 h2
    simp [gridOf]
theorem putCol_grid (n o k : Nat) (cols : List (List V)) (vs : List V) (hk : k < cols.length) (ho : (cols.getD k []).length = o) : putCol (gridOf n cols) o k vs = gridOf n (cols.set k (cols.getD k [] ++ vs)) := by
  apply List.ext_getElem
  · simp [putCol, gridOf]
  · intro i h1 h2
    simp only [putCol, gridOf, List.getElem_mapIdx, List.getElem_map, List.getElem_range, List.map_set]
    have hg : cols.getD k [] = cols[k] := by simp [hk]
    rw [hg] at ho ⊢
    by_cases hi : o ≤ i
    · by_cases hj : i < o + vs.length
      · rw [if_pos ⟨hi, hj⟩]
        congr 1
        rw [List.getD_eq_getElem?_getD, List.getD_eq_getElem?_getD, List.getElem?_append_right (by omega), ho]
      · rw [if_neg (fun h => hj h.2)]
        apply List.ext_getElem
        · simp
        · intro c h3 h4
          rw [List.getElem_set]
          split
          · rename_i e; subst e
            rw [List.getElem_map, List.getD_eq_getElem?_getD, List.getD_eq_getElem?_getD, List.getElem?_append_right (by omega), List.getElem?_eq_none (by omega), List.getElem?_eq_none (by omega)]
          · rfl
    · rw [if_neg (fun h => hi h.1)]
      apply List.ext_getElem
      · simp
      · intro c h3 h4
        rw [List.getElem_set]
        split
        · rename_i e; subst e
          rw [List.getElem_map, List.getD_eq_getElem?_getD, List.getD_eq_getElem?_getD, List.getElem?_append_left (by omega)]
        · rfl
theorem readK_grid (D : DS) (ls : List (List Nat)) (ts : List Int) (n o m : Nat) (cols : List (List V)) (hv : ∀ l t vs, valsOf D l t m = .inl vs → vs.length = m) (ho : ∀ c, c < cols.length → (cols.getD c []).length = o) : ∀ k, k ≤ cols.length →
    readK D ls ts (o, m) (gridOf n cols) k = Sum.map (gridOf n) id (colK D ls ts m cols k) ∧ ∀ cs, colK D ls ts m cols k = .inl cs → cs.length = cols.length ∧ (∀ c, c < k → (cs.getD c []).length = o + m) ∧ ∀ c, k ≤ c → cs.getD c [] = cols.getD c [] := by
  intro k
  induction k with
  | zero => intro _; exact ⟨rfl, fun cs h => by simp [colK] at h; subst h; exact ⟨rfl, fun c h => by omega, fun c _ => rfl⟩⟩
  | succ k ih =>
    intro hk
    obtain ⟨h1, h2⟩ := ih (by omega)
    simp only [readK, colK, h1]
    cases hc : colK D ls ts m cols k with
    | inr j => exact ⟨rfl, fun cs h => by simp at h⟩
    | inl cs =>
      obtain ⟨q1, q2, q3⟩ := h2 cs hc
      simp only [Sum.map_inl]
      cases hw : valsOf D (ls.getD k []) (ts.getD k 0) m with
      | inr j => exact ⟨rfl, fun cs h => by simp at h⟩
      | inl vs =>
        have hl := hv _ _ _ hw
        have hko : (cs.getD k []).length = o := by rw [q3 k (Nat.le_refl _)]; exact ho k (by omega)
        refine ⟨?_, ?_⟩
        · simp only [Sum.map_inl]
          rw [putCol_grid n o k cs vs (by omega) hko]
        · intro cs' h
          simp at h
          subst h
          refine ⟨by simpa using q1, fun c hc => ?_, fun c hc => ?_⟩
          · by_cases e : c = k
            · subst e
              rw [List.getD_eq_getElem?_getD, List.getElem?_set_self (by omega)]
              simp only [Option.getD_some, List.length_append]
              rw [hl]
              have := hko
              simp only [List.getD_eq_getElem?_getD] at this
              omega
            · have := q2 c (by omega)
              rw [List.getD_eq_getElem?_getD, List.getElem?_set_ne (by omega)]
              simpa using this
          · have := q3 c (by omega)
            rw [List.getD_eq_getElem?_getD, List.getElem?_set_ne (by omega)]
            simpa using this
theorem ckN_reach {len g : Nat} (hg : 1 ≤ g) : len ≤ ckN len g * g := by
  unfold ckN
  have h1 := Nat.div_add_mod (len + g - 1) g
  have h2 := Nat.mod_lt (len + g - 1) hg
  rw [Nat.mul_comm] at h1
  omega
theorem readF_grid (D : DS) (ts : List Int) (ls : List (List Nat)) (len g : Nat) (hg : 1 ≤ g) (hv : ∀ l t m vs, valsOf D l t m = .inl vs → vs.length = m) : ∀ k, k ≤ ckN len g →
    (readF D ts ls (List.replicate len (List.replicate ts.length zeroV)) (cks len g k)).1 = Sum.map (gridOf len) id (colF D ts ls (List.replicate ts.length []) (cks len g k)).1 ∧
      ∀ cs, (colF D ts ls (List.replicate ts.length []) (cks len g k)).1 = .inl cs → cs.length = ts.length ∧ ∀ c, c < cs.length → (cs.getD c []).length = min (k * g) len := by
  intro k
  induction k with
  | zero =>
    intro _
    refine ⟨?_, ?_⟩
    · simp [cks, readF, colF, gridOf_blank]
    · intro cs h
      simp [cks, colF] at h
      subst h
      refine ⟨by simp, fun c hc => ?_⟩
      simp at hc
      simp [hc]
  | succ k ih =>
    intro hk
    obtain ⟨h1, h2⟩ := ih (by omega)
    have hlt := ckN_lt hg (show k < ckN len g by omega)
    rw [cks_succ, readF_snoc, colF_snoc]
    simp only [readS, colS, readF_left, colF_left, h1]
    cases hc : (colF D ts ls (List.replicate ts.length []) (cks len g k)).1 with
    | inr j => exact ⟨rfl, fun cs h => by simp at h⟩
    | inl cs =>
      obtain ⟨q1, q2⟩ := h2 cs hc
      simp only [Sum.map_inl]
      have hck : ckAt len g k = (k * g, min g (len - k * g)) := rfl
      rw [hck]
      obtain ⟨r1, r2⟩ := readK_grid D (ls.drop ((cks len g k).length * ts.length)) ts len (k * g) (min g (len - k * g)) cs (fun l t vs h => hv l t _ vs h) (fun c hc => by rw [q2 c hc]; omega) ts.length (by omega)
      refine ⟨r1, fun cs' h => ?_⟩
      obtain ⟨s1, s2, _⟩ := r2 cs' h
      refine ⟨by omega, fun c hc => ?_⟩
      rw [s2 c (by omega), Nat.succ_mul]
      omega
theorem valsOf_len {D : DS} {l : List Nat} {t : Int} {m : Nat} {vs : List V} (h : valsOf D l t m = .inl vs) : vs.length = m := by
  unfold valsOf at h
  split at h
  · simp at h
  · split at h
    · split at h
      · rename_i hc; simp at h; subst h; exact hc.2
      · simp at h
    · simp at h

/-- The first segment is taken off. -/
theorem SegsAt.tail {w : World} {F : Nat → Prop} {b o : Nat} {hs : List (Option Addr × Nat)} {ls : List (List Nat)} (h : SegsAt w F (some ⟨b, o, none⟩) hs ls) (o' : Nat) (ho : o' = o + 1 ∨ ls.length ≤ 1) : SegsAt w F (some ⟨b, o', none⟩) (hs.drop 1) (ls.drop 1) := by
  refine ⟨by simp [h.len], ?_, fun i x l hx hl => ?_, fun b2 o2 hb => ?_, fun i x hx b o hb => ?_⟩
  · rcases ho with rfl | ho
    · rcases h.cells with h0 | ⟨b2, o2, he, hb, hc⟩
      · left
        rw [← List.drop_zipWith, h0]
        rfl
      · cases he
        right
        refine ⟨b, o + 1, rfl, hb, fun i v hv => ?_⟩
        rw [← List.drop_zipWith, List.getElem?_drop] at hv
        have := hc _ v hv
        rw [Nat.add_assoc]
        exact this
    · left
      have : ls.drop 1 = [] := List.drop_eq_nil_of_le ho
      rw [this]
      simp
  · rw [List.getElem?_drop] at hx hl
    exact h.segs _ x l hx hl
  · cases hb
    exact h.aF b o rfl
  · rw [List.getElem?_drop] at hx
    exact h.hF _ x hx b o hb

theorem Grid.of_blocks {w w' : World} {B g : Nat} {bs : List Nat} {rs : List (List V)} (h : Grid w B g bs rs) (hg : w'.heap[g]? = w.heap[g]?) (hb : ∀ b ∈ bs, w'.heap[b]? = w.heap[b]?) : Grid w' B g bs rs :=
  ⟨h.len, h.outer.of_block hg, fun i b r hi hr => (h.rows i b r hi hr).of_block (hb b (List.mem_of_getElem? hi)), h.from_, h.nodup⟩
theorem new3 (w : World) (a b c : Value) (t : TypeId) : (w.alloc (.cells #[a, b, c] t)).cell? ⟨w.heap.size, 0, none⟩ = some a ∧ (w.alloc (.cells #[a, b, c] t)).cell? ⟨w.heap.size, 1, none⟩ = some b ∧ (w.alloc (.cells #[a, b, c] t)).cell? ⟨w.heap.size, 2, none⟩ = some c := by
  have h := heap_alloc_new w (.cells #[a, b, c] t)
  generalize w.alloc (.cells #[a, b, c] t) = X at *
  simp [World.cell?, h]

/-- A slice in a list of slices; none lies there: nil. -/
abbrev svAt (svs : List Value) (i : Nat) : Value := svs.getD i (.slice none 0 0)
/-- Columns that a call itself makes, in blocks from B on: a list of them in the block g, each in memory of its own. -/
structure ColT (w : World) (B g : Nat) (svs : List Value) (cs : List (List V)) : Prop where
  row : w.rowIs g 37 svs.length (svAt svs)
  low : B ≤ g
  len : svs.length = cs.length
  own : ∀ i, i < cs.length → OwnV w B (svAt svs i) (cs.getD i [])
  ne : ∀ i, i < cs.length → (svAt svs i).ownBlock ≠ some g
  apart : ∀ i j b, i < cs.length → j < cs.length → i ≠ j → (svAt svs i).ownBlock = some b → (svAt svs j).ownBlock ≠ some b
theorem ColT.below {w w' : World} {B g : Nat} {svs : List Value} {cs : List (List V)} (h : ColT w B g svs cs) (hb : Below w.heap.size w w') : ColT w' B g svs cs :=
  ⟨h.row.of_block (hb.block _ h.row.lt), h.low, h.len, fun i hi => (h.own i hi).below hb, h.ne, h.apart⟩
theorem svAt_set {svs : List Value} {c i : Nat} {v : Value} (hc : c < svs.length) : svAt (svs.set c v) i = if i = c then v else svAt svs i := by
  unfold svAt
  rw [List.getD_eq_getElem?_getD, List.getD_eq_getElem?_getD]
  by_cases e : i = c
  · subst e; rw [List.getElem?_set_self hc, if_pos rfl]; rfl
  · rw [List.getElem?_set_ne (fun h => e h.symm), if_neg e]
theorem col_set {cs : List (List V)} {c i : Nat} {v : List V} (hc : c < cs.length) : (cs.set c v).getD i [] = if i = c then v else cs.getD i [] := by
  rw [List.getD_eq_getElem?_getD, List.getD_eq_getElem?_getD]
  by_cases e : i = c
  · subst e; rw [List.getElem?_set_self hc, if_pos rfl]; rfl
  · rw [List.getElem?_set_ne (fun h => e h.symm), if_neg e]
/-- A column that has grown is laid where it was. -/
theorem ColT.put {w w' : World} {B g c : Nat} {svs : List Value} {cs : List (List V)} {vs : List V} {sv' : Value} (h : ColT w B g svs cs) (hc : c < cs.length) (ho : OwnV w' B sv' (cs.getD c [] ++ vs)) (hg : w.grownBy w' (svAt svs c).ownBlock) (hs : sv'.ownBlock = (svAt svs c).ownBlock ∨ sv'.ownBlock = some w.heap.size) :
    ColT (w'.setCell ⟨g, c, none⟩ sv') B g (svs.set c sv') (cs.set c (cs.getD c [] ++ vs)) := by
  have hcs : c < svs.length := by rw [h.len]; exact hc
  have hgl := h.row.lt
  have hgb : w'.heap[g]? = w.heap[g]? := hg.block g hgl (fun e => h.ne c hc e.symm)
  have hsg : sv'.ownBlock ≠ some g := by
    rcases hs with e | e
    · rw [e]; exact h.ne c hc
    · rw [e]; intro e2; simp at e2; omega
  have hlt : ∀ i b, i < cs.length → (svAt svs i).ownBlock = some b → b < w.heap.size := fun i b hi hb => (owns_block (h.own i hi) hb).2
  have hns : ∀ i b, i < cs.length → i ≠ c → (svAt svs i).ownBlock = some b → sv'.ownBlock ≠ some b := by
    intro i b hi hic hb
    rcases hs with e | e
    · rw [e]; exact h.apart i c b hi hc hic hb
    · rw [e]; intro e2; simp at e2; have := hlt i b hi hb; omega
  refine ⟨?_, h.low, by simp [h.len], fun i hi => ?_, fun i hi => ?_, fun i j b hi hj hij hb => ?_⟩
  · rw [List.length_set]
    exact ((h.row.of_block hgb).set c sv').congr fun j _ => by rw [svAt_set hcs]
  · rw [List.length_set] at hi
    rw [svAt_set hcs, col_set hc]
    split
    · exact owns_of_block ho fun b hb => Below.heap_setCell _ _ _ _ (by rintro rfl; exact hsg hb)
    · rename_i hic
      refine owns_of_block (h.own i hi) fun b hb => ?_
      rw [Below.heap_setCell _ _ _ _ (by rintro rfl; exact h.ne i hi hb)]
      exact hg.block b (hlt i b hi hb) (fun e => h.apart i c b hi hc hic hb e.symm)
  · rw [List.length_set] at hi
    rw [svAt_set hcs]
    split
    · exact hsg
    · exact h.ne i hi
  · rw [List.length_set] at hi hj
    rw [svAt_set hcs] at hb ⊢
    by_cases hic : i = c
    · rw [if_pos hic] at hb
      rw [if_neg (by omega)]
      intro e
      exact hns j b hj (by omega) e hb
    · rw [if_neg hic] at hb
      by_cases hjc : j = c
      · rw [if_pos hjc]; exact hns i b hi hic hb
      · rw [if_neg hjc]; exact h.apart i j b hi hj hij hb

/-- 'l = append(l, vs...)', vs values that lie in a block of their own. -/
theorem wpList_append_Vs {w : World} {ops : Array Oper} {rest : List Oper} {o : Oper} {a : Act} {Q : Exit → Act → World → Prop} (hgd : o.guard = none) (s x : Operand)
    (ho : o.op = .call { callee := .builtin .append, args := #[s, x], argTypes := #[37, 37] })
    (B : Nat) (sv : Value) (us : List V) (hs : a.eval s = sv) (hown : OwnV w B sv us)
    (g c : Nat) (vs : List V) (hx : a.eval x = .slice (some ⟨g, 0, none⟩) vs.length c) (hv : RowT w g vs []) (hlen : us.length + vs.length ≤ 1000000) (hbase : B ≤ w.heap.size)
    (h : ∀ sv' w', OwnV w' B sv' (us ++ vs) → w.grownBy w' sv.ownBlock → (sv'.ownBlock = sv.ownBlock ∨ sv'.ownBlock = some w.heap.size) → wpList Tryz.prog ops Q rest (a.put o.dst sv') w') :
    wpList Tryz.prog ops Q (o :: rest) a w := by
  obtain ⟨i, hi, hz, hsz, hby⟩ := info_parts infoV
  obtain ⟨C, hC, hCl⟩ := hv
  rw [List.append_nil] at hCl
  refine wpList_append_own_at w hgd s x 37 ho B 36 i _ 3 32 (by kernel_rfl) hi hz hsz hby rfl (by decide) sv us.length (us.flatMap V.cells) hs hown ⟨g, 0, none⟩ vs.length c (vs.flatMap V.cells) hx ?_ ?_ ?_ ?_ ?_ hbase ?_
  · exact cells_len vs
  · intro j u hj
    rw [← hCl] at hj
    have ha : (⟨g, 0, none⟩ : Addr).add j = ⟨g, j, none⟩ := by
      rcases j with _ | j
      · rfl
      · simp [Addr.add]
    rw [ha]
    simpa [World.cell?, hC] using hj
  · intro u hu
    obtain ⟨v, _, hu⟩ := List.mem_flatMap.1 hu
    simp [V.cells] at hu
    rcases hu with rfl | rfl | rfl <;> rfl
  · unfold maxLen; omega
  · omega
  · intro v' w' h1 h2 _ h4
    refine h v' w' ?_ h2 h4
    unfold OwnV
    simpa using h1
end Go.Proofs.YtfgklnenpichcaaGreatDoor
