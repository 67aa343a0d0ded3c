/- The law's own small functions: values handed over, and looked at behind the call. -/
import Derived.Test.YtfgklnenpichcaaGreatDoorKa
import Derived.Deep.RegionLaw
import Derived.Deep.RegionHeld3
import Derived.Deep.RegionWith
namespace Go.Proofs.YtfgklnenpichcaaGreatDoor
open Go.RowKit

def markV : V := ⟨-7, 0, ⟨#[109, 97, 114, 107]⟩⟩

/-- Block g holds just the values vs. -/
def RowV (w : World) (g : Nat) (vs : List V) : Prop := ∃ C : Array Value, w.heap[g]? = some (.cells C 36 (0, 0)) ∧ C.toList = vs.flatMap V.cells

theorem cells_len (vs : List V) : (vs.flatMap V.cells).length = vs.length * 3 := by
  induction vs with
  | nil => rfl
  | cons v vs ih => rw [List.flatMap_cons, List.length_append, ih]; simp [V.cells]; omega

theorem vals_src {w : World} {b o : Nat} {xs : List V} (h : ∀ i v, xs[i]? = some v → VAt w b (o + i * 3) v) : ∀ j u, (xs.flatMap V.cells)[j]? = some u → w.cell? ((⟨b, o, none⟩ : Addr).add j) = some u := by
  intro j u hj
  have key : ∀ (us : List V) (j : Nat) (u : Value), (us.flatMap V.cells)[j]? = some u → ∃ i v, us[i]? = some v ∧ ((j = i * 3 ∧ u = .int .i64 v.k) ∨ (j = i * 3 + 1 ∧ u = .int .i64 v.n) ∨ (j = i * 3 + 2 ∧ u = .string v.s)) := by
    intro us
    induction us with
    | nil => intro j u h; simp at h
    | cons v us ih =>
      intro j u h
      match j, h with
      | 0, h => exact ⟨0, v, rfl, by simp [V.cells] at h; simp [h]⟩
      | 1, h => exact ⟨0, v, rfl, by simp [V.cells] at h; simp [h]⟩
      | 2, h => exact ⟨0, v, rfl, by simp [V.cells] at h; simp [h]⟩
      | j + 3, h =>
        obtain ⟨i, v', hi, hc⟩ := ih j u (by simpa [V.cells] using h)
        refine ⟨i + 1, v', by simpa using hi, ?_⟩
        rcases hc with ⟨e, hu⟩ | ⟨e, hu⟩ | ⟨e, hu⟩
        · exact .inl ⟨by omega, hu⟩
        · exact .inr (.inl ⟨by omega, hu⟩)
        · exact .inr (.inr ⟨by omega, hu⟩)
  obtain ⟨i, v, hi, hc⟩ := key xs j u hj
  obtain ⟨h1, h2, h3⟩ := h i v hi
  have hadd : (⟨b, o, none⟩ : Addr).add j = ⟨b, o + j, none⟩ := by unfold Addr.add; split <;> simp_all
  rw [hadd]
  rcases hc with ⟨e, hu⟩ | ⟨e, hu⟩ | ⟨e, hu⟩
  · rw [e, hu]; exact h1
  · rw [e, hu, ← Nat.add_assoc]; exact h2
  · rw [e, hu, ← Nat.add_assoc]; exact h3

theorem cells_one (vs : List V) : ∀ u ∈ vs.flatMap V.cells, u.oneCell' = true := by
  intro u hu
  obtain ⟨v, _, hv⟩ := List.mem_flatMap.1 hu
  simp [V.cells] at hv
  rcases hv with rfl | rfl | rfl <;> rfl

theorem run_copy_V (w : World) (ty : TypeId) (g dLen dCap : Nat) (a : Option Addr) (cap : Nat) (xs : List V) (hx : Vals w a xs) (cur : Array Value) (hg : w.heap[g]? = some (.cells cur 36 (0, 0))) (hd : xs.length ≤ dLen) (hsz : xs.length * 3 ≤ cur.size) :
    (Builtin.copy_ #[37, 37] ty #[.slice (some ⟨g, 0, none⟩) dLen dCap, .slice a xs.length cap]).run Tryz.prog w =
      .ok (goInt xs.length) (w.setRow g (xs.flatMap V.cells ++ cur.toList.drop (xs.length * 3)).toArray) := by
  obtain ⟨i, hi, hz, hs3, hby⟩ := info_parts infoV
  have hmin : Nat.min xs.length dLen = xs.length := Nat.min_eq_left hd
  have hl3 := cells_len xs
  have hst := run_storeCells_at Tryz.prog g 0 36 (xs.flatMap V.cells) 0 cur w hg (by omega) (cells_one xs)
  simp only [Nat.zero_add, List.take_zero, List.nil_append, hl3] at hst
  have hu : Tryz.prog.underlying 37 = some (.slice 36) := by kernel_rfl
  rcases hx with hx | ⟨b, o, rfl, hb, hx⟩
  · subst hx
    simp at hst
    cases a with
    | none => simp [Builtin.copy_, run_underlying hu, Builtin.lenOf, Builtin.firstCells, sizeOf, typeInfo, hi, hst]
    | some a =>
      have hl := run_loadCells_list (P := Tryz.prog) w a [] (by intro j v h; simp at h)
      rw [List.length_nil] at hl
      simp [Builtin.copy_, run_underlying hu, Builtin.lenOf, Builtin.firstCells, sizeOf, typeInfo, hi, hl, hst]
  · have hl := run_loadCells_list (P := Tryz.prog) w ⟨b, o, none⟩ (xs.flatMap V.cells) (vals_src hx)
    rw [hl3] at hl
    simp [Builtin.copy_, run_underlying hu, Builtin.lenOf, Builtin.firstCells, sizeOf, typeInfo, hi, hs3, hmin, hl, hst]

/-- Block g holds the values vs, and behind them the cells tl. -/
def RowT (w : World) (g : Nat) (vs : List V) (tl : List Value) : Prop := ∃ C : Array Value, w.heap[g]? = some (.cells C 36 (0, 0)) ∧ C.toList = vs.flatMap V.cells ++ tl

theorem RowT.of_block {w w' : World} {g : Nat} {vs : List V} {tl : List Value} (h : RowT w g vs tl) (e : w'.heap[g]? = w.heap[g]?) : RowT w' g vs tl := by
  obtain ⟨C, hg, hC⟩ := h
  exact ⟨C, by rw [e]; exact hg, hC⟩
theorem RowT.lt {w : World} {g : Nat} {vs : List V} {tl : List Value} (h : RowT w g vs tl) : g < w.heap.size := by
  obtain ⟨C, hg, _⟩ := h
  rcases Nat.lt_or_ge g w.heap.size with h' | h'
  · exact h'
  · simp [Array.getElem?_eq_none h'] at hg
theorem RowT.cell {w : World} {g : Nat} {vs : List V} {tl : List Value} (h : RowT w g vs tl) {j : Nat} {x : Value} (hj : tl[j]? = some x) : w.cell? ⟨g, vs.length * 3 + j, none⟩ = some x ∧ w.frozen? ⟨g, vs.length * 3 + j, none⟩ = false := by
  obtain ⟨C, hg, hC⟩ := h
  have : C[vs.length * 3 + j]? = some x := by
    rw [← Array.getElem?_toList, hC, List.getElem?_append_right (by rw [cells_len]; omega), cells_len]
    have e : vs.length * 3 + j - vs.length * 3 = j := by omega
    rw [e]; exact hj
  exact ⟨by simp [World.cell?, hg, this], by simp [World.frozen?, hg]⟩
theorem RowT.vals {w : World} {g : Nat} {vs : List V} {tl : List Value} (h : RowT w g vs tl) : Vals w (some ⟨g, 0, none⟩) vs := by
  have hlt := h.lt
  obtain ⟨C, hg, hC⟩ := h
  have hown : w.ownsRow 0 36 3 (.slice (some ⟨g, 0, none⟩) vs.length C.size) vs.length (vs.flatMap V.cells) → True := fun _ => trivial
  clear hown
  refine .inr ⟨g, 0, rfl, hlt, fun i v hi => ?_⟩
  have key : ∀ (us : List V) (i : Nat) (v : V), us[i]? = some v → (us.flatMap V.cells)[i * 3]? = some (.int .i64 v.k) ∧ (us.flatMap V.cells)[i * 3 + 1]? = some (.int .i64 v.n) ∧ (us.flatMap V.cells)[i * 3 + 2]? = some (.string v.s) := by
    intro us
    induction us with
    | nil => intro i v h; simp at h
    | cons u us ih =>
      intro i v h
      cases i with
      | zero => simp at h; subst h; simp [V.cells]
      | succ i =>
        have := ih i v (by simpa using h)
        have e0 : (i + 1) * 3 = i * 3 + 3 := by omega
        simp only [List.flatMap_cons, V.cells, e0]
        simpa using this
  obtain ⟨k1, k2, k3⟩ := key vs i v hi
  have hin : i < vs.length := by
    rcases Nat.lt_or_ge i vs.length with h' | h'
    · exact h'
    · rw [List.getElem?_eq_none h'] at hi; simp at hi
  have g1 : C[i * 3]? = some (.int .i64 v.k) := by rw [← Array.getElem?_toList, hC, List.getElem?_append_left (by rw [cells_len]; omega)]; exact k1
  have g2 : C[i * 3 + 1]? = some (.int .i64 v.n) := by rw [← Array.getElem?_toList, hC, List.getElem?_append_left (by rw [cells_len]; omega)]; exact k2
  have g3 : C[i * 3 + 2]? = some (.string v.s) := by rw [← Array.getElem?_toList, hC, List.getElem?_append_left (by rw [cells_len]; omega)]; exact k3
  unfold VAt
  simp only [World.cell?, hg, Nat.zero_add]
  simp [g1, g2, g3]
theorem set_tl (C : Array Value) (pre tl : List Value) (x y : Value) (n : Nat) (h : C.toList = pre ++ x :: tl) (hn : pre.length = n) : (C.setIfInBounds n y).toList = (pre ++ [y]) ++ tl := by
  rw [Array.toList_setIfInBounds, h, List.set_append_right _ _ (by omega), hn, Nat.sub_self]
  simp
theorem RowT.set3 {w : World} {g : Nat} {vs : List V} {x0 x1 x2 : Value} {tl : List Value} (h : RowT w g vs (x0 :: x1 :: x2 :: tl)) (v : V) (n : Nat) (hn : n = vs.length) :
    RowT (((w.setCell ⟨g, n * 3, none⟩ (.int .i64 v.k)).setCell ⟨g, n * 3 + 1, none⟩ (.int .i64 v.n)).setCell ⟨g, n * 3 + 2, none⟩ (.string v.s)) g (vs ++ [v]) tl := by
  subst hn
  obtain ⟨C, hg, hC⟩ := h
  have hl := cells_len vs
  have h1 := set_tl C _ _ _ (.int .i64 v.k) _ hC hl
  have h2 := set_tl _ _ _ _ (.int .i64 v.n) (vs.length * 3 + 1) h1 (by simp [hl])
  have h3 := set_tl _ _ _ _ (.string v.s) (vs.length * 3 + 2) h2 (by simp [hl])
  refine ⟨_, ?_, h3.trans ?_⟩
  · simp [World.setCell, Array.getElem?_modify, hg]
  · simp [V.cells]
end Go.Proofs.YtfgklnenpichcaaGreatDoor

/-! The law's own functions: values are handed over with two of the caller's behind them, and looked at behind the call. -/
namespace Go.Proofs.YtfgklnenpichcaaGreatDoor
open Go.RowKit

end Go.Proofs.YtfgklnenpichcaaGreatDoor

/-! The law's own functions: do values that were handed over read as they did? -/
namespace Go.Proofs.YtfgklnenpichcaaGreatDoor
open Go.RowKit

theorem grown_trans {w w1 w2 : World} {r : Option Nat} (h : w.grownBy w1 r) (k : w1.grownBy w2 r) : w.grownBy w2 r :=
  ⟨k.os.trans h.os, k.tape.trans h.tape, k.output.trans h.output, Nat.le_trans h.size k.size, fun j hj hne => (k.block j (Nat.lt_of_lt_of_le hj h.size) hne).trans (h.block j hj hne)⟩
theorem grown_below {w w' : World} {r : Option Nat} (h : Below w.heap.size w w') : w.grownBy w' r := ⟨h.os, h.tape, h.output, h.size, fun j hj _ => h.block j hj⟩
theorem grown_set {w w' : World} {g : Nat} (h : w.grownBy w' (some g)) (o : Nat) (v : Value) : w.grownBy (w'.setCell ⟨g, o, none⟩ v) (some g) :=
  ⟨h.os, h.tape, h.output, by simpa [World.setCell] using h.size, fun j hj hne => (Below.heap_setCell _ _ _ _ (fun e => hne (by rw [e]))).trans (h.block j hj hne)⟩

theorem RowT.at3 {w : World} {g : Nat} {ys : List V} (h : RowT w g ys []) (v : V) (k : Nat) (hk : k < ys.length) :
    ((w.cell? ⟨g, k * 3, none⟩ = some (.int .i64 ys[k].k) ∧ w.frozen? ⟨g, k * 3, none⟩ = false) ∧ (w.cell? ⟨g, k * 3 + 1, none⟩ = some (.int .i64 ys[k].n) ∧ w.frozen? ⟨g, k * 3 + 1, none⟩ = false) ∧ (w.cell? ⟨g, k * 3 + 2, none⟩ = some (.string ys[k].s) ∧ w.frozen? ⟨g, k * 3 + 2, none⟩ = false)) ∧
    RowT (((w.setCell ⟨g, k * 3, none⟩ (.int .i64 v.k)).setCell ⟨g, k * 3 + 1, none⟩ (.int .i64 v.n)).setCell ⟨g, k * 3 + 2, none⟩ (.string v.s)) g (ys.set k v) [] := by
  obtain ⟨C, hg, hC⟩ := h
  rw [List.append_nil] at hC
  have hsplit : ys = ys.take k ++ ys[k] :: ys.drop (k + 1) := by rw [← List.drop_eq_getElem_cons hk, List.take_append_drop]
  have hlen : (ys.take k).length = k := by rw [List.length_take]; omega
  have h1 : RowT w g (ys.take k) (ys[k].cells ++ (ys.drop (k + 1)).flatMap V.cells) := by
    refine ⟨C, hg, ?_⟩
    rw [hC]
    conv => lhs; rw [hsplit]
    rw [List.flatMap_append, List.flatMap_cons]
  have c0 := h1.cell (j := 0) rfl
  have c1 := h1.cell (j := 1) rfl
  have c2 := h1.cell (j := 2) rfl
  rw [hlen] at c0 c1 c2
  rw [Nat.add_zero] at c0
  refine ⟨⟨c0, c1, c2⟩, ?_⟩
  obtain ⟨C', hg', hC'⟩ := h1.set3 v k hlen.symm
  refine ⟨C', hg', ?_⟩
  rw [hC', List.append_nil]
  have hset : ys.set k v = ys.take k ++ v :: ys.drop (k + 1) := by
    rw [List.set_eq_take_append_cons_drop, if_pos hk]
  rw [hset]
  simp [V.cells]

end Go.Proofs.YtfgklnenpichcaaGreatDoor
