/- The law's own small functions: values handed over, and looked at behind the call. -/
import Derived.Test.YtiicoehcjoocbaaGreatDoorKa
import Derived.Deep.RegionLaw
import Derived.Deep.RegionHeld3
import Derived.Deep.RegionWith
namespace Go.Proofs.YtiicoehcjoocbaaGreatDoor
open Go.RowKit

def markV : V := ⟨-7, 0, ⟨#[109, 97, 114, 107]⟩⟩

/-- Block g holds just the values vs. -/
def RowV (w : World) (g : Nat) (vs : List V) : Prop := ∃ C : Array Value, w.heap[g]? = some (.cells C 49 (0, 0)) ∧ C.toList = vs.flatMap V.cells

theorem cells_len (vs : List V) : (vs.flatMap V.cells).length = vs.length * 3 := by
  induction vs with
  | nil => rfl
  | cons v vs ih => rw [List.flatMap_cons, List.length_append, ih]; simp [V.cells]; omega

theorem vals_src {w : World} {b o : Nat} {xs : List V} (h : ∀ i v, xs[i]? = some v → VAt w b (o + i * 3) v) : ∀ j u, (xs.flatMap V.cells)[j]? = some u → w.cell? ((⟨b, o, none⟩ : Addr).add j) = some u := by
  intro j u hj
  have key : ∀ (us : List V) (j : Nat) (u : Value), (us.flatMap V.cells)[j]? = some u → ∃ i v, us[i]? = some v ∧ ((j = i * 3 ∧ u = .int .i64 v.k) ∨ (j = i * 3 + 1 ∧ u = .int .i64 v.n) ∨ (j = i * 3 + 2 ∧ u = .string v.s)) := by
    intro us
    induction us with
    | nil => intro j u h; simp at h
    | cons v us ih =>
      intro j u h
      match j, h with
      | 0, h => exact ⟨0, v, rfl, by simp [V.cells] at h; simp [h]⟩
      | 1, h => exact ⟨0, v, rfl, by simp [V.cells] at h; simp [h]⟩
      | 2, h => exact ⟨0, v, rfl, by simp [V.cells] at h; simp [h]⟩
      | j + 3, h =>
        obtain ⟨i, v', hi, hc⟩ := ih j u (by simpa [V.cells] using h)
        refine ⟨i + 1, v', by simpa using hi, ?_⟩
        rcases hc with ⟨e, hu⟩ | ⟨e, hu⟩ | ⟨e, hu⟩
        · exact .inl ⟨by omega, hu⟩
        · exact .inr (.inl ⟨by omega, hu⟩)
        · exact .inr (.inr ⟨by omega, hu⟩)
  obtain ⟨i, v, hi, hc⟩ := key xs j u hj
  obtain ⟨h1, h2, h3⟩ := h i v hi
  have hadd : (⟨b, o, none⟩ : Addr).add j = ⟨b, o + j, none⟩ := by unfold Addr.add; split <;> simp_all
  rw [hadd]
  rcases hc with ⟨e, hu⟩ | ⟨e, hu⟩ | ⟨e, hu⟩
  · rw [e, hu]; exact h1
  · rw [e, hu, ← Nat.add_assoc]; exact h2
  · rw [e, hu, ← Nat.add_assoc]; exact h3

theorem cells_one (vs : List V) : ∀ u ∈ vs.flatMap V.cells, u.oneCell' = true := by
  intro u hu
  obtain ⟨v, _, hv⟩ := List.mem_flatMap.1 hu
  simp [V.cells] at hv
  rcases hv with rfl | rfl | rfl <;> rfl

theorem run_copy_V (w : World) (ty : TypeId) (g dLen dCap : Nat) (a : Option Addr) (cap : Nat) (xs : List V) (hx : Vals w a xs) (cur : Array Value) (hg : w.heap[g]? = some (.cells cur 49 (0, 0))) (hd : xs.length ≤ dLen) (hsz : xs.length * 3 ≤ cur.size) :
    (Builtin.copy_ #[50, 50] ty #[.slice (some ⟨g, 0, none⟩) dLen dCap, .slice a xs.length cap]).run Tryz.prog w =
      .ok (goInt xs.length) (w.setRow g (xs.flatMap V.cells ++ cur.toList.drop (xs.length * 3)).toArray) := by
  obtain ⟨i, hi, hz, hs3, hby⟩ := info_parts infoV
  have hmin : Nat.min xs.length dLen = xs.length := Nat.min_eq_left hd
  have hl3 := cells_len xs
  have hst := run_storeCells_at Tryz.prog g 0 49 (xs.flatMap V.cells) 0 cur w hg (by omega) (cells_one xs)
  simp only [Nat.zero_add, List.take_zero, List.nil_append, hl3] at hst
  have hu : Tryz.prog.underlying 50 = some (.slice 49) := by kernel_rfl
  rcases hx with hx | ⟨b, o, rfl, hb, hx⟩
  · subst hx
    simp at hst
    cases a with
    | none => simp [Builtin.copy_, run_underlying hu, Builtin.lenOf, Builtin.firstCells, sizeOf, typeInfo, hi, hst]
    | some a =>
      have hl := run_loadCells_list (P := Tryz.prog) w a [] (by intro j v h; simp at h)
      rw [List.length_nil] at hl
      simp [Builtin.copy_, run_underlying hu, Builtin.lenOf, Builtin.firstCells, sizeOf, typeInfo, hi, hl, hst]
  · have hl := run_loadCells_list (P := Tryz.prog) w ⟨b, o, none⟩ (xs.flatMap V.cells) (vals_src hx)
    rw [hl3] at hl
    simp [Builtin.copy_, run_underlying hu, Builtin.lenOf, Builtin.firstCells, sizeOf, typeInfo, hi, hs3, hmin, hl, hst]

/-- Block g holds the values vs, and behind them the cells tl. -/
def RowT (w : World) (g : Nat) (vs : List V) (tl : List Value) : Prop := ∃ C : Array Value, w.heap[g]? = some (.cells C 49 (0, 0)) ∧ C.toList = vs.flatMap V.cells ++ tl

theorem RowT.of_block {w w' : World} {g : Nat} {vs : List V} {tl : List Value} (h : RowT w g vs tl) (e : w'.heap[g]? = w.heap[g]?) : RowT w' g vs tl := by
  obtain ⟨C, hg, hC⟩ := h
  exact ⟨C, by rw [e]; exact hg, hC⟩
theorem RowT.lt {w : World} {g : Nat} {vs : List V} {tl : List Value} (h : RowT w g vs tl) : g < w.heap.size := by
  obtain ⟨C, hg, _⟩ := h
  rcases Nat.lt_or_ge g w.heap.size with h' | h'
  · exact h'
  · simp [Array.getElem?_eq_none h'] at hg
theorem RowT.cell {w : World} {g : Nat} {vs : List V} {tl : List Value} (h : RowT w g vs tl) {j : Nat} {x : Value} (hj : tl[j]? = some x) : w.cell? ⟨g, vs.length * 3 + j, none⟩ = some x ∧ w.frozen? ⟨g, vs.length * 3 + j, none⟩ = false := by
  obtain ⟨C, hg, hC⟩ := h
  have : C[vs.length * 3 + j]? = some x := by
    rw [← Array.getElem?_toList, hC, List.getElem?_append_right (by rw [cells_len]; omega), cells_len]
    have e : vs.length * 3 + j - vs.length * 3 = j := by omega
    rw [e]; exact hj
  exact ⟨by simp [World.cell?, hg, this], by simp [World.frozen?, hg]⟩
theorem RowT.vals {w : World} {g : Nat} {vs : List V} {tl : List Value} (h : RowT w g vs tl) : Vals w (some ⟨g, 0, none⟩) vs := by
  have hlt := h.lt
  obtain ⟨C, hg, hC⟩ := h
  have hown : w.ownsRow 0 49 3 (.slice (some ⟨g, 0, none⟩) vs.length C.size) vs.length (vs.flatMap V.cells) → True := fun _ => trivial
  clear hown
  refine .inr ⟨g, 0, rfl, hlt, fun i v hi => ?_⟩
  have key : ∀ (us : List V) (i : Nat) (v : V), us[i]? = some v → (us.flatMap V.cells)[i * 3]? = some (.int .i64 v.k) ∧ (us.flatMap V.cells)[i * 3 + 1]? = some (.int .i64 v.n) ∧ (us.flatMap V.cells)[i * 3 + 2]? = some (.string v.s) := by
    intro us
    induction us with
    | nil => intro i v h; simp at h
    | cons u us ih =>
      intro i v h
      cases i with
      | zero => simp at h; subst h; simp [V.cells]
      | succ i =>
        have := ih i v (by simpa using h)
        have e0 : (i + 1) * 3 = i * 3 + 3 := by omega
        simp only [List.flatMap_cons, V.cells, e0]
        simpa using this
  obtain ⟨k1, k2, k3⟩ := key vs i v hi
  have hin : i < vs.length := by
    rcases Nat.lt_or_ge i vs.length with h' | h'
    · exact h'
    · rw [List.getElem?_eq_none h'] at hi; simp at hi
  have g1 : C[i * 3]? = some (.int .i64 v.k) := by rw [← Array.getElem?_toList, hC, List.getElem?_append_left (by rw [cells_len]; omega)]; exact k1
  have g2 : C[i * 3 + 1]? = some (.int .i64 v.n) := by rw [← Array.getElem?_toList, hC, List.getElem?_append_left (by rw [cells_len]; omega)]; exact k2
  have g3 : C[i * 3 + 2]? = some (.string v.s) := by rw [← Array.getElem?_toList, hC, List.getElem?_append_left (by rw [cells_len]; omega)]; exact k3
  unfold VAt
  simp only [World.cell?, hg, Nat.zero_add]
  simp [g1, g2, g3]
theorem set_tl (C : Array Value) (pre tl : List Value) (x y : Value) (n : Nat) (h : C.toList = pre ++ x :: tl) (hn : pre.length = n) : (C.setIfInBounds n y).toList = (pre ++ [y]) ++ tl := by
  rw [Array.toList_setIfInBounds, h, List.set_append_right _ _ (by omega), hn, Nat.sub_self]
  simp
theorem RowT.set3 {w : World} {g : Nat} {vs : List V} {x0 x1 x2 : Value} {tl : List Value} (h : RowT w g vs (x0 :: x1 :: x2 :: tl)) (v : V) (n : Nat) (hn : n = vs.length) :
    RowT (((w.setCell ⟨g, n * 3, none⟩ (.int .i64 v.k)).setCell ⟨g, n * 3 + 1, none⟩ (.int .i64 v.n)).setCell ⟨g, n * 3 + 2, none⟩ (.string v.s)) g (vs ++ [v]) tl := by
  subst hn
  obtain ⟨C, hg, hC⟩ := h
  have hl := cells_len vs
  have h1 := set_tl C _ _ _ (.int .i64 v.k) _ hC hl
  have h2 := set_tl _ _ _ _ (.int .i64 v.n) (vs.length * 3 + 1) h1 (by simp [hl])
  have h3 := set_tl _ _ _ _ (.string v.s) (vs.length * 3 + 2) h2 (by simp [hl])
  refine ⟨_, ?_, h3.trans ?_⟩
  · simp [World.setCell, Array.getElem?_modify, hg]
  · simp [V.cells]
end Go.Proofs.YtiicoehcjoocbaaGreatDoor

/-! The law's own functions: values are handed over with two of the caller's behind them, and looked at behind the call. -/
namespace Go.Proofs.YtiicoehcjoocbaaGreatDoor
open Go.RowKit

set_option maxRecDepth 100000 in
set_option maxHeartbeats 1000000 in
theorem handed_any (a : Option Addr) (cap : Nat) (xs : List V) (w : World) (hn : xs.length ≤ 4398046511103) (hx : Vals w a xs) :
    Calls Tryz.prog 147 #[.slice a xs.length cap] w fun e w' => e = .returned (.slice (some ⟨w.heap.size, 0, none⟩) xs.length (xs.length + 2)) ∧ RowT w' w.heap.size (xs ++ [markV] ++ [markV]) [] ∧ Below w.heap.size w w' := by
  obtain ⟨i, hi, hz, hs3, hby⟩ := info_parts infoV
  have hmk : ∀ W, (Instr.makeSlice 50 (.int .i64 ((xs.length : Int) + 2)) (.int .i64 ((xs.length : Int) + 2))).run Tryz.prog W = .ok (.slice (some ⟨W.heap.size, 0, none⟩) (xs.length + 2) (xs.length + 2)) (W.alloc (.cells (madeCells #[.int .i64 0, .int .i64 0, .string ⟨#[]⟩] ((xs.length + 2) * 3)) 49)) := by
    intro W
    have hr := run_make (P := Tryz.prog) W 50 49 i _ (by kernel_rfl) hi hz .i64 .i64 ((xs.length : Int) + 2) ((xs.length : Int) + 2) (by omega) (Int.le_refl _) (by rw [hby]; omega) (by omega)
    have e : ((xs.length : Int) + 2).toNat = xs.length + 2 := by omega
    rw [e, hs3] at hr
    exact hr
  obtain ⟨Z, hZ⟩ : ∃ Z, Z = madeCells #[.int .i64 0, .int .i64 0, .string ⟨#[]⟩] ((xs.length + 2) * 3) := ⟨_, rfl⟩
  have hZs : Z.size = (xs.length + 2) * 3 := by rw [hZ, size_madeCells]
  rw [← hZ] at hmk
  clear hZ hi hz hs3 hby
  have hb0 : Below w.heap.size w (w.alloc (.cells Z 49)) := (Below.refl _ _).alloc (Nat.le_refl _) _
  have hcp := run_copy_V (w.alloc (.cells Z 49)) 3 w.heap.size (xs.length + 2) (xs.length + 2) a cap xs (hx.below hb0) Z (heap_alloc_new w _) (by omega) (by omega)
  obtain ⟨T, hT⟩ : ∃ T, T = (w.alloc (.cells Z 49)).setRow w.heap.size (xs.flatMap V.cells ++ Z.toList.drop (xs.length * 3)).toArray := ⟨_, rfl⟩
  have hrow : RowT T w.heap.size xs (Z.toList.drop (xs.length * 3)) := ⟨_, by rw [hT]; exact setRow_heap _ _ Z _ _ _ (heap_alloc_new w _), rfl⟩
  have hbT : Below w.heap.size w T := by
    refine hb0.trans ⟨by rw [hT]; rfl, by rw [hT]; rfl, by rw [hT]; rfl, by rw [hT]; simp [World.setRow], fun k hk => ?_⟩
    rw [hT]
    exact setRow_other _ _ _ _ (by omega)
  obtain ⟨x0, x1, x2, x3, x4, x5, htl⟩ : ∃ x0 x1 x2 x3 x4 x5, Z.toList.drop (xs.length * 3) = [x0, x1, x2, x3, x4, x5] := by
    have hl : (Z.toList.drop (xs.length * 3)).length = 6 := by rw [List.length_drop, Array.length_toList, hZs]; omega
    match Z.toList.drop (xs.length * 3), hl with
    | [x0, x1, x2, x3, x4, x5], _ => exact ⟨_, _, _, _, _, _, rfl⟩
  rw [htl] at hrow
  rw [← hT] at hcp
  clear hT htl hb0
  go_enter Tryz.func147, Tryz.ntmps147
  go_wp2_with fail
  clear hcp hmk
  refine (mark_any 0 T).mono ?_
  rintro e w2 ⟨rfl, hb2⟩
  have hrow2 := hrow.of_block (hb2.block _ hrow.lt)
  have c0 := hrow2.cell (j := 0) rfl
  have c1 := hrow2.cell (j := 1) rfl
  have c2 := hrow2.cell (j := 2) rfl
  rw [Nat.add_zero] at c0
  obtain ⟨c0, d0⟩ := c0
  obtain ⟨c1, d1⟩ := c1
  obtain ⟨c2, d2⟩ := c2
  have hrow3 := hrow2.set3 markV xs.length rfl
  have hb3 : Below w.heap.size w (((w2.setCell ⟨w.heap.size, xs.length * 3, none⟩ (.int .i64 (-7))).setCell ⟨w.heap.size, xs.length * 3 + 1, none⟩ (.int .i64 0)).setCell ⟨w.heap.size, xs.length * 3 + 2, none⟩ (.string ⟨#[109, 97, 114, 107]⟩)) :=
    (((below_then hbT hb2).setCell (p := ⟨w.heap.size, xs.length * 3, none⟩) (Nat.le_refl _) _).setCell (p := ⟨w.heap.size, xs.length * 3 + 1, none⟩) (Nat.le_refl _) _).setCell (p := ⟨w.heap.size, xs.length * 3 + 2, none⟩) (Nat.le_refl _) _
  go_wp2_with fail
  generalize hW3 : (((w2.setCell ⟨w.heap.size, xs.length * 3, none⟩ (.int .i64 (-7))).setCell ⟨w.heap.size, xs.length * 3 + 1, none⟩ (.int .i64 0)).setCell ⟨w.heap.size, xs.length * 3 + 2, none⟩ (.string ⟨#[109, 97, 114, 107]⟩)) = w3 at *
  have hrow3' : RowT w3 w.heap.size (xs ++ [markV]) [x3, x4, x5] := by rw [← hW3]; exact hrow3
  clear hrow3 hW3 c0 c1 c2 d0 d1 d2 hrow2 hrow
  refine (mark_any 0 w3).mono ?_
  rintro e w4 ⟨rfl, hb4⟩
  have hrow4 := hrow3'.of_block (hb4.block _ hrow3'.lt)
  have hl1 : (xs ++ [markV]).length = xs.length + 1 := by simp
  have c0 := hrow4.cell (j := 0) rfl
  have c1 := hrow4.cell (j := 1) rfl
  have c2 := hrow4.cell (j := 2) rfl
  rw [hl1] at c0 c1 c2
  rw [Nat.add_zero] at c0
  obtain ⟨c0, d0⟩ := c0
  obtain ⟨c1, d1⟩ := c1
  obtain ⟨c2, d2⟩ := c2
  have hrow5 := hrow4.set3 markV (xs.length + 1) hl1.symm
  have HR5 : Hid _ := hrow5
  have hb5 := below_then hb3 hb4
  clear hl1 hrow5 hrow4 hrow3'
  go_wp2
  go_ret
  refine ⟨rfl, HR5.out, ((hb5.setCell (p := ⟨w.heap.size, (xs.length + 1) * 3, none⟩) (Nat.le_refl _) _).setCell (p := ⟨w.heap.size, (xs.length + 1) * 3 + 1, none⟩) (Nat.le_refl _) _).setCell (p := ⟨w.heap.size, (xs.length + 1) * 3 + 2, none⟩) (Nat.le_refl _) _⟩
end Go.Proofs.YtiicoehcjoocbaaGreatDoor

/-! The law's own functions: do values that were handed over read as they did? -/
namespace Go.Proofs.YtiicoehcjoocbaaGreatDoor
open Go.RowKit

theorem grown_trans {w w1 w2 : World} {r : Option Nat} (h : w.grownBy w1 r) (k : w1.grownBy w2 r) : w.grownBy w2 r :=
  ⟨k.os.trans h.os, k.tape.trans h.tape, k.output.trans h.output, Nat.le_trans h.size k.size, fun j hj hne => (k.block j (Nat.lt_of_lt_of_le hj h.size) hne).trans (h.block j hj hne)⟩
theorem grown_below {w w' : World} {r : Option Nat} (h : Below w.heap.size w w') : w.grownBy w' r := ⟨h.os, h.tape, h.output, h.size, fun j hj _ => h.block j hj⟩
theorem grown_set {w w' : World} {g : Nat} (h : w.grownBy w' (some g)) (o : Nat) (v : Value) : w.grownBy (w'.setCell ⟨g, o, none⟩ v) (some g) :=
  ⟨h.os, h.tape, h.output, by simpa [World.setCell] using h.size, fun j hj hne => (Below.heap_setCell _ _ _ _ (fun e => hne (by rw [e]))).trans (h.block j hj hne)⟩

theorem RowT.at3 {w : World} {g : Nat} {ys : List V} (h : RowT w g ys []) (v : V) (k : Nat) (hk : k < ys.length) :
    ((w.cell? ⟨g, k * 3, none⟩ = some (.int .i64 ys[k].k) ∧ w.frozen? ⟨g, k * 3, none⟩ = false) ∧ (w.cell? ⟨g, k * 3 + 1, none⟩ = some (.int .i64 ys[k].n) ∧ w.frozen? ⟨g, k * 3 + 1, none⟩ = false) ∧ (w.cell? ⟨g, k * 3 + 2, none⟩ = some (.string ys[k].s) ∧ w.frozen? ⟨g, k * 3 + 2, none⟩ = false)) ∧
    RowT (((w.setCell ⟨g, k * 3, none⟩ (.int .i64 v.k)).setCell ⟨g, k * 3 + 1, none⟩ (.int .i64 v.n)).setCell ⟨g, k * 3 + 2, none⟩ (.string v.s)) g (ys.set k v) [] := by
  obtain ⟨C, hg, hC⟩ := h
  rw [List.append_nil] at hC
  have hsplit : ys = ys.take k ++ ys[k] :: ys.drop (k + 1) := by rw [← List.drop_eq_getElem_cons hk, List.take_append_drop]
  have hlen : (ys.take k).length = k := by rw [List.length_take]; omega
  have h1 : RowT w g (ys.take k) (ys[k].cells ++ (ys.drop (k + 1)).flatMap V.cells) := by
    refine ⟨C, hg, ?_⟩
    rw [hC]
    conv => lhs; rw [hsplit]
    rw [List.flatMap_append, List.flatMap_cons]
  have c0 := h1.cell (j := 0) rfl
  have c1 := h1.cell (j := 1) rfl
  have c2 := h1.cell (j := 2) rfl
  rw [hlen] at c0 c1 c2
  rw [Nat.add_zero] at c0
  refine ⟨⟨c0, c1, c2⟩, ?_⟩
  obtain ⟨C', hg', hC'⟩ := h1.set3 v k hlen.symm
  refine ⟨C', hg', ?_⟩
  rw [hC', List.append_nil]
  have hset : ys.set k v = ys.take k ++ v :: ys.drop (k + 1) := by
    rw [List.set_eq_take_append_cons_drop, if_pos hk]
  rw [hset]
  simp [V.cells]

set_option maxRecDepth 100000 in
set_option maxHeartbeats 2000000 in
theorem still_any (g : Nat) (a : Option Addr) (cap : Nat) (xs : List V) (w : World) (hn : xs.length ≤ 4398046511103) (hr : RowT w g (xs ++ [markV] ++ [markV]) []) (hx : Vals w a xs) :
    Calls Tryz.prog 148 #[.slice (some ⟨g, 0, none⟩) xs.length (xs.length + 2), .slice a xs.length cap] w fun e w' => e = .returned (.bool true) ∧ w.grownBy w' (some g) := by
  have hg := hr.lt
  have hv := hr.vals
  have hvx : Vals w (some ⟨g, 0, none⟩) xs := by
    rcases hv with hv | ⟨b, o, e, hb, hv⟩
    · simp at hv
    · refine .inr ⟨b, o, e, hb, fun i v hi => hv i v ?_⟩
      have hin : i < xs.length := by
        rcases Nat.lt_or_ge i xs.length with h' | h'
        · exact h'
        · rw [List.getElem?_eq_none h'] at hi; simp at hi
      rw [List.append_assoc, List.getElem?_append_left hin]; exact hi
  obtain ⟨b1, o1, e1, _, m1, m2, m3⟩ := hv.at (i := xs.length) (by simp)
  obtain ⟨b2, o2, e2, _, p1, p2, p3⟩ := hv.at (i := xs.length + 1) (by simp)
  simp at e1 e2
  obtain ⟨rfl, rfl⟩ := e1
  obtain ⟨rfl, rfl⟩ := e2
  have hm1 : (xs ++ [markV] ++ [markV])[xs.length]'(by simp) = markV := by simp
  have hm2 : (xs ++ [markV] ++ [markV])[xs.length + 1]'(by simp) = markV := by simp
  rw [hm1] at m1 m2 m3
  rw [hm2] at p1 p2 p3
  simp only [markV, Nat.zero_add] at m1 m2 m3 p1 p2 p3
  clear hm1 hm2 hv
  have hq : ∀ W, (binOp .eql 49 (.agg #[.int .i64 (-7), .int .i64 0, .string ⟨#[109, 97, 114, 107]⟩]) (.agg #[.int .i64 (-7), .int .i64 0, .string ⟨#[109, 97, 114, 107]⟩])).run Tryz.prog W = .ok (.bool true) W := run_eql_same markV markV rfl
  have hn63 : xs.length ≤ maxLen := by unfold maxLen; omega
  go_enter Tryz.func148, Tryz.ntmps148
  go_wp2_with fail
  refine (sameValues_any (some ⟨g, 0, none⟩) a _ _ xs xs w hn63 hvx hx true ⟨fun _ => rfl, fun _ => rfl⟩).mono ?_
  rintro e w1 ⟨rfl, hb1⟩
  obtain ⟨k1, k2⟩ := below_keep hb1
  have hg1 : g < w1.heap.size := by have := hb1.size; omega
  rw [← k1 _ _ hg] at m1 m2 m3 p1 p2 p3
  clear k1 k2
  go_wp2_with fail
  have j0 : (0 : Int) ≤ (xs.length : Int) := by omega
  have j1 : (xs.length : Int) < (xs.length : Int) + 2 := by omega
  have j2 : (0 : Int) ≤ (xs.length : Int) + 1 := by omega
  have j3 : (xs.length : Int) + 1 < (xs.length : Int) + 2 := by omega
  have j4 : IntKind.i64.wrap ((xs.length : Int) + 1) = (xs.length : Int) + 1 := by rw [IntKind.wrap_i64]; omega
  have j5 : ((xs.length : Int) + 1).toNat = xs.length + 1 := by omega
  go_region_held3 (fun W => W.cell? ⟨g, xs.length * 3, none⟩ = some (.int .i64 (-7)) ∧ W.cell? ⟨g, xs.length * 3 + 1, none⟩ = some (.int .i64 0) ∧ W.cell? ⟨g, xs.length * 3 + 2, none⟩ = some (.string ⟨#[109, 97, 114, 107]⟩) ∧ W.cell? ⟨g, (xs.length + 1) * 3, none⟩ = some (.int .i64 (-7)) ∧ W.cell? ⟨g, (xs.length + 1) * 3 + 1, none⟩ = some (.int .i64 0) ∧ W.cell? ⟨g, (xs.length + 1) * 3 + 2, none⟩ = some (.string ⟨#[109, 97, 114, 107]⟩))
    (first | go_keep | (go_split_ands; refine ⟨?_, ?_, ?_, ?_, ?_, ?_⟩ <;> (rw [(below_keep hbm).1 _ _ (by first | exact hg1 | assumption)]; assumption)))
    (first | (go_at_call 35; refine (mark_any _ _).mono ?_; rintro e wm ⟨rfl, hbm⟩; have hgm : g < wm.heap.size := Nat.lt_of_lt_of_le (by first | exact hg1 | assumption) hbm.size; have hbw : Below w.heap.size w wm := (by first | exact below_then hb1 (below_undrew hbm) | exact below_then hbw hbm)))
  clear hbm m1 m2 m3 p1 p2 p3 j0 j1 j2 j3 j4 j5 hq
  have hrm : RowT wm g (xs ++ [markV] ++ [markV]) [] := hr.of_block (hbw.block _ hg)
  have hbg : w.grownBy wm (some g) := grown_below hbw
  go_wp2
  go_loopw [8] (fun i wr => ∃ (k : Nat) (ys : List V), k ≤ xs.length ∧ i = .int .i64 k ∧ ys.length = xs.length + 2 ∧ RowT wr g ys [] ∧ w.grownBy wr (some g)) (fun i _ => xs.length - (intOf i).toNat)
  case atStart => exact ⟨0, _, by omega, rfl, by simp, hrm, hbg⟩
  case round =>
    obtain ⟨k, ys, hk, rfl, hyl, hry, hbk⟩ := hrel
    by_cases hlt : k < xs.length
    · go_wp2_with fail
      refine (mark_any 0 _).mono ?_
      rintro e w5 ⟨rfl, hb5⟩
      have hry5 := hry.of_block (hb5.block _ hry.lt)
      have hky : k < ys.length := by omega
      have HYL : Hid (ys.length = xs.length + 2) := hyl
      clear hyl
      obtain ⟨⟨⟨c0, d0⟩, ⟨c1, d1⟩, ⟨c2, d2⟩⟩, hset⟩ := hry5.at3 markV k hky
      have HSET : Hid _ := hset
      clear hset
      go_wp2
      go_roundw
      case rel =>
        refine ⟨k + 1, ys.set k markV, by omega, by go_num, by rw [List.length_set]; exact HYL.out, HSET.out, ?_⟩
        exact grown_set (grown_set (grown_set (grown_trans hbk (grown_below hb5)) _ _) _ _) _ _
      case measure => simp [intOf]; omega
    · go_wp2
      go_ret
      exact ⟨rfl, hbk⟩
end Go.Proofs.YtiicoehcjoocbaaGreatDoor
