/- The law's own functions: do values that were handed over read as they did? -/
import Derived.Test.YthplnjgijmilnaaDoorWalkY
import Derived.Deep.RegionHeld3
import Derived.Deep.RegionWith
namespace Go.Proofs.YthplnjgijmilnaaDoor
open Go.RowKit

theorem grown_trans {w w1 w2 : World} {r : Option Nat} (h : w.grownBy w1 r) (k : w1.grownBy w2 r) : w.grownBy w2 r :=
  ⟨k.os.trans h.os, k.tape.trans h.tape, k.output.trans h.output, Nat.le_trans h.size k.size, fun j hj hne => (k.block j (Nat.lt_of_lt_of_le hj h.size) hne).trans (h.block j hj hne)⟩
theorem grown_below {w w' : World} {r : Option Nat} (h : Below w.heap.size w w') : w.grownBy w' r := ⟨h.os, h.tape, h.output, h.size, fun j hj _ => h.block j hj⟩
theorem grown_set {w w' : World} {g : Nat} (h : w.grownBy w' (some g)) (o : Nat) (v : Value) : w.grownBy (w'.setCell ⟨g, o, none⟩ v) (some g) :=
  ⟨h.os, h.tape, h.output, by simpa [World.setCell] using h.size, fun j hj hne => (Below.heap_setCell _ _ _ _ (fun e => hne (by rw [e]))).trans (h.block j hj hne)⟩

theorem RowT.at3 {w : World} {g : Nat} {ys : List V} (h : RowT w g ys []) (v : V) (k : Nat) (hk : k < ys.length) :
    ((w.cell? ⟨g, k * 3, none⟩ = some (.int .i64 ys[k].k) ∧ w.frozen? ⟨g, k * 3, none⟩ = false) ∧ (w.cell? ⟨g, k * 3 + 1, none⟩ = some (.int .i64 ys[k].n) ∧ w.frozen? ⟨g, k * 3 + 1, none⟩ = false) ∧ (w.cell? ⟨g, k * 3 + 2, none⟩ = some (.string ys[k].s) ∧ w.frozen? ⟨g, k * 3 + 2, none⟩ = false)) ∧
    RowT (((w.setCell ⟨g, k * 3, none⟩ (.int .i64 v.k)).setCell ⟨g, k * 3 + 1, none⟩ (.int .i64 v.n)).setCell ⟨g, k * 3 + 2, none⟩ (.string v.s)) g (ys.set k v) [] := by
  obtain ⟨C, hg, hC⟩ := h
  rw [List.append_nil] at hC
  have hsplit : ys = ys.take k ++ ys[k] :: ys.drop (k + 1) := by rw [← List.drop_eq_getElem_cons hk, List.take_append_drop]
  have hlen : (ys.take k).length = k := by rw [List.length_take]; omega
  have h1 : RowT w g (ys.take k) (ys[k].cells ++ (ys.drop (k + 1)).flatMap V.cells) := by
    refine ⟨C, hg, ?_⟩
    rw [hC]
    conv => lhs; rw [hsplit]
    rw [List.flatMap_append, List.flatMap_cons]
  have c0 := h1.cell (j := 0) rfl
  have c1 := h1.cell (j := 1) rfl
  have c2 := h1.cell (j := 2) rfl
  rw [hlen] at c0 c1 c2
  rw [Nat.add_zero] at c0
  refine ⟨⟨c0, c1, c2⟩, ?_⟩
  obtain ⟨C', hg', hC'⟩ := h1.set3 v k hlen.symm
  refine ⟨C', hg', ?_⟩
  rw [hC', List.append_nil]
  have hset : ys.set k v = ys.take k ++ v :: ys.drop (k + 1) := by
    rw [List.set_eq_take_append_cons_drop, if_pos hk]
  rw [hset]
  simp [V.cells]

set_option maxRecDepth 100000 in
set_option maxHeartbeats 2000000 in
theorem still_any (g : Nat) (a : Option Addr) (cap : Nat) (xs : List V) (w : World) (hn : xs.length ≤ 4398046511103) (hr : RowT w g (xs ++ [markV] ++ [markV]) []) (hx : Vals w a xs) :
    Calls Tryd.prog 15 #[.slice (some ⟨g, 0, none⟩) xs.length (xs.length + 2), .slice a xs.length cap] w fun e w' => e = .returned (.bool true) ∧ w.grownBy w' (some g) := by
  have hg := hr.lt
  have hv := hr.vals
  have hvx : Vals w (some ⟨g, 0, none⟩) xs := by
    rcases hv with hv | ⟨b, o, e, hb, hv⟩
    · simp at hv
    · refine .inr ⟨b, o, e, hb, fun i v hi => hv i v ?_⟩
      have hin : i < xs.length := by
        rcases Nat.lt_or_ge i xs.length with h' | h'
        · exact h'
        · rw [List.getElem?_eq_none h'] at hi; simp at hi
      rw [List.append_assoc, List.getElem?_append_left hin]; exact hi
  obtain ⟨b1, o1, e1, _, m1, m2, m3⟩ := hv.at (i := xs.length) (by simp)
  obtain ⟨b2, o2, e2, _, p1, p2, p3⟩ := hv.at (i := xs.length + 1) (by simp)
  simp at e1 e2
  obtain ⟨rfl, rfl⟩ := e1
  obtain ⟨rfl, rfl⟩ := e2
  have hm1 : (xs ++ [markV] ++ [markV])[xs.length]'(by simp) = markV := by simp
  have hm2 : (xs ++ [markV] ++ [markV])[xs.length + 1]'(by simp) = markV := by simp
  rw [hm1] at m1 m2 m3
  rw [hm2] at p1 p2 p3
  simp only [markV, Nat.zero_add] at m1 m2 m3 p1 p2 p3
  clear hm1 hm2 hv
  have hq : ∀ W, (binOp .eql 25 (.agg #[.int .i64 (-7), .int .i64 0, .string ⟨#[109, 97, 114, 107]⟩]) (.agg #[.int .i64 (-7), .int .i64 0, .string ⟨#[109, 97, 114, 107]⟩])).run Tryd.prog W = .ok (.bool true) W := run_eql_same markV markV rfl
  have hn63 : xs.length ≤ maxLen := by unfold maxLen; omega
  go_enter Tryd.func15, Tryd.ntmps15
  go_wp2_with fail
  refine (sameValues_any (some ⟨g, 0, none⟩) a _ _ xs xs w hn63 hvx hx true ⟨fun _ => rfl, fun _ => rfl⟩).mono ?_
  rintro e w1 ⟨rfl, hb1⟩
  obtain ⟨k1, k2⟩ := below_keep hb1
  have hg1 : g < w1.heap.size := by have := hb1.size; omega
  rw [← k1 _ _ hg] at m1 m2 m3 p1 p2 p3
  clear k1 k2
  go_wp2_with fail
  have j0 : (0 : Int) ≤ (xs.length : Int) := by omega
  have j1 : (xs.length : Int) < (xs.length : Int) + 2 := by omega
  have j2 : (0 : Int) ≤ (xs.length : Int) + 1 := by omega
  have j3 : (xs.length : Int) + 1 < (xs.length : Int) + 2 := by omega
  have j4 : IntKind.i64.wrap ((xs.length : Int) + 1) = (xs.length : Int) + 1 := by rw [IntKind.wrap_i64]; omega
  have j5 : ((xs.length : Int) + 1).toNat = xs.length + 1 := by omega
  go_region_held3 (fun W => W.cell? ⟨g, xs.length * 3, none⟩ = some (.int .i64 (-7)) ∧ W.cell? ⟨g, xs.length * 3 + 1, none⟩ = some (.int .i64 0) ∧ W.cell? ⟨g, xs.length * 3 + 2, none⟩ = some (.string ⟨#[109, 97, 114, 107]⟩) ∧ W.cell? ⟨g, (xs.length + 1) * 3, none⟩ = some (.int .i64 (-7)) ∧ W.cell? ⟨g, (xs.length + 1) * 3 + 1, none⟩ = some (.int .i64 0) ∧ W.cell? ⟨g, (xs.length + 1) * 3 + 2, none⟩ = some (.string ⟨#[109, 97, 114, 107]⟩))
    (first | go_keep | (go_split_ands; refine ⟨?_, ?_, ?_, ?_, ?_, ?_⟩ <;> (rw [(below_keep hbm).1 _ _ (by first | exact hg1 | assumption)]; assumption)))
    (first | (go_at_call 19; refine (mark_any _ _).mono ?_; rintro e wm ⟨rfl, hbm⟩; have hgm : g < wm.heap.size := Nat.lt_of_lt_of_le (by first | exact hg1 | assumption) hbm.size; have hbw : Below w.heap.size w wm := (by first | exact below_then hb1 (below_undrew hbm) | exact below_then hbw hbm)))
  clear hbm m1 m2 m3 p1 p2 p3 j0 j1 j2 j3 j4 j5 hq
  have hrm : RowT wm g (xs ++ [markV] ++ [markV]) [] := hr.of_block (hbw.block _ hg)
  have hbg : w.grownBy wm (some g) := grown_below hbw
  go_wp2
  go_loopw [8] (fun i wr => ∃ (k : Nat) (ys : List V), k ≤ xs.length ∧ i = .int .i64 k ∧ ys.length = xs.length + 2 ∧ RowT wr g ys [] ∧ w.grownBy wr (some g)) (fun i _ => xs.length - (intOf i).toNat)
  case atStart => exact ⟨0, _, by omega, rfl, by simp, hrm, hbg⟩
  case round =>
    obtain ⟨k, ys, hk, rfl, hyl, hry, hbk⟩ := hrel
    by_cases hlt : k < xs.length
    · go_wp2_with fail
      refine (mark_any 0 _).mono ?_
      rintro e w5 ⟨rfl, hb5⟩
      have hry5 := hry.of_block (hb5.block _ hry.lt)
      have hky : k < ys.length := by omega
      have HYL : Hid (ys.length = xs.length + 2) := hyl
      clear hyl
      obtain ⟨⟨⟨c0, d0⟩, ⟨c1, d1⟩, ⟨c2, d2⟩⟩, hset⟩ := hry5.at3 markV k hky
      have HSET : Hid _ := hset
      clear hset
      go_wp2
      go_roundw
      case rel =>
        refine ⟨k + 1, ys.set k markV, by omega, by go_num, by rw [List.length_set]; exact HYL.out, HSET.out, ?_⟩
        exact grown_set (grown_set (grown_set (grown_trans hbk (grown_below hb5)) _ _) _ _) _ _
      case measure => simp [intOf]; omega
    · go_wp2
      go_ret
      exact ⟨rfl, hbk⟩
end Go.Proofs.YthplnjgijmilnaaDoor
