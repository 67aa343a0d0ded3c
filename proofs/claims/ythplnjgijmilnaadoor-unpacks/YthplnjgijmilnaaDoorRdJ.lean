/- The panic of a reader that gives up is caught, and what a segment's Pack answers. -/
import Derived.Test.YthplnjgijmilnaaDoorRdI
namespace Go.Proofs.YthplnjgijmilnaaDoor
open Go.RowKit

/-- The error behind a number. -/
def errVal (a0 a1 : Addr) (c : Int) : Value := if c = 0 then .nilIface else if c = 2 then .iface 126 (.pointer (some a1)) else .iface 126 (.pointer (some a0))

theorem sPack_any (t how : Int) (a : Option Addr) (cap : Nat) (xs : List V) (w : World) (hn : xs.length ≤ maxLen) (hx : Vals w a xs) (a0 a1 a2 : Addr) (he : Errs w a0 a1 a2) :
    Calls Tryd.prog 20 #[.int .i64 t, .int .i64 how, .slice a xs.length cap] w fun e w' => e = .returned (.tuple #[.string (str (pOut t how xs).1), errVal a0 a1 (pOut t how xs).2]) ∧ Below w.heap.size w w' := by
  by_cases hok : way t how = true ∧ okAll t xs
  · have hb : (way t how && okAllB t xs) = true := by rw [Bool.and_eq_true]; exact ⟨hok.1, (okAllB_iff t xs).2 hok.2⟩
    by_cases hd : how = 1 ∧ 16 < (uniq [] (heldOf xs)).length
    · have e : pOut t how xs = ([], 2) := by unfold pOut; rw [if_pos hb, if_pos hd]
      rw [e]
      obtain ⟨rfl, hd⟩ := hd
      exact sPack_dict t a cap xs w hn hx _ he.c1 hok.1 hok.2 hd
    · have e : pOut t how xs = (segEnc t how xs, 0) := by unfold pOut; rw [if_pos hb, if_neg hd]
      rw [e]
      rcases way_cases t how hok.1 with rfl | rfl | rfl | rfl
      · exact sPack_plain t a cap xs w hn hx hok.1 hok.2
      · exact sPack_dictionary t a cap xs w hn hx hok.1 hok.2 (by omega)
      · exact sPack_runs t a cap xs w hn hx hok.1 hok.2
      · exact sPack_packed t a cap xs w hn hx hok.1 hok.2
  · have hb : ¬ (way t how && okAllB t xs) = true := by rw [Bool.and_eq_true]; exact fun h => hok ⟨h.1, (okAllB_iff t xs).1 h.2⟩
    have e : pOut t how xs = ([], 1) := by unfold pOut; rw [if_neg hb]
    rw [e]
    exact sPack_arg t how a cap xs w hn hx _ he.c0 hok

/-- The three named results lie in three blocks. -/
structure Three (w : World) (p q r : Nat) (t : Int) (sl ev : Value) : Prop where
  c0 : w.heap[p]? = some (.cells #[.int .i64 t] 3 (0, 0))
  c1 : w.heap[q]? = some (.cells #[sl] 22 (0, 0))
  c2 : w.heap[r]? = some (.cells #[ev] 43 (0, 0))
  pq : ¬ p = q
  pr : ¬ p = r
  qr : ¬ q = r
theorem Three.facts {w : World} {p q r : Nat} {t : Int} {sl ev : Value} (h : Three w p q r t sl ev) :
    w.cell? ⟨p, 0, none⟩ = some (.int .i64 t) ∧ w.cell? ⟨q, 0, none⟩ = some sl ∧ w.cell? ⟨r, 0, none⟩ = some ev ∧ w.frozen? ⟨p, 0, none⟩ = false ∧ w.frozen? ⟨q, 0, none⟩ = false ∧ w.frozen? ⟨r, 0, none⟩ = false :=
  ⟨by simp [World.cell?, h.c0], by simp [World.cell?, h.c1], by simp [World.cell?, h.c2], by simp [World.frozen?, h.c0], by simp [World.frozen?, h.c1], by simp [World.frozen?, h.c2]⟩
theorem Three.of_block {w w' : World} {p q r : Nat} {t : Int} {sl ev : Value} (h : Three w p q r t sl ev) (e0 : w'.heap[p]? = w.heap[p]?) (e1 : w'.heap[q]? = w.heap[q]?) (e2 : w'.heap[r]? = w.heap[r]?) : Three w' p q r t sl ev :=
  ⟨by rw [e0]; exact h.c0, by rw [e1]; exact h.c1, by rw [e2]; exact h.c2, h.pq, h.pr, h.qr⟩
theorem Three.lt {w : World} {p q r : Nat} {t : Int} {sl ev : Value} (h : Three w p q r t sl ev) : p < w.heap.size ∧ q < w.heap.size ∧ r < w.heap.size := ⟨lt_of_heap h.c0, lt_of_heap h.c1, lt_of_heap h.c2⟩
theorem heap_set1 {w : World} {p : Nat} {x v : Value} {ty : TypeId} (h : w.heap[p]? = some (.cells #[x] ty (0, 0))) : (w.setCell ⟨p, 0, none⟩ v).heap[p]? = some (.cells #[v] ty (0, 0)) := by
  simp [World.setCell, Array.getElem?_modify, h]
theorem Three.set {w : World} {p q r : Nat} {t t' : Int} {sl ev sl' ev' : Value} (h : Three w p q r t sl ev) :
    Three (((w.setCell ⟨p, 0, none⟩ (.int .i64 t')).setCell ⟨q, 0, none⟩ sl').setCell ⟨r, 0, none⟩ ev') p q r t' sl' ev' := by
  refine ⟨?_, ?_, ?_, h.pq, h.pr, h.qr⟩
  · rw [Below.heap_setCell _ _ _ _ (show p ≠ r from h.pr), Below.heap_setCell _ _ _ _ (show p ≠ q from h.pq)]
    exact heap_set1 h.c0
  · rw [Below.heap_setCell _ _ _ _ (show q ≠ r from h.qr)]
    refine heap_set1 (x := sl) ?_
    rw [Below.heap_setCell _ _ _ _ (show q ≠ p from Ne.symm h.pq)]
    exact h.c1
  · refine heap_set1 (x := ev) ?_
    rw [Below.heap_setCell _ _ _ _ (show r ≠ q from Ne.symm h.qr), Below.heap_setCell _ _ _ _ (show r ≠ p from Ne.symm h.pr)]
    exact h.c2

theorem Three.s0 {w : World} {p q r : Nat} {t t' : Int} {sl ev : Value} (h : Three w p q r t sl ev) : Three (w.setCell ⟨p, 0, none⟩ (.int .i64 t')) p q r t' sl ev :=
  ⟨heap_set1 h.c0, by rw [Below.heap_setCell _ _ _ _ (show q ≠ p from Ne.symm h.pq)]; exact h.c1, by rw [Below.heap_setCell _ _ _ _ (show r ≠ p from Ne.symm h.pr)]; exact h.c2, h.pq, h.pr, h.qr⟩
theorem Three.s1 {w : World} {p q r : Nat} {t : Int} {sl sl' ev : Value} (h : Three w p q r t sl ev) : Three (w.setCell ⟨q, 0, none⟩ sl') p q r t sl' ev :=
  ⟨by rw [Below.heap_setCell _ _ _ _ (show p ≠ q from h.pq)]; exact h.c0, heap_set1 h.c1, by rw [Below.heap_setCell _ _ _ _ (show r ≠ q from Ne.symm h.qr)]; exact h.c2, h.pq, h.pr, h.qr⟩
theorem Three.s2 {w : World} {p q r : Nat} {t : Int} {sl ev ev' : Value} (h : Three w p q r t sl ev) : Three (w.setCell ⟨r, 0, none⟩ ev') p q r t sl ev' :=
  ⟨by rw [Below.heap_setCell _ _ _ _ (show p ≠ r from h.pr)]; exact h.c0, by rw [Below.heap_setCell _ _ _ _ (show q ≠ r from h.qr)]; exact h.c1, heap_set1 h.c2, h.pq, h.pr, h.qr⟩
theorem Three.drew {w : World} {p q r : Nat} {t : Int} {sl ev : Value} (h : Three w p q r t sl ev) : Three w.drew p q r t sl ev := ⟨h.c0, h.c1, h.c2, h.pq, h.pr, h.qr⟩

set_option maxRecDepth 100000 in
theorem catch_panicking (p q r : Nat) (t : Int) (sl ev : Value) (hsl : ∃ a l c, sl = .slice a l c) (a2 : Addr) (pv : Value) (u : TypeId) (older : List PanicEntry) (w : World) (h3 : Three w p q r t sl ev)
    (hf : w.cell? ⟨2, 0, none⟩ = some (.iface 126 (.pointer (some a2)))) :
    CallsD Tryd.prog 41 #[.pointer (some ⟨p, 0, none⟩), .pointer (some ⟨q, 0, none⟩), .pointer (some ⟨r, 0, none⟩)] (.panicking ({ v := .iface u pv, recovered := false } :: older)) w fun e u' w' =>
      e = .returned (.tuple #[]) ∧ u' = .panicking ({ v := .iface u pv, recovered := true } :: older) ∧ w' = ((w.setCell ⟨p, 0, none⟩ (.int .i64 0)).setCell ⟨q, 0, none⟩ (.slice none 0 0)).setCell ⟨r, 0, none⟩ (.iface 126 (.pointer (some a2))) := by
  obtain ⟨a, l, c, rfl⟩ := hsl
  obtain ⟨k0, k1, k2, z0, z1, z2⟩ := h3.facts
  have hpq := h3.pq
  have hpr := h3.pr
  have hqr := h3.qr
  refine callsD_of_wpS Tryd.func41 rfl fun c₀ cs hu => ?_
  apply wpS_seq
  apply wpS_region
  simp [wpOpsS, go_sem, recoverD, hu, Tryd.ntmps41, Exit.thenS]
  refine wpS_cond (t := true) (by simp [Act.eval, Array.replicate]) ?_
  simp only [if_true]
  apply wpS_region
  simp [wpOpsS, go_sem, hf, k0, k1, k2, z0, z1, z2, bodyPostS, results, Tryd.results41]

set_option maxRecDepth 100000 in
theorem catch_idle (p q r : Addr) (w : World) :
    CallsD Tryd.prog 41 #[.pointer (some p), .pointer (some q), .pointer (some r)] .returning w fun e u' w' => e = .returned (.tuple #[]) ∧ u' = .returning ∧ w' = w := by
  refine callsD_of_wpS Tryd.func41 rfl fun c₀ cs hu => ?_
  apply wpS_seq
  apply wpS_region
  simp [wpOpsS, go_sem, recoverD, hu, Tryd.ntmps41, Exit.thenS]
  refine wpS_cond (t := false) (by simp [Act.eval, Array.replicate]) ?_
  simp only [Bool.false_eq_true, if_false]
  refine wpS_of_wp (wp_skip ?_)
  cases c₀
  simp_all [bodyPostS, results, Tryd.results41]
end Go.Proofs.YthplnjgijmilnaaDoor
