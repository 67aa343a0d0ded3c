/- The panic of a reader that gives up is caught, and what a segment's Pack answers. -/
import Derived.Test.YtfgklnenpichcaaGreatDoorKj
namespace Go.Proofs.YtfgklnenpichcaaGreatDoor
open Go.RowKit

/-- The error behind a number. -/
def errVal (a0 a1 : Addr) (c : Int) : Value := if c = 0 then .nilIface else if c = 2 then .iface 255 (.pointer (some a1)) else .iface 255 (.pointer (some a0))

theorem sPack_any (t how : Int) (a : Option Addr) (cap : Nat) (xs : List V) (w : World) (hn : xs.length ≤ maxLen) (hx : Vals w a xs) (a0 a1 a2 : Addr) (he : Errs w a0 a1 a2) :
    Calls Tryz.prog 68 #[.int .i64 t, .int .i64 how, .slice a xs.length cap] w fun e w' => e = .returned (.tuple #[.string (str (pOut t how xs).1), errVal a0 a1 (pOut t how xs).2]) ∧ Below w.heap.size w w' := by
  by_cases hok : way t how = true ∧ okAll t xs
  · have hb : (way t how && okAllB t xs) = true := by rw [Bool.and_eq_true]; exact ⟨hok.1, (okAllB_iff t xs).2 hok.2⟩
    by_cases hd : how = 1 ∧ 16 < (uniq [] (heldOf xs)).length
    · have e : pOut t how xs = ([], 2) := by unfold pOut; rw [if_pos hb, if_pos hd]
      rw [e]
      obtain ⟨rfl, hd⟩ := hd
      exact sPack_dict t a cap xs w hn hx _ he.c1 hok.1 hok.2 hd
    · have e : pOut t how xs = (segEnc t how xs, 0) := by unfold pOut; rw [if_pos hb, if_neg hd]
      rw [e]
      rcases way_cases t how hok.1 with rfl | rfl | rfl | rfl
      · exact sPack_plain t a cap xs w hn hx hok.1 hok.2
      · exact sPack_dictionary t a cap xs w hn hx hok.1 hok.2 (by omega)
      · exact sPack_runs t a cap xs w hn hx hok.1 hok.2
      · exact sPack_packed t a cap xs w hn hx hok.1 hok.2
  · have hb : ¬ (way t how && okAllB t xs) = true := by rw [Bool.and_eq_true]; exact fun h => hok ⟨h.1, (okAllB_iff t xs).1 h.2⟩
    have e : pOut t how xs = ([], 1) := by unfold pOut; rw [if_neg hb]
    rw [e]
    exact sPack_arg t how a cap xs w hn hx _ he.c0 hok

/-- The three named results lie in three blocks. -/
structure Three (w : World) (p q r : Nat) (t : Int) (sl ev : Value) : Prop where
  c0 : w.heap[p]? = some (.cells #[.int .i64 t] 3 (0, 0))
  c1 : w.heap[q]? = some (.cells #[sl] 37 (0, 0))
  c2 : w.heap[r]? = some (.cells #[ev] 70 (0, 0))
  pq : ¬ p = q
  pr : ¬ p = r
  qr : ¬ q = r
theorem Three.facts {w : World} {p q r : Nat} {t : Int} {sl ev : Value} (h : Three w p q r t sl ev) :
    w.cell? ⟨p, 0, none⟩ = some (.int .i64 t) ∧ w.cell? ⟨q, 0, none⟩ = some sl ∧ w.cell? ⟨r, 0, none⟩ = some ev ∧ w.frozen? ⟨p, 0, none⟩ = false ∧ w.frozen? ⟨q, 0, none⟩ = false ∧ w.frozen? ⟨r, 0, none⟩ = false :=
  ⟨by simp [World.cell?, h.c0], by simp [World.cell?, h.c1], by simp [World.cell?, h.c2], by simp [World.frozen?, h.c0], by simp [World.frozen?, h.c1], by simp [World.frozen?, h.c2]⟩
theorem Three.of_block {w w' : World} {p q r : Nat} {t : Int} {sl ev : Value} (h : Three w p q r t sl ev) (e0 : w'.heap[p]? = w.heap[p]?) (e1 : w'.heap[q]? = w.heap[q]?) (e2 : w'.heap[r]? = w.heap[r]?) : Three w' p q r t sl ev :=
  ⟨by rw [e0]; exact h.c0, by rw [e1]; exact h.c1, by rw [e2]; exact h.c2, h.pq, h.pr, h.qr⟩
theorem Three.lt {w : World} {p q r : Nat} {t : Int} {sl ev : Value} (h : Three w p q r t sl ev) : p < w.heap.size ∧ q < w.heap.size ∧ r < w.heap.size := ⟨lt_of_heap h.c0, lt_of_heap h.c1, lt_of_heap h.c2⟩
theorem heap_set1 {w : World} {p : Nat} {x v : Value} {ty : TypeId} (h : w.heap[p]? = some (.cells #[x] ty (0, 0))) : (w.setCell ⟨p, 0, none⟩ v).heap[p]? = some (.cells #[v] ty (0, 0)) := by
  simp [World.setCell, Array.getElem?_modify, h]
theorem Three.set {w : World} {p q r : Nat} {t t' : Int} {sl ev sl' ev' : Value} (h : Three w p q r t sl ev) :
    Three (((w.setCell ⟨p, 0, none⟩ (.int .i64 t')).setCell ⟨q, 0, none⟩ sl').setCell ⟨r, 0, none⟩ ev') p q r t' sl' ev' := by
  refine ⟨?_, ?_, ?_, h.pq, h.pr, h.qr⟩
  · rw [Below.heap_setCell _ _ _ _ (show p ≠ r from h.pr), Below.heap_setCell _ _ _ _ (show p ≠ q from h.pq)]
    exact heap_set1 h.c0
  · rw [Below.heap_setCell _ _ _ _ (show q ≠ r from h.qr)]
    refine heap_set1 (x := sl) ?_
    rw [Below.heap_setCell _ _ _ _ (show q ≠ p from Ne.symm h.pq)]
    exact h.c1
  · refine heap_set1 (x := ev) ?_
    rw [Below.heap_setCell _ _ _ _ (show r ≠ q from Ne.symm h.qr), Below.heap_setCell _ _ _ _ (show r ≠ p from Ne.symm h.pr)]
    exact h.c2

theorem Three.s0 {w : World} {p q r : Nat} {t t' : Int} {sl ev : Value} (h : Three w p q r t sl ev) : Three (w.setCell ⟨p, 0, none⟩ (.int .i64 t')) p q r t' sl ev :=
  ⟨heap_set1 h.c0, by rw [Below.heap_setCell _ _ _ _ (show q ≠ p from Ne.symm h.pq)]; exact h.c1, by rw [Below.heap_setCell _ _ _ _ (show r ≠ p from Ne.symm h.pr)]; exact h.c2, h.pq, h.pr, h.qr⟩
theorem Three.s1 {w : World} {p q r : Nat} {t : Int} {sl sl' ev : Value} (h : Three w p q r t sl ev) : Three (w.setCell ⟨q, 0, none⟩ sl') p q r t sl' ev :=
  ⟨by rw [Below.heap_setCell _ _ _ _ (show p ≠ q from h.pq)]; exact h.c0, heap_set1 h.c1, by rw [Below.heap_setCell _ _ _ _ (show r ≠ q from Ne.symm h.qr)]; exact h.c2, h.pq, h.pr, h.qr⟩
theorem Three.s2 {w : World} {p q r : Nat} {t : Int} {sl ev ev' : Value} (h : Three w p q r t sl ev) : Three (w.setCell ⟨r, 0, none⟩ ev') p q r t sl ev' :=
  ⟨by rw [Below.heap_setCell _ _ _ _ (show p ≠ r from h.pr)]; exact h.c0, by rw [Below.heap_setCell _ _ _ _ (show q ≠ r from h.qr)]; exact h.c1, heap_set1 h.c2, h.pq, h.pr, h.qr⟩
theorem Three.drew {w : World} {p q r : Nat} {t : Int} {sl ev : Value} (h : Three w p q r t sl ev) : Three w.drew p q r t sl ev := ⟨h.c0, h.c1, h.c2, h.pq, h.pr, h.qr⟩

set_option maxRecDepth 100000 in
theorem catch_panicking (p q r : Nat) (t : Int) (sl ev : Value) (hsl : ∃ a l c, sl = .slice a l c) (a2 : Addr) (pv : Value) (u : TypeId) (older : List PanicEntry) (w : World) (h3 : Three w p q r t sl ev)
    (hf : w.cell? ⟨2, 0, none⟩ = some (.iface 255 (.pointer (some a2)))) :
    CallsD Tryz.prog 65 #[.pointer (some ⟨p, 0, none⟩), .pointer (some ⟨q, 0, none⟩), .pointer (some ⟨r, 0, none⟩)] (.panicking ({ v := .iface u pv, recovered := false } :: older)) w fun e u' w' =>
      e = .returned (.tuple #[]) ∧ u' = .panicking ({ v := .iface u pv, recovered := true } :: older) ∧ w' = ((w.setCell ⟨p, 0, none⟩ (.int .i64 0)).setCell ⟨q, 0, none⟩ (.slice none 0 0)).setCell ⟨r, 0, none⟩ (.iface 255 (.pointer (some a2))) := by
  obtain ⟨a, l, c, rfl⟩ := hsl
  obtain ⟨k0, k1, k2, z0, z1, z2⟩ := h3.facts
  have hpq := h3.pq
  have hpr := h3.pr
  have hqr := h3.qr
  refine callsD_of_wpS Tryz.func65 rfl fun c₀ cs hu => ?_
  apply wpS_seq
  apply wpS_region
  simp [wpOpsS, go_sem, recoverD, hu, Tryz.ntmps65, Exit.thenS]
  refine wpS_cond (t := true) (by simp [Act.eval, Array.replicate]) ?_
  simp only [if_true]
  apply wpS_region
  simp [wpOpsS, go_sem, hf, k0, k1, k2, z0, z1, z2, bodyPostS, results, Tryz.results65]

set_option maxRecDepth 100000 in
theorem catch_idle (p q r : Addr) (w : World) :
    CallsD Tryz.prog 65 #[.pointer (some p), .pointer (some q), .pointer (some r)] .returning w fun e u' w' => e = .returned (.tuple #[]) ∧ u' = .returning ∧ w' = w := by
  refine callsD_of_wpS Tryz.func65 rfl fun c₀ cs hu => ?_
  apply wpS_seq
  apply wpS_region
  simp [wpOpsS, go_sem, recoverD, hu, Tryz.ntmps65, Exit.thenS]
  refine wpS_cond (t := false) (by simp [Act.eval, Array.replicate]) ?_
  simp only [Bool.false_eq_true, if_false]
  refine wpS_of_wp (wp_skip ?_)
  cases c₀
  simp_all [bodyPostS, results, Tryz.results65]
end Go.Proofs.YtfgklnenpichcaaGreatDoor

/-! What the program's Unpack answers: a segment is read, or it is none. -/
namespace Go.Proofs.YtfgklnenpichcaaGreatDoor
open Go.RowKit

/-- What can be read of a text, and is written so. -/
def pRead (bs : List UInt8) : Option (Nat × Nat × List V) :=
  match rdHead bs with
  | none => none
  | some ((t, how, n), r) => match rdVals t how n r with
    | none => none
    | some (vs, _) => if pOut t how vs = (bs, 0) then some (t, how, vs) else none

theorem rdHead_way {bs r : List UInt8} {t how n : Nat} (h : rdHead bs = some ((t, how, n), r)) : way t how = true ∧ n ≤ 64 := by
  match bs, h with
  | b0 :: b1 :: b2 :: rest, h =>
    simp only [rdHead] at h
    by_cases hc : way (b0.toNat : Int) (b1.toNat : Int) = true ∧ b2.toNat ≤ 64
    · rw [if_pos hc] at h
      simp at h
      obtain ⟨⟨rfl, rfl, rfl⟩, _⟩ := h
      exact hc
    · rw [if_neg hc] at h
      simp at h
theorem way_typ (t how : Int) (h : way t how = true) : t = 1 ∨ t = 2 ∨ t = 3 := by
  unfold way at h
  simp at h
  omega

/-- The world in which the reader begins. -/
def startW (w : World) (bs : List UInt8) : World := (((w.alloc (.cells #[.int .i64 0] 3)).alloc (.cells #[.slice none 0 0] 37)).alloc (.cells #[.nilIface] 70)).alloc (.cells #[.int .i64 0, .string (str bs)] 125)

theorem rdVals_length {t how : Int} {n : Nat} {bs rest : List UInt8} {vs : List V} (h : rdVals t how n bs = some (vs, rest)) : vs.length = n := by
  unfold rdVals at h
  split at h
  · simp at h
  · rename_i hs r hf
    obtain ⟨x, _, e⟩ := Option.map_eq_some_iff.1 h
    simp only [Prod.mk.injEq] at e
    rw [← e.1, among_length]
    exact rdFields_length hf
theorem rowT_drew {w : World} {b : Nat} {vs : List V} {tl : List Value} (h : RowT w b vs tl) : RowT w.drew b vs tl := h
/-- A piece of code that just ends. -/
theorem wp_only {P : Program} {c : Code} {Q : Exit → Act → World → Prop} {a : Act} {w : World} (h : c.wp P (Exit.then (Q .normal) (fun _ _ _ => False)) a w) : c.wp P Q a w :=
  Code.wp_mono (fun e a w h => by cases e <;> first | exact h | exact False.elim h) h
theorem alloc_size (w : World) (o : Obj) : (w.alloc o).heap.size = w.heap.size + 1 := by simp
theorem alloc4 (w : World) (o0 o1 o2 o3 : Obj) :
    ((((w.alloc o0).alloc o1).alloc o2).alloc o3).heap[w.heap.size]? = some o0 ∧ ((((w.alloc o0).alloc o1).alloc o2).alloc o3).heap[w.heap.size + 1]? = some o1 ∧
    ((((w.alloc o0).alloc o1).alloc o2).alloc o3).heap[w.heap.size + 1 + 1]? = some o2 ∧ ((((w.alloc o0).alloc o1).alloc o2).alloc o3).heap[w.heap.size + 1 + 1 + 1]? = some o3 := by
  have s1 := alloc_size w o0
  have s2 := alloc_size (w.alloc o0) o1
  have s3 := alloc_size ((w.alloc o0).alloc o1) o2
  have n0 := (MapKept.heap_alloc w o0).1
  have n1 := (MapKept.heap_alloc (w.alloc o0) o1).1
  have n2 := (MapKept.heap_alloc ((w.alloc o0).alloc o1) o2).1
  have n3 := (MapKept.heap_alloc (((w.alloc o0).alloc o1).alloc o2) o3).1
  rw [s1] at n1 s2
  rw [s2] at n2 s3
  rw [s3] at n3
  refine ⟨?_, ?_, ?_, n3⟩
  · rw [Below.heap_alloc _ _ _ (by omega), Below.heap_alloc _ _ _ (by omega), Below.heap_alloc _ _ _ (by omega)]; exact n0
  · rw [Below.heap_alloc _ _ _ (by omega), Below.heap_alloc _ _ _ (by omega)]; exact n1
  · rw [Below.heap_alloc _ _ _ (by omega)]; exact n2

set_option maxRecDepth 100000 in
set_option maxHeartbeats 1000000 in
theorem door_panic {Q : Ending → World → Prop} {p q r : Nat} (tm : Array Value) (w1 : World) (a2 : Addr) (h3 : Three w1 p q r 0 (.slice none 0 0) .nilIface) (hf : w1.cell? ⟨2, 0, none⟩ = some (.iface 255 (.pointer (some a2))))
    (t2 : tm[2]?.getD undef = .pointer (some ⟨p, 0, none⟩)) (t3 : tm[3]?.getD undef = .pointer (some ⟨q, 0, none⟩)) (t4 : tm[4]?.getD undef = .pointer (some ⟨r, 0, none⟩))
    (hQ : Q (.returned (.tuple #[.int .i64 0, .slice none 0 0, .iface 255 (.pointer (some a2))])) (((w1.setCell ⟨p, 0, none⟩ (.int .i64 0)).setCell ⟨q, 0, none⟩ (.slice none 0 0)).setCell ⟨r, 0, none⟩ (.iface 255 (.pointer (some a2))))) :
    bodyPostD Tryz.prog Tryz.f40 Q (Exit.panic [{ v := .iface 255 (.pointer (some a2)), recovered := false }])
      { tmps := tm, defers := [{ target := Target.fn (Fn.func 65) #[.pointer (some ⟨p, 0, none⟩), .pointer (some ⟨q, 0, none⟩), .pointer (some ⟨r, 0, none⟩)], args := #[] }] } w1 := by
  refine leaves_cons (f := 65) (args := #[.pointer (some ⟨p, 0, none⟩), .pointer (some ⟨q, 0, none⟩), .pointer (some ⟨r, 0, none⟩)]) (by simp) (by simp [go_sem]) ?_
  refine (catch_panicking p q r 0 _ _ ⟨_, _, _, rfl⟩ a2 _ _ [] w1 h3 hf).mono ?_
  rintro e u' w'' ⟨rfl, rfl, rfl⟩
  obtain ⟨k0, k1, k2, z0, z1, z2⟩ := (h3.set (t' := 0) (sl' := .slice none 0 0) (ev' := .iface 255 (.pointer (some a2)))).facts
  generalize ((w1.setCell ⟨p, 0, none⟩ (.int .i64 0)).setCell ⟨q, 0, none⟩ (.slice none 0 0)).setCell ⟨r, 0, none⟩ (.iface 255 (.pointer (some a2))) = W at *
  simp [Leaves, settle, results, Tryz.results40, go_sem, t2, t3, t4, k0, k1, k2]
  exact hQ

set_option maxRecDepth 100000 in
set_option maxHeartbeats 1000000 in
theorem door_ret {Q : Ending → World → Prop} {p q r : Nat} {t : Int} {sl ev : Value} (tm : Array Value) (w1 : World) (h3 : Three w1 p q r t sl ev)
    (t2 : tm[2]?.getD undef = .pointer (some ⟨p, 0, none⟩)) (t3 : tm[3]?.getD undef = .pointer (some ⟨q, 0, none⟩)) (t4 : tm[4]?.getD undef = .pointer (some ⟨r, 0, none⟩))
    (hQ : Q (.returned (.tuple #[.int .i64 t, sl, ev])) w1) :
    bodyPostD Tryz.prog Tryz.f40 Q Exit.ret
      { tmps := tm, defers := [{ target := Target.fn (Fn.func 65) #[.pointer (some ⟨p, 0, none⟩), .pointer (some ⟨q, 0, none⟩), .pointer (some ⟨r, 0, none⟩)], args := #[] }] } w1 := by
  refine leaves_cons (f := 65) (args := #[.pointer (some ⟨p, 0, none⟩), .pointer (some ⟨q, 0, none⟩), .pointer (some ⟨r, 0, none⟩)]) (by simp) (by simp [go_sem]) ?_
  refine (catch_idle _ _ _ w1).mono ?_
  rintro e u' w'' ⟨rfl, rfl, rfl⟩
  obtain ⟨k0, k1, k2, z0, z1, z2⟩ := h3.facts
  simp [Leaves, settle, results, Tryz.results40, go_sem, t2, t3, t4, k0, k1, k2]
  exact hQ

set_option maxRecDepth 100000 in
set_option maxHeartbeats 1000000 in
theorem sUnpack_any (bs : List UInt8) (w : World) (hl : bs.length ≤ maxLen) (a0 a1 a2 : Addr) (he : Errs w a0 a1 a2) :
    Calls Tryz.prog 40 #[.string (str bs)] w fun e w' => Below w.heap.size w w' ∧ ((pRead bs = none ∧ e = .returned (.tuple #[.int .i64 0, .slice none 0 0, .iface 255 (.pointer (some a2))])) ∨
      ∃ t how vs b, pRead bs = some (t, how, vs) ∧ e = .returned (.tuple #[.int .i64 (t : Nat), .slice (some ⟨b, 0, none⟩) vs.length vs.length, .nilIface]) ∧ w.heap.size ≤ b ∧ RowT w' b vs []) := by
  have hmf : ∀ (fn : Fn) (first cap : Array Value) (w : World), (Instr.makeFunc fn first cap).run Tryz.prog w = .ok (.func fn first cap) w := fun _ _ _ _ => rfl
  have hH := lt_of_cell he.c2
  simp only at hH
  obtain ⟨w0, hw0⟩ : ∃ w0, w0 = startW w bs := ⟨_, rfl⟩
  have hb0 : Below w.heap.size w w0 := by
    rw [hw0]
    exact ((((Below.refl _ _).alloc (Nat.le_refl _) _).alloc (by simp) _).alloc (by simp; omega) _).alloc (by simp; omega) _
  have hsz0 : w0.heap.size = w.heap.size + 1 + 1 + 1 + 1 := by rw [hw0]; simp [startW]
  obtain ⟨q0, q1, q2, q3⟩ := alloc4 w (.cells #[.int .i64 0] 3) (.cells #[.slice none 0 0] 37) (.cells #[.nilIface] 70) (.cells #[.int .i64 0, .string (str bs)] 125)
  have h30 : Three w0 w.heap.size (w.heap.size + 1) (w.heap.size + 1 + 1) 0 (.slice none 0 0) .nilIface := by
    rw [hw0]
    exact ⟨q0, q1, q2, by omega, by omega, by omega⟩
  have hR0 : RAt w0 (w.heap.size + 1 + 1 + 1) 0 bs a2 := by
    refine ⟨by omega, ?_, (he.below hb0).c2, hl⟩
    rw [hw0]
    exact q3
  clear q0 q1 q2 q3
  have hhd := head_any _ _ bs a2 w0 hR0
  go_enter_defers Tryz.func40, Tryz.ntmps40
  go_wp2_with fail
  rw [hw0] at hhd
  refine hhd.mono ?_
  rw [← hw0]
  clear hhd
  rintro e w1 ⟨hk1, ⟨hr1, rfl⟩ | ⟨t, how, n, r, hr1, rfl, hA1⟩⟩
  · go_wp2_with fail
    have h31 : Three w1 w.heap.size (w.heap.size + 1) (w.heap.size + 1 + 1) 0 (.slice none 0 0) .nilIface := h30.of_block (hk1.block _ (by omega) (by omega)) (hk1.block _ (by omega) (by omega)) (hk1.block _ (by omega) (by omega))
    have hbw := hb0.trans (hk1.below (B := w.heap.size) (by omega) (by omega))
    refine door_panic _ w1 a2 h31 (he.below hbw).c2 rfl rfl rfl ⟨?_, .inl ⟨?_, rfl⟩⟩
    · exact ((hbw.setCell (p := ⟨w.heap.size, 0, none⟩) (Nat.le_refl _) _).setCell (p := ⟨w.heap.size + 1, 0, none⟩) (by show w.heap.size ≤ w.heap.size + 1; omega) _).setCell (p := ⟨w.heap.size + 1 + 1, 0, none⟩) (by show w.heap.size ≤ w.heap.size + 1 + 1; omega) _
    · unfold pRead; rw [hr1]
  · obtain ⟨hway, hn64⟩ := rdHead_way hr1
    have hvs := values_any _ _ how n r a2 w1 hA1 (way_typ _ _ hway) (way_cases _ _ hway) hn64
    go_wp2_with fail
    refine hvs.mono ?_
    clear hvs
    rintro e w2 ⟨hk2, ⟨hr2, rfl⟩ | ⟨vs, rest, v, hr2, rfl, ⟨b, rfl, hb, hrow⟩, hA2⟩⟩
    · go_wp2_with fail
      have hk12 := hk1.trans hk2
      have h31 : Three w2 w.heap.size (w.heap.size + 1) (w.heap.size + 1 + 1) 0 (.slice none 0 0) .nilIface := h30.of_block (hk12.block _ (by omega) (by omega)) (hk12.block _ (by omega) (by omega)) (hk12.block _ (by omega) (by omega))
      have hbw := hb0.trans (hk12.below (B := w.heap.size) (by omega) (by omega))
      refine door_panic _ w2 a2 h31 (he.below hbw).c2 rfl rfl rfl ⟨?_, .inl ⟨?_, rfl⟩⟩
      · exact ((hbw.setCell (p := ⟨w.heap.size, 0, none⟩) (Nat.le_refl _) _).setCell (p := ⟨w.heap.size + 1, 0, none⟩) (by show w.heap.size ≤ w.heap.size + 1; omega) _).setCell (p := ⟨w.heap.size + 1 + 1, 0, none⟩) (by show w.heap.size ≤ w.heap.size + 1 + 1; omega) _
      · unfold pRead
        rw [hr1]
        simp only [hr2]
    · have hk12 := hk1.trans hk2
      have h32 : Three w2 w.heap.size (w.heap.size + 1) (w.heap.size + 1 + 1) 0 (.slice none 0 0) .nilIface := h30.of_block (hk12.block _ (by omega) (by omega)) (hk12.block _ (by omega) (by omega)) (hk12.block _ (by omega) (by omega))
      have hbw := hb0.trans (hk12.below (B := w.heap.size) (by omega) (by omega))
      obtain ⟨k0, k1, k2, z0, z1, z2⟩ := h32.facts
      have c0 := hA2.typ
      have hs1 := hk1.size
      have hHb : w.heap.size + 1 + 1 + 1 < b := by omega
      have hn63 : vs.length ≤ maxLen := by
        rw [rdVals_length hr2]
        unfold maxLen
        omega
      have HPR : Hid (pRead bs = if pOut t how vs = (bs, 0) then some (t, how, vs) else none) := by
        show _ = _
        unfold pRead
        rw [hr1]
        simp only [hr2]
      clear hk1 hk2 hk12 hr1 hr2 hA1 hR0 h30 hs1 hw0 hsz0 hb0 hb
      go_wp2_with fail
      obtain ⟨p, hp⟩ : ∃ p, p = w.heap.size := ⟨_, rfl⟩
      obtain ⟨q, hq⟩ : ∃ q, q = w.heap.size + 1 := ⟨_, rfl⟩
      obtain ⟨rr, hrr⟩ : ∃ rr, rr = w.heap.size + 1 + 1 := ⟨_, rfl⟩
      obtain ⟨g, hg⟩ : ∃ g, g = w.heap.size + 1 + 1 + 1 := ⟨_, rfl⟩
      have h33 : Three (w2.setCell ⟨q, 0, none⟩ (.slice (some ⟨b, 0, none⟩) vs.length vs.length)) p q rr 0 (.slice (some ⟨b, 0, none⟩) vs.length vs.length) .nilIface := by
        rw [hp, hq, hrr]
        refine ⟨?_, heap_set1 h32.c1, ?_, h32.pq, h32.pr, h32.qr⟩
        · rw [Below.heap_setCell _ _ _ _ (show w.heap.size ≠ w.heap.size + 1 by omega)]; exact h32.c0
        · rw [Below.heap_setCell _ _ _ _ (show w.heap.size + 1 + 1 ≠ w.heap.size + 1 by omega)]; exact h32.c2
      have hb3 : Below w.heap.size w (w2.setCell ⟨q, 0, none⟩ (.slice (some ⟨b, 0, none⟩) vs.length vs.length)) := hbw.setCell (p := ⟨q, 0, none⟩) (by show w.heap.size ≤ q; omega) _
      have hrow3 : RowT (w2.setCell ⟨q, 0, none⟩ (.slice (some ⟨b, 0, none⟩) vs.length vs.length)) b vs [] := hrow.of_block (Below.heap_setCell _ _ _ _ (show b ≠ q by omega))
      have hc3 : (w2.setCell ⟨q, 0, none⟩ (.slice (some ⟨b, 0, none⟩) vs.length vs.length)).cell? ⟨g, 0, none⟩ = some (.int .i64 (t : Int)) := by
        rw [World.cell?_of_block (w := w2) (Below.heap_setCell _ _ _ _ (show g ≠ q by omega)), hg]; exact c0
      have hwp : w.heap.size ≤ p := by omega
      have hwq : w.heap.size ≤ q := by omega
      have hwr : w.heap.size ≤ rr := by omega
      have hwg : ¬ g = p ∧ ¬ g = q ∧ ¬ g = rr ∧ ¬ b = p ∧ ¬ b = q ∧ ¬ b = rr := by omega
      have hwb : w.heap.size ≤ b := by omega
      rw [← hg, ← hrr, ← hq, ← hp]
      generalize w2.setCell ⟨q, 0, none⟩ (.slice (some ⟨b, 0, none⟩) vs.length vs.length) = w3 at *
      clear hp hq hrr hg k0 k1 k2 z0 z1 z2 c0 h32 hbw hrow hA2 hHb
      obtain ⟨k0, k1, k2, z0, z1, z2⟩ := h33.facts
      have hgl := lt_of_cell hc3
      simp only at hgl
      obtain ⟨hpl, hql, hrl⟩ := h33.lt
      have hsp : Calls Tryz.prog 68 #[.int .i64 (t : Int), .int .i64 (how : Int), .slice (some ⟨b, 0, none⟩) vs.length vs.length] w3.drew fun e w' => e = .returned (.tuple #[.string (str (pOut t how vs).1), errVal a0 a1 (pOut t how vs).2]) ∧ Below w3.heap.size w3 w' :=
        (sPack_any t how _ _ vs _ hn63 (hrow3.vals.below ((Below.refl _ _).drew)) a0 a1 a2 (he.below hb3.drew)).mono fun e w' h => ⟨h.1, below_undrew h.2⟩
      generalize pOut t how vs = po at *
      obtain ⟨out, code⟩ := po
      simp only at hsp
      have hpq := h33.pq
      have hpr := h33.pr
      have hqr := h33.qr
      by_cases h0 : code = 0
      · subst h0
        have hev : errVal a0 a1 0 = .nilIface := rfl
        rw [hev] at hsp
        clear hev
        by_cases heq : out = bs
        · have hee : ((str out).toList == (str bs).toList) = true := by rw [heq]; simp
          have HPS : Hid (pRead bs = some (t, how, vs)) := by
            show _ = _
            rw [HPR.out, heq, if_pos rfl]
          clear HPR heq
          obtain ⟨hgp, hgq, hgr, hbp, hbq, hbr⟩ := hwg
          have hrl3 := hrow3.lt
          refine wp_only ?_
          go_region_with (first | (go_at_call 68; refine hsp.mono ?_; rintro e w4 ⟨rfl, hb4⟩; obtain ⟨kk, kf⟩ := below_keep hb4))
          all_goals
            have h34 : Three w4 p q rr 0 (.slice (some ⟨b, 0, none⟩) vs.length vs.length) .nilIface := h33.of_block (hb4.block _ hpl) (hb4.block _ hql) (hb4.block _ hrl)
            have h35 := h34.s2 (ev' := .nilIface)
            have hb5 : Below w.heap.size w (w4.setCell ⟨rr, 0, none⟩ .nilIface) := (hb3.trans (hb4.mono hb3.size)).setCell (p := ⟨rr, 0, none⟩) hwr _
            have hrow5 : RowT (w4.setCell ⟨rr, 0, none⟩ .nilIface) b vs [] := (hrow3.of_block (hb4.block _ hrl3)).of_block (Below.heap_setCell _ _ _ _ hbr)
            have hc5 : (w4.setCell ⟨rr, 0, none⟩ .nilIface).cell? ⟨g, 0, none⟩ = some (.int .i64 (t : Int)) := by
              rw [World.cell?_of_block (w := w4) (Below.heap_setCell _ _ _ _ hgr), World.cell?_of_block (w := w3) (hb4.block _ hgl)]; exact hc3
            clear kk kf hsp hb4 h34
            obtain ⟨k0, k1, k2, z0, z1, z2⟩ := h35.facts
            go_wp2_with fail
            generalize w4.setCell ⟨rr, 0, none⟩ .nilIface = w5 at *
            refine wp_only ?_
            go_region
            all_goals
              go_wp2_with fail
              refine door_ret _ _ (t := (t : Int)) (sl := .slice (some ⟨b, 0, none⟩) vs.length vs.length) (ev := .nilIface) (by repeat (first | exact h35 | exact h35.drew | apply Three.s0 | apply Three.s1 | apply Three.s2 | apply Three.drew)) rfl rfl rfl ⟨?_, .inr ⟨t, how, vs, b, HPS.out, rfl, hwb, ?_⟩⟩
              · repeat (first | exact hb5 | exact hb5.drew | refine Below.setCell ?_ (by assumption) _ | refine Below.drew ?_)
              · repeat (first | exact hrow5 | exact rowT_drew hrow5 | refine RowT.of_block ?_ (Below.heap_setCell _ _ _ _ (by assumption)) | refine rowT_drew ?_)
        · have hne : ((str out).toList == (str bs).toList) = false := by
            rw [beq_eq_false_iff_ne, ByteArray.toList_eq, ByteArray.toList_eq]
            simpa [str] using heq
          have HPN : Hid (pRead bs = none) := by
            show _ = _
            rw [HPR.out, if_neg (by simp [heq])]
          clear HPR heq
          refine wp_only ?_
          go_region_with (first | (go_at_call 68; refine hsp.mono ?_; rintro e w4 ⟨rfl, hb4⟩; obtain ⟨kk, kf⟩ := below_keep hb4))
          all_goals
            have h34 : Three w4 p q rr 0 (.slice (some ⟨b, 0, none⟩) vs.length vs.length) .nilIface := h33.of_block (hb4.block _ hpl) (hb4.block _ hql) (hb4.block _ hrl)
            have h35 := h34.s2 (ev' := .nilIface)
            have hb5 : Below w.heap.size w (w4.setCell ⟨rr, 0, none⟩ .nilIface) := (hb3.trans (hb4.mono hb3.size)).setCell (p := ⟨rr, 0, none⟩) hwr _
            clear kk kf hsp hb4 h34
            obtain ⟨k0, k1, k2, z0, z1, z2⟩ := h35.facts
            have hE := (he.below hb5).c2
            go_wp2_with fail
            generalize w4.setCell ⟨rr, 0, none⟩ .nilIface = w5 at *
            refine wp_only ?_
            go_region
            all_goals
              go_wp2_with fail
              refine door_ret _ _ (t := 0) (sl := .slice none 0 0) (ev := .iface 255 (.pointer (some a2))) (by repeat (first | exact h35 | exact h35.drew | apply Three.s0 | apply Three.s1 | apply Three.s2 | apply Three.drew)) rfl rfl rfl ⟨?_, .inl ⟨HPN.out, rfl⟩⟩
              repeat (first | exact hb5 | exact hb5.drew | refine Below.setCell ?_ (by assumption) _ | refine Below.drew ?_)
      · obtain ⟨ax, hax⟩ : ∃ ax, errVal a0 a1 code = .iface 255 (.pointer (some ax)) := by
          unfold errVal
          rw [if_neg h0]
          split
          · exact ⟨_, rfl⟩
          · exact ⟨_, rfl⟩
        rw [hax] at hsp
        clear hax
        have HPN : Hid (pRead bs = none) := by
          show _ = _
          rw [HPR.out, if_neg (by simp [h0])]
        clear HPR h0
        refine wp_only ?_
        go_region_with (first | (go_at_call 68; refine hsp.mono ?_; rintro e w4 ⟨rfl, hb4⟩; obtain ⟨kk, kf⟩ := below_keep hb4))
        all_goals
          have h34 : Three w4 p q rr 0 (.slice (some ⟨b, 0, none⟩) vs.length vs.length) .nilIface := h33.of_block (hb4.block _ hpl) (hb4.block _ hql) (hb4.block _ hrl)
          have h35 := h34.s2 (ev' := (.iface 255 (.pointer (some ax))))
          have hb5 : Below w.heap.size w (w4.setCell ⟨rr, 0, none⟩ (.iface 255 (.pointer (some ax)))) := (hb3.trans (hb4.mono hb3.size)).setCell (p := ⟨rr, 0, none⟩) hwr _
          clear kk kf hsp hb4 h34
          obtain ⟨k0, k1, k2, z0, z1, z2⟩ := h35.facts
          have hE := (he.below hb5).c2
          go_wp2_with fail
          generalize w4.setCell ⟨rr, 0, none⟩ (.iface 255 (.pointer (some ax))) = w5 at *
          refine wp_only ?_
          go_region
          all_goals
            go_wp2_with fail
            refine door_ret _ _ (t := 0) (sl := .slice none 0 0) (ev := .iface 255 (.pointer (some a2))) (by repeat (first | exact h35 | exact h35.drew | apply Three.s0 | apply Three.s1 | apply Three.s2 | apply Three.drew)) rfl rfl rfl ⟨?_, .inl ⟨HPN.out, rfl⟩⟩
            repeat (first | exact hb5 | exact hb5.drew | refine Below.setCell ?_ (by assumption) _ | refine Below.drew ?_)
end Go.Proofs.YtfgklnenpichcaaGreatDoor

/-! What the program's Unpack answers, for every text. -/
namespace Go.Proofs.YtfgklnenpichcaaGreatDoor
open Go.RowKit

set_option maxHeartbeats 1000000 in
theorem Unpack_any (bs : List UInt8) (w : World) (hl : bs.length ≤ maxLen) (a0 a1 a2 : Addr) (he : Errs w a0 a1 a2) :
    Calls Tryz.prog 23 #[.string (str bs)] w fun e w' => Below w.heap.size w w' ∧ ((pRead bs = none ∧ e = .returned (.tuple #[.int .i64 0, .slice none 0 0, fault 3])) ∨
      ∃ t how vs b, pRead bs = some (t, how, vs) ∧ e = .returned (.tuple #[.int .i64 (t : Nat), .slice (some ⟨b, 0, none⟩) vs.length vs.length, fault 0]) ∧ w.heap.size ≤ b ∧ RowT w' b vs []) := by
  have hb0 : Below w.heap.size w (w.alloc (.cells #[.int .i64 0, .int .i64 0, .int .i64 0, .int .i64 0, .int .i64 0] 43)) := (Below.refl _ _).alloc (Nat.le_refl _) _
  have hu := sUnpack_any bs _ hl a0 a1 a2 (he.below hb0)
  go_enter Tryz.func23, Tryz.ntmps23
  go_wp2_with fail
  refine hu.mono ?_
  clear hu
  rintro e w1 ⟨hb1, ⟨hr, rfl⟩ | ⟨t, how, vs, b, hr, rfl, hb, hrow⟩⟩
  · have HR : Hid _ := hr
    clear hr
    go_wp2_with fail
    have hb2 := below_then hb0 hb1
    refine (fault_form a0 a1 a2 w1 (he.below hb2)).mono ?_
    rintro e w2 ⟨rfl, hb3⟩
    obtain ⟨k1, k2⟩ := below_keep (below_then hb1 hb3)
    have hb4 := below_then hb2 hb3
    go_wp2
    exact bodyPost_ret (v := .tuple #[.int .i64 0, .slice none 0 0, fault 3]) (by simp [results, Tryz.results23, go_sem, k1]) rfl ⟨below_set5 hb4 (Nat.le_refl _) _ _ _ _ _, .inl ⟨HR.out, rfl⟩⟩
  · have HR : Hid _ := hr
    clear hr
    simp at hb
    go_wp2_with fail
    have hb2 := below_then hb0 hb1
    refine (fault_nil w1).mono ?_
    rintro e w2 ⟨rfl, hb3⟩
    obtain ⟨k1, k2⟩ := below_keep (below_then hb1 hb3)
    have hb4 := below_then hb2 hb3
    have hrow2 := hrow.of_block (hb3.block _ hrow.lt)
    go_wp2
    refine bodyPost_ret (v := .tuple #[.int .i64 (t : Int), .slice (some ⟨b, 0, none⟩) vs.length vs.length, fault 0]) (by simp [results, Tryz.results23, go_sem, k1]) rfl ⟨below_set5 hb4 (Nat.le_refl _) _ _ _ _ _, .inr ⟨t, how, vs, b, HR.out, rfl, by omega, ?_⟩⟩
    refine hrow2.of_block ?_
    rw [Below.heap_setCell _ _ _ _ (by show b ≠ w.heap.size; omega), Below.heap_setCell _ _ _ _ (by show b ≠ w.heap.size; omega), Below.heap_setCell _ _ _ _ (by show b ≠ w.heap.size; omega), Below.heap_setCell _ _ _ _ (by show b ≠ w.heap.size; omega), Below.heap_setCell _ _ _ _ (by show b ≠ w.heap.size; omega)]
end Go.Proofs.YtfgklnenpichcaaGreatDoor
