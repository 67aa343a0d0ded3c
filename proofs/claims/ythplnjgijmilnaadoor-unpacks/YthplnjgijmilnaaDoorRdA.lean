/- The reader of a segment in memory, and its smallest steps: the next bytes are taken, or it gives up by a panic. -/
import Derived.Test.YthplnjgijmilnaaDoorWalkN
import Derived.Recover
import Derived.Defers
namespace Go.Proofs.YthplnjgijmilnaaDoor
open Go.RowKit

/-- A reader of the type t before which the bytes bs lie still, at block g; a2 is the error with which it gives up. -/
structure RAt (w : World) (g : Nat) (t : Int) (bs : List UInt8) (a2 : Addr) : Prop where
  far : 2 < g
  cells : w.heap[g]? = some (.cells #[.int .i64 t, .string (str bs)] 73 (0, 0))
  form : w.cell? ⟨2, 0, none⟩ = some (.iface 126 (.pointer (some a2)))
  len : bs.length ≤ maxLen

/-- What a reader's method leaves alone. -/
structure RKeep (w w' : World) (g : Nat) : Prop where
  os : w'.os = w.os
  tape : w'.tape = w.tape
  output : w'.output = w.output
  size : w.heap.size ≤ w'.heap.size
  block : ∀ k, k < w.heap.size → k ≠ g → w'.heap[k]? = w.heap[k]?

theorem RKeep.refl (w : World) (g : Nat) : RKeep w w g := ⟨rfl, rfl, rfl, Nat.le_refl _, fun _ _ _ => rfl⟩
theorem RKeep.trans {a b c : World} {g : Nat} (h : RKeep a b g) (k : RKeep b c g) : RKeep a c g :=
  ⟨k.os.trans h.os, k.tape.trans h.tape, k.output.trans h.output, Nat.le_trans h.size k.size, fun i hi hn => (k.block i (Nat.lt_of_lt_of_le hi h.size) hn).trans (h.block i hi hn)⟩
theorem RKeep.of_below {w w' : World} (hb : Below w.heap.size w w') (g : Nat) : RKeep w w' g := ⟨hb.os, hb.tape, hb.output, hb.size, fun k hk _ => hb.block k hk⟩
theorem RKeep.below {w w' : World} {g B : Nat} (h : RKeep w w' g) (hB : B ≤ g) (hs : B ≤ w.heap.size) : Below B w w' :=
  ⟨h.os, h.tape, h.output, h.size, fun k hk => h.block k (by omega) (by omega)⟩

theorem RAt.lt {w : World} {g : Nat} {t : Int} {bs : List UInt8} {a2 : Addr} (h : RAt w g t bs a2) : g < w.heap.size := lt_of_heap h.cells
theorem RAt.below {w w' : World} {g : Nat} {t : Int} {bs : List UInt8} {a2 : Addr} (h : RAt w g t bs a2) (hb : Below w.heap.size w w') : RAt w' g t bs a2 :=
  ⟨h.far, by rw [hb.block g h.lt]; exact h.cells, by rw [World.cell?_of_block (w := w) (hb.block 2 (by have := h.lt; have := h.far; omega))]; exact h.form, h.len⟩
theorem RAt.typ {w : World} {g : Nat} {t : Int} {bs : List UInt8} {a2 : Addr} (h : RAt w g t bs a2) : w.cell? ⟨g, 0, none⟩ = some (.int .i64 t) := by simp [World.cell?, h.cells]
theorem RAt.left {w : World} {g : Nat} {t : Int} {bs : List UInt8} {a2 : Addr} (h : RAt w g t bs a2) : w.cell? ⟨g, 1, none⟩ = some (.string (str bs)) := by simp [World.cell?, h.cells]
theorem RAt.thaw {w : World} {g : Nat} {t : Int} {bs : List UInt8} {a2 : Addr} (h : RAt w g t bs a2) (i : Nat) : w.frozen? ⟨g, i, none⟩ = false := by simp [World.frozen?, h.cells]
theorem RAt.setLeft {w : World} {g : Nat} {t : Int} {bs bs' : List UInt8} {a2 : Addr} (h : RAt w g t bs a2) (hl : bs'.length ≤ maxLen) : RAt (w.setCell ⟨g, 1, none⟩ (.string (str bs'))) g t bs' a2 := by
  refine ⟨h.far, ?_, ?_, hl⟩
  · simp [World.setCell, Array.getElem?_modify, h.cells]
  · rw [World.cell?_of_block (w := w) (Below.heap_setCell _ _ _ _ (by have := h.far; show 2 ≠ g; omega))]; exact h.form
theorem RAt.setTyp {w : World} {g : Nat} {t t' : Int} {bs : List UInt8} {a2 : Addr} (h : RAt w g t bs a2) : RAt (w.setCell ⟨g, 0, none⟩ (.int .i64 t')) g t' bs a2 := by
  refine ⟨h.far, ?_, ?_, h.len⟩
  · simp [World.setCell, Array.getElem?_modify, h.cells]
  · rw [World.cell?_of_block (w := w) (Below.heap_setCell _ _ _ _ (by have := h.far; show 2 ≠ g; omega))]; exact h.form
theorem RKeep.set (w : World) (g i : Nat) (v : Value) : RKeep w (w.setCell ⟨g, i, none⟩ v) g :=
  ⟨rfl, rfl, rfl, by simp [World.setCell], fun k _ hn => Below.heap_setCell _ _ _ _ hn⟩

/-- The panic of a reader that gives up. -/
abbrev gaveUp (a2 : Addr) : Ending := .panicked [{ v := .iface 126 (.pointer (some a2)), recovered := false }]

/-- What a reader's method does: it gives up, or answers and has read on. -/
def ROut {α : Type} (w : World) (g : Nat) (t : Int) (a2 : Addr) (r : Option (α × List UInt8)) (R : α → Value → World → Prop) (e : Ending) (w' : World) : Prop :=
  RKeep w w' g ∧ ((r = none ∧ e = gaveUp a2) ∨ ∃ x rest v, r = some (x, rest) ∧ e = .returned v ∧ R x v w' ∧ RAt w' g t rest a2)

theorem ROut.up {α : Type} {w w' : World} {g : Nat} {t : Int} {a2 : Addr} {r : Option (α × List UInt8)} {R : α → Value → World → Prop} (hk : RKeep w w' g) (hr : r = none) : ROut w g t a2 r R (gaveUp a2) w' := ⟨hk, .inl ⟨hr, rfl⟩⟩
theorem ROut.ok {α : Type} {w w' : World} {g : Nat} {t : Int} {a2 : Addr} {r : Option (α × List UInt8)} {R : α → Value → World → Prop} {x : α} {rest : List UInt8} {v : Value} (hk : RKeep w w' g) (hr : r = some (x, rest)) (hR : R x v w') (hA : RAt w' g t rest a2) :
    ROut w g t a2 r R (.returned v) w' := ⟨hk, .inr ⟨x, rest, v, hr, rfl, hR, hA⟩⟩

theorem need_true (w : World) : Calls Tryd.prog 61 #[.bool true] w fun e w' => e = .returned (.tuple #[]) ∧ w' = w := by
  have hnot : ∀ (x : Bool) (w : World), (Op.unary .not (.bool x)).run Tryd.prog w = .ok (.bool (!x)) w := fun _ _ => rfl
  go_enter Tryd.func61, Tryd.ntmps61
  go_wp2
  go_end0
  exact ⟨rfl, rfl⟩
theorem need_false (a2 : Addr) (w : World) (h : w.cell? ⟨2, 0, none⟩ = some (.iface 126 (.pointer (some a2)))) : Calls Tryd.prog 61 #[.bool false] w fun e w' => e = gaveUp a2 ∧ w' = w := by
  have hnot : ∀ (x : Bool) (w : World), (Op.unary .not (.bool x)).run Tryd.prog w = .ok (.bool (!x)) w := fun _ _ => rfl
  go_enter Tryd.func61, Tryd.ntmps61
  go_wp2
  exact ⟨rfl, rfl, rfl⟩

theorem str_extract (bs : List UInt8) (i j : Nat) : (str bs).extract i j = str ((bs.take j).drop i) := by
  unfold str
  rw [ByteArray.ext_iff]
  simp [List.extract_eq_take_drop, List.drop_take]

theorem wrap64_nat (n : Nat) (h : n < 9223372036854775808) : wrap64 (n : Int) = n := by unfold wrap64; omega

/-- The next n bytes. -/
def rdTake (n : Nat) (bs : List UInt8) : Option (List UInt8 × List UInt8) := if n ≤ bs.length then some (bs.take n, bs.drop n) else none

set_option maxHeartbeats 400000 in
theorem take_any (g : Nat) (t : Int) (bs : List UInt8) (a2 : Addr) (n : Nat) (w : World) (h : RAt w g t bs a2) :
    Calls Tryd.prog 78 #[.pointer (some ⟨g, 0, none⟩), .int .i64 n] w (ROut w g t a2 (rdTake n bs) fun x v _ => v = .string (str x)) := by
  have c0 := h.typ
  have c1 := h.left
  have c2 := h.thaw 1
  have hl := h.len
  have hsz := str_size bs
  by_cases hle : n ≤ bs.length
  · have hle' : ((n : Int) ≤ ((bs.length : Nat) : Int)) := by omega
    go_enter Tryd.func78, Tryd.ntmps78
    go_wp2_with fail
    refine (need_true _).mono ?_
    rintro e w' ⟨rfl, rfl⟩
    go_wp2_with fail
    go_ret
    have e1 := str_extract bs 0 n
    have e2 := str_extract bs n bs.length
    rw [List.drop_zero] at e1
    rw [List.take_length] at e2
    rw [e1, e2]
    exact ROut.ok (RKeep.set _ _ _ _) (by unfold rdTake; rw [if_pos hle]) rfl (h.setLeft (by simp; omega))
  · have hle' : ¬ ((n : Int) ≤ ((bs.length : Nat) : Int)) := by omega
    go_enter Tryd.func78, Tryd.ntmps78
    go_wp2_with fail
    refine (need_false a2 _ h.form).mono ?_
    rintro e w' ⟨rfl, rfl⟩
    go_wp2_with fail
    exact ⟨rfl, ROut.up (RKeep.refl _ _) (by unfold rdTake; rw [if_neg hle])⟩

/-- The next byte, as a number. -/
def rdByte : List UInt8 → Option (Nat × List UInt8)
  | [] => none
  | b :: r => some (b.toNat, r)
theorem rdByte_lt {bs rest : List UInt8} {n : Nat} (h : rdByte bs = some (n, rest)) : n < 256 := by
  cases bs with
  | nil => simp [rdByte] at h
  | cons b r =>
    simp [rdByte] at h
    rw [← h.1]
    exact b.toNat_lt

set_option maxHeartbeats 400000 in
theorem small_any (g : Nat) (t : Int) (bs : List UInt8) (a2 : Addr) (w : World) (h : RAt w g t bs a2) :
    Calls Tryd.prog 60 #[.pointer (some ⟨g, 0, none⟩)] w (ROut w g t a2 (rdByte bs) fun n v _ => v = .int .i64 (n : Int)) := by
  have h1 := take_any g t bs a2 1 w h
  simp only [Int.natCast_one] at h1
  go_enter Tryd.func60, Tryd.ntmps60
  go_wp2_with fail
  refine h1.mono ?_
  rintro e w1 ⟨hk, ⟨hr, rfl⟩ | ⟨x, rest, v, hr, rfl, rfl, hA⟩⟩
  · go_wp2_with fail
    refine ⟨rfl, ROut.up hk ?_⟩
    cases bs with
    | nil => rfl
    | cons b r => simp [rdTake] at hr
  · cases bs with
    | nil => simp [rdTake] at hr
    | cons b r =>
      simp [rdTake] at hr
      obtain ⟨rfl, rfl⟩ := hr
      have hsz : (str [b]).size = 1 := rfl
      have hlt : (0 : Int) ≤ 0 ∧ (0 : Int) < (((str [b]).size : Nat) : Int) := by rw [hsz]; omega
      go_wp2_with fail
      go_ret
      refine ROut.ok hk rfl ?_ hA
      show Value.int .i64 (wrap64 (((str [b])[0]).toNat : Int)) = .int .i64 (b.toNat : Int)
      have hb := b.toNat_lt
      have e : (str [b])[0] = b := rfl
      rw [e, wrap64_nat _ (by omega)]
end Go.Proofs.YthplnjgijmilnaaDoor
