/- The reader of a segment in memory, and its smallest steps: the next bytes are taken, or it gives up by a panic. -/
import Derived.Test.YtfgklnenpichcaaGreatDoorKd
import Derived.Recover
import Derived.Defers
import Derived.Lib.ConvBytes
import Derived.Lib.Strings
import Derived.Lib.Walk
import Derived.Lib.BufferWrite
import Derived.Lib.UnsafeStr
import Derived.Laws.MakeOwn
namespace Go.Proofs.YtfgklnenpichcaaGreatDoor
open Go.RowKit

/-- A reader of the type t before which the bytes bs lie still, at block g; a2 is the error with which it gives up. -/
structure RAt (w : World) (g : Nat) (t : Int) (bs : List UInt8) (a2 : Addr) : Prop where
  far : 2 < g
  cells : w.heap[g]? = some (.cells #[.int .i64 t, .string (str bs)] 125 (0, 0))
  form : w.cell? ⟨2, 0, none⟩ = some (.iface 255 (.pointer (some a2)))
  len : bs.length ≤ maxLen

/-- What a reader's method leaves alone. -/
structure RKeep (w w' : World) (g : Nat) : Prop where
  os : w'.os = w.os
  tape : w'.tape = w.tape
  output : w'.output = w.output
  size : w.heap.size ≤ w'.heap.size
  block : ∀ k, k < w.heap.size → k ≠ g → w'.heap[k]? = w.heap[k]?

theorem RKeep.refl (w : World) (g : Nat) : RKeep w w g := ⟨rfl, rfl, rfl, Nat.le_refl _, fun _ _ _ => rfl⟩
theorem RKeep.trans {a b c : World} {g : Nat} (h : RKeep a b g) (k : RKeep b c g) : RKeep a c g :=
  ⟨k.os.trans h.os, k.tape.trans h.tape, k.output.trans h.output, Nat.le_trans h.size k.size, fun i hi hn => (k.block i (Nat.lt_of_lt_of_le hi h.size) hn).trans (h.block i hi hn)⟩
theorem RKeep.of_below {w w' : World} (hb : Below w.heap.size w w') (g : Nat) : RKeep w w' g := ⟨hb.os, hb.tape, hb.output, hb.size, fun k hk _ => hb.block k hk⟩
theorem RKeep.below {w w' : World} {g B : Nat} (h : RKeep w w' g) (hB : B ≤ g) (hs : B ≤ w.heap.size) : Below B w w' :=
  ⟨h.os, h.tape, h.output, h.size, fun k hk => h.block k (by omega) (by omega)⟩

theorem RAt.lt {w : World} {g : Nat} {t : Int} {bs : List UInt8} {a2 : Addr} (h : RAt w g t bs a2) : g < w.heap.size := lt_of_heap h.cells
theorem RAt.below {w w' : World} {g : Nat} {t : Int} {bs : List UInt8} {a2 : Addr} (h : RAt w g t bs a2) (hb : Below w.heap.size w w') : RAt w' g t bs a2 :=
  ⟨h.far, by rw [hb.block g h.lt]; exact h.cells, by rw [World.cell?_of_block (w := w) (hb.block 2 (by have := h.lt; have := h.far; omega))]; exact h.form, h.len⟩
theorem RAt.typ {w : World} {g : Nat} {t : Int} {bs : List UInt8} {a2 : Addr} (h : RAt w g t bs a2) : w.cell? ⟨g, 0, none⟩ = some (.int .i64 t) := by simp [World.cell?, h.cells]
theorem RAt.left {w : World} {g : Nat} {t : Int} {bs : List UInt8} {a2 : Addr} (h : RAt w g t bs a2) : w.cell? ⟨g, 1, none⟩ = some (.string (str bs)) := by simp [World.cell?, h.cells]
theorem RAt.thaw {w : World} {g : Nat} {t : Int} {bs : List UInt8} {a2 : Addr} (h : RAt w g t bs a2) (i : Nat) : w.frozen? ⟨g, i, none⟩ = false := by simp [World.frozen?, h.cells]
theorem RAt.setLeft {w : World} {g : Nat} {t : Int} {bs bs' : List UInt8} {a2 : Addr} (h : RAt w g t bs a2) (hl : bs'.length ≤ maxLen) : RAt (w.setCell ⟨g, 1, none⟩ (.string (str bs'))) g t bs' a2 := by
  refine ⟨h.far, ?_, ?_, hl⟩
  · simp [World.setCell, Array.getElem?_modify, h.cells]
  · rw [World.cell?_of_block (w := w) (Below.heap_setCell _ _ _ _ (by have := h.far; show 2 ≠ g; omega))]; exact h.form
theorem RAt.setTyp {w : World} {g : Nat} {t t' : Int} {bs : List UInt8} {a2 : Addr} (h : RAt w g t bs a2) : RAt (w.setCell ⟨g, 0, none⟩ (.int .i64 t')) g t' bs a2 := by
  refine ⟨h.far, ?_, ?_, h.len⟩
  · simp [World.setCell, Array.getElem?_modify, h.cells]
  · rw [World.cell?_of_block (w := w) (Below.heap_setCell _ _ _ _ (by have := h.far; show 2 ≠ g; omega))]; exact h.form
theorem RKeep.set (w : World) (g i : Nat) (v : Value) : RKeep w (w.setCell ⟨g, i, none⟩ v) g :=
  ⟨rfl, rfl, rfl, by simp [World.setCell], fun k _ hn => Below.heap_setCell _ _ _ _ hn⟩

/-- The panic of a reader that gives up. -/
abbrev gaveUp (a2 : Addr) : Ending := .panicked [{ v := .iface 255 (.pointer (some a2)), recovered := false }]

/-- What a reader's method does: it gives up, or answers and has read on. -/
def ROut {α : Type} (w : World) (g : Nat) (t : Int) (a2 : Addr) (r : Option (α × List UInt8)) (R : α → Value → World → Prop) (e : Ending) (w' : World) : Prop :=
  RKeep w w' g ∧ ((r = none ∧ e = gaveUp a2) ∨ ∃ x rest v, r = some (x, rest) ∧ e = .returned v ∧ R x v w' ∧ RAt w' g t rest a2)

theorem ROut.up {α : Type} {w w' : World} {g : Nat} {t : Int} {a2 : Addr} {r : Option (α × List UInt8)} {R : α → Value → World → Prop} (hk : RKeep w w' g) (hr : r = none) : ROut w g t a2 r R (gaveUp a2) w' := ⟨hk, .inl ⟨hr, rfl⟩⟩
theorem ROut.ok {α : Type} {w w' : World} {g : Nat} {t : Int} {a2 : Addr} {r : Option (α × List UInt8)} {R : α → Value → World → Prop} {x : α} {rest : List UInt8} {v : Value} (hk : RKeep w w' g) (hr : r = some (x, rest)) (hR : R x v w') (hA : RAt w' g t rest a2) :
    ROut w g t a2 r R (.returned v) w' := ⟨hk, .inr ⟨x, rest, v, hr, rfl, hR, hA⟩⟩

theorem need_true (w : World) : Calls Tryz.prog 93 #[.bool true] w fun e w' => e = .returned (.tuple #[]) ∧ w' = w := by
  have hnot : ∀ (x : Bool) (w : World), (Op.unary .not (.bool x)).run Tryz.prog w = .ok (.bool (!x)) w := fun _ _ => rfl
  go_enter Tryz.func93, Tryz.ntmps93
  go_wp2
  go_end0
  exact ⟨rfl, rfl⟩
theorem need_false (a2 : Addr) (w : World) (h : w.cell? ⟨2, 0, none⟩ = some (.iface 255 (.pointer (some a2)))) : Calls Tryz.prog 93 #[.bool false] w fun e w' => e = gaveUp a2 ∧ w' = w := by
  have hnot : ∀ (x : Bool) (w : World), (Op.unary .not (.bool x)).run Tryz.prog w = .ok (.bool (!x)) w := fun _ _ => rfl
  go_enter Tryz.func93, Tryz.ntmps93
  go_wp2
  exact ⟨rfl, rfl, rfl⟩

theorem str_extract (bs : List UInt8) (i j : Nat) : (str bs).extract i j = str ((bs.take j).drop i) := by
  unfold str
  rw [ByteArray.ext_iff]
  simp [List.extract_eq_take_drop, List.drop_take]

theorem wrap64_nat (n : Nat) (h : n < 9223372036854775808) : wrap64 (n : Int) = n := by unfold wrap64; omega

/-- The next n bytes. -/
def rdTake (n : Nat) (bs : List UInt8) : Option (List UInt8 × List UInt8) := if n ≤ bs.length then some (bs.take n, bs.drop n) else none

set_option maxHeartbeats 400000 in
theorem take_any (g : Nat) (t : Int) (bs : List UInt8) (a2 : Addr) (n : Nat) (w : World) (h : RAt w g t bs a2) :
    Calls Tryz.prog 118 #[.pointer (some ⟨g, 0, none⟩), .int .i64 n] w (ROut w g t a2 (rdTake n bs) fun x v _ => v = .string (str x)) := by
  have c0 := h.typ
  have c1 := h.left
  have c2 := h.thaw 1
  have hl := h.len
  have hsz := str_size bs
  by_cases hle : n ≤ bs.length
  · have hle' : ((n : Int) ≤ ((bs.length : Nat) : Int)) := by omega
    go_enter Tryz.func118, Tryz.ntmps118
    go_wp2_with fail
    refine (need_true _).mono ?_
    rintro e w' ⟨rfl, rfl⟩
    go_wp2_with fail
    go_ret
    have e1 := str_extract bs 0 n
    have e2 := str_extract bs n bs.length
    rw [List.drop_zero] at e1
    rw [List.take_length] at e2
    rw [e1, e2]
    exact ROut.ok (RKeep.set _ _ _ _) (by unfold rdTake; rw [if_pos hle]) rfl (h.setLeft (by simp; omega))
  · have hle' : ¬ ((n : Int) ≤ ((bs.length : Nat) : Int)) := by omega
    go_enter Tryz.func118, Tryz.ntmps118
    go_wp2_with fail
    refine (need_false a2 _ h.form).mono ?_
    rintro e w' ⟨rfl, rfl⟩
    go_wp2_with fail
    exact ⟨rfl, ROut.up (RKeep.refl _ _) (by unfold rdTake; rw [if_neg hle])⟩

/-- The next byte, as a number. -/
def rdByte : List UInt8 → Option (Nat × List UInt8)
  | [] => none
  | b :: r => some (b.toNat, r)
theorem rdByte_lt {bs rest : List UInt8} {n : Nat} (h : rdByte bs = some (n, rest)) : n < 256 := by
  cases bs with
  | nil => simp [rdByte] at h
  | cons b r =>
    simp [rdByte] at h
    rw [← h.1]
    exact b.toNat_lt

set_option maxHeartbeats 400000 in
theorem small_any (g : Nat) (t : Int) (bs : List UInt8) (a2 : Addr) (w : World) (h : RAt w g t bs a2) :
    Calls Tryz.prog 92 #[.pointer (some ⟨g, 0, none⟩)] w (ROut w g t a2 (rdByte bs) fun n v _ => v = .int .i64 (n : Int)) := by
  have h1 := take_any g t bs a2 1 w h
  simp only [Int.natCast_one] at h1
  go_enter Tryz.func92, Tryz.ntmps92
  go_wp2_with fail
  refine h1.mono ?_
  rintro e w1 ⟨hk, ⟨hr, rfl⟩ | ⟨x, rest, v, hr, rfl, rfl, hA⟩⟩
  · go_wp2_with fail
    refine ⟨rfl, ROut.up hk ?_⟩
    cases bs with
    | nil => rfl
    | cons b r => simp [rdTake] at hr
  · cases bs with
    | nil => simp [rdTake] at hr
    | cons b r =>
      simp [rdTake] at hr
      obtain ⟨rfl, rfl⟩ := hr
      have hsz : (str [b]).size = 1 := rfl
      have hlt : (0 : Int) ≤ 0 ∧ (0 : Int) < (((str [b]).size : Nat) : Int) := by rw [hsz]; omega
      go_wp2_with fail
      go_ret
      refine ROut.ok hk rfl ?_ hA
      show Value.int .i64 (wrap64 (((str [b])[0]).toNat : Int)) = .int .i64 (b.toNat : Int)
      have hb := b.toNat_lt
      have e : (str [b])[0] = b := rfl
      rw [e, wrap64_nat _ (by omega)]
end Go.Proofs.YtfgklnenpichcaaGreatDoor

/-! The reader's numbers: eight bytes, and fields of so many bits. -/
namespace Go.Proofs.YtfgklnenpichcaaGreatDoor
open Go.RowKit

/-- The number that some bytes are, the lowest first. -/
def leNat : List UInt8 → Nat
  | [] => 0
  | b :: r => b.toNat + 256 * leNat r
theorem leNat_lt (l : List UInt8) : leNat l < 256 ^ l.length := by
  induction l with
  | nil => simp [leNat]
  | cons b r ih =>
    have hb := b.toNat_lt
    simp only [leNat, List.length_cons, Nat.pow_succ]
    omega
theorem leNat_snoc (l : List UInt8) (b : UInt8) : leNat (l ++ [b]) = leNat l + b.toNat * 256 ^ l.length := by
  induction l with
  | nil => simp [leNat]
  | cons c r ih =>
    simp only [List.cons_append, leNat, ih, List.length_cons, Nat.pow_succ, Nat.mul_add]
    have : 256 * (b.toNat * 256 ^ r.length) = b.toNat * (256 ^ r.length * 256) := by rw [Nat.mul_comm 256, Nat.mul_assoc]
    omega
/-- Eight bytes as a number with a sign. -/
def rdNumber (bs : List UInt8) : Option (Int × List UInt8) :=
  match rdTake 8 bs with
  | none => none
  | some (x, rest) => some (wrap64 (leNat x : Int), rest)

theorem wrap_u64_nat (q : Nat) (h : q < 18446744073709551616) : IntKind.u64.wrap (q : Int) = q := by rw [IntKind.wrap_u64]; omega
theorem or_shift (n b k : Nat) (hn : n < 2 ^ k) : n ||| (b <<< k) = n + b * 2 ^ k := by
  rw [Nat.or_comm, ← Nat.shiftLeft_add_eq_or_of_lt hn, Nat.shiftLeft_eq]; omega

theorem pow256 (k : Nat) : 256 ^ k = 2 ^ (8 * k) := by rw [Nat.pow_mul]
theorem or_byte (n b k : Nat) (hk : k < 8) (hn : n < 256 ^ k) (hb : b < 256) :
    bits BinOp.or IntKind.u64 (n : Int) (IntKind.u64.wrap ((b : Int) * 2 ^ (8 * k))) = ((n + b * 256 ^ k : Nat) : Int) := by
  have e1 : ((b : Int) * 2 ^ (8 * k)) = ((b <<< (8 * k) : Nat) : Int) := by rw [Nat.shiftLeft_eq]; simp
  have hp : 256 ^ k ≤ 256 ^ 7 := Nat.pow_le_pow_right (by decide) (by omega)
  have hp7 : 256 ^ 7 = 72057594037927936 := by decide
  have hbl : b <<< (8 * k) < 18446744073709551616 := by
    rw [Nat.shiftLeft_eq, ← pow256]
    have : b * 256 ^ k ≤ 255 * 256 ^ k := Nat.mul_le_mul_right _ (by omega)
    omega
  have e2 := wrap_u64_nat _ hbl
  rw [e1, e2, u64_or_nat n _ (by omega) hbl]
  congr 1
  rw [or_shift n b (8 * k) (by rw [← pow256]; exact hn), ← pow256]

/-- A text as bytes: a new row of them. -/
theorem conv_bytes (x : List UInt8) (w : World) : ∃ cap w2, (convert 9 180 (.string (str x))).run Tryz.prog w = .ok (.slice (some ⟨w.heap.size, 0, none⟩) x.length cap) w2 ∧
    Cells w2 (some ⟨w.heap.size, 0, none⟩) (x.map bv) ∧ Below w.heap.size w w2 := by
  have h := Lib.run_convert_string_bytes (P := Tryz.prog) w 9 180 5 (str x) Tryz.underlying9 Tryz.underlying180 Tryz.underlying5
  rw [str_size] at h
  refine ⟨_, _, h, .inr ⟨_, _, rfl, by rw [Lib.bytesWorld_size]; omega, ?_⟩, rfl, rfl, rfl, by rw [Lib.bytesWorld_size]; omega, fun k hk => Lib.bytesWorld_at_old _ _ _ _ hk⟩
  intro i v hi
  have hlt : i < x.length := by
    rcases Nat.lt_or_ge i x.length with h' | h'
    · exact h'
    · rw [List.getElem?_eq_none (by simpa using h')] at hi; simp at hi
  have hc := Lib.bytesWorld_cell w 5 (str x) i (by rw [str_size]; exact hlt)
  rw [List.getElem?_map, List.getElem?_eq_getElem hlt] at hi
  simp at hi
  subst hi
  rw [Nat.zero_add, hc]
  simp [str, bv, hlt]

set_option maxRecDepth 100000 in
set_option maxHeartbeats 1000000 in
theorem number_any (g : Nat) (t : Int) (bs : List UInt8) (a2 : Addr) (w : World) (h : RAt w g t bs a2) :
    Calls Tryz.prog 142 #[.pointer (some ⟨g, 0, none⟩)] w (ROut w g t a2 (rdNumber bs) fun n v _ => v = .int .i64 n) := by
  have h1 := take_any g t bs a2 8 w h
  go_enter Tryz.func142, Tryz.ntmps142
  go_wp2_with fail
  refine h1.mono ?_
  rintro e w1 ⟨hk, ⟨hr, rfl⟩ | ⟨x, rest, v, hr, rfl, rfl, hA⟩⟩
  · go_wp2_with fail
    exact ⟨rfl, ROut.up hk (by unfold rdNumber; rw [hr])⟩
  · have hx8 : x.length = 8 := by
      unfold rdTake at hr
      split at hr
      · simp at hr; rw [← hr.1]; simp; omega
      · simp at hr
    obtain ⟨cap, w2, hcv, hcl, hb2⟩ := conv_bytes x w1
    rw [hx8] at hcv
    go_wp2_with fail
    go_loopw [3, 10] (fun n i wr => ∃ k : Nat, k ≤ 8 ∧ i = .int .i64 k ∧ n = .int .u64 (leNat (x.take k) : Int) ∧ wr = w2) (fun _ i _ => 8 - (intOf i).toNat)
    case atStart => exact ⟨0, by omega, rfl, rfl, rfl⟩
    case round =>
      obtain ⟨k, hk8, rfl, rfl, rfl⟩ := hrel
      by_cases hlt : k < 8
      · have hxk : k < x.length := by omega
        obtain ⟨b1, o1, e1, hb1, c1⟩ := hcl.at (i := k) (by simpa using hxk)
        have hlt2 := leNat_lt (x.take k)
        have hsn := leNat_snoc (x.take k) x[k]
        rw [← List.take_succ_eq_append_getElem hxk] at hsn
        have hlk : (x.take k).length = k := by simp; omega
        rw [hlk] at hlt2 hsn
        have hb8 := x[k].toNat_lt
        simp only [List.getElem_map, bv] at c1
        obtain ⟨c, hc⟩ : ∃ c : Nat, c = 8 * k := ⟨_, rfl⟩
        have hw8 : IntKind.i64.wrap (8 * (k : Int)) = (c : Int) := by rw [IntKind.wrap_i64]; omega
        generalize x[k].toNat = bn at *
        have hwb : IntKind.u64.wrap (bn : Int) = bn := by rw [IntKind.wrap_u64]; omega
        go_wp2
        go_roundw
        case rel =>
          refine ⟨k + 1, by omega, by go_num, ?_, trivial⟩
          rw [hsn, or_byte _ _ _ hlt hlt2 hb8]
        case measure => simp [intOf]; omega
      · go_wp2
        go_ret
        have e : x.take k = x := List.take_of_length_le (by omega)
        rw [e]
        refine ROut.ok (hk.trans (RKeep.of_below hb2 g)) (by unfold rdNumber; rw [hr]) ?_ (hA.below hb2)
        rfl

/-- Bit number i of some bytes. -/
def bitAt (x : List UInt8) (i : Nat) : Bool := (x.getD (i / 8) 0).toNat.testBit (i % 8)
/-- The number that b bits are, from place i on, the first the lowest. -/
def bitsTo (x : List UInt8) (i : Nat) : Nat → Nat
  | 0 => 0
  | b + 1 => bitsTo x i b + (if bitAt x (i + b) then 1 else 0) * 2 ^ b
theorem bitsTo_lt (x : List UInt8) (i : Nat) : ∀ b, bitsTo x i b < 2 ^ b := by
  intro b
  induction b with
  | zero => simp [bitsTo]
  | succ b ih =>
    simp only [bitsTo, Nat.pow_succ]
    split <;> omega
/-- So many numbers of so many bits. -/
def rdFields (width count : Nat) (bs : List UInt8) : Option (List Nat × List UInt8) :=
  match rdTake ((width * count + 7) / 8) bs with
  | none => none
  | some (x, rest) => some ((List.range count).map fun i => bitsTo x (width * i) width, rest)

theorem rdTake_length {n : Nat} {bs x rest : List UInt8} (h : rdTake n bs = some (x, rest)) : x.length = n := by
  unfold rdTake at h
  split at h
  · simp at h; rw [← h.1]; simp; omega
  · simp at h

/-- Numbers in a new row. -/
def NumsAt (w w' : World) (ns : List Nat) (v : Value) : Prop := ∃ b, v = .slice (some ⟨b, 0, none⟩) ns.length ns.length ∧ w.heap.size ≤ b ∧ Cells w' (some ⟨b, 0, none⟩) (ns.map uv)

theorem or_field (Y y c b : Nat) (hb : b < 64) (hY : Y < 2 ^ b) (hy : y < 256) :
    bits BinOp.or IntKind.u64 (Y : Int) (IntKind.u64.wrap (IntKind.u64.wrap (bits BinOp.and IntKind.u8 ((y : Int) / 2 ^ c) 1) * 2 ^ b)) = ((Y + (if y.testBit c then 1 else 0) * 2 ^ b : Nat) : Int) := by
  have e1 : ((y : Int) / 2 ^ c) = ((y / 2 ^ c : Nat) : Int) := by simp
  have hlt : y / 2 ^ c < 256 := Nat.lt_of_le_of_lt (Nat.div_le_self _ _) hy
  have e2 : bits BinOp.and IntKind.u8 ((y / 2 ^ c : Nat) : Int) 1 = ((y / 2 ^ c % 2 : Nat) : Int) := by
    have := u8_and_nat (y / 2 ^ c) 1 hlt (by decide)
    rw [Nat.and_one_is_mod] at this
    exact this
  have e3 : y.testBit c = decide (y / 2 ^ c % 2 = 1) := Nat.testBit_eq_decide_div_mod_eq
  rw [e1, e2, e3]
  have hm : y / 2 ^ c % 2 < 2 := Nat.mod_lt _ (by decide)
  generalize y / 2 ^ c % 2 = m at *
  have hp : 2 ^ b ≤ 2 ^ 63 := Nat.pow_le_pow_right (by decide) (by omega)
  have hp63 : 2 ^ 63 = 9223372036854775808 := by decide
  rw [wrap_u64_nat m (by omega)]
  have e4 : ((m : Int) * 2 ^ b) = ((m <<< b : Nat) : Int) := by rw [Nat.shiftLeft_eq]; simp
  have hml : m <<< b < 18446744073709551616 := by
    rw [Nat.shiftLeft_eq]
    have : m * 2 ^ b ≤ 1 * 2 ^ b := Nat.mul_le_mul_right _ (by omega)
    omega
  rw [e4, wrap_u64_nat _ hml, u64_or_nat Y _ (by omega) hml, or_shift Y m b hY]
  have : m = 0 ∨ m = 1 := by omega
  rcases this with rfl | rfl <;> simp

theorem run_index_nat (x : List UInt8) (q : Nat) (h : q < x.length) (W : World) : (Instr.index 9 (.string (str x)) (.int .i64 (q : Int))).run Tryz.prog W = .ok (.int .u8 ((x.getD q 0).toNat : Int)) W := by
  have e : (str x).size = x.length := str_size x
  have h1 : q < (str x).size := by omega
  simp [go_sem, h, h1]
  rfl
theorem run_index_str (x : List UInt8) (A : Nat) (h : A / 8 < x.length) (W : World) : (Instr.index 9 (.string (str x)) (.int .i64 ((A : Int) / 8))).run Tryz.prog W = .ok (.int .u8 ((x.getD (A / 8) 0).toNat : Int)) W := by
  have e : ((A : Int) / 8) = ((A / 8 : Nat) : Int) := by omega
  rw [e]
  exact run_index_nat x _ h W

set_option maxRecDepth 100000 in
set_option maxHeartbeats 1000000 in
theorem fields_any (g : Nat) (t : Int) (bs : List UInt8) (a2 : Addr) (width count : Nat) (w : World) (h : RAt w g t bs a2) (hwd : width ≤ 64) (hn : count ≤ 64) :
    Calls Tryz.prog 94 #[.pointer (some ⟨g, 0, none⟩), .int .i64 width, .int .i64 count] w (ROut w g t a2 (rdFields width count bs) fun ns v w' => NumsAt w w' ns v) := by
  have hprod : width * count ≤ 64 * 64 := Nat.mul_le_mul hwd hn
  obtain ⟨W, hW⟩ : ∃ W : Nat, W = width * count := ⟨_, rfl⟩
  have hWI : (width : Int) * (count : Int) = (W : Int) := by rw [hW]; simp
  obtain ⟨nb, hnb⟩ : ∃ nb : Nat, nb = (W + 7) / 8 := ⟨_, rfl⟩
  have hnbI : ((W : Int) + 7) / 8 = (nb : Int) := by omega
  have hmk : ∀ W, (Instr.makeSlice 171 (.int .i64 (count : Int)) (.int .i64 (count : Int))).run Tryz.prog W = .ok (.slice (some ⟨W.heap.size, 0, none⟩) count count) (W.alloc (.cells (madeCells #[.int .u64 0] count) 173)) :=
    fun W => run_make_row' 171 173 (.int .u64 0) 8 (by kernel_rfl) info_u64 rfl .i64 .i64 count (by omega) (by omega) W
  have h1 := take_any g t bs a2 nb w h
  have HS : Hid (rdFields width count bs = match rdTake nb bs with | none => none | some (x, rest) => some ((List.range count).map fun i => bitsTo x (width * i) width, rest)) := by
    show _ = _
    unfold rdFields; rw [← hW, ← hnb]
  have HW : Hid (W = width * count) := hW
  have HNB : Hid (nb = (W + 7) / 8) := hnb
  have hWb : W ≤ 4096 := by omega
  have hnb2 : nb ≤ 600 := by omega
  clear hW hnb hprod
  go_enter Tryz.func94, Tryz.ntmps94
  go_wp2_with (go_at_call 119; refine (bytesFor_any _ _ (by omega) (by omega)).mono ?_; rintro e w' ⟨rfl, hw'⟩; subst w')
  refine h1.mono ?_
  rintro e w1 ⟨hk, ⟨hr, rfl⟩ | ⟨x, rest, v, hr, rfl, rfl, hA⟩⟩
  · go_wp2_with fail
    exact ⟨rfl, ROut.up hk (by rw [HS.out, hr])⟩
  · have HX : Hid (rdFields width count bs = some ((List.range count).map fun i => bitsTo x (width * i) width, rest)) := by
      show _ = _
      rw [HS.out, hr]
    have hxl := rdTake_length hr
    clear HS hr h1
    go_wp2_with fail
    clear hmk hWI hnbI
    go_loopw [9, 22] (fun at_ i wr => ∃ k : Nat, k ≤ count ∧ i = .int .i64 k ∧ at_ = .int .i64 ((width * k : Nat) : Int) ∧ wr.rowIs w1.heap.size 173 count (fun j => uv (if j < k then bitsTo x (width * j) width else 0)) ∧ Below w1.heap.size w1 wr) (fun _ i _ => count - (intOf i).toNat)
    case atStart => exact ⟨0, by omega, rfl, rfl, (World.rowIs_made _ _ _ _).congr fun j _ => by simp [uv], (Below.refl _ _).alloc (Nat.le_refl _) _⟩
    case round =>
      obtain ⟨k, hk2, rfl, rfl, hrow, hbw⟩ := hrel
      by_cases hlt : k < count
      · have hkw : width * k + width ≤ W := by
          rw [HW.out, ← Nat.mul_succ]; exact Nat.mul_le_mul_left _ hlt
        generalize hA0 : width * k = A0 at *
        have HA0 : Hid (width * k = A0) := hA0
        clear hA0
        go_wp2
        go_loopw [9, 26] (fun at_ i wr2 => ∃ b : Nat, b ≤ width ∧ i = .int .i64 b ∧ at_ = .int .i64 ((A0 + b : Nat) : Int) ∧ wr2.rowIs w1.heap.size 173 count (fun j => uv (if j < k then bitsTo x (width * j) width else if j = k then bitsTo x A0 b else 0)) ∧ Below w1.heap.size w1 wr2) (fun _ i _ => width - (intOf i).toNat)
        case atStart =>
          refine ⟨0, by omega, rfl, rfl, hrow.congr fun j _ => ?_, hbw⟩
          by_cases e : j < k
          · simp [e]
          · simp [e, bitsTo]
        case round =>
          clear hrow hbw
          obtain ⟨b, hb, rfl, rfl, hrow, hbw⟩ := hrel
          by_cases hltb : b < width
          · generalize hA : A0 + b = A at *
            have hAW : A < W := by omega
            have HA : Hid (A0 + b = A) := hA
            clear hA
            have hq : A / 8 < nb := by rw [HNB.out]; omega
            have c1 := hrow.cell hlt
            have c2 := hrow.frozen k
            have hYl := bitsTo_lt x A0 b
            have HYl : Hid (bitsTo x A0 b < 2 ^ b) := hYl
            have HYs : Hid (bitsTo x A0 (b + 1) = bitsTo x A0 b + (if bitAt x A then 1 else 0) * 2 ^ b) := by
              show _ = _
              rw [← HA.out]; rfl
            clear hYl
            simp only [Nat.lt_irrefl, if_false, if_true, uv] at c1
            generalize bitsTo x A0 b = Y at c1 HYl HYs
            have hidx := run_index_str x A (by omega)
            have HBA : Hid (bitAt x A = (x.getD (A / 8) 0).toNat.testBit (A % 8)) := rfl
            have HY8 : Hid ((x.getD (A / 8) 0).toNat < 256) := (x.getD (A / 8) 0).toNat_lt
            generalize (x.getD (A / 8) 0).toNat = y at hidx HBA HY8
            go_wp2
            go_region
            go_wp2
            go_roundw
            case rel =>
              refine ⟨b + 1, by omega, by go_num, ?_, (hrow.set k _).congr fun j hj => ?_, (hbw.setCell (p := ⟨w1.heap.size, k, none⟩) (Nat.le_refl _) _).drew⟩
              · have := HA.out
                rw [← this]; go_num
              · by_cases e : j = k
                · subst e
                  simp only [if_true, Nat.lt_irrefl, if_false]
                  rw [or_field Y y (A % 8) b (by omega) HYl.out HY8.out, HYs.out, HBA.out]
                  rfl
                · simp only [e, if_false]
            case measure => simp [intOf]; omega
          · have hbe : b = width := by omega
            subst hbe
            go_wp2
            go_roundw
            case rel =>
              refine ⟨k + 1, by omega, by go_num, ?_, hrow.congr fun j hj => ?_, hbw⟩
              · have := HA0.out
                rw [Nat.mul_succ, this]
              · rw [← HA0.out]
                by_cases e : j = k
                · subst e
                  simp
                · have e2 : (j < k + 1) = (j < k) := by rw [eq_iff_iff]; omega
                  simp only [e2, e, if_false]
            case measure => simp [intOf]; omega
      · have hke : k = count := by omega
        subst hke
        go_wp2
        go_ret
        refine ROut.ok (hk.trans (RKeep.of_below hbw g)) HX.out ?_ (hA.below hbw)
        have hs1 := hk.size
        have hlt2 := hrow.lt
        refine ⟨w1.heap.size, ?_, hs1, .inr ⟨_, _, rfl, hlt2, fun i v hi => ?_⟩⟩
        · simp only [List.length_map, List.length_range]
          rfl
        · have hin : i < k := by
            rcases Nat.lt_or_ge i k with h' | h'
            · exact h'
            · rw [List.getElem?_eq_none (by simpa using h')] at hi; simp at hi
          have := hrow.cell hin
          rw [List.getElem?_map, List.getElem?_map, List.getElem?_range hin] at hi
          simp at hi
          rw [Nat.zero_add, this, ← hi]
          simp [hin]
end Go.Proofs.YtfgklnenpichcaaGreatDoor

/-! The reader's values: one value, and so many one behind the other. -/
namespace Go.Proofs.YtfgklnenpichcaaGreatDoor
open Go.RowKit

theorem cells_u8 : Tryz.prog.cellsOf 5 = 1 := by kernel_rfl

set_option maxHeartbeats 1000000 in
set_option maxRecDepth 100000 in
theorem lClone_any (x : List UInt8) (w : World) (hx : x.length ≤ 255) :
    Calls Tryz.prog 87 #[.string (str x)] w fun e w' => e = .returned (.string (str x)) ∧ Below w.heap.size w w' := by
  have hs := str_size x
  by_cases h0 : x = []
  · subst h0
    go_enter Tryz.func87, Tryz.ntmps87
    go_wp2
    go_ret
    exact ⟨rfl, Below.refl _ _⟩
  · have hpos := List.length_pos_iff.2 h0
    have hmk : ∀ W, (Instr.makeSlice 180 (.int .i64 (x.length : Int)) (.int .i64 (x.length : Int))).run Tryz.prog W = .ok (.slice (some ⟨W.heap.size, 0, none⟩) x.length x.length) (W.alloc (.cells (madeCells #[.int .u8 0] x.length) 5)) :=
      fun W => run_make_row' 180 5 (.int .u8 0) 1 (by kernel_rfl) info_u8 rfl .i64 .i64 x.length (by omega) (by omega) W
    obtain ⟨M, hM⟩ : ∃ M, M = madeCells #[Value.int .u8 0] x.length := ⟨_, rfl⟩
    have hMs : M.size = x.length := by rw [hM, size_madeCells]
    rw [← hM] at hmk
    clear hM
    have hcp := Lib.run_copy_row_string (P := Tryz.prog) (w.alloc (.cells M 5)) 180 9 3 5 w.heap.size 0 x.length x.length (str x) M 5 Tryz.underlying180 (by kernel_rfl) (MapKept.heap_alloc w _).1 (by omega) (by omega)
    obtain ⟨Y, hY⟩ : ∃ Y, Y = (M.toList.take 0 ++ Lib.byteCells (str x).data.toList ++ M.toList.drop (0 + (str x).size)).toArray := ⟨_, rfl⟩
    rw [← hY] at hcp
    have hYl : Y.toList = Lib.byteCells x := by
      rw [hY, List.toList_toArray, List.take_zero, List.nil_append, List.drop_of_length_le (by rw [Array.length_toList]; omega), List.append_nil]
      simp [str]
    have hYs : Y.size = x.length := by rw [← Array.length_toList, hYl, Lib.byteCells_length]
    have hgY : ((w.alloc (.cells M 5)).setRow w.heap.size Y).heap[w.heap.size]? = some (.cells Y 5 (0, 0)) := setRow_heap _ _ M _ 5 (0, 0) (MapKept.heap_alloc w _).1
    have hUS := Lib.run_unsafeString_row (P := Tryz.prog) (w := (w.alloc (.cells M 5)).setRow w.heap.size Y) 207 3 9 5 Tryz.underlying207 cells_u8 w.heap.size Y.size (by unfold World.shape?; rw [hgY]) x h0 (by omega) (by omega)
      (fun j b hb => Lib.cells_of_row hgY Y.size j _ (by rw [List.take_of_length_le (by rw [Array.length_toList]; exact Nat.le_refl _), hYl]; simp [Lib.byteCells, hb]))
    rw [hs] at hcp
    clear hY
    have hz : ((x.length : Int) == 0) = false := by rw [beq_eq_false_iff_ne]; omega
    have hix : (0 : Int) ≤ 0 ∧ (0 : Int) < (x.length : Int) := by omega
    clear hpos
    go_enter Tryz.func87, Tryz.ntmps87
    go_wp2
    go_ret
    have hb1 : Below w.heap.size w (w.alloc (.cells M 5)) := (Below.refl _ w).alloc (Nat.le_refl _) _
    have hb2 : Below w.heap.size (w.alloc (.cells M 5)) ((w.alloc (.cells M 5)).setRow w.heap.size Y) := ⟨rfl, rfl, rfl, by simp, fun k hk => setRow_other _ _ _ _ (by omega)⟩
    exact ⟨rfl, Lib.below_freeze (hb1.trans hb2) (p := ⟨w.heap.size, 0, none⟩) (Nat.le_refl _) _⟩

set_option maxHeartbeats 400000 in
theorem sClone_any (x : List UInt8) (w : World) (hx : x.length ≤ 255) :
    Calls Tryz.prog 58 #[.string (str x)] w fun e w' => e = .returned (.string (str x)) ∧ Below w.heap.size w w' := by
  go_enter Tryz.func58, Tryz.ntmps58
  go_wp2_with (go_at_call 87; refine (lClone_any x _ hx).mono ?_; rintro e w' ⟨rfl, hb⟩)
  go_ret
  exact ⟨rfl, hb⟩

/-- A text behind its length. -/
def rdText (bs : List UInt8) : Option (List UInt8 × List UInt8) :=
  match rdByte bs with
  | none => none
  | some (n, r) => rdTake n r
/-- The next value of a type. -/
def rdValue (t : Int) (bs : List UInt8) : Option (V × List UInt8) :=
  if t = 1 then (rdNumber bs).map fun x => (⟨1, x.1, str []⟩, x.2)
  else if t = 2 then (rdByte bs).map fun x => (⟨2, (x.1 : Int), str []⟩, x.2)
  else (rdText bs).map fun x => (⟨3, 0, str x.1⟩, x.2)

theorem RKeep.alloc {w w' : World} {g : Nat} (h : RKeep w w' g) (o : Obj) : RKeep w (w'.alloc o) g := h.trans (RKeep.of_below ((Below.refl _ _).alloc (Nat.le_refl _) _) g)
theorem RAt.alloc {w : World} {g : Nat} {t : Int} {bs : List UInt8} {a2 : Addr} (h : RAt w g t bs a2) (o : Obj) : RAt (w.alloc o) g t bs a2 := h.below ((Below.refl _ _).alloc (Nat.le_refl _) _)
theorem RKeep.setNew {w w' : World} {g k : Nat} (h : RKeep w w' g) (hk : w.heap.size ≤ k) (i : Nat) (v : Value) : RKeep w (w'.setCell ⟨k, i, none⟩ v) g :=
  ⟨h.os, h.tape, h.output, by simpa [World.setCell] using h.size, fun j hj hn => (Below.heap_setCell _ _ _ _ (by show j ≠ k; omega)).trans (h.block j hj hn)⟩
theorem RAt.setOther {w : World} {g k : Nat} {t : Int} {bs : List UInt8} {a2 : Addr} (h : RAt w g t bs a2) (hk : k ≠ g) (h2 : k ≠ 2) (i : Nat) (v : Value) : RAt (w.setCell ⟨k, i, none⟩ v) g t bs a2 :=
  ⟨h.far, by rw [Below.heap_setCell _ _ _ _ (by show g ≠ k; omega)]; exact h.cells, by rw [World.cell?_of_block (w := w) (Below.heap_setCell _ _ _ _ (by show 2 ≠ k; omega))]; exact h.form, h.len⟩


theorem value_fin {w w1 : World} {g : Nat} {t : Int} {rest : List UInt8} {a2 : Addr} {o : Obj} (hg : g < w.heap.size) (hk : RKeep (w.alloc o) w1 g) (hA : RAt w1 g t rest a2) (x y z : Value) :
    RKeep w (((w1.setCell ⟨w.heap.size, 0, none⟩ x).setCell ⟨w.heap.size, 1, none⟩ y).setCell ⟨w.heap.size, 2, none⟩ z) g ∧ RAt (((w1.setCell ⟨w.heap.size, 0, none⟩ x).setCell ⟨w.heap.size, 1, none⟩ y).setCell ⟨w.heap.size, 2, none⟩ z) g t rest a2 := by
  have hf := hA.far
  exact ⟨(((((RKeep.refl w g).alloc o).trans hk).setNew (Nat.le_refl _) _ _).setNew (Nat.le_refl _) _ _).setNew (Nat.le_refl _) _ _, ((hA.setOther (by omega) (by omega) _ _).setOther (by omega) (by omega) _ _).setOther (by omega) (by omega) _ _⟩
theorem value_end {w w1 : World} {g : Nat} (hg : g < w.heap.size) (hk : RKeep (w.alloc (.cells #[.int .i64 0, .int .i64 0, .string ⟨#[]⟩] 36)) w1 g) (x y z : Value) :
    (w1.setCell ⟨w.heap.size, 0, none⟩ x).cell? ⟨w.heap.size, 0, none⟩ = some x ∧
    ((w1.setCell ⟨w.heap.size, 0, none⟩ x).setCell ⟨w.heap.size, 1, none⟩ y).cell? ⟨w.heap.size, 1, none⟩ = some y ∧
    (((w1.setCell ⟨w.heap.size, 0, none⟩ x).setCell ⟨w.heap.size, 1, none⟩ y).setCell ⟨w.heap.size, 2, none⟩ z).cell? ⟨w.heap.size, 2, none⟩ = some z := by
  have hbk := hk.block w.heap.size (by simp) (by omega)
  have hnew : w1.heap[w.heap.size]? = some (.cells #[.int .i64 0, .int .i64 0, .string ⟨#[]⟩] 36 (0, 0)) := by rw [hbk]; exact (MapKept.heap_alloc w _).1
  refine ⟨?_, ?_, ?_⟩ <;> simp [World.cell?, World.setCell, Array.getElem?_modify, hnew]
theorem value_new {w w1 : World} {g : Nat} (hg : g < w.heap.size) (hk : RKeep (w.alloc (.cells #[.int .i64 0, .int .i64 0, .string ⟨#[]⟩] 36)) w1 g) :
    w1.cell? ⟨w.heap.size, 0, none⟩ = some (.int .i64 0) ∧ w1.cell? ⟨w.heap.size, 1, none⟩ = some (.int .i64 0) ∧ w1.cell? ⟨w.heap.size, 2, none⟩ = some (.string ⟨#[]⟩) ∧ ∀ i, w1.frozen? ⟨w.heap.size, i, none⟩ = false := by
  have hbk := hk.block w.heap.size (by simp) (by omega)
  have hnew : w1.heap[w.heap.size]? = some (.cells #[.int .i64 0, .int .i64 0, .string ⟨#[]⟩] 36 (0, 0)) := by rw [hbk]; exact (MapKept.heap_alloc w _).1
  exact ⟨by simp [World.cell?, hnew], by simp [World.cell?, hnew], by simp [World.cell?, hnew], fun i => by simp [World.frozen?, hnew]⟩

set_option maxRecDepth 100000 in
set_option maxHeartbeats 1000000 in
theorem value_int (g : Nat) (bs : List UInt8) (a2 : Addr) (w : World) (h : RAt w g 1 bs a2) :
    Calls Tryz.prog 140 #[.pointer (some ⟨g, 0, none⟩)] w (ROut w g 1 a2 (rdValue 1 bs) fun v x _ => x = v.val) := by
  have hg := h.lt
  have hn := number_any g 1 bs a2 _ (h.alloc (.cells #[.int .i64 0, .int .i64 0, .string ⟨#[]⟩] 36))
  have c0 := h.typ
  go_enter Tryz.func140, Tryz.ntmps140
  go_wp2_with fail
  refine hn.mono ?_
  rintro e w1 ⟨hk, ⟨hr, rfl⟩ | ⟨x, rest, v, hr, rfl, rfl, hA⟩⟩
  · go_wp2_with fail
    exact ⟨rfl, ROut.up ((RKeep.refl w g).alloc _ |>.trans hk) (by simp [rdValue, hr])⟩
  · obtain ⟨d0, d1, d2, d3⟩ := value_new hg hk
    go_wp2
    obtain ⟨e0, e1, e2⟩ := value_end hg hk (.int .i64 1) (.int .i64 x) (.string ⟨#[]⟩)
    obtain ⟨hk2, hA2⟩ := value_fin hg hk hA (.int .i64 1) (.int .i64 x) (.string ⟨#[]⟩)
    refine bodyPost_ret (v := .agg #[.int .i64 1, .int .i64 x, .string ⟨#[]⟩]) (by simp [results, Tryz.results140, go_sem, e0, e1, e2]) rfl ?_
    exact ROut.ok (x := ⟨1, x, str []⟩) hk2 (by simp [rdValue, hr]) rfl hA2

set_option maxRecDepth 100000 in
set_option maxHeartbeats 1000000 in
theorem value_bool (g : Nat) (bs : List UInt8) (a2 : Addr) (w : World) (h : RAt w g 2 bs a2) :
    Calls Tryz.prog 140 #[.pointer (some ⟨g, 0, none⟩)] w (ROut w g 2 a2 (rdValue 2 bs) fun v x _ => x = v.val) := by
  have hg := h.lt
  have hn := small_any g 2 bs a2 _ (h.alloc (.cells #[.int .i64 0, .int .i64 0, .string ⟨#[]⟩] 36))
  have c0 := h.typ
  go_enter Tryz.func140, Tryz.ntmps140
  go_wp2_with fail
  refine hn.mono ?_
  rintro e w1 ⟨hk, ⟨hr, rfl⟩ | ⟨x, rest, v, hr, rfl, rfl, hA⟩⟩
  · go_wp2_with fail
    exact ⟨rfl, ROut.up ((RKeep.refl w g).alloc _ |>.trans hk) (by simp [rdValue, hr])⟩
  · obtain ⟨d0, d1, d2, d3⟩ := value_new hg hk
    go_wp2
    obtain ⟨e0, e1, e2⟩ := value_end hg hk (.int .i64 2) (.int .i64 (x : Int)) (.string ⟨#[]⟩)
    obtain ⟨hk2, hA2⟩ := value_fin hg hk hA (.int .i64 2) (.int .i64 (x : Int)) (.string ⟨#[]⟩)
    refine bodyPost_ret (v := .agg #[.int .i64 2, .int .i64 (x : Int), .string ⟨#[]⟩]) (by simp [results, Tryz.results140, go_sem, e0, e1, e2]) rfl ?_
    exact ROut.ok (x := ⟨2, (x : Int), str []⟩) hk2 (by simp [rdValue, hr]) rfl hA2

set_option maxRecDepth 100000 in
set_option maxHeartbeats 1000000 in
theorem value_text (g : Nat) (bs : List UInt8) (a2 : Addr) (w : World) (h : RAt w g 3 bs a2) :
    Calls Tryz.prog 140 #[.pointer (some ⟨g, 0, none⟩)] w (ROut w g 3 a2 (rdValue 3 bs) fun v x _ => x = v.val) := by
  have hg := h.lt
  have hn := small_any g 3 bs a2 _ (h.alloc (.cells #[.int .i64 0, .int .i64 0, .string ⟨#[]⟩] 36))
  have c0 := h.typ
  go_enter Tryz.func140, Tryz.ntmps140
  go_wp2_with fail
  refine hn.mono ?_
  rintro e w1 ⟨hk, ⟨hr, rfl⟩ | ⟨n, rest, v, hr, rfl, rfl, hA⟩⟩
  · go_wp2_with fail
    exact ⟨rfl, ROut.up ((RKeep.refl w g).alloc _ |>.trans hk) (by simp [rdValue, rdText, hr])⟩
  · have hn256 := rdByte_lt hr
    have ht := take_any g 3 rest a2 n w1 hA
    clear hn
    go_wp2_with fail
    refine ht.mono ?_
    rintro e w2 ⟨hk2, ⟨hr2, rfl⟩ | ⟨x, rest2, v, hr2, rfl, rfl, hA2⟩⟩
    · go_wp2_with fail
      exact ⟨rfl, ROut.up (((RKeep.refl w g).alloc _ |>.trans hk).trans hk2) (by simp [rdValue, rdText, hr, hr2])⟩
    · have hxl := rdTake_length hr2
      clear ht
      go_wp2_with fail
      refine (sClone_any x _ (by omega)).mono ?_
      rintro e w3 ⟨rfl, hb3⟩
      have hk3 := (hk.trans hk2).trans (RKeep.of_below hb3 g)
      obtain ⟨d0, d1, d2, d3⟩ := value_new hg hk3
      obtain ⟨hk4, hA4⟩ := value_fin hg hk3 (hA2.below hb3) (.int .i64 3) (.int .i64 0) (.string (str x))
      clear hxl hn256
      go_wp2
      obtain ⟨e0, e1, e2⟩ := value_end hg hk3 (.int .i64 3) (.int .i64 0) (.string (str x))
      refine bodyPost_ret (v := .agg #[.int .i64 3, .int .i64 0, .string (str x)]) (by simp [results, Tryz.results140, go_sem, e0, e1, e2]) rfl ?_
      exact ROut.ok (x := ⟨3, 0, str x⟩) hk4 (by simp [rdValue, rdText, hr, hr2]) rfl hA4

theorem value_any (g : Nat) (t : Int) (bs : List UInt8) (a2 : Addr) (w : World) (h : RAt w g t bs a2) (ht : t = 1 ∨ t = 2 ∨ t = 3) :
    Calls Tryz.prog 140 #[.pointer (some ⟨g, 0, none⟩)] w (ROut w g t a2 (rdValue t bs) fun v x _ => x = v.val) := by
  rcases ht with rfl | rfl | rfl
  · exact value_int g bs a2 w h
  · exact value_bool g bs a2 w h
  · exact value_text g bs a2 w h
end Go.Proofs.YtfgklnenpichcaaGreatDoor
