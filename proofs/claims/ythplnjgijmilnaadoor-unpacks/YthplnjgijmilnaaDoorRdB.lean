/- The reader's numbers: eight bytes, and fields of so many bits. -/
import Derived.Test.YthplnjgijmilnaaDoorRdA
import Derived.Lib.ConvBytes
namespace Go.Proofs.YthplnjgijmilnaaDoor
open Go.RowKit

/-- The number that some bytes are, the lowest first. -/
def leNat : List UInt8 → Nat
  | [] => 0
  | b :: r => b.toNat + 256 * leNat r
theorem leNat_lt (l : List UInt8) : leNat l < 256 ^ l.length := by
  induction l with
  | nil => simp [leNat]
  | cons b r ih =>
    have hb := b.toNat_lt
    simp only [leNat, List.length_cons, Nat.pow_succ]
    omega
theorem leNat_snoc (l : List UInt8) (b : UInt8) : leNat (l ++ [b]) = leNat l + b.toNat * 256 ^ l.length := by
  induction l with
  | nil => simp [leNat]
  | cons c r ih =>
    simp only [List.cons_append, leNat, ih, List.length_cons, Nat.pow_succ, Nat.mul_add]
    have : 256 * (b.toNat * 256 ^ r.length) = b.toNat * (256 ^ r.length * 256) := by rw [Nat.mul_comm 256, Nat.mul_assoc]
    omega
/-- Eight bytes as a number with a sign. -/
def rdNumber (bs : List UInt8) : Option (Int × List UInt8) :=
  match rdTake 8 bs with
  | none => none
  | some (x, rest) => some (wrap64 (leNat x : Int), rest)

theorem wrap_u64_nat (q : Nat) (h : q < 18446744073709551616) : IntKind.u64.wrap (q : Int) = q := by rw [IntKind.wrap_u64]; omega
theorem or_shift (n b k : Nat) (hn : n < 2 ^ k) : n ||| (b <<< k) = n + b * 2 ^ k := by
  rw [Nat.or_comm, ← Nat.shiftLeft_add_eq_or_of_lt hn, Nat.shiftLeft_eq]; omega

theorem pow256 (k : Nat) : 256 ^ k = 2 ^ (8 * k) := by rw [Nat.pow_mul]
theorem or_byte (n b k : Nat) (hk : k < 8) (hn : n < 256 ^ k) (hb : b < 256) :
    bits BinOp.or IntKind.u64 (n : Int) (IntKind.u64.wrap ((b : Int) * 2 ^ (8 * k))) = ((n + b * 256 ^ k : Nat) : Int) := by
  have e1 : ((b : Int) * 2 ^ (8 * k)) = ((b <<< (8 * k) : Nat) : Int) := by rw [Nat.shiftLeft_eq]; simp
  have hp : 256 ^ k ≤ 256 ^ 7 := Nat.pow_le_pow_right (by decide) (by omega)
  have hp7 : 256 ^ 7 = 72057594037927936 := by decide
  have hbl : b <<< (8 * k) < 18446744073709551616 := by
    rw [Nat.shiftLeft_eq, ← pow256]
    have : b * 256 ^ k ≤ 255 * 256 ^ k := Nat.mul_le_mul_right _ (by omega)
    omega
  have e2 := wrap_u64_nat _ hbl
  rw [e1, e2, u64_or_nat n _ (by omega) hbl]
  congr 1
  rw [or_shift n b (8 * k) (by rw [← pow256]; exact hn), ← pow256]

/-- A text as bytes: a new row of them. -/
theorem conv_bytes (x : List UInt8) (w : World) : ∃ cap w2, (convert 9 37 (.string (str x))).run Tryd.prog w = .ok (.slice (some ⟨w.heap.size, 0, none⟩) x.length cap) w2 ∧
    Cells w2 (some ⟨w.heap.size, 0, none⟩) (x.map bv) ∧ Below w.heap.size w w2 := by
  have h := Lib.run_convert_string_bytes (P := Tryd.prog) w 9 37 5 (str x) Tryd.underlying9 Tryd.underlying37 Tryd.underlying5
  rw [str_size] at h
  refine ⟨_, _, h, .inr ⟨_, _, rfl, by rw [Lib.bytesWorld_size]; omega, ?_⟩, rfl, rfl, rfl, by rw [Lib.bytesWorld_size]; omega, fun k hk => Lib.bytesWorld_at_old _ _ _ _ hk⟩
  intro i v hi
  have hlt : i < x.length := by
    rcases Nat.lt_or_ge i x.length with h' | h'
    · exact h'
    · rw [List.getElem?_eq_none (by simpa using h')] at hi; simp at hi
  have hc := Lib.bytesWorld_cell w 5 (str x) i (by rw [str_size]; exact hlt)
  rw [List.getElem?_map, List.getElem?_eq_getElem hlt] at hi
  simp at hi
  subst hi
  rw [Nat.zero_add, hc]
  simp [str, bv, hlt]

set_option maxRecDepth 100000 in
set_option maxHeartbeats 1000000 in
theorem number_any (g : Nat) (t : Int) (bs : List UInt8) (a2 : Addr) (w : World) (h : RAt w g t bs a2) :
    Calls Tryd.prog 85 #[.pointer (some ⟨g, 0, none⟩)] w (ROut w g t a2 (rdNumber bs) fun n v _ => v = .int .i64 n) := by
  have h1 := take_any g t bs a2 8 w h
  go_enter Tryd.func85, Tryd.ntmps85
  go_wp2_with fail
  refine h1.mono ?_
  rintro e w1 ⟨hk, ⟨hr, rfl⟩ | ⟨x, rest, v, hr, rfl, rfl, hA⟩⟩
  · go_wp2_with fail
    exact ⟨rfl, ROut.up hk (by unfold rdNumber; rw [hr])⟩
  · have hx8 : x.length = 8 := by
      unfold rdTake at hr
      split at hr
      · simp at hr; rw [← hr.1]; simp; omega
      · simp at hr
    obtain ⟨cap, w2, hcv, hcl, hb2⟩ := conv_bytes x w1
    rw [hx8] at hcv
    go_wp2_with fail
    go_loopw [3, 10] (fun n i wr => ∃ k : Nat, k ≤ 8 ∧ i = .int .i64 k ∧ n = .int .u64 (leNat (x.take k) : Int) ∧ wr = w2) (fun _ i _ => 8 - (intOf i).toNat)
    case atStart => exact ⟨0, by omega, rfl, rfl, rfl⟩
    case round =>
      obtain ⟨k, hk8, rfl, rfl, rfl⟩ := hrel
      by_cases hlt : k < 8
      · have hxk : k < x.length := by omega
        obtain ⟨b1, o1, e1, hb1, c1⟩ := hcl.at (i := k) (by simpa using hxk)
        have hlt2 := leNat_lt (x.take k)
        have hsn := leNat_snoc (x.take k) x[k]
        rw [← List.take_succ_eq_append_getElem hxk] at hsn
        have hlk : (x.take k).length = k := by simp; omega
        rw [hlk] at hlt2 hsn
        have hb8 := x[k].toNat_lt
        simp only [List.getElem_map, bv] at c1
        obtain ⟨c, hc⟩ : ∃ c : Nat, c = 8 * k := ⟨_, rfl⟩
        have hw8 : IntKind.i64.wrap (8 * (k : Int)) = (c : Int) := by rw [IntKind.wrap_i64]; omega
        generalize x[k].toNat = bn at *
        have hwb : IntKind.u64.wrap (bn : Int) = bn := by rw [IntKind.wrap_u64]; omega
        go_wp2
        go_roundw
        case rel =>
          refine ⟨k + 1, by omega, by go_num, ?_, trivial⟩
          rw [hsn, or_byte _ _ _ hlt hlt2 hb8]
        case measure => simp [intOf]; omega
      · go_wp2
        go_ret
        have e : x.take k = x := List.take_of_length_le (by omega)
        rw [e]
        refine ROut.ok (hk.trans (RKeep.of_below hb2 g)) (by unfold rdNumber; rw [hr]) ?_ (hA.below hb2)
        rfl

/-- Bit number i of some bytes. -/
def bitAt (x : List UInt8) (i : Nat) : Bool := (x.getD (i / 8) 0).toNat.testBit (i % 8)
/-- The number that b bits are, from place i on, the first the lowest. -/
def bitsTo (x : List UInt8) (i : Nat) : Nat → Nat
  | 0 => 0
  | b + 1 => bitsTo x i b + (if bitAt x (i + b) then 1 else 0) * 2 ^ b
theorem bitsTo_lt (x : List UInt8) (i : Nat) : ∀ b, bitsTo x i b < 2 ^ b := by
  intro b
  induction b with
  | zero => simp [bitsTo]
  | succ b ih =>
    simp only [bitsTo, Nat.pow_succ]
    split <;> omega
/-- So many numbers of so many bits. -/
def rdFields (width count : Nat) (bs : List UInt8) : Option (List Nat × List UInt8) :=
  match rdTake ((width * count + 7) / 8) bs with
  | none => none
  | some (x, rest) => some ((List.range count).map fun i => bitsTo x (width * i) width, rest)

theorem rdTake_length {n : Nat} {bs x rest : List UInt8} (h : rdTake n bs = some (x, rest)) : x.length = n := by
  unfold rdTake at h
  split at h
  · simp at h; rw [← h.1]; simp; omega
  · simp at h

/-- Numbers in a new row. -/
def NumsAt (w w' : World) (ns : List Nat) (v : Value) : Prop := ∃ b, v = .slice (some ⟨b, 0, none⟩) ns.length ns.length ∧ w.heap.size ≤ b ∧ Cells w' (some ⟨b, 0, none⟩) (ns.map uv)

theorem or_field (Y y c b : Nat) (hb : b < 64) (hY : Y < 2 ^ b) (hy : y < 256) :
    bits BinOp.or IntKind.u64 (Y : Int) (IntKind.u64.wrap (IntKind.u64.wrap (bits BinOp.and IntKind.u8 ((y : Int) / 2 ^ c) 1) * 2 ^ b)) = ((Y + (if y.testBit c then 1 else 0) * 2 ^ b : Nat) : Int) := by
  have e1 : ((y : Int) / 2 ^ c) = ((y / 2 ^ c : Nat) : Int) := by simp
  have hlt : y / 2 ^ c < 256 := Nat.lt_of_le_of_lt (Nat.div_le_self _ _) hy
  have e2 : bits BinOp.and IntKind.u8 ((y / 2 ^ c : Nat) : Int) 1 = ((y / 2 ^ c % 2 : Nat) : Int) := by
    have := u8_and_nat (y / 2 ^ c) 1 hlt (by decide)
    rw [Nat.and_one_is_mod] at this
    exact this
  have e3 : y.testBit c = decide (y / 2 ^ c % 2 = 1) := Nat.testBit_eq_decide_div_mod_eq
  rw [e1, e2, e3]
  have hm : y / 2 ^ c % 2 < 2 := Nat.mod_lt _ (by decide)
  generalize y / 2 ^ c % 2 = m at *
  have hp : 2 ^ b ≤ 2 ^ 63 := Nat.pow_le_pow_right (by decide) (by omega)
  have hp63 : 2 ^ 63 = 9223372036854775808 := by decide
  rw [wrap_u64_nat m (by omega)]
  have e4 : ((m : Int) * 2 ^ b) = ((m <<< b : Nat) : Int) := by rw [Nat.shiftLeft_eq]; simp
  have hml : m <<< b < 18446744073709551616 := by
    rw [Nat.shiftLeft_eq]
    have : m * 2 ^ b ≤ 1 * 2 ^ b := Nat.mul_le_mul_right _ (by omega)
    omega
  rw [e4, wrap_u64_nat _ hml, u64_or_nat Y _ (by omega) hml, or_shift Y m b hY]
  have : m = 0 ∨ m = 1 := by omega
  rcases this with rfl | rfl <;> simp

theorem run_index_nat (x : List UInt8) (q : Nat) (h : q < x.length) (W : World) : (Instr.index 9 (.string (str x)) (.int .i64 (q : Int))).run Tryd.prog W = .ok (.int .u8 ((x.getD q 0).toNat : Int)) W := by
  have e : (str x).size = x.length := str_size x
  have h1 : q < (str x).size := by omega
  simp [go_sem, h, h1]
  rfl
theorem run_index_str (x : List UInt8) (A : Nat) (h : A / 8 < x.length) (W : World) : (Instr.index 9 (.string (str x)) (.int .i64 ((A : Int) / 8))).run Tryd.prog W = .ok (.int .u8 ((x.getD (A / 8) 0).toNat : Int)) W := by
  have e : ((A : Int) / 8) = ((A / 8 : Nat) : Int) := by omega
  rw [e]
  exact run_index_nat x _ h W

set_option maxRecDepth 100000 in
set_option maxHeartbeats 1000000 in
theorem fields_any (g : Nat) (t : Int) (bs : List UInt8) (a2 : Addr) (width count : Nat) (w : World) (h : RAt w g t bs a2) (hwd : width ≤ 64) (hn : count ≤ 64) :
    Calls Tryd.prog 62 #[.pointer (some ⟨g, 0, none⟩), .int .i64 width, .int .i64 count] w (ROut w g t a2 (rdFields width count bs) fun ns v w' => NumsAt w w' ns v) := by
  have hprod : width * count ≤ 64 * 64 := Nat.mul_le_mul hwd hn
  obtain ⟨W, hW⟩ : ∃ W : Nat, W = width * count := ⟨_, rfl⟩
  have hWI : (width : Int) * (count : Int) = (W : Int) := by rw [hW]; simp
  obtain ⟨nb, hnb⟩ : ∃ nb : Nat, nb = (W + 7) / 8 := ⟨_, rfl⟩
  have hnbI : ((W : Int) + 7) / 8 = (nb : Int) := by omega
  have hmk : ∀ W, (Instr.makeSlice 84 (.int .i64 (count : Int)) (.int .i64 (count : Int))).run Tryd.prog W = .ok (.slice (some ⟨W.heap.size, 0, none⟩) count count) (W.alloc (.cells (madeCells #[.int .u64 0] count) 85)) :=
    fun W => run_make_row' 84 85 (.int .u64 0) 8 (by kernel_rfl) info_u64 rfl .i64 .i64 count (by omega) (by omega) W
  have h1 := take_any g t bs a2 nb w h
  have HS : Hid (rdFields width count bs = match rdTake nb bs with | none => none | some (x, rest) => some ((List.range count).map fun i => bitsTo x (width * i) width, rest)) := by
    show _ = _
    unfold rdFields; rw [← hW, ← hnb]
  have HW : Hid (W = width * count) := hW
  have HNB : Hid (nb = (W + 7) / 8) := hnb
  have hWb : W ≤ 4096 := by omega
  have hnb2 : nb ≤ 600 := by omega
  clear hW hnb hprod
  go_enter Tryd.func62, Tryd.ntmps62
  go_wp2_with (go_at_call 68; refine (bytesFor_any _ _ (by omega) (by omega)).mono ?_; rintro e w' ⟨rfl, hw'⟩; subst w')
  refine h1.mono ?_
  rintro e w1 ⟨hk, ⟨hr, rfl⟩ | ⟨x, rest, v, hr, rfl, rfl, hA⟩⟩
  · go_wp2_with fail
    exact ⟨rfl, ROut.up hk (by rw [HS.out, hr])⟩
  · have HX : Hid (rdFields width count bs = some ((List.range count).map fun i => bitsTo x (width * i) width, rest)) := by
      show _ = _
      rw [HS.out, hr]
    have hxl := rdTake_length hr
    clear HS hr h1
    go_wp2_with fail
    clear hmk hWI hnbI
    go_loopw [9, 22] (fun at_ i wr => ∃ k : Nat, k ≤ count ∧ i = .int .i64 k ∧ at_ = .int .i64 ((width * k : Nat) : Int) ∧ wr.rowIs w1.heap.size 85 count (fun j => uv (if j < k then bitsTo x (width * j) width else 0)) ∧ Below w1.heap.size w1 wr) (fun _ i _ => count - (intOf i).toNat)
    case atStart => exact ⟨0, by omega, rfl, rfl, (World.rowIs_made _ _ _ _).congr fun j _ => by simp [uv], (Below.refl _ _).alloc (Nat.le_refl _) _⟩
    case round =>
      obtain ⟨k, hk2, rfl, rfl, hrow, hbw⟩ := hrel
      by_cases hlt : k < count
      · have hkw : width * k + width ≤ W := by
          rw [HW.out, ← Nat.mul_succ]; exact Nat.mul_le_mul_left _ hlt
        generalize hA0 : width * k = A0 at *
        have HA0 : Hid (width * k = A0) := hA0
        clear hA0
        go_wp2
        go_loopw [9, 26] (fun at_ i wr2 => ∃ b : Nat, b ≤ width ∧ i = .int .i64 b ∧ at_ = .int .i64 ((A0 + b : Nat) : Int) ∧ wr2.rowIs w1.heap.size 85 count (fun j => uv (if j < k then bitsTo x (width * j) width else if j = k then bitsTo x A0 b else 0)) ∧ Below w1.heap.size w1 wr2) (fun _ i _ => width - (intOf i).toNat)
        case atStart =>
          refine ⟨0, by omega, rfl, rfl, hrow.congr fun j _ => ?_, hbw⟩
          by_cases e : j < k
          · simp [e]
          · simp [e, bitsTo]
        case round =>
          clear hrow hbw
          obtain ⟨b, hb, rfl, rfl, hrow, hbw⟩ := hrel
          by_cases hltb : b < width
          · generalize hA : A0 + b = A at *
            have hAW : A < W := by omega
            have HA : Hid (A0 + b = A) := hA
            clear hA
            have hq : A / 8 < nb := by rw [HNB.out]; omega
            have c1 := hrow.cell hlt
            have c2 := hrow.frozen k
            have hYl := bitsTo_lt x A0 b
            have HYl : Hid (bitsTo x A0 b < 2 ^ b) := hYl
            have HYs : Hid (bitsTo x A0 (b + 1) = bitsTo x A0 b + (if bitAt x A then 1 else 0) * 2 ^ b) := by
              show _ = _
              rw [← HA.out]; rfl
            clear hYl
            simp only [Nat.lt_irrefl, if_false, if_true, uv] at c1
            generalize bitsTo x A0 b = Y at c1 HYl HYs
            have hidx := run_index_str x A (by omega)
            have HBA : Hid (bitAt x A = (x.getD (A / 8) 0).toNat.testBit (A % 8)) := rfl
            have HY8 : Hid ((x.getD (A / 8) 0).toNat < 256) := (x.getD (A / 8) 0).toNat_lt
            generalize (x.getD (A / 8) 0).toNat = y at hidx HBA HY8
            go_wp2
            go_region
            go_wp2
            go_roundw
            case rel =>
              refine ⟨b + 1, by omega, by go_num, ?_, (hrow.set k _).congr fun j hj => ?_, (hbw.setCell (p := ⟨w1.heap.size, k, none⟩) (Nat.le_refl _) _).drew⟩
              · have := HA.out
                rw [← this]; go_num
              · by_cases e : j = k
                · subst e
                  simp only [if_true, Nat.lt_irrefl, if_false]
                  rw [or_field Y y (A % 8) b (by omega) HYl.out HY8.out, HYs.out, HBA.out]
                  rfl
                · simp only [e, if_false]
            case measure => simp [intOf]; omega
          · have hbe : b = width := by omega
            subst hbe
            go_wp2
            go_roundw
            case rel =>
              refine ⟨k + 1, by omega, by go_num, ?_, hrow.congr fun j hj => ?_, hbw⟩
              · have := HA0.out
                rw [Nat.mul_succ, this]
              · rw [← HA0.out]
                by_cases e : j = k
                · subst e
                  simp
                · have e2 : (j < k + 1) = (j < k) := by rw [eq_iff_iff]; omega
                  simp only [e2, e, if_false]
            case measure => simp [intOf]; omega
      · have hke : k = count := by omega
        subst hke
        go_wp2
        go_ret
        refine ROut.ok (hk.trans (RKeep.of_below hbw g)) HX.out ?_ (hA.below hbw)
        have hs1 := hk.size
        have hlt2 := hrow.lt
        refine ⟨w1.heap.size, ?_, hs1, .inr ⟨_, _, rfl, hlt2, fun i v hi => ?_⟩⟩
        · simp only [List.length_map, List.length_range]
          rfl
        · have hin : i < k := by
            rcases Nat.lt_or_ge i k with h' | h'
            · exact h'
            · rw [List.getElem?_eq_none (by simpa using h')] at hi; simp at hi
          have := hrow.cell hin
          rw [List.getElem?_map, List.getElem?_map, List.getElem?_range hin] at hi
          simp at hi
          rw [Nat.zero_add, this, ← hi]
          simp [hin]
end Go.Proofs.YthplnjgijmilnaaDoor
