/- The document's reader of a text: a byte, a value. Behind the text's end there are noughts. -/
import Derived.Test.YtfgklnenpichcaaGreatDoorKl
import Derived.Test.YtfgklnenpichcaaGreatDoorKf
import Derived.Deep.LoopGhost
import Derived.Deep.DeepCutAuto
namespace Go.Proofs.YtfgklnenpichcaaGreatDoor
open Go.RowKit

/-- The document's reader, at block g: the text bs, and the place in it. -/
structure EAt (w : World) (g : Nat) (bs : List UInt8) (p : Nat) : Prop where
  cells : w.heap[g]? = some (.cells #[.string (str bs), .int .i64 (p : Int)] 85 (0, 0))
  len : bs.length ≤ maxLen

theorem EAt.lt {w : World} {g p : Nat} {bs : List UInt8} (h : EAt w g bs p) : g < w.heap.size := lt_of_heap h.cells
theorem EAt.of_block {w w' : World} {g p : Nat} {bs : List UInt8} (h : EAt w g bs p) (e : w'.heap[g]? = w.heap[g]?) : EAt w' g bs p := ⟨by rw [e]; exact h.cells, h.len⟩
theorem EAt.below {w w' : World} {g p : Nat} {bs : List UInt8} (h : EAt w g bs p) (hb : Below w.heap.size w w') : EAt w' g bs p := h.of_block (hb.block g h.lt)
theorem EAt.alloc {w : World} {g p : Nat} {bs : List UInt8} (h : EAt w g bs p) (o : Obj) : EAt (w.alloc o) g bs p := h.below ((Below.refl _ _).alloc (Nat.le_refl _) _)
theorem EAt.text {w : World} {g p : Nat} {bs : List UInt8} (h : EAt w g bs p) : w.cell? ⟨g, 0, none⟩ = some (.string (str bs)) := by simp [World.cell?, h.cells]
theorem EAt.pos {w : World} {g p : Nat} {bs : List UInt8} (h : EAt w g bs p) : w.cell? ⟨g, 1, none⟩ = some (.int .i64 (p : Int)) := by simp [World.cell?, h.cells]
theorem EAt.thaw {w : World} {g p : Nat} {bs : List UInt8} (h : EAt w g bs p) (i : Nat) : w.frozen? ⟨g, i, none⟩ = false := by simp [World.frozen?, h.cells]
theorem EAt.setPos {w : World} {g p q : Nat} {bs : List UInt8} (h : EAt w g bs p) : EAt (w.setCell ⟨g, 1, none⟩ (.int .i64 (q : Int))) g bs q :=
  ⟨by simp [World.setCell, Array.getElem?_modify, h.cells], h.len⟩

/-- The next byte of what is left, a nought behind its end. -/
def hd (r : List UInt8) : Nat := (r.getD 0 0).toNat
theorem hd_lt (r : List UInt8) : hd r < 256 := UInt8.toNat_lt _
theorem hd_drop (bs : List UInt8) (p : Nat) : hd (bs.drop p) = (bs.getD p 0).toNat := by unfold hd; simp [List.getD_eq_getElem?_getD]

theorem hd_behind (bs : List UInt8) (p : Nat) (h : bs.length ≤ p) : hd (bs.drop p) = 0 := by
  rw [List.drop_eq_nil_of_le h]; rfl

set_option maxHeartbeats 1000000 in
theorem eNext_any (g : Nat) (bs : List UInt8) (p : Nat) (w : World) (h : EAt w g bs p) (hp : p ≤ 1000000) :
    Calls Tryz.prog 41 #[.pointer (some ⟨g, 0, none⟩)] w fun e w' => e = .returned (.int .i64 (hd (bs.drop p) : Nat)) ∧ EAt w' g bs (p + 1) ∧ RKeep w w' g := by
  have c0 := h.text
  have c1 := h.pos
  have f1 := h.thaw 1
  have hsz := str_size bs
  have hfin : ∀ n : Nat, EAt ((w.drewN n).setCell ⟨g, 1, none⟩ (.int .i64 ((p + 1 : Nat) : Int))) g bs (p + 1) ∧ RKeep w ((w.drewN n).setCell ⟨g, 1, none⟩ (.int .i64 ((p + 1 : Nat) : Int))) g := fun n =>
    ⟨(h.below (below_drewN (Below.refl _ _) n)).setPos, (RKeep.of_below (below_drewN (Below.refl _ _) n) g).trans (RKeep.set _ _ _ _)⟩
  have HF : Hid _ := hfin
  clear hfin
  by_cases hlt : p < bs.length
  · have hidx := run_index_nat bs p hlt
    have hb := hd_lt (bs.drop p)
    rw [← hd_drop] at hidx
    have hlt' : (p : Int) < (bs.length : Int) := by omega
    generalize hd (bs.drop p) = n at *
    go_enter Tryz.func41, Tryz.ntmps41
    go_wp2
    go_quiet (fail)
    go_wp2
    go_quiet (fail)
    go_wp2
    go_ret
    exact ⟨rfl, HF.out _⟩
  · have hlt' : ¬ (p : Int) < (bs.length : Int) := by omega
    rw [hd_behind bs p (by omega)]
    go_enter Tryz.func41, Tryz.ntmps41
    go_wp2
    go_quiet (fail)
    go_wp2
    go_ret
    exact ⟨rfl, HF.out _⟩
end Go.Proofs.YtfgklnenpichcaaGreatDoor

/-! The document's reader: a value of each type. -/
namespace Go.Proofs.YtfgklnenpichcaaGreatDoor
open Go.RowKit

theorem ownC_rkeep {w w' : World} {B g : Nat} {e : TypeId} {sv : Value} {xs : List Value} (h : OwnC w B e sv xs) (hk : RKeep w w' g) (hg : g < B) : OwnC w' B e sv xs :=
  owns_of_block h fun b hb => hk.block b (owns_block h hb).2 (by have := (owns_block h hb).1; omega)
theorem grownC_rkeep {w w1 w2 : World} {g : Nat} {e : TypeId} {sv : Value} {xs : List Value} {B : Nat} (h : RKeep w w1 g) (hB : w.heap.size ≤ B) (ho : OwnC w1 B e sv xs) (hg : w1.grownBy w2 sv.ownBlock) : RKeep w w2 g :=
  ⟨hg.os.trans h.os, hg.tape.trans h.tape, hg.output.trans h.output, Nat.le_trans h.size hg.size, fun k hk hn => (hg.block k (Nat.lt_of_lt_of_le hk h.size) fun e => by have := (owns_block ho e.symm).1; omega).trans (h.block k hk hn)⟩
theorem eatC_grown {w1 w2 : World} {g p : Nat} {bs : List UInt8} {e : TypeId} {sv : Value} {xs : List Value} {B : Nat} (h : EAt w1 g bs p) (hB : g < B) (ho : OwnC w1 B e sv xs) (hg : w1.grownBy w2 sv.ownBlock) : EAt w2 g bs p :=
  h.of_block (hg.block g h.lt fun e => by have := (owns_block ho e.symm).1; omega)
theorem eat_grown {w1 w2 : World} {g p : Nat} {bs : List UInt8} {sv : Value} {us : List V} {B : Nat} (h : EAt w1 g bs p) (hB : g < B) (ho : OwnV w1 B sv us) (hg : w1.grownBy w2 sv.ownBlock) : EAt w2 g bs p :=
  h.of_block (hg.block g h.lt fun e => by have := (owns_block ho e.symm).1; omega)

/-- 'string(bytes)' of a list that was appended to. -/
theorem run_conv_own {w : World} {B : Nat} {sv : Value} {l : List UInt8} (h : OwnC w B 5 sv (l.map bv)) : (convert 180 9 sv).run Tryz.prog w = .ok (.string (str l)) w := by
  obtain ⟨a, cap, rfl, hc⟩ := h.cells
  rw [List.length_map]
  cases a with
  | none =>
    rcases hc with hc | ⟨b, o, e, _⟩
    · have : l = [] := by simpa using hc
      subst this
      rw [run_convert_bytes_string w 180 9 5 none _ _ (by kernel_rfl) (by kernel_rfl) (by kernel_rfl)]
      rfl
    · simp at e
  | some ad =>
    refine run_conv_bytes w ad cap l fun j u hj => ?_
    rcases hc with hc | ⟨b, o, e, hb, hall⟩
    · rw [hc] at hj; simp at hj
    · simp at e
      subst e
      have := hall j u hj
      rcases Nat.eq_zero_or_pos j with h0 | h0
      · subst h0
        simpa [Addr.add] using this
      · have hne : ¬ j = 0 := by omega
        simpa [Addr.add, hne] using this

/-- The next n bytes of what is left, noughts behind its end. -/
def padL (n : Nat) (r : List UInt8) : List UInt8 := (List.range n).map fun i => r.getD i 0
theorem padL_length (n : Nat) (r : List UInt8) : (padL n r).length = n := by simp [padL]
theorem padL_succ (n : Nat) (r : List UInt8) : padL (n + 1) r = padL n r ++ [r.getD n 0] := by simp [padL, List.range_succ]
theorem hd_at (bs : List UInt8) (p n : Nat) : hd (bs.drop (p + n)) = ((bs.drop p).getD n 0).toNat := by
  rw [hd_drop]
  simp [List.getD_eq_getElem?_getD]
theorem padL_take (n : Nat) (r : List UInt8) (h : n ≤ r.length) : padL n r = r.take n := by
  apply List.ext_getElem
  · rw [padL_length, List.length_take]; omega
  · intro i h1 h2
    have hi : i < r.length := by rw [padL_length] at h1; omega
    simp [padL, List.getD_eq_getElem?_getD, hi]

/-- The value that is read. -/
def eVal (t : Int) (r : List UInt8) : V :=
  if t = 1 then ⟨1, wrap64 (leNat (padL 8 r) : Int), str []⟩ else if t = 2 then ⟨2, (hd r : Nat), str []⟩ else ⟨3, 0, str (padL (hd r) (r.drop 1))⟩
/-- How many bytes it takes. -/
def eLen (t : Int) (r : List UInt8) : Nat := if t = 1 then 8 else if t = 2 then 1 else 1 + hd r
theorem eLen_le (t : Int) (r : List UInt8) : eLen t r ≤ 256 := by
  have := hd_lt r
  unfold eLen
  split
  · omega
  · split <;> omega
theorem eVal_in (t : Int) (r : List UInt8) : inI64 (eVal t r).n := by
  have := hd_lt r
  unfold eVal
  split
  · show inI64 (wrap64 _)
    unfold inI64 wrap64
    omega
  · split
    · show inI64 (hd r : Nat)
      unfold inI64
      omega
    · show inI64 0
      unfold inI64
      omega

/-- Where the program's reader reads, so does this one. -/
theorem fol_byte {r r2 : List UInt8} {n : Nat} (h : rdByte r = some (n, r2)) : hd r = n ∧ r.drop 1 = r2 := by
  cases r with
  | nil => simp [rdByte] at h
  | cons b r =>
    simp [rdByte] at h
    exact ⟨by simpa [hd] using h.1, by simpa using h.2⟩
theorem fol_take {r r2 x : List UInt8} {n : Nat} (h : rdTake n r = some (x, r2)) : padL n r = x ∧ r.drop n = r2 := by
  unfold rdTake at h
  split at h
  · rename_i hle
    simp at h
    exact ⟨by rw [padL_take n r hle]; exact h.1, h.2⟩
  · simp at h
theorem fol_value {t : Int} {r r2 : List UInt8} {v : V} (h : rdValue t r = some (v, r2)) : eVal t r = v ∧ r.drop (eLen t r) = r2 := by
  unfold rdValue at h
  unfold eVal eLen
  split at h
  · rename_i ht
    rw [if_pos ht, if_pos ht]
    unfold rdNumber at h
    cases hr : rdTake 8 r with
    | none => rw [hr] at h; simp at h
    | some x =>
      rw [hr] at h
      simp at h
      obtain ⟨e1, e2⟩ := fol_take hr
      exact ⟨by rw [e1]; exact h.1, by rw [e2]; exact h.2⟩
  · rename_i ht
    rw [if_neg ht, if_neg ht]
    split at h
    · rename_i ht2
      rw [if_pos ht2, if_pos ht2]
      cases hr : rdByte r with
      | none => rw [hr] at h; simp at h
      | some x =>
        rw [hr] at h
        simp at h
        obtain ⟨e1, e2⟩ := fol_byte hr
        exact ⟨by rw [e1]; exact h.1, by rw [e2]; exact h.2⟩
    · rename_i ht2
      rw [if_neg ht2, if_neg ht2]
      unfold rdText at h
      cases hr : rdByte r with
      | none => rw [hr] at h; simp at h
      | some x =>
        obtain ⟨n, r1⟩ := x
        rw [hr] at h
        simp only at h
        obtain ⟨e1, e2⟩ := fol_byte hr
        cases hr2 : rdTake n r1 with
        | none => rw [hr2] at h; simp at h
        | some y =>
          rw [hr2] at h
          simp at h
          obtain ⟨e3, e4⟩ := fol_take hr2
          rw [e1, e2]
          refine ⟨by rw [e3]; exact h.1, ?_⟩
          rw [← List.drop_drop, e2, e4]
          exact h.2

theorem EAt.setOther {w : World} {g k p : Nat} {bs : List UInt8} (h : EAt w g bs p) (hk : k ≠ g) (i : Nat) (v : Value) : EAt (w.setCell ⟨k, i, none⟩ v) g bs p :=
  h.of_block (Below.heap_setCell _ _ _ _ (by show g ≠ k; omega))
theorem evalue_fin {w w1 : World} {g p : Nat} {bs : List UInt8} {o : Obj} (hg : g < w.heap.size) (hk : RKeep (w.alloc o) w1 g) (hA : EAt w1 g bs p) (x y z : Value) :
    RKeep w (((w1.setCell ⟨w.heap.size, 0, none⟩ x).setCell ⟨w.heap.size, 1, none⟩ y).setCell ⟨w.heap.size, 2, none⟩ z) g ∧ EAt (((w1.setCell ⟨w.heap.size, 0, none⟩ x).setCell ⟨w.heap.size, 1, none⟩ y).setCell ⟨w.heap.size, 2, none⟩ z) g bs p := by
  exact ⟨(((((RKeep.refl w g).alloc o).trans hk).setNew (Nat.le_refl _) _ _).setNew (Nat.le_refl _) _ _).setNew (Nat.le_refl _) _ _, ((hA.setOther (by omega) _ _).setOther (by omega) _ _).setOther (by omega) _ _⟩

set_option maxRecDepth 100000 in
set_option maxHeartbeats 1000000 in
theorem eValue_bool (g : Nat) (bs : List UInt8) (p : Nat) (w : World) (h : EAt w g bs p) (hp : p ≤ 900000) :
    Calls Tryz.prog 69 #[.pointer (some ⟨g, 0, none⟩), .int .i64 2] w fun e w' => e = .returned (eVal 2 (bs.drop p)).val ∧ EAt w' g bs (p + eLen 2 (bs.drop p)) ∧ RKeep w w' g := by
  have hg := h.lt
  have hn := eNext_any g bs p _ (h.alloc (.cells #[.int .i64 0, .int .i64 0, .string ⟨#[]⟩] 36)) (by omega)
  go_enter Tryz.func69, Tryz.ntmps69
  go_wp2_with fail
  refine hn.mono ?_
  rintro e w1 ⟨rfl, hA, hk⟩
  clear hn
  obtain ⟨d0, d1, d2, d3⟩ := value_new hg hk
  have H : Hid (eVal 2 (bs.drop p) = ⟨2, (hd (bs.drop p) : Nat), str []⟩ ∧ eLen 2 (bs.drop p) = 1) := ⟨rfl, rfl⟩
  have hlt := hd_lt (bs.drop p)
  generalize hd (bs.drop p) = n at *
  go_wp2
  obtain ⟨e0, e1, e2⟩ := value_end hg hk (.int .i64 2) (.int .i64 (n : Int)) (.string ⟨#[]⟩)
  obtain ⟨hk2, hA2⟩ := evalue_fin hg hk hA (.int .i64 2) (.int .i64 (n : Int)) (.string ⟨#[]⟩)
  refine bodyPost_ret (v := .agg #[.int .i64 2, .int .i64 (n : Int), .string ⟨#[]⟩]) (by simp [results, Tryz.results69, go_sem, e0, e1, e2]) rfl ?_
  rw [H.out.1, H.out.2]
  exact ⟨rfl, hA2, hk2⟩

set_option maxRecDepth 100000 in
set_option maxHeartbeats 1000000 in
theorem eValue_int (g : Nat) (bs : List UInt8) (p : Nat) (w : World) (h : EAt w g bs p) (hp : p ≤ 900000) :
    Calls Tryz.prog 69 #[.pointer (some ⟨g, 0, none⟩), .int .i64 1] w fun e w' => e = .returned (eVal 1 (bs.drop p)).val ∧ EAt w' g bs (p + eLen 1 (bs.drop p)) ∧ RKeep w w' g := by
  have hg := h.lt
  have H : Hid (eVal 1 (bs.drop p) = ⟨1, wrap64 (leNat (padL 8 (bs.drop p)) : Int), str []⟩ ∧ eLen 1 (bs.drop p) = 8) := ⟨rfl, rfl⟩
  have h0 := h.alloc (.cells #[.int .i64 0, .int .i64 0, .string ⟨#[]⟩] 36)
  go_enter Tryz.func69, Tryz.ntmps69
  go_wp2_with fail
  go_loopw [5, 6] (fun n i wr => ∃ k : Nat, k ≤ 8 ∧ i = .int .i64 k ∧ n = .int .u64 (leNat (padL k (bs.drop p)) : Int) ∧ EAt wr g bs (p + k) ∧ RKeep (w.alloc (.cells #[.int .i64 0, .int .i64 0, .string ⟨#[]⟩] 36)) wr g) (fun _ i _ => 8 - (intOf i).toNat)
  case atStart => exact ⟨0, by omega, rfl, rfl, h0, RKeep.refl _ _⟩
  case round =>
    obtain ⟨k, hk8, rfl, rfl, hA, hk⟩ := hrel
    by_cases hlt : k < 8
    · have hlt2 := leNat_lt (padL k (bs.drop p))
      have hsn := leNat_snoc (padL k (bs.drop p)) ((bs.drop p).getD k 0)
      rw [← padL_succ] at hsn
      rw [padL_length] at hlt2 hsn
      have hb8 := ((bs.drop p).getD k 0).toNat_lt
      have hn := eNext_any g bs (p + k) wr hA (by omega)
      rw [hd_at] at hn
      generalize ((bs.drop p).getD k 0).toNat = bn at *
      obtain ⟨c, hc⟩ : ∃ c : Nat, c = 8 * k := ⟨_, rfl⟩
      have hw8 : IntKind.i64.wrap (8 * (k : Int)) = (c : Int) := by rw [IntKind.wrap_i64]; omega
      have hwb : IntKind.u64.wrap (bn : Int) = bn := by rw [IntKind.wrap_u64]; omega
      have HSN : Hid _ := hsn
      clear hsn
      go_wp2_with fail
      refine hn.mono ?_
      rintro e w1 ⟨rfl, hA1, hk1⟩
      clear hn
      go_wp2
      go_roundw
      case rel =>
        refine ⟨k + 1, by omega, by go_num, ?_, hA1, hk.trans hk1⟩
        rw [HSN.out, or_byte _ _ _ hlt hlt2 hb8]
      case measure => simp [intOf]; omega
    · have hk9 : k = 8 := by omega
      subst hk9
      obtain ⟨d0, d1, d2, d3⟩ := value_new hg hk
      generalize leNat (padL 8 (bs.drop p)) = n at *
      go_wp2
      obtain ⟨e0, e1, e2⟩ := value_end hg hk (.int .i64 1) (.int .i64 (wrap64 (n : Int))) (.string ⟨#[]⟩)
      obtain ⟨hk2, hA2⟩ := evalue_fin hg hk hA (.int .i64 1) (.int .i64 (wrap64 (n : Int))) (.string ⟨#[]⟩)
      refine bodyPost_ret (v := .agg #[.int .i64 1, .int .i64 (wrap64 (n : Int)), .string ⟨#[]⟩]) (by simp [results, Tryz.results69, go_sem, e0, e1, e2]) rfl ?_
      rw [H.out.1, H.out.2]
      exact ⟨rfl, hA2, hk2⟩

set_option maxRecDepth 100000 in
set_option maxHeartbeats 1000000 in
theorem eValue_text (g : Nat) (bs : List UInt8) (p : Nat) (w : World) (h : EAt w g bs p) (hp : p ≤ 900000) :
    Calls Tryz.prog 69 #[.pointer (some ⟨g, 0, none⟩), .int .i64 3] w fun e w' => e = .returned (eVal 3 (bs.drop p)).val ∧ EAt w' g bs (p + eLen 3 (bs.drop p)) ∧ RKeep w w' g := by
  have hg := h.lt
  have H : Hid (eVal 3 (bs.drop p) = ⟨3, 0, str (padL (hd (bs.drop p)) ((bs.drop p).drop 1))⟩ ∧ eLen 3 (bs.drop p) = 1 + hd (bs.drop p)) := ⟨rfl, rfl⟩
  have hn := eNext_any g bs p _ (h.alloc (.cells #[.int .i64 0, .int .i64 0, .string ⟨#[]⟩] 36)) (by omega)
  have hlt := hd_lt (bs.drop p)
  go_enter Tryz.func69, Tryz.ntmps69
  go_wp2_with fail
  refine hn.mono ?_
  rintro e w1 ⟨rfl, hA, hk⟩
  clear hn
  generalize hd (bs.drop p) = n at *
  have hs1 := hk.size
  simp only [World.size_alloc] at hs1
  go_wp2_with fail
  go_loopw [10, 11] (fun sv i wr => ∃ k : Nat, k ≤ n ∧ i = .int .i64 k ∧ OwnC wr (w.heap.size + 1) 5 sv ((padL k ((bs.drop p).drop 1)).map bv) ∧ EAt wr g bs (p + 1 + k) ∧ RKeep (w.alloc (.cells #[.int .i64 0, .int .i64 0, .string ⟨#[]⟩] 36)) wr g) (fun _ i _ => n - (intOf i).toNat)
  case atStart => exact ⟨0, by omega, rfl, OwnC.nil _ _ _, hA, hk⟩
  case round =>
    clear hA hk
    obtain ⟨k, hkn, rfl, hown, hA, hk⟩ := hrel
    by_cases hlk : k < n
    · have hn := eNext_any g bs (p + 1 + k) wr hA (by omega)
      rw [hd_at, ← List.drop_drop] at hn
      have hsn := padL_succ k ((bs.drop p).drop 1)
      have hbl := ((bs.drop p).drop 1 |>.getD k 0).toNat_lt
      have hle : ((padL k ((bs.drop p).drop 1)).map bv).length ≤ 256 := by rw [List.length_map, padL_length]; omega
      have hbv : Hid (((padL (k + 1) ((bs.drop p).drop 1)).map bv) = (padL k ((bs.drop p).drop 1)).map bv ++ [.int .u8 ((((bs.drop p).drop 1).getD k 0).toNat : Int)]) := by rw [Hid, hsn]; simp [bv]
      clear hsn
      generalize (padL k ((bs.drop p).drop 1)).map bv = XS at *
      generalize (((bs.drop p).drop 1).getD k 0).toNat = bn at *
      have hsk := hk.size
      simp only [World.size_alloc] at hsk
      have hw8 : IntKind.u8.wrap (bn : Int) = bn := by rw [IntKind.wrap_u8]; omega
      go_wp2_with fail
      refine hn.mono ?_
      rintro e w2 ⟨rfl, hA2, hk2⟩
      clear hn
      have hown2 := ownC_rkeep hown hk2 (by omega)
      have hsk2 := hk2.size
      go_wp2_with (at_builtin; go_must (refine wpList_append_C (by rfl) _ _ 180 5 _ 1 info_u8 (by rfl) (by decide) (by kernel_rfl) (by rfl) (w.heap.size + 1) _ XS (by rfl) (hown2.alloc _) ⟨w2.heap.size, 0, none⟩ 1 [.int .u8 (bn : Int)] (by rfl) (by exact news_one _ _ _) (by intro u hu; simp at hu; subst hu; rfl) (by simp only [List.length_cons, List.length_nil]; omega) (by simp; omega) ?_); intro sv' w4 h1 h2 h3)
      go_roundw
      case rel =>
        refine ⟨k + 1, by omega, by go_num, by rw [hbv.out]; exact h1, eatC_grown (hA2.alloc _) (by omega) (hown2.alloc _) h2, grownC_rkeep ((hk.trans hk2).alloc _) (by simp) (hown2.alloc _) h2⟩
      case measure => simp [intOf]; omega
    · have hkn' : k = n := by omega
      subst hkn'
      obtain ⟨d0, d1, d2, d3⟩ := value_new hg hk
      have hcv := run_conv_own hown
      generalize padL k ((bs.drop p).drop 1) = XS at *
      go_wp2
      obtain ⟨e0, e1, e2⟩ := value_end hg hk (.int .i64 3) (.int .i64 0) (.string (str XS))
      obtain ⟨hk2, hA2⟩ := evalue_fin hg hk hA (.int .i64 3) (.int .i64 0) (.string (str XS))
      refine bodyPost_ret (v := .agg #[.int .i64 3, .int .i64 0, .string (str XS)]) (by simp [results, Tryz.results69, go_sem, e0, e1, e2]) rfl ?_
      rw [H.out.1, H.out.2]
      exact ⟨rfl, by rw [← Nat.add_assoc]; exact hA2, hk2⟩

theorem eValue_any (g : Nat) (t : Int) (bs : List UInt8) (p : Nat) (w : World) (h : EAt w g bs p) (hp : p ≤ 900000) (ht : t = 1 ∨ t = 2 ∨ t = 3) :
    Calls Tryz.prog 69 #[.pointer (some ⟨g, 0, none⟩), .int .i64 t] w fun e w' => e = .returned (eVal t (bs.drop p)).val ∧ EAt w' g bs (p + eLen t (bs.drop p)) ∧ RKeep w w' g := by
  rcases ht with rfl | rfl | rfl
  · exact eValue_int g bs p w h hp
  · exact eValue_bool g bs p w h hp
  · exact eValue_text g bs p w h hp
end Go.Proofs.YtfgklnenpichcaaGreatDoor

/-! The document's reader: bits. -/
namespace Go.Proofs.YtfgklnenpichcaaGreatDoor
open Go.RowKit

/-- The first c bits. -/
def bitsL (r : List UInt8) (c : Nat) : List Value := (List.range c).map fun i => Value.bool (bitAt r i)
theorem bitsL_length (r : List UInt8) (c : Nat) : (bitsL r c).length = c := by simp [bitsL]
theorem bitsL_succ (r : List UInt8) (c : Nat) : bitsL r (c + 1) = bitsL r c ++ [.bool (bitAt r c)] := by simp [bitsL, List.range_succ]
theorem bit_of (B k : Nat) : (((B / 2 ^ k : Nat) : Int) % 2 == 1) = B.testBit k := by
  rw [Nat.testBit_eq_decide_div_mod_eq]
  generalize B / 2 ^ k = q
  rcases (show q % 2 = 0 ∨ q % 2 = 1 by omega) with h | h
  · have : ((q : Int) % 2 == 1) = false := by rw [beq_eq_false_iff_ne]; omega
    rw [this, h]; rfl
  · have : ((q : Int) % 2 == 1) = true := by rw [beq_iff_eq]; omega
    rw [this, h]; rfl

set_option maxRecDepth 100000 in
set_option maxHeartbeats 2000000 in
theorem eBits_any (g : Nat) (bs : List UInt8) (p n : Nat) (w : World) (h : EAt w g bs p) (hp : p ≤ 900000) (hn : n ≤ 4096) :
    Calls Tryz.prog 44 #[.pointer (some ⟨g, 0, none⟩), .int .i64 n] w fun e w' => ∃ sv, e = .returned sv ∧ OwnC w' w.heap.size 4 sv (bitsL (bs.drop p) n) ∧ EAt w' g bs (p + (n + 7) / 8) ∧ RKeep w w' g := by
  have hg := h.lt
  go_enter Tryz.func44, Tryz.ntmps44
  go_wp2_with fail
  go_loopw [5] (fun sv wr => ∃ j c : Nat, c ≤ n ∧ c ≤ 8 * j ∧ (c = n ∨ c = 8 * j) ∧ (j = 0 ∨ 8 * (j - 1) < n) ∧ OwnC wr w.heap.size 4 sv (bitsL (bs.drop p) c) ∧ EAt wr g bs (p + j) ∧ RKeep w wr g) (fun sv _ => n - slen sv)
  case atStart => exact ⟨0, 0, by omega, by omega, .inr rfl, .inl rfl, OwnC.nil _ _ _, h, RKeep.refl _ _⟩
  case round =>
    obtain ⟨j, c, hc, hcj, hce, hj, hown, hA, hk⟩ := hrel
    obtain ⟨a, cap, rfl, _⟩ := hown.cells
    have hbl := bitsL_length (bs.drop p) c
    rw [hbl]
    by_cases hlt : c < n
    · have HC8 : Hid (c = 8 * j) := (by omega : c = 8 * j)
      have HJ : Hid (c ≤ 8 * j ∧ (c = n ∨ c = 8 * j) ∧ (j = 0 ∨ 8 * (j - 1) < n)) := ⟨hcj, hce, hj⟩
      have hn1 := eNext_any g bs (p + j) wr hA (by omega)
      rw [hd_at] at hn1
      have hbj := ((bs.drop p).getD j 0).toNat_lt
      have HBT : Hid (∀ k, k < 8 → bitAt (bs.drop p) (c + k) = ((bs.drop p).getD j 0).toNat.testBit k) := by
        intro k hk
        unfold bitAt
        have := HC8.out
        rw [show (c + k) / 8 = j by omega, show (c + k) % 8 = k by omega]
      clear hcj hce hj
      rw [hbl] at hown
      generalize ((bs.drop p).getD j 0).toNat = B at *
      go_wp2_with fail
      refine hn1.mono ?_
      rintro e w1 ⟨rfl, hA1, hk1⟩
      clear hn1
      have hown1 := ownC_rkeep hown hk1 hg
      go_wp2_with fail
      go_loopw [5, 6, 7] (fun sv b i wr2 => ∃ k : Nat, k ≤ 8 ∧ c + k ≤ n ∧ i = .int .i64 k ∧ b = .int .i64 ((B / 2 ^ k : Nat) : Int) ∧ OwnC wr2 w.heap.size 4 sv (bitsL (bs.drop p) (c + k)) ∧ EAt wr2 g bs (p + j + 1) ∧ RKeep w wr2 g) (fun _ _ i _ => 8 - (intOf i).toNat)
      case atStart => exact ⟨0, by omega, by omega, rfl, by simp, hown1, hA1, hk.trans hk1⟩
      case round =>
        clear hown1 hA1 hk1 hA hk hown
        obtain ⟨k, hk8, hkn, rfl, rfl, hown, hA, hk⟩ := hrel
        obtain ⟨a', cap', rfl, _⟩ := hown.cells
        have hbl2 := bitsL_length (bs.drop p) (c + k)
        rw [hbl2] at hown ⊢
        by_cases hlk : k < 8
        · by_cases hln : c + k < n
          · have hsn := bitsL_succ (bs.drop p) (c + k)
            have hbt := bit_of B k
            rw [HBT.out k hlk, ← hbt] at hsn
            have HQ : Hid (B / 2 ^ (k + 1) = B / 2 ^ k / 2) := by rw [Hid, Nat.div_div_eq_div_mul, Nat.pow_succ]
            have hqb : B / 2 ^ k ≤ 255 := Nat.le_trans (Nat.div_le_self _ _) (by omega)
            clear hbt
            generalize B / 2 ^ k = Q at *
            have HSN : Hid _ := hsn
            clear hsn
            generalize bitsL (bs.drop p) (c + k) = XS at *
            have hsk := hk.size
            have hq0 : (0 : Int) ≤ (Q : Int) := by omega
            go_wp2_with (at_builtin; go_must (refine wpList_append_C (by rfl) _ _ 88 4 _ 1 info_bool (by rfl) (by decide) (by kernel_rfl) (by rfl) w.heap.size _ XS (by rfl) (hown.alloc _) ⟨wr.heap.size, 0, none⟩ 1 [.bool ((Q : Int) % 2 == 1)] (by rfl) (by exact news_one _ _ _) (by intro u hu; simp at hu; subst hu; rfl) (by simp only [List.length_cons, List.length_nil]; omega) (by simp; omega) ?_); intro sv' w4 h1 h2 h3)
            go_roundw
            case rel =>
              refine ⟨k + 1, by omega, by omega, by go_num, by rw [HQ.out]; go_num, by rw [← Nat.add_assoc, HSN.out]; exact h1, eatC_grown (hA.alloc _) hg (hown.alloc _) h2, grownC_rkeep (hk.alloc _) (Nat.le_refl _) (hown.alloc _) h2⟩
            case measure => simp [intOf]; omega
          · go_wp2
            go_roundw
            case rel => exact ⟨j + 1, c + k, by omega, by have := HC8.out; omega, .inl (by omega), .inr (by have := HC8.out; omega), hown, hA, hk⟩
            case measure => simp [slen]; omega
        · go_wp2
          go_roundw
          case rel => exact ⟨j + 1, c + k, by omega, by have := HC8.out; omega, .inr (by have := HC8.out; omega), .inr (by have := HC8.out; omega), hown, hA, hk⟩
          case measure => simp [slen]; omega
    · have hcn : c = n := by omega
      subst hcn
      go_wp2
      go_ret
      refine ⟨_, rfl, by rw [hbl] at hown; exact hown, ?_, hk⟩
      rw [show (c + 7) / 8 = j by omega]
      exact hA

set_option maxHeartbeats 400000 in
theorem worth_any (a : Option Addr) (cap : Nat) (xs : List V) (k : Nat) (w : World) (hx : Vals w a xs) :
    Calls Tryz.prog 70 #[.slice a xs.length cap, .int .i64 k] w fun e w' => e = .returned (xs.getD k ⟨-1, 0, ⟨#[]⟩⟩).val ∧ Below w.heap.size w w' := by
  by_cases hlt : k < xs.length
  · obtain ⟨b1, o1, rfl, hb1, x1, x2, x3⟩ := hx.at hlt
    rw [List.getD_eq_getElem?_getD, List.getElem?_eq_getElem hlt, Option.getD_some]
    generalize xs[k] = v at *
    go_enter Tryz.func70, Tryz.ntmps70
    go_wp2
    exact bodyPost_ret (v := v.val) (by simp [results, Tryz.results70, go_sem, V.val]) rfl ⟨rfl, (Below.refl _ _).alloc (Nat.le_refl _) _⟩
  · rw [List.getD_eq_getElem?_getD, List.getElem?_eq_none (by omega), Option.getD_none]
    go_enter Tryz.func70, Tryz.ntmps70
    go_wp2
    exact bodyPost_ret (v := V.val ⟨-1, 0, ⟨#[]⟩⟩) (by simp [results, Tryz.results70, go_sem, V.val]) rfl ⟨rfl, (Below.refl _ _).alloc (Nat.le_refl _) _⟩
end Go.Proofs.YtfgklnenpichcaaGreatDoor

/-! The document's reader: packed values. -/
namespace Go.Proofs.YtfgklnenpichcaaGreatDoor
open Go.RowKit

theorem bitsTo_low (x : List UInt8) (i : Nat) : ∀ b, bitsTo x i (b + 1) = (if bitAt x i then 1 else 0) + 2 * bitsTo x (i + 1) b := by
  intro b
  induction b with
  | zero => simp [bitsTo]
  | succ b ih =>
    rw [bitsTo, ih, bitsTo, Nat.pow_succ, show i + (b + 1) = i + 1 + b by omega]
    generalize (if bitAt x (i + 1 + b) = true then 1 else 0) = z
    rw [Nat.mul_add, show z * (2 ^ b * 2) = 2 * (z * 2 ^ b) by rw [Nat.mul_comm 2, Nat.mul_assoc]]
    omega
theorem bitsTo_congr (x y : List UInt8) (i : Nat) : ∀ b, (∀ k, k < b → bitAt x (i + k) = bitAt y (i + k)) → bitsTo x i b = bitsTo y i b := by
  intro b
  induction b with
  | zero => intro _; rfl
  | succ b ih =>
    intro h
    rw [bitsTo, bitsTo, ih fun k hk => h k (by omega), h b (by omega)]
theorem bitAt_take (r : List UInt8) (n i : Nat) (h : i < 8 * n) : bitAt (r.take n) i = bitAt r i := by
  unfold bitAt
  rw [List.getD_eq_getElem?_getD, List.getD_eq_getElem?_getD, List.getElem?_take_of_lt (by omega)]
theorem mul_in (W i m : Nat) (h : i < m) : W * i + W ≤ W * m := by
  have := Nat.mul_le_mul_left W (show i + 1 ≤ m by omega)
  rw [Nat.mul_add, Nat.mul_one] at this
  exact this
theorem fol_fields {W m : Nat} {r r3 : List UInt8} {ns : List Nat} (h : rdFields W m r = some (ns, r3)) : ns = (List.range m).map fun i => bitsTo r (W * i) W := by
  unfold rdFields at h
  cases hr : rdTake ((W * m + 7) / 8) r with
  | none => rw [hr] at h; simp at h
  | some x =>
    obtain ⟨x, rest⟩ := x
    rw [hr] at h
    simp only [Option.some.injEq, Prod.mk.injEq] at h
    rw [← h.1]
    unfold rdTake at hr
    split at hr
    · simp at hr
      apply List.map_congr_left
      intro i hi
      have := mul_in W i m (List.mem_range.1 hi)
      apply bitsTo_congr
      intro k hk
      rw [← hr.1]
      exact bitAt_take _ _ _ (by omega)
    · simp at hr

theorem fol_packed1 {m : Nat} {bs r2 : List UInt8} {p : Nat} {xs : List V} (hm : 0 < m) (h : rdPacked 1 m (bs.drop p) = some (xs, r2)) :
    hd (bs.drop (p + 8)) ≤ 64 ∧ ∃ ns r3, rdFields (hd (bs.drop (p + 8))) m (bs.drop (p + 9)) = some (ns, r3) ∧ xs = ns.map (aboveV 1 (eVal 1 (bs.drop p)).n) := by
  unfold rdPacked at h
  rw [if_neg (by decide), if_neg (by omega)] at h
  cases hn : rdNumber (bs.drop p) with
  | none => rw [hn] at h; simp at h
  | some x =>
    obtain ⟨least, r1⟩ := x
    rw [hn] at h
    simp only at h
    have hv : rdValue 1 (bs.drop p) = some (⟨1, least, str []⟩, r1) := by simp [rdValue, hn]
    obtain ⟨e1, e2⟩ := fol_value hv
    have e3 : bs.drop (p + 8) = r1 := by rw [← List.drop_drop]; exact e2
    cases hb : rdByte r1 with
    | none => rw [hb] at h; simp at h
    | some y =>
      obtain ⟨width, r4⟩ := y
      rw [hb] at h
      simp only at h
      obtain ⟨e4, e5⟩ := fol_byte hb
      have e6 : bs.drop (p + 9) = r4 := by rw [← e5, ← e3, List.drop_drop]
      rw [e3, e4, e6, e1]
      split at h
      · rename_i hw
        refine ⟨hw, ?_⟩
        cases hf : rdFields width m r4 with
        | none => rw [hf] at h; simp at h
        | some z =>
          rw [hf] at h
          simp at h
          exact ⟨z.1, z.2, rfl, h.1.symm⟩
      · simp at h
theorem fol_packed0 {t : Int} {m : Nat} {r r2 : List UInt8} {xs : List V} (ht : t = 1 ∨ t = 2) (hm : ¬ (t = 1 ∧ 0 < m)) (h : rdPacked t m r = some (xs, r2)) :
    ∃ ns r3, rdFields 1 m r = some (ns, r3) ∧ xs = ns.map (aboveV t 0) := by
  unfold rdPacked at h
  rcases ht with rfl | rfl
  · have h0 : m = 0 := by omega
    subst h0
    rw [if_neg (by decide), if_pos rfl] at h
    simp at h
    exact ⟨[], r, by simp [rdFields, rdTake], h.1⟩
  · rw [if_pos rfl] at h
    cases hf : rdFields 1 m r with
    | none => rw [hf] at h; simp at h
    | some z =>
      rw [hf] at h
      simp at h
      exact ⟨z.1, z.2, rfl, h.1.symm⟩

theorem aboveV_in (t L : Int) (d : Nat) : inI64 (aboveV t L d).n := by
  show inI64 (wrap64 _)
  unfold inI64 wrap64
  omega

/-- What a reader of many values answers: a list, each number in its range; the one that the program's reads, where that one reads. -/
def EList (w : World) (g : Nat) (r : Option (List V × List UInt8)) (e : Ending) (w' : World) : Prop :=
  ∃ sv l, e = .returned sv ∧ OwnV w' w.heap.size sv l ∧ l.length ≤ 64 ∧ (∀ v ∈ l, inI64 v.n) ∧ RKeep w w' g ∧ ∀ xs r2, r = some (xs, r2) → l = xs

set_option maxRecDepth 100000 in
set_option maxHeartbeats 2000000 in
theorem ePacked_any (g : Nat) (t : Int) (bs : List UInt8) (p m : Nat) (w : World) (h : EAt w g bs p) (hp : p ≤ 800000) (ht : t = 1 ∨ t = 2) (hm : m ≤ 64) :
    Calls Tryz.prog 71 #[.pointer (some ⟨g, 0, none⟩), .int .i64 t, .int .i64 m] w (EList w g (rdPacked t m (bs.drop p))) := by
  have hg := h.lt
  go_enter Tryz.func71, Tryz.ntmps71
  go_upto_region 4 with fail
  go_cut [20] from 15 to 20 (fun s wx => s = .bool (decide (t = 1 ∧ 0 < m)) ∧ wx = w)
  case first =>
    rcases ht with rfl | rfl
    · by_cases h0 : 0 < m
      · have h0' : (0 : Int) < (m : Int) := by omega
        have hd : Hid (decide ((1 : Int) = 1 ∧ 0 < m) = true) := by rw [Hid, decide_eq_true_iff]; exact ⟨rfl, h0⟩
        go_wp2
        go_meet
        exact ⟨by rw [hd.out], rfl⟩
      · have h0' : ¬ (0 : Int) < (m : Int) := by omega
        have hd : Hid (decide ((1 : Int) = 1 ∧ 0 < m) = false) := by rw [Hid, decide_eq_false_iff_not]; omega
        go_wp2
        go_meet
        exact ⟨by rw [hd.out], rfl⟩
    · go_wp2
      go_meet
      exact ⟨rfl, rfl⟩
  case rest =>
  obtain ⟨rfl, hwc⟩ := hcut
  subst wc
  go_upto_if 20 with fail
  go_cut [8, 9] from 15 to 26 (fun s8 s9 wx => ∃ (W q : Nat) (L : Int), s8 = .int .i64 W ∧ s9 = .int .i64 L ∧ W < 256 ∧ q ≤ 9 ∧ EAt wx g bs (p + q) ∧ RKeep w wx g ∧
    ∀ xs r2, rdPacked t m (bs.drop p) = some (xs, r2) → W ≤ 64 ∧ ∃ ns r3, rdFields W m (bs.drop (p + q)) = some (ns, r3) ∧ xs = ns.map (aboveV t L))
  case first =>
    by_cases hd : t = 1 ∧ 0 < m
    · have hd' : decide (t = 1 ∧ 0 < m) = true := decide_eq_true hd
      obtain ⟨rfl, hm0⟩ := hd
      generalize decide ((1 : Int) = 1 ∧ 0 < m) = dd at *
      subst hd'
      have hv := eValue_any g 1 bs p w h (by omega) (.inl rfl)
      go_wp2_with fail
      refine hv.mono ?_
      rintro e w1 ⟨rfl, hA1, hk1⟩
      clear hv
      have hn := eNext_any g bs (p + 8) _ (hA1.alloc (.cells #[.int .i64 (eVal 1 (bs.drop p)).k, .int .i64 (eVal 1 (bs.drop p)).n, .string (eVal 1 (bs.drop p)).s] 36)) (by omega)
      go_wp2_with fail
      refine hn.mono ?_
      rintro e w2 ⟨rfl, hA2, hk2⟩
      clear hn
      go_wp2
      go_meet
      refine ⟨hd (bs.drop (p + 8)), 9, (eVal 1 (bs.drop p)).n, rfl, rfl, hd_lt _, by omega, hA2, (hk1.alloc _).trans hk2, fun xs r2 hr => fol_packed1 hm0 hr⟩
    · have hd' : decide (t = 1 ∧ 0 < m) = false := decide_eq_false hd
      generalize decide (t = 1 ∧ 0 < m) = dd at *
      subst hd'
      go_wp2
      go_meet
      refine ⟨1, 0, 0, rfl, rfl, by omega, by omega, h, RKeep.refl _ _, fun xs r2 hr => ⟨by omega, fol_packed0 ht hd hr⟩⟩
  case rest =>
  obtain ⟨W, q, L, rfl, rfl, hW, hq, hA, hk, hf⟩ := hcut
  have HF : Hid _ := hf
  clear hf
  rename World => w3
  by_cases hW64 : W ≤ 64
  · have hW' : ¬ (64 : Int) < (W : Int) := by omega
    have hmw : m * W ≤ 64 * 64 := Nat.mul_le_mul hm hW64
    obtain ⟨N, hN⟩ : ∃ N : Nat, N = m * W := ⟨_, rfl⟩
    have HN : Hid (N = W * m) := by rw [Hid, hN, Nat.mul_comm]
    have hwm : IntKind.i64.wrap ((m : Int) * (W : Int)) = (N : Int) := by rw [← Int.natCast_mul, ← hN, IntKind.wrap_i64]; omega
    have hN4 : N ≤ 4096 := by omega
    clear hN hmw
    have hb := eBits_any g bs (p + q) N w3 hA (by omega) hN4
    go_wp2_with fail
    refine hb.mono ?_
    rintro e w4 ⟨svb, rfl, hownb, hA4, hk4⟩
    clear hb hwm
    obtain ⟨ab, capb, rfl, hcb⟩ := hownb.cells
    rw [bitsL_length]
    have hs3 := hk.size
    have hs4 := hk4.size
    generalize hR : bs.drop (p + q) = R at *
    clear hR
    have HP : Hid (∀ i, i < m → W * i + W ≤ N) := fun i hi => by rw [HN.out]; exact mul_in W i m hi
    go_wp2_with fail
    go_loopw [7, 12] (fun sv i wr => ∃ k : Nat, k ≤ m ∧ i = .int .i64 k ∧ OwnV wr w4.heap.size sv ((List.range k).map fun i => aboveV t L (bitsTo R (W * i) W)) ∧ Below w4.heap.size w4 wr) (fun _ i _ => m - (intOf i).toNat)
    case atStart => exact ⟨0, by omega, rfl, OwnV.nil _ _, Below.refl _ _⟩
    case round =>
      obtain ⟨k, hkm, rfl, hown, hbw⟩ := hrel
      by_cases hlt : k < m
      · have hkW := HP.out k hlt
        have hcr := hcb.below hbw
        go_wp2_with fail
        obtain ⟨KW, hKW⟩ : ∃ KW : Nat, KW = W * k := ⟨_, rfl⟩
        have hwk : IntKind.i64.wrap ((k : Int) * (W : Int)) = (KW : Int) := by rw [← Int.natCast_mul, Nat.mul_comm, ← hKW, IntKind.wrap_i64]; omega
        have HKW : Hid (KW = W * k) := hKW
        rw [← hKW] at hkW
        clear hKW
        have hszr := hbw.size
        go_loopw [13, 14] (fun u i wr2 => ∃ c : Nat, c ≤ W ∧ i = .int .i64 ((c : Int) - 1) ∧ u = .int .u64 ((bitsTo R (KW + c) (W - c) : Nat) : Int) ∧ wr2 = wr) (fun _ i _ => (intOf i + 1).toNat)
        case atStart => exact ⟨W, Nat.le_refl _, rfl, by rw [Nat.sub_self]; rfl, rfl⟩
        case round =>
          obtain ⟨c, hc, rfl, rfl, rfl⟩ := hrel
          cases c with
          | zero =>
            rw [Nat.add_zero, Nat.sub_zero]
            have hsn : Hid (((List.range (k + 1)).map fun i => aboveV t L (bitsTo R (W * i) W)) = ((List.range k).map fun i => aboveV t L (bitsTo R (W * i) W)) ++ [aboveV t L (bitsTo R KW W)]) := by
              rw [Hid, List.range_succ, List.map_append, HKW.out]; rfl
            have hlen : ((List.range k).map fun i => aboveV t L (bitsTo R (W * i) W)).length ≤ 64 := by simp; omega
            generalize ((List.range k).map fun i => aboveV t L (bitsTo R (W * i) W)) = XS at *
            generalize bitsTo R KW W = U at *
            go_wp2_with (at_builtin; go_must (refine wpList_append_V (by rfl) _ _ (by rfl) w4.heap.size _ XS (by rfl) (hown.alloc _) _ _ (aboveV t L U) (by rfl) (by refine ⟨?_, ?_, ?_⟩ <;> simp [aboveV]) (by omega) (by simp; omega) ?_); intro sv' w5 h1 h2 h3)
            go_roundw
            case rel =>
              refine ⟨k + 1, by omega, by go_num, by rw [hsn.out]; exact h1, ?_⟩
              exact below_grown (below_alloc hbw _) h2 fun x hx => (owns_block hown hx).1
            case measure => simp [intOf]; omega
          | succ d =>
            have e1 : ((d + 1 : Nat) : Int) - 1 = (d : Int) := by omega
            rw [e1]
            have hlo := bitsTo_low R (KW + d) (W - (d + 1))
            rw [show W - (d + 1) + 1 = W - d by omega, Nat.add_assoc KW d 1] at hlo
            have hlt2 := bitsTo_lt R (KW + (d + 1)) (W - (d + 1))
            have hpw : 2 ^ (W - (d + 1)) ≤ 2 ^ 63 := Nat.pow_le_pow_right (by decide) (by omega)
            have hAN : KW + d < N := by omega
            obtain ⟨b1, o1, rfl, hb1, c1⟩ := hcr.at (i := KW + d) (by rw [bitsL_length]; exact hAN)
            have hbv : (bitsL R N)[KW + d]'(by rw [bitsL_length]; exact hAN) = .bool (bitAt R (KW + d)) := by simp [bitsL]
            rw [hbv] at c1
            have HLO : Hid _ := hlo
            clear hlo hbv
            generalize bitsTo R (KW + (d + 1)) (W - (d + 1)) = U at *
            have hU : U < 9223372036854775808 := by omega
            clear hlt2 hpw
            obtain ⟨D, hD⟩ : ∃ D : Nat, D = 2 * U := ⟨_, rfl⟩
            have hw2 : IntKind.u64.wrap (2 * (U : Int)) = (D : Int) := by rw [IntKind.wrap_u64]; omega
            have hw3 : IntKind.u64.wrap ((D : Int) + 1) = (D : Int) + 1 := by rw [IntKind.wrap_u64]; omega
            have hidx : IntKind.i64.wrap ((KW : Int) + (d : Int)) = ((KW + d : Nat) : Int) := by rw [IntKind.wrap_i64]; omega
            have HD : Hid (D = 2 * U) := hD
            clear hD
            generalize bitAt R (KW + d) = bb at *
            cases bb
            · go_wp2
              go_roundw
              case rel => exact ⟨d, by omega, by go_num, by rw [HLO.out, ← HD.out]; simp, trivial⟩
              case measure => simp [intOf]
            · go_wp2
              go_roundw
              case rel => exact ⟨d, by omega, by go_num, by rw [HLO.out, ← HD.out]; simp; omega, trivial⟩
              case measure => simp [intOf]
      · have hkm' : k = m := by omega
        subst hkm'
        go_wp2
        go_ret
        refine ⟨_, _, rfl, hown.mono (by omega), by simp; omega, fun v hv => ?_, ?_, fun xs r2 hr => ?_⟩
        · obtain ⟨i, _, rfl⟩ := List.mem_map.1 hv
          exact aboveV_in _ _ _
        · exact (hk.trans hk4).trans (RKeep.of_below hbw g)
        · obtain ⟨_, ns, r3, e1, e2⟩ := HF.out xs r2 hr
          rw [e2, fol_fields e1, List.map_map]
          rfl
  · have hW' : (64 : Int) < (W : Int) := by omega
    go_wp2
    go_ret
    refine ⟨_, [], rfl, OwnV.nil _ _, by simp, fun v hv => by simp at hv, hk, fun xs r2 hr => ?_⟩
    exact absurd (HF.out xs r2 hr).1 hW64
end Go.Proofs.YtfgklnenpichcaaGreatDoor
