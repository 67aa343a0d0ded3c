/- How many bits a number below 2^64 needs: math/bits.Len64, by Go's own text. -/
import Derived.Test.YtfgklnenpichcaaGreatDoorKa
import Derived.Deep.RegionLaw
import Derived.Deep.AppendLies
import Derived.Deep.DrawnRows
import Derived.Deep.DeepMust
import Derived.Lib.AppendStr
import Derived.Deep.MidRow
namespace Go.Proofs.YtfgklnenpichcaaGreatDoor
open Go.RowKit

theorem len_fin (n m x : Nat) (hx : x < 256) (hm : m ≤ 56) (h : bitLen n = m + bitLen x) : wrap64 ((m : Int) + wrap64 ((bitLen (x % 256) : Nat) : Int)) = ((bitLen n : Nat) : Int) := by
  rw [Nat.mod_eq_of_lt hx, h]
  have := bitLen_le8 x hx
  generalize bitLen x = b at *
  unfold wrap64
  omega
theorem len_fin0 (n : Nat) (hx : n < 256) : wrap64 (wrap64 ((bitLen (n % 256) : Nat) : Int)) = ((bitLen n : Nat) : Int) := by
  rw [Nat.mod_eq_of_lt hx]
  have := bitLen_le8 n hx
  generalize bitLen n = b at *
  unfold wrap64
  omega
theorem bl8 (x : Nat) (h : 256 ≤ x) : bitLen x = 8 + bitLen (x / 256) := bitLen_shift x 8 (by omega)
theorem bl16 (x : Nat) (h : 65536 ≤ x) : bitLen x = 16 + bitLen (x / 65536) := bitLen_shift x 16 (by omega)
theorem bl32 (x : Nat) (h : 4294967296 ≤ x) : bitLen x = 32 + bitLen (x / 4294967296) := bitLen_shift x 32 (by omega)

set_option maxRecDepth 100000 in
set_option maxHeartbeats 2000000 in
theorem len64_any (n : Nat) (w : World) (hn : n < 18446744073709551616) :
    Calls Tryz.prog 148 #[.int .u64 n] w fun e w' => e = .returned (.int .i64 (bitLen n : Nat)) ∧ w' = w := by
  have hn' : Hid (n < 18446744073709551616) := hn
  clear hn
  go_enter Tryz.func148, Tryz.ntmps148
  generalize hT : ByteArray.mk _ = T
  have hsz : T.size = 256 := by rw [← hT]; decide +kernel
  have all : ∀ j : Fin 256, (T[j.val]?).map UInt8.toNat = some (bitLen j.val) := by rw [← hT]; decide +kernel
  have hget : ∀ (i : Nat) (h : i < T.size), T[i].toNat = bitLen i := by
    intro i h
    have := all ⟨i, by rw [hsz] at h; exact h⟩
    simpa [h] using this
  clear hT all
  by_cases c1 : 4294967296 ≤ n
  · have h1 : decide ((4294967296 : Int) ≤ (n : Int)) = true := by simp; omega
    have b1 := bl32 n c1
    have C1 : Hid (bitLen n = 32 + bitLen (n / 4294967296)) := b1
    clear b1
    by_cases c2 : 65536 ≤ n / 4294967296
    · have h2 : decide ((65536 : Int) ≤ (n : Int) / 4294967296) = true := by simp; omega
      have C2 : Hid (bitLen (n / 4294967296) = 16 + bitLen (n / 4294967296 / 65536)) := bl16 _ c2
      by_cases c3 : 256 ≤ n / 4294967296 / 65536
      · have h3 : decide ((256 : Int) ≤ (n : Int) / 4294967296 / 65536) = true := by simp; omega
        have C3 : Hid (bitLen (n / 4294967296 / 65536) = 8 + bitLen (n / 4294967296 / 65536 / 256)) := bl8 _ c3
        clear c1 c2 c3
        go_wp
        go_ret
        exact ⟨ret_int (len_fin n 56 _ (by have := hn'.out; omega) (by omega) (by rw [C1.out, C2.out, C3.out]; omega)), rfl⟩
      · have h3 : decide ((256 : Int) ≤ (n : Int) / 4294967296 / 65536) = false := by simp; omega
        have C3 : Hid (n / 4294967296 / 65536 < 256) := by show _ < _; omega
        clear c1 c2 c3
        go_wp
        go_ret
        exact ⟨ret_int (len_fin n 48 _ C3.out (by omega) (by rw [C1.out, C2.out]; omega)), rfl⟩
    · have h2 : decide ((65536 : Int) ≤ (n : Int) / 4294967296) = false := by simp; omega
      by_cases c3 : 256 ≤ n / 4294967296
      · have h3 : decide ((256 : Int) ≤ (n : Int) / 4294967296) = true := by simp; omega
        have C3 : Hid (bitLen (n / 4294967296) = 8 + bitLen (n / 4294967296 / 256)) := bl8 _ c3
        have C4 : Hid (n / 4294967296 / 256 < 256) := by show _ < _; omega
        clear c1 c2 c3
        go_wp
        go_ret
        exact ⟨ret_int (len_fin n 40 _ C4.out (by omega) (by rw [C1.out, C3.out]; omega)), rfl⟩
      · have h3 : decide ((256 : Int) ≤ (n : Int) / 4294967296) = false := by simp; omega
        have C3 : Hid (n / 4294967296 < 256) := by show _ < _; omega
        clear c1 c2 c3
        go_wp
        go_ret
        exact ⟨ret_int (len_fin n 32 _ C3.out (by omega) C1.out), rfl⟩
  · have h1 : decide ((4294967296 : Int) ≤ (n : Int)) = false := by simp; omega
    by_cases c2 : 65536 ≤ n
    · have h2 : decide ((65536 : Int) ≤ (n : Int)) = true := by simp; omega
      have C2 : Hid (bitLen n = 16 + bitLen (n / 65536)) := bl16 _ c2
      by_cases c3 : 256 ≤ n / 65536
      · have h3 : decide ((256 : Int) ≤ (n : Int) / 65536) = true := by simp; omega
        have C3 : Hid (bitLen (n / 65536) = 8 + bitLen (n / 65536 / 256)) := bl8 _ c3
        have C4 : Hid (n / 65536 / 256 < 256) := by show _ < _; omega
        clear c1 c2 c3
        go_wp
        go_ret
        exact ⟨ret_int (len_fin n 24 _ C4.out (by omega) (by rw [C2.out, C3.out]; omega)), rfl⟩
      · have h3 : decide ((256 : Int) ≤ (n : Int) / 65536) = false := by simp; omega
        have C3 : Hid (n / 65536 < 256) := by show _ < _; omega
        clear c1 c2 c3
        go_wp
        go_ret
        exact ⟨ret_int (len_fin n 16 _ C3.out (by omega) C2.out), rfl⟩
    · have h2 : decide ((65536 : Int) ≤ (n : Int)) = false := by simp; omega
      by_cases c3 : 256 ≤ n
      · have h3 : decide ((256 : Int) ≤ (n : Int)) = true := by simp; omega
        have C3 : Hid (bitLen n = 8 + bitLen (n / 256)) := bl8 _ c3
        have C4 : Hid (n / 256 < 256) := by show _ < _; omega
        clear c1 c2 c3
        go_wp
        go_ret
        exact ⟨ret_int (len_fin n 8 _ C4.out (by omega) C3.out), rfl⟩
      · have h3 : decide ((256 : Int) ≤ (n : Int)) = false := by simp; omega
        have C3 : Hid (n < 256) := by show _ < _; omega
        clear c1 c2 c3
        go_wp
        go_ret
        exact ⟨ret_int (len_fin0 n C3.out), rfl⟩
end Go.Proofs.YtfgklnenpichcaaGreatDoor

/-! The writer in memory: its two cells, the bytes that it has put together, and what of the other memory stands when it writes. -/
namespace Go.Proofs.YtfgklnenpichcaaGreatDoor
open Go.RowKit

/-- At block g lies a writer of the type t that has written the bytes bs; its bytes lie in blocks from B on, none of them g. -/
def WAt (w : World) (B g : Nat) (t : Int) (bs : List UInt8) : Prop :=
  B ≤ g ∧ ∃ sv, w.heap[g]? = some (.cells #[.int .i64 t, sv] 182 (0, 0)) ∧ OwnC w B 5 sv (bs.map bv) ∧ sv.ownBlock ≠ some g

/-- A block that is neither the writer's nor that of its bytes. -/
def Apart (w : World) (g k : Nat) : Prop := k < w.heap.size ∧ k ≠ g ∧ ∀ sv, w.cell? ⟨g, 1, none⟩ = some sv → sv.ownBlock ≠ some k

/-- What a writer's method leaves alone. -/
structure WKeep (w w' : World) (g : Nat) : Prop where
  os : w'.os = w.os
  tape : w'.tape = w.tape
  output : w'.output = w.output
  size : w.heap.size ≤ w'.heap.size
  block : ∀ k, Apart w g k → w'.heap[k]? = w.heap[k]? ∧ Apart w' g k

theorem WKeep.refl (w : World) (g : Nat) : WKeep w w g := ⟨rfl, rfl, rfl, Nat.le_refl _, fun _ h => ⟨rfl, h⟩⟩
theorem WKeep.trans {a b c : World} {g : Nat} (h : WKeep a b g) (k : WKeep b c g) : WKeep a c g :=
  ⟨k.os.trans h.os, k.tape.trans h.tape, k.output.trans h.output, Nat.le_trans h.size k.size, fun i hi => ⟨((k.block i (h.block i hi).2).1).trans (h.block i hi).1, (k.block i (h.block i hi).2).2⟩⟩

theorem WKeep.of_below {w w' : World} {g : Nat} (hb : Below w.heap.size w w') (hg : g < w.heap.size) : WKeep w w' g :=
  ⟨hb.os, hb.tape, hb.output, hb.size, fun k hk => ⟨hb.block k hk.1, by have := hb.size; have := hk.1; omega, hk.2.1, fun sv hs => hk.2.2 sv (by rw [← hs]; exact (World.cell?_of_block (w := w) (hb.block g hg)).symm)⟩⟩

theorem WAt.lt {w : World} {B g : Nat} {t : Int} {bs : List UInt8} (h : WAt w B g t bs) : g < w.heap.size := by
  obtain ⟨_, sv, hg, _⟩ := h
  rcases Nat.lt_or_ge g w.heap.size with h' | h'
  · exact h'
  · simp [Array.getElem?_eq_none h'] at hg

theorem WAt.below {w w' : World} {B g : Nat} {t : Int} {bs : List UInt8} (h : WAt w B g t bs) (hb : Below w.heap.size w w') : WAt w' B g t bs := by
  have hl := h.lt
  obtain ⟨hB, sv, hg, ho, hn⟩ := h
  exact ⟨hB, sv, by rw [hb.block g hl]; exact hg, ho.below hb, hn⟩

theorem WAt.cells {w : World} {B g : Nat} {t : Int} {bs : List UInt8} (h : WAt w B g t bs) :
    ∃ sv, w.cell? ⟨g, 0, none⟩ = some (.int .i64 t) ∧ w.cell? ⟨g, 1, none⟩ = some sv ∧ w.frozen? ⟨g, 1, none⟩ = false ∧ OwnC w B 5 sv (bs.map bv) ∧ sv.ownBlock ≠ some g := by
  obtain ⟨_, sv, hg, ho, hn⟩ := h
  exact ⟨sv, by simp [World.cell?, hg], by simp [World.cell?, hg], by simp [World.frozen?, hg], ho, hn⟩

theorem WAt.apart {w : World} {B g : Nat} {t : Int} {bs : List UInt8} (h : WAt w B g t bs) {k : Nat} (hk : k < B) (hl : k < w.heap.size) : Apart w g k := by
  obtain ⟨sv, _, h1, _, ho, _⟩ := h.cells
  have hB := h.1
  refine ⟨hl, by omega, fun sv' hs e => ?_⟩
  rw [h1] at hs
  cases hs
  have := (owns_block ho e).1
  omega

/-- The writer's bytes grow, in their own row or in a new one, and the new slice is stored in the writer. -/
theorem WAt.step {w wa w1 : World} {B g : Nat} {t : Int} {bs bs' : List UInt8} {sv sv' : Value} (h : WAt w B g t bs) (h1 : w.cell? ⟨g, 1, none⟩ = some sv) (hb : Below w.heap.size w wa)
    (hg : wa.grownBy w1 sv.ownBlock) (ho' : OwnC w1 B 5 sv' (bs'.map bv)) (hw : sv'.ownBlock = sv.ownBlock ∨ sv'.ownBlock = some wa.heap.size) :
    WAt (w1.setCell ⟨g, 1, none⟩ sv') B g t bs' ∧ WKeep w (w1.setCell ⟨g, 1, none⟩ sv') g := by
  have hl := h.lt
  obtain ⟨hB, sv0, hgg, ho, hn⟩ := h
  have e0 : sv0 = sv := by simpa [World.cell?, hgg] using h1
  subst e0
  have hsz := hb.size
  have hga : wa.heap[g]? = some (.cells #[.int .i64 t, sv0] 182 (0, 0)) := by rw [hb.block g hl]; exact hgg
  have hg1 : w1.heap[g]? = some (.cells #[.int .i64 t, sv0] 182 (0, 0)) := by rw [hg.block g (by omega) (Ne.symm hn)]; exact hga
  have hne : sv'.ownBlock ≠ some g := by
    rcases hw with e | e
    · rw [e]; exact hn
    · rw [e]; intro e2; simp at e2; omega
  have hset : (w1.setCell ⟨g, 1, none⟩ sv').heap[g]? = some (.cells #[.int .i64 t, sv'] 182 (0, 0)) := by
    simp [World.setCell, Array.getElem?_modify, hg1]
  have hoth : ∀ k, k ≠ g → (w1.setCell ⟨g, 1, none⟩ sv').heap[k]? = w1.heap[k]? := fun k hk => Below.heap_setCell _ _ _ _ hk
  have hss : (w1.setCell ⟨g, 1, none⟩ sv').heap.size = w1.heap.size := by simp [World.setCell]
  have hg2 := hg.size
  refine ⟨⟨hB, sv', hset, ?_, hne⟩, ⟨hg.os.trans hb.os, hg.tape.trans hb.tape, hg.output.trans hb.output, by omega, ?_⟩⟩
  · exact owns_of_block ho' fun k hk => hoth k fun e => hne (by rw [hk, e])
  · intro k hk
    have hk0 := hk.2.2 sv0 h1
    have hk1 := hk.1
    refine ⟨?_, by omega, hk.2.1, fun s hs => ?_⟩
    · rw [hoth k hk.2.1, hg.block k (by omega) (Ne.symm hk0), hb.block k hk1]
    · have : s = sv' := by
        have e : (w1.setCell ⟨g, 1, none⟩ sv').cell? ⟨g, 1, none⟩ = some sv' := by simp [World.cell?, hset]
        rw [e] at hs; exact (Option.some.inj hs).symm
      subst this
      rcases hw with e | e
      · rw [e]; exact hk0
      · rw [e]; intro e2; simp at e2; omega

theorem vals_keep {w w' : World} {g : Nat} {a : Option Addr} {vs : List V} (h : Vals w a vs) (hk : WKeep w w' g) (hap : ∀ b o, a = some ⟨b, o, none⟩ → Apart w g b) : Vals w' a vs :=
  h.of_block hk.size fun b o hb _ => (hk.block b (hap b o hb)).1
theorem cells_keep {w w' : World} {g : Nat} {a : Option Addr} {vs : List Value} (h : Cells w a vs) (hk : WKeep w w' g) (hap : ∀ b o, a = some ⟨b, o, none⟩ → Apart w g b) : Cells w' a vs :=
  h.of_block hk.size fun b o hb _ => (hk.block b (hap b o hb)).1
theorem apart_keep {w w' : World} {g : Nat} {a : Option Addr} (hk : WKeep w w' g) (hap : ∀ b o, a = some ⟨b, o, none⟩ → Apart w g b) : ∀ b o, a = some ⟨b, o, none⟩ → Apart w' g b :=
  fun b o hb => (hk.block b (hap b o hb)).2
/-- What is made behind the writer's block is apart from it. -/
theorem apart_new {w w' : World} {B g : Nat} {t : Int} {bs : List UInt8} (h : WAt w B g t bs) (hb : Below w.heap.size w w') {k : Nat} (hk : w.heap.size ≤ k) (hk' : k < w'.heap.size) : Apart w' g k := by
  have hl := h.lt
  obtain ⟨sv, _, h1, _, ho, _⟩ := h.cells
  refine ⟨hk', by omega, fun s hs e => ?_⟩
  have : w'.cell? ⟨g, 1, none⟩ = some sv := by rw [World.cell?_of_block (w := w) (hb.block g hl)]; exact h1
  rw [this] at hs
  cases hs
  have := (owns_block ho e).2
  omega

theorem news_one (w : World) (v : Value) (e : TypeId) : ∀ (j : Nat) (u : Value), [v][j]? = some u → (w.alloc (.cells #[v] e)).cell? ((⟨w.heap.size, 0, none⟩ : Addr).add j) = some u := by
  intro j u hj
  cases j with
  | zero => simp at hj; subst hj; simp [Addr.add]
  | succ j => simp at hj

theorem alloc_cell (w : World) (o : Obj) (b i : Nat) (h : b < w.heap.size) : (w.alloc o).cell? ⟨b, i, none⟩ = w.cell? ⟨b, i, none⟩ :=
  World.cell?_of_block (Below.heap_alloc w o b h)
theorem alloc_frozen (w : World) (o : Obj) (b i : Nat) (h : b < w.heap.size) : (w.alloc o).frozen? ⟨b, i, none⟩ = w.frozen? ⟨b, i, none⟩ :=
  World.frozen?_of_block (Below.heap_alloc w o b h)

theorem low_val (n : Int) : Value.int .u8 (n % 256) = bv (low n) := by
  unfold bv low
  congr 1
  simp
  omega
end Go.Proofs.YtfgklnenpichcaaGreatDoor

/-! What the writer's methods write: one byte, a number's eight bytes. -/
namespace Go.Proofs.YtfgklnenpichcaaGreatDoor
open Go.RowKit

set_option maxHeartbeats 400000 in
theorem wSmall_any (B g : Nat) (t n : Int) (bs : List UInt8) (w : World) (h : WAt w B g t bs) (hl : bs.length ≤ 100000) :
    Calls Tryz.prog 125 #[.pointer (some ⟨g, 0, none⟩), .int .i64 n] w fun e w' => e = .returned (.tuple #[]) ∧ WAt w' B g t (bs ++ [low n]) ∧ WKeep w w' g := by
  have hg := h.lt
  have hB := h.1
  obtain ⟨sv, c0, c1, c2, ho, hn⟩ := h.cells
  have hlen : (bs.map bv).length ≤ 100000 := by simpa using hl
  go_enter Tryz.func125, Tryz.ntmps125
  go_wp2_with (at_builtin; go_must (refine wpList_append_C (by rfl) _ _ 180 5 _ 1 info_u8 (by rfl) (by decide) (by kernel_rfl) (by rfl) B sv _ (by rfl) (ho.alloc _) ⟨w.heap.size, 0, none⟩ 1 [.int .u8 (n % 256)] (by rfl) (by exact news_one _ _ _) (by intro u hu; simp at hu; subst hu; rfl) (by simp only [List.length_cons, List.length_nil]; omega) (by simp; omega) ?_); intro sv' w1 h1 h2 h3; obtain ⟨a2, cap2, rfl, _⟩ := h1.cells; have k1 := h2.cell_far ⟨g, 1, none⟩ (by simp; omega) (Ne.symm hn); have k2 := h2.frozen_far ⟨g, 1, none⟩ (by simp; omega) (Ne.symm hn))
  go_end0
  rw [low_val] at h1
  have := h.step (bs' := bs ++ [low n]) c1 ((Below.refl _ _).alloc (Nat.le_refl _) _) h2 (by simpa using h1) h3
  simp only [List.length_append, List.length_map, List.length_cons, List.length_nil] at this
  exact ⟨rfl, this⟩

theorem u8_of_shift (U i : Nat) : Value.int .u8 (((U / 2 ^ (8 * i) : Nat) : Int) % 256) = bv (UInt8.ofNat (U / 256 ^ i % 256)) := by
  unfold bv
  congr 1
  have : (2 : Nat) ^ (8 * i) = 256 ^ i := by rw [Nat.pow_mul]
  rw [this]
  simp

theorem run_shr_u64 (U c : Nat) (hc : c < 64) (W : World) : (Op.shift .shr .u64 (U : Int) .i64 (c : Int)).run Tryz.prog W = .ok (.int .u64 ((U / 2 ^ c : Nat) : Int)) W := by
  simp [go_sem]
theorem run_shl_u8 (b c : Nat) (hb : b < 2) (hc : c < 8) (W : World) : (Op.shift .shl .u8 (b : Int) .i64 (c : Int)).run Tryz.prog W = .ok (.int .u8 ((b <<< c : Nat) : Int)) W := by
  have h : ∀ (b : Fin 2) (c : Fin 8), ((b.val : Int) * 2 ^ c.val) % 256 = ((b.val <<< c.val : Nat) : Int) := by decide
  have := h ⟨b, hb⟩ ⟨c, hc⟩
  simp [go_sem, IntKind.wrap_u8]
  simpa using this

set_option maxRecDepth 100000 in
set_option maxHeartbeats 1000000 in
theorem wNumber_any (B g : Nat) (t n : Int) (bs : List UInt8) (w : World) (h : WAt w B g t bs) (hl : bs.length ≤ 100000) :
    Calls Tryz.prog 150 #[.pointer (some ⟨g, 0, none⟩), .int .i64 n] w fun e w' => e = .returned (.tuple #[]) ∧ WAt w' B g t (bs ++ le8 (u64 n)) ∧ WKeep w w' g := by
  have hu : IntKind.u64.wrap n = (u64 n : Int) := by rw [IntKind.wrap_u64]; unfold u64; omega
  have hul := u64_lt n
  generalize u64 n = U at *
  go_enter Tryz.func150, Tryz.ntmps150
  go_wp2
  go_loopw [5] (fun i wr => ∃ k : Nat, k ≤ 8 ∧ i = .int .i64 k ∧ WAt wr B g t (bs ++ (List.range k).map fun i => UInt8.ofNat (U / 256 ^ i % 256)) ∧ WKeep w wr g) (fun i _ => 8 - (intOf i).toNat)
  case atStart => exact ⟨0, by omega, rfl, by simpa using h, WKeep.refl _ _⟩
  case round =>
    obtain ⟨k, hk, rfl, hw, hkeep⟩ := hrel
    by_cases hlt : k < 8
    · have hg := hw.lt
      have hB := hw.1
      obtain ⟨sv, c0, c1, c2, ho, hn⟩ := hw.cells
      generalize hbs : bs ++ ((List.range k).map fun i => UInt8.ofNat (U / 256 ^ i % 256)) = bk at *
      have hlen : (bk.map bv).length ≤ 100010 := by rw [← hbs]; simp; omega
      have HBK : Hid _ := hbs
      clear hbs
      obtain ⟨c, hc⟩ : ∃ c : Nat, c = 8 * k := ⟨_, rfl⟩
      have hw8 : IntKind.i64.wrap (8 * (k : Int)) = (c : Int) := by rw [IntKind.wrap_i64]; omega
      obtain ⟨q, hq⟩ : ∃ q : Nat, q = U / 256 ^ k % 256 := ⟨_, rfl⟩
      have hwr : IntKind.u8.wrap ((U : Int) / 2 ^ min c 64) = (q : Int) := by
        have e : min c 64 = 8 * k := by omega
        have e2 : ((2 : Int) ^ (8 * k)) = ((256 ^ k : Nat) : Int) := by
          rw [Int.natCast_pow, Int.pow_mul]; rfl
        rw [e, hq, e2, IntKind.wrap_u8]
        omega
      have HQ : Hid (Value.int .u8 (q : Int) = bv (UInt8.ofNat (U / 256 ^ k % 256))) := by
        show Value.int .u8 (q : Int) = _
        rw [hq]; unfold bv; congr 1; simp
      clear hc hq
      obtain ⟨i0, hi0, hz0, hz1, hz2⟩ := info_parts info_u8
      go_wp2_with fail
      go_region_law
        ((refine step_append_lies _ (by rfl) _ _ _ (by rfl) B 5 i0 _ 1 1 (by kernel_rfl) hi0 hz0 hz1 hz2 rfl (by omega) sv (bk.map bv).length (bk.map bv) (by rfl) ((World.ownsRow.drew (ho.alloc _)))
              ⟨wr.heap.size, 0, none⟩ 1 1 [.int .u8 (q : Int)] (by rfl) (by rfl) (by exact news_one wr _ 5) (by intro u hu; simp at hu; subst hu; rfl)
              (by omega) (by unfold maxLen; omega) (by omega) (by simp; omega) (wr.heap.size + 1) (by simp) ?_; intro gg cap w1 hown1 hgrow hat hlt2; have k1 : w1.cell? ⟨g, 1, none⟩ = some sv := (by rw [hgrow.cell_far _ (by simp; omega) (Ne.symm hn)]; exact (alloc_cell wr _ g 1 hg).trans c1); have k2 : w1.frozen? ⟨g, 1, none⟩ = false := (by rw [hgrow.frozen_far _ (by simp; omega) (Ne.symm hn)]; exact (alloc_frozen wr _ g 1 hg).trans c2)))
      all_goals
        go_wp2
        go_roundw
        case rel =>
          rw [HQ.out] at hown1
          have hst := hw.step (bs' := bk ++ [UInt8.ofNat (U / 256 ^ k % 256)]) (sv' := .slice (some ⟨gg, 0, none⟩) ((List.map bv bk).length + 1) cap) c1 (((Below.refl _ _).alloc (Nat.le_refl _) _).drew) hgrow (by simpa [OwnC] using hown1)
            (by rcases hat with e | e
                · exact .inl e.symm
                · right; simp [Value.ownBlock, e])
          simp only [List.length_map] at hst
          refine ⟨k + 1, by omega, by go_num, ?_, hkeep.trans hst.2⟩
          rw [List.range_succ, List.map_append, ← List.append_assoc, HBK.out]
          exact hst.1
        case measure => simp [intOf]; omega
    · have hk8 : k = 8 := by omega
      subst hk8
      go_wp2
      go_end0
      exact ⟨rfl, hw, hkeep⟩
end Go.Proofs.YtfgklnenpichcaaGreatDoor

/-! 'out = append(out, s...)', s a text: where the new slice lies. -/
namespace Go.Proofs.YtfgklnenpichcaaGreatDoor
open Go.RowKit

theorem OwnC.form {w : World} {B : Nat} {e : TypeId} {sv : Value} {xs : List Value} (h : OwnC w B e sv xs) : ∃ a ln c, sv = .slice a ln c := by
  obtain ⟨a, c, hv, _⟩ := h.cells
  exact ⟨a, _, c, hv⟩

theorem strCells_bv (s : ByteArray) : Lib.strCells s = s.toList.map bv := by
  rw [ByteArray.toList_eq]; rfl

theorem run_append_str (w : World) (B : Nat) (ty : TypeId) (sv : Value) (bs : List UInt8) (hown : OwnC w B 5 sv (bs.map bv)) (hne : bs ≠ []) (s : ByteArray) (hlen : bs.length + s.size ≤ 1000000) (hB : B ≤ w.heap.size) :
    ∃ sv' w', (Builtin.append_ #[180, 9] ty #[sv, .string s]).run Tryz.prog w = .ok sv' w' ∧ OwnC w' B 5 sv' ((bs ++ s.toList).map bv) ∧ w.grownBy w' sv.ownBlock ∧ (sv'.ownBlock = sv.ownBlock ∨ sv'.ownBlock = some w.heap.size) := by
  obtain ⟨i, hi, hz, hs1, hby⟩ := info_parts info_u8
  have hl : (bs.map bv).length = bs.length := by simp
  obtain ⟨v', w', hr, h2, h3, _⟩ := Lib.run_append_own_string (P := Tryz.prog) w B 180 9 ty 5 i (by kernel_rfl) (by kernel_rfl) hi hz hs1 hby sv _ _ hown s (by unfold maxLen; omega) (by omega) hB
  refine ⟨v', w', hr, ?_, h3, ?_⟩
  · unfold OwnC
    rw [List.map_append, ← strCells_bv, List.length_append, Lib.strCells_length]
    exact h2
  · rcases hown.2 with ⟨_, h0⟩ | ⟨g, cap, cur, rfl, hbg, hg, hnc, hcm, hcs, htake⟩
    · rw [hl] at h0; exact absurd (List.length_eq_zero_iff.1 h0) hne
    · by_cases hroom : (bs.map bv).length + s.size ≤ cap
      · have hr2 := Lib.run_append_room_string (P := Tryz.prog) w 180 9 ty 5 i (by kernel_rfl) (by kernel_rfl) hi hs1 g (bs.map bv).length cap cur hg s hroom (by omega)
        rw [hr] at hr2
        injection hr2 with e1 _
        subst e1
        exact .inl rfl
      · have hr2 := Lib.run_append_grow_string (P := Tryz.prog) w 180 9 ty 5 i _ (by kernel_rfl) (by kernel_rfl) hi hz ⟨g, 0, none⟩ (bs.map bv).length cap (bs.map bv) (by rw [hs1, Nat.mul_one]) (World.ownsRow.cells hown (g := g) rfl) s (by omega) (by omega) (by rw [hby]; exact growslice_fits (by omega) (by omega))
        rw [hr] at hr2
        injection hr2 with e1 _
        subst e1
        exact .inr rfl

/-- At a step of a region that draws its order. -/
theorem step_append_str {ops : Array Oper} {o : Oper} {a : Act} {w : World} {K : Act → World → Prop} {Q : Exit → Act → World → Prop} {E : Prop} (hgd : o.guard = none) (sl x : Operand)
    (ho : o.op = .call { callee := .builtin .append, args := #[sl, x], argTypes := #[180, 9] })
    (B : Nat) (sv : Value) (bs : List UInt8) (hs : a.eval sl = sv) (hown : OwnC w B 5 sv (bs.map bv)) (hne : bs ≠ []) (s : ByteArray) (hx : a.eval x = .string s) (hlen : bs.length + s.size ≤ 1000000) (hB : B ≤ w.heap.size)
    (h : ∀ sv' w', OwnC w' B 5 sv' ((bs ++ s.toList).map bv) → w.grownBy w' sv.ownBlock → (sv'.ownBlock = sv.ownBlock ∨ sv'.ownBlock = some w.heap.size) → K (a.put o.dst sv') w') :
    if Region.wanted o (yielded ops a.tmps) = true then Oper.wp Tryz.prog o a w K Q else E := by
  have hw : Region.wanted o (yielded ops a.tmps) = true := by simp [Region.wanted, hgd]
  rw [if_pos hw]
  obtain ⟨v', w', hr, h2, h3, h4⟩ := run_append_str w B o.type sv bs hown hne s hlen hB
  unfold Oper.wp execOp
  simp only [ho, resolve, invoke, builtin, Sem.run_bind, Sem.run_pure, Result.andThen_ok, List.map_toArray, List.map_cons, List.map_nil, hs, hx, hr]
  exact h v' w' h2 h3 h4
end Go.Proofs.YtfgklnenpichcaaGreatDoor

/-! What the writer writes of numbers of so many bits. -/
namespace Go.Proofs.YtfgklnenpichcaaGreatDoor
open Go.RowKit

theorem or_bit (Y n b A : Nat) (hY : Y < 256) (hn : n < 18446744073709551616) :
    bits BinOp.or IntKind.u8 (Y : Int) (bits BinOp.and IntKind.u64 ((n : Int) / 2 ^ b) 1 % 256 * 2 ^ (A % 8) % 256) = ((Y ||| ((if n.testBit b then 1 else 0) <<< (A % 8)) : Nat) : Int) := by
  have e1 : ((n : Int) / 2 ^ b) = ((n / 2 ^ b : Nat) : Int) := by simp
  have hlt : n / 2 ^ b < 18446744073709551616 := Nat.lt_of_le_of_lt (Nat.div_le_self _ _) hn
  have e2 : bits BinOp.and IntKind.u64 ((n / 2 ^ b : Nat) : Int) 1 = ((n / 2 ^ b % 2 : Nat) : Int) := by
    have := u64_and_nat (n / 2 ^ b) 1 hlt (by decide)
    rw [Nat.and_one_is_mod] at this
    exact this
  have e3 : n.testBit b = decide (n / 2 ^ b % 2 = 1) := Nat.testBit_eq_decide_div_mod_eq
  rw [e1, e2, e3]
  have hm : n / 2 ^ b % 2 < 2 := Nat.mod_lt _ (by decide)
  have hc : A % 8 < 8 := Nat.mod_lt _ (by decide)
  generalize n / 2 ^ b % 2 = m at *
  generalize A % 8 = c at *
  have key : ∀ (m : Fin 2) (c : Fin 8), ((m.val : Int) % (256 : Int) * (2 : Int) ^ c.val % (256 : Int)) = (((if decide (m.val = 1) = true then 1 else 0) <<< c.val : Nat) : Int) ∧ ((if decide (m.val = 1) = true then 1 else 0) <<< c.val : Nat) < 256 := by decide
  have k := key ⟨m, hm⟩ ⟨c, hc⟩
  simp only at k
  rw [k.1]
  exact u8_or_nat Y _ hY k.2

set_option maxRecDepth 100000 in
set_option maxHeartbeats 1000000 in
theorem wFields_any (B g : Nat) (t : Int) (bs : List UInt8) (width : Nat) (a : Option Addr) (cap : Nat) (ns : List Nat) (w : World) (h : WAt w B g t bs) (hl : bs.length ≤ 50000) (hwd : width ≤ 64) (hn : ns.length ≤ 64) (hsm : ∀ n ∈ ns, n < 18446744073709551616) (hx : Cells w a (ns.map uv)) (hap : ∀ b o, a = some ⟨b, o, none⟩ → Apart w g b) :
    Calls Tryz.prog 126 #[.pointer (some ⟨g, 0, none⟩), .int .i64 width, .slice a ns.length cap] w fun e w' => e = .returned (.tuple #[]) ∧ WAt w' B g t (bs ++ packBits (bitsOf width ns)) ∧ WKeep w w' g := by
  have hprod : width * ns.length ≤ 64 * 64 := Nat.mul_le_mul hwd hn
  obtain ⟨W, hW⟩ : ∃ W : Nat, W = width * ns.length := ⟨_, rfl⟩
  have hWI : (width : Int) * (ns.length : Int) = (W : Int) := by rw [hW]; simp
  obtain ⟨nb, hnb⟩ : ∃ nb : Nat, nb = (W + 7) / 8 := ⟨_, rfl⟩
  have hnbI : ((W : Int) + 7) / 8 = (nb : Int) := by omega
  have hLL := bitsOf_length width ns
  generalize hL : bitsOf width ns = L at *
  have hmk : ∀ W, (Instr.makeSlice 180 (.int .i64 (nb : Int)) (.int .i64 (nb : Int))).run Tryz.prog W = .ok (.slice (some ⟨W.heap.size, 0, none⟩) nb nb) (W.alloc (.cells (madeCells #[.int .u8 0] nb) 5)) :=
    fun W => run_make_row' 180 5 (.int .u8 0) 1 (by kernel_rfl) info_u8 rfl .i64 .i64 nb (by omega) (by omega) W
  have HLL : Hid (L.length = W) := by show _ = _; rw [hLL, hW]
  have HL : Hid (bitsOf width ns = L) := hL
  have HW : Hid (W = width * ns.length) := hW
  have HNB : Hid (nb = (W + 7) / 8) := hnb
  have hWb : W ≤ 4096 := by omega
  have hnb2 : nb ≤ 600 := by omega
  clear hL hLL hW hnb
  go_enter Tryz.func126, Tryz.ntmps126
  go_wp2_with (go_at_call 119; refine (bytesFor_any _ _ (by omega) (by omega)).mono ?_; rintro e w' ⟨rfl, hw'⟩; subst w')
  clear hmk hWI hnbI
  go_loopw [7, 19] (fun at_ i wr => ∃ k : Nat, k ≤ ns.length ∧ i = .int .i64 k ∧ at_ = .int .i64 ((width * k : Nat) : Int) ∧ wr.rowIs w.heap.size 5 nb (fun j => .int .u8 (byteAt (L.take (width * k)) j : Nat)) ∧ Below w.heap.size w wr) (fun _ i _ => ns.length - (intOf i).toNat)
  case atStart =>
    refine ⟨0, by omega, rfl, rfl, (World.rowIs_made _ _ _ _).congr fun j _ => ?_, (Below.refl _ _).alloc (Nat.le_refl _) _⟩
    simp [byteAt_nil]
  case round =>
    obtain ⟨k, hk, rfl, rfl, hrow, hbw⟩ := hrel
    by_cases hlt : k < ns.length
    · obtain ⟨b1, o1, rfl, hb1, x1⟩ := (hx.below hbw).at (i := k) (by simpa using hlt)
      rw [List.getElem_map] at x1
      unfold uv at x1
      have HG : Hid (∀ b, b < width → L[width * k + b]? = some (ns[k].testBit b)) := by
        intro b hb
        rw [← HL.out]; exact bitsOf_get width ns k b hlt hb
      have hnk : ns[k] < 18446744073709551616 := hsm _ (List.getElem_mem hlt)
      have HNK : Hid (ns[k] < 18446744073709551616) := hnk
      clear hnk
      generalize ns[k] = n at *
      have hkw : width * k + width ≤ W := by
        rw [HW.out, ← Nat.mul_succ]; exact Nat.mul_le_mul_left _ hlt
      generalize hA0 : width * k = A0 at *
      have HA0 : Hid (width * k = A0) := hA0
      clear hA0
      go_wp2
      go_loopw [7, 24] (fun at_ i wr2 => ∃ b : Nat, b ≤ width ∧ i = .int .i64 b ∧ at_ = .int .i64 ((A0 + b : Nat) : Int) ∧ wr2.rowIs w.heap.size 5 nb (fun j => .int .u8 (byteAt (L.take (A0 + b)) j : Nat)) ∧ Below w.heap.size w wr2) (fun _ i _ => width - (intOf i).toNat)
      case atStart => exact ⟨0, by omega, rfl, rfl, hrow, hbw⟩
      case round =>
        clear hrow hbw x1 hb1
        obtain ⟨b, hb, rfl, rfl, hrow, hbw⟩ := hrel
        by_cases hltb : b < width
        · have hbit := HG.out b hltb
          generalize hA : A0 + b = A at *
          have hAW : A < W := by omega
          have HA : Hid (A0 + b = A) := hA
          clear hA
          have hq : A / 8 < nb := by rw [HNB.out]; omega
          have c1 := hrow.cell hq
          have c2 := hrow.frozen (A / 8)
          have hbl := byteAt_lt (L.take A) (A / 8)
          have htk : ∀ j, byteAt (L.take (A + 1)) j = if j = A / 8 then byteAt (L.take A) j ||| ((if n.testBit b then 1 else 0) <<< (A % 8)) else byteAt (L.take A) j := by
            intro j
            have hAL : A < L.length := by rw [HLL.out]; exact hAW
            have hbb : L[A] = n.testBit b := by rw [List.getElem?_eq_getElem hAL] at hbit; exact Option.some.inj hbit
            rw [byteAt_take L A j hAL, hbb]
          have HTK : Hid _ := htk
          clear htk
          generalize hYY : byteAt (L.take A) (A / 8) = Y at c1 hbl
          have HY : Hid (byteAt (L.take A) (A / 8) = Y) := hYY
          clear hYY
          go_wp2
          go_region
          go_wp2
          go_roundw
          case rel =>
            refine ⟨b + 1, by omega, by go_num, ?_, (hrow.set (A / 8) _).congr fun j hj => ?_, (hbw.setCell (p := ⟨w.heap.size, A / 8, none⟩) (Nat.le_refl _) _).drew⟩
            · have := HA.out
              rw [← this]; go_num
            · rw [← Nat.add_assoc, HA.out, HTK.out j]
              by_cases e : j = A / 8
              · rw [if_pos e, if_pos e, or_bit Y n b A hbl HNK.out, e, HY.out]
              · rw [if_neg e, if_neg e]
          case measure => simp [intOf]; omega
        · have hbe : b = width := by omega
          subst hbe
          go_wp2
          go_roundw
          case rel =>
            refine ⟨k + 1, by omega, by go_num, ?_, ?_, hbw⟩
            · have := HA0.out
              rw [Nat.mul_succ, this]
            · rw [Nat.mul_succ, HA0.out]; exact hrow
          case measure => simp [intOf]; omega
    · have hke : k = ns.length := by omega
      subst hke
      have hfull : L.take (width * ns.length) = L := List.take_of_length_le (by rw [HLL.out, HW.out]; exact Nat.le_refl _)
      rw [hfull] at hrow
      clear hfull
      have hw2 := h.below hbw
      have hg := hw2.lt
      have hB := hw2.1
      obtain ⟨sv, c0, c1, c2, ho, hne⟩ := hw2.cells
      have hlen : (bs.map bv).length ≤ 50000 := by simpa using hl
      have hpl : ((packBits L).map bv).length = nb := by rw [List.length_map, packBits_length, HLL.out, ← HNB.out]
      have HPL : Hid (((packBits L).map bv).length = nb) := hpl
      have hnews : ∀ j u, ((packBits L).map bv)[j]? = some u → wr.cell? ((⟨w.heap.size, 0, none⟩ : Addr).add j) = some u := by
        intro j u hj
        have hjn : j < nb := by
          rw [← hpl]
          rcases Nat.lt_or_ge j ((packBits L).map bv).length with h' | h'
          · exact h'
          · rw [List.getElem?_eq_none h'] at hj; simp at hj
        rw [Addr.add_mid, Nat.zero_add, hrow.cell hjn]
        have hjj : j < (L.length + 7) / 8 := by rw [HLL.out, ← HNB.out]; exact hjn
        simp [packBits, hjj, bv] at hj
        rw [← hj]
        have := byteAt_lt L j
        congr 2
        omega
      clear hpl
      have h1c : ∀ u ∈ (packBits L).map bv, u.oneCell' = true := by
        intro u hu
        obtain ⟨x, _, rfl⟩ := List.mem_map.1 hu
        rfl
      generalize hNW : (packBits L).map bv = NW at *
      go_wp2_with (at_builtin; go_must (refine wpList_append_C (by rfl) _ _ 180 5 _ 1 info_u8 (by rfl) (by decide) (by kernel_rfl) (by rfl) B sv _ (by rfl) ho ⟨w.heap.size, 0, none⟩ nb NW (by rw [HPL.out]; rfl) hnews h1c (by rw [HPL.out]; omega) (by omega) ?_); intro sv' w1 h1 h2 h3; obtain ⟨a2, cap2, rfl, _⟩ := h1.cells; have k1 := h2.cell_far ⟨g, 1, none⟩ hg (Ne.symm hne); have k2 := h2.frozen_far ⟨g, 1, none⟩ hg (Ne.symm hne))
      go_end0
      have hst := hw2.step (bs' := bs ++ packBits L) (sv' := .slice a2 (List.map bv bs ++ NW).length cap2) c1 (Below.refl _ _) h2 (by rw [List.map_append, hNW]; exact h1) h3
      simp only [List.length_append, List.length_map] at hst
      exact ⟨rfl, hst.1, (WKeep.of_below hbw h.lt).trans hst.2⟩
end Go.Proofs.YtfgklnenpichcaaGreatDoor

/-! What the writer writes of values: one value's bytes, and a list of values one behind the other. -/
namespace Go.Proofs.YtfgklnenpichcaaGreatDoor
open Go.RowKit

/-- A value's bytes. -/
def enc (k n : Int) (s : ByteArray) : List UInt8 :=
  if k = 1 then le8 (u64 n) else if k = 2 then [low n] else if k = 3 then low s.size :: s.toList else []
/-- A value that can be written. -/
def good (k : Int) (s : ByteArray) : Prop := k = 1 ∨ k = 2 ∨ (k = 3 ∧ s.size ≤ 40)

theorem enc_le (k n : Int) (s : ByteArray) (h : good k s) : (enc k n s).length ≤ 41 := by
  rcases h with h | h | ⟨h, hs⟩
  · unfold enc; rw [if_pos h, le8_length]; omega
  · unfold enc; rw [if_neg (by omega), if_pos h]; simp
  · unfold enc; rw [if_neg (by omega), if_neg (by omega), if_pos h, ByteArray.toList_eq, List.length_cons, Array.length_toList]; exact Nat.succ_le_succ hs

set_option maxHeartbeats 400000 in
theorem wValue_int (B g : Nat) (t n : Int) (s : ByteArray) (bs : List UInt8) (w : World) (h : WAt w B g t bs) (hl : bs.length ≤ 50000) :
    Calls Tryz.prog 144 #[.pointer (some ⟨g, 0, none⟩), .agg #[.int .i64 1, .int .i64 n, .string s]] w fun e w' => e = .returned (.tuple #[]) ∧ WAt w' B g t (bs ++ le8 (u64 n)) ∧ WKeep w w' g := by
  have hg := h.lt
  go_enter Tryz.func144, Tryz.ntmps144
  go_wp2_with (go_at_call 150; refine (wNumber_any B g t _ bs _ (h.below ((Below.refl _ _).alloc (Nat.le_refl _) _)) (by omega)).mono ?_; rintro e w' ⟨rfl, hw, hk⟩)
  go_end0
  exact ⟨rfl, hw, (WKeep.of_below ((Below.refl _ _).alloc (Nat.le_refl _) _) hg).trans hk⟩

set_option maxHeartbeats 400000 in
theorem wValue_bool (B g : Nat) (t n : Int) (s : ByteArray) (bs : List UInt8) (w : World) (h : WAt w B g t bs) (hl : bs.length ≤ 50000) :
    Calls Tryz.prog 144 #[.pointer (some ⟨g, 0, none⟩), .agg #[.int .i64 2, .int .i64 n, .string s]] w fun e w' => e = .returned (.tuple #[]) ∧ WAt w' B g t (bs ++ [low n]) ∧ WKeep w w' g := by
  have hg := h.lt
  go_enter Tryz.func144, Tryz.ntmps144
  go_wp2_with (go_at_call 125; refine (wSmall_any B g t _ bs _ (h.below ((Below.refl _ _).alloc (Nat.le_refl _) _)) (by omega)).mono ?_; rintro e w' ⟨rfl, hw, hk⟩)
  go_end0
  exact ⟨rfl, hw, (WKeep.of_below ((Below.refl _ _).alloc (Nat.le_refl _) _) hg).trans hk⟩

set_option maxRecDepth 100000 in
set_option maxHeartbeats 1000000 in
theorem wValue_text (B g : Nat) (t n : Int) (s : ByteArray) (bs : List UInt8) (w : World) (h : WAt w B g t bs) (hl : bs.length ≤ 50000) (hs : s.size ≤ 40) :
    Calls Tryz.prog 144 #[.pointer (some ⟨g, 0, none⟩), .agg #[.int .i64 3, .int .i64 n, .string s]] w fun e w' => e = .returned (.tuple #[]) ∧ WAt w' B g t (bs ++ low s.size :: s.toList) ∧ WKeep w w' g := by
  have hg := h.lt
  have h2 := h.below ((Below.refl _ _).alloc (Nat.le_refl _) (.cells #[.int .i64 3, .int .i64 n, .string s] 36))
  have hap : Apart (w.alloc (.cells #[.int .i64 3, .int .i64 n, .string s] 36)) g w.heap.size := apart_new h ((Below.refl _ _).alloc (Nat.le_refl _) _) (Nat.le_refl _) (by simp)
  go_enter Tryz.func144, Tryz.ntmps144
  go_wp2_with (go_at_call 125; refine (wSmall_any B g t _ bs _ h2 (by omega)).mono ?_; rintro e w' ⟨rfl, hw, hk⟩)
  have hg2 := hw.lt
  have hB := hw.1
  obtain ⟨sv, c0, c1, c2, ho, hn⟩ := hw.cells
  obtain ⟨hbk, hap2⟩ := hk.block _ hap
  have c3 : w'.cell? ⟨w.heap.size, 2, none⟩ = some (.string s) := by rw [World.cell?_of_block (w := w.alloc _) hbk]; simp
  have hne : w.heap.size ≠ g := by omega
  go_region_law
    ((refine step_append_str (by rfl) _ _ (by rfl) B sv (bs ++ [low s.size]) (by rfl) (by exact ho) (by simp) s (by rfl) (by simp; omega) (by simp; omega) ?_
      intro sv' w1 h1 h2 h3
      obtain ⟨a2, ln, cap2, rfl⟩ := h1.form
      have k1 : w1.cell? ⟨g, 1, none⟩ = some sv := (by rw [h2.cell_far _ (by simpa using hg2) (Ne.symm hn)]; exact c1)
      have k2 : w1.frozen? ⟨g, 1, none⟩ = false := (by rw [h2.frozen_far _ (by simpa using hg2) (Ne.symm hn)]; exact c2)))
  all_goals
    go_wp2
    go_end0
    have hst := hw.step (bs' := bs ++ low s.size :: s.toList) (sv' := .slice a2 ln cap2) c1 ((Below.refl _ _).drew) h2 (by simpa using h1) h3
    exact ⟨rfl, hst.1, ((WKeep.of_below ((Below.refl _ _).alloc (Nat.le_refl _) _) hg).trans hk).trans hst.2⟩

theorem wValue_any (B g : Nat) (t : Int) (v : V) (bs : List UInt8) (w : World) (h : WAt w B g t bs) (hl : bs.length ≤ 50000) (hv : good v.k v.s) :
    Calls Tryz.prog 144 #[.pointer (some ⟨g, 0, none⟩), v.val] w fun e w' => e = .returned (.tuple #[]) ∧ WAt w' B g t (bs ++ enc v.k v.n v.s) ∧ WKeep w w' g := by
  obtain ⟨k, n, s⟩ := v
  rcases hv with hk | hk | ⟨hk, hs⟩
  · simp only at hk
    subst hk
    exact wValue_int B g t n s bs w h hl
  · simp only at hk
    subst hk
    exact wValue_bool B g t n s bs w h hl
  · simp only at hk hs
    subst hk
    exact wValue_text B g t n s bs w h hl hs

/-- The bytes of some values, one behind the other. -/
def encAll (vs : List V) : List UInt8 := vs.flatMap fun v => enc v.k v.n v.s
theorem encAll_le (vs : List V) (h : ∀ v ∈ vs, good v.k v.s) : (encAll vs).length ≤ 41 * vs.length := by
  induction vs with
  | nil => simp [encAll]
  | cons v vs ih =>
    have h1 := enc_le v.k v.n v.s (h v (List.mem_cons_self))
    have h2 := ih fun u hu => h u (List.mem_cons_of_mem _ hu)
    unfold encAll at *
    rw [List.flatMap_cons, List.length_append, List.length_cons]
    omega
theorem encAll_snoc (vs : List V) (v : V) : encAll (vs ++ [v]) = encAll vs ++ enc v.k v.n v.s := by simp [encAll]

set_option maxHeartbeats 400000 in
theorem wPlain_any (B g : Nat) (t : Int) (a : Option Addr) (cap : Nat) (xs : List V) (bs : List UInt8) (w : World) (h : WAt w B g t bs) (hl : bs.length ≤ 10000) (hn : xs.length ≤ 64) (hgd : ∀ v ∈ xs, good v.k v.s) (hx : Vals w a xs) (hap : ∀ b o, a = some ⟨b, o, none⟩ → Apart w g b) :
    Calls Tryz.prog 127 #[.pointer (some ⟨g, 0, none⟩), .slice a xs.length cap] w fun e w' => e = .returned (.tuple #[]) ∧ WAt w' B g t (bs ++ encAll xs) ∧ WKeep w w' g := by
  go_enter Tryz.func127, Tryz.ntmps127
  go_wp2
  go_loopw [8] (fun i wr => ∃ k : Nat, k ≤ xs.length ∧ i = .int .i64 k ∧ WAt wr B g t (bs ++ encAll (xs.take k)) ∧ WKeep w wr g) (fun i _ => xs.length - (intOf i).toNat)
  case atStart => exact ⟨0, by omega, rfl, by simpa [encAll] using h, WKeep.refl _ _⟩
  case round =>
    obtain ⟨k, hk, rfl, hw, hkeep⟩ := hrel
    by_cases hlt : k < xs.length
    · have hx2 := vals_keep hx hkeep hap
      obtain ⟨b1, o1, rfl, hb1, x1, x2, x3⟩ := hx2.at hlt
      have hts := encAll_snoc (xs.take k) xs[k]
      rw [← List.take_succ_eq_append_getElem hlt] at hts
      have hle := encAll_le (xs.take k) fun v hv => hgd v (List.mem_of_mem_take hv)
      have hle2 : (xs.take k).length ≤ k := List.length_take_le _ _
      have hgk := hgd _ (List.getElem_mem hlt)
      have HT : Hid _ := hts
      have HGK : Hid (good xs[k].k xs[k].s) := hgk
      have hlen : (bs ++ encAll (xs.take k)).length ≤ 50000 := by rw [List.length_append]; omega
      clear hts hgk hle hle2
      generalize hbs : bs ++ encAll (xs.take k) = bk at *
      have HBS : Hid _ := hbs
      clear hbs
      go_wp2_with (go_at_call 144; refine (wValue_any B g t xs[k] bk _ (hw.below ((Below.refl _ _).alloc (Nat.le_refl _) _)) hlen HGK.out).mono ?_; rintro e w' ⟨rfl, hw2, hk2⟩)
      go_roundw
      case rel =>
        refine ⟨k + 1, by omega, by go_num, ?_, (hkeep.trans (WKeep.of_below ((Below.refl _ _).alloc (Nat.le_refl _) _) hw.lt)).trans hk2⟩
        rw [HT.out, ← List.append_assoc, HBS.out]; exact hw2
      case measure => simp [intOf]; omega
    · go_wp2
      go_end0
      have e : xs.take k = xs := List.take_of_length_le (by omega)
      rw [e] at hw
      exact ⟨rfl, hw, hkeep⟩
end Go.Proofs.YtfgklnenpichcaaGreatDoor
