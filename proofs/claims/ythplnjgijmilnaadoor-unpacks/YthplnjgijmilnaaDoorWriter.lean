/- The writer in memory: its two cells, the bytes that it has put together, and what of the other memory stands when it writes. -/
import Derived.Test.YthplnjgijmilnaaDoorLaws
namespace Go.Proofs.YthplnjgijmilnaaDoor
open Go.RowKit

/-- At block g lies a writer of the type t that has written the bytes bs; its bytes lie in blocks from B on, none of them g. -/
def WAt (w : World) (B g : Nat) (t : Int) (bs : List UInt8) : Prop :=
  B ≤ g ∧ ∃ sv, w.heap[g]? = some (.cells #[.int .i64 t, sv] 65 (0, 0)) ∧ OwnC w B 5 sv (bs.map bv) ∧ sv.ownBlock ≠ some g

/-- A block that is neither the writer's nor that of its bytes. -/
def Apart (w : World) (g k : Nat) : Prop := k < w.heap.size ∧ k ≠ g ∧ ∀ sv, w.cell? ⟨g, 1, none⟩ = some sv → sv.ownBlock ≠ some k

/-- What a writer's method leaves alone. -/
structure WKeep (w w' : World) (g : Nat) : Prop where
  os : w'.os = w.os
  tape : w'.tape = w.tape
  output : w'.output = w.output
  size : w.heap.size ≤ w'.heap.size
  block : ∀ k, Apart w g k → w'.heap[k]? = w.heap[k]? ∧ Apart w' g k

theorem WKeep.refl (w : World) (g : Nat) : WKeep w w g := ⟨rfl, rfl, rfl, Nat.le_refl _, fun _ h => ⟨rfl, h⟩⟩
theorem WKeep.trans {a b c : World} {g : Nat} (h : WKeep a b g) (k : WKeep b c g) : WKeep a c g :=
  ⟨k.os.trans h.os, k.tape.trans h.tape, k.output.trans h.output, Nat.le_trans h.size k.size, fun i hi => ⟨((k.block i (h.block i hi).2).1).trans (h.block i hi).1, (k.block i (h.block i hi).2).2⟩⟩

theorem WKeep.of_below {w w' : World} {g : Nat} (hb : Below w.heap.size w w') (hg : g < w.heap.size) : WKeep w w' g :=
  ⟨hb.os, hb.tape, hb.output, hb.size, fun k hk => ⟨hb.block k hk.1, by have := hb.size; have := hk.1; omega, hk.2.1, fun sv hs => hk.2.2 sv (by rw [← hs]; exact (World.cell?_of_block (w := w) (hb.block g hg)).symm)⟩⟩

theorem WAt.lt {w : World} {B g : Nat} {t : Int} {bs : List UInt8} (h : WAt w B g t bs) : g < w.heap.size := by
  obtain ⟨_, sv, hg, _⟩ := h
  rcases Nat.lt_or_ge g w.heap.size with h' | h'
  · exact h'
  · simp [Array.getElem?_eq_none h'] at hg

theorem WAt.below {w w' : World} {B g : Nat} {t : Int} {bs : List UInt8} (h : WAt w B g t bs) (hb : Below w.heap.size w w') : WAt w' B g t bs := by
  have hl := h.lt
  obtain ⟨hB, sv, hg, ho, hn⟩ := h
  exact ⟨hB, sv, by rw [hb.block g hl]; exact hg, ho.below hb, hn⟩

theorem WAt.cells {w : World} {B g : Nat} {t : Int} {bs : List UInt8} (h : WAt w B g t bs) :
    ∃ sv, w.cell? ⟨g, 0, none⟩ = some (.int .i64 t) ∧ w.cell? ⟨g, 1, none⟩ = some sv ∧ w.frozen? ⟨g, 1, none⟩ = false ∧ OwnC w B 5 sv (bs.map bv) ∧ sv.ownBlock ≠ some g := by
  obtain ⟨_, sv, hg, ho, hn⟩ := h
  exact ⟨sv, by simp [World.cell?, hg], by simp [World.cell?, hg], by simp [World.frozen?, hg], ho, hn⟩

theorem WAt.apart {w : World} {B g : Nat} {t : Int} {bs : List UInt8} (h : WAt w B g t bs) {k : Nat} (hk : k < B) (hl : k < w.heap.size) : Apart w g k := by
  obtain ⟨sv, _, h1, _, ho, _⟩ := h.cells
  have hB := h.1
  refine ⟨hl, by omega, fun sv' hs e => ?_⟩
  rw [h1] at hs
  cases hs
  have := (owns_block ho e).1
  omega

/-- The writer's bytes grow, in their own row or in a new one, and the new slice is stored in the writer. -/
theorem WAt.step {w wa w1 : World} {B g : Nat} {t : Int} {bs bs' : List UInt8} {sv sv' : Value} (h : WAt w B g t bs) (h1 : w.cell? ⟨g, 1, none⟩ = some sv) (hb : Below w.heap.size w wa)
    (hg : wa.grownBy w1 sv.ownBlock) (ho' : OwnC w1 B 5 sv' (bs'.map bv)) (hw : sv'.ownBlock = sv.ownBlock ∨ sv'.ownBlock = some wa.heap.size) :
    WAt (w1.setCell ⟨g, 1, none⟩ sv') B g t bs' ∧ WKeep w (w1.setCell ⟨g, 1, none⟩ sv') g := by
  have hl := h.lt
  obtain ⟨hB, sv0, hgg, ho, hn⟩ := h
  have e0 : sv0 = sv := by simpa [World.cell?, hgg] using h1
  subst e0
  have hsz := hb.size
  have hga : wa.heap[g]? = some (.cells #[.int .i64 t, sv0] 65 (0, 0)) := by rw [hb.block g hl]; exact hgg
  have hg1 : w1.heap[g]? = some (.cells #[.int .i64 t, sv0] 65 (0, 0)) := by rw [hg.block g (by omega) (Ne.symm hn)]; exact hga
  have hne : sv'.ownBlock ≠ some g := by
    rcases hw with e | e
    · rw [e]; exact hn
    · rw [e]; intro e2; simp at e2; omega
  have hset : (w1.setCell ⟨g, 1, none⟩ sv').heap[g]? = some (.cells #[.int .i64 t, sv'] 65 (0, 0)) := by
    simp [World.setCell, Array.getElem?_modify, hg1]
  have hoth : ∀ k, k ≠ g → (w1.setCell ⟨g, 1, none⟩ sv').heap[k]? = w1.heap[k]? := fun k hk => Below.heap_setCell _ _ _ _ hk
  have hss : (w1.setCell ⟨g, 1, none⟩ sv').heap.size = w1.heap.size := by simp [World.setCell]
  have hg2 := hg.size
  refine ⟨⟨hB, sv', hset, ?_, hne⟩, ⟨hg.os.trans hb.os, hg.tape.trans hb.tape, hg.output.trans hb.output, by omega, ?_⟩⟩
  · exact owns_of_block ho' fun k hk => hoth k fun e => hne (by rw [hk, e])
  · intro k hk
    have hk0 := hk.2.2 sv0 h1
    have hk1 := hk.1
    refine ⟨?_, by omega, hk.2.1, fun s hs => ?_⟩
    · rw [hoth k hk.2.1, hg.block k (by omega) (Ne.symm hk0), hb.block k hk1]
    · have : s = sv' := by
        have e : (w1.setCell ⟨g, 1, none⟩ sv').cell? ⟨g, 1, none⟩ = some sv' := by simp [World.cell?, hset]
        rw [e] at hs; exact (Option.some.inj hs).symm
      subst this
      rcases hw with e | e
      · rw [e]; exact hk0
      · rw [e]; intro e2; simp at e2; omega

theorem vals_keep {w w' : World} {g : Nat} {a : Option Addr} {vs : List V} (h : Vals w a vs) (hk : WKeep w w' g) (hap : ∀ b o, a = some ⟨b, o, none⟩ → Apart w g b) : Vals w' a vs :=
  h.of_block hk.size fun b o hb _ => (hk.block b (hap b o hb)).1
theorem cells_keep {w w' : World} {g : Nat} {a : Option Addr} {vs : List Value} (h : Cells w a vs) (hk : WKeep w w' g) (hap : ∀ b o, a = some ⟨b, o, none⟩ → Apart w g b) : Cells w' a vs :=
  h.of_block hk.size fun b o hb _ => (hk.block b (hap b o hb)).1
theorem apart_keep {w w' : World} {g : Nat} {a : Option Addr} (hk : WKeep w w' g) (hap : ∀ b o, a = some ⟨b, o, none⟩ → Apart w g b) : ∀ b o, a = some ⟨b, o, none⟩ → Apart w' g b :=
  fun b o hb => (hk.block b (hap b o hb)).2
/-- What is made behind the writer's block is apart from it. -/
theorem apart_new {w w' : World} {B g : Nat} {t : Int} {bs : List UInt8} (h : WAt w B g t bs) (hb : Below w.heap.size w w') {k : Nat} (hk : w.heap.size ≤ k) (hk' : k < w'.heap.size) : Apart w' g k := by
  have hl := h.lt
  obtain ⟨sv, _, h1, _, ho, _⟩ := h.cells
  refine ⟨hk', by omega, fun s hs e => ?_⟩
  have : w'.cell? ⟨g, 1, none⟩ = some sv := by rw [World.cell?_of_block (w := w) (hb.block g hl)]; exact h1
  rw [this] at hs
  cases hs
  have := (owns_block ho e).2
  omega

theorem news_one (w : World) (v : Value) (e : TypeId) : ∀ (j : Nat) (u : Value), [v][j]? = some u → (w.alloc (.cells #[v] e)).cell? ((⟨w.heap.size, 0, none⟩ : Addr).add j) = some u := by
  intro j u hj
  cases j with
  | zero => simp at hj; subst hj; simp [Addr.add]
  | succ j => simp at hj

theorem alloc_cell (w : World) (o : Obj) (b i : Nat) (h : b < w.heap.size) : (w.alloc o).cell? ⟨b, i, none⟩ = w.cell? ⟨b, i, none⟩ :=
  World.cell?_of_block (Below.heap_alloc w o b h)
theorem alloc_frozen (w : World) (o : Obj) (b i : Nat) (h : b < w.heap.size) : (w.alloc o).frozen? ⟨b, i, none⟩ = w.frozen? ⟨b, i, none⟩ :=
  World.frozen?_of_block (Below.heap_alloc w o b h)

theorem low_val (n : Int) : Value.int .u8 (n % 256) = bv (low n) := by
  unfold bv low
  congr 1
  simp
  omega
end Go.Proofs.YthplnjgijmilnaaDoor
