/- What the writer writes: the head of a segment, runs, a dictionary, packed numbers. -/
import Derived.Test.YthplnjgijmilnaaDoorWalkG
import Derived.Test.YthplnjgijmilnaaDoorWalkF
import Derived.Test.YthplnjgijmilnaaDoorWalkL
namespace Go.Proofs.YthplnjgijmilnaaDoor
open Go.RowKit

/-- 1 for a value that is not NULL. -/
def heldBit (v : V) : Nat := if v.k = 0 then 0 else 1
theorem bitsOf_one (ns : List Nat) (h : ∀ n ∈ ns, n ≤ 1) : bitsOf 1 ns = ns.map fun n => n == 1 := by
  induction ns with
  | nil => rfl
  | cons n ns ih =>
    have e : bitsOf 1 (n :: ns) = [n.testBit 0] ++ bitsOf 1 ns := by simp [bitsOf, List.range_succ]
    rw [e, ih fun m hm => h m (List.mem_cons_of_mem _ hm)]
    have hn := h n List.mem_cons_self
    have : n.testBit 0 = (n == 1) := by
      rw [Nat.testBit_zero]
      have : n = 0 ∨ n = 1 := by omega
      rcases this with rfl | rfl <;> rfl
    rw [this]; rfl
theorem heldBits (xs : List V) : bitsOf 1 (xs.map heldBit) = xs.map fun v => v.k != 0 := by
  rw [bitsOf_one _ (by intro n hn; obtain ⟨v, _, rfl⟩ := List.mem_map.1 hn; unfold heldBit; split <;> omega), List.map_map]
  apply List.map_congr_left
  intro v _
  simp only [Function.comp, heldBit]
  by_cases h : v.k = 0 <;> simp [h]

/-- What all ways have in common. -/
def headEnc (t how : Int) (xs : List V) : List UInt8 := [low t, low how, low xs.length] ++ packBits (xs.map fun v => v.k != 0)

set_option maxHeartbeats 1000000 in
theorem wHead_any (B g : Nat) (t how : Int) (a : Option Addr) (cap : Nat) (xs : List V) (w : World) (h : WAt w B g t []) (hn : xs.length ≤ 64) (hx : Vals w a xs) (hap : xs ≠ [] → ∀ b o, a = some ⟨b, o, none⟩ → Apart w g b) :
    Calls Tryd.prog 38 #[.pointer (some ⟨g, 0, none⟩), .int .i64 how, .slice a xs.length cap] w fun e w' => e = .returned (.tuple #[]) ∧ WAt w' B g t (headEnc t how xs) ∧ WKeep w w' g := by
  have hmk : ∀ W, (Instr.makeSlice 84 (.int .i64 (xs.length : Int)) (.int .i64 (xs.length : Int))).run Tryd.prog W = .ok (.slice (some ⟨W.heap.size, 0, none⟩) xs.length xs.length) (W.alloc (.cells (madeCells #[.int .u64 0] xs.length) 85)) :=
    fun W => run_make_row' 84 85 (.int .u64 0) 8 (by kernel_rfl) info_u64 rfl .i64 .i64 xs.length (by omega) (by omega) W
  obtain ⟨sv0, c0, _, _, _, _⟩ := h.cells
  go_enter Tryd.func38, Tryd.ntmps38
  go_wp2_with fail
  refine (wSmall_any B g t _ _ _ h (by simp)).mono ?_
  rintro e w1 ⟨rfl, hw1, hk1⟩
  go_wp2_with fail
  refine (wSmall_any B g t _ _ _ hw1 (by simp)).mono ?_
  rintro e w2 ⟨rfl, hw2, hk2⟩
  go_wp2_with fail
  refine (wSmall_any B g t _ _ _ hw2 (by simp)).mono ?_
  rintro e w3 ⟨rfl, hw3, hk3⟩
  go_wp2_with fail
  clear hmk
  have hk := (hk1.trans hk2).trans hk3
  have hx3 : Vals w3 a xs := by
    by_cases hne : xs = []
    · exact .inl hne
    · exact vals_keep hx hk (hap hne)
  clear hk1 hk2 hk3 hw1 hw2 c0
  go_loopw [27] (fun i wr => ∃ k : Nat, k ≤ xs.length ∧ i = .int .i64 k ∧ wr.rowIs w3.heap.size 85 xs.length (fun j => uv (if j < k then (xs.map heldBit)[j]?.getD 0 else 0)) ∧ Below w3.heap.size w3 wr) (fun i _ => xs.length - (intOf i).toNat)
  case atStart => exact ⟨0, by omega, rfl, World.rowIs_made _ _ _ _, (Below.refl _ _).alloc (Nat.le_refl _) _⟩
  case round =>
    obtain ⟨k, hkl, rfl, hrow, hbw⟩ := hrel
    by_cases hlt : k < xs.length
    · obtain ⟨b1, o1, rfl, hb1, x1, x2, x3⟩ := (hx3.below hbw).at hlt
      have c1 := hrow.cell hlt
      have c2 := hrow.frozen k
      have c3 := hrow.lt
      have hget : (xs.map heldBit)[k]?.getD 0 = heldBit xs[k] := by simp [hlt]
      have HGT : Hid _ := hget
      clear hget
      by_cases h0 : xs[k].k = 0
      · have h0' : (xs[k].k != 0) = false := by simp [h0]
        have H0 : Hid (xs[k].k = 0) := h0
        clear h0
        go_wp2
        go_roundw
        case rel =>
          refine ⟨k + 1, by omega, by go_num, (hrow.alloc _).congr fun j hj => ?_, below_alloc hbw _⟩
          by_cases e : j = k
          · subst e
            simp only [Nat.lt_irrefl, if_false, Nat.lt_succ_self, if_true]
            rw [HGT.out]
            simp [heldBit, H0.out]
          · have e2 : (j < k + 1) = (j < k) := by rw [eq_iff_iff]; omega
            simp only [e2]
        case measure => simp [intOf]; omega
      · have h0' : (xs[k].k != 0) = true := by simp [h0]
        have H0 : Hid (¬ xs[k].k = 0) := h0
        clear h0
        go_wp2
        go_roundw
        case rel =>
          refine ⟨k + 1, by omega, by go_num, ((hrow.set k _).alloc _).congr fun j hj => ?_, below_alloc (hbw.setCell (p := ⟨w3.heap.size, k, none⟩) (Nat.le_refl _) _) _⟩
          by_cases e : j = k
          · subst e
            simp only [if_true, Nat.lt_succ_self]
            rw [HGT.out]
            simp [heldBit, H0.out, uv]
          · have e2 : (j < k + 1) = (j < k) := by rw [eq_iff_iff]; omega
            simp only [e, e2, if_false]
        case measure => simp [intOf]; omega
    · have hke : k = xs.length := by omega
      subst hke
      have hown : OwnC wr w3.heap.size 85 (.slice (some ⟨w3.heap.size, 0, none⟩) xs.length xs.length) ((xs.map heldBit).map uv) :=
        own_of_row hrow (Nat.le_refl _) (by unfold maxLen; omega) _ (by simp) (by
          intro i hi
          have hi' : i < xs.length := by simpa using hi
          simp [hi'])
      obtain ⟨a4, cap4, e4, hc4⟩ := hown.cells
      simp only [List.length_map] at e4
      injection e4 with e5 e6 e7
      subst e5
      subst e7
      have hcl : (xs.map heldBit).length = xs.length := by simp
      have hw4 := hw3.below hbw
      have hlt4 := hrow.lt
      go_wp2_with fail
      rw [← hcl]
      refine (wFields_any B g t _ 1 _ _ (xs.map heldBit) _ hw4 (by simp) (by omega) (by simpa using hn) (by
        intro n hn; obtain ⟨v, _, rfl⟩ := List.mem_map.1 hn; unfold heldBit; split <;> omega) hc4 (by
        intro b o hbo
        simp at hbo
        obtain ⟨rfl, rfl⟩ := hbo
        exact apart_new hw3 hbw (Nat.le_refl _) hlt4)).mono ?_
      rintro e w5 ⟨rfl, hw5, hk5⟩
      go_wp2_with fail
      go_end0
      refine ⟨rfl, ?_, (hk.trans (WKeep.of_below hbw hw3.lt)).trans hk5⟩
      rw [heldBits] at hw5
      exact hw5
end Go.Proofs.YthplnjgijmilnaaDoor
