/- How long a segment can be; bytes turned. -/
import Derived.Test.YthplnjgijmilnaaDoorSgB
import Derived.Test.YthplnjgijmilnaaDoorWalkT
namespace Go.Proofs.YthplnjgijmilnaaDoor
open Go.RowKit

theorem segEnc_len (t how : Int) (xs : List V) (h : okAll t xs) : 3 ≤ (segEnc t how xs).length ∧ (segEnc t how xs).length ≤ 7000 := by
  have h1 := bodyEnc_le t how (heldOf xs) (Nat.le_trans (heldOf_le xs) h.1) (good_held t xs h)
  have h2 := h.1
  unfold segEnc headEnc
  rw [List.length_append, List.length_append, packBits_length, List.length_map]
  simp only [List.length_cons, List.length_nil]
  omega

theorem pOut_good {t how : Int} {xs : List V} (hway : way t how = true) (h : okAll t xs) (hd : ¬ (how = 1 ∧ 16 < (uniq [] (heldOf xs)).length)) : pOut t how xs = (segEnc t how xs, 0) := by
  have hb : (way t how && okAllB t xs) = true := by rw [Bool.and_eq_true]; exact ⟨hway, (okAllB_iff t xs).2 h⟩
  unfold pOut
  rw [if_pos hb, if_neg hd]
theorem pOut_dict {t how : Int} {xs : List V} (hway : way t how = true) (h : okAll t xs) (hd : how = 1 ∧ 16 < (uniq [] (heldOf xs)).length) : pOut t how xs = ([], 2) ∧ 16 < xs.length := by
  have hb : (way t how && okAllB t xs) = true := by rw [Bool.and_eq_true]; exact ⟨hway, (okAllB_iff t xs).2 h⟩
  have h1 := uniq_le (heldOf xs) []
  have h2 := heldOf_le xs
  have h3 := hd.2
  simp only [List.length_nil, Nat.zero_add] at h1
  unfold pOut
  rw [if_pos hb, if_pos hd]
  exact ⟨rfl, by omega⟩

theorem u8_byte (n : Int) : ∃ c : UInt8, IntKind.u8.wrap n = (c.toNat : Int) := by
  refine ⟨UInt8.ofNat (n % 256).toNat, ?_⟩
  rw [IntKind.wrap_u8]
  simp
  omega
theorem xor_byte (a b : Int) : ∃ c : UInt8, bits .xor .u8 a b = (c.toNat : Int) := u8_byte _

/-- '[]byte(s)': its bytes can be read, and written into. -/
theorem conv_bytes2 (x : List UInt8) (w : World) : ∃ cap w2, (convert 9 37 (.string (str x))).run Tryd.prog w = .ok (.slice (some ⟨w.heap.size, 0, none⟩) x.length cap) w2 ∧
    (∀ j (hj : j < x.length), w2.cell? ⟨w.heap.size, j, none⟩ = some (.int .u8 (x[j].toNat : Int)) ∧ w2.frozen? ⟨w.heap.size, j, none⟩ = false) ∧ w2.heap.size = w.heap.size + 1 ∧ Below w.heap.size w w2 := by
  have h := Lib.run_convert_string_bytes (P := Tryd.prog) w 9 37 5 (str x) Tryd.underlying9 Tryd.underlying37 Tryd.underlying5
  rw [str_size] at h
  refine ⟨_, _, h, ?_, Lib.bytesWorld_size _ _ _, rfl, rfl, rfl, by rw [Lib.bytesWorld_size]; omega, fun k hk => Lib.bytesWorld_at_old _ _ _ _ hk⟩
  intro j hj
  have hc := Lib.bytesWorld_cell w 5 (str x) j (by rw [str_size]; exact hj)
  refine ⟨?_, ?_⟩
  · rw [hc]
    simp [str, hj]
  · have hn := Lib.bytesWorld_at_new w 5 (str x)
    have hsz : j < (Lib.bytesCells w 5 (str x)).size := by simp [Lib.bytesCells, str]; omega
    unfold World.frozen?
    simp [hn]
    omega

/-- A byte of the list is turned. -/
theorem set_byte {w w9 : World} {g k : Nat} {bs : List UInt8} (hcl : ∀ j (hj : j < bs.length), w9.cell? ⟨g, j, none⟩ = some (.int .u8 (bs[j].toNat : Int)) ∧ w9.frozen? ⟨g, j, none⟩ = false) (hk : k < bs.length)
    (n m : Int) (hb : Below w.heap.size w w9) (hg : w.heap.size ≤ g) :
    ∃ c : UInt8, (∀ j u, ((bs.set k c).map bv)[j]? = some u → (w9.setCell ⟨g, k, none⟩ (.int .u8 (bits .xor .u8 n m))).drew.cell? ⟨g, j, none⟩ = some u) ∧ Below w.heap.size w (w9.setCell ⟨g, k, none⟩ (.int .u8 (bits .xor .u8 n m))).drew := by
  obtain ⟨c, hc⟩ := xor_byte n m
  refine ⟨c, fun j u hj => ?_, below_drewN (hb.setCell (p := ⟨g, k, none⟩) hg _) 1⟩
  show (w9.setCell ⟨g, k, none⟩ (.int .u8 (bits .xor .u8 n m))).cell? ⟨g, j, none⟩ = some u
  rw [hc]
  have hjl : j < bs.length := by
    rcases Nat.lt_or_ge j bs.length with h | h
    · exact h
    · rw [List.getElem?_eq_none (by simpa using h)] at hj; simp at hj
  rw [List.getElem?_map, List.getElem?_set] at hj
  by_cases e : k = j
  · subst e
    rw [if_pos rfl, if_pos hk] at hj
    simp at hj
    subst hj
    exact World.cell?_setCell_same _ _ _ (hcl k hk).1
  · rw [if_neg e, List.getElem?_eq_getElem hjl] at hj
    simp at hj
    subst hj
    rw [World.cell?_setCell_other _ _ _ _ (fun h => e (by cases h; rfl))]
    exact (hcl j hjl).1
end Go.Proofs.YthplnjgijmilnaaDoor
