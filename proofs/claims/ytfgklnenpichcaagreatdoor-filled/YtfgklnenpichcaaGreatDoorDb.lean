/- A stored page in memory: its sum, how it is sealed, how it is opened. -/
import Derived.Test.YtfgklnenpichcaaGreatDoorDa
import Derived.Lib.BufferWrite
import Derived.Lib.LazyBuf
import Derived.Deep.RegionHeld3
import Derived.Deep.DeepCutAuto
import Derived.Deep.RegionWith
import Derived.Deep.RegionLaw
namespace Go.Proofs.YtfgklnenpichcaaGreatDoor
open Go.RowKit

/-- The stored page p lies in block b. -/
def PgAt (w : World) (b : Nat) (p : List UInt8) : Prop := p.length = 64 ∧ w.rowIs b 251 64 (fun j => bv (p.getD j 0))

theorem PgAt.of_block {w w' : World} {b : Nat} {p : List UInt8} (h : PgAt w b p) (e : w'.heap[b]? = w.heap[b]?) : PgAt w' b p := ⟨h.1, h.2.of_block e⟩
theorem PgAt.below {w w' : World} {b : Nat} {p : List UInt8} (h : PgAt w b p) (hb : Below w.heap.size w w') : PgAt w' b p := h.of_block (hb.block _ h.2.lt)

theorem u64_xor (x y : Nat) (hx : x < 18446744073709551616) (hy : y < 18446744073709551616) : bits .xor .u64 (x : Int) (y : Int) = ((x ^^^ y : Nat) : Int) := by
  have hxy : x ^^^ y < 18446744073709551616 := Nat.xor_lt_two_pow (n := 64) hx hy
  have key : (BitVec.ofInt 64 (x : Int) ^^^ BitVec.ofInt 64 (y : Int)).toNat = x ^^^ y := by
    rw [BitVec.toNat_xor, BitVec.toNat_ofInt, BitVec.toNat_ofInt]
    have e1 : ((x : Int) % ((2 ^ 64 : Nat) : Int)).toNat = x := by omega
    have e2 : ((y : Int) % ((2 ^ 64 : Nat) : Int)).toNat = y := by omega
    rw [e1, e2]
  show IntKind.u64.wrap ((BitVec.ofInt 64 (x : Int) ^^^ BitVec.ofInt 64 (y : Int)).toNat : Nat) = _
  rw [key, IntKind.wrap_u64]
  omega

theorem fold_take (p : List UInt8) (k : Nat) (hk : k < p.length) (s : Nat) : (p.take (k + 1)).foldl fstep s = fstep ((p.take k).foldl fstep s) (p.getD k 0) := by
  rw [List.take_succ_eq_append_getElem hk, List.foldl_append, List.foldl_cons, List.foldl_nil]
  congr 1
  simp [hk]

set_option maxRecDepth 100000 in
set_option maxHeartbeats 1000000 in
theorem dSum_any (b : Nat) (p : List UInt8) (w : World) (h : PgAt w b p) :
    Calls Tryz.prog 151 #[.pointer (some ⟨b, 0, none⟩)] w fun e w' => e = .returned (.string (str (sumB (p.take 57)))) ∧ Below w.heap.size w w' := by
  go_enter Tryz.func151, Tryz.ntmps151
  go_wp2
  go_loopw [3, 12] (fun s i wr => ∃ k z : Nat, k ≤ 57 ∧ i = .int .i64 k ∧ s = .int .u64 z ∧ z < 18446744073709551616 ∧ Hid (z = (p.take k).foldl fstep 14695981039346656037) ∧ (∃ m, wr = w.drewN m)) (fun _ i _ => 57 - (intOf i).toNat)
  case atStart => exact ⟨0, 14695981039346656037, by omega, rfl, rfl, by decide, rfl, 0, rfl⟩
  case round =>
    rename_i s i
    obtain ⟨k, z, hk, rfl, rfl, hz, HZ, m, rfl⟩ := hrel
    by_cases hlt : k < 57
    · obtain ⟨n, hn, HU⟩ : ∃ n : Nat, n < 256 ∧ Hid (n = (p.getD k 0).toNat) := ⟨_, (p.getD k 0).toNat_lt, rfl⟩
      have hc : w.cell? ⟨b, k, none⟩ = some (.int .u8 (n : Nat)) := by rw [h.2.cell (i := k) (by omega), HU.out]; rfl
      have hx := u64_xor z n hz (by omega)
      have hxl : z ^^^ n < 18446744073709551616 := Nat.xor_lt_two_pow (n := 64) hz (by omega)
      have HF : Hid (fstep z (p.getD k 0) = ((z ^^^ n) * 1099511628211) % 18446744073709551616) := by show fstep _ _ = _; rw [HU.out]; rfl
      generalize z ^^^ n = x at *
      go_wp2
      go_roundw
      case rel =>
        refine ⟨k + 1, (x * 1099511628211) % 18446744073709551616, by omega, by go_num, ?_, by omega, ?_, m, rfl⟩
        · have e : ((x * 1099511628211 % 18446744073709551616 : Nat) : Int) = (x : Int) * 1099511628211 % 18446744073709551616 := by omega
          rw [IntKind.wrap_u64, e]
        · exact (HF.out.symm.trans (by rw [HZ.out])).trans (fold_take p k (by rw [h.1]; omega) _).symm
      case measure => simp [intOf]; omega
    · obtain rfl : k = 57 := by omega
      go_wp2
      go_loopw [22] (fun i wr => ∃ k : Nat, k ≤ 7 ∧ i = .int .i64 k ∧ wr.rowIs w.heap.size 253 7 (fun j => bv (if j < k then (le7 z).getD j 0 else 0)) ∧ Below w.heap.size w wr) (fun i _ => 7 - (intOf i).toNat)
      case atStart =>
        refine ⟨0, by omega, rfl, World.rowIs_alloc _ _ _ _ ?_, (below_drewN (Below.refl _ w) m).alloc (Nat.le_refl _) _⟩
        intro i hi
        match i, hi with
        | 0, _ => rfl
        | 1, _ => rfl
        | 2, _ => rfl
        | 3, _ => rfl
        | 4, _ => rfl
        | 5, _ => rfl
        | 6, _ => rfl
      case round =>
        rename_i i
        obtain ⟨k, hk, rfl, hrow, hbw⟩ := hrel
        by_cases hlt : k < 7
        · have hc := hrow.cell (i := k) (by omega)
          have hf := hrow.frozen k
          go_wp2
          go_roundw
          case rel =>
            refine ⟨k + 1, by omega, by go_num, (hrow.set k _).congr fun j hj => ?_, hbw.setCell (p := ⟨w.heap.size, k, none⟩) (Nat.le_refl _) _⟩
            by_cases hjk : j = k
            · subst hjk
              have hp : (2 : Int) ^ (8 * j) = ((256 ^ j : Nat) : Int) := by
                have : (256 : Nat) ^ j = 2 ^ (8 * j) := by rw [Nat.pow_mul]
                rw [this]
                simp
              simp [le7, hlt, bv, hp]
            · have : (j < k + 1) = (j < k) := by rw [eq_iff_iff]; omega
              simp [hjk, this]
          case measure => simp [intOf]; omega
        · obtain rfl : k = 7 := by omega
          have hcv : (convert 180 9 (.slice (some ⟨w.heap.size, 0, none⟩) 7 7)).run Tryz.prog wr = .ok (.string (str (le7 z))) wr := by
            have := run_conv_bytes wr ⟨w.heap.size, 0, none⟩ 7 (le7 z) (fun j u hj => ?_)
            · rwa [le7_length] at this
            · have hj7 : j < 7 := by
                rcases Nat.lt_or_ge j 7 with h' | h'
                · exact h'
                · rw [List.getElem?_eq_none (by simp [le7_length]; exact h')] at hj; simp at hj
              have := hrow.cell (i := j) hj7
              rw [Addr.add_mid]
              simp only [Nat.zero_add]
              rw [this]
              simp [hj7, le7_length] at hj ⊢
              exact hj
          go_wp2
          go_ret
          refine ⟨?_, hbw⟩
          show Ending.returned (Value.string (str (le7 z))) = _
          rw [show sumB (p.take 57) = le7 z by unfold sumB fsum; rw [← HZ.out]]

theorem size_u8 (w : World) : (Go.sizeOf 5).run Tryz.prog w = .ok 1 w := by kernel_rfl

theorem str_data (l : List UInt8) : (str l).data.toList = l := by simp [str]

theorem page_row (w : World) (C : Array Value) (hC : C = Array.replicate 64 (.int .u8 0)) : (w.alloc (.cells C 251)).rowIs w.heap.size 251 64 (fun _ => bv 0) := by
  subst hC
  refine World.rowIs_alloc _ _ _ _ fun i hi => ?_
  simp at hi
  rw [Array.getElem?_replicate, if_pos hi]
  rfl

theorem page_body (piece : List UInt8) (hp : piece.length ≤ 56) (j : Nat) (hj : j < 64) :
    (if j = 56 then Value.int .u8 ((piece.length : Nat) : Int) else if 0 ≤ j ∧ j < 0 + (piece.map fun x => Value.int .u8 (x.toNat : Int)).length then (piece.map fun x => Value.int .u8 (x.toNat : Int))[j - 0]?.getD default else bv 0) = bv ((body piece ++ List.replicate 7 0).getD j 0) := by
  by_cases h56 : j = 56
  · subst h56
    have e : (body piece ++ List.replicate 7 0).getD 56 0 = UInt8.ofNat piece.length := by
      rw [List.getD_eq_getElem?_getD, List.getElem?_append_left (by rw [body_length hp]; omega), body, List.getElem?_append_right (by simp; omega)]
      have : 56 - (piece ++ List.replicate (56 - piece.length) (0 : UInt8)).length = 0 := by simp; omega
      rw [this]; rfl
    rw [if_pos rfl, e]
    simp [bv]
    omega
  · rw [if_neg h56]
    by_cases hl : j < piece.length
    · rw [if_pos (by simp; omega)]
      have e : (body piece ++ List.replicate 7 0).getD j 0 = piece[j] := by
        rw [List.getD_eq_getElem?_getD, List.getElem?_append_left (by rw [body_length hp]; omega), body, List.append_assoc, List.getElem?_append_left hl]
        simp [hl]
      rw [e]
      simp [hl, bv]
    · rw [if_neg (by simp; omega)]
      have e : (body piece ++ List.replicate 7 0).getD j 0 = 0 := by
        rw [List.getD_eq_getElem?_getD]
        rcases Nat.lt_or_ge j 57 with h | h
        · rw [List.getElem?_append_left (by rw [body_length hp]; omega), body, List.getElem?_append_left (by simp; omega), List.getElem?_append_right (by omega), List.getElem?_replicate]
          split <;> rfl
        · rw [List.getElem?_append_right (by rw [body_length hp]; omega), List.getElem?_replicate]
          split <;> rfl
      rw [e]

theorem page_seal (bd sb : List UInt8) (hb : bd.length = 57) (hs : sb.length = 7) (j : Nat) (hj : j < 64) :
    (if 57 ≤ j ∧ j < 57 + (sb.map fun x => Value.int .u8 (x.toNat : Int)).length then (sb.map fun x => Value.int .u8 (x.toNat : Int))[j - 57]?.getD default else bv ((bd ++ List.replicate 7 0).getD j 0)) = bv ((bd ++ sb).getD j 0) := by
  by_cases h : 57 ≤ j
  · rw [if_pos (by simp [hs]; omega), List.getD_eq_getElem?_getD, List.getElem?_append_right (by omega), hb]
    simp [show j - 57 < sb.length by omega, bv]
  · rw [if_neg (by simp; omega), List.getD_eq_getElem?_getD, List.getD_eq_getElem?_getD, List.getElem?_append_left (by omega), List.getElem?_append_left (by omega)]

set_option maxRecDepth 100000 in
set_option maxHeartbeats 2000000 in
theorem seal_any (piece : List UInt8) (hp : piece.length ≤ 56) (w : World) :
    Calls Tryz.prog 136 #[.string (str piece)] w fun e w' => e = .returned (.pointer (some ⟨w.heap.size, 0, none⟩)) ∧ PgAt w' w.heap.size (sealP piece) ∧ Below w.heap.size w w' := by
  have hsz := str_size piece
  go_enter Tryz.func136, Tryz.ntmps136
  go_upto_region 2 with fail
  generalize hZ : World.alloc w (Obj.cells _ 251) = W0
  have hr0 : W0.rowIs w.heap.size 251 64 (fun _ => bv 0) := by rw [← hZ]; exact page_row w _ rfl
  have hb0 : Below w.heap.size w W0 := by rw [← hZ]; exact (Below.refl _ w).alloc (Nat.le_refl _) _
  clear hZ
  have hcp := run_copy_string (P := Tryz.prog) W0 180 9 3 5 w.heap.size 0 64 64 (str piece) Tryz.underlying180 size_u8 (by omega)
    (fun j hj => by rw [Nat.zero_add, hr0.cell (by omega)]; rfl) (fun j hj => by rw [Nat.zero_add]; exact hr0.frozen j)
  have hr1 := rowIs_setCells ((str piece).data.toList.map fun x => Value.int .u8 (x.toNat : Int)) 0 _ _ hr0
  have hb1 := below_setCells (Nat.le_refl w.heap.size) ((str piece).data.toList.map fun x => Value.int .u8 (x.toNat : Int)) 0 _ hb0
  generalize W0.setCells w.heap.size 0 ((str piece).data.toList.map fun x => Value.int .u8 (x.toNat : Int)) = W1 at *
  have c56 := hr1.cell (i := 56) (by omega)
  have f56 := hr1.frozen 56
  go_upto_region 4 with fail
  have hr2 := hr1.set 56 (.int .u8 ((piece.length : Nat) : Int))
  have hb2 := hb1.setCell (p := ⟨w.heap.size, 56, none⟩) (Nat.le_refl _) (.int .u8 ((piece.length : Nat) : Int))
  generalize W1.setCell ⟨w.heap.size, 56, none⟩ (.int .u8 ((piece.length : Nat) : Int)) = W2 at *
  have hpg : PgAt W2 w.heap.size (body piece ++ List.replicate 7 0) := by
    refine ⟨by simp [body_length hp], hr2.congr fun j hj => ?_⟩
    rw [str_data]
    exact page_body piece hp j hj
  clear hcp hr1 hb1 c56 f56 hr2 hr0 hb0
  have htk : (body piece ++ List.replicate 7 0).take 57 = body piece := by
    rw [List.take_append_of_le_length (by rw [body_length hp]; exact Nat.le_refl _), List.take_of_length_le (by rw [body_length hp]; exact Nat.le_refl _)]
  have hsum := dSum_any w.heap.size _ W2.drew (hpg.of_block rfl)
  rw [htk] at hsum
  have hs7 := sumB_length (body piece)
  have HS : Hid (sealP piece = body piece ++ sumB (body piece)) := rfl
  generalize sumB (body piece) = sb at *
  go_region_with (first | (go_at_call 151; refine hsum.mono ?_; rintro e w3 ⟨rfl, hb3⟩; have hr3 := (hpg.below (below_undrew hb3)).2; have hcp3 := run_copy_string (P := Tryz.prog) w3 180 9 3 5 w.heap.size 57 7 7 (str sb) Tryz.underlying180 size_u8 (by rw [str_size, hs7]; omega) (fun j hj => by rw [str_size, hs7] at hj; rw [hr3.cell (by omega)]; rfl) (fun j hj => hr3.frozen _)))
  have hr4 := rowIs_setCells ((str sb).data.toList.map fun x => Value.int .u8 (x.toNat : Int)) 57 _ _ hr3
  have hb4 := below_setCells (Nat.le_refl w.heap.size) ((str sb).data.toList.map fun x => Value.int .u8 (x.toNat : Int)) 57 _ (hb2.trans ((below_undrew hb3).mono hb2.size))
  go_wp2
  go_ret
  refine ⟨rfl, ⟨by rw [HS.out]; simp [body_length hp, hs7], hr4.congr fun j hj => ?_⟩, hb4⟩
  rw [str_data, HS.out]
  exact page_seal (body piece) sb (body_length hp) hs7 j hj

theorem page_conv (b : Nat) (p : List UInt8) (W : World) (h : PgAt W b p) (lo n c : Nat) (hn : lo + n ≤ 64) :
    (convert 180 9 (.slice (some ⟨b, lo, none⟩) n c)).run Tryz.prog W = .ok (.string (str ((p.drop lo).take n))) W := by
  have hl : ((p.drop lo).take n).length = n := by rw [List.length_take, List.length_drop, h.1]; omega
  have := run_conv_bytes W ⟨b, lo, none⟩ c ((p.drop lo).take n) (fun j u hj => ?_)
  · rwa [hl] at this
  · have hjn : j < n := by
      rcases Nat.lt_or_ge j n with h' | h'
      · exact h'
      · rw [List.getElem?_eq_none (by simp; omega)] at hj; simp at hj
    rw [Addr.add_mid, h.2.cell (i := lo + j) (by omega)]
    rw [List.getElem?_map, List.getElem?_take_of_lt hjn, List.getElem?_drop] at hj
    rw [List.getD_eq_getElem?_getD]
    cases hq : p[lo + j]? with
    | none => rw [hq] at hj; simp at hj
    | some x => rw [hq] at hj; simpa using hj

theorem elem_stored : Tryz.prog.elem 251 = 5 := by kernel_rfl
theorem under_stored : Tryz.prog.underlying 251 = some (.array (Tryz.prog.arrayLen 251) (Tryz.prog.elem 251)) := by kernel_rfl
theorem len_stored : Tryz.prog.arrayLen 251 = 64 := by kernel_rfl
theorem page_slice (b n : Nat) (W : World) (hn : n ≤ 64) : (Instr.sliceAt 251 (.pointer (some ⟨b, 0, none⟩)) none (some (.int .i64 (n : Int))) none).run Tryz.prog W = .ok (.slice (some ⟨b, 0, none⟩) n 64) W := by
  have h := run_sliceAt_array_h (P := Tryz.prog) W 251 ⟨b, 0, none⟩ under_stored .i64 (n : Int) (by omega) (by rw [len_stored]; omega)
  rw [elem_stored, size_u8, len_stored] at h
  rw [h]
  simp [Result.andThen, slicedAt, Addr.add]

set_option maxRecDepth 100000 in
set_option maxHeartbeats 2000000 in
theorem open_any (b : Nat) (p : List UInt8) (w : World) (h : PgAt w b p) :
    Calls Tryz.prog 137 #[.pointer (some ⟨b, 0, none⟩)] w fun e w' => e = .returned (.tuple #[.string (str ((openP p).getD [])), .bool (openP p).isSome]) ∧ Below w.heap.size w w' := by
  obtain ⟨n, hn, HU⟩ : ∃ n : Nat, n < 256 ∧ Hid (n = (p.getD 56 0).toNat) := ⟨_, (p.getD 56 0).toNat_lt, rfl⟩
  have hc : w.cell? ⟨b, 56, none⟩ = some (.int .u8 (n : Nat)) := by rw [h.2.cell (i := 56) (by omega), HU.out]; rfl
  have HO : Hid (openP p = if 56 < n ∨ p.drop 57 ≠ sumB (p.take 57) then none else some (p.take n)) := by show openP p = _; unfold openP; rw [HU.out]
  generalize openP p = op at *
  have hsum := dSum_any b p w.drew (h.of_block rfl)
  have hd7 : (p.drop 57).take 7 = p.drop 57 := List.take_of_length_le (by rw [List.length_drop, h.1]; omega)
  have hcv1 := page_conv b p w.drew (h.of_block rfl) 57 7 7 (by omega)
  rw [hd7] at hcv1
  by_cases h56 : 56 < n
  · have : op = none := by rw [HO.out, if_pos (.inl h56)]
    subst this
    have hdec : decide ((56 : Int) < (n : Int)) = true := by simp; omega
    go_enter Tryz.func137, Tryz.ntmps137
    go_wp2_with fail
    go_quiet (fail)
    go_wp2
    go_ret2
    exact ⟨rfl, below_drewN (Below.refl _ _) _⟩
  · have HCV : Hid (∀ W, PgAt W b p → (convert 180 9 (.slice (some ⟨b, 57, none⟩) 7 7)).run Tryz.prog W = .ok (.string (str (p.drop 57))) W) := fun W hW => by
      have := page_conv b p W hW 57 7 7 (by omega)
      rwa [hd7] at this
    have HCN : Hid (∀ W, PgAt W b p → (convert 180 9 (.slice (some ⟨b, 0, none⟩) n 64)).run Tryz.prog W = .ok (.string (str (p.take n))) W) := fun W hW => by
      have := page_conv b p W hW 0 n 64 (by omega)
      rwa [List.drop_zero] at this
    have HSM : Hid (∀ W, PgAt W b p → Calls Tryz.prog 151 #[.pointer (some ⟨b, 0, none⟩)] W fun e w' => e = .returned (.string (str (sumB (p.take 57)))) ∧ Below W.heap.size W w') := fun W hW => dSum_any b p W hW
    have hdec : decide ((56 : Int) < (n : Int)) = false := by simp; omega
    clear hsum hcv1 hd7
    by_cases he : p.drop 57 = sumB (p.take 57)
    · have : op = some (p.take n) := by rw [HO.out, if_neg (by intro hh; rcases hh with hh | hh; exact h56 hh; exact hh he)]
      subst this
      rw [← he] at HSM
      clear HO he
      generalize p.drop 57 = sb at *
      generalize p.take n = pn at *
      go_enter Tryz.func137, Tryz.ntmps137
      go_wp2_with fail
      go_region_held3 (fun X => PgAt X b p ∧ (convert 180 9 (.slice (some ⟨b, 57, none⟩) 7 7)).run Tryz.prog X = .ok (.string (str sb)) X)
        (first | (go_split_ands; refine ⟨?_, HCV.out _ ?_⟩ <;> (first | exact h | exact h.of_block rfl | exact hp3 | (have hq : PgAt _ b p := by assumption; exact hq.of_block rfl) | assumption)))
        (first | (go_at_call 151; refine (HSM.out _ (by first | assumption | (go_split_ands; assumption))).mono ?_; rintro e w3 ⟨rfl, hb3⟩; have hp3 : PgAt w3 b p := PgAt.below (w := w.drew) (h.of_block rfl) hb3))
      have hcn := HCN.out w3 hp3
      have hsl := page_slice b n w3 (by omega)
      go_wp2
      go_ret2
      exact ⟨rfl, below_undrew hb3⟩
    · have : op = none := by rw [HO.out, if_pos (.inr he)]
      subst this
      have hne : ((str (p.drop 57)).toList == (str (sumB (p.take 57))).toList) = false := by
        rw [beq_eq_false_iff_ne]
        exact fun hh => he (str_inj (by rw [← str_toList (str (p.drop 57)), hh, str_toList]))
      clear HO he HCN
      generalize p.drop 57 = sb at *
      generalize sumB (p.take 57) = sc at *
      go_enter Tryz.func137, Tryz.ntmps137
      go_wp2_with fail
      go_region_held3 (fun X => PgAt X b p ∧ (convert 180 9 (.slice (some ⟨b, 57, none⟩) 7 7)).run Tryz.prog X = .ok (.string (str sb)) X)
        (first | (go_split_ands; refine ⟨?_, HCV.out _ ?_⟩ <;> (first | exact h | exact h.of_block rfl | exact hp3 | (have hq : PgAt _ b p := by assumption; exact hq.of_block rfl) | assumption)))
        (first | (go_at_call 151; refine (HSM.out _ (by first | assumption | (go_split_ands; assumption))).mono ?_; rintro e w3 ⟨rfl, hb3⟩; have hp3 : PgAt w3 b p := PgAt.below (w := w.drew) (h.of_block rfl) hb3))
      go_wp2
      go_ret2
      exact ⟨rfl, below_undrew hb3⟩
end Go.Proofs.YtfgklnenpichcaaGreatDoor
