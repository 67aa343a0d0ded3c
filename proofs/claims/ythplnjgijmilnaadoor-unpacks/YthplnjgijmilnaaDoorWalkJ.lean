/- What the writer writes of packed values, and the table of its ways. -/
import Derived.Test.YthplnjgijmilnaaDoorWalkI
namespace Go.Proofs.YthplnjgijmilnaaDoor
open Go.RowKit

/-- Packed numbers: the least, the width, the differences. -/
def packedInt : List V → List UInt8
  | [] => []
  | v :: l =>
    le8 (u64 (leastFrom v.n (v :: l))) ++ [low (bitLen (maxOf (dif v.n (leastFrom v.n (v :: l))) (difs l (leastFrom v.n (v :: l)))) : Nat)]
      ++ packBits (bitsOf (bitLen (maxOf (dif v.n (leastFrom v.n (v :: l))) (difs l (leastFrom v.n (v :: l))))) (difs (v :: l) (leastFrom v.n (v :: l))))
def packedEnc (t : Int) (xs : List V) : List UInt8 := if t = 2 then packBits (bitsOf 1 (difs xs 0)) else packedInt xs

theorem difs_lt (xs : List V) (q : Int) : ∀ n ∈ difs xs q, n < 18446744073709551616 := by
  intro n hn
  obtain ⟨v, _, rfl⟩ := List.mem_map.1 hn
  exact u64_lt _
theorem bitLen_le64 (n : Nat) (h : n < 18446744073709551616) : bitLen n ≤ 64 := by
  unfold bitLen
  split
  · omega
  · rename_i h0
    have := (Nat.log2_lt h0).2 (show n < 2 ^ 64 from h)
    omega

set_option maxHeartbeats 1000000 in
theorem wPacked_any (B g : Nat) (t : Int) (a : Option Addr) (cap : Nat) (xs : List V) (bs : List UInt8) (w : World) (h : WAt w B g t bs) (hl : bs.length ≤ 1000) (hn : xs.length ≤ 64) (hx : Vals w a xs) :
    Calls Tryd.prog 58 #[.pointer (some ⟨g, 0, none⟩), .slice a xs.length cap] w fun e w' => e = .returned (.tuple #[]) ∧ WAt w' B g t (bs ++ packedEnc t xs) ∧ WKeep w w' g := by
  obtain ⟨sv0, c0, _, _, _, _⟩ := h.cells
  unfold packedEnc
  by_cases ht : t = 2
  · subst ht
    rw [if_pos rfl]
    go_enter Tryd.func58, Tryd.ntmps58
    go_wp2_with fail
    refine (differences_any a cap xs 0 w hn hx).mono ?_
    rintro e w1 ⟨sv, rfl, hown, hb1⟩
    have hblk := fun b hb => owns_block hown (g := b) hb
    obtain ⟨a1, cap1, rfl, hc1⟩ := hown.cells
    rw [List.length_map]
    have hlt := difs_lt xs 0
    have hdl : (difs xs 0).length ≤ 64 := by simpa [difs] using hn
    generalize hds : difs xs 0 = ds at *
    have HDS : Hid (difs xs 0 = ds) := hds
    clear hds
    go_wp2_with fail
    refine (wFields_any B g 2 _ 1 _ _ ds _ (h.below hb1) (by omega) (by omega) hdl hlt hc1 (by
      intro b o hbo
      subst hbo
      have := hblk b rfl
      exact apart_new h hb1 this.1 this.2)).mono ?_
    rintro e w2 ⟨rfl, hw2, hk2⟩
    go_wp2_with fail
    exact bodyPost_ret (v := .tuple #[]) (by simp [results, Tryd.results58, go_sem]) rfl ⟨rfl, by rw [HDS.out]; exact hw2, (WKeep.of_below hb1 h.lt).trans hk2⟩
  · rw [if_neg ht]
    have ht' : (t == 2) = false := by simp [ht]
    cases xs with
    | nil =>
      go_enter Tryd.func58, Tryd.ntmps58
      go_wp2
      exact bodyPost_ret (v := .tuple #[]) (by simp [results, Tryd.results58, go_sem]) rfl ⟨rfl, by simpa [packedInt] using h, WKeep.refl _ _⟩
    | cons v l =>
      have hpe : packedInt (v :: l) = le8 (u64 (leastFrom v.n (v :: l))) ++ [low (bitLen (maxOf (dif v.n (leastFrom v.n (v :: l))) (difs l (leastFrom v.n (v :: l)))) : Nat)]
        ++ packBits (bitsOf (bitLen (maxOf (dif v.n (leastFrom v.n (v :: l))) (difs l (leastFrom v.n (v :: l))))) (difs (v :: l) (leastFrom v.n (v :: l)))) := rfl
      have hle0 := leastNumber_any a cap v l w hn hx
      generalize leastFrom v.n (v :: l) = q at *
      have HPE : Hid _ := hpe
      clear hpe
      have hdf := fun W h1 h2 => differences_any a cap (v :: l) q W h1 h2
      have hds : difs (v :: l) q = dif v.n q :: difs l q := rfl
      have hlt0 := difs_lt (v :: l) q
      rw [hds] at HPE hlt0
      have hdl : (dif v.n q :: difs l q).length ≤ 64 := by simpa [difs] using hn
      have hmx : maxOf (dif v.n q) (difs l q) < 18446744073709551616 := maxOf_lt _ _ _ (hlt0 _ List.mem_cons_self) fun n hn => hlt0 n (List.mem_cons_of_mem _ hn)
      have hb64 := bitLen_le64 _ hmx
      have hR : ∃ R : List V, R = v :: l := ⟨_, rfl⟩
      obtain ⟨R, hR⟩ := hR
      have hl0 : ((R.length : Int) == 0) = false := by rw [hR]; simp; omega
      rw [← hR] at hx hn hle0 hdf hds HPE ⊢
      clear hR
      have HLE : Hid (Calls Tryd.prog 72 #[.slice a R.length cap] w fun e w' => e = .returned (.int .i64 q) ∧ Below w.heap.size w w') := hle0
      clear hle0
      generalize dif v.n q = d0 at *
      generalize difs l q = ds at *
      have HDF : Hid (∀ W, R.length ≤ 64 → Vals W a R → Calls Tryd.prog 71 #[.slice a R.length cap, .int .i64 q] W fun e w' => ∃ sv, e = .returned sv ∧ OwnC w' W.heap.size 85 sv ((difs R q).map uv) ∧ Below W.heap.size W w') := hdf
      clear hdf
      go_enter Tryd.func58, Tryd.ntmps58
      go_wp2_with fail
      refine HLE.out.mono ?_
      rintro e w1 ⟨rfl, hb1⟩
      go_wp2_with fail
      refine (HDF.out w1 hn (hx.below hb1)).mono ?_
      rintro e w2 ⟨sv, rfl, hown, hb2⟩
      have hblk := fun b hb => owns_block hown (g := b) hb
      rw [hds] at hown
      obtain ⟨a2, cap2, rfl, hc2⟩ := hown.cells
      rw [List.length_map]
      go_wp2_with fail
      refine (max_any a2 cap2 d0 ds w2 hdl hc2).mono ?_
      rintro e w3 ⟨rfl, hb3⟩
      unfold uv
      go_wp2_with fail
      refine (len64_any _ w3 hmx).mono ?_
      rintro e w4 ⟨rfl, hw4e⟩
      subst w4
      have hb13 := below_then hb1 (below_then hb2 hb3)
      have hw3 := h.below hb13
      have hc3 := hc2.below hb3
      generalize bitLen (maxOf d0 ds) = wd at *
      go_wp2_with fail
      refine (wNumber_any B g t q _ _ hw3 (by omega)).mono ?_
      rintro e w5 ⟨rfl, hw5, hk5⟩
      go_wp2_with fail
      refine (wSmall_any B g t _ _ _ hw5 (by rw [List.length_append, le8_length]; omega)).mono ?_
      rintro e w6 ⟨rfl, hw6, hk6⟩
      have hk36 := hk5.trans hk6
      have hap3 : ∀ b o, a2 = some ⟨b, o, none⟩ → Apart w3 g b := by
        intro b o hbo
        subst hbo
        have := hblk b rfl
        have s1 := hb1.size
        have s2 := hb2.size
        have s3 := hb3.size
        exact apart_new h hb13 (by omega) (by omega)
      go_wp2_with fail
      refine (wFields_any B g t _ wd a2 cap2 (d0 :: ds) _ hw6 (by simp only [List.length_append, le8_length, List.length_cons, List.length_nil]; omega) hb64 hdl hlt0 (cells_keep hc3 hk36 hap3) (apart_keep hk36 hap3)).mono ?_
      rintro e w7 ⟨rfl, hw7, hk7⟩
      go_wp2_with fail
      go_end0
      refine ⟨rfl, ?_, ((WKeep.of_below hb13 h.lt).trans hk36).trans hk7⟩
      rw [HPE.out]
      simpa using hw7

set_option maxHeartbeats 400000 in
theorem wWays_any (g : Nat) (w : World) :
    Calls Tryd.prog 39 #[.pointer (some ⟨g, 0, none⟩)] w fun e w' => e = .returned (.agg #[.func (.func 55) #[.pointer (some ⟨g, 0, none⟩)] #[], .func (.func 56) #[.pointer (some ⟨g, 0, none⟩)] #[], .func (.func 57) #[.pointer (some ⟨g, 0, none⟩)] #[], .func (.func 58) #[.pointer (some ⟨g, 0, none⟩)] #[]]) ∧ Below w.heap.size w w' := by
  have hone : ∀ (W : World) (a : Addr) f x c, (store a (.func f x c)).run Tryd.prog W = match W.cell? a with
      | some _ => if W.frozen? a then .halt (.unsupported (.unsafePointer "a write to bytes that a string shares")) W else .ok () (W.setCell a (.func f x c))
      | none => match W.farStore Tryd.prog a (.func f x c) (Mode.plain == .atomic) with
        | .ok (w', _) => .ok () w'
        | .error h => .halt h W := fun W a f x c => run_store Tryd.prog W a (.func f x c) .plain rfl
  go_enter Tryd.func39, Tryd.ntmps39
  go_wp2
  exact bodyPost_ret (v := .agg #[.func (.func 55) #[.pointer (some ⟨g, 0, none⟩)] #[], .func (.func 56) #[.pointer (some ⟨g, 0, none⟩)] #[], .func (.func 57) #[.pointer (some ⟨g, 0, none⟩)] #[], .func (.func 58) #[.pointer (some ⟨g, 0, none⟩)] #[]]) (by simp [results, Tryd.results39, go_sem]) rfl ⟨rfl, (Below.refl _ _).alloc (Nat.le_refl _) _⟩
end Go.Proofs.YthplnjgijmilnaaDoor
