/- What the document's own Pack answers, for every type, way and list of values: the same as the program's. -/
import Derived.Test.YthplnjgijmilnaaDoorWalkQ
import Derived.Test.YthplnjgijmilnaaDoorWalkS
import Derived.Test.YthplnjgijmilnaaDoorWalkN
namespace Go.Proofs.YthplnjgijmilnaaDoor
open Go.RowKit

theorem packedInt_nil : packedInt [] = [] := rfl

set_option maxHeartbeats 400000 in
theorem rBody_of (t : Int) (a : Option Addr) (cap n : Nat) (w : World) (s : ByteArray)
    (h : ∀ W, Below w.heap.size w W → Calls Tryd.prog 46 #[.int .i64 t, .slice a n cap] W fun e w' => e = .returned (.string s) ∧ Below W.heap.size W w') :
    Calls Tryd.prog 29 #[.int .i64 t, .int .i64 3, .slice a n cap] w fun e w' => e = .returned (.string s) ∧ Below w.heap.size w w' := by
  have HS : Hid (∀ W, Below w.heap.size w W → Calls Tryd.prog 46 #[.int .i64 t, .slice a n cap] W fun e w' => e = .returned (.string s) ∧ Below W.heap.size W w') := h
  clear h
  go_enter Tryd.func29, Tryd.ntmps29
  go_wp2_with fail
  refine (HS.out w (Below.refl _ _)).mono ?_
  rintro e w1 ⟨rfl, hb1⟩
  go_wp2
  go_ret
  exact ⟨rfl, hb1⟩

theorem rBody_any (t how : Int) (a : Option Addr) (cap : Nat) (xs : List V) (w : World) (hh : how = 0 ∨ how = 1 ∨ how = 2 ∨ how = 3) (hn : xs.length ≤ 64) (hgd : ∀ v ∈ xs, good v.k v.s) (hb : t = 2 → ∀ v ∈ xs, v.n = 0 ∨ v.n = 1) (hx : Vals w a xs) :
    Calls Tryd.prog 29 #[.int .i64 t, .int .i64 how, .slice a xs.length cap] w fun e w' => e = .returned (.string (str (bodyEnc t how xs))) ∧ Below w.heap.size w w' := by
  rcases hh with rfl | rfl | rfl | rfl
  · exact rBody_plain t a cap xs w hn hgd hx
  · exact rBody_dict t a cap xs w hn hgd hx
  · exact rBody_runs t a cap xs w hn hgd hx
  · refine rBody_of t a cap _ w _ fun W hW => ?_
    show Calls _ _ _ _ fun e w' => e = .returned (.string (str (packedEnc t xs))) ∧ _
    unfold packedEnc
    by_cases ht : t = 2
    · rw [if_pos ht, bits_bool xs (hb ht)]
      exact rPacked_two t a cap xs W hn ht (hx.below hW)
    · rw [if_neg ht]
      cases xs with
      | nil => exact rPacked_nil t a cap [] W hn ⟨ht, rfl⟩
      | cons v l => exact rPacked_int t a cap v l W hn ht (hx.below hW)

theorem bool_held (t : Int) (xs : List V) (h : okAll t xs) (ht : t = 2) : ∀ v ∈ heldOf xs, v.n = 0 ∨ v.n = 1 := by
  intro v hv
  obtain ⟨hm, hk⟩ := List.mem_filter.1 hv
  obtain ⟨j, hj, rfl⟩ := List.getElem_of_mem hm
  have := h.2 j hj
  unfold okB okK at this
  simp at this hk
  omega

theorem dictEnc_le (xs : List V) (hn : xs.length ≤ 64) (hg : ∀ v ∈ xs, good v.k v.s) : (dictEnc xs).length ≤ 6000 := by
  have h1 := uniq_le xs []
  have h2 := encAll_le (uniq [] xs) fun v hv => by
    rcases uniq_mem xs [] v hv with h | h
    · simp at h
    · exact hg v h
  unfold dictEnc
  rw [List.length_append, List.length_cons, packBits_length, bitsOf_length, List.length_map]
  simp at h1
  omega
theorem packedEnc_le (t : Int) (xs : List V) (hn : xs.length ≤ 64) : (packedEnc t xs).length ≤ 6000 := by
  unfold packedEnc
  split
  · rw [packBits_length, bitsOf_length]; simp [difs]; omega
  · cases xs with
    | nil => simp [packedInt]
    | cons v l =>
      unfold packedInt
      have hlt0 := difs_lt (v :: l) (leastFrom v.n (v :: l))
      have hds : difs (v :: l) (leastFrom v.n (v :: l)) = dif v.n (leastFrom v.n (v :: l)) :: difs l (leastFrom v.n (v :: l)) := rfl
      rw [hds] at hlt0
      have hmx := maxOf_lt 18446744073709551616 (difs l (leastFrom v.n (v :: l))) (dif v.n (leastFrom v.n (v :: l))) (hlt0 _ List.mem_cons_self) fun n hn => hlt0 n (List.mem_cons_of_mem _ hn)
      have h64 := bitLen_le64 _ hmx
      rw [List.length_append, List.length_append, le8_length, packBits_length, bitsOf_length]
      have hdl : (difs (v :: l) (leastFrom v.n (v :: l))).length = (v :: l).length := by simp [difs]
      rw [hdl]
      have : bitLen (maxOf (dif v.n (leastFrom v.n (v :: l))) (difs l (leastFrom v.n (v :: l)))) * (v :: l).length ≤ 64 * 64 := Nat.mul_le_mul h64 hn
      simp only [List.length_cons, List.length_nil] at *
      omega
theorem bodyEnc_le (t how : Int) (xs : List V) (hn : xs.length ≤ 64) (hg : ∀ v ∈ xs, good v.k v.s) : (bodyEnc t how xs).length ≤ 6000 := by
  unfold bodyEnc
  split
  · have := encAll_le xs hg; omega
  · split
    · exact dictEnc_le xs hn hg
    · split
      · have := runsEnc_le _ xs (Nat.le_refl _) hg; omega
      · exact packedEnc_le t xs hn

set_option maxHeartbeats 1000000 in
theorem rPack_way (t how : Int) (a : Option Addr) (cap : Nat) (xs : List V) (w : World) (hbad : ¬ (way t how = true ∧ xs.length ≤ 64)) :
    Calls Tryd.prog 16 #[.int .i64 t, .int .i64 how, .slice a xs.length cap] w fun e w' => e = .returned (.tuple #[.string (str []), fault 1]) ∧ Below w.heap.size w w' := by
  have hb0 : Below w.heap.size w (w.alloc (.cells #[.int .i64 0, .int .i64 0, .int .i64 0, .int .i64 0, .int .i64 0] 31)) := (Below.refl _ _).alloc (Nat.le_refl _) _
  cases hway : way t how
  case' true => have h64 : (64 : Int) < (xs.length : Int) := by
                  have : ¬ xs.length ≤ 64 := fun h => hbad ⟨hway, h⟩
                  omega
  all_goals
    clear hbad
    go_enter Tryd.func16, Tryd.ntmps16
    go_wp2_with fail
    refine (rWay_any _ _ _).mono ?_
    rintro e w1 ⟨rfl, hw1⟩
    rw [hway]
    subst w1
    go_wp2_with fail
    refine (rBad_any _ _).mono ?_
    rintro e w2 ⟨rfl, hb2⟩
    obtain ⟨k1, k2⟩ := below_keep hb2
    have hb4 := below_then hb0 hb2
    go_wp2
    exact bodyPost_ret (v := .tuple #[.string (str []), fault 1]) (by simp [results, Tryd.results16, go_sem, k1]; rfl) rfl ⟨rfl, below_set5 hb4 (Nat.le_refl _) _ _ _ _ _⟩
end Go.Proofs.YthplnjgijmilnaaDoor
