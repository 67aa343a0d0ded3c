/- What the document's own answer makes of the values that are not NULL: plain, as a dictionary, as runs. -/
import Derived.Test.YtfgklnenpichcaaDoorKa
import Derived.Test.YtfgklnenpichcaaDoorKc
import Derived.Deep.RegionWith
namespace Go.Proofs.YtfgklnenpichcaaDoor
open Go.RowKit

theorem rSpelled_any (v : V) (w : World) (hv : good v.k v.s) :
    Calls Tryd.prog 43 #[v.val] w fun e w' => e = .returned (.string (str (enc v.k v.n v.s))) ∧ Below w.heap.size w w' := by
  obtain ⟨k, n, s⟩ := v
  rcases hv with hk | hk | ⟨hk, hs⟩
  · simp only at hk
    subst hk
    exact rSpelled_int n s w
  · simp only at hk
    subst hk
    exact rSpelled_bool n s w
  · simp only at hk hs
    subst hk
    exact rSpelled_text n s w hs

theorem size_le {l : List UInt8} {n : Nat} (h : l.length ≤ n) : (str l).size ≤ n := by rw [str_size]; exact h

set_option maxHeartbeats 1000000 in
theorem rBody_plain (t : Int) (a : Option Addr) (cap : Nat) (xs : List V) (w : World) (hn : xs.length ≤ 64) (hgd : ∀ v ∈ xs, good v.k v.s) (hx : Vals w a xs) :
    Calls Tryd.prog 26 #[.int .i64 t, .int .i64 0, .slice a xs.length cap] w fun e w' => e = .returned (.string (str (encAll xs))) ∧ Below w.heap.size w w' := by
  go_enter Tryd.func26, Tryd.ntmps26
  go_wp2
  go_loopw [7, 8] (fun s i wr => ∃ k : Nat, k ≤ xs.length ∧ i = .int .i64 k ∧ s = .string (str (encAll (xs.take k))) ∧ Below w.heap.size w wr) (fun _ i _ => xs.length - (intOf i).toNat)
  case atStart => exact ⟨0, by omega, rfl, rfl, Below.refl _ _⟩
  case round =>
    obtain ⟨k, hk, rfl, rfl, hbw⟩ := hrel
    by_cases hlt : k < xs.length
    · obtain ⟨b1, o1, rfl, hb1, x1, x2, x3⟩ := (hx.below hbw).at hlt
      have hts := encAll_snoc (xs.take k) xs[k]
      rw [← List.take_succ_eq_append_getElem hlt] at hts
      have hle := encAll_le (xs.take k) fun v hv => hgd v (List.mem_of_mem_take hv)
      have hle2 : (xs.take k).length ≤ k := List.length_take_le _ _
      have hgk := hgd _ (List.getElem_mem hlt)
      have he := enc_le xs[k].k xs[k].n xs[k].s hgk
      have hz1 : (str (encAll (xs.take k))).size ≤ 3000 := size_le (by omega)
      have hz2 : (str (enc xs[k].k xs[k].n xs[k].s)).size ≤ 41 := size_le he
      have HT : Hid _ := hts
      have HG : Hid (good xs[k].k xs[k].s) := hgk
      clear hts hle hle2 hgk he
      generalize encAll (xs.take k) = L at *
      go_wp2_with (go_at_call 43; refine (rSpelled_any xs[k] _ HG.out).mono ?_; rintro e w' ⟨rfl, hb⟩)
      go_roundw
      case rel => exact ⟨k + 1, by omega, by go_num, by rw [HT.out, ← str_append], below_then hbw hb⟩
      case measure => simp [intOf]; omega
    · have e : xs.take k = xs := List.take_of_length_le (by omega)
      rw [e]
      go_wp2
      go_ret
      exact ⟨rfl, hbw⟩

/-- The four bits of a number below 16, the lowest first. -/
theorem four_bits (k : Nat) : (List.range 4).map (fun b => k.testBit b) = [k % 2 == 1, k / 2 % 2 == 1, k / 4 % 2 == 1, k / 8 % 2 == 1] := by
  simp only [List.range_succ, List.range_zero, List.map_cons, List.map_nil, List.nil_append, List.cons_append]
  have e : ∀ b, k.testBit b = (k / 2 ^ b % 2 == 1) := by
    intro b
    rw [Nat.testBit_eq_decide_div_mod_eq]
    rw [Bool.eq_iff_iff]; simp
  rw [e 0, e 1, e 2, e 3]
  simp

theorem four_vals (P : Nat) : [Value.bool ((P : Int) % 2 == 1), .bool ((P : Int) / 2 % 2 == 1), .bool ((P : Int) / 4 % 2 == 1), .bool ((P : Int) / 8 % 2 == 1)] = [P % 2 == 1, P / 2 % 2 == 1, P / 4 % 2 == 1, P / 8 % 2 == 1].map Value.bool := by
  have e : ∀ q : Nat, (((q : Nat) : Int) % 2 == 1) = (q % 2 == 1) := by
    intro q
    rw [Bool.eq_iff_iff]; simp; omega
  have e2 := e (P / 2)
  have e4 := e (P / 4)
  have e8 := e (P / 8)
  rw [Int.natCast_ediv] at e2 e4 e8
  simp only [List.map_cons, List.map_nil]
  rw [e P, ← e2, ← e4, ← e8]
  rfl

set_option maxRecDepth 100000 in
set_option maxHeartbeats 1000000 in
theorem rBody_dict (t : Int) (a : Option Addr) (cap : Nat) (xs : List V) (w : World) (hn : xs.length ≤ 64) (hgd : ∀ v ∈ xs, good v.k v.s) (hx : Vals w a xs) :
    Calls Tryd.prog 26 #[.int .i64 t, .int .i64 1, .slice a xs.length cap] w fun e w' => e = .returned (.string (str (dictEnc xs))) ∧ Below w.heap.size w w' := by
  have hul := uniq_le xs []
  have hgu : ∀ v ∈ uniq [] xs, good v.k v.s := fun v hv => by
    rcases uniq_mem xs [] v hv with h | h
    · simp at h
    · exact hgd v h
  have hpl : ∀ v ∈ xs, place (uniq [] xs) v < (uniq [] xs).length := fun v hv => place_lt_of_mem _ _ (mem_uniq xs [] v hv)
  have hde : dictEnc xs = (low (uniq [] xs).length :: encAll (uniq [] xs)) ++ packBits (bitsOf 4 (xs.map (place (uniq [] xs)))) := rfl
  have HDE : Hid _ := hde
  clear hde
  have hs1 := str1_size
  go_enter Tryd.func26, Tryd.ntmps26
  go_wp2_with fail
  refine (rDifferent_any a cap xs w hn hx).mono ?_
  rintro e w1 ⟨sv, rfl, hown, hb1⟩
  obtain ⟨a1, cap1, rfl, hv1⟩ := hown.vals
  clear hown
  generalize uniq [] xs = d at *
  have hd : d.length ≤ 64 := by simp at hul; omega
  have hd' : d.length ≤ maxLen := by unfold maxLen; omega
  go_wp2_with fail
  refine (byteOf_any _ w1).mono ?_
  rintro e w2 ⟨rfl, hb2⟩
  have hb12 := below_then hb1 hb2
  have hv2 := hv1.below hb2
  go_wp2_with fail
  go_loopw [7, 10] (fun s i wr => ∃ k : Nat, k ≤ d.length ∧ i = .int .i64 k ∧ s = .string (str (low d.length :: encAll (d.take k))) ∧ Below w2.heap.size w2 wr) (fun _ i _ => d.length - (intOf i).toNat)
  case atStart => exact ⟨0, by omega, rfl, rfl, Below.refl _ _⟩
  case round =>
    obtain ⟨k, hk, rfl, rfl, hbw⟩ := hrel
    by_cases hlt : k < d.length
    · obtain ⟨b1, o1, rfl, hb1', x1, x2, x3⟩ := (hv2.below hbw).at hlt
      have hts := encAll_snoc (d.take k) d[k]
      rw [← List.take_succ_eq_append_getElem hlt] at hts
      have hle := encAll_le (d.take k) fun v hv => hgu v (List.mem_of_mem_take hv)
      have hle2 : (d.take k).length ≤ k := List.length_take_le _ _
      have hgk := hgu _ (List.getElem_mem hlt)
      have he := enc_le d[k].k d[k].n d[k].s hgk
      have hz1 : (str (low d.length :: encAll (d.take k))).size ≤ 3000 := size_le (by rw [List.length_cons]; omega)
      have hz2 : (str (enc d[k].k d[k].n d[k].s)).size ≤ 41 := size_le he
      have HT : Hid (low d.length :: encAll (d.take (k + 1)) = low d.length :: encAll (d.take k) ++ enc d[k].k d[k].n d[k].s) := by rw [hts]; rfl
      have HG : Hid (good d[k].k d[k].s) := hgk
      clear hts hle hle2 hgk he
      generalize low d.length :: encAll (d.take k) = L at *
      go_wp2_with (go_at_call 43; refine (rSpelled_any d[k] _ HG.out).mono ?_; rintro e w' ⟨rfl, hb⟩)
      go_roundw
      case rel => exact ⟨k + 1, by omega, by go_num, by rw [HT.out, ← str_append], below_then hbw hb⟩
      case measure => simp [intOf]; omega
    · have e : d.take k = d := List.take_of_length_le (by omega)
      rw [e]
      have hb13 := below_then hb12 hbw
      have hv3 := hv2.below hbw
      have hx3 := hx.below hb13
      have hle := encAll_le d hgu
      have hz1 : (str (low d.length :: encAll d)).size ≤ 3000 := size_le (by rw [List.length_cons]; omega)
      clear e hv1 hv2 hb1 hb2 hb12 hle
      generalize hLL : low d.length :: encAll d = L at *
      have HLL : Hid (low d.length :: encAll d = L) := hLL
      clear hLL
      clear hbw
      rename World => w3
      have hs3 := hb13.size
      go_wp2_with fail
      go_loopw [11, 12] (fun sv i wr => ∃ j : Nat, j ≤ xs.length ∧ i = .int .i64 j ∧ OwnC wr w3.heap.size 4 sv ((bitsOf 4 ((xs.take j).map (place d))).map Value.bool) ∧ Below w3.heap.size w3 wr) (fun _ i _ => xs.length - (intOf i).toNat)
      case atStart => exact ⟨0, by omega, rfl, OwnC.nil _ _ _, Below.refl _ _⟩
      case round =>
        obtain ⟨j, hj, rfl, hown, hbw⟩ := hrel
        by_cases hlt : j < xs.length
        · obtain ⟨b1, o1, rfl, hb1, x1, x2, x3⟩ := (hx3.below hbw).at hlt
          have hsn := bitsOf_snoc 4 ((xs.take j).map (place d)) (place d xs[j])
          have htk : (xs.take (j + 1)).map (place d) = (xs.take j).map (place d) ++ [place d xs[j]] := by rw [List.take_succ_eq_append_getElem hlt, List.map_append]; rfl
          rw [← htk, four_bits] at hsn
          have hp := hpl _ (List.getElem_mem hlt)
          have hbl : ((bitsOf 4 ((xs.take j).map (place d))).map Value.bool).length ≤ 256 := by rw [List.length_map, bitsOf_length, List.length_map, List.length_take]; omega
          have HSN : Hid _ := hsn
          clear hsn htk
          generalize (bitsOf 4 ((xs.take j).map (place d))) = BL at *
          have hvw := hv3.below hbw
          have HP : Hid (place d xs[j] < d.length) := hp
          have hp64 : place d xs[j] ≤ 64 := by omega
          clear hp
          go_wp2_with fail
          refine (rPlace_any a1 cap1 d xs[j] _ hd' hvw).mono ?_
          rintro e w4 ⟨rfl, hb4⟩
          have hs4 := hb4.size
          have hsw := hbw.size
          generalize place d xs[j] = P at *
          have hown4 := hown.below hb4
          go_wp2_with (at_builtin; go_must (refine wpList_append_C (by rfl) _ _ 51 4 _ 1 info_bool (by rfl) (by decide) (by kernel_rfl) (by rfl) w3.heap.size _ _ (by rfl) (hown4.alloc _) ⟨w4.heap.size, 0, none⟩ 4 [.bool ((P : Int) % 2 == 1), .bool ((P : Int) / 2 % 2 == 1), .bool ((P : Int) / 4 % 2 == 1), .bool ((P : Int) / 8 % 2 == 1)] (by rfl) (by exact World.news_of_block (heap_alloc_new w4 _)) (by intro u hu; simp at hu; rcases hu with rfl | rfl | rfl | rfl <;> rfl) (by simp only [List.length_cons, List.length_nil]; omega) (by simp; omega) ?_); intro sv' w5 h1 h2 h3)
          go_roundw
          case rel =>
            refine ⟨j + 1, by omega, by go_num, ?_, below_grown (below_alloc (below_then hbw hb4) _) h2 fun k hk => (owns_block hown hk).1⟩
            have e1 : [Value.bool ((P : Int) % 2 == 1), .bool ((P : Int) / 2 % 2 == 1), .bool ((P : Int) / 4 % 2 == 1), .bool ((P : Int) / 8 % 2 == 1)] = [P % 2 == 1, P / 2 % 2 == 1, P / 4 % 2 == 1, P / 8 % 2 == 1].map Value.bool := four_vals P
            rw [e1, ← List.map_append, ← HSN.out] at h1
            exact h1
          case measure => simp [intOf]; omega
        · have e : xs.take j = xs := List.take_of_length_le (by omega)
          rw [e] at hown
          obtain ⟨a5, cap5, rfl, hc5⟩ := hown.cells
          have hbl : (bitsOf 4 (xs.map (place d))).length ≤ 256 := by rw [bitsOf_length, List.length_map]; omega
          have hpk := packBits_length (bitsOf 4 (xs.map (place d)))
          have hz2 : (str (packBits (bitsOf 4 (xs.map (place d))))).size ≤ 100 := size_le (by rw [hpk]; omega)
          rw [List.length_map]
          generalize bitsOf 4 (xs.map (place d)) = BL at *
          go_wp2_with fail
          refine (rBitsText_any a5 cap5 BL _ (by omega) hc5).mono ?_
          rintro e w6 ⟨rfl, hb6⟩
          go_wp2
          go_ret
          refine ⟨?_, below_then hb13 (below_then hbw hb6)⟩
          rw [HDE.out, ← str_append]; rfl
end Go.Proofs.YtfgklnenpichcaaDoor

/-! What the document's own answer makes of the values that are not NULL, as runs. -/
namespace Go.Proofs.YtfgklnenpichcaaDoor
open Go.RowKit

theorem runs_same (v : V) (c : Nat) (u : V) (l : List V) (h : u = v) : runsAux v c (u :: l) = runsAux v (c + 1) l := by
  simp [runsAux, (V.beq_iff u v).2 h]
theorem runs_diff (v : V) (c : Nat) (u : V) (l : List V) (h : u ≠ v) : runsAux v c (u :: l) = (low c :: enc v.k v.n v.s) ++ runsEnc (u :: l) := by
  simp [runsAux, (V.beq_false u v).2 h, runsEnc]

theorem below_undrewN {B n : Nat} {a w : World} (h : Below B (a.drewN n) w) : Below B a w := ⟨h.os, h.tape, h.output, h.size, h.block⟩

set_option maxRecDepth 100000 in
set_option maxHeartbeats 1000000 in
theorem rBody_runs (t : Int) (a : Option Addr) (cap : Nat) (xs : List V) (w : World) (hn : xs.length ≤ 64) (hgd : ∀ v ∈ xs, good v.k v.s) (hx : Vals w a xs) :
    Calls Tryd.prog 26 #[.int .i64 t, .int .i64 2, .slice a xs.length cap] w fun e w' => e = .returned (.string (str (runsEnc xs))) ∧ Below w.heap.size w w' := by
  have hs1 := str1_size
  have hrl := runsEnc_le _ xs (Nat.le_refl _) hgd
  go_enter Tryd.func26, Tryd.ntmps26
  go_wp2
  go_loopw [7, 14] (fun s i wr => ∃ (k : Nat) (done : List UInt8), k ≤ xs.length ∧ i = .int .i64 k ∧ s = .string (str done) ∧ Hid (runsEnc xs = done ++ runsEnc (xs.drop k)) ∧ Below w.heap.size w wr) (fun _ i _ => xs.length - (intOf i).toNat)
  case atStart => exact ⟨0, [], by omega, rfl, rfl, rfl, Below.refl _ _⟩
  case round =>
    obtain ⟨k, done, hk, rfl, rfl, hdone, hbw⟩ := hrel
    by_cases hlt : k < xs.length
    · rename World => w1
      have hd0 : xs.drop k = xs[k] :: xs.drop (k + 1) := List.drop_eq_getElem_cons hlt
      have HD0 : Hid (runsEnc xs = done ++ runsAux xs[k] 1 (xs.drop (k + 1))) := by
        show _ = _
        rw [hdone.out, hd0]; rfl
      clear hd0
      have hdl : (str done).size ≤ 5000 := by
        have h1 := congrArg List.length hdone.out
        rw [List.length_append] at h1
        exact size_le (by omega)
      go_wp2
      go_loopw [14, 15] (fun i n wr => ∃ p c : Nat, k ≤ p ∧ ∃ hp : p < xs.length, c ≤ p + 1 ∧ i = .int .i64 p ∧ n = .int .i64 c ∧ Hid (runsEnc xs = done ++ runsAux xs[p] c (xs.drop (p + 1))) ∧ (∃ m, wr = w1.drewN m)) (fun i _ _ => xs.length - (intOf i).toNat)
      case atStart => exact ⟨k, 1, by omega, hlt, by omega, rfl, rfl, HD0, ⟨0, rfl⟩⟩
      case round =>
        obtain ⟨p, c, hkp, hp, hcp, rfl, rfl, hd1, ⟨m, rfl⟩⟩ := hrel
        obtain ⟨b1, o1, rfl, hb1, x1, x2, x3⟩ := (hx.below hbw).at hp
        by_cases hp1 : p + 1 < xs.length
        · obtain ⟨b2, o2, hbo, _, y1, y2, y3⟩ := (hx.below hbw).at hp1
          simp at hbo
          obtain ⟨rfl, rfl⟩ := hbo
          have hgd1 : decide ((p : Int) + 1 < (xs.length : Int)) = true := by simp; omega
          have hd2 : xs.drop (p + 1) = xs[p + 1] :: xs.drop (p + 1 + 1) := List.drop_eq_getElem_cons hp1
          by_cases he : xs[p + 1] = xs[p]
          · have hq := run_eql_same _ _ he
            have HD2 : Hid (runsEnc xs = done ++ runsAux xs[p + 1] (c + 1) (xs.drop (p + 1 + 1))) := by
              show _ = _
              rw [hd1.out, hd2, runs_same _ _ _ _ he, he]
            clear he hd2
            go_wp2
            go_quiet (fail)
            go_wp2
            go_roundw
            case rel => exact ⟨p + 1, c + 1, by omega, hp1, by omega, by go_num, by go_num, HD2, ⟨_, rfl⟩⟩
            case measure => simp [intOf]; omega
          · have hq := run_eql_diff _ _ he
            have HD2 : Hid (runsEnc xs = done ++ [low c] ++ enc xs[p].k xs[p].n xs[p].s ++ runsEnc (xs.drop (p + 1))) := by
              show _ = _
              rw [hd1.out, hd2, runs_diff _ _ _ _ he]; simp
            clear he hd2
            go_wp2
            go_quiet (fail)
            go_wp2
            have hgp := hgd _ (List.getElem_mem hp)
            have he := enc_le xs[p].k xs[p].n xs[p].s hgp
            have hz2 : (str (enc xs[p].k xs[p].n xs[p].s)).size ≤ 41 := size_le he
            have HG : Hid (good xs[p].k xs[p].s) := hgp
            clear hgp he hd1
            go_region_with (first
              | (go_at_call 24; refine (byteOf_any _ _).mono ?_; rintro e w5 ⟨rfl, hb5⟩; have hb5' : Below w1.heap.size w1 w5 := below_undrewN hb5; have q1 := (World.cell?_of_block (w := w1) (a := ⟨b1, o1 + p * 3, none⟩) (hb5'.block b1 hb1)).trans x1; have q2 := (World.cell?_of_block (w := w1) (a := ⟨b1, o1 + p * 3 + 1, none⟩) (hb5'.block b1 hb1)).trans x2; have q3 := (World.cell?_of_block (w := w1) (a := ⟨b1, o1 + p * 3 + 2, none⟩) (hb5'.block b1 hb1)).trans x3; clear hb5)
              | (go_at_call 43; refine (rSpelled_any xs[p] _ HG.out).mono ?_; rintro e w6 ⟨rfl, hb6⟩))
            all_goals go_wp2
            all_goals
              go_roundw
              case rel =>
                refine ⟨p + 1, done ++ [low c] ++ enc xs[p].k xs[p].n xs[p].s, by omega, by go_num, ?_, HD2, below_then hbw (below_then hb5' hb6)⟩
                rw [← str_append, ← str_append]
              case measure => simp [intOf]; omega
        · have hgd1 : decide ((p : Int) + 1 < (xs.length : Int)) = false := by simp; omega
          have hd2 : xs.drop (p + 1) = [] := List.drop_eq_nil_iff.2 (by omega)
          have HD2 : Hid (runsEnc xs = done ++ [low c] ++ enc xs[p].k xs[p].n xs[p].s ++ runsEnc (xs.drop (p + 1))) := by
            show _ = _
            rw [hd1.out, hd2]; simp [runsAux, runsEnc_nil]
          clear hd2
          go_wp2
          go_quiet (fail)
          go_wp2
          have hgp := hgd _ (List.getElem_mem hp)
          have he := enc_le xs[p].k xs[p].n xs[p].s hgp
          have hz2 : (str (enc xs[p].k xs[p].n xs[p].s)).size ≤ 41 := size_le he
          have HG : Hid (good xs[p].k xs[p].s) := hgp
          clear hgp he hd1
          go_region_with (first
            | (go_at_call 24; refine (byteOf_any _ _).mono ?_; rintro e w5 ⟨rfl, hb5⟩; have hb5' : Below w1.heap.size w1 w5 := below_undrewN hb5; have q1 := (World.cell?_of_block (w := w1) (a := ⟨b1, o1 + p * 3, none⟩) (hb5'.block b1 hb1)).trans x1; have q2 := (World.cell?_of_block (w := w1) (a := ⟨b1, o1 + p * 3 + 1, none⟩) (hb5'.block b1 hb1)).trans x2; have q3 := (World.cell?_of_block (w := w1) (a := ⟨b1, o1 + p * 3 + 2, none⟩) (hb5'.block b1 hb1)).trans x3; clear hb5)
            | (go_at_call 43; refine (rSpelled_any xs[p] _ HG.out).mono ?_; rintro e w6 ⟨rfl, hb6⟩))
          all_goals go_wp2
          all_goals
            go_roundw
            case rel =>
              refine ⟨p + 1, done ++ [low c] ++ enc xs[p].k xs[p].n xs[p].s, by omega, by go_num, ?_, HD2, below_then hbw (below_then hb5' hb6)⟩
              rw [← str_append, ← str_append]
            case measure => simp [intOf]; omega
    · have hke : k = xs.length := by omega
      subst hke
      have hd2 : xs.drop xs.length = [] := List.drop_eq_nil_iff.2 (Nat.le_refl _)
      have hfin := hdone.out
      rw [hd2, runsEnc_nil, List.append_nil] at hfin
      have HF : Hid (runsEnc xs = done) := hfin
      clear hfin hd2
      go_wp2
      go_ret
      exact ⟨by rw [HF.out]; rfl, hbw⟩
end Go.Proofs.YtfgklnenpichcaaDoor
