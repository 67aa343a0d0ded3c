/- What the document's own answer makes of packed values. -/
import Derived.Test.YtfgklnenpichcaaDoorKa
import Derived.Test.YtfgklnenpichcaaDoorKc
import Derived.Test.YtfgklnenpichcaaDoorKe
import Derived.Test.YtfgklnenpichcaaDoorKd
namespace Go.Proofs.YtfgklnenpichcaaDoor
open Go.RowKit

theorem bits_bool (xs : List V) (h : ∀ v ∈ xs, v.n = 0 ∨ v.n = 1) : bitsOf 1 (difs xs 0) = xs.map fun v => v.n == 1 := by
  have hd : ∀ v ∈ xs, dif v.n 0 = (if v.n = 1 then 1 else 0) := by
    intro v hv
    unfold dif u64
    rcases h v hv with e | e <;> rw [e] <;> rfl
  rw [bitsOf_one _ (by
    intro n hn
    obtain ⟨v, hv, rfl⟩ := List.mem_map.1 hn
    rw [hd v hv]; split <;> omega)]
  unfold difs
  rw [List.map_map]
  apply List.map_congr_left
  intro v hv
  simp only [Function.comp]
  rw [hd v hv]
  by_cases e : v.n = 1 <;> simp [e]

theorem bitLen_mono (a b : Nat) (h : a ≤ b) : bitLen a ≤ bitLen b := by
  by_cases h0 : a = 0
  · subst h0; simp [bitLen]
  · have h1 := (bitLen_spec a).2 h0
    have h2 := (bitLen_spec b).1
    have h3 : 2 ^ (bitLen a - 1) < 2 ^ bitLen b := by omega
    have h4 := (Nat.pow_lt_pow_iff_right (by decide)).1 h3
    omega
theorem maxOf_bitLen (l : List Nat) : ∀ m, bitLen (maxOf m l) = maxOf (bitLen m) (l.map bitLen) := by
  induction l with
  | nil => intro m; rfl
  | cons n l ih =>
    intro m
    simp only [maxOf, List.map_cons]
    rw [ih]
    congr 1
    by_cases h : m < n
    · have := bitLen_mono m n (by omega)
      rw [if_pos h]
      split
      · rfl
      · omega
    · have := bitLen_mono n m (by omega)
      rw [if_neg h, if_neg (by omega)]
theorem bitLen_step (D w : Nat) (h : 0 < D / 2 ^ w) : w + 1 ≤ bitLen D := by
  have h1 := bitLen_shift D w (by omega)
  have h2 : 1 ≤ bitLen (D / 2 ^ w) := by unfold bitLen; split <;> omega
  omega
theorem bitLen_end (D w : Nat) (hw : w ≤ bitLen D) (h : D / 2 ^ w = 0) : w = bitLen D := by
  have h0 : D < 2 ^ w := (Nat.div_eq_zero_iff_lt (Nat.two_pow_pos w)).1 h
  by_cases hD : D = 0
  · subst hD; simp [bitLen] at hw ⊢; exact hw
  · have h1 := (bitLen_spec D).2 hD
    have h3 : 2 ^ (bitLen D - 1) < 2 ^ w := by omega
    have h4 := (Nat.pow_lt_pow_iff_right (by decide)).1 h3
    omega

set_option maxHeartbeats 1000000 in
theorem rPacked_two (t : Int) (a : Option Addr) (cap : Nat) (xs : List V) (w : World) (hn : xs.length ≤ 64) (ht : t = 2) (hx : Vals w a xs) :
    Calls Tryd.prog 44 #[.int .i64 t, .slice a xs.length cap] w fun e w' => e = .returned (.string (str (packBits (xs.map fun v => v.n == 1)))) ∧ Below w.heap.size w w' := by
  have ht1 : (t == 2) = true := by simp [ht]
  clear ht
  go_enter Tryd.func44, Tryd.ntmps44
  go_wp2
  go_loopw [5, 6] (fun sv i wr => ∃ k : Nat, k ≤ xs.length ∧ i = .int .i64 k ∧ OwnC wr w.heap.size 4 sv (((xs.take k).map fun v => v.n == 1).map Value.bool) ∧ Below w.heap.size w wr) (fun _ i _ => xs.length - (intOf i).toNat)
  case atStart => exact ⟨0, by omega, rfl, OwnC.nil _ _ _, Below.refl _ _⟩
  case round =>
    obtain ⟨k, hk, rfl, hown, hbw⟩ := hrel
    by_cases hlt : k < xs.length
    · obtain ⟨b1, o1, rfl, hb1, x1, x2, x3⟩ := (hx.below hbw).at hlt
      have hsn : ((xs.take (k + 1)).map fun v => v.n == 1).map Value.bool = ((xs.take k).map fun v => v.n == 1).map Value.bool ++ [.bool (xs[k].n == 1)] := by
        rw [List.take_succ_eq_append_getElem hlt, List.map_append, List.map_append]; rfl
      have hbl : (((xs.take k).map fun v => v.n == 1).map Value.bool).length ≤ 64 := by rw [List.length_map, List.length_map, List.length_take]; omega
      have HSN : Hid _ := hsn
      clear hsn
      generalize ((xs.take k).map fun v => v.n == 1).map Value.bool = BL at *
      have hsw := hbw.size
      go_wp2_with (at_builtin; go_must (refine wpList_append_C (by rfl) _ _ 51 4 _ 1 info_bool (by rfl) (by decide) (by kernel_rfl) (by rfl) w.heap.size _ _ (by rfl) (hown.alloc _) ⟨wr.heap.size, 0, none⟩ 1 [.bool (xs[k].n == 1)] (by rfl) (by exact news_one _ _ _) (by intro u hu; simp at hu; subst hu; rfl) (by simp only [List.length_cons, List.length_nil]; omega) (by simp; omega) ?_); intro sv' w5 h1 h2 h3)
      go_roundw
      case rel =>
        refine ⟨k + 1, by omega, by go_num, ?_, below_grown (below_alloc hbw _) h2 fun k hk => (owns_block hown hk).1⟩
        rw [HSN.out]; exact h1
      case measure => simp [intOf]; omega
    · have e : xs.take k = xs := List.take_of_length_le (by omega)
      rw [e] at hown
      obtain ⟨a5, cap5, rfl, hc5⟩ := hown.cells
      have hbl : (xs.map fun v => v.n == 1).length ≤ 64 := by simpa using hn
      rw [List.length_map]
      generalize hBL : (xs.map fun v => v.n == 1) = BL at *
      have HBL : Hid _ := hBL
      clear hBL
      go_wp2_with fail
      refine (rBitsText_any a5 cap5 BL _ (by omega) hc5).mono ?_
      rintro e w6 ⟨rfl, hb6⟩
      go_wp2
      go_ret
      exact ⟨by rw [HBL.out]; rfl, below_then hbw hb6⟩

set_option maxHeartbeats 1000000 in
theorem rPacked_nil (t : Int) (a : Option Addr) (cap : Nat) (xs : List V) (w : World) (hn : xs.length ≤ 64) (ht : ¬ t = 2 ∧ xs = [])  :
    Calls Tryd.prog 44 #[.int .i64 t, .slice a xs.length cap] w fun e w' => e = .returned (.string (str (packBits (xs.map fun v => v.n == 1)))) ∧ Below w.heap.size w w' := by
  have ht1 : (t == 2) = false := by simp [ht.1]
  have h0 : xs.length = 0 := by rw [ht.2]; rfl
  have h01 : ((xs.length : Int) == 0) = true := by simp [h0]
  clear ht
  go_enter Tryd.func44, Tryd.ntmps44
  go_wp2
  go_loopw [5, 6] (fun sv i wr => ∃ k : Nat, k ≤ xs.length ∧ i = .int .i64 k ∧ OwnC wr w.heap.size 4 sv (((xs.take k).map fun v => v.n == 1).map Value.bool) ∧ Below w.heap.size w wr) (fun _ i _ => xs.length - (intOf i).toNat)
  case atStart => exact ⟨0, by omega, rfl, OwnC.nil _ _ _, Below.refl _ _⟩
  case round =>
    obtain ⟨k, hk, rfl, hown, hbw⟩ := hrel
    by_cases hlt : k < xs.length
    · exfalso; omega
    · have e : xs.take k = xs := List.take_of_length_le (by omega)
      rw [e] at hown
      obtain ⟨a5, cap5, rfl, hc5⟩ := hown.cells
      have hbl : (xs.map fun v => v.n == 1).length ≤ 64 := by simpa using hn
      rw [List.length_map]
      generalize hBL : (xs.map fun v => v.n == 1) = BL at *
      have HBL : Hid _ := hBL
      clear hBL
      go_wp2_with fail
      refine (rBitsText_any a5 cap5 BL _ (by omega) hc5).mono ?_
      rintro e w6 ⟨rfl, hb6⟩
      go_wp2
      go_ret
      exact ⟨by rw [HBL.out]; rfl, below_then hbw hb6⟩
end Go.Proofs.YtfgklnenpichcaaDoor

/-! What the document's own answer makes of packed numbers: the least, the width, the differences' bits. -/
namespace Go.Proofs.YtfgklnenpichcaaDoor
open Go.RowKit

theorem bits_step (D k : Nat) : ((List.range (k + 1)).map fun b => D.testBit b) = ((List.range k).map fun b => D.testBit b) ++ [D / 2 ^ k % 2 == 1] := by
  rw [List.range_succ, List.map_append]
  simp only [List.map_cons, List.map_nil]
  rw [Nat.testBit_eq_decide_div_mod_eq]
  congr 2

set_option maxRecDepth 100000 in
set_option maxHeartbeats 2000000 in
theorem rPacked_int (t : Int) (a : Option Addr) (cap : Nat) (v : V) (l : List V) (w : World) (hn : (v :: l).length ≤ 64) (ht : ¬ t = 2) (hx : Vals w a (v :: l)) :
    Calls Tryd.prog 44 #[.int .i64 t, .slice a (v :: l).length cap] w fun e w' => e = .returned (.string (str (packedInt (v :: l)))) ∧ Below w.heap.size w w' := by
  have ht1 : (t == 2) = false := by simp [ht]
  clear ht
  have hpe : packedInt (v :: l) = le8 (u64 (leastFrom v.n (v :: l))) ++ [low (maxOf 0 ((difs (v :: l) (leastFrom v.n (v :: l))).map bitLen) : Nat)]
        ++ packBits (bitsOf (maxOf 0 ((difs (v :: l) (leastFrom v.n (v :: l))).map bitLen)) (difs (v :: l) (leastFrom v.n (v :: l)))) := by
    have e : maxOf 0 ((difs (v :: l) (leastFrom v.n (v :: l))).map bitLen) = bitLen (maxOf (dif v.n (leastFrom v.n (v :: l))) (difs l (leastFrom v.n (v :: l)))) := by
      rw [maxOf_bitLen]
      show maxOf 0 (bitLen _ :: (difs l _).map bitLen) = _
      simp only [maxOf]
      congr 1
      split <;> omega
    rw [e]; rfl
  have HPE : Hid _ := hpe
  clear hpe
  have hlt1 : (v :: l).take 1 = [v] := rfl
  have hv0 : (v :: l)[0]? = some v := rfl
  have hl0 : 0 < (v :: l).length := by simp
  have hlf1 : leastFrom v.n [v] = v.n := by simp [leastFrom]
  generalize v :: l = xs at *
  have HL1 : Hid (leastFrom v.n (xs.take 1) = v.n) := by rw [hlt1]; exact hlf1
  have hl1 : ((xs.length : Int) == 0) = false := by rw [beq_eq_false_iff_ne]; omega
  obtain ⟨b1, o1, rfl, hb1, z1, z2, z3⟩ := hx.at hl0
  rw [Nat.zero_mul, Nat.add_zero] at z1 z2 z3
  have hv1 : xs[0] = v := by rw [List.getElem?_eq_getElem hl0] at hv0; exact Option.some.inj hv0
  rw [hv1] at z2
  clear hlt1 hlf1 hv0 hv1 z1 z3
  generalize v.n = M at *
  go_enter Tryd.func44, Tryd.ntmps44
  go_wp2
  go_loop [7, 8] (fun q i => ∃ k : Nat, 1 ≤ k ∧ k ≤ xs.length ∧ i = .int .i64 k ∧ q = .int .i64 (leastFrom M (xs.take k))) (fun _ i => xs.length - (intOf i).toNat)
  case atStart => exact ⟨1, by omega, by omega, rfl, by rw [HL1.out]⟩
  case round =>
    obtain ⟨k, hk1, hk, rfl, rfl⟩ := hrel
    by_cases hlt : k < xs.length
    · obtain ⟨b2, o2, hbo, _, x1, x2, x3⟩ := hx.at hlt
      simp at hbo
      obtain ⟨rfl, rfl⟩ := hbo
      have hts := leastFrom_snoc (xs.take k) xs[k] M
      rw [← List.take_succ_eq_append_getElem hlt] at hts
      have HT : Hid _ := hts
      clear hts
      generalize leastFrom M (xs.take k) = q at *
      by_cases hc : xs[k].n < q
      · have HT2 : Hid (leastFrom M (xs.take (k + 1)) = xs[k].n) := by show _ = _; rw [HT.out, if_pos hc]
        go_wp2
        go_round
        case rel => exact ⟨k + 1, by omega, by omega, by go_num, by rw [HT2.out]⟩
        case measure => simp [intOf]; omega
      · have HT2 : Hid (leastFrom M (xs.take (k + 1)) = q) := by show _ = _; rw [HT.out, if_neg hc]
        go_wp2
        go_round
        case rel => exact ⟨k + 1, by omega, by omega, by go_num, by rw [HT2.out]⟩
        case measure => simp [intOf]; omega
    · have e : xs.take k = xs := List.take_of_length_le (by omega)
      rw [e]
      clear e
      generalize leastFrom M xs = q at *
      have hdl : (difs xs q).length = xs.length := by simp [difs]
      have hdk : ∀ j (hj : j < xs.length), (difs xs q)[j]'(by rw [hdl]; exact hj) = dif xs[j].n q := by intro j hj; simp [difs]
      have hdlt := difs_lt xs q
      generalize hDS : difs xs q = ds at *
      have HDS : Hid (difs xs q = ds) := hDS
      clear hDS
      have HWL : Hid (∀ n ∈ ds, bitLen n < 65) := fun n hn => by have := bitLen_le64 n (hdlt n hn); omega
      have HDL : Hid (ds.length = xs.length) := hdl
      have HDK : Hid (∀ j (hj : j < xs.length), ds[j]? = some (dif xs[j].n q)) := by
        intro j hj
        rw [List.getElem?_eq_getElem (by rw [hdl]; exact hj), hdk j hj]
      have HDB : Hid (∀ n ∈ ds, n < 18446744073709551616) := hdlt
      clear hdl hdk hdlt
      go_wp2
      go_loop [9, 10] (fun wd i => ∃ j : Nat, j ≤ xs.length ∧ i = .int .i64 j ∧ wd = .int .i64 (maxOf 0 ((ds.take j).map bitLen) : Nat)) (fun _ i => xs.length - (intOf i).toNat)
      case atStart => exact ⟨0, by omega, rfl, rfl⟩
      case round =>
        obtain ⟨j, hj, rfl, rfl⟩ := hrel
        by_cases hlj : j < xs.length
        · obtain ⟨b2, o2, hbo, _, x1, x2, x3⟩ := hx.at hlj
          simp at hbo
          obtain ⟨rfl, rfl⟩ := hbo
          have hdj := HDK.out j hlj
          have hlj' : j < ds.length := by rw [HDL.out]; exact hlj
          have hmem : ds[j] ∈ ds := List.getElem_mem hlj'
          have hdj2 : ds[j] = dif xs[j].n q := by rw [List.getElem?_eq_getElem hlj'] at hdj; exact Option.some.inj hdj
          have hsn : (ds.take (j + 1)).map bitLen = (ds.take j).map bitLen ++ [bitLen ds[j]] := by rw [List.take_succ_eq_append_getElem hlj', List.map_append]; rfl
          have hmx : maxOf 0 ((ds.take (j + 1)).map bitLen) = if maxOf 0 ((ds.take j).map bitLen) < bitLen ds[j] then bitLen ds[j] else maxOf 0 ((ds.take j).map bitLen) := by rw [hsn, maxOf_snoc]
          have hwm : maxOf 0 ((ds.take j).map bitLen) < 65 := maxOf_lt 65 _ 0 (by decide) fun n hn => by
            obtain ⟨y, hy, rfl⟩ := List.mem_map.1 hn
            exact HWL.out y (List.mem_of_mem_take hy)
          have hD65 := HWL.out _ hmem
          have hDlt := HDB.out _ hmem
          rw [hdj2] at hmx hD65 hDlt
          have HMX : Hid _ := hmx
          have hwd := wrap_dif xs[j].n q
          have HWD : Hid _ := hwd
          clear hmx hsn hdj hdj2 hmem hwd
          generalize maxOf 0 ((ds.take j).map bitLen) = WM at *
          go_wp2
          rw [HWD.out]
          generalize dif xs[j].n q = D at *
          go_loop [11, 12] (fun wc u => ∃ c : Nat, c ≤ bitLen D ∧ wc = .int .i64 c ∧ u = .int .u64 (D / 2 ^ c : Nat)) (fun _ u => (intOf u).toNat)
          case atStart => exact ⟨0, by omega, rfl, by simp⟩
          case round =>
            obtain ⟨c, hc, rfl, rfl⟩ := hrel
            have hle : D / 2 ^ c ≤ D := Nat.div_le_self _ _
            have hst := bitLen_step D c
            have hen := bitLen_end D c hc
            have hdd : D / 2 ^ (c + 1) = D / 2 ^ c / 2 := by rw [Nat.pow_succ, Nat.div_div_eq_div_mul]
            have HST : Hid _ := hst
            have HEN : Hid _ := hen
            have HDD : Hid _ := hdd
            clear hst hen hdd
            generalize D / 2 ^ c = U at *
            by_cases hU : 0 < U
            · have HS2 := HST.out hU
              go_wp2
              go_round
              case rel => exact ⟨c + 1, by omega, by go_num, by rw [HDD.out]; go_num⟩
              case measure => simp [intOf]; omega
            · have hce : c = bitLen D := HEN.out (by omega)
              subst hce
              by_cases hgt : WM < bitLen D
              · have HM2 : Hid (maxOf 0 ((ds.take (j + 1)).map bitLen) = bitLen D) := by show _ = _; rw [HMX.out, if_pos hgt]
                generalize bitLen D = c at *
                go_wp2
                go_round
                case rel => exact ⟨j + 1, by omega, by go_num, by rw [HM2.out]⟩
                case measure => simp [intOf]; omega
              · have HM2 : Hid (maxOf 0 ((ds.take (j + 1)).map bitLen) = WM) := by show _ = _; rw [HMX.out, if_neg hgt]
                generalize bitLen D = c at *
                go_wp2
                go_round
                case rel => exact ⟨j + 1, by omega, by go_num, by rw [HM2.out]⟩
                case measure => simp [intOf]; omega
        · have e : ds.take j = ds := List.take_of_length_le (by rw [HDL.out]; omega)
          rw [e]
          clear e
          have hwm : maxOf 0 (ds.map bitLen) < 65 := maxOf_lt 65 _ 0 (by decide) fun n hn => by
            obtain ⟨y, hy, rfl⟩ := List.mem_map.1 hn
            exact HWL.out y hy
          generalize maxOf 0 (ds.map bitLen) = wd at *
          go_wp2
          go_loopw [5, 13] (fun sv i wr => ∃ p : Nat, p ≤ xs.length ∧ i = .int .i64 p ∧ OwnC wr w.heap.size 4 sv ((bitsOf wd (ds.take p)).map Value.bool) ∧ Below w.heap.size w wr) (fun _ i _ => xs.length - (intOf i).toNat)
          case atStart => exact ⟨0, by omega, rfl, OwnC.nil _ _ _, Below.refl _ _⟩
          case round =>
            obtain ⟨p, hp, rfl, hown, hbw⟩ := hrel
            rename World => w1
            by_cases hlp : p < xs.length
            · obtain ⟨b2, o2, hbo, hb2, x1, x2, x3⟩ := (hx.below hbw).at hlp
              simp at hbo
              obtain ⟨rfl, rfl⟩ := hbo
              have hdj := HDK.out p hlp
              have hlp' : p < ds.length := by rw [HDL.out]; exact hlp
              have hmem : ds[p] ∈ ds := List.getElem_mem hlp'
              have hdj2 : ds[p] = dif xs[p].n q := by rw [List.getElem?_eq_getElem hlp'] at hdj; exact Option.some.inj hdj
              have hsn : bitsOf wd (ds.take (p + 1)) = bitsOf wd (ds.take p) ++ (List.range wd).map fun b => ds[p].testBit b := by rw [List.take_succ_eq_append_getElem hlp', bitsOf_snoc]
              have hDlt := HDB.out _ hmem
              rw [hdj2] at hsn hDlt
              have hbl : (bitsOf wd (ds.take p)).length ≤ 5000 := by
                rw [bitsOf_length, List.length_take]
                have : wd * min p ds.length ≤ 64 * 64 := Nat.mul_le_mul (by omega) (by omega)
                omega
              have HSN : Hid _ := hsn
              have hwd2 := wrap_dif xs[p].n q
              have HWD : Hid _ := hwd2
              clear hsn hdj hdj2 hmem hwd2
              generalize bitsOf wd (ds.take p) = BL at *
              go_wp2
              rw [HWD.out]
              generalize dif xs[p].n q = D at *
              go_loopw [5, 14, 15] (fun sv u kk wr => ∃ c : Nat, c ≤ wd ∧ kk = .int .i64 c ∧ u = .int .u64 (D / 2 ^ c : Nat) ∧ OwnC wr w.heap.size 4 sv ((BL ++ (List.range c).map fun b => D.testBit b).map Value.bool) ∧ Below w.heap.size w wr) (fun _ _ kk _ => wd - (intOf kk).toNat)
              case atStart => exact ⟨0, by omega, rfl, by simp, by simpa using hown, hbw⟩
              case round =>
                clear hown hbw x1 x2 x3 hb2
                obtain ⟨c, hc, rfl, rfl, hown, hbw⟩ := hrel
                have hsw := hbw.size
                by_cases hlc : c < wd
                · have hbs := bits_step D c
                  have HBS : Hid _ := hbs
                  have hle : D / 2 ^ c ≤ D := Nat.div_le_self _ _
                  have hdd : D / 2 ^ (c + 1) = D / 2 ^ c / 2 := by rw [Nat.pow_succ, Nat.div_div_eq_div_mul]
                  have HDD : Hid _ := hdd
                  have hbl2 : ((BL ++ (List.range c).map fun b => D.testBit b).map Value.bool).length ≤ 6000 := by simp; omega
                  clear hbs hdd
                  generalize (List.range c).map (fun b => D.testBit b) = RB at *
                  generalize D / 2 ^ c = U at *
                  go_wp2_with (at_builtin; go_must (refine wpList_append_C (by rfl) _ _ 51 4 _ 1 info_bool (by rfl) (by decide) (by kernel_rfl) (by rfl) w.heap.size _ _ (by rfl) (hown.alloc _) ⟨wr.heap.size, 0, none⟩ 1 [.bool ((U : Int) % 2 == 1)] (by rfl) (by exact news_one _ _ _) (by intro u hu; simp at hu; subst hu; rfl) (by simp only [List.length_cons, List.length_nil]; omega) (by simp; omega) ?_); intro sv' w5 h1 h2 h3)
                  go_roundw
                  case rel =>
                    refine ⟨c + 1, by omega, by go_num, by rw [HDD.out]; go_num, ?_, below_grown (below_alloc hbw _) h2 fun k hk => (owns_block hown hk).1⟩
                    have e1 : ((U : Int) % 2 == 1) = (U % 2 == 1) := by rw [Bool.eq_iff_iff]; simp; omega
                    rw [HBS.out, ← List.append_assoc, List.map_append]
                    rw [e1] at h1
                    exact h1
                  case measure => simp [intOf]; omega
                · have hce : c = wd := by omega
                  subst hce
                  go_wp2
                  go_roundw
                  case rel => exact ⟨p + 1, by omega, by go_num, by rw [HSN.out]; exact hown, hbw⟩
                  case measure => simp [intOf]; omega
            · have e : ds.take p = ds := List.take_of_length_le (by rw [HDL.out]; omega)
              rw [e] at hown
              obtain ⟨a5, cap5, rfl, hc5⟩ := hown.cells
              have hbl : (bitsOf wd ds).length ≤ 5000 := by
                rw [bitsOf_length, HDL.out]
                have : wd * xs.length ≤ 64 * 64 := Nat.mul_le_mul (by omega) hn
                omega
              have hpk := packBits_length (bitsOf wd ds)
              have hz2 : (str (packBits (bitsOf wd ds))).size ≤ 1000 := by rw [str_size, hpk]; omega
              have hz3 : (str (le8 (Go.Proofs.YtfgklnenpichcaaDoor.u64 q))).size = 8 := by rw [str_size, le8_length]
              have hs1 := str1_size
              rw [List.length_map]
              clear e hpk
              generalize bitsOf wd ds = BL at *
              go_wp2_with fail
              refine (rLong_any q _).mono ?_
              rintro e w5 ⟨rfl, hb5⟩
              generalize le8 (Go.Proofs.YtfgklnenpichcaaDoor.u64 q) = L8 at *
              go_wp2_with fail
              refine (byteOf_any _ _).mono ?_
              rintro e w6 ⟨rfl, hb6⟩
              have hc6 := (hc5.below hb5).below hb6
              go_wp2_with fail
              refine (rBitsText_any a5 cap5 BL _ (by omega) hc6).mono ?_
              rintro e w7 ⟨rfl, hb7⟩
              go_wp2
              go_ret
              refine ⟨?_, below_then hbw (below_then hb5 (below_then hb6 hb7))⟩
              rw [HPE.out, ← str_append, ← str_append]
              rfl
end Go.Proofs.YtfgklnenpichcaaDoor

/-! What the document's own Pack answers, for every type, way and list of values: the same as the program's. -/
namespace Go.Proofs.YtfgklnenpichcaaDoor
open Go.RowKit

theorem packedInt_nil : packedInt [] = [] := rfl

set_option maxHeartbeats 400000 in
theorem rBody_of (t : Int) (a : Option Addr) (cap n : Nat) (w : World) (s : ByteArray)
    (h : ∀ W, Below w.heap.size w W → Calls Tryd.prog 44 #[.int .i64 t, .slice a n cap] W fun e w' => e = .returned (.string s) ∧ Below W.heap.size W w') :
    Calls Tryd.prog 26 #[.int .i64 t, .int .i64 3, .slice a n cap] w fun e w' => e = .returned (.string s) ∧ Below w.heap.size w w' := by
  have HS : Hid (∀ W, Below w.heap.size w W → Calls Tryd.prog 44 #[.int .i64 t, .slice a n cap] W fun e w' => e = .returned (.string s) ∧ Below W.heap.size W w') := h
  clear h
  go_enter Tryd.func26, Tryd.ntmps26
  go_wp2_with fail
  refine (HS.out w (Below.refl _ _)).mono ?_
  rintro e w1 ⟨rfl, hb1⟩
  go_wp2
  go_ret
  exact ⟨rfl, hb1⟩

theorem rBody_any (t how : Int) (a : Option Addr) (cap : Nat) (xs : List V) (w : World) (hh : how = 0 ∨ how = 1 ∨ how = 2 ∨ how = 3) (hn : xs.length ≤ 64) (hgd : ∀ v ∈ xs, good v.k v.s) (hb : t = 2 → ∀ v ∈ xs, v.n = 0 ∨ v.n = 1) (hx : Vals w a xs) :
    Calls Tryd.prog 26 #[.int .i64 t, .int .i64 how, .slice a xs.length cap] w fun e w' => e = .returned (.string (str (bodyEnc t how xs))) ∧ Below w.heap.size w w' := by
  rcases hh with rfl | rfl | rfl | rfl
  · exact rBody_plain t a cap xs w hn hgd hx
  · exact rBody_dict t a cap xs w hn hgd hx
  · exact rBody_runs t a cap xs w hn hgd hx
  · refine rBody_of t a cap _ w _ fun W hW => ?_
    show Calls _ _ _ _ fun e w' => e = .returned (.string (str (packedEnc t xs))) ∧ _
    unfold packedEnc
    by_cases ht : t = 2
    · rw [if_pos ht, bits_bool xs (hb ht)]
      exact rPacked_two t a cap xs W hn ht (hx.below hW)
    · rw [if_neg ht]
      cases xs with
      | nil => exact rPacked_nil t a cap [] W hn ⟨ht, rfl⟩
      | cons v l => exact rPacked_int t a cap v l W hn ht (hx.below hW)

theorem bool_held (t : Int) (xs : List V) (h : okAll t xs) (ht : t = 2) : ∀ v ∈ heldOf xs, v.n = 0 ∨ v.n = 1 := by
  intro v hv
  obtain ⟨hm, hk⟩ := List.mem_filter.1 hv
  obtain ⟨j, hj, rfl⟩ := List.getElem_of_mem hm
  have := h.2 j hj
  unfold okB okK at this
  simp at this hk
  omega

theorem dictEnc_le (xs : List V) (hn : xs.length ≤ 64) (hg : ∀ v ∈ xs, good v.k v.s) : (dictEnc xs).length ≤ 6000 := by
  have h1 := uniq_le xs []
  have h2 := encAll_le (uniq [] xs) fun v hv => by
    rcases uniq_mem xs [] v hv with h | h
    · simp at h
    · exact hg v h
  unfold dictEnc
  rw [List.length_append, List.length_cons, packBits_length, bitsOf_length, List.length_map]
  simp at h1
  omega
theorem packedEnc_le (t : Int) (xs : List V) (hn : xs.length ≤ 64) : (packedEnc t xs).length ≤ 6000 := by
  unfold packedEnc
  split
  · rw [packBits_length, bitsOf_length]; simp [difs]; omega
  · cases xs with
    | nil => simp [packedInt]
    | cons v l =>
      unfold packedInt
      have hlt0 := difs_lt (v :: l) (leastFrom v.n (v :: l))
      have hds : difs (v :: l) (leastFrom v.n (v :: l)) = dif v.n (leastFrom v.n (v :: l)) :: difs l (leastFrom v.n (v :: l)) := rfl
      rw [hds] at hlt0
      have hmx := maxOf_lt 18446744073709551616 (difs l (leastFrom v.n (v :: l))) (dif v.n (leastFrom v.n (v :: l))) (hlt0 _ List.mem_cons_self) fun n hn => hlt0 n (List.mem_cons_of_mem _ hn)
      have h64 := bitLen_le64 _ hmx
      rw [List.length_append, List.length_append, le8_length, packBits_length, bitsOf_length]
      have hdl : (difs (v :: l) (leastFrom v.n (v :: l))).length = (v :: l).length := by simp [difs]
      rw [hdl]
      have : bitLen (maxOf (dif v.n (leastFrom v.n (v :: l))) (difs l (leastFrom v.n (v :: l)))) * (v :: l).length ≤ 64 * 64 := Nat.mul_le_mul h64 hn
      simp only [List.length_cons, List.length_nil] at *
      omega
theorem bodyEnc_le (t how : Int) (xs : List V) (hn : xs.length ≤ 64) (hg : ∀ v ∈ xs, good v.k v.s) : (bodyEnc t how xs).length ≤ 6000 := by
  unfold bodyEnc
  split
  · have := encAll_le xs hg; omega
  · split
    · exact dictEnc_le xs hn hg
    · split
      · have := runsEnc_le _ xs (Nat.le_refl _) hg; omega
      · exact packedEnc_le t xs hn

set_option maxHeartbeats 1000000 in
theorem rPack_way (t how : Int) (a : Option Addr) (cap : Nat) (xs : List V) (w : World) (hbad : ¬ (way t how = true ∧ xs.length ≤ 64)) :
    Calls Tryd.prog 14 #[.int .i64 t, .int .i64 how, .slice a xs.length cap] w fun e w' => e = .returned (.tuple #[.string (str []), fault 1]) ∧ Below w.heap.size w w' := by
  have hb0 : Below w.heap.size w (w.alloc (.cells #[.int .i64 0, .int .i64 0, .int .i64 0, .int .i64 0, .int .i64 0] 30)) := (Below.refl _ _).alloc (Nat.le_refl _) _
  cases hway : way t how
  case' true => have h64 : (64 : Int) < (xs.length : Int) := by
                  have : ¬ xs.length ≤ 64 := fun h => hbad ⟨hway, h⟩
                  omega
  all_goals
    clear hbad
    go_enter Tryd.func14, Tryd.ntmps14
    go_wp2_with fail
    refine (rWay_any _ _ _).mono ?_
    rintro e w1 ⟨rfl, hw1⟩
    rw [hway]
    subst w1
    go_wp2_with fail
    refine (rBad_any _ _).mono ?_
    rintro e w2 ⟨rfl, hb2⟩
    obtain ⟨k1, k2⟩ := below_keep hb2
    have hb4 := below_then hb0 hb2
    go_wp2
    exact bodyPost_ret (v := .tuple #[.string (str []), fault 1]) (by simp [results, Tryd.results14, go_sem, k1]; rfl) rfl ⟨rfl, below_set5 hb4 (Nat.le_refl _) _ _ _ _ _⟩
end Go.Proofs.YtfgklnenpichcaaDoor

/-! What the document's own Pack answers where there is such a way and there are no more than 64 values. -/
namespace Go.Proofs.YtfgklnenpichcaaDoor
open Go.RowKit

set_option maxRecDepth 100000 in
set_option maxHeartbeats 2000000 in
theorem rPack_main (t how : Int) (a : Option Addr) (cap : Nat) (xs : List V) (w : World) (hx : Vals w a xs) (hway : way t how = true) (h64 : xs.length ≤ 64) :
    Calls Tryd.prog 14 #[.int .i64 t, .int .i64 how, .slice a xs.length cap] w fun e w' => e = .returned (.tuple #[.string (str (pOut t how xs).1), fault (pOut t how xs).2]) ∧ Below w.heap.size w w' := by
  have hb0 : Below w.heap.size w (w.alloc (.cells #[.int .i64 0, .int .i64 0, .int .i64 0, .int .i64 0, .int .i64 0] 30)) := (Below.refl _ _).alloc (Nat.le_refl _) _
  have hhow := way_cases t how hway
  have HNO : Hid (¬ okAll t xs → pOut t how xs = ([], 1)) := fun h => by
    unfold pOut
    rw [if_neg]
    rw [Bool.and_eq_true]; exact fun e => h ((okAllB_iff t xs).1 e.2)
  have HDI : Hid (okAll t xs → how = 1 → 16 < (uniq [] (heldOf xs)).length → pOut t how xs = ([], 2)) := fun h h1 h2 => by
    unfold pOut
    rw [if_pos (by rw [Bool.and_eq_true]; exact ⟨hway, (okAllB_iff t xs).2 h⟩), if_pos ⟨h1, h2⟩]
  have HOK : Hid (okAll t xs → ¬ (how = 1 ∧ 16 < (uniq [] (heldOf xs)).length) → pOut t how xs = (segEnc t how xs, 0)) := fun h h1 => by
    unfold pOut
    rw [if_pos (by rw [Bool.and_eq_true]; exact ⟨hway, (okAllB_iff t xs).2 h⟩), if_neg h1]
  generalize hw0 : w.alloc (.cells #[.int .i64 0, .int .i64 0, .int .i64 0, .int .i64 0, .int .i64 0] 30) = w0 at *
  have hf0 : ∀ o, w0.frozen? ⟨w.heap.size, o, none⟩ = false := by intro o; rw [← hw0]; simp
  have hcl : w.heap.size < w0.heap.size := by rw [← hw0]; simp
  have q0 : w0.cell? ⟨w.heap.size, 0, none⟩ = some (.int .i64 0) := by rw [← hw0]; simp
  have q1 : w0.cell? ⟨w.heap.size, 1, none⟩ = some (.int .i64 0) := by rw [← hw0]; simp
  have q2 : w0.cell? ⟨w.heap.size, 2, none⟩ = some (.int .i64 0) := by rw [← hw0]; simp
  have q3 : w0.cell? ⟨w.heap.size, 3, none⟩ = some (.int .i64 0) := by rw [← hw0]; simp
  have q4 : w0.cell? ⟨w.heap.size, 4, none⟩ = some (.int .i64 0) := by rw [← hw0]; simp
  go_enter Tryd.func14, Tryd.ntmps14
  go_wp2_with fail
  refine (rWay_any _ _ _).mono ?_
  rintro e w1 ⟨rfl, hw1⟩
  rw [hway]
  subst w1
  clear hw0
  go_wp2_with fail
  go_loopw [8, 9, 10, 11] (fun okv th lv i wr => ∃ k : Nat, k ≤ xs.length ∧ i = .int .i64 k ∧ (∃ b : Bool, okv = .bool b) ∧ OwnC wr w0.heap.size 4 th (((xs.take k).map fun v => v.k != 0).map Value.bool) ∧ OwnV wr w0.heap.size lv (heldOf (xs.take k)) ∧ (∀ x, th.ownBlock = some x → lv.ownBlock ≠ some x) ∧ Below w0.heap.size w0 wr ∧ Hid (∀ j (hj : j < xs.length), j < k → okB t xs[j].k xs[j].n xs[j].s = true)) (fun _ _ _ i _ => xs.length - (intOf i).toNat)
  case atStart => exact ⟨0, by omega, rfl, ⟨_, rfl⟩, OwnC.nil _ _ _, OwnV.nil _ _, by simp [Value.ownBlock], Below.refl _ _, fun j _ hj => absurd hj (Nat.not_lt_zero _)⟩
  case round =>
    obtain ⟨k, hk, rfl, ⟨b, rfl⟩, hth, hlv, hn3, hbw, hall⟩ := hrel
    have hs0 := hbw.size
    by_cases hlt : k < xs.length
    · obtain ⟨b1, o1, rfl, hb1, x1', x2', x3'⟩ := (hx.below hb0).at hlt
      have HC : Hid (∀ W, Below w0.heap.size w0 W → W.cell? ⟨b1, o1 + k * 3, none⟩ = some (.int .i64 xs[k].k) ∧ W.cell? ⟨b1, o1 + k * 3 + 1, none⟩ = some (.int .i64 xs[k].n) ∧ W.cell? ⟨b1, o1 + k * 3 + 2, none⟩ = some (.string xs[k].s)) := fun W hW =>
        ⟨(World.cell?_of_block (w := w0) (a := ⟨b1, _, none⟩) (hW.block b1 hb1)).trans x1', (World.cell?_of_block (w := w0) (a := ⟨b1, _, none⟩) (hW.block b1 hb1)).trans x2', (World.cell?_of_block (w := w0) (a := ⟨b1, _, none⟩) (hW.block b1 hb1)).trans x3'⟩
      clear x1' x2' x3'
      obtain ⟨x1, x2, x3⟩ := HC.out _ hbw
      cases ho : okB t xs[k].k xs[k].n xs[k].s
      · have HP : Hid (pOut t how xs = ([], 1)) := HNO.out fun h => by have := h.2 k hlt; rw [ho] at this; exact absurd this (by decide)
        go_wp2_with fail
        refine (rIs_any _ _ _ _ _).mono ?_
        rintro e w2 ⟨rfl, hb2⟩
        rw [ho]
        go_wp2_with fail
        refine (rBad_any _ _).mono ?_
        rintro e w3 ⟨rfl, hb3⟩
        have hb03 := below_then hbw (below_then hb2 hb3)
        obtain ⟨k1, k2⟩ := below_keep hb03
        have hb4 := below_then hb0 hb03
        go_wp2
        refine bodyPost_ret (v := .tuple #[.string (str []), fault 1]) (by simp [results, Tryd.results14, go_sem, k1, q0, q1, q2, q3, q4, hcl]; rfl) rfl ⟨?_, below_set5 hb4 (Nat.le_refl _) _ _ _ _ _⟩
        rw [HP.out]
      · have hsn : ((xs.take (k + 1)).map fun v => v.k != 0).map Value.bool = ((xs.take k).map fun v => v.k != 0).map Value.bool ++ [.bool (xs[k].k != 0)] := by
          rw [List.take_succ_eq_append_getElem hlt, List.map_append, List.map_append]; rfl
        have hts := heldOf_snoc (xs.take k) xs[k]
        rw [← List.take_succ_eq_append_getElem hlt] at hts
        have hle := heldOf_le (xs.take k)
        have hle2 : (xs.take k).length ≤ k := List.length_take_le _ _
        have hhl : (heldOf (xs.take k)).length ≤ 64 := by omega
        have hbl : (((xs.take k).map fun v => v.k != 0).map Value.bool).length ≤ 64 := by rw [List.length_map, List.length_map, List.length_take]; omega
        have HSN : Hid _ := hsn
        have HTS : Hid _ := hts
        have HO : Hid (okB t xs[k].k xs[k].n xs[k].s = true) := ho
        clear hsn hts hle hle2
        generalize ((xs.take k).map fun v => v.k != 0).map Value.bool = BL at *
        generalize heldOf (xs.take k) = HL at *
        go_wp2_with fail
        refine (rIs_any _ _ _ _ _).mono ?_
        rintro e w2 ⟨rfl, hb2⟩
        rw [ho]
        clear ho
        have hth2 := hth.below hb2
        have hlv2 := hlv.below hb2
        have hb02 := below_then hbw hb2
        have hs2 := hb02.size
        clear x1 x2 x3
        obtain ⟨y1, y2, y3⟩ := HC.out _ hb02
        have hthB := fun x hx => (owns_block hth2 (g := x) hx)
        have hlvB := fun x hx => (owns_block hlv2 (g := x) hx)
        by_cases h0 : xs[k].k = 0
        · have h0' : (xs[k].k != 0) = false := by simp [h0]
          have HT2 : Hid (heldOf (xs.take (k + 1)) = HL) := by show _ = _; rw [HTS.out, if_pos h0]
          have H0 : Hid (xs[k].k = 0) := h0
          clear h0
          go_wp2_with (at_builtin; go_must (refine wpList_append_C (by rfl) _ _ 51 4 _ 1 info_bool (by rfl) (by decide) (by kernel_rfl) (by rfl) w0.heap.size _ _ (by rfl) (hth2.alloc _) ⟨w2.heap.size, 0, none⟩ 1 [.bool false] (by rfl) (by exact news_one _ _ _) (by intro u hu; simp at hu; subst hu; rfl) (by simp only [List.length_cons, List.length_nil]; omega) (by simp; omega) ?_); intro sv' w3 h1 h2 h3; have hb03 := below_grown (below_alloc hb02 (.cells #[.bool false] 4)) h2 fun x hx => (hthB x hx).1; obtain ⟨z1, z2, z3⟩ := HC.out _ hb03)
          have hlv3 : OwnV w3 w0.heap.size u10 HL := owns_of_block (hlv2.alloc _) fun x hx => h2.block x (by have := (hlvB x hx).2; simp; omega) fun e => hn3 x e.symm hx
          go_roundw
          case rel =>
            refine ⟨k + 1, by omega, by go_num, ⟨_, rfl⟩, ?_, by rw [HT2.out]; exact hlv3, ?_, hb03, ?_⟩
            · rw [HSN.out]
              have : (xs[k].k != 0) = false := by simp [H0.out]
              rw [this]; exact h1
            · intro x hx e
              have hl := (hlvB x e).2
              rcases h3 with e3 | e3
              · exact hn3 x (e3.symm.trans hx) e
              · rw [e3] at hx; simp at hx; omega
            · intro j hj hjk
              by_cases e : j = k
              · subst e; exact HO.out
              · exact hall.out j hj (by omega)
          case measure => simp [intOf]; omega
        · have h0' : (xs[k].k != 0) = true := by simp [h0]
          have HT2 : Hid (heldOf (xs.take (k + 1)) = HL ++ [xs[k]]) := by show _ = _; rw [HTS.out, if_neg h0]
          have H0 : Hid (¬ xs[k].k = 0) := h0
          clear h0
          go_wp2_with (first
            | (at_builtin; refine wpList_append_C (by rfl) _ _ 51 4 _ 1 info_bool (by rfl) (by decide) (by kernel_rfl) (by rfl) w0.heap.size _ _ (by rfl) (hth2.alloc _) ⟨w2.heap.size, 0, none⟩ 1 [.bool true] (by rfl) (by exact news_one _ _ _) (by intro u hu; simp at hu; subst hu; rfl) (by simp only [List.length_cons, List.length_nil]; omega) (by simp; omega) ?_; intro sv' w3 h1 h2 h3; have hb03 := below_grown (below_alloc hb02 (.cells #[.bool true] 4)) h2 fun x hx => (hthB x hx).1; obtain ⟨z1, z2, z3⟩ := HC.out _ hb03; have hs3 := hb03.size; have hlv3 : OwnV w3 w0.heap.size u10 HL := owns_of_block (hlv2.alloc _) (fun x hx => h2.block x (by have := (hlvB x hx).2; simp; omega) fun e => hn3 x e.symm hx))
            | (at_builtin; refine wpList_append_V (by rfl) _ _ (by rfl) w0.heap.size _ _ (by rfl) (hlv3.alloc _) _ _ xs[k] (by rfl) (by refine ⟨?_, ?_, ?_⟩ <;> simp) (by omega) (by simp; omega) ?_; intro sv2 w4 g1 g2 g3))
          have hlv3B := fun x hx => (owns_block hlv3 (g := x) hx)
          have hsvB := fun x hx => (owns_block h1 (g := x) hx)
          have hdis : ∀ x, sv'.ownBlock = some x → u10.ownBlock ≠ some x := by
            intro x hx e
            have hl := (hlvB x e).2
            rcases h3 with e3 | e3
            · exact hn3 x (e3.symm.trans hx) e
            · rw [e3] at hx; simp at hx; omega
          go_roundw
          case rel =>
            refine ⟨k + 1, by omega, by go_num, ⟨_, rfl⟩, ?_, by rw [HT2.out]; exact g1, ?_, below_grown (below_alloc hb03 _) g2 fun x hx => (hlv3B x hx).1, ?_⟩
            · rw [HSN.out]
              have : (xs[k].k != 0) = true := by simp [H0.out]
              rw [this]
              exact owns_of_block (owns_alloc h1 _) fun x hx => g2.block x (by have := (hsvB x hx).2; simp; omega) fun e => hdis x hx e.symm
            · intro x hx e
              have hl := (hsvB x hx).2
              rcases g3 with e3 | e3
              · exact hdis x hx (e3.symm.trans e)
              · rw [e3] at e; simp at e; omega
            · intro j hj hjk
              by_cases e : j = k
              · subst e; exact HO.out
              · exact hall.out j hj (by omega)
          case measure => simp [intOf]; omega
    · have hok : okAll t xs := ⟨h64, fun j hj => hall.out j hj (by omega)⟩
      have e : xs.take k = xs := List.take_of_length_le (by omega)
      rw [e] at hth hlv
      clear e
      obtain ⟨a5, cap5, rfl, hc5⟩ := hth.cells
      obtain ⟨a6, cap6, rfl, hv6⟩ := hlv.vals
      have hhl : (heldOf xs).length ≤ 64 := by have := heldOf_le xs; omega
      have hgd := good_held t xs hok
      have hbl2 := bool_held t xs hok
      have hbe := bodyEnc_le t how (heldOf xs) hhl hgd
      have hzb : (str (bodyEnc t how (heldOf xs))).size ≤ 6000 := by rw [str_size]; exact hbe
      have hbl : (xs.map fun v => v.k != 0).length ≤ 64 := by simpa using h64
      have hpk := packBits_length (xs.map fun v => v.k != 0)
      have hzp : (str (packBits (xs.map fun v => v.k != 0))).size ≤ 100 := by rw [str_size, hpk]; omega
      have hs1 := str1_size
      have hse : str (segEnc t how xs) = str [low t] ++ str [low how] ++ str [low xs.length] ++ str (packBits (xs.map fun v => v.k != 0)) ++ str (bodyEnc t how (heldOf xs)) := by
        unfold segEnc headEnc
        rw [str_append, str_append, str_append, str_append]
        simp
      have HSE : Hid _ := hse
      have hdi := HDI.out hok
      have hokk := HOK.out hok
      rw [List.length_map]
      clear hse hbe hpk hth hlv hn3
      generalize (xs.map fun v => v.k != 0) = BL at *
      generalize heldOf xs = HL at *
      by_cases h1 : how = 1
      · subst h1
        go_wp2_with fail
        refine (rDifferent_any a6 cap6 HL _ hhl hv6).mono ?_
        rintro e w3 ⟨sv3, rfl, hown3, hb3⟩
        obtain ⟨a7, cap7, rfl, _⟩ := hown3.vals
        clear hown3
        have hb03 := below_then hbw hb3
        by_cases h16 : 16 < (uniq [] HL).length
        · have HP : Hid (pOut t 1 xs = ([], 2)) := hdi trivial h16
          clear hdi hokk
          have h16' : (16 : Int) < ((uniq [] HL).length : Int) := by omega
          generalize uniq [] HL = d at *
          go_wp2_with fail
          refine (rBad_any _ _).mono ?_
          rintro e w4 ⟨rfl, hb4⟩
          have hb04 := below_then hb03 hb4
          obtain ⟨k1, k2⟩ := below_keep hb04
          have hb4' := below_then hb0 hb04
          go_wp2
          refine bodyPost_ret (v := .tuple #[.string (str []), fault 2]) (by simp [results, Tryd.results14, go_sem, k1, q0, q1, q2, q3, q4, hcl]; rfl) rfl ⟨?_, below_set5 hb4' (Nat.le_refl _) _ _ _ _ _⟩
          rw [HP.out]
        · have HP : Hid (pOut t 1 xs = (segEnc t 1 xs, 0)) := hokk fun h => h16 h.2
          clear hdi hokk
          have h16' : ((uniq [] HL).length : Int) ≤ (16 : Int) := by omega
          generalize uniq [] HL = d at *
          replace hc5 := hc5.below hb3
          replace hv6 := hv6.below hb3
          go_wp2_with fail
          refine (byteOf_any _ _).mono ?_
          rintro e w4 ⟨rfl, hb4⟩
          go_wp2_with fail
          refine (byteOf_any _ _).mono ?_
          rintro e w5 ⟨rfl, hb5⟩
          go_wp2_with fail
          refine (byteOf_any _ _).mono ?_
          rintro e w6 ⟨rfl, hb6⟩
          have hb46 := below_then hb4 (below_then hb5 hb6)
          go_wp2_with fail
          refine (rBitsText_any a5 cap5 BL _ (by omega) (hc5.below hb46)).mono ?_
          rintro e w7 ⟨rfl, hb7⟩
          have hb47 := below_then hb46 hb7
          go_wp2_with fail
          refine (rBody_any t 1 a6 cap6 HL _ (.inr (.inl rfl)) hhl hgd hbl2 (hv6.below hb47)).mono ?_
          rintro e w8 ⟨rfl, hb8⟩
          go_wp2_with fail
          refine (rGood_any _).mono ?_
          rintro e w9 ⟨rfl, hb9⟩
          have hb09 := below_then hb03 (below_then hb47 (below_then hb8 hb9))
          obtain ⟨k1, k2⟩ := below_keep hb09
          have hb4' := below_then hb0 hb09
          generalize bodyEnc t 1 HL = BE at *
          go_wp2
          refine bodyPost_ret (v := .tuple #[.string (str [low t] ++ str [low 1] ++ str [low xs.length] ++ str (packBits BL) ++ str BE), fault 0]) (by simp [results, Tryd.results14, go_sem, k1, q0, q1, q2, q3, q4, hcl]) rfl ⟨?_, below_set5 hb4' (Nat.le_refl _) _ _ _ _ _⟩
          rw [HP.out]
          simp only
          rw [HSE.out]
      · have HP : Hid (pOut t how xs = (segEnc t how xs, 0)) := hokk fun h => h1 h.1
        have h1' : (how == 1) = false := by simp [h1]
        have HH : Hid (how = 0 ∨ how = 1 ∨ how = 2 ∨ how = 3) := hhow
        clear hdi hokk h1 hhow
        go_wp2_with fail
        refine (byteOf_any _ _).mono ?_
        rintro e w4 ⟨rfl, hb4⟩
        go_wp2_with fail
        refine (byteOf_any _ _).mono ?_
        rintro e w5 ⟨rfl, hb5⟩
        go_wp2_with fail
        refine (byteOf_any _ _).mono ?_
        rintro e w6 ⟨rfl, hb6⟩
        have hb46 := below_then hb4 (below_then hb5 hb6)
        go_wp2_with fail
        refine (rBitsText_any a5 cap5 BL _ (by omega) (hc5.below hb46)).mono ?_
        rintro e w7 ⟨rfl, hb7⟩
        have hb47 := below_then hb46 hb7
        go_wp2_with fail
        refine (rBody_any t how a6 cap6 HL _ HH.out hhl hgd hbl2 (hv6.below hb47)).mono ?_
        rintro e w8 ⟨rfl, hb8⟩
        go_wp2_with fail
        refine (rGood_any _).mono ?_
        rintro e w9 ⟨rfl, hb9⟩
        have hb09 := below_then hbw (below_then hb47 (below_then hb8 hb9))
        obtain ⟨k1, k2⟩ := below_keep hb09
        have hb4' := below_then hb0 hb09
        generalize bodyEnc t how HL = BE at *
        go_wp2
        refine bodyPost_ret (v := .tuple #[.string (str [low t] ++ str [low how] ++ str [low xs.length] ++ str (packBits BL) ++ str BE), fault 0]) (by simp [results, Tryd.results14, go_sem, k1, q0, q1, q2, q3, q4, hcl]) rfl ⟨?_, below_set5 hb4' (Nat.le_refl _) _ _ _ _ _⟩
        rw [HP.out]
        simp only
        rw [HSE.out]

theorem rPack_any (t how : Int) (a : Option Addr) (cap : Nat) (xs : List V) (w : World) (hx : Vals w a xs) :
    Calls Tryd.prog 14 #[.int .i64 t, .int .i64 how, .slice a xs.length cap] w fun e w' => e = .returned (.tuple #[.string (str (pOut t how xs).1), fault (pOut t how xs).2]) ∧ Below w.heap.size w w' := by
  by_cases h : way t how = true ∧ xs.length ≤ 64
  · exact rPack_main t how a cap xs w hx h.1 h.2
  · have e : pOut t how xs = ([], 1) := by
      unfold pOut
      rw [if_neg]
      rw [Bool.and_eq_true]
      exact fun e => h ⟨e.1, ((okAllB_iff t xs).1 e.2).1⟩
    rw [e]
    exact rPack_way t how a cap xs w h
end Go.Proofs.YtfgklnenpichcaaDoor
