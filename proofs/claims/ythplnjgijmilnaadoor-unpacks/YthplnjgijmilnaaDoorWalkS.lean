/- What the document's own answer makes of packed numbers: the least, the width, the differences' bits. -/
import Derived.Test.YthplnjgijmilnaaDoorWalkR
namespace Go.Proofs.YthplnjgijmilnaaDoor
open Go.RowKit

theorem bits_step (D k : Nat) : ((List.range (k + 1)).map fun b => D.testBit b) = ((List.range k).map fun b => D.testBit b) ++ [D / 2 ^ k % 2 == 1] := by
  rw [List.range_succ, List.map_append]
  simp only [List.map_cons, List.map_nil]
  rw [Nat.testBit_eq_decide_div_mod_eq]
  congr 2

set_option maxRecDepth 100000 in
set_option maxHeartbeats 2000000 in
theorem rPacked_int (t : Int) (a : Option Addr) (cap : Nat) (v : V) (l : List V) (w : World) (hn : (v :: l).length ≤ 64) (ht : ¬ t = 2) (hx : Vals w a (v :: l)) :
    Calls Tryd.prog 46 #[.int .i64 t, .slice a (v :: l).length cap] w fun e w' => e = .returned (.string (str (packedInt (v :: l)))) ∧ Below w.heap.size w w' := by
  have ht1 : (t == 2) = false := by simp [ht]
  clear ht
  have hpe : packedInt (v :: l) = le8 (u64 (leastFrom v.n (v :: l))) ++ [low (maxOf 0 ((difs (v :: l) (leastFrom v.n (v :: l))).map bitLen) : Nat)]
        ++ packBits (bitsOf (maxOf 0 ((difs (v :: l) (leastFrom v.n (v :: l))).map bitLen)) (difs (v :: l) (leastFrom v.n (v :: l)))) := by
    have e : maxOf 0 ((difs (v :: l) (leastFrom v.n (v :: l))).map bitLen) = bitLen (maxOf (dif v.n (leastFrom v.n (v :: l))) (difs l (leastFrom v.n (v :: l)))) := by
      rw [maxOf_bitLen]
      show maxOf 0 (bitLen _ :: (difs l _).map bitLen) = _
      simp only [maxOf]
      congr 1
      split <;> omega
    rw [e]; rfl
  have HPE : Hid _ := hpe
  clear hpe
  have hlt1 : (v :: l).take 1 = [v] := rfl
  have hv0 : (v :: l)[0]? = some v := rfl
  have hl0 : 0 < (v :: l).length := by simp
  have hlf1 : leastFrom v.n [v] = v.n := by simp [leastFrom]
  generalize v :: l = xs at *
  have HL1 : Hid (leastFrom v.n (xs.take 1) = v.n) := by rw [hlt1]; exact hlf1
  have hl1 : ((xs.length : Int) == 0) = false := by rw [beq_eq_false_iff_ne]; omega
  obtain ⟨b1, o1, rfl, hb1, z1, z2, z3⟩ := hx.at hl0
  rw [Nat.zero_mul, Nat.add_zero] at z1 z2 z3
  have hv1 : xs[0] = v := by rw [List.getElem?_eq_getElem hl0] at hv0; exact Option.some.inj hv0
  rw [hv1] at z2
  clear hlt1 hlf1 hv0 hv1 z1 z3
  generalize v.n = M at *
  go_enter Tryd.func46, Tryd.ntmps46
  go_wp2
  go_loop [7, 8] (fun q i => ∃ k : Nat, 1 ≤ k ∧ k ≤ xs.length ∧ i = .int .i64 k ∧ q = .int .i64 (leastFrom M (xs.take k))) (fun _ i => xs.length - (intOf i).toNat)
  case atStart => exact ⟨1, by omega, by omega, rfl, by rw [HL1.out]⟩
  case round =>
    obtain ⟨k, hk1, hk, rfl, rfl⟩ := hrel
    by_cases hlt : k < xs.length
    · obtain ⟨b2, o2, hbo, _, x1, x2, x3⟩ := hx.at hlt
      simp at hbo
      obtain ⟨rfl, rfl⟩ := hbo
      have hts := leastFrom_snoc (xs.take k) xs[k] M
      rw [← List.take_succ_eq_append_getElem hlt] at hts
      have HT : Hid _ := hts
      clear hts
      generalize leastFrom M (xs.take k) = q at *
      by_cases hc : xs[k].n < q
      · have HT2 : Hid (leastFrom M (xs.take (k + 1)) = xs[k].n) := by show _ = _; rw [HT.out, if_pos hc]
        go_wp2
        go_round
        case rel => exact ⟨k + 1, by omega, by omega, by go_num, by rw [HT2.out]⟩
        case measure => simp [intOf]; omega
      · have HT2 : Hid (leastFrom M (xs.take (k + 1)) = q) := by show _ = _; rw [HT.out, if_neg hc]
        go_wp2
        go_round
        case rel => exact ⟨k + 1, by omega, by omega, by go_num, by rw [HT2.out]⟩
        case measure => simp [intOf]; omega
    · have e : xs.take k = xs := List.take_of_length_le (by omega)
      rw [e]
      clear e
      generalize leastFrom M xs = q at *
      have hdl : (difs xs q).length = xs.length := by simp [difs]
      have hdk : ∀ j (hj : j < xs.length), (difs xs q)[j]'(by rw [hdl]; exact hj) = dif xs[j].n q := by intro j hj; simp [difs]
      have hdlt := difs_lt xs q
      generalize hDS : difs xs q = ds at *
      have HDS : Hid (difs xs q = ds) := hDS
      clear hDS
      have HWL : Hid (∀ n ∈ ds, bitLen n < 65) := fun n hn => by have := bitLen_le64 n (hdlt n hn); omega
      have HDL : Hid (ds.length = xs.length) := hdl
      have HDK : Hid (∀ j (hj : j < xs.length), ds[j]? = some (dif xs[j].n q)) := by
        intro j hj
        rw [List.getElem?_eq_getElem (by rw [hdl]; exact hj), hdk j hj]
      have HDB : Hid (∀ n ∈ ds, n < 18446744073709551616) := hdlt
      clear hdl hdk hdlt
      go_wp2
      go_loop [9, 10] (fun wd i => ∃ j : Nat, j ≤ xs.length ∧ i = .int .i64 j ∧ wd = .int .i64 (maxOf 0 ((ds.take j).map bitLen) : Nat)) (fun _ i => xs.length - (intOf i).toNat)
      case atStart => exact ⟨0, by omega, rfl, rfl⟩
      case round =>
        obtain ⟨j, hj, rfl, rfl⟩ := hrel
        by_cases hlj : j < xs.length
        · obtain ⟨b2, o2, hbo, _, x1, x2, x3⟩ := hx.at hlj
          simp at hbo
          obtain ⟨rfl, rfl⟩ := hbo
          have hdj := HDK.out j hlj
          have hlj' : j < ds.length := by rw [HDL.out]; exact hlj
          have hmem : ds[j] ∈ ds := List.getElem_mem hlj'
          have hdj2 : ds[j] = dif xs[j].n q := by rw [List.getElem?_eq_getElem hlj'] at hdj; exact Option.some.inj hdj
          have hsn : (ds.take (j + 1)).map bitLen = (ds.take j).map bitLen ++ [bitLen ds[j]] := by rw [List.take_succ_eq_append_getElem hlj', List.map_append]; rfl
          have hmx : maxOf 0 ((ds.take (j + 1)).map bitLen) = if maxOf 0 ((ds.take j).map bitLen) < bitLen ds[j] then bitLen ds[j] else maxOf 0 ((ds.take j).map bitLen) := by rw [hsn, maxOf_snoc]
          have hwm : maxOf 0 ((ds.take j).map bitLen) < 65 := maxOf_lt 65 _ 0 (by decide) fun n hn => by
            obtain ⟨y, hy, rfl⟩ := List.mem_map.1 hn
            exact HWL.out y (List.mem_of_mem_take hy)
          have hD65 := HWL.out _ hmem
          have hDlt := HDB.out _ hmem
          rw [hdj2] at hmx hD65 hDlt
          have HMX : Hid _ := hmx
          have hwd := wrap_dif xs[j].n q
          have HWD : Hid _ := hwd
          clear hmx hsn hdj hdj2 hmem hwd
          generalize maxOf 0 ((ds.take j).map bitLen) = WM at *
          go_wp2
          rw [HWD.out]
          generalize dif xs[j].n q = D at *
          go_loop [11, 12] (fun wc u => ∃ c : Nat, c ≤ bitLen D ∧ wc = .int .i64 c ∧ u = .int .u64 (D / 2 ^ c : Nat)) (fun _ u => (intOf u).toNat)
          case atStart => exact ⟨0, by omega, rfl, by simp⟩
          case round =>
            obtain ⟨c, hc, rfl, rfl⟩ := hrel
            have hle : D / 2 ^ c ≤ D := Nat.div_le_self _ _
            have hst := bitLen_step D c
            have hen := bitLen_end D c hc
            have hdd : D / 2 ^ (c + 1) = D / 2 ^ c / 2 := by rw [Nat.pow_succ, Nat.div_div_eq_div_mul]
            have HST : Hid _ := hst
            have HEN : Hid _ := hen
            have HDD : Hid _ := hdd
            clear hst hen hdd
            generalize D / 2 ^ c = U at *
            by_cases hU : 0 < U
            · have HS2 := HST.out hU
              go_wp2
              go_round
              case rel => exact ⟨c + 1, by omega, by go_num, by rw [HDD.out]; go_num⟩
              case measure => simp [intOf]; omega
            · have hce : c = bitLen D := HEN.out (by omega)
              subst hce
              by_cases hgt : WM < bitLen D
              · have HM2 : Hid (maxOf 0 ((ds.take (j + 1)).map bitLen) = bitLen D) := by show _ = _; rw [HMX.out, if_pos hgt]
                generalize bitLen D = c at *
                go_wp2
                go_round
                case rel => exact ⟨j + 1, by omega, by go_num, by rw [HM2.out]⟩
                case measure => simp [intOf]; omega
              · have HM2 : Hid (maxOf 0 ((ds.take (j + 1)).map bitLen) = WM) := by show _ = _; rw [HMX.out, if_neg hgt]
                generalize bitLen D = c at *
                go_wp2
                go_round
                case rel => exact ⟨j + 1, by omega, by go_num, by rw [HM2.out]⟩
                case measure => simp [intOf]; omega
        · have e : ds.take j = ds := List.take_of_length_le (by rw [HDL.out]; omega)
          rw [e]
          clear e
          have hwm : maxOf 0 (ds.map bitLen) < 65 := maxOf_lt 65 _ 0 (by decide) fun n hn => by
            obtain ⟨y, hy, rfl⟩ := List.mem_map.1 hn
            exact HWL.out y hy
          generalize maxOf 0 (ds.map bitLen) = wd at *
          go_wp2
          go_loopw [5, 13] (fun sv i wr => ∃ p : Nat, p ≤ xs.length ∧ i = .int .i64 p ∧ OwnC wr w.heap.size 4 sv ((bitsOf wd (ds.take p)).map Value.bool) ∧ Below w.heap.size w wr) (fun _ i _ => xs.length - (intOf i).toNat)
          case atStart => exact ⟨0, by omega, rfl, OwnC.nil _ _ _, Below.refl _ _⟩
          case round =>
            obtain ⟨p, hp, rfl, hown, hbw⟩ := hrel
            rename World => w1
            by_cases hlp : p < xs.length
            · obtain ⟨b2, o2, hbo, hb2, x1, x2, x3⟩ := (hx.below hbw).at hlp
              simp at hbo
              obtain ⟨rfl, rfl⟩ := hbo
              have hdj := HDK.out p hlp
              have hlp' : p < ds.length := by rw [HDL.out]; exact hlp
              have hmem : ds[p] ∈ ds := List.getElem_mem hlp'
              have hdj2 : ds[p] = dif xs[p].n q := by rw [List.getElem?_eq_getElem hlp'] at hdj; exact Option.some.inj hdj
              have hsn : bitsOf wd (ds.take (p + 1)) = bitsOf wd (ds.take p) ++ (List.range wd).map fun b => ds[p].testBit b := by rw [List.take_succ_eq_append_getElem hlp', bitsOf_snoc]
              have hDlt := HDB.out _ hmem
              rw [hdj2] at hsn hDlt
              have hbl : (bitsOf wd (ds.take p)).length ≤ 5000 := by
                rw [bitsOf_length, List.length_take]
                have : wd * min p ds.length ≤ 64 * 64 := Nat.mul_le_mul (by omega) (by omega)
                omega
              have HSN : Hid _ := hsn
              have hwd2 := wrap_dif xs[p].n q
              have HWD : Hid _ := hwd2
              clear hsn hdj hdj2 hmem hwd2
              generalize bitsOf wd (ds.take p) = BL at *
              go_wp2
              rw [HWD.out]
              generalize dif xs[p].n q = D at *
              go_loopw [5, 14, 15] (fun sv u kk wr => ∃ c : Nat, c ≤ wd ∧ kk = .int .i64 c ∧ u = .int .u64 (D / 2 ^ c : Nat) ∧ OwnC wr w.heap.size 4 sv ((BL ++ (List.range c).map fun b => D.testBit b).map Value.bool) ∧ Below w.heap.size w wr) (fun _ _ kk _ => wd - (intOf kk).toNat)
              case atStart => exact ⟨0, by omega, rfl, by simp, by simpa using hown, hbw⟩
              case round =>
                clear hown hbw x1 x2 x3 hb2
                obtain ⟨c, hc, rfl, rfl, hown, hbw⟩ := hrel
                have hsw := hbw.size
                by_cases hlc : c < wd
                · have hbs := bits_step D c
                  have HBS : Hid _ := hbs
                  have hle : D / 2 ^ c ≤ D := Nat.div_le_self _ _
                  have hdd : D / 2 ^ (c + 1) = D / 2 ^ c / 2 := by rw [Nat.pow_succ, Nat.div_div_eq_div_mul]
                  have HDD : Hid _ := hdd
                  have hbl2 : ((BL ++ (List.range c).map fun b => D.testBit b).map Value.bool).length ≤ 6000 := by simp; omega
                  clear hbs hdd
                  generalize (List.range c).map (fun b => D.testBit b) = RB at *
                  generalize D / 2 ^ c = U at *
                  go_wp2_with (at_builtin; go_must (refine wpList_append_C (by rfl) _ _ 51 4 _ 1 info_bool (by rfl) (by decide) (by kernel_rfl) (by rfl) w.heap.size _ _ (by rfl) (hown.alloc _) ⟨wr.heap.size, 0, none⟩ 1 [.bool ((U : Int) % 2 == 1)] (by rfl) (by exact news_one _ _ _) (by intro u hu; simp at hu; subst hu; rfl) (by simp only [List.length_cons, List.length_nil]; omega) (by simp; omega) ?_); intro sv' w5 h1 h2 h3)
                  go_roundw
                  case rel =>
                    refine ⟨c + 1, by omega, by go_num, by rw [HDD.out]; go_num, ?_, below_grown (below_alloc hbw _) h2 fun k hk => (owns_block hown hk).1⟩
                    have e1 : ((U : Int) % 2 == 1) = (U % 2 == 1) := by rw [Bool.eq_iff_iff]; simp; omega
                    rw [HBS.out, ← List.append_assoc, List.map_append]
                    rw [e1] at h1
                    exact h1
                  case measure => simp [intOf]; omega
                · have hce : c = wd := by omega
                  subst hce
                  go_wp2
                  go_roundw
                  case rel => exact ⟨p + 1, by omega, by go_num, by rw [HSN.out]; exact hown, hbw⟩
                  case measure => simp [intOf]; omega
            · have e : ds.take p = ds := List.take_of_length_le (by rw [HDL.out]; omega)
              rw [e] at hown
              obtain ⟨a5, cap5, rfl, hc5⟩ := hown.cells
              have hbl : (bitsOf wd ds).length ≤ 5000 := by
                rw [bitsOf_length, HDL.out]
                have : wd * xs.length ≤ 64 * 64 := Nat.mul_le_mul (by omega) hn
                omega
              have hpk := packBits_length (bitsOf wd ds)
              have hz2 : (str (packBits (bitsOf wd ds))).size ≤ 1000 := by rw [str_size, hpk]; omega
              have hz3 : (str (le8 (Go.Proofs.YthplnjgijmilnaaDoor.u64 q))).size = 8 := by rw [str_size, le8_length]
              have hs1 := str1_size
              rw [List.length_map]
              clear e hpk
              generalize bitsOf wd ds = BL at *
              go_wp2_with fail
              refine (rLong_any q _).mono ?_
              rintro e w5 ⟨rfl, hb5⟩
              generalize le8 (Go.Proofs.YthplnjgijmilnaaDoor.u64 q) = L8 at *
              go_wp2_with fail
              refine (byteOf_any _ _).mono ?_
              rintro e w6 ⟨rfl, hb6⟩
              have hc6 := (hc5.below hb5).below hb6
              go_wp2_with fail
              refine (rBitsText_any a5 cap5 BL _ (by omega) hc6).mono ?_
              rintro e w7 ⟨rfl, hb7⟩
              go_wp2
              go_ret
              refine ⟨?_, below_then hbw (below_then hb5 (below_then hb6 hb7))⟩
              rw [HPE.out, ← str_append, ← str_append]
              rfl
end Go.Proofs.YthplnjgijmilnaaDoor
