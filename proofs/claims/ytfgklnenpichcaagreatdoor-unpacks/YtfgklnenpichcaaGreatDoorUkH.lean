/- The document's Unpack. -/
import Derived.Test.YtfgklnenpichcaaGreatDoorUkE
import Derived.Test.YtfgklnenpichcaaGreatDoorKf
import Derived.Test.YtfgklnenpichcaaGreatDoorKk
import Derived.Deep.CutBlock
namespace Go.Proofs.YtfgklnenpichcaaGreatDoor
open Go.RowKit

/-- Which of the first k values are there. -/
def HS (R : List UInt8) (k : Nat) : List Nat := (List.range k).map fun i => if bitAt R i then 1 else 0
theorem HS_length (R : List UInt8) (k : Nat) : (HS R k).length = k := by simp [HS]
theorem HS_succ (R : List UInt8) (k : Nat) : HS R (k + 1) = HS R k ++ [if bitAt R k then 1 else 0] := by simp [HS, List.range_succ]
theorem HS_fields {n : Nat} {R r2 : List UInt8} {hs : List Nat} (h : rdFields 1 n R = some (hs, r2)) : hs = HS R n ∧ r2 = R.drop ((n + 7) / 8) := by
  refine ⟨?_, ?_⟩
  · rw [fol_fields h]
    unfold HS
    apply List.map_congr_left
    intro i _
    simp [bitsTo]
  · unfold rdFields at h
    cases hr : rdTake ((1 * n + 7) / 8) R with
    | none => rw [hr] at h; simp at h
    | some x =>
      rw [hr] at h
      simp at h
      rw [← h.2, ← (fol_take hr).2, Nat.one_mul]
theorem among_in (hs : List Nat) : ∀ l : List V, (∀ v ∈ l, inI64 v.n) → ∀ v ∈ among hs l, inI64 v.n := by
  have h0 : inI64 zeroV.n := by show inI64 0; unfold inI64; omega
  induction hs with
  | nil => intro l _ v hv; simp [among] at hv
  | cons h hs ih =>
    intro l hl v hv
    unfold among at hv
    split at hv
    · rcases List.mem_cons.1 hv with rfl | hv
      · cases l with
        | nil => exact h0
        | cons u l => exact hl u (by simp)
      · exact ih l.tail (fun u hu => hl u (List.mem_of_mem_tail hu)) v hv
    · rcases List.mem_cons.1 hv with rfl | hv
      · exact h0
      · exact ih l hl v hv

theorem rdHead_hd {bs r : List UInt8} {t how n : Nat} (h : rdHead bs = some ((t, how, n), r)) : t = hd bs ∧ how = hd (bs.drop 1) ∧ n = hd (bs.drop 2) ∧ r = bs.drop 3 := by
  match bs, h with
  | b0 :: b1 :: b2 :: rest, h =>
    simp only [rdHead] at h
    split at h
    · simp only [Option.some.injEq, Prod.mk.injEq] at h
      obtain ⟨⟨rfl, rfl, rfl⟩, rfl⟩ := h
      exact ⟨rfl, rfl, rfl, rfl⟩
    · simp at h
theorem pRead_fol {bs : List UInt8} {t how : Nat} {vs : List V} (h : pRead bs = some (t, how, vs)) :
    t = hd bs ∧ how = hd (bs.drop 1) ∧ way (hd bs : Nat) (hd (bs.drop 1) : Nat) = true ∧ hd (bs.drop 2) ≤ 64 ∧ pOut (hd bs : Nat) (hd (bs.drop 1) : Nat) vs = (bs, 0) ∧
      ∃ x r2, rdBody (hd bs : Nat) (hd (bs.drop 1) : Nat) (ones (HS (bs.drop 3) (hd (bs.drop 2)))) (bs.drop (3 + (hd (bs.drop 2) + 7) / 8)) = some (x, r2) ∧ vs = among (HS (bs.drop 3) (hd (bs.drop 2))) x := by
  unfold pRead at h
  cases hh : rdHead bs with
  | none => rw [hh] at h; simp at h
  | some y =>
    obtain ⟨⟨t', how', n⟩, r⟩ := y
    rw [hh] at h
    simp only at h
    obtain ⟨hw, hn⟩ := rdHead_way hh
    obtain ⟨rfl, rfl, rfl, rfl⟩ := rdHead_hd hh
    cases hv : rdVals (hd bs : Nat) (hd (bs.drop 1) : Nat) (hd (bs.drop 2)) (bs.drop 3) with
    | none => rw [hv] at h; simp at h
    | some z =>
      obtain ⟨us, r2⟩ := z
      rw [hv] at h
      simp only at h
      split at h
      · rename_i hp
        simp only [Option.some.injEq, Prod.mk.injEq] at h
        obtain ⟨rfl, rfl, rfl⟩ := h
        refine ⟨rfl, rfl, hw, hn, hp, ?_⟩
        unfold rdVals at hv
        cases hf : rdFields 1 (hd (bs.drop 2)) (bs.drop 3) with
        | none => rw [hf] at hv; simp at hv
        | some q =>
          obtain ⟨hs, r4⟩ := q
          rw [hf] at hv
          simp only at hv
          obtain ⟨rfl, rfl⟩ := HS_fields hf
          rw [List.drop_drop] at hv
          cases hb : rdBody (hd bs : Nat) (hd (bs.drop 1) : Nat) (ones (HS (bs.drop 3) (hd (bs.drop 2)))) (bs.drop (3 + (hd (bs.drop 2) + 7) / 8)) with
          | none => rw [hb] at hv; simp at hv
          | some x =>
            rw [hb] at hv
            simp at hv
            exact ⟨x.1, x.2, rfl, hv.1.symm⟩
      · simp at h

theorem not_unary (x : Bool) (w : World) : (Op.unary .not (.bool x)).run Tryz.prog w = .ok (.bool (!x)) w := rfl

set_option maxRecDepth 100000 in
set_option maxHeartbeats 400000 in
theorem rUnpack_any (bs : List UInt8) (w : World) (hl : bs.length ≤ maxLen) :
    Calls Tryz.prog 24 #[.string (str bs)] w fun e w' => Below w.heap.size w w' ∧ ((pRead bs = none ∧ e = .returned (.tuple #[.int .i64 0, .slice none 0 0, fault 3])) ∨
      ∃ t how vs a cap, pRead bs = some (t, how, vs) ∧ e = .returned (.tuple #[.int .i64 (t : Nat), .slice a vs.length cap, fault 0]) ∧ Vals w' a vs ∧ ∀ b o, a = some ⟨b, o, none⟩ → w.heap.size ≤ b) := by
  have hb0 : Below w.heap.size w (w.alloc (.cells #[.int .i64 0, .int .i64 0, .int .i64 0, .int .i64 0, .int .i64 0] 43)) := (Below.refl _ _).alloc (Nat.le_refl _) _
  have hs00 : (w.alloc (.cells #[.int .i64 0, .int .i64 0, .int .i64 0, .int .i64 0, .int .i64 0] 43)).heap.size = w.heap.size + 1 := by simp
  have hF : (∀ i, i < 5 → (w.alloc (.cells #[.int .i64 0, .int .i64 0, .int .i64 0, .int .i64 0, .int .i64 0] 43)).cell? ⟨w.heap.size, i, none⟩ = some (.int .i64 0)) ∧ ∀ i, (w.alloc (.cells #[.int .i64 0, .int .i64 0, .int .i64 0, .int .i64 0, .int .i64 0] 43)).frozen? ⟨w.heap.size, i, none⟩ = false := by
    refine ⟨fun i hi => ?_, fun i => by simp⟩
    rcases (show i = 0 ∨ i = 1 ∨ i = 2 ∨ i = 3 ∨ i = 4 by omega) with rfl | rfl | rfl | rfl | rfl <;> simp
  have HF : Hid _ := hF
  clear hF
  have hnot := not_unary
  go_enter Tryz.func24, Tryz.ntmps24
  go_wp2_with fail
  obtain ⟨G, hG⟩ : ∃ G, G = w.heap.size + 1 := ⟨_, rfl⟩
  have hA0 : EAt ((w.alloc (.cells #[.int .i64 0, .int .i64 0, .int .i64 0, .int .i64 0, .int .i64 0] 43)).alloc (.cells #[.string (str bs), .int .i64 0] 85)) G bs 0 := by
    refine ⟨?_, hl⟩
    have := heap_alloc_new (w.alloc (.cells #[.int .i64 0, .int .i64 0, .int .i64 0, .int .i64 0, .int .i64 0] 43)) (.cells #[.string (str bs), .int .i64 0] 85)
    rw [hs00, ← hG] at this
    exact this
  have hb01 : Below (w.alloc (.cells #[.int .i64 0, .int .i64 0, .int .i64 0, .int .i64 0, .int .i64 0] 43)).heap.size (w.alloc (.cells #[.int .i64 0, .int .i64 0, .int .i64 0, .int .i64 0, .int .i64 0] 43)) ((w.alloc (.cells #[.int .i64 0, .int .i64 0, .int .i64 0, .int .i64 0, .int .i64 0] 43)).alloc (.cells #[.string (str bs), .int .i64 0] 85)) := (Below.refl _ _).alloc (Nat.le_refl _) _
  rw [← hG]
  generalize w.alloc (.cells #[.int .i64 0, .int .i64 0, .int .i64 0, .int .i64 0, .int .i64 0] 43) = w00 at *
  generalize w00.alloc (.cells #[.string (str bs), .int .i64 0] 85) = w01 at *
  have hBG : w00.heap.size ≤ G := by omega
  have hFw : w.heap.size < w00.heap.size := by omega
  clear hG hs00
  have hs01 := hb01.size
  have HPF : Hid (∀ t how vs, pRead bs = some (t, how, vs) → t = hd bs ∧ how = hd (bs.drop 1) ∧ way (hd bs : Nat) (hd (bs.drop 1) : Nat) = true ∧ hd (bs.drop 2) ≤ 64 ∧ pOut (hd bs : Nat) (hd (bs.drop 1) : Nat) vs = (bs, 0) ∧
      ∃ x r2, rdBody (hd bs : Nat) (hd (bs.drop 1) : Nat) (ones (HS (bs.drop 3) (hd (bs.drop 2)))) (bs.drop (3 + (hd (bs.drop 2) + 7) / 8)) = some (x, r2) ∧ vs = among (HS (bs.drop 3) (hd (bs.drop 2))) x) := fun t how vs h => pRead_fol h
  have hl0 := hd_lt bs
  have hl1 := hd_lt (bs.drop 1)
  have hl2 := hd_lt (bs.drop 2)
  have hx0 : ∀ W, EAt W G bs 0 → Calls Tryz.prog 41 #[.pointer (some ⟨G, 0, none⟩)] W fun e w' => e = .returned (.int .i64 (hd bs : Nat)) ∧ EAt w' G bs (0 + 1) ∧ RKeep W w' G := fun W h => eNext_any G bs 0 W h (by omega)
  have hx1 : ∀ W, EAt W G bs 1 → Calls Tryz.prog 41 #[.pointer (some ⟨G, 0, none⟩)] W fun e w' => e = .returned (.int .i64 (hd (bs.drop 1) : Nat)) ∧ EAt w' G bs (1 + 1) ∧ RKeep W w' G := fun W h => eNext_any G bs 1 W h (by omega)
  have hx2 : ∀ W, EAt W G bs 2 → Calls Tryz.prog 41 #[.pointer (some ⟨G, 0, none⟩)] W fun e w' => e = .returned (.int .i64 (hd (bs.drop 2) : Nat)) ∧ EAt w' G bs (2 + 1) ∧ RKeep W w' G := fun W h => eNext_any G bs 2 W h (by omega)
  generalize hd bs = n0 at *
  generalize hd (bs.drop 1) = n1 at *
  generalize hd (bs.drop 2) = n2 at *
  refine (hx0 w01 hA0).mono ?_
  rintro e w1 ⟨rfl, hA1, hk1⟩
  have hb1 := hb01.trans (hk1.below hBG (by omega))
  have hs1 := hb1.size
  clear hA0 hb01 hk1 hx0
  go_wp2_with fail
  refine (hx1 w1 hA1).mono ?_
  rintro e w2 ⟨rfl, hA2, hk2⟩
  have hb2 := hb1.trans (hk2.below hBG (by omega))
  have hs2 := hb2.size
  clear hA1 hk2 hx1
  go_wp2_with fail
  refine (hx2 w2 hA2).mono ?_
  rintro e w3 ⟨rfl, hA3, hk3⟩
  have hb3 := hb2.trans (hk3.below hBG (by omega))
  have hs3 := hb3.size
  clear hA2 hk3 hb1 hb2 hx2
  go_wp2_with fail
  refine (rWay_any (n0 : Int) (n1 : Int) w3).mono ?_
  rintro e w3' ⟨rfl, hw3⟩
  subst w3'
  cases hway : way (n0 : Int) (n1 : Int)
  · have HNONE : Hid (pRead bs = none) := by
      cases hp : pRead bs with
      | none => rw [Hid]
      | some x =>
        obtain ⟨t, how, vs⟩ := x
        have := (HPF.out t how vs hp).2.2.1
        rw [hway] at this
        simp at this
    clear hway
    go_wp2_with fail
    refine (rBad_any 3 w3).mono ?_
    rintro e w4 ⟨rfl, hb4⟩
    obtain ⟨k1, k2⟩ := below_keep (below_then hb3 hb4)
    have hbf := below_then hb0 (below_then hb3 hb4)
    have f0 := (k1 w.heap.size 0 (by omega)).trans (HF.out.1 0 (by omega))
    have f1 := (k1 w.heap.size 1 (by omega)).trans (HF.out.1 1 (by omega))
    have f2 := (k1 w.heap.size 2 (by omega)).trans (HF.out.1 2 (by omega))
    have f3 := (k1 w.heap.size 3 (by omega)).trans (HF.out.1 3 (by omega))
    have f4 := (k1 w.heap.size 4 (by omega)).trans (HF.out.1 4 (by omega))
    have g0 := fun i => (k2 w.heap.size i (by omega)).trans (HF.out.2 i)
    clear k1 k2
    go_wp2
    exact bodyPost_ret (v := .tuple #[.int .i64 0, .slice none 0 0, fault 3]) (by simp [results, Tryz.results24, go_sem, f0, f1, f2, f3, f4]) rfl ⟨below_set5 hbf (Nat.le_refl _) _ _ _ _ _, .inl ⟨HNONE.out, rfl⟩⟩
  by_cases h64 : 64 < n2
  · have h64' : (64 : Int) < (n2 : Int) := by omega
    have HNONE : Hid (pRead bs = none) := by
      cases hp : pRead bs with
      | none => rw [Hid]
      | some x =>
        obtain ⟨t, how, vs⟩ := x
        have := (HPF.out t how vs hp).2.2.2.1
        omega
    go_wp2_with fail
    refine (rBad_any 3 w3).mono ?_
    rintro e w4 ⟨rfl, hb4⟩
    obtain ⟨k1, k2⟩ := below_keep (below_then hb3 hb4)
    have hbf := below_then hb0 (below_then hb3 hb4)
    have f0 := (k1 w.heap.size 0 (by omega)).trans (HF.out.1 0 (by omega))
    have f1 := (k1 w.heap.size 1 (by omega)).trans (HF.out.1 1 (by omega))
    have f2 := (k1 w.heap.size 2 (by omega)).trans (HF.out.1 2 (by omega))
    have f3 := (k1 w.heap.size 3 (by omega)).trans (HF.out.1 3 (by omega))
    have f4 := (k1 w.heap.size 4 (by omega)).trans (HF.out.1 4 (by omega))
    have g0 := fun i => (k2 w.heap.size i (by omega)).trans (HF.out.2 i)
    clear k1 k2
    go_wp2
    exact bodyPost_ret (v := .tuple #[.int .i64 0, .slice none 0 0, fault 3]) (by simp [results, Tryz.results24, go_sem, f0, f1, f2, f3, f4]) rfl ⟨below_set5 hbf (Nat.le_refl _) _ _ _ _ _, .inl ⟨HNONE.out, rfl⟩⟩
  have HWAY : Hid _ := hway
  clear hway
  have h64' : ¬ (64 : Int) < (n2 : Int) := by omega
  go_wp2_with fail
  refine (eBits_any G bs 3 n2 w3 hA3 (by omega) (by omega)).mono ?_
  rintro e w4 ⟨svb, rfl, hownb, hA4, hk4⟩
  have hGl := hA3.lt
  have hb4 := hb3.trans (hk4.below hBG hs3)
  have hs4 := hb4.size
  have hs34 := hk4.size
  have hblkb := fun b hb => owns_block hownb (g := b) hb
  obtain ⟨ab, capb, rfl, hcb⟩ := hownb.cells
  rw [bitsL_length]
  have hneb : ∀ b o, ab = some ⟨b, o, none⟩ → b ≠ G := fun b o e => by
    have := (hblkb b (by rw [e]; rfl)).1
    omega
  clear hownb hblkb hA3 hk4 hb3
  have hbk : ∀ R : List UInt8, ∀ k (hk : k < n2), (bitsL R n2)[k]'(by rw [bitsL_length]; exact hk) = .bool (bitAt R k) := fun R k hk => by simp [bitsL]
  have HBK : Hid _ := hbk
  clear hbk
  generalize bs.drop 3 = R at *
  go_wp2_with fail
  go_loopw [11, 12] (fun mm i wr => ∃ k : Nat, k ≤ n2 ∧ i = .int .i64 k ∧ mm = .int .i64 (ones (HS R k) : Nat) ∧ wr = w4) (fun _ i _ => n2 - (intOf i).toNat)
  case atStart => exact ⟨0, by omega, rfl, rfl, rfl⟩
  case round =>
    obtain ⟨k, hk, rfl, rfl, rfl⟩ := hrel
    have hok := ones_le (HS R k)
    rw [HS_length] at hok
    by_cases hlt : k < n2
    · obtain ⟨b1, o1, rfl, hb1, c1⟩ := hcb.at (i := k) (by rw [bitsL_length]; exact hlt)
      rw [HBK.out R k hlt] at c1
      have hsn := ones_snoc (HS R k) (if bitAt R k then 1 else 0)
      rw [← HS_succ] at hsn
      have HSN : Hid _ := hsn
      clear hsn
      generalize bitAt R k = bb at *
      generalize ones (HS R k) = O at *
      cases bb
      · go_wp2
        go_roundw
        case rel => exact ⟨k + 1, by omega, by go_num, by rw [HSN.out]; simp, trivial⟩
        case measure => simp [intOf]; omega
      · go_wp2
        go_roundw
        case rel => exact ⟨k + 1, by omega, by go_num, by rw [HSN.out]; simp, trivial⟩
        case measure => simp [intOf]; omega
    · have hkn : k = n2 := by omega
      subst hkn
      have hbo := HPF.out
      generalize hM : ones (HS R k) = M at *
      go_wp2_with fail
      refine (eValues_any G (n0 : Int) (n1 : Int) bs (3 + (k + 7) / 8) M wr hA4 (by omega) HWAY.out (by omega)).mono ?_
      rintro e w5 ⟨svl, l, rfl, hownl, hll, hin, hk5, hf⟩
      have HACC : Hid (∀ t how vs, pRead bs = some (t, how, vs) → vs = among (HS R k) l ∧ pOut (n0 : Nat) (n1 : Nat) vs = (bs, 0)) := fun t how vs hp => by
        obtain ⟨_, _, _, _, h5, x, r2, h6, h7⟩ := hbo t how vs hp
        have := hf x r2 h6
        subst this
        exact ⟨h7, h5⟩
      have HIN : Hid (∀ v ∈ among (HS R k) l, inI64 v.n) := among_in _ l hin
      clear hbo hf hin hM
      have hcb5 : Cells w5 ab (bitsL R k) := hcb.of_block hk5.size fun b o e hlt => hk5.block b hlt (hneb b o e)
      obtain ⟨al, capl, rfl, hvl⟩ := hownl.vals
      have hb5 := hb4.trans (hk5.below hBG hs4)
      have hs5 := hb5.size
      clear hcb hownl hk5 hb4 hneb
      go_wp2_with fail
      go_loopw [14, 15, 16] (fun sv kk i wr => ∃ j : Nat, j ≤ k ∧ i = .int .i64 j ∧ kk = .int .i64 ((min (ones (HS R j)) l.length : Nat) : Int) ∧ OwnV wr w5.heap.size sv (among (HS R j) l) ∧ Below w5.heap.size w5 wr) (fun _ _ i _ => k - (intOf i).toNat)
      case atStart => exact ⟨0, by omega, rfl, by simp [HS, ones], OwnV.nil _ _, Below.refl _ _⟩
      case round =>
        obtain ⟨j, hj, rfl, rfl, hown, hbw⟩ := hrel
        by_cases hlt : j < k
        · obtain ⟨b1, o1, rfl, hb1, c1⟩ := (hcb5.below hbw).at (i := j) (by rw [bitsL_length]; exact hlt)
          rw [HBK.out R j hlt] at c1
          have hsn := among_snoc (HS R j) (if bitAt R j then 1 else 0) l
          have hos := ones_snoc (HS R j) (if bitAt R j then 1 else 0)
          rw [← HS_succ] at hsn hos
          have hlen : (among (HS R j) l).length ≤ 64 := by rw [among_length, HS_length]; omega
          have hoj := ones_le (HS R j)
          rw [HS_length] at hoj
          have hbws := hbw.size
          generalize bitAt R j = bb at *
          cases bb
          · simp only [Bool.false_eq_true, if_false, Nat.zero_ne_one, Nat.add_zero] at hsn hos
            have HSN : Hid _ := hsn
            have HK2 : Hid (Value.int .i64 ((min (ones (HS R j)) l.length : Nat) : Int) = Value.int .i64 ((min (ones (HS R (j + 1))) l.length : Nat) : Int)) := by rw [Hid, hos]
            clear hsn hos
            generalize ones (HS R j) = O at *
            generalize among (HS R j) l = XS at *
            generalize min O l.length = KK at *
            go_wp2_with (at_builtin; go_must (refine wpList_append_V (by rfl) _ _ (by rfl) w5.heap.size _ XS (by rfl) ((hown.alloc _).alloc _) _ _ zeroV (by rfl) (by refine ⟨?_, ?_, ?_⟩ <;> simp [zeroV]) (by omega) (by simp; omega) ?_); intro sv' w6 h1 h2 h3)
            go_roundw
            case rel =>
              refine ⟨j + 1, by omega, by go_num, HK2.out, by rw [HSN.out]; exact h1, ?_⟩
              exact below_grown (below_alloc (below_alloc hbw _) _) h2 fun x hx => (owns_block hown hx).1
            case measure => simp [intOf]; omega
          · simp only [if_true] at hsn hos
            by_cases hol : ones (HS R j) < l.length
            · have hmin : min (ones (HS R j)) l.length = ones (HS R j) := by omega
              have HK2 : Hid (Value.int .i64 ((ones (HS R j) : Nat) + 1 : Int) = Value.int .i64 ((min (ones (HS R (j + 1))) l.length : Nat) : Int)) := by
                rw [Hid, hos]
                congr 1
                omega
              rw [List.getD_eq_getElem?_getD, List.getElem?_eq_getElem hol, Option.getD_some] at hsn
              rw [hmin]
              obtain ⟨b2, o2, rfl, hb2, x1, x2, x3⟩ := (hvl.below hbw).at hol
              have HSN : Hid _ := hsn
              clear hsn hos hmin
              generalize ones (HS R j) = O at *
              generalize among (HS R j) l = XS at *
              generalize l[O] = VV at *
              go_wp2_with (at_builtin; go_must (refine wpList_append_V (by rfl) _ _ (by rfl) w5.heap.size _ XS (by rfl) ((hown.alloc _).alloc _) _ _ VV (by rfl) (by refine ⟨?_, ?_, ?_⟩ <;> simp) (by omega) (by simp; omega) ?_); intro sv' w6 h1 h2 h3)
              go_roundw
              case rel =>
                refine ⟨j + 1, by omega, by go_num, HK2.out, by rw [HSN.out]; exact h1, ?_⟩
                exact below_grown (below_alloc (below_alloc hbw _) _) h2 fun x hx => (owns_block hown hx).1
              case measure => simp [intOf]; omega
            · have hmin : min (ones (HS R j)) l.length = l.length := by omega
              have HK2 : Hid (Value.int .i64 (l.length : Int) = Value.int .i64 ((min (ones (HS R (j + 1))) l.length : Nat) : Int)) := by
                rw [Hid, hos]
                congr 1
                omega
              rw [List.getD_eq_getElem?_getD, List.getElem?_eq_none (by omega), Option.getD_none] at hsn
              rw [hmin]
              have HSN : Hid _ := hsn
              clear hsn hos hmin
              generalize ones (HS R j) = O at *
              generalize among (HS R j) l = XS at *
              go_wp2_with (at_builtin; go_must (refine wpList_append_V (by rfl) _ _ (by rfl) w5.heap.size _ XS (by rfl) ((hown.alloc _).alloc _) _ _ zeroV (by rfl) (by refine ⟨?_, ?_, ?_⟩ <;> simp [zeroV]) (by omega) (by simp; omega) ?_); intro sv' w6 h1 h2 h3)
              go_roundw
              case rel =>
                refine ⟨j + 1, by omega, by go_num, HK2.out, by rw [HSN.out]; exact h1, ?_⟩
                exact below_grown (below_alloc (below_alloc hbw _) _) h2 fun x hx => (owns_block hown hx).1
              case measure => simp [intOf]; omega
        · have hjk : j = k := by omega
          subst hjk
          have hblkv := fun b hb => owns_block hown (g := b) hb
          obtain ⟨av, capv, rfl, hvv⟩ := hown.vals
          have hnev : ∀ b o, av = some ⟨b, o, none⟩ → w5.heap.size ≤ b := fun b o e => (hblkv b (by rw [e]; rfl)).1
          clear hown hblkv hcb5 hvl
          generalize among (HS R j) l = us at *
          have hbR := below_then hb5 hbw
          have hbRs := hbR.size
          go_wp2_with fail
          refine (rPack_any (n0 : Int) (n1 : Int) av capv us wr hvv).mono ?_
          rintro e w7 ⟨rfl, hb7⟩
          generalize hpo : pOut (n0 : Int) (n1 : Int) us = po
          have HPO : Hid (pOut (n0 : Int) (n1 : Int) us = po) := hpo
          clear hpo
          obtain ⟨p1, p2⟩ := po
          simp only
          have hba : Below w7.heap.size w7 (w7.alloc (.cells #[.int .i64 p2, .int .i64 (-1), .int .i64 (-1), .int .i64 (-1), .int .i64 (-1)] 43)) := (Below.refl _ _).alloc (Nat.le_refl _) _
          have hbA := below_then hbR (below_then hb7 hba)
          have hvA := hvv.below (below_then hb7 hba)
          by_cases h2 : p2 = 0
          · subst h2
            by_cases h1 : p1 = bs
            · subst h1
              have HREAD : Hid (pRead p1 = some (n0, n1, us)) := by
                have := pRead_of (n0 : Int) (n1 : Int) us p1 HPO.out HIN.out
                rw [Hid]
                simpa using this
              go_wp2_with fail
              refine (rGood_any _).mono ?_
              rintro e w8 ⟨rfl, hb8⟩
              have hv8 := hvA.below hb8
              obtain ⟨k1, k2⟩ := below_keep (below_then hbA hb8)
              have hbf := below_then hb0 (below_then hbA hb8)
              have f0 := (k1 w.heap.size 0 (by omega)).trans (HF.out.1 0 (by omega))
              have f1 := (k1 w.heap.size 1 (by omega)).trans (HF.out.1 1 (by omega))
              have f2 := (k1 w.heap.size 2 (by omega)).trans (HF.out.1 2 (by omega))
              have f3 := (k1 w.heap.size 3 (by omega)).trans (HF.out.1 3 (by omega))
              have f4 := (k1 w.heap.size 4 (by omega)).trans (HF.out.1 4 (by omega))
              have g0 := fun i => (k2 w.heap.size i (by omega)).trans (HF.out.2 i)
              clear k1 k2
              go_wp2
              refine bodyPost_ret (v := .tuple #[.int .i64 (n0 : Int), .slice av us.length capv, fault 0]) (by simp [results, Tryz.results24, go_sem, f0, f1, f2, f3, f4]) rfl ⟨below_set5 hbf (Nat.le_refl _) _ _ _ _ _, .inr ⟨n0, n1, us, av, capv, HREAD.out, rfl, ?_, fun b o e => by have := hnev b o e; omega⟩⟩
              refine hv8.of_block (by simp) fun b o e _ => ?_
              have hbn : b ≠ w.heap.size := by have := hnev b o e; omega
              rw [Below.heap_setCell _ _ _ _ (by show b ≠ w.heap.size; exact hbn), Below.heap_setCell _ _ _ _ (by show b ≠ w.heap.size; exact hbn), Below.heap_setCell _ _ _ _ (by show b ≠ w.heap.size; exact hbn), Below.heap_setCell _ _ _ _ (by show b ≠ w.heap.size; exact hbn), Below.heap_setCell _ _ _ _ (by show b ≠ w.heap.size; exact hbn)]
            · have HNONE : Hid (pRead bs = none) := by
                cases hp : pRead bs with
                | none => rw [Hid]
                | some x =>
                  obtain ⟨t, how, vs⟩ := x
                  obtain ⟨e1, e2⟩ := HACC.out t how vs hp
                  rw [e1, HPO.out] at e2
                  simp at e2
                  exact absurd e2 h1
              have hne : ((str p1).toList == (str bs).toList) = false := by
                rw [beq_eq_false_iff_ne]
                intro e
                apply h1
                apply str_inj
                rw [← str_toList (str p1), ← str_toList (str bs), e]
              go_wp2_with fail
              refine (rBad_any 3 _).mono ?_
              rintro e w8 ⟨rfl, hb8⟩
              obtain ⟨k1, k2⟩ := below_keep (below_then hbA hb8)
              have hbf := below_then hb0 (below_then hbA hb8)
              have f0 := (k1 w.heap.size 0 (by omega)).trans (HF.out.1 0 (by omega))
              have f1 := (k1 w.heap.size 1 (by omega)).trans (HF.out.1 1 (by omega))
              have f2 := (k1 w.heap.size 2 (by omega)).trans (HF.out.1 2 (by omega))
              have f3 := (k1 w.heap.size 3 (by omega)).trans (HF.out.1 3 (by omega))
              have f4 := (k1 w.heap.size 4 (by omega)).trans (HF.out.1 4 (by omega))
              have g0 := fun i => (k2 w.heap.size i (by omega)).trans (HF.out.2 i)
              clear k1 k2
              go_wp2
              exact bodyPost_ret (v := .tuple #[.int .i64 0, .slice none 0 0, fault 3]) (by simp [results, Tryz.results24, go_sem, f0, f1, f2, f3, f4]) rfl ⟨below_set5 hbf (Nat.le_refl _) _ _ _ _ _, .inl ⟨HNONE.out, rfl⟩⟩
          · have HNONE : Hid (pRead bs = none) := by
              cases hp : pRead bs with
              | none => rw [Hid]
              | some x =>
                obtain ⟨t, how, vs⟩ := x
                obtain ⟨e1, e2⟩ := HACC.out t how vs hp
                rw [e1, HPO.out] at e2
                simp at e2
                exact absurd e2.2 h2
            have hne : (p2 != 0) = true := by simpa using h2
            clear h2
            go_wp2_with fail
            refine (rBad_any 3 _).mono ?_
            rintro e w8 ⟨rfl, hb8⟩
            obtain ⟨k1, k2⟩ := below_keep (below_then hbA hb8)
            have hbf := below_then hb0 (below_then hbA hb8)
            have f0 := (k1 w.heap.size 0 (by omega)).trans (HF.out.1 0 (by omega))
            have f1 := (k1 w.heap.size 1 (by omega)).trans (HF.out.1 1 (by omega))
            have f2 := (k1 w.heap.size 2 (by omega)).trans (HF.out.1 2 (by omega))
            have f3 := (k1 w.heap.size 3 (by omega)).trans (HF.out.1 3 (by omega))
            have f4 := (k1 w.heap.size 4 (by omega)).trans (HF.out.1 4 (by omega))
            have g0 := fun i => (k2 w.heap.size i (by omega)).trans (HF.out.2 i)
            clear k1 k2
            go_wp2
            exact bodyPost_ret (v := .tuple #[.int .i64 0, .slice none 0 0, fault 3]) (by simp [results, Tryz.results24, go_sem, f0, f1, f2, f3, f4]) rfl ⟨below_set5 hbf (Nat.le_refl _) _ _ _ _ _, .inl ⟨HNONE.out, rfl⟩⟩
end Go.Proofs.YtfgklnenpichcaaGreatDoor
