/- The document's reader: values one behind the other. -/
import Derived.Test.YtfgklnenpichcaaGreatDoorUkA
namespace Go.Proofs.YtfgklnenpichcaaGreatDoor
open Go.RowKit

theorem fol_many {t : Int} {bs : List UInt8} {p q k : Nat} {us : List V} (ih : ∀ xs r2, rdMany t k (bs.drop p) = some (xs, r2) → us = xs ∧ bs.drop q = r2) :
    ∀ xs r2, rdMany t (k + 1) (bs.drop p) = some (xs, r2) → us ++ [eVal t (bs.drop q)] = xs ∧ bs.drop (q + eLen t (bs.drop q)) = r2 := by
  intro xs r2 h
  rw [rdMany] at h
  cases hr : rdMany t k (bs.drop p) with
  | none => rw [hr] at h; simp at h
  | some x =>
    obtain ⟨vs, r⟩ := x
    rw [hr] at h
    simp only at h
    obtain ⟨rfl, e2⟩ := ih vs r hr
    cases hv : rdValue t r with
    | none => rw [hv] at h; simp at h
    | some y =>
      obtain ⟨v, r3⟩ := y
      rw [hv] at h
      simp at h
      rw [← e2] at hv
      obtain ⟨e3, e4⟩ := fol_value hv
      exact ⟨by rw [e3]; exact h.1, by rw [← List.drop_drop, e4]; exact h.2⟩

theorem V_agg (v : V) : v.val = .agg #[.int .i64 v.k, .int .i64 v.n, .string v.s] := rfl

set_option maxRecDepth 100000 in
set_option maxHeartbeats 2000000 in
theorem eValues_plain (g : Nat) (t : Int) (bs : List UInt8) (p m : Nat) (w : World) (h : EAt w g bs p) (hp : p ≤ 1000) (ht : t = 1 ∨ t = 2 ∨ t = 3) (hm : m ≤ 64) :
    Calls Tryz.prog 45 #[.pointer (some ⟨g, 0, none⟩), .int .i64 t, .int .i64 0, .int .i64 m] w (EList w g (rdMany t m (bs.drop p))) := by
  have hg := h.lt
  go_enter Tryz.func45, Tryz.ntmps45
  go_wp2_with fail
  go_loopw [9, 10] (fun sv i wr => ∃ (us : List V) (q : Nat), us.length ≤ m ∧ i = .int .i64 us.length ∧ q ≤ p + 256 * us.length ∧ OwnV wr w.heap.size sv us ∧ EAt wr g bs q ∧ RKeep w wr g ∧ Hid (∀ v ∈ us, inI64 v.n) ∧ Hid (∀ xs r2, rdMany t us.length (bs.drop p) = some (xs, r2) → us = xs ∧ bs.drop q = r2)) (fun _ i _ => m - (intOf i).toNat)
  case atStart => exact ⟨[], p, by simp, rfl, by simp, OwnV.nil _ _, h, RKeep.refl _ _, fun v hv => by simp at hv, fun xs r2 hr => by simp only [List.length_nil, rdMany, Option.some.injEq, Prod.mk.injEq] at hr; exact hr⟩
  case round =>
    obtain ⟨us, q, hus, rfl, hq, hown, hA, hk, hin, hf⟩ := hrel
    by_cases hlt : us.length < m
    · have hv := eValue_any g t bs q wr hA (by omega) ht
      have HF := fol_many hf.out
      have HL := eLen_le t (bs.drop q)
      have HI := eVal_in t (bs.drop q)
      have HF : Hid (∀ xs r2, rdMany t (us.length + 1) (bs.drop p) = some (xs, r2) → us ++ [eVal t (bs.drop q)] = xs ∧ bs.drop (q + eLen t (bs.drop q)) = r2) := HF
      have HI : Hid (inI64 (eVal t (bs.drop q)).n) := HI
      rename_i HF0 HI0
      clear HF0 HI0
      have hszk := hk.size
      generalize eLen t (bs.drop q) = ln at *
      generalize eVal t (bs.drop q) = v at *
      go_wp2_with fail
      refine hv.mono ?_
      rintro e w1 ⟨rfl, hA1, hk1⟩
      clear hv
      have hown1 := own_rkeep hown hk1 hg
      have hs1 := hk1.size
      go_wp2_with (at_builtin; go_must (refine wpList_append_V (by rfl) _ _ (by rfl) w.heap.size _ us (by rfl) ((hown1.alloc _).alloc _) _ _ v (by rfl) (by refine ⟨?_, ?_, ?_⟩ <;> simp) (by omega) (by simp; omega) ?_); intro sv' w5 h1 h2 h3)
      go_roundw
      case rel =>
        have e1 : (us ++ [v]).length = us.length + 1 := List.length_append ..
        refine ⟨us ++ [v], q + ln, by omega, by go_num, by omega, h1, eat_grown ((hA1.alloc _).alloc _) hg ((hown1.alloc _).alloc _) h2, grown_rkeep (((hk.trans hk1).alloc _).alloc _) (Nat.le_refl _) ((hown1.alloc _).alloc _) h2, fun u hu => ?_, by rw [e1]; exact HF.out⟩
        rcases List.mem_append.1 hu with hu | hu
        · exact hin.out u hu
        · simp at hu; subst hu; exact HI.out
      case measure => simp [intOf]; omega
    · have hum : us.length = m := by omega
      go_wp2
      go_ret
      refine ⟨_, us, rfl, hown, by omega, hin.out, hk, fun xs r2 hr => ?_⟩
      rw [← hum] at hr
      exact (hf.out xs r2 hr).1

set_option maxRecDepth 100000 in
set_option maxHeartbeats 1000000 in
theorem eValues_packed (g : Nat) (t : Int) (bs : List UInt8) (p m : Nat) (w : World) (h : EAt w g bs p) (hp : p ≤ 1000) (ht : t = 1 ∨ t = 2) (hm : m ≤ 64) :
    Calls Tryz.prog 45 #[.pointer (some ⟨g, 0, none⟩), .int .i64 t, .int .i64 3, .int .i64 m] w (EList w g (rdPacked t m (bs.drop p))) := by
  have hpk := ePacked_any g t bs p m w h (by omega) ht hm
  go_enter Tryz.func45, Tryz.ntmps45
  go_wp2_with fail
  refine hpk.mono ?_
  rintro e w1 ⟨sv, l, rfl, hr⟩
  clear hpk
  go_wp2
  go_ret
  exact ⟨_, l, rfl, hr⟩
end Go.Proofs.YtfgklnenpichcaaGreatDoor

/-! The document's reader: a dictionary. -/
namespace Go.Proofs.YtfgklnenpichcaaGreatDoor
open Go.RowKit

theorem nibs (B : Nat) (h : B < 256) : B % 16 = (if B.testBit 0 then 1 else 0) + (if B.testBit 1 then 1 else 0) * 2 + (if B.testBit 2 then 1 else 0) * 4 + (if B.testBit 3 then 1 else 0) * 8 ∧
    B / 16 = (if B.testBit 4 then 1 else 0) + (if B.testBit 5 then 1 else 0) * 2 + (if B.testBit 6 then 1 else 0) * 4 + (if B.testBit 7 then 1 else 0) * 8 := by
  have key : ∀ B : Fin 256, B.val % 16 = (if B.val.testBit 0 then 1 else 0) + (if B.val.testBit 1 then 1 else 0) * 2 + (if B.val.testBit 2 then 1 else 0) * 4 + (if B.val.testBit 3 then 1 else 0) * 8 ∧
    B.val / 16 = (if B.val.testBit 4 then 1 else 0) + (if B.val.testBit 5 then 1 else 0) * 2 + (if B.val.testBit 6 then 1 else 0) * 4 + (if B.val.testBit 7 then 1 else 0) * 8 := by decide +kernel
  exact key ⟨B, h⟩
theorem bitsTo4 (R : List UInt8) (i : Nat) : bitsTo R i 4 = (if bitAt R i then 1 else 0) + (if bitAt R (i + 1) then 1 else 0) * 2 + (if bitAt R (i + 2) then 1 else 0) * 4 + (if bitAt R (i + 3) then 1 else 0) * 8 := by
  simp [bitsTo]
theorem nib_lo (R : List UInt8) (j : Nat) : (R.getD j 0).toNat % 16 = bitsTo R (4 * (2 * j)) 4 := by
  have hb : ∀ k, k < 8 → bitAt R (4 * (2 * j) + k) = (R.getD j 0).toNat.testBit k := fun k hk => by
    unfold bitAt
    rw [show (4 * (2 * j) + k) / 8 = j by omega, show (4 * (2 * j) + k) % 8 = k by omega]
  rw [bitsTo4, hb 1 (by omega), hb 2 (by omega), hb 3 (by omega), (nibs _ (UInt8.toNat_lt _)).1]
  have := hb 0 (by omega)
  rw [Nat.add_zero] at this
  rw [this]
theorem nib_hi (R : List UInt8) (j : Nat) : (R.getD j 0).toNat / 16 = bitsTo R (4 * (2 * j + 1)) 4 := by
  have hb : ∀ k, k < 8 → bitAt R (4 * (2 * j) + k) = (R.getD j 0).toNat.testBit k := fun k hk => by
    unfold bitAt
    rw [show (4 * (2 * j) + k) / 8 = j by omega, show (4 * (2 * j) + k) % 8 = k by omega]
  rw [bitsTo4, show 4 * (2 * j + 1) = 4 * (2 * j) + 4 by omega, Nat.add_assoc _ 4 1, Nat.add_assoc _ 4 2, Nat.add_assoc _ 4 3, hb 4 (by omega), hb 5 (by omega), hb 6 (by omega), hb 7 (by omega), (nibs _ (UInt8.toNat_lt _)).2]

/-- What the document's reader takes out of a dictionary ds: of each four bits the value that they name. -/
def outOf (ds : List V) (R : List UInt8) (c : Nat) : List V := (List.range c).map fun i => ds.getD (bitsTo R (4 * i) 4) ⟨-1, 0, ⟨#[]⟩⟩
theorem outOf_length (ds : List V) (R : List UInt8) (c : Nat) : (outOf ds R c).length = c := by simp [outOf]
theorem outOf_succ (ds : List V) (R : List UInt8) (c : Nat) : outOf ds R (c + 1) = outOf ds R c ++ [ds.getD (bitsTo R (4 * c) 4) ⟨-1, 0, ⟨#[]⟩⟩] := by simp [outOf, List.range_succ]
theorem outOf_in (ds : List V) (R : List UInt8) (c : Nat) (h : ∀ v ∈ ds, inI64 v.n) : ∀ v ∈ outOf ds R c, inI64 v.n := by
  intro v hv
  obtain ⟨i, _, rfl⟩ := List.mem_map.1 hv
  rw [List.getD_eq_getElem?_getD]
  cases hg : ds[bitsTo R (4 * i) 4]? with
  | none => show inI64 0; unfold inI64; omega
  | some u => exact h u (List.mem_of_getElem? hg)

theorem fol_dict {t : Int} {bs : List UInt8} {p q m : Nat} {ds : List V} (h : ∀ xs r2, rdMany t (hd (bs.drop p)) (bs.drop (p + 1)) = some (xs, r2) → ds = xs ∧ bs.drop q = r2) :
    ∀ xs r2, rdDict t m (bs.drop p) = some (xs, r2) → outOf ds (bs.drop q) m = xs := by
  intro xs r2 hr
  unfold rdDict at hr
  cases hb : rdByte (bs.drop p) with
  | none => rw [hb] at hr; simp at hr
  | some x =>
    obtain ⟨n, r⟩ := x
    rw [hb] at hr
    simp only at hr
    obtain ⟨e1, e2⟩ := fol_byte hb
    rw [List.drop_drop] at e2
    rw [e1, e2] at h
    cases hm : rdMany t n r with
    | none => rw [hm] at hr; simp at hr
    | some y =>
      obtain ⟨ws, r3⟩ := y
      rw [hm] at hr
      simp only at hr
      obtain ⟨rfl, e3⟩ := h ws r3 hm
      rw [e3]
      cases hf : rdFields 4 m r3 with
      | none => rw [hf] at hr; simp at hr
      | some z =>
        obtain ⟨ks, r4⟩ := z
        rw [hf] at hr
        simp only at hr
        split at hr
        · rename_i hall
          simp only [Option.some.injEq, Prod.mk.injEq] at hr
          rw [← hr.1]
          have hks := fol_fields hf
          subst hks
          rw [List.map_map]
          unfold outOf
          apply List.map_congr_left
          intro i hi
          have hlt := hall _ (List.mem_map.2 ⟨i, hi, rfl⟩)
          simp only [Function.comp, List.getD_eq_getElem?_getD, List.getElem?_eq_getElem hlt, Option.getD_some]
        · simp at hr

theorem vals_rkeep {w w' : World} {g : Nat} {a : Option Addr} {vs : List V} (h : Vals w a vs) (hk : RKeep w w' g) (hn : ∀ b o, a = some ⟨b, o, none⟩ → b ≠ g) : Vals w' a vs :=
  h.of_block hk.size fun b o ha hlt => hk.block b hlt (hn b o ha)

set_option maxRecDepth 100000 in
set_option maxHeartbeats 4000000 in
theorem eValues_dict (g : Nat) (t : Int) (bs : List UInt8) (p m : Nat) (w : World) (h : EAt w g bs p) (hp : p ≤ 1000) (ht : t = 1 ∨ t = 2 ∨ t = 3) (hm : m ≤ 64) :
    Calls Tryz.prog 45 #[.pointer (some ⟨g, 0, none⟩), .int .i64 t, .int .i64 1, .int .i64 m] w (EList w g (rdDict t m (bs.drop p))) := by
  have hg := h.lt
  have hn0 := eNext_any g bs p w h (by omega)
  go_enter Tryz.func45, Tryz.ntmps45
  go_wp2_with fail
  refine hn0.mono ?_
  rintro e w0 ⟨rfl, hA0, hk0⟩
  clear hn0
  obtain ⟨n, hn⟩ : ∃ n, n = hd (bs.drop p) := ⟨_, rfl⟩
  have hn256 : n < 256 := by rw [hn]; exact hd_lt _
  have HFE := @fol_dict t bs p
  rw [← hn] at HFE ⊢
  have HFD : Hid (∀ {q m : Nat} {ds : List V}, (∀ xs r2, rdMany t n (bs.drop (p + 1)) = some (xs, r2) → ds = xs ∧ bs.drop q = r2) → ∀ xs r2, rdDict t m (bs.drop p) = some (xs, r2) → outOf ds (bs.drop q) m = xs) := HFE
  clear HFE hn
  go_wp2_with fail
  go_loopw [13, 14] (fun sv i wr => ∃ (us : List V) (q : Nat), us.length ≤ n ∧ i = .int .i64 us.length ∧ q ≤ p + 1 + 256 * us.length ∧ OwnV wr w.heap.size sv us ∧ EAt wr g bs q ∧ RKeep w wr g ∧ Hid (∀ v ∈ us, inI64 v.n) ∧ Hid (∀ xs r2, rdMany t us.length (bs.drop (p + 1)) = some (xs, r2) → us = xs ∧ bs.drop q = r2)) (fun _ i _ => n - (intOf i).toNat)
  case atStart => exact ⟨[], p + 1, by simp, rfl, by simp, OwnV.nil _ _, hA0, hk0, fun v hv => by simp at hv, fun xs r2 hr => by simp only [List.length_nil, rdMany, Option.some.injEq, Prod.mk.injEq] at hr; exact hr⟩
  case round =>
    clear hA0 hk0
    obtain ⟨us, q, hus, rfl, hq, hown, hA, hk, hin, hf⟩ := hrel
    by_cases hlt : us.length < n
    · have hv := eValue_any g t bs q wr hA (by omega) ht
      have HL := eLen_le t (bs.drop q)
      have HF : Hid (∀ xs r2, rdMany t (us.length + 1) (bs.drop (p + 1)) = some (xs, r2) → us ++ [eVal t (bs.drop q)] = xs ∧ bs.drop (q + eLen t (bs.drop q)) = r2) := fol_many hf.out
      have HI : Hid (inI64 (eVal t (bs.drop q)).n) := eVal_in t (bs.drop q)
      have hszk := hk.size
      generalize eLen t (bs.drop q) = ln at *
      generalize eVal t (bs.drop q) = v at *
      go_wp2_with fail
      refine hv.mono ?_
      rintro e w1 ⟨rfl, hA1, hk1⟩
      clear hv
      have hown1 := own_rkeep hown hk1 hg
      have hs1 := hk1.size
      go_wp2_with (at_builtin; go_must (refine wpList_append_V (by rfl) _ _ (by rfl) w.heap.size _ us (by rfl) ((hown1.alloc _).alloc _) _ _ v (by rfl) (by refine ⟨?_, ?_, ?_⟩ <;> simp) (by omega) (by simp; omega) ?_); intro sv' w5 h1 h2 h3)
      go_roundw
      case rel =>
        have e1 : (us ++ [v]).length = us.length + 1 := List.length_append ..
        refine ⟨us ++ [v], q + ln, by omega, by go_num, by omega, h1, eat_grown ((hA1.alloc _).alloc _) hg ((hown1.alloc _).alloc _) h2, grown_rkeep (((hk.trans hk1).alloc _).alloc _) (Nat.le_refl _) ((hown1.alloc _).alloc _) h2, fun u hu => ?_, by rw [e1]; exact HF.out⟩
        rcases List.mem_append.1 hu with hu | hu
        · exact hin.out u hu
        · simp at hu; subst hu; exact HI.out
      case measure => simp [intOf]; omega
    · have hum : us.length = n := by omega
      have hf2 := hf.out
      rw [hum] at hf2
      have HR : Hid (∀ xs r2, rdDict t m (bs.drop p) = some (xs, r2) → outOf us (bs.drop q) m = xs) := HFD.out (m := m) hf2
      clear HFD hf2 hf hum
      have hblk := fun b hb => owns_block hown (g := b) hb
      obtain ⟨ad, capd, rfl, hvd⟩ := hown.vals
      have hne : ∀ b o, ad = some ⟨b, o, none⟩ → b ≠ g := fun b o e => by
        have := (hblk b (by rw [e]; rfl)).1
        omega
      have hszk := hk.size
      clear hown hblk
      generalize hwd : wr = wd at *
      clear hwd
      have HIN : Hid (∀ c, ∀ v ∈ outOf us (bs.drop q) c, inI64 v.n) := fun c => outOf_in us (bs.drop q) c hin.out
      clear hin
      have hq2 : q ≤ 100000 := by omega
      clear hq
      go_wp2_with fail
      go_loopw [9, 16] (fun sv i wr2 => ∃ j c : Nat, c ≤ m ∧ i = .int .i64 ((2 * j : Nat) : Int) ∧ Hid (c = m ∨ c = 2 * j) ∧ c ≤ 2 * j ∧ 2 * j ≤ m + 1 ∧ OwnV wr2 wd.heap.size sv (outOf us (bs.drop q) c) ∧ EAt wr2 g bs (q + j) ∧ RKeep wd wr2 g) (fun _ i _ => m + 2 - (intOf i).toNat)
      case atStart => exact ⟨0, 0, by omega, rfl, .inr rfl, by omega, by omega, OwnV.nil _ _, hA, RKeep.refl _ _⟩
      case round =>
        clear hA
        obtain ⟨j, c, hc, rfl, hce, hcj, hjm, hown, hA, hkd⟩ := hrel
        by_cases hlt2 : 2 * j < m
        · have HC : Hid (c = 2 * j) := by rcases hce.out with e | e
                                          · omega
                                          · exact e
          have hnx := eNext_any g bs (q + j) _ hA (by omega)
          rw [hd_at] at hnx
          have hB := ((bs.drop q).getD j 0).toNat_lt
          have hS1 := outOf_succ us (bs.drop q) c
          have hS2 := outOf_succ us (bs.drop q) (c + 1)
          rw [HC.out, ← nib_lo] at hS1
          rw [HC.out, ← nib_hi] at hS2
          have hol := outOf_length us (bs.drop q) c
          rw [HC.out] at hol hown
          clear hce hcj hc
          generalize ((bs.drop q).getD j 0).toNat = B at *
          have hc64 : (outOf us (bs.drop q) (2 * j)).length ≤ 64 := by omega
          have hc65 : (outOf us (bs.drop q) (2 * j + 1)).length ≤ 65 := by rw [outOf_length]; omega
          have HS1 : Hid _ := hS1
          have HS2 : Hid _ := hS2
          clear hS1 hS2 hol
          have hwl := fun W hW => worth_any ad capd us (B % 16) W hW
          have hwh := fun W hW => worth_any ad capd us (B / 16) W hW
          rw [show ((B % 16 : Nat) : Int) = (B : Int) % 16 by omega] at hwl
          rw [show ((B / 16 : Nat) : Int) = (B : Int) / 16 by omega] at hwh
          generalize us.getD (B % 16) ⟨-1, 0, ⟨#[]⟩⟩ = v1 at *
          generalize us.getD (B / 16) ⟨-1, 0, ⟨#[]⟩⟩ = v2 at *
          have hszd := hkd.size
          go_wp2_with fail
          refine hnx.mono ?_
          rintro e w1 ⟨rfl, hA1, hk1⟩
          clear hnx
          have hkd1 := hkd.trans hk1
          have hown1 := own_rkeep hown hk1 (by omega)
          have hs1 := hk1.size
          go_wp2_with fail
          refine (hwl w1 (vals_rkeep hvd hkd1 hne)).mono ?_
          rintro e w2 ⟨rfl, hb2⟩
          clear hwl
          have hown2 := hown1.below hb2
          have hkd2 := hkd1.trans (RKeep.of_below hb2 g)
          have hA2 := hA1.below hb2
          have hs2 := hb2.size
          clear hown hown1 hA hA1 hkd hkd1 hk1 hb2
          generalize outOf us (bs.drop q) (2 * j) = XS at *
          by_cases h21 : 2 * j + 1 < m
          · go_wp2_with (at_builtin; go_must (refine wpList_append_V (by rfl) _ _ (by rfl) wd.heap.size _ XS (by rfl) (hown2.alloc _) _ _ v1 (by rfl) (by refine ⟨?_, ?_, ?_⟩ <;> simp) (by omega) (by simp; omega) ?_); intro sv' w5 h1 h2 h3)
            have hA5 := eat_grown (hA2.alloc _) (by omega) (hown2.alloc _) h2
            have hk5 := grown_rkeep (hkd2.alloc _) (Nat.le_refl _) (hown2.alloc _) h2
            rw [← HS1.out] at h1
            have hs5 := h2.size
            simp only [World.size_alloc] at hs5
            clear h2 h3 hown2 hkd2 hA2
            refine (hwh w5 (vals_rkeep hvd hk5 hne)).mono ?_
            rintro e w6 ⟨rfl, hb6⟩
            clear hwh
            have hown6 := h1.below hb6
            have hkd6 := hk5.trans (RKeep.of_below hb6 g)
            have hA6 := hA5.below hb6
            have hs6 := hb6.size
            clear h1 hk5 hA5 hb6
            generalize outOf us (bs.drop q) (2 * j + 1) = YS at *
            go_wp2_with (at_builtin; go_must (refine wpList_append_V (by rfl) _ _ (by rfl) wd.heap.size _ YS (by rfl) (hown6.alloc _) _ _ v2 (by rfl) (by refine ⟨?_, ?_, ?_⟩ <;> simp) (by omega) (by simp; omega) ?_); intro sv' w7 h1 h2 h3)
            go_roundw
            case rel =>
              refine ⟨j + 1, 2 * j + 1 + 1, by omega, by go_num, .inr (by omega), by omega, by omega, by rw [HS2.out]; exact h1, ?_, grown_rkeep (hkd6.alloc _) (Nat.le_refl _) (hown6.alloc _) h2⟩
              exact eat_grown (hA6.alloc _) (by omega) (hown6.alloc _) h2
            case measure => simp [intOf]; omega
          · go_wp2_with (at_builtin; go_must (refine wpList_append_V (by rfl) _ _ (by rfl) wd.heap.size _ XS (by rfl) (hown2.alloc _) _ _ v1 (by rfl) (by refine ⟨?_, ?_, ?_⟩ <;> simp) (by omega) (by simp; omega) ?_); intro sv' w5 h1 h2 h3)
            go_roundw
            case rel =>
              refine ⟨j + 1, 2 * j + 1, by omega, by go_num, .inl (by omega), by omega, by omega, by rw [HS1.out]; exact h1, ?_, grown_rkeep (hkd2.alloc _) (Nat.le_refl _) (hown2.alloc _) h2⟩
              exact eat_grown (hA2.alloc _) (by omega) (hown2.alloc _) h2
            case measure => simp [intOf]; omega
        · have hcm : c = m := by rcases hce.out with e | e
                                 · exact e
                                 · omega
          subst hcm
          go_wp2
          go_ret
          exact ⟨_, _, rfl, hown.mono hszk, by rw [outOf_length]; omega, HIN.out _, hk.trans hkd, HR.out⟩
end Go.Proofs.YtfgklnenpichcaaGreatDoor

/-! The document's reader: runs; all four ways. -/
namespace Go.Proofs.YtfgklnenpichcaaGreatDoor
open Go.RowKit

theorem fol_runs {t : Int} {bs r0 : List UInt8} {q m : Nat} {us : List V} (hlt : us.length < m)
    (ih : ∀ xs r2, rdRuns t m r0 = some (xs, r2) → ∃ ys, rdRuns t (m - us.length) (bs.drop q) = some (ys, r2) ∧ xs = us ++ ys) :
    ∀ k, 1 ≤ k → (k ≤ hd (bs.drop q) ∨ k = 1) → us.length + k ≤ m → (hd (bs.drop q) ≤ k ∨ m ≤ us.length + k) → ∀ xs r2, rdRuns t m r0 = some (xs, r2) →
      ∃ ys, rdRuns t (m - (us.length + k)) (bs.drop (q + 1 + eLen t (bs.drop (q + 1)))) = some (ys, r2) ∧ xs = (us ++ List.replicate k (eVal t (bs.drop (q + 1)))) ++ ys := by
  intro k h1 h2 h3 h4 xs r2 hr
  obtain ⟨ys, hy, rfl⟩ := ih xs r2 hr
  obtain ⟨d, hd⟩ : ∃ d, m - us.length = d + 1 := ⟨m - us.length - 1, by omega⟩
  rw [hd, rdRuns_succ] at hy
  cases hb : rdByte (bs.drop q) with
  | none => rw [hb] at hy; simp at hy
  | some x =>
    obtain ⟨n, r⟩ := x
    rw [hb] at hy
    simp only at hy
    obtain ⟨e1, e2⟩ := fol_byte hb
    rw [List.drop_drop] at e2
    rw [e1] at h2 h4
    split at hy
    · rename_i hn
      cases hv : rdValue t r with
      | none => rw [hv] at hy; simp at hy
      | some z =>
        obtain ⟨v, r3⟩ := z
        rw [hv] at hy
        simp only at hy
        rw [← e2] at hv
        obtain ⟨e3, e4⟩ := fol_value hv
        rw [List.drop_drop] at e4
        have hk : k = n := by omega
        subst hk
        cases hz : rdRuns t (d + 1 - k) r3 with
        | none => rw [hz] at hy; simp at hy
        | some y =>
          obtain ⟨zs, r5⟩ := y
          rw [hz] at hy
          simp only [Option.map_some, Option.some.injEq, Prod.mk.injEq] at hy
          refine ⟨zs, ?_, ?_⟩
          · rw [e4, show m - (us.length + k) = d + 1 - k by omega, hz, hy.2]
          · rw [e3, ← hy.1, List.append_assoc]
    · simp at hy

set_option maxRecDepth 100000 in
set_option maxHeartbeats 4000000 in
theorem eValues_runs (g : Nat) (t : Int) (bs : List UInt8) (p m : Nat) (w : World) (h : EAt w g bs p) (hp : p ≤ 1000) (ht : t = 1 ∨ t = 2 ∨ t = 3) (hm : m ≤ 64) :
    Calls Tryz.prog 45 #[.pointer (some ⟨g, 0, none⟩), .int .i64 t, .int .i64 2, .int .i64 m] w (EList w g (rdRuns t m (bs.drop p))) := by
  have hg := h.lt
  go_enter Tryz.func45, Tryz.ntmps45
  go_wp2_with fail
  go_loopw [9] (fun sv wr => ∃ (us : List V) (q : Nat), us.length ≤ m ∧ q ≤ p + 257 * us.length ∧ OwnV wr w.heap.size sv us ∧ EAt wr g bs q ∧ RKeep w wr g ∧ Hid (∀ v ∈ us, inI64 v.n) ∧ Hid (∀ xs r2, rdRuns t m (bs.drop p) = some (xs, r2) → ∃ ys, rdRuns t (m - us.length) (bs.drop q) = some (ys, r2) ∧ xs = us ++ ys)) (fun sv _ => m - slen sv)
  case atStart => exact ⟨[], p, by simp, by simp, OwnV.nil _ _, h, RKeep.refl _ _, fun v hv => by simp at hv, fun xs r2 hr => ⟨xs, by simpa using hr, by simp⟩⟩
  case round =>
    obtain ⟨us, q, hus, hq, hown, hA, hk, hin, hf⟩ := hrel
    obtain ⟨a, cap, rfl, _⟩ := hown.vals
    by_cases hlt : us.length < m
    · have HFR : Hid (∀ k, 1 ≤ k → (k ≤ hd (bs.drop q) ∨ k = 1) → us.length + k ≤ m → (hd (bs.drop q) ≤ k ∨ m ≤ us.length + k) → ∀ xs r2, rdRuns t m (bs.drop p) = some (xs, r2) →
          ∃ ys, rdRuns t (m - (us.length + k)) (bs.drop (q + 1 + eLen t (bs.drop (q + 1)))) = some (ys, r2) ∧ xs = (us ++ List.replicate k (eVal t (bs.drop (q + 1)))) ++ ys) := fol_runs hlt hf.out
      have HI : Hid (inI64 (eVal t (bs.drop (q + 1))).n) := eVal_in t _
      have HL := eLen_le t (bs.drop (q + 1))
      have hn256 := hd_lt (bs.drop q)
      have hnx := eNext_any g bs q _ hA (by omega)
      have hvx := fun W hW => eValue_any g t bs (q + 1) W hW (by omega) ht
      clear hf
      generalize hd (bs.drop q) = n at *
      generalize eLen t (bs.drop (q + 1)) = ln at *
      generalize eVal t (bs.drop (q + 1)) = x at *
      go_wp2_with fail
      refine hnx.mono ?_
      rintro e w1 ⟨rfl, hA1, hk1⟩
      clear hnx
      go_wp2_with fail
      refine (hvx w1 hA1).mono ?_
      rintro e w2 ⟨rfl, hA2, hk2⟩
      clear hvx
      have hown2 := (own_rkeep (own_rkeep hown hk1 hg) hk2 hg)
      have hkeep2 := (hk.trans hk1).trans hk2
      have hsz2 := hkeep2.size
      have hnb : (Value.slice a us.length cap).ownBlock ≠ some w2.heap.size := fun e => by have := (owns_block hown2 e).2; omega
      clear hown hk1 hk2 hA1 hA hk
      go_upto_region 29 with fail
      obtain ⟨VB, hVB⟩ : ∃ VB, VB = w2.heap.size := ⟨_, rfl⟩
      have hva : VAt (w2.alloc (.cells #[.int .i64 x.k, .int .i64 x.n, .string x.s] 36)) VB 0 x := by
        rw [hVB]
        refine ⟨?_, ?_, ?_⟩ <;> simp
      have hwV : w.heap.size ≤ VB := by omega
      have hwV2 : VB < (w2.alloc (.cells #[.int .i64 x.k, .int .i64 x.n, .string x.s] 36)).heap.size := by simp; omega
      have hown3 := hown2.alloc (.cells #[.int .i64 x.k, .int .i64 x.n, .string x.s] 36)
      have hA3 := hA2.alloc (.cells #[.int .i64 x.k, .int .i64 x.n, .string x.s] 36)
      have hkeep3 := hkeep2.alloc (.cells #[.int .i64 x.k, .int .i64 x.n, .string x.s] 36)
      rw [← hVB]
      rw [← hVB] at hnb
      generalize w2.alloc (.cells #[.int .i64 x.k, .int .i64 x.n, .string x.s] 36) = w3 at *
      clear hVB hown2 hA2 hkeep2 hsz2
      obtain ⟨y1, y2, y3⟩ := hva
      simp only [Nat.zero_add] at y2 y3
      have hsz3 := hkeep3.size
      go_wp2_with (at_builtin; go_must (refine wpList_append_V (by rfl) _ _ (by rfl) w.heap.size _ us (by rfl) (hown3.alloc _) _ _ x (by rfl) (by refine ⟨?_, ?_, ?_⟩ <;> simp) (by omega) (by simp; omega) ?_); intro sv' w4 h1 h2 h3)
      have hva4 : VAt w4 VB 0 x := VAt.of_block (VAt.of_block ⟨y1, y2, y3⟩ (Below.heap_alloc _ _ VB hwV2)) (h2.block VB (by simp; omega) (Ne.symm hnb))
      have hA4 := eat_grown (hA3.alloc _) hg (hown3.alloc _) h2
      have hk4 := grown_rkeep (hkeep3.alloc _) (Nat.le_refl _) (hown3.alloc _) h2
      have hs4 := h2.size
      have hnb4 : sv'.ownBlock ≠ some VB := by
        rcases h3 with e | e
        · rw [e]; exact hnb
        · rw [e]; intro e2; simp at e2; omega
      simp only [World.size_alloc] at hs4
      clear h2 h3 y1 y2 y3 hown3 hA3 hkeep3 hnb
      go_loopw [9, 20] (fun sv i wr2 => ∃ k : Nat, 1 ≤ k ∧ (k ≤ n ∨ k = 1) ∧ us.length + k ≤ m ∧ i = .int .i64 k ∧ OwnV wr2 w.heap.size sv (us ++ List.replicate k x) ∧ EAt wr2 g bs (q + 1 + ln) ∧ RKeep w wr2 g ∧ VAt wr2 VB 0 x ∧ VB < wr2.heap.size ∧ sv.ownBlock ≠ some VB) (fun _ i _ => n - (intOf i).toNat)
      case atStart => exact ⟨1, by omega, .inr rfl, by omega, rfl, h1, hA4, hk4, hva4, by omega, hnb4⟩
      case round =>
        clear h1 hA4 hk4 hva4 hnb4 hs4 hwV2 hsz3
        obtain ⟨k, hk1, hkn, hkm, rfl, hown, hA, hkp, hva, hVl, hnb⟩ := hrel
        obtain ⟨a', cap', rfl, _⟩ := hown.vals
        have hll : (us ++ List.replicate k x).length = us.length + k := by simp
        have HKN : Hid (k ≤ n ∨ k = 1) := hkn
        clear hkn
        have hfin : Hid ((n ≤ k ∨ m ≤ us.length + k) → ∃ us2 q2, us2 = us ++ List.replicate k x ∧ us2.length ≤ m ∧ q2 = q + 1 + ln ∧ q2 ≤ p + 257 * us2.length ∧ (∀ v ∈ us2, inI64 v.n) ∧ ∀ xs r2, rdRuns t m (bs.drop p) = some (xs, r2) → ∃ ys, rdRuns t (m - us2.length) (bs.drop q2) = some (ys, r2) ∧ xs = us2 ++ ys) := by
          intro hex
          refine ⟨_, _, rfl, by omega, rfl, by omega, fun v hv => ?_, by rw [hll]; exact HFR.out k hk1 HKN.out hkm hex⟩
          rcases List.mem_append.1 hv with hv | hv
          · exact hin.out v hv
          · rw [(List.mem_replicate.1 hv).2]; exact HI.out
        by_cases hlk : k < n
        · by_cases hlm : us.length + k < m
          · obtain ⟨y1, y2, y3⟩ := hva
            simp only [Nat.zero_add] at y2 y3
            have hts : us ++ List.replicate (k + 1) x = (us ++ List.replicate k x) ++ [x] := by rw [List.replicate_succ', List.append_assoc]
            have HTS : Hid _ := hts
            clear hts hfin
            have hul : (us ++ List.replicate k x).length ≤ 64 := by omega
            have hlm' : (us ++ List.replicate k x).length < m := by omega
            clear hll
            generalize us ++ List.replicate k x = uk at *
            have hszr := hkp.size
            go_wp2_with (at_builtin; go_must (refine wpList_append_V (by rfl) _ _ (by rfl) w.heap.size _ uk (by rfl) (hown.alloc _) _ _ x (by rfl) (by refine ⟨?_, ?_, ?_⟩ <;> simp) (by omega) (by simp; omega) ?_); intro sv' w5 h1 h2 h3)
            go_roundw
            case rel =>
              have hval : VAt w5 VB 0 x := VAt.of_block (VAt.of_block ⟨y1, y2, y3⟩ (Below.heap_alloc _ _ VB hVl)) (h2.block VB (by simp; omega) (Ne.symm hnb))
              refine ⟨k + 1, by omega, .inl (by omega), by omega, by go_num, by rw [HTS.out]; exact h1, eat_grown (hA.alloc _) hg (hown.alloc _) h2, grown_rkeep (hkp.alloc _) (Nat.le_refl _) (hown.alloc _) h2, hval, ?_, ?_⟩
              · have := h2.size
                simp at this
                omega
              · rcases h3 with e | e
                · rw [e]; exact hnb
                · rw [e]; intro e2; simp at e2; omega
            case measure => simp [intOf]; omega
          · obtain ⟨us2, q2, e1, f1, e2, f2, f3, f4⟩ := hfin.out (.inr (by omega))
            rw [← e1] at hown hll ⊢
            rw [← e2] at hA
            have hlm' : ¬ us2.length < m := by omega
            have F4 : Hid _ := f4
            have F3 : Hid _ := f3
            clear f4 f3 e1 e2 hfin hva
            go_wp2
            go_roundw
            case rel => exact ⟨us2, q2, f1, f2, hown, hA, hkp, F3.out, F4.out⟩
            case measure => simp [slen]; omega
        · obtain ⟨us2, q2, e1, f1, e2, f2, f3, f4⟩ := hfin.out (.inl (by omega))
          rw [← e1] at hown hll ⊢
          rw [← e2] at hA
          have F4 : Hid _ := f4
          have F3 : Hid _ := f3
          clear f4 f3 e1 e2 hfin hva
          go_wp2
          go_roundw
          case rel => exact ⟨us2, q2, f1, f2, hown, hA, hkp, F3.out, F4.out⟩
          case measure => simp [slen]; omega
    · have hum : us.length = m := by omega
      go_wp2
      go_ret
      refine ⟨_, us, rfl, hown, by omega, hin.out, hk, fun xs r2 hr => ?_⟩
      obtain ⟨ys, e1, e2⟩ := hf.out xs r2 hr
      rw [hum, Nat.sub_self, rdRuns_zero] at e1
      simp only [Option.some.injEq, Prod.mk.injEq] at e1
      rw [e2, ← e1.1, List.append_nil]

theorem eValues_any (g : Nat) (t how : Int) (bs : List UInt8) (p m : Nat) (w : World) (h : EAt w g bs p) (hp : p ≤ 1000) (hw : way t how = true) (hm : m ≤ 64) :
    Calls Tryz.prog 45 #[.pointer (some ⟨g, 0, none⟩), .int .i64 t, .int .i64 how, .int .i64 m] w (EList w g (rdBody t how m (bs.drop p))) := by
  unfold way at hw
  rw [decide_eq_true_iff] at hw
  have ht : t = 1 ∨ t = 2 ∨ t = 3 := by omega
  have hhow : how = 0 ∨ how = 1 ∨ how = 2 ∨ how = 3 := by omega
  rcases hhow with rfl | rfl | rfl | rfl
  · exact eValues_plain g t bs p m w h hp ht hm
  · exact eValues_dict g t bs p m w h hp ht hm
  · exact eValues_runs g t bs p m w h hp ht hm
  · exact eValues_packed g t bs p m w h hp (by omega) hm
end Go.Proofs.YtfgklnenpichcaaGreatDoor
