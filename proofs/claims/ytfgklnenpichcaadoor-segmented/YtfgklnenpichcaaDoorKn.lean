/- How long a segment can be; bytes turned. -/
import Derived.Test.YtfgklnenpichcaaDoorKw
import Derived.Test.YtfgklnenpichcaaDoorKf
import Derived.Deep.DeepCutAuto
import Derived.Deep.CutBlock
import Derived.Deep.LoopGhost
import Derived.Deep.RegionHeld3
import Derived.Deep.RegionWith
import Derived.Test.YtfgklnenpichcaaDoorPacksOpen
namespace Go.Proofs.YtfgklnenpichcaaDoor
open Go.RowKit

theorem segEnc_len (t how : Int) (xs : List V) (h : okAll t xs) : 3 ≤ (segEnc t how xs).length ∧ (segEnc t how xs).length ≤ 7000 := by
  have h1 := bodyEnc_le t how (heldOf xs) (Nat.le_trans (heldOf_le xs) h.1) (good_held t xs h)
  have h2 := h.1
  unfold segEnc headEnc
  rw [List.length_append, List.length_append, packBits_length, List.length_map]
  simp only [List.length_cons, List.length_nil]
  omega

theorem pOut_good {t how : Int} {xs : List V} (hway : way t how = true) (h : okAll t xs) (hd : ¬ (how = 1 ∧ 16 < (uniq [] (heldOf xs)).length)) : pOut t how xs = (segEnc t how xs, 0) := by
  have hb : (way t how && okAllB t xs) = true := by rw [Bool.and_eq_true]; exact ⟨hway, (okAllB_iff t xs).2 h⟩
  unfold pOut
  rw [if_pos hb, if_neg hd]
theorem pOut_dict {t how : Int} {xs : List V} (hway : way t how = true) (h : okAll t xs) (hd : how = 1 ∧ 16 < (uniq [] (heldOf xs)).length) : pOut t how xs = ([], 2) ∧ 16 < xs.length := by
  have hb : (way t how && okAllB t xs) = true := by rw [Bool.and_eq_true]; exact ⟨hway, (okAllB_iff t xs).2 h⟩
  have h1 := uniq_le (heldOf xs) []
  have h2 := heldOf_le xs
  have h3 := hd.2
  simp only [List.length_nil, Nat.zero_add] at h1
  unfold pOut
  rw [if_pos hb, if_pos hd]
  exact ⟨rfl, by omega⟩

theorem u8_byte (n : Int) : ∃ c : UInt8, IntKind.u8.wrap n = (c.toNat : Int) := by
  refine ⟨UInt8.ofNat (n % 256).toNat, ?_⟩
  rw [IntKind.wrap_u8]
  simp
  omega
theorem xor_byte (a b : Int) : ∃ c : UInt8, bits .xor .u8 a b = (c.toNat : Int) := u8_byte _

/-- '[]byte(s)': its bytes can be read, and written into. -/
theorem conv_bytes2 (x : List UInt8) (w : World) : ∃ cap w2, (convert 9 36 (.string (str x))).run Tryd.prog w = .ok (.slice (some ⟨w.heap.size, 0, none⟩) x.length cap) w2 ∧
    (∀ j (hj : j < x.length), w2.cell? ⟨w.heap.size, j, none⟩ = some (.int .u8 (x[j].toNat : Int)) ∧ w2.frozen? ⟨w.heap.size, j, none⟩ = false) ∧ w2.heap.size = w.heap.size + 1 ∧ Below w.heap.size w w2 := by
  have h := Lib.run_convert_string_bytes (P := Tryd.prog) w 9 36 5 (str x) Tryd.underlying9 Tryd.underlying36 Tryd.underlying5
  rw [str_size] at h
  refine ⟨_, _, h, ?_, Lib.bytesWorld_size _ _ _, rfl, rfl, rfl, by rw [Lib.bytesWorld_size]; omega, fun k hk => Lib.bytesWorld_at_old _ _ _ _ hk⟩
  intro j hj
  have hc := Lib.bytesWorld_cell w 5 (str x) j (by rw [str_size]; exact hj)
  refine ⟨?_, ?_⟩
  · rw [hc]
    simp [str, hj]
  · have hn := Lib.bytesWorld_at_new w 5 (str x)
    have hsz : j < (Lib.bytesCells w 5 (str x)).size := by simp [Lib.bytesCells, str]; omega
    unfold World.frozen?
    simp [hn]
    omega

/-- A byte of the list is turned. -/
theorem set_byte {w w9 : World} {g k : Nat} {bs : List UInt8} (hcl : ∀ j (hj : j < bs.length), w9.cell? ⟨g, j, none⟩ = some (.int .u8 (bs[j].toNat : Int)) ∧ w9.frozen? ⟨g, j, none⟩ = false) (hk : k < bs.length)
    (n m : Int) (hb : Below w.heap.size w w9) (hg : w.heap.size ≤ g) :
    ∃ c : UInt8, (∀ j u, ((bs.set k c).map bv)[j]? = some u → (w9.setCell ⟨g, k, none⟩ (.int .u8 (bits .xor .u8 n m))).drew.cell? ⟨g, j, none⟩ = some u) ∧ Below w.heap.size w (w9.setCell ⟨g, k, none⟩ (.int .u8 (bits .xor .u8 n m))).drew := by
  obtain ⟨c, hc⟩ := xor_byte n m
  refine ⟨c, fun j u hj => ?_, below_drewN (hb.setCell (p := ⟨g, k, none⟩) hg _) 1⟩
  show (w9.setCell ⟨g, k, none⟩ (.int .u8 (bits .xor .u8 n m))).cell? ⟨g, j, none⟩ = some u
  rw [hc]
  have hjl : j < bs.length := by
    rcases Nat.lt_or_ge j bs.length with h | h
    · exact h
    · rw [List.getElem?_eq_none (by simpa using h)] at hj; simp at hj
  rw [List.getElem?_map, List.getElem?_set] at hj
  by_cases e : k = j
  · subst e
    rw [if_pos rfl, if_pos hk] at hj
    simp at hj
    subst hj
    exact World.cell?_setCell_same _ _ _ (hcl k hk).1
  · rw [if_neg e, List.getElem?_eq_getElem hjl] at hj
    simp at hj
    subst hj
    rw [World.cell?_setCell_other _ _ _ _ (fun h => e (by cases h; rfl))]
    exact (hcl j hjl).1
end Go.Proofs.YtfgklnenpichcaaDoor

/-! The law Segmented, walked. -/
namespace Go.Proofs.YtfgklnenpichcaaDoor
open Go.RowKit

theorem wrap_in (x : Int) : inI64 (wrap64 x) := by unfold inI64 wrap64; omega

set_option maxRecDepth 100000 in
set_option maxHeartbeats 400000 in
theorem segmented_any (typ how at0 by0 : Int) (a : Option Addr) (cap : Nat) (xs : List V) (w : World) (ht : inI64 typ) (hh : inI64 how) (hat : inI64 at0) (hby : inI64 by0)
    (hx : Vals w a xs) (hr : ∀ v ∈ xs, inI64 v.k ∧ inI64 v.n) (a0 a1 a2 : Addr) (he : Errs w a0 a1 a2) :
    Calls Tryd.prog 4 #[.int .i64 typ, .int .i64 how, .slice a xs.length cap, .int .i64 at0, .int .i64 by0] w fun e w' => e = .returned (.bool true) ∧ Below w.heap.size w w' := by
  have HR : Hid (∀ v ∈ xs, inI64 v.k ∧ inI64 v.n) := hr
  have HT : Hid (inI64 typ) := ht
  have HH : Hid (inI64 how) := hh
  have HA : Hid (inI64 at0) := hat
  have HB : Hid (inI64 by0) := hby
  clear hr ht hh hat hby
  go_enter Tryd.func4, Tryd.ntmps4
  go_wp2_with fail
  refine (pick_any (wrap64 (typ - 1)) 3 w (wrap_in (typ - 1)) (by decide) (by decide)).mono ?_
  rintro e w1 ⟨⟨r, rfl, hr3⟩, hw1⟩
  subst w1
  go_wp2_with fail
  refine (pick_any how 4 w HH.out (by decide) (by decide)).mono ?_
  rintro e w1 ⟨⟨q, rfl, hq4⟩, hw1⟩
  subst w1
  go_upto_region 3 with fail
  go_cut [37] from 26 to 37 (fun s wx => s = .bool (decide (q = 3 ∧ r = 2)) ∧ wx = w)
  case first =>
    by_cases hq : q = 3
    · by_cases hr : r = 2
      · subst hq hr
        go_wp2
        go_meet
        exact ⟨rfl, rfl⟩
      · have hr' : ((1 + (r : Int)) == 3) = false := by rw [beq_eq_false_iff_ne]; omega
        have hd : decide (q = 3 ∧ r = 2) = false := by rw [decide_eq_false_iff_not]; omega
        subst hq
        go_wp2
        go_meet
        exact ⟨by rw [hd], rfl⟩
    · have hq' : ((q : Int) == 3) = false := by rw [beq_eq_false_iff_ne]; omega
      have hd : decide (q = 3 ∧ r = 2) = false := by rw [decide_eq_false_iff_not]; omega
      go_wp2
      go_meet
      exact ⟨by rw [hd], rfl⟩
  case rest =>
  obtain ⟨rfl, hwc⟩ := hcut
  subst wc
  go_upto_if 37 with fail
  go_cut [12] from 26 to 37 (fun s wx => (∃ h : Nat, s = .int .i64 h ∧ way (1 + (r : Int)) h = true) ∧ wx = w)
  case first =>
    by_cases hd : q = 3 ∧ r = 2
    · have hd' : decide (q = 3 ∧ r = 2) = true := decide_eq_true hd
      go_wp2
      go_meet
      exact ⟨⟨1, rfl, by unfold way; simp; omega⟩, rfl⟩
    · have hd' : decide (q = 3 ∧ r = 2) = false := by rw [decide_eq_false_iff_not]; exact hd
      go_wp2
      go_meet
      exact ⟨⟨q, rfl, by unfold way; simp; omega⟩, rfl⟩
  case rest =>
  obtain ⟨⟨h, rfl, hway⟩, hwc⟩ := hcut
  subst wc
  have HWAY : Hid (way (1 + (r : Int)) h = true) := hway
  clear hway
  go_upto_block 0 with fail
  go_cut [13] from 26 to 56 (fun s wx => ∃ us : List V, us.length ≤ 64 ∧ OwnV wx w.heap.size s us ∧ (∀ v ∈ us, okB (1 + (r : Int)) v.k v.n v.s = true ∧ inI64 v.n) ∧ Below w.heap.size w wx)
  case first =>
    go_wp2_with fail
    go_loopw [13, 14] (fun sv i wr => ∃ us : List V, us.length ≤ xs.length ∧ us.length ≤ 64 ∧ i = .int .i64 us.length ∧ OwnV wr w.heap.size sv us ∧ Hid (∀ v ∈ us, okB (1 + (r : Int)) v.k v.n v.s = true ∧ inI64 v.n) ∧ Below w.heap.size w wr) (fun _ i _ => xs.length - (intOf i).toNat)
    case atStart => exact ⟨[], Nat.zero_le _, Nat.zero_le _, rfl, OwnV.nil _ _, fun v hv => by simp at hv, Below.refl _ _⟩
    case round =>
      rename_i sv i
      obtain ⟨us, hu1, hu2, rfl, hown, hus, hbw⟩ := hrel
      by_cases hlt : us.length < xs.length
      · by_cases h64 : us.length < 64
        · obtain ⟨b1, o1, rfl, hb1, x1, x2, x3⟩ := (hx.below hbw).at hlt
          have hrk := HR.out xs[us.length] (List.getElem_mem hlt)
          have HK : Hid (inI64 xs[us.length].k) := hrk.1
          have HN : Hid (inI64 xs[us.length].n) := hrk.2
          clear hrk
          have hbs := hbw.size
          go_wp2_with (first
            | (go_at_call 7; refine (kvalue_any xs[us.length] (1 + (r : Int)) _ (by omega) HK.out HN.out).mono ?_; rintro e w2 ⟨⟨u, rfl, huk, hui⟩, hb2⟩; have hb2s := hb2.size; have HU : Hid (okB (1 + (r : Int)) u.k u.n u.s = true ∧ inI64 u.n) := ⟨huk, hui⟩; clear huk hui)
            | (at_builtin; refine wpList_append_V (by rfl) _ _ (by rfl) w.heap.size _ us (by rfl) ((hown.below hb2).alloc _) _ _ u (by rfl) (by refine ⟨?_, ?_, ?_⟩ <;> simp) (by omega) (by simp; omega) ?_; intro sv' w4 h1 h2 h3))
          go_roundw
          case rel =>
            have e1 : (us ++ [u]).length = us.length + 1 := List.length_append ..
            refine ⟨us ++ [u], by omega, by omega, by go_num, h1, fun v hv => ?_, ?_⟩
            · rcases List.mem_append.1 hv with hv | hv
              · exact hus.out v hv
              · simp at hv; subst hv; exact HU.out
            · exact below_grown (below_alloc (below_then hbw hb2) _) h2 fun k hk => (owns_block hown hk).1
          case measure => simp [intOf]; omega
        · have h64' : ¬ ((us.length : Int) < 64) := by omega
          go_wp2
          go_meet
          exact ⟨us, hu2, hown, hus.out, hbw⟩
      · go_wp2
        go_meet
        exact ⟨us, hu2, hown, hus.out, hbw⟩
  case rest =>
  rename World => w2
  obtain ⟨us, hu64, hown, hus, hbw⟩ := hcut
  obtain ⟨av, capv, rfl, hv⟩ := hown.vals
  clear hown
  have HUS : Hid (∀ v ∈ us, okB (1 + (r : Int)) v.k v.n v.s = true ∧ inI64 v.n) := hus
  clear hus
  go_wp2_with fail
  have hok : Hid (okAll (1 + (r : Int)) us) := ⟨hu64, fun j hj => (HUS.out _ (List.getElem_mem hj)).1⟩
  have hmx : us.length ≤ maxLen := by unfold maxLen; omega
  refine (Pack_any (1 + (r : Int)) (h : Int) av capv us w2 hmx hv a0 a1 a2 (he.below hbw)).mono ?_
  rintro e w3 ⟨rfl, hb3⟩
  generalize hpo : pOut (1 + (r : Int)) h us = po
  have HPO : Hid (pOut (1 + (r : Int)) h us = po) := hpo
  clear hpo
  have hb3s := hb3.size
  have hba : Below w3.heap.size w3 (w3.alloc (.cells #[.int .i64 po.2, .int .i64 (-1), .int .i64 (-1), .int .i64 (-1), .int .i64 (-1)] 30)) := (Below.refl _ _).alloc (Nat.le_refl _) _
  have hbA := below_then hb3 hba
  go_upto_region 11 with fail
  go_cut [12, 75] from 57 to 75 (fun s12 s wx => s12 = .int .i64 h ∧ s = .bool (decide ((h : Int) = 1 ∧ 16 < (uniq [] (heldOf us)).length)) ∧ wx = w3.alloc (.cells #[.int .i64 po.2, .int .i64 (-1), .int .i64 (-1), .int .i64 (-1), .int .i64 (-1)] 30))
  case first =>
    by_cases hd : (h : Int) = 1 ∧ 16 < (uniq [] (heldOf us)).length
    · obtain ⟨e2, e3⟩ := pOut_dict HWAY.out hok.out hd
      rw [HPO.out] at e2
      have HD : Hid (decide ((h : Int) = 1 ∧ 16 < (uniq [] (heldOf us)).length) = true) := decide_eq_true hd
      have hd1' : ((h : Int) == 1) = true := by rw [beq_iff_eq]; exact hd.1
      have hp2 : (po.2 == 2) = true := by rw [e2]; rfl
      have e3' : (16 : Int) < (us.length : Int) := by omega
      clear hd e2
      go_wp2
      go_meet
      exact ⟨rfl, by rw [HD.out], rfl⟩
    · have e2 := pOut_good HWAY.out hok.out hd
      rw [HPO.out] at e2
      have HD : Hid (decide ((h : Int) = 1 ∧ 16 < (uniq [] (heldOf us)).length) = false) := decide_eq_false hd
      have hp2 : (po.2 == 2) = false := by rw [e2]; rfl
      clear hd e2
      go_wp2
      go_meet
      exact ⟨rfl, by rw [HD.out], rfl⟩
  case rest =>
  obtain ⟨rfl, rfl, hwc⟩ := hcut
  subst hwc
  go_upto_if 75 with fail
  go_cut [15] from 57 to 82 (fun s wx => ∃ (bs : List UInt8) (h2 : Nat), s = .string (str bs) ∧ pOut (1 + (r : Int)) h2 us = (bs, 0) ∧ 3 ≤ bs.length ∧ bs.length ≤ 7000 ∧ w3.heap.size < wx.heap.size ∧ Below w2.heap.size w2 wx ∧
    wx.cell? ⟨w3.heap.size, 0, none⟩ = some (.int .i64 0) ∧ wx.cell? ⟨w3.heap.size, 1, none⟩ = some (.int .i64 (-1)) ∧ wx.cell? ⟨w3.heap.size, 2, none⟩ = some (.int .i64 (-1)) ∧ wx.cell? ⟨w3.heap.size, 3, none⟩ = some (.int .i64 (-1)) ∧ wx.cell? ⟨w3.heap.size, 4, none⟩ = some (.int .i64 (-1)))
  case first =>
    by_cases hd : (h : Int) = 1 ∧ 16 < (uniq [] (heldOf us)).length
    · have HD : (decide ((h : Int) = 1 ∧ 16 < (uniq [] (heldOf us)).length) = true) := decide_eq_true hd
      clear hd
      generalize decide ((h : Int) = 1 ∧ 16 < (uniq [] (heldOf us)).length) = dd at *
      subst HD
      have hway0 : way (1 + (r : Int)) 0 = true := by unfold way; rw [decide_eq_true_iff]; omega
      have e2 := pOut_good hway0 hok.out (by omega)
      have hsl := segEnc_len _ 0 us hok.out
      have hvA := hv.below hbA
      have heA := (he.below hbw).below hbA
      generalize hW : w3.alloc (.cells #[.int .i64 po.2, .int .i64 (-1), .int .i64 (-1), .int .i64 (-1), .int .i64 (-1)] 30) = WA at *
      have hgA : w3.heap.size < WA.heap.size := by rw [← hW]; simp
      have r0 : WA.cell? ⟨w3.heap.size, 0, none⟩ = some (.int .i64 po.2) ∧ WA.frozen? ⟨w3.heap.size, 0, none⟩ = false := by rw [← hW]; simp
      have r1 : WA.cell? ⟨w3.heap.size, 1, none⟩ = some (.int .i64 (-1)) ∧ WA.frozen? ⟨w3.heap.size, 1, none⟩ = false := by rw [← hW]; simp
      have r2 : WA.cell? ⟨w3.heap.size, 2, none⟩ = some (.int .i64 (-1)) ∧ WA.frozen? ⟨w3.heap.size, 2, none⟩ = false := by rw [← hW]; simp
      have r3 : WA.cell? ⟨w3.heap.size, 3, none⟩ = some (.int .i64 (-1)) ∧ WA.frozen? ⟨w3.heap.size, 3, none⟩ = false := by rw [← hW]; simp
      have r4 : WA.cell? ⟨w3.heap.size, 4, none⟩ = some (.int .i64 (-1)) ∧ WA.frozen? ⟨w3.heap.size, 4, none⟩ = false := by rw [← hW]; simp
      clear hW
      have E2 : Hid _ := e2
      clear e2
      go_wp2_with fail
      refine (Pack_any (1 + (r : Int)) 0 av capv us WA hmx hvA a0 a1 a2 heA).mono ?_
      rintro e w4 ⟨rfl, hb4⟩
      rw [E2.out]
      obtain ⟨k1, k2⟩ := below_keep hb4
      rw [← k1 _ _ hgA, ← k2 _ _ hgA] at r0 r1 r2 r3 r4
      obtain ⟨r0, f0⟩ := r0
      obtain ⟨r1, f1⟩ := r1
      obtain ⟨r2, f2⟩ := r2
      obtain ⟨r3, f3⟩ := r3
      obtain ⟨r4, f4⟩ := r4
      have hbB := below_then hbA hb4
      have hb4s := hb4.size
      clear k1 k2 hb4
      go_wp2
      go_meet
      refine ⟨_, 0, rfl, E2.out, hsl.1, hsl.2, ?_, ?_, ?_, ?_, ?_, ?_, ?_⟩
      · simp; omega
      · exact ((((hbB.setCell (p := ⟨w3.heap.size, 0, none⟩) hb3s _).setCell (p := ⟨w3.heap.size, 1, none⟩) hb3s _).setCell (p := ⟨w3.heap.size, 2, none⟩) hb3s _).setCell (p := ⟨w3.heap.size, 3, none⟩) hb3s _).setCell (p := ⟨w3.heap.size, 4, none⟩) hb3s _
      all_goals go_simp
    · have HD : (decide ((h : Int) = 1 ∧ 16 < (uniq [] (heldOf us)).length) = false) := decide_eq_false hd
      have e2 := pOut_good HWAY.out hok.out hd
      have hsl := segEnc_len (1 + (r : Int)) h us hok.out
      rw [HPO.out] at e2
      clear hd
      generalize decide ((h : Int) = 1 ∧ 16 < (uniq [] (heldOf us)).length) = dd at *
      subst HD
      have HPO' := HPO.out
      subst e2
      go_wp2
      go_meet
      exact ⟨_, h, rfl, HPO', hsl.1, hsl.2, by simp, hbA, by simp, by simp, by simp, by simp, by simp⟩
  case rest =>
  rename World => w5
  obtain ⟨bs, h2, rfl, hp, hl3, hl7, hgx, hbx, r0, r1, r2, r3, r4⟩ := hcut
  have HP : Hid (pOut (1 + (r : Int)) h2 us = (bs, 0)) := hp
  have hpr := pRead_of _ _ us bs hp fun v hv => (HUS.out v hv).2
  clear hp hba hbA HPO hb3 hb3s
  have hv5 := hv.below hbx
  have hb5 := below_then hbw hbx
  clear hv hbx
  go_wp2_with fail
  refine (Unpack_any bs w5 (by unfold maxLen; omega) a0 a1 a2 (he.below hb5)).mono ?_
  rintro e w6 ⟨hb6, ⟨hno, _⟩ | ⟨t, how2, vs, b, hr, rfl, hbl, hrow⟩⟩
  · rw [hpr] at hno; simp at hno
  rw [hpr] at hr
  simp only [Option.some.injEq, Prod.mk.injEq] at hr
  obtain ⟨ht, _, rfl⟩ := hr
  clear hpr
  have ht' : (t : Int) = 1 + (r : Int) := by omega
  rw [ht']
  clear ht ht'
  have hbaf : Below w6.heap.size w6 (w6.alloc (.cells #[.int .i64 0, .int .i64 (-1), .int .i64 (-1), .int .i64 (-1), .int .i64 (-1)] 30)) := (Below.refl _ _).alloc (Nat.le_refl _) _
  have hb6s := hb6.size
  have hrl := hrow.lt
  have hsz := str_size bs
  have h3' : ¬ ((bs.length : Int) < 3) := by omega
  obtain ⟨k1, k2⟩ := below_keep (below_then hb6 hbaf)
  go_wp2_with fail
  generalize hW : w6.alloc (.cells #[.int .i64 0, .int .i64 (-1), .int .i64 (-1), .int .i64 (-1), .int .i64 (-1)] 30) = W at *
  rw [← k1 _ _ hgx] at r0 r1 r2 r3 r4
  clear k1 k2
  have s0 : W.cell? ⟨w6.heap.size, 0, none⟩ = some (.int .i64 0) := by rw [← hW]; simp
  have s1 : W.cell? ⟨w6.heap.size, 1, none⟩ = some (.int .i64 (-1)) := by rw [← hW]; simp
  have s2 : W.cell? ⟨w6.heap.size, 2, none⟩ = some (.int .i64 (-1)) := by rw [← hW]; simp
  have s3 : W.cell? ⟨w6.heap.size, 3, none⟩ = some (.int .i64 (-1)) := by rw [← hW]; simp
  have s4 : W.cell? ⟨w6.heap.size, 4, none⟩ = some (.int .i64 (-1)) := by rw [← hW]; simp
  have hg6 : w6.heap.size < W.heap.size := by rw [← hW]; simp
  have hg3 : w3.heap.size < W.heap.size := by omega
  clear hW
  have hqF := run_neq_F 0
  go_region_held3 (fun X => X.cell? ⟨w3.heap.size, 0, none⟩ = some (.int .i64 0) ∧ X.cell? ⟨w3.heap.size, 1, none⟩ = some (.int .i64 (-1)) ∧ X.cell? ⟨w3.heap.size, 2, none⟩ = some (.int .i64 (-1)) ∧ X.cell? ⟨w3.heap.size, 3, none⟩ = some (.int .i64 (-1)) ∧ X.cell? ⟨w3.heap.size, 4, none⟩ = some (.int .i64 (-1)) ∧ X.cell? ⟨w6.heap.size, 0, none⟩ = some (.int .i64 0) ∧ X.cell? ⟨w6.heap.size, 1, none⟩ = some (.int .i64 (-1)) ∧ X.cell? ⟨w6.heap.size, 2, none⟩ = some (.int .i64 (-1)) ∧ X.cell? ⟨w6.heap.size, 3, none⟩ = some (.int .i64 (-1)) ∧ X.cell? ⟨w6.heap.size, 4, none⟩ = some (.int .i64 (-1)))
    (first | go_keep | (go_split_ands; refine ⟨?_, ?_, ?_, ?_, ?_, ?_, ?_, ?_, ?_, ?_⟩ <;> (rw [(below_keep hbm).1 _ _ (by first | exact hg3 | exact hg6 | assumption)]; assumption)))
    (first | (go_at_call 10; refine (none_any _).mono ?_; rintro e wm ⟨rfl, hbm⟩; have hgm3 : w3.heap.size < wm.heap.size := Nat.lt_of_lt_of_le (by first | exact hg3 | assumption) hbm.size; have hgm6 : w6.heap.size < wm.heap.size := Nat.lt_of_lt_of_le (by first | exact hg6 | assumption) hbm.size; have hbw6 : Below w6.heap.size w6 wm := (by first | exact below_then hbaf (below_undrew hbm) | exact below_then hbw6 hbm | exact below_then hbaf hbm)))
  clear r0 r1 r2 r3 r4 s0 s1 s2 s3 s4 hbm hg6 hg3 hgm3 hgm6 hgx hqF hbaf
  have hb67 := below_then hb6 hbw6
  have hb7 := below_then hb5 hb67
  have hv7 := hv5.below hb67
  have hr7 := (hrow.of_block (hbw6.block _ hrl)).vals
  clear hv5 hrow hbw6 hb67 hb6
  generalize hwm : wm = w7 at *
  clear hwm
  go_upto_block 2 with fail
  go_cut [20] from 114 to 128 (fun _ wx => Below w.heap.size w wx)
  case first =>
    go_wp2_with fail
    go_loopw [20] (fun i wr => ∃ k : Nat, k ≤ us.length ∧ i = .int .i64 k ∧ ∃ m, wr = w7.drewN m) (fun i _ => us.length - (intOf i).toNat)
    case atStart => exact ⟨0, Nat.zero_le _, rfl, 0, rfl⟩
    case round =>
      obtain ⟨k, hk, rfl, m, rfl⟩ := hrel
      by_cases hlt : k < us.length
      · obtain ⟨b1, o1, rfl, hb1, x1, x2, x3⟩ := hv7.at hlt
        obtain ⟨b2, o2, e2, hb2, y1, y2, y3⟩ := hr7.at hlt
        simp at e2
        obtain ⟨rfl, rfl⟩ := e2
        simp only [Nat.zero_add] at y1 y2 y3
        have hq := run_neq_same us[k] us[k] rfl
        go_wp2
        go_quiet (fail)
        go_wp2
        go_roundw
        case rel => exact ⟨k + 1, by omega, by go_num, _, rfl⟩
        case measure => simp [intOf]; omega
      · go_wp2
        go_meet
        exact below_drewN hb7 _
  case rest =>
  rename World => w8
  clear hv7 hr7 hb7
  have hb8 := hcut
  clear hcut
  obtain ⟨cpb, w9, hcv, hcl, hs9, hb9⟩ := conv_bytes2 bs w8
  have hb89 := below_then hb8 hb9
  go_wp2_with fail
  refine (pick_any at0 bs.length w9 HA.out (by omega) (by omega)).mono ?_
  rintro e w1 ⟨⟨k, rfl, hk⟩, hw1⟩
  subst w1
  obtain ⟨c0, f0⟩ := hcl k hk
  have hg8 : w8.heap.size < w9.heap.size := by omega
  have hb8s := hb8.size
  go_upto_region 24 with fail
  go_cut [] from 135 to 146 (fun wx => ∃ c : UInt8, (∀ j u, ((bs.set k c).map bv)[j]? = some u → wx.cell? ⟨w8.heap.size, j, none⟩ = some u) ∧ Below w.heap.size w wx)
  case first =>
    go_region_with (go_at_call 6; refine (pick_any by0 255 _ HB.out (by decide) (by decide)).mono ?_; rintro e wp ⟨⟨z, rfl, hz⟩, hwp⟩; subst wp)
    all_goals go_wp2_with fail
    all_goals go_meet
    all_goals exact set_byte hcl hk _ _ hb89 hb8s
  case rest =>
  rename World => wX
  obtain ⟨c, hcs, hbX⟩ := hcut
  have hcnv := run_conv_bytes wX ⟨w8.heap.size, 0, none⟩ cpb (bs.set k c) (by
    intro j u hj
    rcases Nat.eq_zero_or_pos j with h0 | h0
    · subst h0
      simpa [Addr.add] using hcs 0 u hj
    · have hne : ¬ j = 0 := by omega
      simpa [Addr.add, hne] using hcs j u hj)
  rw [List.length_set] at hcnv
  clear hcl c0 f0 hcs hcv
  have e1 : (str bs).extract 0 k = str (bs.take k) := by rw [str_extract, List.drop_zero]
  have e2 : str bs ++ ByteArray.mk #[0] = str (bs ++ [0]) := str_append bs [0]
  have hk1 : (k : Int) ≤ (bs.length : Int) := by omega
  have hk0 : (0 : Int) ≤ (k : Int) := by omega
  go_wp2_with fail
  refine (written_any (bs.set k c) wX (by rw [List.length_set]; unfold maxLen; omega) a0 a1 a2 (he.below hbX)).mono ?_
  rintro e wY ⟨rfl, hbY⟩
  have hbXY := below_then hbX hbY
  go_wp2_with fail
  refine (written_any (bs.take k) wY (by rw [List.length_take]; unfold maxLen; omega) a0 a1 a2 (he.below hbXY)).mono ?_
  rintro e wZ ⟨rfl, hbZ⟩
  have hbXZ := below_then hbXY hbZ
  go_wp2_with fail
  refine (written_any (bs ++ [0]) wZ (by rw [List.length_append]; simp only [List.length_cons, List.length_nil]; unfold maxLen; omega) a0 a1 a2 (he.below hbXZ)).mono ?_
  rintro e wO ⟨rfl, hbO⟩
  have hbXO := below_then hbXZ hbO
  go_wp2
  go_ret
  exact ⟨rfl, hbXO⟩
end Go.Proofs.YtfgklnenpichcaaDoor

/-! The arguments of the law Segmented, read off their reading, with the numbers' ranges. Nothing is run. -/
namespace Go.Proofs.YtfgklnenpichcaaDoor
open Go.RowKit Go.Deep Go.ChangeShapes Go.WideShapes

theorem wf_in {n : Int} (h : (Lit.int .i64 n).wf = true) : inI64 n := by
  simp [Lit.wf, IntKind.min, IntKind.max, IntKind.signed, IntKind.bits] at h
  exact ⟨h.1, h.2⟩

/-- One value, opened. -/
theorem open_V2 {H : Type} {enc : TypeId × Value → H} {W : World} {base base' : Nat} {spare : Nat → Bool} {held : Bool} {fuel : Nat} {cs : List Value} {x : DataW H × List MemPlace} {a : Addr}
    (hc : W.cells? base' a 3 = some cs) (h : DataW.trod enc Tryd.prog W base spare held fuel 25 cs = some x) : a.spot = none ∧ ∃ v : V, VAt W a.block a.off v ∧ inI64 v.k ∧ inI64 v.n := by
  obtain ⟨y0, y1, y2, n', _, _, h0, h1, h2⟩ := trod_struct3 Tryd.underlying25 h
  obtain ⟨_, hl3, hcell⟩ := World.cells?_some hc
  obtain ⟨c0, c1, c2, rfl⟩ := list3 hl3
  obtain ⟨k, e0, _, g0⟩ := DataW.trod_int Tryd.underlying3 h0
  obtain ⟨nn, e1, _, g1⟩ := DataW.trod_int Tryd.underlying2 h1
  obtain ⟨s, e2, _, _⟩ := DataW.trod_string Tryd.underlying9 h2
  have q0 := hcell 0 (by omega)
  have q1 := hcell 1 (by omega)
  have q2 := hcell 2 (by omega)
  have hsp : a.spot = none := by simpa [Addr.add] using World.cell?_spot q0
  simp [cellsInt] at e0
  simp [cellsI64] at e1
  simp [cellsStr] at e2
  subst e0 e1 e2
  obtain ⟨b, o, sp⟩ := a
  simp only at hsp
  subst hsp
  refine ⟨rfl, ⟨k, nn, s⟩, ⟨?_, ?_, ?_⟩, wf_in g0, wf_in g1⟩
  · simpa [Addr.add] using q0
  · simpa [Addr.add] using q1
  · simpa [Addr.add] using q2

/-- A list of values, opened. -/
theorem open_vals2 {H : Type} {enc : TypeId × Value → H} {W : World} {base : Nat} {spare : Nat → Bool} {held : Bool} {fuel : Nat} {cs : List Value} {x : DataW H × List MemPlace}
    (h : DataW.trod enc Tryd.prog W base spare held fuel 22 cs = some x) :
    ∃ a cap, ∃ xs : List V, cs = [.slice a xs.length cap] ∧ Vals W a xs ∧ ∀ v ∈ xs, inI64 v.k ∧ inI64 v.n := by
  rcases open_slice Tryd.underlying22 h with ⟨hcs, hx⟩ | ⟨a, len, cap, m, n, D, Pl, hcs, hb, hl, hm, hmm, hx, hel⟩
  · exact ⟨none, 0, [], hcs, .inl rfl, fun v hv => by simp at hv⟩
  · have hlm : len ≤ m := by rw [hmm]; split <;> omega
    have key : ∀ i, i < len → (a.add (i * 3)).spot = none ∧ ∃ v : V, VAt W (a.add (i * 3)).block (a.add (i * 3)).off v ∧ inI64 v.k ∧ inI64 v.n := by
      intro i hi
      obtain ⟨cs', hc0, ht0⟩ := hel i (by omega)
      rw [cellsV] at hc0
      exact open_V2 hc0 ht0
    rcases Nat.eq_zero_or_pos len with h0 | hpos
    · subst h0
      exact ⟨some a, cap, [], hcs, .inl rfl, fun v hv => by simp at hv⟩
    · haveI : Inhabited V := ⟨⟨0, 0, ByteArray.empty⟩⟩
      have hsp := (key 0 hpos).1
      obtain ⟨b, o, sp⟩ := a
      simp [Addr.add] at hsp
      subst hsp
      have key' : ∀ i, i < len → ∃ v : V, VAt W b (o + i * 3) v ∧ inI64 v.k ∧ inI64 v.n := by
        intro i hi
        obtain ⟨v, hv, hg⟩ := (key i hi).2
        refine ⟨v, ?_, hg⟩
        rcases Nat.eq_zero_or_pos i with h0 | h0
        · subst h0
          simpa [Addr.add] using hv
        · have hne : ¬ i * 3 = 0 := by omega
          simpa [Addr.add, hne] using hv
      obtain ⟨f, hf⟩ := choose_lt key'
      have hlt : b < W.heap.size := lt_of_cell (hf 0 hpos).1.1
      refine ⟨some ⟨b, o, none⟩, cap, (List.range len).map f, by rw [hcs]; simp, .inr ⟨b, o, rfl, hlt, ?_⟩, ?_⟩
      · intro i v hi
        rw [List.getElem?_map] at hi
        rcases Nat.lt_or_ge i len with h' | h'
        · rw [List.getElem?_range h'] at hi
          simp at hi
          subst hi
          exact (hf i h').1
        · rw [List.getElem?_eq_none (by simpa using h')] at hi
          simp at hi
      · intro v hv
        obtain ⟨i, hi, rfl⟩ := List.mem_map.1 hv
        exact (hf i (List.mem_range.1 hi)).2

end Go.Proofs.YtfgklnenpichcaaDoor
