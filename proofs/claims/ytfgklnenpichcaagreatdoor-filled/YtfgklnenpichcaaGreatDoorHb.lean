/- The statements' own helpers: types and ways out of raw numbers. -/
import Derived.Test.YtfgklnenpichcaaGreatDoorHa
namespace Go.Proofs.YtfgklnenpichcaaGreatDoor
open Go.RowKit

theorem in_wrap64 (n : Int) : inI64 (wrap64 n) := by
  unfold inI64 wrap64
  omega

def tOk (t : Int) : Prop := t = 1 ∨ t = 2 ∨ t = 3
set_option maxRecDepth 100000 in
set_option maxHeartbeats 1000000 in
theorem ktypes_any (a : Option Addr) (cap : Nat) (ns : List Int) (w : World) (hn : ns.length ≤ maxLen) (hx : Ints w a ns) :
    Calls Tryz.prog 27 #[.slice a ns.length cap, .int .i64 6] w fun e w' => ∃ (ts : List Int) (sv : Value), e = .returned sv ∧ OwnC w' w.heap.size 3 sv (ts.map iv) ∧ (1 ≤ ts.length ∧ ts.length ≤ 6) ∧ (∀ t ∈ ts, tOk t) ∧ Below w.heap.size w w' := by
  unfold maxLen at hn
  go_enter Tryz.func27, Tryz.ntmps27
  go_wp2
  go_loopw [5, 6] (fun sv i wr => ∃ (k : Nat) (ts : List Int), k ≤ ns.length ∧ k ≤ 6 ∧ i = .int .i64 k ∧ Hid (ts.length = k) ∧ Hid (∀ t ∈ ts, tOk t) ∧ OwnC wr w.heap.size 3 sv (ts.map iv) ∧ Below w.heap.size w wr) (fun _ i _ => 6 - (intOf i).toNat)
  case atStart => exact ⟨0, [], Nat.zero_le _, Nat.zero_le _, rfl, rfl, by intro t ht; simp at ht, OwnC.nil _ _ _, Below.refl _ _⟩
  case round =>
    rename_i sv i
    obtain ⟨k, ts, hk, hk6, rfl, HTL, HT, hown, hbw⟩ := hrel
    obtain ⟨a1, c1, hsv, _⟩ := hown.cells
    rw [List.length_map] at hsv
    have hbs := hbw.size
    have htl6 : ts.length ≤ 6 := by have := HTL.out; omega
    by_cases hlt : k < ns.length ∧ k < 6
    · obtain ⟨h1, h2⟩ := hlt
      obtain ⟨b1, o1, rfl, hb1, x1⟩ := Ints.at (hx.below hbw) h1
      have hpk := fun W => pick_any (wrap64 (ns[k] - 1)) 3 W (in_wrap64 _) (by decide) (by decide)
      have HP : Hid (∀ W, Calls Tryz.prog 15 #[.int .i64 (wrap64 (ns[k] - 1)), .int .i64 ((3 : Nat) : Int)] W fun e w' => (∃ r : Nat, e = .returned (.int .i64 r) ∧ r < 3) ∧ w' = W) := hpk
      clear hpk
      subst hsv
      go_wp2_with (first | (go_at_call 15; go_must (refine (HP.out _).mono ?_); rintro e w1 ⟨⟨r, rfl, hr⟩, hw1⟩; subst w1) | (at_builtin; go_must (refine wpList_append_C (by rfl) _ _ 23 3 _ 8 info_int (by rfl) (by decide) (by kernel_rfl) (by rfl) w.heap.size _ _ (by rfl) (OwnC.alloc hown _) ⟨wr.heap.size, 0, none⟩ 1 [iv (1 + (r : Int))] (by rfl) (by exact news_one wr _ _) (by intro u hu; simp at hu; subst hu; rfl) (by simp only [List.length_cons, List.length_nil, List.length_map]; omega) (by simp; omega) ?_); intro sv' w3 h1' h2' h3'; obtain ⟨a2, cap2, hsv2, _⟩ := h1'.cells; subst hsv2))
      go_roundw
      case rel =>
        refine ⟨k + 1, ts ++ [1 + (r : Int)], by omega, by omega, by go_num, by show _ = _; rw [List.length_append, HTL.out]; rfl, ?_, by simpa using h1', below_grown (below_alloc hbw _) h2' (fun g hg => (owns_block hown hg).1)⟩
        intro t ht
        rcases List.mem_append.1 ht with h | h
        · exact HT.out t h
        · simp at h; subst h; unfold tOk; omega
      case measure => simp [intOf]; omega
    · by_cases h0 : ts.length = 0
      · have hts : ts = [] := List.length_eq_zero_iff.1 h0
        subst hts
        have hsv0 := hsv
        subst hsv0
        have hk0 : k = 0 := by have := HTL.out; simp at this; omega
        subst hk0
        by_cases hn0 : 0 < ns.length
        · exact absurd ⟨hn0, by omega⟩ hlt
        · have hn1 : ns.length = 0 := by omega
          have hns := List.length_eq_zero_iff.1 hn1
          subst hns
          clear hlt hn0 hn1 h0
          simp at hown
          go_wp2_with (first | (at_builtin; go_must (refine wpList_append_C (by rfl) _ _ 23 3 _ 8 info_int (by rfl) (by decide) (by kernel_rfl) (by rfl) w.heap.size _ [] (by rfl) (OwnC.alloc (by exact hown) _) ⟨wr.heap.size, 0, none⟩ 1 [iv 1] (by rfl) (by exact news_one wr _ _) (by intro u hu; simp at hu; subst hu; rfl) (by simp) (by simp; omega) ?_); intro sv' w3 h1' h2' h3'; obtain ⟨a2, cap2, hsv2, _⟩ := h1'.cells; subst hsv2))
          go_ret
          exact ⟨[1], _, rfl, by simpa using h1', by simp, by intro t ht; simp at ht; subst ht; exact .inl rfl, below_grown (below_alloc hbw _) h2' (fun g hg => (owns_block hown hg).1)⟩
      · have hq : (((ts.length : Nat) : Int) == 0) = false := by rw [beq_eq_false_iff_ne]; omega
        by_cases h1 : k < ns.length
        · have h6 : k = 6 := by omega
          subst h6
          subst hsv
          go_wp2
          go_ret
          exact ⟨ts, _, rfl, hown, by omega, HT.out, hbw⟩
        · subst hsv
          go_wp2
          go_ret
          exact ⟨ts, _, rfl, hown, by omega, HT.out, hbw⟩

theorem way_of (t h : Int) (ht : tOk t) (h0 : 0 ≤ h) (h3 : h ≤ 3) (hn : ¬ (t = 3 ∧ h = 3)) : way t h = true := by
  unfold way tOk at *
  rw [decide_eq_true_eq]
  omega

/-- What the ways are, so far. -/
structure HowsI (ts ns L : List Int) (k : Nat) : Prop where
  len : L.length = k
  ok : ∀ j (hj : j < L.length), way (ts.getD j 0) L[j] = true
  plain : ∀ j (hj : j < L.length), ns.length ≤ j → L[j] = 0
theorem HowsI.more {ts ns L : List Int} {k : Nat} (h : HowsI ts ns L k) (v : Int) (hv : way (ts.getD k 0) v = true) (hp : ns.length ≤ k → v = 0) : HowsI ts ns (L ++ [v]) (k + 1) := by
  have hl := h.len
  refine ⟨by simp [hl], fun j hj => ?_, fun j hj hn => ?_⟩
  · by_cases e : j < L.length
    · rw [List.getElem_append_left e]; exact h.ok j e
    · have : j = L.length := by simp at hj; omega
      subst this
      rw [List.getElem_append_right (Nat.le_refl _)]
      simpa [hl] using hv
  · by_cases e : j < L.length
    · rw [List.getElem_append_left e]; exact h.plain j e hn
    · have : j = L.length := by simp at hj; omega
      subst this
      rw [List.getElem_append_right (Nat.le_refl _)]
      simpa using hp (by omega)

set_option maxRecDepth 100000 in
set_option maxHeartbeats 2000000 in
theorem khows_any (n0 r0 : Value) (at_ a : Option Addr) (ct cap : Nat) (ts ns : List Int) (w : World) (htl : ts.length ≤ 6) (hto : ∀ t ∈ ts, tOk t) (hin : ∀ n ∈ ns, inI64 n) (ht : Ints w at_ ts) (hx : Ints w a ns) :
    Calls Tryz.prog 10 #[.agg #[n0, .slice at_ ts.length ct, r0], .slice a ns.length cap] w fun e w' => ∃ (hs : List Int) (sv : Value), e = .returned sv ∧ OwnC w' w.heap.size 3 sv (hs.map iv) ∧ HowsI ts ns hs ts.length ∧ Below w.heap.size w w' := by
  have HTO : Hid (∀ t ∈ ts, tOk t) := hto
  have HIN : Hid (∀ n ∈ ns, inI64 n) := hin
  clear hto hin
  have hB0 : Below w.heap.size w (w.alloc (.cells #[n0, .slice at_ ts.length ct, r0] 26)) := (Below.refl _ _).alloc (Nat.le_refl _) _
  go_enter Tryz.func10, Tryz.ntmps10
  go_wp2
  go_loopw [5, 6] (fun sv i wr => ∃ (c : Nat) (L : List Int), c ≤ ts.length ∧ i = .int .i64 c ∧ Hid (HowsI ts ns L c) ∧ OwnC wr (w.heap.size + 1) 3 sv (L.map iv) ∧ Below (w.heap.size + 1) (w.alloc (.cells #[n0, .slice at_ ts.length ct, r0] 26)) wr) (fun _ i _ => ts.length - (intOf i).toNat)
  case atStart => exact ⟨0, [], Nat.zero_le _, rfl, ⟨rfl, by simp, by simp⟩, OwnC.nil _ _ _, Below.refl _ _⟩
  case round =>
    rename_i sv i
    obtain ⟨c, L, hc, rfl, HH, hown, hbw⟩ := hrel
    obtain ⟨a1, c1, hsv, _⟩ := hown.cells
    rw [List.length_map] at hsv
    have hbs := hbw.size
    simp at hbs
    have hLl : L.length ≤ 6 := by have := HH.out.len; omega
    have hbw0 : Below w.heap.size w wr := hB0.trans (hbw.mono (Nat.le_succ _))
    have ct1 : wr.cell? ⟨w.heap.size, 1, none⟩ = some (.slice at_ ts.length ct) := by rw [hbw.cell (p := ⟨w.heap.size, 1, none⟩) (by simp)]; simp
    by_cases hlt : c < ts.length
    · obtain ⟨b1, o1, rfl, hb1, x1⟩ := Ints.at (ht.below hbw0) hlt
      have HG : Hid (ts.getD c 0 = ts[c]) := by show _ = _; simp [hlt]
      have htc := HTO.out _ (List.getElem_mem hlt)
      unfold tOk at htc
      subst hsv
      by_cases hcn : c < ns.length
      · obtain ⟨b2, o2, rfl, hb2, x2⟩ := Ints.at (hx.below hbw0) hcn
        have hpk := pick_any ns[c] 4 wr (HIN.out _ (List.getElem_mem hcn)) (by decide) (by decide)
        go_wp2_with fail
        refine hpk.mono ?_
        rintro e w1 ⟨⟨r, rfl, hr⟩, hw1⟩
        subst w1
        by_cases h3 : r = 3
        · subst h3
          by_cases ht3 : ts[c] = 3
          · have hq : (ts[c] == 3) = true := by rw [beq_iff_eq]; exact ht3
            rw [ht3] at x1
            go_wp2_with (at_builtin; go_must (refine wpList_append_C (by rfl) _ _ 23 3 _ 8 info_int (by rfl) (by decide) (by kernel_rfl) (by rfl) (w.heap.size + 1) _ _ (by rfl) (OwnC.alloc hown _) ⟨wr.heap.size, 0, none⟩ 1 [iv 2] (by rfl) (by exact news_one wr _ _) (by intro u hu; simp at hu; subst hu; rfl) (by simp only [List.length_cons, List.length_nil, List.length_map]; omega) (by simp; omega) ?_); intro sv' w3 h1' h2' h3'; obtain ⟨a2, cap2, hsv2, _⟩ := h1'.cells; subst hsv2)
            go_roundw
            case rel => exact ⟨c + 1, L ++ [2], by omega, by go_num, HH.out.more 2 (by rw [HG.out]; exact way_of _ _ htc (by omega) (by omega) (by omega)) (fun h => by omega), by simpa using h1', (hbw.alloc (by omega) _).grown h2' (by simp; omega) (fun g hg => (owns_block hown hg).1)⟩
            case measure => simp [intOf]; omega
          · have hq : (ts[c] == 3) = false := by rw [beq_eq_false_iff_ne]; exact ht3
            go_wp2_with (at_builtin; go_must (refine wpList_append_C (by rfl) _ _ 23 3 _ 8 info_int (by rfl) (by decide) (by kernel_rfl) (by rfl) (w.heap.size + 1) _ _ (by rfl) (OwnC.alloc hown _) ⟨wr.heap.size, 0, none⟩ 1 [iv 3] (by rfl) (by exact news_one wr _ _) (by intro u hu; simp at hu; subst hu; rfl) (by simp only [List.length_cons, List.length_nil, List.length_map]; omega) (by simp; omega) ?_); intro sv' w3 h1' h2' h3'; obtain ⟨a2, cap2, hsv2, _⟩ := h1'.cells; subst hsv2)
            go_roundw
            case rel => exact ⟨c + 1, L ++ [3], by omega, by go_num, HH.out.more 3 (by rw [HG.out]; exact way_of _ _ htc (by omega) (by omega) (by omega)) (fun h => by omega), by simpa using h1', (hbw.alloc (by omega) _).grown h2' (by simp; omega) (fun g hg => (owns_block hown hg).1)⟩
            case measure => simp [intOf]; omega
        · have hq : ((r : Int) == 3) = false := by rw [beq_eq_false_iff_ne]; omega
          go_wp2_with (at_builtin; go_must (refine wpList_append_C (by rfl) _ _ 23 3 _ 8 info_int (by rfl) (by decide) (by kernel_rfl) (by rfl) (w.heap.size + 1) _ _ (by rfl) (OwnC.alloc hown _) ⟨wr.heap.size, 0, none⟩ 1 [iv (r : Int)] (by rfl) (by exact news_one wr _ _) (by intro u hu; simp at hu; subst hu; rfl) (by simp only [List.length_cons, List.length_nil, List.length_map]; omega) (by simp; omega) ?_); intro sv' w3 h1' h2' h3'; obtain ⟨a2, cap2, hsv2, _⟩ := h1'.cells; subst hsv2)
          go_roundw
          case rel => exact ⟨c + 1, L ++ [(r : Int)], by omega, by go_num, HH.out.more (r : Int) (by rw [HG.out]; exact way_of _ _ htc (by omega) (by omega) (by omega)) (fun h => by omega), by simpa using h1', (hbw.alloc (by omega) _).grown h2' (by simp; omega) (fun g hg => (owns_block hown hg).1)⟩
          case measure => simp [intOf]; omega
      · go_wp2_with (at_builtin; go_must (refine wpList_append_C (by rfl) _ _ 23 3 _ 8 info_int (by rfl) (by decide) (by kernel_rfl) (by rfl) (w.heap.size + 1) _ _ (by rfl) (OwnC.alloc hown _) ⟨wr.heap.size, 0, none⟩ 1 [iv 0] (by rfl) (by exact news_one wr _ _) (by intro u hu; simp at hu; subst hu; rfl) (by simp only [List.length_cons, List.length_nil, List.length_map]; omega) (by simp; omega) ?_); intro sv' w3 h1' h2' h3'; obtain ⟨a2, cap2, hsv2, _⟩ := h1'.cells; subst hsv2)
        go_roundw
        case rel => exact ⟨c + 1, L ++ [0], by omega, by go_num, HH.out.more 0 (by rw [HG.out]; exact way_of _ _ htc (by omega) (by omega) (by omega)) (fun _ => rfl), by simpa using h1', (hbw.alloc (by omega) _).grown h2' (by simp; omega) (fun g hg => (owns_block hown hg).1)⟩
        case measure => simp [intOf]; omega
    · obtain rfl : c = ts.length := by omega
      subst hsv
      go_wp2
      go_ret
      exact ⟨L, _, rfl, owns_mono hown (Nat.le_succ _), HH.out, hbw0⟩
end Go.Proofs.YtfgklnenpichcaaGreatDoor
