/- All values of a segment, in each of the four ways. -/
import Derived.Test.YthplnjgijmilnaaDoorRdH
namespace Go.Proofs.YthplnjgijmilnaaDoor
open Go.RowKit

theorem one_of (q : Nat) (h : q < 2) : (if q = 1 then 1 else 0) = q := by split <;> omega

set_option maxRecDepth 100000 in
set_option maxHeartbeats 4000000 in
theorem values_plain (g : Nat) (t : Int) (n : Nat) (bs : List UInt8) (a2 : Addr) (w : World) (h : RAt w g t bs a2) (ht : t = 1 ∨ t = 2 ∨ t = 3) (hn : n ≤ 64) :
    Calls Tryd.prog 43 #[.pointer (some ⟨g, 0, none⟩), .int .i64 0, .int .i64 n] w (ROut w g t a2 (rdVals t 0 n bs) fun vs v w' => ValsAt w w' vs v) := by
  have hg := h.lt
  have hfar := h.far
  have hf := fields_any g t bs a2 1 n w h (by omega) hn
  go_enter Tryd.func43, Tryd.ntmps43
  go_wp2_with fail
  refine hf.mono ?_
  rintro e w1 ⟨hk1, ⟨hr1, rfl⟩ | ⟨hs, r2, v, hr1, rfl, ⟨b, rfl, hb, hc⟩, hA1⟩⟩
  · go_wp2_with fail
    exact ⟨rfl, ROut.up hk1 (by simp [rdVals, hr1])⟩
  · have hhl := rdFields_length hr1
    have hh2 := fields_lt hr1
    have hole := ones_le hs
    have HSP : Hid (rdVals t 0 n bs = (rdBody t 0 (ones hs) r2).map fun x => (among hs x.1, x.2)) := by show _ = _; simp only [rdVals, hr1]
    have HHL : Hid (hs.length = n) := hhl
    have HLB : Hid (hs.length ≤ 64) := by show _ ≤ _; omega
    clear hf hr1 hhl
    go_wp2_with fail
    go_loopw [8, 16] (fun mm i wr => ∃ k : Nat, k ≤ hs.length ∧ i = .int .i64 k ∧ mm = .int .i64 (ones (hs.take k) : Nat) ∧ wr = w1) (fun _ i _ => hs.length - (intOf i).toNat)
    case atStart => exact ⟨0, by omega, rfl, rfl, rfl⟩
    case round =>
      obtain ⟨k, hk, rfl, rfl, rfl⟩ := hrel
      by_cases hlt : k < hs.length
      · have hlb := HLB.out
        obtain ⟨b1, o1, e1, hb1, x1⟩ := hc.at (i := k) (by simpa using hlt)
        simp only [Option.some.injEq, Addr.mk.injEq] at e1
        obtain ⟨rfl, rfl, _⟩ := e1
        rw [List.getElem_map, Nat.zero_add] at x1
        unfold uv at x1
        have hos := ones_snoc (hs.take k) hs[k]
        rw [← List.take_succ_eq_append_getElem hlt] at hos
        have hq := hh2 _ (List.getElem_mem hlt)
        have hole2 := ones_take_le hs k
        generalize hs[k] = q at *
        have hq2 : q < 2 := hq
        have hq1 := one_of q hq2
        have hp64 : ones (hs.take k) ≤ 64 := Nat.le_trans hole2 (Nat.le_trans hole hlb)
        clear hq
        rw [hq1] at hos
        have HOS : Hid _ := hos
        clear hos hq1
        generalize ones (hs.take k) = p at *
        go_wp2
        go_roundw
        case rel =>
          refine ⟨k + 1, by omega, by go_num, ?_, trivial⟩
          rw [HOS.out]
          go_num
        case measure => simp [intOf]; omega
      · have hke : k = hs.length := by omega
        subst hke
        rw [List.take_length]
        have hlb := HLB.out
        go_wp2_with fail
        refine (rWays_any g wr).mono ?_
        rintro e w3 ⟨rfl, hb3⟩
        have hA3 := hA1.below hb3
        have hc3 := hc.below hb3
        have hk3 := hk1.trans (RKeep.of_below hb3 g)
        have hix := (run_index_rways (.func (.func 79) #[.pointer (some ⟨g, 0, none⟩)] #[]) (.func (.func 80) #[.pointer (some ⟨g, 0, none⟩)] #[]) (.func (.func 81) #[.pointer (some ⟨g, 0, none⟩)] #[]) (.func (.func 82) #[.pointer (some ⟨g, 0, none⟩)] #[]) w3).1
        have hbd := plain_any g t r2 a2 (ones hs) w3 hA3 ht (by omega)
        have HB : Hid (rdBody t 0 (ones hs) r2 = rdMany t (ones hs) r2) := rfl
        go_wp2_with fail
        refine hbd.mono ?_
        rintro e w4 ⟨hk4, ⟨hr4, rfl⟩ | ⟨vs, rest, v, hr4, rfl, hv4, hA4⟩⟩
        · go_wp2_with fail
          exact ⟨rfl, ROut.up (hk3.trans hk4) (by rw [HSP.out, HB.out, hr4]; rfl)⟩
        · have hvl := rdBody_length (HB.out.trans hr4)
          obtain ⟨a, cap, rfl, hva, hab⟩ := hv4.toR
          have hcb := cells_rkeep hc3 hk4 (by omega)
          clear hbd hix
          have ham := among_any b hs a cap hs.length vs w4 hlb hh2 (by omega) (by omega) hcb hva
          have HF : Hid (rdVals t 0 n bs = some (among hs vs, rest)) := by show _ = _; rw [HSP.out, HB.out, hr4]; rfl
          clear hr4 hvl
          go_wp2_with fail
          refine ham.mono ?_
          rintro e w5 ⟨⟨v, rfl, hv5⟩, hb5⟩
          have hs5 := (hk3.trans hk4).size
          go_wp2_with fail
          go_ret
          obtain ⟨bb, rfl, hbb, hrow⟩ := hv5
          exact ROut.ok ((hk3.trans hk4).trans (RKeep.of_below hb5 g)) HF.out ⟨bb, rfl, Nat.le_trans hs5 hbb, hrow⟩ (hA4.below hb5)

set_option maxRecDepth 100000 in
set_option maxHeartbeats 4000000 in
theorem values_dict (g : Nat) (t : Int) (n : Nat) (bs : List UInt8) (a2 : Addr) (w : World) (h : RAt w g t bs a2) (ht : t = 1 ∨ t = 2 ∨ t = 3) (hn : n ≤ 64) :
    Calls Tryd.prog 43 #[.pointer (some ⟨g, 0, none⟩), .int .i64 1, .int .i64 n] w (ROut w g t a2 (rdVals t 1 n bs) fun vs v w' => ValsAt w w' vs v) := by
  have hg := h.lt
  have hfar := h.far
  have hf := fields_any g t bs a2 1 n w h (by omega) hn
  go_enter Tryd.func43, Tryd.ntmps43
  go_wp2_with fail
  refine hf.mono ?_
  rintro e w1 ⟨hk1, ⟨hr1, rfl⟩ | ⟨hs, r2, v, hr1, rfl, ⟨b, rfl, hb, hc⟩, hA1⟩⟩
  · go_wp2_with fail
    exact ⟨rfl, ROut.up hk1 (by simp [rdVals, hr1])⟩
  · have hhl := rdFields_length hr1
    have hh2 := fields_lt hr1
    have hole := ones_le hs
    have HSP : Hid (rdVals t 1 n bs = (rdBody t 1 (ones hs) r2).map fun x => (among hs x.1, x.2)) := by show _ = _; simp only [rdVals, hr1]
    have HHL : Hid (hs.length = n) := hhl
    have HLB : Hid (hs.length ≤ 64) := by show _ ≤ _; omega
    clear hf hr1 hhl
    go_wp2_with fail
    go_loopw [8, 16] (fun mm i wr => ∃ k : Nat, k ≤ hs.length ∧ i = .int .i64 k ∧ mm = .int .i64 (ones (hs.take k) : Nat) ∧ wr = w1) (fun _ i _ => hs.length - (intOf i).toNat)
    case atStart => exact ⟨0, by omega, rfl, rfl, rfl⟩
    case round =>
      obtain ⟨k, hk, rfl, rfl, rfl⟩ := hrel
      by_cases hlt : k < hs.length
      · have hlb := HLB.out
        obtain ⟨b1, o1, e1, hb1, x1⟩ := hc.at (i := k) (by simpa using hlt)
        simp only [Option.some.injEq, Addr.mk.injEq] at e1
        obtain ⟨rfl, rfl, _⟩ := e1
        rw [List.getElem_map, Nat.zero_add] at x1
        unfold uv at x1
        have hos := ones_snoc (hs.take k) hs[k]
        rw [← List.take_succ_eq_append_getElem hlt] at hos
        have hq := hh2 _ (List.getElem_mem hlt)
        have hole2 := ones_take_le hs k
        generalize hs[k] = q at *
        have hq2 : q < 2 := hq
        have hq1 := one_of q hq2
        have hp64 : ones (hs.take k) ≤ 64 := Nat.le_trans hole2 (Nat.le_trans hole hlb)
        clear hq
        rw [hq1] at hos
        have HOS : Hid _ := hos
        clear hos hq1
        generalize ones (hs.take k) = p at *
        go_wp2
        go_roundw
        case rel =>
          refine ⟨k + 1, by omega, by go_num, ?_, trivial⟩
          rw [HOS.out]
          go_num
        case measure => simp [intOf]; omega
      · have hke : k = hs.length := by omega
        subst hke
        rw [List.take_length]
        have hlb := HLB.out
        go_wp2_with fail
        refine (rWays_any g wr).mono ?_
        rintro e w3 ⟨rfl, hb3⟩
        have hA3 := hA1.below hb3
        have hc3 := hc.below hb3
        have hk3 := hk1.trans (RKeep.of_below hb3 g)
        have hix := (run_index_rways (.func (.func 79) #[.pointer (some ⟨g, 0, none⟩)] #[]) (.func (.func 80) #[.pointer (some ⟨g, 0, none⟩)] #[]) (.func (.func 81) #[.pointer (some ⟨g, 0, none⟩)] #[]) (.func (.func 82) #[.pointer (some ⟨g, 0, none⟩)] #[]) w3).2.1
        have hbd := dictionary_any g t r2 a2 (ones hs) w3 hA3 ht (by omega)
        have HB : Hid (rdBody t 1 (ones hs) r2 = rdDict t (ones hs) r2) := rfl
        go_wp2_with fail
        refine hbd.mono ?_
        rintro e w4 ⟨hk4, ⟨hr4, rfl⟩ | ⟨vs, rest, v, hr4, rfl, hv4, hA4⟩⟩
        · go_wp2_with fail
          exact ⟨rfl, ROut.up (hk3.trans hk4) (by rw [HSP.out, HB.out, hr4]; rfl)⟩
        · have hvl := rdBody_length (HB.out.trans hr4)
          obtain ⟨a, cap, rfl, hva, hab⟩ := hv4.toR
          have hcb := cells_rkeep hc3 hk4 (by omega)
          clear hbd hix
          have ham := among_any b hs a cap hs.length vs w4 hlb hh2 (by omega) (by omega) hcb hva
          have HF : Hid (rdVals t 1 n bs = some (among hs vs, rest)) := by show _ = _; rw [HSP.out, HB.out, hr4]; rfl
          clear hr4 hvl
          go_wp2_with fail
          refine ham.mono ?_
          rintro e w5 ⟨⟨v, rfl, hv5⟩, hb5⟩
          have hs5 := (hk3.trans hk4).size
          go_wp2_with fail
          go_ret
          obtain ⟨bb, rfl, hbb, hrow⟩ := hv5
          exact ROut.ok ((hk3.trans hk4).trans (RKeep.of_below hb5 g)) HF.out ⟨bb, rfl, Nat.le_trans hs5 hbb, hrow⟩ (hA4.below hb5)

set_option maxRecDepth 100000 in
set_option maxHeartbeats 4000000 in
theorem values_runs (g : Nat) (t : Int) (n : Nat) (bs : List UInt8) (a2 : Addr) (w : World) (h : RAt w g t bs a2) (ht : t = 1 ∨ t = 2 ∨ t = 3) (hn : n ≤ 64) :
    Calls Tryd.prog 43 #[.pointer (some ⟨g, 0, none⟩), .int .i64 2, .int .i64 n] w (ROut w g t a2 (rdVals t 2 n bs) fun vs v w' => ValsAt w w' vs v) := by
  have hg := h.lt
  have hfar := h.far
  have hf := fields_any g t bs a2 1 n w h (by omega) hn
  go_enter Tryd.func43, Tryd.ntmps43
  go_wp2_with fail
  refine hf.mono ?_
  rintro e w1 ⟨hk1, ⟨hr1, rfl⟩ | ⟨hs, r2, v, hr1, rfl, ⟨b, rfl, hb, hc⟩, hA1⟩⟩
  · go_wp2_with fail
    exact ⟨rfl, ROut.up hk1 (by simp [rdVals, hr1])⟩
  · have hhl := rdFields_length hr1
    have hh2 := fields_lt hr1
    have hole := ones_le hs
    have HSP : Hid (rdVals t 2 n bs = (rdBody t 2 (ones hs) r2).map fun x => (among hs x.1, x.2)) := by show _ = _; simp only [rdVals, hr1]
    have HHL : Hid (hs.length = n) := hhl
    have HLB : Hid (hs.length ≤ 64) := by show _ ≤ _; omega
    clear hf hr1 hhl
    go_wp2_with fail
    go_loopw [8, 16] (fun mm i wr => ∃ k : Nat, k ≤ hs.length ∧ i = .int .i64 k ∧ mm = .int .i64 (ones (hs.take k) : Nat) ∧ wr = w1) (fun _ i _ => hs.length - (intOf i).toNat)
    case atStart => exact ⟨0, by omega, rfl, rfl, rfl⟩
    case round =>
      obtain ⟨k, hk, rfl, rfl, rfl⟩ := hrel
      by_cases hlt : k < hs.length
      · have hlb := HLB.out
        obtain ⟨b1, o1, e1, hb1, x1⟩ := hc.at (i := k) (by simpa using hlt)
        simp only [Option.some.injEq, Addr.mk.injEq] at e1
        obtain ⟨rfl, rfl, _⟩ := e1
        rw [List.getElem_map, Nat.zero_add] at x1
        unfold uv at x1
        have hos := ones_snoc (hs.take k) hs[k]
        rw [← List.take_succ_eq_append_getElem hlt] at hos
        have hq := hh2 _ (List.getElem_mem hlt)
        have hole2 := ones_take_le hs k
        generalize hs[k] = q at *
        have hq2 : q < 2 := hq
        have hq1 := one_of q hq2
        have hp64 : ones (hs.take k) ≤ 64 := Nat.le_trans hole2 (Nat.le_trans hole hlb)
        clear hq
        rw [hq1] at hos
        have HOS : Hid _ := hos
        clear hos hq1
        generalize ones (hs.take k) = p at *
        go_wp2
        go_roundw
        case rel =>
          refine ⟨k + 1, by omega, by go_num, ?_, trivial⟩
          rw [HOS.out]
          go_num
        case measure => simp [intOf]; omega
      · have hke : k = hs.length := by omega
        subst hke
        rw [List.take_length]
        have hlb := HLB.out
        go_wp2_with fail
        refine (rWays_any g wr).mono ?_
        rintro e w3 ⟨rfl, hb3⟩
        have hA3 := hA1.below hb3
        have hc3 := hc.below hb3
        have hk3 := hk1.trans (RKeep.of_below hb3 g)
        have hix := (run_index_rways (.func (.func 79) #[.pointer (some ⟨g, 0, none⟩)] #[]) (.func (.func 80) #[.pointer (some ⟨g, 0, none⟩)] #[]) (.func (.func 81) #[.pointer (some ⟨g, 0, none⟩)] #[]) (.func (.func 82) #[.pointer (some ⟨g, 0, none⟩)] #[]) w3).2.2.1
        have hbd := runs_any g t r2 a2 (ones hs) w3 hA3 ht (by omega)
        have HB : Hid (rdBody t 2 (ones hs) r2 = rdRuns t (ones hs) r2) := rfl
        go_wp2_with fail
        refine hbd.mono ?_
        rintro e w4 ⟨hk4, ⟨hr4, rfl⟩ | ⟨vs, rest, v, hr4, rfl, hv4, hA4⟩⟩
        · go_wp2_with fail
          exact ⟨rfl, ROut.up (hk3.trans hk4) (by rw [HSP.out, HB.out, hr4]; rfl)⟩
        · have hvl := rdBody_length (HB.out.trans hr4)
          obtain ⟨a, cap, rfl, hva, hab⟩ := hv4
          have hcb := cells_rkeep hc3 hk4 (by omega)
          clear hbd hix
          have ham := among_any b hs a cap hs.length vs w4 hlb hh2 (by omega) (by omega) hcb hva
          have HF : Hid (rdVals t 2 n bs = some (among hs vs, rest)) := by show _ = _; rw [HSP.out, HB.out, hr4]; rfl
          clear hr4 hvl
          go_wp2_with fail
          refine ham.mono ?_
          rintro e w5 ⟨⟨v, rfl, hv5⟩, hb5⟩
          have hs5 := (hk3.trans hk4).size
          go_wp2_with fail
          go_ret
          obtain ⟨bb, rfl, hbb, hrow⟩ := hv5
          exact ROut.ok ((hk3.trans hk4).trans (RKeep.of_below hb5 g)) HF.out ⟨bb, rfl, Nat.le_trans hs5 hbb, hrow⟩ (hA4.below hb5)

set_option maxRecDepth 100000 in
set_option maxHeartbeats 4000000 in
theorem values_packed (g : Nat) (t : Int) (n : Nat) (bs : List UInt8) (a2 : Addr) (w : World) (h : RAt w g t bs a2) (hn : n ≤ 64) :
    Calls Tryd.prog 43 #[.pointer (some ⟨g, 0, none⟩), .int .i64 3, .int .i64 n] w (ROut w g t a2 (rdVals t 3 n bs) fun vs v w' => ValsAt w w' vs v) := by
  have hg := h.lt
  have hfar := h.far
  have hf := fields_any g t bs a2 1 n w h (by omega) hn
  go_enter Tryd.func43, Tryd.ntmps43
  go_wp2_with fail
  refine hf.mono ?_
  rintro e w1 ⟨hk1, ⟨hr1, rfl⟩ | ⟨hs, r2, v, hr1, rfl, ⟨b, rfl, hb, hc⟩, hA1⟩⟩
  · go_wp2_with fail
    exact ⟨rfl, ROut.up hk1 (by simp [rdVals, hr1])⟩
  · have hhl := rdFields_length hr1
    have hh2 := fields_lt hr1
    have hole := ones_le hs
    have HSP : Hid (rdVals t 3 n bs = (rdBody t 3 (ones hs) r2).map fun x => (among hs x.1, x.2)) := by show _ = _; simp only [rdVals, hr1]
    have HHL : Hid (hs.length = n) := hhl
    have HLB : Hid (hs.length ≤ 64) := by show _ ≤ _; omega
    clear hf hr1 hhl
    go_wp2_with fail
    go_loopw [8, 16] (fun mm i wr => ∃ k : Nat, k ≤ hs.length ∧ i = .int .i64 k ∧ mm = .int .i64 (ones (hs.take k) : Nat) ∧ wr = w1) (fun _ i _ => hs.length - (intOf i).toNat)
    case atStart => exact ⟨0, by omega, rfl, rfl, rfl⟩
    case round =>
      obtain ⟨k, hk, rfl, rfl, rfl⟩ := hrel
      by_cases hlt : k < hs.length
      · have hlb := HLB.out
        obtain ⟨b1, o1, e1, hb1, x1⟩ := hc.at (i := k) (by simpa using hlt)
        simp only [Option.some.injEq, Addr.mk.injEq] at e1
        obtain ⟨rfl, rfl, _⟩ := e1
        rw [List.getElem_map, Nat.zero_add] at x1
        unfold uv at x1
        have hos := ones_snoc (hs.take k) hs[k]
        rw [← List.take_succ_eq_append_getElem hlt] at hos
        have hq := hh2 _ (List.getElem_mem hlt)
        have hole2 := ones_take_le hs k
        generalize hs[k] = q at *
        have hq2 : q < 2 := hq
        have hq1 := one_of q hq2
        have hp64 : ones (hs.take k) ≤ 64 := Nat.le_trans hole2 (Nat.le_trans hole hlb)
        clear hq
        rw [hq1] at hos
        have HOS : Hid _ := hos
        clear hos hq1
        generalize ones (hs.take k) = p at *
        go_wp2
        go_roundw
        case rel =>
          refine ⟨k + 1, by omega, by go_num, ?_, trivial⟩
          rw [HOS.out]
          go_num
        case measure => simp [intOf]; omega
      · have hke : k = hs.length := by omega
        subst hke
        rw [List.take_length]
        have hlb := HLB.out
        go_wp2_with fail
        refine (rWays_any g wr).mono ?_
        rintro e w3 ⟨rfl, hb3⟩
        have hA3 := hA1.below hb3
        have hc3 := hc.below hb3
        have hk3 := hk1.trans (RKeep.of_below hb3 g)
        have hix := (run_index_rways (.func (.func 79) #[.pointer (some ⟨g, 0, none⟩)] #[]) (.func (.func 80) #[.pointer (some ⟨g, 0, none⟩)] #[]) (.func (.func 81) #[.pointer (some ⟨g, 0, none⟩)] #[]) (.func (.func 82) #[.pointer (some ⟨g, 0, none⟩)] #[]) w3).2.2.2
        have hbd := packed_any g t r2 a2 (ones hs) w3 hA3 (by omega)
        have HB : Hid (rdBody t 3 (ones hs) r2 = rdPacked t (ones hs) r2) := rfl
        go_wp2_with fail
        refine hbd.mono ?_
        rintro e w4 ⟨hk4, ⟨hr4, rfl⟩ | ⟨vs, rest, v, hr4, rfl, hv4, hA4⟩⟩
        · go_wp2_with fail
          exact ⟨rfl, ROut.up (hk3.trans hk4) (by rw [HSP.out, HB.out, hr4]; rfl)⟩
        · have hvl := rdBody_length (HB.out.trans hr4)
          obtain ⟨a, cap, rfl, hva, hab⟩ := hv4
          have hcb := cells_rkeep hc3 hk4 (by omega)
          clear hbd hix
          have ham := among_any b hs a cap hs.length vs w4 hlb hh2 (by omega) (by omega) hcb hva
          have HF : Hid (rdVals t 3 n bs = some (among hs vs, rest)) := by show _ = _; rw [HSP.out, HB.out, hr4]; rfl
          clear hr4 hvl
          go_wp2_with fail
          refine ham.mono ?_
          rintro e w5 ⟨⟨v, rfl, hv5⟩, hb5⟩
          have hs5 := (hk3.trans hk4).size
          go_wp2_with fail
          go_ret
          obtain ⟨bb, rfl, hbb, hrow⟩ := hv5
          exact ROut.ok ((hk3.trans hk4).trans (RKeep.of_below hb5 g)) HF.out ⟨bb, rfl, Nat.le_trans hs5 hbb, hrow⟩ (hA4.below hb5)

theorem values_any (g : Nat) (t how : Int) (n : Nat) (bs : List UInt8) (a2 : Addr) (w : World) (h : RAt w g t bs a2) (ht : t = 1 ∨ t = 2 ∨ t = 3) (hhow : how = 0 ∨ how = 1 ∨ how = 2 ∨ how = 3) (hn : n ≤ 64) :
    Calls Tryd.prog 43 #[.pointer (some ⟨g, 0, none⟩), .int .i64 how, .int .i64 n] w (ROut w g t a2 (rdVals t how n bs) fun vs v w' => ValsAt w w' vs v) := by
  rcases hhow with rfl | rfl | rfl | rfl
  · exact values_plain g t n bs a2 w h ht hn
  · exact values_dict g t n bs a2 w h ht hn
  · exact values_runs g t n bs a2 w h ht hn
  · exact values_packed g t n bs a2 w h hn
end Go.Proofs.YthplnjgijmilnaaDoor
