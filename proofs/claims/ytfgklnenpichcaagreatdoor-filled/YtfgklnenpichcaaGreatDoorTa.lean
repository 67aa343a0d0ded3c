/- Rows in memory; what a table is, and in which ways it can be written: the program's own checks. -/
import Derived.Test.YtfgklnenpichcaaGreatDoorKa
namespace Go.Proofs.YtfgklnenpichcaaGreatDoor
open Go.RowKit

def iv (n : Int) : Value := .int .i64 n
/-- A list of ints lies at an address. -/
abbrev Ints (w : World) (a : Option Addr) (ns : List Int) : Prop := Cells w a (ns.map iv)
theorem Ints.at {w : World} {a : Option Addr} {ns : List Int} (h : Ints w a ns) {i : Nat} (hi : i < ns.length) : ∃ b o, a = some ⟨b, o, none⟩ ∧ b < w.heap.size ∧ w.cell? ⟨b, o + i, none⟩ = some (.int .i64 ns[i]) := by
  obtain ⟨b, o, ha, hb, hc⟩ := Cells.at h (i := i) (by simpa using hi)
  exact ⟨b, o, ha, hb, by rw [hc]; simp [iv]⟩

/-- A row as a value: where it lies, how much room it has. -/
def rowV (h : Option Addr × Nat) (r : List V) : Value := .slice h.1 r.length h.2
/-- A list of rows lies at an address. -/
structure RowsAt (w : World) (a : Option Addr) (hs : List (Option Addr × Nat)) (rs : List (List V)) : Prop where
  len : hs.length = rs.length
  cells : Cells w a (List.zipWith rowV hs rs)
  rows : ∀ (i : Nat) h r, hs[i]? = some h → rs[i]? = some r → Vals w h.1 r
theorem RowsAt.below {w w' : World} {a : Option Addr} {hs : List (Option Addr × Nat)} {rs : List (List V)} (h : RowsAt w a hs rs) (hb : Below w.heap.size w w') : RowsAt w' a hs rs :=
  ⟨h.len, h.cells.below hb, fun i x r hx hr => (h.rows i x r hx hr).below hb⟩
theorem RowsAt.at {w : World} {a : Option Addr} {hs : List (Option Addr × Nat)} {rs : List (List V)} (h : RowsAt w a hs rs) {i : Nat} (hi : i < rs.length) :
    ∃ b o ra rc, a = some ⟨b, o, none⟩ ∧ b < w.heap.size ∧ w.cell? ⟨b, o + i, none⟩ = some (.slice ra rs[i].length rc) ∧ Vals w ra rs[i] := by
  have hi2 : i < hs.length := by rw [h.len]; exact hi
  obtain ⟨b, o, ha, hb, hc⟩ := h.cells.at (i := i) (by simp; omega)
  exact ⟨b, o, hs[i].1, hs[i].2, ha, hb, by rw [hc]; simp [rowV], h.rows i hs[i] rs[i] (by simp [hi2]) (by simp [hi])⟩

def typeOk (t : Int) : Bool := decide (1 ≤ t ∧ t ≤ 3)
set_option maxHeartbeats 400000 in
theorem areTypes_any (a : Option Addr) (cap : Nat) (ts : List Int) (w : World) (hn : ts.length ≤ maxLen) (hx : Ints w a ts) (b : Bool) (hb : b = true ↔ (1 ≤ ts.length ∧ ts.length ≤ 6) ∧ ∀ j (hj : j < ts.length), typeOk ts[j] = true) :
    Calls Tryz.prog 79 #[.slice a ts.length cap] w fun e w' => e = .returned (.bool b) ∧ w' = w := by
  unfold maxLen at hn
  have HB : Hid (b = true ↔ (1 ≤ ts.length ∧ ts.length ≤ 6) ∧ ∀ j (hj : j < ts.length), typeOk ts[j] = true) := hb
  clear hb
  by_cases hl0 : ts.length < 1
  · go_enter Tryz.func79, Tryz.ntmps79
    go_wp2
    go_ret
    refine ⟨ret_bool ?_, rfl⟩
    cases b
    · rfl
    · have := (HB.out.1 rfl).1; omega
  by_cases hl : 6 < ts.length
  · go_enter Tryz.func79, Tryz.ntmps79
    go_wp2
    go_ret
    refine ⟨ret_bool ?_, rfl⟩
    cases b
    · rfl
    · have := (HB.out.1 rfl).1; omega
  · go_enter Tryz.func79, Tryz.ntmps79
    go_wp2
    go_loop [15] (fun i => ∃ k : Nat, k ≤ ts.length ∧ i = .int .i64 k ∧ Hid (∀ j (hj : j < ts.length), j < k → typeOk ts[j] = true)) (fun i => ts.length - (intOf i).toNat)
    case atStart => exact ⟨0, Nat.zero_le _, rfl, fun j _ hj => absurd hj (Nat.not_lt_zero _)⟩
    case round =>
      obtain ⟨k, hk, rfl, hall⟩ := hrel
      by_cases hlt : k < ts.length
      · obtain ⟨b1, o1, rfl, hb1, x1⟩ := hx.at hlt
        have hit := isType_any ts[k] w
        cases ho : typeOk ts[k]
        · have HO : Hid (typeOk ts[k] = false) := ho
          have hd : decide (1 ≤ ts[k] ∧ ts[k] ≤ 3) = false := ho
          rw [hd] at hit
          clear ho hd
          go_wp2_with (go_at_call 111; refine hit.mono ?_; rintro e w' ⟨rfl, hw'⟩; subst w')
          go_ret
          refine ⟨ret_bool ?_, rfl⟩
          cases b
          · rfl
          · have := (HB.out.1 rfl).2 k hlt
            rw [HO.out] at this
            exact absurd this (by decide)
        · have HO : Hid (typeOk ts[k] = true) := ho
          have hd : decide (1 ≤ ts[k] ∧ ts[k] ≤ 3) = true := ho
          rw [hd] at hit
          clear ho hd
          go_wp2_with (go_at_call 111; refine hit.mono ?_; rintro e w' ⟨rfl, hw'⟩; subst w')
          go_round
          case rel =>
            refine ⟨k + 1, by omega, by go_num, fun j hj hjk => ?_⟩
            by_cases e : j = k
            · subst e; exact HO.out
            · exact hall.out j hj (by omega)
          case measure => simp [intOf]; omega
      · go_wp2
        go_ret
        exact ⟨ret_bool (HB.out.2 ⟨by omega, fun j hj => hall.out j hj (by omega)⟩).symm, rfl⟩

set_option maxHeartbeats 400000 in
theorem areWays_any (a a2 : Option Addr) (cap cap2 : Nat) (hs ts : List Int) (w : World) (hn : hs.length ≤ maxLen) (hx : Ints w a hs) (hy : Ints w a2 ts) (b : Bool) (hb : b = true ↔ hs.length = ts.length ∧ ∀ j (hj : j < hs.length), way (ts.getD j 0) hs[j] = true) :
    Calls Tryz.prog 54 #[.slice a hs.length cap, .slice a2 ts.length cap2] w fun e w' => e = .returned (.bool b) ∧ w' = w := by
  unfold maxLen at hn
  have HB : Hid (b = true ↔ hs.length = ts.length ∧ ∀ j (hj : j < hs.length), way (ts.getD j 0) hs[j] = true) := hb
  clear hb
  by_cases hl : hs.length = ts.length
  · have HL : Hid (hs.length = ts.length) := hl
    have hl2 : ((hs.length : Int) != (ts.length : Int)) = false := by simp [hl]
    clear hl
    go_enter Tryz.func54, Tryz.ntmps54
    go_wp2
    go_loop [14] (fun i => ∃ k : Nat, k ≤ hs.length ∧ i = .int .i64 k ∧ Hid (∀ j (hj : j < hs.length), j < k → way (ts.getD j 0) hs[j] = true)) (fun i => hs.length - (intOf i).toNat)
    case atStart => exact ⟨0, Nat.zero_le _, rfl, fun j _ hj => absurd hj (Nat.not_lt_zero _)⟩
    case round =>
      obtain ⟨k, hk, rfl, hall⟩ := hrel
      by_cases hlt : k < hs.length
      · have hlt2 : k < ts.length := by have := HL.out; omega
        obtain ⟨b1, o1, rfl, hb1, x1⟩ := hx.at hlt
        obtain ⟨b2, o2, rfl, hb2, y1⟩ := hy.at hlt2
        have hcb := canBe_any ts[k] hs[k] w
        have HG : Hid (ts.getD k 0 = ts[k]) := by show _ = _; simp [hlt2]
        cases ho : way ts[k] hs[k]
        · have HO : Hid (way ts[k] hs[k] = false) := ho
          rw [ho] at hcb
          clear ho
          go_wp2_with (go_at_call 81; refine hcb.mono ?_; rintro e w' ⟨rfl, hw'⟩; subst w')
          go_ret
          refine ⟨ret_bool ?_, rfl⟩
          cases b
          · rfl
          · have := (HB.out.1 rfl).2 k hlt
            rw [HG.out, HO.out] at this
            exact absurd this (by decide)
        · have HO : Hid (way ts[k] hs[k] = true) := ho
          rw [ho] at hcb
          clear ho
          go_wp2_with (go_at_call 81; refine hcb.mono ?_; rintro e w' ⟨rfl, hw'⟩; subst w')
          go_round
          case rel =>
            refine ⟨k + 1, by omega, by go_num, fun j hj hjk => ?_⟩
            by_cases e : j = k
            · subst e; rw [HG.out]; exact HO.out
            · exact hall.out j hj (by omega)
          case measure => simp [intOf]; omega
      · go_wp2
        go_ret
        exact ⟨ret_bool (HB.out.2 ⟨HL.out, fun j hj => hall.out j hj (by omega)⟩).symm, rfl⟩
  · have hl2 : ((hs.length : Int) != (ts.length : Int)) = true := by simp; omega
    go_enter Tryz.func54, Tryz.ntmps54
    go_wp2
    go_ret
    refine ⟨ret_bool ?_, rfl⟩
    cases b
    · rfl
    · exact absurd (HB.out.1 rfl).1 hl

set_option maxHeartbeats 1000000 in
theorem isRow_any (a a2 : Option Addr) (cap cap2 : Nat) (vs : List V) (ts : List Int) (w : World) (hn : vs.length ≤ maxLen) (hx : Vals w a vs) (hy : Ints w a2 ts) (b : Bool) (hb : b = true ↔ vs.length = ts.length ∧ ∀ j (hj : j < vs.length), okB (ts.getD j 0) vs[j].k vs[j].n vs[j].s = true) :
    Calls Tryz.prog 80 #[.slice a vs.length cap, .slice a2 ts.length cap2] w fun e w' => e = .returned (.bool b) ∧ Below w.heap.size w w' := by
  unfold maxLen at hn
  have HB : Hid (b = true ↔ vs.length = ts.length ∧ ∀ j (hj : j < vs.length), okB (ts.getD j 0) vs[j].k vs[j].n vs[j].s = true) := hb
  clear hb
  by_cases hl : vs.length = ts.length
  · have HL : Hid (vs.length = ts.length) := hl
    have hl2 : ((vs.length : Int) != (ts.length : Int)) = false := by simp [hl]
    clear hl
    go_enter Tryz.func80, Tryz.ntmps80
    go_wp2
    go_loopw [14] (fun i wr => ∃ k : Nat, k ≤ vs.length ∧ i = .int .i64 k ∧ Below w.heap.size w wr ∧ Hid (∀ j (hj : j < vs.length), j < k → okB (ts.getD j 0) vs[j].k vs[j].n vs[j].s = true)) (fun i _ => vs.length - (intOf i).toNat)
    case atStart => exact ⟨0, Nat.zero_le _, rfl, Below.refl _ _, fun j _ hj => absurd hj (Nat.not_lt_zero _)⟩
    case round =>
      obtain ⟨k, hk, rfl, hbw, hall⟩ := hrel
      by_cases hlt : k < vs.length
      · have hlt2 : k < ts.length := by have := HL.out; omega
        obtain ⟨b1, o1, rfl, hb1, x1, x2, x3⟩ := (hx.below hbw).at hlt
        obtain ⟨b2, o2, rfl, hb2, y1⟩ := Ints.at (hy.below hbw) hlt2
        have HG : Hid (ts.getD k 0 = ts[k]) := by show _ = _; simp [hlt2]
        have hio := fun (W : World) => isOf_any vs[k].k vs[k].n vs[k].s ts[k] W
        cases ho : okB ts[k] vs[k].k vs[k].n vs[k].s
        · have HO : Hid (okB ts[k] vs[k].k vs[k].n vs[k].s = false) := ho
          rw [ho] at hio
          have HI : Hid (∀ W : World, Calls Tryz.prog 112 #[.agg #[.int .i64 vs[k].k, .int .i64 vs[k].n, .string vs[k].s], .int .i64 ts[k]] W fun e w' => e = .returned (.bool false) ∧ Below W.heap.size W w') := hio
          clear hio
          clear ho
          go_wp2_with fail
          go_region_with (first | (go_at_call 112; refine (HI.out _).mono ?_; rintro e w' ⟨rfl, hb⟩))
          all_goals
            go_wp2
            go_ret
            refine ⟨ret_bool ?_, below_then hbw (below_behind (below_undrew hb))⟩
            cases b
            · rfl
            · have := (HB.out.1 rfl).2 k hlt
              rw [HG.out, HO.out] at this
              exact absurd this (by decide)
        · have HO : Hid (okB ts[k] vs[k].k vs[k].n vs[k].s = true) := ho
          rw [ho] at hio
          have HI : Hid (∀ W : World, Calls Tryz.prog 112 #[.agg #[.int .i64 vs[k].k, .int .i64 vs[k].n, .string vs[k].s], .int .i64 ts[k]] W fun e w' => e = .returned (.bool true) ∧ Below W.heap.size W w') := hio
          clear hio ho
          go_wp2_with fail
          go_region_with (first | (go_at_call 112; refine (HI.out _).mono ?_; rintro e w' ⟨rfl, hb⟩))
          all_goals
            go_wp2
            go_roundw
            case rel =>
              refine ⟨k + 1, by omega, by go_num, below_then hbw (below_behind (below_undrew hb)), fun j hj hjk => ?_⟩
              by_cases e : j = k
              · subst e; rw [HG.out]; exact HO.out
              · exact hall.out j hj (by omega)
            case measure => simp [intOf]; omega
      · go_wp2
        go_ret
        exact ⟨ret_bool (HB.out.2 ⟨HL.out, fun j hj => hall.out j hj (by omega)⟩).symm, hbw⟩
  · have hl2 : ((vs.length : Int) != (ts.length : Int)) = true := by simp; omega
    go_enter Tryz.func80, Tryz.ntmps80
    go_wp2
    go_ret
    refine ⟨ret_bool ?_, Below.refl _ _⟩
    cases b
    · rfl
    · exact absurd (HB.out.1 rfl).1 hl
end Go.Proofs.YtfgklnenpichcaaGreatDoor
