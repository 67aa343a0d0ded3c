/- A column of rows; blank rows; a segment's values. -/
import Derived.Test.YtfgklnenpichcaaGreatDoorTa
import Derived.Test.YtfgklnenpichcaaGreatDoorKk
import Derived.Test.YtfgklnenpichcaaGreatDoorDh
namespace Go.Proofs.YtfgklnenpichcaaGreatDoor
open Go.RowKit

def colOf (rs : List (List V)) (c : Nat) : List V := rs.map fun r => r.getD c zeroV
theorem colOf_take (rs : List (List V)) (c k : Nat) (hk : k < rs.length) : colOf (rs.take (k + 1)) c = colOf (rs.take k) c ++ [rs[k].getD c zeroV] := by
  unfold colOf
  rw [List.take_succ_eq_append_getElem hk, List.map_append]
  rfl

set_option maxRecDepth 100000 in
set_option maxHeartbeats 1000000 in
theorem column_any (a : Option Addr) (cap : Nat) (hs : List (Option Addr × Nat)) (rs : List (List V)) (c : Nat) (w : World) (hn : rs.length ≤ 1000) (hx : RowsAt w a hs rs) (hc : ∀ r ∈ rs, c < r.length) (hrr : ∀ r ∈ rs, r.length ≤ 1000) :
    Calls Tryz.prog 85 #[.slice a rs.length cap, .int .i64 (c : Int)] w fun e w' => ∃ v, e = .returned v ∧ ValsAt w w' (colOf rs c) v ∧ Below w.heap.size w w' := by
  obtain ⟨C, hmk, hrow0⟩ := make_V rs.length hn w
  have HC : Hid (∀ r ∈ rs, c < r.length) := hc
  have HR : Hid (∀ r ∈ rs, r.length ≤ 1000) := hrr
  clear hc hrr
  go_enter Tryz.func85, Tryz.ntmps85
  go_wp2
  clear hmk
  go_loopw [13] (fun i wr => ∃ k : Nat, k ≤ rs.length ∧ i = .int .i64 k ∧ RowT wr w.heap.size (colOf (rs.take k) c ++ List.replicate (rs.length - k) zeroV) [] ∧ Below w.heap.size w wr) (fun i _ => rs.length - (intOf i).toNat)
  case atStart => exact ⟨0, by omega, rfl, by simpa [colOf] using hrow0, (Below.refl _ _).alloc (Nat.le_refl _) _⟩
  case round =>
    obtain ⟨k, hk, rfl, hrow, hbw⟩ := hrel
    by_cases hlt : k < rs.length
    · obtain ⟨b, o, ra, rc, rfl, hb, cb, hv⟩ := (hx.below hbw).at hlt
      have hcl := HC.out _ (List.getElem_mem hlt)
      have hrl := HR.out _ (List.getElem_mem hlt)
      obtain ⟨b2, o2, rfl, hb2, x1, x2, x3⟩ := hv.at hcl
      have hlk : (colOf (rs.take k) c).length = k := by simp [colOf]; omega
      have hlen : (colOf (rs.take k) c ++ List.replicate (rs.length - k) zeroV).length = rs.length := by rw [List.length_append, hlk, List.length_replicate]; omega
      obtain ⟨old, ⟨c0, d0⟩, ⟨c1, d1⟩, ⟨c2, d2⟩, hset⟩ := hrow.put rs[k][c] k (by rw [hlen]; exact hlt)
      rw [set_at _ k rs.length _ hlk hlt] at hset
      have HSET : Hid (RowT (((wr.setCell ⟨w.heap.size, k * 3, none⟩ (.int .i64 rs[k][c].k)).setCell ⟨w.heap.size, k * 3 + 1, none⟩ (.int .i64 rs[k][c].n)).setCell ⟨w.heap.size, k * 3 + 2, none⟩ (.string rs[k][c].s)) w.heap.size (colOf (rs.take (k + 1)) c ++ List.replicate (rs.length - (k + 1)) zeroV) []) := by
        rw [colOf_take rs c k hlt]
        have : rs[k].getD c zeroV = rs[k][c] := by simp [hcl]
        rw [this]
        exact hset
      clear hset hlk hlen
      go_wp2
      go_roundw
      case rel => exact ⟨k + 1, by omega, by go_num, HSET.out, ((hbw.setCell (p := ⟨w.heap.size, k * 3, none⟩) (Nat.le_refl _) _).setCell (p := ⟨w.heap.size, k * 3 + 1, none⟩) (Nat.le_refl _) _).setCell (p := ⟨w.heap.size, k * 3 + 2, none⟩) (Nat.le_refl _) _⟩
      case measure => simp [intOf]; omega
    · obtain rfl : k = rs.length := by omega
      go_wp2
      go_ret
      refine ⟨_, rfl, ⟨w.heap.size, ?_, Nat.le_refl _, by simpa using hrow⟩, hbw⟩
      simp [colOf]

/-- What is read of a segment that must hold n values of a type: they, or the page that is told. -/
def valsOf (D : DS) (l : List Nat) (typ : Int) (n : Nat) : List V ⊕ Nat :=
  match readL D l with
  | .inr j => .inr j
  | .inl t => match pRead t with
    | some (ty, _, vs) => if (ty : Int) = typ ∧ vs.length = n then .inl vs else .inr (l.getD 0 0)
    | none => .inr (l.getD 0 0)
def ValsPost (w : World) (pg : Addr) (r : List V ⊕ Nat) (e : Ending) (w' : World) : Prop :=
  Below w.heap.size w w' ∧ match r with
    | .inl vs => ∃ b, e = .returned (.tuple #[.slice (some ⟨b, 0, none⟩) vs.length vs.length, .nilIface]) ∧ w.heap.size ≤ b ∧ RowT w' b vs []
    | .inr j => ∃ b, e = .returned (.tuple #[.slice none 0 0, .iface 152 (.pointer (some ⟨b, 0, none⟩))]) ∧ w.heap.size ≤ b ∧ Chain w' (.iface 152 (.pointer (some ⟨b, 0, none⟩))) pg none (some (j : Int))
theorem readL_le (D : DS) : ∀ (l : List Nat) (t : List UInt8), readL D l = .inl t → t.length ≤ 56 * l.length
  | [], t, h => by simp [readL] at h; subst h; simp
  | i :: l, t, h => by
    simp only [readL] at h
    split at h
    · simp at h
    · rename_i u hu
      have hul : u.length ≤ 56 := by
        cases hp : D.pages.getD i none with
        | none => rw [hp] at hu; simp at hu
        | some p => rw [hp] at hu; exact openP_le hu
      split at h
      · rename_i r hr
        have := readL_le D l r hr
        simp at h
        subst h
        simp
        omega
      · simp at h

/-- What segments.Values answers. -/
theorem sValues_any (t : List UInt8) (typ : Int) (n : Nat) (w : World) (ht : t.length ≤ maxLen) (a0 a1 a2 : Addr) (he : Errs w a0 a1 a2) :
    Calls Tryz.prog 116 #[.string (str t), .int .i64 typ, .int .i64 (n : Int)] w fun e w' => Below w.heap.size w w' ∧ ((∃ ty how vs b, pRead t = some (ty, how, vs) ∧ (ty : Int) = typ ∧ vs.length = n ∧ e = .returned (.tuple #[.slice (some ⟨b, 0, none⟩) vs.length vs.length, .nilIface]) ∧ w.heap.size ≤ b ∧ RowT w' b vs []) ∨
      ((∀ ty how vs, pRead t = some (ty, how, vs) → ¬ ((ty : Int) = typ ∧ vs.length = n)) ∧ e = .returned (.tuple #[.slice none 0 0, .iface 255 (.pointer (some a2))]))) := by
  have hun := sUnpack_any t w ht a0 a1 a2 he
  have hnn := run_neq_nil_nil (P := Tryz.prog)
  go_enter Tryz.func116, Tryz.ntmps116
  go_wp2_with (first | (go_at_call 40; refine hun.mono ?_))
  rintro e W2 ⟨hb2, ⟨hp, rfl⟩ | ⟨ty, how, vs, b, hp, rfl, hbl, hrow⟩⟩
  · have c2 := cell_below hb2 he.c2
    have HP : Hid (pRead t = none) := hp
    clear hp hun
    go_wp2
    go_quiet (fail)
    go_wp2
    go_ret2
    exact ⟨below_drewN hb2 _, .inr ⟨fun ty how vs h => by rw [HP.out] at h; simp at h, rfl⟩⟩
  · have c2 := cell_below hb2 he.c2
    have HP : Hid (pRead t = some (ty, how, vs)) := hp
    clear hp hun
    by_cases ht : (ty : Int) = typ
    · by_cases hn : vs.length = n
      · have q1 : ((ty : Int) != typ) = false := by simp [ht]
        have q2 : (((vs.length : Nat) : Int) != (n : Int)) = false := by simp [hn]
        have HT : Hid ((ty : Int) = typ) := ht
        have HN : Hid (vs.length = n) := hn
        clear ht hn
        go_wp2
        go_ret2
        exact ⟨hb2, .inl ⟨ty, how, vs, b, HP.out, HT.out, HN.out, rfl, hbl, hrow⟩⟩
      · have q1 : ((ty : Int) != typ) = false := by simp [ht]
        have q2 : (((vs.length : Nat) : Int) != (n : Int)) = true := by rw [bne_iff_ne]; omega
        have HN : Hid (¬ vs.length = n) := hn
        clear ht hn
        go_wp2
        go_quiet (fail)
        go_wp2
        go_ret2
        refine ⟨below_drewN hb2 _, .inr ⟨fun ty' how' vs' h hh => ?_, rfl⟩⟩
        rw [HP.out] at h
        simp at h
        obtain ⟨_, _, rfl⟩ := h
        exact HN.out hh.2
    · have q1 : ((ty : Int) != typ) = true := by rw [bne_iff_ne]; exact ht
      have HT : Hid (¬ (ty : Int) = typ) := ht
      clear ht
      go_wp2
      go_quiet (fail)
      go_wp2
      go_ret2
      refine ⟨below_drewN hb2 _, .inr ⟨fun ty' how' vs' h hh => ?_, rfl⟩⟩
      rw [HP.out] at h
      simp at h
      obtain ⟨rfl, _, _⟩ := h
      exact HT.out hh.1

set_option maxRecDepth 100000 in
set_option maxHeartbeats 2000000 in
theorem tValues_any (s d : Nat) (a : Option Addr) (cap : Nat) (l : List Nat) (typ : Int) (n : Nat) (w : World) (F : Nat → Prop) (D : DS) (h : DiskAt w F d D) (hs0 : w.cell? ⟨s, 0, none⟩ = some (.pointer (some ⟨d, 0, none⟩))) (hl : Cells w a (l.map nv)) (hl0 : l ≠ []) (hsm : l.length ≤ 1000000) (hne : ∀ t, readL D l = .inl t → t ≠ []) (a0 a1 a2 : Addr) (he : Errs w a0 a1 a2) (pg : Addr) (hpg : w.cell? ⟨6, 0, none⟩ = some (.iface 255 (.pointer (some pg)))) :
    Calls Tryz.prog 89 #[.pointer (some ⟨s, 0, none⟩), .slice a l.length cap, .int .i64 typ, .int .i64 (n : Int)] w fun e w' => ValsPost w pg (valsOf D l typ n) e w' := by
  have hrd := dRead_any d a cap l w F D h hl hsm pg hpg hne
  have hlen : 0 < l.length := List.length_pos_iff.2 hl0
  have hnn := run_neq_nil_nil (P := Tryz.prog)
  cases hr : readL D l with
  | inr j =>
    have HV : Hid (valsOf D l typ n = .inr j) := by show _ = _; simp [valsOf, hr]
    rw [hr] at hrd
    clear hr hne
    go_enter Tryz.func89, Tryz.ntmps89
    go_wp2_with (first | (go_at_call 115; refine hrd.mono ?_; rintro e W1 ⟨hb1, b, rfl, hbl, hch⟩))
    go_ret2
    rw [HV.out]
    exact ⟨hb1, b, rfl, hbl, hch⟩
  | inl t =>
    have htl := readL_le D l t hr
    rw [hr] at hrd
    have hun : Hid (∀ W : World, Below w.heap.size w W → Calls Tryz.prog 116 #[.string (str t), .int .i64 typ, .int .i64 (n : Int)] W fun e w' => Below W.heap.size W w' ∧ ((∃ ty how vs b, pRead t = some (ty, how, vs) ∧ (ty : Int) = typ ∧ vs.length = n ∧ e = .returned (.tuple #[.slice (some ⟨b, 0, none⟩) vs.length vs.length, .nilIface]) ∧ W.heap.size ≤ b ∧ RowT w' b vs []) ∨
      ((∀ ty how vs, pRead t = some (ty, how, vs) → ¬ ((ty : Int) = typ ∧ vs.length = n)) ∧ e = .returned (.tuple #[.slice none 0 0, .iface 255 (.pointer (some a2))])))) := fun W hb => sValues_any t typ n W (by unfold maxLen; omega) a0 a1 a2 (he.below hb)
    have HR : Hid (readL D l = .inl t) := hr
    rcases hl with hl | ⟨b0, o0, rfl, hb0, hl⟩
    · simp at hl; exact absurd hl hl0
    have cb : w.cell? ⟨b0, o0, none⟩ = some (.int .i64 ((l.getD 0 0 : Nat) : Int)) := by
      have := hl 0 _ (by simp [hlen]; rfl)
      rw [Nat.add_zero] at this
      rw [this]
      simp [hlen, nv]
    obtain ⟨j0, HJ⟩ : ∃ j0, Hid (l.getD 0 0 = j0) := ⟨_, rfl⟩
    rw [HJ.out] at cb
    clear hr hne hl h
    go_enter Tryz.func89, Tryz.ntmps89
    go_wp2_with (first | (go_at_call 115; refine hrd.mono ?_; rintro e W1 ⟨hb1, rfl⟩) | (go_at_call 116; refine (hun.out W1 hb1).mono ?_))
    rintro e W2 ⟨hb2, ⟨ty, how, vs, b, hp, ht, hn, rfl, hbl, hrow⟩ | ⟨hno, rfl⟩⟩
    · have HV : Hid (valsOf D l typ n = .inl vs) := by show _ = _; simp only [valsOf, HR.out, hp]; rw [if_pos ⟨ht, hn⟩]
      have hb12 := below_then hb1 hb2
      clear hp hun ht hn
      go_wp2
      go_ret2
      rw [HV.out]
      exact ⟨hb12, b, rfl, Nat.le_trans hb1.size hbl, hrow⟩
    · have HV : Hid (valsOf D l typ n = .inr j0) := by
        show _ = _
        simp only [valsOf, HR.out]
        cases hp : pRead t with
        | none => simp only; exact congrArg _ HJ.out
        | some x =>
          obtain ⟨ty, how, vs⟩ := x
          simp only
          rw [if_neg (hno ty how vs hp), HJ.out]
      have hb12 := below_then hb1 hb2
      have hsp := dSpoilt_any (j0 : Int) W2 pg (cell_below hb12 hpg)
      have cb2 := cell_below hb12 cb
      clear hno hun
      go_wp2_with (first | (go_at_call 117; refine hsp.mono ?_; rintro e W3 ⟨hb3, b3, rfl, hbl3, hch⟩))
      go_ret2
      rw [HV.out]
      exact ⟨below_then hb12 hb3, b3, rfl, Nat.le_trans hb12.size hbl3, hch⟩
end Go.Proofs.YtfgklnenpichcaaGreatDoor
