/- What the document's own answer makes of the values that are not NULL, as runs. -/
import Derived.Test.YthplnjgijmilnaaDoorWalkP
import Derived.Deep.RegionWith
namespace Go.Proofs.YthplnjgijmilnaaDoor
open Go.RowKit

theorem runs_same (v : V) (c : Nat) (u : V) (l : List V) (h : u = v) : runsAux v c (u :: l) = runsAux v (c + 1) l := by
  simp [runsAux, (V.beq_iff u v).2 h]
theorem runs_diff (v : V) (c : Nat) (u : V) (l : List V) (h : u ≠ v) : runsAux v c (u :: l) = (low c :: enc v.k v.n v.s) ++ runsEnc (u :: l) := by
  simp [runsAux, (V.beq_false u v).2 h, runsEnc]

theorem below_undrewN {B n : Nat} {a w : World} (h : Below B (a.drewN n) w) : Below B a w := ⟨h.os, h.tape, h.output, h.size, h.block⟩

set_option maxRecDepth 100000 in
set_option maxHeartbeats 1000000 in
theorem rBody_runs (t : Int) (a : Option Addr) (cap : Nat) (xs : List V) (w : World) (hn : xs.length ≤ 64) (hgd : ∀ v ∈ xs, good v.k v.s) (hx : Vals w a xs) :
    Calls Tryd.prog 29 #[.int .i64 t, .int .i64 2, .slice a xs.length cap] w fun e w' => e = .returned (.string (str (runsEnc xs))) ∧ Below w.heap.size w w' := by
  have hs1 := str1_size
  have hrl := runsEnc_le _ xs (Nat.le_refl _) hgd
  go_enter Tryd.func29, Tryd.ntmps29
  go_wp2
  go_loopw [7, 14] (fun s i wr => ∃ (k : Nat) (done : List UInt8), k ≤ xs.length ∧ i = .int .i64 k ∧ s = .string (str done) ∧ Hid (runsEnc xs = done ++ runsEnc (xs.drop k)) ∧ Below w.heap.size w wr) (fun _ i _ => xs.length - (intOf i).toNat)
  case atStart => exact ⟨0, [], by omega, rfl, rfl, rfl, Below.refl _ _⟩
  case round =>
    obtain ⟨k, done, hk, rfl, rfl, hdone, hbw⟩ := hrel
    by_cases hlt : k < xs.length
    · rename World => w1
      have hd0 : xs.drop k = xs[k] :: xs.drop (k + 1) := List.drop_eq_getElem_cons hlt
      have HD0 : Hid (runsEnc xs = done ++ runsAux xs[k] 1 (xs.drop (k + 1))) := by
        show _ = _
        rw [hdone.out, hd0]; rfl
      clear hd0
      have hdl : (str done).size ≤ 5000 := by
        have h1 := congrArg List.length hdone.out
        rw [List.length_append] at h1
        exact size_le (by omega)
      go_wp2
      go_loopw [14, 15] (fun i n wr => ∃ p c : Nat, k ≤ p ∧ ∃ hp : p < xs.length, c ≤ p + 1 ∧ i = .int .i64 p ∧ n = .int .i64 c ∧ Hid (runsEnc xs = done ++ runsAux xs[p] c (xs.drop (p + 1))) ∧ (∃ m, wr = w1.drewN m)) (fun i _ _ => xs.length - (intOf i).toNat)
      case atStart => exact ⟨k, 1, by omega, hlt, by omega, rfl, rfl, HD0, ⟨0, rfl⟩⟩
      case round =>
        obtain ⟨p, c, hkp, hp, hcp, rfl, rfl, hd1, ⟨m, rfl⟩⟩ := hrel
        obtain ⟨b1, o1, rfl, hb1, x1, x2, x3⟩ := (hx.below hbw).at hp
        by_cases hp1 : p + 1 < xs.length
        · obtain ⟨b2, o2, hbo, _, y1, y2, y3⟩ := (hx.below hbw).at hp1
          simp at hbo
          obtain ⟨rfl, rfl⟩ := hbo
          have hgd1 : decide ((p : Int) + 1 < (xs.length : Int)) = true := by simp; omega
          have hd2 : xs.drop (p + 1) = xs[p + 1] :: xs.drop (p + 1 + 1) := List.drop_eq_getElem_cons hp1
          by_cases he : xs[p + 1] = xs[p]
          · have hq := run_eql_same _ _ he
            have HD2 : Hid (runsEnc xs = done ++ runsAux xs[p + 1] (c + 1) (xs.drop (p + 1 + 1))) := by
              show _ = _
              rw [hd1.out, hd2, runs_same _ _ _ _ he, he]
            clear he hd2
            go_wp2
            go_quiet (fail)
            go_wp2
            go_roundw
            case rel => exact ⟨p + 1, c + 1, by omega, hp1, by omega, by go_num, by go_num, HD2, ⟨_, rfl⟩⟩
            case measure => simp [intOf]; omega
          · have hq := run_eql_diff _ _ he
            have HD2 : Hid (runsEnc xs = done ++ [low c] ++ enc xs[p].k xs[p].n xs[p].s ++ runsEnc (xs.drop (p + 1))) := by
              show _ = _
              rw [hd1.out, hd2, runs_diff _ _ _ _ he]; simp
            clear he hd2
            go_wp2
            go_quiet (fail)
            go_wp2
            have hgp := hgd _ (List.getElem_mem hp)
            have he := enc_le xs[p].k xs[p].n xs[p].s hgp
            have hz2 : (str (enc xs[p].k xs[p].n xs[p].s)).size ≤ 41 := size_le he
            have HG : Hid (good xs[p].k xs[p].s) := hgp
            clear hgp he hd1
            go_region_with (first
              | (go_at_call 27; refine (byteOf_any _ _).mono ?_; rintro e w5 ⟨rfl, hb5⟩; have hb5' : Below w1.heap.size w1 w5 := below_undrewN hb5; have q1 := (World.cell?_of_block (w := w1) (a := ⟨b1, o1 + p * 3, none⟩) (hb5'.block b1 hb1)).trans x1; have q2 := (World.cell?_of_block (w := w1) (a := ⟨b1, o1 + p * 3 + 1, none⟩) (hb5'.block b1 hb1)).trans x2; have q3 := (World.cell?_of_block (w := w1) (a := ⟨b1, o1 + p * 3 + 2, none⟩) (hb5'.block b1 hb1)).trans x3; clear hb5)
              | (go_at_call 45; refine (rSpelled_any xs[p] _ HG.out).mono ?_; rintro e w6 ⟨rfl, hb6⟩))
            all_goals go_wp2
            all_goals
              go_roundw
              case rel =>
                refine ⟨p + 1, done ++ [low c] ++ enc xs[p].k xs[p].n xs[p].s, by omega, by go_num, ?_, HD2, below_then hbw (below_then hb5' hb6)⟩
                rw [← str_append, ← str_append]
              case measure => simp [intOf]; omega
        · have hgd1 : decide ((p : Int) + 1 < (xs.length : Int)) = false := by simp; omega
          have hd2 : xs.drop (p + 1) = [] := List.drop_eq_nil_iff.2 (by omega)
          have HD2 : Hid (runsEnc xs = done ++ [low c] ++ enc xs[p].k xs[p].n xs[p].s ++ runsEnc (xs.drop (p + 1))) := by
            show _ = _
            rw [hd1.out, hd2]; simp [runsAux, runsEnc_nil]
          clear hd2
          go_wp2
          go_quiet (fail)
          go_wp2
          have hgp := hgd _ (List.getElem_mem hp)
          have he := enc_le xs[p].k xs[p].n xs[p].s hgp
          have hz2 : (str (enc xs[p].k xs[p].n xs[p].s)).size ≤ 41 := size_le he
          have HG : Hid (good xs[p].k xs[p].s) := hgp
          clear hgp he hd1
          go_region_with (first
            | (go_at_call 27; refine (byteOf_any _ _).mono ?_; rintro e w5 ⟨rfl, hb5⟩; have hb5' : Below w1.heap.size w1 w5 := below_undrewN hb5; have q1 := (World.cell?_of_block (w := w1) (a := ⟨b1, o1 + p * 3, none⟩) (hb5'.block b1 hb1)).trans x1; have q2 := (World.cell?_of_block (w := w1) (a := ⟨b1, o1 + p * 3 + 1, none⟩) (hb5'.block b1 hb1)).trans x2; have q3 := (World.cell?_of_block (w := w1) (a := ⟨b1, o1 + p * 3 + 2, none⟩) (hb5'.block b1 hb1)).trans x3; clear hb5)
            | (go_at_call 45; refine (rSpelled_any xs[p] _ HG.out).mono ?_; rintro e w6 ⟨rfl, hb6⟩))
          all_goals go_wp2
          all_goals
            go_roundw
            case rel =>
              refine ⟨p + 1, done ++ [low c] ++ enc xs[p].k xs[p].n xs[p].s, by omega, by go_num, ?_, HD2, below_then hbw (below_then hb5' hb6)⟩
              rw [← str_append, ← str_append]
            case measure => simp [intOf]; omega
    · have hke : k = xs.length := by omega
      subst hke
      have hd2 : xs.drop xs.length = [] := List.drop_eq_nil_iff.2 (Nat.le_refl _)
      have hfin := hdone.out
      rw [hd2, runsEnc_nil, List.append_nil] at hfin
      have HF : Hid (runsEnc xs = done) := hfin
      clear hfin hd2
      go_wp2
      go_ret
      exact ⟨by rw [HF.out]; rfl, hbw⟩
end Go.Proofs.YthplnjgijmilnaaDoor
