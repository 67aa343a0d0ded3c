/- slices.Chunk over rows: which pieces come. -/
import Derived.Test.YtfgklnenpichcaaGreatDoorTa
import Derived.RangeFuncNested
import Derived.RangeFuncBound
import Derived.RangeFuncCalls
import Derived.RangeFuncLeaves
import Derived.Shelf.Abstract
import Derived.Shelf.RegionOpen
import Derived.WalkKit
import Derived.OwnWalkIn
import Derived.TacticsInMore
import Derived.LoopNIn
import Derived.LoopIn
namespace Go.Proofs.YtfgklnenpichcaaGreatDoor
open Go.RowKit Go.Shelf
attribute [local go_sem] Oper.semAt_some

/-- A piece of a list of len rows: from where, how many. -/
abbrev Ck (len : Nat) : Type := { x : Nat × Nat // x.1 + x.2 ≤ len ∧ 1 ≤ x.2 ∧ x.2 ≤ 64 }
/-- The pieces of g rows each; the last may have less. -/
def ckAt (len g i : Nat) : Nat × Nat := (i * g, min g (len - i * g))
def cks (len g k : Nat) : List (Nat × Nat) := (List.range k).map (ckAt len g)
def ckN (len g : Nat) : Nat := (len + g - 1) / g
theorem cks_succ (len g k : Nat) : cks len g (k + 1) = cks len g k ++ [ckAt len g k] := by simp [cks, List.range_succ]
theorem cks_length (len g k : Nat) : (cks len g k).length = k := by simp [cks]
theorem ckN_lt {len g k : Nat} (hg : 1 ≤ g) (h : k < ckN len g) : k * g < len := by
  unfold ckN at h
  have h1 : k + 1 ≤ (len + g - 1) / g := h
  rw [Nat.le_div_iff_mul_le (by omega)] at h1
  rw [Nat.succ_mul] at h1
  omega
theorem ckN_ge {len g k : Nat} (hg : 1 ≤ g) (h : k * g < len) : k < ckN len g := by
  unfold ckN
  have : k + 1 ≤ (len + g - 1) / g := by
    rw [Nat.le_div_iff_mul_le (by omega), Nat.succ_mul]
    omega
  exact this

/-- The two boxes that the iterator reads stay as they are. -/
def KpC (Bs Bn : Nat) (W W' : World) : Prop := W'.heap[Bs]? = W.heap[Bs]? ∧ W'.heap[Bn]? = W.heap[Bn]?

set_option maxRecDepth 100000 in
set_option maxHeartbeats 2000000 in
theorem chunk1_in (n : Nat) (hn : 1 ≤ n) (l Bs Bn b off len cap g : Nat) (hg : 1 ≤ g) (hg2 : g ≤ 64) (hlen : len ≤ 1000) (hcap : len ≤ cap) (J Jx : List (Ck len) → World → Prop)
    (hY : ∀ pre (x : Ck len) W, J pre W → pre.length < ckN len g → YieldAt Fence.wide (n - 1) Tryz.prog l #[.slice (some ⟨b, off + x.1.1, none⟩) x.1.2 x.1.2] W fun e W' =>
      (e = .returned (.bool true) ∧ J (pre ++ [x]) W' ∧ KpC Bs Bn W W') ∨ (e = .returned (.bool false) ∧ Jx (pre ++ [x]) W'))
    (hJd : ∀ s W, J s W → J s W.drew) (W : World) (hBs : W.cell? ⟨Bs, 0, none⟩ = some (.slice (some ⟨b, off, none⟩) len cap)) (hBn : W.cell? ⟨Bn, 0, none⟩ = some (.int .i64 (g : Int))) (h0 : J [] W) :
    CallsIn Fence.wide n Tryz.prog 113 #[.func (.yield l) #[] #[], .pointer (some ⟨Bs, 0, none⟩), .pointer (some ⟨Bn, 0, none⟩)] W fun e W' => (∃ v, e = .returned v) ∧
      ((∃ ys, ys.map Subtype.val = cks len g (ckN len g) ∧ J ys W') ∨ (∃ pre, (∃ k, k ≤ ckN len g ∧ pre.map Subtype.val = cks len g k) ∧ Jx pre W')) := by
  refine callsIn_of_wp Tryz.func113 rfl trivial ?_ rfl
  simp only [Tryz.ntmps113, List.size_toArray, List.length_cons, List.length_nil, Nat.reduceAdd, Nat.reduceSub, Array.replicate_succ, Array.replicate_zero, List.push_toArray, List.append_toArray, List.nil_append, List.cons_append]
  gi_wp2
  gi_loopw [4] (fun i wr => ∃ (k : Nat) (ys : List (Ck len)), k ≤ ckN len g ∧ i = .int .i64 ((k * g : Nat) : Int) ∧ Hid (ys.map Subtype.val = cks len g k) ∧ J ys wr ∧ KpC Bs Bn W wr)
    (fun i _ => len + 64 - (intOf i).toNat)
  case atStart => exact ⟨0, [], Nat.zero_le _, by simp, rfl, h0, rfl, rfl⟩
  case round =>
    obtain ⟨k, ys, hk, rfl, HY, hJs, hk1, hk2⟩ := hrel
    have c1 : wr.cell? ⟨Bs, 0, none⟩ = some (.slice (some ⟨b, off, none⟩) len cap) := by rw [World.cell?_of_block (w := W) hk1]; exact hBs
    have c2 : wr.cell? ⟨Bn, 0, none⟩ = some (.int .i64 (g : Int)) := by rw [World.cell?_of_block (w := W) hk2]; exact hBn
    by_cases hlt : k * g < len
    · have hkn := ckN_ge hg hlt
      have HS : Hid (cks len g (k + 1) = cks len g k ++ [(k * g, min g (len - k * g))]) := cks_succ len g k
      have HM : Hid ((k + 1) * g = k * g + g) := Nat.succ_mul k g
      have hylen : ys.length = k := by have := congrArg List.length HY.out; rw [List.length_map, cks_length] at this; exact this
      generalize k * g = i at *
      obtain ⟨m, hm, HMM⟩ : ∃ m : Nat, (i + m ≤ len ∧ 1 ≤ m ∧ m ≤ 64) ∧ Hid (m = min g (len - i)) := ⟨min g (len - i), by omega, rfl⟩
      rw [← HMM.out] at HS
      have hmin : (if len - i < g then ((len - i : Nat) : Int) else (g : Int)) = (m : Int) := by have := HMM.out; split <;> omega
      obtain ⟨fn, tmps, assign, body, hy, hR⟩ := hY ys ⟨(i, m), hm⟩ wr.drew (hJd _ _ hJs) (by omega)
      dsimp only at hy
      clear hylen
      have hm' := hm
      obtain ⟨hm1, hm2, hm3⟩ := hm
      gi_wp2
      gi_region
      gi_wp2
      refine hR.mono ?_
      rintro e W3 (⟨rfl, hJ3, hk3, hk4⟩ | ⟨rfl, hJx3⟩)
      · have c3 : W3.cell? ⟨Bn, 0, none⟩ = some (.int .i64 (g : Int)) := by rw [World.cell?_of_block (w := wr.drew) hk4]; exact c2
        gi_wp2
        go_roundw
        case rel => exact ⟨k + 1, ys ++ [⟨(i, m), hm'⟩], hkn, by rw [HM.out]; go_num, by show _ = _; rw [List.map_append, HY.out, HS.out]; rfl, hJ3, hk3.trans hk1, hk4.trans hk2⟩
        case measure => simp [intOf]; omega
      · gi_wp2
        refine bodyPost_ret (results_none rfl _ _ _) rfl ?_
        exact ⟨⟨_, rfl⟩, .inr ⟨_, ⟨k + 1, hkn, by rw [List.map_append, HY.out, HS.out]; rfl⟩, hJx3⟩⟩
    · have HKN : Hid (k = ckN len g) := by
        rcases Nat.lt_or_ge k (ckN len g) with h' | h'
        · exact absurd (ckN_lt hg h') hlt
        · show k = _; omega
      gi_wp2
      go_end0
      exact ⟨⟨_, rfl⟩, .inl ⟨ys, by rw [HY.out, HKN.out], hJs⟩⟩
end Go.Proofs.YtfgklnenpichcaaGreatDoor
