/- What the writer's methods write: one byte, a number's eight bytes. -/
import Derived.Test.YthplnjgijmilnaaDoorWriter
import Derived.Deep.RegionLaw
import Derived.Deep.AppendLies
import Derived.Deep.DrawnRows
import Derived.Deep.DeepMust
namespace Go.Proofs.YthplnjgijmilnaaDoor
open Go.RowKit

set_option maxHeartbeats 400000 in
theorem wSmall_any (B g : Nat) (t n : Int) (bs : List UInt8) (w : World) (h : WAt w B g t bs) (hl : bs.length ≤ 100000) :
    Calls Tryd.prog 53 #[.pointer (some ⟨g, 0, none⟩), .int .i64 n] w fun e w' => e = .returned (.tuple #[]) ∧ WAt w' B g t (bs ++ [low n]) ∧ WKeep w w' g := by
  have hg := h.lt
  have hB := h.1
  obtain ⟨sv, c0, c1, c2, ho, hn⟩ := h.cells
  have hlen : (bs.map bv).length ≤ 100000 := by simpa using hl
  go_enter Tryd.func53, Tryd.ntmps53
  go_wp2_with (at_builtin; go_must (refine wpList_append_C (by rfl) _ _ 37 5 _ 1 info_u8 (by rfl) (by decide) (by kernel_rfl) (by rfl) B sv _ (by rfl) (ho.alloc _) ⟨w.heap.size, 0, none⟩ 1 [.int .u8 (n % 256)] (by rfl) (by exact news_one _ _ _) (by intro u hu; simp at hu; subst hu; rfl) (by simp only [List.length_cons, List.length_nil]; omega) (by simp; omega) ?_); intro sv' w1 h1 h2 h3; obtain ⟨a2, cap2, rfl, _⟩ := h1.cells; have k1 := h2.cell_far ⟨g, 1, none⟩ (by simp; omega) (Ne.symm hn); have k2 := h2.frozen_far ⟨g, 1, none⟩ (by simp; omega) (Ne.symm hn))
  go_end0
  rw [low_val] at h1
  have := h.step (bs' := bs ++ [low n]) c1 ((Below.refl _ _).alloc (Nat.le_refl _) _) h2 (by simpa using h1) h3
  simp only [List.length_append, List.length_map, List.length_cons, List.length_nil] at this
  exact ⟨rfl, this⟩

theorem u8_of_shift (U i : Nat) : Value.int .u8 (((U / 2 ^ (8 * i) : Nat) : Int) % 256) = bv (UInt8.ofNat (U / 256 ^ i % 256)) := by
  unfold bv
  congr 1
  have : (2 : Nat) ^ (8 * i) = 256 ^ i := by rw [Nat.pow_mul]
  rw [this]
  simp

theorem run_shr_u64 (U c : Nat) (hc : c < 64) (W : World) : (Op.shift .shr .u64 (U : Int) .i64 (c : Int)).run Tryd.prog W = .ok (.int .u64 ((U / 2 ^ c : Nat) : Int)) W := by
  simp [go_sem]
theorem run_shl_u8 (b c : Nat) (hb : b < 2) (hc : c < 8) (W : World) : (Op.shift .shl .u8 (b : Int) .i64 (c : Int)).run Tryd.prog W = .ok (.int .u8 ((b <<< c : Nat) : Int)) W := by
  have h : ∀ (b : Fin 2) (c : Fin 8), ((b.val : Int) * 2 ^ c.val) % 256 = ((b.val <<< c.val : Nat) : Int) := by decide
  have := h ⟨b, hb⟩ ⟨c, hc⟩
  simp [go_sem, IntKind.wrap_u8]
  simpa using this

set_option maxRecDepth 100000 in
set_option maxHeartbeats 1000000 in
theorem wNumber_any (B g : Nat) (t n : Int) (bs : List UInt8) (w : World) (h : WAt w B g t bs) (hl : bs.length ≤ 100000) :
    Calls Tryd.prog 75 #[.pointer (some ⟨g, 0, none⟩), .int .i64 n] w fun e w' => e = .returned (.tuple #[]) ∧ WAt w' B g t (bs ++ le8 (u64 n)) ∧ WKeep w w' g := by
  have hu : IntKind.u64.wrap n = (u64 n : Int) := by rw [IntKind.wrap_u64]; unfold u64; omega
  have hul := u64_lt n
  generalize u64 n = U at *
  go_enter Tryd.func75, Tryd.ntmps75
  go_wp2
  go_loopw [5] (fun i wr => ∃ k : Nat, k ≤ 8 ∧ i = .int .i64 k ∧ WAt wr B g t (bs ++ (List.range k).map fun i => UInt8.ofNat (U / 256 ^ i % 256)) ∧ WKeep w wr g) (fun i _ => 8 - (intOf i).toNat)
  case atStart => exact ⟨0, by omega, rfl, by simpa using h, WKeep.refl _ _⟩
  case round =>
    obtain ⟨k, hk, rfl, hw, hkeep⟩ := hrel
    by_cases hlt : k < 8
    · have hg := hw.lt
      have hB := hw.1
      obtain ⟨sv, c0, c1, c2, ho, hn⟩ := hw.cells
      generalize hbs : bs ++ ((List.range k).map fun i => UInt8.ofNat (U / 256 ^ i % 256)) = bk at *
      have hlen : (bk.map bv).length ≤ 100010 := by rw [← hbs]; simp; omega
      have HBK : Hid _ := hbs
      clear hbs
      obtain ⟨c, hc⟩ : ∃ c : Nat, c = 8 * k := ⟨_, rfl⟩
      have hw8 : IntKind.i64.wrap (8 * (k : Int)) = (c : Int) := by rw [IntKind.wrap_i64]; omega
      obtain ⟨q, hq⟩ : ∃ q : Nat, q = U / 256 ^ k % 256 := ⟨_, rfl⟩
      have hwr : IntKind.u8.wrap ((U : Int) / 2 ^ min c 64) = (q : Int) := by
        have e : min c 64 = 8 * k := by omega
        have e2 : ((2 : Int) ^ (8 * k)) = ((256 ^ k : Nat) : Int) := by
          rw [Int.natCast_pow, Int.pow_mul]; rfl
        rw [e, hq, e2, IntKind.wrap_u8]
        omega
      have HQ : Hid (Value.int .u8 (q : Int) = bv (UInt8.ofNat (U / 256 ^ k % 256))) := by
        show Value.int .u8 (q : Int) = _
        rw [hq]; unfold bv; congr 1; simp
      clear hc hq
      obtain ⟨i0, hi0, hz0, hz1, hz2⟩ := info_parts info_u8
      go_wp2_with fail
      go_region_law
        ((refine step_append_lies _ (by rfl) _ _ _ (by rfl) B 5 i0 _ 1 1 (by kernel_rfl) hi0 hz0 hz1 hz2 rfl (by omega) sv (bk.map bv).length (bk.map bv) (by rfl) ((World.ownsRow.drew (ho.alloc _)))
              ⟨wr.heap.size, 0, none⟩ 1 1 [.int .u8 (q : Int)] (by rfl) (by rfl) (by exact news_one wr _ 5) (by intro u hu; simp at hu; subst hu; rfl)
              (by omega) (by unfold maxLen; omega) (by omega) (by simp; omega) (wr.heap.size + 1) (by simp) ?_; intro gg cap w1 hown1 hgrow hat hlt2; have k1 : w1.cell? ⟨g, 1, none⟩ = some sv := (by rw [hgrow.cell_far _ (by simp; omega) (Ne.symm hn)]; exact (alloc_cell wr _ g 1 hg).trans c1); have k2 : w1.frozen? ⟨g, 1, none⟩ = false := (by rw [hgrow.frozen_far _ (by simp; omega) (Ne.symm hn)]; exact (alloc_frozen wr _ g 1 hg).trans c2)))
      all_goals
        go_wp2
        go_roundw
        case rel =>
          rw [HQ.out] at hown1
          have hst := hw.step (bs' := bk ++ [UInt8.ofNat (U / 256 ^ k % 256)]) (sv' := .slice (some ⟨gg, 0, none⟩) ((List.map bv bk).length + 1) cap) c1 (((Below.refl _ _).alloc (Nat.le_refl _) _).drew) hgrow (by simpa [OwnC] using hown1)
            (by rcases hat with e | e
                · exact .inl e.symm
                · right; simp [Value.ownBlock, e])
          simp only [List.length_map] at hst
          refine ⟨k + 1, by omega, by go_num, ?_, hkeep.trans hst.2⟩
          rw [List.range_succ, List.map_append, ← List.append_assoc, HBK.out]
          exact hst.1
        case measure => simp [intOf]; omega
    · have hk8 : k = 8 := by omega
      subst hk8
      go_wp2
      go_end0
      exact ⟨rfl, hw, hkeep⟩
end Go.Proofs.YthplnjgijmilnaaDoor
