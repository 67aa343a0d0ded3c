/- What the writer writes of numbers of so many bits. -/
import Derived.Test.YthplnjgijmilnaaDoorWriter
import Derived.Test.YthplnjgijmilnaaDoorWalkE
import Derived.Deep.RegionLaw
import Derived.Deep.MidRow
import Derived.Deep.AppendLies
import Derived.Deep.DeepMust
namespace Go.Proofs.YthplnjgijmilnaaDoor
open Go.RowKit

theorem or_bit (Y n b A : Nat) (hY : Y < 256) (hn : n < 18446744073709551616) :
    bits BinOp.or IntKind.u8 (Y : Int) (bits BinOp.and IntKind.u64 ((n : Int) / 2 ^ b) 1 % 256 * 2 ^ (A % 8) % 256) = ((Y ||| ((if n.testBit b then 1 else 0) <<< (A % 8)) : Nat) : Int) := by
  have e1 : ((n : Int) / 2 ^ b) = ((n / 2 ^ b : Nat) : Int) := by simp
  have hlt : n / 2 ^ b < 18446744073709551616 := Nat.lt_of_le_of_lt (Nat.div_le_self _ _) hn
  have e2 : bits BinOp.and IntKind.u64 ((n / 2 ^ b : Nat) : Int) 1 = ((n / 2 ^ b % 2 : Nat) : Int) := by
    have := u64_and_nat (n / 2 ^ b) 1 hlt (by decide)
    rw [Nat.and_one_is_mod] at this
    exact this
  have e3 : n.testBit b = decide (n / 2 ^ b % 2 = 1) := Nat.testBit_eq_decide_div_mod_eq
  rw [e1, e2, e3]
  have hm : n / 2 ^ b % 2 < 2 := Nat.mod_lt _ (by decide)
  have hc : A % 8 < 8 := Nat.mod_lt _ (by decide)
  generalize n / 2 ^ b % 2 = m at *
  generalize A % 8 = c at *
  have key : ∀ (m : Fin 2) (c : Fin 8), ((m.val : Int) % (256 : Int) * (2 : Int) ^ c.val % (256 : Int)) = (((if decide (m.val = 1) = true then 1 else 0) <<< c.val : Nat) : Int) ∧ ((if decide (m.val = 1) = true then 1 else 0) <<< c.val : Nat) < 256 := by decide
  have k := key ⟨m, hm⟩ ⟨c, hc⟩
  simp only at k
  rw [k.1]
  exact u8_or_nat Y _ hY k.2

set_option maxRecDepth 100000 in
set_option maxHeartbeats 1000000 in
theorem wFields_any (B g : Nat) (t : Int) (bs : List UInt8) (width : Nat) (a : Option Addr) (cap : Nat) (ns : List Nat) (w : World) (h : WAt w B g t bs) (hl : bs.length ≤ 50000) (hwd : width ≤ 64) (hn : ns.length ≤ 64) (hsm : ∀ n ∈ ns, n < 18446744073709551616) (hx : Cells w a (ns.map uv)) (hap : ∀ b o, a = some ⟨b, o, none⟩ → Apart w g b) :
    Calls Tryd.prog 54 #[.pointer (some ⟨g, 0, none⟩), .int .i64 width, .slice a ns.length cap] w fun e w' => e = .returned (.tuple #[]) ∧ WAt w' B g t (bs ++ packBits (bitsOf width ns)) ∧ WKeep w w' g := by
  have hprod : width * ns.length ≤ 64 * 64 := Nat.mul_le_mul hwd hn
  obtain ⟨W, hW⟩ : ∃ W : Nat, W = width * ns.length := ⟨_, rfl⟩
  have hWI : (width : Int) * (ns.length : Int) = (W : Int) := by rw [hW]; simp
  obtain ⟨nb, hnb⟩ : ∃ nb : Nat, nb = (W + 7) / 8 := ⟨_, rfl⟩
  have hnbI : ((W : Int) + 7) / 8 = (nb : Int) := by omega
  have hLL := bitsOf_length width ns
  generalize hL : bitsOf width ns = L at *
  have hmk : ∀ W, (Instr.makeSlice 37 (.int .i64 (nb : Int)) (.int .i64 (nb : Int))).run Tryd.prog W = .ok (.slice (some ⟨W.heap.size, 0, none⟩) nb nb) (W.alloc (.cells (madeCells #[.int .u8 0] nb) 5)) :=
    fun W => run_make_row' 37 5 (.int .u8 0) 1 (by kernel_rfl) info_u8 rfl .i64 .i64 nb (by omega) (by omega) W
  have HLL : Hid (L.length = W) := by show _ = _; rw [hLL, hW]
  have HL : Hid (bitsOf width ns = L) := hL
  have HW : Hid (W = width * ns.length) := hW
  have HNB : Hid (nb = (W + 7) / 8) := hnb
  have hWb : W ≤ 4096 := by omega
  have hnb2 : nb ≤ 600 := by omega
  clear hL hLL hW hnb
  go_enter Tryd.func54, Tryd.ntmps54
  go_wp2_with (go_at_call 68; refine (bytesFor_any _ _ (by omega) (by omega)).mono ?_; rintro e w' ⟨rfl, hw'⟩; subst w')
  clear hmk hWI hnbI
  go_loopw [7, 19] (fun at_ i wr => ∃ k : Nat, k ≤ ns.length ∧ i = .int .i64 k ∧ at_ = .int .i64 ((width * k : Nat) : Int) ∧ wr.rowIs w.heap.size 5 nb (fun j => .int .u8 (byteAt (L.take (width * k)) j : Nat)) ∧ Below w.heap.size w wr) (fun _ i _ => ns.length - (intOf i).toNat)
  case atStart =>
    refine ⟨0, by omega, rfl, rfl, (World.rowIs_made _ _ _ _).congr fun j _ => ?_, (Below.refl _ _).alloc (Nat.le_refl _) _⟩
    simp [byteAt_nil]
  case round =>
    obtain ⟨k, hk, rfl, rfl, hrow, hbw⟩ := hrel
    by_cases hlt : k < ns.length
    · obtain ⟨b1, o1, rfl, hb1, x1⟩ := (hx.below hbw).at (i := k) (by simpa using hlt)
      rw [List.getElem_map] at x1
      unfold uv at x1
      have HG : Hid (∀ b, b < width → L[width * k + b]? = some (ns[k].testBit b)) := by
        intro b hb
        rw [← HL.out]; exact bitsOf_get width ns k b hlt hb
      have hnk : ns[k] < 18446744073709551616 := hsm _ (List.getElem_mem hlt)
      have HNK : Hid (ns[k] < 18446744073709551616) := hnk
      clear hnk
      generalize ns[k] = n at *
      have hkw : width * k + width ≤ W := by
        rw [HW.out, ← Nat.mul_succ]; exact Nat.mul_le_mul_left _ hlt
      generalize hA0 : width * k = A0 at *
      have HA0 : Hid (width * k = A0) := hA0
      clear hA0
      go_wp2
      go_loopw [7, 24] (fun at_ i wr2 => ∃ b : Nat, b ≤ width ∧ i = .int .i64 b ∧ at_ = .int .i64 ((A0 + b : Nat) : Int) ∧ wr2.rowIs w.heap.size 5 nb (fun j => .int .u8 (byteAt (L.take (A0 + b)) j : Nat)) ∧ Below w.heap.size w wr2) (fun _ i _ => width - (intOf i).toNat)
      case atStart => exact ⟨0, by omega, rfl, rfl, hrow, hbw⟩
      case round =>
        clear hrow hbw x1 hb1
        obtain ⟨b, hb, rfl, rfl, hrow, hbw⟩ := hrel
        by_cases hltb : b < width
        · have hbit := HG.out b hltb
          generalize hA : A0 + b = A at *
          have hAW : A < W := by omega
          have HA : Hid (A0 + b = A) := hA
          clear hA
          have hq : A / 8 < nb := by rw [HNB.out]; omega
          have c1 := hrow.cell hq
          have c2 := hrow.frozen (A / 8)
          have hbl := byteAt_lt (L.take A) (A / 8)
          have htk : ∀ j, byteAt (L.take (A + 1)) j = if j = A / 8 then byteAt (L.take A) j ||| ((if n.testBit b then 1 else 0) <<< (A % 8)) else byteAt (L.take A) j := by
            intro j
            have hAL : A < L.length := by rw [HLL.out]; exact hAW
            have hbb : L[A] = n.testBit b := by rw [List.getElem?_eq_getElem hAL] at hbit; exact Option.some.inj hbit
            rw [byteAt_take L A j hAL, hbb]
          have HTK : Hid _ := htk
          clear htk
          generalize hYY : byteAt (L.take A) (A / 8) = Y at c1 hbl
          have HY : Hid (byteAt (L.take A) (A / 8) = Y) := hYY
          clear hYY
          go_wp2
          go_region
          go_wp2
          go_roundw
          case rel =>
            refine ⟨b + 1, by omega, by go_num, ?_, (hrow.set (A / 8) _).congr fun j hj => ?_, (hbw.setCell (p := ⟨w.heap.size, A / 8, none⟩) (Nat.le_refl _) _).drew⟩
            · have := HA.out
              rw [← this]; go_num
            · rw [← Nat.add_assoc, HA.out, HTK.out j]
              by_cases e : j = A / 8
              · rw [if_pos e, if_pos e, or_bit Y n b A hbl HNK.out, e, HY.out]
              · rw [if_neg e, if_neg e]
          case measure => simp [intOf]; omega
        · have hbe : b = width := by omega
          subst hbe
          go_wp2
          go_roundw
          case rel =>
            refine ⟨k + 1, by omega, by go_num, ?_, ?_, hbw⟩
            · have := HA0.out
              rw [Nat.mul_succ, this]
            · rw [Nat.mul_succ, HA0.out]; exact hrow
          case measure => simp [intOf]; omega
    · have hke : k = ns.length := by omega
      subst hke
      have hfull : L.take (width * ns.length) = L := List.take_of_length_le (by rw [HLL.out, HW.out]; exact Nat.le_refl _)
      rw [hfull] at hrow
      clear hfull
      have hw2 := h.below hbw
      have hg := hw2.lt
      have hB := hw2.1
      obtain ⟨sv, c0, c1, c2, ho, hne⟩ := hw2.cells
      have hlen : (bs.map bv).length ≤ 50000 := by simpa using hl
      have hpl : ((packBits L).map bv).length = nb := by rw [List.length_map, packBits_length, HLL.out, ← HNB.out]
      have HPL : Hid (((packBits L).map bv).length = nb) := hpl
      have hnews : ∀ j u, ((packBits L).map bv)[j]? = some u → wr.cell? ((⟨w.heap.size, 0, none⟩ : Addr).add j) = some u := by
        intro j u hj
        have hjn : j < nb := by
          rw [← hpl]
          rcases Nat.lt_or_ge j ((packBits L).map bv).length with h' | h'
          · exact h'
          · rw [List.getElem?_eq_none h'] at hj; simp at hj
        rw [Addr.add_mid, Nat.zero_add, hrow.cell hjn]
        have hjj : j < (L.length + 7) / 8 := by rw [HLL.out, ← HNB.out]; exact hjn
        simp [packBits, hjj, bv] at hj
        rw [← hj]
        have := byteAt_lt L j
        congr 2
        omega
      clear hpl
      have h1c : ∀ u ∈ (packBits L).map bv, u.oneCell' = true := by
        intro u hu
        obtain ⟨x, _, rfl⟩ := List.mem_map.1 hu
        rfl
      generalize hNW : (packBits L).map bv = NW at *
      go_wp2_with (at_builtin; go_must (refine wpList_append_C (by rfl) _ _ 37 5 _ 1 info_u8 (by rfl) (by decide) (by kernel_rfl) (by rfl) B sv _ (by rfl) ho ⟨w.heap.size, 0, none⟩ nb NW (by rw [HPL.out]; rfl) hnews h1c (by rw [HPL.out]; omega) (by omega) ?_); intro sv' w1 h1 h2 h3; obtain ⟨a2, cap2, rfl, _⟩ := h1.cells; have k1 := h2.cell_far ⟨g, 1, none⟩ hg (Ne.symm hne); have k2 := h2.frozen_far ⟨g, 1, none⟩ hg (Ne.symm hne))
      go_end0
      have hst := hw2.step (bs' := bs ++ packBits L) (sv' := .slice a2 (List.map bv bs ++ NW).length cap2) c1 (Below.refl _ _) h2 (by rw [List.map_append, hNW]; exact h1) h3
      simp only [List.length_append, List.length_map] at hst
      exact ⟨rfl, hst.1, (WKeep.of_below hbw h.lt).trans hst.2⟩
end Go.Proofs.YthplnjgijmilnaaDoor
