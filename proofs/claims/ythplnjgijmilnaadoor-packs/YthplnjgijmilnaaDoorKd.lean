/- What package segments' Pack answers: for every type, way and list of values. -/
import Derived.Test.YthplnjgijmilnaaDoorKc
import Derived.LaidEql
import Derived.Stop.Asserts
import Derived.RowKitTokens
namespace Go.Proofs.YthplnjgijmilnaaDoor
open Go.RowKit

theorem size_wayfn : (Tryd.prog.info? 67).map (fun i => i.size) = some 1 := by kernel_rfl
theorem run_index_ways (x0 x1 x2 x3 : Value) (w : World) :
    (Instr.index 68 (.agg #[x0, x1, x2, x3]) (.int .i64 0)).run Tryd.prog w = .ok x0 w ∧
    (Instr.index 68 (.agg #[x0, x1, x2, x3]) (.int .i64 1)).run Tryd.prog w = .ok x1 w ∧
    (Instr.index 68 (.agg #[x0, x1, x2, x3]) (.int .i64 2)).run Tryd.prog w = .ok x2 w ∧
    (Instr.index 68 (.agg #[x0, x1, x2, x3]) (.int .i64 3)).run Tryd.prog w = .ok x3 w := by
  obtain ⟨i, hi, hs⟩ := Option.map_eq_some_iff.1 size_wayfn
  refine ⟨?_, ?_, ?_, ?_⟩ <;> simp [Instr.index, run_underlying Tryd.underlying68, run_underlying Tryd.underlying67, asIntOf, part, isAgg, sizeOf, typeInfo, hi, hs]

/-- Are these values of the type, no more than a segment holds? -/
def okAll (t : Int) (xs : List V) : Prop := xs.length ≤ 64 ∧ ∀ j (hj : j < xs.length), okB t xs[j].k xs[j].n xs[j].s = true
def bodyEnc (t how : Int) (l : List V) : List UInt8 :=
  if how = 0 then encAll l else if how = 1 then dictEnc l else if how = 2 then runsEnc l else packedEnc t l
def segEnc (t how : Int) (xs : List V) : List UInt8 := headEnc t how xs ++ bodyEnc t how (heldOf xs)

theorem good_held (t : Int) (xs : List V) (h : okAll t xs) : ∀ v ∈ heldOf xs, good v.k v.s := by
  intro v hv
  obtain ⟨hm, hk⟩ := List.mem_filter.1 hv
  obtain ⟨j, hj, rfl⟩ := List.getElem_of_mem hm
  have := h.2 j hj
  unfold okB okK at this
  simp at this hk
  unfold good
  omega

theorem wat_new (w : World) (B : Nat) (t : Int) (hB : B ≤ w.heap.size) : WAt (w.alloc (.cells #[.int .i64 t, .slice none 0 0] 65)) B w.heap.size t [] :=
  ⟨hB, .slice none 0 0, heap_alloc_new _ _, OwnC.nil _ _ _, by simp [Value.ownBlock]⟩
theorem apart_old (w : World) (t : Int) {k : Nat} (hk : k < w.heap.size) : Apart (w.alloc (.cells #[.int .i64 t, .slice none 0 0] 65)) w.heap.size k := by
  refine ⟨by simp; omega, by omega, fun sv hs => ?_⟩
  have : sv = .slice none 0 0 := by simpa using hs.symm
  subst this
  simp [Value.ownBlock]

theorem wkeep_below {w w' : World} {B g : Nat} {t : Int} {bs : List UInt8} (h : WAt w B g t bs) (hk : WKeep w w' g) (w0 : World) (hB : B = w0.heap.size) (h0 : Below w0.heap.size w0 w) : Below w0.heap.size w0 w' := by
  refine ⟨hk.os.trans h0.os, hk.tape.trans h0.tape, hk.output.trans h0.output, Nat.le_trans h0.size hk.size, fun k hlt => ?_⟩
  have hs := h0.size
  rw [(hk.block k (h.apart (by omega) (by omega))).1, h0.block k hlt]

set_option maxRecDepth 100000 in
set_option maxHeartbeats 1000000 in
theorem sPack_arg (t how : Int) (a : Option Addr) (cap : Nat) (xs : List V) (w : World) (hn : xs.length ≤ maxLen) (hx : Vals w a xs) (e0 : Value) (hE0 : w.cell? ⟨0, 0, none⟩ = some e0) (hbad : ¬ (way t how = true ∧ okAll t xs)) :
    Calls Tryd.prog 20 #[.int .i64 t, .int .i64 how, .slice a xs.length cap] w fun e w' => e = .returned (.tuple #[.string (str []), e0]) ∧ Below w.heap.size w w' := by
  cases hway : way t how
  · go_enter Tryd.func20, Tryd.ntmps20
    go_wp2_with (go_at_call 34; refine (canBe_any _ _ _).mono ?_; rintro e w' ⟨rfl, hw'⟩; rw [hway]; subst w')
    go_quiet (fail)
    go_wp2
    go_ret2
    exact ⟨rfl, below_drewN (Below.refl _ _) _⟩
  · have hb : ¬ okAll t xs := fun h => hbad ⟨hway, h⟩
    have HB : Hid (false = true ↔ xs.length ≤ 64 ∧ ∀ j (hj : j < xs.length), okB t xs[j].k xs[j].n xs[j].s = true) := ⟨fun h => by simp at h, fun h => absurd h hb⟩
    clear hbad hb
    have hlt0 := lt_of_cell hE0
    simp only at hlt0
    go_enter Tryd.func20, Tryd.ntmps20
    go_wp2_with (first
      | (go_at_call 34; refine (canBe_any _ _ _).mono ?_; rintro e w' ⟨rfl, hw'⟩; rw [hway]; subst w')
      | (go_at_call 35; refine (areValues_any t a cap xs _ hn hx false HB.out).mono ?_; rintro e w1 ⟨rfl, hb1⟩; have hE1 : w1.cell? ⟨0, 0, none⟩ = some e0 := (by rw [(below_keep hb1).1 0 0 hlt0]; exact hE0)))
    go_quiet (fail)
    go_wp2
    go_ret2
    exact ⟨rfl, below_drewN hb1 _⟩

set_option maxRecDepth 100000 in
set_option maxHeartbeats 1000000 in
theorem sPack_dict (t : Int) (a : Option Addr) (cap : Nat) (xs : List V) (w : World) (hn : xs.length ≤ maxLen) (hx : Vals w a xs) (e1 : Value) (hE1 : w.cell? ⟨1, 0, none⟩ = some e1) (hway : way t 1 = true) (hok : okAll t xs) (hd : 16 < (uniq [] (heldOf xs)).length) :
    Calls Tryd.prog 20 #[.int .i64 t, .int .i64 1, .slice a xs.length cap] w fun e w' => e = .returned (.tuple #[.string (str []), e1]) ∧ Below w.heap.size w w' := by
  have hlt0 := lt_of_cell hE1
  simp only at hlt0
  have h64 := hok.1
  have hhl := heldOf_le xs
  go_enter Tryd.func20, Tryd.ntmps20
  go_wp2_with fail
  refine (canBe_any _ _ _).mono ?_
  rintro e w' ⟨rfl, hw'⟩
  rw [hway]
  subst w'
  go_wp2_with fail
  refine (areValues_any t a cap xs _ hn hx true ⟨fun _ => hok, fun _ => rfl⟩).mono ?_
  rintro e w1 ⟨rfl, hb1⟩
  go_wp2_with fail
  refine (withoutNulls_any a cap xs w1 h64 (hx.below hb1)).mono ?_
  rintro e w2 ⟨sv2, rfl, hown2, hb2⟩
  obtain ⟨a2, cap2, rfl, hv2⟩ := hown2.vals
  generalize heldOf xs = hl at *
  go_wp2_with fail
  refine (different_any a2 cap2 hl w2 (by omega) hv2).mono ?_
  rintro e w3 ⟨sv3, rfl, hown3, hb3⟩
  obtain ⟨a3, cap3, rfl, hv3⟩ := hown3.vals
  have hball := below_then hb1 (below_then hb2 hb3)
  have hE3 : w3.cell? ⟨1, 0, none⟩ = some e1 := by rw [(below_keep hball).1 1 0 hlt0]; exact hE1
  have hd' : (16 : Int) < ((uniq [] hl).length : Int) := by omega
  generalize uniq [] hl = d at *
  go_wp2
  go_quiet (fail)
  go_wp2
  go_ret2
  exact ⟨rfl, below_drewN hball _⟩

/-- The last steps: the writer's bytes as a text. -/
theorem conv_out {w : World} {B g : Nat} {t : Int} {bs : List UInt8} (h : WAt w B g t bs) (hne : bs ≠ []) {sv : Value} (h1 : w.cell? ⟨g, 1, none⟩ = some sv) : (convert 37 9 sv).run Tryd.prog w = .ok (.string (str bs)) w := by
  obtain ⟨sv', _, h1', _, ho, _⟩ := h.cells
  rw [h1] at h1'
  cases h1'
  obtain ⟨a, cap, rfl, hc⟩ := ho.cells
  rw [List.length_map]
  rcases hc with hc | ⟨b, o, rfl, _, hc⟩
  · exact absurd (List.map_eq_nil_iff.1 hc) hne
  · refine run_conv_bytes w ⟨b, o, none⟩ cap bs fun j u hj => ?_
    rw [Addr.add_mid]
    exact hc j u hj

theorem OwnV.cap {w : World} {B : Nat} {a : Option Addr} {n c : Nat} {vs : List V} (h : OwnV w B (.slice a n c) vs) : vs.length ≤ c := by
  rcases h.2 with ⟨_, h0⟩ | ⟨g, cap, cur, hv, _, _, hc, _⟩
  · omega
  · injection hv with _ _ h3
    omega

set_option maxRecDepth 100000 in
set_option maxHeartbeats 1000000 in
theorem sPack_plain (t : Int) (a : Option Addr) (cap : Nat) (xs : List V) (w : World) (hn : xs.length ≤ maxLen) (hx : Vals w a xs) (hway : way t 0 = true) (hok : okAll t xs) :
    Calls Tryd.prog 20 #[.int .i64 t, .int .i64 0, .slice a xs.length cap] w fun e w' => e = .returned (.tuple #[.string (str (segEnc t 0 xs)), .nilIface]) ∧ Below w.heap.size w w' := by
  have h64 := hok.1
  have hhl := heldOf_le xs
  have hgd := good_held t xs hok
  have HSE : Hid (segEnc t 0 xs = headEnc t 0 xs ++ encAll (heldOf xs)) := rfl
  have hhd : (headEnc t 0 xs).length ≤ 1000 := by unfold headEnc; rw [List.length_append, packBits_length, List.length_map]; simp only [List.length_cons, List.length_nil]; omega
  have hhn : headEnc t 0 xs ≠ [] := by simp [headEnc]
  go_enter Tryd.func20, Tryd.ntmps20
  go_wp2_with fail
  refine (canBe_any _ _ _).mono ?_
  rintro e w' ⟨rfl, hw'⟩
  rw [hway]
  subst w'
  go_wp2_with fail
  refine (areValues_any t a cap xs _ hn hx true ⟨fun _ => hok, fun _ => rfl⟩).mono ?_
  rintro e w1 ⟨rfl, hb1⟩
  go_wp2_with fail
  refine (withoutNulls_any a cap xs w1 h64 (hx.below hb1)).mono ?_
  rintro e w2 ⟨sv2, rfl, hown2, hb2⟩
  have hblk := fun b hb => owns_block hown2 (g := b) hb
  obtain ⟨a2, cap2, rfl, hv2⟩ := hown2.vals
  clear hown2
  generalize heldOf xs = hl at *
  have hb12 := below_then hb1 hb2
  have hx2 := hx.below hb12
  have hs3 : w2.heap.size ≤ w2.heap.size := Nat.le_refl _
  have hb23 := hb12
  go_wp2_with fail
  have hw5 := wat_new w2 w.heap.size t hb23.size
  have hap4 : ∀ k, k < w2.heap.size → Apart (w2.alloc (.cells #[.int .i64 t, .slice none 0 0] 65)) w2.heap.size k := fun k hk => apart_old w2 t hk
  have hba : Below w2.heap.size w2 (w2.alloc (.cells #[.int .i64 t, .slice none 0 0] 65)) := (Below.refl _ _).alloc (Nat.le_refl _) _
  have hx5 := hx2.below hba
  have hv5 := hv2.below hba
  have hb5 := below_then hb23 hba
  have hap5 : ∀ b o, a2 = some ⟨b, o, none⟩ → Apart (w2.alloc (.cells #[.int .i64 t, .slice none 0 0] 65)) w2.heap.size b := by
    intro b o hbo
    subst hbo
    have := hblk b rfl
    exact hap4 b (by omega)
  have hax : xs ≠ [] → ∀ b o, a = some ⟨b, o, none⟩ → Apart (w2.alloc (.cells #[.int .i64 t, .slice none 0 0] 65)) w2.heap.size b := by
    intro hne b o hbo
    rcases hx2 with h | ⟨b', o', e, hb, _⟩
    · exact absurd h hne
    · rw [hbo] at e; cases e; exact hap4 b hb
  generalize hW5 : w2.alloc (.cells #[.int .i64 t, .slice none 0 0] 65) = w5 at *
  generalize hg : w2.heap.size = g at *
  clear hW5 hap4 hba hg
  refine (wHead_any w.heap.size g t 0 a cap xs w5 hw5 h64 hx5 hax).mono ?_
  rintro e w6' ⟨rfl, hw6', hk6'⟩
  go_wp2_with fail
  refine (wWays_any g w6').mono ?_
  rintro e w6 ⟨rfl, hb6⟩
  have hw6 := hw6'.below hb6
  have hk6 := hk6'.trans (WKeep.of_below hb6 hw6'.lt)
  have hv6 := vals_keep hv5 hk6 hap5
  have hap6 := apart_keep hk6 hap5
  have hix := (run_index_ways (.func (.func 55) #[.pointer (some ⟨g, 0, none⟩)] #[]) (.func (.func 56) #[.pointer (some ⟨g, 0, none⟩)] #[]) (.func (.func 57) #[.pointer (some ⟨g, 0, none⟩)] #[]) (.func (.func 58) #[.pointer (some ⟨g, 0, none⟩)] #[]) w6).1
  generalize headEnc t 0 xs = hd0 at *
  go_wp2_with fail
  refine (wPlain_any w.heap.size g t a2 cap2 hl _ w6 hw6 (by omega) (by omega) hgd hv6 hap6).mono ?_
  rintro e w7 ⟨rfl, hw7, hk7⟩
  obtain ⟨sv7, c0, c1, _, _, _⟩ := hw7.cells
  have hcv := conv_out hw7 (by simp [hhn]) c1
  have hfin := wkeep_below hw5 (hk6.trans hk7) w rfl hb5
  rw [← HSE.out] at hcv
  go_wp2
  go_ret2
  exact ⟨rfl, hfin⟩

set_option maxRecDepth 100000 in
set_option maxHeartbeats 1000000 in
theorem sPack_dictionary (t : Int) (a : Option Addr) (cap : Nat) (xs : List V) (w : World) (hn : xs.length ≤ maxLen) (hx : Vals w a xs) (hway : way t 1 = true) (hok : okAll t xs) (hd : (uniq [] (heldOf xs)).length ≤ 16) :
    Calls Tryd.prog 20 #[.int .i64 t, .int .i64 1, .slice a xs.length cap] w fun e w' => e = .returned (.tuple #[.string (str (segEnc t 1 xs)), .nilIface]) ∧ Below w.heap.size w w' := by
  have h64 := hok.1
  have hhl := heldOf_le xs
  have hgd := good_held t xs hok
  have HSE : Hid (segEnc t 1 xs = headEnc t 1 xs ++ dictEnc (heldOf xs)) := rfl
  have hhd : (headEnc t 1 xs).length ≤ 1000 := by unfold headEnc; rw [List.length_append, packBits_length, List.length_map]; simp only [List.length_cons, List.length_nil]; omega
  have hhn : headEnc t 1 xs ≠ [] := by simp [headEnc]
  go_enter Tryd.func20, Tryd.ntmps20
  go_wp2_with fail
  refine (canBe_any _ _ _).mono ?_
  rintro e w' ⟨rfl, hw'⟩
  rw [hway]
  subst w'
  go_wp2_with fail
  refine (areValues_any t a cap xs _ hn hx true ⟨fun _ => hok, fun _ => rfl⟩).mono ?_
  rintro e w1 ⟨rfl, hb1⟩
  go_wp2_with fail
  refine (withoutNulls_any a cap xs w1 h64 (hx.below hb1)).mono ?_
  rintro e w2 ⟨sv2, rfl, hown2, hb2⟩
  have hblk := fun b hb => owns_block hown2 (g := b) hb
  obtain ⟨a2, cap2, rfl, hv2⟩ := hown2.vals
  clear hown2
  generalize heldOf xs = hl at *
  have hb12 := below_then hb1 hb2
  have hx2 := hx.below hb12
  go_wp2_with fail
  refine (different_any a2 cap2 hl w2 (by omega) hv2).mono ?_
  rintro e w3 ⟨sv3, rfl, hown3, hb3⟩
  obtain ⟨a3, cap3, rfl, _⟩ := hown3.vals
  have hd' : ((uniq [] hl).length : Int) ≤ (16 : Int) := by omega
  have hs3 := hb3.size
  have hb23 := below_then hb12 hb3
  replace hx2 := hx2.below hb3
  replace hv2 := hv2.below hb3
  go_wp2_with fail
  have hw5 := wat_new w3 w.heap.size t hb23.size
  have hap4 : ∀ k, k < w3.heap.size → Apart (w3.alloc (.cells #[.int .i64 t, .slice none 0 0] 65)) w3.heap.size k := fun k hk => apart_old w3 t hk
  have hba : Below w3.heap.size w3 (w3.alloc (.cells #[.int .i64 t, .slice none 0 0] 65)) := (Below.refl _ _).alloc (Nat.le_refl _) _
  have hx5 := hx2.below hba
  have hv5 := hv2.below hba
  have hb5 := below_then hb23 hba
  have hap5 : ∀ b o, a2 = some ⟨b, o, none⟩ → Apart (w3.alloc (.cells #[.int .i64 t, .slice none 0 0] 65)) w3.heap.size b := by
    intro b o hbo
    subst hbo
    have := hblk b rfl
    exact hap4 b (by omega)
  have hax : xs ≠ [] → ∀ b o, a = some ⟨b, o, none⟩ → Apart (w3.alloc (.cells #[.int .i64 t, .slice none 0 0] 65)) w3.heap.size b := by
    intro hne b o hbo
    rcases hx2 with h | ⟨b', o', e, hb, _⟩
    · exact absurd h hne
    · rw [hbo] at e; cases e; exact hap4 b hb
  generalize hW5 : w3.alloc (.cells #[.int .i64 t, .slice none 0 0] 65) = w5 at *
  generalize hg : w3.heap.size = g at *
  clear hW5 hap4 hba hg
  refine (wHead_any w.heap.size g t 1 a cap xs w5 hw5 h64 hx5 hax).mono ?_
  rintro e w6' ⟨rfl, hw6', hk6'⟩
  go_wp2_with fail
  refine (wWays_any g w6').mono ?_
  rintro e w6 ⟨rfl, hb6⟩
  have hw6 := hw6'.below hb6
  have hk6 := hk6'.trans (WKeep.of_below hb6 hw6'.lt)
  have hv6 := vals_keep hv5 hk6 hap5
  have hap6 := apart_keep hk6 hap5
  have hix := (run_index_ways (.func (.func 55) #[.pointer (some ⟨g, 0, none⟩)] #[]) (.func (.func 56) #[.pointer (some ⟨g, 0, none⟩)] #[]) (.func (.func 57) #[.pointer (some ⟨g, 0, none⟩)] #[]) (.func (.func 58) #[.pointer (some ⟨g, 0, none⟩)] #[]) w6).2.1
  generalize headEnc t 1 xs = hd0 at *
  go_wp2_with fail
  refine (wDictionary_any w.heap.size g t a2 cap2 hl _ w6 hw6 hhd (by omega) hgd hv6 hap6).mono ?_
  rintro e w7 ⟨rfl, hw7, hk7⟩
  obtain ⟨sv7, c0, c1, _, _, _⟩ := hw7.cells
  have hcv := conv_out hw7 (by simp [hhn]) c1
  have hfin := wkeep_below hw5 (hk6.trans hk7) w rfl hb5
  rw [← HSE.out] at hcv
  go_wp2
  go_ret2
  exact ⟨rfl, hfin⟩

set_option maxRecDepth 100000 in
set_option maxHeartbeats 1000000 in
theorem sPack_runs (t : Int) (a : Option Addr) (cap : Nat) (xs : List V) (w : World) (hn : xs.length ≤ maxLen) (hx : Vals w a xs) (hway : way t 2 = true) (hok : okAll t xs) :
    Calls Tryd.prog 20 #[.int .i64 t, .int .i64 2, .slice a xs.length cap] w fun e w' => e = .returned (.tuple #[.string (str (segEnc t 2 xs)), .nilIface]) ∧ Below w.heap.size w w' := by
  have h64 := hok.1
  have hhl := heldOf_le xs
  have hgd := good_held t xs hok
  have HSE : Hid (segEnc t 2 xs = headEnc t 2 xs ++ runsEnc (heldOf xs)) := rfl
  have hhd : (headEnc t 2 xs).length ≤ 1000 := by unfold headEnc; rw [List.length_append, packBits_length, List.length_map]; simp only [List.length_cons, List.length_nil]; omega
  have hhn : headEnc t 2 xs ≠ [] := by simp [headEnc]
  go_enter Tryd.func20, Tryd.ntmps20
  go_wp2_with fail
  refine (canBe_any _ _ _).mono ?_
  rintro e w' ⟨rfl, hw'⟩
  rw [hway]
  subst w'
  go_wp2_with fail
  refine (areValues_any t a cap xs _ hn hx true ⟨fun _ => hok, fun _ => rfl⟩).mono ?_
  rintro e w1 ⟨rfl, hb1⟩
  go_wp2_with fail
  refine (withoutNulls_any a cap xs w1 h64 (hx.below hb1)).mono ?_
  rintro e w2 ⟨sv2, rfl, hown2, hb2⟩
  have hblk := fun b hb => owns_block hown2 (g := b) hb
  obtain ⟨a2, cap2, rfl, hv2⟩ := hown2.vals
  have hcp := hown2.cap
  clear hown2
  generalize heldOf xs = hl at *
  have hb12 := below_then hb1 hb2
  have hx2 := hx.below hb12
  have hs3 : w2.heap.size ≤ w2.heap.size := Nat.le_refl _
  have hb23 := hb12
  go_wp2_with fail
  have hw5 := wat_new w2 w.heap.size t hb23.size
  have hap4 : ∀ k, k < w2.heap.size → Apart (w2.alloc (.cells #[.int .i64 t, .slice none 0 0] 65)) w2.heap.size k := fun k hk => apart_old w2 t hk
  have hba : Below w2.heap.size w2 (w2.alloc (.cells #[.int .i64 t, .slice none 0 0] 65)) := (Below.refl _ _).alloc (Nat.le_refl _) _
  have hx5 := hx2.below hba
  have hv5 := hv2.below hba
  have hb5 := below_then hb23 hba
  have hap5 : ∀ b o, a2 = some ⟨b, o, none⟩ → Apart (w2.alloc (.cells #[.int .i64 t, .slice none 0 0] 65)) w2.heap.size b := by
    intro b o hbo
    subst hbo
    have := hblk b rfl
    exact hap4 b (by omega)
  have hax : xs ≠ [] → ∀ b o, a = some ⟨b, o, none⟩ → Apart (w2.alloc (.cells #[.int .i64 t, .slice none 0 0] 65)) w2.heap.size b := by
    intro hne b o hbo
    rcases hx2 with h | ⟨b', o', e, hb, _⟩
    · exact absurd h hne
    · rw [hbo] at e; cases e; exact hap4 b hb
  generalize hW5 : w2.alloc (.cells #[.int .i64 t, .slice none 0 0] 65) = w5 at *
  generalize hg : w2.heap.size = g at *
  clear hW5 hap4 hba hg
  refine (wHead_any w.heap.size g t 2 a cap xs w5 hw5 h64 hx5 hax).mono ?_
  rintro e w6' ⟨rfl, hw6', hk6'⟩
  go_wp2_with fail
  refine (wWays_any g w6').mono ?_
  rintro e w6 ⟨rfl, hb6⟩
  have hw6 := hw6'.below hb6
  have hk6 := hk6'.trans (WKeep.of_below hb6 hw6'.lt)
  have hv6 := vals_keep hv5 hk6 hap5
  have hap6 := apart_keep hk6 hap5
  have hix := (run_index_ways (.func (.func 55) #[.pointer (some ⟨g, 0, none⟩)] #[]) (.func (.func 56) #[.pointer (some ⟨g, 0, none⟩)] #[]) (.func (.func 57) #[.pointer (some ⟨g, 0, none⟩)] #[]) (.func (.func 58) #[.pointer (some ⟨g, 0, none⟩)] #[]) w6).2.2.1
  generalize headEnc t 2 xs = hd0 at *
  go_wp2_with fail
  refine (wRuns_any w.heap.size g t a2 cap2 hl _ w6 hw6 (by omega) (by omega) hcp hgd hv6 hap6).mono ?_
  rintro e w7 ⟨rfl, hw7, hk7⟩
  obtain ⟨sv7, c0, c1, _, _, _⟩ := hw7.cells
  have hcv := conv_out hw7 (by simp [hhn]) c1
  have hfin := wkeep_below hw5 (hk6.trans hk7) w rfl hb5
  rw [← HSE.out] at hcv
  go_wp2
  go_ret2
  exact ⟨rfl, hfin⟩

set_option maxRecDepth 100000 in
set_option maxHeartbeats 1000000 in
theorem sPack_packed (t : Int) (a : Option Addr) (cap : Nat) (xs : List V) (w : World) (hn : xs.length ≤ maxLen) (hx : Vals w a xs) (hway : way t 3 = true) (hok : okAll t xs) :
    Calls Tryd.prog 20 #[.int .i64 t, .int .i64 3, .slice a xs.length cap] w fun e w' => e = .returned (.tuple #[.string (str (segEnc t 3 xs)), .nilIface]) ∧ Below w.heap.size w w' := by
  have h64 := hok.1
  have hhl := heldOf_le xs
  have HSE : Hid (segEnc t 3 xs = headEnc t 3 xs ++ packedEnc t (heldOf xs)) := rfl
  have hhd : (headEnc t 3 xs).length ≤ 1000 := by unfold headEnc; rw [List.length_append, packBits_length, List.length_map]; simp only [List.length_cons, List.length_nil]; omega
  have hhn : headEnc t 3 xs ≠ [] := by simp [headEnc]
  go_enter Tryd.func20, Tryd.ntmps20
  go_wp2_with fail
  refine (canBe_any _ _ _).mono ?_
  rintro e w' ⟨rfl, hw'⟩
  rw [hway]
  subst w'
  go_wp2_with fail
  refine (areValues_any t a cap xs _ hn hx true ⟨fun _ => hok, fun _ => rfl⟩).mono ?_
  rintro e w1 ⟨rfl, hb1⟩
  go_wp2_with fail
  refine (withoutNulls_any a cap xs w1 h64 (hx.below hb1)).mono ?_
  rintro e w2 ⟨sv2, rfl, hown2, hb2⟩
  have hblk := fun b hb => owns_block hown2 (g := b) hb
  obtain ⟨a2, cap2, rfl, hv2⟩ := hown2.vals
  clear hown2
  generalize heldOf xs = hl at *
  have hb12 := below_then hb1 hb2
  have hx2 := hx.below hb12
  have hs3 : w2.heap.size ≤ w2.heap.size := Nat.le_refl _
  have hb23 := hb12
  go_wp2_with fail
  have hw5 := wat_new w2 w.heap.size t hb23.size
  have hap4 : ∀ k, k < w2.heap.size → Apart (w2.alloc (.cells #[.int .i64 t, .slice none 0 0] 65)) w2.heap.size k := fun k hk => apart_old w2 t hk
  have hba : Below w2.heap.size w2 (w2.alloc (.cells #[.int .i64 t, .slice none 0 0] 65)) := (Below.refl _ _).alloc (Nat.le_refl _) _
  have hx5 := hx2.below hba
  have hv5 := hv2.below hba
  have hb5 := below_then hb23 hba
  have hap5 : ∀ b o, a2 = some ⟨b, o, none⟩ → Apart (w2.alloc (.cells #[.int .i64 t, .slice none 0 0] 65)) w2.heap.size b := by
    intro b o hbo
    subst hbo
    have := hblk b rfl
    exact hap4 b (by omega)
  have hax : xs ≠ [] → ∀ b o, a = some ⟨b, o, none⟩ → Apart (w2.alloc (.cells #[.int .i64 t, .slice none 0 0] 65)) w2.heap.size b := by
    intro hne b o hbo
    rcases hx2 with h | ⟨b', o', e, hb, _⟩
    · exact absurd h hne
    · rw [hbo] at e; cases e; exact hap4 b hb
  generalize hW5 : w2.alloc (.cells #[.int .i64 t, .slice none 0 0] 65) = w5 at *
  generalize hg : w2.heap.size = g at *
  clear hW5 hap4 hba hg
  refine (wHead_any w.heap.size g t 3 a cap xs w5 hw5 h64 hx5 hax).mono ?_
  rintro e w6' ⟨rfl, hw6', hk6'⟩
  go_wp2_with fail
  refine (wWays_any g w6').mono ?_
  rintro e w6 ⟨rfl, hb6⟩
  have hw6 := hw6'.below hb6
  have hk6 := hk6'.trans (WKeep.of_below hb6 hw6'.lt)
  have hv6 := vals_keep hv5 hk6 hap5
  have hix := (run_index_ways (.func (.func 55) #[.pointer (some ⟨g, 0, none⟩)] #[]) (.func (.func 56) #[.pointer (some ⟨g, 0, none⟩)] #[]) (.func (.func 57) #[.pointer (some ⟨g, 0, none⟩)] #[]) (.func (.func 58) #[.pointer (some ⟨g, 0, none⟩)] #[]) w6).2.2.2
  generalize headEnc t 3 xs = hd0 at *
  go_wp2_with fail
  refine (wPacked_any w.heap.size g t a2 cap2 hl _ w6 hw6 hhd (by omega) hv6).mono ?_
  rintro e w7 ⟨rfl, hw7, hk7⟩
  obtain ⟨sv7, c0, c1, _, _, _⟩ := hw7.cells
  have hcv := conv_out hw7 (by simp [hhn]) c1
  have hfin := wkeep_below hw5 (hk6.trans hk7) w rfl hb5
  rw [← HSE.out] at hcv
  go_wp2
  go_ret2
  exact ⟨rfl, hfin⟩

end Go.Proofs.YthplnjgijmilnaaDoor

/-! errors.Is at sentinels of errors.New's make, by Go's own text; what the program makes of its errors: faults. -/
namespace Go.Proofs.YthplnjgijmilnaaDoor
open Go.RowKit Go.Extern.Stop Go.Stop Go.Extern

theorem isTypeOf (v : Value) (w : World) : (Extern.ReflectliteType.typeOf #[.iface 126 v]).run Tryd.prog w = .ok (.iface 111 (.agg #[.pointer (some ⟨3, 126, none⟩)])) w := by kernel_rfl
def cmpM (args : Array Value) : Sem Value := Extern.ReflectliteType.method (fun t => do Go.Extern.Rtype.noPackHeld "Comparable" t; pure (.bool (← typeInfo t).comparable)) args
theorem isComparable (w : World) : (cmpM #[.agg #[.pointer (some ⟨3, 126, none⟩)]]).run Tryd.prog w = .ok (.bool true) w := by kernel_rfl
theorem run_cmpM (args : Array Value) (w : World) : (callFunc 106 args).run Tryd.prog w = ((cmpM args).run Tryd.prog w).andThen fun v w' => .ok (.value v) w' :=
  @run_callFunc_extern Tryd.prog 106 _ (Extern.ReflectliteType.method fun t => do Go.Extern.Rtype.noPackHeld "Comparable" t; pure (.bool (← typeInfo t).comparable)) Tryd.func106 (by kernel_rfl) (by kernel_rfl) (by kernel_rfl) (by kernel_rfl) args w
theorem isComp : (Tryd.prog.info? 126).map (·.comparable) = some true := by kernel_rfl
theorem isSize : (Tryd.prog.info? 150).map (·.size) = some 1 := by kernel_rfl
theorem noIsE (v : Value) (xT : TypeId) (w : World) : (Instr.typeAssert (.iface 126 v) xT 113 true).run Tryd.prog w = .ok (.tuple #[.nilIface, .bool false]) w := run_typeAssert_lacksB Tryd.underlying113 (by kernel_rfl) (by kernel_rfl) v xT w
theorem noUnwrapE (v : Value) (xT : TypeId) (w : World) : (Instr.typeAssert (.iface 126 v) xT 116 true).run Tryd.prog w = .ok (.tuple #[.nilIface, .bool false]) w := run_typeAssert_lacksB Tryd.underlying116 (by kernel_rfl) (by kernel_rfl) v xT w
theorem noUnwrapsE (v : Value) (xT : TypeId) (w : World) : (Instr.typeAssert (.iface 126 v) xT 118 true).run Tryd.prog w = .ok (.tuple #[.nilIface, .bool false]) w := run_typeAssert_lacksB Tryd.underlying118 (by kernel_rfl) (by kernel_rfl) v xT w
theorem isMethodComparable (v : Value) (w : World) : (Go.method 262 111 v "Comparable").run Tryd.prog w = .ok (106, v) w := by kernel_rfl

set_option maxHeartbeats 400000 in
theorem is_same (a : Addr) (w : World) :
    Calls Tryd.prog 59 #[.iface 126 (.pointer (some a)), .iface 126 (.pointer (some a))] w fun e w' => e = .returned (.bool true) ∧ w' = w := by
  obtain ⟨i, hi, hcmp⟩ := Option.map_eq_some_iff.1 isComp
  obtain ⟨j, hj, hjs⟩ := Option.map_eq_some_iff.1 isSize
  have h8 := @run_callFunc_extern Tryd.prog 76 _ Extern.ReflectliteType.typeOf Tryd.func76 (by kernel_rfl) (by kernel_rfl) (by kernel_rfl) (by kernel_rfl)
  have h32 := run_cmpM
  have tT := isTypeOf
  have cT := isComparable
  have mR := isMethodComparable
  have heq := run_eql_iface_ptr_same (P := Tryd.prog) w a Tryd.underlying43 Tryd.underlying126 hi hcmp hj
  go_enter Tryd.func59, Tryd.ntmps59
  go_wp2
  refine wp_loop_rounds 1 ?_
  rw [rounds_succ]
  go_wp2
  go_ret
  exact ⟨rfl, rfl⟩

set_option maxHeartbeats 400000 in
theorem is_other (a b : Addr) (ca cb : Array Value) (ta tb : TypeId) (w : World) (hne : a ≠ b) (ha : w.heap[a.block]? = some (.cells ca ta (0, 0))) (hb : w.heap[b.block]? = some (.cells cb tb (0, 0))) :
    Calls Tryd.prog 59 #[.iface 126 (.pointer (some a)), .iface 126 (.pointer (some b))] w fun e w' => e = .returned (.bool false) ∧ w' = w := by
  obtain ⟨i, hi, hcmp⟩ := Option.map_eq_some_iff.1 isComp
  obtain ⟨j, hj, hjs⟩ := Option.map_eq_some_iff.1 isSize
  have h8 := @run_callFunc_extern Tryd.prog 76 _ Extern.ReflectliteType.typeOf Tryd.func76 (by kernel_rfl) (by kernel_rfl) (by kernel_rfl) (by kernel_rfl)
  have h32 := run_cmpM
  have tT := isTypeOf
  have cT := isComparable
  have mR := isMethodComparable
  have nE := noIsE
  have uE := noUnwrapE
  have vE := noUnwrapsE
  have heq := run_eql_iface_ptr_other (P := Tryd.prog) w Tryd.underlying43 Tryd.underlying126 hi hcmp hj (by rw [hjs]; decide) hne ha hb
  go_enter Tryd.func59, Tryd.ntmps59
  go_wp2
  refine wp_loop_rounds 1 ?_
  rw [rounds_succ]
  go_wp2
  go_ret
  exact ⟨rfl, rfl⟩

/-- The three sentinels, as the program's text lays them: each a pointer of its own, to a block of its own that nothing has frozen. -/
structure Errs (w : World) (a0 a1 a2 : Addr) : Prop where
  c0 : w.cell? ⟨0, 0, none⟩ = some (.iface 126 (.pointer (some a0)))
  c1 : w.cell? ⟨1, 0, none⟩ = some (.iface 126 (.pointer (some a1)))
  c2 : w.cell? ⟨2, 0, none⟩ = some (.iface 126 (.pointer (some a2)))
  n01 : a0 ≠ a1
  n02 : a0 ≠ a2
  n12 : a1 ≠ a2
  b0 : ∃ c t, w.heap[a0.block]? = some (.cells c t (0, 0))
  b1 : ∃ c t, w.heap[a1.block]? = some (.cells c t (0, 0))
  b2 : ∃ c t, w.heap[a2.block]? = some (.cells c t (0, 0))

theorem lt_of_heap {w : World} {k : Nat} {o : Obj} (h : w.heap[k]? = some o) : k < w.heap.size := by
  rcases Nat.lt_or_ge k w.heap.size with h' | h'
  · exact h'
  · simp [Array.getElem?_eq_none h'] at h

theorem Errs.below {w w' : World} {a0 a1 a2 : Addr} (h : Errs w a0 a1 a2) (hb : Below w.heap.size w w') : Errs w' a0 a1 a2 := by
  have k0 := lt_of_cell h.c0
  have k1 := lt_of_cell h.c1
  have k2 := lt_of_cell h.c2
  obtain ⟨x0, y0, z0⟩ := h.b0
  obtain ⟨x1, y1, z1⟩ := h.b1
  obtain ⟨x2, y2, z2⟩ := h.b2
  exact ⟨by rw [(below_keep hb).1 0 0 k0]; exact h.c0, by rw [(below_keep hb).1 1 0 k1]; exact h.c1, by rw [(below_keep hb).1 2 0 k2]; exact h.c2, h.n01, h.n02, h.n12,
    ⟨x0, y0, by rw [hb.block _ (lt_of_heap z0)]; exact z0⟩, ⟨x1, y1, by rw [hb.block _ (lt_of_heap z1)]; exact z1⟩, ⟨x2, y2, by rw [hb.block _ (lt_of_heap z2)]; exact z2⟩⟩

set_option maxHeartbeats 400000 in
theorem codeOf_nil (w : World) : Calls Tryd.prog 40 #[.nilIface] w fun e w' => e = .returned (.int .i64 0) ∧ w' = w := by
  have hn := run_eql_nil_nil (P := Tryd.prog) w 43 (by kernel_rfl)
  go_enter Tryd.func40, Tryd.ntmps40
  go_wp2
  go_ret
  exact ⟨rfl, rfl⟩

set_option maxHeartbeats 400000 in
theorem codeOf_dict (a0 a1 a2 : Addr) (w : World) (h : Errs w a0 a1 a2) : Calls Tryd.prog 40 #[.iface 126 (.pointer (some a1))] w fun e w' => e = .returned (.int .i64 2) ∧ w' = w := by
  have hn := run_eql_held_nil (P := Tryd.prog) w 43 126 (.pointer (some a1)) (by kernel_rfl)
  have c1 := h.c1
  go_enter Tryd.func40, Tryd.ntmps40
  go_wp2_with fail
  refine (is_same a1 _).mono ?_
  rintro e w' ⟨rfl, rfl⟩
  go_wp2_with fail
  go_ret
  exact ⟨rfl, rfl⟩

set_option maxHeartbeats 400000 in
theorem codeOf_arg (a0 a1 a2 : Addr) (w : World) (h : Errs w a0 a1 a2) : Calls Tryd.prog 40 #[.iface 126 (.pointer (some a0))] w fun e w' => e = .returned (.int .i64 1) ∧ w' = w := by
  have hn := run_eql_held_nil (P := Tryd.prog) w 43 126 (.pointer (some a0)) (by kernel_rfl)
  have c1 := h.c1
  have c2 := h.c2
  obtain ⟨x0, y0, z0⟩ := h.b0
  obtain ⟨x1, y1, z1⟩ := h.b1
  obtain ⟨x2, y2, z2⟩ := h.b2
  go_enter Tryd.func40, Tryd.ntmps40
  go_wp2_with fail
  refine (is_other a0 a1 x0 x1 y0 y1 _ h.n01 z0 z1).mono ?_
  rintro e w' ⟨rfl, hw'⟩
  subst w'
  go_wp2_with fail
  refine (is_other a0 a2 x0 x2 y0 y2 _ h.n02 z0 z2).mono ?_
  rintro e w' ⟨rfl, hw'⟩
  subst w'
  go_wp2_with fail
  go_ret
  exact ⟨rfl, rfl⟩

theorem faultOf_of (x : Value) (c : Int) (w : World) (hc : ∀ W, Below w.heap.size w W → Calls Tryd.prog 40 #[x] W fun e w' => e = .returned (.int .i64 c) ∧ w' = W) :
    Calls Tryd.prog 21 #[x] w fun e w' => e = .returned (fault c) ∧ Below w.heap.size w w' := by
  have HC : Hid (∀ W, Below w.heap.size w W → Calls Tryd.prog 40 #[x] W fun e w' => e = .returned (.int .i64 c) ∧ w' = W) := hc
  clear hc
  go_enter Tryd.func21, Tryd.ntmps21
  go_wp2_with fail
  refine (HC.out _ ((Below.refl _ _).alloc (Nat.le_refl _) _)).mono ?_
  rintro e w' ⟨rfl, hw'⟩
  subst w'
  go_wp2
  exact bodyPost_ret (v := fault c) (by simp [results, Tryd.results21, go_sem]) rfl ⟨rfl, (Below.refl _ _).alloc (Nat.le_refl _) _⟩
end Go.Proofs.YthplnjgijmilnaaDoor

/-! What the program's Pack answers, for every type, way and list of values. -/
namespace Go.Proofs.YthplnjgijmilnaaDoor
open Go.RowKit

def okAllB (t : Int) (xs : List V) : Bool := decide (xs.length ≤ 64) && xs.all fun v => okB t v.k v.n v.s
theorem okAllB_iff (t : Int) (xs : List V) : okAllB t xs = true ↔ okAll t xs := by
  unfold okAllB okAll
  rw [Bool.and_eq_true, decide_eq_true_eq, List.all_eq_true]
  constructor
  · intro h; exact ⟨h.1, fun j hj => h.2 _ (List.getElem_mem hj)⟩
  · intro h
    refine ⟨h.1, fun v hv => ?_⟩
    obtain ⟨j, hj, rfl⟩ := List.getElem_of_mem hv
    exact h.2 j hj

/-- The segment and the error's number. -/
def pOut (t how : Int) (xs : List V) : List UInt8 × Int :=
  if (way t how && okAllB t xs) = true then (if how = 1 ∧ 16 < (uniq [] (heldOf xs)).length then ([], 2) else (segEnc t how xs, 0)) else ([], 1)

set_option maxHeartbeats 1000000 in
theorem Pack_of (t how : Int) (sl : Value) (w : World) (s : ByteArray) (x : Value) (c : Int)
    (hs : ∀ W, Below w.heap.size w W → Calls Tryd.prog 20 #[.int .i64 t, .int .i64 how, sl] W fun e w' => e = .returned (.tuple #[.string s, x]) ∧ Below W.heap.size W w')
    (hc : ∀ W, Below w.heap.size w W → Calls Tryd.prog 40 #[x] W fun e w' => e = .returned (.int .i64 c) ∧ w' = W) :
    Calls Tryd.prog 10 #[.int .i64 t, .int .i64 how, sl] w fun e w' => e = .returned (.tuple #[.string s, fault c]) ∧ Below w.heap.size w w' := by
  have HS : Hid (∀ W, Below w.heap.size w W → Calls Tryd.prog 20 #[.int .i64 t, .int .i64 how, sl] W fun e w' => e = .returned (.tuple #[.string s, x]) ∧ Below W.heap.size W w') := hs
  have HC : Hid (∀ W, Below w.heap.size w W → Calls Tryd.prog 40 #[x] W fun e w' => e = .returned (.int .i64 c) ∧ w' = W) := hc
  clear hs hc
  have hb0 : Below w.heap.size w (w.alloc (.cells #[.int .i64 0, .int .i64 0, .int .i64 0, .int .i64 0, .int .i64 0] 31)) := (Below.refl _ _).alloc (Nat.le_refl _) _
  go_enter Tryd.func10, Tryd.ntmps10
  go_wp2_with fail
  refine (HS.out _ hb0).mono ?_
  rintro e w1 ⟨rfl, hb1⟩
  go_wp2_with fail
  have hb2 := below_then hb0 hb1
  refine (faultOf_of x c w1 fun W hW => HC.out W (below_then hb2 hW)).mono ?_
  rintro e w2 ⟨rfl, hb3⟩
  obtain ⟨k1, k2⟩ := below_keep (below_then hb1 hb3)
  have hb4 := below_then hb2 hb3
  go_wp2
  exact bodyPost_ret (v := .tuple #[.string s, fault c]) (by simp [results, Tryd.results10, go_sem, k1]) rfl ⟨rfl, below_set5 hb4 (Nat.le_refl _) _ _ _ _ _⟩

theorem way_cases (t how : Int) (h : way t how = true) : how = 0 ∨ how = 1 ∨ how = 2 ∨ how = 3 := by
  unfold way at h
  simp at h
  omega

theorem Pack_any (t how : Int) (a : Option Addr) (cap : Nat) (xs : List V) (w : World) (hn : xs.length ≤ maxLen) (hx : Vals w a xs) (a0 a1 a2 : Addr) (he : Errs w a0 a1 a2) :
    Calls Tryd.prog 10 #[.int .i64 t, .int .i64 how, .slice a xs.length cap] w fun e w' => e = .returned (.tuple #[.string (str (pOut t how xs).1), fault (pOut t how xs).2]) ∧ Below w.heap.size w w' := by
  by_cases hok : way t how = true ∧ okAll t xs
  · have hb : (way t how && okAllB t xs) = true := by rw [Bool.and_eq_true]; exact ⟨hok.1, (okAllB_iff t xs).2 hok.2⟩
    by_cases hd : how = 1 ∧ 16 < (uniq [] (heldOf xs)).length
    · have e : pOut t how xs = ([], 2) := by unfold pOut; rw [if_pos hb, if_pos hd]
      rw [e]
      obtain ⟨rfl, hd⟩ := hd
      exact Pack_of t 1 _ w (str []) _ 2 (fun W hW => sPack_dict t a cap xs W hn (hx.below hW) _ (he.below hW).c1 hok.1 hok.2 hd) (fun W hW => codeOf_dict a0 a1 a2 W (he.below hW))
    · have e : pOut t how xs = (segEnc t how xs, 0) := by unfold pOut; rw [if_pos hb, if_neg hd]
      rw [e]
      rcases way_cases t how hok.1 with rfl | rfl | rfl | rfl
      · exact Pack_of t 0 _ w _ _ 0 (fun W hW => sPack_plain t a cap xs W hn (hx.below hW) hok.1 hok.2) (fun W _ => codeOf_nil W)
      · exact Pack_of t 1 _ w _ _ 0 (fun W hW => sPack_dictionary t a cap xs W hn (hx.below hW) hok.1 hok.2 (by omega)) (fun W _ => codeOf_nil W)
      · exact Pack_of t 2 _ w _ _ 0 (fun W hW => sPack_runs t a cap xs W hn (hx.below hW) hok.1 hok.2) (fun W _ => codeOf_nil W)
      · exact Pack_of t 3 _ w _ _ 0 (fun W hW => sPack_packed t a cap xs W hn (hx.below hW) hok.1 hok.2) (fun W _ => codeOf_nil W)
  · have hb : ¬ (way t how && okAllB t xs) = true := by rw [Bool.and_eq_true]; exact fun h => hok ⟨h.1, (okAllB_iff t xs).1 h.2⟩
    have e : pOut t how xs = ([], 1) := by unfold pOut; rw [if_neg hb]
    rw [e]
    exact Pack_of t how _ w (str []) _ 1 (fun W hW => sPack_arg t how a cap xs W hn (hx.below hW) _ (he.below hW).c0 hok) (fun W hW => codeOf_arg a0 a1 a2 W (he.below hW))
end Go.Proofs.YthplnjgijmilnaaDoor
