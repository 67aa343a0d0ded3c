/- The law Filled answers true, for every four arguments, and what is handed in reads as it did; the named errors being what their initialisers lay. -/
import Derived.Test.YtfgklnenpichcaaGreatDoorCards
import Derived.Test.YtfgklnenpichcaaGreatDoorTie
import Derived.Test.YtfgklnenpichcaaGreatDoorLf
import Derived.Test.YtfgklnenpichcaaGreatDoorLo
import Derived.WalkKit
import Derived.ProofKit
import Derived.OpenShut
import Derived.Deep.DeepHandedRow
import Derived.LaidMore
import Derived.Carry
namespace Go.Proofs.YtfgklnenpichcaaGreatDoor.filled
open Go.ChangeShapes Go.WideShapes Go.ChangeAt Go.RowKit Go.Deep

theorem own : ownKnob Tryz.prog.godebug = none := by kernel_rfl
theorem laidOut : laidOutB Tryz.prog = true := by kernel_rfl

/-- A raw table in memory, opened. -/
theorem openT {H : Type} {enc : TypeId × Value → H} {W : World} {base base' : Nat} {spare : Nat → Bool} {held : Bool} {fuel : Nat} {cs : List Value} {x : DataW H × List MemPlace} {a : Addr}
    (hc : W.cells? base' a 3 = some cs) (h : DataW.trod enc Tryz.prog W base spare held fuel 26 cs = some x) : a.spot = none ∧ ∃ t : RawT, (W.cell? ⟨a.block, a.off, none⟩ = some (.string t.rn) ∧ W.cell? ⟨a.block, a.off + 1, none⟩ = some (.slice t.at_ t.ns.length t.ct) ∧ W.cell? ⟨a.block, a.off + 2, none⟩ = some (.slice t.ar t.raws.length t.cr)) ∧ t.Ok W := by
  obtain ⟨rn, at_, ct, ar, cr, ns, xs, raws, hcs, hx, hn, hy, hin⟩ := openTable h
  subst hcs
  obtain ⟨_, hl3, hcell⟩ := World.cells?_some hc
  have q0 := hcell 0 (by omega)
  have q1 := hcell 1 (by omega)
  have q2 := hcell 2 (by omega)
  have hsp : a.spot = none := by simpa [Addr.add] using World.cell?_spot q0
  obtain ⟨b, o, sp⟩ := a
  simp only at hsp
  subst hsp
  refine ⟨rfl, ⟨rn, at_, ct, ns, ar, cr, xs, raws⟩, ⟨?_, ?_, ?_⟩, ⟨hx, hn, hy, hin⟩⟩
  · simpa [Addr.add] using q0
  · simpa [Addr.add] using q1
  · simpa [Addr.add] using q2
/-- A list of raw tables, opened. -/
theorem openTables {H : Type} {enc : TypeId × Value → H} {W : World} {base : Nat} {spare : Nat → Bool} {held : Bool} {fuel : Nat} {cs : List Value} {x : DataW H × List MemPlace} (h : DataW.trod enc Tryz.prog W base spare held fuel 39 cs = some x) :
    ∃ a cap, ∃ l : List RawT, cs = [.slice a l.length cap] ∧ TabsAt W a l ∧ l.length ≤ maxLen := by
  rcases open_slice Tryz.underlying39 h with ⟨hcs, hx⟩ | ⟨a, len, cap, m, n, D, Pl, hcs, hb, hl, hm, hmm, hx, hel⟩
  · exact ⟨none, 0, [], hcs, fun i hi => by simp at hi, Nat.zero_le _⟩
  · have hlm : len ≤ m := by rw [hmm]; split <;> omega
    have key : ∀ i, i < len → (a.add (i * 3)).spot = none ∧ ∃ t : RawT, (W.cell? ⟨(a.add (i * 3)).block, (a.add (i * 3)).off, none⟩ = some (.string t.rn) ∧ W.cell? ⟨(a.add (i * 3)).block, (a.add (i * 3)).off + 1, none⟩ = some (.slice t.at_ t.ns.length t.ct) ∧ W.cell? ⟨(a.add (i * 3)).block, (a.add (i * 3)).off + 2, none⟩ = some (.slice t.ar t.raws.length t.cr)) ∧ t.Ok W := by
      intro i hi
      obtain ⟨cs', hc0, ht0⟩ := hel i (by omega)
      rw [cellsTable] at hc0
      exact openT hc0 ht0
    rcases Nat.eq_zero_or_pos len with h0 | hpos
    · subst h0
      exact ⟨some a, cap, [], hcs, fun i hi => by simp at hi, Nat.zero_le _⟩
    · haveI : Inhabited RawT := ⟨⟨ByteArray.empty, none, 0, [], none, 0, [], []⟩⟩
      have hsp := (key 0 hpos).1
      obtain ⟨b, o, sp⟩ := a
      simp [Addr.add] at hsp
      subst hsp
      have key' : ∀ i, i < len → ∃ t : RawT, (W.cell? ⟨b, o + i * 3, none⟩ = some (.string t.rn) ∧ W.cell? ⟨b, o + i * 3 + 1, none⟩ = some (.slice t.at_ t.ns.length t.ct) ∧ W.cell? ⟨b, o + i * 3 + 2, none⟩ = some (.slice t.ar t.raws.length t.cr)) ∧ t.Ok W := by
        intro i hi
        obtain ⟨t, hv, hg⟩ := (key i hi).2
        refine ⟨t, ?_, hg⟩
        rcases Nat.eq_zero_or_pos i with h0 | h0
        · subst h0
          simpa [Addr.add] using hv
        · have hne : ¬ i * 3 = 0 := by omega
          simpa [Addr.add, hne] using hv
      obtain ⟨f, hf⟩ := choose_lt key'
      have hlt : b < W.heap.size := lt_of_cell (hf 0 hpos).1.1
      refine ⟨some ⟨b, o, none⟩, cap, (List.range len).map f, by rw [hcs]; simp, fun i hi => ?_, by simp; omega⟩
      have hi' : i < len := by simpa using hi
      simp only [List.getElem_map, List.getElem_range]
      obtain ⟨⟨q0, q1, q2⟩, hok⟩ := hf i hi'
      exact ⟨⟨b, o, rfl, hlt, q0, q1, q2⟩, hok⟩

set_option maxRecDepth 100000 in
/-- What the walks give, for every argument and every world that holds the errors. -/
theorem contract (H : Type) (enc : TypeId × Value → H) (W : World) (base : Nat) (args : Array Value) (ds gs : List (DataW H)) (before : List MemPlace)
    (hval : ∀ (j : Nat) t v, Tryz.f6.params[j]? = some t → args[j]? = some v → Value.okWide Tryz.prog W .any base t v)
    (hW : DataW.Whole enc Tryz.prog Tryz.f6.params.toList Rows.filledSpec.vars false W args.toList ds gs before)
    (hL : laidMetH Tryz.prog Rows.filledRow.laid W) :
    Calls Tryz.prog 6 args W fun e W' => ∃ v, e = .returned v ∧ Rows.filledSpec.post enc Tryz.prog Tryz.f6 false true false false W args v W' := by
  have hW' := hW
  obtain ⟨p, q, hA0, hV, rfl, hfz, hnd⟩ := hW
  have hA : DataW.TrodAll enc Tryz.prog W 0 (fun _ => true) true Tryz.f6.params.toList args.toList ds p := hA0
  rw [Tryz.params6] at hA hval
  obtain ⟨v0, v1, v2, v3, d0, d1, d2, d3, p0, p1, p2, p3, rfl, rfl, rfl, h0, h1, h2, h3⟩ := trodAll_four hA
  obtain ⟨rfl, rfl⟩ := trodVars_none hV
  obtain ⟨g0, rfl, rfl, rfl, gw0⟩ := open_int Tryz.underlying3 (hval 0 3 v0 rfl rfl) h0
  obtain ⟨g1, rfl, rfl, rfl, gw1⟩ := open_int Tryz.underlying3 (hval 1 3 v1 rfl rfl) h1
  obtain ⟨g3, rfl, rfl, rfl, gw3⟩ := open_int Tryz.underlying3 (hval 3 3 v3 rfl rfl) h3
  have h2k := h2
  obtain ⟨fuel2, hf2⟩ := h2
  clear hA0
  obtain ⟨a', len', cap', rfl⟩ := okWide_slice Tryz.underlying39 (hval 2 39 v2 rfl rfl)
  obtain ⟨ar, cr, raws, hcs2, hraw, _⟩ := openTables hf2
  simp [Value.cells] at hcs2
  obtain ⟨rfl, rfl, rfl⟩ := hcs2
  obtain ⟨hL1, hL2⟩ := laidMetH_iff.1 hL
  obtain ⟨a0, a1, a2, tt, qa, wr, pg, pl, ex, ta, he, hm, hm2, hc, hb, hni, hm3⟩ := errs_of_laid10 hL1 hL2 (List.mem_filter.2 ⟨List.mem_cons_self, rfl⟩)
  simp only [List.append_nil, List.nil_append] at hW'
  have hlt2 : ∀ x ∈ p2, x.block < W.heap.size := fun x hx => hW'.lt x (by simp [hx])
  refine (filled_any g0 g1 g3 _ _ raws W hraw (wfIn gw0) (wfIn gw3) a0 a1 a2 tt qa wr pg pl ex ta ⟨he, hm, hm2, hc, hb, hni, hm3⟩).mono fun e W' ⟨he, hb⟩ => ?_
  subst he
  exact ⟨_, rfl, ⟨_, _, _, [], _, [], hW', trodAll_mk1 (shut_bool Tryz.underlying4 true), trodAll_mk4 (shut_int Tryz.underlying3 gw0) (shut_int Tryz.underlying3 gw1) (Below.trod laidOut (by kernel_rfl) (of_decide_eq_true (by kernel_rfl)) h2k hb hlt2) (shut_int Tryz.underlying3 gw3), rfl, hb.frame _, fun h => by cases h⟩⟩

/-- A start that fits: the heap that the initialisers leave. -/
theorem laid_met (os : Os) : laidMetH Tryz.prog Rows.filledRow.laid ((World.doorLaid Tryz.prog 400 os).forCall (fun _ _ => 0) ⟨#[], #[.int .i64 0, .int .i64 0, .slice none 0 0, .int .i64 0], []⟩).memory :=
  laidMetH_of_parts3 (fuel := 8) (laidMet_of_run' 8 (by kernel_rfl) (by kernel_rfl)) (by kernel_rfl) (by kernel_rfl)
theorem reads (os : Os) {H : Type} (enc : TypeId × Value → H) : ∃ places, DataW.whole enc Tryz.prog ((World.doorLaid Tryz.prog 400 os).forCall (fun _ _ => 0) ⟨#[], #[.int .i64 0, .int .i64 0, .slice none 0 0, .int .i64 0], []⟩).memory Tryz.f6.params.toList Rows.filledSpec.vars false #[Value.int .i64 0, .int .i64 0, .slice none 0 0, .int .i64 0].toList 8 = some ([.lit (.int .i64 0), .lit (.int .i64 0), .nil, .lit (.int .i64 0)], [], places) :=
  ⟨[], by kernel_rfl⟩

set_option maxRecDepth 100000 in
theorem lifted (os : Os) (started : os.Started) (H : Type) (enc : TypeId × Value → H) (F : Stop.Interp) :
    ReturnsInHanded {} Tryz.checked os 6 .any ((OpenSpec.ofChange Rows.filledSpec).preRow enc Tryz.prog Tryz.f6 Rows.filledRow.domain false Rows.filledRow.laid) (((OpenSpec.ofChange Rows.filledSpec).at F).post enc Tryz.prog Tryz.f6 false true false false) := by
  obtain ⟨places, hx⟩ := reads os enc
  refine returnsInHanded_of_row (C := Tryz.checked) (s := OpenSpec.ofChange Rows.filledSpec) own started (by kernel_rfl) Tryz.func6
    (witness_row_at (enc := enc) (C := Tryz.checked) false (World.doorLaid Tryz.prog 400 os) #[.int .i64 0, .int .i64 0, .slice none 0 0, .int .i64 0] rfl (by kernel_rfl) (by kernel_rfl) (by kernel_rfl)
      (OpenSpec.preRow_of_cond 8 hx (by kernel_rfl) (fun k hk => by cases hk) (by kernel_rfl) (laid_met os))) ?_
  intro W base args ds gs before hval hW _ _ _ hL _ _
  exact contract H enc W base args ds gs before hval hW hL

theorem said : Rows.FilledSaid :=
  OpenClaim.holds_of_cond 6 Tryz.f6 rfl rfl rfl rfl rfl rfl rfl ⟨rfl, rfl, rfl, rfl, rfl⟩ rfl rfl rfl rfl rfl (by kernel_rfl) Tryz.func6 (by kernel_rfl)
    (of_decide_eq_true (by kernel_rfl)) (by unfold Func.isWrapper; first | (rw [if_pos (by decide +kernel)]; kernel_rfl) | (rw [if_neg (by decide +kernel)]; exact ⟨rfl, rfl⟩))
    (fun os started H enc _ F => by rw [OpenClaim.pre_eq_preRow]; exact lifted os started H enc F)

/-- No parameter wants a stand-in; the program is looked at. -/
theorem plain (f : FuncId) (fn : Func) (hf : Tryz.pinned.checked.prog.funcNamed "colrun/colrunkeep.Filled" = some f) (hfn : Tryz.pinned.checked.prog.funcs[f]? = some fn) :
    true = Tryz.pinned.checked.prog.looks [] ∧ ∀ (j : Nat) t, fn.params[j]? = some t → Tryz.pinned.checked.prog.wantsStandIn t = false := by
  obtain rfl : f = 6 := Option.some.inj ((show Tryz.prog.funcNamed "colrun/colrunkeep.Filled" = some 6 by kernel_rfl).symm.trans hf) |>.symm
  obtain rfl : fn = Tryz.f6 := (Option.some.inj (Tryz.func6.symm.trans hfn)).symm
  refine ⟨by kernel_rfl, fun j t ht => ?_⟩
  rw [Tryz.params6] at ht
  have hm := Array.mem_of_getElem? ht
  simp at hm
  rcases hm with rfl | rfl | rfl
  · exact (show Tryz.prog.wantsStandIn 3 = false by kernel_rfl)
  · exact (show Tryz.prog.wantsStandIn 39 = false by kernel_rfl)
  · exact (show Tryz.prog.wantsStandIn 3 = false by kernel_rfl)

/-- The law Filled, tied to the program's text. -/
theorem card : Rows.FilledCardSaid :=
  Claim7.holds_tied_plain_at .later [] _ _ _ _ said (fun _ h => by cases h) (by kernel_rfl) (fun _ h => by cases h) filled_row_tie rfl ⟨rfl, rfl⟩ (by kernel_rfl) rfl plain (by kernel_rfl)
end Go.Proofs.YtfgklnenpichcaaGreatDoor.filled
namespace Go.Proofs.YtfgklnenpichcaaGreatDoor
/-- The law Filled, as it is asked. -/
theorem filled_card_holds : Rows.FilledCardSaid := filled.card
end Go.Proofs.YtfgklnenpichcaaGreatDoor
#print axioms Go.Proofs.YtfgklnenpichcaaGreatDoor.filled_card_holds
