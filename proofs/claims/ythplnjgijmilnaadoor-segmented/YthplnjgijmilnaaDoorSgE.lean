/- The arguments of the law Segmented, read off their reading, with the numbers' ranges. Nothing is run. -/
import Derived.Test.YthplnjgijmilnaaDoorPacksOpen
import Derived.Test.YthplnjgijmilnaaDoorSgD
namespace Go.Proofs.YthplnjgijmilnaaDoor
open Go.RowKit Go.Deep Go.ChangeShapes Go.WideShapes

theorem wf_in {n : Int} (h : (Lit.int .i64 n).wf = true) : inI64 n := by
  simp [Lit.wf, IntKind.min, IntKind.max, IntKind.signed, IntKind.bits] at h
  exact ⟨h.1, h.2⟩

/-- One value, opened. -/
theorem open_V2 {H : Type} {enc : TypeId × Value → H} {W : World} {base base' : Nat} {spare : Nat → Bool} {held : Bool} {fuel : Nat} {cs : List Value} {x : DataW H × List MemPlace} {a : Addr}
    (hc : W.cells? base' a 3 = some cs) (h : DataW.trod enc Tryd.prog W base spare held fuel 25 cs = some x) : a.spot = none ∧ ∃ v : V, VAt W a.block a.off v ∧ inI64 v.k ∧ inI64 v.n := by
  obtain ⟨y0, y1, y2, n', _, _, h0, h1, h2⟩ := trod_struct3 Tryd.underlying25 h
  obtain ⟨_, hl3, hcell⟩ := World.cells?_some hc
  obtain ⟨c0, c1, c2, rfl⟩ := list3 hl3
  obtain ⟨k, e0, _, g0⟩ := DataW.trod_int Tryd.underlying3 h0
  obtain ⟨nn, e1, _, g1⟩ := DataW.trod_int Tryd.underlying2 h1
  obtain ⟨s, e2, _, _⟩ := DataW.trod_string Tryd.underlying9 h2
  have q0 := hcell 0 (by omega)
  have q1 := hcell 1 (by omega)
  have q2 := hcell 2 (by omega)
  have hsp : a.spot = none := by simpa [Addr.add] using World.cell?_spot q0
  simp [cellsInt] at e0
  simp [cellsI64] at e1
  simp [cellsStr] at e2
  subst e0 e1 e2
  obtain ⟨b, o, sp⟩ := a
  simp only at hsp
  subst hsp
  refine ⟨rfl, ⟨k, nn, s⟩, ⟨?_, ?_, ?_⟩, wf_in g0, wf_in g1⟩
  · simpa [Addr.add] using q0
  · simpa [Addr.add] using q1
  · simpa [Addr.add] using q2

/-- A list of values, opened. -/
theorem open_vals2 {H : Type} {enc : TypeId × Value → H} {W : World} {base : Nat} {spare : Nat → Bool} {held : Bool} {fuel : Nat} {cs : List Value} {x : DataW H × List MemPlace}
    (h : DataW.trod enc Tryd.prog W base spare held fuel 22 cs = some x) :
    ∃ a cap, ∃ xs : List V, cs = [.slice a xs.length cap] ∧ Vals W a xs ∧ ∀ v ∈ xs, inI64 v.k ∧ inI64 v.n := by
  rcases open_slice Tryd.underlying22 h with ⟨hcs, hx⟩ | ⟨a, len, cap, m, n, D, Pl, hcs, hb, hl, hm, hmm, hx, hel⟩
  · exact ⟨none, 0, [], hcs, .inl rfl, fun v hv => by simp at hv⟩
  · have hlm : len ≤ m := by rw [hmm]; split <;> omega
    have key : ∀ i, i < len → (a.add (i * 3)).spot = none ∧ ∃ v : V, VAt W (a.add (i * 3)).block (a.add (i * 3)).off v ∧ inI64 v.k ∧ inI64 v.n := by
      intro i hi
      obtain ⟨cs', hc0, ht0⟩ := hel i (by omega)
      rw [cellsV] at hc0
      exact open_V2 hc0 ht0
    rcases Nat.eq_zero_or_pos len with h0 | hpos
    · subst h0
      exact ⟨some a, cap, [], hcs, .inl rfl, fun v hv => by simp at hv⟩
    · haveI : Inhabited V := ⟨⟨0, 0, ByteArray.empty⟩⟩
      have hsp := (key 0 hpos).1
      obtain ⟨b, o, sp⟩ := a
      simp [Addr.add] at hsp
      subst hsp
      have key' : ∀ i, i < len → ∃ v : V, VAt W b (o + i * 3) v ∧ inI64 v.k ∧ inI64 v.n := by
        intro i hi
        obtain ⟨v, hv, hg⟩ := (key i hi).2
        refine ⟨v, ?_, hg⟩
        rcases Nat.eq_zero_or_pos i with h0 | h0
        · subst h0
          simpa [Addr.add] using hv
        · have hne : ¬ i * 3 = 0 := by omega
          simpa [Addr.add, hne] using hv
      obtain ⟨f, hf⟩ := choose_lt key'
      have hlt : b < W.heap.size := lt_of_cell (hf 0 hpos).1.1
      refine ⟨some ⟨b, o, none⟩, cap, (List.range len).map f, by rw [hcs]; simp, .inr ⟨b, o, rfl, hlt, ?_⟩, ?_⟩
      · intro i v hi
        rw [List.getElem?_map] at hi
        rcases Nat.lt_or_ge i len with h' | h'
        · rw [List.getElem?_range h'] at hi
          simp at hi
          subst hi
          exact (hf i h').1
        · rw [List.getElem?_eq_none (by simpa using h')] at hi
          simp at hi
      · intro v hv
        obtain ⟨i, hi, rfl⟩ := List.mem_map.1 hv
        exact (hf i (List.mem_range.1 hi)).2

end Go.Proofs.YthplnjgijmilnaaDoor
