/- What the arguments and the three named errors are, read off their reading: a list of values lies in its cells, and the errors are three different pointers. Nothing is run. -/
import Derived.Test.YthplnjgijmilnaaDoorLawP
import Derived.Test.YthplnjgijmilnaaDoorRows
import Derived.Deep.Strs
import Derived.LaidMore
import Derived.Stop.LaidErr
import Derived.MakeChecks
namespace Go.Proofs.YthplnjgijmilnaaDoor
open Go.RowKit Go.Deep Go.ChangeShapes Go.WideShapes

theorem cellsV : Tryd.prog.cellsOf 25 = 3 := by kernel_rfl
theorem cellsInt : Tryd.prog.cellsOf 3 = 1 := by kernel_rfl
theorem cellsI64 : Tryd.prog.cellsOf 2 = 1 := by kernel_rfl
theorem cellsStr : Tryd.prog.cellsOf 9 = 1 := by kernel_rfl
theorem cellsErrstr : Tryd.prog.cellsOf 150 = 1 := by kernel_rfl
theorem bytesV : Tryd.prog.bytesOf 25 = 32 := by kernel_rfl

theorem list3 {α : Type} {l : List α} (h : l.length = 3) : ∃ x y z, l = [x, y, z] := by
  match l, h with
  | [x, y, z], _ => exact ⟨x, y, z, rfl⟩

/-- One value, opened. -/
theorem open_V {H : Type} {enc : TypeId × Value → H} {W : World} {base base' : Nat} {spare : Nat → Bool} {held : Bool} {fuel : Nat} {cs : List Value} {x : DataW H × List MemPlace} {a : Addr}
    (hc : W.cells? base' a 3 = some cs) (h : DataW.trod enc Tryd.prog W base spare held fuel 25 cs = some x) : a.spot = none ∧ ∃ v : V, VAt W a.block a.off v := by
  obtain ⟨y0, y1, y2, n', _, _, h0, h1, h2⟩ := trod_struct3 Tryd.underlying25 h
  obtain ⟨_, hl3, hcell⟩ := World.cells?_some hc
  obtain ⟨c0, c1, c2, rfl⟩ := list3 hl3
  obtain ⟨k, e0, _, _⟩ := DataW.trod_int Tryd.underlying3 h0
  obtain ⟨nn, e1, _, _⟩ := DataW.trod_int Tryd.underlying2 h1
  obtain ⟨s, e2, _, _⟩ := DataW.trod_string Tryd.underlying9 h2
  have q0 := hcell 0 (by omega)
  have q1 := hcell 1 (by omega)
  have q2 := hcell 2 (by omega)
  have hsp : a.spot = none := by simpa [Addr.add] using World.cell?_spot q0
  simp [cellsInt] at e0
  simp [cellsI64] at e1
  simp [cellsStr] at e2
  subst e0 e1 e2
  obtain ⟨b, o, sp⟩ := a
  simp only at hsp
  subst hsp
  refine ⟨rfl, ⟨k, nn, s⟩, ?_, ?_, ?_⟩
  · simpa [Addr.add] using q0
  · simpa [Addr.add] using q1
  · simpa [Addr.add] using q2

/-- A list of values, opened. -/
theorem open_vals {H : Type} {enc : TypeId × Value → H} {W : World} {base : Nat} {spare : Nat → Bool} {held : Bool} {fuel : Nat} {cs : List Value} {x : DataW H × List MemPlace}
    (h : DataW.trod enc Tryd.prog W base spare held fuel 22 cs = some x) :
    ∃ a cap, ∃ xs : List V, cs = [.slice a xs.length cap] ∧ Vals W a xs ∧ (xs.length = 0 ∨ ∃ k, xs.length ≤ k ∧ k * 32 ∈ DataW.weights Tryd.prog 22 x.1) := by
  rcases open_slice Tryd.underlying22 h with ⟨hcs, hx⟩ | ⟨a, len, cap, m, n, D, Pl, hcs, hb, hl, hm, hmm, hx, hel⟩
  · exact ⟨none, 0, [], hcs, .inl rfl, .inl rfl⟩
  · have hlm : len ≤ m := by rw [hmm]; split <;> omega
    have key : ∀ i, i < len → (a.add (i * 3)).spot = none ∧ ∃ v : V, VAt W (a.add (i * 3)).block (a.add (i * 3)).off v := by
      intro i hi
      obtain ⟨cs', hc0, ht0⟩ := hel i (by omega)
      rw [cellsV] at hc0
      exact open_V hc0 ht0
    rcases Nat.eq_zero_or_pos len with h0 | hpos
    · subst h0
      exact ⟨some a, cap, [], hcs, .inl rfl, .inl rfl⟩
    · haveI : Inhabited V := ⟨⟨0, 0, ByteArray.empty⟩⟩
      have hsp := (key 0 hpos).1
      obtain ⟨b, o, sp⟩ := a
      simp [Addr.add] at hsp
      subst hsp
      have key' : ∀ i, i < len → ∃ v : V, VAt W b (o + i * 3) v := by
        intro i hi
        obtain ⟨v, hv⟩ := (key i hi).2
        refine ⟨v, ?_⟩
        rcases Nat.eq_zero_or_pos i with h0 | h0
        · subst h0
          simpa [Addr.add] using hv
        · have hne : ¬ i * 3 = 0 := by omega
          simpa [Addr.add, hne] using hv
      obtain ⟨f, hf⟩ := choose_lt key'
      have hlt : b < W.heap.size := lt_of_cell (hf 0 hpos).1
      refine ⟨some ⟨b, o, none⟩, cap, (List.range len).map f, by rw [hcs]; simp, .inr ⟨b, o, rfl, hlt, ?_⟩, .inr ⟨m, by simp; omega, ?_⟩⟩
      · intro i v hi
        rw [List.getElem?_map] at hi
        rcases Nat.lt_or_ge i len with h' | h'
        · rw [List.getElem?_range h'] at hi
          simp at hi
          subst hi
          exact hf i h'
        · rw [List.getElem?_eq_none (by simpa using h')] at hi
          simp at hi
      · subst hx
        simp [DataW.weights, Tryd.underlying22, bytesV]
        left
        omega

theorem star : "*" ++ "errors.errorString" = "*errors.errorString" := by decide
theorem rowPerr (u : TypeId) (h : Tryd.prog.typeName? 3 u = some "*errors.errorString") : u = 126 :=
  typeName_ptr_named (nm := "errors.errorString") (by rw [star]; kernel_rfl) (by kernel_rfl) (by decide) u (by rw [star]; exact h)
theorem gArg : Tryd.prog.globalNamed "colrun/segments.ErrArg" = some 0 := by kernel_rfl
theorem gDict : Tryd.prog.globalNamed "colrun/segments.ErrDict" = some 1 := by kernel_rfl
theorem gForm : Tryd.prog.globalNamed "colrun/segments.ErrForm" = some 2 := by kernel_rfl
theorem tArg : (Tryd.prog.globals[0]?).map (·.type) = some 43 := by kernel_rfl
theorem tDict : (Tryd.prog.globals[1]?).map (·.type) = some 43 := by kernel_rfl
theorem tForm : (Tryd.prog.globals[2]?).map (·.type) = some 43 := by kernel_rfl

/-- The first three of the list, each an error of errors.New: three different pointers, each to a block of its own. -/
theorem laid_sentinels3 {P : Program} {n0 n1 n2 nm : String} {text0 text1 text2 : List UInt8} {r : List (String × DataW Unit)} {W : World} {g0 g1 g2 : Nat} {ti tp te ts : TypeId} {ms : Array (String × TypeId)} {f : Field}
    (h : laidMet P ((n0, .iface nm (.ptr (.agg [.lit (.string text0)]))) :: (n1, .iface nm (.ptr (.agg [.lit (.string text1)]))) :: (n2, .iface nm (.ptr (.agg [.lit (.string text2)]))) :: r) W)
    (hg0 : P.globalNamed n0 = some g0) (ht0 : (P.globals[g0]?).map (·.type) = some ti) (hg1 : P.globalNamed n1 = some g1) (ht1 : (P.globals[g1]?).map (·.type) = some ti) (hg2 : P.globalNamed n2 = some g2) (ht2 : (P.globals[g2]?).map (·.type) = some ti)
    (hi : P.underlying ti = some (.interface ms)) (hrow : ∀ u, P.typeName? 3 u = some nm → u = tp)
    (hp : P.underlying tp = some (.pointer te)) (he : P.underlying te = some (.struct #[f])) (hft : f.type = ts) (hfo : f.offset = 0) (hs : P.underlying ts = some .string) (hc : P.cellsOf te = 1) (hcs : P.cellsOf ts = 1) :
    ∃ a0 a1 a2 : Addr, W.var? P n0 = some #[.iface tp (.pointer (some a0))] ∧ W.var? P n1 = some #[.iface tp (.pointer (some a1))] ∧ W.var? P n2 = some #[.iface tp (.pointer (some a2))] ∧ a0 ≠ a1 ∧ a0 ≠ a2 ∧ a1 ≠ a2 ∧
      (∃ c t, W.heap[a0.block]? = some (.cells c t (0, 0))) ∧ (∃ c t, W.heap[a1.block]? = some (.cells c t (0, 0))) ∧ ∃ c t, W.heap[a2.block]? = some (.cells c t (0, 0)) := by
  obtain ⟨ps, ⟨g0', t0', cs0, f0, p0, q0, hg0', ht0', hv0, hd0, ⟨g1', t1', cs1, f1, p1, q1, hg1', ht1', hv1, hd1, ⟨g2', t2', cs2, f2, p2, q2, hg2', ht2', hv2, hd2, _, e2⟩, e1⟩, e0⟩, hnd, hrows⟩ := h
  obtain rfl := Option.some.inj (hg0.symm.trans hg0')
  obtain rfl := Option.some.inj (hg1.symm.trans hg1')
  obtain rfl := Option.some.inj (hg2.symm.trans hg2')
  obtain rfl := Option.some.inj (ht0.symm.trans ht0')
  obtain rfl := Option.some.inj (ht1.symm.trans ht1')
  obtain rfl := Option.some.inj (ht2.symm.trans ht2')
  subst e2
  subst e1
  subst e0
  obtain ⟨l0⟩ := cs0
  obtain ⟨l1⟩ := cs1
  obtain ⟨l2⟩ := cs2
  have ok0 : ∀ u v, l0 = [.iface u v] → Value.okWide P W .any 0 u v := fun u v e => by
    subst e
    exact (hrows g0 0 (by simp [MemPlace.row])).2 u v (by simpa using World.var?_cell hg0' hv0 0)
  have ok1 : ∀ u v, l1 = [.iface u v] → Value.okWide P W .any 0 u v := fun u v e => by
    subst e
    exact (hrows g1 0 (by simp [MemPlace.row])).2 u v (by simpa using World.var?_cell hg1' hv1 0)
  have ok2 : ∀ u v, l2 = [.iface u v] → Value.okWide P W .any 0 u v := fun u v e => by
    subst e
    exact (hrows g2 0 (by simp [MemPlace.row])).2 u v (by simpa using World.var?_cell hg2' hv2 0)
  obtain ⟨a0, s0, rfl, _, _, _, rfl⟩ := errorString_of_trod hi hrow hp he hft hfo hs hc hcs hd0 ok0
  obtain ⟨a1, s1, rfl, _, _, _, rfl⟩ := errorString_of_trod hi hrow hp he hft hfo hs hc hcs hd1 ok1
  obtain ⟨a2, s2, rfl, _, _, _, rfl⟩ := errorString_of_trod hi hrow hp he hft hfo hs hc hcs hd2 ok2
  have hb0 := (hrows a0.block a0.off (by simp [MemPlace.row])).1
  have hb1 := (hrows a1.block a1.off (by simp [MemPlace.row])).1
  have hb2 := (hrows a2.block a2.off (by simp [MemPlace.row])).1
  refine ⟨a0, a1, a2, hv0, hv1, hv2, ?_, ?_, ?_, hb0, hb1, hb2⟩
  · rintro rfl
    simp [MemPlace.row] at hnd
  · rintro rfl
    simp [MemPlace.row] at hnd
  · rintro rfl
    simp [MemPlace.row] at hnd

/-- The program's three. -/
theorem errs_of_laid {W : World} {text0 text1 text2 : List UInt8}
    (h : laidMet Tryd.prog [("colrun/segments.ErrArg", .iface "*errors.errorString" (.ptr (.agg [.lit (.string text0)]))), ("colrun/segments.ErrDict", .iface "*errors.errorString" (.ptr (.agg [.lit (.string text1)]))), ("colrun/segments.ErrForm", .iface "*errors.errorString" (.ptr (.agg [.lit (.string text2)])))] W) :
    ∃ a0 a1 a2, Errs W a0 a1 a2 := by
  obtain ⟨a0, a1, a2, hv0, hv1, hv2, h01, h02, h12, hb0, hb1, hb2⟩ := laid_sentinels3 h gArg tArg gDict tDict gForm tForm Tryd.underlying43 rowPerr Tryd.underlying126 Tryd.underlying150 rfl rfl Tryd.underlying9 cellsErrstr cellsStr
  exact ⟨a0, a1, a2, by simpa using World.var?_cell gArg hv0 0, by simpa using World.var?_cell gDict hv1 0, by simpa using World.var?_cell gForm hv2 0, h01, h02, h12, hb0, hb1, hb2⟩
end Go.Proofs.YthplnjgijmilnaaDoor
