/- Plain facts on values of three fields (V), on the cells in which they lie, and on worlds of which the elder part stands. Nothing is said of the program but the layout of its types. -/
import Derived.Test.YthplnjgijmilnaaDoorProg
import Derived.WalkKit
import Derived.WalkSpells
import Derived.WalkLawsBesides
import Derived.BigQuiet
import Derived.Deep.QuietTactic
import Derived.Maps.AppendAt
import Derived.Deep.Light
import Derived.Deep.LoopGhost
namespace Go.Proofs.YthplnjgijmilnaaDoor
open Go.RowKit

/-- A value of the program: kind, number, text. -/
structure V where
  k : Int
  n : Int
  s : ByteArray

theorem V.ext' {v u : V} (h1 : v.k = u.k) (h2 : v.n = u.n) (h3 : v.s = u.s) : v = u := by cases v; cases u; simp_all

def veq (k n : Int) (s : ByteArray) (k' n' : Int) (s' : ByteArray) : Bool := k == k' && (n == n' && s == s')
def V.beq (v u : V) : Bool := veq v.k v.n v.s u.k u.n u.s
theorem bytes_beq (a b : ByteArray) : (a == b) = true ↔ a = b := by
  rw [beq_toListBytes, beq_iff_eq, ByteArray.toList_eq, ByteArray.toList_eq]
  constructor
  · intro h
    obtain ⟨⟨x⟩⟩ := a
    obtain ⟨⟨y⟩⟩ := b
    simp at h
    rw [h]
  · rintro rfl; rfl
theorem V.beq_iff (v u : V) : v.beq u = true ↔ v = u := by
  unfold V.beq veq
  rw [Bool.and_eq_true, Bool.and_eq_true, beq_iff_eq, beq_iff_eq, bytes_beq]
  constructor
  · intro h; exact V.ext' h.1 h.2.1 h.2.2
  · rintro rfl; exact ⟨rfl, rfl, rfl⟩
theorem V.beq_false (v u : V) : v.beq u = false ↔ v ≠ u := by
  rw [← Bool.not_eq_true, V.beq_iff]

def V.cells (v : V) : List Value := [.int .i64 v.k, .int .i64 v.n, .string v.s]
abbrev V.val (v : V) : Value := .agg #[.int .i64 v.k, .int .i64 v.n, .string v.s]

def VAt (w : World) (b o : Nat) (v : V) : Prop :=
  w.cell? ⟨b, o, none⟩ = some (.int .i64 v.k) ∧ w.cell? ⟨b, o + 1, none⟩ = some (.int .i64 v.n) ∧ w.cell? ⟨b, o + 2, none⟩ = some (.string v.s)

/-- The values vs lie from the address a on. -/
def Vals (w : World) (a : Option Addr) (vs : List V) : Prop :=
  vs = [] ∨ ∃ b o, a = some ⟨b, o, none⟩ ∧ b < w.heap.size ∧ ∀ i v, vs[i]? = some v → VAt w b (o + i * 3) v

theorem VAt.of_block {w w' : World} {b o : Nat} {v : V} (h : VAt w b o v) (e : w'.heap[b]? = w.heap[b]?) : VAt w' b o v := by
  obtain ⟨h1, h2, h3⟩ := h
  exact ⟨by rw [World.cell?_of_block (w := w) e]; exact h1, by rw [World.cell?_of_block (w := w) e]; exact h2, by rw [World.cell?_of_block (w := w) e]; exact h3⟩

theorem lt_of_cell {w : World} {a : Addr} {v : Value} (h : w.cell? a = some v) : a.block < w.heap.size := by
  rcases Nat.lt_or_ge a.block w.heap.size with h' | h'
  · exact h'
  · simp [World.cell?, Array.getElem?_eq_none h'] at h

theorem Vals.nil (w : World) (a : Option Addr) : Vals w a [] := .inl rfl

theorem Vals.of_block {w w' : World} {a : Option Addr} {vs : List V} (h : Vals w a vs) (hs : w.heap.size ≤ w'.heap.size)
    (e : ∀ b o, a = some ⟨b, o, none⟩ → b < w.heap.size → w'.heap[b]? = w.heap[b]?) : Vals w' a vs := by
  rcases h with h | ⟨b, o, ha, hb, h⟩
  · exact .inl h
  · exact .inr ⟨b, o, ha, by omega, fun i v hv => (h i v hv).of_block (e b o ha hb)⟩

theorem Vals.below {w w' : World} {a : Option Addr} {vs : List V} (h : Vals w a vs) (hb : Below w.heap.size w w') : Vals w' a vs :=
  h.of_block hb.size fun b _ _ hlt => hb.block b hlt

theorem Vals.at {w : World} {a : Option Addr} {vs : List V} (h : Vals w a vs) {i : Nat} (hi : i < vs.length) :
    ∃ b o, a = some ⟨b, o, none⟩ ∧ b < w.heap.size ∧ VAt w b (o + i * 3) vs[i] := by
  rcases h with h | ⟨b, o, ha, hb, h⟩
  · subst h; simp at hi
  · exact ⟨b, o, ha, hb, h i vs[i] (by simp [hi])⟩

/-- What the world is behind some draws, seen from below. -/
theorem below_drewN {B : Nat} {a w : World} (h : Below B a w) (n : Nat) : Below B a (w.drewN n) := ⟨h.os, h.tape, h.output, h.size, h.block⟩

theorem le_alloc (w : World) (o : Obj) : w.heap.size ≤ (w.alloc o).heap.size := by simp
/-- A new block first, then whatever stands above all that was there. -/
theorem below_behind {w w' : World} {o : Obj} (h : Below (w.alloc o).heap.size (w.alloc o) w') : Below w.heap.size w w' :=
  ((Below.refl _ _).alloc (Nat.le_refl _) _).trans (h.mono (le_alloc _ _))
theorem below_keep {w w' : World} (h : Below w.heap.size w w') : (∀ b o, b < w.heap.size → w'.cell? ⟨b, o, none⟩ = w.cell? ⟨b, o, none⟩) ∧ (∀ b o, b < w.heap.size → w'.frozen? ⟨b, o, none⟩ = w.frozen? ⟨b, o, none⟩) :=
  ⟨fun _ _ hb => h.cell (p := ⟨_, _, none⟩) hb, fun _ _ hb => h.frozen (p := ⟨_, _, none⟩) hb⟩

theorem below_then {w wr w' : World} (h : Below w.heap.size w wr) (k : Below wr.heap.size wr w') : Below w.heap.size w w' := h.trans (k.mono h.size)
theorem below_alloc {w wr : World} (h : Below w.heap.size w wr) (o : Obj) : Below w.heap.size w (wr.alloc o) := h.alloc h.size o

theorem below_undrew {B : Nat} {a w : World} (h : Below B a.drew w) : Below B a w := ⟨h.os, h.tape, h.output, h.size, h.block⟩

theorem below_set5 {B : Nat} {a w : World} {b : Nat} (h : Below B a w) (hb : B ≤ b) (v0 v1 v2 v3 v4 : Value) :
    Below B a (((((w.setCell ⟨b, 0, none⟩ v0).setCell ⟨b, 1, none⟩ v1).setCell ⟨b, 2, none⟩ v2).setCell ⟨b, 3, none⟩ v3).setCell ⟨b, 4, none⟩ v4) :=
  ((((h.setCell (p := ⟨b, 0, none⟩) hb v0).setCell (p := ⟨b, 1, none⟩) hb v1).setCell (p := ⟨b, 2, none⟩) hb v2).setCell (p := ⟨b, 3, none⟩) hb v3).setCell (p := ⟨b, 4, none⟩) hb v4

theorem ret_bool {a b : Bool} (h : a = b) : Ending.returned (.bool a) = .returned (.bool b) := by rw [h]
theorem ret_int {k : IntKind} {a b : Int} (h : a = b) : Ending.returned (.int k a) = .returned (.int k b) := by rw [h]

theorem infoV : (Tryd.prog.info? 25).map (fun i => (i.zero, i.size, i.bytes)) = some (some (.agg #[.int .i64 0, .int .i64 0, .string ⟨#[]⟩]), 3, 32) := by kernel_rfl
theorem info_u8 : (Tryd.prog.info? 5).map (fun i => (i.zero, i.size, i.bytes)) = some (some (.int .u8 0), 1, 1) := by kernel_rfl
theorem info_u64 : (Tryd.prog.info? 85).map (fun i => (i.zero, i.size, i.bytes)) = some (some (.int .u64 0), 1, 8) := by kernel_rfl
theorem info_bool : (Tryd.prog.info? 4).map (fun i => (i.zero, i.size, i.bytes)) = some (some (.bool false), 1, 1) := by kernel_rfl

/-- The values that a slice of the call's own holds, as values wherever they lie. -/
theorem vals_of_owns {w : World} {base : Nat} {sv : Value} {n : Nat} {vs : List V} (h : w.ownsRow base 25 3 sv n (vs.flatMap V.cells)) :
    n = vs.length ∧ ∃ a cap, sv = .slice a vs.length cap ∧ Vals w a vs := by
  obtain ⟨hl, h⟩ := h
  have hlen : (vs.flatMap V.cells).length = vs.length * 3 := by
    clear hl h
    induction vs with
    | nil => rfl
    | cons v vs ih => simp [V.cells] at ih ⊢; omega
  have hn : n = vs.length := by omega
  subst hn
  refine ⟨rfl, ?_⟩
  rcases h with ⟨hv, h0⟩ | ⟨g, cap, cur, hv, _, hg, _, _, _, hcur⟩
  · have : vs = [] := List.length_eq_zero_iff.1 h0
    subst this
    exact ⟨none, 0, hv, .inl rfl⟩
  · refine ⟨some ⟨g, 0, none⟩, cap, hv, .inr ⟨g, 0, rfl, ?_, ?_⟩⟩
    · rcases Nat.lt_or_ge g w.heap.size with h' | h'
      · exact h'
      · simp [Array.getElem?_eq_none h'] at hg
    · intro i v hi
      have hiv : i < vs.length := by
        rcases Nat.lt_or_ge i vs.length with h' | h'
        · exact h'
        · simp [List.getElem?_eq_none h'] at hi
      have key : ∀ (us : List V) (i : Nat) (v : V), us[i]? = some v → (us.flatMap V.cells)[i * 3]? = some (.int .i64 v.k) ∧ (us.flatMap V.cells)[i * 3 + 1]? = some (.int .i64 v.n) ∧ (us.flatMap V.cells)[i * 3 + 2]? = some (.string v.s) := by
        intro us
        induction us with
        | nil => intro i v h; simp at h
        | cons u us ih =>
          intro i v h
          cases i with
          | zero => simp at h; subst h; simp [V.cells]
          | succ i =>
            have := ih i v (by simpa using h)
            have e0 : (i + 1) * 3 = i * 3 + 3 := by omega
            simp only [List.flatMap_cons, V.cells, e0]
            simpa using this
      obtain ⟨k1, k2, k3⟩ := key vs i v hi
      rw [← hcur] at k1 k2 k3
      rw [List.getElem?_take_of_lt (by omega)] at k1 k2 k3
      simp only [Array.getElem?_toList] at k1 k2 k3
      unfold VAt
      simp only [World.cell?, hg, Nat.zero_add]
      simp [k1, k2, k3]

theorem fieldsV : (Tryd.prog.fieldsOf 25).toList.map (fun f => (f.name, f.type, f.offset)) = [("Kind", 3, 0), ("N", 2, 1), ("S", 9, 2)] := by kernel_rfl
theorem underV : Tryd.prog.underlying 25 = some (.struct (Tryd.prog.fieldsOf 25)) := by kernel_rfl
theorem sihV : Tryd.prog.stoodInHeld 25 = false := by kernel_rfl

/-- '==' of two such values. -/
theorem run_equal_V (w : World) (k n k' n' : Int) (s s' : ByteArray) :
    (Op.equal 25 (.agg #[.int .i64 k, .int .i64 n, .string s]) (.agg #[.int .i64 k', .int .i64 n', .string s'])).run Tryd.prog w = .ok (veq k n s k' n' s') w := by
  rw [Op.equal, Op.maxDepth, run_equalIn_struct w 9999 25 _ _ underV sihV]
  have h := fieldsV
  generalize (Tryd.prog.fieldsOf 25).toList = fs at h
  rcases fs with _ | ⟨f0, _ | ⟨f1, _ | ⟨f2, _ | ⟨f3, fs⟩⟩⟩⟩
  · simp at h
  · simp at h
  · simp at h
  · simp at h
    obtain ⟨⟨h1, h2, h3⟩, ⟨h4, h5, h6⟩, h7, h8, h9⟩ := h
    simp [Op.eqFields, h1, h2, h3, h4, h5, h6, h7, h8, h9, part, sizeOf, go_sem]
    simp only [veq, beq_toListBytes]
    by_cases a1 : k = k' <;> by_cases a2 : n = n' <;> by_cases a3 : s.toList = s'.toList <;> simp [a1, a2, a3]
  · simp at h
theorem run_eql_V (w : World) (k n k' n' : Int) (s s' : ByteArray) :
    (binOp .eql 25 (.agg #[.int .i64 k, .int .i64 n, .string s]) (.agg #[.int .i64 k', .int .i64 n', .string s'])).run Tryd.prog w = .ok (.bool (veq k n s k' n' s')) w := by
  simp [binOp, run_equal_V]
theorem run_neq_V (w : World) (k n k' n' : Int) (s s' : ByteArray) :
    (binOp .neq 25 (.agg #[.int .i64 k, .int .i64 n, .string s]) (.agg #[.int .i64 k', .int .i64 n', .string s'])).run Tryd.prog w = .ok (.bool (!veq k n s k' n' s')) w := by
  simp [binOp, run_equal_V]

end Go.Proofs.YthplnjgijmilnaaDoor
