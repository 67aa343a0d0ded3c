/- Laws of the walk for slices that a call itself makes: values of three fields, and single cells, appended one at a time; what of them stands when other memory is made. -/
import Derived.Test.YthplnjgijmilnaaDoorBase
import Derived.Test.YthplnjgijmilnaaDoorMath
namespace Go.Proofs.YthplnjgijmilnaaDoor
open Go.RowKit

/-- A slice of the call's own (in blocks from B on) that holds the values vs. -/
def OwnV (w : World) (B : Nat) (sv : Value) (vs : List V) : Prop := w.ownsRow B 25 3 sv vs.length (vs.flatMap V.cells)
/-- The same for elements of one cell, of the type e. -/
def OwnC (w : World) (B : Nat) (e : TypeId) (sv : Value) (xs : List Value) : Prop := w.ownsRow B e 1 sv xs.length xs

theorem owns_block {w : World} {B : Nat} {e : TypeId} {z n : Nat} {sv : Value} {xs : List Value} (h : w.ownsRow B e z sv n xs) {g : Nat} (hg : sv.ownBlock = some g) : B ≤ g ∧ g < w.heap.size := by
  rcases h.2 with ⟨hv, _⟩ | ⟨g', cap, cur, hv, hb, hg', _⟩
  · subst hv; simp [Value.ownBlock] at hg
  · subst hv
    simp [Value.ownBlock] at hg
    subst hg
    refine ⟨hb, ?_⟩
    rcases Nat.lt_or_ge g' w.heap.size with h' | h'
    · exact h'
    · simp [Array.getElem?_eq_none h'] at hg'

theorem owns_of_block {w w' : World} {B : Nat} {e : TypeId} {z n : Nat} {sv : Value} {xs : List Value} (h : w.ownsRow B e z sv n xs) (hb : ∀ g, sv.ownBlock = some g → w'.heap[g]? = w.heap[g]?) : w'.ownsRow B e z sv n xs := by
  refine ⟨h.1, ?_⟩
  rcases h.2 with h | ⟨g, cap, cur, hv, hbg, hg, rest⟩
  · exact .inl h
  · exact .inr ⟨g, cap, cur, hv, hbg, by rw [hb g (by subst hv; rfl)]; exact hg, rest⟩

theorem owns_below {w w' : World} {B : Nat} {e : TypeId} {z n : Nat} {sv : Value} {xs : List Value} (h : w.ownsRow B e z sv n xs) (hb : Below w.heap.size w w') : w'.ownsRow B e z sv n xs :=
  owns_of_block h fun g hg => hb.block g (owns_block h hg).2
theorem owns_mono {w : World} {B B' : Nat} {e : TypeId} {z n : Nat} {sv : Value} {xs : List Value} (h : w.ownsRow B e z sv n xs) (hb : B' ≤ B) : w.ownsRow B' e z sv n xs := by
  refine ⟨h.1, ?_⟩
  rcases h.2 with h | ⟨g, cap, cur, hv, hbg, rest⟩
  · exact .inl h
  · exact .inr ⟨g, cap, cur, hv, by omega, rest⟩
theorem owns_alloc {w : World} {B : Nat} {e : TypeId} {z n : Nat} {sv : Value} {xs : List Value} (h : w.ownsRow B e z sv n xs) (o : Obj) : (w.alloc o).ownsRow B e z sv n xs :=
  owns_below h ((Below.refl _ _).alloc (Nat.le_refl _) _)

theorem OwnV.below {w w' : World} {B : Nat} {sv : Value} {vs : List V} (h : OwnV w B sv vs) (hb : Below w.heap.size w w') : OwnV w' B sv vs := owns_below h hb
theorem OwnV.alloc {w : World} {B : Nat} {sv : Value} {vs : List V} (h : OwnV w B sv vs) (o : Obj) : OwnV (w.alloc o) B sv vs := owns_alloc h o
theorem OwnV.mono {w : World} {B B' : Nat} {sv : Value} {vs : List V} (h : OwnV w B sv vs) (hb : B' ≤ B) : OwnV w B' sv vs := owns_mono h hb
theorem OwnV.nil (w : World) (B : Nat) : OwnV w B (.slice none 0 0) [] := ⟨rfl, .inl ⟨rfl, rfl⟩⟩
theorem OwnV.vals {w : World} {B : Nat} {sv : Value} {vs : List V} (h : OwnV w B sv vs) : ∃ a cap, sv = .slice a vs.length cap ∧ Vals w a vs := (vals_of_owns h).2
theorem OwnC.below {w w' : World} {B : Nat} {e : TypeId} {sv : Value} {xs : List Value} (h : OwnC w B e sv xs) (hb : Below w.heap.size w w') : OwnC w' B e sv xs := owns_below h hb
theorem OwnC.alloc {w : World} {B : Nat} {e : TypeId} {sv : Value} {xs : List Value} (h : OwnC w B e sv xs) (o : Obj) : OwnC (w.alloc o) B e sv xs := owns_alloc h o
theorem OwnC.nil (w : World) (B : Nat) (e : TypeId) : OwnC w B e (.slice none 0 0) [] := ⟨rfl, .inl ⟨rfl, rfl⟩⟩

/-- A slice that grew, in its own row or in a new one: all that was there from B down stands. -/
theorem below_grown {w wr w' : World} {sv : Value} (h : Below w.heap.size w wr) (hg : wr.grownBy w' sv.ownBlock) (hr : ∀ k, sv.ownBlock = some k → w.heap.size ≤ k) : Below w.heap.size w w' :=
  h.grown hg h.size hr

/-- 'l = append(l, v)', v a value of three fields that lies in a block of its own. -/
theorem wpList_append_V {w : World} {ops : Array Oper} {rest : List Oper} {o : Oper} {a : Act} {Q : Exit → Act → World → Prop} (hgd : o.guard = none) (s x : Operand)
    (ho : o.op = .call { callee := .builtin .append, args := #[s, x], argTypes := #[22, 22] })
    (B : Nat) (sv : Value) (vs : List V) (hs : a.eval s = sv) (hown : OwnV w B sv vs)
    (g c : Nat) (v : V) (hx : a.eval x = .slice (some ⟨g, 0, none⟩) 1 c) (hv : VAt w g 0 v) (hlen : vs.length ≤ 1000000) (hbase : B ≤ w.heap.size)
    (h : ∀ sv' w', OwnV w' B sv' (vs ++ [v]) → w.grownBy w' sv.ownBlock → (sv'.ownBlock = sv.ownBlock ∨ sv'.ownBlock = some w.heap.size) → wpList Tryd.prog ops Q rest (a.put o.dst sv') w') :
    wpList Tryd.prog ops Q (o :: rest) a w := by
  obtain ⟨i, hi, hz, hsz, hby⟩ := info_parts infoV
  refine wpList_append_own_at w hgd s x 22 ho B 25 i _ 3 32 (by kernel_rfl) hi hz hsz hby rfl (by decide) sv vs.length (vs.flatMap V.cells) hs hown ⟨g, 0, none⟩ 1 c v.cells hx rfl ?_ ?_ ?_ ?_ hbase ?_
  · intro j u hj
    obtain ⟨h1, h2, h3⟩ := hv
    match j, hj with
    | 0, hj => simp [V.cells] at hj; subst hj; simpa [Addr.add] using h1
    | 1, hj => simp [V.cells] at hj; subst hj; simpa [Addr.add] using h2
    | 2, hj => simp [V.cells] at hj; subst hj; simpa [Addr.add] using h3
    | j + 3, hj => simp [V.cells] at hj
  · intro u hu
    simp [V.cells] at hu
    rcases hu with rfl | rfl | rfl <;> rfl
  · unfold maxLen; omega
  · omega
  · intro v' w' h1 h2 _ h4
    refine h v' w' ?_ h2 h4
    unfold OwnV
    simpa [V.cells] using h1

/-- 'l = append(l, x)', elements of one cell. -/
theorem wpList_append_C {w : World} {ops : Array Oper} {rest : List Oper} {o : Oper} {a : Act} {Q : Exit → Act → World → Prop} (hgd : o.guard = none) (s x : Operand) (t e : TypeId) (z : Value) (by1 : Nat)
    (hinfo : (Tryd.prog.info? e).map (fun i => (i.zero, i.size, i.bytes)) = some (some z, 1, by1)) (hz1 : z.cells.size = 1) (hby1 : by1 ≤ 16) (ht : Tryd.prog.underlying t = some (.slice e))
    (ho : o.op = .call { callee := .builtin .append, args := #[s, x], argTypes := #[t, t] })
    (B : Nat) (sv : Value) (xs : List Value) (hs : a.eval s = sv) (hown : OwnC w B e sv xs)
    (ad : Addr) (c : Nat) (news : List Value) (hx : a.eval x = .slice (some ad) news.length c) (hv : ∀ j u, news[j]? = some u → w.cell? (ad.add j) = some u) (h1 : ∀ u ∈ news, u.oneCell' = true) (hlen : xs.length + news.length ≤ 1000000) (hbase : B ≤ w.heap.size)
    (h : ∀ sv' w', OwnC w' B e sv' (xs ++ news) → w.grownBy w' sv.ownBlock → (sv'.ownBlock = sv.ownBlock ∨ sv'.ownBlock = some w.heap.size) → wpList Tryd.prog ops Q rest (a.put o.dst sv') w') :
    wpList Tryd.prog ops Q (o :: rest) a w := by
  obtain ⟨i, hi, hz, hsz, hby⟩ := info_parts hinfo
  refine wpList_append_own_at w hgd s x t ho B e i _ 1 by1 ht hi hz hsz hby hz1 (by decide) sv xs.length xs hs hown ad news.length c news hx (by simp) hv h1 ?_ ?_ hbase ?_
  · unfold maxLen; omega
  · have : (xs.length + news.length) * by1 ≤ 1000000 * 16 := Nat.mul_le_mul hlen hby1
    omega
  · intro v' w' h1 h2 _ h4
    refine h v' w' ?_ h2 h4
    unfold OwnC
    simpa using h1

/-- The cells xs lie from the address a on. -/
def Cells (w : World) (a : Option Addr) (xs : List Value) : Prop :=
  xs = [] ∨ ∃ b o, a = some ⟨b, o, none⟩ ∧ b < w.heap.size ∧ ∀ i v, xs[i]? = some v → w.cell? ⟨b, o + i, none⟩ = some v
theorem Cells.of_block {w w' : World} {a : Option Addr} {xs : List Value} (h : Cells w a xs) (hs : w.heap.size ≤ w'.heap.size)
    (e : ∀ b o, a = some ⟨b, o, none⟩ → b < w.heap.size → w'.heap[b]? = w.heap[b]?) : Cells w' a xs := by
  rcases h with h | ⟨b, o, ha, hb, h⟩
  · exact .inl h
  · exact .inr ⟨b, o, ha, by omega, fun i v hv => by rw [World.cell?_of_block (w := w) (e b o ha hb)]; exact h i v hv⟩
theorem Cells.below {w w' : World} {a : Option Addr} {xs : List Value} (h : Cells w a xs) (hb : Below w.heap.size w w') : Cells w' a xs :=
  h.of_block hb.size fun b _ _ hlt => hb.block b hlt
theorem Cells.at {w : World} {a : Option Addr} {xs : List Value} (h : Cells w a xs) {i : Nat} (hi : i < xs.length) :
    ∃ b o, a = some ⟨b, o, none⟩ ∧ b < w.heap.size ∧ w.cell? ⟨b, o + i, none⟩ = some xs[i] := by
  rcases h with h | ⟨b, o, ha, hb, h⟩
  · subst h; simp at hi
  · exact ⟨b, o, ha, hb, h i xs[i] (by simp [hi])⟩
theorem OwnC.cells {w : World} {B : Nat} {e : TypeId} {sv : Value} {xs : List Value} (h : OwnC w B e sv xs) : ∃ a cap, sv = .slice a xs.length cap ∧ Cells w a xs := by
  obtain ⟨hl, h⟩ := h
  rcases h with ⟨hv, h0⟩ | ⟨g, cap, cur, hv, _, hg, _, _, _, hcur⟩
  · have : xs = [] := List.length_eq_zero_iff.1 h0
    subst this
    exact ⟨none, 0, hv, .inl rfl⟩
  · refine ⟨some ⟨g, 0, none⟩, cap, hv, .inr ⟨g, 0, rfl, ?_, ?_⟩⟩
    · rcases Nat.lt_or_ge g w.heap.size with h' | h'
      · exact h'
      · simp [Array.getElem?_eq_none h'] at hg
    · intro i v hi
      rw [← hcur] at hi
      have hi' : i < xs.length * 1 := by
        rcases Nat.lt_or_ge i (xs.length * 1) with h' | h'
        · exact h'
        · rw [List.getElem?_take_eq_none h'] at hi; simp at hi
      rw [List.getElem?_take_of_lt hi'] at hi
      simp only [Array.getElem?_toList] at hi
      simp [World.cell?, hg, hi]

/-- A byte in a cell. -/
def bv (b : UInt8) : Value := .int .u8 (b.toNat : Int)

theorem foldl_push (l : List UInt8) : ∀ s : ByteArray, (l.map fun b => (b.toNat : Int)).foldl (fun r n => r.push (UInt8.ofNat n.toNat)) s = s ++ str l := by
  induction l with
  | nil => intro s; unfold str; rw [ByteArray.ext_iff]; simp
  | cons b l ih =>
    intro s
    simp only [List.map_cons, List.foldl_cons]
    rw [ih]
    have : UInt8.ofNat (Int.toNat (b.toNat : Int)) = b := by simp
    rw [this]
    unfold str
    rw [ByteArray.ext_iff]
    simp [ByteArray.push]

/-- 'string(bytes)', wherever the bytes lie. -/
theorem run_conv_bytes (w : World) (ad : Addr) (c : Nat) (l : List UInt8) (h : ∀ j u, (l.map bv)[j]? = some u → w.cell? (ad.add j) = some u) :
    (convert 37 9 (.slice (some ad) l.length c)).run Tryd.prog w = .ok (.string (str l)) w := by
  rw [run_convert_bytes_string w 37 9 5 _ _ _ (by kernel_rfl) (by kernel_rfl) (by kernel_rfl)]
  have hl := run_loadCells_list (P := Tryd.prog) (w := w) ad (l.map bv) h
  rw [List.length_map] at hl
  rw [run_bytesToString w ad l.length c (l.map fun b => (b.toNat : Int)) (by rw [hl, List.map_map]; rfl)]
  rw [foldl_push]
  have : ByteArray.empty ++ str l = str l := by unfold str; rw [ByteArray.ext_iff]; simp
  rw [this]

theorem i64_and255 (n : Int) : bits .and .i64 n 255 = n % 256 := by
  have h255 : (BitVec.ofInt 64 255).toNat = 2 ^ 8 - 1 := by decide
  have key : (BitVec.ofInt 64 n &&& BitVec.ofInt 64 255).toNat = (n % ((2 ^ 64 : Nat) : Int)).toNat % 2 ^ 8 := by
    rw [BitVec.toNat_and, BitVec.toNat_ofInt, h255, Nat.and_two_pow_sub_one_eq_mod]
  show IntKind.i64.wrap ((BitVec.ofInt 64 n &&& BitVec.ofInt 64 255).toNat : Nat) = n % 256
  rw [key, IntKind.wrap_i64]
  omega
end Go.Proofs.YthplnjgijmilnaaDoor
