/- What the writer writes of values: one value's bytes, and a list of values one behind the other. -/
import Derived.Test.YthplnjgijmilnaaDoorWalkW
import Derived.Test.YthplnjgijmilnaaDoorAppStr
namespace Go.Proofs.YthplnjgijmilnaaDoor
open Go.RowKit

/-- A value's bytes. -/
def enc (k n : Int) (s : ByteArray) : List UInt8 :=
  if k = 1 then le8 (u64 n) else if k = 2 then [low n] else if k = 3 then low s.size :: s.toList else []
/-- A value that can be written. -/
def good (k : Int) (s : ByteArray) : Prop := k = 1 ∨ k = 2 ∨ (k = 3 ∧ s.size ≤ 40)

theorem enc_le (k n : Int) (s : ByteArray) (h : good k s) : (enc k n s).length ≤ 41 := by
  rcases h with h | h | ⟨h, hs⟩
  · unfold enc; rw [if_pos h, le8_length]; omega
  · unfold enc; rw [if_neg (by omega), if_pos h]; simp
  · unfold enc; rw [if_neg (by omega), if_neg (by omega), if_pos h, ByteArray.toList_eq, List.length_cons, Array.length_toList]; exact Nat.succ_le_succ hs

set_option maxHeartbeats 400000 in
theorem wValue_int (B g : Nat) (t n : Int) (s : ByteArray) (bs : List UInt8) (w : World) (h : WAt w B g t bs) (hl : bs.length ≤ 50000) :
    Calls Tryd.prog 69 #[.pointer (some ⟨g, 0, none⟩), .agg #[.int .i64 1, .int .i64 n, .string s]] w fun e w' => e = .returned (.tuple #[]) ∧ WAt w' B g t (bs ++ le8 (u64 n)) ∧ WKeep w w' g := by
  have hg := h.lt
  go_enter Tryd.func69, Tryd.ntmps69
  go_wp2_with (go_at_call 75; refine (wNumber_any B g t _ bs _ (h.below ((Below.refl _ _).alloc (Nat.le_refl _) _)) (by omega)).mono ?_; rintro e w' ⟨rfl, hw, hk⟩)
  go_end0
  exact ⟨rfl, hw, (WKeep.of_below ((Below.refl _ _).alloc (Nat.le_refl _) _) hg).trans hk⟩

set_option maxHeartbeats 400000 in
theorem wValue_bool (B g : Nat) (t n : Int) (s : ByteArray) (bs : List UInt8) (w : World) (h : WAt w B g t bs) (hl : bs.length ≤ 50000) :
    Calls Tryd.prog 69 #[.pointer (some ⟨g, 0, none⟩), .agg #[.int .i64 2, .int .i64 n, .string s]] w fun e w' => e = .returned (.tuple #[]) ∧ WAt w' B g t (bs ++ [low n]) ∧ WKeep w w' g := by
  have hg := h.lt
  go_enter Tryd.func69, Tryd.ntmps69
  go_wp2_with (go_at_call 53; refine (wSmall_any B g t _ bs _ (h.below ((Below.refl _ _).alloc (Nat.le_refl _) _)) (by omega)).mono ?_; rintro e w' ⟨rfl, hw, hk⟩)
  go_end0
  exact ⟨rfl, hw, (WKeep.of_below ((Below.refl _ _).alloc (Nat.le_refl _) _) hg).trans hk⟩

set_option maxRecDepth 100000 in
set_option maxHeartbeats 1000000 in
theorem wValue_text (B g : Nat) (t n : Int) (s : ByteArray) (bs : List UInt8) (w : World) (h : WAt w B g t bs) (hl : bs.length ≤ 50000) (hs : s.size ≤ 40) :
    Calls Tryd.prog 69 #[.pointer (some ⟨g, 0, none⟩), .agg #[.int .i64 3, .int .i64 n, .string s]] w fun e w' => e = .returned (.tuple #[]) ∧ WAt w' B g t (bs ++ low s.size :: s.toList) ∧ WKeep w w' g := by
  have hg := h.lt
  have h2 := h.below ((Below.refl _ _).alloc (Nat.le_refl _) (.cells #[.int .i64 3, .int .i64 n, .string s] 25))
  have hap : Apart (w.alloc (.cells #[.int .i64 3, .int .i64 n, .string s] 25)) g w.heap.size := apart_new h ((Below.refl _ _).alloc (Nat.le_refl _) _) (Nat.le_refl _) (by simp)
  go_enter Tryd.func69, Tryd.ntmps69
  go_wp2_with (go_at_call 53; refine (wSmall_any B g t _ bs _ h2 (by omega)).mono ?_; rintro e w' ⟨rfl, hw, hk⟩)
  have hg2 := hw.lt
  have hB := hw.1
  obtain ⟨sv, c0, c1, c2, ho, hn⟩ := hw.cells
  obtain ⟨hbk, hap2⟩ := hk.block _ hap
  have c3 : w'.cell? ⟨w.heap.size, 2, none⟩ = some (.string s) := by rw [World.cell?_of_block (w := w.alloc _) hbk]; simp
  have hne : w.heap.size ≠ g := by omega
  go_region_law
    ((refine step_append_str (by rfl) _ _ (by rfl) B sv (bs ++ [low s.size]) (by rfl) (by exact ho) (by simp) s (by rfl) (by simp; omega) (by simp; omega) ?_
      intro sv' w1 h1 h2 h3
      obtain ⟨a2, ln, cap2, rfl⟩ := h1.form
      have k1 : w1.cell? ⟨g, 1, none⟩ = some sv := (by rw [h2.cell_far _ (by simpa using hg2) (Ne.symm hn)]; exact c1)
      have k2 : w1.frozen? ⟨g, 1, none⟩ = false := (by rw [h2.frozen_far _ (by simpa using hg2) (Ne.symm hn)]; exact c2)))
  all_goals
    go_wp2
    go_end0
    have hst := hw.step (bs' := bs ++ low s.size :: s.toList) (sv' := .slice a2 ln cap2) c1 ((Below.refl _ _).drew) h2 (by simpa using h1) h3
    exact ⟨rfl, hst.1, ((WKeep.of_below ((Below.refl _ _).alloc (Nat.le_refl _) _) hg).trans hk).trans hst.2⟩

theorem wValue_any (B g : Nat) (t : Int) (v : V) (bs : List UInt8) (w : World) (h : WAt w B g t bs) (hl : bs.length ≤ 50000) (hv : good v.k v.s) :
    Calls Tryd.prog 69 #[.pointer (some ⟨g, 0, none⟩), v.val] w fun e w' => e = .returned (.tuple #[]) ∧ WAt w' B g t (bs ++ enc v.k v.n v.s) ∧ WKeep w w' g := by
  obtain ⟨k, n, s⟩ := v
  rcases hv with hk | hk | ⟨hk, hs⟩
  · simp only at hk
    subst hk
    exact wValue_int B g t n s bs w h hl
  · simp only at hk
    subst hk
    exact wValue_bool B g t n s bs w h hl
  · simp only at hk hs
    subst hk
    exact wValue_text B g t n s bs w h hl hs

/-- The bytes of some values, one behind the other. -/
def encAll (vs : List V) : List UInt8 := vs.flatMap fun v => enc v.k v.n v.s
theorem encAll_le (vs : List V) (h : ∀ v ∈ vs, good v.k v.s) : (encAll vs).length ≤ 41 * vs.length := by
  induction vs with
  | nil => simp [encAll]
  | cons v vs ih =>
    have h1 := enc_le v.k v.n v.s (h v (List.mem_cons_self))
    have h2 := ih fun u hu => h u (List.mem_cons_of_mem _ hu)
    unfold encAll at *
    rw [List.flatMap_cons, List.length_append, List.length_cons]
    omega
theorem encAll_snoc (vs : List V) (v : V) : encAll (vs ++ [v]) = encAll vs ++ enc v.k v.n v.s := by simp [encAll]

set_option maxHeartbeats 400000 in
theorem wPlain_any (B g : Nat) (t : Int) (a : Option Addr) (cap : Nat) (xs : List V) (bs : List UInt8) (w : World) (h : WAt w B g t bs) (hl : bs.length ≤ 10000) (hn : xs.length ≤ 64) (hgd : ∀ v ∈ xs, good v.k v.s) (hx : Vals w a xs) (hap : ∀ b o, a = some ⟨b, o, none⟩ → Apart w g b) :
    Calls Tryd.prog 55 #[.pointer (some ⟨g, 0, none⟩), .slice a xs.length cap] w fun e w' => e = .returned (.tuple #[]) ∧ WAt w' B g t (bs ++ encAll xs) ∧ WKeep w w' g := by
  go_enter Tryd.func55, Tryd.ntmps55
  go_wp2
  go_loopw [8] (fun i wr => ∃ k : Nat, k ≤ xs.length ∧ i = .int .i64 k ∧ WAt wr B g t (bs ++ encAll (xs.take k)) ∧ WKeep w wr g) (fun i _ => xs.length - (intOf i).toNat)
  case atStart => exact ⟨0, by omega, rfl, by simpa [encAll] using h, WKeep.refl _ _⟩
  case round =>
    obtain ⟨k, hk, rfl, hw, hkeep⟩ := hrel
    by_cases hlt : k < xs.length
    · have hx2 := vals_keep hx hkeep hap
      obtain ⟨b1, o1, rfl, hb1, x1, x2, x3⟩ := hx2.at hlt
      have hts := encAll_snoc (xs.take k) xs[k]
      rw [← List.take_succ_eq_append_getElem hlt] at hts
      have hle := encAll_le (xs.take k) fun v hv => hgd v (List.mem_of_mem_take hv)
      have hle2 : (xs.take k).length ≤ k := List.length_take_le _ _
      have hgk := hgd _ (List.getElem_mem hlt)
      have HT : Hid _ := hts
      have HGK : Hid (good xs[k].k xs[k].s) := hgk
      have hlen : (bs ++ encAll (xs.take k)).length ≤ 50000 := by rw [List.length_append]; omega
      clear hts hgk hle hle2
      generalize hbs : bs ++ encAll (xs.take k) = bk at *
      have HBS : Hid _ := hbs
      clear hbs
      go_wp2_with (go_at_call 69; refine (wValue_any B g t xs[k] bk _ (hw.below ((Below.refl _ _).alloc (Nat.le_refl _) _)) hlen HGK.out).mono ?_; rintro e w' ⟨rfl, hw2, hk2⟩)
      go_roundw
      case rel =>
        refine ⟨k + 1, by omega, by go_num, ?_, (hkeep.trans (WKeep.of_below ((Below.refl _ _).alloc (Nat.le_refl _) _) hw.lt)).trans hk2⟩
        rw [HT.out, ← List.append_assoc, HBS.out]; exact hw2
      case measure => simp [intOf]; omega
    · go_wp2
      go_end0
      have e : xs.take k = xs := List.take_of_length_le (by omega)
      rw [e] at hw
      exact ⟨rfl, hw, hkeep⟩
end Go.Proofs.YthplnjgijmilnaaDoor
