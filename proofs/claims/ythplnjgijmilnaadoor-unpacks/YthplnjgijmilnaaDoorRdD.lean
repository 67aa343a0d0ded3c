/- The reader's lists of values: so many one behind the other, and numbers that lie so far above the least. -/
import Derived.Test.YthplnjgijmilnaaDoorRdC
import Derived.Test.YthplnjgijmilnaaDoorWalkZ
namespace Go.Proofs.YthplnjgijmilnaaDoor
open Go.RowKit

def zeroV : V := ⟨0, 0, ⟨#[]⟩⟩

theorem made_V (n : Nat) : (madeCells #[.int .i64 0, .int .i64 0, .string ⟨#[]⟩] (n * 3)).toList = (List.replicate n zeroV).flatMap V.cells := by
  have key : ∀ n, (List.range (n * 3)).map (fun j => (#[Value.int .i64 0, .int .i64 0, .string ⟨#[]⟩] : Array Value)[j % 3]!) = (List.replicate n zeroV).flatMap V.cells := by
    intro n
    induction n with
    | zero => rfl
    | succ n ih =>
      have e : (n + 1) * 3 = n * 3 + 1 + 1 + 1 := by omega
      rw [e, List.range_succ, List.range_succ, List.range_succ, List.replicate_succ', List.flatMap_append, List.map_append, List.map_append, List.map_append, ih]
      have h0 : (n * 3) % 3 = 0 := by omega
      have h1 : (n * 3 + 1) % 3 = 1 := by omega
      have h2 : (n * 3 + 1 + 1) % 3 = 2 := by omega
      simp [h0, h1, h2, V.cells, zeroV]
  have := key n
  unfold madeCells
  rw [Array.toList_map, Array.toList_range]
  exact this

theorem make_V (n : Nat) (hn : n ≤ 1000) (W : World) : ∃ C, (Instr.makeSlice 22 (.int .i64 (n : Int)) (.int .i64 (n : Int))).run Tryd.prog W = .ok (.slice (some ⟨W.heap.size, 0, none⟩) n n) (W.alloc (.cells C 25)) ∧ RowT (W.alloc (.cells C 25)) W.heap.size (List.replicate n zeroV) [] := by
  obtain ⟨i, hi, hz, hs3, hby⟩ := info_parts infoV
  have hr := run_make (P := Tryd.prog) W 22 25 i _ (by kernel_rfl) hi hz .i64 .i64 (n : Int) (n : Int) (by omega) (Int.le_refl _) (by rw [hby]; omega) (by omega)
  rw [Int.toNat_natCast, hs3] at hr
  exact ⟨_, hr, _, (MapKept.heap_alloc W _).1, by rw [List.append_nil]; exact made_V n⟩

/-- So many values one behind the other. -/
def rdMany (t : Int) : Nat → List UInt8 → Option (List V × List UInt8)
  | 0, bs => some ([], bs)
  | m + 1, bs => match rdMany t m bs with
    | none => none
    | some (vs, r) => (rdValue t r).map fun x => (vs ++ [x.1], x.2)
theorem rdMany_length (t : Int) : ∀ (m : Nat) (bs rest : List UInt8) (vs : List V), rdMany t m bs = some (vs, rest) → vs.length = m := by
  intro m
  induction m with
  | zero => intro bs rest vs h; simp [rdMany] at h; simp [h.1.symm]
  | succ m ih =>
    intro bs rest vs h
    unfold rdMany at h
    cases hm : rdMany t m bs with
    | none => rw [hm] at h; simp at h
    | some x =>
      obtain ⟨us, r⟩ := x
      rw [hm] at h
      obtain ⟨x, _, e⟩ := Option.map_eq_some_iff.1 h
      simp only [Prod.mk.injEq] at e
      rw [← e.1, List.length_append, ih bs r us hm]
      rfl
theorem rdMany_none (t : Int) (bs : List UInt8) (k : Nat) (h : rdMany t k bs = none) : ∀ m, k ≤ m → rdMany t m bs = none := by
  intro m hm
  induction m with
  | zero => have : k = 0 := by omega
            subst this; exact h
  | succ m ih =>
    by_cases e : k = m + 1
    · subst e; exact h
    · unfold rdMany; rw [ih (by omega)]
theorem rdMany_succ (t : Int) (bs r : List UInt8) (k : Nat) (vs : List V) (h : rdMany t k bs = some (vs, r)) : rdMany t (k + 1) bs = (rdValue t r).map fun x => (vs ++ [x.1], x.2) := by
  rw [rdMany, h]

/-- Values in a new row. -/
def ValsAt (w w' : World) (vs : List V) (v : Value) : Prop := ∃ b, v = .slice (some ⟨b, 0, none⟩) vs.length vs.length ∧ w.heap.size ≤ b ∧ RowT w' b vs []

theorem set_at (us : List V) (k m : Nat) (v : V) (hk : us.length = k) (hm : k < m) : (us ++ List.replicate (m - k) zeroV).set k v = (us ++ [v]) ++ List.replicate (m - (k + 1)) zeroV := by
  obtain ⟨d, hd⟩ : ∃ d, m - k = d + 1 := ⟨m - k - 1, by omega⟩
  have e : m - (k + 1) = d := by omega
  rw [hd, e, List.replicate_succ, List.set_append_right _ _ (by omega), hk, Nat.sub_self]
  simp

theorem RowT.put {w : World} {g : Nat} {ys : List V} (h : RowT w g ys []) (v : V) (k : Nat) (hk : k < ys.length) : ∃ u : V,
    (w.cell? ⟨g, k * 3, none⟩ = some (.int .i64 u.k) ∧ w.frozen? ⟨g, k * 3, none⟩ = false) ∧ (w.cell? ⟨g, k * 3 + 1, none⟩ = some (.int .i64 u.n) ∧ w.frozen? ⟨g, k * 3 + 1, none⟩ = false) ∧ (w.cell? ⟨g, k * 3 + 2, none⟩ = some (.string u.s) ∧ w.frozen? ⟨g, k * 3 + 2, none⟩ = false) ∧
    RowT (((w.setCell ⟨g, k * 3, none⟩ (.int .i64 v.k)).setCell ⟨g, k * 3 + 1, none⟩ (.int .i64 v.n)).setCell ⟨g, k * 3 + 2, none⟩ (.string v.s)) g (ys.set k v) [] := by
  obtain ⟨⟨h0, h1, h2⟩, h3⟩ := h.at3 v k hk
  exact ⟨_, h0, h1, h2, h3⟩

set_option maxRecDepth 100000 in
set_option maxHeartbeats 1000000 in
theorem plain_any (g : Nat) (t : Int) (bs : List UInt8) (a2 : Addr) (m : Nat) (w : World) (h : RAt w g t bs a2) (ht : t = 1 ∨ t = 2 ∨ t = 3) (hm : m ≤ 255) :
    Calls Tryd.prog 79 #[.pointer (some ⟨g, 0, none⟩), .int .i64 m] w (ROut w g t a2 (rdMany t m bs) fun vs v w' => ValsAt w w' vs v) := by
  obtain ⟨C, hmk, hrow0⟩ := make_V m (by omega) w
  have hg := h.lt
  have hfar := h.far
  go_enter Tryd.func79, Tryd.ntmps79
  go_wp2_with fail
  clear hmk
  go_loopw [11] (fun i wr => ∃ (k : Nat) (us : List V) (r : List UInt8), k ≤ m ∧ i = .int .i64 k ∧ rdMany t k bs = some (us, r) ∧ RowT wr w.heap.size (us ++ List.replicate (m - k) zeroV) [] ∧ RAt wr g t r a2 ∧ RKeep w wr g) (fun i _ => m - (intOf i).toNat)
  case atStart => exact ⟨0, [], bs, by omega, rfl, rfl, by simpa using hrow0, h.alloc _, (RKeep.refl w g).alloc _⟩
  case round =>
    obtain ⟨k, us, r, hk, rfl, hus, hrow, hA, hkeep⟩ := hrel
    have HUS : Hid (rdMany t k bs = some (us, r)) := hus
    have HUL : Hid (us.length = k) := rdMany_length t k bs r us hus
    clear hus
    by_cases hlt : k < m
    · have hv := value_any g t r a2 wr hA ht
      go_wp2_with fail
      refine hv.mono ?_
      rintro e w1 ⟨hk1, ⟨hr, rfl⟩ | ⟨x, rest, v, hr, rfl, rfl, hA1⟩⟩
      · go_wp2_with fail
        refine ⟨rfl, ROut.up (hkeep.trans hk1) (rdMany_none t bs (k + 1) ?_ m (by omega))⟩
        rw [rdMany_succ t bs r k us HUS.out, hr]; rfl
      · clear hv
        have hrow1 : RowT w1 w.heap.size (us ++ List.replicate (m - k) zeroV) [] := hrow.of_block (hk1.block _ hrow.lt (by omega))
        have hlen : (us ++ List.replicate (m - k) zeroV).length = m := by rw [List.length_append, HUL.out, List.length_replicate]; omega
        obtain ⟨old, ⟨c0, d0⟩, ⟨c1, d1⟩, ⟨c2, d2⟩, hset⟩ := hrow1.put x k (by rw [hlen]; exact hlt)
        rw [set_at us k m x HUL.out hlt] at hset
        have HSET : Hid _ := hset
        have HN : Hid (rdMany t (k + 1) bs = some (us ++ [x], rest)) := by
          show _ = _
          rw [rdMany_succ t bs r k us HUS.out, hr]; rfl
        clear hset hlen hr
        go_wp2
        go_roundw
        case rel =>
          refine ⟨k + 1, us ++ [x], rest, by omega, by go_num, HN.out, HSET.out, ?_, ?_⟩
          · exact ((hA1.setOther (by omega) (by omega) _ _).setOther (by omega) (by omega) _ _).setOther (by omega) (by omega) _ _
          · exact (((hkeep.trans hk1).setNew (Nat.le_refl _) _ _).setNew (Nat.le_refl _) _ _).setNew (Nat.le_refl _) _ _
        case measure => simp [intOf]; omega
    · have hke : k = m := by omega
      subst hke
      go_wp2
      go_ret
      rw [Nat.sub_self, List.replicate_zero, List.append_nil] at hrow
      refine ROut.ok hkeep HUS.out ⟨w.heap.size, ?_, Nat.le_refl _, hrow⟩ hA
      rw [HUL.out]
      rfl
end Go.Proofs.YthplnjgijmilnaaDoor
