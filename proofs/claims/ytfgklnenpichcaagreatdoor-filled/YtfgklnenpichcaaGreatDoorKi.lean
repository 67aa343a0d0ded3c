/- The reader's lists of values: so many one behind the other, and numbers that lie so far above the least. -/
import Derived.Test.YtfgklnenpichcaaGreatDoorKh
import Derived.Test.YtfgklnenpichcaaGreatDoorKg
namespace Go.Proofs.YtfgklnenpichcaaGreatDoor
open Go.RowKit

def zeroV : V := ⟨0, 0, ⟨#[]⟩⟩

theorem made_V (n : Nat) : (madeCells #[.int .i64 0, .int .i64 0, .string ⟨#[]⟩] (n * 3)).toList = (List.replicate n zeroV).flatMap V.cells := by
  have key : ∀ n, (List.range (n * 3)).map (fun j => (#[Value.int .i64 0, .int .i64 0, .string ⟨#[]⟩] : Array Value)[j % 3]!) = (List.replicate n zeroV).flatMap V.cells := by
    intro n
    induction n with
    | zero => rfl
    | succ n ih =>
      have e : (n + 1) * 3 = n * 3 + 1 + 1 + 1 := by omega
      rw [e, List.range_succ, List.range_succ, List.range_succ, List.replicate_succ', List.flatMap_append, List.map_append, List.map_append, List.map_append, ih]
      have h0 : (n * 3) % 3 = 0 := by omega
      have h1 : (n * 3 + 1) % 3 = 1 := by omega
      have h2 : (n * 3 + 1 + 1) % 3 = 2 := by omega
      simp [h0, h1, h2, V.cells, zeroV]
  have := key n
  unfold madeCells
  rw [Array.toList_map, Array.toList_range]
  exact this

theorem make_V (n : Nat) (hn : n ≤ 1000) (W : World) : ∃ C, (Instr.makeSlice 37 (.int .i64 (n : Int)) (.int .i64 (n : Int))).run Tryz.prog W = .ok (.slice (some ⟨W.heap.size, 0, none⟩) n n) (W.alloc (.cells C 36)) ∧ RowT (W.alloc (.cells C 36)) W.heap.size (List.replicate n zeroV) [] := by
  obtain ⟨i, hi, hz, hs3, hby⟩ := info_parts infoV
  have hr := run_make (P := Tryz.prog) W 37 36 i _ (by kernel_rfl) hi hz .i64 .i64 (n : Int) (n : Int) (by omega) (Int.le_refl _) (by rw [hby]; omega) (by omega)
  rw [Int.toNat_natCast, hs3] at hr
  exact ⟨_, hr, _, (MapKept.heap_alloc W _).1, by rw [List.append_nil]; exact made_V n⟩

/-- So many values one behind the other. -/
def rdMany (t : Int) : Nat → List UInt8 → Option (List V × List UInt8)
  | 0, bs => some ([], bs)
  | m + 1, bs => match rdMany t m bs with
    | none => none
    | some (vs, r) => (rdValue t r).map fun x => (vs ++ [x.1], x.2)
theorem rdMany_length (t : Int) : ∀ (m : Nat) (bs rest : List UInt8) (vs : List V), rdMany t m bs = some (vs, rest) → vs.length = m := by
  intro m
  induction m with
  | zero => intro bs rest vs h; simp [rdMany] at h; simp [h.1.symm]
  | succ m ih =>
    intro bs rest vs h
    unfold rdMany at h
    cases hm : rdMany t m bs with
    | none => rw [hm] at h; simp at h
    | some x =>
      obtain ⟨us, r⟩ := x
      rw [hm] at h
      obtain ⟨x, _, e⟩ := Option.map_eq_some_iff.1 h
      simp only [Prod.mk.injEq] at e
      rw [← e.1, List.length_append, ih bs r us hm]
      rfl
theorem rdMany_none (t : Int) (bs : List UInt8) (k : Nat) (h : rdMany t k bs = none) : ∀ m, k ≤ m → rdMany t m bs = none := by
  intro m hm
  induction m with
  | zero => have : k = 0 := by omega
            subst this; exact h
  | succ m ih =>
    by_cases e : k = m + 1
    · subst e; exact h
    · unfold rdMany; rw [ih (by omega)]
theorem rdMany_succ (t : Int) (bs r : List UInt8) (k : Nat) (vs : List V) (h : rdMany t k bs = some (vs, r)) : rdMany t (k + 1) bs = (rdValue t r).map fun x => (vs ++ [x.1], x.2) := by
  rw [rdMany, h]

/-- Values in a new row. -/
def ValsAt (w w' : World) (vs : List V) (v : Value) : Prop := ∃ b, v = .slice (some ⟨b, 0, none⟩) vs.length vs.length ∧ w.heap.size ≤ b ∧ RowT w' b vs []

theorem set_at (us : List V) (k m : Nat) (v : V) (hk : us.length = k) (hm : k < m) : (us ++ List.replicate (m - k) zeroV).set k v = (us ++ [v]) ++ List.replicate (m - (k + 1)) zeroV := by
  obtain ⟨d, hd⟩ : ∃ d, m - k = d + 1 := ⟨m - k - 1, by omega⟩
  have e : m - (k + 1) = d := by omega
  rw [hd, e, List.replicate_succ, List.set_append_right _ _ (by omega), hk, Nat.sub_self]
  simp

theorem RowT.put {w : World} {g : Nat} {ys : List V} (h : RowT w g ys []) (v : V) (k : Nat) (hk : k < ys.length) : ∃ u : V,
    (w.cell? ⟨g, k * 3, none⟩ = some (.int .i64 u.k) ∧ w.frozen? ⟨g, k * 3, none⟩ = false) ∧ (w.cell? ⟨g, k * 3 + 1, none⟩ = some (.int .i64 u.n) ∧ w.frozen? ⟨g, k * 3 + 1, none⟩ = false) ∧ (w.cell? ⟨g, k * 3 + 2, none⟩ = some (.string u.s) ∧ w.frozen? ⟨g, k * 3 + 2, none⟩ = false) ∧
    RowT (((w.setCell ⟨g, k * 3, none⟩ (.int .i64 v.k)).setCell ⟨g, k * 3 + 1, none⟩ (.int .i64 v.n)).setCell ⟨g, k * 3 + 2, none⟩ (.string v.s)) g (ys.set k v) [] := by
  obtain ⟨⟨h0, h1, h2⟩, h3⟩ := h.at3 v k hk
  exact ⟨_, h0, h1, h2, h3⟩

set_option maxRecDepth 100000 in
set_option maxHeartbeats 1000000 in
theorem plain_any (g : Nat) (t : Int) (bs : List UInt8) (a2 : Addr) (m : Nat) (w : World) (h : RAt w g t bs a2) (ht : t = 1 ∨ t = 2 ∨ t = 3) (hm : m ≤ 255) :
    Calls Tryz.prog 120 #[.pointer (some ⟨g, 0, none⟩), .int .i64 m] w (ROut w g t a2 (rdMany t m bs) fun vs v w' => ValsAt w w' vs v) := by
  obtain ⟨C, hmk, hrow0⟩ := make_V m (by omega) w
  have hg := h.lt
  have hfar := h.far
  go_enter Tryz.func120, Tryz.ntmps120
  go_wp2_with fail
  clear hmk
  go_loopw [11] (fun i wr => ∃ (k : Nat) (us : List V) (r : List UInt8), k ≤ m ∧ i = .int .i64 k ∧ rdMany t k bs = some (us, r) ∧ RowT wr w.heap.size (us ++ List.replicate (m - k) zeroV) [] ∧ RAt wr g t r a2 ∧ RKeep w wr g) (fun i _ => m - (intOf i).toNat)
  case atStart => exact ⟨0, [], bs, by omega, rfl, rfl, by simpa using hrow0, h.alloc _, (RKeep.refl w g).alloc _⟩
  case round =>
    obtain ⟨k, us, r, hk, rfl, hus, hrow, hA, hkeep⟩ := hrel
    have HUS : Hid (rdMany t k bs = some (us, r)) := hus
    have HUL : Hid (us.length = k) := rdMany_length t k bs r us hus
    clear hus
    by_cases hlt : k < m
    · have hv := value_any g t r a2 wr hA ht
      go_wp2_with fail
      refine hv.mono ?_
      rintro e w1 ⟨hk1, ⟨hr, rfl⟩ | ⟨x, rest, v, hr, rfl, rfl, hA1⟩⟩
      · go_wp2_with fail
        refine ⟨rfl, ROut.up (hkeep.trans hk1) (rdMany_none t bs (k + 1) ?_ m (by omega))⟩
        rw [rdMany_succ t bs r k us HUS.out, hr]; rfl
      · clear hv
        have hrow1 : RowT w1 w.heap.size (us ++ List.replicate (m - k) zeroV) [] := hrow.of_block (hk1.block _ hrow.lt (by omega))
        have hlen : (us ++ List.replicate (m - k) zeroV).length = m := by rw [List.length_append, HUL.out, List.length_replicate]; omega
        obtain ⟨old, ⟨c0, d0⟩, ⟨c1, d1⟩, ⟨c2, d2⟩, hset⟩ := hrow1.put x k (by rw [hlen]; exact hlt)
        rw [set_at us k m x HUL.out hlt] at hset
        have HSET : Hid _ := hset
        have HN : Hid (rdMany t (k + 1) bs = some (us ++ [x], rest)) := by
          show _ = _
          rw [rdMany_succ t bs r k us HUS.out, hr]; rfl
        clear hset hlen hr
        go_wp2
        go_roundw
        case rel =>
          refine ⟨k + 1, us ++ [x], rest, by omega, by go_num, HN.out, HSET.out, ?_, ?_⟩
          · exact ((hA1.setOther (by omega) (by omega) _ _).setOther (by omega) (by omega) _ _).setOther (by omega) (by omega) _ _
          · exact (((hkeep.trans hk1).setNew (Nat.le_refl _) _ _).setNew (Nat.le_refl _) _ _).setNew (Nat.le_refl _) _ _
        case measure => simp [intOf]; omega
    · have hke : k = m := by omega
      subst hke
      go_wp2
      go_ret
      rw [Nat.sub_self, List.replicate_zero, List.append_nil] at hrow
      refine ROut.ok hkeep HUS.out ⟨w.heap.size, ?_, Nat.le_refl _, hrow⟩ hA
      rw [HUL.out]
      rfl
end Go.Proofs.YtfgklnenpichcaaGreatDoor

/-! The reader's lists of values, more: packed numbers. -/
namespace Go.Proofs.YtfgklnenpichcaaGreatDoor
open Go.RowKit

/-- The value that lies so far above the least. -/
def aboveV (t least : Int) (d : Nat) : V := ⟨t, wrap64 (IntKind.u64.wrap (IntKind.u64.wrap least + (d : Int))), ⟨#[]⟩⟩

theorem RAt.of_block {w w' : World} {g : Nat} {t : Int} {bs : List UInt8} {a2 : Addr} (h : RAt w g t bs a2) (e : w'.heap[g]? = w.heap[g]?) (e2 : w'.heap[2]? = w.heap[2]?) : RAt w' g t bs a2 :=
  ⟨h.far, by rw [e]; exact h.cells, by rw [World.cell?_of_block (w := w) e2]; exact h.form, h.len⟩

set_option maxRecDepth 100000 in
set_option maxHeartbeats 1000000 in
theorem above_any (g : Nat) (t : Int) (bs : List UInt8) (a2 : Addr) (least : Int) (a : Option Addr) (cap : Nat) (ns : List Nat) (w : World) (h : RAt w g t bs a2) (hn : ns.length ≤ 64) (hx : Cells w a (ns.map uv)) :
    Calls Tryz.prog 141 #[.pointer (some ⟨g, 0, none⟩), .int .i64 least, .slice a ns.length cap] w fun e w' => (∃ v, e = .returned v ∧ ValsAt w w' (ns.map (aboveV t least)) v) ∧ Below w.heap.size w w' := by
  obtain ⟨C, hmk, hrow0⟩ := make_V ns.length (by omega) w
  have hg := h.lt
  have hfar := h.far
  go_enter Tryz.func141, Tryz.ntmps141
  go_wp2_with fail
  clear hmk
  go_loopw [15] (fun i wr => ∃ k : Nat, k ≤ ns.length ∧ i = .int .i64 k ∧ RowT wr w.heap.size ((ns.take k).map (aboveV t least) ++ List.replicate (ns.length - k) zeroV) [] ∧ Below w.heap.size w wr) (fun i _ => ns.length - (intOf i).toNat)
  case atStart => exact ⟨0, by omega, rfl, by simpa using hrow0, (Below.refl _ _).alloc (Nat.le_refl _) _⟩
  case round =>
    obtain ⟨k, hk, rfl, hrow, hbw⟩ := hrel
    by_cases hlt : k < ns.length
    · obtain ⟨b1, o1, rfl, hb1, x1⟩ := (hx.below hbw).at (i := k) (by simpa using hlt)
      rw [List.getElem_map] at x1
      unfold uv at x1
      have c9 : wr.cell? ⟨g, 0, none⟩ = some (.int .i64 t) := (h.below hbw).typ
      have hul : ((ns.take k).map (aboveV t least)).length = k := by simp; omega
      have hlen : ((ns.take k).map (aboveV t least) ++ List.replicate (ns.length - k) zeroV).length = ns.length := by rw [List.length_append, hul, List.length_replicate]; omega
      obtain ⟨old, ⟨c0, d0⟩, ⟨c1, d1⟩, ⟨c2, d2⟩, hset⟩ := hrow.put (aboveV t least ns[k]) k (by rw [hlen]; exact hlt)
      rw [set_at _ k ns.length _ hul hlt] at hset
      have hts : (ns.take k).map (aboveV t least) ++ [aboveV t least ns[k]] = (ns.take (k + 1)).map (aboveV t least) := by
        rw [List.take_succ_eq_append_getElem hlt, List.map_append]; rfl
      rw [hts] at hset
      have HSET : Hid _ := hset
      clear hset hts hlen hul
      go_wp2
      go_roundw
      case rel =>
        refine ⟨k + 1, by omega, by go_num, ?_, ((hbw.setCell (p := ⟨w.heap.size, k * 3, none⟩) (Nat.le_refl _) _).setCell (p := ⟨w.heap.size, k * 3 + 1, none⟩) (Nat.le_refl _) _).setCell (p := ⟨w.heap.size, k * 3 + 2, none⟩) (Nat.le_refl _) _⟩
        exact HSET.out
      case measure => simp [intOf]; omega
    · have hke : k = ns.length := by omega
      subst hke
      go_wp2
      go_ret
      rw [Nat.sub_self, List.replicate_zero, List.append_nil, List.take_length] at hrow
      refine ⟨⟨_, rfl, w.heap.size, ?_, Nat.le_refl _, hrow⟩, hbw⟩
      rw [List.length_map]
      rfl

/-- Values that lie in new memory, or none. -/
def ValsR (w w' : World) (vs : List V) (v : Value) : Prop := ∃ a cap, v = .slice a vs.length cap ∧ Vals w' a vs ∧ ∀ b o, a = some ⟨b, o, none⟩ → w.heap.size ≤ b
theorem ValsAt.toR {w w' : World} {vs : List V} {v : Value} (h : ValsAt w w' vs v) : ValsR w w' vs v := by
  obtain ⟨b, rfl, hb, hr⟩ := h
  refine ⟨_, _, rfl, hr.vals, fun b' o e => ?_⟩
  simp at e
  omega
theorem ValsR.mono {w w1 w' : World} {vs : List V} {v : Value} (h : ValsR w1 w' vs v) (hs : w.heap.size ≤ w1.heap.size) : ValsR w w' vs v := by
  obtain ⟨a, cap, rfl, hv, hb⟩ := h
  exact ⟨_, _, rfl, hv, fun b o e => Nat.le_trans hs (hb b o e)⟩

/-- So many packed values. -/
def rdPacked (t : Int) (m : Nat) (bs : List UInt8) : Option (List V × List UInt8) :=
  if t = 2 then (rdFields 1 m bs).map fun x => (x.1.map (aboveV t 0), x.2)
  else if m = 0 then some ([], bs)
  else match rdNumber bs with
    | none => none
    | some (least, r) => match rdByte r with
      | none => none
      | some (width, r2) => if width ≤ 64 then (rdFields width m r2).map fun x => (x.1.map (aboveV t least), x.2) else none

theorem rdFields_length {width count : Nat} {bs rest : List UInt8} {ns : List Nat} (h : rdFields width count bs = some (ns, rest)) : ns.length = count := by
  unfold rdFields at h
  split at h
  · simp at h
  · simp at h; rw [← h.1]; simp

set_option maxRecDepth 100000 in
set_option maxHeartbeats 1000000 in
theorem packed_any (g : Nat) (t : Int) (bs : List UInt8) (a2 : Addr) (m : Nat) (w : World) (h : RAt w g t bs a2) (hm : m ≤ 64) :
    Calls Tryz.prog 123 #[.pointer (some ⟨g, 0, none⟩), .int .i64 m] w (ROut w g t a2 (rdPacked t m bs) fun vs v w' => ValsR w w' vs v) := by
  have hg := h.lt
  have c0 := h.typ
  by_cases h2 : t = 2
  · subst h2
    have hf := fields_any g 2 bs a2 1 m w h (by omega) hm
    simp only [Int.natCast_one] at hf
    go_enter Tryz.func123, Tryz.ntmps123
    go_wp2_with fail
    refine hf.mono ?_
    rintro e w1 ⟨hk, ⟨hr, rfl⟩ | ⟨ns, rest, v, hr, rfl, ⟨b, rfl, hb, hx⟩, hA⟩⟩
    · go_wp2_with fail
      exact ⟨rfl, ROut.up hk (by simp [rdPacked, hr])⟩
    · have hnl := rdFields_length hr
      clear hf
      have ha := above_any g 2 rest a2 0 (some ⟨b, 0, none⟩) ns.length ns w1 hA (by omega) hx
      clear hnl
      go_wp2_with fail
      refine ha.mono ?_
      rintro e w2 ⟨⟨v, rfl, hv⟩, hb2⟩
      go_wp2_with fail
      go_ret
      exact ROut.ok (hk.trans (RKeep.of_below hb2 g)) (by simp [rdPacked, hr]) (hv.toR.mono hk.size) (hA.below hb2)
  · have h2' : (t == 2) = false := by simpa using h2
    by_cases h0 : m = 0
    · subst h0
      go_enter Tryz.func123, Tryz.ntmps123
      go_wp2_with fail
      go_ret
      exact ROut.ok (RKeep.refl _ _) (by simp [rdPacked, h2]) ⟨none, 0, rfl, .inl rfl, fun b o e => by simp at e⟩ h
    · have h0' : ((m : Int) == 0) = false := by rw [beq_eq_false_iff_ne]; omega
      have hn := number_any g t bs a2 w h
      go_enter Tryz.func123, Tryz.ntmps123
      go_wp2_with fail
      refine hn.mono ?_
      rintro e w1 ⟨hk, ⟨hr, rfl⟩ | ⟨least, r, v, hr, rfl, rfl, hA⟩⟩
      · go_wp2_with fail
        exact ⟨rfl, ROut.up hk (by simp [rdPacked, h2, h0, hr])⟩
      · have hn2 := small_any g t r a2 w1 hA
        clear hn
        go_wp2_with fail
        refine hn2.mono ?_
        rintro e w2 ⟨hk2, ⟨hr2, rfl⟩ | ⟨width, r2, v, hr2, rfl, rfl, hA2⟩⟩
        · go_wp2_with fail
          exact ⟨rfl, ROut.up (hk.trans hk2) (by simp [rdPacked, h2, h0, hr, hr2])⟩
        · have hwl := rdByte_lt hr2
          clear hn2
          by_cases hw : width ≤ 64
          · have hwI : ((width : Int) ≤ 64) := by omega
            have hf := fields_any g t r2 a2 width m w2 hA2 hw hm
            go_wp2_with fail
            refine (need_true _).mono ?_
            rintro e w' ⟨rfl, rfl⟩
            go_wp2_with fail
            refine hf.mono ?_
            rintro e w3 ⟨hk3, ⟨hr3, rfl⟩ | ⟨ns, rest, v, hr3, rfl, ⟨b, rfl, hb, hx⟩, hA3⟩⟩
            · go_wp2_with fail
              exact ⟨rfl, ROut.up ((hk.trans hk2).trans hk3) (by simp [rdPacked, h2, h0, hr, hr2, hr3])⟩
            · have hnl := rdFields_length hr3
              clear hf
              have ha := above_any g t rest a2 least (some ⟨b, 0, none⟩) ns.length ns w3 hA3 (by omega) hx
              clear hnl
              go_wp2_with fail
              refine ha.mono ?_
              rintro e w4 ⟨⟨v, rfl, hv⟩, hb4⟩
              go_wp2_with fail
              go_ret
              exact ROut.ok (((hk.trans hk2).trans hk3).trans (RKeep.of_below hb4 g)) (by simp [rdPacked, h2, h0, hr, hr2, hr3, hw]) (hv.toR.mono ((hk.trans hk2).trans hk3).size) (hA3.below hb4)
          · have hwI : ¬ ((width : Int) ≤ 64) := by omega
            go_wp2_with fail
            rw [show decide ((width : Int) ≤ 64) = false from decide_eq_false (by omega)]
            refine (need_false a2 _ hA2.form).mono ?_
            rintro e w' ⟨rfl, rfl⟩
            go_wp2_with fail
            exact ⟨rfl, ROut.up (hk.trans hk2) (by simp [rdPacked, h2, h0, hr, hr2, hw])⟩
end Go.Proofs.YtfgklnenpichcaaGreatDoor

/-! The reader's lists of values, more: a dictionary, and values laid among the NULLs. -/
namespace Go.Proofs.YtfgklnenpichcaaGreatDoor
open Go.RowKit

/-- So many values out of a dictionary that lies ahead of them. -/
def rdDict (t : Int) (m : Nat) (bs : List UInt8) : Option (List V × List UInt8) :=
  match rdByte bs with
  | none => none
  | some (n, r) => match rdMany t n r with
    | none => none
    | some (ws, r2) => match rdFields 4 m r2 with
      | none => none
      | some (ks, r3) => if ∀ k ∈ ks, k < ws.length then some (ks.map fun k => ws.getD k zeroV, r3) else none

theorem fields_lt {width count : Nat} {bs rest : List UInt8} {ns : List Nat} (h : rdFields width count bs = some (ns, rest)) : ∀ n ∈ ns, n < 2 ^ width := by
  unfold rdFields at h
  split at h
  · simp at h
  · simp at h
    intro n hn
    rw [← h.1] at hn
    obtain ⟨i, _, rfl⟩ := List.mem_map.1 hn
    exact bitsTo_lt _ _ _

theorem cells_rkeep {w w' : World} {g : Nat} {b : Nat} {xs : List Value} (h : Cells w (some ⟨b, 0, none⟩) xs) (hk : RKeep w w' g) (hn : b ≠ g) : Cells w' (some ⟨b, 0, none⟩) xs :=
  h.of_block hk.size fun b' o e hb => by
    simp at e
    exact hk.block b' hb (by rw [← e.1]; exact hn)
/-- What is new is written over: the old stands. -/
theorem RKeep.over {w w1 w2 : World} {g G : Nat} (h : RKeep w w1 g) (k : RKeep w1 w2 G) (hG : w.heap.size ≤ G) : RKeep w w2 g :=
  ⟨k.os.trans h.os, k.tape.trans h.tape, k.output.trans h.output, Nat.le_trans h.size k.size, fun j hj hne => (k.block j (Nat.lt_of_lt_of_le hj h.size) (by omega)).trans (h.block j hj hne)⟩
theorem RKeep.more {w w1 : World} {G : Nat} (h : RKeep w w1 G) (i : Nat) (v : Value) : RKeep w (w1.setCell ⟨G, i, none⟩ v) G := h.trans (RKeep.set _ _ _ _)

set_option maxRecDepth 100000 in
set_option maxHeartbeats 2000000 in
theorem dictionary_any (g : Nat) (t : Int) (bs : List UInt8) (a2 : Addr) (m : Nat) (w : World) (h : RAt w g t bs a2) (ht : t = 1 ∨ t = 2 ∨ t = 3) (hm : m ≤ 64) :
    Calls Tryz.prog 121 #[.pointer (some ⟨g, 0, none⟩), .int .i64 m] w (ROut w g t a2 (rdDict t m bs) fun vs v w' => ValsAt w w' vs v) := by
  have hg := h.lt
  have hfar := h.far
  have hn := small_any g t bs a2 w h
  go_enter Tryz.func121, Tryz.ntmps121
  go_wp2_with fail
  refine hn.mono ?_
  rintro e w1 ⟨hk1, ⟨hr, rfl⟩ | ⟨n, r, v, hr, rfl, rfl, hA1⟩⟩
  · go_wp2_with fail
    exact ⟨rfl, ROut.up hk1 (by simp [rdDict, hr])⟩
  · have hn256 := rdByte_lt hr
    have hp := plain_any g t r a2 n w1 hA1 ht (by omega)
    clear hn
    go_wp2_with fail
    refine hp.mono ?_
    rintro e w2 ⟨hk2, ⟨hr2, rfl⟩ | ⟨ws, r2, v, hr2, rfl, ⟨bw, rfl, hbw, hrw⟩, hA2⟩⟩
    · go_wp2_with fail
      exact ⟨rfl, ROut.up (hk1.trans hk2) (by simp [rdDict, hr, hr2])⟩
    · have hwl : ws.length < 256 := by rw [rdMany_length t n r r2 ws hr2]; exact hn256
      obtain ⟨C, hmk, hrow0⟩ := make_V m (by omega) w2
      have hf := fields_any g t r2 a2 4 m _ (hA2.alloc (.cells C 36)) (by omega) hm
      clear hp
      go_wp2_with fail
      refine hf.mono ?_
      rintro e w3 ⟨hk3, ⟨hr3, rfl⟩ | ⟨ks, r3, v, hr3, rfl, ⟨bk, rfl, hbk, hck⟩, hA3⟩⟩
      · go_wp2_with fail
        exact ⟨rfl, ROut.up (((hk1.trans hk2).alloc _).trans hk3) (by simp [rdDict, hr, hr2, hr3])⟩
      · have hkl := rdFields_length hr3
        have hspec : rdDict t m bs = if ∀ k ∈ ks, k < ws.length then some (ks.map fun k => ws.getD k zeroV, r3) else none := by simp only [rdDict, hr, hr2, hr3]
        have HSP : Hid _ := hspec
        have hkeep3 := ((hk1.trans hk2).alloc (.cells C 36)).trans hk3
        have hs1 := hk1.size
        have hs2 := hk2.size
        have hrwl := hrw.lt
        have hrow3 : RowT w3 w2.heap.size (List.replicate m zeroV) [] := hrow0.of_block (hk3.block _ (by simp) (by omega))
        have hrw3 : RowT w3 bw ws [] := (hrw.of_block ((Below.refl w2.heap.size w2).alloc (Nat.le_refl _) (.cells C 36) |>.block bw hrwl)).of_block (hk3.block _ (by simp; omega) (by omega))
        simp at hbk
        clear hspec hf hmk hrow0 hr hr2 hr3 hk1 hk2 hk3 hA1 hA2 hrw hn256
        go_wp2_with fail
        obtain ⟨G, hG⟩ : ∃ G, G = w2.heap.size := ⟨_, rfl⟩
        rw [← hG]
        rw [← hG] at hrow3
        have hGw : w.heap.size ≤ G := by omega
        have hGg : G ≠ g := by omega
        have hG2 : G ≠ 2 := by omega
        have hGb : G ≠ bw := by omega
        have hGk : G ≠ bk := by omega
        clear hG hbk hrwl hs1 hs2 hbw
        go_loopw [19] (fun i wr => ∃ k : Nat, k ≤ m ∧ i = .int .i64 k ∧ (∀ x ∈ ks.take k, x < ws.length) ∧ RowT wr G ((ks.take k).map (fun k => ws.getD k zeroV) ++ List.replicate (m - k) zeroV) [] ∧ RKeep w3 wr G) (fun i _ => m - (intOf i).toNat)
        case atStart => exact ⟨0, by omega, rfl, by simp, by simpa using hrow3, RKeep.refl _ _⟩
        case round =>
          obtain ⟨k, hk, rfl, hall, hrow, hkp⟩ := hrel
          have HALL : Hid _ := hall
          clear hall
          have hAr : RAt wr g t r3 a2 := hA3.of_block (hkp.block _ hA3.lt (Ne.symm hGg)) (hkp.block _ (by have := hA3.lt; omega) (Ne.symm hG2))
          have hKr : RKeep w wr g := hkeep3.over hkp hGw
          by_cases hlt : k < m
          · have hlk : k < ks.length := by omega
            obtain ⟨b1, o1, e1, hb1, x1⟩ := (cells_rkeep hck hkp (Ne.symm hGk)).at (i := k) (by simpa using hlk)
            simp only [Option.some.injEq, Addr.mk.injEq] at e1
            obtain ⟨rfl, rfl, _⟩ := e1
            rw [List.getElem_map, Nat.zero_add] at x1
            unfold uv at x1
            have hts : ks.take (k + 1) = ks.take k ++ [ks[k]] := List.take_succ_eq_append_getElem hlk
            have HTS : Hid _ := hts
            have HMEM : Hid (ks[k] ∈ ks) := List.getElem_mem hlk
            clear hts
            generalize ks[k] = q at *
            have hwl64 : IntKind.u64.wrap (ws.length : Int) = (ws.length : Int) := wrap_u64_nat _ (by omega)
            by_cases hin : q < ws.length
            · have hinI : ((q : Int) < (ws.length : Int)) := by omega
              have hul : ((ks.take k).map (fun k => ws.getD k zeroV)).length = k := by simp; omega
              have hlen : ((ks.take k).map (fun k => ws.getD k zeroV) ++ List.replicate (m - k) zeroV).length = m := by rw [List.length_append, hul, List.length_replicate]; omega
              have hrwr : RowT wr bw ws [] := hrw3.of_block (hkp.block _ hrw3.lt (Ne.symm hGb))
              obtain ⟨b2, o2, e2, hb2, y1, y2, y3⟩ := hrwr.vals.at hin
              simp only [Option.some.injEq, Addr.mk.injEq] at e2
              obtain ⟨rfl, rfl, _⟩ := e2
              rw [Nat.zero_add] at y1 y2 y3
              obtain ⟨old, ⟨c0, d0⟩, ⟨c1, d1⟩, ⟨c2, d2⟩, hset⟩ := hrow.put ws[q] k (by rw [hlen]; exact hlt)
              rw [set_at _ k m _ hul hlt] at hset
              have hts : (ks.take k).map (fun k => ws.getD k zeroV) ++ [ws[q]] = (ks.take (k + 1)).map (fun k => ws.getD k zeroV) := by
                rw [HTS.out, List.map_append]; simp [hin]
              rw [hts] at hset
              have HSET : Hid _ := hset
              clear hset hts hlen hul
              go_wp2_with fail
              refine (need_true _).mono ?_
              rintro e w' ⟨rfl, rfl⟩
              go_wp2
              go_roundw
              case rel =>
                refine ⟨k + 1, by omega, by go_num, ?_, HSET.out, ((hkp.more _ _).more _ _).more _ _⟩
                intro x hx
                rw [HTS.out, List.mem_append] at hx
                rcases hx with hx | hx
                · exact HALL.out x hx
                · simp at hx; rw [hx]; exact hin
              case measure => simp [intOf]; omega
            · have hinI : ¬ ((q : Int) < (ws.length : Int)) := by omega
              go_wp2_with fail
              refine (need_false a2 _ hAr.form).mono ?_
              rintro e w' ⟨rfl, rfl⟩
              go_wp2_with fail
              exact ⟨rfl, ROut.up hKr (by rw [HSP.out, if_neg (fun hh => hin (hh _ HMEM.out))])⟩
          · have hke : k = m := by omega
            subst hke
            go_wp2
            go_ret
            have htk : ks.take k = ks := List.take_of_length_le (by omega)
            rw [Nat.sub_self, List.replicate_zero, List.append_nil, htk] at hrow
            have hal := HALL.out
            rw [htk] at hal
            refine ROut.ok hKr (by rw [HSP.out, if_pos hal]) ⟨G, ?_, hGw, hrow⟩ hAr
            rw [List.length_map, hkl]
            rfl

/-- The values laid where a 1 is, in order, NULL elsewhere. -/
def among : List Nat → List V → List V
  | [], _ => []
  | h :: hs, vs => if h = 1 then (vs.headD zeroV) :: among hs vs.tail else zeroV :: among hs vs
/-- How many 1 there are. -/
def ones : List Nat → Nat
  | [] => 0
  | h :: hs => (if h = 1 then 1 else 0) + ones hs
theorem ones_snoc (l : List Nat) (h : Nat) : ones (l ++ [h]) = ones l + (if h = 1 then 1 else 0) := by
  induction l with
  | nil => simp [ones]
  | cons x l ih => simp only [List.cons_append, ones, ih]; omega
theorem ones_take_le (l : List Nat) (k : Nat) : ones (l.take k) ≤ ones l := by
  induction l generalizing k with
  | nil => simp [ones]
  | cons x l ih =>
    cases k with
    | zero => simp [ones]
    | succ k => simp only [List.take_succ_cons, ones]; have := ih k; omega
theorem among_length (hs : List Nat) : ∀ vs, (among hs vs).length = hs.length := by
  induction hs with
  | nil => intro vs; rfl
  | cons h hs ih => intro vs; simp only [among]; split <;> simp [ih]
theorem among_snoc (l : List Nat) (h : Nat) : ∀ vs : List V, among (l ++ [h]) vs = among l vs ++ [if h = 1 then vs.getD (ones l) zeroV else zeroV] := by
  induction l with
  | nil => intro vs; simp only [List.nil_append, among, ones]; cases vs <;> split <;> simp
  | cons x l ih =>
    intro vs
    simp only [List.cons_append, among, ones, ih]
    by_cases hx : x = 1
    · simp only [hx, if_true]
      cases vs with
      | nil => simp
      | cons v vs => simp [Nat.add_comm 1]
    · simp [hx]

set_option maxRecDepth 100000 in
set_option maxHeartbeats 1000000 in
theorem among_any (b : Nat) (hs : List Nat) (a : Option Addr) (cap hcap : Nat) (vs : List V) (w : World) (hn : hs.length ≤ 64) (hh : ∀ h ∈ hs, h < 2) (hv : ones hs ≤ vs.length) (hv2 : vs.length ≤ 64) (hc : Cells w (some ⟨b, 0, none⟩) (hs.map uv)) (hx : Vals w a vs) :
    Calls Tryz.prog 95 #[.slice (some ⟨b, 0, none⟩) hs.length hcap, .slice a vs.length cap] w fun e w' => (∃ v, e = .returned v ∧ ValsAt w w' (among hs vs) v) ∧ Below w.heap.size w w' := by
  obtain ⟨C, hmk, hrow0⟩ := make_V hs.length (by omega) w
  go_enter Tryz.func95, Tryz.ntmps95
  go_wp2_with fail
  clear hmk
  go_loopw [6, 14] (fun nx i wr => ∃ k : Nat, k ≤ hs.length ∧ i = .int .i64 k ∧ nx = .int .i64 (ones (hs.take k) : Nat) ∧ RowT wr w.heap.size (among (hs.take k) vs ++ List.replicate (hs.length - k) zeroV) [] ∧ Below w.heap.size w wr) (fun _ i _ => hs.length - (intOf i).toNat)
  case atStart => exact ⟨0, by omega, rfl, rfl, by simpa [among] using hrow0, (Below.refl _ _).alloc (Nat.le_refl _) _⟩
  case round =>
    obtain ⟨k, hk, rfl, rfl, hrow, hbw⟩ := hrel
    by_cases hlt : k < hs.length
    · obtain ⟨b1, o1, e1, hb1, x1⟩ := (hc.below hbw).at (i := k) (by simpa using hlt)
      simp only [Option.some.injEq, Addr.mk.injEq] at e1
      obtain ⟨rfl, rfl, _⟩ := e1
      rw [List.getElem_map, Nat.zero_add] at x1
      unfold uv at x1
      have hts : hs.take (k + 1) = hs.take k ++ [hs[k]] := List.take_succ_eq_append_getElem hlt
      have hle := ones_take_le hs (k + 1)
      have hq2 := hh _ (List.getElem_mem hlt)
      have hos := ones_snoc (hs.take k) hs[k]
      have has := among_snoc (hs.take k) hs[k] vs
      rw [← hts] at hos has
      have hul := among_length (hs.take k) vs
      have hul2 : (hs.take k).length = k := by simp; omega
      rw [hul2] at hul
      have hlen : (among (hs.take k) vs ++ List.replicate (hs.length - k) zeroV).length = hs.length := by rw [List.length_append, hul, List.length_replicate]; omega
      have HOS : Hid _ := hos
      have HAS : Hid _ := has
      clear hos has hts
      generalize hs[k] = q at *
      by_cases hq : q = 1
      · subst hq
        have hox : ones (hs.take k) < vs.length := by have := HOS.out; simp at this; omega
        have HOX : Hid (vs.getD (ones (hs.take k)) zeroV = vs[ones (hs.take k)]) := by show _ = _; simp [hox]
        have HON : Hid (ones (hs.take (k + 1)) = ones (hs.take k) + 1) := by show _ = _; rw [HOS.out]; rfl
        obtain ⟨b2, o2, rfl, hb2, y1, y2, y3⟩ := (hx.below hbw).at hox
        obtain ⟨old, ⟨c0, d0⟩, ⟨c1, d1⟩, ⟨c2, d2⟩, hset⟩ := hrow.put vs[ones (hs.take k)] k (by rw [hlen]; exact hlt)
        rw [set_at _ k hs.length _ hul hlt] at hset
        have hts : among (hs.take k) vs ++ [vs[ones (hs.take k)]] = among (hs.take (k + 1)) vs := by
          rw [HAS.out, if_pos rfl, HOX.out]
        rw [hts] at hset
        have HSET : Hid _ := hset
        have hoI : (0 : Int) ≤ (ones (hs.take k) : Nat) ∧ ((ones (hs.take k) : Nat) : Int) < (vs.length : Int) := by omega
        clear hset hts hlen hul hul2 hle HOS
        generalize ones (hs.take k) = p at *
        go_wp2
        go_roundw
        case rel =>
          refine ⟨k + 1, by omega, by go_num, ?_, HSET.out, ((hbw.setCell (p := ⟨w.heap.size, k * 3, none⟩) (Nat.le_refl _) _).setCell (p := ⟨w.heap.size, k * 3 + 1, none⟩) (Nat.le_refl _) _).setCell (p := ⟨w.heap.size, k * 3 + 2, none⟩) (Nat.le_refl _) _⟩
          rw [HON.out]; go_num
        case measure => simp [intOf]; omega
      · have hq' : ((q : Int) == 1) = false := by rw [beq_eq_false_iff_ne]; omega
        have HON : Hid (ones (hs.take (k + 1)) = ones (hs.take k)) := by show _ = _; rw [HOS.out, if_neg hq]; rfl
        have hro2 : RowT wr w.heap.size (among (hs.take (k + 1)) vs ++ List.replicate (hs.length - (k + 1)) zeroV) [] := by
          have e : hs.length - k = hs.length - (k + 1) + 1 := by omega
          rw [HAS.out, if_neg hq, List.append_assoc]
          rw [e, List.replicate_succ] at hrow
          exact hrow
        clear hlen hul hul2 hle HOS
        go_wp2
        go_roundw
        case rel =>
          refine ⟨k + 1, by omega, by go_num, ?_, hro2, hbw⟩
          rw [HON.out]
        case measure => simp [intOf]; omega
    · have hke : k = hs.length := by omega
      subst hke
      go_wp2
      go_ret
      rw [Nat.sub_self, List.replicate_zero, List.append_nil, List.take_length] at hrow
      refine ⟨⟨_, rfl, w.heap.size, ?_, Nat.le_refl _, hrow⟩, hbw⟩
      rw [among_length]
      rfl
end Go.Proofs.YtfgklnenpichcaaGreatDoor
