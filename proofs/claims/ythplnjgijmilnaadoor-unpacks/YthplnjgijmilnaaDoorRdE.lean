/- The reader's lists of values, more: packed numbers. -/
import Derived.Test.YthplnjgijmilnaaDoorRdD
namespace Go.Proofs.YthplnjgijmilnaaDoor
open Go.RowKit

/-- The value that lies so far above the least. -/
def aboveV (t least : Int) (d : Nat) : V := ⟨t, wrap64 (IntKind.u64.wrap (IntKind.u64.wrap least + (d : Int))), ⟨#[]⟩⟩

theorem RAt.of_block {w w' : World} {g : Nat} {t : Int} {bs : List UInt8} {a2 : Addr} (h : RAt w g t bs a2) (e : w'.heap[g]? = w.heap[g]?) (e2 : w'.heap[2]? = w.heap[2]?) : RAt w' g t bs a2 :=
  ⟨h.far, by rw [e]; exact h.cells, by rw [World.cell?_of_block (w := w) e2]; exact h.form, h.len⟩

set_option maxRecDepth 100000 in
set_option maxHeartbeats 1000000 in
theorem above_any (g : Nat) (t : Int) (bs : List UInt8) (a2 : Addr) (least : Int) (a : Option Addr) (cap : Nat) (ns : List Nat) (w : World) (h : RAt w g t bs a2) (hn : ns.length ≤ 64) (hx : Cells w a (ns.map uv)) :
    Calls Tryd.prog 84 #[.pointer (some ⟨g, 0, none⟩), .int .i64 least, .slice a ns.length cap] w fun e w' => (∃ v, e = .returned v ∧ ValsAt w w' (ns.map (aboveV t least)) v) ∧ Below w.heap.size w w' := by
  obtain ⟨C, hmk, hrow0⟩ := make_V ns.length (by omega) w
  have hg := h.lt
  have hfar := h.far
  go_enter Tryd.func84, Tryd.ntmps84
  go_wp2_with fail
  clear hmk
  go_loopw [15] (fun i wr => ∃ k : Nat, k ≤ ns.length ∧ i = .int .i64 k ∧ RowT wr w.heap.size ((ns.take k).map (aboveV t least) ++ List.replicate (ns.length - k) zeroV) [] ∧ Below w.heap.size w wr) (fun i _ => ns.length - (intOf i).toNat)
  case atStart => exact ⟨0, by omega, rfl, by simpa using hrow0, (Below.refl _ _).alloc (Nat.le_refl _) _⟩
  case round =>
    obtain ⟨k, hk, rfl, hrow, hbw⟩ := hrel
    by_cases hlt : k < ns.length
    · obtain ⟨b1, o1, rfl, hb1, x1⟩ := (hx.below hbw).at (i := k) (by simpa using hlt)
      rw [List.getElem_map] at x1
      unfold uv at x1
      have c9 : wr.cell? ⟨g, 0, none⟩ = some (.int .i64 t) := (h.below hbw).typ
      have hul : ((ns.take k).map (aboveV t least)).length = k := by simp; omega
      have hlen : ((ns.take k).map (aboveV t least) ++ List.replicate (ns.length - k) zeroV).length = ns.length := by rw [List.length_append, hul, List.length_replicate]; omega
      obtain ⟨old, ⟨c0, d0⟩, ⟨c1, d1⟩, ⟨c2, d2⟩, hset⟩ := hrow.put (aboveV t least ns[k]) k (by rw [hlen]; exact hlt)
      rw [set_at _ k ns.length _ hul hlt] at hset
      have hts : (ns.take k).map (aboveV t least) ++ [aboveV t least ns[k]] = (ns.take (k + 1)).map (aboveV t least) := by
        rw [List.take_succ_eq_append_getElem hlt, List.map_append]; rfl
      rw [hts] at hset
      have HSET : Hid _ := hset
      clear hset hts hlen hul
      go_wp2
      go_roundw
      case rel =>
        refine ⟨k + 1, by omega, by go_num, ?_, ((hbw.setCell (p := ⟨w.heap.size, k * 3, none⟩) (Nat.le_refl _) _).setCell (p := ⟨w.heap.size, k * 3 + 1, none⟩) (Nat.le_refl _) _).setCell (p := ⟨w.heap.size, k * 3 + 2, none⟩) (Nat.le_refl _) _⟩
        exact HSET.out
      case measure => simp [intOf]; omega
    · have hke : k = ns.length := by omega
      subst hke
      go_wp2
      go_ret
      rw [Nat.sub_self, List.replicate_zero, List.append_nil, List.take_length] at hrow
      refine ⟨⟨_, rfl, w.heap.size, ?_, Nat.le_refl _, hrow⟩, hbw⟩
      rw [List.length_map]
      rfl

/-- Values that lie in new memory, or none. -/
def ValsR (w w' : World) (vs : List V) (v : Value) : Prop := ∃ a cap, v = .slice a vs.length cap ∧ Vals w' a vs ∧ ∀ b o, a = some ⟨b, o, none⟩ → w.heap.size ≤ b
theorem ValsAt.toR {w w' : World} {vs : List V} {v : Value} (h : ValsAt w w' vs v) : ValsR w w' vs v := by
  obtain ⟨b, rfl, hb, hr⟩ := h
  refine ⟨_, _, rfl, hr.vals, fun b' o e => ?_⟩
  simp at e
  omega
theorem ValsR.mono {w w1 w' : World} {vs : List V} {v : Value} (h : ValsR w1 w' vs v) (hs : w.heap.size ≤ w1.heap.size) : ValsR w w' vs v := by
  obtain ⟨a, cap, rfl, hv, hb⟩ := h
  exact ⟨_, _, rfl, hv, fun b o e => Nat.le_trans hs (hb b o e)⟩

/-- So many packed values. -/
def rdPacked (t : Int) (m : Nat) (bs : List UInt8) : Option (List V × List UInt8) :=
  if t = 2 then (rdFields 1 m bs).map fun x => (x.1.map (aboveV t 0), x.2)
  else if m = 0 then some ([], bs)
  else match rdNumber bs with
    | none => none
    | some (least, r) => match rdByte r with
      | none => none
      | some (width, r2) => if width ≤ 64 then (rdFields width m r2).map fun x => (x.1.map (aboveV t least), x.2) else none

theorem rdFields_length {width count : Nat} {bs rest : List UInt8} {ns : List Nat} (h : rdFields width count bs = some (ns, rest)) : ns.length = count := by
  unfold rdFields at h
  split at h
  · simp at h
  · simp at h; rw [← h.1]; simp

set_option maxRecDepth 100000 in
set_option maxHeartbeats 1000000 in
theorem packed_any (g : Nat) (t : Int) (bs : List UInt8) (a2 : Addr) (m : Nat) (w : World) (h : RAt w g t bs a2) (hm : m ≤ 64) :
    Calls Tryd.prog 82 #[.pointer (some ⟨g, 0, none⟩), .int .i64 m] w (ROut w g t a2 (rdPacked t m bs) fun vs v w' => ValsR w w' vs v) := by
  have hg := h.lt
  have c0 := h.typ
  by_cases h2 : t = 2
  · subst h2
    have hf := fields_any g 2 bs a2 1 m w h (by omega) hm
    simp only [Int.natCast_one] at hf
    go_enter Tryd.func82, Tryd.ntmps82
    go_wp2_with fail
    refine hf.mono ?_
    rintro e w1 ⟨hk, ⟨hr, rfl⟩ | ⟨ns, rest, v, hr, rfl, ⟨b, rfl, hb, hx⟩, hA⟩⟩
    · go_wp2_with fail
      exact ⟨rfl, ROut.up hk (by simp [rdPacked, hr])⟩
    · have hnl := rdFields_length hr
      clear hf
      have ha := above_any g 2 rest a2 0 (some ⟨b, 0, none⟩) ns.length ns w1 hA (by omega) hx
      clear hnl
      go_wp2_with fail
      refine ha.mono ?_
      rintro e w2 ⟨⟨v, rfl, hv⟩, hb2⟩
      go_wp2_with fail
      go_ret
      exact ROut.ok (hk.trans (RKeep.of_below hb2 g)) (by simp [rdPacked, hr]) (hv.toR.mono hk.size) (hA.below hb2)
  · have h2' : (t == 2) = false := by simpa using h2
    by_cases h0 : m = 0
    · subst h0
      go_enter Tryd.func82, Tryd.ntmps82
      go_wp2_with fail
      go_ret
      exact ROut.ok (RKeep.refl _ _) (by simp [rdPacked, h2]) ⟨none, 0, rfl, .inl rfl, fun b o e => by simp at e⟩ h
    · have h0' : ((m : Int) == 0) = false := by rw [beq_eq_false_iff_ne]; omega
      have hn := number_any g t bs a2 w h
      go_enter Tryd.func82, Tryd.ntmps82
      go_wp2_with fail
      refine hn.mono ?_
      rintro e w1 ⟨hk, ⟨hr, rfl⟩ | ⟨least, r, v, hr, rfl, rfl, hA⟩⟩
      · go_wp2_with fail
        exact ⟨rfl, ROut.up hk (by simp [rdPacked, h2, h0, hr])⟩
      · have hn2 := small_any g t r a2 w1 hA
        clear hn
        go_wp2_with fail
        refine hn2.mono ?_
        rintro e w2 ⟨hk2, ⟨hr2, rfl⟩ | ⟨width, r2, v, hr2, rfl, rfl, hA2⟩⟩
        · go_wp2_with fail
          exact ⟨rfl, ROut.up (hk.trans hk2) (by simp [rdPacked, h2, h0, hr, hr2])⟩
        · have hwl := rdByte_lt hr2
          clear hn2
          by_cases hw : width ≤ 64
          · have hwI : ((width : Int) ≤ 64) := by omega
            have hf := fields_any g t r2 a2 width m w2 hA2 hw hm
            go_wp2_with fail
            refine (need_true _).mono ?_
            rintro e w' ⟨rfl, rfl⟩
            go_wp2_with fail
            refine hf.mono ?_
            rintro e w3 ⟨hk3, ⟨hr3, rfl⟩ | ⟨ns, rest, v, hr3, rfl, ⟨b, rfl, hb, hx⟩, hA3⟩⟩
            · go_wp2_with fail
              exact ⟨rfl, ROut.up ((hk.trans hk2).trans hk3) (by simp [rdPacked, h2, h0, hr, hr2, hr3])⟩
            · have hnl := rdFields_length hr3
              clear hf
              have ha := above_any g t rest a2 least (some ⟨b, 0, none⟩) ns.length ns w3 hA3 (by omega) hx
              clear hnl
              go_wp2_with fail
              refine ha.mono ?_
              rintro e w4 ⟨⟨v, rfl, hv⟩, hb4⟩
              go_wp2_with fail
              go_ret
              exact ROut.ok (((hk.trans hk2).trans hk3).trans (RKeep.of_below hb4 g)) (by simp [rdPacked, h2, h0, hr, hr2, hr3, hw]) (hv.toR.mono ((hk.trans hk2).trans hk3).size) (hA3.below hb4)
          · have hwI : ¬ ((width : Int) ≤ 64) := by omega
            go_wp2_with fail
            rw [show decide ((width : Int) ≤ 64) = false from decide_eq_false (by omega)]
            refine (need_false a2 _ hA2.form).mono ?_
            rintro e w' ⟨rfl, rfl⟩
            go_wp2_with fail
            exact ⟨rfl, ROut.up (hk.trans hk2) (by simp [rdPacked, h2, h0, hr, hr2, hw])⟩
end Go.Proofs.YthplnjgijmilnaaDoor
