/- The reader's lists of values, more: a dictionary, and values laid among the NULLs. -/
import Derived.Test.YthplnjgijmilnaaDoorRdE
namespace Go.Proofs.YthplnjgijmilnaaDoor
open Go.RowKit

/-- So many values out of a dictionary that lies ahead of them. -/
def rdDict (t : Int) (m : Nat) (bs : List UInt8) : Option (List V × List UInt8) :=
  match rdByte bs with
  | none => none
  | some (n, r) => match rdMany t n r with
    | none => none
    | some (ws, r2) => match rdFields 4 m r2 with
      | none => none
      | some (ks, r3) => if ∀ k ∈ ks, k < ws.length then some (ks.map fun k => ws.getD k zeroV, r3) else none

theorem fields_lt {width count : Nat} {bs rest : List UInt8} {ns : List Nat} (h : rdFields width count bs = some (ns, rest)) : ∀ n ∈ ns, n < 2 ^ width := by
  unfold rdFields at h
  split at h
  · simp at h
  · simp at h
    intro n hn
    rw [← h.1] at hn
    obtain ⟨i, _, rfl⟩ := List.mem_map.1 hn
    exact bitsTo_lt _ _ _

theorem cells_rkeep {w w' : World} {g : Nat} {b : Nat} {xs : List Value} (h : Cells w (some ⟨b, 0, none⟩) xs) (hk : RKeep w w' g) (hn : b ≠ g) : Cells w' (some ⟨b, 0, none⟩) xs :=
  h.of_block hk.size fun b' o e hb => by
    simp at e
    exact hk.block b' hb (by rw [← e.1]; exact hn)
/-- What is new is written over: the old stands. -/
theorem RKeep.over {w w1 w2 : World} {g G : Nat} (h : RKeep w w1 g) (k : RKeep w1 w2 G) (hG : w.heap.size ≤ G) : RKeep w w2 g :=
  ⟨k.os.trans h.os, k.tape.trans h.tape, k.output.trans h.output, Nat.le_trans h.size k.size, fun j hj hne => (k.block j (Nat.lt_of_lt_of_le hj h.size) (by omega)).trans (h.block j hj hne)⟩
theorem RKeep.more {w w1 : World} {G : Nat} (h : RKeep w w1 G) (i : Nat) (v : Value) : RKeep w (w1.setCell ⟨G, i, none⟩ v) G := h.trans (RKeep.set _ _ _ _)

set_option maxRecDepth 100000 in
set_option maxHeartbeats 2000000 in
theorem dictionary_any (g : Nat) (t : Int) (bs : List UInt8) (a2 : Addr) (m : Nat) (w : World) (h : RAt w g t bs a2) (ht : t = 1 ∨ t = 2 ∨ t = 3) (hm : m ≤ 64) :
    Calls Tryd.prog 80 #[.pointer (some ⟨g, 0, none⟩), .int .i64 m] w (ROut w g t a2 (rdDict t m bs) fun vs v w' => ValsAt w w' vs v) := by
  have hg := h.lt
  have hfar := h.far
  have hn := small_any g t bs a2 w h
  go_enter Tryd.func80, Tryd.ntmps80
  go_wp2_with fail
  refine hn.mono ?_
  rintro e w1 ⟨hk1, ⟨hr, rfl⟩ | ⟨n, r, v, hr, rfl, rfl, hA1⟩⟩
  · go_wp2_with fail
    exact ⟨rfl, ROut.up hk1 (by simp [rdDict, hr])⟩
  · have hn256 := rdByte_lt hr
    have hp := plain_any g t r a2 n w1 hA1 ht (by omega)
    clear hn
    go_wp2_with fail
    refine hp.mono ?_
    rintro e w2 ⟨hk2, ⟨hr2, rfl⟩ | ⟨ws, r2, v, hr2, rfl, ⟨bw, rfl, hbw, hrw⟩, hA2⟩⟩
    · go_wp2_with fail
      exact ⟨rfl, ROut.up (hk1.trans hk2) (by simp [rdDict, hr, hr2])⟩
    · have hwl : ws.length < 256 := by rw [rdMany_length t n r r2 ws hr2]; exact hn256
      obtain ⟨C, hmk, hrow0⟩ := make_V m (by omega) w2
      have hf := fields_any g t r2 a2 4 m _ (hA2.alloc (.cells C 25)) (by omega) hm
      clear hp
      go_wp2_with fail
      refine hf.mono ?_
      rintro e w3 ⟨hk3, ⟨hr3, rfl⟩ | ⟨ks, r3, v, hr3, rfl, ⟨bk, rfl, hbk, hck⟩, hA3⟩⟩
      · go_wp2_with fail
        exact ⟨rfl, ROut.up (((hk1.trans hk2).alloc _).trans hk3) (by simp [rdDict, hr, hr2, hr3])⟩
      · have hkl := rdFields_length hr3
        have hspec : rdDict t m bs = if ∀ k ∈ ks, k < ws.length then some (ks.map fun k => ws.getD k zeroV, r3) else none := by simp only [rdDict, hr, hr2, hr3]
        have HSP : Hid _ := hspec
        have hkeep3 := ((hk1.trans hk2).alloc (.cells C 25)).trans hk3
        have hs1 := hk1.size
        have hs2 := hk2.size
        have hrwl := hrw.lt
        have hrow3 : RowT w3 w2.heap.size (List.replicate m zeroV) [] := hrow0.of_block (hk3.block _ (by simp) (by omega))
        have hrw3 : RowT w3 bw ws [] := (hrw.of_block ((Below.refl w2.heap.size w2).alloc (Nat.le_refl _) (.cells C 25) |>.block bw hrwl)).of_block (hk3.block _ (by simp; omega) (by omega))
        simp at hbk
        clear hspec hf hmk hrow0 hr hr2 hr3 hk1 hk2 hk3 hA1 hA2 hrw hn256
        go_wp2_with fail
        obtain ⟨G, hG⟩ : ∃ G, G = w2.heap.size := ⟨_, rfl⟩
        rw [← hG]
        rw [← hG] at hrow3
        have hGw : w.heap.size ≤ G := by omega
        have hGg : G ≠ g := by omega
        have hG2 : G ≠ 2 := by omega
        have hGb : G ≠ bw := by omega
        have hGk : G ≠ bk := by omega
        clear hG hbk hrwl hs1 hs2 hbw
        go_loopw [19] (fun i wr => ∃ k : Nat, k ≤ m ∧ i = .int .i64 k ∧ (∀ x ∈ ks.take k, x < ws.length) ∧ RowT wr G ((ks.take k).map (fun k => ws.getD k zeroV) ++ List.replicate (m - k) zeroV) [] ∧ RKeep w3 wr G) (fun i _ => m - (intOf i).toNat)
        case atStart => exact ⟨0, by omega, rfl, by simp, by simpa using hrow3, RKeep.refl _ _⟩
        case round =>
          obtain ⟨k, hk, rfl, hall, hrow, hkp⟩ := hrel
          have HALL : Hid _ := hall
          clear hall
          have hAr : RAt wr g t r3 a2 := hA3.of_block (hkp.block _ hA3.lt (Ne.symm hGg)) (hkp.block _ (by have := hA3.lt; omega) (Ne.symm hG2))
          have hKr : RKeep w wr g := hkeep3.over hkp hGw
          by_cases hlt : k < m
          · have hlk : k < ks.length := by omega
            obtain ⟨b1, o1, e1, hb1, x1⟩ := (cells_rkeep hck hkp (Ne.symm hGk)).at (i := k) (by simpa using hlk)
            simp only [Option.some.injEq, Addr.mk.injEq] at e1
            obtain ⟨rfl, rfl, _⟩ := e1
            rw [List.getElem_map, Nat.zero_add] at x1
            unfold uv at x1
            have hts : ks.take (k + 1) = ks.take k ++ [ks[k]] := List.take_succ_eq_append_getElem hlk
            have HTS : Hid _ := hts
            have HMEM : Hid (ks[k] ∈ ks) := List.getElem_mem hlk
            clear hts
            generalize ks[k] = q at *
            have hwl64 : IntKind.u64.wrap (ws.length : Int) = (ws.length : Int) := wrap_u64_nat _ (by omega)
            by_cases hin : q < ws.length
            · have hinI : ((q : Int) < (ws.length : Int)) := by omega
              have hul : ((ks.take k).map (fun k => ws.getD k zeroV)).length = k := by simp; omega
              have hlen : ((ks.take k).map (fun k => ws.getD k zeroV) ++ List.replicate (m - k) zeroV).length = m := by rw [List.length_append, hul, List.length_replicate]; omega
              have hrwr : RowT wr bw ws [] := hrw3.of_block (hkp.block _ hrw3.lt (Ne.symm hGb))
              obtain ⟨b2, o2, e2, hb2, y1, y2, y3⟩ := hrwr.vals.at hin
              simp only [Option.some.injEq, Addr.mk.injEq] at e2
              obtain ⟨rfl, rfl, _⟩ := e2
              rw [Nat.zero_add] at y1 y2 y3
              obtain ⟨old, ⟨c0, d0⟩, ⟨c1, d1⟩, ⟨c2, d2⟩, hset⟩ := hrow.put ws[q] k (by rw [hlen]; exact hlt)
              rw [set_at _ k m _ hul hlt] at hset
              have hts : (ks.take k).map (fun k => ws.getD k zeroV) ++ [ws[q]] = (ks.take (k + 1)).map (fun k => ws.getD k zeroV) := by
                rw [HTS.out, List.map_append]; simp [hin]
              rw [hts] at hset
              have HSET : Hid _ := hset
              clear hset hts hlen hul
              go_wp2_with fail
              refine (need_true _).mono ?_
              rintro e w' ⟨rfl, rfl⟩
              go_wp2
              go_roundw
              case rel =>
                refine ⟨k + 1, by omega, by go_num, ?_, HSET.out, ((hkp.more _ _).more _ _).more _ _⟩
                intro x hx
                rw [HTS.out, List.mem_append] at hx
                rcases hx with hx | hx
                · exact HALL.out x hx
                · simp at hx; rw [hx]; exact hin
              case measure => simp [intOf]; omega
            · have hinI : ¬ ((q : Int) < (ws.length : Int)) := by omega
              go_wp2_with fail
              refine (need_false a2 _ hAr.form).mono ?_
              rintro e w' ⟨rfl, rfl⟩
              go_wp2_with fail
              exact ⟨rfl, ROut.up hKr (by rw [HSP.out, if_neg (fun hh => hin (hh _ HMEM.out))])⟩
          · have hke : k = m := by omega
            subst hke
            go_wp2
            go_ret
            have htk : ks.take k = ks := List.take_of_length_le (by omega)
            rw [Nat.sub_self, List.replicate_zero, List.append_nil, htk] at hrow
            have hal := HALL.out
            rw [htk] at hal
            refine ROut.ok hKr (by rw [HSP.out, if_pos hal]) ⟨G, ?_, hGw, hrow⟩ hAr
            rw [List.length_map, hkl]
            rfl

/-- The values laid where a 1 is, in order, NULL elsewhere. -/
def among : List Nat → List V → List V
  | [], _ => []
  | h :: hs, vs => if h = 1 then (vs.headD zeroV) :: among hs vs.tail else zeroV :: among hs vs
/-- How many 1 there are. -/
def ones : List Nat → Nat
  | [] => 0
  | h :: hs => (if h = 1 then 1 else 0) + ones hs
theorem ones_snoc (l : List Nat) (h : Nat) : ones (l ++ [h]) = ones l + (if h = 1 then 1 else 0) := by
  induction l with
  | nil => simp [ones]
  | cons x l ih => simp only [List.cons_append, ones, ih]; omega
theorem ones_take_le (l : List Nat) (k : Nat) : ones (l.take k) ≤ ones l := by
  induction l generalizing k with
  | nil => simp [ones]
  | cons x l ih =>
    cases k with
    | zero => simp [ones]
    | succ k => simp only [List.take_succ_cons, ones]; have := ih k; omega
theorem among_length (hs : List Nat) : ∀ vs, (among hs vs).length = hs.length := by
  induction hs with
  | nil => intro vs; rfl
  | cons h hs ih => intro vs; simp only [among]; split <;> simp [ih]
theorem among_snoc (l : List Nat) (h : Nat) : ∀ vs : List V, among (l ++ [h]) vs = among l vs ++ [if h = 1 then vs.getD (ones l) zeroV else zeroV] := by
  induction l with
  | nil => intro vs; simp only [List.nil_append, among, ones]; cases vs <;> split <;> simp
  | cons x l ih =>
    intro vs
    simp only [List.cons_append, among, ones, ih]
    by_cases hx : x = 1
    · simp only [hx, if_true]
      cases vs with
      | nil => simp
      | cons v vs => simp [Nat.add_comm 1]
    · simp [hx]

set_option maxRecDepth 100000 in
set_option maxHeartbeats 1000000 in
theorem among_any (b : Nat) (hs : List Nat) (a : Option Addr) (cap hcap : Nat) (vs : List V) (w : World) (hn : hs.length ≤ 64) (hh : ∀ h ∈ hs, h < 2) (hv : ones hs ≤ vs.length) (hv2 : vs.length ≤ 64) (hc : Cells w (some ⟨b, 0, none⟩) (hs.map uv)) (hx : Vals w a vs) :
    Calls Tryd.prog 63 #[.slice (some ⟨b, 0, none⟩) hs.length hcap, .slice a vs.length cap] w fun e w' => (∃ v, e = .returned v ∧ ValsAt w w' (among hs vs) v) ∧ Below w.heap.size w w' := by
  obtain ⟨C, hmk, hrow0⟩ := make_V hs.length (by omega) w
  go_enter Tryd.func63, Tryd.ntmps63
  go_wp2_with fail
  clear hmk
  go_loopw [6, 14] (fun nx i wr => ∃ k : Nat, k ≤ hs.length ∧ i = .int .i64 k ∧ nx = .int .i64 (ones (hs.take k) : Nat) ∧ RowT wr w.heap.size (among (hs.take k) vs ++ List.replicate (hs.length - k) zeroV) [] ∧ Below w.heap.size w wr) (fun _ i _ => hs.length - (intOf i).toNat)
  case atStart => exact ⟨0, by omega, rfl, rfl, by simpa [among] using hrow0, (Below.refl _ _).alloc (Nat.le_refl _) _⟩
  case round =>
    obtain ⟨k, hk, rfl, rfl, hrow, hbw⟩ := hrel
    by_cases hlt : k < hs.length
    · obtain ⟨b1, o1, e1, hb1, x1⟩ := (hc.below hbw).at (i := k) (by simpa using hlt)
      simp only [Option.some.injEq, Addr.mk.injEq] at e1
      obtain ⟨rfl, rfl, _⟩ := e1
      rw [List.getElem_map, Nat.zero_add] at x1
      unfold uv at x1
      have hts : hs.take (k + 1) = hs.take k ++ [hs[k]] := List.take_succ_eq_append_getElem hlt
      have hle := ones_take_le hs (k + 1)
      have hq2 := hh _ (List.getElem_mem hlt)
      have hos := ones_snoc (hs.take k) hs[k]
      have has := among_snoc (hs.take k) hs[k] vs
      rw [← hts] at hos has
      have hul := among_length (hs.take k) vs
      have hul2 : (hs.take k).length = k := by simp; omega
      rw [hul2] at hul
      have hlen : (among (hs.take k) vs ++ List.replicate (hs.length - k) zeroV).length = hs.length := by rw [List.length_append, hul, List.length_replicate]; omega
      have HOS : Hid _ := hos
      have HAS : Hid _ := has
      clear hos has hts
      generalize hs[k] = q at *
      by_cases hq : q = 1
      · subst hq
        have hox : ones (hs.take k) < vs.length := by have := HOS.out; simp at this; omega
        have HOX : Hid (vs.getD (ones (hs.take k)) zeroV = vs[ones (hs.take k)]) := by show _ = _; simp [hox]
        have HON : Hid (ones (hs.take (k + 1)) = ones (hs.take k) + 1) := by show _ = _; rw [HOS.out]; rfl
        obtain ⟨b2, o2, rfl, hb2, y1, y2, y3⟩ := (hx.below hbw).at hox
        obtain ⟨old, ⟨c0, d0⟩, ⟨c1, d1⟩, ⟨c2, d2⟩, hset⟩ := hrow.put vs[ones (hs.take k)] k (by rw [hlen]; exact hlt)
        rw [set_at _ k hs.length _ hul hlt] at hset
        have hts : among (hs.take k) vs ++ [vs[ones (hs.take k)]] = among (hs.take (k + 1)) vs := by
          rw [HAS.out, if_pos rfl, HOX.out]
        rw [hts] at hset
        have HSET : Hid _ := hset
        have hoI : (0 : Int) ≤ (ones (hs.take k) : Nat) ∧ ((ones (hs.take k) : Nat) : Int) < (vs.length : Int) := by omega
        clear hset hts hlen hul hul2 hle HOS
        generalize ones (hs.take k) = p at *
        go_wp2
        go_roundw
        case rel =>
          refine ⟨k + 1, by omega, by go_num, ?_, HSET.out, ((hbw.setCell (p := ⟨w.heap.size, k * 3, none⟩) (Nat.le_refl _) _).setCell (p := ⟨w.heap.size, k * 3 + 1, none⟩) (Nat.le_refl _) _).setCell (p := ⟨w.heap.size, k * 3 + 2, none⟩) (Nat.le_refl _) _⟩
          rw [HON.out]; go_num
        case measure => simp [intOf]; omega
      · have hq' : ((q : Int) == 1) = false := by rw [beq_eq_false_iff_ne]; omega
        have HON : Hid (ones (hs.take (k + 1)) = ones (hs.take k)) := by show _ = _; rw [HOS.out, if_neg hq]; rfl
        have hro2 : RowT wr w.heap.size (among (hs.take (k + 1)) vs ++ List.replicate (hs.length - (k + 1)) zeroV) [] := by
          have e : hs.length - k = hs.length - (k + 1) + 1 := by omega
          rw [HAS.out, if_neg hq, List.append_assoc]
          rw [e, List.replicate_succ] at hrow
          exact hrow
        clear hlen hul hul2 hle HOS
        go_wp2
        go_roundw
        case rel =>
          refine ⟨k + 1, by omega, by go_num, ?_, hro2, hbw⟩
          rw [HON.out]
        case measure => simp [intOf]; omega
    · have hke : k = hs.length := by omega
      subst hke
      go_wp2
      go_ret
      rw [Nat.sub_self, List.replicate_zero, List.append_nil, List.take_length] at hrow
      refine ⟨⟨_, rfl, w.heap.size, ?_, Nat.le_refl _, hrow⟩, hbw⟩
      rw [among_length]
      rfl
end Go.Proofs.YthplnjgijmilnaaDoor
