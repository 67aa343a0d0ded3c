/- Load of a set: what is no table, or cannot be there. -/
import Derived.Test.YtfgklnenpichcaaGreatDoorTp
import Derived.Test.YtfgklnenpichcaaGreatDoorTo
namespace Go.Proofs.YtfgklnenpichcaaGreatDoor
open Go.RowKit Go.Shelf

/-- Have these columns just one way each that they can be written in? -/
def waysOk (ts hs : List Int) : Prop := hs.length = ts.length ∧ ∀ j (hj : j < hs.length), way (ts.getD j 0) hs[j] = true
/-- What Load is handed, in memory. -/
structure ArgAt (w : World) (name : ByteArray) (at_ ar ah : Option Addr) (cr : Nat) (ts hs : List Int) (xs : List (Option Addr × Nat)) (rs : List (List V)) : Prop where
  ln : name.size ≤ maxLen
  lt : ts.length ≤ maxLen
  lr : rs.length ≤ maxLen
  lrr : ∀ r ∈ rs, r.length ≤ maxLen
  lh : hs.length ≤ maxLen
  cap : rs.length ≤ cr
  types : Ints w at_ ts
  hows : Ints w ah hs
  rows : RowsAt w ar xs rs
theorem ArgAt.below {w w' : World} {name : ByteArray} {at_ ar ah : Option Addr} {cr : Nat} {ts hs : List Int} {xs : List (Option Addr × Nat)} {rs : List (List V)} (h : ArgAt w name at_ ar ah cr ts hs xs rs) (hb : Below w.heap.size w w') : ArgAt w' name at_ ar ah cr ts hs xs rs :=
  ⟨h.ln, h.lt, h.lr, h.lrr, h.lh, h.cap, h.types.below hb, h.hows.below hb, h.rows.below hb⟩

abbrev tabArg (name : ByteArray) (at_ ar : Option Addr) (ct cr : Nat) (ts : List Int) (rs : List (List V)) : Value := .agg #[.string name, .slice at_ ts.length ct, .slice ar rs.length cr]
abbrev tabObj (name : ByteArray) (at_ ar : Option Addr) (ct cr : Nat) (ts : List Int) (rs : List (List V)) : Obj := .cells #[.string name, .slice at_ ts.length ct, .slice ar rs.length cr] 26

open Classical in
set_option maxRecDepth 100000 in
set_option maxHeartbeats 1000000 in
theorem tLoad_arg (s : Nat) (name : ByteArray) (at_ ar ah : Option Addr) (ct cr ch : Nat) (ts hs : List Int) (xs : List (Option Addr × Nat)) (rs : List (List V)) (g : Int) (w : World) (h : ArgAt w name at_ ar ah cr ts hs xs rs) (ta : Addr) (hta : w.cell? ⟨0, 0, none⟩ = some (.iface 255 (.pointer (some ta))))
    (hbad : ¬ (isTab name ts rs ∧ waysOk ts hs ∧ 1 ≤ g ∧ g ≤ 64)) :
    Calls Tryz.prog 31 #[.pointer (some ⟨s, 0, none⟩), tabArg name at_ ar ct cr ts rs, .slice ah hs.length ch, .int .i64 g] w fun e w' => e = .returned (.iface 255 (.pointer (some ta))) ∧ Below w.heap.size w w' := by
  have hb0 : Below w.heap.size w (w.alloc (tabObj name at_ ar ct cr ts rs)) := (Below.refl _ w).alloc (Nat.le_refl _) _
  have hT := isTable_any name at_ ar ct cr ts xs rs _ h.ln h.lt h.lr h.lrr (h.types.below hb0) (h.rows.below hb0)
  have q1 : (w.alloc (tabObj name at_ ar ct cr ts rs)).cell? ⟨w.heap.size, 1, none⟩ = some (.slice at_ ts.length ct) := by simp
  have HTA : Hid (w.cell? ⟨0, 0, none⟩ = some (.iface 255 (.pointer (some ta)))) := hta
  clear hta
  by_cases h1 : isTab name ts rs
  · rw [decide_eq_true h1] at hT
    by_cases h2 : waysOk ts hs
    · have hW : ∀ W, Below w.heap.size w W → Calls Tryz.prog 54 #[.slice ah hs.length ch, .slice at_ ts.length ct] W fun e w' => e = .returned (.bool true) ∧ w' = W := fun W hb => areWays_any ah at_ ch ct hs ts W h.lh (h.hows.below hb) (h.types.below hb) true (by simpa [waysOk] using h2)
      have HW : Hid (∀ W, Below w.heap.size w W → Calls Tryz.prog 54 #[.slice ah hs.length ch, .slice at_ ts.length ct] W fun e w' => e = .returned (.bool true) ∧ w' = W) := hW
      clear hW h
      by_cases h3 : g < 1
      · clear h1 h2 hbad
        go_enter Tryz.func31, Tryz.ntmps31
        go_wp2_with (first | (go_at_call 53; refine hT.mono ?_; rintro e W1 ⟨rfl, hb1⟩; have hb2 := below_then hb0 hb1; have d1 := cell_below hb1 q1; have dta := cell_below hb2 HTA.out) | (go_at_call 54; refine (HW.out W1 hb2).mono ?_; rintro e W2 ⟨rfl, rfl⟩))
        go_ret
        exact ⟨rfl, hb2⟩
      · have h4 : ¬ g ≤ 64 := fun h5 => hbad ⟨h1, h2, by omega, h5⟩
        clear h1 h2 hbad
        go_enter Tryz.func31, Tryz.ntmps31
        go_wp2_with (first | (go_at_call 53; refine hT.mono ?_; rintro e W1 ⟨rfl, hb1⟩; have hb2 := below_then hb0 hb1; have d1 := cell_below hb1 q1; have dta := cell_below hb2 HTA.out) | (go_at_call 54; refine (HW.out W1 hb2).mono ?_; rintro e W2 ⟨rfl, rfl⟩))
        go_ret
        exact ⟨rfl, hb2⟩
    · have hW : ∀ W, Below w.heap.size w W → Calls Tryz.prog 54 #[.slice ah hs.length ch, .slice at_ ts.length ct] W fun e w' => e = .returned (.bool false) ∧ w' = W := fun W hb => areWays_any ah at_ ch ct hs ts W h.lh (h.hows.below hb) (h.types.below hb) false (by simpa [waysOk] using h2)
      have HW : Hid (∀ W, Below w.heap.size w W → Calls Tryz.prog 54 #[.slice ah hs.length ch, .slice at_ ts.length ct] W fun e w' => e = .returned (.bool false) ∧ w' = W) := hW
      clear hW h h1 h2 hbad
      go_enter Tryz.func31, Tryz.ntmps31
      go_wp2_with (first | (go_at_call 53; refine hT.mono ?_; rintro e W1 ⟨rfl, hb1⟩; have hb2 := below_then hb0 hb1; have d1 := cell_below hb1 q1; have dta := cell_below hb2 HTA.out) | (go_at_call 54; refine (HW.out W1 hb2).mono ?_; rintro e W2 ⟨rfl, rfl⟩))
      go_ret
      exact ⟨rfl, hb2⟩
  · rw [decide_eq_false h1] at hT
    clear h h1 hbad
    go_enter Tryz.func31, Tryz.ntmps31
    go_wp2_with (first | (go_at_call 53; refine hT.mono ?_; rintro e W1 ⟨rfl, hb1⟩; have hb2 := below_then hb0 hb1; have d1 := cell_below hb1 q1; have dta := cell_below hb2 HTA.out))
    go_ret
    exact ⟨rfl, hb2⟩

open Classical in
set_option maxRecDepth 100000 in
set_option maxHeartbeats 1000000 in
theorem tLoad_table (s d : Nat) (name : ByteArray) (at_ ar ah : Option Addr) (ct cr ch : Nat) (ts hs : List Int) (xs : List (Option Addr × Nat)) (rs : List (List V)) (g : Int) (w : World) (h : ArgAt w name at_ ar ah cr ts hs xs rs) (hgood : isTab name ts rs ∧ waysOk ts hs ∧ 1 ≤ g ∧ g ≤ 64)
    (G : Nat → Prop) (Ts : List TS) (sv : Value) (bs : List Nat) (hx : SetX w G s d Ts sv bs) (et : Addr) (het : w.cell? ⟨1, 0, none⟩ = some (.iface 255 (.pointer (some et)))) (hthere : findI Ts name < Ts.length ∨ 6 ≤ Ts.length) :
    Calls Tryz.prog 31 #[.pointer (some ⟨s, 0, none⟩), tabArg name at_ ar ct cr ts rs, .slice ah hs.length ch, .int .i64 g] w fun e w' => e = .returned (.iface 255 (.pointer (some et))) ∧ Below w.heap.size w w' := by
  have hb0 : Below w.heap.size w (w.alloc (tabObj name at_ ar ct cr ts rs)) := (Below.refl _ w).alloc (Nat.le_refl _) _
  obtain ⟨h1, h2, hg1, hg2⟩ := hgood
  have hT := isTable_any name at_ ar ct cr ts xs rs _ h.ln h.lt h.lr h.lrr (h.types.below hb0) (h.rows.below hb0)
  rw [decide_eq_true h1] at hT
  have q0 : (w.alloc (tabObj name at_ ar ct cr ts rs)).cell? ⟨w.heap.size, 0, none⟩ = some (.string name) := by simp
  have q1 : (w.alloc (tabObj name at_ ar ct cr ts rs)).cell? ⟨w.heap.size, 1, none⟩ = some (.slice at_ ts.length ct) := by simp
  have HW : Hid (∀ W, Below w.heap.size w W → Calls Tryz.prog 54 #[.slice ah hs.length ch, .slice at_ ts.length ct] W fun e w' => e = .returned (.bool true) ∧ w' = W) := fun W hb => areWays_any ah at_ ch ct hs ts W h.lh (h.hows.below hb) (h.types.below hb) true (by simpa [waysOk] using h2)
  have HF : Hid (∀ W, Below w.heap.size w W → Calls Tryz.prog 55 #[.pointer (some ⟨s, 0, none⟩), .string name] W fun e w' => e = .returned (.int .i64 (findV Ts name)) ∧ Below W.heap.size W w') := fun W hb => tFind_any name W G s d Ts sv bs (hx.below hb)
  have HET : Hid (w.cell? ⟨1, 0, none⟩ = some (.iface 255 (.pointer (some et)))) := het
  obtain ⟨_, c1⟩ := hx.field
  obtain ⟨a, cap, hsv, _⟩ := hx.own.cells
  rw [List.length_map] at hsv
  have hlen := hx.len
  rw [hlen] at hsv
  subst hsv
  have hfew := hx.few
  clear het hx h h1 h2 hlen
  by_cases hf : findI Ts name < Ts.length
  · have hfv : findV Ts name = (findI Ts name : Int) := by unfold findV; rw [if_pos hf]
    rw [hfv] at HF
    generalize findI Ts name = k at *
    clear hfv hthere
    go_enter Tryz.func31, Tryz.ntmps31
    go_wp2_with (first | (go_at_call 53; refine hT.mono ?_; rintro e W1 ⟨rfl, hb1⟩; have hb2 := below_then hb0 hb1; have d0 := cell_below hb1 q0; have d1 := cell_below hb1 q1) | (go_at_call 54; refine (HW.out W1 hb2).mono ?_; rintro e W2 ⟨rfl, rfl⟩) | (go_at_call 55; refine (HF.out _ hb2).mono ?_; rintro e W3 ⟨rfl, hb3⟩; have hb4 := below_then hb2 hb3; have det := cell_below hb4 HET.out))
    go_ret
    exact ⟨rfl, hb4⟩
  · have hfv : findV Ts name = -1 := by unfold findV; rw [if_neg hf]
    rw [hfv] at HF
    have h6 : Ts.length = 6 := by omega
    rw [h6] at c1
    clear hfv hthere hf
    go_enter Tryz.func31, Tryz.ntmps31
    go_wp2_with (first | (go_at_call 53; refine hT.mono ?_; rintro e W1 ⟨rfl, hb1⟩; have hb2 := below_then hb0 hb1; have d0 := cell_below hb1 q0; have d1 := cell_below hb1 q1) | (go_at_call 54; refine (HW.out W1 hb2).mono ?_; rintro e W2 ⟨rfl, rfl⟩) | (go_at_call 55; refine (HF.out _ hb2).mono ?_; rintro e W3 ⟨rfl, hb3⟩; have hb4 := below_then hb2 hb3; have det := cell_below hb4 HET.out; have dc1 := cell_below hb4 c1))
    go_ret
    exact ⟨rfl, hb4⟩
end Go.Proofs.YtfgklnenpichcaaGreatDoor

/- Load of a set: where a segment cannot be written so, or the disk says no. -/
namespace Go.Proofs.YtfgklnenpichcaaGreatDoor
open Go.RowKit Go.Shelf

/-- What all that Load does with a right table, of a name that is not there, asks. -/
structure LoadIn (w : World) (s d : Nat) (F G : Nat → Prop) (D : DS) (Ts : List TS) (sv : Value) (bs : List Nat) (name : ByteArray) (at_ ar ah : Option Addr) (cr : Nat) (ts hs : List Int) (xs : List (Option Addr × Nat)) (rs : List (List V)) (g : Nat) : Prop where
  args : ArgAt w name at_ ar ah cr ts hs xs rs
  tab : isTab name ts rs
  ways : waysOk ts hs
  g1 : 1 ≤ g
  g2 : g ≤ 64
  set : SetX w G s d Ts sv bs
  new : ¬ findI Ts name < Ts.length
  few : Ts.length < 6
  disk : DiskAt w F d D
  lt : ∀ k, F k ∨ G k → k < w.heap.size
  apart : ∀ k, G k → ¬ F k
  sF : ¬ F s
  gF : ∀ g, sv.ownBlock = some g → ¬ F g
  tF : ∀ b o, at_ = some ⟨b, o, none⟩ → ¬ F b
  small : D.pages.length ≤ 200000

open Classical in
set_option maxRecDepth 100000 in
set_option maxHeartbeats 1000000 in
theorem tLoad_dict (s d : Nat) (F G : Nat → Prop) (D : DS) (Ts : List TS) (sv : Value) (bs : List Nat) (name : ByteArray) (at_ ar ah : Option Addr) (ct cr ch : Nat) (ts hs : List Int) (xs : List (Option Addr × Nat)) (rs : List (List V)) (g : Nat) (w : World) (h : LoadIn w s d F G D Ts sv bs name at_ ar ah cr ts hs xs rs g) (a0 a1 a2 : Addr) (he : Errs w a0 a1 a2)
    (c : Nat) (hp : packF rs ts hs (cks rs.length g (ckN rs.length g)) = .inr c) :
    Calls Tryz.prog 31 #[.pointer (some ⟨s, 0, none⟩), tabArg name at_ ar ct cr ts rs, .slice ah hs.length ch, .int .i64 (g : Int)] w fun e w' => Below w.heap.size w w' ∧ ∃ b, e = .returned (.iface 109 (.pointer (some ⟨b, 0, none⟩))) ∧ Chain w' (.iface 109 (.pointer (some ⟨b, 0, none⟩))) a1 (some (c : Int)) none := by
  have hb0 : Below w.heap.size w (w.alloc (tabObj name at_ ar ct cr ts rs)) := (Below.refl _ w).alloc (Nat.le_refl _) _
  have hA := h.args
  have hT := isTable_any name at_ ar ct cr ts xs rs _ hA.ln hA.lt hA.lr hA.lrr (hA.types.below hb0) (hA.rows.below hb0)
  rw [decide_eq_true h.tab] at hT
  have q0 : (w.alloc (tabObj name at_ ar ct cr ts rs)).cell? ⟨w.heap.size, 0, none⟩ = some (.string name) := by simp
  have q1 : (w.alloc (tabObj name at_ ar ct cr ts rs)).cell? ⟨w.heap.size, 1, none⟩ = some (.slice at_ ts.length ct) := by simp
  have q2 : (w.alloc (tabObj name at_ ar ct cr ts rs)).cell? ⟨w.heap.size, 2, none⟩ = some (.slice ar rs.length cr) := by simp
  have HW : Hid (∀ W, Below w.heap.size w W → Calls Tryz.prog 54 #[.slice ah hs.length ch, .slice at_ ts.length ct] W fun e w' => e = .returned (.bool true) ∧ w' = W) := fun W hb => areWays_any ah at_ ch ct hs ts W hA.lh (hA.hows.below hb) (hA.types.below hb) true (by simpa [waysOk] using h.ways)
  have hfv : findV Ts name = -1 := by unfold findV; rw [if_neg h.new]
  have HF : Hid (∀ W, Below w.heap.size w W → Calls Tryz.prog 55 #[.pointer (some ⟨s, 0, none⟩), .string name] W fun e w' => e = .returned (.int .i64 (-1)) ∧ Below W.heap.size W w') := fun W hb => by rw [← hfv]; exact tFind_any name W G s d Ts sv bs (h.set.below hb)
  have HP : Hid (∀ W, Below w.heap.size w W → Calls Tryz.prog 56 #[.agg #[.string name, .slice at_ ts.length ct, .slice ar rs.length cr], .slice ah hs.length ch, .int .i64 (g : Int)] W fun e w' => Below W.heap.size W w' ∧ ∃ b, e = .returned (.tuple #[.slice none 0 0, .iface 109 (.pointer (some ⟨b, 0, none⟩))]) ∧ W.heap.size ≤ b ∧ Chain w' (.iface 109 (.pointer (some ⟨b, 0, none⟩))) a1 (some (c : Int)) none) := fun W hb => by
    have := tPack_any name at_ ar ah ct cr ch g ts hs xs rs W h.tab h.ways.1 h.ways.2 h.g1 h.g2 hA.cap (hA.types.below hb) (hA.hows.below hb) (hA.rows.below hb) a0 a1 a2 (he.below hb)
    rw [hp] at this
    exact this
  obtain ⟨_, c1⟩ := h.set.field
  obtain ⟨a, cap, hsv, _⟩ := h.set.own.cells
  rw [List.length_map, h.set.len] at hsv
  subst hsv
  have hfew := h.few
  have hg1 := h.g1
  have hg2 := h.g2
  clear h hA hfv hp
  go_enter Tryz.func31, Tryz.ntmps31
  go_wp2_with (first | (go_at_call 53; refine hT.mono ?_; rintro e W1 ⟨rfl, hb1⟩; have hb2 := below_then hb0 hb1; have d0 := cell_below hb1 q0; have d1 := cell_below hb1 q1; have d2 := cell_below hb1 q2) | (go_at_call 54; refine (HW.out W1 hb2).mono ?_; rintro e W2 ⟨rfl, rfl⟩) | (go_at_call 55; refine (HF.out _ hb2).mono ?_; rintro e W3 ⟨rfl, hb3⟩; have hb4 := below_then hb2 hb3; have dc1 := cell_below hb4 c1; have e0 := cell_below hb3 d0; have e1 := cell_below hb3 d1; have e2 := cell_below hb3 d2) | (go_at_call 56; refine (HP.out _ hb4).mono ?_; rintro e W4 ⟨hb5, b, rfl, hbl, hch⟩))
  go_ret
  exact ⟨below_then hb4 hb5, b, rfl, hch⟩
end Go.Proofs.YtfgklnenpichcaaGreatDoor

/- Load of a set: where the disk says no. -/
namespace Go.Proofs.YtfgklnenpichcaaGreatDoor
open Go.RowKit Go.Shelf

/-- The contracts of all calls up to the disk's. -/
structure LoadHid (w : World) (s d : Nat) (F : Nat → Prop) (D : DS) (Ts : List TS) (name : ByteArray) (at_ ar ah : Option Addr) (ct cr ch : Nat) (ts hs : List Int) (rs : List (List V)) (g : Nat) (T : List (List UInt8)) (q qw : Addr) : Prop where
  t : Calls Tryz.prog 53 #[tabArg name at_ ar ct cr ts rs] (w.alloc (tabObj name at_ ar ct cr ts rs)) fun e w' => e = .returned (.bool true) ∧ Below (w.alloc (tabObj name at_ ar ct cr ts rs)).heap.size (w.alloc (tabObj name at_ ar ct cr ts rs)) w'
  ws : ∀ W, Below w.heap.size w W → Calls Tryz.prog 54 #[.slice ah hs.length ch, .slice at_ ts.length ct] W fun e w' => e = .returned (.bool true) ∧ w' = W
  f : ∀ W, Below w.heap.size w W → Calls Tryz.prog 55 #[.pointer (some ⟨s, 0, none⟩), .string name] W fun e w' => e = .returned (.int .i64 (-1)) ∧ Below W.heap.size W w'
  p : ∀ W, Below w.heap.size w W → Calls Tryz.prog 56 #[.agg #[.string name, .slice at_ ts.length ct, .slice ar rs.length cr], .slice ah hs.length ch, .int .i64 (g : Int)] W fun e w' => Below W.heap.size W w' ∧ ∃ a cap, e = .returned (.tuple #[.slice a T.length cap, .nilIface]) ∧ Cells w' a (T.map tv) ∧ ∀ b o, a = some ⟨b, o, none⟩ → W.heap.size ≤ b
  l : ∀ W a cap, Below w.heap.size w W → Cells W a (T.map tv) → (∀ b o, a = some ⟨b, o, none⟩ → w.heap.size ≤ b) → Calls Tryz.prog 57 #[.pointer (some ⟨s, 0, none⟩), .slice a T.length cap] W fun e w' => LayAllPost W F d q qw (layAll D T) e w'

open Classical in
theorem LoadIn.hid {w : World} {s d : Nat} {F G : Nat → Prop} {D : DS} {Ts : List TS} {sv : Value} {bs : List Nat} {name : ByteArray} {at_ ar ah : Option Addr} {cr : Nat} {ts hs : List Int} {xs : List (Option Addr × Nat)} {rs : List (List V)} {g : Nat} (h : LoadIn w s d F G D Ts sv bs name at_ ar ah cr ts hs xs rs g) (ct ch : Nat) (a0 a1 a2 : Addr) (he : Errs w a0 a1 a2)
    (T : List (List UInt8)) (hp : packF rs ts hs (cks rs.length g (ckN rs.length g)) = .inl T) (q qw : Addr) (hq : w.cell? ⟨4, 0, none⟩ = some (.iface 255 (.pointer (some q)))) (hw : w.cell? ⟨5, 0, none⟩ = some (.iface 255 (.pointer (some qw)))) (hFq : ¬ F 4) (hFw : ¬ F 5) : LoadHid w s d F D Ts name at_ ar ah ct cr ch ts hs rs g T q qw := by
  have hb0 : Below w.heap.size w (w.alloc (tabObj name at_ ar ct cr ts rs)) := (Below.refl _ w).alloc (Nat.le_refl _) _
  have hA := h.args
  have hT := isTable_any name at_ ar ct cr ts xs rs _ hA.ln hA.lt hA.lr hA.lrr (hA.types.below hb0) (hA.rows.below hb0)
  rw [decide_eq_true h.tab] at hT
  have hfv : findV Ts name = -1 := by unfold findV; rw [if_neg h.new]
  refine ⟨hT, fun W hb => areWays_any ah at_ ch ct hs ts W hA.lh (hA.hows.below hb) (hA.types.below hb) true (by simpa [waysOk] using h.ways), fun W hb => by rw [← hfv]; exact tFind_any name W G s d Ts sv bs (h.set.below hb), fun W hb => ?_, fun W a cap hb hc ha => ?_⟩
  · have := tPack_any name at_ ar ah ct cr ch g ts hs xs rs W h.tab h.ways.1 h.ways.2 h.g1 h.g2 hA.cap (hA.types.below hb) (hA.hows.below hb) (hA.rows.below hb) a0 a1 a2 (he.below hb)
    rw [hp] at this
    exact this
  · obtain ⟨hl1, hl2⟩ := packFLen rs ts hs _ T hp
    have hck : (cks rs.length g (ckN rs.length g)).length ≤ 200 := by
      have h2 : rs.length ≤ 200 := h.tab.2.2.1
      have h3 : ckN rs.length g ≤ rs.length := by
        unfold ckN
        have := h.g1
        exact Nat.le_of_lt_succ ((Nat.div_lt_iff_lt_mul (by omega)).2 (by
          have : rs.length + 1 ≤ (rs.length + 1) * g := Nat.le_mul_of_pos_right _ (by omega)
          rw [Nat.succ_mul] at this ⊢
          have h5 : rs.length ≤ rs.length * g := Nat.le_mul_of_pos_right _ (by omega)
          omega))
      simp [cks]
      omega
    have h6 : ts.length ≤ 6 := h.tab.2.1.1.2
    have hTl : T.length ≤ 1200 := by
      rw [hl1]
      exact Nat.le_trans (Nat.mul_le_mul hck h6) (by decide)
    have htp := totalP_le T fun t ht => (hl2 t ht).1
    have hsm := h.small
    exact tLay_any s d a cap T W F D (h.disk.below hb) (fun k hk => Nat.lt_of_lt_of_le (h.lt k (.inl hk)) hb.size) hc (fun b o hbo hf => by have := h.lt b (.inl hf); have := ha b o hbo; omega) (cell_below hb h.set.field.1) h.sF q qw (cell_below hb hq) (cell_below hb hw) hFq hFw (by omega) (by omega) (fun t ht => by have := (hl2 t ht).1; omega)

set_option maxRecDepth 100000 in
set_option maxHeartbeats 1000000 in
theorem tLoad_disk (s d : Nat) (F G : Nat → Prop) (D : DS) (Ts : List TS) (sv : Value) (bs : List Nat) (name : ByteArray) (at_ ar ah : Option Addr) (ct cr ch : Nat) (ts hs : List Int) (xs : List (Option Addr × Nat)) (rs : List (List V)) (g : Nat) (w : World) (h : LoadIn w s d F G D Ts sv bs name at_ ar ah cr ts hs xs rs g) (a0 a1 a2 : Addr) (he : Errs w a0 a1 a2)
    (T : List (List UInt8)) (hp : packF rs ts hs (cks rs.length g (ckN rs.length g)) = .inl T) (q qw : Addr) (hq : w.cell? ⟨4, 0, none⟩ = some (.iface 255 (.pointer (some q)))) (hw : w.cell? ⟨5, 0, none⟩ = some (.iface 255 (.pointer (some qw)))) (hFq : ¬ F 4) (hFw : ¬ F 5) (x : Bool) (hx : (layAll D T).2.2 = some x) :
    Calls Tryz.prog 31 #[.pointer (some ⟨s, 0, none⟩), tabArg name at_ ar ct cr ts rs, .slice ah hs.length ch, .int .i64 (g : Int)] w fun e w' => Keep F w w' ∧ ∃ FD : Nat → Prop, DiskAt w' FD d (relAll (layAll D T).1 (layAll D T).2.1) ∧ (∀ k, FD k → F k ∨ w.heap.size ≤ k) ∧ (∀ k, FD k → k < w'.heap.size) ∧ ∃ b, e = .returned (.iface 109 (.pointer (some ⟨b, 0, none⟩))) ∧ Chain w' (.iface 109 (.pointer (some ⟨b, 0, none⟩))) (if x then q else qw) (some (-1)) (some (-1)) := by
  have hb0 : Below w.heap.size w (w.alloc (tabObj name at_ ar ct cr ts rs)) := (Below.refl _ w).alloc (Nat.le_refl _) _
  obtain ⟨hT, hW, hF, hP, hL⟩ := h.hid ct ch a0 a1 a2 he T hp q qw hq hw hFq hFw
  have HW : Hid (∀ W, Below w.heap.size w W → Calls Tryz.prog 54 #[.slice ah hs.length ch, .slice at_ ts.length ct] W fun e w' => e = .returned (.bool true) ∧ w' = W) := hW
  have HF : Hid (∀ W, Below w.heap.size w W → Calls Tryz.prog 55 #[.pointer (some ⟨s, 0, none⟩), .string name] W fun e w' => e = .returned (.int .i64 (-1)) ∧ Below W.heap.size W w') := hF
  have HP : Hid (∀ W, Below w.heap.size w W → Calls Tryz.prog 56 #[.agg #[.string name, .slice at_ ts.length ct, .slice ar rs.length cr], .slice ah hs.length ch, .int .i64 (g : Int)] W fun e w' => Below W.heap.size W w' ∧ ∃ a cap, e = .returned (.tuple #[.slice a T.length cap, .nilIface]) ∧ Cells w' a (T.map tv) ∧ ∀ b o, a = some ⟨b, o, none⟩ → W.heap.size ≤ b) := hP
  generalize hA : (if x then q else qw) = A
  have HL : Hid (∀ W a cap, Below w.heap.size w W → Cells W a (T.map tv) → (∀ b o, a = some ⟨b, o, none⟩ → w.heap.size ≤ b) → Calls Tryz.prog 57 #[.pointer (some ⟨s, 0, none⟩), .slice a T.length cap] W fun e w' => Keep F W w' ∧ ∃ FD : Nat → Prop, DiskAt w' FD d (relAll (layAll D T).1 (layAll D T).2.1) ∧ (∀ k, FD k → F k ∨ W.heap.size ≤ k) ∧ (∀ k, FD k → k < w'.heap.size) ∧ ∃ b, e = .returned (.tuple #[.slice none 0 0, .iface 152 (.pointer (some ⟨b, 0, none⟩))]) ∧ Chain w' (.iface 152 (.pointer (some ⟨b, 0, none⟩))) A none (some (-1))) := fun W a cap h1 h2 h3 =>
    (hL W a cap h1 h2 h3).mono fun e w' hpost => by
      unfold LayAllPost at hpost
      rw [hx] at hpost
      obtain ⟨hk5, FD, hd5, hf5, hl5, b, he, hbl, hch, hbF⟩ := hpost
      rw [hA] at hch
      exact ⟨hk5, FD, hd5, hf5, hl5, b, he, hch⟩
  have q0 : (w.alloc (tabObj name at_ ar ct cr ts rs)).cell? ⟨w.heap.size, 0, none⟩ = some (.string name) := by simp
  have q1 : (w.alloc (tabObj name at_ ar ct cr ts rs)).cell? ⟨w.heap.size, 1, none⟩ = some (.slice at_ ts.length ct) := by simp
  have q2 : (w.alloc (tabObj name at_ ar ct cr ts rs)).cell? ⟨w.heap.size, 2, none⟩ = some (.slice ar rs.length cr) := by simp
  have hn0 : ¬ F w.heap.size := fun hf => Nat.lt_irrefl _ (h.lt _ (.inl hf))
  have HFL : Hid (∀ k, F k → k < w.heap.size) := fun k hk => h.lt k (.inl hk)
  obtain ⟨_, c1⟩ := h.set.field
  obtain ⟨a, cap, hsv, _⟩ := h.set.own.cells
  rw [List.length_map, h.set.len] at hsv
  subst hsv
  have hfew := h.few
  have hg1 := h.g1
  have hg2 := h.g2
  clear h hp hW hF hP hL hq hw hA hx
  go_enter Tryz.func31, Tryz.ntmps31
  go_wp2_with (first | (go_at_call 53; refine hT.mono ?_; rintro e W1 ⟨rfl, hb1⟩; have hb2 := below_then hb0 hb1; have d0 := cell_below hb1 q0; have d1 := cell_below hb1 q1; have d2 := cell_below hb1 q2) | (go_at_call 54; refine (HW.out W1 hb2).mono ?_; rintro e W2 ⟨rfl, rfl⟩) | (go_at_call 55; refine (HF.out _ hb2).mono ?_; rintro e W3 ⟨rfl, hb3⟩; have hb4 := below_then hb2 hb3; have dc1 := cell_below hb4 c1; have e0 := cell_below hb3 d0; have e1 := cell_below hb3 d1; have e2 := cell_below hb3 d2) | (go_at_call 56; refine (HP.out _ hb4).mono ?_; rintro e W4 ⟨hb5, pa, pc, rfl, hpc, hpa⟩; have hb6 := below_then hb4 hb5; have f0 := cell_below hb5 e0; have z4 := hb4.size) | (go_at_call 57; refine (HL.out _ pa pc hb6 hpc (fun b o hb => Nat.le_trans z4 (hpa b o hb))).mono ?_; rintro e W5 ⟨hk5, FD, hd5, hf5, hl5, b, rfl, hch⟩; have g0 := hk5.cell f0 hn0))
  go_ret
  have z6 := hb6.size
  have hk6 : Keep F w W5 := (Keep.of_below hb6).trans hk5
  have hba : Below W5.heap.size W5 (W5.alloc (.cells #[.string name, .int .i64 (-1), .iface 152 (.pointer (some ⟨b, 0, none⟩))] 111)) := (Below.refl _ _).alloc (Nat.le_refl _) _
  refine ⟨hk6.trans (Keep.of_below hba), FD, hd5.below hba, fun k hk => (hf5 k hk).imp_right fun h => by omega, fun k hk => by have := hl5 k hk; simp; omega, W5.heap.size, rfl, ?_⟩
  obtain ⟨h0, h1⟩ := hch.disk_at
  exact .both _ _ _ _ _ (by simp) (by simp) (cell_below hba h0) (cell_below hba h1)
end Go.Proofs.YtfgklnenpichcaaGreatDoor

/- Load of a set: the table is there: what stands behind it. -/
namespace Go.Proofs.YtfgklnenpichcaaGreatDoor
open Go.RowKit Go.Shelf

/-- What is there behind a Load that went well. -/
def LoadOk (w : World) (s d : Nat) (F G : Nat → Prop) (D : DS) (Ts : List TS) (sv : Value) (bs : List Nat) (name : ByteArray) (ts : List Int) (rs : List (List V)) (g : Nat) (T : List (List UInt8)) (w' : World) : Prop :=
  Keep (fun k => F k ∨ setF s sv k) w w' ∧ ∃ (FD G' : Nat → Prop) (sv' : Value) (tb : Nat), DiskAt w' FD d (layAll D T).1 ∧ SetX w' G' s d (Ts ++ [⟨name, ts, rs.length, g, (layAll D T).2.1⟩]) sv' (bs ++ [tb]) ∧ (∀ k, FD k → F k ∨ w.heap.size ≤ k) ∧ (∀ k, G' k → G k ∨ w.heap.size ≤ k) ∧ (∀ k, FD k ∨ G' k → k < w'.heap.size) ∧ (∀ k, G' k → ¬ FD k) ∧ ¬ FD s ∧ (∀ k, sv'.ownBlock = some k → ¬ FD k) ∧ (∀ k, sv'.ownBlock = some k → sv.ownBlock = some k ∨ w.heap.size ≤ k)

abbrev recObj (name : ByteArray) (g7 c7 : Nat) (ts : List Int) (rs : List (List V)) (g : Nat) (sa : Option Addr) (n sc : Nat) : Obj := .cells #[.string name, .slice (some ⟨g7, 0, none⟩) ts.length c7, .int .i64 (rs.length : Int), .int .i64 (g : Int), .slice sa n sc] 116

theorem load_done {w : World} {s d : Nat} {F G : Nat → Prop} {D : DS} {Ts : List TS} {sv : Value} {bs : List Nat} {name : ByteArray} {at_ ar ah : Option Addr} {cr : Nat} {ts hs : List Int} {xs : List (Option Addr × Nat)} {rs : List (List V)} {g : Nat} (h : LoadIn w s d F G D Ts sv bs name at_ ar ah cr ts hs xs rs g)
    {T : List (List UInt8)} {W4 W5 X2 X5 : World} {FD : Nat → Prop} {sa : Option Addr} {sc : Nat} {us : List (Option Addr × Nat)} (hb6 : Below w.heap.size w W4) (hk5 : Keep F W4 W5) (hd5 : DiskAt W5 FD d (layAll D T).1) (hf5 : ∀ k, FD k → F k ∨ W4.heap.size ≤ k) (hl5 : ∀ k, FD k → k < W5.heap.size)
    (hsg : SegsAt W5 (fun k => W4.heap.size ≤ k ∧ k < W5.heap.size ∧ ¬ FD k) sa us (layAll D T).2.1) (hsc : (layAll D T).2.1.length ≤ sc) (hb7 : Below W5.heap.size W5 X2) {g7 c7 : Nat} (hg7 : W5.heap.size ≤ g7) (hg7l : g7 < X2.heap.size) (hI : Ints X2 (some ⟨g7, 0, none⟩) ts)
    {sv' : Value} {o4 : Obj} (hown : OwnC X5 0 112 sv' (bs.map tabV ++ [tabV X2.heap.size])) (hgr : ((X2.alloc (recObj name g7 c7 ts rs g sa (layAll D T).2.1.length sc)).alloc o4).grownBy X5 sv.ownBlock) (hat : sv'.ownBlock = sv.ownBlock ∨ sv'.ownBlock = some (X2.heap.size + 2)) :
    LoadOk w s d F G D Ts sv bs name ts rs g T (X5.setCell ⟨s, 1, none⟩ sv') := by
  have z6 := hb6.size
  have z5 := hk5.size
  have z7 := hb7.size
  have z8 := hgr.size
  simp only [World.size_alloc] at z8
  have hsl : s < w.heap.size := lt_of_heap h.set.cells
  have hol : ∀ k, sv.ownBlock = some k → k < w.heap.size := fun k hk => own_block_ge h.set.own hk
  have hfl : ∀ k, F k → k < w.heap.size := fun k hk => h.lt k (.inl hk)
  have hgl : ∀ k, G k → k < w.heap.size := fun k hk => h.lt k (.inr hk)
  have hfd : ∀ k, k < w.heap.size → FD k → F k := fun k hk hf => (hf5 k hf).resolve_right (by omega)
  have hsz : (X5.setCell ⟨s, 1, none⟩ sv').heap.size = X5.heap.size := by simp [World.setCell]
  -- the blocks that stand
  have st4 : ∀ k, k < X2.heap.size + 2 → sv.ownBlock ≠ some k → k ≠ s → (X5.setCell ⟨s, 1, none⟩ sv').heap[k]? = ((X2.alloc (recObj name g7 c7 ts rs g sa (layAll D T).2.1.length sc)).alloc o4).heap[k]? := fun k hk hne hks =>
    (Below.heap_setCell _ _ _ _ hks).trans (hgr.block k (by simp; omega) (Ne.symm hne))
  have st2 : ∀ k, k < X2.heap.size → sv.ownBlock ≠ some k → k ≠ s → (X5.setCell ⟨s, 1, none⟩ sv').heap[k]? = X2.heap[k]? := fun k hk hne hks =>
    (st4 k (by omega) hne hks).trans ((Below.heap_alloc _ o4 k (by simp; omega)).trans (Below.heap_alloc X2 _ k hk))
  have st5 : ∀ k, k < W5.heap.size → sv.ownBlock ≠ some k → k ≠ s → (X5.setCell ⟨s, 1, none⟩ sv').heap[k]? = W5.heap[k]? := fun k hk hne hks =>
    (st2 k (by omega) hne hks).trans (hb7.block k hk)
  have st0 : ∀ k, k < w.heap.size → ¬ F k → sv.ownBlock ≠ some k → k ≠ s → (X5.setCell ⟨s, 1, none⟩ sv').heap[k]? = w.heap[k]? := fun k hk hF hne hks =>
    (st5 k (by omega) hne hks).trans ((hk5.block k (by omega) hF).trans (hb6.block k hk))
  have hsne : sv.ownBlock ≠ some s := fun e => (h.set.gF s e).2 rfl
  have hs5 : X5.heap[s]? = some (.cells #[.pointer (some ⟨d, 0, none⟩), sv] 103 (0, 0)) := by
    rw [hgr.block s (by simp; omega) (Ne.symm hsne), Below.heap_alloc _ o4 s (by simp; omega), Below.heap_alloc X2 _ s (by omega), hb7.block s (by omega), hk5.block s (by omega) h.sF, hb6.block s hsl]
    exact h.set.cells
  have hnb : ∀ k, sv'.ownBlock = some k → sv.ownBlock = some k ∨ k = X2.heap.size + 2 := fun k hk => by
    rcases hat with e | e
    · exact .inl (e ▸ hk)
    · rw [e] at hk; simp at hk; exact .inr hk.symm
  refine ⟨⟨hgr.os.trans ((hb7.os).trans (hk5.os.trans hb6.os)), hgr.tape.trans ((hb7.tape).trans (hk5.tape.trans hb6.tape)), hgr.output.trans ((hb7.output).trans (hk5.output.trans hb6.output)), by rw [hsz]; omega, fun k hk hn => st0 k hk (fun hF => hn (.inl hF)) (fun e => hn (.inr (.inr e))) (fun e => hn (.inr (.inl e)))⟩,
    FD, fun k => G k ∨ (W4.heap.size ≤ k ∧ k < W5.heap.size ∧ ¬ FD k) ∨ k = g7 ∨ k = X2.heap.size, sv', X2.heap.size, ?_, ?_, fun k hk => (hf5 k hk).imp_right fun h => by omega, ?_, ?_, ?_, ?_, ?_, ?_⟩
  · refine hd5.stands fun k hk hl => st5 k hl (fun e => ?_) (fun e => ?_)
    · exact h.gF k e (hfd k (hol k e) hk)
    · subst e; exact h.sF (hfd k hsl hk)
  · refine ⟨heap_setCell_same X5 s 1 _ _ _ hs5, ?_, ?_, ?_, by simp [h.set.len], ?_, by have := h.few; simp; omega⟩
    · rw [List.map_append, List.map_cons, List.map_nil]
      refine own_of_block hown fun k hk => Below.heap_setCell _ _ _ _ fun e => ?_
      subst e
      rcases hnb k hk with e | e
      · exact hsne e
      · omega
    · rintro (h1 | ⟨h1, _⟩ | h1 | h1)
      · exact h.set.sF h1
      · omega
      · omega
      · omega
    · intro k hk
      refine ⟨?_, fun e => ?_⟩
      · rintro (h1 | ⟨h1, h2, _⟩ | h1 | h1)
        · rcases hnb k hk with e | e
          · exact (h.set.gF k e).1 h1
          · have := hgl k h1; omega
        · rcases hnb k hk with e | e
          · have := hol k e; omega
          · omega
        · rcases hnb k hk with e | e
          · have := hol k e; omega
          · omega
        · rcases hnb k hk with e | e
          · have := hol k e; omega
          · omega
      · subst e
        rcases hnb k hk with e | e
        · exact hsne e
        · omega
    · intro i b Tb hb hTb
      by_cases hi : i < bs.length
      · rw [List.getElem?_append_left hi] at hb
        rw [List.getElem?_append_left (by rw [← h.set.len]; exact hi)] at hTb
        refine ((h.set.tab i b Tb hb hTb).stands (by rw [hsz]; omega) fun k hk hl => st0 k hl (h.apart k hk) (fun e => (h.set.gF k e).1 hk) (fun e => h.set.sF (e ▸ hk))).mono fun k hk => .inl hk
      · have hi2 : i = bs.length := by
          have := (List.getElem?_eq_some_iff.1 hb).1
          simp at this
          omega
        subst hi2
        rw [List.getElem?_append_right (Nat.le_refl _)] at hb
        rw [h.set.len, List.getElem?_append_right (Nat.le_refl _)] at hTb
        simp at hb hTb
        subst hb hTb
        have nb : ∀ k, W4.heap.size ≤ k → sv.ownBlock ≠ some k := fun k hk e => by have := hol k e; omega
        refine ⟨some ⟨g7, 0, none⟩, c7, sa, sc, us, ?_, ?_, ?_, ?_, hsc, .inr (.inr (.inr rfl))⟩
        · rw [st4 _ (by omega) (nb _ (by omega)) (by omega), Below.heap_alloc _ o4 _ (by simp), heap_alloc_new]
        · refine hI.of_block (by rw [hsz]; omega) fun b o hbo hl => ?_
          simp at hbo
          obtain ⟨rfl, rfl⟩ := hbo
          exact st2 _ hl (nb _ (by omega)) (by omega)
        · intro b o hbo
          simp at hbo
          exact .inr (.inr (.inl hbo.1.symm))
        · exact (hsg.stands (by rw [hsz]; omega) fun k hk hl => st5 k hl (nb k hk.1) (by have := hk.1; omega)).mono fun k hk => .inr (.inl hk)
  · rintro k (h1 | ⟨h1, _⟩ | h1 | h1)
    · exact .inl h1
    · exact .inr (by omega)
    · exact .inr (by omega)
    · exact .inr (by omega)
  · rw [hsz]
    rintro k (h1 | h1 | ⟨_, h1, _⟩ | h1 | h1)
    · have := hl5 k h1; omega
    · have := hgl k h1; omega
    · omega
    · omega
    · omega
  · rintro k (h1 | ⟨_, _, h1⟩ | h1 | h1) hf
    · exact h.apart k h1 (hfd k (hgl k h1) hf)
    · exact h1 hf
    · have := hl5 k hf; omega
    · have := hl5 k hf; omega
  · exact fun hf => h.sF (hfd s hsl hf)
  · intro k hk hf
    rcases hnb k hk with e | e
    · exact h.gF k e (hfd k (hol k e) hf)
    · have := hl5 k hf; omega
  · intro k hk
    rcases hnb k hk with e | e
    · exact .inl e
    · exact .inr (by omega)

end Go.Proofs.YtfgklnenpichcaaGreatDoor
