/- The text that lies on pages: read, or the first page that is spoilt. -/
import Derived.Test.YtfgklnenpichcaaGreatDoorDg
import Derived.Test.YtfgklnenpichcaaGreatDoorBu
namespace Go.Proofs.YtfgklnenpichcaaGreatDoor
open Go.RowKit

/-- What is read of pages: the text (inl), or the first of them that cannot be read (inr). -/
def readL (D : DS) : List Nat → List UInt8 ⊕ Nat
  | [] => .inl []
  | i :: l => match (D.pages.getD i none).bind openP with
    | none => .inr i
    | some t => match readL D l with
      | .inl u => .inl (t ++ u)
      | .inr j => .inr j
theorem openP_le {p t : List UInt8} (h : openP p = some t) : t.length ≤ 56 := by
  unfold openP at h
  split at h
  · simp at h
  · simp at h
    subst h
    rename_i hh
    rw [List.getD_eq_getElem?_getD] at hh
    rw [List.length_take]
    omega
theorem readL_step {D : DS} {l : List Nat} (k : Nat) (hk : k < l.length) (t u : List UInt8) (hu : (D.pages.getD l[k] none).bind openP = some u) (h : readL D l = (match readL D (l.drop k) with | .inl r => .inl (t ++ r) | .inr j => .inr j)) :
    readL D l = (match readL D (l.drop (k + 1)) with | .inl r => .inl ((t ++ u) ++ r) | .inr j => .inr j) := by
  rw [h, List.drop_eq_getElem_cons hk]
  simp only [readL, hu]
  cases readL D (l.drop (k + 1)) <;> simp
theorem readL_bad {D : DS} {l : List Nat} (k : Nat) (hk : k < l.length) (t : List UInt8) (hu : (D.pages.getD l[k] none).bind openP = none) (h : readL D l = (match readL D (l.drop k) with | .inl r => .inl (t ++ r) | .inr j => .inr j)) : readL D l = .inr l[k] := by
  rw [h, List.drop_eq_getElem_cons hk]
  simp only [readL, hu]

theorem getD_inUse {l : List (Option (List UInt8))} {i : Nat} (h : inUseB l (i : Int) = false) : l.getD i none = none := by
  cases hq : l.getD i none with
  | none => rfl
  | some p =>
    rw [List.getD_eq_getElem?_getD] at hq
    have : l[i]? = some (some p) := by
      cases hh : l[i]? with
      | none => rw [hh] at hq; simp at hq
      | some x => rw [hh] at hq; simp at hq; rw [hq]
    rw [inUseB_some this] at h
    simp at h

set_option maxRecDepth 100000 in
set_option maxHeartbeats 400000 in
theorem dSpoilt_any (n : Int) (w : World) (pg : Addr) (hpg : w.cell? ⟨6, 0, none⟩ = some (.iface 255 (.pointer (some pg)))) :
    Calls Tryz.prog 117 #[.int .i64 n] w fun e w' => Below w.heap.size w w' ∧ ∃ b, e = .returned (.iface 152 (.pointer (some ⟨b, 0, none⟩))) ∧ w.heap.size ≤ b ∧ Chain w' (.iface 152 (.pointer (some ⟨b, 0, none⟩))) pg none (some n) := by
  go_enter Tryz.func117, Tryz.ntmps117
  go_wp2
  go_ret
  exact ⟨(Below.refl _ w).alloc (Nat.le_refl _) _, _, rfl, Nat.le_refl _, chain_disk w pg n⟩

/-- What Read answers. -/
def ReadPost (w : World) (pg : Addr) (r : List UInt8 ⊕ Nat) (e : Ending) (w' : World) : Prop :=
  Below w.heap.size w w' ∧ match r with
    | .inl t => e = .returned (.tuple #[.string (str t), .nilIface])
    | .inr i => ∃ b, e = .returned (.tuple #[.string ⟨#[]⟩, .iface 152 (.pointer (some ⟨b, 0, none⟩))]) ∧ w.heap.size ≤ b ∧ Chain w' (.iface 152 (.pointer (some ⟨b, 0, none⟩))) pg none (some (i : Int))

theorem page_open {w : World} {F : Nat → Prop} {d : Nat} {D : DS} {sv : Value} {ps : List (Option Nat)} (h : DiskX w F d D sv ps) (i : Nat) (hu : inUseB D.pages (i : Int) = true) :
    ∃ g cap b p, sv = .slice (some ⟨g, 0, none⟩) ps.length cap ∧ i < ps.length ∧ w.cell? ⟨g, i, none⟩ = some (.pointer (some ⟨b, 0, none⟩)) ∧ D.pages.getD i none = some p ∧ PgAt w b p := by
  obtain ⟨p, hp⟩ := inUseB_true hu
  obtain ⟨a, cap, he, hc⟩ := h.list
  have hpl : i < ps.length := by
    rw [h.len]
    rcases Nat.lt_or_ge i D.pages.length with h' | h'
    · exact h'
    · rw [List.getElem?_eq_none h'] at hp; simp at hp
  obtain ⟨g, rfl, _, _, cg, _⟩ := hc i hpl
  have hsome := h.which i hpl
  rw [List.getD_eq_getElem?_getD, hp] at hsome
  obtain ⟨b, hb⟩ : ∃ b, ps[i] = some b := by
    cases hq : ps[i] with
    | none => rw [hq] at hsome; simp at hsome
    | some b => exact ⟨b, rfl⟩
  obtain ⟨_, _, _, p0, hp0, hpg⟩ := h.page i b (by rw [← hb]; simp [hpl])
  rw [hb] at cg
  exact ⟨g, cap, b, p0, he, hpl, cg, by rw [List.getD_eq_getElem?_getD, hp0]; rfl, hpg⟩

set_option maxRecDepth 100000 in
set_option maxHeartbeats 2000000 in
theorem dRead_any (d : Nat) (a : Option Addr) (cap : Nat) (l : List Nat) (w : World) (F : Nat → Prop) (D : DS) (h : DiskAt w F d D) (hl : Cells w a (l.map nv)) (hsm : l.length ≤ 1000000) (pg : Addr) (hpg : w.cell? ⟨6, 0, none⟩ = some (.iface 255 (.pointer (some pg)))) (hne : ∀ t, readL D l = .inl t → t ≠ []) :
    Calls Tryz.prog 115 #[.pointer (some ⟨d, 0, none⟩), .slice a l.length cap] w fun e w' => ReadPost w pg (readL D l) e w' := by
  go_enter Tryz.func115, Tryz.ntmps115
  go_wp2
  go_loopw [13] (fun i wr => ∃ (k : Nat) (t : List UInt8), k ≤ l.length ∧ t.length ≤ 56 * k ∧ i = .int .i64 k ∧ BuAt wr w.heap.size w.heap.size t ∧ Below w.heap.size w wr ∧ Hid (readL D l = (match readL D (l.drop k) with | .inl r => .inl (t ++ r) | .inr j => .inr j))) (fun i _ => l.length - (intOf i).toNat)
  case atStart => exact ⟨0, [], Nat.zero_le _, by simp, rfl, BuAt.new w _ (Nat.le_refl _), (Below.refl _ _).alloc (Nat.le_refl _) _, by show _ = _; rw [List.drop_zero]; cases readL D l <;> rfl⟩
  case round =>
    rename_i i
    obtain ⟨k, t, hk, htl, rfl, hbu, hbw, HE⟩ := hrel
    by_cases hlt : k < l.length
    · rcases hl with hl | ⟨b, o, rfl, hb, hl⟩
      · simp at hl; subst hl; simp at hlt
      have cb : wr.cell? ⟨b, o + k, none⟩ = some (.int .i64 ((l[k] : Nat) : Int)) := by rw [(below_keep hbw).1 b (o + k) hb]; exact hl k _ (by simp [hlt]; rfl)
      have hpgr := cell_below hbw hpg
      have hDr := h.below hbw
      have hin := dInUse_any d (l[k] : Int) wr F D hDr
      have hsp := dSpoilt_any (l[k] : Int) wr pg hpgr
      by_cases hu : inUseB D.pages ((l[k] : Nat) : Int) = true
      · rw [hu] at hin
        obtain ⟨sv, ps, hx⟩ := hDr
        obtain ⟨_, _, _, _, _, c5⟩ := hx.field
        obtain ⟨g, cp, bp, p, rfl, hil, cg, hgp, hpa⟩ := page_open hx l[k] hu
        have hop := open_any bp p wr hpa
        have hili : ((l[k] : Nat) : Int) < (ps.length : Int) := by omega
        cases ho : openP p with
        | none =>
          have HB : Hid (readL D l = .inr l[k]) := readL_bad k hlt t (by rw [hgp]; exact ho) HE.out
          rw [ho] at hop
          clear HE hne hgp hu hx ho
          generalize l[k] = i at *
          go_wp2_with (first | (go_at_call 64; refine hin.mono ?_; rintro e w' ⟨rfl, hw'⟩; subst w') | (go_at_call 137; refine hop.mono ?_; rintro e W1 ⟨rfl, hb1⟩; have hsp1 := dSpoilt_any (i : Int) W1 pg (cell_below hb1 hpgr)) | (go_at_call 117; refine hsp1.mono ?_; rintro e W2 ⟨hb2, b2, rfl, hb2l, hch⟩))
          go_ret2
          rw [HB.out]
          exact ⟨below_then hbw (below_then hb1 hb2), b2, rfl, Nat.le_trans hbw.size (Nat.le_trans hb1.size hb2l), hch⟩
        | some u =>
          have HS : Hid (readL D l = (match readL D (l.drop (k + 1)) with | .inl r => .inl ((t ++ u) ++ r) | .inr j => .inr j)) := readL_step k hlt t u (by rw [hgp]; exact ho) HE.out
          have hul := openP_le ho
          rw [ho] at hop
          clear HE hne hgp hu hx ho hsp
          generalize l[k] = i at *
          go_wp2_with (first | (go_at_call 64; refine hin.mono ?_; rintro e w' ⟨rfl, hw'⟩; subst w') | (go_at_call 137; refine hop.mono ?_; rintro e W1 ⟨rfl, hb1⟩; have hbs := bWrite_any w.heap.size w.heap.size t u W1 (hbu.below hb1) (by omega) (Nat.le_trans hbw.size hb1.size)) | (go_at_call 138; refine hbs.mono ?_; rintro e W2 ⟨rfl, hbu2, hb2⟩))
          go_roundw
          case rel => exact ⟨k + 1, t ++ u, by omega, by simp; omega, by go_num, hbu2, (below_then hbw hb1).trans hb2, HS.out⟩
          case measure => simp [intOf]; omega
      · rw [Bool.not_eq_true] at hu
        rw [hu] at hin
        have HB : Hid (readL D l = .inr l[k]) := readL_bad k hlt t (by rw [getD_inUse hu]; rfl) HE.out
        clear HE hne
        generalize l[k] = i at *
        go_wp2_with (first | (go_at_call 64; refine hin.mono ?_; rintro e w' ⟨rfl, hw'⟩; subst w') | (go_at_call 117; refine hsp.mono ?_; rintro e W2 ⟨hb2, b2, rfl, hb2l, hch⟩))
        go_ret2
        rw [HB.out]
        exact ⟨below_then hbw hb2, b2, rfl, Nat.le_trans hbw.size hb2l, hch⟩
    · obtain rfl : k = l.length := by omega
      have HB : Hid (readL D l = .inl t) := by show _ = _; rw [HE.out, List.drop_length]; simp [readL]
      have hst := bString_any w.heap.size w.heap.size t wr hbu (hne t HB.out)
      clear HE hne
      go_wp2_with (go_at_call 139; refine hst.mono ?_; rintro e W1 ⟨rfl, hb1⟩)
      go_ret2
      rw [HB.out]
      exact ⟨hbw.trans hb1, rfl⟩
end Go.Proofs.YtfgklnenpichcaaGreatDoor
