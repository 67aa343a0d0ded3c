/- A store with one table on a disk with room. -/
import Derived.Test.YtfgklnenpichcaaGreatDoorSe
import Derived.Test.YtfgklnenpichcaaGreatDoorMd
import Derived.Test.YtfgklnenpichcaaGreatDoorHc
import Derived.Test.YtfgklnenpichcaaGreatDoorKm
import Derived.Deep.CutRange
import Derived.Deep.RegionHeld3
import Derived.Test.YtfgklnenpichcaaGreatDoorHa
namespace Go.Proofs.YtfgklnenpichcaaGreatDoor
open Go.RowKit Go.Shelf

set_option maxRecDepth 100000 in
theorem room_any (w : World) : Calls Tryz.prog 12 #[] w fun e w' => e = .returned (.agg #[.int .i64 1048576, .int .i64 0]) ∧ Below w.heap.size w w' := by
  go_enter Tryz.func12, Tryz.ntmps12
  go_wp2
  exact bodyPost_ret (v := .agg #[.int .i64 1048576, .int .i64 0]) (by simp [results, Tryz.results12, go_sem]) rfl ⟨rfl, (Below.refl _ w).alloc (Nat.le_refl _) _⟩

/-- A table that is right: what the makers of tables make. -/
structure TabRight (w : World) (name : ByteArray) (at_ ar : Option Addr) (cr : Nat) (ts : List Int) (xs : List (Option Addr × Nat)) (rs : List (List V)) : Prop where
  tab : isTab name ts rs
  tok : ∀ t ∈ ts, tOk t
  vals : ∀ r ∈ rs, ∀ v ∈ r, inI64 v.n
  types : Ints w at_ ts
  rows : RowsAt w ar xs rs
  cap : rs.length ≤ cr
theorem TabRight.below {w w' : World} {name : ByteArray} {at_ ar : Option Addr} {cr : Nat} {ts : List Int} {xs : List (Option Addr × Nat)} {rs : List (List V)} (h : TabRight w name at_ ar cr ts xs rs) (hb : Below w.heap.size w w') : TabRight w' name at_ ar cr ts xs rs :=
  ⟨h.tab, h.tok, h.vals, h.types.below hb, h.rows.below hb, h.cap⟩
theorem TabRight.arg {w : World} {name : ByteArray} {at_ ar : Option Addr} {cr : Nat} {ts : List Int} {xs : List (Option Addr × Nat)} {rs : List (List V)} (h : TabRight w name at_ ar cr ts xs rs) {ah : Option Addr} {hs : List Int} (hh : Ints w ah hs) (hl : hs.length ≤ 6) : ArgAt w name at_ ar ah cr ts hs xs rs := by
  have h1 := h.tab.1.2
  have h2 := h.tab.2.1.1.2
  have h3 := h.tab.2.2.1
  refine ⟨by unfold maxLen; omega, by unfold maxLen; omega, by unfold maxLen; omega, fun r hr => ?_, by unfold maxLen; omega, h.cap, h.types, hh, h.rows⟩
  obtain ⟨i, hi, rfl⟩ := List.getElem_of_mem hr
  have := (h.tab.2.2.2 i hi).1
  unfold maxLen
  omega

/-- Loaded plainly on a disk with room: it goes well. -/
theorem plain_ok {D : DS} {L : List (TS × List (List V))} {Ts : List TS} {name : ByteArray} {ts hs : List Int} {rs : List (List V)} {g : Int} (hS : Stand D L) (htab : isTab name ts rs) (hw : waysOk ts hs) (hg : 1 ≤ g ∧ g ≤ 64) (hnew : findI Ts name = Ts.length) (hfew : Ts.length < 6) (hq : D.quota = 1048576) (hf : D.fail = 0) (hu : usedOf D.pages ≤ 200000) (hwr : D.writes ≤ 1000000000) :
    (∃ c, loadR D Ts name ts hs rs g = .dict c) ∨ ∃ E T, loadR D Ts name ts hs rs g = .ok E T := by
  have hrl : rs.length ≤ 200 := htab.2.2.1
  rcases hr : loadR D Ts name ts hs rs g with _ | _ | c | ⟨x, E⟩ | ⟨E, T⟩
  · unfold loadR at hr
    rw [if_pos ⟨htab, hw, hg⟩] at hr
    split at hr
    · simp at hr
    · split at hr
      · simp at hr
      · split at hr <;> simp at hr
  · unfold loadR at hr
    rw [if_pos ⟨htab, hw, hg⟩, if_neg (by omega)] at hr
    split at hr
    · simp at hr
    · split at hr <;> simp at hr
  · exact .inl ⟨c, rfl⟩
  · exfalso
    obtain ⟨_, _, _, h1, h2, _⟩ := load_disk hS hwr hr
    have := hS.writes
    cases x with
    | true => have := h1 rfl; omega
    | false => have := h2 rfl; omega
  · exact .inr ⟨E, T, rfl⟩

theorem hows_plain {ts hs : List Int} (h : HowsI ts [] hs ts.length) : waysOk ts hs ∧ ∀ c, hs.getD c 0 = 0 := by
  refine ⟨⟨h.len, h.ok⟩, fun c => ?_⟩
  by_cases hc : c < hs.length
  · have := h.plain c hc (by simp)
    simpa [hc] using this
  · simp [List.getD_eq_getElem?_getD, List.getElem?_eq_none (Nat.le_of_not_lt hc)]
/-- What a Load that went well leaves, plainly too. -/
def LoadedPost (M : Nat → Prop) (w : World) (st : Nat) (D : DS) (L : List (TS × List (List V))) (name : ByteArray) (rs : List (List V)) (w' : World) : Prop :=
  ∃ (M' : Nat → Prop) (E : DS) (T : TS), Sto M' w' st E ((L ++ [(T, rs)]).map Prod.fst) ∧ Stand E (L ++ [(T, rs)]) ∧ T.name = name ∧ E.quota = D.quota ∧ E.fail = D.fail ∧ E.pages.length ≤ D.pages.length + 660 * rs.length ∧ E.writes ≤ D.writes + 660 * rs.length ∧ usedOf E.pages = usedOf D.pages + T.segs.flatten.length ∧ (T.segs.flatten = [] ↔ rs = []) ∧ (∀ k, M k → M' k) ∧ (∀ k, M' k → M k ∨ w.heap.size ≤ k)
theorem load_plain (M : Nat → Prop) (st : Nat) (D : DS) (L : List (TS × List (List V))) (name : ByteArray) (at_ ar ah : Option Addr) (ct cr ch : Nat) (ts hs : List Int) (xs : List (Option Addr × Nat)) (rs : List (List V)) (g : Int) (w : World) (hX : Sto M w st D (L.map Prod.fst)) (hS : Stand D L) (hR : TabRight w name at_ ar cr ts xs rs) (hh : Ints w ah hs) (hI : HowsI ts [] hs ts.length) (hg : 1 ≤ g ∧ g ≤ 64) (hnew : findI (L.map Prod.fst) name = L.length) (hfew : L.length < 6)
    (hq : D.quota = 1048576) (hf : D.fail = 0) (hp : D.pages.length ≤ 200000) (hwr : D.writes ≤ 1000000000) (hAM : ∀ b o, at_ = some ⟨b, o, none⟩ → ¬ M b) (a0 a1 a2 tt q wr pg pl ex ta : Addr) (w0 : World) (hN0 : Names w0 a0 a1 a2 tt q wr pg pl ex ta) (hb00 : Below w0.heap.size w0 w) (hMB : ∀ k, M k → w0.heap.size ≤ k) :
    Calls Tryz.prog 14 #[.pointer (some ⟨st, 0, none⟩), tabArg name at_ ar ct cr ts rs, .slice ah hs.length ch, .int .i64 g] w fun e w' => e = .returned (fault 0) ∧ Keep M w w' ∧ LoadedPost M w st D L name rs w' := by
  obtain ⟨hw, hz⟩ := hows_plain hI
  have hl6 : hs.length ≤ 6 := by rw [hw.1]; exact hR.tab.2.1.1.2
  have hok : ∃ E T, loadR D (L.map Prod.fst) name ts hs rs g = .ok E T := by
    rcases plain_ok hS hR.tab hw hg (Ts := L.map Prod.fst) (by rw [hnew]; simp) (by simpa using hfew) hq hf (Nat.le_trans (usedOf_le _) hp) hwr with ⟨c, hc⟩ | h
    · have := (load_dict hc).2.1
      rw [hz c] at this
      simp at this
    · exact h
  obtain ⟨E, T, hr⟩ := hok
  refine (Load_any M st D (L.map Prod.fst) name at_ ar ah ct cr ch ts hs xs rs g w hX (hR.arg hh hl6) hAM hp a0 a1 a2 tt q wr pg pl ex ta w0 hN0 hb00 hMB).mono fun e w' ⟨he, hk, M', hs', hm1, hm2⟩ => ?_
  rw [hr] at he hs'
  obtain ⟨h1, h2, h3, h4, h5, h6, h7, h8, _⟩ := load_ok hS hR.vals hwr hr
  exact ⟨he, hk, M', E, T, by simpa [LoadR.ts, LoadR.d] using hs', h1, h2, h5, h6, h7, h8, h3, h4, hm1, hm2⟩

theorem loaded_below {M : Nat → Prop} {w w1 wx : World} {st : Nat} {D : DS} {L : List (TS × List (List V))} {name : ByteArray} {rs : List (List V)} (h : LoadedPost M w st D L name rs w1) (hb : Below w1.heap.size w1 wx) : LoadedPost M w st D L name rs wx := by
  obtain ⟨M', E, T, h1, h⟩ := h
  exact ⟨M', E, T, h1.below hb, h⟩
theorem loaded_move {M : Nat → Prop} {w XL X2 wx : World} {st : Nat} {D : DS} {L : List (TS × List (List V))} {name : ByteArray} {rs : List (List V)} {fa : Nat} (h : LoadedPost M XL st D L name rs X2) (hz : w.heap.size ≤ XL.heap.size) (hs : X2.heap.size ≤ wx.heap.size) (hk : ∀ k, k < X2.heap.size → k ≠ fa → wx.heap[k]? = X2.heap[k]?) (hn : ¬ M fa) (hfa : fa < XL.heap.size ∨ X2.heap.size ≤ fa) : LoadedPost M w st D L name rs wx := by
  obtain ⟨M', E, T, h1, h2, h3, h4, h5, h6, h7, h8, h9, h10, h11⟩ := h
  refine ⟨M', E, T, h1.stands hs fun k hm => hk k (h1.lt k hm) fun e => ?_, h2, h3, h4, h5, h6, h7, h8, h9, h10, fun k hm => (h11 k hm).imp_right fun a => by omega⟩
  subst e
  have := h1.lt k hm
  rcases h11 k hm with a | a
  · exact hn a
  · omega

set_option maxRecDepth 100000 in
set_option maxHeartbeats 1000000 in
theorem held_one (b : Nat) (name : ByteArray) (at_ ar : Option Addr) (ct cr : Nat) (ts : List Int) (xs : List (Option Addr × Nat)) (rs : List (List V)) (w : World) (h : TabRight w name at_ ar cr ts xs rs) (c0 : w.cell? ⟨b, 0, none⟩ = some (.string name)) (c1 : w.cell? ⟨b, 1, none⟩ = some (.slice at_ ts.length ct)) (c2 : w.cell? ⟨b, 2, none⟩ = some (.slice ar rs.length cr))
    (a0 a1 a2 tt q wr pg pl ex ta : Addr) (hN : Names w a0 a1 a2 tt q wr pg pl ex ta) :
    Calls Tryz.prog 11 #[.agg #[.int .i64 1048576, .int .i64 0], .slice (some ⟨b, 0, none⟩) 1 1] w fun e w' => Below w.heap.size w w' ∧ ∃ (st : Nat) (M : Nat → Prop), e = .returned (.pointer (some ⟨st, 0, none⟩)) ∧ LoadedPost M w st (emptyDS 1048576 0) [] name rs w' ∧ (∀ k, M k → w.heap.size ≤ k) := by
  have hb0 : Below w.heap.size w (w.alloc (.cells #[.int .i64 1048576, .int .i64 0] 33)) := (Below.refl _ w).alloc (Nat.le_refl _) _
  have hnew := New_any 1048576 0 (w.alloc (.cells #[.int .i64 1048576, .int .i64 0] 33))
  have HH : Hid (TabRight w name at_ ar cr ts xs rs) := h
  have HN : Hid (Names w a0 a1 a2 tt q wr pg pl ex ta) := hN
  clear h hN
  go_enter Tryz.func11, Tryz.ntmps11
  go_wp2_with (first | (go_at_call 21; refine hnew.mono ?_; rintro e W1 ⟨hb1, st, M, rfl, hst, hM⟩; have hb2 := below_then hb0 hb1; have d0 := cell_below hb2 c0; have d1 := cell_below hb2 c1; have d2 := cell_below hb2 c2; have HST : Hid (Sto M W1 st (emptyDS 1048576 0) []) := hst; clear hst))
  have HM : Hid (∀ k, M k → w.heap.size ≤ k) := fun k hk => by have := hM k hk; simp at this; omega
  clear hM hnew
  have HHW : Hid (∀ X, Below W1.heap.size W1 X → Calls Tryz.prog 10 #[.agg #[.string name, .slice at_ ts.length ct, .slice ar rs.length cr], .slice none 0 0] X fun e X' => Below X.heap.size X X' ∧ ∃ (ah : Option Addr) (ch : Nat) (hs : List Int), e = .returned (.slice ah hs.length ch) ∧ Ints X' ah hs ∧ HowsI ts [] hs ts.length) := fun X hX => by
    have := khows_any (.string name) (.slice ar rs.length cr) at_ none ct 0 ts [] X HH.out.tab.2.1.1.2 HH.out.tok (by simp) (HH.out.types.below (below_then hb2 hX)) (.inl rfl)
    refine this.mono fun e X' ⟨hs, sv, he, ho, hI, hbx⟩ => ?_
    obtain ⟨a, c, hsv, hc⟩ := ho.cells
    rw [List.length_map] at hsv
    subst hsv
    exact ⟨hbx, a, c, hs, he, hc, hI⟩
  have HLD : Hid (∀ X ah ch hs, Below W1.heap.size W1 X → Ints X ah hs → HowsI ts [] hs ts.length → Calls Tryz.prog 14 #[.pointer (some ⟨st, 0, none⟩), .agg #[.string name, .slice at_ ts.length ct, .slice ar rs.length cr], .slice ah hs.length ch, .int .i64 64] X fun e X' => e = .returned (fault 0) ∧ Keep M X X' ∧ LoadedPost M X st (emptyDS 1048576 0) [] name rs X') := fun X ah ch hs hX hI hHI =>
    load_plain M st (emptyDS 1048576 0) [] name at_ ar ah ct cr ch ts hs xs rs 64 X (HST.out.below hX) (Stand.empty _ _) (HH.out.below (below_then hb2 hX)) hI hHI (by decide) rfl (by decide) rfl rfl (by simp [emptyDS]) (by simp [emptyDS]) (fun b' o hb' hm => by
      have h1 := HM.out b' hm
      rcases HH.out.types with h0 | ⟨b2, o2, hb3, hlt, _⟩
      · have := HH.out.tab.2.1.1.1; simp at h0; rw [h0] at this; simp at this
      · rw [hb'] at hb3; simp at hb3; try omega) a0 a1 a2 tt q wr pg pl ex ta w HN.out (below_then hb2 hX) HM.out
  refine wp_loop_rounds 2 ?_
  rw [rounds_succ]
  go_upto_region 5 with fail
  go_cut [7] from 20 to 30 (fun f wx => ∃ fa : Nat, f = .pointer (some ⟨fa, 0, none⟩) ∧ wx.heap[fa]? = some (.cells #[.int .i64 0, .int .i64 (-1), .int .i64 (-1), .int .i64 (-1), .int .i64 (-1)] 43 (0, 0)) ∧ Below w.heap.size w wx ∧ LoadedPost M w st (emptyDS 1048576 0) [] name rs wx)
  case first =>
    refine wp_region_held_drew (S := fun X => X.cell? ⟨b, 0, none⟩ = some (.string name) ∧ X.cell? ⟨b, 1, none⟩ = some (.slice at_ ts.length ct) ∧ X.cell? ⟨b, 2, none⟩ = some (.slice ar rs.length cr)) (by kernel_rfl) ⟨d0, d1, d2⟩ (fun hH => ?_)
    refine wpAnyH_take (i := 0) (v := ?_) rfl (by kernel_rfl) (by kernel_rfl) (by kernel_rfl) (fun _ _ _ h => h) (Or.inl ⟨by rfl, ?_⟩) hH ?_
    rotate_left 1
    · intro w hSw; (try dsimp only at hSw); go_simp; try rfl
    simp only [Act.put, List.getElem_toArray, List.getElem_cons_zero, List.setIfInBounds_toArray, List.set_cons_zero, List.set_cons_succ]
    refine wpAnyH_take (i := 1) (v := ?_) rfl (by kernel_rfl) (by kernel_rfl) (by kernel_rfl) (fun _ _ _ h => h) (Or.inl ⟨by rfl, ?_⟩) hH ?_
    rotate_left 1
    · intro w hSw; (try dsimp only at hSw); go_simp; try rfl
    simp only [Act.put, List.getElem_toArray, List.getElem_cons_zero, List.getElem_cons_succ, List.setIfInBounds_toArray, List.set_cons_zero, List.set_cons_succ]
    refine wpAnyH_take (i := 2) (v := ?_) rfl (by kernel_rfl) (by kernel_rfl) (by kernel_rfl) (fun _ _ _ h => h) (Or.inl ⟨by rfl, ?_⟩) hH ?_
    rotate_left 1
    · intro w hSw; (try dsimp only at hSw); go_simp; try rfl
    simp only [Act.put, List.getElem_toArray, List.getElem_cons_zero, List.getElem_cons_succ, List.setIfInBounds_toArray, List.set_cons_zero, List.set_cons_succ]
    refine wpAnyH_take (i := 3) (v := ?_) rfl (by kernel_rfl) (by kernel_rfl) (by kernel_rfl) (fun _ _ _ h => h) (Or.inl ⟨by rfl, ?_⟩) hH ?_
    rotate_left 1
    · intro w hSw; (try dsimp only at hSw); go_simp; try rfl
    simp only [Act.put, List.getElem_toArray, List.getElem_cons_zero, List.getElem_cons_succ, List.setIfInBounds_toArray, List.set_cons_zero, List.set_cons_succ]
    refine wpAnyH_take (i := 4) (v := ?_) rfl (by kernel_rfl) (by kernel_rfl) (by kernel_rfl) (fun _ _ _ h => h) (Or.inl ⟨by rfl, ?_⟩) hH ?_
    rotate_left 1
    · intro w hSw; (try dsimp only at hSw); go_simp; try rfl
    simp only [Act.put, List.getElem_toArray, List.getElem_cons_zero, List.getElem_cons_succ, List.setIfInBounds_toArray, List.set_cons_zero, List.set_cons_succ]
    refine wpAnyH_take (i := 5) (v := ?_) rfl (by kernel_rfl) (by kernel_rfl) (by kernel_rfl) (fun _ _ _ h => h) (Or.inl ⟨by rfl, ?_⟩) hH ?_
    rotate_left 1
    · intro w hSw; (try dsimp only at hSw); go_simp; try rfl
    simp only [Act.put, List.getElem_toArray, List.getElem_cons_zero, List.getElem_cons_succ, List.setIfInBounds_toArray, List.set_cons_zero, List.set_cons_succ]
    refine wpAnyH_take (i := 6) (v := ?_) rfl (by kernel_rfl) (by kernel_rfl) (by kernel_rfl) (fun _ _ _ h => h) (Or.inl ⟨by rfl, ?_⟩) hH ?_
    rotate_left 1
    · intro w hSw; (try dsimp only at hSw); go_simp; try rfl
    simp only [Act.put, List.getElem_toArray, List.getElem_cons_zero, List.getElem_cons_succ, List.setIfInBounds_toArray, List.set_cons_zero, List.set_cons_succ]
    refine wpAnyH_take (i := 7) (v := ?_) rfl (by kernel_rfl) (by kernel_rfl) (by kernel_rfl) (fun _ _ _ h => h) (Or.inl ⟨by rfl, ?_⟩) hH ?_
    rotate_left 1
    · intro w hSw; (try dsimp only at hSw); go_simp; try rfl
    simp only [Act.put, List.getElem_toArray, List.getElem_cons_zero, List.getElem_cons_succ, List.setIfInBounds_toArray, List.set_cons_zero, List.set_cons_succ]
    refine wpAnyH_take (i := 8) (v := ?_) rfl (by kernel_rfl) (by kernel_rfl) (by kernel_rfl) (fun _ _ _ h => h) (Or.inl ⟨by rfl, ?_⟩) hH ?_
    rotate_left 1
    · intro w hSw; (try dsimp only at hSw); go_simp; try rfl
    simp only [Act.put, List.getElem_toArray, List.getElem_cons_zero, List.getElem_cons_succ, List.setIfInBounds_toArray, List.set_cons_zero, List.set_cons_succ]
    have hcd : Below W1.heap.size W1 W1.drew := ⟨rfl, rfl, rfl, Nat.le_refl _, fun _ _ => rfl⟩
    refine wpAnyH_ready (rs := [9, 11]) (by kernel_rfl) (by simp) (AllReadyH.cons rfl (fun K hK => ?_) (AllReadyH.cons rfl (fun K hK => ?_) AllReadyH.nil))
    · go_simp
      refine (HHW.out W1.drew hcd).mono ?_
      rintro e X1 ⟨hx1, ah, ch, hs, rfl, hIh, hHI⟩
      have hc1 : Below W1.heap.size W1 X1 := below_then hcd hx1
      have HIH : Hid (Ints X1 ah hs) := hIh
      have HHI : Hid (HowsI ts [] hs ts.length) := hHI
      clear hIh hHI
      go_simp
      refine hK.out _ _ ⟨cell_below hx1 hH.1, cell_below hx1 hH.2.1, cell_below hx1 hH.2.2⟩ (fun hH => ?_)
      clear hK K
      refine wpAnyH_ready (rs := [10, 11]) (by kernel_rfl) (by simp) (AllReadyH.cons rfl (fun K hK => ?_) (AllReadyH.cons rfl (fun K hK => ?_) AllReadyH.nil))
      · go_simp
        refine (HLD.out X1 ah ch hs hc1 HIH.out HHI.out).mono ?_
        rintro e X2 ⟨rfl, hkL, hpL⟩
        have HPL : Hid (LoadedPost M X1 st (emptyDS 1048576 0) [] name rs X2) := hpL
        clear hpL
        obtain ⟨XL, HXL⟩ : ∃ X, Hid (X = X1) := ⟨_, rfl⟩
        have hcL : Below W1.heap.size W1 XL := by rw [HXL.out]; exact hc1
        have hkL' := hkL
        rw [← HXL.out] at hkL
        have hnb : ¬ M b := fun hm => by have h1 := HM.out b hm; have h2 := lt_of_cell c0; simp only at h2; omega
        go_simp
        refine hK.out _ _ ⟨hkL'.cell hH.1 hnb, hkL'.cell hH.2.1 hnb, hkL'.cell hH.2.2 hnb⟩ (fun hH => ?_)
        clear hK K
        refine wpAnyH_ready (rs := [11]) (by kernel_rfl) (by simp) (AllReadyH.cons rfl (fun K hK => ?_) AllReadyH.nil)
        go_simp
        have hby : Below X2.heap.size X2 (X2.alloc zeroFault) := (Below.refl _ X2).alloc (Nat.le_refl _) zeroFault
        have hfy : (X2.alloc zeroFault).heap[X2.heap.size]? = some (.cells #[.int .i64 0, .int .i64 0, .int .i64 0, .int .i64 0, .int .i64 0] 43 (0, 0)) := heap_alloc_new X2 zeroFault
        refine hK.out _ _ ⟨cell_below hby hH.1, cell_below hby hH.2.1, cell_below hby hH.2.2⟩ (fun hH => ?_)
        clear hK K
        obtain ⟨Y0, hY0⟩ : ∃ Y, Y = X2.alloc zeroFault := ⟨_, rfl⟩
        rw [← hY0] at hby hfy hH ⊢
        have HY0 : Hid (Y0 = X2.alloc zeroFault) := hY0
        clear hY0
        have hfz : Y0.heap[X2.heap.size]? = some (.cells #[.int .i64 0, .int .i64 0, .int .i64 0, .int .i64 0, .int .i64 0] 43 (0, 0)) := hfy
        have hkz : Keep M XL Y0 := hkL.trans (Keep.of_below hby)
        have hfin : ∀ (M' : Nat → Prop), (∀ j, M' j → j < X2.heap.size) → ∀ j, M' j → j ≠ X2.heap.size := fun M' h1 j hj e => by have := h1 j hj; omega
        have k0 : Y0.cell? ⟨X2.heap.size, 0, none⟩ = some (.int .i64 0) := by simp [World.cell?, hfz]
        have k1 : Y0.cell? ⟨X2.heap.size, 1, none⟩ = some (.int .i64 0) := by simp [World.cell?, hfz]
        have k2 : Y0.cell? ⟨X2.heap.size, 2, none⟩ = some (.int .i64 0) := by simp [World.cell?, hfz]
        have k3 : Y0.cell? ⟨X2.heap.size, 3, none⟩ = some (.int .i64 0) := by simp [World.cell?, hfz]
        have k4 : Y0.cell? ⟨X2.heap.size, 4, none⟩ = some (.int .i64 0) := by simp [World.cell?, hfz]
        have fz : ∀ o : Nat, Y0.frozen? ⟨X2.heap.size, o, none⟩ = false := fun o => by simp [World.frozen?, hfz]
        have f0 := fz 0
        have f1 := fz 1
        have f2 := fz 2
        have f3 := fz 3
        have f4 := fz 4
        have hk5 := heap_set (heap_set (heap_set (heap_set (heap_set hfz 0 (.int .i64 0)) 1 (.int .i64 (-1))) 2 (.int .i64 (-1))) 3 (.int .i64 (-1))) 4 (.int .i64 (-1))
        simp only [List.setIfInBounds_toArray, List.set_cons_zero, List.set_cons_succ] at hk5
        have zb : b < w.heap.size := by have h2 := lt_of_cell c0; simpa using h2
        have zfa : w.heap.size ≤ X2.heap.size := by have h2 := hb2.size; have h3 : W1.drew.heap.size = W1.heap.size := rfl; have h4 := hc1.size; have h5 := hkL.size; have h6 := hcL.size; omega
        have hcs : ∀ o : Nat, (((((Y0.setCell ⟨X2.heap.size, 0, none⟩ (.int .i64 0)).setCell ⟨X2.heap.size, 1, none⟩ (.int .i64 (-1))).setCell ⟨X2.heap.size, 2, none⟩ (.int .i64 (-1))).setCell ⟨X2.heap.size, 3, none⟩ (.int .i64 (-1))).setCell ⟨X2.heap.size, 4, none⟩ (.int .i64 (-1))).cell? ⟨b, o, none⟩ = Y0.cell? ⟨b, o, none⟩ := fun o => by simp only [World.cell?, set5_other _ _ _ _ _ _ _ b (by omega : b ≠ X2.heap.size)]
        have hbL : Below w.heap.size w XL := below_then hb2 hcL
        have hbF : Below w.heap.size w Y0 := hbL.trans ((hkL.below (fun k hk hm => by have := HM.out k hm; omega) hbL.size).trans (hby.mono (Nat.le_trans hbL.size hkL.size)))
        have hfin : LoadedPost M w st (emptyDS 1048576 0) [] name rs (((((Y0.setCell ⟨X2.heap.size, 0, none⟩ (.int .i64 0)).setCell ⟨X2.heap.size, 1, none⟩ (.int .i64 (-1))).setCell ⟨X2.heap.size, 2, none⟩ (.int .i64 (-1))).setCell ⟨X2.heap.size, 3, none⟩ (.int .i64 (-1))).setCell ⟨X2.heap.size, 4, none⟩ (.int .i64 (-1))) := by
          refine loaded_move (fa := X2.heap.size) (HXL.out ▸ HPL.out) hbL.size (by rw [set5_size]; exact hby.size) (fun k hk hne => (set5_other _ _ _ _ _ _ _ k hne).trans (hby.block k hk)) (fun hm => by have h1 := HST.out.lt _ hm; have h2 := hcL.size; have h3 := hkL.size; omega) (.inr (Nat.le_refl _))
        have HFIN : Hid (LoadedPost M w st (emptyDS 1048576 0) [] name rs (((((Y0.setCell ⟨X2.heap.size, 0, none⟩ (.int .i64 0)).setCell ⟨X2.heap.size, 1, none⟩ (.int .i64 (-1))).setCell ⟨X2.heap.size, 2, none⟩ (.int .i64 (-1))).setCell ⟨X2.heap.size, 3, none⟩ (.int .i64 (-1))).setCell ⟨X2.heap.size, 4, none⟩ (.int .i64 (-1)))) := hfin
        clear hfin fz hfz
        refine wpAnyH_ready (rs := [12]) (by kernel_rfl) (by simp) (AllReadyH.cons rfl (fun K hK => ?_) AllReadyH.nil)
        go_simp
        refine hK.out _ _ ⟨(hcs 0).trans hH.1, (hcs 1).trans hH.2.1, (hcs 2).trans hH.2.2⟩ (fun hH => ?_)
        clear hK K hcs k0 k1 k2 k3 k4 f0 f1 f2 f3 f4
        refine wpAnyH_done (by kernel_rfl) ?_ _
        have hbS := below_set5 hbF zfa (.int .i64 0) (.int .i64 (-1)) (.int .i64 (-1)) (.int .i64 (-1)) (.int .i64 (-1))
        go_wp2_with fail
        go_meet
        case rel => exact ⟨X2.heap.size, rfl, hk5, hbS, HFIN.out⟩
      · go_simp
        have hby : Below X1.heap.size X1 (X1.alloc zeroFault) := (Below.refl _ X1).alloc (Nat.le_refl _) zeroFault
        have hfy : (X1.alloc zeroFault).heap[X1.heap.size]? = some (.cells #[.int .i64 0, .int .i64 0, .int .i64 0, .int .i64 0, .int .i64 0] 43 (0, 0)) := heap_alloc_new X1 zeroFault
        refine hK.out _ _ ⟨cell_below hby hH.1, cell_below hby hH.2.1, cell_below hby hH.2.2⟩ (fun hH => ?_)
        clear hK K
        obtain ⟨Y0, hY0⟩ : ∃ Y, Y = X1.alloc zeroFault := ⟨_, rfl⟩
        rw [← hY0] at hby hfy hH ⊢
        have HY0 : Hid (Y0 = X1.alloc zeroFault) := hY0
        clear hY0
        have hcy : Below W1.heap.size W1 Y0 := below_then hc1 hby
        refine wpAnyH_ready (rs := [10]) (by kernel_rfl) (by simp) (AllReadyH.cons rfl (fun K hK => ?_) AllReadyH.nil)
        go_simp
        refine (HLD.out Y0 ah ch hs hcy (HIH.out.below hby) HHI.out).mono ?_
        rintro e X2 ⟨rfl, hkL, hpL⟩
        have HPL : Hid (LoadedPost M Y0 st (emptyDS 1048576 0) [] name rs X2) := hpL
        clear hpL
        obtain ⟨XL, HXL⟩ : ∃ X, Hid (X = Y0) := ⟨_, rfl⟩
        have hcL : Below W1.heap.size W1 XL := by rw [HXL.out]; exact hcy
        have nfa : ¬ M X1.heap.size := fun hm => by have h1 := HST.out.lt _ hm; have h2 := hcd.size; have h3 := hc1.size; omega
        have hfz : X2.heap[X1.heap.size]? = some (.cells #[.int .i64 0, .int .i64 0, .int .i64 0, .int .i64 0, .int .i64 0] 43 (0, 0)) := (hkL.block _ (lt_of_heap hfy) nfa).trans hfy
        have lfa : X1.heap.size < XL.heap.size := by rw [HXL.out]; exact lt_of_heap hfy
        have hkL' := hkL
        rw [← HXL.out] at hkL
        have hnb : ¬ M b := fun hm => by have h1 := HM.out b hm; have h2 := lt_of_cell c0; simp only at h2; omega
        go_simp
        refine hK.out _ _ ⟨hkL'.cell hH.1 hnb, hkL'.cell hH.2.1 hnb, hkL'.cell hH.2.2 hnb⟩ (fun hH => ?_)
        clear hK K
        have k0 : X2.cell? ⟨X1.heap.size, 0, none⟩ = some (.int .i64 0) := by simp [World.cell?, hfz]
        have k1 : X2.cell? ⟨X1.heap.size, 1, none⟩ = some (.int .i64 0) := by simp [World.cell?, hfz]
        have k2 : X2.cell? ⟨X1.heap.size, 2, none⟩ = some (.int .i64 0) := by simp [World.cell?, hfz]
        have k3 : X2.cell? ⟨X1.heap.size, 3, none⟩ = some (.int .i64 0) := by simp [World.cell?, hfz]
        have k4 : X2.cell? ⟨X1.heap.size, 4, none⟩ = some (.int .i64 0) := by simp [World.cell?, hfz]
        have fz : ∀ o : Nat, X2.frozen? ⟨X1.heap.size, o, none⟩ = false := fun o => by simp [World.frozen?, hfz]
        have f0 := fz 0
        have f1 := fz 1
        have f2 := fz 2
        have f3 := fz 3
        have f4 := fz 4
        have hk5 := heap_set (heap_set (heap_set (heap_set (heap_set hfz 0 (.int .i64 0)) 1 (.int .i64 (-1))) 2 (.int .i64 (-1))) 3 (.int .i64 (-1))) 4 (.int .i64 (-1))
        simp only [List.setIfInBounds_toArray, List.set_cons_zero, List.set_cons_succ] at hk5
        have zb : b < w.heap.size := by have h2 := lt_of_cell c0; simpa using h2
        have zfa : w.heap.size ≤ X1.heap.size := by have h2 := hb2.size; have h3 : W1.drew.heap.size = W1.heap.size := rfl; have h4 := hc1.size; have h5 := hkL.size; have h6 := hcL.size; omega
        have hcs : ∀ o : Nat, (((((X2.setCell ⟨X1.heap.size, 0, none⟩ (.int .i64 0)).setCell ⟨X1.heap.size, 1, none⟩ (.int .i64 (-1))).setCell ⟨X1.heap.size, 2, none⟩ (.int .i64 (-1))).setCell ⟨X1.heap.size, 3, none⟩ (.int .i64 (-1))).setCell ⟨X1.heap.size, 4, none⟩ (.int .i64 (-1))).cell? ⟨b, o, none⟩ = X2.cell? ⟨b, o, none⟩ := fun o => by simp only [World.cell?, set5_other _ _ _ _ _ _ _ b (by omega : b ≠ X1.heap.size)]
        have hbL : Below w.heap.size w XL := below_then hb2 hcL
        have hbF : Below w.heap.size w X2 := hbL.trans (hkL.below (fun k hk hm => by have := HM.out k hm; omega) hbL.size)
        have hfin : LoadedPost M w st (emptyDS 1048576 0) [] name rs (((((X2.setCell ⟨X1.heap.size, 0, none⟩ (.int .i64 0)).setCell ⟨X1.heap.size, 1, none⟩ (.int .i64 (-1))).setCell ⟨X1.heap.size, 2, none⟩ (.int .i64 (-1))).setCell ⟨X1.heap.size, 3, none⟩ (.int .i64 (-1))).setCell ⟨X1.heap.size, 4, none⟩ (.int .i64 (-1))) := by
          refine loaded_move (fa := X1.heap.size) (HXL.out ▸ HPL.out) hbL.size (by rw [set5_size]; exact Nat.le_refl _) (fun k hk hne => (set5_other _ _ _ _ _ _ _ k hne).trans (rfl)) nfa (.inl lfa)
        have HFIN : Hid (LoadedPost M w st (emptyDS 1048576 0) [] name rs (((((X2.setCell ⟨X1.heap.size, 0, none⟩ (.int .i64 0)).setCell ⟨X1.heap.size, 1, none⟩ (.int .i64 (-1))).setCell ⟨X1.heap.size, 2, none⟩ (.int .i64 (-1))).setCell ⟨X1.heap.size, 3, none⟩ (.int .i64 (-1))).setCell ⟨X1.heap.size, 4, none⟩ (.int .i64 (-1)))) := hfin
        clear hfin fz hfz
        refine wpAnyH_ready (rs := [12]) (by kernel_rfl) (by simp) (AllReadyH.cons rfl (fun K hK => ?_) AllReadyH.nil)
        go_simp
        refine hK.out _ _ ⟨(hcs 0).trans hH.1, (hcs 1).trans hH.2.1, (hcs 2).trans hH.2.2⟩ (fun hH => ?_)
        clear hK K hcs k0 k1 k2 k3 k4 f0 f1 f2 f3 f4
        refine wpAnyH_done (by kernel_rfl) ?_ _
        have hbS := below_set5 hbF zfa (.int .i64 0) (.int .i64 (-1)) (.int .i64 (-1)) (.int .i64 (-1)) (.int .i64 (-1))
        go_wp2_with fail
        go_meet
        case rel => exact ⟨X1.heap.size, rfl, hk5, hbS, HFIN.out⟩
    · go_simp
      have hby : Below W1.drew.heap.size W1.drew ((W1.alloc zeroFault).drew) := (Below.refl _ W1.drew).alloc (Nat.le_refl _) zeroFault
      have hfy : ((W1.alloc zeroFault).drew).heap[W1.heap.size]? = some (.cells #[.int .i64 0, .int .i64 0, .int .i64 0, .int .i64 0, .int .i64 0] 43 (0, 0)) := heap_alloc_new W1.drew zeroFault
      refine hK.out _ _ ⟨cell_below hby hH.1, cell_below hby hH.2.1, cell_below hby hH.2.2⟩ (fun hH => ?_)
      clear hK K
      obtain ⟨Y0, hY0⟩ : ∃ Y, Y = (W1.alloc zeroFault).drew := ⟨_, rfl⟩
      rw [← hY0] at hby hfy hH ⊢
      have HY0 : Hid (Y0 = (W1.alloc zeroFault).drew) := hY0
      clear hY0
      have hcy : Below W1.heap.size W1 Y0 := below_then hcd hby
      refine wpAnyH_ready (rs := [9]) (by kernel_rfl) (by simp) (AllReadyH.cons rfl (fun K hK => ?_) AllReadyH.nil)
      go_simp
      refine (HHW.out Y0 hcy).mono ?_
      rintro e X1 ⟨hx1, ah, ch, hs, rfl, hIh, hHI⟩
      have hc1 : Below W1.heap.size W1 X1 := below_then hcy hx1
      have hf1 : X1.heap[W1.heap.size]? = _ := (hx1.block _ (lt_of_heap hfy)).trans hfy
      have HIH : Hid (Ints X1 ah hs) := hIh
      have HHI : Hid (HowsI ts [] hs ts.length) := hHI
      clear hIh hHI
      go_simp
      refine hK.out _ _ ⟨cell_below hx1 hH.1, cell_below hx1 hH.2.1, cell_below hx1 hH.2.2⟩ (fun hH => ?_)
      clear hK K
      refine wpAnyH_ready (rs := [10]) (by kernel_rfl) (by simp) (AllReadyH.cons rfl (fun K hK => ?_) AllReadyH.nil)
      go_simp
      refine (HLD.out X1 ah ch hs hc1 HIH.out HHI.out).mono ?_
      rintro e X2 ⟨rfl, hkL, hpL⟩
      have HPL : Hid (LoadedPost M X1 st (emptyDS 1048576 0) [] name rs X2) := hpL
      clear hpL
      obtain ⟨XL, HXL⟩ : ∃ X, Hid (X = X1) := ⟨_, rfl⟩
      have hcL : Below W1.heap.size W1 XL := by rw [HXL.out]; exact hc1
      have nfa : ¬ M W1.heap.size := fun hm => by have h1 := HST.out.lt _ hm; have h2 := hcd.size; have h3 : W1.drew.heap.size = W1.heap.size := rfl; omega
      have hfz : X2.heap[W1.heap.size]? = some (.cells #[.int .i64 0, .int .i64 0, .int .i64 0, .int .i64 0, .int .i64 0] 43 (0, 0)) := (hkL.block _ (lt_of_heap hf1) nfa).trans hf1
      have lfa : W1.heap.size < XL.heap.size := by rw [HXL.out]; exact lt_of_heap hf1
      have hkL' := hkL
      rw [← HXL.out] at hkL
      have hnb : ¬ M b := fun hm => by have h1 := HM.out b hm; have h2 := lt_of_cell c0; simp only at h2; omega
      go_simp
      refine hK.out _ _ ⟨hkL'.cell hH.1 hnb, hkL'.cell hH.2.1 hnb, hkL'.cell hH.2.2 hnb⟩ (fun hH => ?_)
      clear hK K
      have k0 : X2.cell? ⟨W1.heap.size, 0, none⟩ = some (.int .i64 0) := by simp [World.cell?, hfz]
      have k1 : X2.cell? ⟨W1.heap.size, 1, none⟩ = some (.int .i64 0) := by simp [World.cell?, hfz]
      have k2 : X2.cell? ⟨W1.heap.size, 2, none⟩ = some (.int .i64 0) := by simp [World.cell?, hfz]
      have k3 : X2.cell? ⟨W1.heap.size, 3, none⟩ = some (.int .i64 0) := by simp [World.cell?, hfz]
      have k4 : X2.cell? ⟨W1.heap.size, 4, none⟩ = some (.int .i64 0) := by simp [World.cell?, hfz]
      have fz : ∀ o : Nat, X2.frozen? ⟨W1.heap.size, o, none⟩ = false := fun o => by simp [World.frozen?, hfz]
      have f0 := fz 0
      have f1 := fz 1
      have f2 := fz 2
      have f3 := fz 3
      have f4 := fz 4
      have hk5 := heap_set (heap_set (heap_set (heap_set (heap_set hfz 0 (.int .i64 0)) 1 (.int .i64 (-1))) 2 (.int .i64 (-1))) 3 (.int .i64 (-1))) 4 (.int .i64 (-1))
      simp only [List.setIfInBounds_toArray, List.set_cons_zero, List.set_cons_succ] at hk5
      have zb : b < w.heap.size := by have h2 := lt_of_cell c0; simpa using h2
      have zfa : w.heap.size ≤ W1.heap.size := by have h2 := hb2.size; have h3 : W1.drew.heap.size = W1.heap.size := rfl; have h4 := hc1.size; have h5 := hkL.size; have h6 := hcL.size; omega
      have hcs : ∀ o : Nat, (((((X2.setCell ⟨W1.heap.size, 0, none⟩ (.int .i64 0)).setCell ⟨W1.heap.size, 1, none⟩ (.int .i64 (-1))).setCell ⟨W1.heap.size, 2, none⟩ (.int .i64 (-1))).setCell ⟨W1.heap.size, 3, none⟩ (.int .i64 (-1))).setCell ⟨W1.heap.size, 4, none⟩ (.int .i64 (-1))).cell? ⟨b, o, none⟩ = X2.cell? ⟨b, o, none⟩ := fun o => by simp only [World.cell?, set5_other _ _ _ _ _ _ _ b (by omega : b ≠ W1.heap.size)]
      have hbL : Below w.heap.size w XL := below_then hb2 hcL
      have hbF : Below w.heap.size w X2 := hbL.trans (hkL.below (fun k hk hm => by have := HM.out k hm; omega) hbL.size)
      have hfin : LoadedPost M w st (emptyDS 1048576 0) [] name rs (((((X2.setCell ⟨W1.heap.size, 0, none⟩ (.int .i64 0)).setCell ⟨W1.heap.size, 1, none⟩ (.int .i64 (-1))).setCell ⟨W1.heap.size, 2, none⟩ (.int .i64 (-1))).setCell ⟨W1.heap.size, 3, none⟩ (.int .i64 (-1))).setCell ⟨W1.heap.size, 4, none⟩ (.int .i64 (-1))) := by
        refine loaded_move (fa := W1.heap.size) (HXL.out ▸ HPL.out) hbL.size (by rw [set5_size]; exact Nat.le_refl _) (fun k hk hne => (set5_other _ _ _ _ _ _ _ k hne).trans (rfl)) nfa (.inl lfa)
      have HFIN : Hid (LoadedPost M w st (emptyDS 1048576 0) [] name rs (((((X2.setCell ⟨W1.heap.size, 0, none⟩ (.int .i64 0)).setCell ⟨W1.heap.size, 1, none⟩ (.int .i64 (-1))).setCell ⟨W1.heap.size, 2, none⟩ (.int .i64 (-1))).setCell ⟨W1.heap.size, 3, none⟩ (.int .i64 (-1))).setCell ⟨W1.heap.size, 4, none⟩ (.int .i64 (-1)))) := hfin
      clear hfin fz hfz
      refine wpAnyH_ready (rs := [12]) (by kernel_rfl) (by simp) (AllReadyH.cons rfl (fun K hK => ?_) AllReadyH.nil)
      go_simp
      refine hK.out _ _ ⟨(hcs 0).trans hH.1, (hcs 1).trans hH.2.1, (hcs 2).trans hH.2.2⟩ (fun hH => ?_)
      clear hK K hcs k0 k1 k2 k3 k4 f0 f1 f2 f3 f4
      refine wpAnyH_done (by kernel_rfl) ?_ _
      have hbS := below_set5 hbF zfa (.int .i64 0) (.int .i64 (-1)) (.int .i64 (-1)) (.int .i64 (-1)) (.int .i64 (-1))
      go_wp2_with fail
      go_meet
      case rel => exact ⟨W1.heap.size, rfl, hk5, hbS, HFIN.out⟩
  case rest =>
    obtain ⟨fa, rfl, hf, hbw, hpl⟩ := hcut
    have HPL : Hid (LoadedPost M w st (emptyDS 1048576 0) [] name rs wc) := hpl
    have r0 : wc.cell? ⟨fa, 0, none⟩ = some (.int .i64 0) := by simp [World.cell?, hf]
    have r1 : wc.cell? ⟨fa, 1, none⟩ = some (.int .i64 (-1)) := by simp [World.cell?, hf]
    have r2 : wc.cell? ⟨fa, 2, none⟩ = some (.int .i64 (-1)) := by simp [World.cell?, hf]
    have r3 : wc.cell? ⟨fa, 3, none⟩ = some (.int .i64 (-1)) := by simp [World.cell?, hf]
    have r4 : wc.cell? ⟨fa, 4, none⟩ = some (.int .i64 (-1)) := by simp [World.cell?, hf]
    have hg1 : fa < wc.heap.size := lt_of_heap hf
    clear hpl hf
    go_wp2_with fail
    go_region_held3 (fun X => X.cell? ⟨fa, 0, none⟩ = some (.int .i64 0) ∧ X.cell? ⟨fa, 1, none⟩ = some (.int .i64 (-1)) ∧ X.cell? ⟨fa, 2, none⟩ = some (.int .i64 (-1)) ∧ X.cell? ⟨fa, 3, none⟩ = some (.int .i64 (-1)) ∧ X.cell? ⟨fa, 4, none⟩ = some (.int .i64 (-1)))
      (first | go_keep | (go_split_ands; refine ⟨?_, ?_, ?_, ?_, ?_⟩ <;> (rw [(below_keep hbm).1 _ _ (by first | exact hg1 | assumption)]; assumption)))
      (first | (go_at_call 20; refine (none_any _).mono ?_; rintro e wm ⟨rfl, hbm⟩; have hbx : Below wc.heap.size wc wm := (by first | exact below_undrew hbm | exact hbm)))
    clear r0 r1 r2 r3 r4
    go_wp2_with fail
    rw [rounds_succ]
    go_wp2_with fail
    go_ret
    have hbf := below_then hbw hbx
    exact ⟨hbf, st, M, rfl, loaded_below HPL.out hbx, HM.out⟩
end Go.Proofs.YtfgklnenpichcaaGreatDoor

/- sure: one table is loaded and read. -/
namespace Go.Proofs.YtfgklnenpichcaaGreatDoor
open Go.RowKit Go.Shelf

/-- A table of one row and one column, in memory. -/
theorem one_tab {W : World} {p0 p1 p2 : Nat} {name : ByteArray} {t : Int} {v : V} (h0 : W.heap[p0]? = some (.cells #[.int .i64 t] 3 (0, 0))) (h1 : W.heap[p1]? = some (.cells #[.int .i64 v.k, .int .i64 v.n, .string v.s] 36 (0, 0))) (h2 : W.heap[p2]? = some (.cells #[.slice (some ⟨p1, 0, none⟩) 1 1] 38 (0, 0)))
    (ht : 1 ≤ t ∧ t ≤ 3) (hn : 1 ≤ name.size ∧ name.size ≤ 20) (hv : okB t v.k v.n v.s = true) (hi : inI64 v.n) : TabRight W name (some ⟨p0, 0, none⟩) (some ⟨p2, 0, none⟩) 1 [t] [(some ⟨p1, 0, none⟩, 1)] [[v]] := by
  refine ⟨⟨hn, ⟨⟨by simp, by simp⟩, fun j hj => ?_⟩, by simp, fun i hi => ?_⟩, fun u hu => ?_, fun r hr u hu => ?_, .inr ⟨p0, 0, rfl, lt_of_heap h0, fun i u hu => ?_⟩, ⟨rfl, .inr ⟨p2, 0, rfl, lt_of_heap h2, fun i u hu => ?_⟩, fun i x r hx hr => ?_⟩, by simp⟩
  · have : j = 0 := by simp at hj; omega
    subst this
    simp [typeOk, ht.1, ht.2]
  · have : i = 0 := by simp at hi; omega
    subst this
    refine ⟨rfl, fun j hj => ?_⟩
    have : j = 0 := by simp at hj; omega
    subst this
    simpa using hv
  · simp at hu; subst hu; unfold tOk; omega
  · simp at hr; subst hr; simp at hu; subst hu; exact hi
  · rcases i with _ | i
    · simp at hu; subst hu; simp [World.cell?, h0, iv]
    · simp at hu
  · rcases i with _ | i
    · simp at hu; subst hu; simp [World.cell?, h2, rowV]
    · simp at hu
  · rcases i with _ | i
    · simp at hx hr
      subst hx hr
      refine .inr ⟨p1, 0, rfl, lt_of_heap h1, fun j u hu => ?_⟩
      rcases j with _ | j
      · simp at hu; subst hu
        exact ⟨by simp [World.cell?, h1], by simp [World.cell?, h1], by simp [World.cell?, h1]⟩
      · simp at hu
    · simp at hx

/-- A store with one table. -/
def StoOne (w wx : World) (st : Nat) (name : ByteArray) (rs : List (List V)) : Prop := Below w.heap.size w wx ∧ ∃ (M : Nat → Prop) (E : DS) (T : TS), Sto M wx st E [T] ∧ Stand E [(T, rs)] ∧ T.name = name ∧ E.quota = 1048576 ∧ E.fail = 0 ∧ E.pages.length ≤ 660 * rs.length ∧ E.writes ≤ 660 * rs.length ∧ (∀ k, M k → w.heap.size ≤ k)
theorem loaded_one {M : Nat → Prop} {w X wx : World} {st : Nat} {name : ByteArray} {rs : List (List V)} (h : LoadedPost M X st (emptyDS 1048576 0) [] name rs wx) (hb : Below w.heap.size w X) (hb2 : Below X.heap.size X wx) (hM : ∀ k, M k → X.heap.size ≤ k) : StoOne w wx st name rs := by
  obtain ⟨M', E, T, h1, h2, h3, h4, h5, h6, h7, _, _, _, h11⟩ := h
  have z := hb.size
  refine ⟨below_then hb hb2, M', E, T, h1, h2, h3, h4, h5, by simpa [emptyDS] using h6, by simpa [emptyDS] using h7, fun k hk => ?_⟩
  rcases h11 k hk with a | a
  · have := hM k a; omega
  · omega
theorem rows_one {E : DS} {T : TS} {name : ByteArray} {rs : List (List V)} (h : Stand E [(T, rs)]) (hn : T.name = name) : rowsO E [T] name = some (.inl rs) ∧ ∀ T' ∈ [T], TabOk E T' := by
  have ht := h.tab (T, rs) (by simp)
  refine ⟨?_, fun T' hT => by simp at hT; subst hT; exact ht.ok⟩
  unfold rowsO
  simp [findI, hn, ht.read]

abbrev oneName : ByteArray := ⟨#[111, 110, 101]⟩
abbrev oneVal : V := ⟨1, 41, ⟨#[]⟩⟩
set_option maxRecDepth 100000 in
set_option maxHeartbeats 1000000 in
theorem sure_any (w : World) (a0 a1 a2 tt q wr pg pl ex ta : Addr) (hN : Names w a0 a1 a2 tt q wr pg pl ex ta) :
    Calls Tryz.prog 8 #[] w fun e w' => e = .returned (.bool true) ∧ Below w.heap.size w w' := by
  have HN : Hid (Names w a0 a1 a2 tt q wr pg pl ex ta) := hN
  clear hN
  go_enter Tryz.func8, Tryz.ntmps8
  go_upto_region 2 with fail
  obtain ⟨W, hW⟩ : ∃ W, W = ((((w.alloc (.cells #[.int .i64 1] 3)).alloc (.cells #[.int .i64 1, .int .i64 41, .string ⟨#[]⟩] 36)).alloc (.cells #[.slice (some ⟨w.heap.size + 1, 0, none⟩) 1 1] 38)).alloc (.cells #[.string ⟨#[111, 110, 101]⟩, .slice (some ⟨w.heap.size, 0, none⟩) 1 1, .slice (some ⟨w.heap.size + 1 + 1, 0, none⟩) 1 1] 26)) := ⟨_, rfl⟩
  rw [← hW]
  have hbW : Below w.heap.size w W := by rw [hW]; exact ((((Below.refl _ w).alloc (Nat.le_refl _) _).alloc (by simp) _).alloc (by simp; omega) _).alloc (by simp; omega) _
  have e3 : W.heap[w.heap.size + 1 + 1 + 1]? = some (.cells #[.string ⟨#[111, 110, 101]⟩, .slice (some ⟨w.heap.size, 0, none⟩) 1 1, .slice (some ⟨w.heap.size + 1 + 1, 0, none⟩) 1 1] 26 (0, 0)) := by rw [hW]; exact alloc_at _ _ _ (by simp)
  have e2 : W.heap[w.heap.size + 1 + 1]? = some (.cells #[.slice (some ⟨w.heap.size + 1, 0, none⟩) 1 1] 38 (0, 0)) := by rw [hW, Below.heap_alloc _ _ _ (by simp)]; exact alloc_at _ _ _ (by simp)
  have e1 : W.heap[w.heap.size + 1]? = some (.cells #[.int .i64 1, .int .i64 41, .string ⟨#[]⟩] 36 (0, 0)) := by rw [hW, Below.heap_alloc _ _ _ (by simp), Below.heap_alloc _ _ _ (by simp)]; exact alloc_at _ _ _ (by simp)
  have e0 : W.heap[w.heap.size]? = some (.cells #[.int .i64 1] 3 (0, 0)) := by rw [hW, Below.heap_alloc _ _ _ (by simp; omega), Below.heap_alloc _ _ _ (by simp; omega), Below.heap_alloc _ _ _ (by simp)]; exact alloc_at _ _ _ rfl
  have HT : Hid (TabRight W oneName (some ⟨w.heap.size, 0, none⟩) (some ⟨w.heap.size + 1 + 1, 0, none⟩) 1 [1] [(some ⟨w.heap.size + 1, 0, none⟩, 1)] [[oneVal]]) := one_tab (v := oneVal) e0 e1 e2 (by decide) (by decide) (by simp [okB, okK]) (by simp [inI64])
  have q0 : W.cell? ⟨w.heap.size + 1 + 1 + 1, 0, none⟩ = some (.string ⟨#[111, 110, 101]⟩) := by simp [World.cell?, e3]
  have q1 : W.cell? ⟨w.heap.size + 1 + 1 + 1, 1, none⟩ = some (.slice (some ⟨w.heap.size, 0, none⟩) 1 1) := by simp [World.cell?, e3]
  have q2 : W.cell? ⟨w.heap.size + 1 + 1 + 1, 2, none⟩ = some (.slice (some ⟨w.heap.size + 1 + 1, 0, none⟩) 1 1) := by simp [World.cell?, e3]
  clear hW e0 e1 e2 e3
  have HHL : Hid (∀ X b, Below W.heap.size W X → X.heap[b]? = some (.cells #[.string ⟨#[111, 110, 101]⟩, .slice (some ⟨w.heap.size, 0, none⟩) 1 1, .slice (some ⟨w.heap.size + 1 + 1, 0, none⟩) 1 1] 26 (0, 0)) → Calls Tryz.prog 11 #[.agg #[.int .i64 1048576, .int .i64 0], .slice (some ⟨b, 0, none⟩) 1 1] X fun e X' => ∃ st, e = .returned (.pointer (some ⟨st, 0, none⟩)) ∧ StoOne w X' st oneName [[oneVal]] ∧ Below X.heap.size X X') := fun X b hX hb =>
    (held_one b oneName (some ⟨w.heap.size, 0, none⟩) (some ⟨w.heap.size + 1 + 1, 0, none⟩) 1 1 [1] [(some ⟨w.heap.size + 1, 0, none⟩, 1)] [[oneVal]] X (HT.out.below hX) (by simp [World.cell?, hb]) (by simp [World.cell?, hb]) (by simp [World.cell?, hb]) a0 a1 a2 tt q wr pg pl ex ta (HN.out.below (below_then hbW hX))).mono fun e X' ⟨hbx, st, M, he, hl, hm⟩ => ⟨st, he, loaded_one hl (below_then hbW hX) hbx hm, hbx⟩
  go_cut [2] from 10 to 13 (fun s wx => ∃ st : Nat, s = .pointer (some ⟨st, 0, none⟩) ∧ StoOne w wx st oneName [[oneVal]])
  case first =>
    refine wp_region_held_drew (S := fun X => X.cell? ⟨w.heap.size + 1 + 1 + 1, 0, none⟩ = some (.string ⟨#[111, 110, 101]⟩) ∧ X.cell? ⟨w.heap.size + 1 + 1 + 1, 1, none⟩ = some (.slice (some ⟨w.heap.size, 0, none⟩) 1 1) ∧ X.cell? ⟨w.heap.size + 1 + 1 + 1, 2, none⟩ = some (.slice (some ⟨w.heap.size + 1 + 1, 0, none⟩) 1 1)) (by kernel_rfl) ⟨q0, q1, q2⟩ (fun hH => ?_)
    refine wpAnyH_take (i := 1) (v := ?_) rfl (by kernel_rfl) (by kernel_rfl) (by kernel_rfl) (fun _ _ _ h => h) (Or.inl ⟨by rfl, ?_⟩) hH ?_
    rotate_left 1
    · intro w hSw; (try dsimp only at hSw); go_simp; try rfl
    simp only [Act.put, List.getElem_toArray, List.getElem_cons_zero, List.getElem_cons_succ, List.setIfInBounds_toArray, List.set_cons_zero, List.set_cons_succ]
    have hcd : Below W.heap.size W W.drew := ⟨rfl, rfl, rfl, Nat.le_refl _, fun _ _ => rfl⟩
    refine wpAnyH_ready (rs := [0, 2]) (by kernel_rfl) (by simp) (AllReadyH.cons rfl (fun K hK => ?_) (AllReadyH.cons rfl (fun K hK => ?_) AllReadyH.nil))
    · go_simp
      refine (room_any _).mono ?_
      rintro e X1 ⟨rfl, hx1⟩
      have hc1 : Below W.heap.size W X1 := below_then hcd hx1
      go_simp
      refine hK.out _ _ ⟨cell_below hx1 hH.1, cell_below hx1 hH.2.1, cell_below hx1 hH.2.2⟩ (fun hH => ?_)
      clear hK K
      refine wpAnyH_ready (rs := [2]) (by kernel_rfl) (by simp) (AllReadyH.cons rfl (fun K hK => ?_) AllReadyH.nil)
      go_simp
      have hby : Below X1.heap.size X1 (X1.alloc (.cells #[.string ⟨#[111, 110, 101]⟩, .slice (some ⟨w.heap.size, 0, none⟩) 1 1, .slice (some ⟨w.heap.size + 1 + 1, 0, none⟩) 1 1] 26)) := (Below.refl _ _).alloc (Nat.le_refl _) _
      have hcell := heap_alloc_new X1 (.cells #[.string ⟨#[111, 110, 101]⟩, .slice (some ⟨w.heap.size, 0, none⟩) 1 1, .slice (some ⟨w.heap.size + 1 + 1, 0, none⟩) 1 1] 26)
      refine hK.out _ _ ⟨cell_below hby hH.1, cell_below hby hH.2.1, cell_below hby hH.2.2⟩ (fun hH => ?_)
      clear hK K
      refine wpAnyH_ready (rs := [3]) (by kernel_rfl) (by simp) (AllReadyH.cons rfl (fun K hK => ?_) AllReadyH.nil)
      go_simp
      refine (HHL.out _ _ (below_then hc1 hby) hcell).mono ?_
      rintro e X2 ⟨st, rfl, hso, hx2⟩
      have HSO : Hid (StoOne w X2 st oneName [[oneVal]]) := hso
      clear hso
      go_simp
      refine hK.out _ _ ⟨cell_below hx2 hH.1, cell_below hx2 hH.2.1, cell_below hx2 hH.2.2⟩ (fun hH => ?_)
      clear hK K
      refine wpAnyH_take (i := 4) (v := ?_) rfl (by kernel_rfl) (by kernel_rfl) (by kernel_rfl) (fun _ _ _ h => h) (Or.inl ⟨by rfl, ?_⟩) hH ?_
      rotate_left 1
      · intro w hSw; (try dsimp only at hSw); go_simp; try rfl
      simp only [Act.put, List.getElem_toArray, List.getElem_cons_zero, List.getElem_cons_succ, List.setIfInBounds_toArray, List.set_cons_zero, List.set_cons_succ]
      refine wpAnyH_done (by kernel_rfl) ?_ _
      go_wp2_with fail
      go_meet
      case rel => exact ⟨st, rfl, HSO.out⟩
    · go_simp
      have hby : Below W.heap.size W ((W.alloc (.cells #[.string ⟨#[111, 110, 101]⟩, .slice (some ⟨w.heap.size, 0, none⟩) 1 1, .slice (some ⟨w.heap.size + 1 + 1, 0, none⟩) 1 1] 26)).drew) := below_then hcd ((Below.refl _ W.drew).alloc (Nat.le_refl _) (.cells #[.string ⟨#[111, 110, 101]⟩, .slice (some ⟨w.heap.size, 0, none⟩) 1 1, .slice (some ⟨w.heap.size + 1 + 1, 0, none⟩) 1 1] 26))
      have hcell : ((W.alloc (.cells #[.string ⟨#[111, 110, 101]⟩, .slice (some ⟨w.heap.size, 0, none⟩) 1 1, .slice (some ⟨w.heap.size + 1 + 1, 0, none⟩) 1 1] 26)).drew).heap[W.heap.size]? = _ := heap_alloc_new W (.cells #[.string ⟨#[111, 110, 101]⟩, .slice (some ⟨w.heap.size, 0, none⟩) 1 1, .slice (some ⟨w.heap.size + 1 + 1, 0, none⟩) 1 1] 26)
      refine hK.out _ _ ⟨cell_below hby q0, cell_below hby q1, cell_below hby q2⟩ (fun hH => ?_)
      clear hK K
      refine wpAnyH_ready (rs := [0]) (by kernel_rfl) (by simp) (AllReadyH.cons rfl (fun K hK => ?_) AllReadyH.nil)
      go_simp
      refine (room_any _).mono ?_
      rintro e X1 ⟨rfl, hx1⟩
      have hc1 : Below W.heap.size W X1 := below_then hby hx1
      have hcell1 : X1.heap[W.heap.size]? = _ := (hx1.block _ (lt_of_heap hcell)).trans hcell
      go_simp
      refine hK.out _ _ ⟨cell_below hx1 hH.1, cell_below hx1 hH.2.1, cell_below hx1 hH.2.2⟩ (fun hH => ?_)
      clear hK K
      refine wpAnyH_ready (rs := [3]) (by kernel_rfl) (by simp) (AllReadyH.cons rfl (fun K hK => ?_) AllReadyH.nil)
      go_simp
      refine (HHL.out _ _ hc1 hcell1).mono ?_
      rintro e X2 ⟨st, rfl, hso, hx2⟩
      have HSO : Hid (StoOne w X2 st oneName [[oneVal]]) := hso
      clear hso
      go_simp
      refine hK.out _ _ ⟨cell_below hx2 hH.1, cell_below hx2 hH.2.1, cell_below hx2 hH.2.2⟩ (fun hH => ?_)
      clear hK K
      refine wpAnyH_take (i := 4) (v := ?_) rfl (by kernel_rfl) (by kernel_rfl) (by kernel_rfl) (fun _ _ _ h => h) (Or.inl ⟨by rfl, ?_⟩) hH ?_
      rotate_left 1
      · intro w hSw; (try dsimp only at hSw); go_simp; try rfl
      simp only [Act.put, List.getElem_toArray, List.getElem_cons_zero, List.getElem_cons_succ, List.setIfInBounds_toArray, List.set_cons_zero, List.set_cons_succ]
      refine wpAnyH_done (by kernel_rfl) ?_ _
      go_wp2_with fail
      go_meet
      case rel => exact ⟨st, rfl, HSO.out⟩
  case rest =>
    obtain ⟨st, rfl, hbw, M, E, T, hsto, hstand, hname, _⟩ := hcut
    obtain ⟨hro, hok⟩ := rows_one hstand hname
    have hsc := Scan_sto M st E [T] oneName wc hsto hok a0 a1 a2 tt q wr pg pl ex ta (HN.out.below hbw)
    rw [hro] at hsc
    clear hsto hstand hro hok
    go_wp2_with (first | (go_at_call 17; refine hsc.mono ?_; rintro e X1 ⟨hx1, g, bs, rfl, hgr⟩; have HGR : Hid (Grid X1 wc.heap.size g bs [[oneVal]]) := hgr; clear hgr))
    obtain ⟨b1, rfl⟩ : ∃ b1, bs = [b1] := by
      have := HGR.out.len
      match bs, this with
      | [x], _ => exact ⟨x, rfl⟩
    have g0 : X1.cell? ⟨g, 0, none⟩ = some (.slice (some ⟨b1, 0, none⟩) 1 1) := HGR.out.outer.cell (i := 0) (by simp)
    have v1 : X1.cell? ⟨b1, 1, none⟩ = some (.int .i64 41) := by
      rcases (HGR.out.rows 0 b1 [oneVal] rfl rfl).vals with h | ⟨b', o', hb', _, hv⟩
      · simp at h
      · simp at hb'
        obtain ⟨rfl, rfl⟩ := hb'
        have := (hv 0 oneVal rfl).2.1
        simpa using this
    have hqE := run_eql_F 0
    have hbF : Below X1.heap.size X1 (X1.alloc (.cells #[.int .i64 0, .int .i64 (-1), .int .i64 (-1), .int .i64 (-1), .int .i64 (-1)] 43)) := (Below.refl _ _).alloc (Nat.le_refl _) _
    have hfb := heap_alloc_new X1 (.cells #[.int .i64 0, .int .i64 (-1), .int .i64 (-1), .int .i64 (-1), .int .i64 (-1)] 43)
    have g0' := cell_below hbF g0
    have v1' := cell_below hbF v1
    generalize X1.alloc (.cells #[.int .i64 0, .int .i64 (-1), .int .i64 (-1), .int .i64 (-1), .int .i64 (-1)] 43) = X2 at *
    have r0 : X2.cell? ⟨X1.heap.size, 0, none⟩ = some (.int .i64 0) := by simp [World.cell?, hfb]
    have r1 : X2.cell? ⟨X1.heap.size, 1, none⟩ = some (.int .i64 (-1)) := by simp [World.cell?, hfb]
    have r2 : X2.cell? ⟨X1.heap.size, 2, none⟩ = some (.int .i64 (-1)) := by simp [World.cell?, hfb]
    have r3 : X2.cell? ⟨X1.heap.size, 3, none⟩ = some (.int .i64 (-1)) := by simp [World.cell?, hfb]
    have r4 : X2.cell? ⟨X1.heap.size, 4, none⟩ = some (.int .i64 (-1)) := by simp [World.cell?, hfb]
    clear g0 v1 hfb HGR
    refine wp_region_held_drew (S := fun X => X.cell? ⟨X1.heap.size, 0, none⟩ = some (.int .i64 0) ∧ X.cell? ⟨X1.heap.size, 1, none⟩ = some (.int .i64 (-1)) ∧ X.cell? ⟨X1.heap.size, 2, none⟩ = some (.int .i64 (-1)) ∧ X.cell? ⟨X1.heap.size, 3, none⟩ = some (.int .i64 (-1)) ∧ X.cell? ⟨X1.heap.size, 4, none⟩ = some (.int .i64 (-1)) ∧ X.cell? ⟨g, 0, none⟩ = some (.slice (some ⟨b1, 0, none⟩) 1 1) ∧ X.cell? ⟨b1, 1, none⟩ = some (.int .i64 41)) (by kernel_rfl) ⟨r0, r1, r2, r3, r4, g0', v1'⟩ (fun hH => ?_)
    refine wpAnyH_take (i := 0) (v := ?_) rfl (by kernel_rfl) (by kernel_rfl) (by kernel_rfl) (fun _ _ _ h => h) (Or.inl ⟨by rfl, ?_⟩) hH ?_
    rotate_left 1
    · intro w hSw; (try dsimp only at hSw); go_simp; try rfl
    simp only [Act.put, List.getElem_toArray, List.getElem_cons_zero, List.setIfInBounds_toArray, List.set_cons_zero, List.set_cons_succ]
    refine wpAnyH_ready (rs := [1]) (by kernel_rfl) (by simp) (AllReadyH.cons rfl (fun K hK => ?_) AllReadyH.nil)
    go_simp
    refine (none_any _).mono ?_
    rintro e X3 ⟨rfl, hx3⟩
    go_simp
    refine hK.out _ _ ⟨cell_below hx3 hH.1, cell_below hx3 hH.2.1, cell_below hx3 hH.2.2.1, cell_below hx3 hH.2.2.2.1, cell_below hx3 hH.2.2.2.2.1, cell_below hx3 hH.2.2.2.2.2.1, cell_below hx3 hH.2.2.2.2.2.2⟩ (fun hH => ?_)
    clear hK K
    refine wpAnyH_take (i := 2) (v := ?_) rfl (by kernel_rfl) (by kernel_rfl) (by kernel_rfl) (fun _ _ _ h => h) (Or.inl ⟨by rfl, ?_⟩) hH ?_
    rotate_left 1
    · intro w hSw; (try dsimp only at hSw); go_simp; try rfl
    simp only [Act.put, List.getElem_toArray, List.getElem_cons_zero, List.getElem_cons_succ, List.setIfInBounds_toArray, List.set_cons_zero, List.set_cons_succ]
    refine wpAnyH_take (i := 3) (v := ?_) rfl (by kernel_rfl) (by kernel_rfl) (by kernel_rfl) (fun _ _ _ h => h) (Or.inl ⟨by rfl, ?_⟩) hH ?_
    rotate_left 1
    · intro w hSw; (try dsimp only at hSw); go_simp; try rfl
    simp only [Act.put, List.getElem_toArray, List.getElem_cons_zero, List.getElem_cons_succ, List.setIfInBounds_toArray, List.set_cons_zero, List.set_cons_succ]
    refine wpAnyH_take (i := 4) (v := ?_) rfl (by kernel_rfl) (by kernel_rfl) (by kernel_rfl) (fun _ _ _ h => h) (Or.inl ⟨by rfl, ?_⟩) hH ?_
    rotate_left 1
    · intro w hSw; (try dsimp only at hSw); go_simp; try rfl
    simp only [Act.put, List.getElem_toArray, List.getElem_cons_zero, List.getElem_cons_succ, List.setIfInBounds_toArray, List.set_cons_zero, List.set_cons_succ]
    refine wpAnyH_take (i := 5) (v := ?_) rfl (by kernel_rfl) (by kernel_rfl) (by kernel_rfl) (fun _ _ _ h => h) (Or.inl ⟨by rfl, ?_⟩) hH ?_
    rotate_left 1
    · intro w hSw; (try dsimp only at hSw); go_simp; try rfl
    simp only [Act.put, List.getElem_toArray, List.getElem_cons_zero, List.getElem_cons_succ, List.setIfInBounds_toArray, List.set_cons_zero, List.set_cons_succ]
    refine wpAnyH_take (i := 6) (v := ?_) rfl (by kernel_rfl) (by kernel_rfl) (by kernel_rfl) (fun _ _ _ h => h) (Or.inl ⟨by rfl, ?_⟩) hH ?_
    rotate_left 1
    · intro w hSw; (try dsimp only at hSw); go_simp; try rfl
    simp only [Act.put, List.getElem_toArray, List.getElem_cons_zero, List.getElem_cons_succ, List.setIfInBounds_toArray, List.set_cons_zero, List.set_cons_succ]
    refine wpAnyH_take (i := 7) (v := ?_) rfl (by kernel_rfl) (by kernel_rfl) (by kernel_rfl) (fun _ _ _ h => h) (Or.inl ⟨by rfl, ?_⟩) hH ?_
    rotate_left 1
    · intro w hSw; (try dsimp only at hSw); go_simp; try rfl
    simp only [Act.put, List.getElem_toArray, List.getElem_cons_zero, List.getElem_cons_succ, List.setIfInBounds_toArray, List.set_cons_zero, List.set_cons_succ]
    refine wpAnyH_take (i := 8) (v := ?_) rfl (by kernel_rfl) (by kernel_rfl) (by kernel_rfl) (fun _ _ _ h => h) (Or.inl ⟨by rfl, ?_⟩) hH ?_
    rotate_left 1
    · intro w hSw; (try dsimp only at hSw); go_simp; try rfl
    simp only [Act.put, List.getElem_toArray, List.getElem_cons_zero, List.getElem_cons_succ, List.setIfInBounds_toArray, List.set_cons_zero, List.set_cons_succ]
    refine wpAnyH_take (i := 9) (v := ?_) rfl (by kernel_rfl) (by kernel_rfl) (by kernel_rfl) (fun _ _ _ h => h) (Or.inl ⟨by rfl, ?_⟩) hH ?_
    rotate_left 1
    · intro w hSw; (try dsimp only at hSw); go_simp; try rfl
    simp only [Act.put, List.getElem_toArray, List.getElem_cons_zero, List.getElem_cons_succ, List.setIfInBounds_toArray, List.set_cons_zero, List.set_cons_succ]
    refine wpAnyH_take (i := 10) (v := ?_) rfl (by kernel_rfl) (by kernel_rfl) (by kernel_rfl) (fun _ _ _ h => h) (Or.inl ⟨by rfl, ?_⟩) hH ?_
    rotate_left 1
    · intro w hSw; (try dsimp only at hSw); go_simp; try rfl
    simp only [Act.put, List.getElem_toArray, List.getElem_cons_zero, List.getElem_cons_succ, List.setIfInBounds_toArray, List.set_cons_zero, List.set_cons_succ]
    refine wpAnyH_take (i := 11) (v := ?_) rfl (by kernel_rfl) (by kernel_rfl) (by kernel_rfl) (fun _ _ _ h => h) (Or.inl ⟨by rfl, ?_⟩) hH ?_
    rotate_left 1
    · intro w hSw; (try dsimp only at hSw); go_simp; try rfl
    simp only [Act.put, List.getElem_toArray, List.getElem_cons_zero, List.getElem_cons_succ, List.setIfInBounds_toArray, List.set_cons_zero, List.set_cons_succ]
    refine wpAnyH_take (i := 12) (v := ?_) rfl (by kernel_rfl) (by kernel_rfl) (by kernel_rfl) (fun _ _ _ h => h) (Or.inl ⟨by rfl, ?_⟩) hH ?_
    rotate_left 1
    · intro w hSw; (try dsimp only at hSw); go_simp; try rfl
    simp only [Act.put, List.getElem_toArray, List.getElem_cons_zero, List.getElem_cons_succ, List.setIfInBounds_toArray, List.set_cons_zero, List.set_cons_succ]
    refine wpAnyH_take (i := 13) (v := ?_) rfl (by kernel_rfl) (by kernel_rfl) (by kernel_rfl) (fun _ _ _ h => h) (Or.inl ⟨by rfl, ?_⟩) hH ?_
    rotate_left 1
    · intro w hSw; (try dsimp only at hSw); go_simp; try rfl
    simp only [Act.put, List.getElem_toArray, List.getElem_cons_zero, List.getElem_cons_succ, List.setIfInBounds_toArray, List.set_cons_zero, List.set_cons_succ]
    refine wpAnyH_take (i := 14) (v := ?_) rfl (by kernel_rfl) (by kernel_rfl) (by kernel_rfl) (fun _ _ _ h => h) (Or.inl ⟨by rfl, ?_⟩) hH ?_
    rotate_left 1
    · intro w hSw; (try dsimp only at hSw); go_simp; try rfl
    simp only [Act.put, List.getElem_toArray, List.getElem_cons_zero, List.getElem_cons_succ, List.setIfInBounds_toArray, List.set_cons_zero, List.set_cons_succ]
    refine wpAnyH_take (i := 15) (v := ?_) rfl (by kernel_rfl) (by kernel_rfl) (by kernel_rfl) (fun _ _ _ h => h) (Or.inl ⟨by rfl, ?_⟩) hH ?_
    rotate_left 1
    · intro w hSw; (try dsimp only at hSw); go_simp; try rfl
    simp only [Act.put, List.getElem_toArray, List.getElem_cons_zero, List.getElem_cons_succ, List.setIfInBounds_toArray, List.set_cons_zero, List.set_cons_succ]
    refine wpAnyH_take (i := 16) (v := ?_) rfl (by kernel_rfl) (by kernel_rfl) (by kernel_rfl) (fun _ _ _ h => h) (Or.inl ⟨by rfl, ?_⟩) hH ?_
    rotate_left 1
    · intro w hSw; (try dsimp only at hSw); go_simp; try rfl
    simp only [Act.put, List.getElem_toArray, List.getElem_cons_zero, List.getElem_cons_succ, List.setIfInBounds_toArray, List.set_cons_zero, List.set_cons_succ]
    refine wpAnyH_take (i := 17) (v := ?_) rfl (by kernel_rfl) (by kernel_rfl) (by kernel_rfl) (fun _ _ _ h => h) (Or.inl ⟨by rfl, ?_⟩) hH ?_
    rotate_left 1
    · intro w hSw; (try dsimp only at hSw); go_simp; try rfl
    simp only [Act.put, List.getElem_toArray, List.getElem_cons_zero, List.getElem_cons_succ, List.setIfInBounds_toArray, List.set_cons_zero, List.set_cons_succ]
    refine wpAnyH_take (i := 18) (v := ?_) rfl (by kernel_rfl) (by kernel_rfl) (by kernel_rfl) (fun _ _ _ h => h) (Or.inl ⟨by rfl, ?_⟩) hH ?_
    rotate_left 1
    · intro w hSw; (try dsimp only at hSw); go_simp; try rfl
    simp only [Act.put, List.getElem_toArray, List.getElem_cons_zero, List.getElem_cons_succ, List.setIfInBounds_toArray, List.set_cons_zero, List.set_cons_succ]
    refine wpAnyH_take (i := 19) (v := ?_) rfl (by kernel_rfl) (by kernel_rfl) (by kernel_rfl) (fun _ _ _ h => h) (Or.inl ⟨by rfl, ?_⟩) hH ?_
    rotate_left 1
    · intro w hSw; (try dsimp only at hSw); go_simp; try rfl
    simp only [Act.put, List.getElem_toArray, List.getElem_cons_zero, List.getElem_cons_succ, List.setIfInBounds_toArray, List.set_cons_zero, List.set_cons_succ]
    refine wpAnyH_take (i := 20) (v := ?_) rfl (by kernel_rfl) (by kernel_rfl) (by kernel_rfl) (fun _ _ _ h => h) (Or.inl ⟨by rfl, ?_⟩) hH ?_
    rotate_left 1
    · intro w hSw; (try dsimp only at hSw); go_simp; try rfl
    simp only [Act.put, List.getElem_toArray, List.getElem_cons_zero, List.getElem_cons_succ, List.setIfInBounds_toArray, List.set_cons_zero, List.set_cons_succ]
    refine wpAnyH_take (i := 21) (v := ?_) rfl (by kernel_rfl) (by kernel_rfl) (by kernel_rfl) (fun _ _ _ h => h) (Or.inl ⟨by rfl, ?_⟩) hH ?_
    rotate_left 1
    · intro w hSw; (try dsimp only at hSw); go_simp; try rfl
    simp only [Act.put, List.getElem_toArray, List.getElem_cons_zero, List.getElem_cons_succ, List.setIfInBounds_toArray, List.set_cons_zero, List.set_cons_succ]
    refine wpAnyH_take (i := 22) (v := ?_) rfl (by kernel_rfl) (by kernel_rfl) (by kernel_rfl) (fun _ _ _ h => h) (Or.inl ⟨by rfl, ?_⟩) hH ?_
    rotate_left 1
    · intro w hSw; (try dsimp only at hSw); go_simp; try rfl
    simp only [Act.put, List.getElem_toArray, List.getElem_cons_zero, List.getElem_cons_succ, List.setIfInBounds_toArray, List.set_cons_zero, List.set_cons_succ]
    refine wpAnyH_take (i := 23) (v := ?_) rfl (by kernel_rfl) (by kernel_rfl) (by kernel_rfl) (fun _ _ _ h => h) (Or.inl ⟨by rfl, ?_⟩) hH ?_
    rotate_left 1
    · intro w hSw; (try dsimp only at hSw); go_simp; try rfl
    simp only [Act.put, List.getElem_toArray, List.getElem_cons_zero, List.getElem_cons_succ, List.setIfInBounds_toArray, List.set_cons_zero, List.set_cons_succ]
    refine wpAnyH_take (i := 24) (v := ?_) rfl (by kernel_rfl) (by kernel_rfl) (by kernel_rfl) (fun _ _ _ h => h) (Or.inl ⟨by rfl, ?_⟩) hH ?_
    rotate_left 1
    · intro w hSw; (try dsimp only at hSw); go_simp; try rfl
    simp only [Act.put, List.getElem_toArray, List.getElem_cons_zero, List.getElem_cons_succ, List.setIfInBounds_toArray, List.set_cons_zero]
    refine wpAnyH_done (by kernel_rfl) ?_ _
    go_wp2
    go_ret
    exact ⟨rfl, below_then (below_then hbw (below_then hx1 hbF)) (below_undrew hx3)⟩

theorem TabNew.right {w w' : World} {name : ByteArray} {ts : List Int} {rs : List (List V)} {v : Value} (h : TabNew w w' name ts rs v) (hl : rs.length ≤ 200) (hn : 1 ≤ name.size ∧ name.size ≤ 20) : ∃ tya tyc ra rc xs, v = .agg #[.string name, .slice tya ts.length tyc, .slice ra rs.length rc] ∧ TabRight w' name tya ra rc ts xs rs := by
  obtain ⟨tya, tyc, ra, rc, bs, hv, h1, h2, h3, _⟩ := h.val
  refine ⟨tya, tyc, ra, rc, _, hv, ⟨hn, ⟨h.types.1, fun j hj => ?_⟩, hl, fun i hi => ?_⟩, h.types.2, fun r hr u hu => ?_, h1, h2, h3⟩
  · have := h.types.2 _ (List.getElem_mem hj)
    unfold tOk at this
    unfold typeOk
    simp only [decide_eq_true_iff]
    omega
  · have := h.rows _ (List.getElem_mem hi)
    exact ⟨this.1, fun j hj => (this.2 j hj).1⟩
  · have := h.rows r hr
    obtain ⟨j, hj, rfl⟩ := List.getElem_of_mem hu
    exact (this.2 j hj).2

/-- A fault lies in a block: its number, its page. -/
def FaultIs (X : World) (f : Nat) (c p : Int) : Prop := X.heap[f]? = some (.cells #[.int .i64 c, .int .i64 (-1), .int .i64 (-1), .int .i64 (-1), .int .i64 p] 43 (0, 0))
theorem FaultIs.cells {X : World} {f : Nat} {c p : Int} (h : FaultIs X f c p) : X.cell? ⟨f, 0, none⟩ = some (.int .i64 c) ∧ X.cell? ⟨f, 1, none⟩ = some (.int .i64 (-1)) ∧ X.cell? ⟨f, 2, none⟩ = some (.int .i64 (-1)) ∧ X.cell? ⟨f, 3, none⟩ = some (.int .i64 (-1)) ∧ X.cell? ⟨f, 4, none⟩ = some (.int .i64 p) := by
  unfold FaultIs at h
  refine ⟨?_, ?_, ?_, ?_, ?_⟩ <;> simp [World.cell?, h]
theorem FaultIs.frozen {X : World} {f : Nat} {c p : Int} (h : FaultIs X f c p) (o : Nat) : X.frozen? ⟨f, o, none⟩ = false := by
  unfold FaultIs at h
  simp [World.frozen?, h]
theorem FaultIs.lt {X : World} {f : Nat} {c p : Int} (h : FaultIs X f c p) : f < X.heap.size := lt_of_heap h
theorem FaultIs.below {X Y : World} {f : Nat} {c p : Int} (h : FaultIs X f c p) (hb : Below X.heap.size X Y) : FaultIs Y f c p := (hb.block f h.lt).trans h
theorem FaultIs.keep {M : Nat → Prop} {X Y : World} {f : Nat} {c p : Int} (h : FaultIs X f c p) (hk : Keep M X Y) (hn : ¬ M f) : FaultIs Y f c p := (hk.block f h.lt hn).trans h
theorem FaultIs.other {X : World} {f g : Nat} {c p : Int} (h : FaultIs X f c p) (hne : f ≠ g) (v0 v1 v2 v3 v4 : Value) : FaultIs (((((X.setCell ⟨g, 0, none⟩ v0).setCell ⟨g, 1, none⟩ v1).setCell ⟨g, 2, none⟩ v2).setCell ⟨g, 3, none⟩ v3).setCell ⟨g, 4, none⟩ v4) f c p := (set5_other _ _ _ _ _ _ _ f hne).trans h
theorem FaultIs.set {X : World} {f : Nat} {c p : Int} (h : FaultIs X f c p) (c' p' : Int) : FaultIs (((((X.setCell ⟨f, 0, none⟩ (.int .i64 c')).setCell ⟨f, 1, none⟩ (.int .i64 (-1))).setCell ⟨f, 2, none⟩ (.int .i64 (-1))).setCell ⟨f, 3, none⟩ (.int .i64 (-1))).setCell ⟨f, 4, none⟩ (.int .i64 p')) f c' p' := by
  have hk5 := heap_set (heap_set (heap_set (heap_set (heap_set h 0 (.int .i64 c')) 1 (.int .i64 (-1))) 2 (.int .i64 (-1))) 3 (.int .i64 (-1))) 4 (.int .i64 p')
  simp only [List.setIfInBounds_toArray, List.set_cons_zero, List.set_cons_succ] at hk5
  exact hk5
end Go.Proofs.YtfgklnenpichcaaGreatDoor
