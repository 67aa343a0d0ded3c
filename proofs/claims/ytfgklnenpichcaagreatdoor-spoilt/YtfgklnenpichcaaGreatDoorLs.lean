/- The law Spoilt, walked. -/
import Derived.Test.YtfgklnenpichcaaGreatDoorHf
import Derived.Test.YtfgklnenpichcaaGreatDoorMe
namespace Go.Proofs.YtfgklnenpichcaaGreatDoor
open Go.RowKit Go.Shelf

/-- What a Load that went well leaves, with what it answers plainly. -/
def SurePost (M : Nat → Prop) (w : World) (st : Nat) (D : DS) (L : List (TS × List (List V))) (name : ByteArray) (ts hs : List Int) (rs : List (List V)) (g : Int) (w' : World) : Prop :=
  ∃ (M' : Nat → Prop) (E : DS) (T : TS), loadR D (L.map Prod.fst) name ts hs rs g = .ok E T ∧ Sto M' w' st E ((L ++ [(T, rs)]).map Prod.fst) ∧ Stand E (L ++ [(T, rs)]) ∧ T.name = name ∧ E.quota = D.quota ∧ E.fail = D.fail ∧ E.pages.length ≤ D.pages.length + 660 * rs.length ∧ E.writes ≤ D.writes + 660 * rs.length ∧ (∀ k, M k → M' k) ∧ (∀ k, M' k → M k ∨ w.heap.size ≤ k)
theorem load_sure (M : Nat → Prop) (st : Nat) (D : DS) (L : List (TS × List (List V))) (name : ByteArray) (at_ ar ah : Option Addr) (ct cr ch : Nat) (ts hs : List Int) (xs : List (Option Addr × Nat)) (rs : List (List V)) (g : Int) (w : World) (hX : Sto M w st D (L.map Prod.fst)) (hS : Stand D L) (hR : TabRight w name at_ ar cr ts xs rs) (hh : Ints w ah hs) (hI : HowsI ts [] hs ts.length) (hg : 1 ≤ g ∧ g ≤ 64) (hnew : findI (L.map Prod.fst) name = L.length) (hfew : L.length < 6)
    (hq : D.quota = 1048576) (hf : D.fail = 0) (hp : D.pages.length ≤ 200000) (hwr : D.writes ≤ 1000000000) (hAM : ∀ b o, at_ = some ⟨b, o, none⟩ → ¬ M b) (a0 a1 a2 tt q wr pg pl ex ta : Addr) (w0 : World) (hN0 : Names w0 a0 a1 a2 tt q wr pg pl ex ta) (hb00 : Below w0.heap.size w0 w) (hMB : ∀ k, M k → w0.heap.size ≤ k) :
    Calls Tryz.prog 14 #[.pointer (some ⟨st, 0, none⟩), tabArg name at_ ar ct cr ts rs, .slice ah hs.length ch, .int .i64 g] w fun e w' => e = .returned (fault 0) ∧ Keep M w w' ∧ SurePost M w st D L name ts hs rs g w' := by
  obtain ⟨hw, hz⟩ := hows_plain hI
  have hl6 : hs.length ≤ 6 := by rw [hw.1]; exact hR.tab.2.1.1.2
  have hok : ∃ E T, loadR D (L.map Prod.fst) name ts hs rs g = .ok E T := by
    rcases plain_ok hS hR.tab hw hg (Ts := L.map Prod.fst) (by rw [hnew]; simp) (by simpa using hfew) hq hf (Nat.le_trans (usedOf_le _) hp) hwr with ⟨c, hc⟩ | h
    · have := (load_dict hc).2.1
      rw [hz c] at this
      simp at this
    · exact h
  obtain ⟨E, T, hr⟩ := hok
  refine (Load_any M st D (L.map Prod.fst) name at_ ar ah ct cr ch ts hs xs rs g w hX (hR.arg hh hl6) hAM hp a0 a1 a2 tt q wr pg pl ex ta w0 hN0 hb00 hMB).mono fun e w' ⟨he, hk, M', hs', hm1, hm2⟩ => ?_
  rw [hr] at he hs'
  obtain ⟨h1, h2, h3, h4, h5, h6, h7, h8, _⟩ := load_ok hS hR.vals hwr hr
  exact ⟨he, hk, M', E, T, hr, by simpa [LoadR.ts, LoadR.d] using hs', h1, h2, h5, h6, h7, h8, hm1, hm2⟩

theorem sure_below {M : Nat → Prop} {w w1 wx : World} {st : Nat} {D : DS} {L : List (TS × List (List V))} {name : ByteArray} {ts hs : List Int} {rs : List (List V)} {g : Int} (h : SurePost M w st D L name ts hs rs g w1) (hb : Below w1.heap.size w1 wx) : SurePost M w st D L name ts hs rs g wx := by
  obtain ⟨M', E, T, h0, h1, h⟩ := h
  exact ⟨M', E, T, h0, h1.below hb, h⟩
theorem sure_move {M : Nat → Prop} {w XL X2 wx : World} {st : Nat} {D : DS} {L : List (TS × List (List V))} {name : ByteArray} {ts hs : List Int} {rs : List (List V)} {g : Int} {fa : Nat} (h : SurePost M XL st D L name ts hs rs g X2) (hz : w.heap.size ≤ XL.heap.size) (hs' : X2.heap.size ≤ wx.heap.size) (hk : ∀ k, k < X2.heap.size → k ≠ fa → wx.heap[k]? = X2.heap[k]?) (hn : ¬ M fa) (hfa : fa < XL.heap.size ∨ X2.heap.size ≤ fa) : SurePost M w st D L name ts hs rs g wx := by
  obtain ⟨M', E, T, h0, h1, h2, h3, h4, h5, h6, h7, h10, h11⟩ := h
  refine ⟨M', E, T, h0, h1.stands hs' fun k hm => hk k (h1.lt k hm) fun e => ?_, h2, h3, h4, h5, h6, h7, h10, fun k hm => (h11 k hm).imp_right fun a => by omega⟩
  subst e
  have := h1.lt k hm
  rcases h11 k hm with a | a
  · exact hn a
  · omega

abbrev aName : ByteArray := ⟨#[97]⟩
abbrev bName : ByteArray := ⟨#[98]⟩
theorem run_eql_P (p : Int) (w : World) : (binOp .eql 43 (faultAt 7 (-1) p) (faultAt 7 (-1) p)).run Tryz.prog w = .ok (.bool true) w := by
  have h1 : (Op.equal 43 (faultAt 7 (-1) p) (faultAt 7 (-1) p)).run Tryz.prog w = .ok true w := by
    rw [Op.equal, Op.maxDepth, run_equalIn_struct w 9999 43 _ _ underF sihF]
    have h := fieldsF
    generalize (Tryz.prog.fieldsOf 43).toList = fs at h
    rcases fs with _ | ⟨f0, _ | ⟨f1, _ | ⟨f2, _ | ⟨f3, _ | ⟨f4, _ | ⟨f5, fs⟩⟩⟩⟩⟩⟩
    · simp at h
    · simp at h
    · simp at h
    · simp at h
    · simp at h
    · simp at h
      obtain ⟨⟨h1, h2, h3⟩, ⟨h4, h5, h6⟩, ⟨h7, h8, h9⟩, ⟨i1, i2, i3⟩, i4, i5, i6⟩ := h
      simp [Op.eqFields, h1, h2, h3, h4, h5, h6, h7, h8, h9, i1, i2, i3, i4, i5, i6, part, sizeOf, go_sem]
    · simp at h
  simp [binOp, h1]

/-- What stands behind a Load of the law: the fault's block; faults of elder Loads. -/
def SpMid (W3 : World) (st : Nat) (D : DS) (L : List (TS × List (List V))) (name : ByteArray) (ts : List Int) (rs : List (List V)) (fs : List Nat) (fa : Nat) (wx : World) : Prop :=
  FaultIs wx fa 0 (-1) ∧ W3.heap.size ≤ fa ∧ Below W3.heap.size W3 wx ∧ ∃ (M : Nat → Prop) (E : DS) (T : TS) (g : Int) (hs : List Int), loadR D (L.map Prod.fst) name ts hs rs g = .ok E T ∧ Sto M wx st E ((L ++ [(T, rs)]).map Prod.fst) ∧ Stand E (L ++ [(T, rs)]) ∧ T.name = name ∧ E.quota = D.quota ∧ E.fail = D.fail ∧ E.pages.length ≤ D.pages.length + 660 * rs.length ∧ E.writes ≤ D.writes + 660 * rs.length ∧ ¬ M fa ∧ (∀ k, M k → W3.heap.size ≤ k) ∧ ∀ f ∈ fs, FaultIs wx f 0 (-1) ∧ ¬ M f ∧ f ≠ fa
theorem sp_mid {M : Nat → Prop} {W3 XL X8 wx : World} {st : Nat} {D : DS} {L : List (TS × List (List V))} {name : ByteArray} {ts hs : List Int} {rs : List (List V)} {g : Int} {fa : Nat} {fs : List Nat} (h : SurePost M XL st D L name ts hs rs g X8) (hkL : Keep M XL X8) (hM : ∀ k, M k → W3.heap.size ≤ k) (hb : Below W3.heap.size W3 XL) (hs' : X8.heap.size ≤ wx.heap.size) (ho : wx.os = X8.os) (ht : wx.tape = X8.tape) (hu : wx.output = X8.output) (hk : ∀ k, k < X8.heap.size → k ≠ fa → wx.heap[k]? = X8.heap[k]?) (hn : ¬ M fa) (hfa : fa < XL.heap.size ∨ X8.heap.size ≤ fa) (hfw : W3.heap.size ≤ fa)
    (hc : FaultIs wx fa 0 (-1)) (hfs : ∀ f ∈ fs, FaultIs XL f 0 (-1) ∧ ¬ M f ∧ f ≠ fa) : SpMid W3 st D L name ts rs fs fa wx := by
  obtain ⟨M', E, T, h0, h1, h2, h3, h4, h5, h6, h7, h10, h11⟩ := h
  have z1 := hb.size
  have z2 := hkL.size
  have hnm : ∀ f, ¬ M f → f < XL.heap.size ∨ X8.heap.size ≤ f → ¬ M' f := fun f hf hor hm => by
    have := h1.lt f hm
    rcases h11 f hm with a | a
    · exact hf a
    · omega
  have hnf := hnm fa hn hfa
  refine ⟨hc, hfw, ?_, M', E, T, g, hs, h0, h1.stands hs' fun k hm => hk k (h1.lt k hm) fun e => hnf (e ▸ hm), h2, h3, h4, h5, h6, h7, hnf, fun k hm => ?_, fun f hf => ?_⟩
  · refine hb.trans ⟨ho.trans hkL.os, ht.trans hkL.tape, hu.trans hkL.output, by omega, fun k hk' => (hk k (by omega) (by omega)).trans (hkL.block k (by omega) fun hm => by have := hM k hm; omega)⟩
  · rcases h11 k hm with a | a
    · exact hM k a
    · omega
  · obtain ⟨q1, q2, q3⟩ := hfs f hf
    have hl := q1.lt
    exact ⟨(hk f (by omega) q3).trans (q1.keep hkL q2), hnm f q2 (.inl hl), q3⟩

/-- What a Scan answers, told uniformly: the list, the fault's number and page. -/
def ScanU (X : World) (r : List (List V) ⊕ Nat) (a : Option Addr) (len : Nat) (c p : Int) (X' : World) : Prop :=
  match r with
    | .inr j => a = none ∧ len = 0 ∧ c = 7 ∧ p = (j : Int)
    | .inl rs => ∃ g gs, a = some ⟨g, 0, none⟩ ∧ len = rs.length ∧ c = 0 ∧ p = -1 ∧ Grid X' X.heap.size g gs rs
theorem scan_uni {X X' : World} {r : List (List V) ⊕ Nat} {e : Ending} (h : ScanPost X (some r) e X') : Below X.heap.size X X' ∧ ∃ a len c p, e = .returned (.tuple #[.slice a len len, faultAt c (-1) p]) ∧ ScanU X r a len c p X' := by
  obtain ⟨hb, h⟩ := h
  rcases r with rs | j
  · obtain ⟨g, bs, rfl, hg⟩ := h
    exact ⟨hb, _, _, _, _, rfl, g, bs, rfl, rfl, rfl, rfl, hg⟩
  · simp only at h
    subst h
    exact ⟨hb, _, _, _, _, rfl, rfl, rfl, rfl, rfl⟩
theorem ScanU.below {X X' Y : World} {r : List (List V) ⊕ Nat} {a : Option Addr} {len : Nat} {c p : Int} (h : ScanU X r a len c p X') (hb : Below X'.heap.size X' Y) : ScanU X r a len c p Y := by
  rcases r with rs | j
  · obtain ⟨g, gs, h1, h2, h3, h4, h5⟩ := h
    exact ⟨g, gs, h1, h2, h3, h4, h5.below hb⟩
  · exact h

/-- The table that a law makes of a raw one. -/
theorem table_right (rn name : ByteArray) (at_ ar : Option Addr) (ct cr : Nat) (ns : List Int) (xs : List (Option Addr × Nat)) (raws : List (List V)) (w : World) (hn : ns.length ≤ maxLen) (hrr : ∀ r ∈ raws, r.length ≤ maxLen) (hin : ∀ r ∈ raws, ∀ v ∈ r, inI64 v.k ∧ inI64 v.n) (hx : Ints w at_ ns) (hy : RowsAt w ar xs raws) (hnm : 1 ≤ name.size ∧ name.size ≤ 20) :
    Calls Tryz.prog 9 #[.agg #[.string rn, .slice at_ ns.length ct, .slice ar raws.length cr], .string name, .int .i64 ((200 : Nat) : Int)] w fun e w' => ∃ ts rs tya tyc ra rc ys, e = .returned (.agg #[.string name, .slice tya ts.length tyc, .slice ra rs.length rc]) ∧ TabRight w' name tya ra rc ts ys rs ∧ Below w.heap.size w w' :=
  (ktable_any rn name at_ ar ct cr 200 ns xs raws w (by omega) hn hrr hin hx hy).mono fun e w' ⟨ts, rs, v, he, ht, hl, hbx⟩ => by
    obtain ⟨tya, tyc, ra, rc, ys, rfl, hr⟩ := ht.right hl hnm
    exact ⟨ts, rs, tya, tyc, ra, rc, ys, he, hr, hbx⟩
/-- Its ways, where none is asked for. -/
theorem hows_right {W X : World} {name : ByteArray} {tya ra : Option Addr} {tyc rc : Nat} {ts : List Int} {ys : List (Option Addr × Nat)} {rs : List (List V)} (hR : TabRight W name tya ra rc ts ys rs) (hX : Below W.heap.size W X) :
    Calls Tryz.prog 10 #[.agg #[.string name, .slice tya ts.length tyc, .slice ra rs.length rc], .slice none 0 0] X fun e X' => Below X.heap.size X X' ∧ ∃ (ah : Option Addr) (ch : Nat) (hs : List Int), e = .returned (.slice ah hs.length ch) ∧ Ints X' ah hs ∧ HowsI ts [] hs ts.length := by
  have := khows_any (.string name) (.slice ra rs.length rc) tya none tyc 0 ts [] X hR.tab.2.1.1.2 hR.tok (by simp) (hR.types.below hX) (.inl rfl)
  refine this.mono fun e X' ⟨hs, sv, he, ho, hI, hbx⟩ => ?_
  obtain ⟨a, c, hsv, hc⟩ := ho.cells
  rw [List.length_map] at hsv
  subst hsv
  exact ⟨hbx, a, c, hs, he, hc, hI⟩

set_option maxRecDepth 100000 in
set_option maxHeartbeats 16000000 in
theorem spoilt_any (rn rn2 : ByteArray) (at_ ar aw at2 ar2 : Option Addr) (ct cr nw cw ct2 cr2 : Nat) (ns ns2 : List Int) (xs xs2 : List (Option Addr × Nat)) (raws raws2 : List (List V)) (p0 k0 x0 : Int) (w : World) (hn : ns.length ≤ maxLen) (hrr : ∀ r ∈ raws, r.length ≤ maxLen) (hin : ∀ r ∈ raws, ∀ v ∈ r, inI64 v.k ∧ inI64 v.n) (hx : Ints w at_ ns) (hy : RowsAt w ar xs raws) (hn2 : ns2.length ≤ maxLen) (hrr2 : ∀ r ∈ raws2, r.length ≤ maxLen) (hin2 : ∀ r ∈ raws2, ∀ v ∈ r, inI64 v.k ∧ inI64 v.n) (hx2 : Ints w at2 ns2) (hy2 : RowsAt w ar2 xs2 raws2) (hp0 : inI64 p0) (hk0 : inI64 k0) (hx0 : inI64 x0)
    (a0 a1 a2 tt q wr pg pl ex ta : Addr) (hN : Names w a0 a1 a2 tt q wr pg pl ex ta) :
    Calls Tryz.prog 5 #[.agg #[.string rn, .slice at_ ns.length ct, .slice ar raws.length cr], .agg #[.string rn2, .slice at2 ns2.length ct2, .slice ar2 raws2.length cr2], .slice aw nw cw, .int .i64 p0, .int .i64 k0, .int .i64 x0] w fun e w' => e = .returned (.bool true) ∧ Below w.heap.size w w' := by
  have hb0 : Below w.heap.size w ((w.alloc (.cells #[.string rn, .slice at_ ns.length ct, .slice ar raws.length cr] 26)).alloc (.cells #[.string rn2, .slice at2 ns2.length ct2, .slice ar2 raws2.length cr2] 26)) := ((Below.refl _ w).alloc (Nat.le_refl _) _).alloc (by simp) _
  obtain ⟨W0, hW0⟩ : ∃ W, W = (w.alloc (.cells #[.string rn, .slice at_ ns.length ct, .slice ar raws.length cr] 26)).alloc (.cells #[.string rn2, .slice at2 ns2.length ct2, .slice ar2 raws2.length cr2] 26) := ⟨_, rfl⟩
  have q0 : W0.cell? ⟨w.heap.size, 0, none⟩ = some (.string rn) := by rw [hW0]; simp
  have q1 : W0.cell? ⟨w.heap.size, 1, none⟩ = some (.slice at_ ns.length ct) := by rw [hW0]; simp
  have q2 : W0.cell? ⟨w.heap.size, 2, none⟩ = some (.slice ar raws.length cr) := by rw [hW0]; simp
  have q3 : W0.cell? ⟨w.heap.size + 1, 0, none⟩ = some (.string rn2) := by rw [hW0]; simp
  have q4 : W0.cell? ⟨w.heap.size + 1, 1, none⟩ = some (.slice at2 ns2.length ct2) := by rw [hW0]; simp
  have q5 : W0.cell? ⟨w.heap.size + 1, 2, none⟩ = some (.slice ar2 raws2.length cr2) := by rw [hW0]; simp
  rw [← hW0] at hb0
  have HN : Hid (Names w a0 a1 a2 tt q wr pg pl ex ta) := hN
  have hsure := sure_any W0 a0 a1 a2 tt q wr pg pl ex ta (hN.below hb0)
  have HTA : Hid (∀ W, Below w.heap.size w W → Calls Tryz.prog 9 #[.agg #[.string rn, .slice at_ ns.length ct, .slice ar raws.length cr], .string aName, .int .i64 ((200 : Nat) : Int)] W fun e w' => ∃ ts rs tya tyc ra rc ys, e = .returned (.agg #[.string aName, .slice tya ts.length tyc, .slice ra rs.length rc]) ∧ TabRight w' aName tya ra rc ts ys rs ∧ Below W.heap.size W w') := fun W hb => table_right rn aName at_ ar ct cr ns xs raws W hn hrr hin (hx.below hb) (hy.below hb) (by decide)
  have HTB : Hid (∀ W, Below w.heap.size w W → Calls Tryz.prog 9 #[.agg #[.string rn2, .slice at2 ns2.length ct2, .slice ar2 raws2.length cr2], .string bName, .int .i64 ((200 : Nat) : Int)] W fun e w' => ∃ ts rs tya tyc ra rc ys, e = .returned (.agg #[.string bName, .slice tya ts.length tyc, .slice ra rs.length rc]) ∧ TabRight w' bName tya ra rc ts ys rs ∧ Below W.heap.size W w') := fun W hb => table_right rn2 bName at2 ar2 ct2 cr2 ns2 xs2 raws2 W hn2 hrr2 hin2 (hx2.below hb) (hy2.below hb) (by decide)
  have HP0 : Hid (inI64 p0) := hp0
  have HK0 : Hid (inI64 k0) := hk0
  have HX0 : Hid (inI64 x0) := hx0
  clear hN hn hrr hin hx hy hn2 hrr2 hin2 hx2 hy2 hp0 hk0 hx0
  go_enter Tryz.func5, Tryz.ntmps5
  go_wp2_with (first | (go_at_call 8; rw [← hW0]; refine hsure.mono ?_; rintro e W1 ⟨rfl, hb1⟩; have hb2 := below_then hb0 hb1; have d0 := cell_below hb1 q0; have d1 := cell_below hb1 q1; have d2 := cell_below hb1 q2; have d3 := cell_below hb1 q3; have d4 := cell_below hb1 q4; have d5 := cell_below hb1 q5))
  refine (HTA.out W1 hb2).mono ?_
  rintro e W2 ⟨tsA, rsA, tyA, tycA, raA, rcA, ysA, rfl, hRA, hb3⟩
  have HRA2 : Hid (TabRight W2 aName tyA raA rcA tsA ysA rsA) := hRA
  have hb4 := below_then hb2 hb3
  have hb5 : Below W2.heap.size W2 (W2.alloc (.cells #[.string aName, .slice tyA tsA.length tycA, .slice raA rsA.length rcA] 26)) := (Below.refl _ _).alloc (Nat.le_refl _) _
  have g3 := cell_below hb5 (cell_below hb3 d3)
  have g4 := cell_below hb5 (cell_below hb3 d4)
  have g5 := cell_below hb5 (cell_below hb3 d5)
  have hb6 := below_then hb4 hb5
  clear hRA hsure d0 d1 d2 d3 d4 d5 q0 q1 q2 q3 q4 q5 hW0 HTA
  go_wp2_with fail
  refine (HTB.out _ hb6).mono ?_
  rintro e W4 ⟨tsB, rsB, tyB, tycB, raB, rcB, ysB, rfl, hRB, hb7⟩
  have hb8 : Below W4.heap.size W4 (W4.alloc (.cells #[.string bName, .slice tyB tsB.length tycB, .slice raB rsB.length rcB] 26)) := (Below.refl _ _).alloc (Nat.le_refl _) _
  have hb9 := below_then hb7 hb8
  have hbW := below_then hb6 hb9
  have hA3 : (W4.alloc (.cells #[.string bName, .slice tyB tsB.length tycB, .slice raB rsB.length rcB] 26)).heap[W2.heap.size]? = some (.cells #[.string aName, .slice tyA tsA.length tycA, .slice raA rsA.length rcA] 26 (0, 0)) := (hb9.block _ (by simp)).trans (heap_alloc_new _ _)
  have hB3 : (W4.alloc (.cells #[.string bName, .slice tyB tsB.length tycB, .slice raB rsB.length rcB] 26)).heap[W4.heap.size]? = some (.cells #[.string bName, .slice tyB tsB.length tycB, .slice raB rsB.length rcB] 26 (0, 0)) := heap_alloc_new _ _
  have HRA : Hid (TabRight (W4.alloc (.cells #[.string bName, .slice tyB tsB.length tycB, .slice raB rsB.length rcB] 26)) aName tyA raA rcA tsA ysA rsA) := HRA2.out.below (below_then hb5 hb9)
  have HRB : Hid (TabRight (W4.alloc (.cells #[.string bName, .slice tyB tsB.length tycB, .slice raB rsB.length rcB] 26)) bName tyB raB rcB tsB ysB rsB) := hRB.below hb8
  clear hRB HRA2 HTB g3 g4 g5
  go_wp2_with (first | (go_at_call 12; refine (room_any _).mono ?_; rintro e X4 ⟨rfl, hx4⟩) | (go_at_call 21; refine (New_any _ _ _).mono ?_; rintro e X5 ⟨hx5, st, M, rfl, hsto, hM⟩))
  generalize hW3 : W4.alloc (.cells #[.string bName, .slice tyB tsB.length tycB, .slice raB rsB.length rcB] 26) = W3 at *
  have hbX := below_then hx4 hx5
  have HN3 : Hid (Names W3 a0 a1 a2 tt q wr pg pl ex ta) := HN.out.below hbW
  have HB0 : Hid (Below w.heap.size w W3) := hbW
  have z4 := hx4.size
  have HM : Hid (∀ k, M k → W3.heap.size ≤ k) := fun k hk => Nat.le_trans z4 (hM k hk)
  have HST : Hid (Sto M X5 st (emptyDS 1048576 0) []) := hsto
  have HBW : Hid (Below W3.heap.size W3 X5) := hbX
  have HW3 : Hid (W3.heap.size ≤ X5.heap.size) := hbX.size
  have tA0 : W3.cell? ⟨W2.heap.size, 0, none⟩ = some (.string aName) := by simp [World.cell?, hA3]
  have tA1 : W3.cell? ⟨W2.heap.size, 1, none⟩ = some (.slice tyA tsA.length tycA) := by simp [World.cell?, hA3]
  have tA2 : W3.cell? ⟨W2.heap.size, 2, none⟩ = some (.slice raA rsA.length rcA) := by simp [World.cell?, hA3]
  have tB0 : W3.cell? ⟨W4.heap.size, 0, none⟩ = some (.string bName) := by simp [World.cell?, hB3]
  have tB1 : W3.cell? ⟨W4.heap.size, 1, none⟩ = some (.slice tyB tsB.length tycB) := by simp [World.cell?, hB3]
  have tB2 : W3.cell? ⟨W4.heap.size, 2, none⟩ = some (.slice raB rsB.length rcB) := by simp [World.cell?, hB3]
  have HLA : Hid (W2.heap.size < W3.heap.size) := lt_of_heap hA3
  have HLB : Hid (W4.heap.size < W3.heap.size) := lt_of_heap hB3
  have e0 := cell_below hbX tA0
  have e1 := cell_below hbX tA1
  have e2 := cell_below hbX tA2
  clear hsto hM hx4 hx5 z4 hb0 hb1 hb2 hb3 hb4 hb5 hb6 hb7 hb8 hb9 hbW hA3 hB3 HN hbX hW3
  generalize W2.heap.size = tA at *
  generalize W4.heap.size = tB at *
  have HPK : Hid (∀ W, Calls Tryz.prog 15 #[.int .i64 p0, .int .i64 ((9 : Nat) : Int)] W fun e w' => (∃ r : Nat, e = .returned (.int .i64 r) ∧ r < 9) ∧ w' = W) := fun W => pick_any p0 9 W HP0.out (by decide) (by decide)
  have HHW : Hid (∀ X, Below X5.heap.size X5 X → Calls Tryz.prog 10 #[.agg #[.string aName, .slice tyA tsA.length tycA, .slice raA rsA.length rcA], .slice none 0 0] X fun e X' => Below X.heap.size X X' ∧ ∃ (ah : Option Addr) (ch : Nat) (hs : List Int), e = .returned (.slice ah hs.length ch) ∧ Ints X' ah hs ∧ HowsI tsA [] hs tsA.length) := fun X hX => hows_right HRA.out (below_then HBW.out hX)
  have HLD : Hid (∀ X ah ch hs (r : Nat), Below X5.heap.size X5 X → Ints X ah hs → HowsI tsA [] hs tsA.length → r < 9 → Calls Tryz.prog 14 #[.pointer (some ⟨st, 0, none⟩), .agg #[.string aName, .slice tyA tsA.length tycA, .slice raA rsA.length rcA], .slice ah hs.length ch, .int .i64 (1 + (r : Int))] X fun e X' => e = .returned (fault 0) ∧ Keep M X X' ∧ SurePost M X st (emptyDS 1048576 0) [] aName tsA hs rsA (1 + (r : Int)) X') := fun X ah ch hs r hX hI hH hr =>
    load_sure M st (emptyDS 1048576 0) [] aName tyA raA ah tycA rcA ch tsA hs ysA rsA (1 + (r : Int)) X (HST.out.below hX) (Stand.empty 1048576 0) (HRA.out.below (below_then HBW.out hX)) hI hH (by omega) rfl (by decide) rfl rfl (by simp [emptyDS]) (by simp [emptyDS]) (fun b o hb hm => by
      have h1 := HM.out b hm
      rcases HRA.out.types with h0 | ⟨b2, o2, hb3, hlt, _⟩
      · have := HRA.out.tab.2.1.1.1; simp at h0; rw [h0] at this; simp at this
      · rw [hb] at hb3; simp at hb3; try omega) a0 a1 a2 tt q wr pg pl ex ta W3 HN3.out (below_then HBW.out hX) HM.out
  have HFS : Hid (∀ f ∈ ([] : List Nat), FaultIs X5 f 0 (-1) ∧ ¬ M f) := fun f hf => by simp at hf
  have HTL : Hid (tA < W3.heap.size) := HLA.out
  go_cut [17] from 49 (fun f wx => ∃ fa : Nat, f = .pointer (some ⟨fa, 0, none⟩) ∧ SpMid W3 st (emptyDS 1048576 0) [] aName tsA rsA [] fa wx)
  case first =>
    refine wp_region_held_drew (S := fun X => X.cell? ⟨tA, 0, none⟩ = some (.string aName) ∧ X.cell? ⟨tA, 1, none⟩ = some (.slice tyA tsA.length tycA) ∧ X.cell? ⟨tA, 2, none⟩ = some (.slice raA rsA.length rcA)) (by kernel_rfl) ⟨e0, e1, e2⟩ (fun hH => ?_)
    have hcd0 : Below X5.heap.size X5 X5.drew := ⟨rfl, rfl, rfl, Nat.le_refl _, fun _ _ => rfl⟩
    refine wpAnyH_take (i := 0) (v := ?_) rfl (by kernel_rfl) (by kernel_rfl) (by kernel_rfl) (fun _ _ _ h => h) (Or.inl ⟨by rfl, ?_⟩) hH ?_
    rotate_left 1
    · intro w hSw; (try dsimp only at hSw); go_simp; try rfl
    simp only [Act.put, List.getElem_toArray, List.getElem_cons_zero, List.setIfInBounds_toArray, List.set_cons_zero, List.set_cons_succ]
    refine wpAnyH_take (i := 1) (v := ?_) rfl (by kernel_rfl) (by kernel_rfl) (by kernel_rfl) (fun _ _ _ h => h) (Or.inl ⟨by rfl, ?_⟩) hH ?_
    rotate_left 1
    · intro w hSw; (try dsimp only at hSw); go_simp; try rfl
    simp only [Act.put, List.getElem_toArray, List.getElem_cons_zero, List.getElem_cons_succ, List.setIfInBounds_toArray, List.set_cons_zero, List.set_cons_succ]
    refine wpAnyH_take (i := 2) (v := ?_) rfl (by kernel_rfl) (by kernel_rfl) (by kernel_rfl) (fun _ _ _ h => h) (Or.inl ⟨by rfl, ?_⟩) hH ?_
    rotate_left 1
    · intro w hSw; (try dsimp only at hSw); go_simp; try rfl
    simp only [Act.put, List.getElem_toArray, List.getElem_cons_zero, List.getElem_cons_succ, List.setIfInBounds_toArray, List.set_cons_zero, List.set_cons_succ]
    refine wpAnyH_take (i := 4) (v := ?_) rfl (by kernel_rfl) (by kernel_rfl) (by kernel_rfl) (fun _ _ _ h => h) (Or.inl ⟨by rfl, ?_⟩) hH ?_
    rotate_left 1
    · intro w hSw; (try dsimp only at hSw); go_simp; try rfl
    simp only [Act.put, List.getElem_toArray, List.getElem_cons_zero, List.getElem_cons_succ, List.setIfInBounds_toArray, List.set_cons_zero, List.set_cons_succ]
    refine wpAnyH_ready (rs := [3, 8]) (by kernel_rfl) (by simp) (AllReadyH.cons rfl (fun K hK => ?_) (AllReadyH.cons rfl (fun K hK => ?_) AllReadyH.nil))
    · go_simp
      refine (HHW.out X5.drew hcd0).mono ?_
      rintro e X1 ⟨hx1, ah, ch, hs, rfl, hIh, hHI⟩
      have hc1 : Below X5.heap.size X5 X1 := below_then hcd0 hx1
      have HIH : Hid (Ints X1 ah hs) := hIh
      have HHI : Hid (HowsI tsA [] hs tsA.length) := hHI
      clear hIh hHI
      go_simp
      refine hK.out _ _ ⟨cell_below hx1 hH.1, cell_below hx1 hH.2.1, cell_below hx1 hH.2.2⟩ (fun hH => ?_)
      clear hK K
      refine wpAnyH_ready (rs := [5, 8]) (by kernel_rfl) (by simp) (AllReadyH.cons rfl (fun K hK => ?_) (AllReadyH.cons rfl (fun K hK => ?_) AllReadyH.nil))
      · go_simp
        refine (HPK.out _).mono ?_
        rintro e X7 ⟨⟨r, rfl, hr⟩, hX7⟩
        subst hX7
        have hwr : IntKind.i64.wrap (1 + (r : Int)) = 1 + (r : Int) := by rw [IntKind.wrap_i64]; omega
        go_simp
        refine hK.out _ _ hH (fun hH => ?_)
        clear hK K
        refine wpAnyH_take (i := 6) (v := ?_) rfl (by kernel_rfl) (by kernel_rfl) (by kernel_rfl) (fun _ _ _ h => h) (Or.inl ⟨by rfl, ?_⟩) hH ?_
        rotate_left 1
        · intro w hSw; (try dsimp only at hSw); go_simp; try rfl
        simp only [Act.put, List.getElem_toArray, List.getElem_cons_zero, List.getElem_cons_succ, List.setIfInBounds_toArray, List.set_cons_zero, List.set_cons_succ]
        refine wpAnyH_ready (rs := [7, 8]) (by kernel_rfl) (by simp) (AllReadyH.cons rfl (fun K hK => ?_) (AllReadyH.cons rfl (fun K hK => ?_) AllReadyH.nil))
        · go_simp
          refine (HLD.out X7 ah ch hs r hc1 HIH.out HHI.out hr).mono ?_
          rintro e X8 ⟨rfl, hkL, hpo⟩
          have HPO : Hid (SurePost M X7 st (emptyDS 1048576 0) [] aName tsA hs rsA (1 + (r : Int)) X8) := hpo
          clear hpo
          have hcL := hc1
          have hnb : ¬ M tA := fun hm => by have h1 := HM.out _ hm; have h2 := HTL.out; omega
          go_simp
          refine hK.out _ _ ⟨hkL.cell hH.1 hnb, hkL.cell hH.2.1 hnb, hkL.cell hH.2.2 hnb⟩ (fun hH => ?_)
          clear hK K
          refine wpAnyH_ready (rs := [8]) (by kernel_rfl) (by simp) (AllReadyH.cons rfl (fun K hK => ?_) AllReadyH.nil)
          go_simp
          have hby : Below X8.heap.size X8 (X8.alloc zeroFault) := (Below.refl _ X8).alloc (Nat.le_refl _) zeroFault
          have hfy : (X8.alloc zeroFault).heap[X8.heap.size]? = some (.cells #[.int .i64 0, .int .i64 0, .int .i64 0, .int .i64 0, .int .i64 0] 43 (0, 0)) := heap_alloc_new X8 zeroFault
          refine hK.out _ _ ⟨cell_below hby hH.1, cell_below hby hH.2.1, cell_below hby hH.2.2⟩ (fun hH => ?_)
          clear hK K
          obtain ⟨Y0, hY0⟩ : ∃ Y, Y = X8.alloc zeroFault := ⟨_, rfl⟩
          rw [← hY0] at hby hfy hH ⊢
          clear hY0
          have hfz : Y0.heap[X8.heap.size]? = some (.cells #[.int .i64 0, .int .i64 0, .int .i64 0, .int .i64 0, .int .i64 0] 43 (0, 0)) := hfy
          have k0 : Y0.cell? ⟨X8.heap.size, 0, none⟩ = some (.int .i64 0) := by simp [World.cell?, hfz]
          have k1 : Y0.cell? ⟨X8.heap.size, 1, none⟩ = some (.int .i64 0) := by simp [World.cell?, hfz]
          have k2 : Y0.cell? ⟨X8.heap.size, 2, none⟩ = some (.int .i64 0) := by simp [World.cell?, hfz]
          have k3 : Y0.cell? ⟨X8.heap.size, 3, none⟩ = some (.int .i64 0) := by simp [World.cell?, hfz]
          have k4 : Y0.cell? ⟨X8.heap.size, 4, none⟩ = some (.int .i64 0) := by simp [World.cell?, hfz]
          have fz : ∀ o : Nat, Y0.frozen? ⟨X8.heap.size, o, none⟩ = false := fun o => by simp [World.frozen?, hfz]
          have fr0 := fz 0
          have fr1 := fz 1
          have fr2 := fz 2
          have fr3 := fz 3
          have fr4 := fz 4
          have hk5 := heap_set (heap_set (heap_set (heap_set (heap_set hfz 0 (.int .i64 0)) 1 (.int .i64 (-1))) 2 (.int .i64 (-1))) 3 (.int .i64 (-1))) 4 (.int .i64 (-1))
          simp only [List.setIfInBounds_toArray, List.set_cons_zero, List.set_cons_succ] at hk5
          have zcl := hcL.size
          have zkl := hkL.size
          have hcs : ∀ o : Nat, (((((Y0.setCell ⟨X8.heap.size, 0, none⟩ (.int .i64 0)).setCell ⟨X8.heap.size, 1, none⟩ (.int .i64 (-1))).setCell ⟨X8.heap.size, 2, none⟩ (.int .i64 (-1))).setCell ⟨X8.heap.size, 3, none⟩ (.int .i64 (-1))).setCell ⟨X8.heap.size, 4, none⟩ (.int .i64 (-1))).cell? ⟨tA, o, none⟩ = Y0.cell? ⟨tA, o, none⟩ := fun o => World.cell?_of_block (set5_other _ _ _ _ _ _ _ _ (by show tA ≠ X8.heap.size; have h1 := HTL.out; have h2 := HW3.out; omega))
          have HFIN : Hid (SpMid W3 st (emptyDS 1048576 0) [] aName tsA rsA [] (X8.heap.size) (((((Y0.setCell ⟨X8.heap.size, 0, none⟩ (.int .i64 0)).setCell ⟨X8.heap.size, 1, none⟩ (.int .i64 (-1))).setCell ⟨X8.heap.size, 2, none⟩ (.int .i64 (-1))).setCell ⟨X8.heap.size, 3, none⟩ (.int .i64 (-1))).setCell ⟨X8.heap.size, 4, none⟩ (.int .i64 (-1)))) := sp_mid HPO.out hkL HM.out (below_then HBW.out hcL) (by rw [set5_size]; exact hby.size) hby.os hby.tape hby.output (fun k hk hne => (set5_other _ _ _ _ _ _ _ k hne).trans (hby.block k hk)) (fun hm => by have h1 := HST.out.lt _ hm; omega) (.inr (Nat.le_refl _)) (by have h2 := HW3.out; omega) hk5 (fun f hf => ⟨(HFS.out f hf).1.below hcL, (HFS.out f hf).2, by have h1 := (HFS.out f hf).1.lt; omega⟩)
          clear fz hfz hk5
          refine wpAnyH_ready (rs := [9]) (by kernel_rfl) (by simp) (AllReadyH.cons rfl (fun K hK => ?_) AllReadyH.nil)
          go_simp
          refine hK.out _ _ ⟨(hcs 0).trans hH.1, (hcs 1).trans hH.2.1, (hcs 2).trans hH.2.2⟩ (fun hH => ?_)
          clear hK K hcs k0 k1 k2 k3 k4 fr0 fr1 fr2 fr3 fr4
          refine wpAnyH_done (by kernel_rfl) ?_ _
          go_wp2_with fail
          go_meet
          case rel => exact ⟨X8.heap.size, rfl, HFIN.out⟩
        · go_simp
          have hby : Below X7.heap.size X7 (X7.alloc zeroFault) := (Below.refl _ X7).alloc (Nat.le_refl _) zeroFault
          have hfy : (X7.alloc zeroFault).heap[X7.heap.size]? = some (.cells #[.int .i64 0, .int .i64 0, .int .i64 0, .int .i64 0, .int .i64 0] 43 (0, 0)) := heap_alloc_new X7 zeroFault
          refine hK.out _ _ ⟨cell_below hby hH.1, cell_below hby hH.2.1, cell_below hby hH.2.2⟩ (fun hH => ?_)
          clear hK K
          obtain ⟨Y1, hY1⟩ : ∃ Y, Y = X7.alloc zeroFault := ⟨_, rfl⟩
          rw [← hY1] at hby hfy hH ⊢
          clear hY1
          have hcy : Below X5.heap.size X5 Y1 := below_then hc1 hby
          have hfc : Y1.heap[X7.heap.size]? = some (.cells #[.int .i64 0, .int .i64 0, .int .i64 0, .int .i64 0, .int .i64 0] 43 (0, 0)) := hfy
          have HFA : Hid (X5.heap.size ≤ X7.heap.size) := (hc1).size
          have HIH : Hid (Ints Y1 ah hs) := HIH.out.below hby
          refine wpAnyH_ready (rs := [7]) (by kernel_rfl) (by simp) (AllReadyH.cons rfl (fun K hK => ?_) AllReadyH.nil)
          go_simp
          refine (HLD.out Y1 ah ch hs r hcy HIH.out HHI.out hr).mono ?_
          rintro e X8 ⟨rfl, hkL, hpo⟩
          have HPO : Hid (SurePost M Y1 st (emptyDS 1048576 0) [] aName tsA hs rsA (1 + (r : Int)) X8) := hpo
          clear hpo
          have hcL := hcy
          have hnb : ¬ M tA := fun hm => by have h1 := HM.out _ hm; have h2 := HTL.out; omega
          have HFL : Hid (X7.heap.size < Y1.heap.size ∧ X5.heap.size ≤ X7.heap.size) := ⟨lt_of_heap hfc, HFA.out⟩
          have nfa : ¬ M X7.heap.size := fun hm => by have h1 := HST.out.lt _ hm; have h2 := HFA.out; omega
          have hfz : X8.heap[X7.heap.size]? = some (.cells #[.int .i64 0, .int .i64 0, .int .i64 0, .int .i64 0, .int .i64 0] 43 (0, 0)) := (hkL.block _ (lt_of_heap hfc) nfa).trans hfc
          go_simp
          refine hK.out _ _ ⟨hkL.cell hH.1 hnb, hkL.cell hH.2.1 hnb, hkL.cell hH.2.2 hnb⟩ (fun hH => ?_)
          clear hK K
          have k0 : X8.cell? ⟨X7.heap.size, 0, none⟩ = some (.int .i64 0) := by simp [World.cell?, hfz]
          have k1 : X8.cell? ⟨X7.heap.size, 1, none⟩ = some (.int .i64 0) := by simp [World.cell?, hfz]
          have k2 : X8.cell? ⟨X7.heap.size, 2, none⟩ = some (.int .i64 0) := by simp [World.cell?, hfz]
          have k3 : X8.cell? ⟨X7.heap.size, 3, none⟩ = some (.int .i64 0) := by simp [World.cell?, hfz]
          have k4 : X8.cell? ⟨X7.heap.size, 4, none⟩ = some (.int .i64 0) := by simp [World.cell?, hfz]
          have fz : ∀ o : Nat, X8.frozen? ⟨X7.heap.size, o, none⟩ = false := fun o => by simp [World.frozen?, hfz]
          have fr0 := fz 0
          have fr1 := fz 1
          have fr2 := fz 2
          have fr3 := fz 3
          have fr4 := fz 4
          have hk5 := heap_set (heap_set (heap_set (heap_set (heap_set hfz 0 (.int .i64 0)) 1 (.int .i64 (-1))) 2 (.int .i64 (-1))) 3 (.int .i64 (-1))) 4 (.int .i64 (-1))
          simp only [List.setIfInBounds_toArray, List.set_cons_zero, List.set_cons_succ] at hk5
          have zcl := hcL.size
          have zkl := hkL.size
          have hcs : ∀ o : Nat, (((((X8.setCell ⟨X7.heap.size, 0, none⟩ (.int .i64 0)).setCell ⟨X7.heap.size, 1, none⟩ (.int .i64 (-1))).setCell ⟨X7.heap.size, 2, none⟩ (.int .i64 (-1))).setCell ⟨X7.heap.size, 3, none⟩ (.int .i64 (-1))).setCell ⟨X7.heap.size, 4, none⟩ (.int .i64 (-1))).cell? ⟨tA, o, none⟩ = X8.cell? ⟨tA, o, none⟩ := fun o => World.cell?_of_block (set5_other _ _ _ _ _ _ _ _ (by show tA ≠ X7.heap.size; have h1 := HTL.out; have h2 := HW3.out; have h3 := HFL.out; omega))
          have HFIN : Hid (SpMid W3 st (emptyDS 1048576 0) [] aName tsA rsA [] (X7.heap.size) (((((X8.setCell ⟨X7.heap.size, 0, none⟩ (.int .i64 0)).setCell ⟨X7.heap.size, 1, none⟩ (.int .i64 (-1))).setCell ⟨X7.heap.size, 2, none⟩ (.int .i64 (-1))).setCell ⟨X7.heap.size, 3, none⟩ (.int .i64 (-1))).setCell ⟨X7.heap.size, 4, none⟩ (.int .i64 (-1)))) := sp_mid HPO.out hkL HM.out (below_then HBW.out hcL) (by rw [set5_size]; exact Nat.le_refl _) rfl rfl rfl (fun k hk hne => set5_other _ _ _ _ _ _ _ k hne) nfa (.inl (by have h1 := HFL.out; omega)) (by have h1 := HFL.out; have h2 := HW3.out; omega) hk5 (fun f hf => ⟨(HFS.out f hf).1.below hcL, (HFS.out f hf).2, by have h1 := (HFS.out f hf).1.lt; have h2 := HFL.out; omega⟩)
          clear fz hfz hk5
          refine wpAnyH_ready (rs := [9]) (by kernel_rfl) (by simp) (AllReadyH.cons rfl (fun K hK => ?_) AllReadyH.nil)
          go_simp
          refine hK.out _ _ ⟨(hcs 0).trans hH.1, (hcs 1).trans hH.2.1, (hcs 2).trans hH.2.2⟩ (fun hH => ?_)
          clear hK K hcs k0 k1 k2 k3 k4 fr0 fr1 fr2 fr3 fr4
          refine wpAnyH_done (by kernel_rfl) ?_ _
          go_wp2_with fail
          go_meet
          case rel => exact ⟨X7.heap.size, rfl, HFIN.out⟩
      · go_simp
        have hby : Below X1.heap.size X1 (X1.alloc zeroFault) := (Below.refl _ X1).alloc (Nat.le_refl _) zeroFault
        have hfy : (X1.alloc zeroFault).heap[X1.heap.size]? = some (.cells #[.int .i64 0, .int .i64 0, .int .i64 0, .int .i64 0, .int .i64 0] 43 (0, 0)) := heap_alloc_new X1 zeroFault
        refine hK.out _ _ ⟨cell_below hby hH.1, cell_below hby hH.2.1, cell_below hby hH.2.2⟩ (fun hH => ?_)
        clear hK K
        obtain ⟨Y2, hY2⟩ : ∃ Y, Y = X1.alloc zeroFault := ⟨_, rfl⟩
        rw [← hY2] at hby hfy hH ⊢
        clear hY2
        have hcy : Below X5.heap.size X5 Y2 := below_then hc1 hby
        have hfc : Y2.heap[X1.heap.size]? = some (.cells #[.int .i64 0, .int .i64 0, .int .i64 0, .int .i64 0, .int .i64 0] 43 (0, 0)) := hfy
        have HFA : Hid (X5.heap.size ≤ X1.heap.size) := (hc1).size
        have HIH : Hid (Ints Y2 ah hs) := HIH.out.below hby
        refine wpAnyH_ready (rs := [5]) (by kernel_rfl) (by simp) (AllReadyH.cons rfl (fun K hK => ?_) AllReadyH.nil)
        go_simp
        refine (HPK.out _).mono ?_
        rintro e X7 ⟨⟨r, rfl, hr⟩, hX7⟩
        subst hX7
        have hwr : IntKind.i64.wrap (1 + (r : Int)) = 1 + (r : Int) := by rw [IntKind.wrap_i64]; omega
        go_simp
        refine hK.out _ _ hH (fun hH => ?_)
        clear hK K
        refine wpAnyH_take (i := 6) (v := ?_) rfl (by kernel_rfl) (by kernel_rfl) (by kernel_rfl) (fun _ _ _ h => h) (Or.inl ⟨by rfl, ?_⟩) hH ?_
        rotate_left 1
        · intro w hSw; (try dsimp only at hSw); go_simp; try rfl
        simp only [Act.put, List.getElem_toArray, List.getElem_cons_zero, List.getElem_cons_succ, List.setIfInBounds_toArray, List.set_cons_zero, List.set_cons_succ]
        refine wpAnyH_ready (rs := [7]) (by kernel_rfl) (by simp) (AllReadyH.cons rfl (fun K hK => ?_) AllReadyH.nil)
        go_simp
        refine (HLD.out X7 ah ch hs r hcy HIH.out HHI.out hr).mono ?_
        rintro e X8 ⟨rfl, hkL, hpo⟩
        have HPO : Hid (SurePost M X7 st (emptyDS 1048576 0) [] aName tsA hs rsA (1 + (r : Int)) X8) := hpo
        clear hpo
        have hcL := hcy
        have hnb : ¬ M tA := fun hm => by have h1 := HM.out _ hm; have h2 := HTL.out; omega
        have HFL : Hid (X1.heap.size < X7.heap.size ∧ X5.heap.size ≤ X1.heap.size) := ⟨lt_of_heap hfc, HFA.out⟩
        have nfa : ¬ M X1.heap.size := fun hm => by have h1 := HST.out.lt _ hm; have h2 := HFA.out; omega
        have hfz : X8.heap[X1.heap.size]? = some (.cells #[.int .i64 0, .int .i64 0, .int .i64 0, .int .i64 0, .int .i64 0] 43 (0, 0)) := (hkL.block _ (lt_of_heap hfc) nfa).trans hfc
        go_simp
        refine hK.out _ _ ⟨hkL.cell hH.1 hnb, hkL.cell hH.2.1 hnb, hkL.cell hH.2.2 hnb⟩ (fun hH => ?_)
        clear hK K
        have k0 : X8.cell? ⟨X1.heap.size, 0, none⟩ = some (.int .i64 0) := by simp [World.cell?, hfz]
        have k1 : X8.cell? ⟨X1.heap.size, 1, none⟩ = some (.int .i64 0) := by simp [World.cell?, hfz]
        have k2 : X8.cell? ⟨X1.heap.size, 2, none⟩ = some (.int .i64 0) := by simp [World.cell?, hfz]
        have k3 : X8.cell? ⟨X1.heap.size, 3, none⟩ = some (.int .i64 0) := by simp [World.cell?, hfz]
        have k4 : X8.cell? ⟨X1.heap.size, 4, none⟩ = some (.int .i64 0) := by simp [World.cell?, hfz]
        have fz : ∀ o : Nat, X8.frozen? ⟨X1.heap.size, o, none⟩ = false := fun o => by simp [World.frozen?, hfz]
        have fr0 := fz 0
        have fr1 := fz 1
        have fr2 := fz 2
        have fr3 := fz 3
        have fr4 := fz 4
        have hk5 := heap_set (heap_set (heap_set (heap_set (heap_set hfz 0 (.int .i64 0)) 1 (.int .i64 (-1))) 2 (.int .i64 (-1))) 3 (.int .i64 (-1))) 4 (.int .i64 (-1))
        simp only [List.setIfInBounds_toArray, List.set_cons_zero, List.set_cons_succ] at hk5
        have zcl := hcL.size
        have zkl := hkL.size
        have hcs : ∀ o : Nat, (((((X8.setCell ⟨X1.heap.size, 0, none⟩ (.int .i64 0)).setCell ⟨X1.heap.size, 1, none⟩ (.int .i64 (-1))).setCell ⟨X1.heap.size, 2, none⟩ (.int .i64 (-1))).setCell ⟨X1.heap.size, 3, none⟩ (.int .i64 (-1))).setCell ⟨X1.heap.size, 4, none⟩ (.int .i64 (-1))).cell? ⟨tA, o, none⟩ = X8.cell? ⟨tA, o, none⟩ := fun o => World.cell?_of_block (set5_other _ _ _ _ _ _ _ _ (by show tA ≠ X1.heap.size; have h1 := HTL.out; have h2 := HW3.out; have h3 := HFL.out; omega))
        have HFIN : Hid (SpMid W3 st (emptyDS 1048576 0) [] aName tsA rsA [] (X1.heap.size) (((((X8.setCell ⟨X1.heap.size, 0, none⟩ (.int .i64 0)).setCell ⟨X1.heap.size, 1, none⟩ (.int .i64 (-1))).setCell ⟨X1.heap.size, 2, none⟩ (.int .i64 (-1))).setCell ⟨X1.heap.size, 3, none⟩ (.int .i64 (-1))).setCell ⟨X1.heap.size, 4, none⟩ (.int .i64 (-1)))) := sp_mid HPO.out hkL HM.out (below_then HBW.out hcL) (by rw [set5_size]; exact Nat.le_refl _) rfl rfl rfl (fun k hk hne => set5_other _ _ _ _ _ _ _ k hne) nfa (.inl (by have h1 := HFL.out; omega)) (by have h1 := HFL.out; have h2 := HW3.out; omega) hk5 (fun f hf => ⟨(HFS.out f hf).1.below hcL, (HFS.out f hf).2, by have h1 := (HFS.out f hf).1.lt; have h2 := HFL.out; omega⟩)
        clear fz hfz hk5
        refine wpAnyH_ready (rs := [9]) (by kernel_rfl) (by simp) (AllReadyH.cons rfl (fun K hK => ?_) AllReadyH.nil)
        go_simp
        refine hK.out _ _ ⟨(hcs 0).trans hH.1, (hcs 1).trans hH.2.1, (hcs 2).trans hH.2.2⟩ (fun hH => ?_)
        clear hK K hcs k0 k1 k2 k3 k4 fr0 fr1 fr2 fr3 fr4
        refine wpAnyH_done (by kernel_rfl) ?_ _
        go_wp2_with fail
        go_meet
        case rel => exact ⟨X1.heap.size, rfl, HFIN.out⟩
    · go_simp
      have hby : Below X5.drew.heap.size X5.drew ((X5.alloc zeroFault).drew) := (Below.refl _ X5.drew).alloc (Nat.le_refl _) zeroFault
      have hfy : ((X5.alloc zeroFault).drew).heap[X5.heap.size]? = some (.cells #[.int .i64 0, .int .i64 0, .int .i64 0, .int .i64 0, .int .i64 0] 43 (0, 0)) := heap_alloc_new X5.drew zeroFault
      refine hK.out _ _ ⟨cell_below hby hH.1, cell_below hby hH.2.1, cell_below hby hH.2.2⟩ (fun hH => ?_)
      clear hK K
      obtain ⟨Y3, hY3⟩ : ∃ Y, Y = (X5.alloc zeroFault).drew := ⟨_, rfl⟩
      rw [← hY3] at hby hfy hH ⊢
      clear hY3
      have hcy : Below X5.heap.size X5 Y3 := below_then hcd0 hby
      have hfc : Y3.heap[X5.heap.size]? = some (.cells #[.int .i64 0, .int .i64 0, .int .i64 0, .int .i64 0, .int .i64 0] 43 (0, 0)) := hfy
      have HFA : Hid (X5.heap.size ≤ X5.heap.size) := (hcd0).size
      refine wpAnyH_ready (rs := [3]) (by kernel_rfl) (by simp) (AllReadyH.cons rfl (fun K hK => ?_) AllReadyH.nil)
      go_simp
      refine (HHW.out Y3 hcy).mono ?_
      rintro e X1 ⟨hx1, ah, ch, hs, rfl, hIh, hHI⟩
      have hc1 : Below X5.heap.size X5 X1 := below_then hcy hx1
      have hfc : X1.heap[X5.heap.size]? = some (.cells #[.int .i64 0, .int .i64 0, .int .i64 0, .int .i64 0, .int .i64 0] 43 (0, 0)) := (hx1.block _ (lt_of_heap hfc)).trans hfc
      have HIH : Hid (Ints X1 ah hs) := hIh
      have HHI : Hid (HowsI tsA [] hs tsA.length) := hHI
      clear hIh hHI
      go_simp
      refine hK.out _ _ ⟨cell_below hx1 hH.1, cell_below hx1 hH.2.1, cell_below hx1 hH.2.2⟩ (fun hH => ?_)
      clear hK K
      refine wpAnyH_ready (rs := [5]) (by kernel_rfl) (by simp) (AllReadyH.cons rfl (fun K hK => ?_) AllReadyH.nil)
      go_simp
      refine (HPK.out _).mono ?_
      rintro e X7 ⟨⟨r, rfl, hr⟩, hX7⟩
      subst hX7
      have hwr : IntKind.i64.wrap (1 + (r : Int)) = 1 + (r : Int) := by rw [IntKind.wrap_i64]; omega
      go_simp
      refine hK.out _ _ hH (fun hH => ?_)
      clear hK K
      refine wpAnyH_take (i := 6) (v := ?_) rfl (by kernel_rfl) (by kernel_rfl) (by kernel_rfl) (fun _ _ _ h => h) (Or.inl ⟨by rfl, ?_⟩) hH ?_
      rotate_left 1
      · intro w hSw; (try dsimp only at hSw); go_simp; try rfl
      simp only [Act.put, List.getElem_toArray, List.getElem_cons_zero, List.getElem_cons_succ, List.setIfInBounds_toArray, List.set_cons_zero, List.set_cons_succ]
      refine wpAnyH_ready (rs := [7]) (by kernel_rfl) (by simp) (AllReadyH.cons rfl (fun K hK => ?_) AllReadyH.nil)
      go_simp
      refine (HLD.out X7 ah ch hs r hc1 HIH.out HHI.out hr).mono ?_
      rintro e X8 ⟨rfl, hkL, hpo⟩
      have HPO : Hid (SurePost M X7 st (emptyDS 1048576 0) [] aName tsA hs rsA (1 + (r : Int)) X8) := hpo
      clear hpo
      have hcL := hc1
      have hnb : ¬ M tA := fun hm => by have h1 := HM.out _ hm; have h2 := HTL.out; omega
      have HFL : Hid (X5.heap.size < X7.heap.size ∧ X5.heap.size ≤ X5.heap.size) := ⟨lt_of_heap hfc, HFA.out⟩
      have nfa : ¬ M X5.heap.size := fun hm => by have h1 := HST.out.lt _ hm; have h2 := HFA.out; omega
      have hfz : X8.heap[X5.heap.size]? = some (.cells #[.int .i64 0, .int .i64 0, .int .i64 0, .int .i64 0, .int .i64 0] 43 (0, 0)) := (hkL.block _ (lt_of_heap hfc) nfa).trans hfc
      go_simp
      refine hK.out _ _ ⟨hkL.cell hH.1 hnb, hkL.cell hH.2.1 hnb, hkL.cell hH.2.2 hnb⟩ (fun hH => ?_)
      clear hK K
      have k0 : X8.cell? ⟨X5.heap.size, 0, none⟩ = some (.int .i64 0) := by simp [World.cell?, hfz]
      have k1 : X8.cell? ⟨X5.heap.size, 1, none⟩ = some (.int .i64 0) := by simp [World.cell?, hfz]
      have k2 : X8.cell? ⟨X5.heap.size, 2, none⟩ = some (.int .i64 0) := by simp [World.cell?, hfz]
      have k3 : X8.cell? ⟨X5.heap.size, 3, none⟩ = some (.int .i64 0) := by simp [World.cell?, hfz]
      have k4 : X8.cell? ⟨X5.heap.size, 4, none⟩ = some (.int .i64 0) := by simp [World.cell?, hfz]
      have fz : ∀ o : Nat, X8.frozen? ⟨X5.heap.size, o, none⟩ = false := fun o => by simp [World.frozen?, hfz]
      have fr0 := fz 0
      have fr1 := fz 1
      have fr2 := fz 2
      have fr3 := fz 3
      have fr4 := fz 4
      have hk5 := heap_set (heap_set (heap_set (heap_set (heap_set hfz 0 (.int .i64 0)) 1 (.int .i64 (-1))) 2 (.int .i64 (-1))) 3 (.int .i64 (-1))) 4 (.int .i64 (-1))
      simp only [List.setIfInBounds_toArray, List.set_cons_zero, List.set_cons_succ] at hk5
      have zcl := hcL.size
      have zkl := hkL.size
      have hcs : ∀ o : Nat, (((((X8.setCell ⟨X5.heap.size, 0, none⟩ (.int .i64 0)).setCell ⟨X5.heap.size, 1, none⟩ (.int .i64 (-1))).setCell ⟨X5.heap.size, 2, none⟩ (.int .i64 (-1))).setCell ⟨X5.heap.size, 3, none⟩ (.int .i64 (-1))).setCell ⟨X5.heap.size, 4, none⟩ (.int .i64 (-1))).cell? ⟨tA, o, none⟩ = X8.cell? ⟨tA, o, none⟩ := fun o => World.cell?_of_block (set5_other _ _ _ _ _ _ _ _ (by show tA ≠ X5.heap.size; have h1 := HTL.out; have h2 := HW3.out; have h3 := HFL.out; omega))
      have HFIN : Hid (SpMid W3 st (emptyDS 1048576 0) [] aName tsA rsA [] (X5.heap.size) (((((X8.setCell ⟨X5.heap.size, 0, none⟩ (.int .i64 0)).setCell ⟨X5.heap.size, 1, none⟩ (.int .i64 (-1))).setCell ⟨X5.heap.size, 2, none⟩ (.int .i64 (-1))).setCell ⟨X5.heap.size, 3, none⟩ (.int .i64 (-1))).setCell ⟨X5.heap.size, 4, none⟩ (.int .i64 (-1)))) := sp_mid HPO.out hkL HM.out (below_then HBW.out hcL) (by rw [set5_size]; exact Nat.le_refl _) rfl rfl rfl (fun k hk hne => set5_other _ _ _ _ _ _ _ k hne) nfa (.inl (by have h1 := HFL.out; omega)) (by have h1 := HFL.out; have h2 := HW3.out; omega) hk5 (fun f hf => ⟨(HFS.out f hf).1.below hcL, (HFS.out f hf).2, by have h1 := (HFS.out f hf).1.lt; have h2 := HFL.out; omega⟩)
      clear fz hfz hk5
      refine wpAnyH_ready (rs := [9]) (by kernel_rfl) (by simp) (AllReadyH.cons rfl (fun K hK => ?_) AllReadyH.nil)
      go_simp
      refine hK.out _ _ ⟨(hcs 0).trans hH.1, (hcs 1).trans hH.2.1, (hcs 2).trans hH.2.2⟩ (fun hH => ?_)
      clear hK K hcs k0 k1 k2 k3 k4 fr0 fr1 fr2 fr3 fr4
      refine wpAnyH_done (by kernel_rfl) ?_ _
      go_wp2_with fail
      go_meet
      case rel => exact ⟨X5.heap.size, rfl, HFIN.out⟩
  case rest =>
    obtain ⟨f1, rfl, hF1, hw1, hbm, M1, E1, A, g1, hs1, hr1, hsto1, hst1, hna, hq1, hfl1, hpg1, hwr1, hnf1, hM1, _⟩ := hcut
    obtain ⟨wm, hwm⟩ : ∃ wm, wm = wc := ⟨_, rfl⟩
    subst hwm
    have HR1 : Hid (loadR (emptyDS 1048576 0) [] aName tsA hs1 rsA g1 = .ok E1 A) := hr1
    have HS1 : Hid (Stand E1 [(A, rsA)]) := hst1
    have HNA : Hid (A.name = aName) := hna
    have hrl : rsA.length ≤ 200 := HRA.out.tab.2.2.1
    have HE1 : Hid (E1.quota = 1048576 ∧ E1.fail = 0 ∧ E1.pages.length ≤ 132000 ∧ E1.writes ≤ 132000) := ⟨hq1, hfl1, by simp [emptyDS] at hpg1; omega, by simp [emptyDS] at hwr1; omega⟩
    clear hr1 hst1 hna hq1 hfl1 hpg1 hwr1 hrl HST HM HBW HW3 HFS HTL HPK HHW HLD e0 e1 e2
    go_wp2_with (first | (go_at_call 13; refine (Used_sto M1 st E1 [A] wm hsto1).mono ?_; rintro e X6 ⟨rfl, hX6⟩; subst X6))
    have HM : Hid (∀ k, M1 k → W3.heap.size ≤ k) := hM1
    have HST : Hid (Sto M1 wm st E1 [A]) := hsto1
    have HBW : Hid (Below W3.heap.size W3 wm) := hbm
    have HW3 : Hid (W3.heap.size ≤ wm.heap.size) := hbm.size
    have HF1 : Hid (FaultIs wm f1 0 (-1) ∧ ¬ M1 f1) := ⟨hF1, hnf1⟩
    have e0 := cell_below hbm tB0
    have e1 := cell_below hbm tB1
    have e2 := cell_below hbm tB2
    clear hM1 hsto1 hbm hF1 hnf1
    have hu1 : usedOf E1.pages ≤ E1.pages.length := usedOf_le _
    have HU1 : Hid (usedOf E1.pages ≤ 132000) := Nat.le_trans hu1 HE1.out.2.2.1
    obtain ⟨n1, HN1⟩ : ∃ n1, Hid (usedOf E1.pages = n1) := ⟨_, rfl⟩
    rw [HN1.out]
    clear hu1
    obtain ⟨M, hMM⟩ : ∃ M, M = M1 := ⟨_, rfl⟩
    subst hMM
    have HPK : Hid (∀ W, Calls Tryz.prog 15 #[.int .i64 k0, .int .i64 ((9 : Nat) : Int)] W fun e w' => (∃ r : Nat, e = .returned (.int .i64 r) ∧ r < 9) ∧ w' = W) := fun W => pick_any k0 9 W HK0.out (by decide) (by decide)
    have HHW : Hid (∀ X, Below wm.heap.size wm X → Calls Tryz.prog 10 #[.agg #[.string bName, .slice tyB tsB.length tycB, .slice raB rsB.length rcB], .slice none 0 0] X fun e X' => Below X.heap.size X X' ∧ ∃ (ah : Option Addr) (ch : Nat) (hs : List Int), e = .returned (.slice ah hs.length ch) ∧ Ints X' ah hs ∧ HowsI tsB [] hs tsB.length) := fun X hX => hows_right HRB.out (below_then HBW.out hX)
    have HFN : Hid (findI [A] bName = 1) := by
      show _ = _
      have := HNA.out
      simp [findI, this]
    have HLD : Hid (∀ X ah ch hs (r : Nat), Below wm.heap.size wm X → Ints X ah hs → HowsI tsB [] hs tsB.length → r < 9 → Calls Tryz.prog 14 #[.pointer (some ⟨st, 0, none⟩), .agg #[.string bName, .slice tyB tsB.length tycB, .slice raB rsB.length rcB], .slice ah hs.length ch, .int .i64 (1 + (r : Int))] X fun e X' => e = .returned (fault 0) ∧ Keep M X X' ∧ SurePost M X st E1 [(A, rsA)] bName tsB hs rsB (1 + (r : Int)) X') := fun X ah ch hs r hX hI hH hr =>
      load_sure M st E1 [(A, rsA)] bName tyB raB ah tycB rcB ch tsB hs ysB rsB (1 + (r : Int)) X (HST.out.below hX) HS1.out (HRB.out.below (below_then HBW.out hX)) hI hH (by omega) HFN.out (by simp) HE1.out.1 HE1.out.2.1 (by have := HE1.out.2.2.1; omega) (by have := HE1.out.2.2.2; omega) (fun b o hb hm => by
        have h1 := HM.out b hm
        rcases HRB.out.types with h0 | ⟨b2, o2, hb3, hlt, _⟩
        · have := HRB.out.tab.2.1.1.1; simp at h0; rw [h0] at this; simp at this
        · rw [hb] at hb3; simp at hb3; try omega) a0 a1 a2 tt q wr pg pl ex ta W3 HN3.out (below_then HBW.out hX) HM.out
    have HFS : Hid (∀ f ∈ [f1], FaultIs wm f 0 (-1) ∧ ¬ M f) := fun f hf => by simp at hf; subst hf; exact HF1.out
    have HTL : Hid (tB < W3.heap.size) := HLB.out
    go_cut [19] from 49 (fun f wx => ∃ fa : Nat, f = .pointer (some ⟨fa, 0, none⟩) ∧ SpMid W3 st E1 [(A, rsA)] bName tsB rsB [f1] fa wx)
    case first =>
      refine wp_region_held_drew (S := fun X => X.cell? ⟨tB, 0, none⟩ = some (.string bName) ∧ X.cell? ⟨tB, 1, none⟩ = some (.slice tyB tsB.length tycB) ∧ X.cell? ⟨tB, 2, none⟩ = some (.slice raB rsB.length rcB)) (by kernel_rfl) ⟨e0, e1, e2⟩ (fun hH => ?_)
      have hcd0 : Below wm.heap.size wm wm.drew := ⟨rfl, rfl, rfl, Nat.le_refl _, fun _ _ => rfl⟩
      refine wpAnyH_take (i := 0) (v := ?_) rfl (by kernel_rfl) (by kernel_rfl) (by kernel_rfl) (fun _ _ _ h => h) (Or.inl ⟨by rfl, ?_⟩) hH ?_
      rotate_left 1
      · intro w hSw; (try dsimp only at hSw); go_simp; try rfl
      simp only [Act.put, List.getElem_toArray, List.getElem_cons_zero, List.setIfInBounds_toArray, List.set_cons_zero, List.set_cons_succ]
      refine wpAnyH_take (i := 1) (v := ?_) rfl (by kernel_rfl) (by kernel_rfl) (by kernel_rfl) (fun _ _ _ h => h) (Or.inl ⟨by rfl, ?_⟩) hH ?_
      rotate_left 1
      · intro w hSw; (try dsimp only at hSw); go_simp; try rfl
      simp only [Act.put, List.getElem_toArray, List.getElem_cons_zero, List.getElem_cons_succ, List.setIfInBounds_toArray, List.set_cons_zero, List.set_cons_succ]
      refine wpAnyH_take (i := 2) (v := ?_) rfl (by kernel_rfl) (by kernel_rfl) (by kernel_rfl) (fun _ _ _ h => h) (Or.inl ⟨by rfl, ?_⟩) hH ?_
      rotate_left 1
      · intro w hSw; (try dsimp only at hSw); go_simp; try rfl
      simp only [Act.put, List.getElem_toArray, List.getElem_cons_zero, List.getElem_cons_succ, List.setIfInBounds_toArray, List.set_cons_zero, List.set_cons_succ]
      refine wpAnyH_take (i := 4) (v := ?_) rfl (by kernel_rfl) (by kernel_rfl) (by kernel_rfl) (fun _ _ _ h => h) (Or.inl ⟨by rfl, ?_⟩) hH ?_
      rotate_left 1
      · intro w hSw; (try dsimp only at hSw); go_simp; try rfl
      simp only [Act.put, List.getElem_toArray, List.getElem_cons_zero, List.getElem_cons_succ, List.setIfInBounds_toArray, List.set_cons_zero, List.set_cons_succ]
      refine wpAnyH_ready (rs := [3, 8]) (by kernel_rfl) (by simp) (AllReadyH.cons rfl (fun K hK => ?_) (AllReadyH.cons rfl (fun K hK => ?_) AllReadyH.nil))
      · go_simp
        refine (HHW.out wm.drew hcd0).mono ?_
        rintro e X1 ⟨hx1, ah, ch, hs, rfl, hIh, hHI⟩
        have hc1 : Below wm.heap.size wm X1 := below_then hcd0 hx1
        have HIH : Hid (Ints X1 ah hs) := hIh
        have HHI : Hid (HowsI tsB [] hs tsB.length) := hHI
        clear hIh hHI
        go_simp
        refine hK.out _ _ ⟨cell_below hx1 hH.1, cell_below hx1 hH.2.1, cell_below hx1 hH.2.2⟩ (fun hH => ?_)
        clear hK K
        refine wpAnyH_ready (rs := [5, 8]) (by kernel_rfl) (by simp) (AllReadyH.cons rfl (fun K hK => ?_) (AllReadyH.cons rfl (fun K hK => ?_) AllReadyH.nil))
        · go_simp
          refine (HPK.out _).mono ?_
          rintro e X7 ⟨⟨r, rfl, hr⟩, hX7⟩
          subst hX7
          have hwr : IntKind.i64.wrap (1 + (r : Int)) = 1 + (r : Int) := by rw [IntKind.wrap_i64]; omega
          go_simp
          refine hK.out _ _ hH (fun hH => ?_)
          clear hK K
          refine wpAnyH_take (i := 6) (v := ?_) rfl (by kernel_rfl) (by kernel_rfl) (by kernel_rfl) (fun _ _ _ h => h) (Or.inl ⟨by rfl, ?_⟩) hH ?_
          rotate_left 1
          · intro w hSw; (try dsimp only at hSw); go_simp; try rfl
          simp only [Act.put, List.getElem_toArray, List.getElem_cons_zero, List.getElem_cons_succ, List.setIfInBounds_toArray, List.set_cons_zero, List.set_cons_succ]
          refine wpAnyH_ready (rs := [7, 8]) (by kernel_rfl) (by simp) (AllReadyH.cons rfl (fun K hK => ?_) (AllReadyH.cons rfl (fun K hK => ?_) AllReadyH.nil))
          · go_simp
            refine (HLD.out X7 ah ch hs r hc1 HIH.out HHI.out hr).mono ?_
            rintro e X8 ⟨rfl, hkL, hpo⟩
            have HPO : Hid (SurePost M X7 st E1 [(A, rsA)] bName tsB hs rsB (1 + (r : Int)) X8) := hpo
            clear hpo
            have hcL := hc1
            have hnb : ¬ M tB := fun hm => by have h1 := HM.out _ hm; have h2 := HTL.out; omega
            go_simp
            refine hK.out _ _ ⟨hkL.cell hH.1 hnb, hkL.cell hH.2.1 hnb, hkL.cell hH.2.2 hnb⟩ (fun hH => ?_)
            clear hK K
            refine wpAnyH_ready (rs := [8]) (by kernel_rfl) (by simp) (AllReadyH.cons rfl (fun K hK => ?_) AllReadyH.nil)
            go_simp
            have hby : Below X8.heap.size X8 (X8.alloc zeroFault) := (Below.refl _ X8).alloc (Nat.le_refl _) zeroFault
            have hfy : (X8.alloc zeroFault).heap[X8.heap.size]? = some (.cells #[.int .i64 0, .int .i64 0, .int .i64 0, .int .i64 0, .int .i64 0] 43 (0, 0)) := heap_alloc_new X8 zeroFault
            refine hK.out _ _ ⟨cell_below hby hH.1, cell_below hby hH.2.1, cell_below hby hH.2.2⟩ (fun hH => ?_)
            clear hK K
            obtain ⟨Y0, hY0⟩ : ∃ Y, Y = X8.alloc zeroFault := ⟨_, rfl⟩
            rw [← hY0] at hby hfy hH ⊢
            clear hY0
            have hfz : Y0.heap[X8.heap.size]? = some (.cells #[.int .i64 0, .int .i64 0, .int .i64 0, .int .i64 0, .int .i64 0] 43 (0, 0)) := hfy
            have k0 : Y0.cell? ⟨X8.heap.size, 0, none⟩ = some (.int .i64 0) := by simp [World.cell?, hfz]
            have k1 : Y0.cell? ⟨X8.heap.size, 1, none⟩ = some (.int .i64 0) := by simp [World.cell?, hfz]
            have k2 : Y0.cell? ⟨X8.heap.size, 2, none⟩ = some (.int .i64 0) := by simp [World.cell?, hfz]
            have k3 : Y0.cell? ⟨X8.heap.size, 3, none⟩ = some (.int .i64 0) := by simp [World.cell?, hfz]
            have k4 : Y0.cell? ⟨X8.heap.size, 4, none⟩ = some (.int .i64 0) := by simp [World.cell?, hfz]
            have fz : ∀ o : Nat, Y0.frozen? ⟨X8.heap.size, o, none⟩ = false := fun o => by simp [World.frozen?, hfz]
            have fr0 := fz 0
            have fr1 := fz 1
            have fr2 := fz 2
            have fr3 := fz 3
            have fr4 := fz 4
            have hk5 := heap_set (heap_set (heap_set (heap_set (heap_set hfz 0 (.int .i64 0)) 1 (.int .i64 (-1))) 2 (.int .i64 (-1))) 3 (.int .i64 (-1))) 4 (.int .i64 (-1))
            simp only [List.setIfInBounds_toArray, List.set_cons_zero, List.set_cons_succ] at hk5
            have zcl := hcL.size
            have zkl := hkL.size
            have hcs : ∀ o : Nat, (((((Y0.setCell ⟨X8.heap.size, 0, none⟩ (.int .i64 0)).setCell ⟨X8.heap.size, 1, none⟩ (.int .i64 (-1))).setCell ⟨X8.heap.size, 2, none⟩ (.int .i64 (-1))).setCell ⟨X8.heap.size, 3, none⟩ (.int .i64 (-1))).setCell ⟨X8.heap.size, 4, none⟩ (.int .i64 (-1))).cell? ⟨tB, o, none⟩ = Y0.cell? ⟨tB, o, none⟩ := fun o => World.cell?_of_block (set5_other _ _ _ _ _ _ _ _ (by show tB ≠ X8.heap.size; have h1 := HTL.out; have h2 := HW3.out; omega))
            have HFIN : Hid (SpMid W3 st E1 [(A, rsA)] bName tsB rsB [f1] (X8.heap.size) (((((Y0.setCell ⟨X8.heap.size, 0, none⟩ (.int .i64 0)).setCell ⟨X8.heap.size, 1, none⟩ (.int .i64 (-1))).setCell ⟨X8.heap.size, 2, none⟩ (.int .i64 (-1))).setCell ⟨X8.heap.size, 3, none⟩ (.int .i64 (-1))).setCell ⟨X8.heap.size, 4, none⟩ (.int .i64 (-1)))) := sp_mid HPO.out hkL HM.out (below_then HBW.out hcL) (by rw [set5_size]; exact hby.size) hby.os hby.tape hby.output (fun k hk hne => (set5_other _ _ _ _ _ _ _ k hne).trans (hby.block k hk)) (fun hm => by have h1 := HST.out.lt _ hm; omega) (.inr (Nat.le_refl _)) (by have h2 := HW3.out; omega) hk5 (fun f hf => ⟨(HFS.out f hf).1.below hcL, (HFS.out f hf).2, by have h1 := (HFS.out f hf).1.lt; omega⟩)
            clear fz hfz hk5
            refine wpAnyH_ready (rs := [9]) (by kernel_rfl) (by simp) (AllReadyH.cons rfl (fun K hK => ?_) AllReadyH.nil)
            go_simp
            refine hK.out _ _ ⟨(hcs 0).trans hH.1, (hcs 1).trans hH.2.1, (hcs 2).trans hH.2.2⟩ (fun hH => ?_)
            clear hK K hcs k0 k1 k2 k3 k4 fr0 fr1 fr2 fr3 fr4
            refine wpAnyH_done (by kernel_rfl) ?_ _
            go_wp2_with fail
            go_meet
            case rel => exact ⟨X8.heap.size, rfl, HFIN.out⟩
          · go_simp
            have hby : Below X7.heap.size X7 (X7.alloc zeroFault) := (Below.refl _ X7).alloc (Nat.le_refl _) zeroFault
            have hfy : (X7.alloc zeroFault).heap[X7.heap.size]? = some (.cells #[.int .i64 0, .int .i64 0, .int .i64 0, .int .i64 0, .int .i64 0] 43 (0, 0)) := heap_alloc_new X7 zeroFault
            refine hK.out _ _ ⟨cell_below hby hH.1, cell_below hby hH.2.1, cell_below hby hH.2.2⟩ (fun hH => ?_)
            clear hK K
            obtain ⟨Y1, hY1⟩ : ∃ Y, Y = X7.alloc zeroFault := ⟨_, rfl⟩
            rw [← hY1] at hby hfy hH ⊢
            clear hY1
            have hcy : Below wm.heap.size wm Y1 := below_then hc1 hby
            have hfc : Y1.heap[X7.heap.size]? = some (.cells #[.int .i64 0, .int .i64 0, .int .i64 0, .int .i64 0, .int .i64 0] 43 (0, 0)) := hfy
            have HFA : Hid (wm.heap.size ≤ X7.heap.size) := (hc1).size
            have HIH : Hid (Ints Y1 ah hs) := HIH.out.below hby
            refine wpAnyH_ready (rs := [7]) (by kernel_rfl) (by simp) (AllReadyH.cons rfl (fun K hK => ?_) AllReadyH.nil)
            go_simp
            refine (HLD.out Y1 ah ch hs r hcy HIH.out HHI.out hr).mono ?_
            rintro e X8 ⟨rfl, hkL, hpo⟩
            have HPO : Hid (SurePost M Y1 st E1 [(A, rsA)] bName tsB hs rsB (1 + (r : Int)) X8) := hpo
            clear hpo
            have hcL := hcy
            have hnb : ¬ M tB := fun hm => by have h1 := HM.out _ hm; have h2 := HTL.out; omega
            have HFL : Hid (X7.heap.size < Y1.heap.size ∧ wm.heap.size ≤ X7.heap.size) := ⟨lt_of_heap hfc, HFA.out⟩
            have nfa : ¬ M X7.heap.size := fun hm => by have h1 := HST.out.lt _ hm; have h2 := HFA.out; omega
            have hfz : X8.heap[X7.heap.size]? = some (.cells #[.int .i64 0, .int .i64 0, .int .i64 0, .int .i64 0, .int .i64 0] 43 (0, 0)) := (hkL.block _ (lt_of_heap hfc) nfa).trans hfc
            go_simp
            refine hK.out _ _ ⟨hkL.cell hH.1 hnb, hkL.cell hH.2.1 hnb, hkL.cell hH.2.2 hnb⟩ (fun hH => ?_)
            clear hK K
            have k0 : X8.cell? ⟨X7.heap.size, 0, none⟩ = some (.int .i64 0) := by simp [World.cell?, hfz]
            have k1 : X8.cell? ⟨X7.heap.size, 1, none⟩ = some (.int .i64 0) := by simp [World.cell?, hfz]
            have k2 : X8.cell? ⟨X7.heap.size, 2, none⟩ = some (.int .i64 0) := by simp [World.cell?, hfz]
            have k3 : X8.cell? ⟨X7.heap.size, 3, none⟩ = some (.int .i64 0) := by simp [World.cell?, hfz]
            have k4 : X8.cell? ⟨X7.heap.size, 4, none⟩ = some (.int .i64 0) := by simp [World.cell?, hfz]
            have fz : ∀ o : Nat, X8.frozen? ⟨X7.heap.size, o, none⟩ = false := fun o => by simp [World.frozen?, hfz]
            have fr0 := fz 0
            have fr1 := fz 1
            have fr2 := fz 2
            have fr3 := fz 3
            have fr4 := fz 4
            have hk5 := heap_set (heap_set (heap_set (heap_set (heap_set hfz 0 (.int .i64 0)) 1 (.int .i64 (-1))) 2 (.int .i64 (-1))) 3 (.int .i64 (-1))) 4 (.int .i64 (-1))
            simp only [List.setIfInBounds_toArray, List.set_cons_zero, List.set_cons_succ] at hk5
            have zcl := hcL.size
            have zkl := hkL.size
            have hcs : ∀ o : Nat, (((((X8.setCell ⟨X7.heap.size, 0, none⟩ (.int .i64 0)).setCell ⟨X7.heap.size, 1, none⟩ (.int .i64 (-1))).setCell ⟨X7.heap.size, 2, none⟩ (.int .i64 (-1))).setCell ⟨X7.heap.size, 3, none⟩ (.int .i64 (-1))).setCell ⟨X7.heap.size, 4, none⟩ (.int .i64 (-1))).cell? ⟨tB, o, none⟩ = X8.cell? ⟨tB, o, none⟩ := fun o => World.cell?_of_block (set5_other _ _ _ _ _ _ _ _ (by show tB ≠ X7.heap.size; have h1 := HTL.out; have h2 := HW3.out; have h3 := HFL.out; omega))
            have HFIN : Hid (SpMid W3 st E1 [(A, rsA)] bName tsB rsB [f1] (X7.heap.size) (((((X8.setCell ⟨X7.heap.size, 0, none⟩ (.int .i64 0)).setCell ⟨X7.heap.size, 1, none⟩ (.int .i64 (-1))).setCell ⟨X7.heap.size, 2, none⟩ (.int .i64 (-1))).setCell ⟨X7.heap.size, 3, none⟩ (.int .i64 (-1))).setCell ⟨X7.heap.size, 4, none⟩ (.int .i64 (-1)))) := sp_mid HPO.out hkL HM.out (below_then HBW.out hcL) (by rw [set5_size]; exact Nat.le_refl _) rfl rfl rfl (fun k hk hne => set5_other _ _ _ _ _ _ _ k hne) nfa (.inl (by have h1 := HFL.out; omega)) (by have h1 := HFL.out; have h2 := HW3.out; omega) hk5 (fun f hf => ⟨(HFS.out f hf).1.below hcL, (HFS.out f hf).2, by have h1 := (HFS.out f hf).1.lt; have h2 := HFL.out; omega⟩)
            clear fz hfz hk5
            refine wpAnyH_ready (rs := [9]) (by kernel_rfl) (by simp) (AllReadyH.cons rfl (fun K hK => ?_) AllReadyH.nil)
            go_simp
            refine hK.out _ _ ⟨(hcs 0).trans hH.1, (hcs 1).trans hH.2.1, (hcs 2).trans hH.2.2⟩ (fun hH => ?_)
            clear hK K hcs k0 k1 k2 k3 k4 fr0 fr1 fr2 fr3 fr4
            refine wpAnyH_done (by kernel_rfl) ?_ _
            go_wp2_with fail
            go_meet
            case rel => exact ⟨X7.heap.size, rfl, HFIN.out⟩
        · go_simp
          have hby : Below X1.heap.size X1 (X1.alloc zeroFault) := (Below.refl _ X1).alloc (Nat.le_refl _) zeroFault
          have hfy : (X1.alloc zeroFault).heap[X1.heap.size]? = some (.cells #[.int .i64 0, .int .i64 0, .int .i64 0, .int .i64 0, .int .i64 0] 43 (0, 0)) := heap_alloc_new X1 zeroFault
          refine hK.out _ _ ⟨cell_below hby hH.1, cell_below hby hH.2.1, cell_below hby hH.2.2⟩ (fun hH => ?_)
          clear hK K
          obtain ⟨Y2, hY2⟩ : ∃ Y, Y = X1.alloc zeroFault := ⟨_, rfl⟩
          rw [← hY2] at hby hfy hH ⊢
          clear hY2
          have hcy : Below wm.heap.size wm Y2 := below_then hc1 hby
          have hfc : Y2.heap[X1.heap.size]? = some (.cells #[.int .i64 0, .int .i64 0, .int .i64 0, .int .i64 0, .int .i64 0] 43 (0, 0)) := hfy
          have HFA : Hid (wm.heap.size ≤ X1.heap.size) := (hc1).size
          have HIH : Hid (Ints Y2 ah hs) := HIH.out.below hby
          refine wpAnyH_ready (rs := [5]) (by kernel_rfl) (by simp) (AllReadyH.cons rfl (fun K hK => ?_) AllReadyH.nil)
          go_simp
          refine (HPK.out _).mono ?_
          rintro e X7 ⟨⟨r, rfl, hr⟩, hX7⟩
          subst hX7
          have hwr : IntKind.i64.wrap (1 + (r : Int)) = 1 + (r : Int) := by rw [IntKind.wrap_i64]; omega
          go_simp
          refine hK.out _ _ hH (fun hH => ?_)
          clear hK K
          refine wpAnyH_take (i := 6) (v := ?_) rfl (by kernel_rfl) (by kernel_rfl) (by kernel_rfl) (fun _ _ _ h => h) (Or.inl ⟨by rfl, ?_⟩) hH ?_
          rotate_left 1
          · intro w hSw; (try dsimp only at hSw); go_simp; try rfl
          simp only [Act.put, List.getElem_toArray, List.getElem_cons_zero, List.getElem_cons_succ, List.setIfInBounds_toArray, List.set_cons_zero, List.set_cons_succ]
          refine wpAnyH_ready (rs := [7]) (by kernel_rfl) (by simp) (AllReadyH.cons rfl (fun K hK => ?_) AllReadyH.nil)
          go_simp
          refine (HLD.out X7 ah ch hs r hcy HIH.out HHI.out hr).mono ?_
          rintro e X8 ⟨rfl, hkL, hpo⟩
          have HPO : Hid (SurePost M X7 st E1 [(A, rsA)] bName tsB hs rsB (1 + (r : Int)) X8) := hpo
          clear hpo
          have hcL := hcy
          have hnb : ¬ M tB := fun hm => by have h1 := HM.out _ hm; have h2 := HTL.out; omega
          have HFL : Hid (X1.heap.size < X7.heap.size ∧ wm.heap.size ≤ X1.heap.size) := ⟨lt_of_heap hfc, HFA.out⟩
          have nfa : ¬ M X1.heap.size := fun hm => by have h1 := HST.out.lt _ hm; have h2 := HFA.out; omega
          have hfz : X8.heap[X1.heap.size]? = some (.cells #[.int .i64 0, .int .i64 0, .int .i64 0, .int .i64 0, .int .i64 0] 43 (0, 0)) := (hkL.block _ (lt_of_heap hfc) nfa).trans hfc
          go_simp
          refine hK.out _ _ ⟨hkL.cell hH.1 hnb, hkL.cell hH.2.1 hnb, hkL.cell hH.2.2 hnb⟩ (fun hH => ?_)
          clear hK K
          have k0 : X8.cell? ⟨X1.heap.size, 0, none⟩ = some (.int .i64 0) := by simp [World.cell?, hfz]
          have k1 : X8.cell? ⟨X1.heap.size, 1, none⟩ = some (.int .i64 0) := by simp [World.cell?, hfz]
          have k2 : X8.cell? ⟨X1.heap.size, 2, none⟩ = some (.int .i64 0) := by simp [World.cell?, hfz]
          have k3 : X8.cell? ⟨X1.heap.size, 3, none⟩ = some (.int .i64 0) := by simp [World.cell?, hfz]
          have k4 : X8.cell? ⟨X1.heap.size, 4, none⟩ = some (.int .i64 0) := by simp [World.cell?, hfz]
          have fz : ∀ o : Nat, X8.frozen? ⟨X1.heap.size, o, none⟩ = false := fun o => by simp [World.frozen?, hfz]
          have fr0 := fz 0
          have fr1 := fz 1
          have fr2 := fz 2
          have fr3 := fz 3
          have fr4 := fz 4
          have hk5 := heap_set (heap_set (heap_set (heap_set (heap_set hfz 0 (.int .i64 0)) 1 (.int .i64 (-1))) 2 (.int .i64 (-1))) 3 (.int .i64 (-1))) 4 (.int .i64 (-1))
          simp only [List.setIfInBounds_toArray, List.set_cons_zero, List.set_cons_succ] at hk5
          have zcl := hcL.size
          have zkl := hkL.size
          have hcs : ∀ o : Nat, (((((X8.setCell ⟨X1.heap.size, 0, none⟩ (.int .i64 0)).setCell ⟨X1.heap.size, 1, none⟩ (.int .i64 (-1))).setCell ⟨X1.heap.size, 2, none⟩ (.int .i64 (-1))).setCell ⟨X1.heap.size, 3, none⟩ (.int .i64 (-1))).setCell ⟨X1.heap.size, 4, none⟩ (.int .i64 (-1))).cell? ⟨tB, o, none⟩ = X8.cell? ⟨tB, o, none⟩ := fun o => World.cell?_of_block (set5_other _ _ _ _ _ _ _ _ (by show tB ≠ X1.heap.size; have h1 := HTL.out; have h2 := HW3.out; have h3 := HFL.out; omega))
          have HFIN : Hid (SpMid W3 st E1 [(A, rsA)] bName tsB rsB [f1] (X1.heap.size) (((((X8.setCell ⟨X1.heap.size, 0, none⟩ (.int .i64 0)).setCell ⟨X1.heap.size, 1, none⟩ (.int .i64 (-1))).setCell ⟨X1.heap.size, 2, none⟩ (.int .i64 (-1))).setCell ⟨X1.heap.size, 3, none⟩ (.int .i64 (-1))).setCell ⟨X1.heap.size, 4, none⟩ (.int .i64 (-1)))) := sp_mid HPO.out hkL HM.out (below_then HBW.out hcL) (by rw [set5_size]; exact Nat.le_refl _) rfl rfl rfl (fun k hk hne => set5_other _ _ _ _ _ _ _ k hne) nfa (.inl (by have h1 := HFL.out; omega)) (by have h1 := HFL.out; have h2 := HW3.out; omega) hk5 (fun f hf => ⟨(HFS.out f hf).1.below hcL, (HFS.out f hf).2, by have h1 := (HFS.out f hf).1.lt; have h2 := HFL.out; omega⟩)
          clear fz hfz hk5
          refine wpAnyH_ready (rs := [9]) (by kernel_rfl) (by simp) (AllReadyH.cons rfl (fun K hK => ?_) AllReadyH.nil)
          go_simp
          refine hK.out _ _ ⟨(hcs 0).trans hH.1, (hcs 1).trans hH.2.1, (hcs 2).trans hH.2.2⟩ (fun hH => ?_)
          clear hK K hcs k0 k1 k2 k3 k4 fr0 fr1 fr2 fr3 fr4
          refine wpAnyH_done (by kernel_rfl) ?_ _
          go_wp2_with fail
          go_meet
          case rel => exact ⟨X1.heap.size, rfl, HFIN.out⟩
      · go_simp
        have hby : Below wm.drew.heap.size wm.drew ((wm.alloc zeroFault).drew) := (Below.refl _ wm.drew).alloc (Nat.le_refl _) zeroFault
        have hfy : ((wm.alloc zeroFault).drew).heap[wm.heap.size]? = some (.cells #[.int .i64 0, .int .i64 0, .int .i64 0, .int .i64 0, .int .i64 0] 43 (0, 0)) := heap_alloc_new wm.drew zeroFault
        refine hK.out _ _ ⟨cell_below hby hH.1, cell_below hby hH.2.1, cell_below hby hH.2.2⟩ (fun hH => ?_)
        clear hK K
        obtain ⟨Y3, hY3⟩ : ∃ Y, Y = (wm.alloc zeroFault).drew := ⟨_, rfl⟩
        rw [← hY3] at hby hfy hH ⊢
        clear hY3
        have hcy : Below wm.heap.size wm Y3 := below_then hcd0 hby
        have hfc : Y3.heap[wm.heap.size]? = some (.cells #[.int .i64 0, .int .i64 0, .int .i64 0, .int .i64 0, .int .i64 0] 43 (0, 0)) := hfy
        have HFA : Hid (wm.heap.size ≤ wm.heap.size) := (hcd0).size
        refine wpAnyH_ready (rs := [3]) (by kernel_rfl) (by simp) (AllReadyH.cons rfl (fun K hK => ?_) AllReadyH.nil)
        go_simp
        refine (HHW.out Y3 hcy).mono ?_
        rintro e X1 ⟨hx1, ah, ch, hs, rfl, hIh, hHI⟩
        have hc1 : Below wm.heap.size wm X1 := below_then hcy hx1
        have hfc : X1.heap[wm.heap.size]? = some (.cells #[.int .i64 0, .int .i64 0, .int .i64 0, .int .i64 0, .int .i64 0] 43 (0, 0)) := (hx1.block _ (lt_of_heap hfc)).trans hfc
        have HIH : Hid (Ints X1 ah hs) := hIh
        have HHI : Hid (HowsI tsB [] hs tsB.length) := hHI
        clear hIh hHI
        go_simp
        refine hK.out _ _ ⟨cell_below hx1 hH.1, cell_below hx1 hH.2.1, cell_below hx1 hH.2.2⟩ (fun hH => ?_)
        clear hK K
        refine wpAnyH_ready (rs := [5]) (by kernel_rfl) (by simp) (AllReadyH.cons rfl (fun K hK => ?_) AllReadyH.nil)
        go_simp
        refine (HPK.out _).mono ?_
        rintro e X7 ⟨⟨r, rfl, hr⟩, hX7⟩
        subst hX7
        have hwr : IntKind.i64.wrap (1 + (r : Int)) = 1 + (r : Int) := by rw [IntKind.wrap_i64]; omega
        go_simp
        refine hK.out _ _ hH (fun hH => ?_)
        clear hK K
        refine wpAnyH_take (i := 6) (v := ?_) rfl (by kernel_rfl) (by kernel_rfl) (by kernel_rfl) (fun _ _ _ h => h) (Or.inl ⟨by rfl, ?_⟩) hH ?_
        rotate_left 1
        · intro w hSw; (try dsimp only at hSw); go_simp; try rfl
        simp only [Act.put, List.getElem_toArray, List.getElem_cons_zero, List.getElem_cons_succ, List.setIfInBounds_toArray, List.set_cons_zero, List.set_cons_succ]
        refine wpAnyH_ready (rs := [7]) (by kernel_rfl) (by simp) (AllReadyH.cons rfl (fun K hK => ?_) AllReadyH.nil)
        go_simp
        refine (HLD.out X7 ah ch hs r hc1 HIH.out HHI.out hr).mono ?_
        rintro e X8 ⟨rfl, hkL, hpo⟩
        have HPO : Hid (SurePost M X7 st E1 [(A, rsA)] bName tsB hs rsB (1 + (r : Int)) X8) := hpo
        clear hpo
        have hcL := hc1
        have hnb : ¬ M tB := fun hm => by have h1 := HM.out _ hm; have h2 := HTL.out; omega
        have HFL : Hid (wm.heap.size < X7.heap.size ∧ wm.heap.size ≤ wm.heap.size) := ⟨lt_of_heap hfc, HFA.out⟩
        have nfa : ¬ M wm.heap.size := fun hm => by have h1 := HST.out.lt _ hm; have h2 := HFA.out; omega
        have hfz : X8.heap[wm.heap.size]? = some (.cells #[.int .i64 0, .int .i64 0, .int .i64 0, .int .i64 0, .int .i64 0] 43 (0, 0)) := (hkL.block _ (lt_of_heap hfc) nfa).trans hfc
        go_simp
        refine hK.out _ _ ⟨hkL.cell hH.1 hnb, hkL.cell hH.2.1 hnb, hkL.cell hH.2.2 hnb⟩ (fun hH => ?_)
        clear hK K
        have k0 : X8.cell? ⟨wm.heap.size, 0, none⟩ = some (.int .i64 0) := by simp [World.cell?, hfz]
        have k1 : X8.cell? ⟨wm.heap.size, 1, none⟩ = some (.int .i64 0) := by simp [World.cell?, hfz]
        have k2 : X8.cell? ⟨wm.heap.size, 2, none⟩ = some (.int .i64 0) := by simp [World.cell?, hfz]
        have k3 : X8.cell? ⟨wm.heap.size, 3, none⟩ = some (.int .i64 0) := by simp [World.cell?, hfz]
        have k4 : X8.cell? ⟨wm.heap.size, 4, none⟩ = some (.int .i64 0) := by simp [World.cell?, hfz]
        have fz : ∀ o : Nat, X8.frozen? ⟨wm.heap.size, o, none⟩ = false := fun o => by simp [World.frozen?, hfz]
        have fr0 := fz 0
        have fr1 := fz 1
        have fr2 := fz 2
        have fr3 := fz 3
        have fr4 := fz 4
        have hk5 := heap_set (heap_set (heap_set (heap_set (heap_set hfz 0 (.int .i64 0)) 1 (.int .i64 (-1))) 2 (.int .i64 (-1))) 3 (.int .i64 (-1))) 4 (.int .i64 (-1))
        simp only [List.setIfInBounds_toArray, List.set_cons_zero, List.set_cons_succ] at hk5
        have zcl := hcL.size
        have zkl := hkL.size
        have hcs : ∀ o : Nat, (((((X8.setCell ⟨wm.heap.size, 0, none⟩ (.int .i64 0)).setCell ⟨wm.heap.size, 1, none⟩ (.int .i64 (-1))).setCell ⟨wm.heap.size, 2, none⟩ (.int .i64 (-1))).setCell ⟨wm.heap.size, 3, none⟩ (.int .i64 (-1))).setCell ⟨wm.heap.size, 4, none⟩ (.int .i64 (-1))).cell? ⟨tB, o, none⟩ = X8.cell? ⟨tB, o, none⟩ := fun o => World.cell?_of_block (set5_other _ _ _ _ _ _ _ _ (by show tB ≠ wm.heap.size; have h1 := HTL.out; have h2 := HW3.out; have h3 := HFL.out; omega))
        have HFIN : Hid (SpMid W3 st E1 [(A, rsA)] bName tsB rsB [f1] (wm.heap.size) (((((X8.setCell ⟨wm.heap.size, 0, none⟩ (.int .i64 0)).setCell ⟨wm.heap.size, 1, none⟩ (.int .i64 (-1))).setCell ⟨wm.heap.size, 2, none⟩ (.int .i64 (-1))).setCell ⟨wm.heap.size, 3, none⟩ (.int .i64 (-1))).setCell ⟨wm.heap.size, 4, none⟩ (.int .i64 (-1)))) := sp_mid HPO.out hkL HM.out (below_then HBW.out hcL) (by rw [set5_size]; exact Nat.le_refl _) rfl rfl rfl (fun k hk hne => set5_other _ _ _ _ _ _ _ k hne) nfa (.inl (by have h1 := HFL.out; omega)) (by have h1 := HFL.out; have h2 := HW3.out; omega) hk5 (fun f hf => ⟨(HFS.out f hf).1.below hcL, (HFS.out f hf).2, by have h1 := (HFS.out f hf).1.lt; have h2 := HFL.out; omega⟩)
        clear fz hfz hk5
        refine wpAnyH_ready (rs := [9]) (by kernel_rfl) (by simp) (AllReadyH.cons rfl (fun K hK => ?_) AllReadyH.nil)
        go_simp
        refine hK.out _ _ ⟨(hcs 0).trans hH.1, (hcs 1).trans hH.2.1, (hcs 2).trans hH.2.2⟩ (fun hH => ?_)
        clear hK K hcs k0 k1 k2 k3 k4 fr0 fr1 fr2 fr3 fr4
        refine wpAnyH_done (by kernel_rfl) ?_ _
        go_wp2_with fail
        go_meet
        case rel => exact ⟨wm.heap.size, rfl, HFIN.out⟩
    case rest =>
      obtain ⟨f2, rfl, hF2, hw2, hbm, M2, E2, B, g2, hs2, hr2, hsto2, hst2, hnb, _, _, hpg2, _, hnf2, hM2, hfs⟩ := hcut
      obtain ⟨hF1, hnf1, hne12⟩ := hfs f1 (by simp)
      have hrl : rsB.length ≤ 200 := HRB.out.tab.2.2.1
      obtain ⟨hU2, hsp⟩ := spoilt_plain (an := aName) (bn := bName) (by decide) HRA.out.vals HRB.out.vals HR1.out hr2 HRA.out.tab.2.2.1
      have HSP : Hid _ := hsp
      have HE2 : Hid (E2.pages.length ≤ 264000 ∧ usedOf E2.pages = E2.pages.length) := ⟨by have := HE1.out.2.2.1; omega, hU2⟩
      have HM2 : Hid (∀ k, M2 k → W3.heap.size ≤ k) := hM2
      have HS2 : Hid (Sto M2 wc st E2 [A, B]) := hsto2
      have HB2 : Hid (Below W3.heap.size W3 wc) := hbm
      obtain ⟨r0, r1, r2, r3, r4⟩ := hF1.cells
      obtain ⟨s0, s1, s2, s3, s4⟩ := hF2.cells
      have hqN := run_neq_F 0
      have hqE := run_eql_F 0
      clear hfs hF1 hF2 hr2 hst2 hnb hpg2 hrl hU2 hsp hM2 HST HM HBW HW3 HFS HTL HPK HHW HLD HFN e0 e1 e2 hw2 HF1 HS1 HR1 HE1
      go_wp2_with (first | (go_at_call 13; refine (Used_sto M2 st E2 [A, B] wc HS2.out).mono ?_; rintro e X6 ⟨rfl, hX6⟩; subst X6))
      obtain ⟨al, HAL⟩ : ∃ al, Hid (usedOf E2.pages = al) := ⟨_, rfl⟩
      rw [HAL.out]
      refine wp_region_held_drew (S := fun X => X.cell? ⟨f1, 0, none⟩ = some (.int .i64 0) ∧ X.cell? ⟨f1, 1, none⟩ = some (.int .i64 (-1)) ∧ X.cell? ⟨f1, 2, none⟩ = some (.int .i64 (-1)) ∧ X.cell? ⟨f1, 3, none⟩ = some (.int .i64 (-1)) ∧ X.cell? ⟨f1, 4, none⟩ = some (.int .i64 (-1)) ∧ X.cell? ⟨f2, 0, none⟩ = some (.int .i64 0) ∧ X.cell? ⟨f2, 1, none⟩ = some (.int .i64 (-1)) ∧ X.cell? ⟨f2, 2, none⟩ = some (.int .i64 (-1)) ∧ X.cell? ⟨f2, 3, none⟩ = some (.int .i64 (-1)) ∧ X.cell? ⟨f2, 4, none⟩ = some (.int .i64 (-1))) (by kernel_rfl) ⟨r0, r1, r2, r3, r4, s0, s1, s2, s3, s4⟩ (fun hH => ?_)
      refine wpAnyH_take (i := 0) (v := ?_) rfl (by kernel_rfl) (by kernel_rfl) (by kernel_rfl) (fun _ _ _ h => h) (Or.inl ⟨by rfl, ?_⟩) hH ?_
      rotate_left 1
      · intro w hSw; (try dsimp only at hSw); go_simp; try rfl
      simp only [Act.put, List.getElem_toArray, List.getElem_cons_zero, List.setIfInBounds_toArray, List.set_cons_zero, List.set_cons_succ]
      refine wpAnyH_ready (rs := [1]) (by kernel_rfl) (by simp) (AllReadyH.cons rfl (fun K hK => ?_) AllReadyH.nil)
      go_simp
      refine (none_any _).mono ?_
      rintro e XN1 ⟨rfl, hn1⟩
      go_simp
      refine hK.out _ _ ⟨cell_below hn1 hH.1, cell_below hn1 hH.2.1, cell_below hn1 hH.2.2.1, cell_below hn1 hH.2.2.2.1, cell_below hn1 hH.2.2.2.2.1, cell_below hn1 hH.2.2.2.2.2.1, cell_below hn1 hH.2.2.2.2.2.2.1, cell_below hn1 hH.2.2.2.2.2.2.2.1, cell_below hn1 hH.2.2.2.2.2.2.2.2.1, cell_below hn1 hH.2.2.2.2.2.2.2.2.2⟩ (fun hH => ?_)
      clear hK K
      refine wpAnyH_take (i := 2) (v := ?_) rfl (by kernel_rfl) (by kernel_rfl) (by kernel_rfl) (fun _ _ _ h => h) (Or.inl ⟨by rfl, ?_⟩) hH ?_
      rotate_left 1
      · intro w hSw; (try dsimp only at hSw); go_simp; try rfl
      simp only [Act.put, List.getElem_toArray, List.getElem_cons_zero, List.getElem_cons_succ, List.setIfInBounds_toArray, List.set_cons_zero, List.set_cons_succ]
      refine wpAnyH_take (i := 3) (v := ?_) rfl (by kernel_rfl) (by kernel_rfl) (by kernel_rfl) (fun _ _ _ h => h) (Or.inl ⟨by rfl, ?_⟩) hH ?_
      rotate_left 1
      · intro w hSw; (try dsimp only at hSw); go_simp; try rfl
      simp only [Act.put, List.getElem_toArray, List.getElem_cons_zero, List.getElem_cons_succ, List.setIfInBounds_toArray, List.set_cons_zero, List.set_cons_succ]
      refine wpAnyH_take (i := 4) (v := ?_) rfl (by kernel_rfl) (by kernel_rfl) (by kernel_rfl) (fun _ _ _ h => h) (Or.inl ⟨by rfl, ?_⟩) hH ?_
      rotate_left 1
      · intro w hSw; (try dsimp only at hSw); go_simp; try rfl
      simp only [Act.put, List.getElem_toArray, List.getElem_cons_zero, List.getElem_cons_succ, List.setIfInBounds_toArray, List.set_cons_zero, List.set_cons_succ]
      refine wpAnyH_ready (rs := [5]) (by kernel_rfl) (by simp) (AllReadyH.cons rfl (fun K hK => ?_) AllReadyH.nil)
      go_simp
      refine (none_any _).mono ?_
      rintro e XN2 ⟨rfl, hn2⟩
      go_simp
      refine hK.out _ _ ⟨cell_below hn2 hH.1, cell_below hn2 hH.2.1, cell_below hn2 hH.2.2.1, cell_below hn2 hH.2.2.2.1, cell_below hn2 hH.2.2.2.2.1, cell_below hn2 hH.2.2.2.2.2.1, cell_below hn2 hH.2.2.2.2.2.2.1, cell_below hn2 hH.2.2.2.2.2.2.2.1, cell_below hn2 hH.2.2.2.2.2.2.2.2.1, cell_below hn2 hH.2.2.2.2.2.2.2.2.2⟩ (fun hH => ?_)
      clear hK K
      refine wpAnyH_take (i := 6) (v := ?_) rfl (by kernel_rfl) (by kernel_rfl) (by kernel_rfl) (fun _ _ _ h => h) (Or.inl ⟨by rfl, ?_⟩) hH ?_
      rotate_left 1
      · intro w hSw; (try dsimp only at hSw); go_simp; try rfl
      simp only [Act.put, List.getElem_toArray, List.getElem_cons_zero, List.getElem_cons_succ, List.setIfInBounds_toArray, List.set_cons_zero, List.set_cons_succ]
      refine wpAnyH_take (i := 7) (v := ?_) rfl (by kernel_rfl) (by kernel_rfl) (by kernel_rfl) (fun _ _ _ h => h) (Or.inl ⟨by rfl, ?_⟩) hH ?_
      rotate_left 1
      · intro w hSw; (try dsimp only at hSw); go_simp; try rfl
      simp only [Act.put, List.getElem_toArray, List.getElem_cons_zero, List.getElem_cons_succ, List.setIfInBounds_toArray, List.set_cons_zero, List.set_cons_succ]
      refine wpAnyH_done (by kernel_rfl) ?_ _
      have hbn : Below wc.heap.size wc XN2 := below_undrew (below_then hn1 hn2)
      have HS3 : Hid (Sto M2 XN2 st E2 [A, B]) := HS2.out.below hbn
      have HB3 : Hid (Below W3.heap.size W3 XN2) := below_then HB2.out hbn
      clear hH hn1 hn2 hbn r0 r1 r2 r3 r4 s0 s1 s2 s3 s4 HS2 HB2 hqN
      by_cases h0 : al = 0
      · have hz : ((al : Int) == 0) = true := by simp [h0]
        have hno : canTurn E2 0 0 1 = false := by
          have h1 : E2.pages.length = 0 := by rw [← HE2.out.2, HAL.out]; exact h0
          simp [canTurn, inUseB, h1]
        have hspo := Spoil_no M2 st E2 [A, B] 0 0 1 XN2 HS3.out hno
        clear h0 hno
        go_wp2_with (first | (go_at_call 22; refine hspo.mono ?_; rintro e X7 ⟨rfl, hX7⟩; subst X7))
        go_ret
        exact ⟨rfl, below_then HB0.out HB3.out⟩
      have hz : ((al : Int) == 0) = false := by rw [beq_eq_false_iff_ne]; omega
      have hal : 0 < al := by omega
      have hal2 : al ≤ 264000 := by rw [← HAL.out, HE2.out.2]; exact HE2.out.1
      have HPP : Hid (∀ W, Calls Tryz.prog 15 #[.int .i64 p0, .int .i64 (al : Int)] W fun e w' => (∃ r : Nat, e = .returned (.int .i64 r) ∧ r < al) ∧ w' = W) := fun W => pick_any p0 al W HP0.out hal (by omega)
      have HPK : Hid (∀ W, Calls Tryz.prog 15 #[.int .i64 k0, .int .i64 ((64 : Nat) : Int)] W fun e w' => (∃ r : Nat, e = .returned (.int .i64 r) ∧ r < 64) ∧ w' = W) := fun W => pick_any k0 64 W HK0.out (by decide) (by decide)
      have HPX : Hid (∀ W, Calls Tryz.prog 15 #[.int .i64 x0, .int .i64 ((255 : Nat) : Int)] W fun e w' => (∃ r : Nat, e = .returned (.int .i64 r) ∧ r < 255) ∧ w' = W) := fun W => pick_any x0 255 W HX0.out (by decide) (by decide)
      clear h0
      go_wp2_with fail
      refine (HPP.out _).mono ?_
      rintro e Y1 ⟨⟨p, rfl, hp⟩, hY1⟩
      subst Y1
      go_wp2_with fail
      refine (HPK.out _).mono ?_
      rintro e Y1 ⟨⟨k, rfl, hk⟩, hY1⟩
      subst Y1
      go_wp2_with fail
      refine (HPX.out _).mono ?_
      rintro e Y1 ⟨⟨x, rfl, hxx⟩, hY1⟩
      subst Y1
      have hwr : IntKind.i64.wrap (1 + (x : Int)) = 1 + (x : Int) := by rw [IntKind.wrap_i64]; omega
      go_wp2_with fail
      clear hwr HPP HPK HPX
      obtain ⟨page, hpg, hpg2, hok1, hlt, hge, hok2, hra2, hrb2⟩ := HSP.out p k (1 + x) (by rw [HAL.out]; exact hp) hk (by omega) (by omega)
      have hc1 : ((1 + x : Nat) : Int) = 1 + (x : Int) := by omega
      obtain ⟨D1, hD1⟩ : ∃ D, D = turnD E2 p (turnP page k (1 + x)) := ⟨_, rfl⟩
      rw [← hD1] at hpg2 hok1 hlt hge hok2 hra2 hrb2
      obtain ⟨D2, hD2⟩ : ∃ D, D = turnD D1 p (turnP (turnP page k (1 + x)) k (1 + x)) := ⟨_, rfl⟩
      rw [← hD2] at hok2 hra2 hrb2
      have HSO1 : Hid (∀ X, Sto M2 X st E2 [A, B] → Calls Tryz.prog 22 #[.pointer (some ⟨st, 0, none⟩), .int .i64 (p : Int), .int .i64 (k : Int), .int .i64 (1 + (x : Int))] X fun e X' => e = .returned (.bool true) ∧ Keep M2 X X' ∧ Sto M2 X' st D1 [A, B]) := fun X hX => by
        have := Spoil_yes M2 st E2 [A, B] p k (1 + x) X hX page hpg hk (by omega) (by omega)
        rw [hc1] at this
        rw [hD1]
        exact this
      have HSO2 : Hid (∀ X, Sto M2 X st D1 [A, B] → Calls Tryz.prog 22 #[.pointer (some ⟨st, 0, none⟩), .int .i64 (p : Int), .int .i64 (k : Int), .int .i64 (1 + (x : Int))] X fun e X' => e = .returned (.bool true) ∧ Keep M2 X X' ∧ Sto M2 X' st D2 [A, B]) := fun X hX => by
        have := Spoil_yes M2 st D1 [A, B] p k (1 + x) X hX _ hpg2 hk (by omega) (by omega)
        rw [hc1] at this
        rw [hD2]
        exact this
      have HSC : Hid (∀ (D : DS) (n : ByteArray) (r : List (List V) ⊕ Nat) (X : World), (∀ T ∈ [A, B], TabOk D T) → rowsO D [A, B] n = some r → Sto M2 X st D [A, B] → Below W3.heap.size W3 X → Calls Tryz.prog 17 #[.pointer (some ⟨st, 0, none⟩), .string n] X fun e X' => Below X.heap.size X X' ∧ ∃ a len c p, e = .returned (.tuple #[.slice a len len, faultAt c (-1) p]) ∧ ScanU X r a len c p X') := fun D n r X hok hr hX hb => by
        have := Scan_sto M2 st D [A, B] n X hX hok a0 a1 a2 tt q wr pg pl ex ta (HN3.out.below hb)
        rw [hr] at this
        exact this.mono fun e X' h => scan_uni h
      obtain ⟨uA, huA⟩ : ∃ u : List (List V) ⊕ Nat, u = if p < n1 then .inr p else .inl rsA := ⟨_, rfl⟩
      obtain ⟨uB, huB⟩ : ∃ u : List (List V) ⊕ Nat, u = if p < n1 then .inl rsB else .inr p := ⟨_, rfl⟩
      have hoA : rowsO D1 [A, B] aName = some uA := by
        rw [huA]
        by_cases hpn : p < n1
        · rw [if_pos hpn]; exact (hlt (by rw [HN1.out]; exact hpn)).1
        · rw [if_neg hpn]; exact (hge (by rw [HN1.out]; exact hpn)).1
      have hoB : rowsO D1 [A, B] bName = some uB := by
        rw [huB]
        by_cases hpn : p < n1
        · rw [if_pos hpn]; exact (hlt (by rw [HN1.out]; exact hpn)).2
        · rw [if_neg hpn]; exact (hge (by rw [HN1.out]; exact hpn)).2
      have HSA : Hid (∀ X, Sto M2 X st D1 [A, B] → Below W3.heap.size W3 X → Calls Tryz.prog 17 #[.pointer (some ⟨st, 0, none⟩), .string aName] X fun e X' => Below X.heap.size X X' ∧ ∃ a len c p, e = .returned (.tuple #[.slice a len len, faultAt c (-1) p]) ∧ ScanU X uA a len c p X') := fun X => HSC.out D1 aName uA X hok1 hoA
      have HSB : Hid (∀ X, Sto M2 X st D1 [A, B] → Below W3.heap.size W3 X → Calls Tryz.prog 17 #[.pointer (some ⟨st, 0, none⟩), .string bName] X fun e X' => Below X.heap.size X X' ∧ ∃ a len c p, e = .returned (.tuple #[.slice a len len, faultAt c (-1) p]) ∧ ScanU X uB a len c p X') := fun X => HSC.out D1 bName uB X hok1 hoB
      have HSA2 : Hid (∀ X, Sto M2 X st D2 [A, B] → Below W3.heap.size W3 X → Calls Tryz.prog 17 #[.pointer (some ⟨st, 0, none⟩), .string aName] X fun e X' => Below X.heap.size X X' ∧ ∃ a len c p, e = .returned (.tuple #[.slice a len len, faultAt c (-1) p]) ∧ ScanU X (.inl rsA) a len c p X') := fun X => HSC.out D2 aName _ X hok2 hra2
      have HSB2 : Hid (∀ X, Sto M2 X st D2 [A, B] → Below W3.heap.size W3 X → Calls Tryz.prog 17 #[.pointer (some ⟨st, 0, none⟩), .string bName] X fun e X' => Below X.heap.size X X' ∧ ∃ a len c p, e = .returned (.tuple #[.slice a len len, faultAt c (-1) p]) ∧ ScanU X (.inl rsB) a len c p X') := fun X => HSC.out D2 bName _ X hok2 hrb2
      have HSRA : Hid (∀ X (ga : Nat) (bs : List Nat) (Bb : Nat), Below W3.heap.size W3 X → Grid X Bb ga bs rsA → Calls Tryz.prog 18 #[.slice (some ⟨ga, 0, none⟩) rsA.length rsA.length, .slice raA rsA.length rcA] X fun e X' => e = .returned (.bool true) ∧ Below X.heap.size X X') := fun X ga bs Bb hX hgr =>
        ksameRows_any _ raA _ rcA _ ysA rsA rsA X (by have := HRA.out.tab.2.2.1; unfold maxLen; omega) (fun r' hr' => by obtain ⟨i, hi, rfl⟩ := List.getElem_of_mem hr'; have := (HRA.out.tab.2.2.2 i hi).1; have := HRA.out.tab.2.1.1.2; unfold maxLen; omega) hgr.rowsAt (HRA.out.rows.below hX) true (by simp)
      have HSRB : Hid (∀ X (ga : Nat) (bs : List Nat) (Bb : Nat), Below W3.heap.size W3 X → Grid X Bb ga bs rsB → Calls Tryz.prog 18 #[.slice (some ⟨ga, 0, none⟩) rsB.length rsB.length, .slice raB rsB.length rcB] X fun e X' => e = .returned (.bool true) ∧ Below X.heap.size X X') := fun X ga bs Bb hX hgr =>
        ksameRows_any _ raB _ rcB _ ysB rsB rsB X (by have := HRB.out.tab.2.2.1; unfold maxLen; omega) (fun r' hr' => by obtain ⟨i, hi, rfl⟩ := List.getElem_of_mem hr'; have := (HRB.out.tab.2.2.2 i hi).1; have := HRB.out.tab.2.1.1.2; unfold maxLen; omega) hgr.rowsAt (HRB.out.rows.below hX) true (by simp)
      have HUA : Hid (uA = if p < n1 then .inr p else .inl rsA) := huA
      have HUB : Hid (uB = if p < n1 then .inl rsB else .inr p) := huB
      clear hpg hpg2 hok1 hlt hge hok2 hra2 hrb2 hc1 hD1 hD2 huA huB hoA hoB HSC HSP
      refine (HSO1.out XN2 HS3.out).mono ?_
      rintro e X1 ⟨rfl, hk1, hs1'⟩
      have hB1 : Below W3.heap.size W3 X1 := HB3.out.trans (hk1.below (fun k' hk' hm => by have := HM2.out k' hm; omega) HB3.out.size)
      have HS4 : Hid (Sto M2 X1 st D1 [A, B]) := hs1'
      clear hs1' hk1 HSO1
      go_wp2_with fail
      refine (HSA.out X1 HS4.out hB1).mono ?_
      rintro e X2 ⟨hx2, la, ll, lc, lp, rfl, hUA⟩
      have hba2 : Below X2.heap.size X2 (X2.alloc (.cells #[.int .i64 lc, .int .i64 (-1), .int .i64 (-1), .int .i64 (-1), .int .i64 lp] 43)) := (Below.refl _ _).alloc (Nat.le_refl _) _
      have hx2a := below_then hx2 hba2
      have hwA : W3.heap.size ≤ X2.heap.size := (below_then hB1 hx2).size
      have hB2 := below_then hB1 hx2a
      have HS5 : Hid (Sto M2 (X2.alloc (.cells #[.int .i64 lc, .int .i64 (-1), .int .i64 (-1), .int .i64 (-1), .int .i64 lp] 43)) st D1 [A, B]) := HS4.out.below hx2a
      have HFA2 : Hid (FaultIs (X2.alloc (.cells #[.int .i64 lc, .int .i64 (-1), .int .i64 (-1), .int .i64 (-1), .int .i64 lp] 43)) X2.heap.size lc lp) := heap_alloc_new _ _
      have nfa2 : ¬ M2 X2.heap.size := fun hm => by have h1 := HS4.out.lt _ hm; have h2 := hx2.size; omega
      have HUA2 : Hid (ScanU X1 uA la ll lc lp (X2.alloc (.cells #[.int .i64 lc, .int .i64 (-1), .int .i64 (-1), .int .i64 (-1), .int .i64 lp] 43))) := hUA.below hba2
      clear hUA
      go_wp2_with fail
      refine (HSB.out _ HS5.out hB2).mono ?_
      rintro e X3 ⟨hx3, ma, ml, mc, mp, rfl, hUB⟩
      have hba3 : Below X3.heap.size X3 (X3.alloc (.cells #[.int .i64 mc, .int .i64 (-1), .int .i64 (-1), .int .i64 (-1), .int .i64 mp] 43)) := (Below.refl _ _).alloc (Nat.le_refl _) _
      have hx3a := below_then hx3 hba3
      have hwB : W3.heap.size ≤ X3.heap.size := (below_then hB2 hx3).size
      have hB3 := below_then hB2 hx3a
      have HS6 : Hid (Sto M2 (X3.alloc (.cells #[.int .i64 mc, .int .i64 (-1), .int .i64 (-1), .int .i64 (-1), .int .i64 mp] 43)) st D1 [A, B]) := HS5.out.below hx3a
      have HFA3 : Hid (FaultIs (X3.alloc (.cells #[.int .i64 mc, .int .i64 (-1), .int .i64 (-1), .int .i64 (-1), .int .i64 mp] 43)) X2.heap.size lc lp) := HFA2.out.below hx3a
      have HFB3 : Hid (FaultIs (X3.alloc (.cells #[.int .i64 mc, .int .i64 (-1), .int .i64 (-1), .int .i64 (-1), .int .i64 mp] 43)) X3.heap.size mc mp) := heap_alloc_new _ _
      have nfb3 : ¬ M2 X3.heap.size := fun hm => by have h1 := HS5.out.lt _ hm; have h2 := hx3.size; omega
      have hneab : X2.heap.size ≠ X3.heap.size := by have h1 := hx3.size; rw [World.size_alloc] at h1; omega
      have HUA3 : Hid (ScanU X1 uA la ll lc lp (X3.alloc (.cells #[.int .i64 mc, .int .i64 (-1), .int .i64 (-1), .int .i64 (-1), .int .i64 mp] 43))) := HUA2.out.below hx3a
      have HUB3 : Hid (ScanU (X2.alloc (.cells #[.int .i64 lc, .int .i64 (-1), .int .i64 (-1), .int .i64 (-1), .int .i64 lp] 43)) uB ma ml mc mp (X3.alloc (.cells #[.int .i64 mc, .int .i64 (-1), .int .i64 (-1), .int .i64 (-1), .int .i64 mp] 43))) := hUB.below hba3
      clear hUB hx2 hx2a hba2 HS4 HS5 HFA2 HUA2 HSA HSB hB1 hB2 hx3
      go_wp2_with fail
      refine (none_any _).mono ?_
      rintro e X4 ⟨rfl, hx4⟩
      go_upto_if 111 with fail
      have hba4 : Below X4.heap.size X4 (X4.alloc (.cells #[.int .i64 7, .int .i64 (-1), .int .i64 (-1), .int .i64 (-1), .int .i64 p] 43)) := (Below.refl _ _).alloc (Nat.le_refl _) _
      have hbF := below_then hx4 hba4
      have HSF : Hid (Sto M2 (X4.alloc (.cells #[.int .i64 7, .int .i64 (-1), .int .i64 (-1), .int .i64 (-1), .int .i64 p] 43)) st D1 [A, B]) := HS6.out.below hbF
      have hAF : FaultIs (X4.alloc (.cells #[.int .i64 7, .int .i64 (-1), .int .i64 (-1), .int .i64 (-1), .int .i64 p] 43)) X2.heap.size lc lp := HFA3.out.below hbF
      have hBF : FaultIs (X4.alloc (.cells #[.int .i64 7, .int .i64 (-1), .int .i64 (-1), .int .i64 (-1), .int .i64 p] 43)) X3.heap.size mc mp := HFB3.out.below hbF
      have hCF : FaultIs (X4.alloc (.cells #[.int .i64 7, .int .i64 (-1), .int .i64 (-1), .int .i64 (-1), .int .i64 p] 43)) X4.heap.size 7 p := heap_alloc_new _ _
      have HBF : Hid (Below W3.heap.size W3 (X4.alloc (.cells #[.int .i64 7, .int .i64 (-1), .int .i64 (-1), .int .i64 (-1), .int .i64 p] 43))) := below_then hB3 hbF
      have HUAF : Hid (ScanU X1 uA la ll lc lp (X4.alloc (.cells #[.int .i64 7, .int .i64 (-1), .int .i64 (-1), .int .i64 (-1), .int .i64 p] 43))) := HUA3.out.below hbF
      have HUBF : Hid (ScanU (X2.alloc (.cells #[.int .i64 lc, .int .i64 (-1), .int .i64 (-1), .int .i64 (-1), .int .i64 lp] 43)) uB ma ml mc mp (X4.alloc (.cells #[.int .i64 7, .int .i64 (-1), .int .i64 (-1), .int .i64 (-1), .int .i64 p] 43))) := HUB3.out.below hbF
      clear hx4 hba4 hbF hB3 HS6 HFA3 HFB3 HUA3 HUB3 hba3 hx3a
      generalize X4.alloc (.cells #[.int .i64 7, .int .i64 (-1), .int .i64 (-1), .int .i64 (-1), .int .i64 p] 43) = XF at *
      generalize X2.alloc (.cells #[.int .i64 lc, .int .i64 (-1), .int .i64 (-1), .int .i64 (-1), .int .i64 lp] 43) = XG at *
      generalize X2.heap.size = fA at *
      generalize X3.heap.size = fB at *
      generalize X4.heap.size = fC at *
      go_cut [30] from 49 (fun s wx => s = .bool true ∧ Sto M2 wx st D1 [A, B] ∧ FaultIs wx fA lc lp ∧ FaultIs wx fB mc mp ∧ Below W3.heap.size W3 wx)
      case first =>
        have u2A := cell_below HBF.out tA2
        have u2B := cell_below HBF.out tB2
        have hqP := run_eql_P (p : Int)
        by_cases hpn : p < n1
        · have hpi : (p : Int) < (n1 : Int) := by omega
          rw [HUA.out, if_pos hpn] at HUAF
          rw [HUB.out, if_pos hpn] at HUBF
          obtain ⟨rfl, rfl, rfl, rfl⟩ := HUAF.out
          obtain ⟨gg, gs, rfl, rfl, rfl, rfl, hgr⟩ := HUBF.out
          clear HUAF HUBF hpn
          go_wp2_with (first | (go_at_call 18; refine (HSRB.out _ gg gs _ HBF.out hgr).mono ?_; rintro e X5 ⟨rfl, hx5⟩))
          have qA := (hAF.below hx5).cells
          have qC := (hCF.below hx5).cells
          have qB := (hBF.below hx5).cells
          refine wp_region_held_drew (S := fun X => X.cell? ⟨fA, 0, none⟩ = some (.int .i64 7) ∧ X.cell? ⟨fA, 1, none⟩ = some (.int .i64 (-1)) ∧ X.cell? ⟨fA, 2, none⟩ = some (.int .i64 (-1)) ∧ X.cell? ⟨fA, 3, none⟩ = some (.int .i64 (-1)) ∧ X.cell? ⟨fA, 4, none⟩ = some (.int .i64 (p : Int)) ∧ X.cell? ⟨fC, 0, none⟩ = some (.int .i64 7) ∧ X.cell? ⟨fC, 1, none⟩ = some (.int .i64 (-1)) ∧ X.cell? ⟨fC, 2, none⟩ = some (.int .i64 (-1)) ∧ X.cell? ⟨fC, 3, none⟩ = some (.int .i64 (-1)) ∧ X.cell? ⟨fC, 4, none⟩ = some (.int .i64 (p : Int)) ∧ X.cell? ⟨fB, 0, none⟩ = some (.int .i64 0) ∧ X.cell? ⟨fB, 1, none⟩ = some (.int .i64 (-1)) ∧ X.cell? ⟨fB, 2, none⟩ = some (.int .i64 (-1)) ∧ X.cell? ⟨fB, 3, none⟩ = some (.int .i64 (-1)) ∧ X.cell? ⟨fB, 4, none⟩ = some (.int .i64 (-1))) (by kernel_rfl) ⟨qA.1, qA.2.1, qA.2.2.1, qA.2.2.2.1, qA.2.2.2.2, qC.1, qC.2.1, qC.2.2.1, qC.2.2.2.1, qC.2.2.2.2, qB.1, qB.2.1, qB.2.2.1, qB.2.2.2.1, qB.2.2.2.2⟩ (fun hH => ?_)
          refine wpAnyH_take (i := 0) (v := ?_) rfl (by kernel_rfl) (by kernel_rfl) (by kernel_rfl) (fun _ _ _ h => h) (Or.inl ⟨by rfl, ?_⟩) hH ?_
          rotate_left 1
          · intro w hSw; (try dsimp only at hSw); go_simp; try rfl
          simp only [Act.put, List.getElem_toArray, List.getElem_cons_zero, List.setIfInBounds_toArray, List.set_cons_zero, List.set_cons_succ]
          refine wpAnyH_take (i := 1) (v := ?_) rfl (by kernel_rfl) (by kernel_rfl) (by kernel_rfl) (fun _ _ _ h => h) (Or.inl ⟨by rfl, ?_⟩) hH ?_
          rotate_left 1
          · intro w hSw; (try dsimp only at hSw); go_simp; try rfl
          simp only [Act.put, List.getElem_toArray, List.getElem_cons_zero, List.getElem_cons_succ, List.setIfInBounds_toArray, List.set_cons_zero, List.set_cons_succ]
          refine wpAnyH_take (i := 2) (v := ?_) rfl (by kernel_rfl) (by kernel_rfl) (by kernel_rfl) (fun _ _ _ h => h) (Or.inl ⟨by rfl, ?_⟩) hH ?_
          rotate_left 1
          · intro w hSw; (try dsimp only at hSw); go_simp; try rfl
          simp only [Act.put, List.getElem_toArray, List.getElem_cons_zero, List.getElem_cons_succ, List.setIfInBounds_toArray, List.set_cons_zero, List.set_cons_succ]
          refine wpAnyH_take (i := 3) (v := ?_) rfl (by kernel_rfl) (by kernel_rfl) (by kernel_rfl) (fun _ _ _ h => h) (Or.inl ⟨by rfl, ?_⟩) hH ?_
          rotate_left 1
          · intro w hSw; (try dsimp only at hSw); go_simp; try rfl
          simp only [Act.put, List.getElem_toArray, List.getElem_cons_zero, List.getElem_cons_succ, List.setIfInBounds_toArray, List.set_cons_zero, List.set_cons_succ]
          refine wpAnyH_take (i := 4) (v := ?_) rfl (by kernel_rfl) (by kernel_rfl) (by kernel_rfl) (fun _ _ _ h => h) (Or.inl ⟨by rfl, ?_⟩) hH ?_
          rotate_left 1
          · intro w hSw; (try dsimp only at hSw); go_simp; try rfl
          simp only [Act.put, List.getElem_toArray, List.getElem_cons_zero, List.getElem_cons_succ, List.setIfInBounds_toArray, List.set_cons_zero, List.set_cons_succ]
          refine wpAnyH_take (i := 5) (v := ?_) rfl (by kernel_rfl) (by kernel_rfl) (by kernel_rfl) (fun _ _ _ h => h) (Or.inl ⟨by rfl, ?_⟩) hH ?_
          rotate_left 1
          · intro w hSw; (try dsimp only at hSw); go_simp; try rfl
          simp only [Act.put, List.getElem_toArray, List.getElem_cons_zero, List.getElem_cons_succ, List.setIfInBounds_toArray, List.set_cons_zero, List.set_cons_succ]
          refine wpAnyH_take (i := 6) (v := ?_) rfl (by kernel_rfl) (by kernel_rfl) (by kernel_rfl) (fun _ _ _ h => h) (Or.inl ⟨by rfl, ?_⟩) hH ?_
          rotate_left 1
          · intro w hSw; (try dsimp only at hSw); go_simp; try rfl
          simp only [Act.put, List.getElem_toArray, List.getElem_cons_zero, List.getElem_cons_succ, List.setIfInBounds_toArray, List.set_cons_zero, List.set_cons_succ]
          refine wpAnyH_take (i := 7) (v := ?_) rfl (by kernel_rfl) (by kernel_rfl) (by kernel_rfl) (fun _ _ _ h => h) (Or.inl ⟨by rfl, ?_⟩) hH ?_
          rotate_left 1
          · intro w hSw; (try dsimp only at hSw); go_simp; try rfl
          simp only [Act.put, List.getElem_toArray, List.getElem_cons_zero, List.getElem_cons_succ, List.setIfInBounds_toArray, List.set_cons_zero, List.set_cons_succ]
          refine wpAnyH_take (i := 8) (v := ?_) rfl (by kernel_rfl) (by kernel_rfl) (by kernel_rfl) (fun _ _ _ h => h) (Or.inl ⟨by rfl, ?_⟩) hH ?_
          rotate_left 1
          · intro w hSw; (try dsimp only at hSw); go_simp; try rfl
          simp only [Act.put, List.getElem_toArray, List.getElem_cons_zero, List.getElem_cons_succ, List.setIfInBounds_toArray, List.set_cons_zero, List.set_cons_succ]
          refine wpAnyH_take (i := 9) (v := ?_) rfl (by kernel_rfl) (by kernel_rfl) (by kernel_rfl) (fun _ _ _ h => h) (Or.inl ⟨by rfl, ?_⟩) hH ?_
          rotate_left 1
          · intro w hSw; (try dsimp only at hSw); go_simp; try rfl
          simp only [Act.put, List.getElem_toArray, List.getElem_cons_zero, List.getElem_cons_succ, List.setIfInBounds_toArray, List.set_cons_zero, List.set_cons_succ]
          refine wpAnyH_ready (rs := [10]) (by kernel_rfl) (by simp) (AllReadyH.cons rfl (fun K hK => ?_) AllReadyH.nil)
          go_simp
          refine (none_any _).mono ?_
          rintro e XN1 ⟨rfl, hn1⟩
          go_simp
          refine hK.out _ _ ⟨cell_below hn1 hH.1, cell_below hn1 hH.2.1, cell_below hn1 hH.2.2.1, cell_below hn1 hH.2.2.2.1, cell_below hn1 hH.2.2.2.2.1, cell_below hn1 hH.2.2.2.2.2.1, cell_below hn1 hH.2.2.2.2.2.2.1, cell_below hn1 hH.2.2.2.2.2.2.2.1, cell_below hn1 hH.2.2.2.2.2.2.2.2.1, cell_below hn1 hH.2.2.2.2.2.2.2.2.2.1, cell_below hn1 hH.2.2.2.2.2.2.2.2.2.2.1, cell_below hn1 hH.2.2.2.2.2.2.2.2.2.2.2.1, cell_below hn1 hH.2.2.2.2.2.2.2.2.2.2.2.2.1, cell_below hn1 hH.2.2.2.2.2.2.2.2.2.2.2.2.2.1, cell_below hn1 hH.2.2.2.2.2.2.2.2.2.2.2.2.2.2⟩ (fun hH => ?_)
          clear hK K
          refine wpAnyH_take (i := 11) (v := ?_) rfl (by kernel_rfl) (by kernel_rfl) (by kernel_rfl) (fun _ _ _ h => h) (Or.inl ⟨by rfl, ?_⟩) hH ?_
          rotate_left 1
          · intro w hSw; (try dsimp only at hSw); go_simp; try rfl
          simp only [Act.put, List.getElem_toArray, List.getElem_cons_zero, List.getElem_cons_succ, List.setIfInBounds_toArray, List.set_cons_zero, List.set_cons_succ]
          refine wpAnyH_take (i := 12) (v := ?_) rfl (by kernel_rfl) (by kernel_rfl) (by kernel_rfl) (fun _ _ _ h => h) (Or.inl ⟨by rfl, ?_⟩) hH ?_
          rotate_left 1
          · intro w hSw; (try dsimp only at hSw); go_simp; try rfl
          simp only [Act.put, List.getElem_toArray, List.getElem_cons_zero, List.getElem_cons_succ, List.setIfInBounds_toArray, List.set_cons_zero, List.set_cons_succ]
          refine wpAnyH_take (i := 13) (v := ?_) rfl (by kernel_rfl) (by kernel_rfl) (by kernel_rfl) (fun _ _ _ h => h) (Or.inl ⟨by rfl, ?_⟩) hH ?_
          rotate_left 1
          · intro w hSw; (try dsimp only at hSw); go_simp; try rfl
          simp only [Act.put, List.getElem_toArray, List.getElem_cons_zero, List.getElem_cons_succ, List.setIfInBounds_toArray, List.set_cons_zero, List.set_cons_succ]
          refine wpAnyH_take (i := 14) (v := ?_) rfl (by kernel_rfl) (by kernel_rfl) (by kernel_rfl) (fun _ _ _ h => h) (Or.inl ⟨by rfl, ?_⟩) hH ?_
          rotate_left 1
          · intro w hSw; (try dsimp only at hSw); go_simp; try rfl
          simp only [Act.put, List.getElem_toArray, List.getElem_cons_zero, List.getElem_cons_succ, List.setIfInBounds_toArray, List.set_cons_zero, List.set_cons_succ]
          refine wpAnyH_take (i := 15) (v := ?_) rfl (by kernel_rfl) (by kernel_rfl) (by kernel_rfl) (fun _ _ _ h => h) (Or.inl ⟨by rfl, ?_⟩) hH ?_
          rotate_left 1
          · intro w hSw; (try dsimp only at hSw); go_simp; try rfl
          simp only [Act.put, List.getElem_toArray, List.getElem_cons_zero, List.getElem_cons_succ, List.setIfInBounds_toArray, List.set_cons_zero, List.set_cons_succ]
          refine wpAnyH_take (i := 16) (v := ?_) rfl (by kernel_rfl) (by kernel_rfl) (by kernel_rfl) (fun _ _ _ h => h) (Or.inl ⟨by rfl, ?_⟩) hH ?_
          rotate_left 1
          · intro w hSw; (try dsimp only at hSw); go_simp; try rfl
          simp only [Act.put, List.getElem_toArray, List.getElem_cons_zero, List.getElem_cons_succ, List.setIfInBounds_toArray, List.set_cons_zero, List.set_cons_succ]
          refine wpAnyH_done (by kernel_rfl) ?_ _
          have hbn : Below XF.heap.size XF XN1 := below_then hx5 (below_undrew hn1)
          go_wp2_with fail
          go_meet
          case rel => exact ⟨rfl, HSF.out.below hbn, hAF.below hbn, hBF.below hbn, below_then HBF.out hbn⟩
        · have hpi : ¬ (p : Int) < (n1 : Int) := by omega
          rw [HUA.out, if_neg hpn] at HUAF
          rw [HUB.out, if_neg hpn] at HUBF
          obtain ⟨gg, gs, rfl, rfl, rfl, rfl, hgr⟩ := HUAF.out
          obtain ⟨rfl, rfl, rfl, rfl⟩ := HUBF.out
          clear HUAF HUBF hpn
          go_wp2_with (first | (go_at_call 18; refine (HSRA.out _ gg gs _ HBF.out hgr).mono ?_; rintro e X5 ⟨rfl, hx5⟩))
          have qA := (hBF.below hx5).cells
          have qC := (hCF.below hx5).cells
          have qB := (hAF.below hx5).cells
          refine wp_region_held_drew (S := fun X => X.cell? ⟨fB, 0, none⟩ = some (.int .i64 7) ∧ X.cell? ⟨fB, 1, none⟩ = some (.int .i64 (-1)) ∧ X.cell? ⟨fB, 2, none⟩ = some (.int .i64 (-1)) ∧ X.cell? ⟨fB, 3, none⟩ = some (.int .i64 (-1)) ∧ X.cell? ⟨fB, 4, none⟩ = some (.int .i64 (p : Int)) ∧ X.cell? ⟨fC, 0, none⟩ = some (.int .i64 7) ∧ X.cell? ⟨fC, 1, none⟩ = some (.int .i64 (-1)) ∧ X.cell? ⟨fC, 2, none⟩ = some (.int .i64 (-1)) ∧ X.cell? ⟨fC, 3, none⟩ = some (.int .i64 (-1)) ∧ X.cell? ⟨fC, 4, none⟩ = some (.int .i64 (p : Int)) ∧ X.cell? ⟨fA, 0, none⟩ = some (.int .i64 0) ∧ X.cell? ⟨fA, 1, none⟩ = some (.int .i64 (-1)) ∧ X.cell? ⟨fA, 2, none⟩ = some (.int .i64 (-1)) ∧ X.cell? ⟨fA, 3, none⟩ = some (.int .i64 (-1)) ∧ X.cell? ⟨fA, 4, none⟩ = some (.int .i64 (-1))) (by kernel_rfl) ⟨qA.1, qA.2.1, qA.2.2.1, qA.2.2.2.1, qA.2.2.2.2, qC.1, qC.2.1, qC.2.2.1, qC.2.2.2.1, qC.2.2.2.2, qB.1, qB.2.1, qB.2.2.1, qB.2.2.2.1, qB.2.2.2.2⟩ (fun hH => ?_)
          refine wpAnyH_take (i := 0) (v := ?_) rfl (by kernel_rfl) (by kernel_rfl) (by kernel_rfl) (fun _ _ _ h => h) (Or.inl ⟨by rfl, ?_⟩) hH ?_
          rotate_left 1
          · intro w hSw; (try dsimp only at hSw); go_simp; try rfl
          simp only [Act.put, List.getElem_toArray, List.getElem_cons_zero, List.setIfInBounds_toArray, List.set_cons_zero, List.set_cons_succ]
          refine wpAnyH_take (i := 1) (v := ?_) rfl (by kernel_rfl) (by kernel_rfl) (by kernel_rfl) (fun _ _ _ h => h) (Or.inl ⟨by rfl, ?_⟩) hH ?_
          rotate_left 1
          · intro w hSw; (try dsimp only at hSw); go_simp; try rfl
          simp only [Act.put, List.getElem_toArray, List.getElem_cons_zero, List.getElem_cons_succ, List.setIfInBounds_toArray, List.set_cons_zero, List.set_cons_succ]
          refine wpAnyH_take (i := 2) (v := ?_) rfl (by kernel_rfl) (by kernel_rfl) (by kernel_rfl) (fun _ _ _ h => h) (Or.inl ⟨by rfl, ?_⟩) hH ?_
          rotate_left 1
          · intro w hSw; (try dsimp only at hSw); go_simp; try rfl
          simp only [Act.put, List.getElem_toArray, List.getElem_cons_zero, List.getElem_cons_succ, List.setIfInBounds_toArray, List.set_cons_zero, List.set_cons_succ]
          refine wpAnyH_take (i := 3) (v := ?_) rfl (by kernel_rfl) (by kernel_rfl) (by kernel_rfl) (fun _ _ _ h => h) (Or.inl ⟨by rfl, ?_⟩) hH ?_
          rotate_left 1
          · intro w hSw; (try dsimp only at hSw); go_simp; try rfl
          simp only [Act.put, List.getElem_toArray, List.getElem_cons_zero, List.getElem_cons_succ, List.setIfInBounds_toArray, List.set_cons_zero, List.set_cons_succ]
          refine wpAnyH_take (i := 4) (v := ?_) rfl (by kernel_rfl) (by kernel_rfl) (by kernel_rfl) (fun _ _ _ h => h) (Or.inl ⟨by rfl, ?_⟩) hH ?_
          rotate_left 1
          · intro w hSw; (try dsimp only at hSw); go_simp; try rfl
          simp only [Act.put, List.getElem_toArray, List.getElem_cons_zero, List.getElem_cons_succ, List.setIfInBounds_toArray, List.set_cons_zero, List.set_cons_succ]
          refine wpAnyH_take (i := 5) (v := ?_) rfl (by kernel_rfl) (by kernel_rfl) (by kernel_rfl) (fun _ _ _ h => h) (Or.inl ⟨by rfl, ?_⟩) hH ?_
          rotate_left 1
          · intro w hSw; (try dsimp only at hSw); go_simp; try rfl
          simp only [Act.put, List.getElem_toArray, List.getElem_cons_zero, List.getElem_cons_succ, List.setIfInBounds_toArray, List.set_cons_zero, List.set_cons_succ]
          refine wpAnyH_take (i := 6) (v := ?_) rfl (by kernel_rfl) (by kernel_rfl) (by kernel_rfl) (fun _ _ _ h => h) (Or.inl ⟨by rfl, ?_⟩) hH ?_
          rotate_left 1
          · intro w hSw; (try dsimp only at hSw); go_simp; try rfl
          simp only [Act.put, List.getElem_toArray, List.getElem_cons_zero, List.getElem_cons_succ, List.setIfInBounds_toArray, List.set_cons_zero, List.set_cons_succ]
          refine wpAnyH_take (i := 7) (v := ?_) rfl (by kernel_rfl) (by kernel_rfl) (by kernel_rfl) (fun _ _ _ h => h) (Or.inl ⟨by rfl, ?_⟩) hH ?_
          rotate_left 1
          · intro w hSw; (try dsimp only at hSw); go_simp; try rfl
          simp only [Act.put, List.getElem_toArray, List.getElem_cons_zero, List.getElem_cons_succ, List.setIfInBounds_toArray, List.set_cons_zero, List.set_cons_succ]
          refine wpAnyH_take (i := 8) (v := ?_) rfl (by kernel_rfl) (by kernel_rfl) (by kernel_rfl) (fun _ _ _ h => h) (Or.inl ⟨by rfl, ?_⟩) hH ?_
          rotate_left 1
          · intro w hSw; (try dsimp only at hSw); go_simp; try rfl
          simp only [Act.put, List.getElem_toArray, List.getElem_cons_zero, List.getElem_cons_succ, List.setIfInBounds_toArray, List.set_cons_zero, List.set_cons_succ]
          refine wpAnyH_take (i := 9) (v := ?_) rfl (by kernel_rfl) (by kernel_rfl) (by kernel_rfl) (fun _ _ _ h => h) (Or.inl ⟨by rfl, ?_⟩) hH ?_
          rotate_left 1
          · intro w hSw; (try dsimp only at hSw); go_simp; try rfl
          simp only [Act.put, List.getElem_toArray, List.getElem_cons_zero, List.getElem_cons_succ, List.setIfInBounds_toArray, List.set_cons_zero, List.set_cons_succ]
          refine wpAnyH_ready (rs := [10]) (by kernel_rfl) (by simp) (AllReadyH.cons rfl (fun K hK => ?_) AllReadyH.nil)
          go_simp
          refine (none_any _).mono ?_
          rintro e XN1 ⟨rfl, hn1⟩
          go_simp
          refine hK.out _ _ ⟨cell_below hn1 hH.1, cell_below hn1 hH.2.1, cell_below hn1 hH.2.2.1, cell_below hn1 hH.2.2.2.1, cell_below hn1 hH.2.2.2.2.1, cell_below hn1 hH.2.2.2.2.2.1, cell_below hn1 hH.2.2.2.2.2.2.1, cell_below hn1 hH.2.2.2.2.2.2.2.1, cell_below hn1 hH.2.2.2.2.2.2.2.2.1, cell_below hn1 hH.2.2.2.2.2.2.2.2.2.1, cell_below hn1 hH.2.2.2.2.2.2.2.2.2.2.1, cell_below hn1 hH.2.2.2.2.2.2.2.2.2.2.2.1, cell_below hn1 hH.2.2.2.2.2.2.2.2.2.2.2.2.1, cell_below hn1 hH.2.2.2.2.2.2.2.2.2.2.2.2.2.1, cell_below hn1 hH.2.2.2.2.2.2.2.2.2.2.2.2.2.2⟩ (fun hH => ?_)
          clear hK K
          refine wpAnyH_take (i := 11) (v := ?_) rfl (by kernel_rfl) (by kernel_rfl) (by kernel_rfl) (fun _ _ _ h => h) (Or.inl ⟨by rfl, ?_⟩) hH ?_
          rotate_left 1
          · intro w hSw; (try dsimp only at hSw); go_simp; try rfl
          simp only [Act.put, List.getElem_toArray, List.getElem_cons_zero, List.getElem_cons_succ, List.setIfInBounds_toArray, List.set_cons_zero, List.set_cons_succ]
          refine wpAnyH_take (i := 12) (v := ?_) rfl (by kernel_rfl) (by kernel_rfl) (by kernel_rfl) (fun _ _ _ h => h) (Or.inl ⟨by rfl, ?_⟩) hH ?_
          rotate_left 1
          · intro w hSw; (try dsimp only at hSw); go_simp; try rfl
          simp only [Act.put, List.getElem_toArray, List.getElem_cons_zero, List.getElem_cons_succ, List.setIfInBounds_toArray, List.set_cons_zero, List.set_cons_succ]
          refine wpAnyH_take (i := 13) (v := ?_) rfl (by kernel_rfl) (by kernel_rfl) (by kernel_rfl) (fun _ _ _ h => h) (Or.inl ⟨by rfl, ?_⟩) hH ?_
          rotate_left 1
          · intro w hSw; (try dsimp only at hSw); go_simp; try rfl
          simp only [Act.put, List.getElem_toArray, List.getElem_cons_zero, List.getElem_cons_succ, List.setIfInBounds_toArray, List.set_cons_zero, List.set_cons_succ]
          refine wpAnyH_take (i := 14) (v := ?_) rfl (by kernel_rfl) (by kernel_rfl) (by kernel_rfl) (fun _ _ _ h => h) (Or.inl ⟨by rfl, ?_⟩) hH ?_
          rotate_left 1
          · intro w hSw; (try dsimp only at hSw); go_simp; try rfl
          simp only [Act.put, List.getElem_toArray, List.getElem_cons_zero, List.getElem_cons_succ, List.setIfInBounds_toArray, List.set_cons_zero, List.set_cons_succ]
          refine wpAnyH_take (i := 15) (v := ?_) rfl (by kernel_rfl) (by kernel_rfl) (by kernel_rfl) (fun _ _ _ h => h) (Or.inl ⟨by rfl, ?_⟩) hH ?_
          rotate_left 1
          · intro w hSw; (try dsimp only at hSw); go_simp; try rfl
          simp only [Act.put, List.getElem_toArray, List.getElem_cons_zero, List.getElem_cons_succ, List.setIfInBounds_toArray, List.set_cons_zero, List.set_cons_succ]
          refine wpAnyH_take (i := 16) (v := ?_) rfl (by kernel_rfl) (by kernel_rfl) (by kernel_rfl) (fun _ _ _ h => h) (Or.inl ⟨by rfl, ?_⟩) hH ?_
          rotate_left 1
          · intro w hSw; (try dsimp only at hSw); go_simp; try rfl
          simp only [Act.put, List.getElem_toArray, List.getElem_cons_zero, List.getElem_cons_succ, List.setIfInBounds_toArray, List.set_cons_zero, List.set_cons_succ]
          refine wpAnyH_done (by kernel_rfl) ?_ _
          have hbn : Below XF.heap.size XF XN1 := below_then hx5 (below_undrew hn1)
          go_wp2_with fail
          go_meet
          case rel => exact ⟨rfl, HSF.out.below hbn, hAF.below hbn, hBF.below hbn, below_then HBF.out hbn⟩
      case rest =>
        obtain ⟨rfl, hS7, hA7, hB7, hW7⟩ := hcut
        clear HUAF HUBF HUA HUB hAF hBF hCF HSF HBF HS3 HB3
        go_wp2_with fail
        refine (HSO2.out wc hS7).mono ?_
        rintro e X7 ⟨rfl, hk7, hs7⟩
        have hW8 : Below W3.heap.size W3 X7 := hW7.trans (hk7.below (fun k' hk' hm => by have := HM2.out k' hm; omega) hW7.size)
        have HS8 : Hid (Sto M2 X7 st D2 [A, B]) := hs7
        have HA8 : Hid (FaultIs X7 fA lc lp) := hA7.keep hk7 nfa2
        have HB8 : Hid (FaultIs X7 fB mc mp) := hB7.keep hk7 nfb3
        clear hS7 hA7 hB7 hW7 hk7 hs7 HSO2
        go_wp2_with fail
        refine (HSA2.out X7 HS8.out hW8).mono ?_
        rintro e X8 ⟨hx8, la2, ll2, lc2, lp2, rfl, hU⟩
        obtain ⟨ga, gsA, rfl, rfl, rfl, rfl, hgA⟩ := hU
        have hA9 : FaultIs X8 fA lc lp := HA8.out.below hx8
        have hB9 : FaultIs X8 fB mc mp := HB8.out.below hx8
        obtain ⟨c0, c1, c2, c3, c4⟩ := hA9.cells
        have f0 := hA9.frozen 0
        have f1' := hA9.frozen 1
        have f2' := hA9.frozen 2
        have f3 := hA9.frozen 3
        have f4 := hA9.frozen 4
        have hlA : fA < X7.heap.size := HA8.out.lt
        have hlB7 : fB < X7.heap.size := HB8.out.lt
        have hW9 := below_set5 (below_then hW8 hx8) hwA (.int .i64 0) (.int .i64 (-1)) (.int .i64 (-1)) (.int .i64 (-1)) (.int .i64 (-1))
        have HA10 : Hid (FaultIs (((((X8.setCell ⟨fA, 0, none⟩ (.int .i64 0)).setCell ⟨fA, 1, none⟩ (.int .i64 (-1))).setCell ⟨fA, 2, none⟩ (.int .i64 (-1))).setCell ⟨fA, 3, none⟩ (.int .i64 (-1))).setCell ⟨fA, 4, none⟩ (.int .i64 (-1))) fA 0 (-1)) := hA9.set 0 (-1)
        have HB10 : Hid (FaultIs (((((X8.setCell ⟨fA, 0, none⟩ (.int .i64 0)).setCell ⟨fA, 1, none⟩ (.int .i64 (-1))).setCell ⟨fA, 2, none⟩ (.int .i64 (-1))).setCell ⟨fA, 3, none⟩ (.int .i64 (-1))).setCell ⟨fA, 4, none⟩ (.int .i64 (-1))) fB mc mp) := hB9.other (Ne.symm hneab) _ _ _ _ _
        have HS10 : Hid (Sto M2 (((((X8.setCell ⟨fA, 0, none⟩ (.int .i64 0)).setCell ⟨fA, 1, none⟩ (.int .i64 (-1))).setCell ⟨fA, 2, none⟩ (.int .i64 (-1))).setCell ⟨fA, 3, none⟩ (.int .i64 (-1))).setCell ⟨fA, 4, none⟩ (.int .i64 (-1))) st D2 [A, B]) := (HS8.out.below hx8).stands (Nat.le_of_eq (set5_size _ _ _ _ _ _ _).symm) fun k' hm => set5_other _ _ _ _ _ _ _ k' (fun e => nfa2 (e ▸ hm))
        have HG10 : Hid (Grid (((((X8.setCell ⟨fA, 0, none⟩ (.int .i64 0)).setCell ⟨fA, 1, none⟩ (.int .i64 (-1))).setCell ⟨fA, 2, none⟩ (.int .i64 (-1))).setCell ⟨fA, 3, none⟩ (.int .i64 (-1))).setCell ⟨fA, 4, none⟩ (.int .i64 (-1))) X7.heap.size ga gsA rsA) := hgA.of_blocks (set5_other _ _ _ _ _ _ _ _ (by have := hgA.from_.1; omega)) fun b hb => set5_other _ _ _ _ _ _ _ _ (by have := (hgA.from_.2 b hb).1; omega)
        clear hgA hA9 hB9 HA8 HB8 HS8 HSA2
        go_wp2_with fail
        clear c0 c1 c2 c3 c4 f0 f1' f2' f3 f4
        generalize ((((X8.setCell ⟨fA, 0, none⟩ (.int .i64 0)).setCell ⟨fA, 1, none⟩ (.int .i64 (-1))).setCell ⟨fA, 2, none⟩ (.int .i64 (-1))).setCell ⟨fA, 3, none⟩ (.int .i64 (-1))).setCell ⟨fA, 4, none⟩ (.int .i64 (-1)) = X9 at *
        refine (HSB2.out X9 HS10.out hW9).mono ?_
        rintro e X10 ⟨hx10, ma2, ml2, mc2, mp2, rfl, hU⟩
        obtain ⟨gb, gsB, rfl, rfl, rfl, rfl, hgB⟩ := hU
        have hB11 : FaultIs X10 fB mc mp := HB10.out.below hx10
        have hA11 : FaultIs X10 fA 0 (-1) := HA10.out.below hx10
        obtain ⟨c0, c1, c2, c3, c4⟩ := hB11.cells
        have f0 := hB11.frozen 0
        have f1' := hB11.frozen 1
        have f2' := hB11.frozen 2
        have f3 := hB11.frozen 3
        have f4 := hB11.frozen 4
        have hlB : fB < X9.heap.size := HB10.out.lt
        have hlX : X7.heap.size ≤ X9.heap.size := by have := HG10.out.from_.1; have := HG10.out.outer.lt; omega
        have hgA2 := HG10.out.below hx10
        have hW11 := below_set5 (below_then hW9 hx10) hwB (.int .i64 0) (.int .i64 (-1)) (.int .i64 (-1)) (.int .i64 (-1)) (.int .i64 (-1))
        have HB12 : Hid (FaultIs (((((X10.setCell ⟨fB, 0, none⟩ (.int .i64 0)).setCell ⟨fB, 1, none⟩ (.int .i64 (-1))).setCell ⟨fB, 2, none⟩ (.int .i64 (-1))).setCell ⟨fB, 3, none⟩ (.int .i64 (-1))).setCell ⟨fB, 4, none⟩ (.int .i64 (-1))) fB 0 (-1)) := hB11.set 0 (-1)
        have HA12 : Hid (FaultIs (((((X10.setCell ⟨fB, 0, none⟩ (.int .i64 0)).setCell ⟨fB, 1, none⟩ (.int .i64 (-1))).setCell ⟨fB, 2, none⟩ (.int .i64 (-1))).setCell ⟨fB, 3, none⟩ (.int .i64 (-1))).setCell ⟨fB, 4, none⟩ (.int .i64 (-1))) fA 0 (-1)) := hA11.other hneab _ _ _ _ _
        have HGA : Hid (Grid (((((X10.setCell ⟨fB, 0, none⟩ (.int .i64 0)).setCell ⟨fB, 1, none⟩ (.int .i64 (-1))).setCell ⟨fB, 2, none⟩ (.int .i64 (-1))).setCell ⟨fB, 3, none⟩ (.int .i64 (-1))).setCell ⟨fB, 4, none⟩ (.int .i64 (-1))) X7.heap.size ga gsA rsA) := hgA2.of_blocks (set5_other _ _ _ _ _ _ _ _ (by have := hgA2.from_.1; omega)) fun b hb => set5_other _ _ _ _ _ _ _ _ (by have := (hgA2.from_.2 b hb).1; omega)
        have HGB : Hid (Grid (((((X10.setCell ⟨fB, 0, none⟩ (.int .i64 0)).setCell ⟨fB, 1, none⟩ (.int .i64 (-1))).setCell ⟨fB, 2, none⟩ (.int .i64 (-1))).setCell ⟨fB, 3, none⟩ (.int .i64 (-1))).setCell ⟨fB, 4, none⟩ (.int .i64 (-1))) X9.heap.size gb gsB rsB) := hgB.of_blocks (set5_other _ _ _ _ _ _ _ _ (by have := hgB.from_.1; omega)) fun b hb => set5_other _ _ _ _ _ _ _ _ (by have := (hgB.from_.2 b hb).1; omega)
        have u2A := cell_below hW11 tA2
        have u2B := cell_below hW11 tB2
        clear hgA2 hgB hA11 hB11 HA10 HB10 HS10 HG10 HSB2
        go_wp2_with fail
        clear c0 c1 c2 c3 c4 f0 f1' f2' f3 f4
        generalize ((((X10.setCell ⟨fB, 0, none⟩ (.int .i64 0)).setCell ⟨fB, 1, none⟩ (.int .i64 (-1))).setCell ⟨fB, 2, none⟩ (.int .i64 (-1))).setCell ⟨fB, 3, none⟩ (.int .i64 (-1))).setCell ⟨fB, 4, none⟩ (.int .i64 (-1)) = X11 at *
        refine (HSRA.out X11 ga gsA _ hW11 HGA.out).mono ?_
        rintro e X12 ⟨rfl, hx12⟩
        have u2C := cell_below hx12 u2B
        go_wp2_with fail
        refine (HSRB.out X12 gb gsB _ (below_then hW11 hx12) (HGB.out.below hx12)).mono ?_
        rintro e X13 ⟨rfl, hx13⟩
        have hx14 := below_then hx12 hx13
        have hA13 := HA12.out.below hx14
        have hB13 := HB12.out.below hx14
        have hW13 := below_then hW11 hx14
        obtain ⟨r0, r1, r2, r3, r4⟩ := hA13.cells
        obtain ⟨s0, s1, s2, s3, s4⟩ := hB13.cells
        clear hA13 hB13 HA12 HB12 HGA HGB u2A u2B u2C hW11 hx12 hx13 hx14 hW9 hW8 hx8 hx10
        go_wp2_with fail
        refine wp_region_held_drew (S := fun X => X.cell? ⟨fA, 0, none⟩ = some (.int .i64 0) ∧ X.cell? ⟨fA, 1, none⟩ = some (.int .i64 (-1)) ∧ X.cell? ⟨fA, 2, none⟩ = some (.int .i64 (-1)) ∧ X.cell? ⟨fA, 3, none⟩ = some (.int .i64 (-1)) ∧ X.cell? ⟨fA, 4, none⟩ = some (.int .i64 (-1)) ∧ X.cell? ⟨fB, 0, none⟩ = some (.int .i64 0) ∧ X.cell? ⟨fB, 1, none⟩ = some (.int .i64 (-1)) ∧ X.cell? ⟨fB, 2, none⟩ = some (.int .i64 (-1)) ∧ X.cell? ⟨fB, 3, none⟩ = some (.int .i64 (-1)) ∧ X.cell? ⟨fB, 4, none⟩ = some (.int .i64 (-1))) (by kernel_rfl) ⟨r0, r1, r2, r3, r4, s0, s1, s2, s3, s4⟩ (fun hH => ?_)
        refine wpAnyH_take (i := 0) (v := ?_) rfl (by kernel_rfl) (by kernel_rfl) (by kernel_rfl) (fun _ _ _ h => h) (Or.inl ⟨by rfl, ?_⟩) hH ?_
        rotate_left 1
        · intro w hSw; (try dsimp only at hSw); go_simp; try rfl
        simp only [Act.put, List.getElem_toArray, List.getElem_cons_zero, List.setIfInBounds_toArray, List.set_cons_zero, List.set_cons_succ]
        refine wpAnyH_take (i := 1) (v := ?_) rfl (by kernel_rfl) (by kernel_rfl) (by kernel_rfl) (fun _ _ _ h => h) (Or.inl ⟨by rfl, ?_⟩) hH ?_
        rotate_left 1
        · intro w hSw; (try dsimp only at hSw); go_simp; try rfl
        simp only [Act.put, List.getElem_toArray, List.getElem_cons_zero, List.getElem_cons_succ, List.setIfInBounds_toArray, List.set_cons_zero, List.set_cons_succ]
        refine wpAnyH_take (i := 2) (v := ?_) rfl (by kernel_rfl) (by kernel_rfl) (by kernel_rfl) (fun _ _ _ h => h) (Or.inl ⟨by rfl, ?_⟩) hH ?_
        rotate_left 1
        · intro w hSw; (try dsimp only at hSw); go_simp; try rfl
        simp only [Act.put, List.getElem_toArray, List.getElem_cons_zero, List.getElem_cons_succ, List.setIfInBounds_toArray, List.set_cons_zero, List.set_cons_succ]
        refine wpAnyH_take (i := 3) (v := ?_) rfl (by kernel_rfl) (by kernel_rfl) (by kernel_rfl) (fun _ _ _ h => h) (Or.inl ⟨by rfl, ?_⟩) hH ?_
        rotate_left 1
        · intro w hSw; (try dsimp only at hSw); go_simp; try rfl
        simp only [Act.put, List.getElem_toArray, List.getElem_cons_zero, List.getElem_cons_succ, List.setIfInBounds_toArray, List.set_cons_zero, List.set_cons_succ]
        refine wpAnyH_take (i := 4) (v := ?_) rfl (by kernel_rfl) (by kernel_rfl) (by kernel_rfl) (fun _ _ _ h => h) (Or.inl ⟨by rfl, ?_⟩) hH ?_
        rotate_left 1
        · intro w hSw; (try dsimp only at hSw); go_simp; try rfl
        simp only [Act.put, List.getElem_toArray, List.getElem_cons_zero, List.getElem_cons_succ, List.setIfInBounds_toArray, List.set_cons_zero, List.set_cons_succ]
        refine wpAnyH_take (i := 5) (v := ?_) rfl (by kernel_rfl) (by kernel_rfl) (by kernel_rfl) (fun _ _ _ h => h) (Or.inl ⟨by rfl, ?_⟩) hH ?_
        rotate_left 1
        · intro w hSw; (try dsimp only at hSw); go_simp; try rfl
        simp only [Act.put, List.getElem_toArray, List.getElem_cons_zero, List.getElem_cons_succ, List.setIfInBounds_toArray, List.set_cons_zero, List.set_cons_succ]
        refine wpAnyH_take (i := 6) (v := ?_) rfl (by kernel_rfl) (by kernel_rfl) (by kernel_rfl) (fun _ _ _ h => h) (Or.inl ⟨by rfl, ?_⟩) hH ?_
        rotate_left 1
        · intro w hSw; (try dsimp only at hSw); go_simp; try rfl
        simp only [Act.put, List.getElem_toArray, List.getElem_cons_zero, List.getElem_cons_succ, List.setIfInBounds_toArray, List.set_cons_zero, List.set_cons_succ]
        refine wpAnyH_take (i := 7) (v := ?_) rfl (by kernel_rfl) (by kernel_rfl) (by kernel_rfl) (fun _ _ _ h => h) (Or.inl ⟨by rfl, ?_⟩) hH ?_
        rotate_left 1
        · intro w hSw; (try dsimp only at hSw); go_simp; try rfl
        simp only [Act.put, List.getElem_toArray, List.getElem_cons_zero, List.getElem_cons_succ, List.setIfInBounds_toArray, List.set_cons_zero, List.set_cons_succ]
        refine wpAnyH_take (i := 8) (v := ?_) rfl (by kernel_rfl) (by kernel_rfl) (by kernel_rfl) (fun _ _ _ h => h) (Or.inl ⟨by rfl, ?_⟩) hH ?_
        rotate_left 1
        · intro w hSw; (try dsimp only at hSw); go_simp; try rfl
        simp only [Act.put, List.getElem_toArray, List.getElem_cons_zero, List.getElem_cons_succ, List.setIfInBounds_toArray, List.set_cons_zero, List.set_cons_succ]
        refine wpAnyH_take (i := 9) (v := ?_) rfl (by kernel_rfl) (by kernel_rfl) (by kernel_rfl) (fun _ _ _ h => h) (Or.inl ⟨by rfl, ?_⟩) hH ?_
        rotate_left 1
        · intro w hSw; (try dsimp only at hSw); go_simp; try rfl
        simp only [Act.put, List.getElem_toArray, List.getElem_cons_zero, List.getElem_cons_succ, List.setIfInBounds_toArray, List.set_cons_zero, List.set_cons_succ]
        refine wpAnyH_take (i := 10) (v := ?_) rfl (by kernel_rfl) (by kernel_rfl) (by kernel_rfl) (fun _ _ _ h => h) (Or.inl ⟨by rfl, ?_⟩) hH ?_
        rotate_left 1
        · intro w hSw; (try dsimp only at hSw); go_simp; try rfl
        simp only [Act.put, List.getElem_toArray, List.getElem_cons_zero, List.getElem_cons_succ, List.setIfInBounds_toArray, List.set_cons_zero, List.set_cons_succ]
        refine wpAnyH_take (i := 11) (v := ?_) rfl (by kernel_rfl) (by kernel_rfl) (by kernel_rfl) (fun _ _ _ h => h) (Or.inl ⟨by rfl, ?_⟩) hH ?_
        rotate_left 1
        · intro w hSw; (try dsimp only at hSw); go_simp; try rfl
        simp only [Act.put, List.getElem_toArray, List.getElem_cons_zero, List.getElem_cons_succ, List.setIfInBounds_toArray, List.set_cons_zero, List.set_cons_succ]
        refine wpAnyH_take (i := 12) (v := ?_) rfl (by kernel_rfl) (by kernel_rfl) (by kernel_rfl) (fun _ _ _ h => h) (Or.inl ⟨by rfl, ?_⟩) hH ?_
        rotate_left 1
        · intro w hSw; (try dsimp only at hSw); go_simp; try rfl
        simp only [Act.put, List.getElem_toArray, List.getElem_cons_zero, List.getElem_cons_succ, List.setIfInBounds_toArray, List.set_cons_zero, List.set_cons_succ]
        refine wpAnyH_take (i := 13) (v := ?_) rfl (by kernel_rfl) (by kernel_rfl) (by kernel_rfl) (fun _ _ _ h => h) (Or.inl ⟨by rfl, ?_⟩) hH ?_
        rotate_left 1
        · intro w hSw; (try dsimp only at hSw); go_simp; try rfl
        simp only [Act.put, List.getElem_toArray, List.getElem_cons_zero, List.getElem_cons_succ, List.setIfInBounds_toArray, List.set_cons_zero, List.set_cons_succ]
        refine wpAnyH_take (i := 14) (v := ?_) rfl (by kernel_rfl) (by kernel_rfl) (by kernel_rfl) (fun _ _ _ h => h) (Or.inl ⟨by rfl, ?_⟩) hH ?_
        rotate_left 1
        · intro w hSw; (try dsimp only at hSw); go_simp; try rfl
        simp only [Act.put, List.getElem_toArray, List.getElem_cons_zero, List.getElem_cons_succ, List.setIfInBounds_toArray, List.set_cons_zero, List.set_cons_succ]
        refine wpAnyH_ready (rs := [15]) (by kernel_rfl) (by simp) (AllReadyH.cons rfl (fun K hK => ?_) AllReadyH.nil)
        go_simp
        refine (none_any _).mono ?_
        rintro e XN1 ⟨rfl, hn1⟩
        go_simp
        refine hK.out _ _ ⟨cell_below hn1 hH.1, cell_below hn1 hH.2.1, cell_below hn1 hH.2.2.1, cell_below hn1 hH.2.2.2.1, cell_below hn1 hH.2.2.2.2.1, cell_below hn1 hH.2.2.2.2.2.1, cell_below hn1 hH.2.2.2.2.2.2.1, cell_below hn1 hH.2.2.2.2.2.2.2.1, cell_below hn1 hH.2.2.2.2.2.2.2.2.1, cell_below hn1 hH.2.2.2.2.2.2.2.2.2⟩ (fun hH => ?_)
        clear hK K
        refine wpAnyH_take (i := 16) (v := ?_) rfl (by kernel_rfl) (by kernel_rfl) (by kernel_rfl) (fun _ _ _ h => h) (Or.inl ⟨by rfl, ?_⟩) hH ?_
        rotate_left 1
        · intro w hSw; (try dsimp only at hSw); go_simp; try rfl
        simp only [Act.put, List.getElem_toArray, List.getElem_cons_zero, List.getElem_cons_succ, List.setIfInBounds_toArray, List.set_cons_zero, List.set_cons_succ]
        refine wpAnyH_take (i := 17) (v := ?_) rfl (by kernel_rfl) (by kernel_rfl) (by kernel_rfl) (fun _ _ _ h => h) (Or.inl ⟨by rfl, ?_⟩) hH ?_
        rotate_left 1
        · intro w hSw; (try dsimp only at hSw); go_simp; try rfl
        simp only [Act.put, List.getElem_toArray, List.getElem_cons_zero, List.getElem_cons_succ, List.setIfInBounds_toArray, List.set_cons_zero, List.set_cons_succ]
        refine wpAnyH_take (i := 18) (v := ?_) rfl (by kernel_rfl) (by kernel_rfl) (by kernel_rfl) (fun _ _ _ h => h) (Or.inl ⟨by rfl, ?_⟩) hH ?_
        rotate_left 1
        · intro w hSw; (try dsimp only at hSw); go_simp; try rfl
        simp only [Act.put, List.getElem_toArray, List.getElem_cons_zero, List.getElem_cons_succ, List.setIfInBounds_toArray, List.set_cons_zero, List.set_cons_succ]
        refine wpAnyH_take (i := 19) (v := ?_) rfl (by kernel_rfl) (by kernel_rfl) (by kernel_rfl) (fun _ _ _ h => h) (Or.inl ⟨by rfl, ?_⟩) hH ?_
        rotate_left 1
        · intro w hSw; (try dsimp only at hSw); go_simp; try rfl
        simp only [Act.put, List.getElem_toArray, List.getElem_cons_zero, List.getElem_cons_succ, List.setIfInBounds_toArray, List.set_cons_zero, List.set_cons_succ]
        refine wpAnyH_ready (rs := [20]) (by kernel_rfl) (by simp) (AllReadyH.cons rfl (fun K hK => ?_) AllReadyH.nil)
        go_simp
        refine (none_any _).mono ?_
        rintro e XN2 ⟨rfl, hn2⟩
        go_simp
        refine hK.out _ _ ⟨cell_below hn2 hH.1, cell_below hn2 hH.2.1, cell_below hn2 hH.2.2.1, cell_below hn2 hH.2.2.2.1, cell_below hn2 hH.2.2.2.2.1, cell_below hn2 hH.2.2.2.2.2.1, cell_below hn2 hH.2.2.2.2.2.2.1, cell_below hn2 hH.2.2.2.2.2.2.2.1, cell_below hn2 hH.2.2.2.2.2.2.2.2.1, cell_below hn2 hH.2.2.2.2.2.2.2.2.2⟩ (fun hH => ?_)
        clear hK K
        refine wpAnyH_take (i := 21) (v := ?_) rfl (by kernel_rfl) (by kernel_rfl) (by kernel_rfl) (fun _ _ _ h => h) (Or.inl ⟨by rfl, ?_⟩) hH ?_
        rotate_left 1
        · intro w hSw; (try dsimp only at hSw); go_simp; try rfl
        simp only [Act.put, List.getElem_toArray, List.getElem_cons_zero, List.getElem_cons_succ, List.setIfInBounds_toArray, List.set_cons_zero, List.set_cons_succ]
        refine wpAnyH_take (i := 22) (v := ?_) rfl (by kernel_rfl) (by kernel_rfl) (by kernel_rfl) (fun _ _ _ h => h) (Or.inl ⟨by rfl, ?_⟩) hH ?_
        rotate_left 1
        · intro w hSw; (try dsimp only at hSw); go_simp; try rfl
        simp only [Act.put, List.getElem_toArray, List.getElem_cons_zero, List.getElem_cons_succ, List.setIfInBounds_toArray, List.set_cons_zero, List.set_cons_succ]
        refine wpAnyH_take (i := 23) (v := ?_) rfl (by kernel_rfl) (by kernel_rfl) (by kernel_rfl) (fun _ _ _ h => h) (Or.inl ⟨by rfl, ?_⟩) hH ?_
        rotate_left 1
        · intro w hSw; (try dsimp only at hSw); go_simp; try rfl
        simp only [Act.put, List.getElem_toArray, List.getElem_cons_zero, List.getElem_cons_succ, List.setIfInBounds_toArray, List.set_cons_zero, List.set_cons_succ]
        refine wpAnyH_done (by kernel_rfl) ?_ _
        go_wp2
        go_ret
        exact ⟨rfl, below_then HB0.out (below_then hW13 (below_undrew (below_then hn1 hn2)))⟩
end Go.Proofs.YtfgklnenpichcaaGreatDoor
