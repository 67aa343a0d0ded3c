/- The law Kept, walked. -/
import Derived.Test.YtfgklnenpichcaaGreatDoorHf
namespace Go.Proofs.YtfgklnenpichcaaGreatDoor
open Go.RowKit Go.Shelf

/-- A fault's cells. -/
abbrev faultObj (c col : Int) : Obj := .cells #[.int .i64 c, .int .i64 (-1), .int .i64 (-1), .int .i64 col, .int .i64 (-1)] 43
def LoadR.code : LoadR → Int
  | .inl _ => 1
  | .inr (.inl _) => 4
  | .inr (.inr (.inl _)) => 2
  | .inr (.inr (.inr (.inl x))) => if x.1 then 5 else 6
  | .inr (.inr (.inr (.inr _))) => 0
def LoadR.col : LoadR → Int
  | .inr (.inr (.inl c)) => (c : Int)
  | _ => -1
theorem LoadR.fault_eq (r : LoadR) : r.fault = faultAt r.code r.col (-1) := by rcases r with _ | _ | c | ⟨x, E⟩ | ⟨E, T⟩ <;> rfl

abbrev keptName : ByteArray := ⟨#[107, 101, 112, 116]⟩
abbrev otherName : ByteArray := ⟨#[111, 116, 104, 101, 114]⟩
abbrev nullV : V := ⟨0, 0, ⟨#[]⟩⟩

/-- What stands behind the law's Load. -/
def KeptMid (W3 : World) (st : Nat) (E : DS) (T0 : TS) (ts hs : List Int) (rs : List (List V)) (fa : Nat) (wx : World) : Prop :=
  ∃ (g : Int) (r : LoadR) (M : Nat → Prop), 1 ≤ g ∧ g ≤ 64 ∧ r = loadR E [T0] keptName ts hs rs g ∧ wx.heap[fa]? = some (.cells #[.int .i64 r.code, .int .i64 (-1), .int .i64 (-1), .int .i64 r.col, .int .i64 (-1)] 43 (0, 0)) ∧ Below W3.heap.size W3 wx ∧ Sto M wx st (r.d E) (r.ts [T0]) ∧ ¬ M fa ∧ (∀ k, M k → W3.heap.size ≤ k)

theorem kept_move {M : Nat → Prop} {W3 X X2 wx : World} {st : Nat} {E : DS} {T0 : TS} {ts hs : List Int} {rs : List (List V)} {fa : Nat} {g : Int} (hg : 1 ≤ g ∧ g ≤ 64) {e : Ending} (h : SLoadPost M X st E [T0] (loadR E [T0] keptName ts hs rs g) e X2) (hM : ∀ k, M k → W3.heap.size ≤ k) (hb : Below W3.heap.size W3 X) (hs' : X2.heap.size ≤ wx.heap.size) (ho : wx.os = X2.os) (ht : wx.tape = X2.tape) (hu : wx.output = X2.output) (hk : ∀ k, k < X2.heap.size → k ≠ fa → wx.heap[k]? = X2.heap[k]?) (hn : ¬ M fa) (hfa : fa < X.heap.size ∨ X2.heap.size ≤ fa) (hf3 : W3.heap.size ≤ fa)
    (hc : wx.heap[fa]? = some (.cells #[.int .i64 (loadR E [T0] keptName ts hs rs g).code, .int .i64 (-1), .int .i64 (-1), .int .i64 (loadR E [T0] keptName ts hs rs g).col, .int .i64 (-1)] 43 (0, 0))) : KeptMid W3 st E T0 ts hs rs fa wx := by
  obtain ⟨_, hkp, M', h1, h2, h3⟩ := h
  have z1 := hb.size
  have z2 := hkp.size
  have hnm : ¬ M' fa := fun hm => by
    have := h1.lt fa hm
    rcases h3 fa hm with a | a
    · exact hn a
    · omega
  refine ⟨g, _, M', hg.1, hg.2, rfl, hc, ?_, h1.stands hs' fun k hm => hk k (h1.lt k hm) fun e => hnm (e ▸ hm), hnm, fun k hm => ?_⟩
  · refine hb.trans ⟨ho.trans hkp.os, ht.trans hkp.tape, hu.trans hkp.output, by omega, fun k hk' => (hk k (by omega) (by omega)).trans (hkp.block k (by omega) fun hm => by have := hM k hm; omega)⟩
  · rcases h3 k hm with a | a
    · exact hM k a
    · omega

/-- The other table, held. -/
theorem held_other (W3 X : World) (hX : Below W3.heap.size W3 X) (a0 a1 a2 tt q wr pg pl ex ta : Addr) (hN : Names W3 a0 a1 a2 tt q wr pg pl ex ta) :
    Calls Tryz.prog 11 #[.agg #[.int .i64 1048576, .int .i64 0], .slice (some ⟨X.heap.size + 1 + 1 + 1, 0, none⟩) 1 1] ((((X.alloc (.cells #[.int .i64 2] 3)).alloc (.cells #[.int .i64 0, .int .i64 0, .string ⟨#[]⟩] 36)).alloc (.cells #[.slice (some ⟨X.heap.size + 1, 0, none⟩) 1 1] 38)).alloc (.cells #[.string otherName, .slice (some ⟨X.heap.size, 0, none⟩) 1 1, .slice (some ⟨X.heap.size + 1 + 1, 0, none⟩) 1 1] 26)) fun e X' => ∃ st, e = .returned (.pointer (some ⟨st, 0, none⟩)) ∧ StoOne W3 X' st otherName [[nullV]] := by
  obtain ⟨W, hW⟩ : ∃ W, W = ((((X.alloc (.cells #[.int .i64 2] 3)).alloc (.cells #[.int .i64 0, .int .i64 0, .string ⟨#[]⟩] 36)).alloc (.cells #[.slice (some ⟨X.heap.size + 1, 0, none⟩) 1 1] 38)).alloc (.cells #[.string otherName, .slice (some ⟨X.heap.size, 0, none⟩) 1 1, .slice (some ⟨X.heap.size + 1 + 1, 0, none⟩) 1 1] 26)) := ⟨_, rfl⟩
  rw [← hW]
  have hbW : Below X.heap.size X W := by rw [hW]; exact ((((Below.refl _ X).alloc (Nat.le_refl _) _).alloc (by simp) _).alloc (by simp; omega) _).alloc (by simp; omega) _
  have e3 : W.heap[X.heap.size + 1 + 1 + 1]? = some (.cells #[.string otherName, .slice (some ⟨X.heap.size, 0, none⟩) 1 1, .slice (some ⟨X.heap.size + 1 + 1, 0, none⟩) 1 1] 26 (0, 0)) := by rw [hW]; exact alloc_at _ _ _ (by simp)
  have e2 : W.heap[X.heap.size + 1 + 1]? = some (.cells #[.slice (some ⟨X.heap.size + 1, 0, none⟩) 1 1] 38 (0, 0)) := by rw [hW, Below.heap_alloc _ _ _ (by simp)]; exact alloc_at _ _ _ (by simp)
  have e1 : W.heap[X.heap.size + 1]? = some (.cells #[.int .i64 0, .int .i64 0, .string ⟨#[]⟩] 36 (0, 0)) := by rw [hW, Below.heap_alloc _ _ _ (by simp), Below.heap_alloc _ _ _ (by simp)]; exact alloc_at _ _ _ (by simp)
  have e0 : W.heap[X.heap.size]? = some (.cells #[.int .i64 2] 3 (0, 0)) := by rw [hW, Below.heap_alloc _ _ _ (by simp; omega), Below.heap_alloc _ _ _ (by simp; omega), Below.heap_alloc _ _ _ (by simp)]; exact alloc_at _ _ _ rfl
  have hT := one_tab (name := otherName) (v := nullV) e0 e1 e2 (by decide) (by decide) (by simp [okB, okK]) (by simp [inI64])
  have hb3 := below_then hX hbW
  exact (held_one _ otherName _ _ 1 1 [2] _ [[nullV]] W hT (by simp [World.cell?, e3]) (by simp [World.cell?, e3]) (by simp [World.cell?, e3]) a0 a1 a2 tt q wr pg pl ex ta (hN.below hb3)).mono fun e X' ⟨hbx, st, M, he, hl, hm⟩ => ⟨st, he, loaded_one hl hb3 hbx hm⟩

set_option maxRecDepth 100000 in
set_option maxHeartbeats 4000000 in
theorem kept_any (rn : ByteArray) (at_ ar aw : Option Addr) (ct cr cw : Nat) (ns ws : List Int) (xs : List (Option Addr × Nat)) (raws : List (List V)) (g0 : Int) (w : World) (hn : ns.length ≤ maxLen) (hrr : ∀ r ∈ raws, r.length ≤ maxLen) (hin : ∀ r ∈ raws, ∀ v ∈ r, inI64 v.k ∧ inI64 v.n) (hx : Ints w at_ ns) (hy : RowsAt w ar xs raws) (hw : Ints w aw ws) (hwi : ∀ n ∈ ws, inI64 n) (hg0 : inI64 g0)
    (a0 a1 a2 tt q wr pg pl ex ta : Addr) (hN : Names w a0 a1 a2 tt q wr pg pl ex ta) :
    Calls Tryz.prog 4 #[.agg #[.string rn, .slice at_ ns.length ct, .slice ar raws.length cr], .slice aw ws.length cw, .int .i64 g0] w fun e w' => e = .returned (.bool true) ∧ Below w.heap.size w w' := by
  have hb0 : Below w.heap.size w (w.alloc (.cells #[.string rn, .slice at_ ns.length ct, .slice ar raws.length cr] 26)) := (Below.refl _ w).alloc (Nat.le_refl _) _
  obtain ⟨W0, hW0⟩ : ∃ W, W = w.alloc (.cells #[.string rn, .slice at_ ns.length ct, .slice ar raws.length cr] 26) := ⟨_, rfl⟩
  have q0 : W0.cell? ⟨w.heap.size, 0, none⟩ = some (.string rn) := by rw [hW0]; simp
  have q1 : W0.cell? ⟨w.heap.size, 1, none⟩ = some (.slice at_ ns.length ct) := by rw [hW0]; simp
  have q2 : W0.cell? ⟨w.heap.size, 2, none⟩ = some (.slice ar raws.length cr) := by rw [hW0]; simp
  rw [← hW0] at hb0
  have HN : Hid (Names w a0 a1 a2 tt q wr pg pl ex ta) := hN
  have hsure := sure_any W0 a0 a1 a2 tt q wr pg pl ex ta (hN.below hb0)
  have HTB : Hid (∀ W, Below w.heap.size w W → Calls Tryz.prog 9 #[.agg #[.string rn, .slice at_ ns.length ct, .slice ar raws.length cr], .string keptName, .int .i64 ((200 : Nat) : Int)] W fun e w' => ∃ ts rs tya tyc ra rc ys, e = .returned (.agg #[.string keptName, .slice tya ts.length tyc, .slice ra rs.length rc]) ∧ TabRight w' keptName tya ra rc ts ys rs ∧ Below W.heap.size W w') := fun W hb => (ktable_any rn keptName at_ ar ct cr 200 ns xs raws W (by omega) hn hrr hin (hx.below hb) (hy.below hb)).mono fun e w' ⟨ts, rs, v, he, ht, hl, hbx⟩ => by
    obtain ⟨tya, tyc, ra, rc, ys, rfl, hr⟩ := ht.right hl (by decide)
    exact ⟨ts, rs, tya, tyc, ra, rc, ys, he, hr, hbx⟩
  have HWI : Hid ((∀ n ∈ ws, inI64 n) ∧ Ints w aw ws) := ⟨hwi, hw⟩
  have HG : Hid (inI64 g0) := hg0
  clear hN hn hrr hin hx hy hw hwi hg0
  go_enter Tryz.func4, Tryz.ntmps4
  go_wp2_with (first | (go_at_call 8; rw [← hW0]; refine hsure.mono ?_; rintro e W1 ⟨rfl, hb1⟩; have hb2 := below_then hb0 hb1; have d0 := cell_below hb1 q0; have d1 := cell_below hb1 q1; have d2 := cell_below hb1 q2))
  refine (HTB.out W1 hb2).mono ?_
  rintro e W2 ⟨ts, rs, tya, tyc, ra, rc, ys, rfl, hR, hb3⟩
  have HR2 : Hid (TabRight W2 keptName tya ra rc ts ys rs) := hR
  have hb4 := below_then hb2 hb3
  clear hR hsure d0 d1 d2 q0 q1 q2 hW0
  have hb5 : Below W2.heap.size W2 (W2.alloc (.cells #[.string keptName, .slice tya ts.length tyc, .slice ra rs.length rc] 26)) := (Below.refl _ _).alloc (Nat.le_refl _) _
  have HHW : Hid (∀ X, Below W2.heap.size W2 X → Calls Tryz.prog 10 #[.agg #[.string keptName, .slice tya ts.length tyc, .slice ra rs.length rc], .slice aw ws.length cw] X fun e X' => Below X.heap.size X X' ∧ ∃ (ah : Option Addr) (ch : Nat) (hs : List Int), e = .returned (.slice ah hs.length ch) ∧ Ints X' ah hs ∧ HowsI ts ws hs ts.length) := fun X hX => by
    have := khows_any (.string keptName) (.slice ra rs.length rc) tya aw tyc cw ts ws X HR2.out.tab.2.1.1.2 HR2.out.tok HWI.out.1 (HR2.out.types.below hX) (HWI.out.2.below (below_then hb4 hX))
    refine this.mono fun e X' ⟨hs, sv, he, ho, hI, hbx⟩ => ?_
    obtain ⟨a, c, hsv, hc⟩ := ho.cells
    rw [List.length_map] at hsv
    subst hsv
    exact ⟨hbx, a, c, hs, he, hc, hI⟩
  go_wp2_with (first | (go_at_call 10; refine (HHW.out _ hb5).mono ?_; rintro e W3 ⟨hb6, ah, ch, hs, rfl, hIh, hHI⟩))
  have HI3 : Hid (Ints W3 ah hs) := hIh
  have HHI : Hid (HowsI ts ws hs ts.length) := hHI
  clear hIh hHI
  have hb7 := below_then hb5 hb6
  have HR3 : Hid (TabRight W3 keptName tya ra rc ts ys rs) := HR2.out.below hb7
  have hb8 := below_then hb4 hb7
  have HN3 : Hid (Names W3 a0 a1 a2 tt q wr pg pl ex ta) := HN.out.below hb8
  have htb : W3.heap[W2.heap.size]? = some (.cells #[.string keptName, .slice tya ts.length tyc, .slice ra rs.length rc] 26 (0, 0)) := (hb6.block _ (by simp)).trans (heap_alloc_new _ _)
  have t0 : W3.cell? ⟨W2.heap.size, 0, none⟩ = some (.string keptName) := by simp [World.cell?, htb]
  have t1 : W3.cell? ⟨W2.heap.size, 1, none⟩ = some (.slice tya ts.length tyc) := by simp [World.cell?, htb]
  have t2 : W3.cell? ⟨W2.heap.size, 2, none⟩ = some (.slice ra rs.length rc) := by simp [World.cell?, htb]
  clear HR2 HHW HTB HN
  go_wp2_with (first | (go_at_call 12; refine (room_any _).mono ?_; rintro e X4 ⟨rfl, hx4⟩) | (go_at_call 11; refine (held_other W3 X4 hx4 a0 a1 a2 tt q wr pg pl ex ta HN3.out).mono ?_; rintro e X5 ⟨st, rfl, hx5, M, E, T0, hsto, hstand, hname, hquota, hfail, hpages, hwrites, hM⟩) | (go_at_call 13; refine (Used_sto M st E [T0] X5 hsto).mono ?_; rintro e X6 ⟨rfl, rfl⟩))
  have HST : Hid (Sto M X6 st E [T0]) := hsto
  have HSD : Hid (Stand E [(T0, [[nullV]])]) := hstand
  have HM : Hid (∀ k, M k → W3.heap.size ≤ k) := hM
  clear hsto hstand hM
  have HPK : Hid (∀ W, Calls Tryz.prog 15 #[.int .i64 g0, .int .i64 ((64 : Nat) : Int)] W fun e w' => (∃ r : Nat, e = .returned (.int .i64 r) ∧ r < 64) ∧ w' = W) := fun W => pick_any g0 64 W HG.out (by decide) (by decide)
  have HLD : Hid (∀ X (r : Nat), Below X6.heap.size X6 X → r < 64 → Calls Tryz.prog 14 #[.pointer (some ⟨st, 0, none⟩), .agg #[.string keptName, .slice tya ts.length tyc, .slice ra rs.length rc], .slice ah hs.length ch, .int .i64 (1 + (r : Int))] X fun e X' => ∃ cd cl, cd = (loadR E [T0] keptName ts hs rs (1 + (r : Int))).code ∧ cl = (loadR E [T0] keptName ts hs rs (1 + (r : Int))).col ∧ e = .returned (faultAt cd cl (-1)) ∧ SLoadPost M X st E [T0] (loadR E [T0] keptName ts hs rs (1 + (r : Int))) e X') := fun X r hX hr => by
    have hb3X : Below W3.heap.size W3 X := hx5.trans (hX.mono hx5.size)
    have hl6 : hs.length ≤ 6 := by rw [HHI.out.len]; exact HR3.out.tab.2.1.1.2
    refine (Load_any M st E [T0] keptName tya ra ah tyc rc ch ts hs ys rs (1 + (r : Int)) X (HST.out.below hX) ((HR3.out.below hb3X).arg (HI3.out.below hb3X) hl6) (fun b o hb hm => ?_) (by simp at hpages; omega) a0 a1 a2 tt q wr pg pl ex ta W3 HN3.out hb3X HM.out).mono fun e X' hp => ⟨_, _, rfl, rfl, by rw [← LoadR.fault_eq]; exact hp.1, hp⟩
    have h1 := HM.out b hm
    rcases HR3.out.types with h0 | ⟨b2, o2, hb3, hlt, _⟩
    · have := HR3.out.tab.2.1.1.1; simp at h0; rw [h0] at this; simp at this
    · rw [hb] at hb3; simp at hb3; try omega
  have u0 := cell_below hx5 t0
  have u1 := cell_below hx5 t1
  have u2 := cell_below hx5 t2
  go_cut [12] from 45 to 51 (fun f wx => ∃ fa : Nat, f = .pointer (some ⟨fa, 0, none⟩) ∧ KeptMid W3 st E T0 ts hs rs fa wx)
  case first =>
    refine wp_region_held_drew (S := fun X => X.cell? ⟨W2.heap.size, 0, none⟩ = some (.string keptName) ∧ X.cell? ⟨W2.heap.size, 1, none⟩ = some (.slice tya ts.length tyc) ∧ X.cell? ⟨W2.heap.size, 2, none⟩ = some (.slice ra rs.length rc)) (by kernel_rfl) ⟨u0, u1, u2⟩ (fun hH => ?_)
    have hcd0 : Below X6.heap.size X6 X6.drew := ⟨rfl, rfl, rfl, Nat.le_refl _, fun _ _ => rfl⟩
    refine wpAnyH_take (i := 0) (v := ?_) rfl (by kernel_rfl) (by kernel_rfl) (by kernel_rfl) (fun _ _ _ h => h) (Or.inl ⟨by rfl, ?_⟩) hH ?_
    rotate_left 1
    · intro w hSw; (try dsimp only at hSw); go_simp; try rfl
    simp only [Act.put, List.getElem_toArray, List.getElem_cons_zero, List.setIfInBounds_toArray, List.set_cons_zero, List.set_cons_succ]
    refine wpAnyH_take (i := 1) (v := ?_) rfl (by kernel_rfl) (by kernel_rfl) (by kernel_rfl) (fun _ _ _ h => h) (Or.inl ⟨by rfl, ?_⟩) hH ?_
    rotate_left 1
    · intro w hSw; (try dsimp only at hSw); go_simp; try rfl
    simp only [Act.put, List.getElem_toArray, List.getElem_cons_zero, List.getElem_cons_succ, List.setIfInBounds_toArray, List.set_cons_zero, List.set_cons_succ]
    refine wpAnyH_take (i := 2) (v := ?_) rfl (by kernel_rfl) (by kernel_rfl) (by kernel_rfl) (fun _ _ _ h => h) (Or.inl ⟨by rfl, ?_⟩) hH ?_
    rotate_left 1
    · intro w hSw; (try dsimp only at hSw); go_simp; try rfl
    simp only [Act.put, List.getElem_toArray, List.getElem_cons_zero, List.getElem_cons_succ, List.setIfInBounds_toArray, List.set_cons_zero, List.set_cons_succ]
    refine wpAnyH_take (i := 3) (v := ?_) rfl (by kernel_rfl) (by kernel_rfl) (by kernel_rfl) (fun _ _ _ h => h) (Or.inl ⟨by rfl, ?_⟩) hH ?_
    rotate_left 1
    · intro w hSw; (try dsimp only at hSw); go_simp; try rfl
    simp only [Act.put, List.getElem_toArray, List.getElem_cons_zero, List.getElem_cons_succ, List.setIfInBounds_toArray, List.set_cons_zero, List.set_cons_succ]
    refine wpAnyH_ready (rs := [4, 7]) (by kernel_rfl) (by simp) (AllReadyH.cons rfl (fun K hK => ?_) (AllReadyH.cons rfl (fun K hK => ?_) AllReadyH.nil))
    · go_simp
      refine (HPK.out _).mono ?_
      rintro e X7 ⟨⟨r, rfl, hr⟩, hX7⟩
      subst hX7
      have hwr : IntKind.i64.wrap (1 + (r : Int)) = 1 + (r : Int) := by rw [IntKind.wrap_i64]; omega
      go_simp
      refine hK.out _ _ hH (fun hH => ?_)
      clear hK K
      refine wpAnyH_take (i := 5) (v := ?_) rfl (by kernel_rfl) (by kernel_rfl) (by kernel_rfl) (fun _ _ _ h => h) (Or.inl ⟨by rfl, ?_⟩) hH ?_
      rotate_left 1
      · intro w hSw; (try dsimp only at hSw); go_simp; try rfl
      simp only [Act.put, List.getElem_toArray, List.getElem_cons_zero, List.getElem_cons_succ, List.setIfInBounds_toArray, List.set_cons_zero, List.set_cons_succ]
      refine wpAnyH_ready (rs := [6, 7]) (by kernel_rfl) (by simp) (AllReadyH.cons rfl (fun K hK => ?_) (AllReadyH.cons rfl (fun K hK => ?_) AllReadyH.nil))
      · go_simp
        refine (HLD.out X6.drew r hcd0 hr).mono ?_
        rintro e X8 ⟨cd, cl, hcd, hcl, rfl, hpost⟩
        have hkL : Keep M X6.drew X8 := hpost.2.1
        have HPO : Hid (∃ e, SLoadPost M X6.drew st E [T0] (loadR E [T0] keptName ts hs rs (1 + (r : Int))) e X8) := ⟨_, hpost⟩
        have HCD : Hid (cd = (loadR E [T0] keptName ts hs rs (1 + (r : Int))).code ∧ cl = (loadR E [T0] keptName ts hs rs (1 + (r : Int))).col) := ⟨hcd, hcl⟩
        clear hpost hcd hcl
        have hcL : Below X6.heap.size X6 X6.drew := hcd0
        have hnb : ¬ M W2.heap.size := fun hm => by have h1 := HM.out _ hm; have h2 := lt_of_heap htb; omega
        go_simp
        refine hK.out _ _ ⟨hkL.cell hH.1 hnb, hkL.cell hH.2.1 hnb, hkL.cell hH.2.2 hnb⟩ (fun hH => ?_)
        clear hK K
        refine wpAnyH_ready (rs := [7]) (by kernel_rfl) (by simp) (AllReadyH.cons rfl (fun K hK => ?_) AllReadyH.nil)
        go_simp
        have hby : Below X8.heap.size X8 (X8.alloc zeroFault) := (Below.refl _ X8).alloc (Nat.le_refl _) zeroFault
        have hfy : (X8.alloc zeroFault).heap[X8.heap.size]? = some (.cells #[.int .i64 0, .int .i64 0, .int .i64 0, .int .i64 0, .int .i64 0] 43 (0, 0)) := heap_alloc_new X8 zeroFault
        refine hK.out _ _ ⟨cell_below hby hH.1, cell_below hby hH.2.1, cell_below hby hH.2.2⟩ (fun hH => ?_)
        clear hK K
        obtain ⟨Y0, hY0⟩ : ∃ Y, Y = X8.alloc zeroFault := ⟨_, rfl⟩
        rw [← hY0] at hby hfy hH ⊢
        clear hY0
        have hfz : Y0.heap[X8.heap.size]? = some (.cells #[.int .i64 0, .int .i64 0, .int .i64 0, .int .i64 0, .int .i64 0] 43 (0, 0)) := hfy
        have k0 : Y0.cell? ⟨X8.heap.size, 0, none⟩ = some (.int .i64 0) := by simp [World.cell?, hfz]
        have k1 : Y0.cell? ⟨X8.heap.size, 1, none⟩ = some (.int .i64 0) := by simp [World.cell?, hfz]
        have k2 : Y0.cell? ⟨X8.heap.size, 2, none⟩ = some (.int .i64 0) := by simp [World.cell?, hfz]
        have k3 : Y0.cell? ⟨X8.heap.size, 3, none⟩ = some (.int .i64 0) := by simp [World.cell?, hfz]
        have k4 : Y0.cell? ⟨X8.heap.size, 4, none⟩ = some (.int .i64 0) := by simp [World.cell?, hfz]
        have fz : ∀ o : Nat, Y0.frozen? ⟨X8.heap.size, o, none⟩ = false := fun o => by simp [World.frozen?, hfz]
        have f0 := fz 0
        have f1 := fz 1
        have f2 := fz 2
        have f3 := fz 3
        have f4 := fz 4
        have hk5 := heap_set (heap_set (heap_set (heap_set (heap_set hfz 0 (.int .i64 cd)) 1 (.int .i64 (-1))) 2 (.int .i64 (-1))) 3 (.int .i64 cl)) 4 (.int .i64 (-1))
        simp only [List.setIfInBounds_toArray, List.set_cons_zero, List.set_cons_succ] at hk5
        have zt : W2.heap.size < W3.heap.size := lt_of_heap htb
        have z36 := hx5.size
        have zcl := hcL.size
        have zkl := hkL.size
        have hcs : ∀ o : Nat, (((((Y0.setCell ⟨X8.heap.size, 0, none⟩ (.int .i64 cd)).setCell ⟨X8.heap.size, 1, none⟩ (.int .i64 (-1))).setCell ⟨X8.heap.size, 2, none⟩ (.int .i64 (-1))).setCell ⟨X8.heap.size, 3, none⟩ (.int .i64 cl)).setCell ⟨X8.heap.size, 4, none⟩ (.int .i64 (-1))).cell? ⟨W2.heap.size, o, none⟩ = Y0.cell? ⟨W2.heap.size, o, none⟩ := fun o => by simp only [World.cell?, set5_other _ _ _ _ _ _ _ W2.heap.size (by omega : W2.heap.size ≠ X8.heap.size)]
        have hfin : KeptMid W3 st E T0 ts hs rs (X8.heap.size) (((((Y0.setCell ⟨X8.heap.size, 0, none⟩ (.int .i64 cd)).setCell ⟨X8.heap.size, 1, none⟩ (.int .i64 (-1))).setCell ⟨X8.heap.size, 2, none⟩ (.int .i64 (-1))).setCell ⟨X8.heap.size, 3, none⟩ (.int .i64 cl)).setCell ⟨X8.heap.size, 4, none⟩ (.int .i64 (-1))) := by
          obtain ⟨e', hpo⟩ := HPO.out
          obtain ⟨rfl, rfl⟩ := HCD.out
          exact kept_move ⟨by omega, by omega⟩ hpo HM.out (hx5.trans (hcL.mono z36)) (by rw [set5_size]; exact hby.size) hby.os hby.tape hby.output (fun k hk hne => (set5_other _ _ _ _ _ _ _ k hne).trans (hby.block k hk)) (fun hm => by have h1 := HST.out.lt _ hm; omega) (.inr (Nat.le_refl _)) (by omega) hk5
        have HFIN : Hid (KeptMid W3 st E T0 ts hs rs (X8.heap.size) (((((Y0.setCell ⟨X8.heap.size, 0, none⟩ (.int .i64 cd)).setCell ⟨X8.heap.size, 1, none⟩ (.int .i64 (-1))).setCell ⟨X8.heap.size, 2, none⟩ (.int .i64 (-1))).setCell ⟨X8.heap.size, 3, none⟩ (.int .i64 cl)).setCell ⟨X8.heap.size, 4, none⟩ (.int .i64 (-1)))) := hfin
        clear hfin fz hfz hk5
        refine wpAnyH_ready (rs := [8]) (by kernel_rfl) (by simp) (AllReadyH.cons rfl (fun K hK => ?_) AllReadyH.nil)
        go_simp
        refine hK.out _ _ ⟨(hcs 0).trans hH.1, (hcs 1).trans hH.2.1, (hcs 2).trans hH.2.2⟩ (fun hH => ?_)
        clear hK K hcs k0 k1 k2 k3 k4 f0 f1 f2 f3 f4
        refine wpAnyH_done (by kernel_rfl) ?_ _
        go_wp2_with fail
        go_meet
        case rel => exact ⟨X8.heap.size, rfl, HFIN.out⟩
      · go_simp
        have hby : Below X6.drew.heap.size X6.drew ((X6.alloc zeroFault).drew) := (Below.refl _ X6.drew).alloc (Nat.le_refl _) zeroFault
        have hfy : ((X6.alloc zeroFault).drew).heap[X6.heap.size]? = some (.cells #[.int .i64 0, .int .i64 0, .int .i64 0, .int .i64 0, .int .i64 0] 43 (0, 0)) := heap_alloc_new X6.drew zeroFault
        refine hK.out _ _ ⟨cell_below hby hH.1, cell_below hby hH.2.1, cell_below hby hH.2.2⟩ (fun hH => ?_)
        clear hK K
        obtain ⟨Y1, hY1⟩ : ∃ Y, Y = (X6.alloc zeroFault).drew := ⟨_, rfl⟩
        rw [← hY1] at hby hfy hH ⊢
        clear hY1
        have hcy : Below X6.heap.size X6 Y1 := below_then hcd0 hby
        refine wpAnyH_ready (rs := [6]) (by kernel_rfl) (by simp) (AllReadyH.cons rfl (fun K hK => ?_) AllReadyH.nil)
        go_simp
        refine (HLD.out Y1 r hcy hr).mono ?_
        rintro e X8 ⟨cd, cl, hcd, hcl, rfl, hpost⟩
        have hkL : Keep M Y1 X8 := hpost.2.1
        have HPO : Hid (∃ e, SLoadPost M Y1 st E [T0] (loadR E [T0] keptName ts hs rs (1 + (r : Int))) e X8) := ⟨_, hpost⟩
        have HCD : Hid (cd = (loadR E [T0] keptName ts hs rs (1 + (r : Int))).code ∧ cl = (loadR E [T0] keptName ts hs rs (1 + (r : Int))).col) := ⟨hcd, hcl⟩
        clear hpost hcd hcl
        have hcL : Below X6.heap.size X6 Y1 := hcy
        have hnb : ¬ M W2.heap.size := fun hm => by have h1 := HM.out _ hm; have h2 := lt_of_heap htb; omega
        have nfa : ¬ M X6.heap.size := fun hm => Nat.lt_irrefl _ (HST.out.lt _ hm)
        have hfz : X8.heap[X6.heap.size]? = some (.cells #[.int .i64 0, .int .i64 0, .int .i64 0, .int .i64 0, .int .i64 0] 43 (0, 0)) := (hkL.block _ (lt_of_heap hfy) nfa).trans hfy
        have lfa : X6.heap.size < Y1.heap.size := lt_of_heap hfy
        go_simp
        refine hK.out _ _ ⟨hkL.cell hH.1 hnb, hkL.cell hH.2.1 hnb, hkL.cell hH.2.2 hnb⟩ (fun hH => ?_)
        clear hK K
        have k0 : X8.cell? ⟨X6.heap.size, 0, none⟩ = some (.int .i64 0) := by simp [World.cell?, hfz]
        have k1 : X8.cell? ⟨X6.heap.size, 1, none⟩ = some (.int .i64 0) := by simp [World.cell?, hfz]
        have k2 : X8.cell? ⟨X6.heap.size, 2, none⟩ = some (.int .i64 0) := by simp [World.cell?, hfz]
        have k3 : X8.cell? ⟨X6.heap.size, 3, none⟩ = some (.int .i64 0) := by simp [World.cell?, hfz]
        have k4 : X8.cell? ⟨X6.heap.size, 4, none⟩ = some (.int .i64 0) := by simp [World.cell?, hfz]
        have fz : ∀ o : Nat, X8.frozen? ⟨X6.heap.size, o, none⟩ = false := fun o => by simp [World.frozen?, hfz]
        have f0 := fz 0
        have f1 := fz 1
        have f2 := fz 2
        have f3 := fz 3
        have f4 := fz 4
        have hk5 := heap_set (heap_set (heap_set (heap_set (heap_set hfz 0 (.int .i64 cd)) 1 (.int .i64 (-1))) 2 (.int .i64 (-1))) 3 (.int .i64 cl)) 4 (.int .i64 (-1))
        simp only [List.setIfInBounds_toArray, List.set_cons_zero, List.set_cons_succ] at hk5
        have zt : W2.heap.size < W3.heap.size := lt_of_heap htb
        have z36 := hx5.size
        have zcl := hcL.size
        have zkl := hkL.size
        have hcs : ∀ o : Nat, (((((X8.setCell ⟨X6.heap.size, 0, none⟩ (.int .i64 cd)).setCell ⟨X6.heap.size, 1, none⟩ (.int .i64 (-1))).setCell ⟨X6.heap.size, 2, none⟩ (.int .i64 (-1))).setCell ⟨X6.heap.size, 3, none⟩ (.int .i64 cl)).setCell ⟨X6.heap.size, 4, none⟩ (.int .i64 (-1))).cell? ⟨W2.heap.size, o, none⟩ = X8.cell? ⟨W2.heap.size, o, none⟩ := fun o => by simp only [World.cell?, set5_other _ _ _ _ _ _ _ W2.heap.size (by omega : W2.heap.size ≠ X6.heap.size)]
        have hfin : KeptMid W3 st E T0 ts hs rs (X6.heap.size) (((((X8.setCell ⟨X6.heap.size, 0, none⟩ (.int .i64 cd)).setCell ⟨X6.heap.size, 1, none⟩ (.int .i64 (-1))).setCell ⟨X6.heap.size, 2, none⟩ (.int .i64 (-1))).setCell ⟨X6.heap.size, 3, none⟩ (.int .i64 cl)).setCell ⟨X6.heap.size, 4, none⟩ (.int .i64 (-1))) := by
          obtain ⟨e', hpo⟩ := HPO.out
          obtain ⟨rfl, rfl⟩ := HCD.out
          exact kept_move ⟨by omega, by omega⟩ hpo HM.out (hx5.trans (hcL.mono z36)) (by rw [set5_size]; exact Nat.le_refl _) rfl rfl rfl (fun k hk hne => (set5_other _ _ _ _ _ _ _ k hne).trans (rfl)) nfa (.inl lfa) (by omega) hk5
        have HFIN : Hid (KeptMid W3 st E T0 ts hs rs (X6.heap.size) (((((X8.setCell ⟨X6.heap.size, 0, none⟩ (.int .i64 cd)).setCell ⟨X6.heap.size, 1, none⟩ (.int .i64 (-1))).setCell ⟨X6.heap.size, 2, none⟩ (.int .i64 (-1))).setCell ⟨X6.heap.size, 3, none⟩ (.int .i64 cl)).setCell ⟨X6.heap.size, 4, none⟩ (.int .i64 (-1)))) := hfin
        clear hfin fz hfz hk5
        refine wpAnyH_ready (rs := [8]) (by kernel_rfl) (by simp) (AllReadyH.cons rfl (fun K hK => ?_) AllReadyH.nil)
        go_simp
        refine hK.out _ _ ⟨(hcs 0).trans hH.1, (hcs 1).trans hH.2.1, (hcs 2).trans hH.2.2⟩ (fun hH => ?_)
        clear hK K hcs k0 k1 k2 k3 k4 f0 f1 f2 f3 f4
        refine wpAnyH_done (by kernel_rfl) ?_ _
        go_wp2_with fail
        go_meet
        case rel => exact ⟨X6.heap.size, rfl, HFIN.out⟩
    · go_simp
      have hby : Below X6.drew.heap.size X6.drew ((X6.alloc zeroFault).drew) := (Below.refl _ X6.drew).alloc (Nat.le_refl _) zeroFault
      have hfy : ((X6.alloc zeroFault).drew).heap[X6.heap.size]? = some (.cells #[.int .i64 0, .int .i64 0, .int .i64 0, .int .i64 0, .int .i64 0] 43 (0, 0)) := heap_alloc_new X6.drew zeroFault
      refine hK.out _ _ ⟨cell_below hby hH.1, cell_below hby hH.2.1, cell_below hby hH.2.2⟩ (fun hH => ?_)
      clear hK K
      obtain ⟨Y2, hY2⟩ : ∃ Y, Y = (X6.alloc zeroFault).drew := ⟨_, rfl⟩
      rw [← hY2] at hby hfy hH ⊢
      clear hY2
      have hcy : Below X6.heap.size X6 Y2 := below_then hcd0 hby
      refine wpAnyH_ready (rs := [4]) (by kernel_rfl) (by simp) (AllReadyH.cons rfl (fun K hK => ?_) AllReadyH.nil)
      go_simp
      refine (HPK.out _).mono ?_
      rintro e X7 ⟨⟨r, rfl, hr⟩, hX7⟩
      subst hX7
      have hwr : IntKind.i64.wrap (1 + (r : Int)) = 1 + (r : Int) := by rw [IntKind.wrap_i64]; omega
      go_simp
      refine hK.out _ _ hH (fun hH => ?_)
      clear hK K
      refine wpAnyH_take (i := 5) (v := ?_) rfl (by kernel_rfl) (by kernel_rfl) (by kernel_rfl) (fun _ _ _ h => h) (Or.inl ⟨by rfl, ?_⟩) hH ?_
      rotate_left 1
      · intro w hSw; (try dsimp only at hSw); go_simp; try rfl
      simp only [Act.put, List.getElem_toArray, List.getElem_cons_zero, List.getElem_cons_succ, List.setIfInBounds_toArray, List.set_cons_zero, List.set_cons_succ]
      refine wpAnyH_ready (rs := [6]) (by kernel_rfl) (by simp) (AllReadyH.cons rfl (fun K hK => ?_) AllReadyH.nil)
      go_simp
      refine (HLD.out X7 r hcy hr).mono ?_
      rintro e X8 ⟨cd, cl, hcd, hcl, rfl, hpost⟩
      have hkL : Keep M X7 X8 := hpost.2.1
      have HPO : Hid (∃ e, SLoadPost M X7 st E [T0] (loadR E [T0] keptName ts hs rs (1 + (r : Int))) e X8) := ⟨_, hpost⟩
      have HCD : Hid (cd = (loadR E [T0] keptName ts hs rs (1 + (r : Int))).code ∧ cl = (loadR E [T0] keptName ts hs rs (1 + (r : Int))).col) := ⟨hcd, hcl⟩
      clear hpost hcd hcl
      have hcL : Below X6.heap.size X6 X7 := hcy
      have hnb : ¬ M W2.heap.size := fun hm => by have h1 := HM.out _ hm; have h2 := lt_of_heap htb; omega
      have nfa : ¬ M X6.heap.size := fun hm => Nat.lt_irrefl _ (HST.out.lt _ hm)
      have hfz : X8.heap[X6.heap.size]? = some (.cells #[.int .i64 0, .int .i64 0, .int .i64 0, .int .i64 0, .int .i64 0] 43 (0, 0)) := (hkL.block _ (lt_of_heap hfy) nfa).trans hfy
      have lfa : X6.heap.size < X7.heap.size := lt_of_heap hfy
      go_simp
      refine hK.out _ _ ⟨hkL.cell hH.1 hnb, hkL.cell hH.2.1 hnb, hkL.cell hH.2.2 hnb⟩ (fun hH => ?_)
      clear hK K
      have k0 : X8.cell? ⟨X6.heap.size, 0, none⟩ = some (.int .i64 0) := by simp [World.cell?, hfz]
      have k1 : X8.cell? ⟨X6.heap.size, 1, none⟩ = some (.int .i64 0) := by simp [World.cell?, hfz]
      have k2 : X8.cell? ⟨X6.heap.size, 2, none⟩ = some (.int .i64 0) := by simp [World.cell?, hfz]
      have k3 : X8.cell? ⟨X6.heap.size, 3, none⟩ = some (.int .i64 0) := by simp [World.cell?, hfz]
      have k4 : X8.cell? ⟨X6.heap.size, 4, none⟩ = some (.int .i64 0) := by simp [World.cell?, hfz]
      have fz : ∀ o : Nat, X8.frozen? ⟨X6.heap.size, o, none⟩ = false := fun o => by simp [World.frozen?, hfz]
      have f0 := fz 0
      have f1 := fz 1
      have f2 := fz 2
      have f3 := fz 3
      have f4 := fz 4
      have hk5 := heap_set (heap_set (heap_set (heap_set (heap_set hfz 0 (.int .i64 cd)) 1 (.int .i64 (-1))) 2 (.int .i64 (-1))) 3 (.int .i64 cl)) 4 (.int .i64 (-1))
      simp only [List.setIfInBounds_toArray, List.set_cons_zero, List.set_cons_succ] at hk5
      have zt : W2.heap.size < W3.heap.size := lt_of_heap htb
      have z36 := hx5.size
      have zcl := hcL.size
      have zkl := hkL.size
      have hcs : ∀ o : Nat, (((((X8.setCell ⟨X6.heap.size, 0, none⟩ (.int .i64 cd)).setCell ⟨X6.heap.size, 1, none⟩ (.int .i64 (-1))).setCell ⟨X6.heap.size, 2, none⟩ (.int .i64 (-1))).setCell ⟨X6.heap.size, 3, none⟩ (.int .i64 cl)).setCell ⟨X6.heap.size, 4, none⟩ (.int .i64 (-1))).cell? ⟨W2.heap.size, o, none⟩ = X8.cell? ⟨W2.heap.size, o, none⟩ := fun o => by simp only [World.cell?, set5_other _ _ _ _ _ _ _ W2.heap.size (by omega : W2.heap.size ≠ X6.heap.size)]
      have hfin : KeptMid W3 st E T0 ts hs rs (X6.heap.size) (((((X8.setCell ⟨X6.heap.size, 0, none⟩ (.int .i64 cd)).setCell ⟨X6.heap.size, 1, none⟩ (.int .i64 (-1))).setCell ⟨X6.heap.size, 2, none⟩ (.int .i64 (-1))).setCell ⟨X6.heap.size, 3, none⟩ (.int .i64 cl)).setCell ⟨X6.heap.size, 4, none⟩ (.int .i64 (-1))) := by
        obtain ⟨e', hpo⟩ := HPO.out
        obtain ⟨rfl, rfl⟩ := HCD.out
        exact kept_move ⟨by omega, by omega⟩ hpo HM.out (hx5.trans (hcL.mono z36)) (by rw [set5_size]; exact Nat.le_refl _) rfl rfl rfl (fun k hk hne => (set5_other _ _ _ _ _ _ _ k hne).trans (rfl)) nfa (.inl lfa) (by omega) hk5
      have HFIN : Hid (KeptMid W3 st E T0 ts hs rs (X6.heap.size) (((((X8.setCell ⟨X6.heap.size, 0, none⟩ (.int .i64 cd)).setCell ⟨X6.heap.size, 1, none⟩ (.int .i64 (-1))).setCell ⟨X6.heap.size, 2, none⟩ (.int .i64 (-1))).setCell ⟨X6.heap.size, 3, none⟩ (.int .i64 cl)).setCell ⟨X6.heap.size, 4, none⟩ (.int .i64 (-1)))) := hfin
      clear hfin fz hfz hk5
      refine wpAnyH_ready (rs := [8]) (by kernel_rfl) (by simp) (AllReadyH.cons rfl (fun K hK => ?_) AllReadyH.nil)
      go_simp
      refine hK.out _ _ ⟨(hcs 0).trans hH.1, (hcs 1).trans hH.2.1, (hcs 2).trans hH.2.2⟩ (fun hH => ?_)
      clear hK K hcs k0 k1 k2 k3 k4 f0 f1 f2 f3 f4
      refine wpAnyH_done (by kernel_rfl) ?_ _
      go_wp2_with fail
      go_meet
      case rel => exact ⟨X6.heap.size, rfl, HFIN.out⟩
  case rest =>
    obtain ⟨fa, rfl, g, r, M2, hg1, hg2, hr, hfc, hbx, hst2, hnfa, hM2⟩ := hcut
    have hbw := below_then hb8 hbx
    have hne : T0.name ≠ keptName := by rw [hname]; decide
    have hfi : findI [T0] keptName = 1 := by simp [findI, hne]
    have hwr9 : E.writes ≤ 1000000000 := by simp at hwrites; omega
    have hus9 : usedOf E.pages ≤ 200000 := by have := usedOf_le E.pages; simp at hpages; omega
    have hok := plain_ok HSD.out HR3.out.tab ⟨HHI.out.len, HHI.out.ok⟩ ⟨hg1, hg2⟩ (Ts := [T0]) (by rw [hfi]; rfl) (by simp) hquota hfail hus9 hwr9
    have u2 := cell_below hbx t2
    have HNc : Hid (Names wc a0 a1 a2 tt q wr pg pl ex ta) := HN3.out.below hbx
    rcases hok with ⟨c, hc⟩ | ⟨E2, T, hc⟩
    · rw [hc] at hr
      subst hr
      obtain ⟨hcl, hc1, hr16⟩ := load_dict hc
      have hfz : wc.heap[fa]? = some (.cells #[.int .i64 2, .int .i64 (-1), .int .i64 (-1), .int .i64 (c : Int), .int .i64 (-1)] 43 (0, 0)) := hfc
      have r0 : wc.cell? ⟨fa, 0, none⟩ = some (.int .i64 2) := by simp [World.cell?, hfz]
      have r3 : wc.cell? ⟨fa, 3, none⟩ = some (.int .i64 (c : Int)) := by simp [World.cell?, hfz]
      have hst3 : Sto M2 wc st E [T0] := hst2
      obtain ⟨hb', ho', rfl, hbl', hcc⟩ := Ints.at (HI3.out.below hbx) hcl
      have hcc1 : wc.cell? ⟨hb', ho' + c, none⟩ = some (.int .i64 1) := by
        rw [hcc]
        have : hs[c] = 1 := by rw [← hc1]; simp [hcl]
        rw [this]
      have hl6 : hs.length ≤ 6 := by rw [HHI.out.len]; exact HR3.out.tab.2.1.1.2
      have hr200 : rs.length ≤ 200 := HR3.out.tab.2.2.1
      have HTS : Hid (Sto M2 wc st E [T0]) := hst3
      clear hst2 hst3 hfc hfz hcc hc hc1 HLD HPK t0 t1 t2
      go_wp2_with (first | (go_at_call 16; refine (Tables_sto M2 st E [T0] wc HTS.out).mono ?_; rintro e X7 ⟨rfl, hrow, hx7⟩; have v0 := cell_below hx7 r0; have v3 := cell_below hx7 r3; have vc := cell_below hx7 hcc1; have v2 := cell_below hx7 u2) | (go_at_call 13; refine (Used_sto M2 st E [T0] X7 (HTS.out.below hx7)).mono ?_; rintro e X8 ⟨rfl, rfl⟩))
      go_ret
      exact ⟨rfl, below_then hbw hx7⟩
    · rw [hc] at hr
      subst hr
      obtain ⟨hS2, hTn, hU2, hfl, _, _, _, _, _⟩ := load_ok HSD.out HR3.out.vals hwr9 hc
      have hfz : wc.heap[fa]? = some (.cells #[.int .i64 0, .int .i64 (-1), .int .i64 (-1), .int .i64 (-1), .int .i64 (-1)] 43 (0, 0)) := hfc
      have hst3 : Sto M2 wc st E2 [T0, T] := hst2
      have hfi2 : findI [T0, T] keptName = 1 := by simp [findI, hne, hTn]
      have hT := hS2.tab (T, rs) (by simp)
      have hT0 := hS2.tab (T0, [[nullV]]) (by simp)
      have hro : rowsO E2 [T0, T] keptName = some (.inl rs) := by unfold rowsO; rw [hfi2]; simp [hT.read]
      have hsc := Scan_sto M2 st E2 [T0, T] keptName wc hst3 (fun T' h' => by simp at h'; rcases h' with rfl | rfl; exact hT0.ok; exact hT.ok) a0 a1 a2 tt q wr pg pl ex ta HNc.out
      rw [hro] at hsc
      have hdis : ∀ i ∈ T0.segs.flatten, i ∉ T.segs.flatten := fun i h1 h2 => by
        have hnd := hS2.nodup
        simp only [List.cons_append, List.nil_append, List.flatMap_cons, List.flatMap_nil, List.append_nil] at hnd
        exact (List.nodup_append.1 hnd).2.2 i h1 i h2 rfl
      have hT0' : TabIn (relAll E2 T.segs) T0 [[nullV]] := hT0.keep fun i hi => by rw [pg_relAll, if_neg (hdis i hi)]
      have hnd2 : T.segs.flatten.Nodup := by
        have hnd := hS2.nodup
        simp only [List.cons_append, List.nil_append, List.flatMap_cons, List.flatMap_nil, List.append_nil] at hnd
        exact (List.nodup_append.1 hnd).2.1
      have hU3 : usedOf (relAll E2 T.segs).pages = usedOf E.pages := by
        have := used_relAll T.segs E2 hnd2 hT.inuse
        omega
      have hsegs : ∀ T' ∈ [T0, T], T'.segs.length ≤ 1000000 ∧ ∀ l ∈ T'.segs, l.length ≤ 1000000 := fun T' h' => by
        have hok' : TabOk E2 T' := by simp at h'; rcases h' with rfl | rfl; exact hT0.ok; exact hT.ok
        refine ⟨?_, fun l hl => by have := (hok'.segs l hl).2; omega⟩
        rw [hok'.count]
        have h1 := ckN_le T'.rows T'.group hok'.group.1
        exact Nat.le_trans (Nat.mul_le_mul (Nat.le_trans h1 hok'.rows) hok'.cols.2) (by decide)
      have HST2 : Hid (Sto M2 wc st E2 [T0, T]) := hst3
      have HDR : Hid (∀ X, Below wc.heap.size wc X → Calls Tryz.prog 19 #[.pointer (some ⟨st, 0, none⟩), .string keptName] X fun e X' => e = .returned (fault 0) ∧ Keep M2 X X' ∧ Sto M2 X' st (relAll E2 T.segs) [T0]) := fun X hX => by
        have := Drop_sto M2 st E2 [T0, T] keptName X (HST2.out.below hX) hsegs a0 a1 a2 tt q wr pg pl ex ta (HNc.out.below hX)
        refine this.mono fun e X' hp => ?_
        unfold DropSto at hp
        rw [hfi2] at hp
        exact hp
      have HSC2 : Hid (∀ X, Sto M2 X st (relAll E2 T.segs) [T0] → Below W3.heap.size W3 X → Calls Tryz.prog 17 #[.pointer (some ⟨st, 0, none⟩), .string keptName] X fun e X' => Below X.heap.size X X' ∧ e = .returned (.tuple #[.slice none 0 0, faultAt 4 (-1) (-1)])) := fun X hX hbX => by
        have := Scan_sto M2 st (relAll E2 T.segs) [T0] keptName X hX (fun T' h' => by simp at h'; subst h'; exact hT0'.ok) a0 a1 a2 tt q wr pg pl ex ta (HN3.out.below hbX)
        have hnone : rowsO (relAll E2 T.segs) [T0] keptName = none := by unfold rowsO; rw [hfi]; rfl
        rw [hnone] at this
        exact this
      have HUS : Hid (∀ X, Below wc.heap.size wc X → Calls Tryz.prog 13 #[.pointer (some ⟨st, 0, none⟩)] X fun e X' => e = .returned (.int .i64 ((usedOf E2.pages : Nat) : Int)) ∧ X' = X) := fun X hX => Used_sto M2 st E2 [T0, T] X (HST2.out.below hX)
      have HUS2 : Hid (∀ X, Sto M2 X st (relAll E2 T.segs) [T0] → Calls Tryz.prog 13 #[.pointer (some ⟨st, 0, none⟩)] X fun e X' => e = .returned (.int .i64 ((usedOf E.pages : Nat) : Int)) ∧ X' = X) := fun X hX => by
        have := Used_sto M2 st (relAll E2 T.segs) [T0] X hX
        rw [hU3] at this
        exact this
      have HSR : Hid (∀ X (ga : Nat) (bs : List Nat) (B : Nat), Below wc.heap.size wc X → Grid X B ga bs rs → Calls Tryz.prog 18 #[.slice (some ⟨ga, 0, none⟩) rs.length rs.length, .slice ra rs.length rc] X fun e X' => e = .returned (.bool true) ∧ Below X.heap.size X X') := fun X ga bs B hX hgr =>
        ksameRows_any _ ra _ rc _ ys rs rs X (by have := HR3.out.tab.2.2.1; unfold maxLen; omega) (fun r' hr' => by obtain ⟨i, hi, rfl⟩ := List.getElem_of_mem hr'; have := (HR3.out.tab.2.2.2 i hi).1; have := HR3.out.tab.2.1.1.2; unfold maxLen; omega) hgr.rowsAt (HR3.out.rows.below (below_then hbx hX)) true (by simp)
      have HMB : Hid (∀ k, M2 k → W3.heap.size ≤ k) := hM2
      have hmore : (usedOf E.pages < usedOf E2.pages ∧ 0 < rs.length) ∨ (usedOf E.pages = usedOf E2.pages ∧ rs.length = 0) := by
        by_cases h0 : rs = []
        · right
          have := hfl.2 h0
          rw [this] at hU2
          simp at hU2
          exact ⟨hU2.symm, by rw [h0]; rfl⟩
        · left
          have h1 : T.segs.flatten ≠ [] := fun e => h0 (hfl.1 e)
          have h2 := List.length_pos_iff.2 h1
          have h3 := List.length_pos_iff.2 h0
          omega
      have hr200 : rs.length ≤ 200 := HR3.out.tab.2.2.1
      have hqE := run_eql_F 0
      have r0 : wc.cell? ⟨fa, 0, none⟩ = some (.int .i64 0) := by simp [World.cell?, hfz]
      have r1 : wc.cell? ⟨fa, 1, none⟩ = some (.int .i64 (-1)) := by simp [World.cell?, hfz]
      have r2 : wc.cell? ⟨fa, 2, none⟩ = some (.int .i64 (-1)) := by simp [World.cell?, hfz]
      have r3 : wc.cell? ⟨fa, 3, none⟩ = some (.int .i64 (-1)) := by simp [World.cell?, hfz]
      have r4 : wc.cell? ⟨fa, 4, none⟩ = some (.int .i64 (-1)) := by simp [World.cell?, hfz]
      have hgfa : fa < wc.heap.size := lt_of_heap hfz
      have HMORE : Hid ((usedOf E.pages < usedOf E2.pages ∧ 0 < rs.length) ∨ (usedOf E.pages = usedOf E2.pages ∧ rs.length = 0)) := hmore
      have hu9 : usedOf E2.pages ≤ E2.pages.length := usedOf_le _
      clear hst2 hst3 hfc hfz hc HLD HPK t0 t1 t2 hS2 hT hT0 hT0' hro hdis hnd2 hU3 hsegs hU2 hfl hmore HI3 HHI
      generalize usedOf E2.pages = more at *
      generalize usedOf E.pages = n at *
      go_wp2_with (first | (go_at_call 17; first | (refine hsc.mono ?_; rintro e X7 ⟨hx7, ga, bs, rfl, hgr⟩; have HGR : Hid (Grid X7 wc.heap.size ga bs rs) := hgr; clear hgr; have hba7 : Below X7.heap.size X7 (X7.alloc (.cells #[.int .i64 0, .int .i64 (-1), .int .i64 (-1), .int .i64 (-1), .int .i64 (-1)] 43)) := (Below.refl _ _).alloc (Nat.le_refl _) _; have y2 := cell_below hba7 (cell_below hx7 u2)) | (refine (HSC2.out _ (HS10.out.below hba10) (below_then hb10 hba10)).mono ?_; rintro e X11 ⟨hx11, rfl⟩)) | (go_at_call 18; refine (HSR.out _ ga bs _ (below_then hx7 hba7) (HGR.out.below hba7)).mono ?_; rintro e X8 ⟨rfl, hx8⟩; have hc8 := below_then (below_then hx7 hba7) hx8) | (go_at_call 13; refine (HUS.out X8 hc8).mono ?_; rintro e X9 ⟨rfl, rfl⟩) | (go_at_call 19; refine (HDR.out X9 hc8).mono ?_; rintro e X10 ⟨rfl, hk10, hs10⟩; have HS10 : Hid (Sto M2 X10 st (relAll E2 T.segs) [T0]) := hs10; clear hs10; have hb9 := below_then hbx hc8; have hb10 : Below W3.heap.size W3 X10 := hb9.trans (hk10.below (fun k hk hm => by have := HMB.out k hm; omega) hb9.size); have hba10 : Below X10.heap.size X10 (X10.alloc (.cells #[.int .i64 0, .int .i64 (-1), .int .i64 (-1), .int .i64 (-1), .int .i64 (-1)] 43)) := (Below.refl _ _).alloc (Nat.le_refl _) _))
      have hba11 : Below X11.heap.size X11 (X11.alloc (.cells #[.int .i64 4, .int .i64 (-1), .int .i64 (-1), .int .i64 (-1), .int .i64 (-1)] 43)) := (Below.refl _ _).alloc (Nat.le_refl _) _
      have hfb8 : X9.heap[X7.heap.size]? = some (.cells #[.int .i64 0, .int .i64 (-1), .int .i64 (-1), .int .i64 (-1), .int .i64 (-1)] 43 (0, 0)) := (hx8.block _ (by simp)).trans (heap_alloc_new _ _)
      have hlb : wc.heap.size ≤ X7.heap.size := hx7.size
      have nfb : ¬ M2 X7.heap.size := fun hm => by have := HST2.out.lt _ hm; omega
      have hfb10 : X10.heap[X7.heap.size]? = some (.cells #[.int .i64 0, .int .i64 (-1), .int .i64 (-1), .int .i64 (-1), .int .i64 (-1)] 43 (0, 0)) := (hk10.block _ (lt_of_heap hfb8) nfb).trans hfb8
      have hcT := below_then (below_then hba10 hx11) hba11
      have hfb : (X11.alloc (.cells #[.int .i64 4, .int .i64 (-1), .int .i64 (-1), .int .i64 (-1), .int .i64 (-1)] 43)).heap[X7.heap.size]? = some (.cells #[.int .i64 0, .int .i64 (-1), .int .i64 (-1), .int .i64 (-1), .int .i64 (-1)] 43 (0, 0)) := (hcT.block _ (lt_of_heap hfb10)).trans hfb10
      have hfcc : (X11.alloc (.cells #[.int .i64 4, .int .i64 (-1), .int .i64 (-1), .int .i64 (-1), .int .i64 (-1)] 43)).heap[X10.heap.size]? = some (.cells #[.int .i64 0, .int .i64 (-1), .int .i64 (-1), .int .i64 (-1), .int .i64 (-1)] 43 (0, 0)) := ((below_then hx11 hba11).block _ (by simp)).trans (heap_alloc_new _ _)
      have hfdd := heap_alloc_new X11 (.cells #[.int .i64 4, .int .i64 (-1), .int .i64 (-1), .int .i64 (-1), .int .i64 (-1)] 43)
      have ntb : ¬ M2 W2.heap.size := fun hm => by have h1 := HMB.out _ hm; have h2 := lt_of_heap htb; omega
      have hcx : ∀ o v, wc.cell? ⟨fa, o, none⟩ = some v → (X11.alloc (.cells #[.int .i64 4, .int .i64 (-1), .int .i64 (-1), .int .i64 (-1), .int .i64 (-1)] 43)).cell? ⟨fa, o, none⟩ = some v := fun o v h => cell_below hcT (hk10.cell (cell_below hc8 h) hnfa)
      have m0 := hcx _ _ r0
      have m1 := hcx _ _ r1
      have m2 := hcx _ _ r2
      have m3 := hcx _ _ r3
      have m4 := hcx _ _ r4
      have mt : (X11.alloc (.cells #[.int .i64 4, .int .i64 (-1), .int .i64 (-1), .int .i64 (-1), .int .i64 (-1)] 43)).cell? ⟨W2.heap.size, 2, none⟩ = some (.slice ra rs.length rc) := cell_below hcT (hk10.cell (cell_below hc8 u2) ntb)
      have HSF : Hid (Sto M2 (X11.alloc (.cells #[.int .i64 4, .int .i64 (-1), .int .i64 (-1), .int .i64 (-1), .int .i64 (-1)] 43)) st (relAll E2 T.segs) [T0]) := HS10.out.below hcT
      have hbFF : Below w.heap.size w (X11.alloc (.cells #[.int .i64 4, .int .i64 (-1), .int .i64 (-1), .int .i64 (-1), .int .i64 (-1)] 43)) := below_then hb8 (below_then hb10 hcT)
      obtain ⟨fb, Hfb⟩ : ∃ fb, Hid (fb = X7.heap.size) := ⟨_, rfl⟩
      obtain ⟨fc, Hfcc⟩ : ∃ fc, Hid (fc = X10.heap.size) := ⟨_, rfl⟩
      obtain ⟨fd, Hfd⟩ : ∃ fd, Hid (fd = X11.heap.size) := ⟨_, rfl⟩
      rw [← Hfb.out] at hfb ⊢
      rw [← Hfcc.out] at hfcc ⊢
      rw [← Hfd.out] at hfdd ⊢
      clear hcx hx7 hba7 y2 hx8 hc8 hk10 hb10 hba10 hx11 hba11 hfb8 hlb nfb hfb10 hcT HGR hsc HS10 r0 r1 r2 r3 r4 u2 HSR HDR HSC2 HUS hb9
      generalize X11.alloc (.cells #[.int .i64 4, .int .i64 (-1), .int .i64 (-1), .int .i64 (-1), .int .i64 (-1)] 43) = XF at *
      have v40 : XF.cell? ⟨fd, 0, none⟩ = some (.int .i64 4) := by simp [World.cell?, hfdd]
      have p0 : XF.cell? ⟨fb, 0, none⟩ = some (.int .i64 0) := by simp [World.cell?, hfb]
      have p1 : XF.cell? ⟨fb, 1, none⟩ = some (.int .i64 (-1)) := by simp [World.cell?, hfb]
      have p2 : XF.cell? ⟨fb, 2, none⟩ = some (.int .i64 (-1)) := by simp [World.cell?, hfb]
      have p3 : XF.cell? ⟨fb, 3, none⟩ = some (.int .i64 (-1)) := by simp [World.cell?, hfb]
      have p4 : XF.cell? ⟨fb, 4, none⟩ = some (.int .i64 (-1)) := by simp [World.cell?, hfb]
      have s0 : XF.cell? ⟨fc, 0, none⟩ = some (.int .i64 0) := by simp [World.cell?, hfcc]
      have s1 : XF.cell? ⟨fc, 1, none⟩ = some (.int .i64 (-1)) := by simp [World.cell?, hfcc]
      have s2 : XF.cell? ⟨fc, 2, none⟩ = some (.int .i64 (-1)) := by simp [World.cell?, hfcc]
      have s3 : XF.cell? ⟨fc, 3, none⟩ = some (.int .i64 (-1)) := by simp [World.cell?, hfcc]
      have s4 : XF.cell? ⟨fc, 4, none⟩ = some (.int .i64 (-1)) := by simp [World.cell?, hfcc]
      clear hfb hfcc hfdd
      have hiff : (n < more) ↔ (0 < rs.length) := by
        rcases HMORE.out with ⟨h1, h2⟩ | ⟨h1, h2⟩ <;> constructor <;> intro _ <;> omega
      have hi1 : (n < more ↔ 0 < rs.length) = True := eq_true hiff
      have hi2 : decide (n < more ↔ 0 < rs.length) = true := decide_eq_true hiff
      have hi3 : (decide (n < more) == decide (0 < rs.length)) = true := by simpa using hiff
      clear hiff
      clear HMORE
      refine wp_region_held_drew (S := fun X => X.cell? ⟨fa, 0, none⟩ = some (.int .i64 0) ∧ X.cell? ⟨fa, 1, none⟩ = some (.int .i64 (-1)) ∧ X.cell? ⟨fa, 2, none⟩ = some (.int .i64 (-1)) ∧ X.cell? ⟨fa, 3, none⟩ = some (.int .i64 (-1)) ∧ X.cell? ⟨fa, 4, none⟩ = some (.int .i64 (-1)) ∧ X.cell? ⟨fb, 0, none⟩ = some (.int .i64 0) ∧ X.cell? ⟨fb, 1, none⟩ = some (.int .i64 (-1)) ∧ X.cell? ⟨fb, 2, none⟩ = some (.int .i64 (-1)) ∧ X.cell? ⟨fb, 3, none⟩ = some (.int .i64 (-1)) ∧ X.cell? ⟨fb, 4, none⟩ = some (.int .i64 (-1)) ∧ X.cell? ⟨fc, 0, none⟩ = some (.int .i64 0) ∧ X.cell? ⟨fc, 1, none⟩ = some (.int .i64 (-1)) ∧ X.cell? ⟨fc, 2, none⟩ = some (.int .i64 (-1)) ∧ X.cell? ⟨fc, 3, none⟩ = some (.int .i64 (-1)) ∧ X.cell? ⟨fc, 4, none⟩ = some (.int .i64 (-1)) ∧ X.cell? ⟨fd, 0, none⟩ = some (.int .i64 4) ∧ X.cell? ⟨W2.heap.size, 2, none⟩ = some (.slice ra rs.length rc)) (by kernel_rfl) ⟨m0, m1, m2, m3, m4, p0, p1, p2, p3, p4, s0, s1, s2, s3, s4, v40, mt⟩ (fun hH => ?_)
      refine wpAnyH_take (i := 0) (v := ?_) rfl (by kernel_rfl) (by kernel_rfl) (by kernel_rfl) (fun _ _ _ h => h) (Or.inl ⟨by rfl, ?_⟩) hH ?_
      rotate_left 1
      · intro w hSw; (try dsimp only at hSw); go_simp; try rfl
      simp only [Act.put, List.getElem_toArray, List.getElem_cons_zero, List.setIfInBounds_toArray, List.set_cons_zero, List.set_cons_succ]
      refine wpAnyH_ready (rs := [1]) (by kernel_rfl) (by simp) (AllReadyH.cons rfl (fun K hK => ?_) AllReadyH.nil)
      go_simp
      refine (none_any _).mono ?_
      rintro e XN1 ⟨rfl, hn1⟩
      go_simp
      refine hK.out _ _ ⟨cell_below hn1 hH.1, cell_below hn1 hH.2.1, cell_below hn1 hH.2.2.1, cell_below hn1 hH.2.2.2.1, cell_below hn1 hH.2.2.2.2.1, cell_below hn1 hH.2.2.2.2.2.1, cell_below hn1 hH.2.2.2.2.2.2.1, cell_below hn1 hH.2.2.2.2.2.2.2.1, cell_below hn1 hH.2.2.2.2.2.2.2.2.1, cell_below hn1 hH.2.2.2.2.2.2.2.2.2.1, cell_below hn1 hH.2.2.2.2.2.2.2.2.2.2.1, cell_below hn1 hH.2.2.2.2.2.2.2.2.2.2.2.1, cell_below hn1 hH.2.2.2.2.2.2.2.2.2.2.2.2.1, cell_below hn1 hH.2.2.2.2.2.2.2.2.2.2.2.2.2.1, cell_below hn1 hH.2.2.2.2.2.2.2.2.2.2.2.2.2.2.1, cell_below hn1 hH.2.2.2.2.2.2.2.2.2.2.2.2.2.2.2.1, cell_below hn1 hH.2.2.2.2.2.2.2.2.2.2.2.2.2.2.2.2⟩ (fun hH => ?_)
      clear hK K
      refine wpAnyH_take (i := 2) (v := ?_) rfl (by kernel_rfl) (by kernel_rfl) (by kernel_rfl) (fun _ _ _ h => h) (Or.inl ⟨by rfl, ?_⟩) hH ?_
      rotate_left 1
      · intro w hSw; (try dsimp only at hSw); go_simp; try rfl
      simp only [Act.put, List.getElem_toArray, List.getElem_cons_zero, List.getElem_cons_succ, List.setIfInBounds_toArray, List.set_cons_zero, List.set_cons_succ]
      refine wpAnyH_take (i := 3) (v := ?_) rfl (by kernel_rfl) (by kernel_rfl) (by kernel_rfl) (fun _ _ _ h => h) (Or.inl ⟨by rfl, ?_⟩) hH ?_
      rotate_left 1
      · intro w hSw; (try dsimp only at hSw); go_simp; try rfl
      simp only [Act.put, List.getElem_toArray, List.getElem_cons_zero, List.getElem_cons_succ, List.setIfInBounds_toArray, List.set_cons_zero, List.set_cons_succ]
      refine wpAnyH_take (i := 4) (v := ?_) rfl (by kernel_rfl) (by kernel_rfl) (by kernel_rfl) (fun _ _ _ h => h) (Or.inl ⟨by rfl, ?_⟩) hH ?_
      rotate_left 1
      · intro w hSw; (try dsimp only at hSw); go_simp; try rfl
      simp only [Act.put, List.getElem_toArray, List.getElem_cons_zero, List.getElem_cons_succ, List.setIfInBounds_toArray, List.set_cons_zero, List.set_cons_succ]
      refine wpAnyH_ready (rs := [5]) (by kernel_rfl) (by simp) (AllReadyH.cons rfl (fun K hK => ?_) AllReadyH.nil)
      go_simp
      refine (none_any _).mono ?_
      rintro e XN2 ⟨rfl, hn2⟩
      go_simp
      refine hK.out _ _ ⟨cell_below hn2 hH.1, cell_below hn2 hH.2.1, cell_below hn2 hH.2.2.1, cell_below hn2 hH.2.2.2.1, cell_below hn2 hH.2.2.2.2.1, cell_below hn2 hH.2.2.2.2.2.1, cell_below hn2 hH.2.2.2.2.2.2.1, cell_below hn2 hH.2.2.2.2.2.2.2.1, cell_below hn2 hH.2.2.2.2.2.2.2.2.1, cell_below hn2 hH.2.2.2.2.2.2.2.2.2.1, cell_below hn2 hH.2.2.2.2.2.2.2.2.2.2.1, cell_below hn2 hH.2.2.2.2.2.2.2.2.2.2.2.1, cell_below hn2 hH.2.2.2.2.2.2.2.2.2.2.2.2.1, cell_below hn2 hH.2.2.2.2.2.2.2.2.2.2.2.2.2.1, cell_below hn2 hH.2.2.2.2.2.2.2.2.2.2.2.2.2.2.1, cell_below hn2 hH.2.2.2.2.2.2.2.2.2.2.2.2.2.2.2.1, cell_below hn2 hH.2.2.2.2.2.2.2.2.2.2.2.2.2.2.2.2⟩ (fun hH => ?_)
      clear hK K
      refine wpAnyH_take (i := 6) (v := ?_) rfl (by kernel_rfl) (by kernel_rfl) (by kernel_rfl) (fun _ _ _ h => h) (Or.inl ⟨by rfl, ?_⟩) hH ?_
      rotate_left 1
      · intro w hSw; (try dsimp only at hSw); go_simp; try rfl
      simp only [Act.put, List.getElem_toArray, List.getElem_cons_zero, List.getElem_cons_succ, List.setIfInBounds_toArray, List.set_cons_zero, List.set_cons_succ]
      refine wpAnyH_take (i := 7) (v := ?_) rfl (by kernel_rfl) (by kernel_rfl) (by kernel_rfl) (fun _ _ _ h => h) (Or.inl ⟨by rfl, ?_⟩) hH ?_
      rotate_left 1
      · intro w hSw; (try dsimp only at hSw); go_simp; try rfl
      simp only [Act.put, List.getElem_toArray, List.getElem_cons_zero, List.getElem_cons_succ, List.setIfInBounds_toArray, List.set_cons_zero, List.set_cons_succ]
      refine wpAnyH_take (i := 8) (v := ?_) rfl (by kernel_rfl) (by kernel_rfl) (by kernel_rfl) (fun _ _ _ h => h) (Or.inl ⟨by rfl, ?_⟩) hH ?_
      rotate_left 1
      · intro w hSw; (try dsimp only at hSw); go_simp; try rfl
      simp only [Act.put, List.getElem_toArray, List.getElem_cons_zero, List.getElem_cons_succ, List.setIfInBounds_toArray, List.set_cons_zero, List.set_cons_succ]
      refine wpAnyH_take (i := 9) (v := ?_) rfl (by kernel_rfl) (by kernel_rfl) (by kernel_rfl) (fun _ _ _ h => h) (Or.inl ⟨by rfl, ?_⟩) hH ?_
      rotate_left 1
      · intro w hSw; (try dsimp only at hSw); go_simp; try rfl
      simp only [Act.put, List.getElem_toArray, List.getElem_cons_zero, List.getElem_cons_succ, List.setIfInBounds_toArray, List.set_cons_zero, List.set_cons_succ]
      refine wpAnyH_take (i := 10) (v := ?_) rfl (by kernel_rfl) (by kernel_rfl) (by kernel_rfl) (fun _ _ _ h => h) (Or.inl ⟨by rfl, ?_⟩) hH ?_
      rotate_left 1
      · intro w hSw; (try dsimp only at hSw); go_simp; try rfl
      simp only [Act.put, List.getElem_toArray, List.getElem_cons_zero, List.getElem_cons_succ, List.setIfInBounds_toArray, List.set_cons_zero, List.set_cons_succ]
      refine wpAnyH_take (i := 11) (v := ?_) rfl (by kernel_rfl) (by kernel_rfl) (by kernel_rfl) (fun _ _ _ h => h) (Or.inl ⟨by rfl, ?_⟩) hH ?_
      rotate_left 1
      · intro w hSw; (try dsimp only at hSw); go_simp; try rfl
      simp only [Act.put, List.getElem_toArray, List.getElem_cons_zero, List.getElem_cons_succ, List.setIfInBounds_toArray, List.set_cons_zero, List.set_cons_succ]
      refine wpAnyH_take (i := 12) (v := ?_) rfl (by kernel_rfl) (by kernel_rfl) (by kernel_rfl) (fun _ _ _ h => h) (Or.inl ⟨by rfl, ?_⟩) hH ?_
      rotate_left 1
      · intro w hSw; (try dsimp only at hSw); go_simp; try rfl
      simp only [Act.put, List.getElem_toArray, List.getElem_cons_zero, List.getElem_cons_succ, List.setIfInBounds_toArray, List.set_cons_zero, List.set_cons_succ]
      refine wpAnyH_take (i := 13) (v := ?_) rfl (by kernel_rfl) (by kernel_rfl) (by kernel_rfl) (fun _ _ _ h => h) (Or.inl ⟨by rfl, ?_⟩) hH ?_
      rotate_left 1
      · intro w hSw; (try dsimp only at hSw); go_simp; try rfl
      simp only [Act.put, List.getElem_toArray, List.getElem_cons_zero, List.getElem_cons_succ, List.setIfInBounds_toArray, List.set_cons_zero, List.set_cons_succ]
      refine wpAnyH_take (i := 14) (v := ?_) rfl (by kernel_rfl) (by kernel_rfl) (by kernel_rfl) (fun _ _ _ h => h) (Or.inl ⟨by rfl, ?_⟩) hH ?_
      rotate_left 1
      · intro w hSw; (try dsimp only at hSw); go_simp; try rfl
      simp only [Act.put, List.getElem_toArray, List.getElem_cons_zero, List.getElem_cons_succ, List.setIfInBounds_toArray, List.set_cons_zero, List.set_cons_succ]
      refine wpAnyH_take (i := 15) (v := ?_) rfl (by kernel_rfl) (by kernel_rfl) (by kernel_rfl) (fun _ _ _ h => h) (Or.inl ⟨by rfl, ?_⟩) hH ?_
      rotate_left 1
      · intro w hSw; (try dsimp only at hSw); go_simp; try rfl
      simp only [Act.put, List.getElem_toArray, List.getElem_cons_zero, List.getElem_cons_succ, List.setIfInBounds_toArray, List.set_cons_zero, List.set_cons_succ]
      refine wpAnyH_take (i := 16) (v := ?_) rfl (by kernel_rfl) (by kernel_rfl) (by kernel_rfl) (fun _ _ _ h => h) (Or.inl ⟨by rfl, ?_⟩) hH ?_
      rotate_left 1
      · intro w hSw; (try dsimp only at hSw); go_simp; try rfl
      simp only [Act.put, List.getElem_toArray, List.getElem_cons_zero, List.getElem_cons_succ, List.setIfInBounds_toArray, List.set_cons_zero, List.set_cons_succ]
      refine wpAnyH_take (i := 17) (v := ?_) rfl (by kernel_rfl) (by kernel_rfl) (by kernel_rfl) (fun _ _ _ h => h) (Or.inl ⟨by rfl, ?_⟩) hH ?_
      rotate_left 1
      · intro w hSw; (try dsimp only at hSw); go_simp; try rfl
      simp only [Act.put, List.getElem_toArray, List.getElem_cons_zero, List.getElem_cons_succ, List.setIfInBounds_toArray, List.set_cons_zero, List.set_cons_succ]
      refine wpAnyH_take (i := 18) (v := ?_) rfl (by kernel_rfl) (by kernel_rfl) (by kernel_rfl) (fun _ _ _ h => h) (Or.inl ⟨by rfl, ?_⟩) hH ?_
      rotate_left 1
      · intro w hSw; (try dsimp only at hSw); go_simp; try rfl
      simp only [Act.put, List.getElem_toArray, List.getElem_cons_zero, List.getElem_cons_succ, List.setIfInBounds_toArray, List.set_cons_zero, List.set_cons_succ]
      refine wpAnyH_take (i := 19) (v := ?_) rfl (by kernel_rfl) (by kernel_rfl) (by kernel_rfl) (fun _ _ _ h => h) (Or.inl ⟨by rfl, ?_⟩) hH ?_
      rotate_left 1
      · intro w hSw; (try dsimp only at hSw); go_simp; try rfl
      simp only [Act.put, List.getElem_toArray, List.getElem_cons_zero, List.getElem_cons_succ, List.setIfInBounds_toArray, List.set_cons_zero, List.set_cons_succ]
      refine wpAnyH_take (i := 20) (v := ?_) rfl (by kernel_rfl) (by kernel_rfl) (by kernel_rfl) (fun _ _ _ h => h) (Or.inl ⟨by rfl, ?_⟩) hH ?_
      rotate_left 1
      · intro w hSw; (try dsimp only at hSw); go_simp; try rfl
      simp only [Act.put, List.getElem_toArray, List.getElem_cons_zero, List.getElem_cons_succ, List.setIfInBounds_toArray, List.set_cons_zero, List.set_cons_succ]
      refine wpAnyH_take (i := 21) (v := ?_) rfl (by kernel_rfl) (by kernel_rfl) (by kernel_rfl) (fun _ _ _ h => h) (Or.inl ⟨by rfl, ?_⟩) hH ?_
      rotate_left 1
      · intro w hSw; (try dsimp only at hSw); go_simp; try rfl
      simp only [Act.put, List.getElem_toArray, List.getElem_cons_zero, List.getElem_cons_succ, List.setIfInBounds_toArray, List.set_cons_zero, List.set_cons_succ]
      refine wpAnyH_take (i := 22) (v := ?_) rfl (by kernel_rfl) (by kernel_rfl) (by kernel_rfl) (fun _ _ _ h => h) (Or.inl ⟨by rfl, ?_⟩) hH ?_
      rotate_left 1
      · intro w hSw; (try dsimp only at hSw); go_simp; try rfl
      simp only [Act.put, List.getElem_toArray, List.getElem_cons_zero, List.getElem_cons_succ, List.setIfInBounds_toArray, List.set_cons_zero, List.set_cons_succ]
      refine wpAnyH_ready (rs := [23]) (by kernel_rfl) (by simp) (AllReadyH.cons rfl (fun K hK => ?_) AllReadyH.nil)
      go_simp
      refine (none_any _).mono ?_
      rintro e XN3 ⟨rfl, hn3⟩
      go_simp
      refine hK.out _ _ ⟨cell_below hn3 hH.1, cell_below hn3 hH.2.1, cell_below hn3 hH.2.2.1, cell_below hn3 hH.2.2.2.1, cell_below hn3 hH.2.2.2.2.1, cell_below hn3 hH.2.2.2.2.2.1, cell_below hn3 hH.2.2.2.2.2.2.1, cell_below hn3 hH.2.2.2.2.2.2.2.1, cell_below hn3 hH.2.2.2.2.2.2.2.2.1, cell_below hn3 hH.2.2.2.2.2.2.2.2.2.1, cell_below hn3 hH.2.2.2.2.2.2.2.2.2.2.1, cell_below hn3 hH.2.2.2.2.2.2.2.2.2.2.2.1, cell_below hn3 hH.2.2.2.2.2.2.2.2.2.2.2.2.1, cell_below hn3 hH.2.2.2.2.2.2.2.2.2.2.2.2.2.1, cell_below hn3 hH.2.2.2.2.2.2.2.2.2.2.2.2.2.2.1, cell_below hn3 hH.2.2.2.2.2.2.2.2.2.2.2.2.2.2.2.1, cell_below hn3 hH.2.2.2.2.2.2.2.2.2.2.2.2.2.2.2.2⟩ (fun hH => ?_)
      clear hK K
      refine wpAnyH_take (i := 24) (v := ?_) rfl (by kernel_rfl) (by kernel_rfl) (by kernel_rfl) (fun _ _ _ h => h) (Or.inl ⟨by rfl, ?_⟩) hH ?_
      rotate_left 1
      · intro w hSw; (try dsimp only at hSw); go_simp; try rfl
      simp only [Act.put, List.getElem_toArray, List.getElem_cons_zero, List.getElem_cons_succ, List.setIfInBounds_toArray, List.set_cons_zero, List.set_cons_succ]
      refine wpAnyH_take (i := 25) (v := ?_) rfl (by kernel_rfl) (by kernel_rfl) (by kernel_rfl) (fun _ _ _ h => h) (Or.inl ⟨by rfl, ?_⟩) hH ?_
      rotate_left 1
      · intro w hSw; (try dsimp only at hSw); go_simp; try rfl
      simp only [Act.put, List.getElem_toArray, List.getElem_cons_zero, List.getElem_cons_succ, List.setIfInBounds_toArray, List.set_cons_zero, List.set_cons_succ]
      refine wpAnyH_take (i := 26) (v := ?_) rfl (by kernel_rfl) (by kernel_rfl) (by kernel_rfl) (fun _ _ _ h => h) (Or.inl ⟨by rfl, ?_⟩) hH ?_
      rotate_left 1
      · intro w hSw; (try dsimp only at hSw); go_simp; try rfl
      simp only [Act.put, List.getElem_toArray, List.getElem_cons_zero, List.getElem_cons_succ, List.setIfInBounds_toArray, List.set_cons_zero, List.set_cons_succ]
      refine wpAnyH_take (i := 27) (v := ?_) rfl (by kernel_rfl) (by kernel_rfl) (by kernel_rfl) (fun _ _ _ h => h) (Or.inl ⟨by rfl, ?_⟩) hH ?_
      rotate_left 1
      · intro w hSw; (try dsimp only at hSw); go_simp; try rfl
      simp only [Act.put, List.getElem_toArray, List.getElem_cons_zero, List.getElem_cons_succ, List.setIfInBounds_toArray, List.set_cons_zero, List.set_cons_succ]
      refine wpAnyH_take (i := 29) (v := ?_) rfl (by kernel_rfl) (by kernel_rfl) (by kernel_rfl) (fun _ _ _ h => h) (Or.inl ⟨by rfl, ?_⟩) hH ?_
      rotate_left 1
      · intro w hSw; (try dsimp only at hSw); go_simp; try rfl
      simp only [Act.put, List.getElem_toArray, List.getElem_cons_zero, List.getElem_cons_succ, List.setIfInBounds_toArray, List.set_cons_zero, List.set_cons_succ]
      have hbn : Below XF.heap.size XF XN3 := below_undrew (below_then hn1 (below_then hn2 hn3))
      refine wpAnyH_ready (rs := [28]) (by kernel_rfl) (by simp) (AllReadyH.cons rfl (fun K hK => ?_) AllReadyH.nil)
      go_simp
      refine (HUS2.out _ (HSF.out.below hbn)).mono ?_
      rintro e XU ⟨rfl, hXU⟩
      subst hXU
      go_simp
      refine hK.out _ _ hH (fun hH => ?_)
      clear hK K
      refine wpAnyH_take (i := 30) (v := ?_) rfl (by kernel_rfl) (by kernel_rfl) (by kernel_rfl) (fun _ _ _ h => h) (Or.inl ⟨by rfl, ?_⟩) hH ?_
      rotate_left 1
      · intro w hSw; (try dsimp only at hSw); go_simp; try rfl
      simp only [Act.put, List.getElem_toArray, List.getElem_cons_zero, List.getElem_cons_succ, List.setIfInBounds_toArray, List.set_cons_zero, List.set_cons_succ]
      refine wpAnyH_take (i := 31) (v := ?_) rfl (by kernel_rfl) (by kernel_rfl) (by kernel_rfl) (fun _ _ _ h => h) (Or.inl ⟨by rfl, ?_⟩) hH ?_
      rotate_left 1
      · intro w hSw; (try dsimp only at hSw); go_simp; try rfl
      simp only [Act.put, List.getElem_toArray, List.getElem_cons_zero, List.getElem_cons_succ, List.setIfInBounds_toArray, List.set_cons_zero, List.set_cons_succ]
      refine wpAnyH_take (i := 32) (v := ?_) rfl (by kernel_rfl) (by kernel_rfl) (by kernel_rfl) (fun _ _ _ h => h) (Or.inl ⟨by rfl, ?_⟩) hH ?_
      rotate_left 1
      · intro w hSw; (try dsimp only at hSw); go_simp; try rfl
      simp only [Act.put, List.getElem_toArray, List.getElem_cons_zero, List.getElem_cons_succ, List.setIfInBounds_toArray, List.set_cons_zero, List.set_cons_succ]
      refine wpAnyH_take (i := 33) (v := ?_) rfl (by kernel_rfl) (by kernel_rfl) (by kernel_rfl) (fun _ _ _ h => h) (Or.inl ⟨by rfl, ?_⟩) hH ?_
      rotate_left 1
      · intro w hSw; (try dsimp only at hSw); go_simp; try rfl
      simp only [Act.put, List.getElem_toArray, List.getElem_cons_zero, List.getElem_cons_succ, List.setIfInBounds_toArray, List.set_cons_zero, List.set_cons_succ]
      refine wpAnyH_take (i := 34) (v := ?_) rfl (by kernel_rfl) (by kernel_rfl) (by kernel_rfl) (fun _ _ _ h => h) (Or.inl ⟨by rfl, ?_⟩) hH ?_
      rotate_left 1
      · intro w hSw; (try dsimp only at hSw); go_simp; try rfl
      simp only [Act.put, List.getElem_toArray, List.getElem_cons_zero, List.getElem_cons_succ, List.setIfInBounds_toArray, List.set_cons_zero, List.set_cons_succ]
      refine wpAnyH_take (i := 35) (v := ?_) rfl (by kernel_rfl) (by kernel_rfl) (by kernel_rfl) (fun _ _ _ h => h) (Or.inl ⟨by rfl, ?_⟩) hH ?_
      rotate_left 1
      · intro w hSw; (try dsimp only at hSw); go_simp; try rfl
      simp only [Act.put, List.getElem_toArray, List.getElem_cons_zero, List.getElem_cons_succ, List.setIfInBounds_toArray, List.set_cons_zero, List.set_cons_succ]
      refine wpAnyH_take (i := 36) (v := ?_) rfl (by kernel_rfl) (by kernel_rfl) (by kernel_rfl) (fun _ _ _ h => h) (Or.inl ⟨by rfl, ?_⟩) hH ?_
      rotate_left 1
      · intro w hSw; (try dsimp only at hSw); go_simp; try rfl
      simp only [Act.put, List.getElem_toArray, List.getElem_cons_zero, List.getElem_cons_succ, List.setIfInBounds_toArray, List.set_cons_zero, List.set_cons_succ]
      refine wpAnyH_take (i := 37) (v := ?_) rfl (by kernel_rfl) (by kernel_rfl) (by kernel_rfl) (fun _ _ _ h => h) (Or.inl ⟨by rfl, ?_⟩) hH ?_
      rotate_left 1
      · intro w hSw; (try dsimp only at hSw); go_simp; try rfl
      simp only [Act.put, List.getElem_toArray, List.getElem_cons_zero, List.getElem_cons_succ, List.setIfInBounds_toArray, List.set_cons_zero, List.set_cons_succ]
      refine wpAnyH_done (by kernel_rfl) ?_ _
      go_wp2
      go_ret
      exact ⟨rfl, below_then hbFF hbn⟩
end Go.Proofs.YtfgklnenpichcaaGreatDoor
