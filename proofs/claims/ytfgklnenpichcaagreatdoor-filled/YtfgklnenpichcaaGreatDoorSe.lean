/- A store in memory; New; what Load does round the set's Load. -/
import Derived.Test.YtfgklnenpichcaaGreatDoorTu
import Derived.Test.YtfgklnenpichcaaGreatDoorSb
namespace Go.Proofs.YtfgklnenpichcaaGreatDoor
open Go.RowKit Go.Shelf

/-- A store: its record in block st, its disk D, its tables Ts; M: the blocks that belong to it. -/
structure Sto (M : Nat → Prop) (w : World) (st : Nat) (D : DS) (Ts : List TS) : Prop where
  ex : ∃ (d s : Nat) (F G : Nat → Prop) (sv : Value) (bs : List Nat), StoreAt w st d s ∧ SetX w G s d Ts sv bs ∧ DiskAt w F d D ∧ (∀ k, G k → ¬ F k) ∧ ¬ F s ∧ (∀ g, sv.ownBlock = some g → ¬ F g) ∧ ¬ F st ∧ ¬ G st ∧ st ≠ s ∧ sv.ownBlock ≠ some st ∧ (∀ k, F k ∨ G k ∨ setF s sv k ∨ k = st → M k)
  lt : ∀ k, M k → k < w.heap.size
theorem DiskAt.stands' {w w' : World} {F : Nat → Prop} {d : Nat} {D : DS} (h : DiskAt w F d D) (hk : ∀ k, F k → k < w.heap.size → w'.heap[k]? = w.heap[k]?) : DiskAt w' F d D := h.stands hk
theorem Sto.stands {M : Nat → Prop} {w w' : World} {st : Nat} {D : DS} {Ts : List TS} (h : Sto M w st D Ts) (hs : w.heap.size ≤ w'.heap.size) (hk : ∀ k, M k → w'.heap[k]? = w.heap[k]?) : Sto M w' st D Ts := by
  obtain ⟨⟨d, s, F, G, sv, bs, h1, h2, h3, h4, h5, h6, h7, h8, h9, h10, hM⟩, hl⟩ := h
  refine ⟨⟨d, s, F, G, sv, bs, ?_, h2.stands hs fun k hk' _ => hk k (hM k (hk'.elim (fun a => .inr (.inl a)) (fun a => .inr (.inr (.inl a))))), h3.stands fun k hf _ => hk k (hM k (.inl hf)), h4, h5, h6, h7, h8, h9, h10, hM⟩, fun k hk' => Nat.lt_of_lt_of_le (hl k hk') hs⟩
  unfold StoreAt at h1 ⊢
  rw [hk st (hM st (.inr (.inr (.inr rfl))))]
  exact h1
theorem Sto.below {M : Nat → Prop} {w w' : World} {st : Nat} {D : DS} {Ts : List TS} (h : Sto M w st D Ts) (hb : Below w.heap.size w w') : Sto M w' st D Ts := h.stands hb.size fun k hk => hb.block k (h.lt k hk)

/-! New. -/
set_option maxRecDepth 100000 in
set_option maxHeartbeats 400000 in
theorem tNew_any (d : Nat) (w : World) : Calls Tryz.prog 38 #[.pointer (some ⟨d, 0, none⟩)] w fun e w' => e = .returned (.pointer (some ⟨w.heap.size, 0, none⟩)) ∧ w' = w.alloc (.cells #[.pointer (some ⟨d, 0, none⟩), .slice none 0 0] 103) := by
  go_enter Tryz.func38, Tryz.ntmps38
  go_wp2
  go_ret
  exact ⟨rfl, rfl⟩

set_option maxRecDepth 100000 in
set_option maxHeartbeats 400000 in
theorem New_any (q f : Int) (w : World) :
    Calls Tryz.prog 21 #[.agg #[.int .i64 q, .int .i64 f]] w fun e w' => Below w.heap.size w w' ∧ ∃ (st : Nat) (M : Nat → Prop), e = .returned (.pointer (some ⟨st, 0, none⟩)) ∧ Sto M w' st (emptyDS q f) [] ∧ (∀ k, M k → w.heap.size ≤ k) := by
  have hb0 : Below w.heap.size w (w.alloc (.cells #[.int .i64 q, .int .i64 f] 33)) := (Below.refl _ w).alloc (Nat.le_refl _) _
  have hD := dNew_any q f (w.alloc (.cells #[.int .i64 q, .int .i64 f] 33))
  go_enter Tryz.func21, Tryz.ntmps21
  go_wp2_with (first | (go_at_call 37; refine hD.mono ?_; rintro e W1 ⟨d, rfl, hdb, hd1, hb1⟩; have hb2 := below_then hb0 hb1) | (go_at_call 38; refine (tNew_any d W1).mono ?_; rintro e W2 ⟨rfl, rfl⟩))
  go_ret
  have hb3 : Below W1.heap.size W1 ((W1.alloc (.cells #[.pointer (some ⟨d, 0, none⟩), .slice none 0 0] 103)).alloc (.cells #[.pointer (some ⟨d, 0, none⟩), .pointer (some ⟨W1.heap.size, 0, none⟩)] 67)) := ((Below.refl _ _).alloc (Nat.le_refl _) _).alloc (by simp) _
  have hz := hb2.size
  have hdl : d < W1.heap.size := by
    obtain ⟨sv, ps, hx⟩ := hd1
    exact lt_of_heap hx.cells
  rw [World.size_alloc] at hdb
  have hn2 := heap_alloc_new (W1.alloc (.cells #[.pointer (some ⟨d, 0, none⟩), .slice none 0 0] 103)) (.cells #[.pointer (some ⟨d, 0, none⟩), .pointer (some ⟨W1.heap.size, 0, none⟩)] 67)
  rw [World.size_alloc] at hn2
  refine ⟨below_then hb2 hb3, W1.heap.size + 1, fun k => k = d ∨ k = W1.heap.size ∨ k = W1.heap.size + 1, rfl, ⟨⟨d, W1.heap.size, fun k => k = d, fun _ => False, .slice none 0 0, [], hn2, ?_, hd1.below hb3, by simp, by omega, by simp [Value.ownBlock], by omega, by simp, by omega, by simp [Value.ownBlock], ?_⟩, ?_⟩, ?_⟩
  · refine ⟨?_, OwnC.nil _ _ _, by simp, by simp [Value.ownBlock], rfl, by simp, by simp⟩
    rw [Below.heap_alloc _ _ _ (by simp), heap_alloc_new]
  · rintro k (h | h | h | h)
    · exact .inl h
    · exact h.elim
    · rcases h with h | h
      · exact .inr (.inl h)
      · simp [Value.ownBlock] at h
    · exact .inr (.inr h)
  · rintro k (h | h | h) <;> subst h <;> simp <;> omega
  · rintro k (h | h | h) <;> subst h <;> omega

/-! Load, round the set's Load. -/
abbrev zeroFault : Obj := .cells #[.int .i64 0, .int .i64 0, .int .i64 0, .int .i64 0, .int .i64 0] 43
set_option maxRecDepth 100000 in
set_option maxHeartbeats 1000000 in
theorem Load_frame (st s : Nat) (name : ByteArray) (v1 v2 : Value) (a1 a2 a3 : Option Addr) (n1 c1' n2 c2 n3 c3 : Nat) (hv1 : v1 = .slice a1 n1 c1') (hv2 : v2 = .slice a2 n2 c2) (g : Int) (w : World) (M1 : Nat → Prop) (hM : ∀ k, M1 k → k < w.heap.size) (hst : ¬ M1 st) (c1 : w.cell? ⟨st, 1, none⟩ = some (.pointer (some ⟨s, 0, none⟩)))
    (c nd col pg : Int) (P : World → Prop)
    (hL : Calls Tryz.prog 31 #[.pointer (some ⟨s, 0, none⟩), .agg #[.string name, v1, v2], .slice a3 n3 c3, .int .i64 g] ((w.alloc (.cells #[.string name, v1, v2] 26)).alloc zeroFault).drew fun e w' => ∃ ev, e = .returned ev ∧ Keep M1 ((w.alloc (.cells #[.string name, v1, v2] 26)).alloc zeroFault) w' ∧ P w' ∧ Calls Tryz.prog 30 #[ev] w' (fun e w'' => e = .returned (faultN c nd col pg) ∧ Below w'.heap.size w' w'')) :
    Calls Tryz.prog 14 #[.pointer (some ⟨st, 0, none⟩), .agg #[.string name, v1, v2], .slice a3 n3 c3, .int .i64 g] w fun e w' => e = .returned (faultN c nd col pg) ∧ ∃ w2, P w2 ∧ Keep M1 ((w.alloc (.cells #[.string name, v1, v2] 26)).alloc zeroFault) w2 ∧ Keep (fun k => k = w.heap.size + 1) w2 w' := by
  subst hv1 hv2
  have hb0 : Below w.heap.size w ((w.alloc (.cells #[.string name, .slice a1 n1 c1', .slice a2 n2 c2] 26)).alloc zeroFault) := ((Below.refl _ w).alloc (Nat.le_refl _) _).alloc (by simp) _
  have d1 := cell_below hb0 c1
  have hstl : st < w.heap.size := lt_of_cell c1
  have n0 : ¬ M1 w.heap.size := fun h => Nat.lt_irrefl _ (hM _ h)
  have n1' : ¬ M1 (w.heap.size + 1) := fun h => by have := hM _ h; omega
  obtain ⟨W, hW⟩ : ∃ W, W = (w.alloc (.cells #[.string name, .slice a1 n1 c1', .slice a2 n2 c2] 26)).alloc zeroFault := ⟨_, rfl⟩
  have q0 : W.cell? ⟨w.heap.size, 0, none⟩ = some (.string name) := by rw [hW, World.cell?_alloc_lt _ _ _ (by simp)]; simp
  have q1 : W.cell? ⟨w.heap.size, 1, none⟩ = some (.slice a1 n1 c1') := by rw [hW, World.cell?_alloc_lt _ _ _ (by simp)]; simp
  have q2 : W.cell? ⟨w.heap.size, 2, none⟩ = some (.slice a2 n2 c2) := by rw [hW, World.cell?_alloc_lt _ _ _ (by simp)]; simp
  have hk0 : W.heap[w.heap.size + 1]? = some (.cells #[.int .i64 0, .int .i64 0, .int .i64 0, .int .i64 0, .int .i64 0] 43 (0, 0)) := by
    rw [hW]
    have := heap_alloc_new (w.alloc (.cells #[.string name, .slice a1 n1 c1', .slice a2 n2 c2] 26)) zeroFault
    rwa [World.size_alloc] at this
  have hWz : W.heap.size = w.heap.size + 2 := by rw [hW]; simp
  rw [← hW] at hL hb0 d1
  clear hM
  go_enter Tryz.func14, Tryz.ntmps14
  go_wp2_with fail
  rw [← hW]
  have HWE : Hid (W = (w.alloc (.cells #[.string name, .slice a1 n1 c1', .slice a2 n2 c2] 26)).alloc zeroFault) := hW
  clear hW
  refine wp_region_held_drew (S := fun X => X.cell? ⟨st, 1, none⟩ = some (.pointer (some ⟨s, 0, none⟩)) ∧ X.cell? ⟨w.heap.size, 0, none⟩ = some (.string name) ∧ X.cell? ⟨w.heap.size, 1, none⟩ = some (.slice a1 n1 c1') ∧ X.cell? ⟨w.heap.size, 2, none⟩ = some (.slice a2 n2 c2)) (by kernel_rfl) ⟨d1, q0, q1, q2⟩ (fun hH => ?_)
  refine wpAnyH_take (i := 0) (v := ?_) rfl (by kernel_rfl) (by kernel_rfl) (by kernel_rfl) (fun _ _ _ h => h) (Or.inl ⟨by rfl, ?_⟩) hH ?_
  rotate_left 1
  · intro w hSw; (try dsimp only at hSw); go_simp; try rfl
  simp only [Act.put, List.getElem_toArray, List.getElem_cons_zero, List.setIfInBounds_toArray, List.set_cons_zero, List.set_cons_succ]
  refine wpAnyH_take (i := 1) (v := ?_) rfl (by kernel_rfl) (by kernel_rfl) (by kernel_rfl) (fun _ _ _ h => h) (Or.inl ⟨by rfl, ?_⟩) hH ?_
  rotate_left 1
  · intro w hSw; (try dsimp only at hSw); go_simp; try rfl
  simp only [Act.put, List.getElem_toArray, List.getElem_cons_zero, List.getElem_cons_succ, List.setIfInBounds_toArray, List.set_cons_zero, List.set_cons_succ]
  refine wpAnyH_take (i := 2) (v := ?_) rfl (by kernel_rfl) (by kernel_rfl) (by kernel_rfl) (fun _ _ _ h => h) (Or.inl ⟨by rfl, ?_⟩) hH ?_
  rotate_left 1
  · intro w hSw; (try dsimp only at hSw); go_simp; try rfl
  simp only [Act.put, List.getElem_toArray, List.getElem_cons_zero, List.getElem_cons_succ, List.setIfInBounds_toArray, List.set_cons_zero, List.set_cons_succ]
  refine wpAnyH_take (i := 3) (v := ?_) rfl (by kernel_rfl) (by kernel_rfl) (by kernel_rfl) (fun _ _ _ h => h) (Or.inl ⟨by rfl, ?_⟩) hH ?_
  rotate_left 1
  · intro w hSw; (try dsimp only at hSw); go_simp; try rfl
  simp only [Act.put, List.getElem_toArray, List.getElem_cons_zero, List.getElem_cons_succ, List.setIfInBounds_toArray, List.set_cons_zero, List.set_cons_succ]
  refine wpAnyH_take (i := 4) (v := ?_) rfl (by kernel_rfl) (by kernel_rfl) (by kernel_rfl) (fun _ _ _ h => h) (Or.inl ⟨by rfl, ?_⟩) hH ?_
  rotate_left 1
  · intro w hSw; (try dsimp only at hSw); go_simp; try rfl
  simp only [Act.put, List.getElem_toArray, List.getElem_cons_zero, List.getElem_cons_succ, List.setIfInBounds_toArray, List.set_cons_zero, List.set_cons_succ]
  refine wpAnyH_take (i := 5) (v := ?_) rfl (by kernel_rfl) (by kernel_rfl) (by kernel_rfl) (fun _ _ _ h => h) (Or.inl ⟨by rfl, ?_⟩) hH ?_
  rotate_left 1
  · intro w hSw; (try dsimp only at hSw); go_simp; try rfl
  simp only [Act.put, List.getElem_toArray, List.getElem_cons_zero, List.getElem_cons_succ, List.setIfInBounds_toArray, List.set_cons_zero, List.set_cons_succ]
  refine wpAnyH_take (i := 6) (v := ?_) rfl (by kernel_rfl) (by kernel_rfl) (by kernel_rfl) (fun _ _ _ h => h) (Or.inl ⟨by rfl, ?_⟩) hH ?_
  rotate_left 1
  · intro w hSw; (try dsimp only at hSw); go_simp; try rfl
  simp only [Act.put, List.getElem_toArray, List.getElem_cons_zero, List.getElem_cons_succ, List.setIfInBounds_toArray, List.set_cons_zero, List.set_cons_succ]
  refine wpAnyH_ready (rs := [7]) (by kernel_rfl) (by simp) (AllReadyH.cons rfl (fun K hK => ?_) AllReadyH.nil)
  go_simp
  refine hL.mono ?_
  rintro e w2 ⟨ev, rfl, hk, hp, hf⟩
  have HP : Hid (P w2) := hp
  have HF : Hid (Calls Tryz.prog 30 #[ev] w2 (fun e w'' => e = .returned (faultN c nd col pg) ∧ Below w2.heap.size w2 w'')) := hf
  clear hp hf hL
  go_simp
  refine hK.out _ _ ⟨hk.cell d1 hst, hk.cell q0 n0, hk.cell q1 n0, hk.cell q2 n0⟩ (fun hH => ?_)
  clear hK K
  refine wpAnyH_ready (rs := [8]) (by kernel_rfl) (by simp) (AllReadyH.cons rfl (fun K hK => ?_) AllReadyH.nil)
  go_simp
  refine HF.out.mono ?_
  rintro e w3 ⟨rfl, hb3⟩
  go_simp
  refine hK.out _ _ ⟨cell_below hb3 hH.1, cell_below hb3 hH.2.1, cell_below hb3 hH.2.2.1, cell_below hb3 hH.2.2.2⟩ (fun hH => ?_)
  clear hK K
  have hz2 := hk.size
  have hblk : w3.heap[w.heap.size + 1]? = some (.cells #[.int .i64 0, .int .i64 0, .int .i64 0, .int .i64 0, .int .i64 0] 43 (0, 0)) :=
    (hb3.block _ (by omega)).trans ((hk.block _ (by omega) n1').trans hk0)
  have k0 : w3.cell? ⟨w.heap.size + 1, 0, none⟩ = some (.int .i64 0) := by simp [World.cell?, hblk]
  have k1 : w3.cell? ⟨w.heap.size + 1, 1, none⟩ = some (.int .i64 0) := by simp [World.cell?, hblk]
  have k2 : w3.cell? ⟨w.heap.size + 1, 2, none⟩ = some (.int .i64 0) := by simp [World.cell?, hblk]
  have k3 : w3.cell? ⟨w.heap.size + 1, 3, none⟩ = some (.int .i64 0) := by simp [World.cell?, hblk]
  have k4 : w3.cell? ⟨w.heap.size + 1, 4, none⟩ = some (.int .i64 0) := by simp [World.cell?, hblk]
  have fz : ∀ o : Nat, w3.frozen? ⟨w.heap.size + 1, o, none⟩ = false := fun o => by simp [World.frozen?, hblk]
  have f0 := fz 0
  have f1 := fz 1
  have f2 := fz 2
  have f3 := fz 3
  have f4 := fz 4
  have hk5 := heap_set (heap_set (heap_set (heap_set (heap_set hblk 0 (.int .i64 c)) 1 (.int .i64 nd)) 2 (.int .i64 (-1))) 3 (.int .i64 col)) 4 (.int .i64 pg)
  simp only [List.setIfInBounds_toArray, List.set_cons_zero, List.set_cons_succ] at hk5
  clear hblk fz
  refine wpAnyH_ready (rs := [9]) (by kernel_rfl) (by simp) (AllReadyH.cons rfl (fun K hK => ?_) AllReadyH.nil)
  go_simp
  have hcs : ∀ (b o : Nat), b ≠ w.heap.size + 1 → (((((w3.setCell ⟨w.heap.size + 1, 0, none⟩ (.int .i64 c)).setCell ⟨w.heap.size + 1, 1, none⟩ (.int .i64 nd)).setCell ⟨w.heap.size + 1, 2, none⟩ (.int .i64 (-1))).setCell ⟨w.heap.size + 1, 3, none⟩ (.int .i64 col)).setCell ⟨w.heap.size + 1, 4, none⟩ (.int .i64 pg)).cell? ⟨b, o, none⟩ = w3.cell? ⟨b, o, none⟩ := fun b o hb => by
    simp only [World.cell?, set5_other _ _ _ _ _ _ _ b hb]
  refine hK.out _ _ ⟨(hcs _ _ (by omega)).trans hH.1, (hcs _ _ (by omega)).trans hH.2.1, (hcs _ _ (by omega)).trans hH.2.2.1, (hcs _ _ (by omega)).trans hH.2.2.2⟩ (fun hH => ?_)
  clear hK K hcs hH k0 k1 k2 k3 k4 f0 f1 f2 f3 f4
  refine wpAnyH_done (by kernel_rfl) ?_ _
  go_wp2
  refine bodyPost_ret (v := faultN c nd col pg) (by simp [results, Tryz.results14, go_sem, faultN, World.cell?, hk5]) rfl ⟨rfl, w2, HP.out, by rw [← HWE.out]; exact hk, ?_⟩
  exact ⟨hb3.os, hb3.tape, hb3.output, by rw [set5_size]; exact hb3.size, fun k hk' hn => (set5_other _ _ _ _ _ _ _ k hn).trans (hb3.block k hk')⟩
end Go.Proofs.YtfgklnenpichcaaGreatDoor

/- A store's Load. -/
namespace Go.Proofs.YtfgklnenpichcaaGreatDoor
open Go.RowKit Go.Shelf

/-- The program's named errors, ten of them. -/
structure Names (w : World) (a0 a1 a2 tt q wr pg pl ex ta : Addr) : Prop where
  e : Errs w a0 a1 a2
  m : More w a0 a1 a2 tt q wr pg
  m2 : More2 w [a0, a1, a2, tt, q, wr, pg] pl ex
  c : w.cell? ⟨0, 0, none⟩ = some (.iface 255 (.pointer (some ta)))
  b : ∃ c t, w.heap[ta.block]? = some (.cells c t (0, 0))
  n : ta ∉ [a0, a1, a2, tt, q, wr, pg, pl, ex]
  m3 : ∃ dv ov gv mn, More3 w [ex, pl, a0, a1, a2, tt, q, wr, pg] dv ov gv mn ∧ ta ∉ [dv, ov, gv, mn]
theorem Names.below {w w' : World} {a0 a1 a2 tt q wr pg pl ex ta : Addr} (h : Names w a0 a1 a2 tt q wr pg pl ex ta) (hb : Below w.heap.size w w') : Names w' a0 a1 a2 tt q wr pg pl ex ta :=
  ⟨h.e.below hb, h.m.below hb, h.m2.below hb, cell_below hb h.c, heap_below hb h.b, h.n, by obtain ⟨dv, ov, gv, mn, h3, h4⟩ := h.m3; exact ⟨dv, ov, gv, mn, h3.below hb, h4⟩⟩

abbrev LoadR : Type := Unit ⊕ (Unit ⊕ (Nat ⊕ ((Bool × DS) ⊕ (DS × TS))))
abbrev LoadR.arg : LoadR := .inl ()
abbrev LoadR.table : LoadR := .inr (.inl ())
abbrev LoadR.dict (c : Nat) : LoadR := .inr (.inr (.inl c))
abbrev LoadR.disk (x : Bool) (D : DS) : LoadR := .inr (.inr (.inr (.inl (x, D))))
abbrev LoadR.ok (D : DS) (T : TS) : LoadR := .inr (.inr (.inr (.inr (D, T))))
def LoadR.fault : LoadR → Value
  | .inl _ => faultAt 1 (-1) (-1)
  | .inr (.inl _) => faultAt 4 (-1) (-1)
  | .inr (.inr (.inl c)) => faultAt 2 (c : Int) (-1)
  | .inr (.inr (.inr (.inl x))) => faultAt (if x.1 then 5 else 6) (-1) (-1)
  | .inr (.inr (.inr (.inr _))) => faultAt 0 (-1) (-1)
def LoadR.d (D : DS) : LoadR → DS
  | .inr (.inr (.inr (.inl x))) => x.2
  | .inr (.inr (.inr (.inr x))) => x.1
  | _ => D
def LoadR.ts (Ts : List TS) : LoadR → List TS
  | .inr (.inr (.inr (.inr x))) => Ts ++ [x.2]
  | _ => Ts
def goodD (name : ByteArray) (ts hs : List Int) (rs : List (List V)) (g : Int) : Decidable (isTab name ts rs ∧ waysOk ts hs ∧ 1 ≤ g ∧ g ≤ 64) := by
  unfold isTab waysOk
  infer_instance
/-- What Load makes of a table. -/
def loadR (D : DS) (Ts : List TS) (name : ByteArray) (ts hs : List Int) (rs : List (List V)) (g : Int) : LoadR :=
  @ite _ (isTab name ts rs ∧ waysOk ts hs ∧ 1 ≤ g ∧ g ≤ 64) (goodD name ts hs rs g)
    (if findI Ts name < Ts.length ∨ 6 ≤ Ts.length then .table
    else match packF rs ts hs (cks rs.length g.toNat (ckN rs.length g.toNat)) with
      | .inr c => .dict c
      | .inl T => match (layAll D T).2.2 with
        | some x => .disk x (relAll (layAll D T).1 (layAll D T).2.1)
        | none => .ok (layAll D T).1 ⟨name, ts, rs.length, g.toNat, (layAll D T).2.1⟩)
    .arg

theorem keep_join {M M1 : Nat → Prop} {w W w2 w' : World} {j : Nat} (hb : Below w.heap.size w W) (hk : Keep M1 W w2) (hk2 : Keep (fun k => k = j) w2 w') (hj : w.heap.size ≤ j) (h1 : ∀ k, M1 k → M k) : Keep M w w' := by
  have z1 := hb.size
  have z2 := hk.size
  have z3 := hk2.size
  refine ⟨(hk2.os.trans hk.os).trans hb.os, (hk2.tape.trans hk.tape).trans hb.tape, (hk2.output.trans hk.output).trans hb.output, by omega, fun k hk' hn => ?_⟩
  exact (hk2.block k (by omega) (by omega)).trans ((hk.block k (by omega) fun h => hn (h1 k h)).trans (hb.block k hk'))

/-- What a store's Load leaves. -/
def SLoadPost (M : Nat → Prop) (w : World) (st : Nat) (D : DS) (Ts : List TS) (r : LoadR) (e : Ending) (w' : World) : Prop :=
  e = .returned r.fault ∧ Keep M w w' ∧ ∃ M' : Nat → Prop, Sto M' w' st (r.d D) (r.ts Ts) ∧ (∀ k, M k → M' k) ∧ (∀ k, M' k → M k ∨ w.heap.size ≤ k)

/-- Where nothing is laid. -/
theorem sload_same {M : Nat → Prop} {w W w2 w' : World} {st : Nat} {D : DS} {Ts : List TS} (h : Sto M w st D Ts) (hb : Below w.heap.size w W) (hb2 : Below W.heap.size W w2) (hk2 : Keep (fun k => k = w.heap.size + 1) w2 w') (r : LoadR) (hd : r.d D = D) (ht : r.ts Ts = Ts) (e : Ending) (he : e = .returned r.fault) : SLoadPost M w st D Ts r e w' := by
  have z1 := hb.size
  have z2 := hb2.size
  have z3 := hk2.size
  refine ⟨he, keep_join hb (Keep.of_below (F := fun _ => False) hb2) hk2 (by omega) (fun _ h => h.elim), M, ?_, fun k hk => hk, fun k hk => .inl hk⟩
  rw [hd, ht]
  refine h.stands (by omega) fun k hk => ?_
  have := h.lt k hk
  exact (hk2.block k (by omega) (by omega)).trans ((hb2.block k (by omega)).trans (hb.block k this))

set_option maxRecDepth 100000 in
theorem Load_any (M : Nat → Prop) (st : Nat) (D : DS) (Ts : List TS) (name : ByteArray) (at_ ar ah : Option Addr) (ct cr ch : Nat) (ts hs : List Int) (xs : List (Option Addr × Nat)) (rs : List (List V)) (g : Int) (w : World) (h : Sto M w st D Ts) (hA : ArgAt w name at_ ar ah cr ts hs xs rs) (hAM : ∀ b o, at_ = some ⟨b, o, none⟩ → ¬ M b) (hsm : D.pages.length ≤ 200000)
    (a0 a1 a2 tt q wr pg pl ex ta : Addr) (w0 : World) (hN0 : Names w0 a0 a1 a2 tt q wr pg pl ex ta) (hb00 : Below w0.heap.size w0 w) (hMB : ∀ k, M k → w0.heap.size ≤ k) :
    Calls Tryz.prog 14 #[.pointer (some ⟨st, 0, none⟩), tabArg name at_ ar ct cr ts rs, .slice ah hs.length ch, .int .i64 g] w fun e w' => SLoadPost M w st D Ts (loadR D Ts name ts hs rs g) e w' := by
  have hS := h
  have hN := hN0.below hb00
  have hMq : ¬ M 4 := fun hm => by have h1 := hMB _ hm; have h2 := lt_of_cell hN0.m.cq; simp only at h2; omega
  have hMw : ¬ M 5 := fun hm => by have h1 := hMB _ hm; have h2 := lt_of_cell hN0.m.cw; simp only at h2; omega
  obtain ⟨⟨d, s, F, G, sv, bs, h1, h2, h3, h4, h5, h6, h7, h8, h9, h10, hM⟩, hlt⟩ := h
  obtain ⟨W, hW⟩ : ∃ W, W = (w.alloc (tabObj name at_ ar ct cr ts rs)).alloc zeroFault := ⟨_, rfl⟩
  have hb0 : Below w.heap.size w W := by rw [hW]; exact ((Below.refl _ w).alloc (Nat.le_refl _) _).alloc (by simp) _
  have hbd : Below w.heap.size w W.drew := ⟨hb0.os, hb0.tape, hb0.output, hb0.size, hb0.block⟩
  have hWz : W.heap.size = w.heap.size + 2 := by rw [hW]; simp
  have hNd := hN.below hbd
  have hAd := hA.below hbd
  obtain ⟨n1, n2, n3, n4, n5, n6, n7⟩ := codeAt_names hN.m
  have fr := fun (M1 : Nat → Prop) (hM1 : ∀ k, M1 k → k < w.heap.size) (hst : ¬ M1 st) (c nd col pgv : Int) (P : World → Prop) hL => Load_frame st s name (.slice at_ ts.length ct) (.slice ar rs.length cr) at_ ar ah ts.length ct rs.length cr hs.length ch rfl rfl g w M1 hM1 hst h1.field.2 c nd col pgv P hL
  have hW' : (w.alloc (.cells #[.string name, .slice at_ ts.length ct, .slice ar rs.length cr] 26)).alloc zeroFault = W := hW.symm
  rw [hW'] at fr
  by_cases hgood : isTab name ts rs ∧ waysOk ts hs ∧ 1 ≤ g ∧ g ≤ 64
  · by_cases hth : findI Ts name < Ts.length ∨ 6 ≤ Ts.length
    · have hr : loadR D Ts name ts hs rs g = .table := by unfold loadR; rw [if_pos hgood, if_pos hth]
      rw [hr]
      have hL := tLoad_table s d name at_ ar ah ct cr ch ts hs xs rs g W.drew hAd hgood G Ts sv bs (h2.below hbd) tt hNd.m.ct hth
      refine (fr (fun _ => False) (fun _ h => h.elim) id 4 (-1) (-1) (-1) (fun w2 => Below W.heap.size W w2) (hL.mono fun e w2 ⟨he, hb2⟩ => ⟨_, he, Keep.of_below (below_undrew hb2), below_undrew hb2, ?_⟩)).mono fun e w' ⟨he, w2, hp, _, hk2⟩ => sload_same hS hb0 hp hk2 _ rfl rfl e he
      have hN2 := hNd.below hb2
      have := faultOf_any _ tt none none w2 (.root tt) hN2.m.bt a0 a1 a2 tt q wr pg (by simp) hN2.e hN2.m
      rw [n4] at this
      exact this
    · have hg : ((g.toNat : Nat) : Int) = g := by omega
      have hin : LoadIn W.drew s d F G D Ts sv bs name at_ ar ah cr ts hs xs rs g.toNat :=
        ⟨hAd, hgood.1, hgood.2.1, by omega, by omega, h2.below hbd, fun hf => hth (.inl hf), by omega, h3.below hbd, fun k hk => Nat.lt_of_lt_of_le (hlt k (hM k (hk.elim .inl fun a => .inr (.inl a)))) hbd.size, h4, h5, h6, fun b o hb hf => hAM b o hb (hM b (.inl hf)), hsm⟩
      rcases hp : packF rs ts hs (cks rs.length g.toNat (ckN rs.length g.toNat)) with T | c
      · have hLq := hNd.m.cq
        have hLw := hNd.m.cw
        have hFq : ¬ F 4 := fun hf => hMq (hM _ (.inl hf))
        have hFw : ¬ F 5 := fun hf => hMw (hM _ (.inl hf))
        cases hx : (layAll D T).2.2 with
        | some x =>
          have hr : loadR D Ts name ts hs rs g = .disk x (relAll (layAll D T).1 (layAll D T).2.1) := by unfold loadR; rw [if_pos hgood, if_neg hth, hp]; simp only; rw [hx]
          rw [hr]
          have hL := tLoad_disk s d F G D Ts sv bs name at_ ar ah ct cr ch ts hs xs rs g.toNat W.drew hin a0 a1 a2 hNd.e T hp q wr hLq hLw hFq hFw x hx
          rw [hg] at hL
          have hz0 := hb0.size
          have hnm : ∀ w2, Keep F W.drew w2 → Names w2 a0 a1 a2 tt q wr pg pl ex ta := fun w2 hk => hN0.below (hb00.trans ((hbd.mono hb00.size).trans (hk.below (fun k hk' hf => by have := hMB k (hM k (.inl hf)); omega) (Nat.le_trans hb00.size hbd.size))))
          refine (fr F (fun k hk => hlt k (hM k (.inl hk))) h7 (if x then 5 else 6) (-1) (-1) (-1) (fun w2 => ∃ FD : Nat → Prop, DiskAt w2 FD d (relAll (layAll D T).1 (layAll D T).2.1) ∧ (∀ k, FD k → F k ∨ W.heap.size ≤ k) ∧ (∀ k, FD k → k < w2.heap.size)) (hL.mono fun e w2 ⟨hk, FD, hd2, hf2, hl2, b, he, hch⟩ => ⟨_, he, ⟨hk.os, hk.tape, hk.output, hk.size, hk.block⟩, ⟨FD, hd2, hf2, hl2⟩, ?_⟩)).mono fun e w' ⟨he, w2, ⟨FD, hd2, hf2, hl2⟩, hk, hk2⟩ => ⟨he, keep_join hb0 hk hk2 (by omega) (fun k hk => hM k (.inl hk)), fun k => M k ∨ FD k, ?_, fun k hk => .inl hk, fun k hk => hk.elim .inl fun hf => (hf2 k hf).elim (fun a => .inl (hM k (.inl a))) fun a => .inr (by omega)⟩
          · have hN2 := hnm w2 hk
            have hb : ∃ c t, w2.heap[(if x then q else wr).block]? = some (.cells c t (0, 0)) := by cases x with
              | true => exact hN2.m.bq
              | false => exact hN2.m.bw
            have := faultOf_any _ (if x then q else wr) (some (-1)) (some (-1)) w2 hch hb a0 a1 a2 tt q wr pg (by cases x <;> simp) hN2.e hN2.m
            have hc : codeAt a1 a2 tt q wr pg (if x then q else wr) = if x then 5 else 6 := by cases x with
              | true => exact n5
              | false => exact n6
            rw [hc] at this
            exact this
          · have hkF : Keep F w w' := keep_join hb0 hk hk2 (by omega) (fun _ h => h)
            have hstl : st < w.heap.size := hlt st (hM st (.inr (.inr (.inr rfl))))
            have hFDl : ∀ k, k < w.heap.size → FD k → F k := fun k hk' hf => (hf2 k hf).resolve_right (by omega)
            have hGl : ∀ k, G k → k < w.heap.size := fun k hg' => hlt k (hM k (.inr (.inl hg')))
            have hsl : ∀ k, setF s sv k → k < w.heap.size := fun k hs' => hlt k (hM k (.inr (.inr (.inl hs'))))
            have hnF : ∀ k, setF s sv k → ¬ F k := fun k hs' => hs'.elim (fun a => by rw [a]; exact h5) fun a => h6 k a
            refine ⟨⟨d, s, FD, G, sv, bs, ?_, h2.stands hkF.size fun k hk' hl => hkF.block k hl (hk'.elim (h4 k) (hnF k)), hd2.stands fun k hf hl => hk2.block k hl fun e => ?_, fun k hg' hf => h4 k hg' (hFDl k (hGl k hg') hf), fun hf => h5 (hFDl s (hsl s (.inl rfl)) hf), fun g' hg' hf => h6 g' hg' (hFDl g' (hsl g' (.inr hg')) hf), fun hf => h7 (hFDl st hstl hf), h8, h9, h10, ?_⟩, ?_⟩
            · unfold StoreAt at h1 ⊢
              rw [hkF.block st hstl h7]
              exact h1
            · rcases hf2 k hf with a | a
              · have := hlt k (hM k (.inl a)); omega
              · omega
            · rintro k (a | a | a | a)
              · exact .inr a
              · exact .inl (hM k (.inr (.inl a)))
              · exact .inl (hM k (.inr (.inr (.inl a))))
              · exact .inl (hM k (.inr (.inr (.inr a))))
            · have z3 := hk2.size
              have z4 := hkF.size
              rintro k (a | a)
              · have := hlt k a; omega
              · have := hl2 k a; omega
        | none =>
          have hr : loadR D Ts name ts hs rs g = .ok (layAll D T).1 ⟨name, ts, rs.length, g.toNat, (layAll D T).2.1⟩ := by unfold loadR; rw [if_pos hgood, if_neg hth, hp]; simp only; rw [hx]
          rw [hr]
          have hL := tLoad_ok s d F G D Ts sv bs name at_ ar ah ct cr ch ts hs xs rs g.toNat W.drew hin a0 a1 a2 hNd.e T hp q wr hLq hLw hFq hFw hx
          rw [hg] at hL
          have hz0 := hb0.size
          have hM1 : ∀ k, F k ∨ setF s sv k → M k := fun k hk => hk.elim (fun a => hM k (.inl a)) fun a => hM k (.inr (.inr (.inl a)))
          have hst1 : ¬ (F st ∨ setF s sv st) := fun h => h.elim h7 fun a => a.elim h9 h10
          refine (fr (fun k => F k ∨ setF s sv k) (fun k hk => hlt k (hM1 k hk)) hst1 0 (-1) (-1) (-1) (fun w2 => LoadOk W.drew s d F G D Ts sv bs name ts rs g.toNat T w2) (hL.mono fun e w2 ⟨he, hk⟩ => ⟨_, he, ⟨hk.1.os, hk.1.tape, hk.1.output, hk.1.size, hk.1.block⟩, hk, fault_nil w2⟩)).mono fun e w' ⟨he, w2, ⟨_, FD, G', sv', tb, hd2, hs2, hf2, hg2, hl2, ha2, hsF2, hvF2, hv2⟩, hk, hk2⟩ => ⟨he, keep_join hb0 hk hk2 (by omega) hM1, fun k => M k ∨ FD k ∨ G' k ∨ setF s sv' k, ?_, fun k hk => .inl hk, ?_⟩
          · have hkF : Keep (fun k => F k ∨ setF s sv k) w w' := keep_join hb0 hk hk2 (by omega) (fun _ h => h)
            have hstl : st < w.heap.size := hlt st (hM st (.inr (.inr (.inr rfl))))
            have hGl : ∀ k, G k → k < w.heap.size := fun k hg' => hlt k (hM k (.inr (.inl hg')))
            have hsl : ∀ k, setF s sv k → k < w.heap.size := fun k hs' => hlt k (hM k (.inr (.inr (.inl hs'))))
            have hFl : ∀ k, F k → k < w.heap.size := fun k hf => hlt k (hM k (.inl hf))
            have hWd : W.drew.heap.size = w.heap.size + 2 := hWz
            have nF : ∀ k, FD k → k ≠ w.heap.size + 1 := fun k hf e => by
              rcases hf2 k hf with a | a
              · have := hFl k a; omega
              · omega
            have nG : ∀ k, G' k → k ≠ w.heap.size + 1 := fun k hf e => by
              rcases hg2 k hf with a | a
              · have := hGl k a; omega
              · omega
            have nS : ∀ k, setF s sv' k → k ≠ w.heap.size + 1 := fun k hs' e => by
              rcases hs' with a | a
              · have := hsl s (.inl rfl); omega
              · rcases hv2 k a with b | b
                · have := hsl k (.inr b); omega
                · omega
            refine ⟨⟨d, s, FD, G', sv', bs ++ [tb], ?_, hs2.stands hk2.size fun k hk' hl => hk2.block k hl (hk'.elim (nG k) (nS k)), hd2.stands fun k hf hl => hk2.block k hl (nF k hf), ha2, hsF2, hvF2, fun hf => ?_, fun hg' => ?_, h9, fun hv' => ?_, ?_⟩, ?_⟩
            · unfold StoreAt at h1 ⊢
              rw [hkF.block st hstl hst1]
              exact h1
            · rcases hf2 st hf with a | a
              · exact h7 a
              · omega
            · rcases hg2 st hg' with a | a
              · exact h8 a
              · omega
            · rcases hv2 st hv' with a | a
              · exact h10 a
              · omega
            · rintro k (a | a | a | a)
              · exact .inr (.inl a)
              · exact .inr (.inr (.inl a))
              · exact .inr (.inr (.inr a))
              · exact .inl (hM k (.inr (.inr (.inr a))))
            · have z3 := hk2.size
              have z4 := hkF.size
              rintro k (a | a | a | a)
              · have := hlt k a; omega
              · have := hl2 k (.inl a); omega
              · have := hl2 k (.inr a); omega
              · rcases a with a | a
                · have := hsl s (.inl rfl); omega
                · have := own_block_ge hs2.own a; omega
          · have hWd : W.drew.heap.size = w.heap.size + 2 := hWz
            rintro k (a | a | a | a)
            · exact .inl a
            · rcases hf2 k a with b | b
              · exact .inl (hM k (.inl b))
              · exact .inr (by omega)
            · rcases hg2 k a with b | b
              · exact .inl (hM k (.inr (.inl b)))
              · exact .inr (by omega)
            · rcases a with a | a
              · exact .inl (hM k (.inr (.inr (.inl (.inl a)))))
              · rcases hv2 k a with b | b
                · exact .inl (hM k (.inr (.inr (.inl (.inr b)))))
                · exact .inr (by omega)
      · have hr : loadR D Ts name ts hs rs g = .dict c := by unfold loadR; rw [if_pos hgood, if_neg hth, hp]
        rw [hr]
        have hL := tLoad_dict s d F G D Ts sv bs name at_ ar ah ct cr ch ts hs xs rs g.toNat W.drew hin a0 a1 a2 hNd.e c hp
        rw [hg] at hL
        refine (fr (fun _ => False) (fun _ h => h.elim) id 2 (-1) (c : Int) (-1) (fun w2 => Below W.heap.size W w2) (hL.mono fun e w2 ⟨hb2, b, he, hch⟩ => ⟨_, he, Keep.of_below (below_undrew hb2), below_undrew hb2, ?_⟩)).mono fun e w' ⟨he, w2, hp, _, hk2⟩ => sload_same hS hb0 hp hk2 _ rfl rfl e he
        have hN2 := hNd.below hb2
        have := faultOf_any _ a1 (some (c : Int)) none w2 hch hN2.e.b1 a0 a1 a2 tt q wr pg (by simp) hN2.e hN2.m
        rw [n2] at this
        exact this
  · have hr : loadR D Ts name ts hs rs g = .arg := by unfold loadR; rw [if_neg hgood]
    rw [hr]
    have hL := tLoad_arg s name at_ ar ah ct cr ch ts hs xs rs g W.drew hAd ta hNd.c hgood
    refine (fr (fun _ => False) (fun _ h => h.elim) id 1 (-1) (-1) (-1) (fun w2 => Below W.heap.size W w2) (hL.mono fun e w2 ⟨he, hb2⟩ => ⟨_, he, Keep.of_below (below_undrew hb2), below_undrew hb2, ?_⟩)).mono fun e w' ⟨he, w2, hp, _, hk2⟩ => sload_same hS hb0 hp hk2 _ rfl rfl e he
    have hN2 := hNd.below hb2
    obtain ⟨dv, ov, gv, mn, h3, h4⟩ := hN2.m3
    exact faultOf_other _ ta none none w2 (.root ta) hN2.b a0 a1 a2 tt q wr pg pl ex dv ov gv mn hN2.n h4 hN2.e hN2.m hN2.m2 h3
end Go.Proofs.YtfgklnenpichcaaGreatDoor

/- A store's calls: Scan, Drop, Tables, Used, Spoil. -/
namespace Go.Proofs.YtfgklnenpichcaaGreatDoor
open Go.RowKit Go.Shelf

theorem Tables_sto (M : Nat → Prop) (st : Nat) (D : DS) (Ts : List TS) (w : World) (h : Sto M w st D Ts) :
    Calls Tryz.prog 16 #[.pointer (some ⟨st, 0, none⟩)] w fun e w' => e = .returned (.slice (some ⟨w.heap.size, 0, none⟩) Ts.length Ts.length) ∧ w'.rowIs w.heap.size 9 Ts.length (nameV Ts) ∧ Below w.heap.size w w' := by
  obtain ⟨⟨d, s, F, G, sv, bs, h1, h2, h3, h4, h5, h6, h7, h8, h9, h10, hM⟩, hlt⟩ := h
  exact Tables_any st w G s d Ts sv bs h1 h2
theorem Used_sto (M : Nat → Prop) (st : Nat) (D : DS) (Ts : List TS) (w : World) (h : Sto M w st D Ts) :
    Calls Tryz.prog 13 #[.pointer (some ⟨st, 0, none⟩)] w fun e w' => e = .returned (.int .i64 ((usedOf D.pages : Nat) : Int)) ∧ w' = w := by
  obtain ⟨⟨d, s, F, G, sv, bs, h1, h2, h3, h4, h5, h6, h7, h8, h9, h10, hM⟩, hlt⟩ := h
  exact Used_any st w F s d D h1 h3
theorem Scan_sto (M : Nat → Prop) (st : Nat) (D : DS) (Ts : List TS) (n : ByteArray) (w : World) (h : Sto M w st D Ts) (hok : ∀ T ∈ Ts, TabOk D T) (a0 a1 a2 tt q wr pg pl ex ta : Addr) (hN : Names w a0 a1 a2 tt q wr pg pl ex ta) :
    Calls Tryz.prog 17 #[.pointer (some ⟨st, 0, none⟩), .string n] w fun e w' => ScanPost w (rowsO D Ts n) e w' := by
  obtain ⟨⟨d, s, F, G, sv, bs, h1, h2, h3, h4, h5, h6, h7, h8, h9, h10, hM⟩, hlt⟩ := h
  exact Scan_any st n w F G s d D Ts sv bs h1 h2 h3 hok a0 a1 a2 tt q wr pg hN.e hN.m
/-- What a store's Drop leaves. -/
def DropSto (M : Nat → Prop) (w : World) (st : Nat) (D : DS) (Ts : List TS) (n : ByteArray) (e : Ending) (w' : World) : Prop :=
  match Ts[findI Ts n]? with
    | none => e = .returned (faultAt 4 (-1) (-1)) ∧ Below w.heap.size w w'
    | some T => e = .returned (fault 0) ∧ Keep M w w' ∧ Sto M w' st (relAll D T.segs) (Ts.eraseIdx (findI Ts n))
theorem Drop_sto (M : Nat → Prop) (st : Nat) (D : DS) (Ts : List TS) (n : ByteArray) (w : World) (h : Sto M w st D Ts) (hok : ∀ T ∈ Ts, T.segs.length ≤ 1000000 ∧ ∀ l ∈ T.segs, l.length ≤ 1000000) (a0 a1 a2 tt q wr pg pl ex ta : Addr) (hN : Names w a0 a1 a2 tt q wr pg pl ex ta) :
    Calls Tryz.prog 19 #[.pointer (some ⟨st, 0, none⟩), .string n] w fun e w' => DropSto M w st D Ts n e w' := by
  obtain ⟨⟨d, s, F, G, sv, bs, h1, h2, h3, h4, h5, h6, h7, h8, h9, h10, hM⟩, hlt⟩ := h
  refine (Drop_any st n w F G s d D Ts sv bs h1 h2 h3 h4 h5 h6 (fun k hk => hlt k (hM k (hk.elim .inl fun a => .inr (.inl a)))) hok a0 a1 a2 tt q wr pg hN.e hN.m).mono fun e w' ⟨hk, hp⟩ => ?_
  unfold DropSto
  cases hr : Ts[findI Ts n]? with
  | none => rw [hr] at hp; exact hp
  | some T =>
    rw [hr] at hp
    obtain ⟨he, hd, sv', hsv, hs⟩ := hp
    have hstl : st < w.heap.size := hlt st (hM st (.inr (.inr (.inr rfl))))
    have hz := hk.size
    refine ⟨he, hk.mono fun k _ h => hM k (h.elim .inl fun a => .inr (.inr (.inl a))), ⟨d, s, F, G, sv', _, ?_, hs, hd, h4, h5, fun g hg => h6 g (hsv ▸ hg), h7, h8, h9, by rw [hsv]; exact h10, fun k hk' => hM k ?_⟩, fun k hk' => Nat.lt_of_lt_of_le (hlt k hk') hz⟩
    · unfold StoreAt at h1 ⊢
      rw [hk.block st hstl (fun h => h.elim h7 fun a => a.elim h9 h10)]
      exact h1
    · rcases hk' with a | a | a | a
      · exact .inl a
      · exact .inr (.inl a)
      · refine .inr (.inr (.inl ?_))
        rcases a with a | a
        · exact .inl a
        · exact .inr (hsv ▸ a)
      · exact .inr (.inr (.inr a))

set_option maxRecDepth 100000 in
theorem Spoil_no (M : Nat → Prop) (st : Nat) (D : DS) (Ts : List TS) (page at_ by_ : Int) (w : World) (h : Sto M w st D Ts) (hno : canTurn D page at_ by_ = false) :
    Calls Tryz.prog 22 #[.pointer (some ⟨st, 0, none⟩), .int .i64 page, .int .i64 at_, .int .i64 by_] w fun e w' => e = .returned (.bool false) ∧ w' = w := by
  obtain ⟨⟨d, s, F, G, sv, bs, h1, h2, h3, h4, h5, h6, h7, h8, h9, h10, hM⟩, hlt⟩ := h
  obtain ⟨c0, _⟩ := h1.field
  have hn := dSpoil_no d page at_ by_ w F D h3 hno
  clear h1 h2 h3 hno hM hlt h4 h6
  go_enter Tryz.func22, Tryz.ntmps22
  go_wp2_with (go_at_call 39; refine hn.mono ?_; rintro e W1 ⟨rfl, rfl⟩)
  go_ret
  exact ⟨rfl, rfl⟩
set_option maxRecDepth 100000 in
theorem Spoil_yes (M : Nat → Prop) (st : Nat) (D : DS) (Ts : List TS) (pg at_ n : Nat) (w : World) (h : Sto M w st D Ts) (p : List UInt8) (hp : D.pages[pg]? = some (some p)) (hat : at_ < 64) (hn1 : 1 ≤ n) (hn : n ≤ 255) :
    Calls Tryz.prog 22 #[.pointer (some ⟨st, 0, none⟩), .int .i64 (pg : Int), .int .i64 (at_ : Int), .int .i64 (n : Int)] w fun e w' => e = .returned (.bool true) ∧ Keep M w w' ∧ Sto M w' st ⟨D.quota, D.fail, D.writes, D.lowest, D.pages.set pg (some (turnP p at_ n))⟩ Ts := by
  obtain ⟨⟨d, s, F, G, sv, bs, h1, h2, h3, h4, h5, h6, h7, h8, h9, h10, hM⟩, hlt⟩ := h
  obtain ⟨c0, _⟩ := h1.field
  have hn' := dSpoil_yes d pg at_ n w F D h3 p hp hat hn1 hn
  have HX : Hid (∀ w', DiskAt w' F d ⟨D.quota, D.fail, D.writes, D.lowest, D.pages.set pg (some (turnP p at_ n))⟩ → Keep F w w' → Keep M w w' ∧ Sto M w' st ⟨D.quota, D.fail, D.writes, D.lowest, D.pages.set pg (some (turnP p at_ n))⟩ Ts) := fun w' hd hk => by
    have hz := hk.size
    have hstl : st < w.heap.size := hlt st (hM st (.inr (.inr (.inr rfl))))
    refine ⟨hk.mono fun k _ h => hM k (.inl h), ⟨d, s, F, G, sv, bs, ?_, h2.stands hz fun k hk' hl => hk.block k hl (hk'.elim (h4 k) fun a => a.elim (fun b => by rw [b]; exact h5) fun b => h6 k b), hd, h4, h5, h6, h7, h8, h9, h10, hM⟩, fun k hk' => Nat.lt_of_lt_of_le (hlt k hk') hz⟩
    unfold StoreAt at h1 ⊢
    rw [hk.block st hstl h7]
    exact h1
  clear h1 h2 h3 hM hlt h4 h6 hp
  go_enter Tryz.func22, Tryz.ntmps22
  go_wp2_with (go_at_call 39; refine hn'.mono ?_; rintro e W1 ⟨rfl, hd, hk⟩)
  go_ret
  exact ⟨rfl, HX.out W1 hd hk⟩
end Go.Proofs.YtfgklnenpichcaaGreatDoor
