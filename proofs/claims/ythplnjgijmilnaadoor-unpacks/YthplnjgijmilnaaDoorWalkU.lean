/- What the document's own Pack answers where there is such a way and there are no more than 64 values. -/
import Derived.Test.YthplnjgijmilnaaDoorWalkT
namespace Go.Proofs.YthplnjgijmilnaaDoor
open Go.RowKit

set_option maxRecDepth 100000 in
set_option maxHeartbeats 2000000 in
theorem rPack_main (t how : Int) (a : Option Addr) (cap : Nat) (xs : List V) (w : World) (hx : Vals w a xs) (hway : way t how = true) (h64 : xs.length ≤ 64) :
    Calls Tryd.prog 16 #[.int .i64 t, .int .i64 how, .slice a xs.length cap] w fun e w' => e = .returned (.tuple #[.string (str (pOut t how xs).1), fault (pOut t how xs).2]) ∧ Below w.heap.size w w' := by
  have hb0 : Below w.heap.size w (w.alloc (.cells #[.int .i64 0, .int .i64 0, .int .i64 0, .int .i64 0, .int .i64 0] 31)) := (Below.refl _ _).alloc (Nat.le_refl _) _
  have hhow := way_cases t how hway
  have HNO : Hid (¬ okAll t xs → pOut t how xs = ([], 1)) := fun h => by
    unfold pOut
    rw [if_neg]
    rw [Bool.and_eq_true]; exact fun e => h ((okAllB_iff t xs).1 e.2)
  have HDI : Hid (okAll t xs → how = 1 → 16 < (uniq [] (heldOf xs)).length → pOut t how xs = ([], 2)) := fun h h1 h2 => by
    unfold pOut
    rw [if_pos (by rw [Bool.and_eq_true]; exact ⟨hway, (okAllB_iff t xs).2 h⟩), if_pos ⟨h1, h2⟩]
  have HOK : Hid (okAll t xs → ¬ (how = 1 ∧ 16 < (uniq [] (heldOf xs)).length) → pOut t how xs = (segEnc t how xs, 0)) := fun h h1 => by
    unfold pOut
    rw [if_pos (by rw [Bool.and_eq_true]; exact ⟨hway, (okAllB_iff t xs).2 h⟩), if_neg h1]
  generalize hw0 : w.alloc (.cells #[.int .i64 0, .int .i64 0, .int .i64 0, .int .i64 0, .int .i64 0] 31) = w0 at *
  have hf0 : ∀ o, w0.frozen? ⟨w.heap.size, o, none⟩ = false := by intro o; rw [← hw0]; simp
  have hcl : w.heap.size < w0.heap.size := by rw [← hw0]; simp
  have q0 : w0.cell? ⟨w.heap.size, 0, none⟩ = some (.int .i64 0) := by rw [← hw0]; simp
  have q1 : w0.cell? ⟨w.heap.size, 1, none⟩ = some (.int .i64 0) := by rw [← hw0]; simp
  have q2 : w0.cell? ⟨w.heap.size, 2, none⟩ = some (.int .i64 0) := by rw [← hw0]; simp
  have q3 : w0.cell? ⟨w.heap.size, 3, none⟩ = some (.int .i64 0) := by rw [← hw0]; simp
  have q4 : w0.cell? ⟨w.heap.size, 4, none⟩ = some (.int .i64 0) := by rw [← hw0]; simp
  go_enter Tryd.func16, Tryd.ntmps16
  go_wp2_with fail
  refine (rWay_any _ _ _).mono ?_
  rintro e w1 ⟨rfl, hw1⟩
  rw [hway]
  subst w1
  clear hw0
  go_wp2_with fail
  go_loopw [8, 9, 10, 11] (fun okv th lv i wr => ∃ k : Nat, k ≤ xs.length ∧ i = .int .i64 k ∧ (∃ b : Bool, okv = .bool b) ∧ OwnC wr w0.heap.size 4 th (((xs.take k).map fun v => v.k != 0).map Value.bool) ∧ OwnV wr w0.heap.size lv (heldOf (xs.take k)) ∧ (∀ x, th.ownBlock = some x → lv.ownBlock ≠ some x) ∧ Below w0.heap.size w0 wr ∧ Hid (∀ j (hj : j < xs.length), j < k → okB t xs[j].k xs[j].n xs[j].s = true)) (fun _ _ _ i _ => xs.length - (intOf i).toNat)
  case atStart => exact ⟨0, by omega, rfl, ⟨_, rfl⟩, OwnC.nil _ _ _, OwnV.nil _ _, by simp [Value.ownBlock], Below.refl _ _, fun j _ hj => absurd hj (Nat.not_lt_zero _)⟩
  case round =>
    obtain ⟨k, hk, rfl, ⟨b, rfl⟩, hth, hlv, hn3, hbw, hall⟩ := hrel
    have hs0 := hbw.size
    by_cases hlt : k < xs.length
    · obtain ⟨b1, o1, rfl, hb1, x1', x2', x3'⟩ := (hx.below hb0).at hlt
      have HC : Hid (∀ W, Below w0.heap.size w0 W → W.cell? ⟨b1, o1 + k * 3, none⟩ = some (.int .i64 xs[k].k) ∧ W.cell? ⟨b1, o1 + k * 3 + 1, none⟩ = some (.int .i64 xs[k].n) ∧ W.cell? ⟨b1, o1 + k * 3 + 2, none⟩ = some (.string xs[k].s)) := fun W hW =>
        ⟨(World.cell?_of_block (w := w0) (a := ⟨b1, _, none⟩) (hW.block b1 hb1)).trans x1', (World.cell?_of_block (w := w0) (a := ⟨b1, _, none⟩) (hW.block b1 hb1)).trans x2', (World.cell?_of_block (w := w0) (a := ⟨b1, _, none⟩) (hW.block b1 hb1)).trans x3'⟩
      clear x1' x2' x3'
      obtain ⟨x1, x2, x3⟩ := HC.out _ hbw
      cases ho : okB t xs[k].k xs[k].n xs[k].s
      · have HP : Hid (pOut t how xs = ([], 1)) := HNO.out fun h => by have := h.2 k hlt; rw [ho] at this; exact absurd this (by decide)
        go_wp2_with fail
        refine (rIs_any _ _ _ _ _).mono ?_
        rintro e w2 ⟨rfl, hb2⟩
        rw [ho]
        go_wp2_with fail
        refine (rBad_any _ _).mono ?_
        rintro e w3 ⟨rfl, hb3⟩
        have hb03 := below_then hbw (below_then hb2 hb3)
        obtain ⟨k1, k2⟩ := below_keep hb03
        have hb4 := below_then hb0 hb03
        go_wp2
        refine bodyPost_ret (v := .tuple #[.string (str []), fault 1]) (by simp [results, Tryd.results16, go_sem, k1, q0, q1, q2, q3, q4, hcl]; rfl) rfl ⟨?_, below_set5 hb4 (Nat.le_refl _) _ _ _ _ _⟩
        rw [HP.out]
      · have hsn : ((xs.take (k + 1)).map fun v => v.k != 0).map Value.bool = ((xs.take k).map fun v => v.k != 0).map Value.bool ++ [.bool (xs[k].k != 0)] := by
          rw [List.take_succ_eq_append_getElem hlt, List.map_append, List.map_append]; rfl
        have hts := heldOf_snoc (xs.take k) xs[k]
        rw [← List.take_succ_eq_append_getElem hlt] at hts
        have hle := heldOf_le (xs.take k)
        have hle2 : (xs.take k).length ≤ k := List.length_take_le _ _
        have hhl : (heldOf (xs.take k)).length ≤ 64 := by omega
        have hbl : (((xs.take k).map fun v => v.k != 0).map Value.bool).length ≤ 64 := by rw [List.length_map, List.length_map, List.length_take]; omega
        have HSN : Hid _ := hsn
        have HTS : Hid _ := hts
        have HO : Hid (okB t xs[k].k xs[k].n xs[k].s = true) := ho
        clear hsn hts hle hle2
        generalize ((xs.take k).map fun v => v.k != 0).map Value.bool = BL at *
        generalize heldOf (xs.take k) = HL at *
        go_wp2_with fail
        refine (rIs_any _ _ _ _ _).mono ?_
        rintro e w2 ⟨rfl, hb2⟩
        rw [ho]
        clear ho
        have hth2 := hth.below hb2
        have hlv2 := hlv.below hb2
        have hb02 := below_then hbw hb2
        have hs2 := hb02.size
        clear x1 x2 x3
        obtain ⟨y1, y2, y3⟩ := HC.out _ hb02
        have hthB := fun x hx => (owns_block hth2 (g := x) hx)
        have hlvB := fun x hx => (owns_block hlv2 (g := x) hx)
        by_cases h0 : xs[k].k = 0
        · have h0' : (xs[k].k != 0) = false := by simp [h0]
          have HT2 : Hid (heldOf (xs.take (k + 1)) = HL) := by show _ = _; rw [HTS.out, if_pos h0]
          have H0 : Hid (xs[k].k = 0) := h0
          clear h0
          go_wp2_with (at_builtin; go_must (refine wpList_append_C (by rfl) _ _ 51 4 _ 1 info_bool (by rfl) (by decide) (by kernel_rfl) (by rfl) w0.heap.size _ _ (by rfl) (hth2.alloc _) ⟨w2.heap.size, 0, none⟩ 1 [.bool false] (by rfl) (by exact news_one _ _ _) (by intro u hu; simp at hu; subst hu; rfl) (by simp only [List.length_cons, List.length_nil]; omega) (by simp; omega) ?_); intro sv' w3 h1 h2 h3; have hb03 := below_grown (below_alloc hb02 (.cells #[.bool false] 4)) h2 fun x hx => (hthB x hx).1; obtain ⟨z1, z2, z3⟩ := HC.out _ hb03)
          have hlv3 : OwnV w3 w0.heap.size u10 HL := owns_of_block (hlv2.alloc _) fun x hx => h2.block x (by have := (hlvB x hx).2; simp; omega) fun e => hn3 x e.symm hx
          go_roundw
          case rel =>
            refine ⟨k + 1, by omega, by go_num, ⟨_, rfl⟩, ?_, by rw [HT2.out]; exact hlv3, ?_, hb03, ?_⟩
            · rw [HSN.out]
              have : (xs[k].k != 0) = false := by simp [H0.out]
              rw [this]; exact h1
            · intro x hx e
              have hl := (hlvB x e).2
              rcases h3 with e3 | e3
              · exact hn3 x (e3.symm.trans hx) e
              · rw [e3] at hx; simp at hx; omega
            · intro j hj hjk
              by_cases e : j = k
              · subst e; exact HO.out
              · exact hall.out j hj (by omega)
          case measure => simp [intOf]; omega
        · have h0' : (xs[k].k != 0) = true := by simp [h0]
          have HT2 : Hid (heldOf (xs.take (k + 1)) = HL ++ [xs[k]]) := by show _ = _; rw [HTS.out, if_neg h0]
          have H0 : Hid (¬ xs[k].k = 0) := h0
          clear h0
          go_wp2_with (first
            | (at_builtin; refine wpList_append_C (by rfl) _ _ 51 4 _ 1 info_bool (by rfl) (by decide) (by kernel_rfl) (by rfl) w0.heap.size _ _ (by rfl) (hth2.alloc _) ⟨w2.heap.size, 0, none⟩ 1 [.bool true] (by rfl) (by exact news_one _ _ _) (by intro u hu; simp at hu; subst hu; rfl) (by simp only [List.length_cons, List.length_nil]; omega) (by simp; omega) ?_; intro sv' w3 h1 h2 h3; have hb03 := below_grown (below_alloc hb02 (.cells #[.bool true] 4)) h2 fun x hx => (hthB x hx).1; obtain ⟨z1, z2, z3⟩ := HC.out _ hb03; have hs3 := hb03.size; have hlv3 : OwnV w3 w0.heap.size u10 HL := owns_of_block (hlv2.alloc _) (fun x hx => h2.block x (by have := (hlvB x hx).2; simp; omega) fun e => hn3 x e.symm hx))
            | (at_builtin; refine wpList_append_V (by rfl) _ _ (by rfl) w0.heap.size _ _ (by rfl) (hlv3.alloc _) _ _ xs[k] (by rfl) (by refine ⟨?_, ?_, ?_⟩ <;> simp) (by omega) (by simp; omega) ?_; intro sv2 w4 g1 g2 g3))
          have hlv3B := fun x hx => (owns_block hlv3 (g := x) hx)
          have hsvB := fun x hx => (owns_block h1 (g := x) hx)
          have hdis : ∀ x, sv'.ownBlock = some x → u10.ownBlock ≠ some x := by
            intro x hx e
            have hl := (hlvB x e).2
            rcases h3 with e3 | e3
            · exact hn3 x (e3.symm.trans hx) e
            · rw [e3] at hx; simp at hx; omega
          go_roundw
          case rel =>
            refine ⟨k + 1, by omega, by go_num, ⟨_, rfl⟩, ?_, by rw [HT2.out]; exact g1, ?_, below_grown (below_alloc hb03 _) g2 fun x hx => (hlv3B x hx).1, ?_⟩
            · rw [HSN.out]
              have : (xs[k].k != 0) = true := by simp [H0.out]
              rw [this]
              exact owns_of_block (owns_alloc h1 _) fun x hx => g2.block x (by have := (hsvB x hx).2; simp; omega) fun e => hdis x hx e.symm
            · intro x hx e
              have hl := (hsvB x hx).2
              rcases g3 with e3 | e3
              · exact hdis x hx (e3.symm.trans e)
              · rw [e3] at e; simp at e; omega
            · intro j hj hjk
              by_cases e : j = k
              · subst e; exact HO.out
              · exact hall.out j hj (by omega)
          case measure => simp [intOf]; omega
    · have hok : okAll t xs := ⟨h64, fun j hj => hall.out j hj (by omega)⟩
      have e : xs.take k = xs := List.take_of_length_le (by omega)
      rw [e] at hth hlv
      clear e
      obtain ⟨a5, cap5, rfl, hc5⟩ := hth.cells
      obtain ⟨a6, cap6, rfl, hv6⟩ := hlv.vals
      have hhl : (heldOf xs).length ≤ 64 := by have := heldOf_le xs; omega
      have hgd := good_held t xs hok
      have hbl2 := bool_held t xs hok
      have hbe := bodyEnc_le t how (heldOf xs) hhl hgd
      have hzb : (str (bodyEnc t how (heldOf xs))).size ≤ 6000 := by rw [str_size]; exact hbe
      have hbl : (xs.map fun v => v.k != 0).length ≤ 64 := by simpa using h64
      have hpk := packBits_length (xs.map fun v => v.k != 0)
      have hzp : (str (packBits (xs.map fun v => v.k != 0))).size ≤ 100 := by rw [str_size, hpk]; omega
      have hs1 := str1_size
      have hse : str (segEnc t how xs) = str [low t] ++ str [low how] ++ str [low xs.length] ++ str (packBits (xs.map fun v => v.k != 0)) ++ str (bodyEnc t how (heldOf xs)) := by
        unfold segEnc headEnc
        rw [str_append, str_append, str_append, str_append]
        simp
      have HSE : Hid _ := hse
      have hdi := HDI.out hok
      have hokk := HOK.out hok
      rw [List.length_map]
      clear hse hbe hpk hth hlv hn3
      generalize (xs.map fun v => v.k != 0) = BL at *
      generalize heldOf xs = HL at *
      by_cases h1 : how = 1
      · subst h1
        go_wp2_with fail
        refine (rDifferent_any a6 cap6 HL _ hhl hv6).mono ?_
        rintro e w3 ⟨sv3, rfl, hown3, hb3⟩
        obtain ⟨a7, cap7, rfl, _⟩ := hown3.vals
        clear hown3
        have hb03 := below_then hbw hb3
        by_cases h16 : 16 < (uniq [] HL).length
        · have HP : Hid (pOut t 1 xs = ([], 2)) := hdi trivial h16
          clear hdi hokk
          have h16' : (16 : Int) < ((uniq [] HL).length : Int) := by omega
          generalize uniq [] HL = d at *
          go_wp2_with fail
          refine (rBad_any _ _).mono ?_
          rintro e w4 ⟨rfl, hb4⟩
          have hb04 := below_then hb03 hb4
          obtain ⟨k1, k2⟩ := below_keep hb04
          have hb4' := below_then hb0 hb04
          go_wp2
          refine bodyPost_ret (v := .tuple #[.string (str []), fault 2]) (by simp [results, Tryd.results16, go_sem, k1, q0, q1, q2, q3, q4, hcl]; rfl) rfl ⟨?_, below_set5 hb4' (Nat.le_refl _) _ _ _ _ _⟩
          rw [HP.out]
        · have HP : Hid (pOut t 1 xs = (segEnc t 1 xs, 0)) := hokk fun h => h16 h.2
          clear hdi hokk
          have h16' : ((uniq [] HL).length : Int) ≤ (16 : Int) := by omega
          generalize uniq [] HL = d at *
          replace hc5 := hc5.below hb3
          replace hv6 := hv6.below hb3
          go_wp2_with fail
          refine (byteOf_any _ _).mono ?_
          rintro e w4 ⟨rfl, hb4⟩
          go_wp2_with fail
          refine (byteOf_any _ _).mono ?_
          rintro e w5 ⟨rfl, hb5⟩
          go_wp2_with fail
          refine (byteOf_any _ _).mono ?_
          rintro e w6 ⟨rfl, hb6⟩
          have hb46 := below_then hb4 (below_then hb5 hb6)
          go_wp2_with fail
          refine (rBitsText_any a5 cap5 BL _ (by omega) (hc5.below hb46)).mono ?_
          rintro e w7 ⟨rfl, hb7⟩
          have hb47 := below_then hb46 hb7
          go_wp2_with fail
          refine (rBody_any t 1 a6 cap6 HL _ (.inr (.inl rfl)) hhl hgd hbl2 (hv6.below hb47)).mono ?_
          rintro e w8 ⟨rfl, hb8⟩
          go_wp2_with fail
          refine (rGood_any _).mono ?_
          rintro e w9 ⟨rfl, hb9⟩
          have hb09 := below_then hb03 (below_then hb47 (below_then hb8 hb9))
          obtain ⟨k1, k2⟩ := below_keep hb09
          have hb4' := below_then hb0 hb09
          generalize bodyEnc t 1 HL = BE at *
          go_wp2
          refine bodyPost_ret (v := .tuple #[.string (str [low t] ++ str [low 1] ++ str [low xs.length] ++ str (packBits BL) ++ str BE), fault 0]) (by simp [results, Tryd.results16, go_sem, k1, q0, q1, q2, q3, q4, hcl]) rfl ⟨?_, below_set5 hb4' (Nat.le_refl _) _ _ _ _ _⟩
          rw [HP.out]
          simp only
          rw [HSE.out]
      · have HP : Hid (pOut t how xs = (segEnc t how xs, 0)) := hokk fun h => h1 h.1
        have h1' : (how == 1) = false := by simp [h1]
        have HH : Hid (how = 0 ∨ how = 1 ∨ how = 2 ∨ how = 3) := hhow
        clear hdi hokk h1 hhow
        go_wp2_with fail
        refine (byteOf_any _ _).mono ?_
        rintro e w4 ⟨rfl, hb4⟩
        go_wp2_with fail
        refine (byteOf_any _ _).mono ?_
        rintro e w5 ⟨rfl, hb5⟩
        go_wp2_with fail
        refine (byteOf_any _ _).mono ?_
        rintro e w6 ⟨rfl, hb6⟩
        have hb46 := below_then hb4 (below_then hb5 hb6)
        go_wp2_with fail
        refine (rBitsText_any a5 cap5 BL _ (by omega) (hc5.below hb46)).mono ?_
        rintro e w7 ⟨rfl, hb7⟩
        have hb47 := below_then hb46 hb7
        go_wp2_with fail
        refine (rBody_any t how a6 cap6 HL _ HH.out hhl hgd hbl2 (hv6.below hb47)).mono ?_
        rintro e w8 ⟨rfl, hb8⟩
        go_wp2_with fail
        refine (rGood_any _).mono ?_
        rintro e w9 ⟨rfl, hb9⟩
        have hb09 := below_then hbw (below_then hb47 (below_then hb8 hb9))
        obtain ⟨k1, k2⟩ := below_keep hb09
        have hb4' := below_then hb0 hb09
        generalize bodyEnc t how HL = BE at *
        go_wp2
        refine bodyPost_ret (v := .tuple #[.string (str [low t] ++ str [low how] ++ str [low xs.length] ++ str (packBits BL) ++ str BE), fault 0]) (by simp [results, Tryd.results16, go_sem, k1, q0, q1, q2, q3, q4, hcl]) rfl ⟨?_, below_set5 hb4' (Nat.le_refl _) _ _ _ _ _⟩
        rw [HP.out]
        simp only
        rw [HSE.out]

theorem rPack_any (t how : Int) (a : Option Addr) (cap : Nat) (xs : List V) (w : World) (hx : Vals w a xs) :
    Calls Tryd.prog 16 #[.int .i64 t, .int .i64 how, .slice a xs.length cap] w fun e w' => e = .returned (.tuple #[.string (str (pOut t how xs).1), fault (pOut t how xs).2]) ∧ Below w.heap.size w w' := by
  by_cases h : way t how = true ∧ xs.length ≤ 64
  · exact rPack_main t how a cap xs w hx h.1 h.2
  · have e : pOut t how xs = ([], 1) := by
      unfold pOut
      rw [if_neg]
      rw [Bool.and_eq_true]
      exact fun e => h ⟨e.1, ((okAllB_iff t xs).1 e.2).1⟩
    rw [e]
    exact rPack_way t how a cap xs w h
end Go.Proofs.YthplnjgijmilnaaDoor
