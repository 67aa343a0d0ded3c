/- Texts laid on the disk, one after the other: all of them, or none is left there. -/
import Derived.Test.YtfgklnenpichcaaGreatDoorTd
namespace Go.Proofs.YtfgklnenpichcaaGreatDoor
open Go.RowKit

/-- 'l = append(l, x)', elements of one cell, of at most 64 bytes. -/
theorem wpList_append_D {w : World} {ops : Array Oper} {rest : List Oper} {o : Oper} {a : Act} {Q : Exit → Act → World → Prop} (hgd : o.guard = none) (s x : Operand) (t e : TypeId) (z : Value) (by1 : Nat)
    (hinfo : (Tryz.prog.info? e).map (fun i => (i.zero, i.size, i.bytes)) = some (some z, 1, by1)) (hz1 : z.cells.size = 1) (hby1 : by1 ≤ 64) (ht : Tryz.prog.underlying t = some (.slice e))
    (ho : o.op = .call { callee := .builtin .append, args := #[s, x], argTypes := #[t, t] })
    (B : Nat) (sv : Value) (xs : List Value) (hs : a.eval s = sv) (hown : OwnC w B e sv xs)
    (ad : Addr) (c : Nat) (news : List Value) (hx : a.eval x = .slice (some ad) news.length c) (hv : ∀ j u, news[j]? = some u → w.cell? (ad.add j) = some u) (h1 : ∀ u ∈ news, u.oneCell' = true) (hlen : xs.length + news.length ≤ 1000000) (hbase : B ≤ w.heap.size)
    (h : ∀ sv' w', OwnC w' B e sv' (xs ++ news) → w.grownBy w' sv.ownBlock → (sv'.ownBlock = sv.ownBlock ∨ sv'.ownBlock = some w.heap.size) → wpList Tryz.prog ops Q rest (a.put o.dst sv') w') :
    wpList Tryz.prog ops Q (o :: rest) a w := by
  obtain ⟨i, hi, hz, hsz, hby⟩ := info_parts hinfo
  refine wpList_append_own_at w hgd s x t ho B e i _ 1 by1 ht hi hz hsz hby hz1 (by decide) sv xs.length xs hs hown ad news.length c news hx (by simp) hv h1 ?_ ?_ hbase ?_
  · unfold maxLen; omega
  · have : (xs.length + news.length) * by1 ≤ 1000000 * 64 := Nat.mul_le_mul hlen hby1
    omega
  · intro v' w' h1 h2 _ h4
    refine h v' w' ?_ h2 h4
    unfold OwnC
    simpa using h1

theorem relOne_len (D : DS) (i : Nat) : (relOne D i).pages.length = D.pages.length := by unfold relOne; split <;> simp
theorem relD_len (l : List Nat) : ∀ D : DS, (relD D l).pages.length = D.pages.length := by
  induction l with
  | nil => intro D; rfl
  | cons i l ih => intro D; show (relD (relOne D i) l).pages.length = _; rw [ih, relOne_len]
theorem relAll_len (ls : List (List Nat)) : ∀ D : DS, (relAll D ls).pages.length = D.pages.length := by
  induction ls with
  | nil => intro D; rfl
  | cons l ls ih => intro D; show (relAll (relD D l) ls).pages.length = _; rw [ih, relD_len]
theorem layL_len : ∀ (ps : List (List UInt8)) (D : DS), (layL D ps).1.pages.length ≤ D.pages.length + ps.length ∧ (layL D ps).2.1.length ≤ ps.length
  | [], D => by simp [layL]
  | p :: ps, D => by
    unfold layL
    split
    · simp
    · split
      · simp [countD]
      · have := layL_len ps (wroteD D p)
        have h2 := wroteD_len D p
        simp
        omega
def totalP (ts : List (List UInt8)) : Nat := (ts.map fun t => (pieces t).length).sum
theorem totalP_cons (t : List UInt8) (ts : List (List UInt8)) : totalP (t :: ts) = (pieces t).length + totalP ts := by simp [totalP]
def tv (t : List UInt8) : Value := .string (str t)

set_option maxRecDepth 100000 in
set_option maxHeartbeats 2000000 in
theorem tLay_any (s d : Nat) (a : Option Addr) (cap : Nat) (ts : List (List UInt8)) (w : World) (F : Nat → Prop) (D : DS) (h : DiskAt w F d D) (hF : ∀ k, F k → k < w.heap.size) (ht : Cells w a (ts.map tv)) (haF : ∀ b o, a = some ⟨b, o, none⟩ → ¬ F b) (hs0 : w.cell? ⟨s, 0, none⟩ = some (.pointer (some ⟨d, 0, none⟩))) (hsF : ¬ F s) (q qw : Addr)
    (hq : w.cell? ⟨4, 0, none⟩ = some (.iface 255 (.pointer (some q)))) (hw : w.cell? ⟨5, 0, none⟩ = some (.iface 255 (.pointer (some qw)))) (hFq : ¬ F 4) (hFw : ¬ F 5) (hsm : D.pages.length + totalP ts ≤ 800000) (htn : ts.length ≤ 100000) (htl : ∀ t ∈ ts, t.length ≤ 1000000) :
    Calls Tryz.prog 57 #[.pointer (some ⟨s, 0, none⟩), .slice a ts.length cap] w fun e w' => LayAllPost w F d q qw (layAll D ts) e w' := by
  have HTL : Hid (∀ t ∈ ts, t.length ≤ 1000000) := htl
  clear htl
  go_enter Tryz.func57, Tryz.ntmps57
  go_wp2
  go_loopw [6, 13] (fun sv i wr => ∃ (k : Nat) (E : DS) (hs : List (Option Addr × Nat)) (ls : List (List Nat)) (FD : Nat → Prop), k ≤ ts.length ∧ i = .int .i64 k ∧ ls.length ≤ k ∧ E.pages.length + totalP (ts.drop k) ≤ 800000 ∧ LayingS w F wr d E sv hs ls FD ∧ Hid ((∀ l ∈ ls, l.length ≤ 1000000) ∧ layAll D ts = behindS ls (layAll E (ts.drop k)))) (fun _ i _ => ts.length - (intOf i).toNat)
  case atStart => exact ⟨0, D, [], [], F, Nat.zero_le _, rfl, Nat.le_refl _, by simpa using hsm, ⟨h, fun k hk => .inl hk, hF, OwnC.nil _ _ _, rfl, fun i h l hi => by simp at hi, fun i h hi => by simp at hi, fun g hg => by simp [Value.ownBlock] at hg, Keep.refl _ _⟩, by show _ ∧ _; exact ⟨by simp, by simp [behindS]⟩⟩
  case round =>
    rename_i sv i
    obtain ⟨k, E, hs, ls, FD, hk, rfl, hlk, hel, hL, HE⟩ := hrel
    by_cases hlt : k < ts.length
    · have HDR : Hid (ts.drop k = ts[k] :: ts.drop (k + 1)) := List.drop_eq_getElem_cons hlt
      rw [HDR.out, totalP_cons] at hel
      rcases ht with ht | ⟨b, o, rfl, hb, ht⟩
      · simp at ht; subst ht; simp at hlt
      have cb : wr.cell? ⟨b, o + k, none⟩ = some (.string (str ts[k])) := hL.keep.cell (ht k _ (by simp [hlt]; rfl)) (haF b o rfl)
      have c0 := hL.keep.cell hs0 hsF
      have hlay := dLay_any d ts[k] wr FD E hL.disk hL.lt q qw (hL.keep.cell hq hFq) (hL.keep.cell hw hFw) (fun hf => ?_) (fun hf => ?_) (by omega) (HTL.out _ (List.getElem_mem hlt))
      · obtain ⟨a0, c0', hsv, _⟩ := hL.own.cells
        have hzl : (List.zipWith segV hs ls).length = ls.length := by simp [hL.len]
        rw [hzl] at hsv
        have HZ : Hid ((List.zipWith segV hs ls).length = ls.length) := hzl
        clear hzl
        subst hsv
        have hback : ∀ (FD1 : Nat → Prop), (∀ k, FD1 k → FD k ∨ wr.heap.size ≤ k) → ∀ k, k < w.heap.size → FD1 k → F k := fun FD1 h1 k hk hf => by
          have := hL.keep.size
          rcases h1 k hf with h | h
          · exact (hL.from_ k h).resolve_right (by omega)
          · omega
        have HB := hback
        replace HB : Hid (∀ (FD1 : Nat → Prop), (∀ k, FD1 k → FD k ∨ wr.heap.size ≤ k) → ∀ k, k < w.heap.size → FD1 k → F k) := HB
        clear hback
        have HL : Hid (LayingS w F wr d E (.slice a0 ls.length c0') hs ls FD) := hL
        have hws := hL.keep.size
        clear hL
        rcases hr : layL E (pieces ts[k]) with ⟨E1, l, r⟩
        have hll := layL_len (pieces ts[k]) E
        rw [hr] at hlay hll
        simp only at hll
        cases r with
        | none =>
          have HE1 : Hid ((∀ l' ∈ ls ++ [l], l'.length ≤ 1000000) ∧ layAll D ts = behindS (ls ++ [l]) (layAll E1 (ts.drop (k + 1)))) := by
            refine ⟨fun l' hl' => ?_, by rw [HE.out.2, HDR.out, behindS_more hr]⟩
            rcases List.mem_append.1 hl' with h | h
            · exact HE.out.1 l' h
            · simp at h; subst h; omega
          clear HE HDR hr
          generalize ts[k] = tk at *
          go_wp2_with (first | (go_at_call 86; refine hlay.mono ?_; rintro e W1 ⟨hk1, FD1, hd1, hf1, hl1, sv1, rfl, ho1, ha1⟩; obtain ⟨a1, c1, hs1, _⟩ := ho1.cells; rw [List.length_map] at hs1; subst hs1; have hs1 := hk1.size) | (at_builtin; go_must (refine wpList_append_D (by rfl) _ _ 106 23 _ 24 info_ints (by rfl) (by decide) (by kernel_rfl) (by rfl) w.heap.size _ _ (by rfl) (OwnC.alloc (HL.out.stand hk1).1 _) ⟨W1.heap.size, 0, none⟩ 1 [.slice a1 l.length c1] (by rfl) (by exact news_one W1 _ _) (by intro u hu; simp at hu; subst hu; rfl) (by rw [HZ.out]; simp only [List.length_cons, List.length_nil]; omega) (by simp; omega) ?_); intro sv' w3 h1 h2 h3; obtain ⟨a2, cap2, rfl, _⟩ := h1.cells))
          go_roundw
          case rel =>
            have hq := HL.out.more hk1 hd1 hf1 hl1 a1 c1 l ho1 ha1 _ h1 h2 h3
            simp only [List.length_append, List.length_zipWith, List.length_cons, List.length_nil, Nat.zero_add] at hq
            exact ⟨k + 1, E1, _, _, _, by omega, by go_num, by simp; omega, by omega, hq, HE1.out⟩
          case measure => simp [intOf]; omega
        | some x =>
          have HE1 : Hid (layAll D ts = (relD E1 l, ls, some x)) := by show _ = _; rw [HE.out.2, HDR.out, behindS_err hr]
          have HLL : Hid (∀ l ∈ ls, l.length ≤ 1000000) := HE.out.1
          clear HE HDR hr
          generalize ts[k] = tk at *
          go_wp2_with (first | (go_at_call 86; refine hlay.mono ?_; rintro e W1 ⟨hk1, FD1, hd1, hf1, hl1, b1, rfl, hb1, hc1, hn1⟩; have hsg := HL.out.done.stands hk1.size (fun k hk hl => hk1.block k hl hk.2.2); have hrl := tRelease_any s d a0 c0' hs ls W1 FD1 _ _ hd1 hsg (fun k hk hf => (hf1 k hf).elim hk.2.2 (fun h => absurd hk.2.1 (by omega))) (hk1.cell c0 (fun hf => (HL.out.from_ s hf).elim hsF (fun h => by have := lt_of_cell hs0; simp at this; omega))) (fun hf => hsF (HB.out FD1 hf1 s (lt_of_cell hs0) hf)) (by omega) HLL.out) | (go_at_call 62; refine hrl.mono ?_; rintro e W2 ⟨rfl, hd2, hk2⟩))
          go_ret2
          rw [HE1.out]
          exact ⟨(HL.out.stand hk1).2.1.trans' hk2 (HB.out FD1 hf1), FD1, hd2, fun k hf => (hf1 k hf).elim (HL.out.from_ k) fun h => .inr (by omega), fun k hf => Nat.lt_of_lt_of_le (hl1 k hf) hk2.size, b1, rfl, Nat.le_trans hws hb1, chain_keep hc1 hk2 hn1, hn1⟩
      · exact (hL.from_ _ hf).elim hFq fun h => by have := lt_of_cell hq; simp at this; omega
      · exact (hL.from_ _ hf).elim hFw fun h => by have := lt_of_cell hw; simp at this; omega
    · obtain rfl : k = ts.length := by omega
      obtain ⟨a1, c1, hsv, _⟩ := hL.own.cells
      have hzl : (List.zipWith segV hs ls).length = ls.length := by simp [hL.len]
      rw [hzl] at hsv
      subst hsv
      have HE1 : Hid (layAll D ts = (E, ls, none)) := by show _ = _; rw [HE.out.2, List.drop_length]; simp [behindS, layAll]
      clear HE
      go_wp2
      go_ret2
      rw [HE1.out]
      exact ⟨hL.keep, FD, hL.disk, hL.from_, hL.lt, _, _, hs, rfl, hL.done, own_cap hL.own⟩
end Go.Proofs.YtfgklnenpichcaaGreatDoor
