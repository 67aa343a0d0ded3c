/- A turned byte, plainly: the table to which the page belongs tells it, others stand. -/
import Derived.Test.YtfgklnenpichcaaGreatDoorMd
namespace Go.Proofs.YtfgklnenpichcaaGreatDoor
open Go.RowKit

/-! Pages, one behind the other, on a disk that has no gaps. -/
def NoGap (D : DS) : Prop := ∀ i, i < D.pages.length → ∃ p, D.pages[i]? = some (some p)
theorem NoGap.free {D : DS} (h : NoGap D) : firstFree D.pages = D.pages.length := Nat.le_antisymm (firstFree_le _) (firstFree_ge _ _ h (Nat.le_refl _))
theorem NoGap.wrote {D : DS} (h : NoGap D) (p : List UInt8) : NoGap (wroteD D p) ∧ (wroteD D p).pages.length = D.pages.length + 1 := by
  have hf := h.free
  have hp : (wroteD D p).pages = D.pages ++ [some (sealP p)] := by
    show (if firstFree D.pages < D.pages.length then D.pages else D.pages ++ [none]).set (firstFree D.pages) (some (sealP p)) = _
    rw [if_neg (by omega), hf, List.set_append_right _ _ (Nat.le_refl _), Nat.sub_self]
    rfl
  refine ⟨fun i hi => ?_, by rw [hp]; simp⟩
  rw [hp] at hi ⊢
  simp at hi
  by_cases e : i < D.pages.length
  · rw [List.getElem?_append_left e]
    exact h i e
  · have : i = D.pages.length := by omega
    subst this
    simp
theorem layL_nogap : ∀ (ps : List (List UInt8)) (D : DS), NoGap D → (layL D ps).2.2 = none → NoGap (layL D ps).1 ∧ (layL D ps).1.pages.length = D.pages.length + ps.length ∧ (layL D ps).2.1 = List.range' D.pages.length ps.length
  | [], D, h, _ => ⟨h, rfl, rfl⟩
  | p :: ps, D, h, hn => by
    unfold layL at hn ⊢
    by_cases h1 : D.quota ≤ ((usedOf D.pages : Nat) : Int)
    · rw [if_pos h1] at hn; simp at hn
    · rw [if_neg h1] at hn ⊢
      by_cases h2 : wrap64 (D.writes + 1) = D.fail
      · rw [if_pos h2] at hn; simp at hn
      · rw [if_neg h2] at hn ⊢
        obtain ⟨w1, w2⟩ := h.wrote p
        obtain ⟨k1, k2, k3⟩ := layL_nogap ps (wroteD D p) w1 hn
        refine ⟨k1, by simp only; rw [k2, w2, List.length_cons]; omega, ?_⟩
        simp only
        rw [k3, w2, h.free, List.length_cons, List.range'_succ]
theorem layAll_nogap : ∀ (ts : List (List UInt8)) (D : DS), NoGap D → (layAll D ts).2.2 = none → NoGap (layAll D ts).1 ∧ (layAll D ts).1.pages.length = D.pages.length + (layAll D ts).2.1.flatten.length ∧ (layAll D ts).2.1.flatten = List.range' D.pages.length (layAll D ts).2.1.flatten.length
  | [], D, h, _ => ⟨h, rfl, rfl⟩
  | t :: ts, D, h, hn => by
    have h1 := layL_nogap (pieces t) D h
    unfold layAll at hn ⊢
    rcases hr : layL D (pieces t) with ⟨E, l, r⟩
    rw [hr] at hn h1
    cases r with
    | none =>
      obtain ⟨k1, k2, k3⟩ := h1 rfl
      obtain ⟨j1, j2, j3⟩ := layAll_nogap ts E k1 hn
      simp only at k2 k3 j1 j2 j3 ⊢
      have hl : l.length = (pieces t).length := by rw [k3]; simp
      refine ⟨j1, by rw [j2, k2, List.flatten_cons, List.length_append, hl]; omega, ?_⟩
      rw [List.flatten_cons, List.length_append, hl, ← List.range'_append_1, ← k3, ← k2, ← j3]
    | some x => simp at hn
theorem nogap_empty (q f : Int) : NoGap (emptyDS q f) := fun i hi => by simp [emptyDS] at hi
theorem NoGap.used {D : DS} (h : NoGap D) : usedOf D.pages = D.pages.length := by
  unfold usedOf
  rw [List.countP_eq_length]
  intro x hx
  obtain ⟨i, hi, rfl⟩ := List.getElem_of_mem hx
  obtain ⟨p, hp⟩ := h i hi
  rw [List.getElem?_eq_getElem hi] at hp
  simp at hp
  rw [hp]; rfl

/-! One page cannot be opened. -/
def turnD (D : DS) (p : Nat) (x : List UInt8) : DS := ⟨D.quota, D.fail, D.writes, D.lowest, D.pages.set p (some x)⟩
theorem pg_turn {D : DS} {p : Nat} {x : List UInt8} (hp : p < D.pages.length) (j : Nat) : pg (turnD D p x) j = if j = p then some x else pg D j := getD_set D.pages p j (some x) hp
theorem readL_turn (D : DS) (p : Nat) (hp : (pg D p).bind openP = none) : ∀ (l : List Nat) (ps : List (List UInt8)) (hl : l.length = ps.length), (∀ q ∈ ps, q.length ≤ 56) → (∀ (i : Nat) (hi : i < l.length), l[i] ≠ p → pg D l[i] = some (sealP (ps[i]'(by rw [← hl]; exact hi)))) → p ∈ l → readL D l = .inr p
  | [], _, _, _, _, hm => by simp at hm
  | _ :: _, [], hl, _, _, _ => by simp at hl
  | i :: l, q :: ps, hl, h56, hh, hm => by
    simp only [readL]
    by_cases e : i = p
    · subst e
      rw [show (D.pages.getD i none).bind openP = none from hp]
    · have h0 := hh 0 (by simp) (by simpa using e)
      simp at h0
      have hr := readL_turn D p hp l ps (by simpa using hl) (fun q hq => h56 q (by simp [hq])) (fun j hj hne => hh (j + 1) (by simpa using hj) (by simpa using hne)) (by
        rcases List.mem_cons.1 hm with h | h
        · exact absurd h.symm e
        · exact h)
      rw [show D.pages.getD i none = some (sealP q) from h0]
      simp only [Option.bind_some, openP_seal (h56 q (by simp)), hr]

/-- The groups read up to here, where the segments up to here are right; or the page. -/
theorem readK_bad_at (D : DS) (rs : List (List V)) (m : Nat) (ls : List (List Nat)) (ts : List Int) (x : Nat × Nat) (p : Nat) (hr : ∀ r ∈ rs, r.length = m) (ho : x.1 + x.2 ≤ rs.length) (hv : ∀ c, c < m → p ∉ ls.getD c [] → valsOf D (ls.getD c []) (ts.getD c 0) x.2 = .inl (colOf (rowsOf rs x) c)) (hb : ∀ c, c < m → p ∈ ls.getD c [] → valsOf D (ls.getD c []) (ts.getD c 0) x.2 = .inr p) :
    ∀ k, k ≤ m → ((∃ c, c < k ∧ p ∈ ls.getD c []) ∧ readK D ls ts x (mixR rs m x.1 x.2 0) k = .inr p) ∨ ((∀ c, c < k → p ∉ ls.getD c []) ∧ readK D ls ts x (mixR rs m x.1 x.2 0) k = .inl (mixR rs m x.1 x.2 k))
  | 0, _ => .inr ⟨fun c hc => by omega, rfl⟩
  | k + 1, hk => by
    rcases readK_bad_at D rs m ls ts x p hr ho hv hb k (by omega) with ⟨⟨c, hc, hm⟩, h⟩ | ⟨hno, h⟩
    · exact .inl ⟨⟨c, by omega, hm⟩, by simp only [readK, h]⟩
    · by_cases hm : p ∈ ls.getD k []
      · exact .inl ⟨⟨k, by omega, hm⟩, by simp only [readK, h, hb k (by omega) hm]⟩
      · refine .inr ⟨fun c hc => ?_, ?_⟩
        · by_cases e : c = k
          · subst e; exact hm
          · exact hno c (by omega)
        · simp only [readK, h, hv k (by omega) hm]
          exact congrArg _ (mixR_step rs m x.1 x.2 k hr (by omega) ho)

theorem readF_bad_at (D : DS) (rs : List (List V)) (ts : List Int) (ls : List (List Nat)) (g p : Nat) (hg : 1 ≤ g) (hr : ∀ r ∈ rs, r.length = ts.length)
    (hv : ∀ j c, j < ckN rs.length g → c < ts.length → p ∉ ls.getD (j * ts.length + c) [] → valsOf D (ls.getD (j * ts.length + c) []) (ts.getD c 0) (ckAt rs.length g j).2 = .inl (colOf (rowsOf rs (ckAt rs.length g j)) c))
    (hb : ∀ j c, j < ckN rs.length g → c < ts.length → p ∈ ls.getD (j * ts.length + c) [] → valsOf D (ls.getD (j * ts.length + c) []) (ts.getD c 0) (ckAt rs.length g j).2 = .inr p) :
    ∀ k, k ≤ ckN rs.length g → (readF D ts ls (List.replicate rs.length (List.replicate ts.length zeroV)) (cks rs.length g k)).1 = .inr p ∨ ((∀ j c, j < k → c < ts.length → p ∉ ls.getD (j * ts.length + c) []) ∧ ∃ q, (readF D ts ls (List.replicate rs.length (List.replicate ts.length zeroV)) (cks rs.length g k)).1 = .inl (mixR rs ts.length (ckAt rs.length g k).1 q 0))
  | 0, _ => .inr ⟨fun j c hj => by omega, 0, by
    show Sum.inl _ = Sum.inl _
    rw [← mixR_start rs ts.length 0]
    simp [ckAt]⟩
  | k + 1, hk => by
    rcases readF_bad_at D rs ts ls g p hg hr hv hb k (by omega) with h | ⟨hno, q, ih⟩
    · left
      rw [cks_succ]
      exact readF_bad D ts ls _ _ _ p h
    · obtain ⟨h1, h2, h3⟩ := ckAt_fits rs.length g k hg (by omega)
      have hget : ∀ c, (ls.drop (k * ts.length)).getD c [] = ls.getD (k * ts.length + c) [] := fun c => by simp [List.getD_eq_getElem?_getD, List.getElem?_drop]
      have hm : mixR rs ts.length (ckAt rs.length g k).1 q 0 = mixR rs ts.length (ckAt rs.length g k).1 (ckAt rs.length g k).2 0 := by
        apply List.ext_getElem?
        intro i
        rw [mixR, mixR, List.getElem?_mapIdx, List.getElem?_mapIdx]
        cases rs[i]? with
        | none => rfl
        | some r => simp
      rw [cks_succ, readF_snoc]
      simp only [readS]
      rw [ih, readF_left, cks_length]
      simp only
      rw [hm]
      rcases readK_bad_at D rs ts.length (ls.drop (k * ts.length)) ts (ckAt rs.length g k) p hr h1 (fun c hc hn => by rw [hget] at hn ⊢; exact hv k c (by omega) hc hn) (fun c hc hn => by rw [hget] at hn ⊢; exact hb k c (by omega) hc hn) ts.length (Nat.le_refl _) with ⟨_, h⟩ | ⟨hn2, h⟩
      · left; exact h
      · right
        refine ⟨fun j c hj hc => ?_, 0, ?_⟩
        · by_cases e : j = k
          · subst e
            rw [← hget]
            exact hn2 c hc
          · exact hno j c (by omega) hc
        · rw [h]
          exact congrArg _ (mixR_next rs ts.length _ _ _ 0 hr h3)

/-- A table whose segments hold what pack made of its rows, but that one page cannot be opened. -/
theorem rows_of_turned (E : DS) (name : ByteArray) (ts hs : List Int) (rs : List (List V)) (g p : Nat) (T : List (List UInt8)) (ls : List (List Nat)) (htab : isTab name ts rs) (hg : 1 ≤ g) (hin : ∀ r ∈ rs, ∀ v ∈ r, inI64 v.n)
    (hp : packF rs ts hs (cks rs.length g (ckN rs.length g)) = .inl T) (hl : ls.length = T.length) (hh : ∀ (i : Nat) (h1 : i < ls.length) (h2 : i < T.length), p ∉ ls[i] → readL E ls[i] = .inl T[i]) (hbad : ∀ (i : Nat) (h1 : i < ls.length), p ∈ ls[i] → readL E ls[i] = .inr p) (hpm : p ∈ ls.flatten) :
    tabRows E ⟨name, ts, rs.length, g, ls⟩ = .inr p := by
  have hr : ∀ r ∈ rs, r.length = ts.length := fun r hr => by
    obtain ⟨i, hi, rfl⟩ := List.getElem_of_mem hr
    exact (htab.2.2.2 i hi).1
  have hlen := (packFLen rs ts hs _ T hp).1
  rw [cks_length] at hlen
  have hidx : ∀ j c, j < ckN rs.length g → c < ts.length → j * ts.length + c < ls.length := fun j c hj hc => by
    have h2 : (j + 1) * ts.length ≤ ckN rs.length g * ts.length := Nat.mul_le_mul_right _ (by omega)
    rw [Nat.succ_mul] at h2
    omega
  have hv : ∀ j c, j < ckN rs.length g → c < ts.length → p ∉ ls.getD (j * ts.length + c) [] → valsOf E (ls.getD (j * ts.length + c) []) (ts.getD c 0) (ckAt rs.length g j).2 = .inl (colOf (rowsOf rs (ckAt rs.length g j)) c) := by
    intro j c hj hc hnp
    obtain ⟨hT, h0⟩ := packF_get rs ts hs rs.length g _ T hp j c hj hc
    obtain ⟨hTl, hTe⟩ := List.getElem?_eq_some_iff.1 hT
    have hll := hidx j c hj hc
    have hge : ls.getD (j * ts.length + c) [] = ls[j * ts.length + c] := by simp [hll]
    rw [hge] at hnp ⊢
    have hrd := hh _ hll hTl hnp
    rw [hTe] at hrd
    obtain ⟨h1, _, _⟩ := ckAt_fits rs.length g j hg hj
    have hro : (rowsOf rs (ckAt rs.length g j)).length = (ckAt rs.length g j).2 := by simp [rowsOf]; omega
    have hpr := pRead_of (ts.getD c 0) (hs.getD c 0) (colOf (rowsOf rs (ckAt rs.length g j)) c) (colText (rowsOf rs (ckAt rs.length g j)) ts hs c).1 (by
      unfold colText at h0 ⊢
      exact Prod.ext rfl h0) (fun v hv => by
        obtain ⟨r, hr', rfl⟩ := List.mem_map.1 hv
        have hm : r ∈ rs := List.mem_of_mem_drop (List.mem_of_mem_take hr')
        have hlr := hr r hm
        have : r.getD c zeroV = r[c] := by simp [hlr, hc]
        rw [this]
        exact hin r hm _ (List.getElem_mem _))
    unfold valsOf
    rw [hrd]
    simp only [hpr]
    have hty : typeOk (ts.getD c 0) = true := by
      have := htab.2.1.2 c hc
      simpa [hc] using this
    unfold typeOk at hty
    simp only [decide_eq_true_iff] at hty
    rw [if_pos ⟨by omega, by rw [← hro]; simp [colOf]⟩]
  have hb : ∀ j c, j < ckN rs.length g → c < ts.length → p ∈ ls.getD (j * ts.length + c) [] → valsOf E (ls.getD (j * ts.length + c) []) (ts.getD c 0) (ckAt rs.length g j).2 = .inr p := by
    intro j c hj hc hmp
    have hll := hidx j c hj hc
    have hge : ls.getD (j * ts.length + c) [] = ls[j * ts.length + c] := by simp [hll]
    rw [hge] at hmp ⊢
    unfold valsOf
    rw [hbad _ hll hmp]
  rcases readF_bad_at E rs ts ls g p hg hr hv hb (ckN rs.length g) (Nat.le_refl _) with h | ⟨hno, _⟩
  · unfold tabRows
    exact h
  · exfalso
    obtain ⟨l, hl', hpl⟩ := List.mem_flatten.1 hpm
    obtain ⟨i, hi, rfl⟩ := List.getElem_of_mem hl'
    have h1 : 1 ≤ ts.length := htab.2.1.1.1
    have hdm := Nat.div_add_mod i ts.length
    have hml := Nat.mod_lt i (show ts.length > 0 by omega)
    have hq : i / ts.length < ckN rs.length g := by
      refine (Nat.div_lt_iff_lt_mul (by omega)).2 ?_
      omega
    have := hno (i / ts.length) (i % ts.length) hq hml
    rw [Nat.mul_comm, hdm] at this
    exact this (by simpa [hi] using hpl)

/-- A Load that went well on a disk without gaps: its pages come one behind the other; and where one of them cannot be opened, the table tells it. -/
theorem load_turned {D E : DS} {L : List (TS × List (List V))} {Ts : List TS} {name : ByteArray} {ts hs : List Int} {rs : List (List V)} {g : Int} {T : TS} (hS : Stand D L) (hin : ∀ r ∈ rs, ∀ v ∈ r, inI64 v.n) (hw : D.writes ≤ 1000000000) (hng : NoGap D) (h : loadR D Ts name ts hs rs g = .ok E T) :
    NoGap E ∧ E.pages.length = D.pages.length + T.segs.flatten.length ∧ T.segs.flatten = List.range' D.pages.length T.segs.flatten.length ∧ (∀ i, i ∉ T.segs.flatten → pg E i = pg D i) ∧
      ∀ (E' : DS) (p : Nat), (∀ k ∈ T.segs.flatten, k ≠ p → pg E' k = pg E k) → (pg E' p).bind openP = none → p ∈ T.segs.flatten → tabRows E' T = .inr p ∧ TabOk E' T := by
  have hT := (load_ok hS hin hw h).1.tab (T, rs) (by simp)
  unfold loadR at h
  split at h
  · rename_i hgood
    split at h
    · simp at h
    · split at h
      · simp at h
      · rename_i X hX
        split at h
        · simp at h
        · rename_i hn
          simp only [Sum.inr.injEq, Prod.mk.injEq] at h
          obtain ⟨rfl, rfl⟩ := h
          obtain ⟨p1, p2, p3, p4⟩ := packs_in hgood hX
          have hl := layAll_none X D hn
          obtain ⟨n1, n2, n3⟩ := layAll_nogap X D hng hn
          generalize hE : (layAll D X).1 = E at *
          generalize hR : (layAll D X).2.1 = R at *
          refine ⟨n1, n2, n3, hl.other, fun E' p hk hp hpm => ?_⟩
          have hseg : ∀ (i : Nat) (h1 : i < R.length) (h2 : i < X.length), p ∉ R[i] → readL E' R[i] = .inl X[i] := fun i h1 h2 hnp =>
            ((hl.segs i h1).keep fun k hk' => hk k (List.mem_flatten.2 ⟨_, List.getElem_mem h1, hk'⟩) fun e => hnp (e ▸ hk')).read
          have hbad : ∀ (i : Nat) (h1 : i < R.length), p ∈ R[i] → readL E' R[i] = .inr p := fun i h1 hmp => by
            have hs := hl.segs i h1
            refine readL_turn E' p hp R[i] (pieces (X[i]'(by rw [← hl.len]; exact h1))) hs.1 (pieces_le _) (fun j hj hne => ?_) hmp
            rw [hk _ (List.mem_flatten.2 ⟨_, List.getElem_mem h1, List.getElem_mem hj⟩) hne]
            exact hs.2 j hj (by rw [← hs.1]; exact hj)
          refine ⟨rows_of_turned E' name ts hs rs g.toNat p X R hgood.1 (by omega) hin hX hl.len hseg hbad hpm, ⟨hT.ok.cols, hT.ok.rows, hT.ok.group, hT.ok.count, hT.ok.segs, fun l hl' t ht => ?_⟩⟩
          obtain ⟨i, hi, rfl⟩ := List.getElem_of_mem hl'
          have hi2 : i < R.length := hi
          have hi3 : i < X.length := by rw [← hl.len]; exact hi2
          by_cases hmp : p ∈ R[i]
          · have := hbad i hi2 hmp
            rw [show (TS.segs ⟨name, ts, rs.length, g.toNat, R⟩)[i] = R[i] from rfl, this] at ht
            simp at ht
          · have := hseg i hi2 hi3 hmp
            rw [show (TS.segs ⟨name, ts, rs.length, g.toNat, R⟩)[i] = R[i] from rfl, this] at ht
            simp at ht
            rw [← ht]
            exact (p2 _ (List.getElem_mem hi3)).2
  · simp at h

/-- A page with a byte turned cannot be opened. -/
theorem turned_shut {t : List UInt8} (h : t.length ≤ 56) (i n : Nat) (hi : i < 64) (h1 : 1 ≤ n) (h2 : n ≤ 255) : openP (turnP (sealP t) i n) = none := by
  refine openP_turned h i hi _ fun e => ?_
  have h3 : UInt8.ofNat n ≠ 0 := fun h0 => by
    have := congrArg UInt8.toNat h0
    simp at this
    omega
  generalize (sealP t).getD i 0 = x at e
  generalize UInt8.ofNat n = y at e h3
  apply h3
  have := congrArg (fun z => x ^^^ z) e
  simp only [← UInt8.xor_assoc, UInt8.xor_self, UInt8.zero_xor] at this
  exact this
/-- Turned twice, a page is as it was. -/
theorem turn_back (x : List UInt8) (i n : Nat) : turnP (turnP x i n) i n = x := by
  unfold turnP
  rw [List.set_set]
  by_cases hi : i < x.length
  · have e : (x.set i (x.getD i 0 ^^^ UInt8.ofNat n)).getD i 0 = x.getD i 0 ^^^ UInt8.ofNat n := by simp [hi]
    rw [e, UInt8.xor_assoc, UInt8.xor_self, UInt8.xor_zero]
    apply List.ext_getElem?
    intro k
    rw [List.getElem?_set]
    by_cases hk : i = k
    · subst hk; simp [hi]
    · rw [if_neg hk]
  · rw [List.set_eq_of_length_le (by omega)]

theorem pg_of {D : DS} {i : Nat} {x : List UInt8} (h : pg D i = some x) : D.pages[i]? = some (some x) := by
  unfold pg at h
  rw [List.getD_eq_getElem?_getD] at h
  cases hq : D.pages[i]? with
  | none => rw [hq] at h; simp at h
  | some y => rw [hq] at h; simp at h; rw [h]
theorem TabIn.sealed {D : DS} {T : TS} {rs : List (List V)} (h : TabIn D T rs) : ∀ i ∈ T.segs.flatten, ∃ q, q.length ≤ 56 ∧ pg D i = some (sealP q) := by
  intro i hi
  obtain ⟨l, hl, hil⟩ := List.mem_flatten.1 hi
  obtain ⟨t, _, _, h1, h2⟩ := h.seg l hl
  obtain ⟨k, hk, rfl⟩ := List.getElem_of_mem hil
  exact ⟨_, pieces_le t _ (List.getElem_mem (by omega)), h2 k hk (by omega)⟩

/-- Two tables on a disk; a byte of a page is turned: the table to which it belongs tells the page, the other one its rows; turned back, both tell their rows. -/
theorem spoilt_plain {E1 E2 : DS} {an bn : ByteArray} {ts ts2 hs hs2 : List Int} {ra rb : List (List V)} {g g2 : Int} {A B : TS} (hne : an ≠ bn) (hia : ∀ r ∈ ra, ∀ v ∈ r, inI64 v.n) (hib : ∀ r ∈ rb, ∀ v ∈ r, inI64 v.n)
    (h1 : loadR (emptyDS 1048576 0) [] an ts hs ra g = .ok E1 A) (h2 : loadR E1 [A] bn ts2 hs2 rb g2 = .ok E2 B) (hra : ra.length ≤ 200) :
    usedOf E2.pages = E2.pages.length ∧ ∀ p k x : Nat, p < usedOf E2.pages → k < 64 → 1 ≤ x → x ≤ 255 → ∃ page, E2.pages[p]? = some (some page) ∧
      (turnD E2 p (turnP page k x)).pages[p]? = some (some (turnP page k x)) ∧ (∀ T ∈ [A, B], TabOk (turnD E2 p (turnP page k x)) T) ∧
      (p < usedOf E1.pages → rowsO (turnD E2 p (turnP page k x)) [A, B] an = some (.inr p) ∧ rowsO (turnD E2 p (turnP page k x)) [A, B] bn = some (.inl rb)) ∧
      (¬ p < usedOf E1.pages → rowsO (turnD E2 p (turnP page k x)) [A, B] an = some (.inl ra) ∧ rowsO (turnD E2 p (turnP page k x)) [A, B] bn = some (.inr p)) ∧
      (∀ T ∈ [A, B], TabOk (turnD (turnD E2 p (turnP page k x)) p (turnP (turnP page k x) k x)) T) ∧ rowsO (turnD (turnD E2 p (turnP page k x)) p (turnP (turnP page k x) k x)) [A, B] an = some (.inl ra) ∧ rowsO (turnD (turnD E2 p (turnP page k x)) p (turnP (turnP page k x) k x)) [A, B] bn = some (.inl rb) := by
  have hS0 := Stand.empty 1048576 0
  obtain ⟨hS1, hnA, hU1, _, hq1, hf1, hp1, hw1, _, _, _⟩ := load_ok hS0 hia (by simp [emptyDS]) h1
  have hw1' : E1.writes ≤ 1000000000 := by simp [emptyDS] at hw1; omega
  obtain ⟨hS2, hnB, hU2, _, _, _, _, _, _, _, _⟩ := load_ok hS1 hib hw1' h2
  obtain ⟨g1, l1, r1, _, t1⟩ := load_turned hS0 hia (by simp [emptyDS]) (nogap_empty _ _) h1
  obtain ⟨g2', l2, r2, o2, t2⟩ := load_turned hS1 hib hw1' g1 h2
  have hA2 := hS2.tab (A, ra) (by simp)
  have hB2 := hS2.tab (B, rb) (by simp)
  have hA1 := hS1.tab (A, ra) (by simp)
  have hl0 : (emptyDS 1048576 0).pages.length = 0 := rfl
  rw [hl0] at l1 r1
  have hfA : ∀ i, i ∈ A.segs.flatten ↔ i < E1.pages.length := fun i => by rw [r1, List.mem_range'_1]; omega
  have hfB : ∀ i, i ∈ B.segs.flatten ↔ E1.pages.length ≤ i ∧ i < E2.pages.length := fun i => by rw [r2, List.mem_range'_1]; omega
  have fA : findI [A, B] an = 0 := by simp [findI, hnA]
  have fB : findI [A, B] bn = 1 := by simp [findI, hnA, hnB, hne]
  have roA : ∀ E, rowsO E [A, B] an = some (tabRows E A) := fun E => by unfold rowsO; rw [fA]; rfl
  have roB : ∀ E, rowsO E [A, B] bn = some (tabRows E B) := fun E => by unfold rowsO; rw [fB]; rfl
  refine ⟨g2'.used, fun p k x hp hk hx1 hx2 => ?_⟩
  rw [g2'.used] at hp
  have hsealed : ∃ q, q.length ≤ 56 ∧ pg E2 p = some (sealP q) := by
    by_cases h : p < E1.pages.length
    · exact hA2.sealed p ((hfA p).2 h)
    · exact hB2.sealed p ((hfB p).2 ⟨by omega, hp⟩)
  obtain ⟨q, hq56, hpq⟩ := hsealed
  have hshut := turned_shut hq56 k x hk hx1 hx2
  have hpg3 : ∀ j, j ≠ p → pg (turnD E2 p (turnP (sealP q) k x)) j = pg E2 j := fun j hj => by rw [pg_turn hp, if_neg hj]
  have hpgp : (pg (turnD E2 p (turnP (sealP q) k x)) p).bind openP = none := by rw [pg_turn hp, if_pos rfl]; exact hshut
  have hlen3 : (turnD E2 p (turnP (sealP q) k x)).pages.length = E2.pages.length := by simp [turnD]
  have hpg4 : ∀ j, pg (turnD (turnD E2 p (turnP (sealP q) k x)) p (turnP (turnP (sealP q) k x) k x)) j = pg E2 j := fun j => by
    rw [pg_turn (by rw [hlen3]; exact hp), turn_back]
    by_cases hj : j = p
    · subst hj; rw [if_pos rfl, hpq]
    · rw [if_neg hj, hpg3 j hj]
  have hA4 := hA2.keep (E := turnD (turnD E2 p (turnP (sealP q) k x)) p (turnP (turnP (sealP q) k x) k x)) fun i _ => hpg4 i
  have hB4 := hB2.keep (E := turnD (turnD E2 p (turnP (sealP q) k x)) p (turnP (turnP (sealP q) k x) k x)) fun i _ => hpg4 i
  have hA12 : ∀ i ∈ A.segs.flatten, pg E2 i = pg E1 i := fun i hi => o2 i fun hb => by
    have h1 := (hfA i).1 hi
    have h2 := (hfB i).1 hb
    omega
  have sA : p < E1.pages.length → tabRows (turnD E2 p (turnP (sealP q) k x)) A = .inr p ∧ TabOk (turnD E2 p (turnP (sealP q) k x)) A := fun h =>
    t1 _ p (fun i hi hne => (hpg3 i hne).trans (hA12 i hi)) hpgp ((hfA p).2 h)
  have sB : ¬ p < E1.pages.length → tabRows (turnD E2 p (turnP (sealP q) k x)) B = .inr p ∧ TabOk (turnD E2 p (turnP (sealP q) k x)) B := fun h =>
    t2 _ p (fun i _ hne => hpg3 i hne) hpgp ((hfB p).2 ⟨by omega, hp⟩)
  have kA : ¬ p < E1.pages.length → TabIn (turnD E2 p (turnP (sealP q) k x)) A ra := fun h => hA2.keep fun i hi => hpg3 i fun e => h (e ▸ (hfA i).1 hi)
  have kB : p < E1.pages.length → TabIn (turnD E2 p (turnP (sealP q) k x)) B rb := fun h => hB2.keep fun i hi => hpg3 i fun e => by
    have := (hfB i).1 hi
    omega
  refine ⟨sealP q, pg_of hpq, by simp [turnD, hp], fun T hT => ?_, fun h => ?_, fun h => ?_, fun T hT => ?_, ?_, ?_⟩
  · simp only [List.mem_cons, List.not_mem_nil, or_false] at hT
    by_cases h : p < E1.pages.length
    · rcases hT with rfl | rfl
      · exact (sA h).2
      · exact (kB h).ok
    · rcases hT with rfl | rfl
      · exact (kA h).ok
      · exact (sB h).2
  · rw [g1.used] at h
    rw [roA, roB, (sA h).1, (kB h).read]
    exact ⟨rfl, rfl⟩
  · rw [g1.used] at h
    rw [roA, roB, (sB h).1, (kA h).read]
    exact ⟨rfl, rfl⟩
  · simp only [List.mem_cons, List.not_mem_nil, or_false] at hT
    rcases hT with rfl | rfl
    · exact hA4.ok
    · exact hB4.ok
  · rw [roA, hA4.read]
  · rw [roB, hB4.read]
end Go.Proofs.YtfgklnenpichcaaGreatDoor
