/- What is loaded is read: the rows of a table out of its segments. -/
import Derived.Test.YtfgklnenpichcaaGreatDoorTm
import Derived.Test.YtfgklnenpichcaaGreatDoorTp
import Derived.Test.YtfgklnenpichcaaGreatDoorKl
import Derived.Test.YtfgklnenpichcaaGreatDoorSe
namespace Go.Proofs.YtfgklnenpichcaaGreatDoor
open Go.RowKit

/-- Rows of which the first o are read, the next p in their first k columns. -/
def mixR (rs : List (List V)) (m o p k : Nat) : List (List V) := rs.mapIdx fun i r => if i < o then r else if i < o + p then r.take k ++ List.replicate (m - k) zeroV else List.replicate m zeroV
theorem mixR_start (rs : List (List V)) (m p : Nat) : mixR rs m 0 p 0 = List.replicate rs.length (List.replicate m zeroV) := by
  apply List.ext_getElem?
  intro i
  rw [mixR, List.getElem?_mapIdx, List.getElem?_replicate]
  by_cases hi : i < rs.length
  · rw [if_pos hi, List.getElem?_eq_getElem hi]
    simp
  · rw [if_neg hi, List.getElem?_eq_none (by omega)]
    rfl
theorem mixR_next (rs : List (List V)) (m o p o' p' : Nat) (hr : ∀ r ∈ rs, r.length = m) (h : ∀ i, i < rs.length → (i < o + p ↔ i < o')) : mixR rs m o p m = mixR rs m o' p' 0 := by
  apply List.ext_getElem?
  intro i
  rw [mixR, mixR, List.getElem?_mapIdx, List.getElem?_mapIdx]
  by_cases hi : i < rs.length
  · rw [List.getElem?_eq_getElem hi]
    simp only [Option.map_some]
    have hl := hr _ (List.getElem_mem hi)
    have := h i hi
    by_cases h1 : i < o
    · rw [if_pos h1, if_pos (by omega)]
    · rw [if_neg h1]
      by_cases h2 : i < o + p
      · rw [if_pos h2, if_pos (by omega)]
        simp [← hl]
      · rw [if_neg h2, if_neg (by omega)]
        simp
  · rw [List.getElem?_eq_none (by omega)]
    rfl
theorem mixR_end (rs : List (List V)) (m o p : Nat) (h : rs.length ≤ o) : mixR rs m o p 0 = rs := by
  apply List.ext_getElem?
  intro i
  rw [mixR, List.getElem?_mapIdx]
  by_cases hi : i < rs.length
  · rw [List.getElem?_eq_getElem hi]
    simp only [Option.map_some]
    rw [if_pos (by omega)]
  · rw [List.getElem?_eq_none (by omega)]
    rfl
theorem setAt (L : List V) (c n : Nat) (u : V) (hL : L.length = c) (hc : c < n) : (L ++ List.replicate (n - c) zeroV).set c u = L ++ [u] ++ List.replicate (n - (c + 1)) zeroV := by
  obtain ⟨d, hd⟩ : ∃ d, n - c = d + 1 := ⟨n - c - 1, by omega⟩
  have hd2 : n - (c + 1) = d := by omega
  rw [hd, hd2, List.replicate_succ, List.set_append_right _ _ (by omega), hL, Nat.sub_self, List.set_cons_zero]
  simp
theorem mixR_step (rs : List (List V)) (m o p k : Nat) (hr : ∀ r ∈ rs, r.length = m) (hk : k < m) (ho : o + p ≤ rs.length) : putCol (mixR rs m o p k) o k (colOf (rowsOf rs (o, p)) k) = mixR rs m o p (k + 1) := by
  have hvl : (colOf (rowsOf rs (o, p)) k).length = p := by simp [colOf, rowsOf]; omega
  apply List.ext_getElem?
  intro i
  rw [putCol, List.getElem?_mapIdx, mixR, mixR, List.getElem?_mapIdx, List.getElem?_mapIdx, hvl]
  by_cases hi : i < rs.length
  · rw [List.getElem?_eq_getElem hi]
    simp only [Option.map_some]
    have hl := hr _ (List.getElem_mem hi)
    by_cases h1 : i < o
    · rw [if_pos h1, if_neg (by omega), if_pos h1]
    · rw [if_neg h1, if_neg h1]
      by_cases h2 : i < o + p
      · rw [if_pos h2, if_pos ⟨by omega, h2⟩, if_pos h2]
        have hv : (colOf (rowsOf rs (o, p)) k).getD (i - o) zeroV = rs[i][k] := by
          have hx : (rowsOf rs (o, p))[i - o]? = some rs[i] := by
            simp only [rowsOf]
            rw [List.getElem?_take_of_lt (by omega), List.getElem?_drop, show o + (i - o) = i by omega, List.getElem?_eq_getElem hi]
          have hc : (colOf (rowsOf rs (o, p)) k)[i - o]? = some (rs[i].getD k zeroV) := by
            simp only [colOf, List.getElem?_map, hx, Option.map_some]
          rw [List.getD_eq_getElem?_getD, hc]
          simp [hl, hk]
        rw [hv, setAt _ k m _ (by simp; omega) hk, List.take_succ_eq_append_getElem (by omega)]
      · rw [if_neg h2, if_neg (by omega), if_neg h2]
  · rw [List.getElem?_eq_none (by omega)]
    rfl

/-- One group, its segments being its columns. -/
theorem readK_all (D : DS) (rs : List (List V)) (m : Nat) (ls : List (List Nat)) (ts : List Int) (x : Nat × Nat) (hr : ∀ r ∈ rs, r.length = m) (ho : x.1 + x.2 ≤ rs.length) (hv : ∀ c, c < m → valsOf D (ls.getD c []) (ts.getD c 0) x.2 = .inl (colOf (rowsOf rs x) c)) :
    ∀ k, k ≤ m → readK D ls ts x (mixR rs m x.1 x.2 0) k = .inl (mixR rs m x.1 x.2 k)
  | 0, _ => rfl
  | k + 1, hk => by
    simp only [readK, readK_all D rs m ls ts x hr ho hv k (by omega), hv k (by omega)]
    exact congrArg _ (mixR_step rs m x.1 x.2 k hr (by omega) ho)

theorem ckAt_fits (len g j : Nat) (hg : 1 ≤ g) (hj : j < ckN len g) : (ckAt len g j).1 + (ckAt len g j).2 ≤ len ∧ 1 ≤ (ckAt len g j).2 ∧ ∀ i, i < len → (i < (ckAt len g j).1 + (ckAt len g j).2 ↔ i < (ckAt len g (j + 1)).1) := by
  have h1 : j * g < len := by
    unfold ckN at hj
    have h2 : (j + 1) * g ≤ (len + g - 1) / g * g := Nat.mul_le_mul_right g hj
    have h3 := Nat.div_mul_le_self (len + g - 1) g
    rw [Nat.succ_mul] at h2
    omega
  simp only [ckAt]
  rw [Nat.succ_mul]
  exact ⟨by omega, by omega, fun i hi => by omega⟩
theorem ckN_end (len g : Nat) (hg : 1 ≤ g) : len ≤ (ckAt len g (ckN len g)).1 := by
  simp only [ckAt, ckN]
  have h := Nat.div_add_mod (len + g - 1) g
  have h2 := Nat.mod_lt (len + g - 1) (show g > 0 by omega)
  have h3 : g * ((len + g - 1) / g) = (len + g - 1) / g * g := Nat.mul_comm _ _
  omega

/-- All groups. -/
theorem readF_all (D : DS) (rs : List (List V)) (ts : List Int) (ls : List (List Nat)) (g : Nat) (hg : 1 ≤ g) (hr : ∀ r ∈ rs, r.length = ts.length)
    (hv : ∀ j c, j < ckN rs.length g → c < ts.length → valsOf D (ls.getD (j * ts.length + c) []) (ts.getD c 0) (ckAt rs.length g j).2 = .inl (colOf (rowsOf rs (ckAt rs.length g j)) c)) :
    ∀ k, k ≤ ckN rs.length g → ∃ p, (readF D ts ls (List.replicate rs.length (List.replicate ts.length zeroV)) (cks rs.length g k)).1 = .inl (mixR rs ts.length (ckAt rs.length g k).1 p 0)
  | 0, _ => ⟨0, by
    show Sum.inl _ = Sum.inl _
    rw [← mixR_start rs ts.length 0]
    simp [ckAt]⟩
  | k + 1, hk => by
    obtain ⟨p, ih⟩ := readF_all D rs ts ls g hg hr hv k (by omega)
    obtain ⟨h1, h2, h3⟩ := ckAt_fits rs.length g k hg (by omega)
    rw [cks_succ, readF_snoc]
    simp only [readS]
    rw [ih, readF_left, cks_length]
    have hm : mixR rs ts.length (ckAt rs.length g k).1 p 0 = mixR rs ts.length (ckAt rs.length g k).1 (ckAt rs.length g k).2 0 := by
      apply List.ext_getElem?
      intro i
      rw [mixR, mixR, List.getElem?_mapIdx, List.getElem?_mapIdx]
      cases rs[i]? with
      | none => rfl
      | some r => simp
    refine ⟨0, ?_⟩
    simp only
    rw [hm, readK_all D rs ts.length _ ts _ hr h1 (fun c hc => ?_) ts.length (Nat.le_refl _)]
    · exact congrArg _ (mixR_next rs ts.length _ _ _ 0 hr h3)
    · rw [← hv k c (by omega) hc]
      congr 1
      simp [List.getD_eq_getElem?_getD, List.getElem?_drop]

theorem packK_get (rows : List (List V)) (ts hs : List Int) : ∀ (k : Nat) (l : List (List UInt8)), packK rows ts hs k = .inl l → ∀ c, c < k → l[c]? = some (colText rows ts hs c).1 ∧ (colText rows ts hs c).2 = 0
  | 0, l, h, c, hc => by omega
  | k + 1, l, h, c, hc => by
    simp only [packK] at h
    split at h
    · simp at h
    · rename_i l' hl'
      split at h
      · rename_i h0
        simp at h
        subst h
        have hlen := packK_len rows ts hs k l' hl'
        by_cases e : c = k
        · subst e
          rw [List.getElem?_append_right (by omega)]
          simp [hlen, h0]
        · rw [List.getElem?_append_left (by omega)]
          exact packK_get rows ts hs k l' hl' c (by omega)
      · simp at h
theorem packF_get (rs : List (List V)) (ts hs : List Int) (len g : Nat) : ∀ (n : Nat) (T : List (List UInt8)), packF rs ts hs (cks len g n) = .inl T → ∀ j c, j < n → c < ts.length → T[j * ts.length + c]? = some (colText (rowsOf rs (ckAt len g j)) ts hs c).1 ∧ (colText (rowsOf rs (ckAt len g j)) ts hs c).2 = 0
  | 0, T, h, j, c, hj, _ => by omega
  | n + 1, T, h, j, c, hj, hc => by
    rw [cks_succ, packF_snoc] at h
    simp only [packS] at h
    split at h
    · simp at h
    · rename_i T0 hT0
      split at h
      · rename_i l hl
        simp at h
        subst h
        have hlen := (packFLen rs ts hs _ T0 hT0).1
        rw [cks_length] at hlen
        by_cases e : j = n
        · subst e
          rw [List.getElem?_append_right (by omega), hlen, Nat.add_sub_cancel_left]
          exact packK_get _ ts hs _ l hl c hc
        · have h2 : (j + 1) * ts.length ≤ n * ts.length := Nat.mul_le_mul_right _ (by omega)
          rw [Nat.succ_mul] at h2
          rw [List.getElem?_append_left (by omega)]
          exact packF_get rs ts hs len g n T0 hT0 j c (by omega) hc
      · simp at h

/-- A table whose segments hold what pack made of its rows. -/
theorem rows_of_held (E : DS) (name : ByteArray) (ts hs : List Int) (rs : List (List V)) (g : Nat) (T : List (List UInt8)) (ls : List (List Nat)) (htab : isTab name ts rs) (hg : 1 ≤ g) (hin : ∀ r ∈ rs, ∀ v ∈ r, inI64 v.n)
    (hp : packF rs ts hs (cks rs.length g (ckN rs.length g)) = .inl T) (hl : ls.length = T.length) (hh : ∀ (i : Nat) (h1 : i < ls.length) (h2 : i < T.length), segHeld E ls[i] T[i]) :
    tabRows E ⟨name, ts, rs.length, g, ls⟩ = .inl rs := by
  have hr : ∀ r ∈ rs, r.length = ts.length := fun r hr => by
    obtain ⟨i, hi, rfl⟩ := List.getElem_of_mem hr
    exact (htab.2.2.2 i hi).1
  have hv : ∀ j c, j < ckN rs.length g → c < ts.length → valsOf E (ls.getD (j * ts.length + c) []) (ts.getD c 0) (ckAt rs.length g j).2 = .inl (colOf (rowsOf rs (ckAt rs.length g j)) c) := by
    intro j c hj hc
    obtain ⟨hT, h0⟩ := packF_get rs ts hs rs.length g _ T hp j c hj hc
    obtain ⟨hTl, hTe⟩ := List.getElem?_eq_some_iff.1 hT
    have hll : j * ts.length + c < ls.length := by omega
    have hrd := (hh _ hll hTl).read
    rw [hTe] at hrd
    obtain ⟨h1, _, _⟩ := ckAt_fits rs.length g j hg hj
    have hro : (rowsOf rs (ckAt rs.length g j)).length = (ckAt rs.length g j).2 := by simp [rowsOf]; omega
    have hpr := pRead_of (ts.getD c 0) (hs.getD c 0) (colOf (rowsOf rs (ckAt rs.length g j)) c) (colText (rowsOf rs (ckAt rs.length g j)) ts hs c).1 (by
      unfold colText at h0 ⊢
      exact Prod.ext rfl h0) (fun v hv => by
        obtain ⟨r, hr', rfl⟩ := List.mem_map.1 hv
        have hm : r ∈ rs := List.mem_of_mem_drop (List.mem_of_mem_take hr')
        have hlr := hr r hm
        have : r.getD c zeroV = r[c] := by simp [hlr, hc]
        rw [this]
        exact hin r hm _ (List.getElem_mem _))
    unfold valsOf
    rw [show ls.getD (j * ts.length + c) [] = ls[j * ts.length + c] by simp [hll], hrd]
    simp only [hpr]
    have hty : typeOk (ts.getD c 0) = true := by
      have := htab.2.1.2 c hc
      simpa [hc] using this
    unfold typeOk at hty
    simp only [decide_eq_true_iff] at hty
    rw [if_pos ⟨by omega, by rw [← hro]; simp [colOf]⟩]
  obtain ⟨p, h⟩ := readF_all E rs ts ls g hg hr hv (ckN rs.length g) (Nat.le_refl _)
  unfold tabRows
  simp only
  rw [h, mixR_end rs ts.length _ _ (ckN_end rs.length g hg)]
end Go.Proofs.YtfgklnenpichcaaGreatDoor

/- The tables of a store on its disk, plainly: what stands, and what a Load makes of it. -/
namespace Go.Proofs.YtfgklnenpichcaaGreatDoor
open Go.RowKit

theorem layL_quota : ∀ (ps : List (List UInt8)) (D : DS), ((usedOf D.pages : Nat) : Int) ≤ D.quota → (layL D ps).2.2 = none → ((usedOf (layL D ps).1.pages : Nat) : Int) ≤ D.quota
  | [], D, h, _ => by simpa [layL] using h
  | p :: ps, D, h, hn => by
    unfold layL at hn ⊢
    by_cases h1 : D.quota ≤ ((usedOf D.pages : Nat) : Int)
    · rw [if_pos h1] at hn; simp at hn
    · rw [if_neg h1] at hn ⊢
      by_cases h2 : wrap64 (D.writes + 1) = D.fail
      · rw [if_pos h2] at hn; simp at hn
      · rw [if_neg h2] at hn ⊢
        have := layL_quota ps (wroteD D p) (by rw [used_wrote]; show _ ≤ D.quota; omega) hn
        exact this
theorem layAll_quota : ∀ (ts : List (List UInt8)) (D : DS), ((usedOf D.pages : Nat) : Int) ≤ D.quota → (layAll D ts).2.2 = none → ((usedOf (layAll D ts).1.pages : Nat) : Int) ≤ D.quota
  | [], D, h, _ => by simpa [layAll] using h
  | t :: ts, D, h, hn => by
    have h1 := layL_quota (pieces t) D h
    have h2 := (layL_laid (pieces t) D).1
    unfold layAll at hn ⊢
    rcases hr : layL D (pieces t) with ⟨E, l, r⟩
    rw [hr] at hn h1 h2
    cases r with
    | none =>
      have hq : E.quota = D.quota := (h2 rfl).quota
      have := layAll_quota ts E (by rw [hq]; exact h1 rfl) hn
      rw [hq] at this
      exact this
    | some x => simp at hn
theorem layAll_len : ∀ (ts : List (List UInt8)) (D : DS), (layAll D ts).1.pages.length ≤ D.pages.length + totalP ts
  | [], D => by simp [layAll, totalP]
  | t :: ts, D => by
    have h1 := (layL_len (pieces t) D).1
    unfold layAll
    rcases hr : layL D (pieces t) with ⟨E, l, r⟩
    rw [hr] at h1
    rw [totalP_cons]
    cases r with
    | none =>
      have := layAll_len ts E
      simp only at h1 this ⊢
      omega
    | some x =>
      simp only at h1 ⊢
      rw [relD_len]
      omega

/-- A table on a disk, with its rows. -/
structure TabIn (D : DS) (T : TS) (rs : List (List V)) : Prop where
  cols : 1 ≤ T.types.length ∧ T.types.length ≤ 6
  rows : T.rows ≤ 200
  group : 1 ≤ T.group ∧ T.group ≤ 64
  count : T.segs.length = ckN T.rows T.group * T.types.length
  texts : ∃ X : List (List UInt8), X.length = T.segs.length ∧ (∀ t ∈ X, t ≠ [] ∧ t.length ≤ 6100) ∧ (∀ (i : Nat) (h1 : i < T.segs.length) (h2 : i < X.length), segHeld D T.segs[i] X[i]) ∧ (∀ E : DS, (∀ (i : Nat) (h1 : i < T.segs.length) (h2 : i < X.length), segHeld E T.segs[i] X[i]) → tabRows E T = .inl rs)
theorem TabIn.read {D : DS} {T : TS} {rs : List (List V)} (h : TabIn D T rs) : tabRows D T = .inl rs := by
  obtain ⟨X, _, _, h3, h4⟩ := h.texts
  exact h4 D h3
theorem TabIn.keep {D E : DS} {T : TS} {rs : List (List V)} (h : TabIn D T rs) (hk : ∀ i ∈ T.segs.flatten, pg E i = pg D i) : TabIn E T rs := by
  obtain ⟨X, h1, h2, h3, h4⟩ := h.texts
  exact ⟨h.cols, h.rows, h.group, h.count, X, h1, h2, fun i hi hj => (h3 i hi hj).keep fun k hk' => hk k (List.mem_flatten.2 ⟨_, List.getElem_mem hi, hk'⟩), h4⟩
theorem TabIn.seg {D : DS} {T : TS} {rs : List (List V)} (h : TabIn D T rs) : ∀ l ∈ T.segs, ∃ t, t ≠ [] ∧ t.length ≤ 6100 ∧ segHeld D l t := by
  intro l hl
  obtain ⟨X, h1, h2, h3, h4⟩ := h.texts
  obtain ⟨i, hi, rfl⟩ := List.getElem_of_mem hl
  have hx := h2 _ (List.getElem_mem (show i < X.length by omega))
  exact ⟨_, hx.1, hx.2, h3 i hi (by omega)⟩
theorem seg_len {D : DS} {l : List Nat} {t : List UInt8} (h : segHeld D l t) (ht : t ≠ []) (hl : t.length ≤ 6100) : l ≠ [] ∧ l.length ≤ 1000 := by
  have h1 := pieces_count t
  have h2 := h.1
  have h3 := pieces_ne ht
  refine ⟨fun e => h3 (List.length_eq_zero_iff.1 ?_), by omega⟩
  rw [← h2, e]; rfl
theorem TabIn.inuse {D : DS} {T : TS} {rs : List (List V)} (h : TabIn D T rs) : ∀ i ∈ T.segs.flatten, ∃ p, pg D i = some p := by
  intro i hi
  obtain ⟨l, hl, hil⟩ := List.mem_flatten.1 hi
  obtain ⟨t, _, _, h1, h2⟩ := h.seg l hl
  obtain ⟨k, hk, rfl⟩ := List.getElem_of_mem hil
  exact ⟨_, h2 k hk (by omega)⟩
theorem TabIn.ok {D : DS} {T : TS} {rs : List (List V)} (h : TabIn D T rs) : TabOk D T := by
  refine ⟨h.cols, h.rows, h.group, h.count, fun l hl => ?_, fun l hl t ht => ?_⟩
  · obtain ⟨t, h1, h2, h3⟩ := h.seg l hl
    exact seg_len h3 h1 h2
  · obtain ⟨t', h1, h2, h3⟩ := h.seg l hl
    rw [h3.read] at ht
    simp at ht
    rw [← ht]
    exact h1

/-- What stands on a disk: these tables, with these rows, and nothing else. -/
structure Stand (D : DS) (L : List (TS × List (List V))) : Prop where
  tab : ∀ x ∈ L, TabIn D x.1 x.2
  nodup : (L.flatMap fun x => x.1.segs.flatten).Nodup
  all : ∀ i p, pg D i = some p → i ∈ L.flatMap fun x => x.1.segs.flatten
  used : usedOf D.pages = (L.flatMap fun x => x.1.segs.flatten).length
  writes : 0 ≤ D.writes
theorem Stand.empty (q f : Int) : Stand (emptyDS q f) [] :=
  ⟨by simp, by simp, fun i p h => by simp [pg, emptyDS] at h, by simp [emptyDS, usedOf], by simp [emptyDS]⟩
theorem Stand.same {D E : DS} {L : List (TS × List (List V))} (h : Stand D L) (hs : Same D E) (hw : 0 ≤ E.writes) : Stand E L :=
  ⟨fun x hx => (h.tab x hx).keep fun i _ => hs.pages i, h.nodup, fun i p hp => h.all i p (by rw [← hs.pages]; exact hp), hs.used.trans h.used, hw⟩

theorem ckN_le (n g : Nat) (hg : 1 ≤ g) : ckN n g ≤ n := by
  unfold ckN
  exact Nat.le_of_lt_succ ((Nat.div_lt_iff_lt_mul (by omega)).2 (by
    have : n + 1 ≤ (n + 1) * g := Nat.le_mul_of_pos_right _ (by omega)
    rw [Nat.succ_mul] at this ⊢
    have h5 : n ≤ n * g := Nat.le_mul_of_pos_right _ (by omega)
    omega))

/-- What a Load that lays something has laid. -/
theorem packs_in {name : ByteArray} {ts hs : List Int} {rs : List (List V)} {g : Int} {T : List (List UInt8)} (hgood : isTab name ts rs ∧ waysOk ts hs ∧ 1 ≤ g ∧ g ≤ 64) (hp : packF rs ts hs (cks rs.length g.toNat (ckN rs.length g.toNat)) = .inl T) :
    T.length = ckN rs.length g.toNat * ts.length ∧ (∀ t ∈ T, t.length ≤ 6100 ∧ t ≠ []) ∧ totalP T ≤ 660 * rs.length ∧ (T = [] ↔ rs = []) := by
  obtain ⟨h1, h2⟩ := packFLen rs ts hs _ T hp
  rw [cks_length] at h1
  have h3 := totalP_le T fun t ht => (h2 t ht).1
  have h4 := ckN_le rs.length g.toNat (by omega)
  have h6 : ts.length ≤ 6 := hgood.1.2.1.1.2
  have h7 : 1 ≤ ts.length := hgood.1.2.1.1.1
  have h5 : ckN rs.length g.toNat * ts.length ≤ rs.length * 6 := Nat.mul_le_mul h4 h6
  refine ⟨h1, h2, by omega, ⟨fun e => ?_, fun e => ?_⟩⟩
  · subst e
    have h0 : ckN rs.length g.toNat = 0 := by
      rcases Nat.mul_eq_zero.1 h1.symm with h | h
      · exact h
      · omega
    have := ckN_end rs.length g.toNat (by omega)
    simp only [ckAt, h0] at this
    exact List.length_eq_zero_iff.1 (by omega)
  · subst e
    have h0 : ckN ([] : List (List V)).length g.toNat = 0 := by unfold ckN; exact Nat.div_eq_of_lt (by simp; omega)
    rw [h0] at h1
    exact List.length_eq_zero_iff.1 (by omega)

theorem load_ok {D E : DS} {L : List (TS × List (List V))} {Ts : List TS} {name : ByteArray} {ts hs : List Int} {rs : List (List V)} {g : Int} {T : TS} (hS : Stand D L) (hin : ∀ r ∈ rs, ∀ v ∈ r, inI64 v.n) (hw : D.writes ≤ 1000000000) (h : loadR D Ts name ts hs rs g = .ok E T) :
    Stand E (L ++ [(T, rs)]) ∧ T.name = name ∧ usedOf E.pages = usedOf D.pages + T.segs.flatten.length ∧ (T.segs.flatten = [] ↔ rs = []) ∧ E.quota = D.quota ∧ E.fail = D.fail ∧ E.pages.length ≤ D.pages.length + 660 * rs.length ∧ E.writes ≤ D.writes + 660 * rs.length ∧ (((usedOf D.pages : Nat) : Int) ≤ D.quota → ((usedOf E.pages : Nat) : Int) ≤ D.quota) ∧ D.writes ≤ E.writes ∧ (findI Ts name = Ts.length) := by
  unfold loadR at h
  split at h
  · rename_i hgood
    split at h
    · simp at h
    · rename_i hnt
      split at h
      · simp at h
      · rename_i X hX
        split at h
        · simp at h
        · rename_i hn
          simp only [Sum.inr.injEq, Prod.mk.injEq] at h
          obtain ⟨rfl, rfl⟩ := h
          obtain ⟨p1, p2, p3, p4⟩ := packs_in hgood hX
          have hl := layAll_none X D hn
          have hq := layAll_quota X D
          have hln := layAll_len X D
          have hrl : rs.length ≤ 200 := hgood.1.2.2.1
          have hwr := layAll_writes X D hS.writes (by omega)
          generalize hE : (layAll D X).1 = E at *
          generalize hR : (layAll D X).2.1 = R at *
          have hfl := findI_le Ts name
          have hw0 := hS.writes
          refine ⟨⟨?_, ?_, ?_, ?_, by omega⟩, rfl, hl.used, ⟨fun e => ?_, fun e => ?_⟩, hl.quota, hl.fail, by omega, by omega, fun hh => hq hh hn, hwr.1.1, by omega⟩
          · intro x hx
            rcases List.mem_append.1 hx with hx | hx
            · refine (hS.tab x hx).keep fun i hi => hl.other i fun hm => ?_
              obtain ⟨p, hp⟩ := (hS.tab x hx).inuse i hi
              rw [hl.free i hm] at hp
              simp at hp
            · simp at hx
              subst hx
              refine ⟨⟨hgood.1.2.1.1.1, hgood.1.2.1.1.2⟩, hrl, ⟨by show 1 ≤ g.toNat; omega, by show g.toNat ≤ 64; omega⟩, by show R.length = _; rw [hl.len, p1], X, hl.len.symm, fun t ht => ⟨(p2 t ht).2, (p2 t ht).1⟩, fun i h1 h2 => hl.segs i h1, fun E' hE' => rows_of_held E' name ts hs rs g.toNat X R hgood.1 (by omega) hin hX hl.len hE'⟩
          · rw [List.flatMap_append]
            refine List.nodup_append.2 ⟨hS.nodup, by simpa using hl.nodup, fun a ha b hb e => ?_⟩
            subst e
            simp at hb
            obtain ⟨x, hx, hax⟩ := List.mem_flatMap.1 ha
            obtain ⟨p, hp⟩ := (hS.tab x hx).inuse a hax
            have hfm : a ∈ R.flatten := by
              obtain ⟨l, hl', hal⟩ := hb
              exact List.mem_flatten.2 ⟨l, hl', hal⟩
            rw [hl.free a hfm] at hp
            simp at hp
          · intro i p hp
            rw [List.flatMap_append]
            by_cases hm : i ∈ R.flatten
            · exact List.mem_append.2 (.inr (by simpa using hm))
            · rw [hl.other i hm] at hp
              exact List.mem_append.2 (.inl (hS.all i p hp))
          · rw [hl.used, hS.used, List.flatMap_append, List.length_append]
            simp
          · have hX0 : X = [] := by
              rcases X with _ | ⟨t, X⟩
              · rfl
              · exfalso
                rcases R with _ | ⟨l, R⟩
                · have := hl.len; simp at this
                · have hs0 := hl.segs 0 (by simp)
                  have hp2 := p2 t (by simp)
                  have := (seg_len hs0 hp2.2 hp2.1).1
                  simp at e
                  exact this (by simpa using e.1)
            exact p4.1 hX0
          · have hX0 := p4.2 e
            have hlen := hl.len
            rw [hX0] at hlen
            have : R = [] := List.length_eq_zero_iff.1 (by simpa using hlen)
            show R.flatten = []
            rw [this]; rfl
  · simp at h

theorem load_disk {D E : DS} {L : List (TS × List (List V))} {Ts : List TS} {name : ByteArray} {ts hs : List Int} {rs : List (List V)} {g : Int} {x : Bool} (hS : Stand D L) (hw : D.writes ≤ 1000000000) (h : loadR D Ts name ts hs rs g = .disk x E) :
    Stand E L ∧ Same D E ∧ rs ≠ [] ∧ (x = true → D.quota ≤ ((usedOf D.pages + 660 * rs.length : Nat) : Int)) ∧ (x = false → E.writes = D.fail ∧ D.writes < E.writes) ∧ E.pages.length ≤ D.pages.length + 660 * rs.length ∧ E.writes ≤ D.writes + 660 * rs.length ∧ D.writes ≤ E.writes := by
  unfold loadR at h
  split at h
  · rename_i hgood
    split at h
    · simp at h
    · split at h
      · simp at h
      · rename_i X hX
        split at h
        · rename_i y hn
          simp only [Sum.inr.injEq, Sum.inl.injEq, Prod.mk.injEq] at h
          obtain ⟨rfl, rfl⟩ := h
          obtain ⟨p1, p2, p3, p4⟩ := packs_in hgood hX
          obtain ⟨h1, h2, h3⟩ := layAll_some X D y hn
          have hrl : rs.length ≤ 200 := hgood.1.2.2.1
          have hwr := layAll_writes X D hS.writes (by omega)
          have hnum := (relAll_num (layAll D X).2.1 (layAll D X).1).2.2
          have hln := layAll_len X D
          have hw0 := hS.writes
          refine ⟨hS.same h1 (by rw [hnum]; omega), h1, fun e => h2 (p4.2 e), fun e => ?_, fun e => ?_, by rw [relAll_len]; omega, by rw [hnum]; omega, by rw [hnum]; exact hwr.1.1⟩
          · have := h3 e; omega
          · subst e
            rw [hnum]
            exact hwr.2.1 hn
        · simp at h
  · simp at h

theorem packK_dict (rows : List (List V)) (ts hs : List Int) (c : Nat) : ∀ (k : Nat), packK rows ts hs k = .inr c → c < k ∧ (colText rows ts hs c).2 ≠ 0
  | 0, h => by simp [packK] at h
  | k + 1, h => by
    simp only [packK] at h
    split at h
    · rename_i c' hc'
      simp at h
      subst h
      have := packK_dict rows ts hs c' k hc'
      exact ⟨by omega, this.2⟩
    · split at h
      · simp at h
      · rename_i h0
        simp at h
        subst h
        exact ⟨by omega, h0⟩
theorem packF_dict (rs : List (List V)) (ts hs : List Int) (c : Nat) : ∀ (xs : List (Nat × Nat)), packF rs ts hs xs = .inr c → ∃ x ∈ xs, c < ts.length ∧ (colText (rowsOf rs x) ts hs c).2 ≠ 0 := by
  intro xs
  have key : ∀ (xs : List (Nat × Nat)) (T : List (List UInt8)), xs.foldl (packS rs ts hs) (.inl T) = .inr c → ∃ x ∈ xs, c < ts.length ∧ (colText (rowsOf rs x) ts hs c).2 ≠ 0 := by
    intro xs
    induction xs with
    | nil => intro T h; simp at h
    | cons x xs ih =>
      intro T h
      rw [List.foldl_cons] at h
      simp only [packS] at h
      split at h
      · obtain ⟨y, hy, h1⟩ := ih _ h
        exact ⟨y, by simp [hy], h1⟩
      · rename_i c' hc'
        have hb : ∀ ys : List (Nat × Nat), ys.foldl (packS rs ts hs) (.inr c') = .inr c' := by
          intro ys
          induction ys with
          | nil => rfl
          | cons y ys ih => exact ih
        rw [hb] at h
        simp at h
        subst h
        exact ⟨x, by simp, packK_dict _ ts hs c' _ hc'⟩
  exact key xs []
theorem load_dict {D : DS} {Ts : List TS} {name : ByteArray} {ts hs : List Int} {rs : List (List V)} {g : Int} {c : Nat} (h : loadR D Ts name ts hs rs g = .dict c) : c < hs.length ∧ hs.getD c 0 = 1 ∧ 16 < rs.length := by
  unfold loadR at h
  split at h
  · rename_i hgood
    split at h
    · simp at h
    · split at h
      · rename_i c' hX
        simp only [Sum.inr.injEq, Sum.inl.injEq] at h
        subst h
        obtain ⟨x, hx, h1, h2⟩ := packF_dict rs ts hs c' _ hX
        obtain ⟨j, hj, rfl⟩ := List.mem_map.1 hx
        rw [List.mem_range] at hj
        obtain ⟨f1, f2, _⟩ := ckAt_fits rs.length g.toNat j (by omega) hj
        have hwl := hgood.2.1.1
        refine ⟨by omega, ?_⟩
        have hcode := colText_code hgood.1 (rows := rowsOf rs (ckAt rs.length g.toNat j)) (hs := hs) (fun r hr => List.mem_of_mem_drop (List.mem_of_mem_take hr)) (by simp only [rowsOf, List.length_take, List.length_drop, ckAt]; omega) c' h1 hwl hgood.2.1.2
        have hrl : (colOf (rowsOf rs (ckAt rs.length g.toNat j)) c').length ≤ rs.length := by simp [colOf, rowsOf]; omega
        unfold colText pOut at h2 hcode
        split at h2
        · rename_i hw
          rw [if_pos hw] at hcode
          split at h2
          · rename_i hd
            have u1 := uniq_le (heldOf (colOf (rowsOf rs (ckAt rs.length g.toNat j)) c')) []
            have u2 := heldOf_le (colOf (rowsOf rs (ckAt rs.length g.toNat j)) c')
            simp only [List.length_nil, Nat.zero_add] at u1
            exact ⟨hd.1, by omega⟩
          · exact absurd rfl h2
        · rename_i hw
          rw [if_neg hw] at hcode
          simp at hcode
      · split at h <;> simp at h
  · simp at h
end Go.Proofs.YtfgklnenpichcaaGreatDoor
