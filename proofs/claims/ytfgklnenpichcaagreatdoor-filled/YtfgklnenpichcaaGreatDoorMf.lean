/- Tables are loaded one after the other on a small disk, or one that fails once, plainly. -/
import Derived.Test.YtfgklnenpichcaaGreatDoorMd
namespace Go.Proofs.YtfgklnenpichcaaGreatDoor
open Go.RowKit

/-- After i Loads of tables of at most 30 rows: what stands, what is in use, whether the disk has failed. -/
structure FillI (q f : Int) (D : DS) (L : List (TS × List (List V))) (failed : Bool) (i : Nat) : Prop where
  stand : Stand D L
  quota : D.quota = q
  fail : D.fail = f
  used : ((usedOf D.pages : Nat) : Int) ≤ q
  pages : D.pages.length ≤ 19800 * i
  writes : D.writes ≤ 19800 * i
  once : failed = true → f ≤ D.writes
  few : L.length ≤ i
theorem FillI.start (q f : Int) (hq : 0 ≤ q) : FillI q f (emptyDS q f) [] false 0 :=
  ⟨Stand.empty q f, rfl, rfl, by simpa [emptyDS, usedOf] using hq, by simp [emptyDS], by simp [emptyDS], fun h => by simp at h, Nat.le_refl _⟩

/-- One Load more: it is wholly there; or there was no room; or the disk failed, for the first time. -/
theorem filled_step {q f : Int} {D : DS} {L : List (TS × List (List V))} {failed : Bool} {i : Nat} {name : ByteArray} {ts hs : List Int} {rs : List (List V)} {g : Int} (h : FillI q f D L failed i) (hi : i < 6) (htab : isTab name ts rs) (hin : ∀ r ∈ rs, ∀ v ∈ r, inI64 v.n) (hr30 : rs.length ≤ 30) (hw : waysOk ts hs) (hz : ∀ c, hs.getD c 0 = 0) (hg : 1 ≤ g ∧ g ≤ 64) (hnew : findI (L.map Prod.fst) name = L.length) :
    (∃ E T, loadR D (L.map Prod.fst) name ts hs rs g = .ok E T ∧ FillI q f E (L ++ [(T, rs)]) failed (i + 1) ∧ T.name = name) ∨
    (∃ E, loadR D (L.map Prod.fst) name ts hs rs g = .disk true E ∧ FillI q f E L failed (i + 1) ∧ usedOf E.pages = usedOf D.pages ∧ rs ≠ []) ∨
    (∃ E, loadR D (L.map Prod.fst) name ts hs rs g = .disk false E ∧ FillI q f E L true (i + 1) ∧ usedOf E.pages = usedOf D.pages ∧ failed = false ∧ 1 ≤ f) := by
  have hfew := h.few
  have hwr := h.writes
  have hpg := h.pages
  have hbig : D.writes ≤ 1000000000 := by omega
  have hw0 := h.stand.writes
  have hused := h.used
  rcases hr : loadR D (L.map Prod.fst) name ts hs rs g with _ | _ | c | ⟨x, E⟩ | ⟨E, T⟩
  · unfold loadR at hr
    rw [if_pos ⟨htab, hw, hg⟩] at hr
    split at hr
    · simp at hr
    · split at hr
      · simp at hr
      · split at hr <;> simp at hr
  · unfold loadR at hr
    rw [if_pos ⟨htab, hw, hg⟩, if_neg (by rw [hnew, List.length_map]; omega)] at hr
    split at hr
    · simp at hr
    · split at hr <;> simp at hr
  · have := (load_dict hr).2.1
    rw [hz c] at this
    simp at this
  · obtain ⟨k1, k2, k3, _, k5, k6, k7, k8⟩ := load_disk h.stand hbig hr
    right
    cases x with
    | true =>
      left
      refine ⟨E, rfl, ⟨k1, k2.quota.trans h.quota, k2.fail.trans h.fail, by rw [k2.used]; exact h.used, by omega, by omega, fun hf => ?_, by omega⟩, k2.used, k3⟩
      have := h.once hf
      omega
    | false =>
      right
      obtain ⟨e1, e2⟩ := k5 rfl
      have hff := h.fail
      refine ⟨E, rfl, ⟨k1, k2.quota.trans h.quota, k2.fail.trans h.fail, by rw [k2.used]; exact h.used, by omega, by omega, fun _ => by omega, by omega⟩, k2.used, ?_, by omega⟩
      cases hb : failed with
      | false => rfl
      | true =>
        have := h.once hb
        omega
  · obtain ⟨k1, k2, k3, _, k5, k6, k7, k8, k9, k10, _⟩ := load_ok h.stand hin hbig hr
    left
    refine ⟨E, T, rfl, ⟨k1, k5.trans h.quota, k6.trans h.fail, ?_, by omega, by omega, fun hf => ?_, by simp; omega⟩, k2⟩
    · rw [← h.quota]
      exact k9 (by rw [h.quota]; exact h.used)
    · have := h.once hf
      omega
end Go.Proofs.YtfgklnenpichcaaGreatDoor
