/- What errors.Is answers at the errors that the program makes. -/
import Derived.Test.YtfgklnenpichcaaGreatDoorEr
import Derived.Deep.LoopGhost
namespace Go.Proofs.YtfgklnenpichcaaGreatDoor
open Go.RowKit Go.Extern.Stop Go.Stop Go.Extern

set_option maxRecDepth 100000 in
set_option maxHeartbeats 1000000 in
/-- What errors.is answers, and so errors.Is. -/
theorem erris_any (v : Value) (a t : Addr) (w : World) (h : ∃ k, ChainR w k v a) (ha : ∃ c t, w.heap[a.block]? = some (.cells c t (0, 0))) (ht : ∃ c u, w.heap[t.block]? = some (.cells c u (0, 0))) (r : Bool) (hr : r = true ↔ a = t) :
    Calls Tryz.prog 106 #[v, .iface 255 (.pointer (some t)), .bool true] w fun e w' => e = .returned (.bool r) ∧ w' = w := by
  obtain ⟨ca, ta, ha⟩ := ha
  obtain ⟨ct, tt, ht⟩ := ht
  obtain ⟨i, hi, hcmp⟩ := Option.map_eq_some_iff.1 isComp
  obtain ⟨j, hj, hjs⟩ := Option.map_eq_some_iff.1 isSize
  have hEQ : Hid ((binOp .eql 70 (.iface 255 (.pointer (some a))) (.iface 255 (.pointer (some t)))).run Tryz.prog w = .ok (.bool r) w) := by
    show _ = _
    by_cases he : a = t
    · rw [hr.2 he]; subst he
      exact run_eql_iface_ptr_same (P := Tryz.prog) w a Tryz.underlying70 Tryz.underlying255 hi hcmp hj
    · have : r = false := by cases r with
        | false => rfl
        | true => exact absurd (hr.1 rfl) he
      rw [this]
      exact run_eql_iface_ptr_other (P := Tryz.prog) w Tryz.underlying70 Tryz.underlying255 hi hcmp hj (by rw [hjs]; decide) he ha ht
  have HH : Hid (∃ k, ChainR w k v a) := h
  obtain ⟨ty0, x0, rfl⟩ : ∃ ty x, v = .iface ty x := by obtain ⟨_, hc⟩ := h; exact hc.iface
  clear h hr ha ht hi hcmp hj hjs
  go_enter Tryz.func106, Tryz.ntmps106
  go_wp2_with fail
  obtain ⟨k0, hk0⟩ := HH.out
  go_loopg [0] k0 (fun k ev wr => wr = w ∧ ChainR w k ev a)
  case atStart => exact ⟨rfl, hk0⟩
  case round =>
    obtain ⟨hwr, hx⟩ := hrel
    subst hwr
    clear HH hk0
    rcases gk with _ | n
    · have hx0 : _ = Value.iface 255 (.pointer (some a)) := hx
      subst hx0
      clear hx
      have nI := noIsRoot
      have uU := unwrapRoot
      have vE := noUnwrapsRoot
      have heq := hEQ.out
      cases r with
      | true =>
        go_wp2_with fail
        go_ret
        exact ⟨rfl, rfl⟩
      | false =>
        go_wp2_with fail
        go_ret
        exact ⟨rfl, rfl⟩
    · obtain ⟨ty, off, un, b, v, hW, hev, hcell, hrest⟩ := hx
      subst hev
      have HR : Hid (ChainR wr n v a) := hrest
      have HW : Hid (Calls Tryz.prog un #[.pointer (some ⟨b, 0, none⟩)] wr fun e w' => e = .returned v ∧ w' = wr) := hW.walk b v _ hcell
      obtain ⟨ty1, x1, rfl⟩ := hrest.iface
      have nI := hW.noIs
      have uU := hW.unwrap
      have mU := hW.meth
      have eN := hW.enter
      have eQ := hW.eql
      have hn1 := run_eql_held_nil (P := Tryz.prog) wr 70 ty1 x1 (by kernel_rfl)
      clear hW hcell hrest hEQ
      go_wp2_with fail
      refine HW.out.mono ?_
      rintro e w' ⟨rfl, rfl⟩
      go_wp2_with fail
      go_roundg n
      case measure => exact Nat.lt_succ_self n
      case rel => exact ⟨by first | trivial | rfl, HR.out⟩

set_option maxHeartbeats 400000 in
/-- errors.Is of an error of the program's and a named one. -/
theorem is_any (v : Value) (a t : Addr) (w : World) (h : ∃ k, ChainR w k v a) (ha : ∃ c t, w.heap[a.block]? = some (.cells c t (0, 0))) (ht : ∃ c u, w.heap[t.block]? = some (.cells c u (0, 0))) (r : Bool) (hr : r = true ↔ a = t) :
    Calls Tryz.prog 77 #[v, .iface 255 (.pointer (some t))] w fun e w' => e = .returned (.bool r) ∧ w' = w := by
  have h8 := @run_callFunc_extern Tryz.prog 105 _ Extern.ReflectliteType.typeOf Tryz.func105 (by kernel_rfl) (by kernel_rfl) (by kernel_rfl) (by kernel_rfl)
  have h32 := run_cmpM
  have tT := typeOfRoot
  have cT := isComparable
  have mR := isMethodComparable
  have hc := erris_any v a t w h ha ht r hr
  obtain ⟨ty, x, rfl⟩ : ∃ ty x, v = .iface ty x := by obtain ⟨_, hc⟩ := h; exact hc.iface
  have HC : Hid (Calls Tryz.prog 106 #[.iface ty x, .iface 255 (.pointer (some t)), .bool true] w fun e w' => e = .returned (.bool r) ∧ w' = w) := hc
  clear hc hr ha ht h
  go_enter Tryz.func77, Tryz.ntmps77
  go_wp2_with fail
  refine HC.out.mono ?_
  rintro e w' ⟨rfl, rfl⟩
  go_wp2_with fail
  go_ret
  exact ⟨rfl, rfl⟩
end Go.Proofs.YtfgklnenpichcaaGreatDoor
