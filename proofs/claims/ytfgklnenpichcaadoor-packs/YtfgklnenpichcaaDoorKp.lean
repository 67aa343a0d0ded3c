/- What the program's Pack answers, for every type, way and list of values. -/
import Derived.Test.YtfgklnenpichcaaDoorKd
namespace Go.Proofs.YtfgklnenpichcaaDoor
open Go.RowKit

set_option maxHeartbeats 1000000 in
theorem Pack_of (t how : Int) (sl : Value) (w : World) (s : ByteArray) (x : Value) (c : Int)
    (hs : ∀ W, Below w.heap.size w W → Calls Tryd.prog 15 #[.int .i64 t, .int .i64 how, sl] W fun e w' => e = .returned (.tuple #[.string s, x]) ∧ Below W.heap.size W w')
    (hc : ∀ W, Below w.heap.size w W → Calls Tryd.prog 16 #[x] W fun e w' => e = .returned (fault c) ∧ Below W.heap.size W w') :
    Calls Tryd.prog 8 #[.int .i64 t, .int .i64 how, sl] w fun e w' => e = .returned (.tuple #[.string s, fault c]) ∧ Below w.heap.size w w' := by
  have HS : Hid (∀ W, Below w.heap.size w W → Calls Tryd.prog 15 #[.int .i64 t, .int .i64 how, sl] W fun e w' => e = .returned (.tuple #[.string s, x]) ∧ Below W.heap.size W w') := hs
  have HC : Hid (∀ W, Below w.heap.size w W → Calls Tryd.prog 16 #[x] W fun e w' => e = .returned (fault c) ∧ Below W.heap.size W w') := hc
  clear hs hc
  have hb0 : Below w.heap.size w (w.alloc (.cells #[.int .i64 0, .int .i64 0, .int .i64 0, .int .i64 0, .int .i64 0] 30)) := (Below.refl _ _).alloc (Nat.le_refl _) _
  go_enter Tryd.func8, Tryd.ntmps8
  go_wp2_with fail
  refine (HS.out _ hb0).mono ?_
  rintro e w1 ⟨rfl, hb1⟩
  go_wp2_with fail
  have hb2 := below_then hb0 hb1
  refine (HC.out w1 hb2).mono ?_
  rintro e w2 ⟨rfl, hb3⟩
  obtain ⟨k1, k2⟩ := below_keep (below_then hb1 hb3)
  have hb4 := below_then hb2 hb3
  go_wp2
  exact bodyPost_ret (v := .tuple #[.string s, fault c]) (by simp [results, Tryd.results8, go_sem, k1]) rfl ⟨rfl, below_set5 hb4 (Nat.le_refl _) _ _ _ _ _⟩

theorem Pack_any (t how : Int) (a : Option Addr) (cap : Nat) (xs : List V) (w : World) (hn : xs.length ≤ maxLen) (hx : Vals w a xs) (a0 a1 a2 : Addr) (he : Errs w a0 a1 a2) :
    Calls Tryd.prog 8 #[.int .i64 t, .int .i64 how, .slice a xs.length cap] w fun e w' => e = .returned (.tuple #[.string (str (pOut t how xs).1), fault (pOut t how xs).2]) ∧ Below w.heap.size w w' := by
  by_cases hok : way t how = true ∧ okAll t xs
  · have hb : (way t how && okAllB t xs) = true := by rw [Bool.and_eq_true]; exact ⟨hok.1, (okAllB_iff t xs).2 hok.2⟩
    by_cases hd : how = 1 ∧ 16 < (uniq [] (heldOf xs)).length
    · have e : pOut t how xs = ([], 2) := by unfold pOut; rw [if_pos hb, if_pos hd]
      rw [e]
      obtain ⟨rfl, hd⟩ := hd
      exact Pack_of t 1 _ w (str []) _ 2 (fun W hW => sPack_dict t a cap xs W hn (hx.below hW) _ (he.below hW).c1 hok.1 hok.2 hd) (fun W hW => fault_dict a0 a1 a2 W (he.below hW))
    · have e : pOut t how xs = (segEnc t how xs, 0) := by unfold pOut; rw [if_pos hb, if_neg hd]
      rw [e]
      rcases way_cases t how hok.1 with rfl | rfl | rfl | rfl
      · exact Pack_of t 0 _ w _ _ 0 (fun W hW => sPack_plain t a cap xs W hn (hx.below hW) hok.1 hok.2) (fun W _ => fault_nil W)
      · exact Pack_of t 1 _ w _ _ 0 (fun W hW => sPack_dictionary t a cap xs W hn (hx.below hW) hok.1 hok.2 (by omega)) (fun W _ => fault_nil W)
      · exact Pack_of t 2 _ w _ _ 0 (fun W hW => sPack_runs t a cap xs W hn (hx.below hW) hok.1 hok.2) (fun W _ => fault_nil W)
      · exact Pack_of t 3 _ w _ _ 0 (fun W hW => sPack_packed t a cap xs W hn (hx.below hW) hok.1 hok.2) (fun W _ => fault_nil W)
  · have hb : ¬ (way t how && okAllB t xs) = true := by rw [Bool.and_eq_true]; exact fun h => hok ⟨h.1, (okAllB_iff t xs).1 h.2⟩
    have e : pOut t how xs = ([], 1) := by unfold pOut; rw [if_neg hb]
    rw [e]
    exact Pack_of t how _ w (str []) _ 1 (fun W hW => sPack_arg t how a cap xs W hn (hx.below hW) _ (he.below hW).c0 hok) (fun W hW => fault_arg a0 a1 a2 W (he.below hW))
end Go.Proofs.YtfgklnenpichcaaDoor
