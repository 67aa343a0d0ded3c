/- 'out = append(out, s...)', s a text: where the new slice lies. -/
import Derived.Test.YthplnjgijmilnaaDoorWriter
import Derived.Lib.AppendStr
namespace Go.Proofs.YthplnjgijmilnaaDoor
open Go.RowKit

theorem OwnC.form {w : World} {B : Nat} {e : TypeId} {sv : Value} {xs : List Value} (h : OwnC w B e sv xs) : ∃ a ln c, sv = .slice a ln c := by
  obtain ⟨a, c, hv, _⟩ := h.cells
  exact ⟨a, _, c, hv⟩

theorem strCells_bv (s : ByteArray) : Lib.strCells s = s.toList.map bv := by
  rw [ByteArray.toList_eq]; rfl

theorem run_append_str (w : World) (B : Nat) (ty : TypeId) (sv : Value) (bs : List UInt8) (hown : OwnC w B 5 sv (bs.map bv)) (hne : bs ≠ []) (s : ByteArray) (hlen : bs.length + s.size ≤ 1000000) (hB : B ≤ w.heap.size) :
    ∃ sv' w', (Builtin.append_ #[37, 9] ty #[sv, .string s]).run Tryd.prog w = .ok sv' w' ∧ OwnC w' B 5 sv' ((bs ++ s.toList).map bv) ∧ w.grownBy w' sv.ownBlock ∧ (sv'.ownBlock = sv.ownBlock ∨ sv'.ownBlock = some w.heap.size) := by
  obtain ⟨i, hi, hz, hs1, hby⟩ := info_parts info_u8
  have hl : (bs.map bv).length = bs.length := by simp
  obtain ⟨v', w', hr, h2, h3, _⟩ := Lib.run_append_own_string (P := Tryd.prog) w B 37 9 ty 5 i (by kernel_rfl) (by kernel_rfl) hi hz hs1 hby sv _ _ hown s (by unfold maxLen; omega) (by omega) hB
  refine ⟨v', w', hr, ?_, h3, ?_⟩
  · unfold OwnC
    rw [List.map_append, ← strCells_bv, List.length_append, Lib.strCells_length]
    exact h2
  · rcases hown.2 with ⟨_, h0⟩ | ⟨g, cap, cur, rfl, hbg, hg, hnc, hcm, hcs, htake⟩
    · rw [hl] at h0; exact absurd (List.length_eq_zero_iff.1 h0) hne
    · by_cases hroom : (bs.map bv).length + s.size ≤ cap
      · have hr2 := Lib.run_append_room_string (P := Tryd.prog) w 37 9 ty 5 i (by kernel_rfl) (by kernel_rfl) hi hs1 g (bs.map bv).length cap cur hg s hroom (by omega)
        rw [hr] at hr2
        injection hr2 with e1 _
        subst e1
        exact .inl rfl
      · have hr2 := Lib.run_append_grow_string (P := Tryd.prog) w 37 9 ty 5 i _ (by kernel_rfl) (by kernel_rfl) hi hz ⟨g, 0, none⟩ (bs.map bv).length cap (bs.map bv) (by rw [hs1, Nat.mul_one]) (World.ownsRow.cells hown (g := g) rfl) s (by omega) (by omega) (by rw [hby]; exact growslice_fits (by omega) (by omega))
        rw [hr] at hr2
        injection hr2 with e1 _
        subst e1
        exact .inr rfl

/-- At a step of a region that draws its order. -/
theorem step_append_str {ops : Array Oper} {o : Oper} {a : Act} {w : World} {K : Act → World → Prop} {Q : Exit → Act → World → Prop} {E : Prop} (hgd : o.guard = none) (sl x : Operand)
    (ho : o.op = .call { callee := .builtin .append, args := #[sl, x], argTypes := #[37, 9] })
    (B : Nat) (sv : Value) (bs : List UInt8) (hs : a.eval sl = sv) (hown : OwnC w B 5 sv (bs.map bv)) (hne : bs ≠ []) (s : ByteArray) (hx : a.eval x = .string s) (hlen : bs.length + s.size ≤ 1000000) (hB : B ≤ w.heap.size)
    (h : ∀ sv' w', OwnC w' B 5 sv' ((bs ++ s.toList).map bv) → w.grownBy w' sv.ownBlock → (sv'.ownBlock = sv.ownBlock ∨ sv'.ownBlock = some w.heap.size) → K (a.put o.dst sv') w') :
    if Region.wanted o (yielded ops a.tmps) = true then Oper.wp Tryd.prog o a w K Q else E := by
  have hw : Region.wanted o (yielded ops a.tmps) = true := by simp [Region.wanted, hgd]
  rw [if_pos hw]
  obtain ⟨v', w', hr, h2, h3, h4⟩ := run_append_str w B o.type sv bs hown hne s hlen hB
  unfold Oper.wp execOp
  simp only [ho, resolve, invoke, builtin, Sem.run_bind, Sem.run_pure, Result.andThen_ok, List.map_toArray, List.map_cons, List.map_nil, hs, hx, hr]
  exact h v' w' h2 h3 h4
end Go.Proofs.YthplnjgijmilnaaDoor
