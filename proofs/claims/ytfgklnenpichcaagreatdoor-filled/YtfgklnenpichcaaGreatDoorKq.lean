/- '==' and '!=' of faults. -/
import Derived.Test.YtfgklnenpichcaaGreatDoorEw
namespace Go.Proofs.YtfgklnenpichcaaGreatDoor
open Go.RowKit

theorem fieldsF : (Tryz.prog.fieldsOf 43).toList.map (fun f => (f.name, f.type, f.offset)) = [("Code", 41, 0), ("Node", 3, 1), ("Row", 3, 2), ("Column", 3, 3), ("Page", 3, 4)] := by kernel_rfl
theorem underF : Tryz.prog.underlying 43 = some (.struct (Tryz.prog.fieldsOf 43)) := by kernel_rfl
theorem sihF : Tryz.prog.stoodInHeld 43 = false := by kernel_rfl

theorem run_equal_F (w : World) (c : Int) : (Op.equal 43 (fault c) (fault c)).run Tryz.prog w = .ok true w := by
  rw [Op.equal, Op.maxDepth, run_equalIn_struct w 9999 43 _ _ underF sihF]
  have h := fieldsF
  generalize (Tryz.prog.fieldsOf 43).toList = fs at h
  rcases fs with _ | ⟨f0, _ | ⟨f1, _ | ⟨f2, _ | ⟨f3, _ | ⟨f4, _ | ⟨f5, fs⟩⟩⟩⟩⟩⟩
  · simp at h
  · simp at h
  · simp at h
  · simp at h
  · simp at h
  · simp at h
    obtain ⟨⟨h1, h2, h3⟩, ⟨h4, h5, h6⟩, ⟨h7, h8, h9⟩, ⟨i1, i2, i3⟩, i4, i5, i6⟩ := h
    simp [Op.eqFields, h1, h2, h3, h4, h5, h6, h7, h8, h9, i1, i2, i3, i4, i5, i6, part, sizeOf, go_sem]
  · simp at h
theorem run_eql_F (c : Int) (w : World) : (binOp .eql 43 (fault c) (fault c)).run Tryz.prog w = .ok (.bool true) w := by
  simp [binOp, run_equal_F]

theorem run_neq_F (c : Int) (w : World) : (binOp .neq 43 (fault c) (fault c)).run Tryz.prog w = .ok (.bool false) w := by
  simp [binOp, run_equal_F]
end Go.Proofs.YtfgklnenpichcaaGreatDoor
