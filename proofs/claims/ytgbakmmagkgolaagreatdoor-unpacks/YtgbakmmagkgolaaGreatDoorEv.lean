/- errors.As at the program's two targets, and so the column and the page of an error; its number; the fault. -/
import Derived.Test.YtgbakmmagkgolaaGreatDoorEu
namespace Go.Proofs.YtgbakmmagkgolaaGreatDoor
open Go.RowKit Go.Extern.Stop Go.Stop Go.Extern

theorem below_hit {B : Nat} {w : World} {t : Addr} (o1 o2 : Obj) (v : Value) (hB : B ≤ t.block) (hBw : B ≤ w.heap.size) : Below B w (((w.alloc o1).alloc o2).setCell t v) :=
  (((Below.refl B w).alloc hBw o1).alloc (by simp; omega) o2).setCell hB v
theorem cell_hit {w : World} {t : Addr} {old : Value} (o1 o2 : Obj) (v : Value) (ht : w.cell? t = some old) : (((w.alloc o1).alloc o2).setCell t v).cell? t = some v := by
  have h := lt_of_cell ht
  exact World.cell?_setCell_same _ _ _ (u := old) (by rw [World.cell?_alloc_lt _ _ t (by simp; omega), World.cell?_alloc_lt _ _ t h]; exact ht)
theorem cell_hit_old {w : World} {t : Addr} {b k : Nat} {x : Value} (o1 o2 : Obj) (v : Value) (hx : w.cell? ⟨b, k, none⟩ = some x) (hne : b ≠ t.block) : (((w.alloc o1).alloc o2).setCell t v).cell? ⟨b, k, none⟩ = some x := by
  have h := lt_of_cell hx
  simp only at h
  rw [World.cell?_setCell_other _ _ _ _ (fun e => hne (by rw [e]) ), World.cell?_alloc_lt _ _ ⟨b, k, none⟩ (by simp; omega), World.cell?_alloc_lt _ _ ⟨b, k, none⟩ h]; exact hx

theorem erTab_any (v : Value) (a : Addr) (c p : Option Int) (t av : Addr) (old : Value) (w : World) (B : Nat) (h : Chain w v a c p) (hv : w.cell? av = some (.pointer (some t))) (ht : w.cell? t = some old) (hf : w.frozen? t = false) (hB : B ≤ t.block) (hBw : B ≤ w.heap.size)
    (hno : ∀ b k x, w.cell? ⟨b, k, none⟩ = some (.int .i64 x) → k = 1 → b ≠ t.block) :
    Calls Tryz.prog 156 #[v, .iface 207 (.pointer (some t)), .agg #[.pointer (some ⟨9, 207, none⟩), .pointer (some av), .int .u64 150], .iface 294 (.agg #[.pointer (some ⟨9, 158, none⟩)])] w fun e w' => Below B w w' ∧ ((c = none ∧ e = .returned (.bool false)) ∨ ∃ b x, c = some x ∧ e = .returned (.bool true) ∧ w'.cell? t = some (.pointer (some ⟨b, 0, none⟩)) ∧ w'.cell? ⟨b, 1, none⟩ = some (.int .i64 x)) := by
  cases h with
  | root a => exact (as_rootTab a t av w).mono fun e w' ⟨he, hw⟩ => ⟨by subst hw; exact (Below.refl B w).alloc hBw _, .inl ⟨rfl, he⟩⟩
  | disk b a p h0 _ => exact (as_diskTab a t av w b h0).mono fun e w' ⟨he, hw⟩ => ⟨by subst hw; exact (Below.refl B w).alloc hBw _, .inl ⟨rfl, he⟩⟩
  | tab b a c h1 _ => exact (as_tabTab t av w old b hv ht hf).mono fun e w' ⟨he, hw⟩ => ⟨by subst hw; exact below_hit _ _ _ hB hBw, .inr ⟨b, c, rfl, he, by subst hw; exact cell_hit _ _ _ ht, by subst hw; exact cell_hit_old _ _ _ h1 (hno _ _ _ h1 (by simp))⟩⟩
  | both b d a c p h1 _ _ _ => exact (as_tabTab t av w old b hv ht hf).mono fun e w' ⟨he, hw⟩ => ⟨by subst hw; exact below_hit _ _ _ hB hBw, .inr ⟨b, c, rfl, he, by subst hw; exact cell_hit _ _ _ ht, by subst hw; exact cell_hit_old _ _ _ h1 (hno _ _ _ h1 (by simp))⟩⟩

set_option maxHeartbeats 2000000 in
theorem asTab_any (v : Value) (a : Addr) (c p : Option Int) (t : Nat) (w : World) (B : Nat) (h : Chain w v a c p) (hg : w.cell? ⟨8, 0, none⟩ = some (.iface 294 (.agg #[.pointer (some ⟨9, 94, none⟩)])))
    (ht : w.heap[t]? = some (.cells #[.pointer none] 158 (0, 0))) (hB : B ≤ t) :
    Calls Tryz.prog 115 #[v, .iface 207 (.pointer (some ⟨t, 0, none⟩))] w fun e w' => Below B w w' ∧ ((c = none ∧ e = .returned (.bool false)) ∨ ∃ b x, c = some x ∧ e = .returned (.bool true) ∧ w'.cell? ⟨t, 0, none⟩ = some (.pointer (some ⟨b, 0, none⟩)) ∧ w'.cell? ⟨b, 1, none⟩ = some (.int .i64 x)) := by
  have hTl := lt_of_heap ht
  have hWl := lt_of_cell hg
  simp only at hWl
  have hVO := @run_callFunc_extern Tryz.prog 153 _ (fun args => ReflectliteValue.unpack (args.getD 0 (.tuple #[]))) Tryz.func153 (by kernel_rfl) (by kernel_rfl) (by kernel_rfl) (by kernel_rfl)
  have hTY := @run_callFunc_extern Tryz.prog 154 _ (ReflectliteValue.methodAny (ReflectliteValue.valueError "reflectlite.Value.Type" 0) (fun t _ _ _ => ReflectliteType.toType t)) Tryz.func154 (by kernel_rfl) (by kernel_rfl) (by kernel_rfl) (by kernel_rfl)
  have hNI := @run_callFunc_extern Tryz.prog 155 _ (ReflectliteValue.method (ReflectliteValue.valueError "reflectlite.Value.IsNil" 0) ReflectliteValue.isNil) Tryz.func155 (by kernel_rfl) (by kernel_rfl) (by kernel_rfl) (by kernel_rfl)
  have hKI := @run_callFunc_extern Tryz.prog 240 _ (ReflectliteType.abiMethod fun t => do pure (.int .u8 (← Rtype.kind t))) Tryz.func240 (by kernel_rfl) (by kernel_rfl) (by kernel_rfl) (by kernel_rfl)
  have hEL := @run_callFunc_extern Tryz.prog 253 _ (ReflectliteType.method ReflectliteType.elem) Tryz.func253 (by kernel_rfl) (by kernel_rfl) (by kernel_rfl) (by kernel_rfl)
  have hIM := @run_callFunc_extern Tryz.prog 254 _ (ReflectliteType.relation "Implements" ReflectliteType.implements_) Tryz.func254 (by kernel_rfl) (by kernel_rfl) (by kernel_rfl) (by kernel_rfl)
  have f6 := valueOfPTab
  have f7 := typePTab
  have mK := mKind
  have mE := mElem
  have mI := mImplements
  have k1 := kindPTab
  have k2 := kindTab
  have e1 := elemPTab
  have i1 := implementsTab
  obtain ⟨ty, x, rfl⟩ : ∃ ty x, v = .iface ty x := by cases h <;> exact ⟨_, _, rfl⟩
  have n8 := isNilPTab ⟨w.heap.size, 0, none⟩ ⟨t, 0, none⟩ ((w.alloc (.cells #[.pointer (some ⟨t, 0, none⟩)] 207)).alloc (.cells #[.pointer (some ⟨9, 207, none⟩), .pointer (some ⟨w.heap.size, 0, none⟩), .int .u64 150] 264)) (by simp)
  have hg2 : ((w.alloc (.cells #[.pointer (some ⟨t, 0, none⟩)] 207)).alloc (.cells #[.pointer (some ⟨9, 207, none⟩), .pointer (some ⟨w.heap.size, 0, none⟩), .int .u64 150] 264)).cell? ⟨8, 0, none⟩ = some (.iface 294 (.agg #[.pointer (some ⟨9, 94, none⟩)])) := by
    rw [World.cell?_alloc_lt _ _ ⟨8, 0, none⟩ (by simp; omega), World.cell?_alloc_lt _ _ ⟨8, 0, none⟩ hWl]; exact hg
  have hba : Below w.heap.size w ((w.alloc (.cells #[.pointer (some ⟨t, 0, none⟩)] 207)).alloc (.cells #[.pointer (some ⟨9, 207, none⟩), .pointer (some ⟨w.heap.size, 0, none⟩), .int .u64 150] 264)) := ((Below.refl _ w).alloc (Nat.le_refl _) _).alloc (by simp) _
  have ht2 : ((w.alloc (.cells #[.pointer (some ⟨t, 0, none⟩)] 207)).alloc (.cells #[.pointer (some ⟨9, 207, none⟩), .pointer (some ⟨w.heap.size, 0, none⟩), .int .u64 150] 264)).heap[t]? = some (.cells #[.pointer none] 158 (0, 0)) := by rw [hba.block t hTl]; exact ht
  have hc := erTab_any (.iface ty x) a c p ⟨t, 0, none⟩ ⟨w.heap.size, 0, none⟩ (.pointer none) ((w.alloc (.cells #[.pointer (some ⟨t, 0, none⟩)] 207)).alloc (.cells #[.pointer (some ⟨9, 207, none⟩), .pointer (some ⟨w.heap.size, 0, none⟩), .int .u64 150] 264)) B (h.below hba)
    (by rw [World.cell?_alloc_lt _ _ ⟨w.heap.size, 0, none⟩ (by simp)]; simp) (by simp [World.cell?, ht2]) (by simp [World.frozen?, ht2]) hB (by simp; omega)
    (fun b k y hy hk hbt => by subst hk; simp only at hbt; subst hbt; simp [World.cell?, ht2] at hy)
  have hb0 := hba.mono (show B ≤ w.heap.size by omega)
  clear ht2 hba h
  go_enter Tryz.func115, Tryz.ntmps115
  go_wp2_with fail
  refine hc.mono ?_
  rintro e w' ⟨hbw, ⟨hn, rfl⟩ | ⟨b, y, hs, rfl, q1, q2⟩⟩
  · go_wp2_with fail
    go_ret
    exact ⟨hb0.trans hbw, .inl ⟨hn, rfl⟩⟩
  · go_wp2_with fail
    go_ret
    exact ⟨hb0.trans hbw, .inr ⟨b, y, hs, rfl, q1, q2⟩⟩

theorem erDisk_any (v : Value) (a : Addr) (c p : Option Int) (t av : Addr) (old : Value) (w : World) (B : Nat) (h : Chain w v a c p) (hv : w.cell? av = some (.pointer (some t))) (ht : w.cell? t = some old) (hf : w.frozen? t = false) (hB : B ≤ t.block) (hBw : B ≤ w.heap.size)
    (hno : ∀ b k x, w.cell? ⟨b, k, none⟩ = some (.int .i64 x) → k = 1 → b ≠ t.block) :
    Calls Tryz.prog 156 #[v, .iface 209 (.pointer (some t)), .agg #[.pointer (some ⟨9, 209, none⟩), .pointer (some av), .int .u64 150], .iface 294 (.agg #[.pointer (some ⟨9, 208, none⟩)])] w fun e w' => Below B w w' ∧ ((p = none ∧ e = .returned (.bool false)) ∨ ∃ b x, p = some x ∧ e = .returned (.bool true) ∧ w'.cell? t = some (.pointer (some ⟨b, 0, none⟩)) ∧ w'.cell? ⟨b, 1, none⟩ = some (.int .i64 x)) := by
  cases h with
  | root a => exact (as_rootDisk a t av w).mono fun e w' ⟨he, hw⟩ => ⟨by subst hw; exact (Below.refl B w).alloc hBw _, .inl ⟨rfl, he⟩⟩
  | disk b a p _ h1 => exact (as_diskDisk t av w old b hv ht hf).mono fun e w' ⟨he, hw⟩ => ⟨by subst hw; exact below_hit _ _ _ hB hBw, .inr ⟨b, p, rfl, he, by subst hw; exact cell_hit _ _ _ ht, by subst hw; exact cell_hit_old _ _ _ h1 (hno _ _ _ h1 (by simp))⟩⟩
  | tab b a c _ h2 => exact (as_tabDisk a t av w b h2).mono fun e w' ⟨he, hw⟩ => ⟨by subst hw; exact (Below.refl B w).alloc hBw _, .inl ⟨rfl, he⟩⟩
  | both b d a c p _ h2 _ h4 => exact (as_bothDisk t av w old b d h2 hv ht hf).mono fun e w' ⟨he, hw⟩ => ⟨by subst hw; exact below_hit _ _ _ hB hBw, .inr ⟨d, p, rfl, he, by subst hw; exact cell_hit _ _ _ ht, by subst hw; exact cell_hit_old _ _ _ h4 (hno _ _ _ h4 (by simp))⟩⟩

set_option maxHeartbeats 2000000 in
theorem asDisk_any (v : Value) (a : Addr) (c p : Option Int) (t : Nat) (w : World) (B : Nat) (h : Chain w v a c p) (hg : w.cell? ⟨8, 0, none⟩ = some (.iface 294 (.agg #[.pointer (some ⟨9, 94, none⟩)])))
    (ht : w.heap[t]? = some (.cells #[.pointer none] 208 (0, 0))) (hB : B ≤ t) :
    Calls Tryz.prog 115 #[v, .iface 209 (.pointer (some ⟨t, 0, none⟩))] w fun e w' => Below B w w' ∧ ((p = none ∧ e = .returned (.bool false)) ∨ ∃ b x, p = some x ∧ e = .returned (.bool true) ∧ w'.cell? ⟨t, 0, none⟩ = some (.pointer (some ⟨b, 0, none⟩)) ∧ w'.cell? ⟨b, 1, none⟩ = some (.int .i64 x)) := by
  have hTl := lt_of_heap ht
  have hWl := lt_of_cell hg
  simp only at hWl
  have hVO := @run_callFunc_extern Tryz.prog 153 _ (fun args => ReflectliteValue.unpack (args.getD 0 (.tuple #[]))) Tryz.func153 (by kernel_rfl) (by kernel_rfl) (by kernel_rfl) (by kernel_rfl)
  have hTY := @run_callFunc_extern Tryz.prog 154 _ (ReflectliteValue.methodAny (ReflectliteValue.valueError "reflectlite.Value.Type" 0) (fun t _ _ _ => ReflectliteType.toType t)) Tryz.func154 (by kernel_rfl) (by kernel_rfl) (by kernel_rfl) (by kernel_rfl)
  have hNI := @run_callFunc_extern Tryz.prog 155 _ (ReflectliteValue.method (ReflectliteValue.valueError "reflectlite.Value.IsNil" 0) ReflectliteValue.isNil) Tryz.func155 (by kernel_rfl) (by kernel_rfl) (by kernel_rfl) (by kernel_rfl)
  have hKI := @run_callFunc_extern Tryz.prog 240 _ (ReflectliteType.abiMethod fun t => do pure (.int .u8 (← Rtype.kind t))) Tryz.func240 (by kernel_rfl) (by kernel_rfl) (by kernel_rfl) (by kernel_rfl)
  have hEL := @run_callFunc_extern Tryz.prog 253 _ (ReflectliteType.method ReflectliteType.elem) Tryz.func253 (by kernel_rfl) (by kernel_rfl) (by kernel_rfl) (by kernel_rfl)
  have hIM := @run_callFunc_extern Tryz.prog 254 _ (ReflectliteType.relation "Implements" ReflectliteType.implements_) Tryz.func254 (by kernel_rfl) (by kernel_rfl) (by kernel_rfl) (by kernel_rfl)
  have f6 := valueOfPDisk
  have f7 := typePDisk
  have mK := mKind
  have mE := mElem
  have mI := mImplements
  have k1 := kindPDisk
  have k2 := kindDisk
  have e1 := elemPDisk
  have i1 := implementsDisk
  obtain ⟨ty, x, rfl⟩ : ∃ ty x, v = .iface ty x := by cases h <;> exact ⟨_, _, rfl⟩
  have n8 := isNilPDisk ⟨w.heap.size, 0, none⟩ ⟨t, 0, none⟩ ((w.alloc (.cells #[.pointer (some ⟨t, 0, none⟩)] 209)).alloc (.cells #[.pointer (some ⟨9, 209, none⟩), .pointer (some ⟨w.heap.size, 0, none⟩), .int .u64 150] 264)) (by simp)
  have hg2 : ((w.alloc (.cells #[.pointer (some ⟨t, 0, none⟩)] 209)).alloc (.cells #[.pointer (some ⟨9, 209, none⟩), .pointer (some ⟨w.heap.size, 0, none⟩), .int .u64 150] 264)).cell? ⟨8, 0, none⟩ = some (.iface 294 (.agg #[.pointer (some ⟨9, 94, none⟩)])) := by
    rw [World.cell?_alloc_lt _ _ ⟨8, 0, none⟩ (by simp; omega), World.cell?_alloc_lt _ _ ⟨8, 0, none⟩ hWl]; exact hg
  have hba : Below w.heap.size w ((w.alloc (.cells #[.pointer (some ⟨t, 0, none⟩)] 209)).alloc (.cells #[.pointer (some ⟨9, 209, none⟩), .pointer (some ⟨w.heap.size, 0, none⟩), .int .u64 150] 264)) := ((Below.refl _ w).alloc (Nat.le_refl _) _).alloc (by simp) _
  have ht2 : ((w.alloc (.cells #[.pointer (some ⟨t, 0, none⟩)] 209)).alloc (.cells #[.pointer (some ⟨9, 209, none⟩), .pointer (some ⟨w.heap.size, 0, none⟩), .int .u64 150] 264)).heap[t]? = some (.cells #[.pointer none] 208 (0, 0)) := by rw [hba.block t hTl]; exact ht
  have hc := erDisk_any (.iface ty x) a c p ⟨t, 0, none⟩ ⟨w.heap.size, 0, none⟩ (.pointer none) ((w.alloc (.cells #[.pointer (some ⟨t, 0, none⟩)] 209)).alloc (.cells #[.pointer (some ⟨9, 209, none⟩), .pointer (some ⟨w.heap.size, 0, none⟩), .int .u64 150] 264)) B (h.below hba)
    (by rw [World.cell?_alloc_lt _ _ ⟨w.heap.size, 0, none⟩ (by simp)]; simp) (by simp [World.cell?, ht2]) (by simp [World.frozen?, ht2]) hB (by simp; omega)
    (fun b k y hy hk hbt => by subst hk; simp only at hbt; subst hbt; simp [World.cell?, ht2] at hy)
  have hb0 := hba.mono (show B ≤ w.heap.size by omega)
  clear ht2 hba h
  go_enter Tryz.func115, Tryz.ntmps115
  go_wp2_with fail
  refine hc.mono ?_
  rintro e w' ⟨hbw, ⟨hn, rfl⟩ | ⟨b, y, hs, rfl, q1, q2⟩⟩
  · go_wp2_with fail
    go_ret
    exact ⟨hb0.trans hbw, .inl ⟨hn, rfl⟩⟩
  · go_wp2_with fail
    go_ret
    exact ⟨hb0.trans hbw, .inr ⟨b, y, hs, rfl, q1, q2⟩⟩

set_option maxHeartbeats 1000000 in
theorem columnOf_nil (w : World) : Calls Tryz.prog 72 #[.nilIface] w fun e w' => e = .returned (.int .i64 (-1)) ∧ Below w.heap.size w w' := by
  go_enter Tryz.func72, Tryz.ntmps72
  go_wp2_with fail
  refine (as_nil _ _).mono ?_
  rintro e w' ⟨rfl, rfl⟩
  go_wp2_with fail
  go_ret
  exact ⟨rfl, (Below.refl _ _).alloc (Nat.le_refl _) _⟩
set_option maxHeartbeats 1000000 in
theorem columnOf_any (v : Value) (a : Addr) (c p : Option Int) (w : World) (h : Chain w v a c p) (hg : w.cell? ⟨8, 0, none⟩ = some (.iface 294 (.agg #[.pointer (some ⟨9, 94, none⟩)]))) :
    Calls Tryz.prog 72 #[v] w fun e w' => e = .returned (.int .i64 (c.getD (-1))) ∧ Below w.heap.size w w' := by
  have hba : Below w.heap.size w (w.alloc (.cells #[.pointer none] 158)) := (Below.refl _ w).alloc (Nat.le_refl _) _
  have hc := asTab_any v a c p w.heap.size (w.alloc (.cells #[.pointer none] 158)) w.heap.size (h.below hba) (cell_below hba hg) (heap_alloc_new _ _) (Nat.le_refl _)
  go_enter Tryz.func72, Tryz.ntmps72
  go_wp2_with fail
  refine hc.mono ?_
  rintro e w' ⟨hbw, ⟨rfl, rfl⟩ | ⟨b, y, rfl, rfl, q1, q2⟩⟩
  · go_wp2_with fail
    go_ret
    exact ⟨rfl, hba.trans hbw⟩
  · go_wp2_with fail
    go_ret
    exact ⟨rfl, hba.trans hbw⟩

set_option maxHeartbeats 1000000 in
theorem pageOf_nil (w : World) : Calls Tryz.prog 73 #[.nilIface] w fun e w' => e = .returned (.int .i64 (-1)) ∧ Below w.heap.size w w' := by
  go_enter Tryz.func73, Tryz.ntmps73
  go_wp2_with fail
  refine (as_nil _ _).mono ?_
  rintro e w' ⟨rfl, rfl⟩
  go_wp2_with fail
  go_ret
  exact ⟨rfl, (Below.refl _ _).alloc (Nat.le_refl _) _⟩
set_option maxHeartbeats 1000000 in
theorem pageOf_any (v : Value) (a : Addr) (c p : Option Int) (w : World) (h : Chain w v a c p) (hg : w.cell? ⟨8, 0, none⟩ = some (.iface 294 (.agg #[.pointer (some ⟨9, 94, none⟩)]))) :
    Calls Tryz.prog 73 #[v] w fun e w' => e = .returned (.int .i64 (p.getD (-1))) ∧ Below w.heap.size w w' := by
  have hba : Below w.heap.size w (w.alloc (.cells #[.pointer none] 208)) := (Below.refl _ w).alloc (Nat.le_refl _) _
  have hc := asDisk_any v a c p w.heap.size (w.alloc (.cells #[.pointer none] 208)) w.heap.size (h.below hba) (cell_below hba hg) (heap_alloc_new _ _) (Nat.le_refl _)
  go_enter Tryz.func73, Tryz.ntmps73
  go_wp2_with fail
  refine hc.mono ?_
  rintro e w' ⟨hbw, ⟨rfl, rfl⟩ | ⟨b, y, rfl, rfl, q1, q2⟩⟩
  · go_wp2_with fail
    go_ret
    exact ⟨rfl, hba.trans hbw⟩
  · go_wp2_with fail
    go_ret
    exact ⟨rfl, hba.trans hbw⟩
end Go.Proofs.YtgbakmmagkgolaaGreatDoor
