/- The reader's lists of values, more: runs. -/
import Derived.Test.YtfgklnenpichcaaGreatDoorKi
import Derived.Test.YtfgklnenpichcaaGreatDoorKc
namespace Go.Proofs.YtfgklnenpichcaaGreatDoor
open Go.RowKit

/-- So many values in runs, each its length and its value; at most f runs. -/
def rdRunsF (t : Int) : Nat → Nat → List UInt8 → Option (List V × List UInt8)
  | _, 0, bs => some ([], bs)
  | 0, _ + 1, _ => none
  | f + 1, m + 1, bs => match rdByte bs with
    | none => none
    | some (n, r) => if 1 ≤ n ∧ n ≤ m + 1 then match rdValue t r with
        | none => none
        | some (v, r2) => (rdRunsF t f (m + 1 - n) r2).map fun x => (List.replicate n v ++ x.1, x.2)
      else none
/-- So many values in runs. -/
def rdRuns (t : Int) (m : Nat) (bs : List UInt8) : Option (List V × List UInt8) := rdRunsF t m m bs
theorem rdRunsF_zero (t : Int) (f : Nat) (bs : List UInt8) : rdRunsF t f 0 bs = some ([], bs) := by cases f <;> rfl
theorem rdRunsF_eq (t : Int) : ∀ (N m f g : Nat) (bs : List UInt8), m ≤ N → m ≤ f → m ≤ g → rdRunsF t f m bs = rdRunsF t g m bs := by
  intro N
  induction N with
  | zero =>
    intro m f g bs hm _ _
    have : m = 0 := by omega
    subst this
    rw [rdRunsF_zero, rdRunsF_zero]
  | succ N ih =>
    intro m f g bs hm hf hg
    cases m with
    | zero => rw [rdRunsF_zero, rdRunsF_zero]
    | succ m =>
      obtain ⟨f, rfl⟩ : ∃ d, f = d + 1 := ⟨f - 1, by omega⟩
      obtain ⟨g, rfl⟩ : ∃ d, g = d + 1 := ⟨g - 1, by omega⟩
      rw [rdRunsF, rdRunsF]
      cases rdByte bs with
      | none => rfl
      | some x =>
        obtain ⟨n, r⟩ := x
        simp only
        by_cases hn : 1 ≤ n ∧ n ≤ m + 1
        · rw [if_pos hn, if_pos hn]
          cases rdValue t r with
          | none => rfl
          | some y => simp only; rw [ih (m + 1 - n) f g y.2 (by omega) (by omega) (by omega)]
        · rw [if_neg hn, if_neg hn]
theorem rdRuns_zero (t : Int) (bs : List UInt8) : rdRuns t 0 bs = some ([], bs) := rfl
theorem rdRuns_succ (t : Int) (m : Nat) (bs : List UInt8) : rdRuns t (m + 1) bs = match rdByte bs with
    | none => none
    | some (n, r) => if _h : 1 ≤ n ∧ n ≤ m + 1 then match rdValue t r with
        | none => none
        | some (v, r2) => (rdRuns t (m + 1 - n) r2).map fun x => (List.replicate n v ++ x.1, x.2)
      else none := by
  unfold rdRuns
  rw [rdRunsF]
  cases rdByte bs with
  | none => rfl
  | some x =>
    obtain ⟨n, r⟩ := x
    simp only
    by_cases hn : 1 ≤ n ∧ n ≤ m + 1
    · rw [if_pos hn, dif_pos hn]
      cases rdValue t r with
      | none => rfl
      | some y => simp only; rw [rdRunsF_eq t m (m + 1 - n) m (m + 1 - n) y.2 (by omega) (by omega) (Nat.le_refl _)]
    · rw [if_neg hn, dif_neg hn]

theorem own_rkeep {w w' : World} {B g : Nat} {sv : Value} {us : List V} (h : OwnV w B sv us) (hk : RKeep w w' g) (hg : g < B) : OwnV w' B sv us :=
  owns_of_block h fun k hkb => by
    obtain ⟨h1, h2⟩ := owns_block h hkb
    exact hk.block k h2 (by omega)
theorem grown_rkeep {w w1 w2 : World} {g : Nat} {sv : Value} {us : List V} {B : Nat} (h : RKeep w w1 g) (hB : w.heap.size ≤ B) (ho : OwnV w1 B sv us) (hg : w1.grownBy w2 sv.ownBlock) : RKeep w w2 g :=
  ⟨hg.os.trans h.os, hg.tape.trans h.tape, hg.output.trans h.output, Nat.le_trans h.size hg.size, fun j hj hne => (hg.block j (Nat.lt_of_lt_of_le hj h.size) (fun e => by have := (owns_block ho e.symm).1; omega)).trans (h.block j hj hne)⟩
theorem rat_grown {w1 w2 : World} {g : Nat} {t : Int} {bs : List UInt8} {a2 : Addr} {sv : Value} {us : List V} {B : Nat} (h : RAt w1 g t bs a2) (hB : g < B) (ho : OwnV w1 B sv us) (hg : w1.grownBy w2 sv.ownBlock) : RAt w2 g t bs a2 :=
  h.of_block (hg.block _ h.lt (fun e => by have := (owns_block ho e.symm).1; omega)) (hg.block _ (by have := h.lt; have := h.far; omega) (fun e => by have := (owns_block ho e.symm).1; have := h.far; omega))

set_option maxRecDepth 100000 in
set_option maxHeartbeats 2000000 in
theorem runs_any (g : Nat) (t : Int) (bs : List UInt8) (a2 : Addr) (m : Nat) (w : World) (h : RAt w g t bs a2) (ht : t = 1 ∨ t = 2 ∨ t = 3) (hm : m ≤ 64) :
    Calls Tryz.prog 122 #[.pointer (some ⟨g, 0, none⟩), .int .i64 m] w (ROut w g t a2 (rdRuns t m bs) fun vs v w' => ValsR w w' vs v) := by
  have hg := h.lt
  have hfar := h.far
  go_enter Tryz.func122, Tryz.ntmps122
  go_wp2_with fail
  go_loopw [5] (fun sv wr => ∃ (us : List V) (r : List UInt8), us.length ≤ m ∧ OwnV wr w.heap.size sv us ∧ rdRuns t m bs = (rdRuns t (m - us.length) r).map (fun x => (us ++ x.1, x.2)) ∧ RAt wr g t r a2 ∧ RKeep w wr g) (fun sv _ => m - slen sv)
  case atStart => exact ⟨[], bs, by simp, OwnV.nil _ _, by simp, h, RKeep.refl _ _⟩
  case round =>
    obtain ⟨us, r, hus, hown, hsp, hA, hkeep⟩ := hrel
    obtain ⟨a, cap, rfl, hvals⟩ := hown.vals
    have HSP : Hid _ := hsp
    clear hsp
    by_cases hlt : us.length < m
    · obtain ⟨d, hd⟩ : ∃ d, m - us.length = d + 1 := ⟨m - us.length - 1, by omega⟩
      have HD : Hid (m - us.length = d + 1) := hd
      clear hd
      have hs := small_any g t r a2 wr hA
      go_wp2_with fail
      refine hs.mono ?_
      rintro e w1 ⟨hk1, ⟨hr, rfl⟩ | ⟨n, r1, v, hr, rfl, rfl, hA1⟩⟩
      · go_wp2_with fail
        refine ⟨rfl, ROut.up (hkeep.trans hk1) ?_⟩
        rw [HSP.out, HD.out, rdRuns_succ, hr]
        rfl
      · clear hs
        have hn256 := rdByte_lt hr
        have HR : Hid _ := hr
        clear hr
        by_cases hn : 1 ≤ n ∧ n ≤ d + 1
        · have hn1 : ((1 : Int) ≤ (n : Int)) := by omega
          have hn2 : ((n : Int) ≤ (m : Int) - (us.length : Int)) := by have := HD.out; omega
          go_wp2_with fail
          refine (need_true _).mono ?_
          rintro e w' ⟨rfl, rfl⟩
          have hvl := value_any g t r1 a2 w' hA1 ht
          go_wp2_with fail
          refine hvl.mono ?_
          rintro e w2 ⟨hk2, ⟨hr2, rfl⟩ | ⟨x, r2, v, hr2, rfl, rfl, hA2⟩⟩
          · go_wp2_with fail
            refine ⟨rfl, ROut.up ((hkeep.trans hk1).trans hk2) ?_⟩
            rw [HSP.out, HD.out, rdRuns_succ, HR.out]
            simp only [hr2, hn, and_self, dite_true, Option.map_none]
          · clear hvl
            have HN : Hid (rdRuns t m bs = (rdRuns t (d + 1 - n) r2).map (fun y => (us ++ (List.replicate n x ++ y.1), y.2))) := by
              show _ = _
              rw [HSP.out, HD.out, rdRuns_succ, HR.out]
              simp only [hr2, hn, and_self, dite_true, Option.map_map]
              rfl
            have hown2 := (own_rkeep (own_rkeep hown hk1 hg) hk2 hg)
            have hkeep2 := (hkeep.trans hk1).trans hk2
            have hsz2 := hkeep2.size
            have hnb : (Value.slice a us.length cap).ownBlock ≠ some w2.heap.size := fun e => by have := (owns_block hown2 e).2; omega
            clear hvals hown hk1 hk2 hA1 hA hkeep hr2
            go_wp2_with fail
            obtain ⟨VB, hVB⟩ : ∃ VB, VB = w2.heap.size := ⟨_, rfl⟩
            have hva : VAt (w2.alloc (.cells #[.int .i64 x.k, .int .i64 x.n, .string x.s] 36)) VB 0 x := by
              rw [hVB]
              refine ⟨?_, ?_, ?_⟩ <;> simp
            have hwV : w.heap.size ≤ VB := by omega
            have hwV2 : VB < (w2.alloc (.cells #[.int .i64 x.k, .int .i64 x.n, .string x.s] 36)).heap.size := by simp; omega
            have hown3 := hown2.alloc (.cells #[.int .i64 x.k, .int .i64 x.n, .string x.s] 36)
            have hA3 := hA2.alloc (.cells #[.int .i64 x.k, .int .i64 x.n, .string x.s] 36)
            have hkeep3 := hkeep2.alloc (.cells #[.int .i64 x.k, .int .i64 x.n, .string x.s] 36)
            rw [← hVB]
            rw [← hVB] at hnb
            generalize w2.alloc (.cells #[.int .i64 x.k, .int .i64 x.n, .string x.s] 36) = w3 at *
            clear hVB hown2 hA2 hkeep2 hsz2
            go_loopw [5, 28] (fun sv i wr2 => ∃ k : Nat, k ≤ n ∧ i = .int .i64 k ∧ OwnV wr2 w.heap.size sv (us ++ List.replicate k x) ∧ RAt wr2 g t r2 a2 ∧ RKeep w wr2 g ∧ VAt wr2 VB 0 x ∧ VB < wr2.heap.size ∧ sv.ownBlock ≠ some VB) (fun _ i _ => n - (intOf i).toNat)
            case atStart => exact ⟨0, by omega, rfl, by simpa using hown3, hA3, hkeep3, hva, hwV2, hnb⟩
            case round =>
              clear hown3 hA3 hkeep3 hva hwV2 hnb
              obtain ⟨k, hk, rfl, hown, hA, hkp, hva, hVl, hnb⟩ := hrel
              by_cases hlk : k < n
              · obtain ⟨y1, y2, y3⟩ := hva
                have hul : (us ++ List.replicate k x).length ≤ 64 + 256 := by rw [List.length_append, List.length_replicate]; omega
                have hts : us ++ List.replicate (k + 1) x = (us ++ List.replicate k x) ++ [x] := by rw [List.replicate_succ', List.append_assoc]
                have HTS : Hid _ := hts
                clear hts
                generalize us ++ List.replicate k x = uk at *
                have hszr := hkp.size
                go_wp2_with (at_builtin; refine wpList_append_V (by rfl) _ _ (by rfl) w.heap.size _ uk (by rfl) (hown.alloc _) _ _ x (by rfl) (by refine ⟨?_, ?_, ?_⟩ <;> simp) (by omega) (by simp; omega) ?_; intro sv' w4 h1 h2 h3)
                go_roundw
                case rel =>
                  have hval : VAt w4 VB 0 x := by
                    refine VAt.of_block (w := _) (VAt.of_block (w := _) ⟨y1, y2, y3⟩ (Below.heap_alloc _ _ VB hVl)) (h2.block VB (by simp; omega) (Ne.symm hnb))
                  refine ⟨k + 1, by omega, by go_num, by rw [HTS.out]; exact h1, rat_grown (hA.alloc _) hg (hown.alloc _) h2, grown_rkeep (hkp.alloc _) (Nat.le_refl _) (hown.alloc _) h2, hval, ?_, ?_⟩
                  · have := h2.size
                    simp at this
                    omega
                  · rcases h3 with e | e
                    · rw [e]; exact hnb
                    · rw [e]
                      intro e2
                      simp at e2
                      omega
                case measure => simp [intOf]; omega
              · have hke : k = n := by omega
                subst hke
                obtain ⟨a', cap', rfl, hv'⟩ := hown.vals
                have hll : (us ++ List.replicate k x).length = us.length + k := by simp
                go_wp2
                go_roundw
                case rel =>
                  refine ⟨us ++ List.replicate k x, r2, by rw [hll]; have := HD.out; omega, hown, ?_, hA, hkp⟩
                  have e : m - (us ++ List.replicate k x).length = d + 1 - k := by rw [hll]; have := HD.out; omega
                  rw [HN.out, e]
                  simp only [List.append_assoc]
                case measure =>
                  have := HD.out
                  simp [slen]
                  omega
        · have hbad : ¬ (((1 : Int) ≤ (n : Int)) ∧ ((n : Int) ≤ (m : Int) - (us.length : Int))) := by have := HD.out; omega
          have HNONE : Hid (rdRuns t m bs = none) := by
            show _ = _
            rw [HSP.out, HD.out, rdRuns_succ, HR.out]
            simp only [hn, dite_false, Option.map_none]
          by_cases h1 : (1 : Int) ≤ (n : Int)
          · have h2 : ¬ ((n : Int) ≤ (m : Int) - (us.length : Int)) := by omega
            go_wp2_with fail
            rw [show decide ((n : Int) ≤ (m : Int) - (us.length : Int)) = false from decide_eq_false (by omega)]
            refine (need_false a2 _ hA1.form).mono ?_
            rintro e w' ⟨rfl, rfl⟩
            go_wp2_with fail
            exact ⟨rfl, ROut.up (hkeep.trans hk1) HNONE.out⟩
          · go_wp2_with fail
            refine (need_false a2 _ hA1.form).mono ?_
            rintro e w' ⟨rfl, rfl⟩
            go_wp2_with fail
            exact ⟨rfl, ROut.up (hkeep.trans hk1) HNONE.out⟩
    · have hke : us.length = m := by omega
      go_wp2_with fail
      go_ret
      refine ROut.ok (x := us) (rest := r) hkeep ?_ ⟨a, cap, rfl, hvals, fun b o e => ?_⟩ hA
      · rw [HSP.out, hke, Nat.sub_self, rdRuns_zero]
        simp
      · have e2 : (Value.slice a us.length cap).ownBlock = some b := by rw [e]; rfl
        exact (owns_block hown e2).1
end Go.Proofs.YtfgklnenpichcaaGreatDoor

/-! The reader's head, its table of ways, and all values of a segment. -/
namespace Go.Proofs.YtfgklnenpichcaaGreatDoor
open Go.RowKit

set_option maxHeartbeats 400000 in
theorem rWays_any (g : Nat) (w : World) :
    Calls Tryz.prog 96 #[.pointer (some ⟨g, 0, none⟩)] w fun e w' => e = .returned (.agg #[.func (.func 120) #[.pointer (some ⟨g, 0, none⟩)] #[], .func (.func 121) #[.pointer (some ⟨g, 0, none⟩)] #[], .func (.func 122) #[.pointer (some ⟨g, 0, none⟩)] #[], .func (.func 123) #[.pointer (some ⟨g, 0, none⟩)] #[]]) ∧ Below w.heap.size w w' := by
  have hone : ∀ (W : World) (a : Addr) f x c, (store a (.func f x c)).run Tryz.prog W = match W.cell? a with
      | some _ => if W.frozen? a then .halt (.unsupported (.unsafePointer "a write to bytes that a string shares")) W else .ok () (W.setCell a (.func f x c))
      | none => match W.farStore Tryz.prog a (.func f x c) (Mode.plain == .atomic) with
        | .ok (w', _) => .ok () w'
        | .error h => .halt h W := fun W a f x c => run_store Tryz.prog W a (.func f x c) .plain rfl
  go_enter Tryz.func96, Tryz.ntmps96
  go_wp2
  exact bodyPost_ret (v := .agg #[.func (.func 120) #[.pointer (some ⟨g, 0, none⟩)] #[], .func (.func 121) #[.pointer (some ⟨g, 0, none⟩)] #[], .func (.func 122) #[.pointer (some ⟨g, 0, none⟩)] #[], .func (.func 123) #[.pointer (some ⟨g, 0, none⟩)] #[]]) (by simp [results, Tryz.results96, go_sem]) rfl ⟨rfl, (Below.refl _ _).alloc (Nat.le_refl _) _⟩

theorem size_rwayfn : (Tryz.prog.info? 175).map (fun i => i.size) = some 1 := by kernel_rfl
theorem run_index_rways (x0 x1 x2 x3 : Value) (w : World) :
    (Instr.index 176 (.agg #[x0, x1, x2, x3]) (.int .i64 0)).run Tryz.prog w = .ok x0 w ∧
    (Instr.index 176 (.agg #[x0, x1, x2, x3]) (.int .i64 1)).run Tryz.prog w = .ok x1 w ∧
    (Instr.index 176 (.agg #[x0, x1, x2, x3]) (.int .i64 2)).run Tryz.prog w = .ok x2 w ∧
    (Instr.index 176 (.agg #[x0, x1, x2, x3]) (.int .i64 3)).run Tryz.prog w = .ok x3 w := by
  obtain ⟨i, hi, hs⟩ := Option.map_eq_some_iff.1 size_rwayfn
  refine ⟨?_, ?_, ?_, ?_⟩ <;> simp [Instr.index, run_underlying Tryz.underlying176, run_underlying Tryz.underlying175, asIntOf, part, isAgg, sizeOf, typeInfo, hi, hs]

/-- The type, the way and how many. -/
def rdHead : List UInt8 → Option ((Nat × Nat × Nat) × List UInt8)
  | b0 :: b1 :: b2 :: r => if way (b0.toNat : Int) (b1.toNat : Int) = true ∧ b2.toNat ≤ 64 then some ((b0.toNat, b1.toNat, b2.toNat), r) else none
  | _ => none

set_option maxRecDepth 100000 in
set_option maxHeartbeats 1000000 in
theorem head_any (g : Nat) (t0 : Int) (bs : List UInt8) (a2 : Addr) (w : World) (h : RAt w g t0 bs a2) :
    Calls Tryz.prog 66 #[.pointer (some ⟨g, 0, none⟩)] w fun e w' => RKeep w w' g ∧ ((rdHead bs = none ∧ e = gaveUp a2) ∨ ∃ t how n rest, rdHead bs = some ((t, how, n), rest) ∧ e = .returned (.tuple #[.int .i64 (how : Nat), .int .i64 (n : Nat)]) ∧ RAt w' g (t : Nat) rest a2) := by
  have hs1 := small_any g t0 bs a2 w h
  go_enter Tryz.func66, Tryz.ntmps66
  go_wp2_with fail
  refine hs1.mono ?_
  rintro e w1 ⟨hk1, ⟨hr1, rfl⟩ | ⟨n0, r1, v, hr1, rfl, rfl, hA1⟩⟩
  · go_wp2_with fail
    refine ⟨rfl, hk1, .inl ⟨?_, rfl⟩⟩
    cases bs with
    | nil => rfl
    | cons b r => simp [rdByte] at hr1
  · cases bs with
    | nil => simp [rdByte] at hr1
    | cons b0 r0 =>
      simp [rdByte] at hr1
      obtain ⟨rfl, rfl⟩ := hr1
      clear hs1
      have c0 := hA1.typ
      have c1 := hA1.thaw 0
      have hA1' := hA1.setTyp (t' := (b0.toNat : Int))
      have hk1' := hk1.trans (RKeep.set w1 g 0 (.int .i64 (b0.toNat : Int)))
      have hb0 := b0.toNat_lt
      have hs2 := small_any g _ r0 a2 _ hA1'
      go_wp2_with fail
      refine hs2.mono ?_
      rintro e w2 ⟨hk2, ⟨hr2, rfl⟩ | ⟨n1, r1, v, hr2, rfl, rfl, hA2⟩⟩
      · go_wp2_with fail
        refine ⟨rfl, hk1'.trans hk2, .inl ⟨?_, rfl⟩⟩
        cases r0 with
        | nil => rfl
        | cons b r => simp [rdByte] at hr2
      · cases r0 with
        | nil => simp [rdByte] at hr2
        | cons b1 r0 =>
          simp [rdByte] at hr2
          obtain ⟨rfl, rfl⟩ := hr2
          clear hs2
          have hk12 := hk1'.trans hk2
          clear hk1 hk1' hA1 hA1' c0 c1 hk2
          have hb1 := b1.toNat_lt
          have hs3 := small_any g _ r0 a2 _ hA2
          go_wp2_with fail
          refine hs3.mono ?_
          rintro e w3 ⟨hk3, ⟨hr3, rfl⟩ | ⟨n2, r2, v, hr3, rfl, rfl, hA3⟩⟩
          · go_wp2_with fail
            refine ⟨rfl, hk12.trans hk3, .inl ⟨?_, rfl⟩⟩
            cases r0 with
            | nil => rfl
            | cons b r => simp [rdByte] at hr3
          · cases r0 with
            | nil => simp [rdByte] at hr3
            | cons b2 r0 =>
              simp [rdByte] at hr3
              obtain ⟨rfl, rfl⟩ := hr3
              clear hs3
              have hk := hk12.trans hk3
              clear hk12 hk3 hA2
              have c0 := hA3.typ
              have HS : Hid (rdHead (b0 :: b1 :: b2 :: r0) = if way (b0.toNat : Int) (b1.toNat : Int) = true ∧ b2.toNat ≤ 64 then some ((b0.toNat, b1.toNat, b2.toNat), r0) else none) := rfl
              have hb2 := b2.toNat_lt
              generalize b0.toNat = t at *
              generalize b1.toNat = how at *
              generalize b2.toNat = n at *
              go_wp2_with fail
              refine (canBe_any _ _ _).mono ?_
              rintro e w' ⟨rfl, hw'⟩
              subst w'
              cases hway : way (t : Int) (how : Int) with
              | false =>
                go_wp2_with fail
                refine (need_false a2 _ hA3.form).mono ?_
                rintro e w' ⟨rfl, rfl⟩
                go_wp2_with fail
                refine ⟨rfl, hk, .inl ⟨?_, rfl⟩⟩
                rw [HS.out, hway]; simp
              | true =>
                by_cases hn : n ≤ 64
                · have hnI : ((n : Int) ≤ 64) := by omega
                  go_wp2_with fail
                  refine (need_true _).mono ?_
                  rintro e w' ⟨rfl, rfl⟩
                  go_wp2_with fail
                  go_ret2
                  refine ⟨hk, .inr ⟨t, how, n, r0, ?_, rfl, hA3⟩⟩
                  rw [HS.out, hway, if_pos ⟨rfl, hn⟩]
                · go_wp2_with fail
                  rw [show decide ((n : Int) ≤ 64) = false from decide_eq_false (by omega)]
                  refine (need_false a2 _ hA3.form).mono ?_
                  rintro e w' ⟨rfl, rfl⟩
                  go_wp2_with fail
                  refine ⟨rfl, hk, .inl ⟨?_, rfl⟩⟩
                  rw [HS.out, if_neg (fun hh => hn hh.2)]

/-- So many values in one of the ways. -/
def rdBody (t how : Int) (m : Nat) (bs : List UInt8) : Option (List V × List UInt8) :=
  if how = 0 then rdMany t m bs else if how = 1 then rdDict t m bs else if how = 2 then rdRuns t m bs else rdPacked t m bs
/-- All values of a segment. -/
def rdVals (t how : Int) (n : Nat) (bs : List UInt8) : Option (List V × List UInt8) :=
  match rdFields 1 n bs with
  | none => none
  | some (hs, r) => (rdBody t how (ones hs) r).map fun x => (among hs x.1, x.2)

theorem rdRuns_length (t : Int) : ∀ (N m : Nat) (bs rest : List UInt8) (vs : List V), m ≤ N → rdRuns t m bs = some (vs, rest) → vs.length = m := by
  intro N
  induction N with
  | zero =>
    intro m bs rest vs hm h
    have : m = 0 := by omega
    subst this
    rw [rdRuns_zero] at h
    simp at h
    simp [h.1.symm]
  | succ N ih =>
    intro m bs rest vs hm h
    cases m with
    | zero => rw [rdRuns_zero] at h; simp at h; simp [h.1.symm]
    | succ m =>
      rw [rdRuns_succ] at h
      cases hb : rdByte bs with
      | none => rw [hb] at h; simp at h
      | some x =>
        obtain ⟨n, r⟩ := x
        rw [hb] at h
        simp only at h
        split at h
        · rename_i hn
          cases hv : rdValue t r with
          | none => rw [hv] at h; simp at h
          | some y =>
            obtain ⟨v, r2⟩ := y
            rw [hv] at h
            obtain ⟨z, hz, e⟩ := Option.map_eq_some_iff.1 h
            simp only [Prod.mk.injEq] at e
            have := ih (m + 1 - n) r2 z.2 z.1 (by omega) hz
            rw [← e.1, List.length_append, List.length_replicate, this]
            omega
        · simp at h
theorem rdBody_length {t how : Int} {m : Nat} {bs rest : List UInt8} {vs : List V} (h : rdBody t how m bs = some (vs, rest)) : vs.length = m := by
  unfold rdBody at h
  split at h
  · exact rdMany_length t m bs rest vs h
  · split at h
    · unfold rdDict at h
      split at h
      · simp at h
      · split at h
        · simp at h
        · split at h
          · simp at h
          · rename_i ks r3 hf
            split at h
            · simp at h
              rw [← h.1, List.length_map]
              exact rdFields_length hf
            · simp at h
    · split at h
      · exact rdRuns_length t m m bs rest vs (Nat.le_refl _) h
      · unfold rdPacked at h
        split at h
        · obtain ⟨z, hz, e⟩ := Option.map_eq_some_iff.1 h
          simp only [Prod.mk.injEq] at e
          rw [← e.1, List.length_map]
          exact rdFields_length hz
        · split at h
          · rename_i h0
            simp at h
            rw [h.1, h0]
            rfl
          · split at h
            · simp at h
            · split at h
              · simp at h
              · split at h
                · obtain ⟨z, hz, e⟩ := Option.map_eq_some_iff.1 h
                  simp only [Prod.mk.injEq] at e
                  rw [← e.1, List.length_map]
                  exact rdFields_length hz
                · simp at h

theorem ones_le (l : List Nat) : ones l ≤ l.length := by
  induction l with
  | nil => simp [ones]
  | cons x l ih => simp only [ones, List.length_cons]; split <;> omega

end Go.Proofs.YtfgklnenpichcaaGreatDoor

/-! All values of a segment, in each of the four ways. -/
namespace Go.Proofs.YtfgklnenpichcaaGreatDoor
open Go.RowKit

theorem one_of (q : Nat) (h : q < 2) : (if q = 1 then 1 else 0) = q := by split <;> omega

set_option maxRecDepth 100000 in
set_option maxHeartbeats 4000000 in
theorem values_plain (g : Nat) (t : Int) (n : Nat) (bs : List UInt8) (a2 : Addr) (w : World) (h : RAt w g t bs a2) (ht : t = 1 ∨ t = 2 ∨ t = 3) (hn : n ≤ 64) :
    Calls Tryz.prog 67 #[.pointer (some ⟨g, 0, none⟩), .int .i64 0, .int .i64 n] w (ROut w g t a2 (rdVals t 0 n bs) fun vs v w' => ValsAt w w' vs v) := by
  have hg := h.lt
  have hfar := h.far
  have hf := fields_any g t bs a2 1 n w h (by omega) hn
  go_enter Tryz.func67, Tryz.ntmps67
  go_wp2_with fail
  refine hf.mono ?_
  rintro e w1 ⟨hk1, ⟨hr1, rfl⟩ | ⟨hs, r2, v, hr1, rfl, ⟨b, rfl, hb, hc⟩, hA1⟩⟩
  · go_wp2_with fail
    exact ⟨rfl, ROut.up hk1 (by simp [rdVals, hr1])⟩
  · have hhl := rdFields_length hr1
    have hh2 := fields_lt hr1
    have hole := ones_le hs
    have HSP : Hid (rdVals t 0 n bs = (rdBody t 0 (ones hs) r2).map fun x => (among hs x.1, x.2)) := by show _ = _; simp only [rdVals, hr1]
    have HHL : Hid (hs.length = n) := hhl
    have HLB : Hid (hs.length ≤ 64) := by show _ ≤ _; omega
    clear hf hr1 hhl
    go_wp2_with fail
    go_loopw [8, 16] (fun mm i wr => ∃ k : Nat, k ≤ hs.length ∧ i = .int .i64 k ∧ mm = .int .i64 (ones (hs.take k) : Nat) ∧ wr = w1) (fun _ i _ => hs.length - (intOf i).toNat)
    case atStart => exact ⟨0, by omega, rfl, rfl, rfl⟩
    case round =>
      obtain ⟨k, hk, rfl, rfl, rfl⟩ := hrel
      by_cases hlt : k < hs.length
      · have hlb := HLB.out
        obtain ⟨b1, o1, e1, hb1, x1⟩ := hc.at (i := k) (by simpa using hlt)
        simp only [Option.some.injEq, Addr.mk.injEq] at e1
        obtain ⟨rfl, rfl, _⟩ := e1
        rw [List.getElem_map, Nat.zero_add] at x1
        unfold uv at x1
        have hos := ones_snoc (hs.take k) hs[k]
        rw [← List.take_succ_eq_append_getElem hlt] at hos
        have hq := hh2 _ (List.getElem_mem hlt)
        have hole2 := ones_take_le hs k
        generalize hs[k] = q at *
        have hq2 : q < 2 := hq
        have hq1 := one_of q hq2
        have hp64 : ones (hs.take k) ≤ 64 := Nat.le_trans hole2 (Nat.le_trans hole hlb)
        clear hq
        rw [hq1] at hos
        have HOS : Hid _ := hos
        clear hos hq1
        generalize ones (hs.take k) = p at *
        go_wp2
        go_roundw
        case rel =>
          refine ⟨k + 1, by omega, by go_num, ?_, trivial⟩
          rw [HOS.out]
          go_num
        case measure => simp [intOf]; omega
      · have hke : k = hs.length := by omega
        subst hke
        rw [List.take_length]
        have hlb := HLB.out
        go_wp2_with fail
        refine (rWays_any g wr).mono ?_
        rintro e w3 ⟨rfl, hb3⟩
        have hA3 := hA1.below hb3
        have hc3 := hc.below hb3
        have hk3 := hk1.trans (RKeep.of_below hb3 g)
        have hix := (run_index_rways (.func (.func 120) #[.pointer (some ⟨g, 0, none⟩)] #[]) (.func (.func 121) #[.pointer (some ⟨g, 0, none⟩)] #[]) (.func (.func 122) #[.pointer (some ⟨g, 0, none⟩)] #[]) (.func (.func 123) #[.pointer (some ⟨g, 0, none⟩)] #[]) w3).1
        have hbd := plain_any g t r2 a2 (ones hs) w3 hA3 ht (by omega)
        have HB : Hid (rdBody t 0 (ones hs) r2 = rdMany t (ones hs) r2) := rfl
        go_wp2_with fail
        refine hbd.mono ?_
        rintro e w4 ⟨hk4, ⟨hr4, rfl⟩ | ⟨vs, rest, v, hr4, rfl, hv4, hA4⟩⟩
        · go_wp2_with fail
          exact ⟨rfl, ROut.up (hk3.trans hk4) (by rw [HSP.out, HB.out, hr4]; rfl)⟩
        · have hvl := rdBody_length (HB.out.trans hr4)
          obtain ⟨a, cap, rfl, hva, hab⟩ := hv4.toR
          have hcb := cells_rkeep hc3 hk4 (by omega)
          clear hbd hix
          have ham := among_any b hs a cap hs.length vs w4 hlb hh2 (by omega) (by omega) hcb hva
          have HF : Hid (rdVals t 0 n bs = some (among hs vs, rest)) := by show _ = _; rw [HSP.out, HB.out, hr4]; rfl
          clear hr4 hvl
          go_wp2_with fail
          refine ham.mono ?_
          rintro e w5 ⟨⟨v, rfl, hv5⟩, hb5⟩
          have hs5 := (hk3.trans hk4).size
          go_wp2_with fail
          go_ret
          obtain ⟨bb, rfl, hbb, hrow⟩ := hv5
          exact ROut.ok ((hk3.trans hk4).trans (RKeep.of_below hb5 g)) HF.out ⟨bb, rfl, Nat.le_trans hs5 hbb, hrow⟩ (hA4.below hb5)

set_option maxRecDepth 100000 in
set_option maxHeartbeats 4000000 in
theorem values_dict (g : Nat) (t : Int) (n : Nat) (bs : List UInt8) (a2 : Addr) (w : World) (h : RAt w g t bs a2) (ht : t = 1 ∨ t = 2 ∨ t = 3) (hn : n ≤ 64) :
    Calls Tryz.prog 67 #[.pointer (some ⟨g, 0, none⟩), .int .i64 1, .int .i64 n] w (ROut w g t a2 (rdVals t 1 n bs) fun vs v w' => ValsAt w w' vs v) := by
  have hg := h.lt
  have hfar := h.far
  have hf := fields_any g t bs a2 1 n w h (by omega) hn
  go_enter Tryz.func67, Tryz.ntmps67
  go_wp2_with fail
  refine hf.mono ?_
  rintro e w1 ⟨hk1, ⟨hr1, rfl⟩ | ⟨hs, r2, v, hr1, rfl, ⟨b, rfl, hb, hc⟩, hA1⟩⟩
  · go_wp2_with fail
    exact ⟨rfl, ROut.up hk1 (by simp [rdVals, hr1])⟩
  · have hhl := rdFields_length hr1
    have hh2 := fields_lt hr1
    have hole := ones_le hs
    have HSP : Hid (rdVals t 1 n bs = (rdBody t 1 (ones hs) r2).map fun x => (among hs x.1, x.2)) := by show _ = _; simp only [rdVals, hr1]
    have HHL : Hid (hs.length = n) := hhl
    have HLB : Hid (hs.length ≤ 64) := by show _ ≤ _; omega
    clear hf hr1 hhl
    go_wp2_with fail
    go_loopw [8, 16] (fun mm i wr => ∃ k : Nat, k ≤ hs.length ∧ i = .int .i64 k ∧ mm = .int .i64 (ones (hs.take k) : Nat) ∧ wr = w1) (fun _ i _ => hs.length - (intOf i).toNat)
    case atStart => exact ⟨0, by omega, rfl, rfl, rfl⟩
    case round =>
      obtain ⟨k, hk, rfl, rfl, rfl⟩ := hrel
      by_cases hlt : k < hs.length
      · have hlb := HLB.out
        obtain ⟨b1, o1, e1, hb1, x1⟩ := hc.at (i := k) (by simpa using hlt)
        simp only [Option.some.injEq, Addr.mk.injEq] at e1
        obtain ⟨rfl, rfl, _⟩ := e1
        rw [List.getElem_map, Nat.zero_add] at x1
        unfold uv at x1
        have hos := ones_snoc (hs.take k) hs[k]
        rw [← List.take_succ_eq_append_getElem hlt] at hos
        have hq := hh2 _ (List.getElem_mem hlt)
        have hole2 := ones_take_le hs k
        generalize hs[k] = q at *
        have hq2 : q < 2 := hq
        have hq1 := one_of q hq2
        have hp64 : ones (hs.take k) ≤ 64 := Nat.le_trans hole2 (Nat.le_trans hole hlb)
        clear hq
        rw [hq1] at hos
        have HOS : Hid _ := hos
        clear hos hq1
        generalize ones (hs.take k) = p at *
        go_wp2
        go_roundw
        case rel =>
          refine ⟨k + 1, by omega, by go_num, ?_, trivial⟩
          rw [HOS.out]
          go_num
        case measure => simp [intOf]; omega
      · have hke : k = hs.length := by omega
        subst hke
        rw [List.take_length]
        have hlb := HLB.out
        go_wp2_with fail
        refine (rWays_any g wr).mono ?_
        rintro e w3 ⟨rfl, hb3⟩
        have hA3 := hA1.below hb3
        have hc3 := hc.below hb3
        have hk3 := hk1.trans (RKeep.of_below hb3 g)
        have hix := (run_index_rways (.func (.func 120) #[.pointer (some ⟨g, 0, none⟩)] #[]) (.func (.func 121) #[.pointer (some ⟨g, 0, none⟩)] #[]) (.func (.func 122) #[.pointer (some ⟨g, 0, none⟩)] #[]) (.func (.func 123) #[.pointer (some ⟨g, 0, none⟩)] #[]) w3).2.1
        have hbd := dictionary_any g t r2 a2 (ones hs) w3 hA3 ht (by omega)
        have HB : Hid (rdBody t 1 (ones hs) r2 = rdDict t (ones hs) r2) := rfl
        go_wp2_with fail
        refine hbd.mono ?_
        rintro e w4 ⟨hk4, ⟨hr4, rfl⟩ | ⟨vs, rest, v, hr4, rfl, hv4, hA4⟩⟩
        · go_wp2_with fail
          exact ⟨rfl, ROut.up (hk3.trans hk4) (by rw [HSP.out, HB.out, hr4]; rfl)⟩
        · have hvl := rdBody_length (HB.out.trans hr4)
          obtain ⟨a, cap, rfl, hva, hab⟩ := hv4.toR
          have hcb := cells_rkeep hc3 hk4 (by omega)
          clear hbd hix
          have ham := among_any b hs a cap hs.length vs w4 hlb hh2 (by omega) (by omega) hcb hva
          have HF : Hid (rdVals t 1 n bs = some (among hs vs, rest)) := by show _ = _; rw [HSP.out, HB.out, hr4]; rfl
          clear hr4 hvl
          go_wp2_with fail
          refine ham.mono ?_
          rintro e w5 ⟨⟨v, rfl, hv5⟩, hb5⟩
          have hs5 := (hk3.trans hk4).size
          go_wp2_with fail
          go_ret
          obtain ⟨bb, rfl, hbb, hrow⟩ := hv5
          exact ROut.ok ((hk3.trans hk4).trans (RKeep.of_below hb5 g)) HF.out ⟨bb, rfl, Nat.le_trans hs5 hbb, hrow⟩ (hA4.below hb5)

set_option maxRecDepth 100000 in
set_option maxHeartbeats 4000000 in
theorem values_runs (g : Nat) (t : Int) (n : Nat) (bs : List UInt8) (a2 : Addr) (w : World) (h : RAt w g t bs a2) (ht : t = 1 ∨ t = 2 ∨ t = 3) (hn : n ≤ 64) :
    Calls Tryz.prog 67 #[.pointer (some ⟨g, 0, none⟩), .int .i64 2, .int .i64 n] w (ROut w g t a2 (rdVals t 2 n bs) fun vs v w' => ValsAt w w' vs v) := by
  have hg := h.lt
  have hfar := h.far
  have hf := fields_any g t bs a2 1 n w h (by omega) hn
  go_enter Tryz.func67, Tryz.ntmps67
  go_wp2_with fail
  refine hf.mono ?_
  rintro e w1 ⟨hk1, ⟨hr1, rfl⟩ | ⟨hs, r2, v, hr1, rfl, ⟨b, rfl, hb, hc⟩, hA1⟩⟩
  · go_wp2_with fail
    exact ⟨rfl, ROut.up hk1 (by simp [rdVals, hr1])⟩
  · have hhl := rdFields_length hr1
    have hh2 := fields_lt hr1
    have hole := ones_le hs
    have HSP : Hid (rdVals t 2 n bs = (rdBody t 2 (ones hs) r2).map fun x => (among hs x.1, x.2)) := by show _ = _; simp only [rdVals, hr1]
    have HHL : Hid (hs.length = n) := hhl
    have HLB : Hid (hs.length ≤ 64) := by show _ ≤ _; omega
    clear hf hr1 hhl
    go_wp2_with fail
    go_loopw [8, 16] (fun mm i wr => ∃ k : Nat, k ≤ hs.length ∧ i = .int .i64 k ∧ mm = .int .i64 (ones (hs.take k) : Nat) ∧ wr = w1) (fun _ i _ => hs.length - (intOf i).toNat)
    case atStart => exact ⟨0, by omega, rfl, rfl, rfl⟩
    case round =>
      obtain ⟨k, hk, rfl, rfl, rfl⟩ := hrel
      by_cases hlt : k < hs.length
      · have hlb := HLB.out
        obtain ⟨b1, o1, e1, hb1, x1⟩ := hc.at (i := k) (by simpa using hlt)
        simp only [Option.some.injEq, Addr.mk.injEq] at e1
        obtain ⟨rfl, rfl, _⟩ := e1
        rw [List.getElem_map, Nat.zero_add] at x1
        unfold uv at x1
        have hos := ones_snoc (hs.take k) hs[k]
        rw [← List.take_succ_eq_append_getElem hlt] at hos
        have hq := hh2 _ (List.getElem_mem hlt)
        have hole2 := ones_take_le hs k
        generalize hs[k] = q at *
        have hq2 : q < 2 := hq
        have hq1 := one_of q hq2
        have hp64 : ones (hs.take k) ≤ 64 := Nat.le_trans hole2 (Nat.le_trans hole hlb)
        clear hq
        rw [hq1] at hos
        have HOS : Hid _ := hos
        clear hos hq1
        generalize ones (hs.take k) = p at *
        go_wp2
        go_roundw
        case rel =>
          refine ⟨k + 1, by omega, by go_num, ?_, trivial⟩
          rw [HOS.out]
          go_num
        case measure => simp [intOf]; omega
      · have hke : k = hs.length := by omega
        subst hke
        rw [List.take_length]
        have hlb := HLB.out
        go_wp2_with fail
        refine (rWays_any g wr).mono ?_
        rintro e w3 ⟨rfl, hb3⟩
        have hA3 := hA1.below hb3
        have hc3 := hc.below hb3
        have hk3 := hk1.trans (RKeep.of_below hb3 g)
        have hix := (run_index_rways (.func (.func 120) #[.pointer (some ⟨g, 0, none⟩)] #[]) (.func (.func 121) #[.pointer (some ⟨g, 0, none⟩)] #[]) (.func (.func 122) #[.pointer (some ⟨g, 0, none⟩)] #[]) (.func (.func 123) #[.pointer (some ⟨g, 0, none⟩)] #[]) w3).2.2.1
        have hbd := runs_any g t r2 a2 (ones hs) w3 hA3 ht (by omega)
        have HB : Hid (rdBody t 2 (ones hs) r2 = rdRuns t (ones hs) r2) := rfl
        go_wp2_with fail
        refine hbd.mono ?_
        rintro e w4 ⟨hk4, ⟨hr4, rfl⟩ | ⟨vs, rest, v, hr4, rfl, hv4, hA4⟩⟩
        · go_wp2_with fail
          exact ⟨rfl, ROut.up (hk3.trans hk4) (by rw [HSP.out, HB.out, hr4]; rfl)⟩
        · have hvl := rdBody_length (HB.out.trans hr4)
          obtain ⟨a, cap, rfl, hva, hab⟩ := hv4
          have hcb := cells_rkeep hc3 hk4 (by omega)
          clear hbd hix
          have ham := among_any b hs a cap hs.length vs w4 hlb hh2 (by omega) (by omega) hcb hva
          have HF : Hid (rdVals t 2 n bs = some (among hs vs, rest)) := by show _ = _; rw [HSP.out, HB.out, hr4]; rfl
          clear hr4 hvl
          go_wp2_with fail
          refine ham.mono ?_
          rintro e w5 ⟨⟨v, rfl, hv5⟩, hb5⟩
          have hs5 := (hk3.trans hk4).size
          go_wp2_with fail
          go_ret
          obtain ⟨bb, rfl, hbb, hrow⟩ := hv5
          exact ROut.ok ((hk3.trans hk4).trans (RKeep.of_below hb5 g)) HF.out ⟨bb, rfl, Nat.le_trans hs5 hbb, hrow⟩ (hA4.below hb5)

set_option maxRecDepth 100000 in
set_option maxHeartbeats 4000000 in
theorem values_packed (g : Nat) (t : Int) (n : Nat) (bs : List UInt8) (a2 : Addr) (w : World) (h : RAt w g t bs a2) (hn : n ≤ 64) :
    Calls Tryz.prog 67 #[.pointer (some ⟨g, 0, none⟩), .int .i64 3, .int .i64 n] w (ROut w g t a2 (rdVals t 3 n bs) fun vs v w' => ValsAt w w' vs v) := by
  have hg := h.lt
  have hfar := h.far
  have hf := fields_any g t bs a2 1 n w h (by omega) hn
  go_enter Tryz.func67, Tryz.ntmps67
  go_wp2_with fail
  refine hf.mono ?_
  rintro e w1 ⟨hk1, ⟨hr1, rfl⟩ | ⟨hs, r2, v, hr1, rfl, ⟨b, rfl, hb, hc⟩, hA1⟩⟩
  · go_wp2_with fail
    exact ⟨rfl, ROut.up hk1 (by simp [rdVals, hr1])⟩
  · have hhl := rdFields_length hr1
    have hh2 := fields_lt hr1
    have hole := ones_le hs
    have HSP : Hid (rdVals t 3 n bs = (rdBody t 3 (ones hs) r2).map fun x => (among hs x.1, x.2)) := by show _ = _; simp only [rdVals, hr1]
    have HHL : Hid (hs.length = n) := hhl
    have HLB : Hid (hs.length ≤ 64) := by show _ ≤ _; omega
    clear hf hr1 hhl
    go_wp2_with fail
    go_loopw [8, 16] (fun mm i wr => ∃ k : Nat, k ≤ hs.length ∧ i = .int .i64 k ∧ mm = .int .i64 (ones (hs.take k) : Nat) ∧ wr = w1) (fun _ i _ => hs.length - (intOf i).toNat)
    case atStart => exact ⟨0, by omega, rfl, rfl, rfl⟩
    case round =>
      obtain ⟨k, hk, rfl, rfl, rfl⟩ := hrel
      by_cases hlt : k < hs.length
      · have hlb := HLB.out
        obtain ⟨b1, o1, e1, hb1, x1⟩ := hc.at (i := k) (by simpa using hlt)
        simp only [Option.some.injEq, Addr.mk.injEq] at e1
        obtain ⟨rfl, rfl, _⟩ := e1
        rw [List.getElem_map, Nat.zero_add] at x1
        unfold uv at x1
        have hos := ones_snoc (hs.take k) hs[k]
        rw [← List.take_succ_eq_append_getElem hlt] at hos
        have hq := hh2 _ (List.getElem_mem hlt)
        have hole2 := ones_take_le hs k
        generalize hs[k] = q at *
        have hq2 : q < 2 := hq
        have hq1 := one_of q hq2
        have hp64 : ones (hs.take k) ≤ 64 := Nat.le_trans hole2 (Nat.le_trans hole hlb)
        clear hq
        rw [hq1] at hos
        have HOS : Hid _ := hos
        clear hos hq1
        generalize ones (hs.take k) = p at *
        go_wp2
        go_roundw
        case rel =>
          refine ⟨k + 1, by omega, by go_num, ?_, trivial⟩
          rw [HOS.out]
          go_num
        case measure => simp [intOf]; omega
      · have hke : k = hs.length := by omega
        subst hke
        rw [List.take_length]
        have hlb := HLB.out
        go_wp2_with fail
        refine (rWays_any g wr).mono ?_
        rintro e w3 ⟨rfl, hb3⟩
        have hA3 := hA1.below hb3
        have hc3 := hc.below hb3
        have hk3 := hk1.trans (RKeep.of_below hb3 g)
        have hix := (run_index_rways (.func (.func 120) #[.pointer (some ⟨g, 0, none⟩)] #[]) (.func (.func 121) #[.pointer (some ⟨g, 0, none⟩)] #[]) (.func (.func 122) #[.pointer (some ⟨g, 0, none⟩)] #[]) (.func (.func 123) #[.pointer (some ⟨g, 0, none⟩)] #[]) w3).2.2.2
        have hbd := packed_any g t r2 a2 (ones hs) w3 hA3 (by omega)
        have HB : Hid (rdBody t 3 (ones hs) r2 = rdPacked t (ones hs) r2) := rfl
        go_wp2_with fail
        refine hbd.mono ?_
        rintro e w4 ⟨hk4, ⟨hr4, rfl⟩ | ⟨vs, rest, v, hr4, rfl, hv4, hA4⟩⟩
        · go_wp2_with fail
          exact ⟨rfl, ROut.up (hk3.trans hk4) (by rw [HSP.out, HB.out, hr4]; rfl)⟩
        · have hvl := rdBody_length (HB.out.trans hr4)
          obtain ⟨a, cap, rfl, hva, hab⟩ := hv4
          have hcb := cells_rkeep hc3 hk4 (by omega)
          clear hbd hix
          have ham := among_any b hs a cap hs.length vs w4 hlb hh2 (by omega) (by omega) hcb hva
          have HF : Hid (rdVals t 3 n bs = some (among hs vs, rest)) := by show _ = _; rw [HSP.out, HB.out, hr4]; rfl
          clear hr4 hvl
          go_wp2_with fail
          refine ham.mono ?_
          rintro e w5 ⟨⟨v, rfl, hv5⟩, hb5⟩
          have hs5 := (hk3.trans hk4).size
          go_wp2_with fail
          go_ret
          obtain ⟨bb, rfl, hbb, hrow⟩ := hv5
          exact ROut.ok ((hk3.trans hk4).trans (RKeep.of_below hb5 g)) HF.out ⟨bb, rfl, Nat.le_trans hs5 hbb, hrow⟩ (hA4.below hb5)

theorem values_any (g : Nat) (t how : Int) (n : Nat) (bs : List UInt8) (a2 : Addr) (w : World) (h : RAt w g t bs a2) (ht : t = 1 ∨ t = 2 ∨ t = 3) (hhow : how = 0 ∨ how = 1 ∨ how = 2 ∨ how = 3) (hn : n ≤ 64) :
    Calls Tryz.prog 67 #[.pointer (some ⟨g, 0, none⟩), .int .i64 how, .int .i64 n] w (ROut w g t a2 (rdVals t how n bs) fun vs v w' => ValsAt w w' vs v) := by
  rcases hhow with rfl | rfl | rfl | rfl
  · exact values_plain g t n bs a2 w h ht hn
  · exact values_dict g t n bs a2 w h ht hn
  · exact values_runs g t n bs a2 w h ht hn
  · exact values_packed g t n bs a2 w h hn
end Go.Proofs.YtfgklnenpichcaaGreatDoor
