/- The reader's lists of values, more: runs. -/
import Derived.Test.YthplnjgijmilnaaDoorRdF
import Derived.Test.YthplnjgijmilnaaDoorWalkI
namespace Go.Proofs.YthplnjgijmilnaaDoor
open Go.RowKit

/-- So many values in runs, each its length and its value; at most f runs. -/
def rdRunsF (t : Int) : Nat → Nat → List UInt8 → Option (List V × List UInt8)
  | _, 0, bs => some ([], bs)
  | 0, _ + 1, _ => none
  | f + 1, m + 1, bs => match rdByte bs with
    | none => none
    | some (n, r) => if 1 ≤ n ∧ n ≤ m + 1 then match rdValue t r with
        | none => none
        | some (v, r2) => (rdRunsF t f (m + 1 - n) r2).map fun x => (List.replicate n v ++ x.1, x.2)
      else none
/-- So many values in runs. -/
def rdRuns (t : Int) (m : Nat) (bs : List UInt8) : Option (List V × List UInt8) := rdRunsF t m m bs
theorem rdRunsF_zero (t : Int) (f : Nat) (bs : List UInt8) : rdRunsF t f 0 bs = some ([], bs) := by cases f <;> rfl
theorem rdRunsF_eq (t : Int) : ∀ (N m f g : Nat) (bs : List UInt8), m ≤ N → m ≤ f → m ≤ g → rdRunsF t f m bs = rdRunsF t g m bs := by
  intro N
  induction N with
  | zero =>
    intro m f g bs hm _ _
    have : m = 0 := by omega
    subst this
    rw [rdRunsF_zero, rdRunsF_zero]
  | succ N ih =>
    intro m f g bs hm hf hg
    cases m with
    | zero => rw [rdRunsF_zero, rdRunsF_zero]
    | succ m =>
      obtain ⟨f, rfl⟩ : ∃ d, f = d + 1 := ⟨f - 1, by omega⟩
      obtain ⟨g, rfl⟩ : ∃ d, g = d + 1 := ⟨g - 1, by omega⟩
      rw [rdRunsF, rdRunsF]
      cases rdByte bs with
      | none => rfl
      | some x =>
        obtain ⟨n, r⟩ := x
        simp only
        by_cases hn : 1 ≤ n ∧ n ≤ m + 1
        · rw [if_pos hn, if_pos hn]
          cases rdValue t r with
          | none => rfl
          | some y => simp only; rw [ih (m + 1 - n) f g y.2 (by omega) (by omega) (by omega)]
        · rw [if_neg hn, if_neg hn]
theorem rdRuns_zero (t : Int) (bs : List UInt8) : rdRuns t 0 bs = some ([], bs) := rfl
theorem rdRuns_succ (t : Int) (m : Nat) (bs : List UInt8) : rdRuns t (m + 1) bs = match rdByte bs with
    | none => none
    | some (n, r) => if _h : 1 ≤ n ∧ n ≤ m + 1 then match rdValue t r with
        | none => none
        | some (v, r2) => (rdRuns t (m + 1 - n) r2).map fun x => (List.replicate n v ++ x.1, x.2)
      else none := by
  unfold rdRuns
  rw [rdRunsF]
  cases rdByte bs with
  | none => rfl
  | some x =>
    obtain ⟨n, r⟩ := x
    simp only
    by_cases hn : 1 ≤ n ∧ n ≤ m + 1
    · rw [if_pos hn, dif_pos hn]
      cases rdValue t r with
      | none => rfl
      | some y => simp only; rw [rdRunsF_eq t m (m + 1 - n) m (m + 1 - n) y.2 (by omega) (by omega) (Nat.le_refl _)]
    · rw [if_neg hn, dif_neg hn]

theorem own_rkeep {w w' : World} {B g : Nat} {sv : Value} {us : List V} (h : OwnV w B sv us) (hk : RKeep w w' g) (hg : g < B) : OwnV w' B sv us :=
  owns_of_block h fun k hkb => by
    obtain ⟨h1, h2⟩ := owns_block h hkb
    exact hk.block k h2 (by omega)
theorem grown_rkeep {w w1 w2 : World} {g : Nat} {sv : Value} {us : List V} {B : Nat} (h : RKeep w w1 g) (hB : w.heap.size ≤ B) (ho : OwnV w1 B sv us) (hg : w1.grownBy w2 sv.ownBlock) : RKeep w w2 g :=
  ⟨hg.os.trans h.os, hg.tape.trans h.tape, hg.output.trans h.output, Nat.le_trans h.size hg.size, fun j hj hne => (hg.block j (Nat.lt_of_lt_of_le hj h.size) (fun e => by have := (owns_block ho e.symm).1; omega)).trans (h.block j hj hne)⟩
theorem rat_grown {w1 w2 : World} {g : Nat} {t : Int} {bs : List UInt8} {a2 : Addr} {sv : Value} {us : List V} {B : Nat} (h : RAt w1 g t bs a2) (hB : g < B) (ho : OwnV w1 B sv us) (hg : w1.grownBy w2 sv.ownBlock) : RAt w2 g t bs a2 :=
  h.of_block (hg.block _ h.lt (fun e => by have := (owns_block ho e.symm).1; omega)) (hg.block _ (by have := h.lt; have := h.far; omega) (fun e => by have := (owns_block ho e.symm).1; have := h.far; omega))

set_option maxRecDepth 100000 in
set_option maxHeartbeats 2000000 in
theorem runs_any (g : Nat) (t : Int) (bs : List UInt8) (a2 : Addr) (m : Nat) (w : World) (h : RAt w g t bs a2) (ht : t = 1 ∨ t = 2 ∨ t = 3) (hm : m ≤ 64) :
    Calls Tryd.prog 81 #[.pointer (some ⟨g, 0, none⟩), .int .i64 m] w (ROut w g t a2 (rdRuns t m bs) fun vs v w' => ValsR w w' vs v) := by
  have hg := h.lt
  have hfar := h.far
  go_enter Tryd.func81, Tryd.ntmps81
  go_wp2_with fail
  go_loopw [5] (fun sv wr => ∃ (us : List V) (r : List UInt8), us.length ≤ m ∧ OwnV wr w.heap.size sv us ∧ rdRuns t m bs = (rdRuns t (m - us.length) r).map (fun x => (us ++ x.1, x.2)) ∧ RAt wr g t r a2 ∧ RKeep w wr g) (fun sv _ => m - slen sv)
  case atStart => exact ⟨[], bs, by simp, OwnV.nil _ _, by simp, h, RKeep.refl _ _⟩
  case round =>
    obtain ⟨us, r, hus, hown, hsp, hA, hkeep⟩ := hrel
    obtain ⟨a, cap, rfl, hvals⟩ := hown.vals
    have HSP : Hid _ := hsp
    clear hsp
    by_cases hlt : us.length < m
    · obtain ⟨d, hd⟩ : ∃ d, m - us.length = d + 1 := ⟨m - us.length - 1, by omega⟩
      have HD : Hid (m - us.length = d + 1) := hd
      clear hd
      have hs := small_any g t r a2 wr hA
      go_wp2_with fail
      refine hs.mono ?_
      rintro e w1 ⟨hk1, ⟨hr, rfl⟩ | ⟨n, r1, v, hr, rfl, rfl, hA1⟩⟩
      · go_wp2_with fail
        refine ⟨rfl, ROut.up (hkeep.trans hk1) ?_⟩
        rw [HSP.out, HD.out, rdRuns_succ, hr]
        rfl
      · clear hs
        have hn256 := rdByte_lt hr
        have HR : Hid _ := hr
        clear hr
        by_cases hn : 1 ≤ n ∧ n ≤ d + 1
        · have hn1 : ((1 : Int) ≤ (n : Int)) := by omega
          have hn2 : ((n : Int) ≤ (m : Int) - (us.length : Int)) := by have := HD.out; omega
          go_wp2_with fail
          refine (need_true _).mono ?_
          rintro e w' ⟨rfl, rfl⟩
          have hvl := value_any g t r1 a2 w' hA1 ht
          go_wp2_with fail
          refine hvl.mono ?_
          rintro e w2 ⟨hk2, ⟨hr2, rfl⟩ | ⟨x, r2, v, hr2, rfl, rfl, hA2⟩⟩
          · go_wp2_with fail
            refine ⟨rfl, ROut.up ((hkeep.trans hk1).trans hk2) ?_⟩
            rw [HSP.out, HD.out, rdRuns_succ, HR.out]
            simp only [hr2, hn, and_self, dite_true, Option.map_none]
          · clear hvl
            have HN : Hid (rdRuns t m bs = (rdRuns t (d + 1 - n) r2).map (fun y => (us ++ (List.replicate n x ++ y.1), y.2))) := by
              show _ = _
              rw [HSP.out, HD.out, rdRuns_succ, HR.out]
              simp only [hr2, hn, and_self, dite_true, Option.map_map]
              rfl
            have hown2 := (own_rkeep (own_rkeep hown hk1 hg) hk2 hg)
            have hkeep2 := (hkeep.trans hk1).trans hk2
            have hsz2 := hkeep2.size
            have hnb : (Value.slice a us.length cap).ownBlock ≠ some w2.heap.size := fun e => by have := (owns_block hown2 e).2; omega
            clear hvals hown hk1 hk2 hA1 hA hkeep hr2
            go_wp2_with fail
            obtain ⟨VB, hVB⟩ : ∃ VB, VB = w2.heap.size := ⟨_, rfl⟩
            have hva : VAt (w2.alloc (.cells #[.int .i64 x.k, .int .i64 x.n, .string x.s] 25)) VB 0 x := by
              rw [hVB]
              refine ⟨?_, ?_, ?_⟩ <;> simp
            have hwV : w.heap.size ≤ VB := by omega
            have hwV2 : VB < (w2.alloc (.cells #[.int .i64 x.k, .int .i64 x.n, .string x.s] 25)).heap.size := by simp; omega
            have hown3 := hown2.alloc (.cells #[.int .i64 x.k, .int .i64 x.n, .string x.s] 25)
            have hA3 := hA2.alloc (.cells #[.int .i64 x.k, .int .i64 x.n, .string x.s] 25)
            have hkeep3 := hkeep2.alloc (.cells #[.int .i64 x.k, .int .i64 x.n, .string x.s] 25)
            rw [← hVB]
            rw [← hVB] at hnb
            generalize w2.alloc (.cells #[.int .i64 x.k, .int .i64 x.n, .string x.s] 25) = w3 at *
            clear hVB hown2 hA2 hkeep2 hsz2
            go_loopw [5, 28] (fun sv i wr2 => ∃ k : Nat, k ≤ n ∧ i = .int .i64 k ∧ OwnV wr2 w.heap.size sv (us ++ List.replicate k x) ∧ RAt wr2 g t r2 a2 ∧ RKeep w wr2 g ∧ VAt wr2 VB 0 x ∧ VB < wr2.heap.size ∧ sv.ownBlock ≠ some VB) (fun _ i _ => n - (intOf i).toNat)
            case atStart => exact ⟨0, by omega, rfl, by simpa using hown3, hA3, hkeep3, hva, hwV2, hnb⟩
            case round =>
              clear hown3 hA3 hkeep3 hva hwV2 hnb
              obtain ⟨k, hk, rfl, hown, hA, hkp, hva, hVl, hnb⟩ := hrel
              by_cases hlk : k < n
              · obtain ⟨y1, y2, y3⟩ := hva
                have hul : (us ++ List.replicate k x).length ≤ 64 + 256 := by rw [List.length_append, List.length_replicate]; omega
                have hts : us ++ List.replicate (k + 1) x = (us ++ List.replicate k x) ++ [x] := by rw [List.replicate_succ', List.append_assoc]
                have HTS : Hid _ := hts
                clear hts
                generalize us ++ List.replicate k x = uk at *
                have hszr := hkp.size
                go_wp2_with (at_builtin; refine wpList_append_V (by rfl) _ _ (by rfl) w.heap.size _ uk (by rfl) (hown.alloc _) _ _ x (by rfl) (by refine ⟨?_, ?_, ?_⟩ <;> simp) (by omega) (by simp; omega) ?_; intro sv' w4 h1 h2 h3)
                go_roundw
                case rel =>
                  have hval : VAt w4 VB 0 x := by
                    refine VAt.of_block (w := _) (VAt.of_block (w := _) ⟨y1, y2, y3⟩ (Below.heap_alloc _ _ VB hVl)) (h2.block VB (by simp; omega) (Ne.symm hnb))
                  refine ⟨k + 1, by omega, by go_num, by rw [HTS.out]; exact h1, rat_grown (hA.alloc _) hg (hown.alloc _) h2, grown_rkeep (hkp.alloc _) (Nat.le_refl _) (hown.alloc _) h2, hval, ?_, ?_⟩
                  · have := h2.size
                    simp at this
                    omega
                  · rcases h3 with e | e
                    · rw [e]; exact hnb
                    · rw [e]
                      intro e2
                      simp at e2
                      omega
                case measure => simp [intOf]; omega
              · have hke : k = n := by omega
                subst hke
                obtain ⟨a', cap', rfl, hv'⟩ := hown.vals
                have hll : (us ++ List.replicate k x).length = us.length + k := by simp
                go_wp2
                go_roundw
                case rel =>
                  refine ⟨us ++ List.replicate k x, r2, by rw [hll]; have := HD.out; omega, hown, ?_, hA, hkp⟩
                  have e : m - (us ++ List.replicate k x).length = d + 1 - k := by rw [hll]; have := HD.out; omega
                  rw [HN.out, e]
                  simp only [List.append_assoc]
                case measure =>
                  have := HD.out
                  simp [slen]
                  omega
        · have hbad : ¬ (((1 : Int) ≤ (n : Int)) ∧ ((n : Int) ≤ (m : Int) - (us.length : Int))) := by have := HD.out; omega
          have HNONE : Hid (rdRuns t m bs = none) := by
            show _ = _
            rw [HSP.out, HD.out, rdRuns_succ, HR.out]
            simp only [hn, dite_false, Option.map_none]
          by_cases h1 : (1 : Int) ≤ (n : Int)
          · have h2 : ¬ ((n : Int) ≤ (m : Int) - (us.length : Int)) := by omega
            go_wp2_with fail
            rw [show decide ((n : Int) ≤ (m : Int) - (us.length : Int)) = false from decide_eq_false (by omega)]
            refine (need_false a2 _ hA1.form).mono ?_
            rintro e w' ⟨rfl, rfl⟩
            go_wp2_with fail
            exact ⟨rfl, ROut.up (hkeep.trans hk1) HNONE.out⟩
          · go_wp2_with fail
            refine (need_false a2 _ hA1.form).mono ?_
            rintro e w' ⟨rfl, rfl⟩
            go_wp2_with fail
            exact ⟨rfl, ROut.up (hkeep.trans hk1) HNONE.out⟩
    · have hke : us.length = m := by omega
      go_wp2_with fail
      go_ret
      refine ROut.ok (x := us) (rest := r) hkeep ?_ ⟨a, cap, rfl, hvals, fun b o e => ?_⟩ hA
      · rw [HSP.out, hke, Nat.sub_self, rdRuns_zero]
        simp
      · have e2 : (Value.slice a us.length cap).ownBlock = some b := by rw [e]; rfl
        exact (owns_block hown e2).1
end Go.Proofs.YthplnjgijmilnaaDoor
