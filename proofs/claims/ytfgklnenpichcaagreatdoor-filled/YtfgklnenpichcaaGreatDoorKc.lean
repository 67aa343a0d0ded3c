/- What the writer writes: the head of a segment, runs, a dictionary, packed numbers. -/
import Derived.Test.YtfgklnenpichcaaGreatDoorKb
namespace Go.Proofs.YtfgklnenpichcaaGreatDoor
open Go.RowKit

/-- 1 for a value that is not NULL. -/
def heldBit (v : V) : Nat := if v.k = 0 then 0 else 1
theorem bitsOf_one (ns : List Nat) (h : ∀ n ∈ ns, n ≤ 1) : bitsOf 1 ns = ns.map fun n => n == 1 := by
  induction ns with
  | nil => rfl
  | cons n ns ih =>
    have e : bitsOf 1 (n :: ns) = [n.testBit 0] ++ bitsOf 1 ns := by simp [bitsOf, List.range_succ]
    rw [e, ih fun m hm => h m (List.mem_cons_of_mem _ hm)]
    have hn := h n List.mem_cons_self
    have : n.testBit 0 = (n == 1) := by
      rw [Nat.testBit_zero]
      have : n = 0 ∨ n = 1 := by omega
      rcases this with rfl | rfl <;> rfl
    rw [this]; rfl
theorem heldBits (xs : List V) : bitsOf 1 (xs.map heldBit) = xs.map fun v => v.k != 0 := by
  rw [bitsOf_one _ (by intro n hn; obtain ⟨v, _, rfl⟩ := List.mem_map.1 hn; unfold heldBit; split <;> omega), List.map_map]
  apply List.map_congr_left
  intro v _
  simp only [Function.comp, heldBit]
  by_cases h : v.k = 0 <;> simp [h]

/-- What all ways have in common. -/
def headEnc (t how : Int) (xs : List V) : List UInt8 := [low t, low how, low xs.length] ++ packBits (xs.map fun v => v.k != 0)

set_option maxHeartbeats 1000000 in
theorem wHead_any (B g : Nat) (t how : Int) (a : Option Addr) (cap : Nat) (xs : List V) (w : World) (h : WAt w B g t []) (hn : xs.length ≤ 64) (hx : Vals w a xs) (hap : xs ≠ [] → ∀ b o, a = some ⟨b, o, none⟩ → Apart w g b) :
    Calls Tryz.prog 100 #[.pointer (some ⟨g, 0, none⟩), .int .i64 how, .slice a xs.length cap] w fun e w' => e = .returned (.tuple #[]) ∧ WAt w' B g t (headEnc t how xs) ∧ WKeep w w' g := by
  have hmk : ∀ W, (Instr.makeSlice 171 (.int .i64 (xs.length : Int)) (.int .i64 (xs.length : Int))).run Tryz.prog W = .ok (.slice (some ⟨W.heap.size, 0, none⟩) xs.length xs.length) (W.alloc (.cells (madeCells #[.int .u64 0] xs.length) 173)) :=
    fun W => run_make_row' 171 173 (.int .u64 0) 8 (by kernel_rfl) info_u64 rfl .i64 .i64 xs.length (by omega) (by omega) W
  obtain ⟨sv0, c0, _, _, _, _⟩ := h.cells
  go_enter Tryz.func100, Tryz.ntmps100
  go_wp2_with fail
  refine (wSmall_any B g t _ _ _ h (by simp)).mono ?_
  rintro e w1 ⟨rfl, hw1, hk1⟩
  go_wp2_with fail
  refine (wSmall_any B g t _ _ _ hw1 (by simp)).mono ?_
  rintro e w2 ⟨rfl, hw2, hk2⟩
  go_wp2_with fail
  refine (wSmall_any B g t _ _ _ hw2 (by simp)).mono ?_
  rintro e w3 ⟨rfl, hw3, hk3⟩
  go_wp2_with fail
  clear hmk
  have hk := (hk1.trans hk2).trans hk3
  have hx3 : Vals w3 a xs := by
    by_cases hne : xs = []
    · exact .inl hne
    · exact vals_keep hx hk (hap hne)
  clear hk1 hk2 hk3 hw1 hw2 c0
  go_loopw [27] (fun i wr => ∃ k : Nat, k ≤ xs.length ∧ i = .int .i64 k ∧ wr.rowIs w3.heap.size 173 xs.length (fun j => uv (if j < k then (xs.map heldBit)[j]?.getD 0 else 0)) ∧ Below w3.heap.size w3 wr) (fun i _ => xs.length - (intOf i).toNat)
  case atStart => exact ⟨0, by omega, rfl, World.rowIs_made _ _ _ _, (Below.refl _ _).alloc (Nat.le_refl _) _⟩
  case round =>
    obtain ⟨k, hkl, rfl, hrow, hbw⟩ := hrel
    by_cases hlt : k < xs.length
    · obtain ⟨b1, o1, rfl, hb1, x1, x2, x3⟩ := (hx3.below hbw).at hlt
      have c1 := hrow.cell hlt
      have c2 := hrow.frozen k
      have c3 := hrow.lt
      have hget : (xs.map heldBit)[k]?.getD 0 = heldBit xs[k] := by simp [hlt]
      have HGT : Hid _ := hget
      clear hget
      by_cases h0 : xs[k].k = 0
      · have h0' : (xs[k].k != 0) = false := by simp [h0]
        have H0 : Hid (xs[k].k = 0) := h0
        clear h0
        go_wp2
        go_roundw
        case rel =>
          refine ⟨k + 1, by omega, by go_num, (hrow.alloc _).congr fun j hj => ?_, below_alloc hbw _⟩
          by_cases e : j = k
          · subst e
            simp only [Nat.lt_irrefl, if_false, Nat.lt_succ_self, if_true]
            rw [HGT.out]
            simp [heldBit, H0.out]
          · have e2 : (j < k + 1) = (j < k) := by rw [eq_iff_iff]; omega
            simp only [e2]
        case measure => simp [intOf]; omega
      · have h0' : (xs[k].k != 0) = true := by simp [h0]
        have H0 : Hid (¬ xs[k].k = 0) := h0
        clear h0
        go_wp2
        go_roundw
        case rel =>
          refine ⟨k + 1, by omega, by go_num, ((hrow.set k _).alloc _).congr fun j hj => ?_, below_alloc (hbw.setCell (p := ⟨w3.heap.size, k, none⟩) (Nat.le_refl _) _) _⟩
          by_cases e : j = k
          · subst e
            simp only [if_true, Nat.lt_succ_self]
            rw [HGT.out]
            simp [heldBit, H0.out, uv]
          · have e2 : (j < k + 1) = (j < k) := by rw [eq_iff_iff]; omega
            simp only [e, e2, if_false]
        case measure => simp [intOf]; omega
    · have hke : k = xs.length := by omega
      subst hke
      have hown : OwnC wr w3.heap.size 173 (.slice (some ⟨w3.heap.size, 0, none⟩) xs.length xs.length) ((xs.map heldBit).map uv) :=
        own_of_row hrow (Nat.le_refl _) (by unfold maxLen; omega) _ (by simp) (by
          intro i hi
          have hi' : i < xs.length := by simpa using hi
          simp [hi'])
      obtain ⟨a4, cap4, e4, hc4⟩ := hown.cells
      simp only [List.length_map] at e4
      injection e4 with e5 e6 e7
      subst e5
      subst e7
      have hcl : (xs.map heldBit).length = xs.length := by simp
      have hw4 := hw3.below hbw
      have hlt4 := hrow.lt
      go_wp2_with fail
      rw [← hcl]
      refine (wFields_any B g t _ 1 _ _ (xs.map heldBit) _ hw4 (by simp) (by omega) (by simpa using hn) (by
        intro n hn; obtain ⟨v, _, rfl⟩ := List.mem_map.1 hn; unfold heldBit; split <;> omega) hc4 (by
        intro b o hbo
        simp at hbo
        obtain ⟨rfl, rfl⟩ := hbo
        exact apart_new hw3 hbw (Nat.le_refl _) hlt4)).mono ?_
      rintro e w5 ⟨rfl, hw5, hk5⟩
      go_wp2_with fail
      go_end0
      refine ⟨rfl, ?_, (hk.trans (WKeep.of_below hbw hw3.lt)).trans hk5⟩
      rw [heldBits] at hw5
      exact hw5
end Go.Proofs.YtfgklnenpichcaaGreatDoor

/-! What the writer writes: runs, a dictionary, packed numbers. -/
namespace Go.Proofs.YtfgklnenpichcaaGreatDoor
open Go.RowKit

/-- The rest of some runs, of which c values v have been met. -/
def runsAux (v : V) (c : Nat) : List V → List UInt8
  | [] => low c :: enc v.k v.n v.s
  | u :: l => if u.beq v then runsAux v (c + 1) l else (low c :: enc v.k v.n v.s) ++ runsAux u 1 l
/-- Runs: each run's length, and its value. -/
def runsEnc : List V → List UInt8
  | [] => []
  | v :: l => runsAux v 1 l

theorem runsAux_eq (l : List V) : ∀ (v : V) (c : Nat), runsAux v c l = (low ((c + runLen v l : Nat) : Int) :: enc v.k v.n v.s) ++ runsEnc (l.drop (runLen v l)) := by
  induction l with
  | nil => intro v c; simp [runsAux, runLen, runsEnc]
  | cons u l ih =>
    intro v c
    by_cases e : u.beq v = true
    · simp only [runsAux, runLen, e, if_true, List.drop_succ_cons]
      rw [ih v (c + 1)]
      have : c + 1 + runLen v l = c + (runLen v l + 1) := by omega
      rw [this]
    · simp only [runsAux, runLen, e, if_false, Bool.false_eq_true]
      simp [runsEnc]
theorem runsEnc_cons (v : V) (l : List V) : runsEnc (v :: l) = (low ((runLen v (v :: l) : Nat) : Int) :: enc v.k v.n v.s) ++ runsEnc ((v :: l).drop (runLen v (v :: l))) := by
  have e : runLen v (v :: l) = runLen v l + 1 := by simp [runLen, (V.beq_iff v v).2 rfl]
  rw [e, List.drop_succ_cons]
  show runsAux v 1 l = _
  rw [runsAux_eq]
  have : 1 + runLen v l = runLen v l + 1 := by omega
  rw [this]
theorem runsEnc_nil : runsEnc [] = [] := rfl
/-- The length of a slice's value. -/
def slen : Value → Nat | .slice _ n _ => n | _ => 0
theorem runLen_pos (v : V) (l : List V) : 1 ≤ runLen v (v :: l) := by simp [runLen, (V.beq_iff v v).2 rfl]

theorem vals_drop {w : World} {b o : Nat} {vs : List V} (h : Vals w (some ⟨b, o, none⟩) vs) (m : Nat) : Vals w (some ⟨b, o + m * 3, none⟩) (vs.drop m) := by
  rcases h with h | ⟨b', o', e, hb, h⟩
  · subst h; exact .inl (by simp)
  · simp at e
    obtain ⟨rfl, rfl⟩ := e
    refine .inr ⟨b, o + m * 3, rfl, hb, fun i v hv => ?_⟩
    have := h (m + i) v (by simpa using hv)
    have e2 : o + m * 3 + i * 3 = o + (m + i) * 3 := by omega
    rw [e2]; exact this

theorem drop_cons_of_lt (xs : List V) (m : Nat) (h : m < xs.length) : ∃ v l, xs.drop m = v :: l ∧ v ∈ xs := by
  cases e : xs.drop m with
  | nil => have := List.drop_eq_nil_iff.1 e; omega
  | cons v l => exact ⟨v, l, rfl, List.mem_of_mem_drop (by rw [e]; exact List.mem_cons_self)⟩

theorem runsEnc_le : ∀ (n : Nat) (xs : List V), xs.length ≤ n → (∀ v ∈ xs, good v.k v.s) → (runsEnc xs).length ≤ 42 * xs.length := by
  intro n
  induction n with
  | zero => intro xs h _; have : xs = [] := List.length_eq_zero_iff.1 (by omega); subst this; simp [runsEnc]
  | succ n ih =>
    intro xs h hg
    cases xs with
    | nil => simp [runsEnc]
    | cons v l =>
      rw [runsEnc_cons]
      have h1 := enc_le v.k v.n v.s (hg v List.mem_cons_self)
      have h2 := runLen_pos v l
      have h3 := ih ((v :: l).drop (runLen v (v :: l))) (by rw [List.length_drop]; simp at h ⊢; omega) (fun u hu => hg u (List.mem_of_mem_drop hu))
      rw [List.length_append, List.length_cons]
      rw [List.length_drop] at h3
      have h4 := runLen_le v (v :: l)
      omega

set_option maxHeartbeats 1000000 in
theorem wRuns_any (B g : Nat) (t : Int) (a : Option Addr) (cap : Nat) (xs : List V) (bs : List UInt8) (w : World) (h : WAt w B g t bs) (hl : bs.length ≤ 10000) (hn : xs.length ≤ 64) (hcap : xs.length ≤ cap) (hgd : ∀ v ∈ xs, good v.k v.s) (hx : Vals w a xs) (hap : ∀ b o, a = some ⟨b, o, none⟩ → Apart w g b) :
    Calls Tryz.prog 129 #[.pointer (some ⟨g, 0, none⟩), .slice a xs.length cap] w fun e w' => e = .returned (.tuple #[]) ∧ WAt w' B g t (bs ++ runsEnc xs) ∧ WKeep w w' g := by
  go_enter Tryz.func129, Tryz.ntmps129
  go_wp2
  go_loopw [1] (fun sl wr => ∃ (rest : List V) (done : List UInt8) (a2 : Option Addr) (cap2 : Nat), sl = .slice a2 rest.length cap2 ∧ rest.length ≤ xs.length ∧ rest.length ≤ cap2 ∧ Hid (∀ v ∈ rest, good v.k v.s) ∧ Hid (bs ++ runsEnc xs = done ++ runsEnc rest) ∧ Vals wr a2 rest ∧ (∀ b o, a2 = some ⟨b, o, none⟩ → Apart wr g b) ∧ WAt wr B g t done ∧ WKeep w wr g) (fun sl _ => slen sl)
  case atStart => exact ⟨xs, bs, a, cap, rfl, Nat.le_refl _, hcap, hgd, rfl, hx, hap, h, WKeep.refl _ _⟩
  case round =>
    obtain ⟨rest, done, a2, cap2, rfl, hrl, hrc, hg2, heq, hx2, hap2, hw, hkeep⟩ := hrel
    cases rest with
    | nil =>
      go_wp2
      go_end0
      have := heq.out
      rw [runsEnc_nil, List.append_nil] at this
      rw [this]
      exact ⟨rfl, hw, hkeep⟩
    | cons v l =>
      have hpos := runLen_pos v l
      have hle := runLen_le v (v :: l)
      have hln : (v :: l).length ≤ 64 := by omega
      have hgv : good v.k v.s := hg2.out v List.mem_cons_self
      obtain ⟨b2, o2, rfl, hb2, z1, z2, z3⟩ := hx2.at (i := 0) (by simp)
      simp only [List.getElem_cons_zero, Nat.zero_mul, Nat.add_zero] at z1 z2 z3
      have hap3 := hap2 b2 o2 rfl
      have hrn := runsEnc_cons v l
      have HRN : Hid _ := hrn
      have HGV : Hid (good v.k v.s) := hgv
      have hdl : done.length ≤ 20000 := by
        have h1 := congrArg List.length heq.out
        rw [List.length_append, List.length_append] at h1
        have h2 := runsEnc_le _ xs (Nat.le_refl _) hgd
        omega
      clear hrn hgv
      have hc1 : (0 : Int) < ((v :: l).length : Int) := by rw [List.length_cons]; omega
      have hrun := runLength_any (some ⟨b2, o2, none⟩) cap2 v l wr hln hx2
      have HX : Hid (Vals wr (some ⟨b2, o2, none⟩) (v :: l)) := hx2
      generalize hR : v :: l = R at *
      have hl0 : 0 < R.length := by rw [← hR]; simp
      have HR : Hid (v :: l = R) := hR
      clear hR hx2
      obtain ⟨q, hq⟩ : ∃ q : Nat, q = runLen v R := ⟨_, rfl⟩
      rw [← hq] at hrun hpos hle HRN
      have HQ : Hid (q = runLen v R) := hq
      clear hq
      have HRUN : Hid (Calls Tryz.prog 145 #[.slice (some ⟨b2, o2, none⟩) R.length cap2] wr fun e w' => e = .returned (.int .i64 (q : Nat)) ∧ Below wr.heap.size wr w') := hrun
      clear hrun
      go_wp2_with fail
      refine HRUN.out.mono ?_
      rintro e w1 ⟨rfl, hb1⟩
      have hw1 := hw.below hb1
      go_wp2_with fail
      refine (wSmall_any B g t _ _ _ hw1 (by omega)).mono ?_
      rintro e w2 ⟨rfl, hw2, hk2⟩
      have hkA : WKeep wr w2 g := (WKeep.of_below hb1 hw.lt).trans hk2
      have hbk := (hkA.block b2 hap3).1
      have y1 : w2.cell? ⟨b2, o2, none⟩ = some (.int .i64 v.k) := by rw [World.cell?_of_block (w := wr) hbk]; exact z1
      have y2 : w2.cell? ⟨b2, o2 + 1, none⟩ = some (.int .i64 v.n) := by rw [World.cell?_of_block (w := wr) hbk]; exact z2
      have y3 : w2.cell? ⟨b2, o2 + 2, none⟩ = some (.string v.s) := by rw [World.cell?_of_block (w := wr) hbk]; exact z3
      clear z1 z2 z3
      go_wp2_with fail
      refine (wValue_any B g t v _ _ hw2 (by rw [List.length_append, List.length_cons, List.length_nil]; omega) HGV.out).mono ?_
      rintro e w3 ⟨rfl, hw3, hk3⟩
      have hkB := hkA.trans hk3
      go_wp2
      go_roundw
      case rel =>
        have hx3 := vals_keep HX.out hkB hap2
        have heq2 : bs ++ runsEnc xs = (done ++ [low (q : Int)] ++ enc v.k v.n v.s) ++ runsEnc (R.drop q) := by rw [heq.out, HRN.out]; simp
        refine ⟨R.drop q, done ++ [low (q : Int)] ++ enc v.k v.n v.s, _, cap2 - q, by rw [List.length_drop], by rw [List.length_drop]; omega, by rw [List.length_drop]; omega, fun u hu => hg2.out u (List.mem_of_mem_drop hu), heq2, ?_, ?_, hw3, hkeep.trans hkB⟩
        · by_cases e : cap2 = q
          · have : R.drop q = [] := List.drop_eq_nil_iff.2 (by omega)
            rw [this]; exact Vals.nil _ _
          · rw [if_neg e]; exact vals_drop hx3 q
        · intro b o hbo
          have hbb : b = b2 := by
            split at hbo <;> simp at hbo <;> exact hbo.1.symm
          subst hbb
          exact (hkB.block _ hap3).2
      case measure => simp [slen]; omega

theorem mem_uniq_keep (l : List V) : ∀ (d : List V) (v : V), v ∈ d → v ∈ uniq d l := by
  induction l with
  | nil => intro d v h; exact h
  | cons u l ih =>
    intro d v h
    simp only [uniq]
    refine ih _ v ?_
    split
    · exact h
    · exact List.mem_append_left _ h
theorem mem_uniq (l : List V) : ∀ (d : List V) (v : V), v ∈ l → v ∈ uniq d l := by
  induction l with
  | nil => intro d v h; simp at h
  | cons u l ih =>
    intro d v h
    simp only [uniq]
    rcases List.mem_cons.1 h with rfl | h
    · refine mem_uniq_keep l _ v ?_
      split
      · rename_i hp
        have := getElem_place d v hp
        rw [← this]; exact List.getElem_mem hp
      · exact List.mem_append_right _ (by simp)
    · exact ih _ v h
theorem place_lt_of_mem (l : List V) (v : V) (h : v ∈ l) : place l v < l.length := by
  induction l with
  | nil => simp at h
  | cons u l ih =>
    by_cases e : u.beq v = true
    · simp [place, e]
    · have hne : u ≠ v := (V.beq_false u v).1 (by simpa using e)
      have : v ∈ l := by rcases List.mem_cons.1 h with rfl | h; exact absurd rfl hne; exact h
      simp [place, e]; exact ih this
theorem uniq_mem (l : List V) : ∀ (d : List V) (v : V), v ∈ uniq d l → v ∈ d ∨ v ∈ l := by
  induction l with
  | nil => intro d v h; exact .inl h
  | cons u l ih =>
    intro d v h
    simp only [uniq] at h
    rcases ih _ v h with h | h
    · split at h
      · exact .inl h
      · rcases List.mem_append.1 h with h | h
        · exact .inl h
        · right; simp at h; subst h; exact List.mem_cons_self
    · exact .inr (List.mem_cons_of_mem _ h)

/-- A dictionary: its values, and which of them each value is. -/
def dictEnc (xs : List V) : List UInt8 := (low (uniq [] xs).length :: encAll (uniq [] xs)) ++ packBits (bitsOf 4 (xs.map (place (uniq [] xs))))

theorem idx_pos (d : List V) (v : V) (h : place d v < d.length) : idx d v = (place d v : Int) := by unfold idx; rw [if_pos h]

set_option maxHeartbeats 1000000 in
theorem wDictionary_any (B g : Nat) (t : Int) (a : Option Addr) (cap : Nat) (xs : List V) (bs : List UInt8) (w : World) (h : WAt w B g t bs) (hl : bs.length ≤ 1000) (hn : xs.length ≤ 64) (hgd : ∀ v ∈ xs, good v.k v.s) (hx : Vals w a xs) (hap : ∀ b o, a = some ⟨b, o, none⟩ → Apart w g b) :
    Calls Tryz.prog 128 #[.pointer (some ⟨g, 0, none⟩), .slice a xs.length cap] w fun e w' => e = .returned (.tuple #[]) ∧ WAt w' B g t (bs ++ dictEnc xs) ∧ WKeep w w' g := by
  have hmk : ∀ W, (Instr.makeSlice 171 (.int .i64 (xs.length : Int)) (.int .i64 (xs.length : Int))).run Tryz.prog W = .ok (.slice (some ⟨W.heap.size, 0, none⟩) xs.length xs.length) (W.alloc (.cells (madeCells #[.int .u64 0] xs.length) 173)) :=
    fun W => run_make_row' 171 173 (.int .u64 0) 8 (by kernel_rfl) info_u64 rfl .i64 .i64 xs.length (by omega) (by omega) W
  have hul := uniq_le xs []
  have hgu : ∀ v ∈ uniq [] xs, good v.k v.s := fun v hv => by
    rcases uniq_mem xs [] v hv with h | h
    · simp at h
    · exact hgd v h
  have hpl : ∀ v ∈ xs, place (uniq [] xs) v < (uniq [] xs).length := fun v hv => place_lt_of_mem _ _ (mem_uniq xs [] v hv)
  have hde : dictEnc xs = (low (uniq [] xs).length :: encAll (uniq [] xs)) ++ packBits (bitsOf 4 (xs.map (place (uniq [] xs)))) := rfl
  have HDE : Hid _ := hde
  clear hde
  go_enter Tryz.func128, Tryz.ntmps128
  go_wp2_with fail
  refine (different_any a cap xs w hn hx).mono ?_
  rintro e w1 ⟨sv, rfl, hown, hb1⟩
  obtain ⟨a1, cap1, rfl, hv1⟩ := hown.vals
  have hblk : ∀ b o, a1 = some ⟨b, o, none⟩ → Apart w1 g b := by
    intro b o hbo
    subst hbo
    have := owns_block hown (g := b) rfl
    exact apart_new h hb1 this.1 this.2
  generalize uniq [] xs = d at *
  have hd : d.length ≤ 64 := by simp at hul; omega
  have hw1 := h.below hb1
  clear hown
  go_wp2_with fail
  refine (wSmall_any B g t _ _ _ hw1 (by omega)).mono ?_
  rintro e w2 ⟨rfl, hw2, hk2⟩
  have hv2 := vals_keep hv1 hk2 hblk
  have hblk2 := apart_keep hk2 hblk
  go_wp2_with fail
  refine (wPlain_any B g t a1 cap1 d _ _ hw2 (by rw [List.length_append, List.length_cons, List.length_nil]; omega) hd hgu hv2 hblk2).mono ?_
  rintro e w3 ⟨rfl, hw3, hk3⟩
  have hk13 := hk2.trans hk3
  have hk := (WKeep.of_below hb1 h.lt).trans hk13
  have hv3 := vals_keep hv2 hk3 hblk2
  have hx3 := vals_keep hx hk hap
  have hle := encAll_le d hgu
  have hlen3 : (bs ++ [low d.length] ++ encAll d).length ≤ 50000 := by simp only [List.length_append, List.length_cons, List.length_nil]; omega
  clear hv1 hv2 hblk hblk2 hw1 hw2 hk2 hk3 hb1 hk13 hgu hle
  have hd' : d.length ≤ maxLen := by unfold maxLen; omega
  go_wp2_with fail
  clear hmk
  go_loopw [22] (fun i wr => ∃ k : Nat, k ≤ xs.length ∧ i = .int .i64 k ∧ wr.rowIs w3.heap.size 173 xs.length (fun j => uv (if j < k then (xs.map (place d))[j]?.getD 0 else 0)) ∧ Below w3.heap.size w3 wr) (fun i _ => xs.length - (intOf i).toNat)
  case atStart => exact ⟨0, by omega, rfl, World.rowIs_made _ _ _ _, (Below.refl _ _).alloc (Nat.le_refl _) _⟩
  case round =>
    obtain ⟨k, hkl, rfl, hrow, hbw⟩ := hrel
    by_cases hlt : k < xs.length
    · obtain ⟨b1, o1, rfl, hb1, x1, x2, x3⟩ := (hx3.below hbw).at hlt
      have c3 := hrow.lt
      have hp := hpl _ (List.getElem_mem hlt)
      have hidx := idx_pos d xs[k] hp
      have hget : (xs.map (place d))[k]?.getD 0 = place d xs[k] := by simp [hlt]
      have HGT : Hid _ := hget
      have HIX : Hid (idx d xs[k] = (place d xs[k] : Int)) := hidx
      have hvw := (hv3.below hbw).below ((Below.refl _ _).alloc (Nat.le_refl _) (.cells #[.int .i64 xs[k].k, .int .i64 xs[k].n, .string xs[k].s] 36))
      have hpb : place d xs[k] ≤ 64 := by omega
      clear hget hidx hp
      go_wp2_with fail
      refine (index_any a1 cap1 d xs[k] _ hd' hvw).mono ?_
      rintro e w4 ⟨rfl, hb4⟩
      rw [HIX.out]
      obtain ⟨hc4, hf4⟩ := below_keep hb4
      have hrow4 : w4.rowIs w3.heap.size 173 xs.length (fun j => uv (if j < k then (xs.map (place d))[j]?.getD 0 else 0)) := (hrow.alloc _).of_block (hb4.block _ (hrow.alloc _).lt)
      have c1 := hrow4.cell hlt
      have c2 := hrow4.frozen k
      clear hc4 hf4
      generalize place d xs[k] = P at *
      go_wp2
      go_roundw
      case rel =>
        refine ⟨k + 1, by omega, by go_num, (hrow4.set k _).congr fun j hj => ?_, (below_then hbw (below_behind hb4)).setCell (p := ⟨w3.heap.size, k, none⟩) (Nat.le_refl _) _⟩
        by_cases e : j = k
        · subst e
          simp only [if_true, Nat.lt_succ_self]
          rw [HGT.out]
          rfl
        · have e2 : (j < k + 1) = (j < k) := by rw [eq_iff_iff]; omega
          simp only [e, e2, if_false]
      case measure => simp [intOf]; omega
    · have hke : k = xs.length := by omega
      subst hke
      have hown : OwnC wr w3.heap.size 173 (.slice (some ⟨w3.heap.size, 0, none⟩) xs.length xs.length) ((xs.map (place d)).map uv) :=
        own_of_row hrow (Nat.le_refl _) (by unfold maxLen; omega) _ (by simp) (by
          intro i hi
          have hi' : i < xs.length := by simpa using hi
          simp [hi'])
      obtain ⟨a4, cap4, e4, hc4⟩ := hown.cells
      simp only [List.length_map] at e4
      injection e4 with e5 e6 e7
      subst e5
      subst e7
      have hcl : (xs.map (place d)).length = xs.length := by simp
      have hw4 := hw3.below hbw
      have hlt4 := hrow.lt
      go_wp2_with fail
      rw [← hcl]
      refine (wFields_any B g t _ 4 _ _ (xs.map (place d)) _ hw4 hlen3 (by omega) (by simpa using hn) (by
        intro n hn; obtain ⟨v, hv, rfl⟩ := List.mem_map.1 hn; have := hpl v hv; omega) hc4 (by
        intro b o hbo
        simp at hbo
        obtain ⟨rfl, rfl⟩ := hbo
        exact apart_new hw3 hbw (Nat.le_refl _) hlt4)).mono ?_
      rintro e w5 ⟨rfl, hw5, hk5⟩
      go_wp2_with fail
      go_end0
      refine ⟨rfl, ?_, (hk.trans (WKeep.of_below hbw hw3.lt)).trans hk5⟩
      rw [HDE.out]
      simpa using hw5
end Go.Proofs.YtfgklnenpichcaaGreatDoor

/-! What the writer writes of packed values, and the table of its ways. -/
namespace Go.Proofs.YtfgklnenpichcaaGreatDoor
open Go.RowKit

/-- Packed numbers: the least, the width, the differences. -/
def packedInt : List V → List UInt8
  | [] => []
  | v :: l =>
    le8 (u64 (leastFrom v.n (v :: l))) ++ [low (bitLen (maxOf (dif v.n (leastFrom v.n (v :: l))) (difs l (leastFrom v.n (v :: l)))) : Nat)]
      ++ packBits (bitsOf (bitLen (maxOf (dif v.n (leastFrom v.n (v :: l))) (difs l (leastFrom v.n (v :: l))))) (difs (v :: l) (leastFrom v.n (v :: l))))
def packedEnc (t : Int) (xs : List V) : List UInt8 := if t = 2 then packBits (bitsOf 1 (difs xs 0)) else packedInt xs

theorem difs_lt (xs : List V) (q : Int) : ∀ n ∈ difs xs q, n < 18446744073709551616 := by
  intro n hn
  obtain ⟨v, _, rfl⟩ := List.mem_map.1 hn
  exact u64_lt _
theorem bitLen_le64 (n : Nat) (h : n < 18446744073709551616) : bitLen n ≤ 64 := by
  unfold bitLen
  split
  · omega
  · rename_i h0
    have := (Nat.log2_lt h0).2 (show n < 2 ^ 64 from h)
    omega

set_option maxHeartbeats 1000000 in
theorem wPacked_any (B g : Nat) (t : Int) (a : Option Addr) (cap : Nat) (xs : List V) (bs : List UInt8) (w : World) (h : WAt w B g t bs) (hl : bs.length ≤ 1000) (hn : xs.length ≤ 64) (hx : Vals w a xs) :
    Calls Tryz.prog 130 #[.pointer (some ⟨g, 0, none⟩), .slice a xs.length cap] w fun e w' => e = .returned (.tuple #[]) ∧ WAt w' B g t (bs ++ packedEnc t xs) ∧ WKeep w w' g := by
  obtain ⟨sv0, c0, _, _, _, _⟩ := h.cells
  unfold packedEnc
  by_cases ht : t = 2
  · subst ht
    rw [if_pos rfl]
    go_enter Tryz.func130, Tryz.ntmps130
    go_wp2_with fail
    refine (differences_any a cap xs 0 w hn hx).mono ?_
    rintro e w1 ⟨sv, rfl, hown, hb1⟩
    have hblk := fun b hb => owns_block hown (g := b) hb
    obtain ⟨a1, cap1, rfl, hc1⟩ := hown.cells
    rw [List.length_map]
    have hlt := difs_lt xs 0
    have hdl : (difs xs 0).length ≤ 64 := by simpa [difs] using hn
    generalize hds : difs xs 0 = ds at *
    have HDS : Hid (difs xs 0 = ds) := hds
    clear hds
    go_wp2_with fail
    refine (wFields_any B g 2 _ 1 _ _ ds _ (h.below hb1) (by omega) (by omega) hdl hlt hc1 (by
      intro b o hbo
      subst hbo
      have := hblk b rfl
      exact apart_new h hb1 this.1 this.2)).mono ?_
    rintro e w2 ⟨rfl, hw2, hk2⟩
    go_wp2_with fail
    exact bodyPost_ret (v := .tuple #[]) (by simp [results, Tryz.results130, go_sem]) rfl ⟨rfl, by rw [HDS.out]; exact hw2, (WKeep.of_below hb1 h.lt).trans hk2⟩
  · rw [if_neg ht]
    have ht' : (t == 2) = false := by simp [ht]
    cases xs with
    | nil =>
      go_enter Tryz.func130, Tryz.ntmps130
      go_wp2
      exact bodyPost_ret (v := .tuple #[]) (by simp [results, Tryz.results130, go_sem]) rfl ⟨rfl, by simpa [packedInt] using h, WKeep.refl _ _⟩
    | cons v l =>
      have hpe : packedInt (v :: l) = le8 (u64 (leastFrom v.n (v :: l))) ++ [low (bitLen (maxOf (dif v.n (leastFrom v.n (v :: l))) (difs l (leastFrom v.n (v :: l)))) : Nat)]
        ++ packBits (bitsOf (bitLen (maxOf (dif v.n (leastFrom v.n (v :: l))) (difs l (leastFrom v.n (v :: l))))) (difs (v :: l) (leastFrom v.n (v :: l)))) := rfl
      have hle0 := leastNumber_any a cap v l w hn hx
      generalize leastFrom v.n (v :: l) = q at *
      have HPE : Hid _ := hpe
      clear hpe
      have hdf := fun W h1 h2 => differences_any a cap (v :: l) q W h1 h2
      have hds : difs (v :: l) q = dif v.n q :: difs l q := rfl
      have hlt0 := difs_lt (v :: l) q
      rw [hds] at HPE hlt0
      have hdl : (dif v.n q :: difs l q).length ≤ 64 := by simpa [difs] using hn
      have hmx : maxOf (dif v.n q) (difs l q) < 18446744073709551616 := maxOf_lt _ _ _ (hlt0 _ List.mem_cons_self) fun n hn => hlt0 n (List.mem_cons_of_mem _ hn)
      have hb64 := bitLen_le64 _ hmx
      have hR : ∃ R : List V, R = v :: l := ⟨_, rfl⟩
      obtain ⟨R, hR⟩ := hR
      have hl0 : ((R.length : Int) == 0) = false := by rw [hR]; simp; omega
      rw [← hR] at hx hn hle0 hdf hds HPE ⊢
      clear hR
      have HLE : Hid (Calls Tryz.prog 147 #[.slice a R.length cap] w fun e w' => e = .returned (.int .i64 q) ∧ Below w.heap.size w w') := hle0
      clear hle0
      generalize dif v.n q = d0 at *
      generalize difs l q = ds at *
      have HDF : Hid (∀ W, R.length ≤ 64 → Vals W a R → Calls Tryz.prog 146 #[.slice a R.length cap, .int .i64 q] W fun e w' => ∃ sv, e = .returned sv ∧ OwnC w' W.heap.size 173 sv ((difs R q).map uv) ∧ Below W.heap.size W w') := hdf
      clear hdf
      go_enter Tryz.func130, Tryz.ntmps130
      go_wp2_with fail
      refine HLE.out.mono ?_
      rintro e w1 ⟨rfl, hb1⟩
      go_wp2_with fail
      refine (HDF.out w1 hn (hx.below hb1)).mono ?_
      rintro e w2 ⟨sv, rfl, hown, hb2⟩
      have hblk := fun b hb => owns_block hown (g := b) hb
      rw [hds] at hown
      obtain ⟨a2, cap2, rfl, hc2⟩ := hown.cells
      rw [List.length_map]
      go_wp2_with fail
      refine (max_any a2 cap2 d0 ds w2 hdl hc2).mono ?_
      rintro e w3 ⟨rfl, hb3⟩
      unfold uv
      go_wp2_with fail
      refine (len64_any _ w3 hmx).mono ?_
      rintro e w4 ⟨rfl, hw4e⟩
      subst w4
      have hb13 := below_then hb1 (below_then hb2 hb3)
      have hw3 := h.below hb13
      have hc3 := hc2.below hb3
      generalize bitLen (maxOf d0 ds) = wd at *
      go_wp2_with fail
      refine (wNumber_any B g t q _ _ hw3 (by omega)).mono ?_
      rintro e w5 ⟨rfl, hw5, hk5⟩
      go_wp2_with fail
      refine (wSmall_any B g t _ _ _ hw5 (by rw [List.length_append, le8_length]; omega)).mono ?_
      rintro e w6 ⟨rfl, hw6, hk6⟩
      have hk36 := hk5.trans hk6
      have hap3 : ∀ b o, a2 = some ⟨b, o, none⟩ → Apart w3 g b := by
        intro b o hbo
        subst hbo
        have := hblk b rfl
        have s1 := hb1.size
        have s2 := hb2.size
        have s3 := hb3.size
        exact apart_new h hb13 (by omega) (by omega)
      go_wp2_with fail
      refine (wFields_any B g t _ wd a2 cap2 (d0 :: ds) _ hw6 (by simp only [List.length_append, le8_length, List.length_cons, List.length_nil]; omega) hb64 hdl hlt0 (cells_keep hc3 hk36 hap3) (apart_keep hk36 hap3)).mono ?_
      rintro e w7 ⟨rfl, hw7, hk7⟩
      go_wp2_with fail
      go_end0
      refine ⟨rfl, ?_, ((WKeep.of_below hb13 h.lt).trans hk36).trans hk7⟩
      rw [HPE.out]
      simpa using hw7

set_option maxHeartbeats 400000 in
theorem wWays_any (g : Nat) (w : World) :
    Calls Tryz.prog 101 #[.pointer (some ⟨g, 0, none⟩)] w fun e w' => e = .returned (.agg #[.func (.func 127) #[.pointer (some ⟨g, 0, none⟩)] #[], .func (.func 128) #[.pointer (some ⟨g, 0, none⟩)] #[], .func (.func 129) #[.pointer (some ⟨g, 0, none⟩)] #[], .func (.func 130) #[.pointer (some ⟨g, 0, none⟩)] #[]]) ∧ Below w.heap.size w w' := by
  have hone : ∀ (W : World) (a : Addr) f x c, (store a (.func f x c)).run Tryz.prog W = match W.cell? a with
      | some _ => if W.frozen? a then .halt (.unsupported (.unsafePointer "a write to bytes that a string shares")) W else .ok () (W.setCell a (.func f x c))
      | none => match W.farStore Tryz.prog a (.func f x c) (Mode.plain == .atomic) with
        | .ok (w', _) => .ok () w'
        | .error h => .halt h W := fun W a f x c => run_store Tryz.prog W a (.func f x c) .plain rfl
  go_enter Tryz.func101, Tryz.ntmps101
  go_wp2
  exact bodyPost_ret (v := .agg #[.func (.func 127) #[.pointer (some ⟨g, 0, none⟩)] #[], .func (.func 128) #[.pointer (some ⟨g, 0, none⟩)] #[], .func (.func 129) #[.pointer (some ⟨g, 0, none⟩)] #[], .func (.func 130) #[.pointer (some ⟨g, 0, none⟩)] #[]]) (by simp [results, Tryz.results101, go_sem]) rfl ⟨rfl, (Below.refl _ _).alloc (Nat.le_refl _) _⟩
end Go.Proofs.YtfgklnenpichcaaGreatDoor
