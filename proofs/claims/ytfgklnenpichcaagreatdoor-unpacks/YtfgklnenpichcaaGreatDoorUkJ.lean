/- What the two Unpacks answer, in one form; an append onto a row that is full. -/
import Derived.Test.YtfgklnenpichcaaGreatDoorUkH
import Derived.Test.YtfgklnenpichcaaGreatDoorKg
import Derived.Test.YtfgklnenpichcaaGreatDoorKm
import Derived.Deep.DeepCutAuto
import Derived.Deep.CutBlock
import Derived.Deep.RegionHeld3
namespace Go.Proofs.YtfgklnenpichcaaGreatDoor
open Go.RowKit

/-- What Unpack answers of a text: a type, values, a code. -/
def uT (bs : List UInt8) : Nat := match pRead bs with | none => 0 | some x => x.1
def uV (bs : List UInt8) : List V := match pRead bs with | none => [] | some x => x.2.2
def uC (bs : List UInt8) : Int := match pRead bs with | none => 3 | some _ => 0

theorem uV_le (bs : List UInt8) : (uV bs).length ≤ 64 := by
  unfold uV
  cases h : pRead bs with
  | none => simp
  | some x =>
    obtain ⟨t, how, vs⟩ := x
    exact (pRead_how h).2.2.2
theorem uC_or (bs : List UInt8) : uC bs = 0 ∨ uV bs = [] := by
  unfold uC uV
  cases pRead bs with
  | none => exact .inr rfl
  | some x => exact .inl rfl

/-- A list that Unpack gives: nil, or a row of its own, full. -/
def LIs (w : World) (B : Nat) (al : Option Addr) (vs : List V) : Prop := (al = none ∧ vs = []) ∨ ∃ b, al = some ⟨b, 0, none⟩ ∧ B ≤ b ∧ RowT w b vs []
theorem LIs.vals {w : World} {B : Nat} {al : Option Addr} {vs : List V} (h : LIs w B al vs) : Vals w al vs := by
  rcases h with ⟨_, h⟩ | ⟨b, rfl, _, hr⟩
  · exact .inl h
  · exact hr.vals
theorem LIs.of_block {w w' : World} {B : Nat} {al : Option Addr} {vs : List V} (h : LIs w B al vs) (e : ∀ b, al = some ⟨b, 0, none⟩ → b < w.heap.size → w'.heap[b]? = w.heap[b]?) : LIs w' B al vs := by
  rcases h with h | ⟨b, rfl, hb, hr⟩
  · exact .inl h
  · exact .inr ⟨b, rfl, hb, hr.of_block (e b rfl hr.lt)⟩
theorem LIs.below {w w' : World} {B : Nat} {al : Option Addr} {vs : List V} (h : LIs w B al vs) (hb : Below w.heap.size w w') : LIs w' B al vs := h.of_block fun b _ hlt => hb.block b hlt

theorem Unpack_uni (bs : List UInt8) (w : World) (hl : bs.length ≤ maxLen) (a0 a1 a2 : Addr) (he : Errs w a0 a1 a2) :
    Calls Tryz.prog 23 #[.string (str bs)] w fun e w' => Below w.heap.size w w' ∧ ∃ al, e = .returned (.tuple #[.int .i64 (uT bs : Nat), .slice al (uV bs).length (uV bs).length, fault (uC bs)]) ∧ LIs w' w.heap.size al (uV bs) := by
  refine (Unpack_any bs w hl a0 a1 a2 he).mono ?_
  unfold uT uV uC
  rintro e w' ⟨hb, ⟨hr, rfl⟩ | ⟨t, how, vs, b, hr, rfl, hbb, hrow⟩⟩
  · rw [hr]
    exact ⟨hb, none, rfl, .inl ⟨rfl, rfl⟩⟩
  · rw [hr]
    exact ⟨hb, _, rfl, .inr ⟨b, rfl, hbb, hrow⟩⟩
theorem rUnpack_uni (bs : List UInt8) (w : World) (hl : bs.length ≤ maxLen) :
    Calls Tryz.prog 24 #[.string (str bs)] w fun e w' => Below w.heap.size w w' ∧ ∃ am cap, e = .returned (.tuple #[.int .i64 (uT bs : Nat), .slice am (uV bs).length cap, fault (uC bs)]) ∧ Vals w' am (uV bs) ∧ ∀ b o, am = some ⟨b, o, none⟩ → w.heap.size ≤ b := by
  refine (rUnpack_any bs w hl).mono ?_
  unfold uT uV uC
  rintro e w' ⟨hb, ⟨hr, rfl⟩ | ⟨t, how, vs, a, cap, hr, rfl, hv, hn⟩⟩
  · rw [hr]
    exact ⟨hb, none, 0, rfl, .inl rfl, fun b o e => by simp at e⟩
  · rw [hr]
    exact ⟨hb, a, cap, rfl, hv, hn⟩

theorem RowT.own {w : World} {b B : Nat} {vs : List V} (h : RowT w b vs []) (hB : B ≤ b) (hn : vs.length ≤ maxLen) : OwnV w B (.slice (some ⟨b, 0, none⟩) vs.length vs.length) vs := by
  obtain ⟨C, hg, hC⟩ := h
  rw [List.append_nil] at hC
  have hlen : (vs.flatMap V.cells).length = vs.length * 3 := by
    clear hC hn hg
    induction vs with
    | nil => rfl
    | cons v vs ih => simp only [List.flatMap_cons, List.length_append, ih, V.cells, List.length_cons, List.length_nil]; omega
  refine ⟨hlen, .inr ⟨b, vs.length, C, rfl, hB, hg, Nat.le_refl _, hn, ?_, ?_⟩⟩
  · rw [← Array.length_toList, hC, hlen]
  · rw [hC, ← hlen, List.take_length]

/-- 'append(l, v)' onto nil or a full row: a new row; nothing that was there is touched. -/
theorem wpList_append_full {w : World} {ops : Array Oper} {rest : List Oper} {o : Oper} {a : Act} {Q : Exit → Act → World → Prop} (hgd : o.guard = none) (s x : Operand)
    (ho : o.op = .call { callee := .builtin .append, args := #[s, x], argTypes := #[37, 37] })
    (B : Nat) (al : Option Addr) (vs : List V) (n : Nat) (hn : vs.length = n) (hs : a.eval s = .slice al n n) (hl : LIs w B al vs)
    (g c : Nat) (v : V) (hx : a.eval x = .slice (some ⟨g, 0, none⟩) 1 c) (hv : VAt w g 0 v) (hlen : vs.length ≤ 1000)
    (h : ∀ cap w', Below w.heap.size w w' → Vals w' (some ⟨w.heap.size, 0, none⟩) (vs ++ [v]) → w.heap.size < w'.heap.size → wpList Tryz.prog ops Q rest (a.put o.dst (.slice (some ⟨w.heap.size, 0, none⟩) (n + 1) cap)) w') :
    wpList Tryz.prog ops Q (o :: rest) a w := by
  subst hn
  obtain ⟨i, hi, hz, hsz, hby⟩ := info_parts infoV
  have hnews : ∀ j u, v.cells[j]? = some u → w.cell? ((⟨g, 0, none⟩ : Addr).add j) = some u := by
    intro j u hj
    obtain ⟨h1, h2, h3⟩ := hv
    match j, hj with
    | 0, hj => simp [V.cells] at hj; subst hj; simpa [Addr.add] using h1
    | 1, hj => simp [V.cells] at hj; subst hj; simpa [Addr.add] using h2
    | 2, hj => simp [V.cells] at hj; subst hj; simpa [Addr.add] using h3
    | j + 3, hj => simp [V.cells] at hj
  have hone : ∀ u ∈ v.cells, u.oneCell' = true := by
    intro u hu
    simp [V.cells] at hu
    rcases hu with rfl | rfl | rfl <;> rfl
  have hvl : v.cells.length = 1 * 3 := rfl
  have hown : OwnV w 0 (.slice al vs.length vs.length) vs := by
    rcases hl with ⟨rfl, rfl⟩ | ⟨b, rfl, _, hr⟩
    · exact OwnV.nil _ _
    · exact hr.own (Nat.zero_le _) (by unfold maxLen; omega)
  obtain ⟨v', w', hr, h2, _, _, _⟩ := run_append_own_at (P := Tryz.prog) w 0 37 o.type 36 i _ 3 32 (by kernel_rfl) hi hz hsz hby rfl (by decide) _ vs.length (vs.flatMap V.cells) hown ⟨g, 0, none⟩ 1 c v.cells hvl hnews hone (by unfold maxLen; omega) (by omega) (Nat.zero_le _)
  have hv2 : OwnV w' 0 v' (vs ++ [v]) := by
    unfold OwnV
    simpa [V.cells] using h2
  have key : ∃ cap, v' = .slice (some ⟨w.heap.size, 0, none⟩) (vs.length + 1) cap ∧ Below w.heap.size w w' ∧ w.heap.size < w'.heap.size := by
    have hbd : ∀ o : Obj, Below w.heap.size w (w.drew.alloc o) ∧ w.heap.size < (w.drew.alloc o).heap.size := fun o => ⟨Below.alloc (below_drewN (Below.refl _ _) 1) (Nat.le_refl _) _, by simp⟩
    rcases hl with ⟨rfl, rfl⟩ | ⟨b, rfl, _, hrow⟩
    · have e := run_append_nil (P := Tryz.prog) w 37 o.type 36 i _ (by kernel_rfl) hi hz ⟨g, 0, none⟩ 1 c v.cells (by rw [hsz]; rfl) hnews (by decide) (by decide) (by rw [hby]; decide)
      have hr' := hr
      rw [List.length_nil] at hr'
      rw [e] at hr'
      simp only [Result.ok.injEq] at hr'
      obtain ⟨rfl, rfl⟩ := hr'
      exact ⟨_, rfl, hbd _⟩
    · have holds : ∀ j u, (vs.flatMap V.cells)[j]? = some u → w.cell? ((⟨b, 0, none⟩ : Addr).add j) = some u := World.ownsRow.cells hown rfl
      have e := run_append_grow (P := Tryz.prog) w 37 o.type 36 i _ (by kernel_rfl) hi hz ⟨b, 0, none⟩ vs.length vs.length (vs.flatMap V.cells) (by rw [hsz]; exact hown.1) holds ⟨g, 0, none⟩ 1 c v.cells (by rw [hsz]; rfl) hnews (by omega) (by omega) (growslice_fits (by omega) (by rw [hby]; omega))
      rw [e] at hr
      simp only [Result.ok.injEq] at hr
      obtain ⟨rfl, rfl⟩ := hr
      exact ⟨_, rfl, hbd _⟩
  obtain ⟨cap, rfl, hb, hlt⟩ := key
  obtain ⟨a2, cap2, e2, hvals⟩ := hv2.vals
  simp at e2
  obtain ⟨rfl, _⟩ := e2
  refine wpList_plain hgd fun K hK => ?_
  unfold Oper.wp execOp
  simp only [ho, resolve, invoke, builtin, Sem.run_bind, Sem.run_pure, Result.andThen_ok, List.map_toArray, List.map_cons, List.map_nil, hs, hx, hr]
  exact hK _ _ (h cap w' hb hvals hlt)

/-- The law's mark. -/
def mark1 : V := ⟨-7, 1, ⟨#[109, 97, 114, 107]⟩⟩
end Go.Proofs.YtfgklnenpichcaaGreatDoor

/-! The law Unpacks: one text, walked. -/
namespace Go.Proofs.YtfgklnenpichcaaGreatDoor
open Go.RowKit

/-- What may have been turned since: the row that al names, nothing else that was there. -/
structure Turned (al : Option Addr) (w w' : World) : Prop where
  os : w'.os = w.os
  tape : w'.tape = w.tape
  output : w'.output = w.output
  size : w.heap.size ≤ w'.heap.size
  block : ∀ k, k < w.heap.size → al ≠ some ⟨k, 0, none⟩ → w'.heap[k]? = w.heap[k]?
theorem Turned.of_below {al : Option Addr} {w w' : World} (h : Below w.heap.size w w') : Turned al w w' := ⟨h.os, h.tape, h.output, h.size, fun k hk _ => h.block k hk⟩
theorem Turned.trans {al : Option Addr} {a b c : World} (h : Turned al a b) (k : Turned al b c) : Turned al a c :=
  ⟨k.os.trans h.os, k.tape.trans h.tape, k.output.trans h.output, Nat.le_trans h.size k.size, fun i hi hn => (k.block i (Nat.lt_of_lt_of_le hi h.size) hn).trans (h.block i hi hn)⟩
theorem Turned.set {b : Nat} {w w' : World} (h : Turned (some ⟨b, 0, none⟩) w w') (i : Nat) (v : Value) : Turned (some ⟨b, 0, none⟩) w (w'.setCell ⟨b, i, none⟩ v) :=
  ⟨h.os, h.tape, h.output, by simpa [World.setCell] using h.size, fun k hk hn => (Below.heap_setCell _ _ _ _ (by show k ≠ b; intro e; subst e; exact hn rfl)).trans (h.block k hk hn)⟩
theorem Turned.below {al : Option Addr} {w0 w w' : World} {B : Nat} (h0 : Below B w0 w) (h : Turned al w w') (hB : ∀ b, al = some ⟨b, 0, none⟩ → B ≤ b) (hs : B ≤ w.heap.size) : Below B w0 w' :=
  ⟨h.os.trans h0.os, h.tape.trans h0.tape, h.output.trans h0.output, Nat.le_trans h0.size h.size, fun k hk => (h.block k (by omega) (fun e => by have := hB k e; omega)).trans (h0.block k hk)⟩

/-- A fault that lies in a block of its own. -/
def FAt (w : World) (p : Nat) (c : Int) : Prop := w.heap[p]? = some (.cells #[.int .i64 c, .int .i64 (-1), .int .i64 (-1), .int .i64 (-1), .int .i64 (-1)] 43 (0, 0))
theorem FAt.new (w : World) (c : Int) : FAt (w.alloc (.cells #[.int .i64 c, .int .i64 (-1), .int .i64 (-1), .int .i64 (-1), .int .i64 (-1)] 43)) w.heap.size c := heap_alloc_new _ _
theorem FAt.lt {w : World} {p : Nat} {c : Int} (h : FAt w p c) : p < w.heap.size := lt_of_heap h
theorem FAt.of_block {w w' : World} {p : Nat} {c : Int} (h : FAt w p c) (e : w'.heap[p]? = w.heap[p]?) : FAt w' p c := e.trans h
theorem FAt.below {w w' : World} {p : Nat} {c : Int} (h : FAt w p c) (hb : Below w.heap.size w w') : FAt w' p c := h.of_block (hb.block p h.lt)
theorem FAt.turned {al : Option Addr} {w w' : World} {p : Nat} {c : Int} (h : FAt w p c) (ht : Turned al w w') (hn : al ≠ some ⟨p, 0, none⟩) : FAt w' p c := h.of_block (ht.block p h.lt hn)
theorem FAt.cells {w : World} {p : Nat} {c : Int} (h : FAt w p c) : w.cell? ⟨p, 0, none⟩ = some (.int .i64 c) ∧ w.cell? ⟨p, 1, none⟩ = some (.int .i64 (-1)) ∧ w.cell? ⟨p, 2, none⟩ = some (.int .i64 (-1)) ∧ w.cell? ⟨p, 3, none⟩ = some (.int .i64 (-1)) ∧ w.cell? ⟨p, 4, none⟩ = some (.int .i64 (-1)) := by
  unfold FAt at h
  refine ⟨?_, ?_, ?_, ?_, ?_⟩ <;> simp [World.cell?, h]
theorem below_fault (w : World) (c : Int) : Below w.heap.size w (w.alloc (.cells #[.int .i64 c, .int .i64 (-1), .int .i64 (-1), .int .i64 (-1), .int .i64 (-1)] 43)) := (Below.refl _ _).alloc (Nat.le_refl _) _

/-- The list with its first k values turned to marks. -/
def marked (vs : List V) (k : Nat) : List V := List.replicate k mark1 ++ vs.drop k
theorem marked_length (vs : List V) (k : Nat) (h : k ≤ vs.length) : (marked vs k).length = vs.length := by simp [marked]; omega
theorem marked_set (vs : List V) (k : Nat) (h : k < vs.length) : (marked vs k).set k mark1 = marked vs (k + 1) := by
  unfold marked
  rw [List.set_append_right _ _ (by simp), List.length_replicate, Nat.sub_self, List.drop_eq_getElem_cons h, List.set_cons_zero, List.replicate_succ', List.append_assoc]
  rfl
theorem marked_all (vs : List V) : marked vs vs.length = List.replicate vs.length mark1 := by simp [marked]

theorem run_eql_mark (W : World) : (binOp .eql 36 (.agg #[.int .i64 (-7), .int .i64 1, .string ⟨#[109, 97, 114, 107]⟩]) (.agg #[.int .i64 (-7), .int .i64 1, .string ⟨#[109, 97, 114, 107]⟩])).run Tryz.prog W = .ok (.bool true) W := run_eql_same mark1 mark1 rfl W

set_option maxRecDepth 100000 in
set_option maxHeartbeats 1000000 in
theorem unpacked_any (bs : List UInt8) (w : World) (hl : bs.length ≤ maxLen) (a0 a1 a2 : Addr) (he : Errs w a0 a1 a2) :
    Calls Tryz.prog 7 #[.string (str bs)] w fun e w' => e = .returned (.bool true) ∧ Below w.heap.size w w' := by
  have hUni : ∀ W, Errs W a0 a1 a2 → Calls Tryz.prog 23 #[.string (str bs)] W fun e w' => Below W.heap.size W w' ∧ ∃ al, e = .returned (.tuple #[.int .i64 (uT bs : Nat), .slice al (uV bs).length (uV bs).length, fault (uC bs)]) ∧ LIs w' W.heap.size al (uV bs) := fun W h => Unpack_uni bs W hl a0 a1 a2 h
  have hRef : ∀ W, Calls Tryz.prog 24 #[.string (str bs)] W fun e w' => Below W.heap.size W w' ∧ ∃ am cap, e = .returned (.tuple #[.int .i64 (uT bs : Nat), .slice am (uV bs).length cap, fault (uC bs)]) ∧ Vals w' am (uV bs) ∧ ∀ b o, am = some ⟨b, o, none⟩ → W.heap.size ≤ b := fun W => rUnpack_uni bs W hl
  have hvl := uV_le bs
  have HCO : Hid (uC bs = 0 ∨ uV bs = []) := uC_or bs
  generalize uT bs = T at *
  generalize uV bs = vs at *
  generalize uC bs = C at *
  have hnot := not_unary
  have hqn := run_neq_F C
  go_enter Tryz.func7, Tryz.ntmps7
  go_wp2_with fail
  refine (hUni w he).mono ?_
  rintro e w1 ⟨hb1, al, rfl, hL1⟩
  have hba1 := below_fault w1 C
  have hF1 := FAt.new w1 C
  have hs1 := hb1.size
  go_wp2_with fail
  generalize w1.alloc (.cells #[.int .i64 C, .int .i64 (-1), .int .i64 (-1), .int .i64 (-1), .int .i64 (-1)] 43) = w1a at *
  refine (hRef w1a).mono ?_
  rintro e w2 ⟨hb2, am, cap, rfl, hvm, hmn⟩
  clear hRef
  have hba2 := below_fault w2 C
  have hF2 := FAt.new w2 C
  have hs2 := hb2.size
  have hl1 := hF1.lt
  go_wp2_with fail
  generalize w2.alloc (.cells #[.int .i64 C, .int .i64 (-1), .int .i64 (-1), .int .i64 (-1), .int .i64 (-1)] 43) = w2a at *
  have hb12 := below_then hb2 hba2
  refine (sameValues_any al am _ _ vs vs w2a (by unfold maxLen; omega) (hL1.below (below_then hba1 hb12)).vals (hvm.below hba2) true ⟨fun _ => rfl, fun _ => rfl⟩).mono ?_
  rintro e w3 ⟨rfl, hb3⟩
  have hb13 := below_then hb12 hb3
  have hL3 := hL1.below (below_then hba1 hb13)
  have hF13 := hF1.below hb13
  have hF23 := hF2.below hb3
  have hvm3 := hvm.below (below_then hba2 hb3)
  have hb03 := below_then hb1 (below_then hba1 hb13)
  have hs2a := hba2.size
  have hs3 := hb3.size
  have hl2 := hF2.lt
  have hrowb : ∀ b, al = some ⟨b, 0, none⟩ → w.heap.size ≤ b ∧ b < w1.heap.size := fun b e => by
    rcases hL1 with ⟨e2, _⟩ | ⟨b', e2, hb', hr⟩
    · rw [e] at e2; simp at e2
    · rw [e] at e2
      simp at e2
      subst e2
      exact ⟨hb', hr.lt⟩
  clear hba1 hb2 hb12 hba2 hb3 hb13 hb1 hF1 hF2 hvm hL1
  go_upto_region 4 with fail
  go_cut [53] from 17 to 53 (fun s wx => s = .bool false ∧ wx = w3)
  case first =>
    obtain ⟨c0, c1, c2, c3, c4⟩ := hF13.cells
    obtain ⟨d0, d1, d2, d3, d4⟩ := hF23.cells
    by_cases hC : C = 0
    · have hCb : (C != 0) = false := by simp [hC]
      clear hC
      go_wp2
      go_meet
      exact ⟨rfl, rfl⟩
    · have hCb : (C != 0) = true := by simp [hC]
      have hv0 : vs = [] := by rcases HCO.out with e | e
                               · exact absurd e hC
                               · exact e
      have hn0 : ((vs.length : Int) != 0) = false := by rw [hv0]; rfl
      clear hC hv0
      go_wp2
      go_meet
      exact ⟨rfl, rfl⟩
  case rest =>
  obtain ⟨rfl, hwc⟩ := hcut
  subst wc
  clear hF13
  go_upto_block 0 with fail
  go_cut [] from 54 to 63 (fun wx => Turned al w3 wx ∧ LIs wx w.heap.size al (List.replicate vs.length mark1))
  case first =>
    go_wp2_with fail
    go_loopw [10] (fun i wr => ∃ k : Nat, k ≤ vs.length ∧ i = .int .i64 k ∧ LIs wr w.heap.size al (marked vs k) ∧ Turned al w3 wr) (fun i _ => vs.length - (intOf i).toNat)
    case atStart => exact ⟨0, Nat.zero_le _, rfl, by simpa [marked] using hL3, Turned.of_below (Below.refl _ _)⟩
    case round =>
      clear hL3
      obtain ⟨k, hk, rfl, hL, ht⟩ := hrel
      by_cases hlt : k < vs.length
      · have hml := marked_length vs k hk
        rcases hL with ⟨_, e⟩ | ⟨b, rfl, hwb, hrow⟩
        · rw [e] at hml; simp at hml; omega
        · go_wp2_with fail
          refine (mark_any 1 _).mono ?_
          rintro e w5 ⟨rfl, hb5⟩
          have hrow5 := hrow.of_block (hb5.block _ hrow.lt)
          obtain ⟨⟨⟨c0, d0⟩, ⟨c1, d1⟩, ⟨c2, d2⟩⟩, hset⟩ := hrow5.at3 mark1 k (by omega)
          rw [marked_set vs k hlt] at hset
          have HSET : Hid _ := hset
          clear hset
          generalize (marked vs k)[k] = uu at *
          clear hml
          go_wp2
          go_roundw
          case rel => exact ⟨k + 1, by omega, by go_num, .inr ⟨b, rfl, hwb, HSET.out⟩, (((ht.trans (Turned.of_below hb5)).set _ _).set _ _).set _ _⟩
          case measure => simp [intOf]; omega
      · have hkn : k = vs.length := by omega
        subst hkn
        rw [marked_all] at hL
        go_wp2
        go_meet
        exact ⟨ht, hL⟩
  case rest =>
  obtain ⟨ht4, hL4⟩ := hcut
  rename World => w4
  clear hL3
  have hF24 : FAt w4 w2.heap.size C := hF23.turned ht4 fun e => by have := (hrowb _ e).2; omega
  have hvm4 : Vals w4 am vs := hvm3.of_block ht4.size fun b o e hlt => ht4.block b hlt fun e2 => by have := (hrowb _ e2).2; have := hmn b o e; omega
  have hb04 : Below w.heap.size w w4 := Turned.below hb03 ht4 (fun b e => (hrowb b e).1) (by omega)
  have hs4 := ht4.size
  have HML : Hid ((List.replicate vs.length mark1).length = vs.length) := List.length_replicate
  have hms : ∀ k (hk : k < vs.length), (List.replicate vs.length mark1)[k]'(by rw [List.length_replicate]; exact hk) = mark1 := fun k hk => List.getElem_replicate ..
  have HMS : Hid (∀ k v, (List.replicate vs.length mark1)[k]? = some v → v = mark1) := fun k v hk => by
    rw [List.getElem?_replicate] at hk
    split at hk
    · simpa using hk.symm
    · simp at hk
  clear hms
  have hb04s := hb04.size
  clear hF23 hvm3 hb03 ht4
  generalize List.replicate vs.length mark1 = MS at *
  have hm64 : MS.length ≤ 1000 := by rw [HML.out]; omega
  go_wp2_with fail
  refine (mark_any 1 w4).mono ?_
  rintro e w5 ⟨rfl, hb5⟩
  have hL5 := hL4.below hb5
  have hbm : Below w5.heap.size w5 (w5.alloc (.cells #[.int .i64 (-7), .int .i64 1, .string ⟨#[109, 97, 114, 107]⟩] 36)) := (Below.refl _ _).alloc (Nat.le_refl _) _
  go_wp2_with (at_builtin; go_must (refine wpList_append_full (by rfl) _ _ (by rfl) w.heap.size al MS vs.length HML.out (by rfl) (hL5.below ((Below.refl _ _).alloc (Nat.le_refl _) _)) _ _ mark1 (by rfl) (by refine ⟨?_, ?_, ?_⟩ <;> simp [mark1]) hm64 ?_); intro capx w6 hb6 hv6 hlt6)
  have hb46 := below_then hb5 (below_then hbm hb6)
  simp only [World.size_alloc] at hv6 hlt6 ⊢
  obtain ⟨XB, hXB⟩ : ∃ XB, XB = w5.heap.size + 1 := ⟨_, rfl⟩
  rw [← hXB] at hv6 hlt6 ⊢
  clear hXB hbm hb6 hL5 hb5
  have hb06 := below_then hb04 hb46
  have hL6 := hL4.below hb46
  have hF26 := hF24.below hb46
  have hvm6 := hvm4.below hb46
  clear hL4 hF24 hvm4 hb04 hb46
  refine (hUni w6 (he.below hb06)).mono ?_
  rintro e w7 ⟨hb7, al2, rfl, hL7⟩
  clear hUni
  have hba7 := below_fault w7 C
  have hF7 := FAt.new w7 C
  have hs7 := hb7.size
  go_wp2_with fail
  generalize w7.alloc (.cells #[.int .i64 C, .int .i64 (-1), .int .i64 (-1), .int .i64 (-1), .int .i64 (-1)] 43) = w7a at *
  have hb67 := below_then hb7 hba7
  refine (sameValues_any al2 am _ _ vs vs w7a (by unfold maxLen; omega) (hL7.below hba7).vals (hvm6.below hb67) true ⟨fun _ => rfl, fun _ => rfl⟩).mono ?_
  rintro e w8 ⟨rfl, hb8⟩
  have hb68 := below_then hb67 hb8
  have hb08 := below_then hb06 hb68
  have hL8 := hL6.below hb68
  have hF28 := hF26.below hb68
  have hF78 := hF7.below hb8
  have hv8 := hv6.below hb68
  clear hb7 hba7 hF7 hb67 hb8 hL6 hF26 hv6 hL7 hb06 hb68 hvm6
  have hqe := run_eql_F C
  have hqm := run_eql_mark
  go_wp2_with fail
  go_loopw [9, 16] (fun okv i wr => ∃ k : Nat, k ≤ vs.length ∧ i = .int .i64 k ∧ okv = .bool true ∧ Below w8.heap.size w8 wr) (fun _ i _ => vs.length - (intOf i).toNat)
  case atStart => exact ⟨0, Nat.zero_le _, rfl, rfl, Below.refl _ _⟩
  case round =>
    obtain ⟨k, hk, rfl, rfl, hbw⟩ := hrel
    by_cases hlt : k < vs.length
    · rcases hL8.below hbw with ⟨_, e⟩ | ⟨b, rfl, _, hrow⟩
      · have := HML.out; rw [e] at this; simp at this; omega
      · have hkM : k < MS.length := by rw [HML.out]; exact hlt
        obtain ⟨b2, o2, e2, hb2, x1, x2, x3⟩ := hrow.vals.at hkM
        simp at e2
        obtain ⟨rfl, rfl⟩ := e2
        have hmk : MS[k] = mark1 := HMS.out k _ (List.getElem?_eq_getElem hkM)
        rw [hmk] at x1 x2 x3
        simp only [mark1, Nat.zero_add] at x1 x2 x3
        clear hmk
        have j0 : (0 : Int) ≤ (k : Int) := by omega
        have j1 : (k : Int) < (vs.length : Int) := by omega
        go_wp2_with fail
        go_region_held3 (fun X => X.cell? ⟨b, k * 3, none⟩ = some (.int .i64 (-7)) ∧ X.cell? ⟨b, k * 3 + 1, none⟩ = some (.int .i64 1) ∧ X.cell? ⟨b, k * 3 + 2, none⟩ = some (.string ⟨#[109, 97, 114, 107]⟩))
          (first | go_keep | (go_split_ands; refine ⟨?_, ?_, ?_⟩ <;> (rw [(below_keep hbm).1 _ _ (by first | exact hb2 | assumption)]; assumption)))
          (first | (go_at_call 26; refine (mark_any _ _).mono ?_; rintro e wm ⟨rfl, hbm⟩; have hbx : Below w8.heap.size w8 wm := (by first | exact below_then hbw (below_undrew hbm) | exact below_then hbw hbm)))
        go_wp2
        go_roundw
        case rel => exact ⟨k + 1, by omega, by go_num, rfl, hbx⟩
        case measure => simp [intOf]; omega
    · obtain ⟨c0, c1, c2, c3, c4⟩ := (hF28.below hbw).cells
      obtain ⟨d0, d1, d2, d3, d4⟩ := (hF78.below hbw).cells
      have hlX : vs.length < (MS ++ [mark1]).length := by rw [List.length_append, HML.out]; simp
      obtain ⟨b2, o2, e2, hb2, x1, x2, x3⟩ := (hv8.below hbw).at hlX
      simp at e2
      obtain ⟨rfl, rfl⟩ := e2
      have hmk : (MS ++ [mark1])[vs.length] = mark1 := by
        rw [List.getElem_append_right (by rw [HML.out]; exact Nat.le_refl _)]
        simp
      rw [hmk] at x1 x2 x3
      simp only [mark1, Nat.zero_add] at x1 x2 x3
      have hl28 := (hF28.below hbw).lt
      have hl78 := (hF78.below hbw).lt
      clear hmk hlX
      have j0 : (0 : Int) ≤ (vs.length : Int) := by omega
      have j1 : (vs.length : Int) < (vs.length : Int) + 1 := by omega
      go_wp2_with fail
      go_region_held3 (fun X => X.cell? ⟨w2.heap.size, 0, none⟩ = some (.int .i64 C) ∧ X.cell? ⟨w2.heap.size, 1, none⟩ = some (.int .i64 (-1)) ∧ X.cell? ⟨w2.heap.size, 2, none⟩ = some (.int .i64 (-1)) ∧ X.cell? ⟨w2.heap.size, 3, none⟩ = some (.int .i64 (-1)) ∧ X.cell? ⟨w2.heap.size, 4, none⟩ = some (.int .i64 (-1)) ∧ X.cell? ⟨w7.heap.size, 0, none⟩ = some (.int .i64 C) ∧ X.cell? ⟨w7.heap.size, 1, none⟩ = some (.int .i64 (-1)) ∧ X.cell? ⟨w7.heap.size, 2, none⟩ = some (.int .i64 (-1)) ∧ X.cell? ⟨w7.heap.size, 3, none⟩ = some (.int .i64 (-1)) ∧ X.cell? ⟨w7.heap.size, 4, none⟩ = some (.int .i64 (-1)) ∧ X.cell? ⟨XB, vs.length * 3, none⟩ = some (.int .i64 (-7)) ∧ X.cell? ⟨XB, vs.length * 3 + 1, none⟩ = some (.int .i64 1) ∧ X.cell? ⟨XB, vs.length * 3 + 2, none⟩ = some (.string ⟨#[109, 97, 114, 107]⟩))
        (first | go_keep | (go_split_ands; refine ⟨?_, ?_, ?_, ?_, ?_, ?_, ?_, ?_, ?_, ?_, ?_, ?_, ?_⟩ <;> (rw [(below_keep hbm).1 _ _ (by first | exact hl28 | exact hl78 | exact hb2 | assumption)]; assumption)))
        (first | (go_at_call 26; refine (mark_any _ _).mono ?_; rintro e wm ⟨rfl, hbm⟩; have hbx : Below w8.heap.size w8 wm := (by first | exact below_then hbw (below_undrew hbm) | exact below_then hbw hbm)))
      go_wp2
      go_ret
      exact ⟨rfl, below_then hb08 hbx⟩
end Go.Proofs.YtfgklnenpichcaaGreatDoor

/-! The law Unpacks, walked. -/
namespace Go.Proofs.YtfgklnenpichcaaGreatDoor
open Go.RowKit

set_option maxHeartbeats 400000 in
theorem unpacksLaw_any (bs : List UInt8) (w : World) (hl : bs.length ≤ maxLen) (a0 a1 a2 : Addr) (he : Errs w a0 a1 a2) :
    Calls Tryz.prog 3 #[.string (str bs)] w fun e w' => e = .returned (.bool true) ∧ Below w.heap.size w w' := by
  go_enter Tryz.func3, Tryz.ntmps3
  go_wp2_with fail
  refine (unpacked_any [1, 3, 3, 7, 7, 0, 0, 0, 0, 0, 0, 0, 2, 24] w (by decide) a0 a1 a2 he).mono ?_
  rintro e w1 ⟨rfl, hb1⟩
  go_wp2_with fail
  refine (unpacked_any bs w1 hl a0 a1 a2 (he.below hb1)).mono ?_
  rintro e w2 ⟨rfl, hb2⟩
  go_wp2
  go_ret
  exact ⟨rfl, below_then hb1 hb2⟩
end Go.Proofs.YtfgklnenpichcaaGreatDoor
