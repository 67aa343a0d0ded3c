/- Segments laid on the disk, and let go. -/
import Derived.Test.YtfgklnenpichcaaGreatDoorTc
import Derived.Test.YtfgklnenpichcaaGreatDoorDg
namespace Go.Proofs.YtfgklnenpichcaaGreatDoor
open Go.RowKit

def relAll (D : DS) (ls : List (List Nat)) : DS := ls.foldl relD D
theorem relAll_snoc (D : DS) (ls : List (List Nat)) (l : List Nat) : relAll D (ls ++ [l]) = relD (relAll D ls) l := by simp [relAll]

set_option maxRecDepth 100000 in
set_option maxHeartbeats 1000000 in
theorem tRelease_any (s d : Nat) (a : Option Addr) (cap : Nat) (hs : List (Option Addr × Nat)) (ls : List (List Nat)) (w : World) (F G : Nat → Prop) (D : DS) (h : DiskAt w F d D) (hl : SegsAt w G a hs ls) (hFG : ∀ k, G k → ¬ F k) (hs0 : w.cell? ⟨s, 0, none⟩ = some (.pointer (some ⟨d, 0, none⟩))) (hsF : ¬ F s) (hsm : ls.length ≤ 1000000) (hsl : ∀ l ∈ ls, l.length ≤ 1000000) :
    Calls Tryz.prog 62 #[.pointer (some ⟨s, 0, none⟩), .slice a ls.length cap] w fun e w' => e = .returned (.tuple #[]) ∧ DiskAt w' F d (relAll D ls) ∧ Keep F w w' := by
  have HS : Hid (∀ l ∈ ls, l.length ≤ 1000000) := hsl
  clear hsl
  go_enter Tryz.func62, Tryz.ntmps62
  go_wp2
  go_loopw [8] (fun i wr => ∃ k : Nat, k ≤ ls.length ∧ i = .int .i64 k ∧ DiskAt wr F d (relAll D (ls.take k)) ∧ Keep F w wr) (fun i _ => ls.length - (intOf i).toNat)
  case atStart => exact ⟨0, Nat.zero_le _, rfl, by simpa [relAll] using h, Keep.refl _ _⟩
  case round =>
    rename_i i
    obtain ⟨k, hk, rfl, hD, hkeep⟩ := hrel
    by_cases hlt : k < ls.length
    · have HT : Hid (relAll D (ls.take (k + 1)) = relD (relAll D (ls.take k)) ls[k]) := by
        show relAll D (ls.take (k + 1)) = _
        rw [List.take_succ_eq_append_getElem hlt, relAll_snoc]
      have hlr := hl.stands hkeep.size fun b hb hlt => hkeep.block b hlt (hFG b hb)
      obtain ⟨b, o, ra, rc, rfl, hbF, hbl, cb, hcs, hra⟩ := hlr.at hlt
      have c0 := hkeep.cell hs0 hsF
      have hrl := dRelease_any d ra rc ls[k] wr F _ hD hcs (fun b o hb => hFG b (hra b o hb)) (HS.out _ (List.getElem_mem hlt))
      go_wp2_with (go_at_call 91; refine hrl.mono ?_; rintro e W1 ⟨rfl, hd1, hk1⟩)
      go_roundw
      case rel => exact ⟨k + 1, by omega, by go_num, by rw [HT.out]; exact hd1, hkeep.trans hk1⟩
      case measure => simp [intOf]; omega
    · obtain rfl : k = ls.length := by omega
      rw [List.take_length] at hD
      go_wp2
      go_end0
      exact ⟨rfl, hD, hkeep⟩

/-- What comes of laying texts: the disk, the pages of each, and whether the disk was full (true) or failed (false). -/
def layAll (D : DS) : List (List UInt8) → DS × List (List Nat) × Option Bool
  | [] => (D, [], none)
  | t :: ts => match layL D (pieces t) with
    | (E, l, none) => ((layAll E ts).1, l :: (layAll E ts).2.1, (layAll E ts).2.2)
    | (E, l, some x) => (relD E l, [], some x)
def behindS (ls : List (List Nat)) (r : DS × List (List Nat) × Option Bool) : DS × List (List Nat) × Option Bool := (r.1, ls ++ r.2.1, r.2.2)
theorem behindS_more {ls : List (List Nat)} {D E : DS} {t : List UInt8} {ts : List (List UInt8)} {l : List Nat} (h : layL D (pieces t) = (E, l, none)) : behindS ls (layAll D (t :: ts)) = behindS (ls ++ [l]) (layAll E ts) := by
  simp [behindS, layAll, h]
theorem behindS_err {ls : List (List Nat)} {D E : DS} {t : List UInt8} {ts : List (List UInt8)} {l : List Nat} {x : Bool} (h : layL D (pieces t) = (E, l, some x)) : behindS ls (layAll D (t :: ts)) = (relD E l, ls, some x) := by
  simp [behindS, layAll, h]

structure LayingS (w0 : World) (F0 : Nat → Prop) (w : World) (d : Nat) (E : DS) (sv : Value) (hs : List (Option Addr × Nat)) (ls : List (List Nat)) (FD : Nat → Prop) : Prop where
  disk : DiskAt w FD d E
  from_ : ∀ k, FD k → F0 k ∨ w0.heap.size ≤ k
  lt : ∀ k, FD k → k < w.heap.size
  own : OwnC w w0.heap.size 23 sv (List.zipWith segV hs ls)
  len : hs.length = ls.length
  segs : ∀ (i : Nat) h l, hs[i]? = some h → ls[i]? = some l → Cells w h.1 (l.map nv)
  new : ∀ (i : Nat) h, hs[i]? = some h → ∀ b o, h.1 = some ⟨b, o, none⟩ → w0.heap.size ≤ b ∧ b < w.heap.size ∧ ¬ FD b ∧ sv.ownBlock ≠ some b
  apart : ∀ g, sv.ownBlock = some g → ¬ FD g
  keep : Keep F0 w0 w

theorem LayingS.stand {w0 w w' : World} {F0 FD : Nat → Prop} {d : Nat} {E : DS} {sv : Value} {hs : List (Option Addr × Nat)} {ls : List (List Nat)} (h : LayingS w0 F0 w d E sv hs ls FD) (hk : Keep FD w w') :
    OwnC w' w0.heap.size 23 sv (List.zipWith segV hs ls) ∧ Keep F0 w0 w' ∧ (∀ (i : Nat) x l, hs[i]? = some x → ls[i]? = some l → Cells w' x.1 (l.map nv)) :=
  ⟨own_of_block h.own fun g hg => hk.block g (own_block_ge h.own hg) (h.apart g hg), h.keep.trans' hk fun k hk' hf => (h.from_ k hf).resolve_right (by omega),
    fun i x l hx hl => (h.segs i x l hx hl).of_block hk.size fun b o hb hlt => hk.block b hlt (h.new i x hx b o hb).2.2.1⟩

theorem zipWith_snoc (hs : List (Option Addr × Nat)) (ls : List (List Nat)) (h : hs.length = ls.length) (x : Option Addr × Nat) (l : List Nat) : List.zipWith segV (hs ++ [x]) (ls ++ [l]) = List.zipWith segV hs ls ++ [segV x l] := by
  rw [List.zipWith_append h]; rfl
theorem get_snoc {α : Type} {xs : List α} {x y : α} {i : Nat} (h : (xs ++ [x])[i]? = some y) : (i < xs.length ∧ xs[i]? = some y) ∨ (i = xs.length ∧ x = y) := by
  rcases Nat.lt_or_ge i xs.length with h' | h'
  · rw [List.getElem?_append_left h'] at h
    exact .inl ⟨h', h⟩
  · rw [List.getElem?_append_right h'] at h
    rcases Nat.lt_or_ge (i - xs.length) 1 with h2 | h2
    · have : i - xs.length = 0 := by omega
      rw [this] at h
      simp at h
      exact .inr ⟨by omega, h⟩
    · rw [List.getElem?_eq_none (by simpa using h2)] at h
      simp at h

theorem LayingS.more {w0 wr W1 w3 : World} {F0 FD FD1 : Nat → Prop} {d : Nat} {E E1 : DS} {sv sv' : Value} {hs : List (Option Addr × Nat)} {ls : List (List Nat)} (h : LayingS w0 F0 wr d E sv hs ls FD) (hk1 : Keep FD wr W1) (hd : DiskAt W1 FD1 d E1) (hfr : ∀ k, FD1 k → FD k ∨ wr.heap.size ≤ k) (hlt : ∀ k, FD1 k → k < W1.heap.size)
    (a1 : Option Addr) (c1 : Nat) (l : List Nat) (how : OwnC W1 wr.heap.size 3 (.slice a1 l.length c1) (l.map nv)) (hap : ∀ g, (Value.slice a1 l.length c1).ownBlock = some g → ¬ FD1 g) (o : Obj)
    (hown : OwnC w3 w0.heap.size 23 sv' (List.zipWith segV hs ls ++ [.slice a1 l.length c1])) (hg : (W1.alloc o).grownBy w3 sv.ownBlock) (hb : sv'.ownBlock = sv.ownBlock ∨ sv'.ownBlock = some (W1.alloc o).heap.size) :
    LayingS w0 F0 w3 d E1 sv' (hs ++ [(a1, c1)]) (ls ++ [l]) FD1 := by
  have hsz := hg.size
  rw [World.size_alloc] at hsz
  have hs1 := hk1.size
  have hks := h.keep.size
  have hold : ∀ g, sv.ownBlock = some g → g < wr.heap.size := fun g hg => own_block_ge h.own hg
  have hst : ∀ k, k < W1.heap.size → sv.ownBlock ≠ some k → w3.heap[k]? = W1.heap[k]? := fun k hk hne => (hg.block k (by simp; omega) (Ne.symm hne)).trans (Below.heap_alloc W1 o k hk)
  have hnew : ∀ b, b < W1.heap.size → sv.ownBlock ≠ some b → sv'.ownBlock ≠ some b := fun b hb' hne e => by
    rcases hb with e2 | e2
    · exact hne (e2 ▸ e)
    · rw [e2] at e
      simp at e
      omega
  have hown1 : ∀ g, (Value.slice a1 l.length c1).ownBlock = some g → wr.heap.size ≤ g ∧ g < W1.heap.size := fun g hg => owns_block how hg
  have hone : ∀ b o, a1 = some ⟨b, o, none⟩ → (Value.slice a1 l.length c1).ownBlock = some b := (own_slice how).2
  obtain ⟨_, hkk, hsegs⟩ := h.stand hk1
  refine ⟨hd.stands fun k hk hl => hst k hl fun e => ?_, fun k hk => ?_, fun k hk => Nat.lt_of_lt_of_le (hlt k hk) (by omega), ?_, by simp [h.len], ?_, ?_, fun g hg' => ?_, ?_⟩
  · rcases hfr k hk with hf | hf
    · exact h.apart k e hf
    · have := hold k e; omega
  · rcases hfr k hk with hf | hf
    · exact h.from_ k hf
    · exact .inr (by omega)
  · rw [zipWith_snoc hs ls h.len]; exact hown
  · intro i x l' hx hl'
    rcases get_snoc hx with ⟨hi, hx⟩ | ⟨hi, rfl⟩
    · rw [List.getElem?_append_left (by rw [← h.len]; exact hi)] at hl'
      exact (hsegs i x l' hx hl').of_block (by omega) fun b o hb' hlt' => hst b hlt' (h.new i x hx b o hb').2.2.2
    · rw [hi, h.len, List.getElem?_append_right (Nat.le_refl _)] at hl'
      simp at hl'
      subst hl'
      exact (own_slice how).1.of_block (by omega) fun b o hb' hlt' => hst b hlt' fun e => by have := hold b e; have := (hown1 b (hone b o hb')).1; omega
  · intro i x hx b o hbo
    rcases get_snoc hx with ⟨hi, hx⟩ | ⟨hi, rfl⟩
    · obtain ⟨n1, n2, n3, n4⟩ := h.new i x hx b o hbo
      refine ⟨n1, by omega, fun hf => ?_, hnew b (by omega) n4⟩
      rcases hfr b hf with hf | hf
      · exact n3 hf
      · omega
    · have hg1 := hone b o hbo
      obtain ⟨g1, g2⟩ := hown1 b hg1
      exact ⟨by omega, by omega, hap b hg1, hnew b g2 fun e => by have := hold b e; omega⟩
  · intro hf
    rcases hb with e | e
    · rw [e] at hg'
      rcases hfr g hf with hf | hf
      · exact h.apart g hg' hf
      · have := hold g hg'; omega
    · rw [e] at hg'
      simp at hg'
      have := hlt g hf
      omega
  · refine ⟨hg.os.trans hkk.os, hg.tape.trans hkk.tape, hg.output.trans hkk.output, Nat.le_trans hkk.size (by omega), fun k hk' hn => ?_⟩
    refine (hst k (Nat.lt_of_lt_of_le hk' hkk.size) fun e => ?_).trans (hkk.block k hk' hn)
    have := (owns_block h.own e).1
    omega

/-- What lay answers and leaves, the texts having come to r. -/
def LayAllPost (w : World) (F : Nat → Prop) (d : Nat) (q wr : Addr) (r : DS × List (List Nat) × Option Bool) (e : Ending) (w' : World) : Prop :=
  Keep F w w' ∧ ∃ FD : Nat → Prop, DiskAt w' FD d (match r.2.2 with | none => r.1 | some _ => relAll r.1 r.2.1) ∧ (∀ k, FD k → F k ∨ w.heap.size ≤ k) ∧ (∀ k, FD k → k < w'.heap.size) ∧
    match r.2.2 with
    | none => ∃ sa sc hs, e = .returned (.tuple #[.slice sa r.2.1.length sc, .nilIface]) ∧ SegsAt w' (fun k => w.heap.size ≤ k ∧ k < w'.heap.size ∧ ¬ FD k) sa hs r.2.1 ∧ r.2.1.length ≤ sc
    | some x => ∃ b, e = .returned (.tuple #[.slice none 0 0, .iface 152 (.pointer (some ⟨b, 0, none⟩))]) ∧ w.heap.size ≤ b ∧ Chain w' (.iface 152 (.pointer (some ⟨b, 0, none⟩))) (if x then q else wr) none (some (-1)) ∧ ¬ FD b

theorem own_cap {w : World} {B : Nat} {e : TypeId} {a : Option Addr} {n c : Nat} {xs : List Value} (h : OwnC w B e (.slice a n c) xs) : n ≤ c := by
  rcases h.2 with ⟨hv, h0⟩ | ⟨g, cap, cur, hv, _, _, hc, _⟩
  · cases hv; exact Nat.le_refl _
  · cases hv; exact hc
theorem LayingS.done {w0 w : World} {F0 FD : Nat → Prop} {d : Nat} {E : DS} {a : Option Addr} {n c : Nat} {hs : List (Option Addr × Nat)} {ls : List (List Nat)} (h : LayingS w0 F0 w d E (.slice a n c) hs ls FD) : SegsAt w (fun k => w0.heap.size ≤ k ∧ k < w.heap.size ∧ ¬ FD k) a hs ls :=
  ⟨h.len, (own_slice h.own).1, h.segs, fun b o hb => ⟨(owns_block h.own ((own_slice h.own).2 b o hb)).1, (owns_block h.own ((own_slice h.own).2 b o hb)).2, h.apart b ((own_slice h.own).2 b o hb)⟩, fun i x hx b o hb => ⟨(h.new i x hx b o hb).1, (h.new i x hx b o hb).2.1, (h.new i x hx b o hb).2.2.1⟩⟩

theorem info_ints : (Tryz.prog.info? 23).map (fun i => (i.zero, i.size, i.bytes)) = some (some (.slice none 0 0), 1, 24) := by kernel_rfl
end Go.Proofs.YtfgklnenpichcaaGreatDoor
