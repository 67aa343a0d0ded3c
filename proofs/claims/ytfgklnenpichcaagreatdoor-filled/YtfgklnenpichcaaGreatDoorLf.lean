/- The law Filled, walked. -/
import Derived.Test.YtfgklnenpichcaaGreatDoorHf
import Derived.Test.YtfgklnenpichcaaGreatDoorMf
namespace Go.Proofs.YtfgklnenpichcaaGreatDoor
open Go.RowKit Go.Shelf

/-- Its ways, where none is asked for. -/
theorem hows_made {W X : World} {name : ByteArray} {tya ra : Option Addr} {tyc rc : Nat} {ts : List Int} {ys : List (Option Addr × Nat)} {rs : List (List V)} (hR : TabRight W name tya ra rc ts ys rs) (hX : Below W.heap.size W X) :
    Calls Tryz.prog 10 #[.agg #[.string name, .slice tya ts.length tyc, .slice ra rs.length rc], .slice none 0 0] X fun e X' => Below X.heap.size X X' ∧ ∃ (ah : Option Addr) (ch : Nat) (hs : List Int), e = .returned (.slice ah hs.length ch) ∧ Ints X' ah hs ∧ HowsI ts [] hs ts.length := by
  have := khows_any (.string name) (.slice ra rs.length rc) tya none tyc 0 ts [] X hR.tab.2.1.1.2 hR.tok (by simp) (hR.types.below hX) (.inl rfl)
  refine this.mono fun e X' ⟨hs, sv, he, ho, hI, hbx⟩ => ?_
  obtain ⟨a, c, hsv, hc⟩ := ho.cells
  rw [List.length_map] at hsv
  subst hsv
  exact ⟨hbx, a, c, hs, he, hc, hI⟩

/-- A raw table, as it is handed to a law. -/
structure RawT where
  rn : ByteArray
  at_ : Option Addr
  ct : Nat
  ns : List Int
  ar : Option Addr
  cr : Nat
  xs : List (Option Addr × Nat)
  raws : List (List V)
structure RawT.Ok (w : World) (t : RawT) : Prop where
  ints : Ints w t.at_ t.ns
  few : t.ns.length ≤ maxLen
  rows : RowsAt w t.ar t.xs t.raws
  wide : ∀ r ∈ t.raws, r.length ≤ maxLen ∧ ∀ v ∈ r, inI64 v.k ∧ inI64 v.n
theorem RawT.Ok.below {w w' : World} {t : RawT} (h : t.Ok w) (hb : Below w.heap.size w w') : t.Ok w' := ⟨h.ints.below hb, h.few, h.rows.below hb, h.wide⟩
/-- Raw tables lie one behind the other from the address a on. -/
def TabsAt (w : World) (a : Option Addr) (l : List RawT) : Prop :=
  ∀ (i : Nat) (hi : i < l.length), (∃ b o, a = some ⟨b, o, none⟩ ∧ b < w.heap.size ∧ w.cell? ⟨b, o + i * 3, none⟩ = some (.string l[i].rn) ∧ w.cell? ⟨b, o + i * 3 + 1, none⟩ = some (.slice l[i].at_ l[i].ns.length l[i].ct) ∧ w.cell? ⟨b, o + i * 3 + 2, none⟩ = some (.slice l[i].ar l[i].raws.length l[i].cr)) ∧ l[i].Ok w
theorem TabsAt.below {w w' : World} {a : Option Addr} {l : List RawT} (h : TabsAt w a l) (hb : Below w.heap.size w w') : TabsAt w' a l := fun i hi => by
  obtain ⟨⟨b, o, ha, hbl, h0, h1, h2⟩, hok⟩ := h i hi
  exact ⟨⟨b, o, ha, Nat.lt_of_lt_of_le hbl hb.size, cell_below hb h0, cell_below hb h1, cell_below hb h2⟩, hok.below hb⟩

theorem RowsAt.agree {w w' : World} {a : Option Addr} {hs : List (Option Addr × Nat)} {rs : List (List V)} (h : RowsAt w a hs rs) (hs' : w.heap.size ≤ w'.heap.size) (ha : ∀ b o, a = some ⟨b, o, none⟩ → b < w.heap.size → w'.heap[b]? = w.heap[b]?) (hh : ∀ x ∈ hs, ∀ b o, x.1 = some ⟨b, o, none⟩ → b < w.heap.size → w'.heap[b]? = w.heap[b]?) : RowsAt w' a hs rs :=
  ⟨h.len, h.cells.of_block hs' ha, fun i x r hx hr => (h.rows i x r hx hr).of_block hs' (hh x (List.mem_of_getElem? hx))⟩

/-- Rows that are read alike wherever the blocks N are as they are here. -/
def Firm (N : Nat → Prop) (X : World) (ra : Option Addr) (rs : List (List V)) : Prop :=
  ∀ Y : World, X.heap.size ≤ Y.heap.size → (∀ k, N k → Y.heap[k]? = X.heap[k]?) → ∃ ys, RowsAt Y ra ys rs
theorem Firm.move {N : Nat → Prop} {X X' : World} {ra : Option Addr} {rs : List (List V)} (h : Firm N X ra rs) (hs : X.heap.size ≤ X'.heap.size) (hk : ∀ k, N k → X'.heap[k]? = X.heap[k]?) : Firm N X' ra rs :=
  fun Y hY hN => h Y (Nat.le_trans hs hY) fun k hn => (hN k hn).trans (hk k hn)
theorem Firm.mono {N N' : Nat → Prop} {X : World} {ra : Option Addr} {rs : List (List V)} (h : Firm N X ra rs) (hn : ∀ k, N k → N' k) : Firm N' X ra rs :=
  fun Y hY hN => h Y hY fun k hk => hN k (hn k hk)

/-- A table that the law has made, in new memory. -/
structure Made (W X : World) (name : ByteArray) (tya ra : Option Addr) (tyc rc : Nat) (ts : List Int) (rs : List (List V)) : Prop where
  right : ∃ ys, TabRight X name tya ra rc ts ys rs
  firm : Firm (fun k => W.heap.size ≤ k ∧ k < X.heap.size) X ra rs
  newT : ∀ b o, tya = some ⟨b, o, none⟩ → W.heap.size ≤ b
  few : rs.length ≤ 30
theorem Made.move {W X Y : World} {name : ByteArray} {tya ra : Option Addr} {tyc rc : Nat} {ts : List Int} {rs : List (List V)} (h : Made W X name tya ra tyc rc ts rs) (hb : Below X.heap.size X Y) : Made W Y name tya ra tyc rc ts rs := by
  obtain ⟨ys, hr⟩ := h.right
  exact ⟨⟨ys, hr.below hb⟩, (h.firm.move hb.size fun _ hk => hb.block _ hk.2).mono fun _ hk => ⟨hk.1, Nat.lt_of_lt_of_le hk.2 hb.size⟩, h.newT, h.few⟩
theorem Made.down {W W' X : World} {name : ByteArray} {tya ra : Option Addr} {tyc rc : Nat} {ts : List Int} {rs : List (List V)} (h : Made W X name tya ra tyc rc ts rs) (hw : W'.heap.size ≤ W.heap.size) : Made W' X name tya ra tyc rc ts rs :=
  ⟨h.right, h.firm.mono fun _ hk => ⟨Nat.le_trans hw hk.1, hk.2⟩, fun b o hb => Nat.le_trans hw (h.newT b o hb), h.few⟩
theorem table_made (rn name : ByteArray) (at_ ar : Option Addr) (ct cr : Nat) (ns : List Int) (xs : List (Option Addr × Nat)) (raws : List (List V)) (w : World) (hn : ns.length ≤ maxLen) (hrr : ∀ r ∈ raws, r.length ≤ maxLen) (hin : ∀ r ∈ raws, ∀ v ∈ r, inI64 v.k ∧ inI64 v.n) (hx : Ints w at_ ns) (hy : RowsAt w ar xs raws) (hnm : 1 ≤ name.size ∧ name.size ≤ 20) :
    Calls Tryz.prog 9 #[.agg #[.string rn, .slice at_ ns.length ct, .slice ar raws.length cr], .string name, .int .i64 ((30 : Nat) : Int)] w fun e w' => ∃ ts rs tya tyc ra rc, e = .returned (.agg #[.string name, .slice tya ts.length tyc, .slice ra rs.length rc]) ∧ Made w w' name tya ra tyc rc ts rs ∧ Below w.heap.size w w' :=
  (ktable_any rn name at_ ar ct cr 30 ns xs raws w (by omega) hn hrr hin hx hy).mono fun e w' ⟨ts, rs, v, he, ht, hl, hbx⟩ => by
    obtain ⟨tya, tyc, ra, rc, bs, hv, h1, h2, h3, h4, h5, h6⟩ := ht.val
    have hright : TabRight w' name tya ra rc ts (List.zipWith (fun b (r : List V) => ((some ⟨b, 0, none⟩ : Option Addr), r.length)) bs rs) rs := by
      obtain ⟨tya', tyc', ra', rc', ys', hv', hr'⟩ := ht.right (by omega) hnm
      exact ⟨hr'.tab, hr'.tok, hr'.vals, h1, h2, h3⟩
    refine ⟨ts, rs, tya, tyc, ra, rc, by rw [he, hv], ⟨⟨_, hright⟩, ?_, h4, hl⟩, hbx⟩
    intro Y hY hN
    refine ⟨_, h2.agree hY (fun b o hb hlt => hN b ⟨h5 b o hb, hlt⟩) (fun x hx b o hb hlt => hN b ⟨?_, hlt⟩)⟩
    obtain ⟨j, hj, rfl⟩ := List.getElem_of_mem hx
    simp only [List.getElem_zipWith, Option.some.injEq, Addr.mk.injEq] at hb
    rw [← hb.1]
    exact h6 _ (List.getElem_mem _)

/-- A table that is there: as the law keeps it. -/
structure Ent where
  name : ByteArray
  ta : Option Addr
  tn : Nat
  tc : Nat
  ra : Option Addr
  rc : Nat
  rs : List (List V)
def Ent.cells (e : Ent) : List Value := [.string e.name, .slice e.ta e.tn e.tc, .slice e.ra e.rs.length e.rc]
theorem ents_len (es : List Ent) : (es.flatMap Ent.cells).length = es.length * 3 := by
  induction es with
  | nil => rfl
  | cons e es ih => simp only [List.flatMap_cons, List.length_append, ih, List.length_cons, Ent.cells, List.length_nil]; omega
theorem ents_get (es : List Ent) (j : Nat) (hj : j < es.length) : (es.flatMap Ent.cells)[j * 3]? = some (.string es[j].name) ∧ (es.flatMap Ent.cells)[j * 3 + 1]? = some (.slice es[j].ta es[j].tn es[j].tc) ∧ (es.flatMap Ent.cells)[j * 3 + 2]? = some (.slice es[j].ra es[j].rs.length es[j].rc) := by
  induction es generalizing j with
  | nil => simp at hj
  | cons e es ih =>
    rcases j with _ | j
    · simp [Ent.cells]
    · have := ih j (by simpa using hj)
      simp only [List.flatMap_cons, List.getElem_cons_succ]
      have hl : e.cells.length = 3 := rfl
      rw [List.getElem?_append_right (by omega), List.getElem?_append_right (by omega), List.getElem?_append_right (by omega), hl]
      rw [show (j + 1) * 3 - 3 = j * 3 by omega, show (j + 1) * 3 + 1 - 3 = j * 3 + 1 by omega, show (j + 1) * 3 + 2 - 3 = j * 3 + 2 by omega]
      exact this
/-- The tables that are there, in memory that none else turns: N. -/
structure EntsAt (N : Nat → Prop) (X : World) (B : Nat) (tv : Value) (es : List Ent) (L : List (TS × List (List V))) : Prop where
  own : X.ownsRow B 26 3 tv es.length (es.flatMap Ent.cells)
  ownN : ∀ g, tv.ownBlock = some g → ¬ N g
  rows : ∀ e ∈ es, Firm N X e.ra e.rs
  small : ∀ e ∈ es, e.rs.length ≤ 200 ∧ ∀ r ∈ e.rs, r.length ≤ 6
  same : es.map (fun e => (e.name, e.rs)) = L.map (fun x => (x.1.name, x.2))
  lt : ∀ k, N k → k < X.heap.size
theorem EntsAt.move {N : Nat → Prop} {X Y : World} {B : Nat} {tv : Value} {es : List Ent} {L : List (TS × List (List V))} (h : EntsAt N X B tv es L) (hs : X.heap.size ≤ Y.heap.size) (hk : ∀ k, N k → Y.heap[k]? = X.heap[k]?) (ho : ∀ g, tv.ownBlock = some g → Y.heap[g]? = X.heap[g]?) : EntsAt N Y B tv es L :=
  ⟨owns_of_block h.own ho, h.ownN, fun e he => (h.rows e he).move hs hk, h.small, h.same, fun k hn => Nat.lt_of_lt_of_le (h.lt k hn) hs⟩
theorem EntsAt.below {N : Nat → Prop} {X Y : World} {B : Nat} {tv : Value} {es : List Ent} {L : List (TS × List (List V))} (h : EntsAt N X B tv es L) (hb : Below X.heap.size X Y) : EntsAt N Y B tv es L := h.move hb.size (fun k hn => hb.block k (h.lt k hn)) fun g hg => hb.block g (owns_block h.own hg).2
theorem EntsAt.nil (X : World) (B : Nat) : EntsAt (fun _ => False) X B (.slice none 0 0) [] [] :=
  ⟨⟨rfl, .inl ⟨rfl, rfl⟩⟩, fun g hg => by simp [Value.ownBlock] at hg, fun e he => by simp at he, fun e he => by simp at he, rfl, fun k h => h.elim⟩
theorem EntsAt.len {N : Nat → Prop} {X : World} {B : Nat} {tv : Value} {es : List Ent} {L : List (TS × List (List V))} (h : EntsAt N X B tv es L) : es.length = L.length := by
  have := congrArg List.length h.same
  simpa using this
theorem EntsAt.val {N : Nat → Prop} {X : World} {B : Nat} {tv : Value} {es : List Ent} {L : List (TS × List (List V))} (h : EntsAt N X B tv es L) : ∃ a cap, tv = .slice a es.length cap ∧ ∀ j (hj : j < es.length), ∃ g, a = some ⟨g, 0, none⟩ ∧ X.cell? ⟨g, j * 3, none⟩ = some (.string es[j].name) ∧ X.cell? ⟨g, j * 3 + 1, none⟩ = some (.slice es[j].ta es[j].tn es[j].tc) ∧ X.cell? ⟨g, j * 3 + 2, none⟩ = some (.slice es[j].ra es[j].rs.length es[j].rc) := by
  rcases h.own.2 with ⟨hv, hn⟩ | ⟨g, cap, cur, hv, _, hg, _, _, _, hcur⟩
  · have he : es = [] := List.length_eq_zero_iff.1 hn
    subst he
    exact ⟨none, 0, by simpa using hv, fun j hj => by simp at hj⟩
  · refine ⟨some ⟨g, 0, none⟩, cap, hv, fun j hj => ⟨g, rfl, ?_⟩⟩
    have key : ∀ i v, (es.flatMap Ent.cells)[i]? = some v → X.cell? ⟨g, i, none⟩ = some v := fun i v hi => by
      rw [← hcur] at hi
      have hi' : i < es.length * 3 := by
        rcases Nat.lt_or_ge i (es.length * 3) with h' | h'
        · exact h'
        · rw [List.getElem?_take_eq_none h'] at hi; simp at hi
      rw [List.getElem?_take_of_lt hi'] at hi
      simp only [Array.getElem?_toList] at hi
      simp [World.cell?, hg, hi]
    obtain ⟨q0, q1, q2⟩ := ents_get es j hj
    exact ⟨key _ _ q0, key _ _ q1, key _ _ q2⟩
theorem infoT : (Tryz.prog.info? 26).map (fun i => (i.zero, i.size, i.bytes)) = some (some (.agg #[.string ⟨#[]⟩, .slice none 0 0, .slice none 0 0]), 3, 64) := by kernel_rfl
/-- 'l = append(l, t)', t a table that lies in a block of its own. -/
theorem wpList_append_T {w : World} {ops : Array Oper} {rest : List Oper} {o : Oper} {a : Act} {Q : Exit → Act → World → Prop} (hgd : o.guard = none) (s x : Operand)
    (ho : o.op = .call { callee := .builtin .append, args := #[s, x], argTypes := #[39, 39] })
    (B : Nat) (sv : Value) (es : List Ent) (hs : a.eval s = sv) (hown : w.ownsRow B 26 3 sv es.length (es.flatMap Ent.cells))
    (g c : Nat) (e : Ent) (hx : a.eval x = .slice (some ⟨g, 0, none⟩) 1 c) (h0 : w.cell? ⟨g, 0, none⟩ = some (.string e.name)) (h1 : w.cell? ⟨g, 1, none⟩ = some (.slice e.ta e.tn e.tc)) (h2 : w.cell? ⟨g, 2, none⟩ = some (.slice e.ra e.rs.length e.rc)) (hlen : es.length ≤ 1000) (hbase : B ≤ w.heap.size)
    (h : ∀ sv' w', w'.ownsRow B 26 3 sv' (es ++ [e]).length ((es ++ [e]).flatMap Ent.cells) → w.grownBy w' sv.ownBlock → (sv'.ownBlock = sv.ownBlock ∨ sv'.ownBlock = some w.heap.size) → wpList Tryz.prog ops Q rest (a.put o.dst sv') w') :
    wpList Tryz.prog ops Q (o :: rest) a w := by
  obtain ⟨i, hi, hz, hsz, hby⟩ := info_parts infoT
  refine wpList_append_own_at w hgd s x 39 ho B 26 i _ 3 64 (by kernel_rfl) hi hz hsz hby rfl (by decide) sv es.length (es.flatMap Ent.cells) hs hown ⟨g, 0, none⟩ 1 c e.cells hx rfl ?_ ?_ ?_ ?_ hbase ?_
  · intro j u hj
    match j, hj with
    | 0, hj => simp [Ent.cells] at hj; subst hj; simpa [Addr.add] using h0
    | 1, hj => simp [Ent.cells] at hj; subst hj; simpa [Addr.add] using h1
    | 2, hj => simp [Ent.cells] at hj; subst hj; simpa [Addr.add] using h2
    | j + 3, hj => simp [Ent.cells] at hj
  · intro u hu
    simp [Ent.cells] at hu
    rcases hu with rfl | rfl | rfl <;> rfl
  · unfold maxLen; omega
  · omega
  · intro v' w' q1 q2 _ q4
    refine h v' w' ?_ q2 q4
    simpa using q1

/-- The names: single letters. -/
abbrev letters : ByteArray := ⟨#[97, 98, 99, 100, 101, 102]⟩
def letter (i : Nat) : ByteArray := letters.extract i (i + 1)
theorem letter_size : ∀ i, i < 6 → (letter i).size = 1
  | 0, _ => by decide
  | 1, _ => by decide
  | 2, _ => by decide
  | 3, _ => by decide
  | 4, _ => by decide
  | 5, _ => by decide
  | i + 6, h => by omega
theorem letter_val : ∀ i, i < 6 → letter i = ⟨#[(97 + i).toUInt8]⟩
  | 0, _ => by rfl
  | 1, _ => by rfl
  | 2, _ => by rfl
  | 3, _ => by rfl
  | 4, _ => by rfl
  | 5, _ => by rfl
  | i + 6, h => by omega
theorem letter_inj (i j : Nat) (hi : i < 6) (hj : j < 6) (h : letter i = letter j) : i = j := by
  rw [letter_val i hi, letter_val j hj] at h
  have h2 : (97 + i).toUInt8 = (97 + j).toUInt8 := by simpa using h
  have h3 := congrArg UInt8.toNat h2
  simp at h3
  omega
theorem findI_new (Ts : List TS) (n : ByteArray) (h : ∀ T ∈ Ts, T.name ≠ n) : findI Ts n = Ts.length := by
  induction Ts with
  | nil => rfl
  | cons T Ts ih => rw [findI, if_neg (h T (by simp)), ih (fun T' h' => h T' (by simp [h']))]; rfl
theorem findI_at (Ts : List TS) (h : (Ts.map TS.name).Nodup) (j : Nat) (hj : j < Ts.length) : findI Ts Ts[j].name = j := by
  induction Ts generalizing j with
  | nil => simp at hj
  | cons T Ts ih =>
    rw [List.map_cons, List.nodup_cons] at h
    rcases j with _ | j
    · simp [findI]
    · have hne : T.name ≠ (T :: Ts)[j + 1].name := fun e => h.1 (by rw [e]; exact List.mem_map.2 ⟨_, List.getElem_mem _, rfl⟩)
      rw [findI, if_neg hne]
      simp only [List.getElem_cons_succ]
      rw [ih h.2 j (by simpa using hj)]

/-- What stands behind a Load of the law Filled. -/
def FPost (M : Nat → Prop) (X : World) (st : Nat) (q f : Int) (D : DS) (L : List (TS × List (List V))) (failed : Bool) (i : Nat) (name : ByteArray) (rs : List (List V)) (cd : Int) (X' : World) : Prop :=
  ∃ (M' : Nat → Prop) (E : DS) (L' : List (TS × List (List V))) (failed' : Bool), Sto M' X' st E (L'.map Prod.fst) ∧ FillI q f E L' failed' (i + 1) ∧ (∀ k, M' k → M k ∨ X.heap.size ≤ k) ∧
    ((cd = 0 ∧ failed' = failed ∧ ∃ T, L' = L ++ [(T, rs)] ∧ T.name = name) ∨ (cd = 5 ∧ failed' = failed ∧ L' = L ∧ usedOf E.pages = usedOf D.pages ∧ rs ≠ []) ∨ (cd = 6 ∧ failed' = true ∧ failed = false ∧ L' = L ∧ usedOf E.pages = usedOf D.pages ∧ 1 ≤ f))
theorem load_filled (M : Nat → Prop) (st : Nat) (q f : Int) (D : DS) (L : List (TS × List (List V))) (failed : Bool) (i : Nat) (name : ByteArray) (tya ra ah : Option Addr) (tyc rc ch : Nat) (ts hs : List Int) (rs : List (List V)) (g : Int) (w : World) (hX : Sto M w st D (L.map Prod.fst)) (hF : FillI q f D L failed i) (hi : i < 6) (hR : ∃ ys, TabRight w name tya ra rc ts ys rs) (hr30 : rs.length ≤ 30) (hh : Ints w ah hs) (hI : HowsI ts [] hs ts.length) (hg : 1 ≤ g ∧ g ≤ 64) (hnew : findI (L.map Prod.fst) name = L.length) (hAM : ∀ b o, tya = some ⟨b, o, none⟩ → ¬ M b) (a0 a1 a2 tt qa wr pg pl ex ta : Addr) (w0 : World) (hN0 : Names w0 a0 a1 a2 tt qa wr pg pl ex ta) (hb00 : Below w0.heap.size w0 w) (hMB : ∀ k, M k → w0.heap.size ≤ k) :
    Calls Tryz.prog 14 #[.pointer (some ⟨st, 0, none⟩), tabArg name tya ra tyc rc ts rs, .slice ah hs.length ch, .int .i64 g] w fun e w' => ∃ cd, e = .returned (faultAt cd (-1) (-1)) ∧ Keep M w w' ∧ FPost M w st q f D L failed i name rs cd w' := by
  obtain ⟨ys, hR⟩ := hR
  obtain ⟨hw, hz⟩ := hows_plain hI
  have hl6 : hs.length ≤ 6 := by rw [hw.1]; exact hR.tab.2.1.1.2
  have hpg := hF.pages
  refine (Load_any M st D (L.map Prod.fst) name tya ra ah tyc rc ch ts hs ys rs g w hX (hR.arg hh hl6) hAM (by omega) a0 a1 a2 tt qa wr pg pl ex ta w0 hN0 hb00 hMB).mono fun e w' ⟨he, hk, M', hs', _, hm2⟩ => ?_
  rcases filled_step hF hi hR.tab hR.vals hr30 hw hz hg hnew with ⟨E, T, hr, hF', hT⟩ | ⟨E, hr, hF', hu, hne⟩ | ⟨E, hr, hF', hu, hfd, h1⟩
  · rw [hr] at he hs'
    exact ⟨0, he, hk, M', E, L ++ [(T, rs)], failed, by simpa [LoadR.ts, LoadR.d] using hs', hF', hm2, .inl ⟨rfl, rfl, T, rfl, hT⟩⟩
  · rw [hr] at he hs'
    exact ⟨5, he, hk, M', E, L, failed, by simpa [LoadR.ts, LoadR.d] using hs', hF', hm2, .inr (.inl ⟨rfl, rfl, rfl, hu, hne⟩)⟩
  · rw [hr] at he hs'
    exact ⟨6, he, hk, M', E, L, true, by simpa [LoadR.ts, LoadR.d] using hs', hF', hm2, .inr (.inr ⟨rfl, rfl, hfd, rfl, hu, h1⟩)⟩

/-- What stands behind the statement that loads. -/
def FMid (W1 XB : World) (M : Nat → Prop) (st : Nat) (q f : Int) (D : DS) (L : List (TS × List (List V))) (failed : Bool) (i : Nat) (name : ByteArray) (rs : List (List V)) (fa : Nat) (wx : World) : Prop :=
  ∃ cd, FaultIs wx fa cd (-1) ∧ XB.heap.size ≤ fa ∧ XB.heap.size ≤ wx.heap.size ∧ Below W1.heap.size W1 wx ∧ (∀ k, k < XB.heap.size → ¬ M k → wx.heap[k]? = XB.heap[k]?) ∧ FPost M XB st q f D L failed i name rs cd wx
theorem fp_mid {M : Nat → Prop} {W1 XB XL X8 wx : World} {st : Nat} {q f : Int} {D : DS} {L : List (TS × List (List V))} {failed : Bool} {i : Nat} {name : ByteArray} {rs : List (List V)} {fa : Nat} {cd : Int} (h : FPost M XL st q f D L failed i name rs cd X8) (hkL : Keep M XL X8) (hM : ∀ k, M k → W1.heap.size ≤ k) (hb1 : Below W1.heap.size W1 XB) (hb : Below XB.heap.size XB XL) (hs' : X8.heap.size ≤ wx.heap.size) (ho : wx.os = X8.os) (ht : wx.tape = X8.tape) (hu : wx.output = X8.output) (hk : ∀ k, k < X8.heap.size → k ≠ fa → wx.heap[k]? = X8.heap[k]?) (hn : ¬ M fa) (hfa : fa < XL.heap.size ∨ X8.heap.size ≤ fa) (hfw : XB.heap.size ≤ fa)
    (hc : FaultIs wx fa cd (-1)) : FMid W1 XB M st q f D L failed i name rs fa wx := by
  obtain ⟨M', E, L', fd', h1, h2, h3, h4⟩ := h
  have z0 := hb1.size
  have z1 := hb.size
  have z2 := hkL.size
  have hnf : ¬ M' fa := fun hm => by
    have := h1.lt fa hm
    rcases h3 fa hm with a | a
    · exact hn a
    · omega
  refine ⟨cd, hc, hfw, by omega, ?_, fun k hk' hm => (hk k (by omega) (by omega)).trans ((hkL.block k (by omega) hm).trans (hb.block k hk')), M', E, L', fd', h1.stands hs' fun k hm => hk k (h1.lt k hm) fun e => hnf (e ▸ hm), h2, fun k hm => (h3 k hm).imp_right fun a => by omega, h4⟩
  refine (hb1.trans (hb.mono z0)).trans ⟨ho.trans hkL.os, ht.trans hkL.tape, hu.trans hkL.output, by omega, fun k hk' => (hk k (by omega) (by omega)).trans (hkL.block k (by omega) fun hm => by have := hM k hm; omega)⟩

/-- What stands behind the statement that makes the table. -/
def TMid (W X : World) (tA : Nat) (name : ByteArray) (tya ra : Option Addr) (tyc rc : Nat) (ts : List Int) (rs : List (List V)) : Prop :=
  X.heap[tA]? = some (.cells #[.string name, .slice tya ts.length tyc, .slice ra rs.length rc] 26 (0, 0)) ∧ W.heap.size ≤ tA ∧ Made W X name tya ra tyc rc ts rs ∧ Below W.heap.size W X
theorem heap_set3 {w : World} {b : Nat} (h : w.heap[b]? = some (.cells #[.string ⟨#[]⟩, .slice none 0 0, .slice none 0 0] 26 (0, 0))) (v0 v1 v2 : Value) : (((w.setCell ⟨b, 0, none⟩ v0).setCell ⟨b, 1, none⟩ v1).setCell ⟨b, 2, none⟩ v2).heap[b]? = some (.cells #[v0, v1, v2] 26 (0, 0)) := by
  have := heap_set (heap_set (heap_set h 0 v0) 1 v1) 2 v2
  simpa using this
theorem set3_other (W : World) (B : Nat) (v0 v1 v2 : Value) (k : Nat) (hk : k ≠ B) : (((W.setCell ⟨B, 0, none⟩ v0).setCell ⟨B, 1, none⟩ v1).setCell ⟨B, 2, none⟩ v2).heap[k]? = W.heap[k]? := by
  rw [Below.heap_setCell _ _ _ _ hk, Below.heap_setCell _ _ _ _ hk, Below.heap_setCell _ _ _ _ hk]
theorem set3_size (W : World) (B : Nat) (v0 v1 v2 : Value) : (((W.setCell ⟨B, 0, none⟩ v0).setCell ⟨B, 1, none⟩ v1).setCell ⟨B, 2, none⟩ v2).heap.size = W.heap.size := by simp [World.setCell]
/-- The made table is laid into a block that lay ahead of its making, or behind it. -/
theorem t_mid {W XL X8 wx : World} {tA : Nat} {name : ByteArray} {tya ra : Option Addr} {tyc rc : Nat} {ts : List Int} {rs : List (List V)} (h : Made XL X8 name tya ra tyc rc ts rs) (hb : Below W.heap.size W XL) (hb8 : Below XL.heap.size XL X8) (hs' : X8.heap.size ≤ wx.heap.size) (ho : wx.os = X8.os) (ht : wx.tape = X8.tape) (hu : wx.output = X8.output) (hk : ∀ k, k < X8.heap.size → k ≠ tA → wx.heap[k]? = X8.heap[k]?) (hfa : tA < XL.heap.size ∨ X8.heap.size ≤ tA) (hw : W.heap.size ≤ tA)
    (hc : wx.heap[tA]? = some (.cells #[.string name, .slice tya ts.length tyc, .slice ra rs.length rc] 26 (0, 0))) : TMid W wx tA name tya ra tyc rc ts rs := by
  have z1 := hb.size
  have z2 := hb8.size
  obtain ⟨ys, hr⟩ := h.right
  have hagree : ∀ k, XL.heap.size ≤ k ∧ k < X8.heap.size → wx.heap[k]? = X8.heap[k]? := fun k hk' => hk k hk'.2 (by omega)
  obtain ⟨ys', hro⟩ := h.firm wx hs' hagree
  have hty : Ints wx tya ts := by
    refine hr.types.of_block hs' fun b o hb' hlt => ?_
    have := h.newT b o hb'
    exact hagree b ⟨this, hlt⟩
  refine ⟨hc, hw, ⟨⟨ys', hr.tab, hr.tok, hr.vals, hty, hro, hr.cap⟩, ?_, fun b o hb' => Nat.le_trans z1 (h.newT b o hb'), h.few⟩, ?_⟩
  · intro Y hY hN
    refine h.firm Y (Nat.le_trans hs' hY) fun k hk' => ?_
    rw [hN k ⟨by omega, by omega⟩]
    exact hagree k hk'
  · exact hb.trans ⟨ho.trans hb8.os, ht.trans hb8.tape, hu.trans hb8.output, by omega, fun k hk' => (hk k (by omega) (by omega)).trans (hb8.block k (by omega))⟩

set_option maxRecDepth 100000 in
set_option maxHeartbeats 16000000 in
theorem filled_any (q0 f0 g0 : Int) (a : Option Addr) (cap : Nat) (raws : List RawT) (w : World) (hraw : TabsAt w a raws) (hq0 : inI64 q0) (hg0 : inI64 g0)
    (a0 a1 a2 tt qa wr_ pg pl ex ta : Addr) (hN : Names w a0 a1 a2 tt qa wr_ pg pl ex ta) :
    Calls Tryz.prog 6 #[.int .i64 q0, .int .i64 f0, .slice a raws.length cap, .int .i64 g0] w fun e w' => e = .returned (.bool true) ∧ Below w.heap.size w w' := by
  have hsure := sure_any w a0 a1 a2 tt qa wr_ pg pl ex ta hN
  have HPQ : Hid (∀ W, Calls Tryz.prog 15 #[.int .i64 q0, .int .i64 ((40 : Nat) : Int)] W fun e w' => (∃ r : Nat, e = .returned (.int .i64 r) ∧ r < 40) ∧ w' = W) := fun W => pick_any q0 40 W hq0 (by decide) (by decide)
  have HPK : Hid (∀ W, Calls Tryz.prog 15 #[.int .i64 g0, .int .i64 ((64 : Nat) : Int)] W fun e w' => (∃ r : Nat, e = .returned (.int .i64 r) ∧ r < 64) ∧ w' = W) := fun W => pick_any g0 64 W hg0 (by decide) (by decide)
  have HN : Hid (Names w a0 a1 a2 tt qa wr_ pg pl ex ta) := hN
  have HRAW : Hid (TabsAt w a raws) := hraw
  clear hN hraw hq0 hg0
  go_enter Tryz.func6, Tryz.ntmps6
  go_wp2_with (first | (go_at_call 8; refine hsure.mono ?_; rintro e W1 ⟨rfl, hb1⟩))
  clear hsure
  refine (HPQ.out _).mono ?_
  rintro e Y1 ⟨⟨qn, rfl, hqn⟩, hY1⟩
  subst Y1
  go_wp2_with (first | (go_at_call 21; refine (New_any _ _ _).mono ?_; rintro e X5 ⟨hx5, st, M0, rfl, hsto, hM⟩))
  obtain ⟨q, hq⟩ : ∃ q : Int, q = (qn : Int) := ⟨_, rfl⟩
  rw [← hq] at hsto ⊢
  have HQ : Hid (0 ≤ q ∧ q < 40) := by show _ ∧ _; omega
  have HN1 : Hid (Names W1 a0 a1 a2 tt qa wr_ pg pl ex ta) := HN.out.below hb1
  have HRW : Hid (TabsAt W1 a raws) := HRAW.out.below hb1
  have HB0 : Hid (Below w.heap.size w W1) := hb1
  clear HN HRAW hb1 HPQ hq hqn
  generalize hnms : (⟨#[97, 98, 99, 100, 101, 102]⟩ : ByteArray) = nms
  have hns6 : nms.size = 6 := by rw [← hnms]; rfl
  have HLT : Hid (∀ i, nms.extract i (i + 1) = letter i) := fun i => by rw [← hnms]; rfl
  clear hnms
  go_loopw [12, 13, 15] (fun tv fv iv wr => ∃ (i : Nat) (D : DS) (L : List (TS × List (List V))) (failed : Bool) (M N : Nat → Prop) (es : List Ent), i ≤ 6 ∧ iv = .int .i64 (i : Int) ∧ fv = .bool failed ∧ Hid (FillI q f0 D L failed i) ∧ Hid (Sto M wr st D (L.map Prod.fst)) ∧ Hid (EntsAt N wr W1.heap.size tv es L) ∧ Hid (∀ k, M k → W1.heap.size ≤ k) ∧ Hid ((∀ k, N k → ¬ M k) ∧ ∀ g, tv.ownBlock = some g → ¬ M g) ∧ Hid ((∀ x ∈ L, ∃ j, j < i ∧ x.1.name = letter j) ∧ (L.map (fun x => x.1.name)).Nodup) ∧ Below W1.heap.size W1 wr) (fun _ _ iv _ => 6 - (intOf iv).toNat)
  case atStart =>
    refine ⟨0, _, [], false, M0, _, [], by omega, rfl, rfl, FillI.start q f0 HQ.out.1, hsto, EntsAt.nil _ _, hM, ⟨fun k h => h.elim, fun g hg => by simp [Value.ownBlock] at hg⟩, ⟨fun x hx => by simp at hx, by simp⟩, hx5⟩
  case round =>
    obtain ⟨i, D, L, failed, M, N, es, hi6, rfl, rfl, HF, HST, HE, HM, HNM, HNA, hbw⟩ := hrel
    obtain ⟨wo, hwo⟩ : ∃ wo, wo = wr := ⟨_, rfl⟩
    subst hwo
    obtain ⟨av, cv, htv, hcv⟩ := HE.out.val
    subst htv
    by_cases hlt : i < raws.length ∧ i < 6
    · obtain ⟨h1, h2⟩ := hlt
      obtain ⟨⟨rb, ro, rfl, hrb, r0, r1, r2⟩, hok⟩ := HRW.out i h1
      have c0 := cell_below hbw r0
      have c1 := cell_below hbw r1
      have c2 := cell_below hbw r2
      have HRB : Hid (rb < wo.heap.size) := Nat.lt_of_lt_of_le hrb hbw.size
      have HTB : Hid (∀ X, Below wo.heap.size wo X → Calls Tryz.prog 9 #[.agg #[.string raws[i].rn, .slice raws[i].at_ raws[i].ns.length raws[i].ct, .slice raws[i].ar raws[i].raws.length raws[i].cr], .string (letter i), .int .i64 ((30 : Nat) : Int)] X fun e X' => ∃ ts rs tya tyc ra rc, e = .returned (.agg #[.string (letter i), .slice tya ts.length tyc, .slice ra rs.length rc]) ∧ Made X X' (letter i) tya ra tyc rc ts rs ∧ Below X.heap.size X X') := fun X hX => by
        have hk := hok.below (hbw.trans (hX.mono hbw.size))
        exact table_made _ _ _ _ _ _ _ raws[i].xs _ X hk.few (fun r hr => (hk.wide r hr).1) (fun r hr => (hk.wide r hr).2) hk.ints hk.rows (by rw [letter_size i h2]; decide)
      have hlt1 : (i : Int) < (raws.length : Int) := by omega
      have hwi : IntKind.i64.wrap ((i : Int) + 1) = (i : Int) + 1 := by rw [IntKind.wrap_i64]; omega
      have hsl : ∀ X : World, (Instr.slice 9 (.string nms) (some (.int .i64 (i : Int))) (some (.int .i64 ((i : Int) + 1))) none).run Tryz.prog X = .ok (.string (letter i)) X := fun X => by
        have e1 : ((i : Int) + 1).toNat = i + 1 := by omega
        have e2 := HLT.out i
        rw [← e2]
        simp [Instr.slice, run_underlying Tryz.underlying9, Instr.sliceBounds, run_sliceBound, Result.andThen, e1, hns6, (by omega : (0 : Int) ≤ (i : Int)), (by omega : (0 : Int) ≤ (i : Int) + 1), (by omega : (i : Int) + 1 ≤ 6), (by omega : (i : Int) ≤ (i : Int) + 1)]
      have hlt2 : (i : Int) < (nms.size : Int) := by omega
      go_wp2_with fail
      go_cut [16] from 38 to 105 (fun f wx => ∃ (tA : Nat) (ts : List Int) (rs : List (List V)) (tya : Option Addr) (tyc : Nat) (ra : Option Addr) (rc : Nat), f = .pointer (some ⟨tA, 0, none⟩) ∧ TMid wo wx tA (letter i) tya ra tyc rc ts rs)
      case first =>
        refine wp_region_held_drew (S := fun X => X.cell? ⟨rb, ro + i * 3, none⟩ = some (.string raws[i].rn) ∧ X.cell? ⟨rb, ro + i * 3 + 1, none⟩ = some (.slice raws[i].at_ raws[i].ns.length raws[i].ct) ∧ X.cell? ⟨rb, ro + i * 3 + 2, none⟩ = some (.slice raws[i].ar raws[i].raws.length raws[i].cr)) (by kernel_rfl) ⟨c0, c1, c2⟩ (fun hH => ?_)
        have hcd0 : Below wo.heap.size wo wo.drew := ⟨rfl, rfl, rfl, Nat.le_refl _, fun _ _ => rfl⟩
        refine wpAnyH_take (i := 0) (v := ?_) rfl (by kernel_rfl) (by kernel_rfl) (by kernel_rfl) (fun _ _ _ h => h) (Or.inl ⟨by rfl, ?_⟩) hH ?_
        rotate_left 1
        · intro w hSw; (try dsimp only at hSw); go_simp; try rfl
        simp only [Act.put, List.getElem_toArray, List.getElem_cons_zero, List.setIfInBounds_toArray, List.set_cons_zero, List.set_cons_succ]
        refine wpAnyH_take (i := 1) (v := ?_) rfl (by kernel_rfl) (by kernel_rfl) (by kernel_rfl) (fun _ _ _ h => h) (Or.inl ⟨by rfl, ?_⟩) hH ?_
        rotate_left 1
        · intro w hSw; (try dsimp only at hSw); go_simp; try rfl
        simp only [Act.put, List.getElem_toArray, List.getElem_cons_zero, List.getElem_cons_succ, List.setIfInBounds_toArray, List.set_cons_zero, List.set_cons_succ]
        refine wpAnyH_take (i := 2) (v := ?_) rfl (by kernel_rfl) (by kernel_rfl) (by kernel_rfl) (fun _ _ _ h => h) (Or.inl ⟨by rfl, ?_⟩) hH ?_
        rotate_left 1
        · intro w hSw; (try dsimp only at hSw); go_simp; try rfl
        simp only [Act.put, List.getElem_toArray, List.getElem_cons_zero, List.getElem_cons_succ, List.setIfInBounds_toArray, List.set_cons_zero, List.set_cons_succ]
        refine wpAnyH_take (i := 3) (v := ?_) rfl (by kernel_rfl) (by kernel_rfl) (by kernel_rfl) (fun _ _ _ h => h) (Or.inl ⟨by rfl, ?_⟩) hH ?_
        rotate_left 1
        · intro w hSw; (try dsimp only at hSw); go_simp; try rfl
        simp only [Act.put, List.getElem_toArray, List.getElem_cons_zero, List.getElem_cons_succ, List.setIfInBounds_toArray, List.set_cons_zero, List.set_cons_succ]
        refine wpAnyH_take (i := 4) (v := ?_) rfl (by kernel_rfl) (by kernel_rfl) (by kernel_rfl) (fun _ _ _ h => h) (Or.inl ⟨by rfl, ?_⟩) hH ?_
        rotate_left 1
        · intro w hSw; (try dsimp only at hSw); go_simp; try rfl
        simp only [Act.put, List.getElem_toArray, List.getElem_cons_zero, List.getElem_cons_succ, List.setIfInBounds_toArray, List.set_cons_zero, List.set_cons_succ]
        refine wpAnyH_take (i := 5) (v := ?_) rfl (by kernel_rfl) (by kernel_rfl) (by kernel_rfl) (fun _ _ _ h => h) (Or.inl ⟨by rfl, ?_⟩) hH ?_
        rotate_left 1
        · intro w hSw; (try dsimp only at hSw); go_simp; try rfl
        simp only [Act.put, List.getElem_toArray, List.getElem_cons_zero, List.getElem_cons_succ, List.setIfInBounds_toArray, List.set_cons_zero, List.set_cons_succ]
        refine wpAnyH_take (i := 6) (v := ?_) rfl (by kernel_rfl) (by kernel_rfl) (by kernel_rfl) (fun _ _ _ h => h) (Or.inl ⟨by rfl, ?_⟩) hH ?_
        rotate_left 1
        · intro w hSw; (try dsimp only at hSw); go_simp; try rfl
        simp only [Act.put, List.getElem_toArray, List.getElem_cons_zero, List.getElem_cons_succ, List.setIfInBounds_toArray, List.set_cons_zero, List.set_cons_succ]
        refine wpAnyH_take (i := 7) (v := ?_) rfl (by kernel_rfl) (by kernel_rfl) (by kernel_rfl) (fun _ _ _ h => h) (Or.inl ⟨by rfl, ?_⟩) hH ?_
        rotate_left 1
        · intro w hSw; (try dsimp only at hSw); go_simp; try rfl
        simp only [Act.put, List.getElem_toArray, List.getElem_cons_zero, List.getElem_cons_succ, List.setIfInBounds_toArray, List.set_cons_zero, List.set_cons_succ]
        refine wpAnyH_take (i := 8) (v := ?_) rfl (by kernel_rfl) (by kernel_rfl) (by kernel_rfl) (fun _ _ _ h => h) (Or.inl ⟨by rfl, ?_⟩) hH ?_
        rotate_left 1
        · intro w hSw; (try dsimp only at hSw); go_simp; try rfl
        simp only [Act.put, List.getElem_toArray, List.getElem_cons_zero, List.getElem_cons_succ, List.setIfInBounds_toArray, List.set_cons_zero, List.set_cons_succ]
        refine wpAnyH_ready (rs := [9, 10]) (by kernel_rfl) (by simp) (AllReadyH.cons rfl (fun K hK => ?_) (AllReadyH.cons rfl (fun K hK => ?_) AllReadyH.nil))
        · go_simp
          refine (HTB.out wo.drew hcd0).mono ?_
          rintro e X8 ⟨ts, rs, tya, tyc, ra, rc, rfl, hmd, hb8⟩
          have HMD : Hid (Made wo.drew X8 (letter i) tya ra tyc rc ts rs) := hmd
          clear hmd
          go_simp
          refine hK.out _ _ ⟨cell_below hb8 hH.1, cell_below hb8 hH.2.1, cell_below hb8 hH.2.2⟩ (fun hH => ?_)
          clear hK K
          refine wpAnyH_ready (rs := [10]) (by kernel_rfl) (by simp) (AllReadyH.cons rfl (fun K hK => ?_) AllReadyH.nil)
          go_simp
          have hby : Below X8.heap.size X8 (X8.alloc (.cells #[.string ⟨#[]⟩, .slice none 0 0, .slice none 0 0] 26)) := (Below.refl _ X8).alloc (Nat.le_refl _) _
          have hfy : (X8.alloc (.cells #[.string ⟨#[]⟩, .slice none 0 0, .slice none 0 0] 26)).heap[X8.heap.size]? = some (.cells #[.string ⟨#[]⟩, .slice none 0 0, .slice none 0 0] 26 (0, 0)) := heap_alloc_new X8 _
          refine hK.out _ _ ⟨cell_below hby hH.1, cell_below hby hH.2.1, cell_below hby hH.2.2⟩ (fun hH => ?_)
          clear hK K
          obtain ⟨Y0, hY0⟩ : ∃ Y, Y = X8.alloc (.cells #[.string ⟨#[]⟩, .slice none 0 0, .slice none 0 0] 26) := ⟨_, rfl⟩
          rw [← hY0] at hby hfy hH ⊢
          clear hY0
          have hfz : Y0.heap[X8.heap.size]? = some (.cells #[.string ⟨#[]⟩, .slice none 0 0, .slice none 0 0] 26 (0, 0)) := hfy
          have k0 : Y0.cell? ⟨X8.heap.size, 0, none⟩ = some (.string ⟨#[]⟩) := by simp [World.cell?, hfz]
          have k1 : Y0.cell? ⟨X8.heap.size, 1, none⟩ = some (.slice none 0 0) := by simp [World.cell?, hfz]
          have k2 : Y0.cell? ⟨X8.heap.size, 2, none⟩ = some (.slice none 0 0) := by simp [World.cell?, hfz]
          have fz : ∀ o : Nat, Y0.frozen? ⟨X8.heap.size, o, none⟩ = false := fun o => by simp [World.frozen?, hfz]
          have fr0 := fz 0
          have fr1 := fz 1
          have fr2 := fz 2
          have hk3 := heap_set3 hfz (.string (letter i)) (.slice tya ts.length tyc) (.slice ra rs.length rc)
          have zcl := (hcd0).size
          have zb8 := hb8.size
          have hcs : ∀ o : Nat, (((Y0.setCell ⟨X8.heap.size, 0, none⟩ (.string (letter i))).setCell ⟨X8.heap.size, 1, none⟩ (.slice tya ts.length tyc)).setCell ⟨X8.heap.size, 2, none⟩ (.slice ra rs.length rc)).cell? ⟨rb, o, none⟩ = Y0.cell? ⟨rb, o, none⟩ := fun o => World.cell?_of_block (set3_other _ _ _ _ _ _ (by show rb ≠ X8.heap.size; have h1 := HRB.out; omega))
          have HFIN : Hid (TMid wo (((Y0.setCell ⟨X8.heap.size, 0, none⟩ (.string (letter i))).setCell ⟨X8.heap.size, 1, none⟩ (.slice tya ts.length tyc)).setCell ⟨X8.heap.size, 2, none⟩ (.slice ra rs.length rc)) (X8.heap.size) (letter i) tya ra tyc rc ts rs) := t_mid HMD.out hcd0 hb8 (by rw [set3_size]; exact hby.size) hby.os hby.tape hby.output (fun k hk hne => (set3_other _ _ _ _ _ k hne).trans (hby.block k hk)) (.inr (Nat.le_refl _)) (by omega) hk3
          clear fz hfz hk3
          refine wpAnyH_ready (rs := [11]) (by kernel_rfl) (by simp) (AllReadyH.cons rfl (fun K hK => ?_) AllReadyH.nil)
          go_simp
          refine hK.out _ _ ⟨(hcs _).trans hH.1, (hcs _).trans hH.2.1, (hcs _).trans hH.2.2⟩ (fun hH => ?_)
          clear hK K hcs k0 k1 k2 fr0 fr1 fr2
          refine wpAnyH_done (by kernel_rfl) ?_ _
          go_wp2_with fail
          go_meet
          case rel => exact ⟨X8.heap.size, ts, rs, tya, tyc, ra, rc, rfl, HFIN.out⟩
        · go_simp
          have hby : Below wo.drew.heap.size wo.drew ((wo.alloc (.cells #[.string ⟨#[]⟩, .slice none 0 0, .slice none 0 0] 26)).drew) := (Below.refl _ wo.drew).alloc (Nat.le_refl _) _
          have hfy : ((wo.alloc (.cells #[.string ⟨#[]⟩, .slice none 0 0, .slice none 0 0] 26)).drew).heap[wo.heap.size]? = some (.cells #[.string ⟨#[]⟩, .slice none 0 0, .slice none 0 0] 26 (0, 0)) := heap_alloc_new wo.drew _
          refine hK.out _ _ ⟨cell_below hby hH.1, cell_below hby hH.2.1, cell_below hby hH.2.2⟩ (fun hH => ?_)
          clear hK K
          obtain ⟨Y1, hY1⟩ : ∃ Y, Y = (wo.alloc (.cells #[.string ⟨#[]⟩, .slice none 0 0, .slice none 0 0] 26)).drew := ⟨_, rfl⟩
          rw [← hY1] at hby hfy hH ⊢
          clear hY1
          have hcy : Below wo.heap.size wo Y1 := below_then hcd0 hby
          have HTF : Hid (wo.heap.size < Y1.heap.size ∧ wo.heap.size ≤ wo.heap.size) := ⟨lt_of_heap hfy, Nat.le_refl _⟩
          refine wpAnyH_ready (rs := [9]) (by kernel_rfl) (by simp) (AllReadyH.cons rfl (fun K hK => ?_) AllReadyH.nil)
          go_simp
          refine (HTB.out Y1 hcy).mono ?_
          rintro e X8 ⟨ts, rs, tya, tyc, ra, rc, rfl, hmd, hb8⟩
          have HMD : Hid (Made Y1 X8 (letter i) tya ra tyc rc ts rs) := hmd
          clear hmd
          go_simp
          refine hK.out _ _ ⟨cell_below hb8 hH.1, cell_below hb8 hH.2.1, cell_below hb8 hH.2.2⟩ (fun hH => ?_)
          clear hK K
          have hfz : X8.heap[wo.heap.size]? = some (.cells #[.string ⟨#[]⟩, .slice none 0 0, .slice none 0 0] 26 (0, 0)) := (hb8.block _ (lt_of_heap hfy)).trans hfy
          have k0 : X8.cell? ⟨wo.heap.size, 0, none⟩ = some (.string ⟨#[]⟩) := by simp [World.cell?, hfz]
          have k1 : X8.cell? ⟨wo.heap.size, 1, none⟩ = some (.slice none 0 0) := by simp [World.cell?, hfz]
          have k2 : X8.cell? ⟨wo.heap.size, 2, none⟩ = some (.slice none 0 0) := by simp [World.cell?, hfz]
          have fz : ∀ o : Nat, X8.frozen? ⟨wo.heap.size, o, none⟩ = false := fun o => by simp [World.frozen?, hfz]
          have fr0 := fz 0
          have fr1 := fz 1
          have fr2 := fz 2
          have hk3 := heap_set3 hfz (.string (letter i)) (.slice tya ts.length tyc) (.slice ra rs.length rc)
          have zcl := (hcy).size
          have zb8 := hb8.size
          have hcs : ∀ o : Nat, (((X8.setCell ⟨wo.heap.size, 0, none⟩ (.string (letter i))).setCell ⟨wo.heap.size, 1, none⟩ (.slice tya ts.length tyc)).setCell ⟨wo.heap.size, 2, none⟩ (.slice ra rs.length rc)).cell? ⟨rb, o, none⟩ = X8.cell? ⟨rb, o, none⟩ := fun o => World.cell?_of_block (set3_other _ _ _ _ _ _ (by show rb ≠ wo.heap.size; have h1 := HRB.out; have h3 := HTF.out; omega))
          have HFIN : Hid (TMid wo (((X8.setCell ⟨wo.heap.size, 0, none⟩ (.string (letter i))).setCell ⟨wo.heap.size, 1, none⟩ (.slice tya ts.length tyc)).setCell ⟨wo.heap.size, 2, none⟩ (.slice ra rs.length rc)) (wo.heap.size) (letter i) tya ra tyc rc ts rs) := t_mid HMD.out hcy hb8 (by rw [set3_size]; exact Nat.le_refl _) rfl rfl rfl (fun k hk hne => set3_other _ _ _ _ _ k hne) (.inl HTF.out.1) (by have h1 := HTF.out.2; omega) hk3
          clear fz hfz hk3
          refine wpAnyH_ready (rs := [11]) (by kernel_rfl) (by simp) (AllReadyH.cons rfl (fun K hK => ?_) AllReadyH.nil)
          go_simp
          refine hK.out _ _ ⟨(hcs _).trans hH.1, (hcs _).trans hH.2.1, (hcs _).trans hH.2.2⟩ (fun hH => ?_)
          clear hK K hcs k0 k1 k2 fr0 fr1 fr2
          refine wpAnyH_done (by kernel_rfl) ?_ _
          go_wp2_with fail
          go_meet
          case rel => exact ⟨wo.heap.size, ts, rs, tya, tyc, ra, rc, rfl, HFIN.out⟩
      case rest =>
        obtain ⟨tA, ts, rs, tya, tyc, ra, rc, rfl, hT, htA, hMd, hbT⟩ := hcut
        obtain ⟨wm, hwm⟩ : ∃ wm, wm = wc := ⟨_, rfl⟩
        subst hwm
        have HMD : Hid (Made wo wm (letter i) tya ra tyc rc ts rs) := hMd
        have HBT : Hid (Below wo.heap.size wo wm) := hbT
        have HS0 : Hid (∀ k, M k → k < wo.heap.size) := HST.out.lt
        have HT0 : Hid (∀ g, (Value.slice av es.length cv).ownBlock = some g → g < wo.heap.size) := fun g hg => (owns_block HE.out.own hg).2
        have HST2 : Hid (Sto M wm st D (L.map Prod.fst)) := HST.out.below hbT
        have HE2 : Hid (EntsAt N wm W1.heap.size (.slice av es.length cv) es L) := HE.out.below hbT
        have HBW : Hid (Below W1.heap.size W1 wm) := hbw.trans (hbT.mono hbw.size)
        have e0 : wm.cell? ⟨tA, 0, none⟩ = some (.string (letter i)) := by simp [World.cell?, hT]
        have e1 : wm.cell? ⟨tA, 1, none⟩ = some (.slice tya ts.length tyc) := by simp [World.cell?, hT]
        have e2 : wm.cell? ⟨tA, 2, none⟩ = some (.slice ra rs.length rc) := by simp [World.cell?, hT]
        have HTN : Hid (¬ M tA) := fun hm => by have h1 := HST.out.lt tA hm; omega
        have HTL : Hid (tA < wm.heap.size) := lt_of_heap hT
        have HTT : Hid (wm.heap[tA]? = some (.cells #[.string (letter i), .slice tya ts.length tyc, .slice ra rs.length rc] 26 (0, 0))) := hT
        clear HST HE hT htA hMd hbT HTB HRB c0 c1 c2 r0 r1 r2 hok hrb hlt1 hlt2 hcv
        have HST : Hid (Sto M wm st D (L.map Prod.fst)) := HST2.out
        go_wp2_with (first | (go_at_call 13; refine (Used_sto M st D _ wm HST.out).mono ?_; rintro e X6 ⟨rfl, hX6⟩; subst X6))
        obtain ⟨n1, HU1⟩ : ∃ n1, Hid (usedOf D.pages = n1) := ⟨_, rfl⟩
        rw [HU1.out]
        have HHW : Hid (∀ X, Below wm.heap.size wm X → Calls Tryz.prog 10 #[.agg #[.string (letter i), .slice tya ts.length tyc, .slice ra rs.length rc], .slice none 0 0] X fun e X' => Below X.heap.size X X' ∧ ∃ (ah : Option Addr) (ch : Nat) (hs : List Int), e = .returned (.slice ah hs.length ch) ∧ Ints X' ah hs ∧ HowsI ts [] hs ts.length) := fun X hX => by
          obtain ⟨ys, hR⟩ := HMD.out.right
          exact hows_made hR hX
        have HNW : Hid (findI (L.map Prod.fst) (letter i) = L.length) := by
          show _ = _
          rw [findI_new _ _ (fun T hT => ?_), List.length_map]
          obtain ⟨x, hx, rfl⟩ := List.mem_map.1 hT
          obtain ⟨j, hj, he⟩ := HNA.out.1 x hx
          intro e
          rw [he] at e
          have := letter_inj j i (by omega) h2 e
          omega
        have HLD : Hid (∀ X ah ch hs (r : Nat), Below wm.heap.size wm X → Ints X ah hs → HowsI ts [] hs ts.length → r < 64 → Calls Tryz.prog 14 #[.pointer (some ⟨st, 0, none⟩), .agg #[.string (letter i), .slice tya ts.length tyc, .slice ra rs.length rc], .slice ah hs.length ch, .int .i64 (1 + (r : Int))] X fun e X' => ∃ cd, e = .returned (faultAt cd (-1) (-1)) ∧ Keep M X X' ∧ FPost M X st q f0 D L failed i (letter i) rs cd X') := fun X ah ch hs r hX hI hH hr => by
          obtain ⟨ys, hR⟩ := HMD.out.right
          exact load_filled M st q f0 D L failed i (letter i) tya ra ah tyc rc ch ts hs rs (1 + (r : Int)) X (HST.out.below hX) HF.out h2 ⟨ys, hR.below hX⟩ HMD.out.few hI hH (by omega) HNW.out (fun b o hb hm => by have h3 := HMD.out.newT b o hb; have h4 := HS0.out b hm; omega) a0 a1 a2 tt qa wr_ pg pl ex ta W1 HN1.out (HBW.out.trans (hX.mono HBW.out.size)) HM.out
        go_cut [18] from 38 to 105 (fun f wx => ∃ fa : Nat, f = .pointer (some ⟨fa, 0, none⟩) ∧ FMid W1 wm M st q f0 D L failed i (letter i) rs fa wx)
        case first =>
          refine wp_region_held_drew (S := fun X => X.cell? ⟨tA, 0, none⟩ = some (.string (letter i)) ∧ X.cell? ⟨tA, 1, none⟩ = some (.slice tya ts.length tyc) ∧ X.cell? ⟨tA, 2, none⟩ = some (.slice ra rs.length rc)) (by kernel_rfl) ⟨e0, e1, e2⟩ (fun hH => ?_)
          have hcd0 : Below wm.heap.size wm wm.drew := ⟨rfl, rfl, rfl, Nat.le_refl _, fun _ _ => rfl⟩
          refine wpAnyH_take (i := 0) (v := ?_) rfl (by kernel_rfl) (by kernel_rfl) (by kernel_rfl) (fun _ _ _ h => h) (Or.inl ⟨by rfl, ?_⟩) hH ?_
          rotate_left 1
          · intro w hSw; (try dsimp only at hSw); go_simp; try rfl
          simp only [Act.put, List.getElem_toArray, List.getElem_cons_zero, List.setIfInBounds_toArray, List.set_cons_zero, List.set_cons_succ]
          refine wpAnyH_take (i := 1) (v := ?_) rfl (by kernel_rfl) (by kernel_rfl) (by kernel_rfl) (fun _ _ _ h => h) (Or.inl ⟨by rfl, ?_⟩) hH ?_
          rotate_left 1
          · intro w hSw; (try dsimp only at hSw); go_simp; try rfl
          simp only [Act.put, List.getElem_toArray, List.getElem_cons_zero, List.getElem_cons_succ, List.setIfInBounds_toArray, List.set_cons_zero, List.set_cons_succ]
          refine wpAnyH_take (i := 2) (v := ?_) rfl (by kernel_rfl) (by kernel_rfl) (by kernel_rfl) (fun _ _ _ h => h) (Or.inl ⟨by rfl, ?_⟩) hH ?_
          rotate_left 1
          · intro w hSw; (try dsimp only at hSw); go_simp; try rfl
          simp only [Act.put, List.getElem_toArray, List.getElem_cons_zero, List.getElem_cons_succ, List.setIfInBounds_toArray, List.set_cons_zero, List.set_cons_succ]
          refine wpAnyH_take (i := 4) (v := ?_) rfl (by kernel_rfl) (by kernel_rfl) (by kernel_rfl) (fun _ _ _ h => h) (Or.inl ⟨by rfl, ?_⟩) hH ?_
          rotate_left 1
          · intro w hSw; (try dsimp only at hSw); go_simp; try rfl
          simp only [Act.put, List.getElem_toArray, List.getElem_cons_zero, List.getElem_cons_succ, List.setIfInBounds_toArray, List.set_cons_zero, List.set_cons_succ]
          refine wpAnyH_ready (rs := [3, 8]) (by kernel_rfl) (by simp) (AllReadyH.cons rfl (fun K hK => ?_) (AllReadyH.cons rfl (fun K hK => ?_) AllReadyH.nil))
          · go_simp
            refine (HHW.out wm.drew hcd0).mono ?_
            rintro e X1 ⟨hx1, ah, ch, hs, rfl, hIh, hHI⟩
            have hc1 : Below wm.heap.size wm X1 := below_then hcd0 hx1
            have HIH : Hid (Ints X1 ah hs) := hIh
            have HHI : Hid (HowsI ts [] hs ts.length) := hHI
            clear hIh hHI
            go_simp
            refine hK.out _ _ ⟨cell_below hx1 hH.1, cell_below hx1 hH.2.1, cell_below hx1 hH.2.2⟩ (fun hH => ?_)
            clear hK K
            refine wpAnyH_ready (rs := [5, 8]) (by kernel_rfl) (by simp) (AllReadyH.cons rfl (fun K hK => ?_) (AllReadyH.cons rfl (fun K hK => ?_) AllReadyH.nil))
            · go_simp
              refine (HPK.out _).mono ?_
              rintro e X7 ⟨⟨r, rfl, hr⟩, hX7⟩
              subst hX7
              have hwr : IntKind.i64.wrap (1 + (r : Int)) = 1 + (r : Int) := by rw [IntKind.wrap_i64]; omega
              go_simp
              refine hK.out _ _ hH (fun hH => ?_)
              clear hK K
              refine wpAnyH_take (i := 6) (v := ?_) rfl (by kernel_rfl) (by kernel_rfl) (by kernel_rfl) (fun _ _ _ h => h) (Or.inl ⟨by rfl, ?_⟩) hH ?_
              rotate_left 1
              · intro w hSw; (try dsimp only at hSw); go_simp; try rfl
              simp only [Act.put, List.getElem_toArray, List.getElem_cons_zero, List.getElem_cons_succ, List.setIfInBounds_toArray, List.set_cons_zero, List.set_cons_succ]
              refine wpAnyH_ready (rs := [7, 8]) (by kernel_rfl) (by simp) (AllReadyH.cons rfl (fun K hK => ?_) (AllReadyH.cons rfl (fun K hK => ?_) AllReadyH.nil))
              · go_simp
                refine (HLD.out X7 ah ch hs r hc1 HIH.out HHI.out hr).mono ?_
                rintro e X8 ⟨cd, rfl, hkL, hpo⟩
                have HPO : Hid (FPost M X7 st q f0 D L failed i (letter i) rs cd X8) := hpo
                clear hpo
                have hcL := hc1
                have hnb : ¬ M tA := HTN.out
                go_simp
                refine hK.out _ _ ⟨hkL.cell hH.1 hnb, hkL.cell hH.2.1 hnb, hkL.cell hH.2.2 hnb⟩ (fun hH => ?_)
                clear hK K
                refine wpAnyH_ready (rs := [8]) (by kernel_rfl) (by simp) (AllReadyH.cons rfl (fun K hK => ?_) AllReadyH.nil)
                go_simp
                have hby : Below X8.heap.size X8 (X8.alloc zeroFault) := (Below.refl _ X8).alloc (Nat.le_refl _) zeroFault
                have hfy : (X8.alloc zeroFault).heap[X8.heap.size]? = some (.cells #[.int .i64 0, .int .i64 0, .int .i64 0, .int .i64 0, .int .i64 0] 43 (0, 0)) := heap_alloc_new X8 zeroFault
                refine hK.out _ _ ⟨cell_below hby hH.1, cell_below hby hH.2.1, cell_below hby hH.2.2⟩ (fun hH => ?_)
                clear hK K
                obtain ⟨Y0, hY0⟩ : ∃ Y, Y = X8.alloc zeroFault := ⟨_, rfl⟩
                rw [← hY0] at hby hfy hH ⊢
                clear hY0
                have hfz : Y0.heap[X8.heap.size]? = some (.cells #[.int .i64 0, .int .i64 0, .int .i64 0, .int .i64 0, .int .i64 0] 43 (0, 0)) := hfy
                have k0 : Y0.cell? ⟨X8.heap.size, 0, none⟩ = some (.int .i64 0) := by simp [World.cell?, hfz]
                have k1 : Y0.cell? ⟨X8.heap.size, 1, none⟩ = some (.int .i64 0) := by simp [World.cell?, hfz]
                have k2 : Y0.cell? ⟨X8.heap.size, 2, none⟩ = some (.int .i64 0) := by simp [World.cell?, hfz]
                have k3 : Y0.cell? ⟨X8.heap.size, 3, none⟩ = some (.int .i64 0) := by simp [World.cell?, hfz]
                have k4 : Y0.cell? ⟨X8.heap.size, 4, none⟩ = some (.int .i64 0) := by simp [World.cell?, hfz]
                have fz : ∀ o : Nat, Y0.frozen? ⟨X8.heap.size, o, none⟩ = false := fun o => by simp [World.frozen?, hfz]
                have fr0 := fz 0
                have fr1 := fz 1
                have fr2 := fz 2
                have fr3 := fz 3
                have fr4 := fz 4
                have hk5 := heap_set (heap_set (heap_set (heap_set (heap_set hfz 0 (.int .i64 cd)) 1 (.int .i64 (-1))) 2 (.int .i64 (-1))) 3 (.int .i64 (-1))) 4 (.int .i64 (-1))
                simp only [List.setIfInBounds_toArray, List.set_cons_zero, List.set_cons_succ] at hk5
                have zcl := hcL.size
                have zkl := hkL.size
                have hcs : ∀ o : Nat, (((((Y0.setCell ⟨X8.heap.size, 0, none⟩ (.int .i64 cd)).setCell ⟨X8.heap.size, 1, none⟩ (.int .i64 (-1))).setCell ⟨X8.heap.size, 2, none⟩ (.int .i64 (-1))).setCell ⟨X8.heap.size, 3, none⟩ (.int .i64 (-1))).setCell ⟨X8.heap.size, 4, none⟩ (.int .i64 (-1))).cell? ⟨tA, o, none⟩ = Y0.cell? ⟨tA, o, none⟩ := fun o => World.cell?_of_block (set5_other _ _ _ _ _ _ _ _ (by show tA ≠ X8.heap.size; have h1 := HTL.out; omega))
                have HFIN : Hid (FMid W1 wm M st q f0 D L failed i (letter i) rs (X8.heap.size) (((((Y0.setCell ⟨X8.heap.size, 0, none⟩ (.int .i64 cd)).setCell ⟨X8.heap.size, 1, none⟩ (.int .i64 (-1))).setCell ⟨X8.heap.size, 2, none⟩ (.int .i64 (-1))).setCell ⟨X8.heap.size, 3, none⟩ (.int .i64 (-1))).setCell ⟨X8.heap.size, 4, none⟩ (.int .i64 (-1)))) := fp_mid HPO.out hkL HM.out HBW.out hcL (by rw [set5_size]; exact hby.size) hby.os hby.tape hby.output (fun k hk hne => (set5_other _ _ _ _ _ _ _ k hne).trans (hby.block k hk)) (fun hm => by have h1 := HST.out.lt _ hm; omega) (.inr (Nat.le_refl _)) (by omega) hk5
                clear fz hfz hk5
                refine wpAnyH_ready (rs := [9]) (by kernel_rfl) (by simp) (AllReadyH.cons rfl (fun K hK => ?_) AllReadyH.nil)
                go_simp
                refine hK.out _ _ ⟨(hcs 0).trans hH.1, (hcs 1).trans hH.2.1, (hcs 2).trans hH.2.2⟩ (fun hH => ?_)
                clear hK K hcs k0 k1 k2 k3 k4 fr0 fr1 fr2 fr3 fr4
                refine wpAnyH_done (by kernel_rfl) ?_ _
                go_wp2_with fail
                go_meet
                case rel => exact ⟨X8.heap.size, rfl, HFIN.out⟩
              · go_simp
                have hby : Below X7.heap.size X7 (X7.alloc zeroFault) := (Below.refl _ X7).alloc (Nat.le_refl _) zeroFault
                have hfy : (X7.alloc zeroFault).heap[X7.heap.size]? = some (.cells #[.int .i64 0, .int .i64 0, .int .i64 0, .int .i64 0, .int .i64 0] 43 (0, 0)) := heap_alloc_new X7 zeroFault
                refine hK.out _ _ ⟨cell_below hby hH.1, cell_below hby hH.2.1, cell_below hby hH.2.2⟩ (fun hH => ?_)
                clear hK K
                obtain ⟨Y1, hY1⟩ : ∃ Y, Y = X7.alloc zeroFault := ⟨_, rfl⟩
                rw [← hY1] at hby hfy hH ⊢
                clear hY1
                have hcy : Below wm.heap.size wm Y1 := below_then hc1 hby
                have hfc : Y1.heap[X7.heap.size]? = some (.cells #[.int .i64 0, .int .i64 0, .int .i64 0, .int .i64 0, .int .i64 0] 43 (0, 0)) := hfy
                have HFA : Hid (wm.heap.size ≤ X7.heap.size) := (hc1).size
                have HIH : Hid (Ints Y1 ah hs) := HIH.out.below hby
                refine wpAnyH_ready (rs := [7]) (by kernel_rfl) (by simp) (AllReadyH.cons rfl (fun K hK => ?_) AllReadyH.nil)
                go_simp
                refine (HLD.out Y1 ah ch hs r hcy HIH.out HHI.out hr).mono ?_
                rintro e X8 ⟨cd, rfl, hkL, hpo⟩
                have HPO : Hid (FPost M Y1 st q f0 D L failed i (letter i) rs cd X8) := hpo
                clear hpo
                have hcL := hcy
                have hnb : ¬ M tA := HTN.out
                have HFL : Hid (X7.heap.size < Y1.heap.size ∧ wm.heap.size ≤ X7.heap.size) := ⟨lt_of_heap hfc, HFA.out⟩
                have nfa : ¬ M X7.heap.size := fun hm => by have h1 := HST.out.lt _ hm; have h2 := HFA.out; omega
                have hfz : X8.heap[X7.heap.size]? = some (.cells #[.int .i64 0, .int .i64 0, .int .i64 0, .int .i64 0, .int .i64 0] 43 (0, 0)) := (hkL.block _ (lt_of_heap hfc) nfa).trans hfc
                go_simp
                refine hK.out _ _ ⟨hkL.cell hH.1 hnb, hkL.cell hH.2.1 hnb, hkL.cell hH.2.2 hnb⟩ (fun hH => ?_)
                clear hK K
                have k0 : X8.cell? ⟨X7.heap.size, 0, none⟩ = some (.int .i64 0) := by simp [World.cell?, hfz]
                have k1 : X8.cell? ⟨X7.heap.size, 1, none⟩ = some (.int .i64 0) := by simp [World.cell?, hfz]
                have k2 : X8.cell? ⟨X7.heap.size, 2, none⟩ = some (.int .i64 0) := by simp [World.cell?, hfz]
                have k3 : X8.cell? ⟨X7.heap.size, 3, none⟩ = some (.int .i64 0) := by simp [World.cell?, hfz]
                have k4 : X8.cell? ⟨X7.heap.size, 4, none⟩ = some (.int .i64 0) := by simp [World.cell?, hfz]
                have fz : ∀ o : Nat, X8.frozen? ⟨X7.heap.size, o, none⟩ = false := fun o => by simp [World.frozen?, hfz]
                have fr0 := fz 0
                have fr1 := fz 1
                have fr2 := fz 2
                have fr3 := fz 3
                have fr4 := fz 4
                have hk5 := heap_set (heap_set (heap_set (heap_set (heap_set hfz 0 (.int .i64 cd)) 1 (.int .i64 (-1))) 2 (.int .i64 (-1))) 3 (.int .i64 (-1))) 4 (.int .i64 (-1))
                simp only [List.setIfInBounds_toArray, List.set_cons_zero, List.set_cons_succ] at hk5
                have zcl := hcL.size
                have zkl := hkL.size
                have hcs : ∀ o : Nat, (((((X8.setCell ⟨X7.heap.size, 0, none⟩ (.int .i64 cd)).setCell ⟨X7.heap.size, 1, none⟩ (.int .i64 (-1))).setCell ⟨X7.heap.size, 2, none⟩ (.int .i64 (-1))).setCell ⟨X7.heap.size, 3, none⟩ (.int .i64 (-1))).setCell ⟨X7.heap.size, 4, none⟩ (.int .i64 (-1))).cell? ⟨tA, o, none⟩ = X8.cell? ⟨tA, o, none⟩ := fun o => World.cell?_of_block (set5_other _ _ _ _ _ _ _ _ (by show tA ≠ X7.heap.size; have h1 := HTL.out; have h3 := HFL.out; omega))
                have HFIN : Hid (FMid W1 wm M st q f0 D L failed i (letter i) rs (X7.heap.size) (((((X8.setCell ⟨X7.heap.size, 0, none⟩ (.int .i64 cd)).setCell ⟨X7.heap.size, 1, none⟩ (.int .i64 (-1))).setCell ⟨X7.heap.size, 2, none⟩ (.int .i64 (-1))).setCell ⟨X7.heap.size, 3, none⟩ (.int .i64 (-1))).setCell ⟨X7.heap.size, 4, none⟩ (.int .i64 (-1)))) := fp_mid HPO.out hkL HM.out HBW.out hcL (by rw [set5_size]; exact Nat.le_refl _) rfl rfl rfl (fun k hk hne => set5_other _ _ _ _ _ _ _ k hne) nfa (.inl (by have h1 := HFL.out; omega)) (by have h1 := HFL.out; omega) hk5
                clear fz hfz hk5
                refine wpAnyH_ready (rs := [9]) (by kernel_rfl) (by simp) (AllReadyH.cons rfl (fun K hK => ?_) AllReadyH.nil)
                go_simp
                refine hK.out _ _ ⟨(hcs 0).trans hH.1, (hcs 1).trans hH.2.1, (hcs 2).trans hH.2.2⟩ (fun hH => ?_)
                clear hK K hcs k0 k1 k2 k3 k4 fr0 fr1 fr2 fr3 fr4
                refine wpAnyH_done (by kernel_rfl) ?_ _
                go_wp2_with fail
                go_meet
                case rel => exact ⟨X7.heap.size, rfl, HFIN.out⟩
            · go_simp
              have hby : Below X1.heap.size X1 (X1.alloc zeroFault) := (Below.refl _ X1).alloc (Nat.le_refl _) zeroFault
              have hfy : (X1.alloc zeroFault).heap[X1.heap.size]? = some (.cells #[.int .i64 0, .int .i64 0, .int .i64 0, .int .i64 0, .int .i64 0] 43 (0, 0)) := heap_alloc_new X1 zeroFault
              refine hK.out _ _ ⟨cell_below hby hH.1, cell_below hby hH.2.1, cell_below hby hH.2.2⟩ (fun hH => ?_)
              clear hK K
              obtain ⟨Y2, hY2⟩ : ∃ Y, Y = X1.alloc zeroFault := ⟨_, rfl⟩
              rw [← hY2] at hby hfy hH ⊢
              clear hY2
              have hcy : Below wm.heap.size wm Y2 := below_then hc1 hby
              have hfc : Y2.heap[X1.heap.size]? = some (.cells #[.int .i64 0, .int .i64 0, .int .i64 0, .int .i64 0, .int .i64 0] 43 (0, 0)) := hfy
              have HFA : Hid (wm.heap.size ≤ X1.heap.size) := (hc1).size
              have HIH : Hid (Ints Y2 ah hs) := HIH.out.below hby
              refine wpAnyH_ready (rs := [5]) (by kernel_rfl) (by simp) (AllReadyH.cons rfl (fun K hK => ?_) AllReadyH.nil)
              go_simp
              refine (HPK.out _).mono ?_
              rintro e X7 ⟨⟨r, rfl, hr⟩, hX7⟩
              subst hX7
              have hwr : IntKind.i64.wrap (1 + (r : Int)) = 1 + (r : Int) := by rw [IntKind.wrap_i64]; omega
              go_simp
              refine hK.out _ _ hH (fun hH => ?_)
              clear hK K
              refine wpAnyH_take (i := 6) (v := ?_) rfl (by kernel_rfl) (by kernel_rfl) (by kernel_rfl) (fun _ _ _ h => h) (Or.inl ⟨by rfl, ?_⟩) hH ?_
              rotate_left 1
              · intro w hSw; (try dsimp only at hSw); go_simp; try rfl
              simp only [Act.put, List.getElem_toArray, List.getElem_cons_zero, List.getElem_cons_succ, List.setIfInBounds_toArray, List.set_cons_zero, List.set_cons_succ]
              refine wpAnyH_ready (rs := [7]) (by kernel_rfl) (by simp) (AllReadyH.cons rfl (fun K hK => ?_) AllReadyH.nil)
              go_simp
              refine (HLD.out X7 ah ch hs r hcy HIH.out HHI.out hr).mono ?_
              rintro e X8 ⟨cd, rfl, hkL, hpo⟩
              have HPO : Hid (FPost M X7 st q f0 D L failed i (letter i) rs cd X8) := hpo
              clear hpo
              have hcL := hcy
              have hnb : ¬ M tA := HTN.out
              have HFL : Hid (X1.heap.size < X7.heap.size ∧ wm.heap.size ≤ X1.heap.size) := ⟨lt_of_heap hfc, HFA.out⟩
              have nfa : ¬ M X1.heap.size := fun hm => by have h1 := HST.out.lt _ hm; have h2 := HFA.out; omega
              have hfz : X8.heap[X1.heap.size]? = some (.cells #[.int .i64 0, .int .i64 0, .int .i64 0, .int .i64 0, .int .i64 0] 43 (0, 0)) := (hkL.block _ (lt_of_heap hfc) nfa).trans hfc
              go_simp
              refine hK.out _ _ ⟨hkL.cell hH.1 hnb, hkL.cell hH.2.1 hnb, hkL.cell hH.2.2 hnb⟩ (fun hH => ?_)
              clear hK K
              have k0 : X8.cell? ⟨X1.heap.size, 0, none⟩ = some (.int .i64 0) := by simp [World.cell?, hfz]
              have k1 : X8.cell? ⟨X1.heap.size, 1, none⟩ = some (.int .i64 0) := by simp [World.cell?, hfz]
              have k2 : X8.cell? ⟨X1.heap.size, 2, none⟩ = some (.int .i64 0) := by simp [World.cell?, hfz]
              have k3 : X8.cell? ⟨X1.heap.size, 3, none⟩ = some (.int .i64 0) := by simp [World.cell?, hfz]
              have k4 : X8.cell? ⟨X1.heap.size, 4, none⟩ = some (.int .i64 0) := by simp [World.cell?, hfz]
              have fz : ∀ o : Nat, X8.frozen? ⟨X1.heap.size, o, none⟩ = false := fun o => by simp [World.frozen?, hfz]
              have fr0 := fz 0
              have fr1 := fz 1
              have fr2 := fz 2
              have fr3 := fz 3
              have fr4 := fz 4
              have hk5 := heap_set (heap_set (heap_set (heap_set (heap_set hfz 0 (.int .i64 cd)) 1 (.int .i64 (-1))) 2 (.int .i64 (-1))) 3 (.int .i64 (-1))) 4 (.int .i64 (-1))
              simp only [List.setIfInBounds_toArray, List.set_cons_zero, List.set_cons_succ] at hk5
              have zcl := hcL.size
              have zkl := hkL.size
              have hcs : ∀ o : Nat, (((((X8.setCell ⟨X1.heap.size, 0, none⟩ (.int .i64 cd)).setCell ⟨X1.heap.size, 1, none⟩ (.int .i64 (-1))).setCell ⟨X1.heap.size, 2, none⟩ (.int .i64 (-1))).setCell ⟨X1.heap.size, 3, none⟩ (.int .i64 (-1))).setCell ⟨X1.heap.size, 4, none⟩ (.int .i64 (-1))).cell? ⟨tA, o, none⟩ = X8.cell? ⟨tA, o, none⟩ := fun o => World.cell?_of_block (set5_other _ _ _ _ _ _ _ _ (by show tA ≠ X1.heap.size; have h1 := HTL.out; have h3 := HFL.out; omega))
              have HFIN : Hid (FMid W1 wm M st q f0 D L failed i (letter i) rs (X1.heap.size) (((((X8.setCell ⟨X1.heap.size, 0, none⟩ (.int .i64 cd)).setCell ⟨X1.heap.size, 1, none⟩ (.int .i64 (-1))).setCell ⟨X1.heap.size, 2, none⟩ (.int .i64 (-1))).setCell ⟨X1.heap.size, 3, none⟩ (.int .i64 (-1))).setCell ⟨X1.heap.size, 4, none⟩ (.int .i64 (-1)))) := fp_mid HPO.out hkL HM.out HBW.out hcL (by rw [set5_size]; exact Nat.le_refl _) rfl rfl rfl (fun k hk hne => set5_other _ _ _ _ _ _ _ k hne) nfa (.inl (by have h1 := HFL.out; omega)) (by have h1 := HFL.out; omega) hk5
              clear fz hfz hk5
              refine wpAnyH_ready (rs := [9]) (by kernel_rfl) (by simp) (AllReadyH.cons rfl (fun K hK => ?_) AllReadyH.nil)
              go_simp
              refine hK.out _ _ ⟨(hcs 0).trans hH.1, (hcs 1).trans hH.2.1, (hcs 2).trans hH.2.2⟩ (fun hH => ?_)
              clear hK K hcs k0 k1 k2 k3 k4 fr0 fr1 fr2 fr3 fr4
              refine wpAnyH_done (by kernel_rfl) ?_ _
              go_wp2_with fail
              go_meet
              case rel => exact ⟨X1.heap.size, rfl, HFIN.out⟩
          · go_simp
            have hby : Below wm.drew.heap.size wm.drew ((wm.alloc zeroFault).drew) := (Below.refl _ wm.drew).alloc (Nat.le_refl _) zeroFault
            have hfy : ((wm.alloc zeroFault).drew).heap[wm.heap.size]? = some (.cells #[.int .i64 0, .int .i64 0, .int .i64 0, .int .i64 0, .int .i64 0] 43 (0, 0)) := heap_alloc_new wm.drew zeroFault
            refine hK.out _ _ ⟨cell_below hby hH.1, cell_below hby hH.2.1, cell_below hby hH.2.2⟩ (fun hH => ?_)
            clear hK K
            obtain ⟨Y3, hY3⟩ : ∃ Y, Y = (wm.alloc zeroFault).drew := ⟨_, rfl⟩
            rw [← hY3] at hby hfy hH ⊢
            clear hY3
            have hcy : Below wm.heap.size wm Y3 := below_then hcd0 hby
            have hfc : Y3.heap[wm.heap.size]? = some (.cells #[.int .i64 0, .int .i64 0, .int .i64 0, .int .i64 0, .int .i64 0] 43 (0, 0)) := hfy
            have HFA : Hid (wm.heap.size ≤ wm.heap.size) := (hcd0).size
            refine wpAnyH_ready (rs := [3]) (by kernel_rfl) (by simp) (AllReadyH.cons rfl (fun K hK => ?_) AllReadyH.nil)
            go_simp
            refine (HHW.out Y3 hcy).mono ?_
            rintro e X1 ⟨hx1, ah, ch, hs, rfl, hIh, hHI⟩
            have hc1 : Below wm.heap.size wm X1 := below_then hcy hx1
            have hfc : X1.heap[wm.heap.size]? = some (.cells #[.int .i64 0, .int .i64 0, .int .i64 0, .int .i64 0, .int .i64 0] 43 (0, 0)) := (hx1.block _ (lt_of_heap hfc)).trans hfc
            have HIH : Hid (Ints X1 ah hs) := hIh
            have HHI : Hid (HowsI ts [] hs ts.length) := hHI
            clear hIh hHI
            go_simp
            refine hK.out _ _ ⟨cell_below hx1 hH.1, cell_below hx1 hH.2.1, cell_below hx1 hH.2.2⟩ (fun hH => ?_)
            clear hK K
            refine wpAnyH_ready (rs := [5]) (by kernel_rfl) (by simp) (AllReadyH.cons rfl (fun K hK => ?_) AllReadyH.nil)
            go_simp
            refine (HPK.out _).mono ?_
            rintro e X7 ⟨⟨r, rfl, hr⟩, hX7⟩
            subst hX7
            have hwr : IntKind.i64.wrap (1 + (r : Int)) = 1 + (r : Int) := by rw [IntKind.wrap_i64]; omega
            go_simp
            refine hK.out _ _ hH (fun hH => ?_)
            clear hK K
            refine wpAnyH_take (i := 6) (v := ?_) rfl (by kernel_rfl) (by kernel_rfl) (by kernel_rfl) (fun _ _ _ h => h) (Or.inl ⟨by rfl, ?_⟩) hH ?_
            rotate_left 1
            · intro w hSw; (try dsimp only at hSw); go_simp; try rfl
            simp only [Act.put, List.getElem_toArray, List.getElem_cons_zero, List.getElem_cons_succ, List.setIfInBounds_toArray, List.set_cons_zero, List.set_cons_succ]
            refine wpAnyH_ready (rs := [7]) (by kernel_rfl) (by simp) (AllReadyH.cons rfl (fun K hK => ?_) AllReadyH.nil)
            go_simp
            refine (HLD.out X7 ah ch hs r hc1 HIH.out HHI.out hr).mono ?_
            rintro e X8 ⟨cd, rfl, hkL, hpo⟩
            have HPO : Hid (FPost M X7 st q f0 D L failed i (letter i) rs cd X8) := hpo
            clear hpo
            have hcL := hc1
            have hnb : ¬ M tA := HTN.out
            have HFL : Hid (wm.heap.size < X7.heap.size ∧ wm.heap.size ≤ wm.heap.size) := ⟨lt_of_heap hfc, HFA.out⟩
            have nfa : ¬ M wm.heap.size := fun hm => by have h1 := HST.out.lt _ hm; have h2 := HFA.out; omega
            have hfz : X8.heap[wm.heap.size]? = some (.cells #[.int .i64 0, .int .i64 0, .int .i64 0, .int .i64 0, .int .i64 0] 43 (0, 0)) := (hkL.block _ (lt_of_heap hfc) nfa).trans hfc
            go_simp
            refine hK.out _ _ ⟨hkL.cell hH.1 hnb, hkL.cell hH.2.1 hnb, hkL.cell hH.2.2 hnb⟩ (fun hH => ?_)
            clear hK K
            have k0 : X8.cell? ⟨wm.heap.size, 0, none⟩ = some (.int .i64 0) := by simp [World.cell?, hfz]
            have k1 : X8.cell? ⟨wm.heap.size, 1, none⟩ = some (.int .i64 0) := by simp [World.cell?, hfz]
            have k2 : X8.cell? ⟨wm.heap.size, 2, none⟩ = some (.int .i64 0) := by simp [World.cell?, hfz]
            have k3 : X8.cell? ⟨wm.heap.size, 3, none⟩ = some (.int .i64 0) := by simp [World.cell?, hfz]
            have k4 : X8.cell? ⟨wm.heap.size, 4, none⟩ = some (.int .i64 0) := by simp [World.cell?, hfz]
            have fz : ∀ o : Nat, X8.frozen? ⟨wm.heap.size, o, none⟩ = false := fun o => by simp [World.frozen?, hfz]
            have fr0 := fz 0
            have fr1 := fz 1
            have fr2 := fz 2
            have fr3 := fz 3
            have fr4 := fz 4
            have hk5 := heap_set (heap_set (heap_set (heap_set (heap_set hfz 0 (.int .i64 cd)) 1 (.int .i64 (-1))) 2 (.int .i64 (-1))) 3 (.int .i64 (-1))) 4 (.int .i64 (-1))
            simp only [List.setIfInBounds_toArray, List.set_cons_zero, List.set_cons_succ] at hk5
            have zcl := hcL.size
            have zkl := hkL.size
            have hcs : ∀ o : Nat, (((((X8.setCell ⟨wm.heap.size, 0, none⟩ (.int .i64 cd)).setCell ⟨wm.heap.size, 1, none⟩ (.int .i64 (-1))).setCell ⟨wm.heap.size, 2, none⟩ (.int .i64 (-1))).setCell ⟨wm.heap.size, 3, none⟩ (.int .i64 (-1))).setCell ⟨wm.heap.size, 4, none⟩ (.int .i64 (-1))).cell? ⟨tA, o, none⟩ = X8.cell? ⟨tA, o, none⟩ := fun o => World.cell?_of_block (set5_other _ _ _ _ _ _ _ _ (by show tA ≠ wm.heap.size; have h1 := HTL.out; have h3 := HFL.out; omega))
            have HFIN : Hid (FMid W1 wm M st q f0 D L failed i (letter i) rs (wm.heap.size) (((((X8.setCell ⟨wm.heap.size, 0, none⟩ (.int .i64 cd)).setCell ⟨wm.heap.size, 1, none⟩ (.int .i64 (-1))).setCell ⟨wm.heap.size, 2, none⟩ (.int .i64 (-1))).setCell ⟨wm.heap.size, 3, none⟩ (.int .i64 (-1))).setCell ⟨wm.heap.size, 4, none⟩ (.int .i64 (-1)))) := fp_mid HPO.out hkL HM.out HBW.out hcL (by rw [set5_size]; exact Nat.le_refl _) rfl rfl rfl (fun k hk hne => set5_other _ _ _ _ _ _ _ k hne) nfa (.inl (by have h1 := HFL.out; omega)) (by have h1 := HFL.out; omega) hk5
            clear fz hfz hk5
            refine wpAnyH_ready (rs := [9]) (by kernel_rfl) (by simp) (AllReadyH.cons rfl (fun K hK => ?_) AllReadyH.nil)
            go_simp
            refine hK.out _ _ ⟨(hcs 0).trans hH.1, (hcs 1).trans hH.2.1, (hcs 2).trans hH.2.2⟩ (fun hH => ?_)
            clear hK K hcs k0 k1 k2 k3 k4 fr0 fr1 fr2 fr3 fr4
            refine wpAnyH_done (by kernel_rfl) ?_ _
            go_wp2_with fail
            go_meet
            case rel => exact ⟨wm.heap.size, rfl, HFIN.out⟩
        case rest =>
          obtain ⟨fa, rfl, cd, hFI, hfaw, hsz, hbW, hkp, M', E, L', failed', hsto', hF', hm', hcase⟩ := hcut
          obtain ⟨z0, _, _, _, _⟩ := hFI.cells
          have HS' : Hid (Sto M' wc st E (L'.map Prod.fst)) := hsto'
          have HF' : Hid (FillI q f0 E L' failed' (i + 1)) := hF'
          have hTc := (hkp tA HTL.out HTN.out).trans HTT.out
          have t0 : wc.cell? ⟨tA, 0, none⟩ = some (.string (letter i)) := by simp [World.cell?, hTc]
          have t1 : wc.cell? ⟨tA, 1, none⟩ = some (.slice tya ts.length tyc) := by simp [World.cell?, hTc]
          have t2 : wc.cell? ⟨tA, 2, none⟩ = some (.slice ra rs.length rc) := by simp [World.cell?, hTc]
          have zT := HBT.out.size
          have HNMc := HNM.out
          have HEc : Hid (EntsAt N wc W1.heap.size (.slice av es.length cv) es L) := HE2.out.move hsz (fun k hn => hkp k (HE2.out.lt k hn) (HNMc.1 k hn)) (fun g hg => hkp g (by have := HT0.out g hg; omega) (HNMc.2 g hg))
          have HM' : Hid (∀ k, M' k → W1.heap.size ≤ k) := fun k hk => by
            rcases hm' k hk with h | h
            · exact HM.out k h
            · exact Nat.le_trans HBW.out.size h
          have HNM' : Hid ((∀ k, N k → ¬ M' k) ∧ ∀ g, (Value.slice av es.length cv).ownBlock = some g → ¬ M' g) := by
            refine ⟨fun k hn hk => ?_, fun g hg hk => ?_⟩
            · have h3 := HE2.out.lt k hn
              rcases hm' k hk with h | h
              · exact HNMc.1 k hn h
              · omega
            · have h3 := HT0.out g hg
              rcases hm' g hk with h | h
              · exact HNMc.2 g hg h
              · omega
          have HW' : Hid (Below W1.heap.size W1 wc) := hbW
          have HMP : Hid (∀ k, M' k → M k ∨ wm.heap.size ≤ k) := hm'
          have HKP : Hid (∀ k, k < wm.heap.size → ¬ M k → wc.heap[k]? = wm.heap[k]?) := hkp
          have hus := hF'.used
          have HSZ : Hid (wm.heap.size ≤ wc.heap.size) := hsz
          clear hsto' hF' hkp hm' hbW HLD HHW hTc hFI e0 e1 e2 HNMc hsz
          obtain ⟨mo, HMO⟩ : ∃ mo, Hid (usedOf E.pages = mo) := ⟨_, rfl⟩
          rw [HMO.out] at hus
          have hgt : ¬ q < (mo : Int) := by omega
          have HUS : Hid (Calls Tryz.prog 13 #[.pointer (some ⟨st, 0, none⟩)] wc fun e w' => e = .returned (.int .i64 (mo : Int)) ∧ w' = wc) := by
            have := Used_sto M' st E _ wc HS'.out
            rw [HMO.out] at this
            exact this
          rcases hcase with ⟨rfl, rfl, T, rfl, hTn⟩ | ⟨rfl, rfl, rfl, hu, hne⟩ | ⟨rfl, rfl, rfl, rfl, hu, h1f⟩
          · have HTNM : Hid (T.name = letter i) := hTn
            clear hTn
            go_wp2_with (first | (go_at_call 13; refine HUS.out.mono ?_; rintro e X6 ⟨rfl, hX6⟩; subst X6) | (at_builtin; refine wpList_append_T (by rfl) _ _ (by rfl) W1.heap.size _ es (by rfl) (owns_alloc HEc.out.own _) _ _ ⟨letter i, tya, ts.length, tyc, ra, rc, rs⟩ (by rfl) (by simp) (by simp) (by simp) (by have h3 := HEc.out.len; have h4 := HF.out.few; omega) (by rw [World.size_alloc]; have h3 := HW'.out.size; omega) ?_; intro sv' w3 q1 q2 q3))
            go_roundw
            case rel =>
              have hwA : Below wc.heap.size wc (wc.alloc (.cells #[.string (letter i), .slice tya ts.length tyc, .slice ra rs.length rc] 26)) := (Below.refl _ _).alloc (Nat.le_refl _) _
              have zA := hwA.size
              have z3 := q2.size
              have zS := HSZ.out
              have zTo := HBT.out.size
              have hsame : ∀ k, k < wc.heap.size → some k ≠ (Value.slice av es.length cv).ownBlock → w3.heap[k]? = wc.heap[k]? := fun k hk hne => (q2.block k (by omega) hne).trans (hwA.block k hk)
              refine ⟨i + 1, E, L ++ [(T, rs)], failed', M', fun k => N k ∨ (wo.heap.size ≤ k ∧ k < wm.heap.size), es ++ [⟨letter i, tya, ts.length, tyc, ra, rc, rs⟩], by omega, by go_num, rfl, HF', ?_, ⟨q1, fun g hg hn => ?_, fun e he => ?_, fun e he => ?_, ?_, fun k hk => ?_⟩, HM', ⟨fun k hn hm => ?_, fun g hg hm => ?_⟩, ⟨fun x hx => ?_, ?_⟩, ?_⟩
              · exact HS'.out.stands (by omega) (fun k hm => hsame k (HS'.out.lt k hm) (fun e => HNM'.out.2 k e.symm hm))
              · rcases q3 with e | e
                · rw [e] at hg
                  have h3 := HT0.out g hg
                  rcases hn with h | h
                  · exact HEc.out.ownN g hg h
                  · omega
                · rw [e] at hg
                  simp only [Option.some.injEq] at hg
                  rcases hn with h | h
                  · have := HEc.out.lt g h; omega
                  · omega
              · rcases List.mem_append.1 he with h | h
                · exact ((HEc.out.rows e h).move (by omega) (fun k hn => hsame k (HEc.out.lt k hn) (fun e' => HEc.out.ownN k e'.symm hn))).mono fun _ hk => .inl hk
                · simp only [List.mem_singleton] at h
                  subst h
                  exact (HMD.out.firm.move (by omega) (fun k hk => (hsame k (by omega) (fun e' => by have := HT0.out k e'.symm; omega)).trans (HKP.out k hk.2 (fun hm => by have := HS0.out k hm; omega)))).mono fun _ hk => .inr hk
              · rcases List.mem_append.1 he with h | h
                · exact HEc.out.small e h
                · simp only [List.mem_singleton] at h
                  subst h
                  obtain ⟨ys, hR⟩ := HMD.out.right
                  show rs.length ≤ 200 ∧ ∀ r ∈ rs, r.length ≤ 6
                  refine ⟨hR.tab.2.2.1, fun r hr => ?_⟩
                  obtain ⟨j, hj, rfl⟩ := List.getElem_of_mem hr
                  have h3 := (hR.tab.2.2.2 j hj).1
                  have h4 := hR.tab.2.1.1.2
                  omega
              · rw [List.map_append, List.map_append, HEc.out.same]
                simp [HTNM.out]
              · rcases hk with h | h
                · have := HEc.out.lt k h; omega
                · omega
              · rcases hn with h | h
                · exact HNM'.out.1 k h hm
                · rcases HMP.out k hm with h3 | h3
                  · have := HS0.out k h3; omega
                  · omega
              · rcases q3 with e | e
                · rw [e] at hg
                  exact HNM'.out.2 g hg hm
                · rw [e] at hg
                  simp only [Option.some.injEq] at hg
                  have := HS'.out.lt g hm
                  omega
              · rcases List.mem_append.1 hx with h | h
                · obtain ⟨j, hj, he⟩ := HNA.out.1 x h
                  exact ⟨j, by omega, he⟩
                · simp only [List.mem_singleton] at h
                  subst h
                  exact ⟨i, by omega, HTNM.out⟩
              · rw [List.map_append, List.nodup_append]
                refine ⟨HNA.out.2, by simp, fun x hx y hy => ?_⟩
                obtain ⟨z, hz, rfl⟩ := List.mem_map.1 hx
                obtain ⟨j, hj, he⟩ := HNA.out.1 z hz
                simp only [List.map_cons, List.map_nil, List.mem_singleton] at hy
                subst hy
                rw [he, HTNM.out]
                intro e
                have := letter_inj j i (by omega) h2 e
                omega
              · exact (HW'.out.trans (hwA.mono HW'.out.size)).grown q2 (by have := HW'.out.size; omega) (fun k hk => (owns_block HEc.out.own hk).1)
            case measure => simp [intOf]; omega
          · have hz1 : ((mo : Int) != (n1 : Int)) = false := by
              rw [HMO.out, HU1.out] at hu
              simp [hu]
            have hz2 : (((rs.length : Nat) : Int) == 0) = false := by
              have := List.length_pos_iff.2 hne
              rw [beq_eq_false_iff_ne]; omega
            clear hu hne
            go_wp2_with (first | (go_at_call 13; refine HUS.out.mono ?_; rintro e X6 ⟨rfl, hX6⟩; subst X6))
            go_roundw
            case rel =>
              refine ⟨i + 1, E, L', failed', M', N, es, by omega, by go_num, rfl, HF', HS', HEc, HM', HNM', ⟨fun x hx => ?_, HNA.out.2⟩, HW'.out⟩
              obtain ⟨j, hj, he⟩ := HNA.out.1 x hx
              exact ⟨j, by omega, he⟩
            case measure => simp [intOf]; omega
          · have hz1 : ((mo : Int) != (n1 : Int)) = false := by
              rw [HMO.out, HU1.out] at hu
              simp [hu]
            have hz2 : ¬ f0 < 1 := by omega
            clear hu h1f
            go_wp2_with (first | (go_at_call 13; refine HUS.out.mono ?_; rintro e X6 ⟨rfl, hX6⟩; subst X6))
            go_roundw
            case rel =>
              refine ⟨i + 1, E, L', true, M', N, es, by omega, by go_num, rfl, HF', HS', HEc, HM', HNM', ⟨fun x hx => ?_, HNA.out.2⟩, HW'.out⟩
              obtain ⟨j, hj, he⟩ := HNA.out.1 x hx
              exact ⟨j, by omega, he⟩
            case measure => simp [intOf]; omega
    · by_cases hA : i < raws.length
      · have hA' : (i : Int) < (raws.length : Int) := by omega
        have hB : ¬ (i : Int) < (nms.size : Int) := by omega
        clear hlt
        have hes6 : es.length ≤ 6 := by have h3 := HE.out.len; have h4 := HF.out.few; omega
        have hlens : (L.map Prod.fst).length = es.length := by rw [List.length_map]; exact HE.out.len.symm
        have htb := Tables_sto M st D (L.map Prod.fst) wo HST.out
        rw [hlens] at htb
        have hnq : (((es.length : Nat) : Int) != ((es.length : Nat) : Int)) = false := by simp
        go_wp2_with (first | (go_at_call 16; refine htb.mono ?_; rintro e X1 ⟨rfl, hrow, hx1⟩))
        have HE1 : Hid (EntsAt N X1 W1.heap.size (.slice av es.length cv) es L) := HE.out.below hx1
        have HS1 : Hid (Sto M X1 st D (L.map Prod.fst)) := HST.out.below hx1
        have HB1 : Hid (Below W1.heap.size W1 X1) := hbw.trans (hx1.mono hbw.size)
        have HRW1 : Hid (X1.rowIs wo.heap.size 9 es.length (nameV (L.map Prod.fst))) := hrow
        have HCV : Hid (∀ (k : Nat) (hk : k < es.length), ∃ g, av = some ⟨g, 0, none⟩ ∧ wo.cell? ⟨g, k * 3, none⟩ = some (.string es[k].name) ∧ wo.cell? ⟨g, k * 3 + 1, none⟩ = some (.slice es[k].ta es[k].tn es[k].tc) ∧ wo.cell? ⟨g, k * 3 + 2, none⟩ = some (.slice es[k].ra es[k].rs.length es[k].rc)) := hcv
        have HX1 : Hid (Below wo.heap.size wo X1) := hx1
        clear htb hrow hx1 hcv hnq
        go_loopw [21] (fun jv wr => ∃ j : Nat, j ≤ es.length ∧ jv = .int .i64 (j : Int) ∧ Below X1.heap.size X1 wr) (fun jv _ => es.length - (intOf jv).toNat)
        case atStart => exact ⟨0, Nat.zero_le _, rfl, Below.refl _ _⟩
        case round =>
          obtain ⟨j, hj, rfl, hb2⟩ := hrel
          by_cases hlj : j < es.length
          · obtain ⟨g, hgv, d0w, d1w, d2w⟩ := HCV.out j hlj
            subst hgv
            have hb3 := below_then HX1.out hb2
            have d0 := cell_below hb3 d0w
            have d2 := cell_below hb3 d2w
            have hjL : j < L.length := by rw [← HE.out.len]; exact hlj
            have hsm := congrArg (fun l => l[j]?) HE1.out.same
            simp only [List.getElem?_map, List.getElem?_eq_getElem hlj, List.getElem?_eq_getElem hjL, Option.map_some, Option.some.injEq, Prod.mk.injEq] at hsm
            obtain ⟨hnm, hrs⟩ := hsm
            have hF := HF.out
            have hro : rowsO D (L.map Prod.fst) es[j].name = some (.inl es[j].rs) := by
              have hjT : j < (L.map Prod.fst).length := by rw [List.length_map]; exact hjL
              have hnd : ((L.map Prod.fst).map TS.name).Nodup := by rw [List.map_map]; exact HNA.out.2
              have hf := findI_at (L.map Prod.fst) hnd j hjT
              have hgt : (L.map Prod.fst)[j].name = es[j].name := by rw [List.getElem_map]; exact hnm.symm
              rw [hgt] at hf
              unfold rowsO
              rw [hf, List.getElem?_eq_getElem hjT, Option.map_some, List.getElem_map, (hF.stand.tab L[j] (List.getElem_mem hjL)).read, hrs]
            have hsc := Scan_sto M st D (L.map Prod.fst) es[j].name wr (HS1.out.below hb2) (fun T hT => by obtain ⟨x, hx, rfl⟩ := List.mem_map.1 hT; exact (hF.stand.tab x hx).ok) a0 a1 a2 tt qa wr_ pg pl ex ta (HN1.out.below (below_then HB1.out hb2))
            rw [hro] at hsc
            have hl1 : wr.cell? ⟨wo.heap.size, j, none⟩ = some (.string es[j].name) := by
              have := cell_below hb2 (HRW1.out.cell hlj)
              rw [this]
              simp only [nameV]
              rw [List.getD_eq_getElem?_getD, List.map_map, List.getElem?_map, List.getElem?_eq_getElem hjL]
              simp [hnm]
            have HSR : Hid (∀ (Y : World) (ga : Nat) (bs : List Nat) (Bb : Nat), Below wr.heap.size wr Y → Grid Y Bb ga bs es[j].rs → Calls Tryz.prog 18 #[.slice (some ⟨ga, 0, none⟩) es[j].rs.length es[j].rs.length, .slice es[j].ra es[j].rs.length es[j].rc] Y fun e X' => e = .returned (.bool true) ∧ Below Y.heap.size Y X') := fun Y ga bs Bb hY hgr => by
              have hEY := HE1.out.below (below_then hb2 hY)
              obtain ⟨ys, hro⟩ := hEY.rows es[j] (List.getElem_mem hlj) Y (Nat.le_refl _) (fun _ _ => rfl)
              have hsml := hEY.small es[j] (List.getElem_mem hlj)
              exact ksameRows_any _ _ _ _ _ ys _ _ Y (by unfold maxLen; omega) (fun r' hr' => by have := hsml.2 r' hr'; unfold maxLen; omega) hgr.rowsAt hro true (by simp)
            have hqN := run_neq_F 0
            obtain ⟨nm, hnn⟩ : ∃ nm, es[j].name = nm := ⟨_, rfl⟩
            obtain ⟨ers, hers⟩ : ∃ ers, es[j].rs = ers := ⟨_, rfl⟩
            obtain ⟨era, hera⟩ : ∃ era, es[j].ra = era := ⟨_, rfl⟩
            obtain ⟨erc, herc⟩ : ∃ erc, es[j].rc = erc := ⟨_, rfl⟩
            rw [hnn] at d0 hsc hl1
            rw [hers] at hsc d2 HSR
            rw [hera] at d2 HSR
            rw [herc] at d2 HSR
            clear hro hnm hrs hnn hers hera herc hF d0w d1w d2w
            go_wp2_with (first | (go_at_call 17; refine hsc.mono ?_; rintro e X2 ⟨hx2, ga, bs, rfl, hgr⟩; have hba : Below X2.heap.size X2 (X2.alloc (.cells #[.int .i64 0, .int .i64 (-1), .int .i64 (-1), .int .i64 (-1), .int .i64 (-1)] 43)) := (Below.refl _ _).alloc (Nat.le_refl _) _; have hx3 := below_then hx2 hba; have d2x := cell_below hx3 d2) | (go_at_call 18; refine (HSR.out _ ga bs _ hx3 (hgr.below hba)).mono ?_; rintro e X4 ⟨rfl, hx4⟩))
            have hx5 := below_then hx3 hx4
            have hfx : FaultIs X4 X2.heap.size 0 (-1) := (FaultIs.below (heap_alloc_new _ _) hx4)
            obtain ⟨r0, r1, r2, r3, r4⟩ := hfx.cells
            have l1 := cell_below hx5 hl1
            have l2 := cell_below hx5 d0
            generalize X2.heap.size = fx at *
            refine wp_region_held_drew (S := fun X => X.cell? ⟨fx, 0, none⟩ = some (.int .i64 0) ∧ X.cell? ⟨fx, 1, none⟩ = some (.int .i64 (-1)) ∧ X.cell? ⟨fx, 2, none⟩ = some (.int .i64 (-1)) ∧ X.cell? ⟨fx, 3, none⟩ = some (.int .i64 (-1)) ∧ X.cell? ⟨fx, 4, none⟩ = some (.int .i64 (-1)) ∧ X.cell? ⟨wo.heap.size, j, none⟩ = some (.string nm) ∧ X.cell? ⟨g, j * 3, none⟩ = some (.string nm)) (by kernel_rfl) ⟨r0, r1, r2, r3, r4, l1, l2⟩ (fun hH => ?_)
            refine wpAnyH_take (i := 0) (v := ?_) rfl (by kernel_rfl) (by kernel_rfl) (by kernel_rfl) (fun _ _ _ h => h) (Or.inl ⟨by rfl, ?_⟩) hH ?_
            rotate_left 1
            · intro w hSw; (try dsimp only at hSw); go_simp; try rfl
            simp only [Act.put, List.getElem_toArray, List.getElem_cons_zero, List.setIfInBounds_toArray, List.set_cons_zero, List.set_cons_succ]
            refine wpAnyH_take (i := 1) (v := ?_) rfl (by kernel_rfl) (by kernel_rfl) (by kernel_rfl) (fun _ _ _ h => h) (Or.inl ⟨by rfl, ?_⟩) hH ?_
            rotate_left 1
            · intro w hSw; (try dsimp only at hSw); go_simp; try rfl
            simp only [Act.put, List.getElem_toArray, List.getElem_cons_zero, List.getElem_cons_succ, List.setIfInBounds_toArray, List.set_cons_zero, List.set_cons_succ]
            refine wpAnyH_take (i := 2) (v := ?_) rfl (by kernel_rfl) (by kernel_rfl) (by kernel_rfl) (fun _ _ _ h => h) (Or.inl ⟨by rfl, ?_⟩) hH ?_
            rotate_left 1
            · intro w hSw; (try dsimp only at hSw); go_simp; try rfl
            simp only [Act.put, List.getElem_toArray, List.getElem_cons_zero, List.getElem_cons_succ, List.setIfInBounds_toArray, List.set_cons_zero, List.set_cons_succ]
            refine wpAnyH_take (i := 3) (v := ?_) rfl (by kernel_rfl) (by kernel_rfl) (by kernel_rfl) (fun _ _ _ h => h) (Or.inl ⟨by rfl, ?_⟩) hH ?_
            rotate_left 1
            · intro w hSw; (try dsimp only at hSw); go_simp; try rfl
            simp only [Act.put, List.getElem_toArray, List.getElem_cons_zero, List.getElem_cons_succ, List.setIfInBounds_toArray, List.set_cons_zero, List.set_cons_succ]
            refine wpAnyH_ready (rs := [4]) (by kernel_rfl) (by simp) (AllReadyH.cons rfl (fun K hK => ?_) AllReadyH.nil)
            go_simp
            refine (none_any _).mono ?_
            rintro e XN1 ⟨rfl, hn1⟩
            go_simp
            refine hK.out _ _ ⟨cell_below hn1 hH.1, cell_below hn1 hH.2.1, cell_below hn1 hH.2.2.1, cell_below hn1 hH.2.2.2.1, cell_below hn1 hH.2.2.2.2.1, cell_below hn1 hH.2.2.2.2.2.1, cell_below hn1 hH.2.2.2.2.2.2⟩ (fun hH => ?_)
            clear hK K
            refine wpAnyH_take (i := 5) (v := ?_) rfl (by kernel_rfl) (by kernel_rfl) (by kernel_rfl) (fun _ _ _ h => h) (Or.inl ⟨by rfl, ?_⟩) hH ?_
            rotate_left 1
            · intro w hSw; (try dsimp only at hSw); go_simp; try rfl
            simp only [Act.put, List.getElem_toArray, List.getElem_cons_zero, List.getElem_cons_succ, List.setIfInBounds_toArray, List.set_cons_zero, List.set_cons_succ]
            refine wpAnyH_take (i := 6) (v := ?_) rfl (by kernel_rfl) (by kernel_rfl) (by kernel_rfl) (fun _ _ _ h => h) (Or.inl ⟨by rfl, ?_⟩) hH ?_
            rotate_left 1
            · intro w hSw; (try dsimp only at hSw); go_simp; try rfl
            simp only [Act.put, List.getElem_toArray, List.getElem_cons_zero, List.getElem_cons_succ, List.setIfInBounds_toArray, List.set_cons_zero, List.set_cons_succ]
            refine wpAnyH_take (i := 7) (v := ?_) rfl (by kernel_rfl) (by kernel_rfl) (by kernel_rfl) (fun _ _ _ h => h) (Or.inl ⟨by rfl, ?_⟩) hH ?_
            rotate_left 1
            · intro w hSw; (try dsimp only at hSw); go_simp; try rfl
            simp only [Act.put, List.getElem_toArray, List.getElem_cons_zero, List.getElem_cons_succ, List.setIfInBounds_toArray, List.set_cons_zero, List.set_cons_succ]
            refine wpAnyH_take (i := 8) (v := ?_) rfl (by kernel_rfl) (by kernel_rfl) (by kernel_rfl) (fun _ _ _ h => h) (Or.inl ⟨by rfl, ?_⟩) hH ?_
            rotate_left 1
            · intro w hSw; (try dsimp only at hSw); go_simp; try rfl
            simp only [Act.put, List.getElem_toArray, List.getElem_cons_zero, List.getElem_cons_succ, List.setIfInBounds_toArray, List.set_cons_zero, List.set_cons_succ]
            refine wpAnyH_take (i := 9) (v := ?_) rfl (by kernel_rfl) (by kernel_rfl) (by kernel_rfl) (fun _ _ _ h => h) (Or.inl ⟨by rfl, ?_⟩) hH ?_
            rotate_left 1
            · intro w hSw; (try dsimp only at hSw); go_simp; try rfl
            simp only [Act.put, List.getElem_toArray, List.getElem_cons_zero, List.getElem_cons_succ, List.setIfInBounds_toArray, List.set_cons_zero, List.set_cons_succ]
            refine wpAnyH_take (i := 10) (v := ?_) rfl (by kernel_rfl) (by kernel_rfl) (by kernel_rfl) (fun _ _ _ h => h) (Or.inl ⟨by rfl, ?_⟩) hH ?_
            rotate_left 1
            · intro w hSw; (try dsimp only at hSw); go_simp; try rfl
            simp only [Act.put, List.getElem_toArray, List.getElem_cons_zero, List.getElem_cons_succ, List.setIfInBounds_toArray, List.set_cons_zero, List.set_cons_succ]
            refine wpAnyH_take (i := 11) (v := ?_) rfl (by kernel_rfl) (by kernel_rfl) (by kernel_rfl) (fun _ _ _ h => h) (Or.inl ⟨by rfl, ?_⟩) hH ?_
            rotate_left 1
            · intro w hSw; (try dsimp only at hSw); go_simp; try rfl
            simp only [Act.put, List.getElem_toArray, List.getElem_cons_zero, List.getElem_cons_succ, List.setIfInBounds_toArray, List.set_cons_zero, List.set_cons_succ]
            refine wpAnyH_take (i := 12) (v := ?_) rfl (by kernel_rfl) (by kernel_rfl) (by kernel_rfl) (fun _ _ _ h => h) (Or.inl ⟨by rfl, ?_⟩) hH ?_
            rotate_left 1
            · intro w hSw; (try dsimp only at hSw); go_simp; try rfl
            simp only [Act.put, List.getElem_toArray, List.getElem_cons_zero, List.getElem_cons_succ, List.setIfInBounds_toArray, List.set_cons_zero, List.set_cons_succ]
            refine wpAnyH_take (i := 13) (v := ?_) rfl (by kernel_rfl) (by kernel_rfl) (by kernel_rfl) (fun _ _ _ h => h) (Or.inl ⟨by rfl, ?_⟩) hH ?_
            rotate_left 1
            · intro w hSw; (try dsimp only at hSw); go_simp; try rfl
            simp only [Act.put, List.getElem_toArray, List.getElem_cons_zero, List.getElem_cons_succ, List.setIfInBounds_toArray, List.set_cons_zero, List.set_cons_succ]
            refine wpAnyH_take (i := 14) (v := ?_) rfl (by kernel_rfl) (by kernel_rfl) (by kernel_rfl) (fun _ _ _ h => h) (Or.inl ⟨by rfl, ?_⟩) hH ?_
            rotate_left 1
            · intro w hSw; (try dsimp only at hSw); go_simp; try rfl
            simp only [Act.put, List.getElem_toArray, List.getElem_cons_zero, List.getElem_cons_succ, List.setIfInBounds_toArray, List.set_cons_zero, List.set_cons_succ]
            refine wpAnyH_take (i := 15) (v := ?_) rfl (by kernel_rfl) (by kernel_rfl) (by kernel_rfl) (fun _ _ _ h => h) (Or.inl ⟨by rfl, ?_⟩) hH ?_
            rotate_left 1
            · intro w hSw; (try dsimp only at hSw); go_simp; try rfl
            simp only [Act.put, List.getElem_toArray, List.getElem_cons_zero, List.getElem_cons_succ, List.setIfInBounds_toArray, List.set_cons_zero, List.set_cons_succ]
            refine wpAnyH_take (i := 16) (v := ?_) rfl (by kernel_rfl) (by kernel_rfl) (by kernel_rfl) (fun _ _ _ h => h) (Or.inl ⟨by rfl, ?_⟩) hH ?_
            rotate_left 1
            · intro w hSw; (try dsimp only at hSw); go_simp; try rfl
            simp only [Act.put, List.getElem_toArray, List.getElem_cons_zero, List.getElem_cons_succ, List.setIfInBounds_toArray, List.set_cons_zero, List.set_cons_succ]
            refine wpAnyH_take (i := 17) (v := ?_) rfl (by kernel_rfl) (by kernel_rfl) (by kernel_rfl) (fun _ _ _ h => h) (Or.inl ⟨by rfl, ?_⟩) hH ?_
            rotate_left 1
            · intro w hSw; (try dsimp only at hSw); go_simp; try rfl
            simp only [Act.put, List.getElem_toArray, List.getElem_cons_zero, List.getElem_cons_succ, List.setIfInBounds_toArray, List.set_cons_zero, List.set_cons_succ]
            refine wpAnyH_take (i := 18) (v := ?_) rfl (by kernel_rfl) (by kernel_rfl) (by kernel_rfl) (fun _ _ _ h => h) (Or.inl ⟨by rfl, ?_⟩) hH ?_
            rotate_left 1
            · intro w hSw; (try dsimp only at hSw); go_simp; try rfl
            simp only [Act.put, List.getElem_toArray, List.getElem_cons_zero, List.getElem_cons_succ, List.setIfInBounds_toArray, List.set_cons_zero, List.set_cons_succ]
            refine wpAnyH_done (by kernel_rfl) ?_ _
            have hbn := below_then hb2 (below_then hx5 (below_undrew hn1))
            clear hH hn1 r0 r1 r2 r3 r4 l1 l2 hfx hgr
            go_wp2
            go_roundw
            case rel => exact ⟨j + 1, by omega, by go_num, hbn⟩
            case measure => simp [intOf]; omega
          · go_wp2
            go_ret
            exact ⟨rfl, below_then HB0.out (below_then HB1.out hb2)⟩
      · have hA' : ¬ (i : Int) < (raws.length : Int) := by omega
        clear hlt
        have hes6 : es.length ≤ 6 := by have h3 := HE.out.len; have h4 := HF.out.few; omega
        have hlens : (L.map Prod.fst).length = es.length := by rw [List.length_map]; exact HE.out.len.symm
        have htb := Tables_sto M st D (L.map Prod.fst) wo HST.out
        rw [hlens] at htb
        have hnq : (((es.length : Nat) : Int) != ((es.length : Nat) : Int)) = false := by simp
        go_wp2_with (first | (go_at_call 16; refine htb.mono ?_; rintro e X1 ⟨rfl, hrow, hx1⟩))
        have HE1 : Hid (EntsAt N X1 W1.heap.size (.slice av es.length cv) es L) := HE.out.below hx1
        have HS1 : Hid (Sto M X1 st D (L.map Prod.fst)) := HST.out.below hx1
        have HB1 : Hid (Below W1.heap.size W1 X1) := hbw.trans (hx1.mono hbw.size)
        have HRW1 : Hid (X1.rowIs wo.heap.size 9 es.length (nameV (L.map Prod.fst))) := hrow
        have HCV : Hid (∀ (k : Nat) (hk : k < es.length), ∃ g, av = some ⟨g, 0, none⟩ ∧ wo.cell? ⟨g, k * 3, none⟩ = some (.string es[k].name) ∧ wo.cell? ⟨g, k * 3 + 1, none⟩ = some (.slice es[k].ta es[k].tn es[k].tc) ∧ wo.cell? ⟨g, k * 3 + 2, none⟩ = some (.slice es[k].ra es[k].rs.length es[k].rc)) := hcv
        have HX1 : Hid (Below wo.heap.size wo X1) := hx1
        clear htb hrow hx1 hcv hnq
        go_loopw [21] (fun jv wr => ∃ j : Nat, j ≤ es.length ∧ jv = .int .i64 (j : Int) ∧ Below X1.heap.size X1 wr) (fun jv _ => es.length - (intOf jv).toNat)
        case atStart => exact ⟨0, Nat.zero_le _, rfl, Below.refl _ _⟩
        case round =>
          obtain ⟨j, hj, rfl, hb2⟩ := hrel
          by_cases hlj : j < es.length
          · obtain ⟨g, hgv, d0w, d1w, d2w⟩ := HCV.out j hlj
            subst hgv
            have hb3 := below_then HX1.out hb2
            have d0 := cell_below hb3 d0w
            have d2 := cell_below hb3 d2w
            have hjL : j < L.length := by rw [← HE.out.len]; exact hlj
            have hsm := congrArg (fun l => l[j]?) HE1.out.same
            simp only [List.getElem?_map, List.getElem?_eq_getElem hlj, List.getElem?_eq_getElem hjL, Option.map_some, Option.some.injEq, Prod.mk.injEq] at hsm
            obtain ⟨hnm, hrs⟩ := hsm
            have hF := HF.out
            have hro : rowsO D (L.map Prod.fst) es[j].name = some (.inl es[j].rs) := by
              have hjT : j < (L.map Prod.fst).length := by rw [List.length_map]; exact hjL
              have hnd : ((L.map Prod.fst).map TS.name).Nodup := by rw [List.map_map]; exact HNA.out.2
              have hf := findI_at (L.map Prod.fst) hnd j hjT
              have hgt : (L.map Prod.fst)[j].name = es[j].name := by rw [List.getElem_map]; exact hnm.symm
              rw [hgt] at hf
              unfold rowsO
              rw [hf, List.getElem?_eq_getElem hjT, Option.map_some, List.getElem_map, (hF.stand.tab L[j] (List.getElem_mem hjL)).read, hrs]
            have hsc := Scan_sto M st D (L.map Prod.fst) es[j].name wr (HS1.out.below hb2) (fun T hT => by obtain ⟨x, hx, rfl⟩ := List.mem_map.1 hT; exact (hF.stand.tab x hx).ok) a0 a1 a2 tt qa wr_ pg pl ex ta (HN1.out.below (below_then HB1.out hb2))
            rw [hro] at hsc
            have hl1 : wr.cell? ⟨wo.heap.size, j, none⟩ = some (.string es[j].name) := by
              have := cell_below hb2 (HRW1.out.cell hlj)
              rw [this]
              simp only [nameV]
              rw [List.getD_eq_getElem?_getD, List.map_map, List.getElem?_map, List.getElem?_eq_getElem hjL]
              simp [hnm]
            have HSR : Hid (∀ (Y : World) (ga : Nat) (bs : List Nat) (Bb : Nat), Below wr.heap.size wr Y → Grid Y Bb ga bs es[j].rs → Calls Tryz.prog 18 #[.slice (some ⟨ga, 0, none⟩) es[j].rs.length es[j].rs.length, .slice es[j].ra es[j].rs.length es[j].rc] Y fun e X' => e = .returned (.bool true) ∧ Below Y.heap.size Y X') := fun Y ga bs Bb hY hgr => by
              have hEY := HE1.out.below (below_then hb2 hY)
              obtain ⟨ys, hro⟩ := hEY.rows es[j] (List.getElem_mem hlj) Y (Nat.le_refl _) (fun _ _ => rfl)
              have hsml := hEY.small es[j] (List.getElem_mem hlj)
              exact ksameRows_any _ _ _ _ _ ys _ _ Y (by unfold maxLen; omega) (fun r' hr' => by have := hsml.2 r' hr'; unfold maxLen; omega) hgr.rowsAt hro true (by simp)
            have hqN := run_neq_F 0
            obtain ⟨nm, hnn⟩ : ∃ nm, es[j].name = nm := ⟨_, rfl⟩
            obtain ⟨ers, hers⟩ : ∃ ers, es[j].rs = ers := ⟨_, rfl⟩
            obtain ⟨era, hera⟩ : ∃ era, es[j].ra = era := ⟨_, rfl⟩
            obtain ⟨erc, herc⟩ : ∃ erc, es[j].rc = erc := ⟨_, rfl⟩
            rw [hnn] at d0 hsc hl1
            rw [hers] at hsc d2 HSR
            rw [hera] at d2 HSR
            rw [herc] at d2 HSR
            clear hro hnm hrs hnn hers hera herc hF d0w d1w d2w
            go_wp2_with (first | (go_at_call 17; refine hsc.mono ?_; rintro e X2 ⟨hx2, ga, bs, rfl, hgr⟩; have hba : Below X2.heap.size X2 (X2.alloc (.cells #[.int .i64 0, .int .i64 (-1), .int .i64 (-1), .int .i64 (-1), .int .i64 (-1)] 43)) := (Below.refl _ _).alloc (Nat.le_refl _) _; have hx3 := below_then hx2 hba; have d2x := cell_below hx3 d2) | (go_at_call 18; refine (HSR.out _ ga bs _ hx3 (hgr.below hba)).mono ?_; rintro e X4 ⟨rfl, hx4⟩))
            have hx5 := below_then hx3 hx4
            have hfx : FaultIs X4 X2.heap.size 0 (-1) := (FaultIs.below (heap_alloc_new _ _) hx4)
            obtain ⟨r0, r1, r2, r3, r4⟩ := hfx.cells
            have l1 := cell_below hx5 hl1
            have l2 := cell_below hx5 d0
            generalize X2.heap.size = fx at *
            refine wp_region_held_drew (S := fun X => X.cell? ⟨fx, 0, none⟩ = some (.int .i64 0) ∧ X.cell? ⟨fx, 1, none⟩ = some (.int .i64 (-1)) ∧ X.cell? ⟨fx, 2, none⟩ = some (.int .i64 (-1)) ∧ X.cell? ⟨fx, 3, none⟩ = some (.int .i64 (-1)) ∧ X.cell? ⟨fx, 4, none⟩ = some (.int .i64 (-1)) ∧ X.cell? ⟨wo.heap.size, j, none⟩ = some (.string nm) ∧ X.cell? ⟨g, j * 3, none⟩ = some (.string nm)) (by kernel_rfl) ⟨r0, r1, r2, r3, r4, l1, l2⟩ (fun hH => ?_)
            refine wpAnyH_take (i := 0) (v := ?_) rfl (by kernel_rfl) (by kernel_rfl) (by kernel_rfl) (fun _ _ _ h => h) (Or.inl ⟨by rfl, ?_⟩) hH ?_
            rotate_left 1
            · intro w hSw; (try dsimp only at hSw); go_simp; try rfl
            simp only [Act.put, List.getElem_toArray, List.getElem_cons_zero, List.setIfInBounds_toArray, List.set_cons_zero, List.set_cons_succ]
            refine wpAnyH_take (i := 1) (v := ?_) rfl (by kernel_rfl) (by kernel_rfl) (by kernel_rfl) (fun _ _ _ h => h) (Or.inl ⟨by rfl, ?_⟩) hH ?_
            rotate_left 1
            · intro w hSw; (try dsimp only at hSw); go_simp; try rfl
            simp only [Act.put, List.getElem_toArray, List.getElem_cons_zero, List.getElem_cons_succ, List.setIfInBounds_toArray, List.set_cons_zero, List.set_cons_succ]
            refine wpAnyH_take (i := 2) (v := ?_) rfl (by kernel_rfl) (by kernel_rfl) (by kernel_rfl) (fun _ _ _ h => h) (Or.inl ⟨by rfl, ?_⟩) hH ?_
            rotate_left 1
            · intro w hSw; (try dsimp only at hSw); go_simp; try rfl
            simp only [Act.put, List.getElem_toArray, List.getElem_cons_zero, List.getElem_cons_succ, List.setIfInBounds_toArray, List.set_cons_zero, List.set_cons_succ]
            refine wpAnyH_take (i := 3) (v := ?_) rfl (by kernel_rfl) (by kernel_rfl) (by kernel_rfl) (fun _ _ _ h => h) (Or.inl ⟨by rfl, ?_⟩) hH ?_
            rotate_left 1
            · intro w hSw; (try dsimp only at hSw); go_simp; try rfl
            simp only [Act.put, List.getElem_toArray, List.getElem_cons_zero, List.getElem_cons_succ, List.setIfInBounds_toArray, List.set_cons_zero, List.set_cons_succ]
            refine wpAnyH_ready (rs := [4]) (by kernel_rfl) (by simp) (AllReadyH.cons rfl (fun K hK => ?_) AllReadyH.nil)
            go_simp
            refine (none_any _).mono ?_
            rintro e XN1 ⟨rfl, hn1⟩
            go_simp
            refine hK.out _ _ ⟨cell_below hn1 hH.1, cell_below hn1 hH.2.1, cell_below hn1 hH.2.2.1, cell_below hn1 hH.2.2.2.1, cell_below hn1 hH.2.2.2.2.1, cell_below hn1 hH.2.2.2.2.2.1, cell_below hn1 hH.2.2.2.2.2.2⟩ (fun hH => ?_)
            clear hK K
            refine wpAnyH_take (i := 5) (v := ?_) rfl (by kernel_rfl) (by kernel_rfl) (by kernel_rfl) (fun _ _ _ h => h) (Or.inl ⟨by rfl, ?_⟩) hH ?_
            rotate_left 1
            · intro w hSw; (try dsimp only at hSw); go_simp; try rfl
            simp only [Act.put, List.getElem_toArray, List.getElem_cons_zero, List.getElem_cons_succ, List.setIfInBounds_toArray, List.set_cons_zero, List.set_cons_succ]
            refine wpAnyH_take (i := 6) (v := ?_) rfl (by kernel_rfl) (by kernel_rfl) (by kernel_rfl) (fun _ _ _ h => h) (Or.inl ⟨by rfl, ?_⟩) hH ?_
            rotate_left 1
            · intro w hSw; (try dsimp only at hSw); go_simp; try rfl
            simp only [Act.put, List.getElem_toArray, List.getElem_cons_zero, List.getElem_cons_succ, List.setIfInBounds_toArray, List.set_cons_zero, List.set_cons_succ]
            refine wpAnyH_take (i := 7) (v := ?_) rfl (by kernel_rfl) (by kernel_rfl) (by kernel_rfl) (fun _ _ _ h => h) (Or.inl ⟨by rfl, ?_⟩) hH ?_
            rotate_left 1
            · intro w hSw; (try dsimp only at hSw); go_simp; try rfl
            simp only [Act.put, List.getElem_toArray, List.getElem_cons_zero, List.getElem_cons_succ, List.setIfInBounds_toArray, List.set_cons_zero, List.set_cons_succ]
            refine wpAnyH_take (i := 8) (v := ?_) rfl (by kernel_rfl) (by kernel_rfl) (by kernel_rfl) (fun _ _ _ h => h) (Or.inl ⟨by rfl, ?_⟩) hH ?_
            rotate_left 1
            · intro w hSw; (try dsimp only at hSw); go_simp; try rfl
            simp only [Act.put, List.getElem_toArray, List.getElem_cons_zero, List.getElem_cons_succ, List.setIfInBounds_toArray, List.set_cons_zero, List.set_cons_succ]
            refine wpAnyH_take (i := 9) (v := ?_) rfl (by kernel_rfl) (by kernel_rfl) (by kernel_rfl) (fun _ _ _ h => h) (Or.inl ⟨by rfl, ?_⟩) hH ?_
            rotate_left 1
            · intro w hSw; (try dsimp only at hSw); go_simp; try rfl
            simp only [Act.put, List.getElem_toArray, List.getElem_cons_zero, List.getElem_cons_succ, List.setIfInBounds_toArray, List.set_cons_zero, List.set_cons_succ]
            refine wpAnyH_take (i := 10) (v := ?_) rfl (by kernel_rfl) (by kernel_rfl) (by kernel_rfl) (fun _ _ _ h => h) (Or.inl ⟨by rfl, ?_⟩) hH ?_
            rotate_left 1
            · intro w hSw; (try dsimp only at hSw); go_simp; try rfl
            simp only [Act.put, List.getElem_toArray, List.getElem_cons_zero, List.getElem_cons_succ, List.setIfInBounds_toArray, List.set_cons_zero, List.set_cons_succ]
            refine wpAnyH_take (i := 11) (v := ?_) rfl (by kernel_rfl) (by kernel_rfl) (by kernel_rfl) (fun _ _ _ h => h) (Or.inl ⟨by rfl, ?_⟩) hH ?_
            rotate_left 1
            · intro w hSw; (try dsimp only at hSw); go_simp; try rfl
            simp only [Act.put, List.getElem_toArray, List.getElem_cons_zero, List.getElem_cons_succ, List.setIfInBounds_toArray, List.set_cons_zero, List.set_cons_succ]
            refine wpAnyH_take (i := 12) (v := ?_) rfl (by kernel_rfl) (by kernel_rfl) (by kernel_rfl) (fun _ _ _ h => h) (Or.inl ⟨by rfl, ?_⟩) hH ?_
            rotate_left 1
            · intro w hSw; (try dsimp only at hSw); go_simp; try rfl
            simp only [Act.put, List.getElem_toArray, List.getElem_cons_zero, List.getElem_cons_succ, List.setIfInBounds_toArray, List.set_cons_zero, List.set_cons_succ]
            refine wpAnyH_take (i := 13) (v := ?_) rfl (by kernel_rfl) (by kernel_rfl) (by kernel_rfl) (fun _ _ _ h => h) (Or.inl ⟨by rfl, ?_⟩) hH ?_
            rotate_left 1
            · intro w hSw; (try dsimp only at hSw); go_simp; try rfl
            simp only [Act.put, List.getElem_toArray, List.getElem_cons_zero, List.getElem_cons_succ, List.setIfInBounds_toArray, List.set_cons_zero, List.set_cons_succ]
            refine wpAnyH_take (i := 14) (v := ?_) rfl (by kernel_rfl) (by kernel_rfl) (by kernel_rfl) (fun _ _ _ h => h) (Or.inl ⟨by rfl, ?_⟩) hH ?_
            rotate_left 1
            · intro w hSw; (try dsimp only at hSw); go_simp; try rfl
            simp only [Act.put, List.getElem_toArray, List.getElem_cons_zero, List.getElem_cons_succ, List.setIfInBounds_toArray, List.set_cons_zero, List.set_cons_succ]
            refine wpAnyH_take (i := 15) (v := ?_) rfl (by kernel_rfl) (by kernel_rfl) (by kernel_rfl) (fun _ _ _ h => h) (Or.inl ⟨by rfl, ?_⟩) hH ?_
            rotate_left 1
            · intro w hSw; (try dsimp only at hSw); go_simp; try rfl
            simp only [Act.put, List.getElem_toArray, List.getElem_cons_zero, List.getElem_cons_succ, List.setIfInBounds_toArray, List.set_cons_zero, List.set_cons_succ]
            refine wpAnyH_take (i := 16) (v := ?_) rfl (by kernel_rfl) (by kernel_rfl) (by kernel_rfl) (fun _ _ _ h => h) (Or.inl ⟨by rfl, ?_⟩) hH ?_
            rotate_left 1
            · intro w hSw; (try dsimp only at hSw); go_simp; try rfl
            simp only [Act.put, List.getElem_toArray, List.getElem_cons_zero, List.getElem_cons_succ, List.setIfInBounds_toArray, List.set_cons_zero, List.set_cons_succ]
            refine wpAnyH_take (i := 17) (v := ?_) rfl (by kernel_rfl) (by kernel_rfl) (by kernel_rfl) (fun _ _ _ h => h) (Or.inl ⟨by rfl, ?_⟩) hH ?_
            rotate_left 1
            · intro w hSw; (try dsimp only at hSw); go_simp; try rfl
            simp only [Act.put, List.getElem_toArray, List.getElem_cons_zero, List.getElem_cons_succ, List.setIfInBounds_toArray, List.set_cons_zero, List.set_cons_succ]
            refine wpAnyH_take (i := 18) (v := ?_) rfl (by kernel_rfl) (by kernel_rfl) (by kernel_rfl) (fun _ _ _ h => h) (Or.inl ⟨by rfl, ?_⟩) hH ?_
            rotate_left 1
            · intro w hSw; (try dsimp only at hSw); go_simp; try rfl
            simp only [Act.put, List.getElem_toArray, List.getElem_cons_zero, List.getElem_cons_succ, List.setIfInBounds_toArray, List.set_cons_zero, List.set_cons_succ]
            refine wpAnyH_done (by kernel_rfl) ?_ _
            have hbn := below_then hb2 (below_then hx5 (below_undrew hn1))
            clear hH hn1 r0 r1 r2 r3 r4 l1 l2 hfx hgr
            go_wp2
            go_roundw
            case rel => exact ⟨j + 1, by omega, by go_num, hbn⟩
            case measure => simp [intOf]; omega
          · go_wp2
            go_ret
            exact ⟨rfl, below_then HB0.out (below_then HB1.out hb2)⟩
end Go.Proofs.YtfgklnenpichcaaGreatDoor
