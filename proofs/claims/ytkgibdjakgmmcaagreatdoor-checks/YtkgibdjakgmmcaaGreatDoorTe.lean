/- Segments laid on the disk, and let go. -/
import Derived.Test.YtkgibdjakgmmcaaGreatDoorTc
import Derived.Test.YtkgibdjakgmmcaaGreatDoorDg
set_option maxHeartbeats 2000000
set_option maxRecDepth 100000
namespace Go.Proofs.YtkgibdjakgmmcaaGreatDoor
open Go.RowKit
def relAll (D:DS)(ls:List (List Nat)):DS:=ls.foldl relD D
theorem relAll_snoc (D:DS)(ls:List (List Nat))(l:List Nat):relAll D (ls++[l])=relD (relAll D ls) l:=by simp[relAll]
theorem tRelease_any (s d:Nat)(a:Option Addr)(cap:Nat)(hs:List (Option Addr×Nat))(ls:List (List Nat))(w:World)(F G:Nat→Prop)(D:DS)(h:DiskAt w F d D)(hl:SegsAt w G a hs ls)(hFG:∀ k,G k→¬ F k)(hs0:w.cell? ⟨s,0,none⟩=some (.pointer (some ⟨d,0,none⟩)))(hsF:¬ F s)(hsm:ls.length≤1000000)(hsl:∀ l∈ls,l.length≤1000000) :
  Calls Tryz.prog 97 #[.pointer (some ⟨s,0,none⟩),.slice a ls.length cap] w fun e w'=>e=.returned (.tuple #[])∧DiskAt w' F d (relAll D ls)∧Keep F w w':=by
 have HS:Hid (∀ l∈ls,l.length≤1000000):=hsl
 clear hsl
 go_enter Tryz.func97,Tryz.ntmps97
 go_wp2
 go_loopw [8] (fun i wr=>∃ k:Nat,k≤ls.length∧i=.int .i64 k∧DiskAt wr F d (relAll D (ls.take k))∧Keep F w wr) (fun i _=>ls.length-(intOf i).toNat)
 case atStart=>exact⟨0,Nat.zero_le _,rfl,by simpa [relAll] using h,Keep.refl _ _⟩
 case round=>
  rename_i i
  obtain⟨k,hk,rfl,hD,hkeep⟩:=hrel
  by_cases hlt:k<ls.length
  ·have HT:Hid (relAll D (ls.take (k+1))=relD (relAll D (ls.take k)) ls[k]):=by
    show relAll D (ls.take (k+1))=_
    rw[List.take_succ_eq_append_getElem hlt,relAll_snoc]
   have hlr:=hl.stands hkeep.size fun b hb hlt=>hkeep.block b hlt (hFG b hb)
   obtain⟨b,o,ra,rc,rfl,hbF,hbl,cb,hcs,hra⟩:=hlr.at hlt
   have c0:=hkeep.cell hs0 hsF
   have hrl:=dRelease_any d ra rc ls[k] wr F _ hD hcs (fun b o hb=>hFG b (hra b o hb)) (HS.out _ (List.getElem_mem hlt))
   go_wp2_with (go_at_call 121;refine hrl.mono ?_;rintro e W1 ⟨rfl,hd1,hk1⟩)
   go_roundw
   case rel=>exact⟨k+1,by omega,by go_num,by rw[HT.out];exact hd1,hkeep.trans hk1⟩
   case measure=>simp[intOf];omega
  obtain rfl:k=ls.length:=by omega
  rw[List.take_length]at hD
  go_wp2
  go_end0
  exact⟨rfl,hD,hkeep⟩
def layAll (D:DS):List (List UInt8)→DS×List (List Nat)×Option Bool
 |[]=>(D,[],none)
 |t::ts=>match layL D (pieces t)with
  |(E,l,none)=>((layAll E ts).1,l::(layAll E ts).2.1,(layAll E ts).2.2)
  |(E,l,some x)=>(relD E l,[],some x)
def behindS (ls:List (List Nat))(r:DS×List (List Nat)×Option Bool):DS×List (List Nat)×Option Bool:=(r.1,ls++r.2.1,r.2.2)
theorem behindS_more {ls:List (List Nat)}{D E:DS}{t:List UInt8}{ts:List (List UInt8)}{l:List Nat}(h:layL D (pieces t)=(E,l,none)):behindS ls (layAll D (t::ts))=behindS (ls++[l]) (layAll E ts):=by
 simp[behindS,layAll,h]
theorem behindS_err {ls:List (List Nat)}{D E:DS}{t:List UInt8}{ts:List (List UInt8)}{l:List Nat}{x:Bool}(h:layL D (pieces t)=(E,l,some x)):behindS ls (layAll D (t::ts))=(relD E l,ls,some x):=by
 simp[behindS,layAll,h]
structure LayingS (w0:World) (F0:Nat→Prop) (w:World) (d:Nat) (E:DS) (sv:Value) (hs:List (Option Addr×Nat)) (ls:List (List Nat)) (FD:Nat→Prop):Prop where
 disk:DiskAt w FD d E
 from_:∀ k,FD k→F0 k∨w0.heap.size≤k
 lt:∀ k,FD k→k<w.heap.size
 own:OwnC w w0.heap.size 29 sv (List.zipWith segV hs ls)
 len:hs.length=ls.length
 segs:∀ (i:Nat) h l,hs[i]?=some h→ls[i]?=some l→Cells w h.1 (l.map nv)
 new:∀ (i:Nat) h,hs[i]?=some h→∀ b o,h.1=some ⟨b,o,none⟩→w0.heap.size≤b∧b<w.heap.size∧¬ FD b∧sv.ownBlock≠some b
 apart:∀ g,sv.ownBlock=some g→¬ FD g
 keep:Keep F0 w0 w
theorem LayingS.stand {w0 w w':World}{F0 FD:Nat→Prop}{d:Nat}{E:DS}{sv:Value}{hs:List (Option Addr×Nat)}{ls:List (List Nat)}(h:LayingS w0 F0 w d E sv hs ls FD)(hk:Keep FD w w') :
  OwnC w' w0.heap.size 29 sv (List.zipWith segV hs ls)∧Keep F0 w0 w'∧(∀ (i:Nat) x l,hs[i]?=some x→ls[i]?=some l→Cells w' x.1 (l.map nv)):=
 ⟨own_of_block h.own fun g hg=>hk.block g (own_block_ge h.own hg) (h.apart g hg),h.keep.trans' hk fun k hk' hf=>(h.from_ k hf).resolve_right (by omega),
  fun i x l hx hl=>(h.segs i x l hx hl).of_block hk.size fun b o hb hlt=>hk.block b hlt (h.new i x hx b o hb).2.2.1⟩
theorem zipWith_snoc (hs:List (Option Addr×Nat))(ls:List (List Nat))(h:hs.length=ls.length)(x:Option Addr×Nat)(l:List Nat):List.zipWith segV (hs++[x]) (ls++[l])=List.zipWith segV hs ls++[segV x l]:=by
 rw[List.zipWith_append h];rfl
theorem get_snoc {α:Type}{xs:List α}{x y:α}{i:Nat}(h:(xs++[x])[i]?=some y):(i<xs.length∧xs[i]?=some y)∨(i=xs.length∧x=y):=by
 rcases Nat.lt_or_ge i xs.length with h'|h'
 ·rw[List.getElem?_append_left h']at h
  exact .inl ⟨h',h⟩
 rw[List.getElem?_append_right h']at h
 rcases Nat.lt_or_ge (i-xs.length) 1 with h2|h2
 ·have:i-xs.length=0:=by omega
  rw[this]at h
  simp at h
  exact .inr ⟨by omega,h⟩
 rw[List.getElem?_eq_none (by simpa using h2)]at h
 simp at h
theorem LayingS.more {w0 wr W1 w3:World}{F0 FD FD1:Nat→Prop}{d:Nat}{E E1:DS}{sv sv':Value}{hs:List (Option Addr×Nat)}{ls:List (List Nat)}(h:LayingS w0 F0 wr d E sv hs ls FD)(hk1:Keep FD wr W1)(hd:DiskAt W1 FD1 d E1)(hfr:∀ k,FD1 k→FD k∨wr.heap.size≤k)(hlt:∀ k,FD1 k→k<W1.heap.size)
  (a1:Option Addr) (c1:Nat) (l:List Nat) (how:OwnC W1 wr.heap.size 3 (.slice a1 l.length c1) (l.map nv)) (hap:∀ g,(Value.slice a1 l.length c1).ownBlock=some g→¬ FD1 g) (o:Obj)
  (hown:OwnC w3 w0.heap.size 29 sv' (List.zipWith segV hs ls++[.slice a1 l.length c1])) (hg:(W1.alloc o).grownBy w3 sv.ownBlock) (hb:sv'.ownBlock=sv.ownBlock∨sv'.ownBlock=some (W1.alloc o).heap.size) :
  LayingS w0 F0 w3 d E1 sv' (hs++[(a1,c1)]) (ls++[l]) FD1:=by
 have hsz:=hg.size
 rw[World.size_alloc]at hsz
 have hs1:=hk1.size
 have hks:=h.keep.size
 have hold:∀ g,sv.ownBlock=some g→g<wr.heap.size:=fun g hg=>own_block_ge h.own hg
 have hst:∀ k,k<W1.heap.size→sv.ownBlock≠some k→w3.heap[k]?=W1.heap[k]?:=fun k hk hne=>(hg.block k (by simp;omega) (Ne.symm hne)).trans (Below.heap_alloc W1 o k hk)
 have hnew:∀ b,b<W1.heap.size→sv.ownBlock≠some b→sv'.ownBlock≠some b:=fun b hb' hne e=>by
  rcases hb with e2|e2
  ·exact hne (e2▸e)
  rw[e2]at e
  simp at e
  omega
 have hown1:∀ g,(Value.slice a1 l.length c1).ownBlock=some g→wr.heap.size≤g∧g<W1.heap.size:=fun g hg=>owns_block how hg
 have hone:∀ b o,a1=some ⟨b,o,none⟩→(Value.slice a1 l.length c1).ownBlock=some b:=(own_slice how).2
 obtain⟨_,hkk,hsegs⟩:=h.stand hk1
 refine⟨hd.stands fun k hk hl=>hst k hl fun e=>?_,fun k hk=>?_,fun k hk=>Nat.lt_of_lt_of_le (hlt k hk) (by omega),?_,by simp[h.len],?_,?_,fun g hg'=>?_,?_⟩
 ·rcases hfr k hk with hf|hf
  ·exact h.apart k e hf
  have:=hold k e;omega
 ·rcases hfr k hk with hf|hf
  ·exact h.from_ k hf
  exact .inr (by omega)
 ·rw[zipWith_snoc hs ls h.len];exact hown
 ·intro i x l' hx hl'
  rcases get_snoc hx with⟨hi,hx⟩|⟨hi,rfl⟩
  ·rw[List.getElem?_append_left (by rw[←h.len];exact hi)]at hl'
   exact(hsegs i x l' hx hl').of_block (by omega) fun b o hb' hlt'=>hst b hlt' (h.new i x hx b o hb').2.2.2
  rw[hi,h.len,List.getElem?_append_right (Nat.le_refl _)]at hl'
  simp at hl'
  subst hl'
  exact(own_slice how).1.of_block (by omega) fun b o hb' hlt'=>hst b hlt' fun e=>by have:=hold b e;have:=(hown1 b (hone b o hb')).1;omega
 ·intro i x hx b o hbo
  rcases get_snoc hx with⟨hi,hx⟩|⟨hi,rfl⟩
  ·obtain⟨n1,n2,n3,n4⟩:=h.new i x hx b o hbo
   refine⟨n1,by omega,fun hf=>?_,hnew b (by omega) n4⟩
   rcases hfr b hf with hf|hf
   ·exact n3 hf
   omega
  have hg1:=hone b o hbo
  obtain⟨g1,g2⟩:=hown1 b hg1
  exact⟨by omega,by omega,hap b hg1,hnew b g2 fun e=>by have:=hold b e;omega⟩
 ·intro hf
  rcases hb with e|e
  ·rw[e]at hg'
   rcases hfr g hf with hf|hf
   ·exact h.apart g hg' hf
   have:=hold g hg';omega
  rw[e]at hg'
  simp at hg'
  have:=hlt g hf
  omega
 refine⟨hg.os.trans hkk.os,hg.tape.trans hkk.tape,hg.output.trans hkk.output,Nat.le_trans hkk.size (by omega),fun k hk' hn=>?_⟩
 refine(hst k (Nat.lt_of_lt_of_le hk' hkk.size) fun e=>?_).trans (hkk.block k hk' hn)
 have:=(owns_block h.own e).1
 omega
def LayAllPost (w:World)(F:Nat→Prop)(d:Nat)(q wr:Addr)(r:DS×List (List Nat)×Option Bool)(e:Ending)(w':World):Prop:=
 Keep F w w'∧∃ FD:Nat→Prop,DiskAt w' FD d (match r.2.2 with|none=>r.1|some _=>relAll r.1 r.2.1)∧(∀ k,FD k→F k∨w.heap.size≤k)∧(∀ k,FD k→k<w'.heap.size) ∧
  match r.2.2 with
  |none=>∃ sa sc hs,e=.returned (.tuple #[.slice sa r.2.1.length sc,.nilIface])∧SegsAt w' (fun k=>w.heap.size≤k∧k<w'.heap.size∧¬ FD k) sa hs r.2.1∧r.2.1.length≤sc
  |some x=>∃ b,e=.returned (.tuple #[.slice none 0 0,.iface 162 (.pointer (some ⟨b,0,none⟩))])∧w.heap.size≤b∧Chain w' (.iface 162 (.pointer (some ⟨b,0,none⟩))) (if x then q else wr) none (some (-1))∧¬ FD b
theorem own_cap {w:World}{B:Nat}{e:TypeId}{a:Option Addr}{n c:Nat}{xs:List Value}(h:OwnC w B e (.slice a n c) xs):n≤c:=by
 rcases h.2 with⟨hv,h0⟩|⟨g,cap,cur,hv,_,_,hc,_⟩
 ·cases hv;exact Nat.le_refl _
 cases hv;exact hc
theorem LayingS.done {w0 w:World}{F0 FD:Nat→Prop}{d:Nat}{E:DS}{a:Option Addr}{n c:Nat}{hs:List (Option Addr×Nat)}{ls:List (List Nat)}(h:LayingS w0 F0 w d E (.slice a n c) hs ls FD):SegsAt w (fun k=>w0.heap.size≤k∧k<w.heap.size∧¬ FD k) a hs ls:=
 ⟨h.len,(own_slice h.own).1,h.segs,fun b o hb=>⟨(owns_block h.own ((own_slice h.own).2 b o hb)).1,(owns_block h.own ((own_slice h.own).2 b o hb)).2,h.apart b ((own_slice h.own).2 b o hb)⟩,fun i x hx b o hb=>⟨(h.new i x hx b o hb).1,(h.new i x hx b o hb).2.1,(h.new i x hx b o hb).2.2.1⟩⟩
theorem info_ints:(Tryz.prog.info? 29).map (fun i=>(i.zero,i.size,i.bytes))=some (some (.slice none 0 0),1,24):=by kernel_rfl
theorem wpList_append_D {w:World}{ops:Array Oper}{rest:List Oper}{o:Oper}{a:Act}{Q:Exit→Act→World→Prop}(hgd:o.guard=none)(s x:Operand)(t e:TypeId)(z:Value)(by1:Nat)
  (hinfo:(Tryz.prog.info? e).map (fun i=>(i.zero,i.size,i.bytes))=some (some z,1,by1)) (hz1:z.cells.size=1) (hby1:by1≤64) (ht:Tryz.prog.underlying t=some (.slice e))
  (ho:o.op=.call {callee:=.builtin .append,args:=#[s,x],argTypes:=#[t,t]})
  (B:Nat) (sv:Value) (xs:List Value) (hs:a.eval s=sv) (hown:OwnC w B e sv xs)
  (ad:Addr) (c:Nat) (news:List Value) (hx:a.eval x=.slice (some ad) news.length c) (hv:∀ j u,news[j]?=some u→w.cell? (ad.add j)=some u) (h1:∀ u∈news,u.oneCell'=true) (hlen:xs.length+news.length≤1000000) (hbase:B≤w.heap.size)
  (h:∀ sv' w',OwnC w' B e sv' (xs++news)→w.grownBy w' sv.ownBlock→(sv'.ownBlock=sv.ownBlock∨sv'.ownBlock=some w.heap.size)→wpList Tryz.prog ops Q rest (a.put o.dst sv') w') :
  wpList Tryz.prog ops Q (o::rest) a w:=by
 obtain⟨i,hi,hz,hsz,hby⟩:=info_parts hinfo
 refine wpList_append_own_at w hgd s x t ho B e i _ 1 by1 ht hi hz hsz hby hz1 (by decide) sv xs.length xs hs hown ad news.length c news hx (by simp) hv h1 ?_ ?_ hbase ?_
 ·unfold maxLen;omega
 ·have:(xs.length+news.length)*by1≤1000000*64:=Nat.mul_le_mul hlen hby1
  omega
 intro v' w' h1 h2 _ h4
 refine h v' w' ?_ h2 h4
 unfold OwnC
 simpa using h1
theorem relOne_len (D:DS)(i:Nat):(relOne D i).pages.length=D.pages.length:=by unfold relOne;split<;>simp
theorem relD_len (l:List Nat):∀ D:DS,(relD D l).pages.length=D.pages.length:=by
 induction l with
 |nil=>intro D;rfl
 |cons i l ih=>intro D;show (relD (relOne D i) l).pages.length=_;rw[ih,relOne_len]
theorem layL_len:∀ (ps:List (List UInt8))(D:DS),(layL D ps).1.pages.length≤D.pages.length+ps.length∧(layL D ps).2.1.length≤ps.length
 |[],D=>by simp[layL]
 |p::ps,D=>by
  unfold layL
  split
  ·simp
  split
  ·simp[countD]
  have:=layL_len ps (wroteD D p)
  have h2:=wroteD_len D p
  simp
  omega
def totalP (ts:List (List UInt8)):Nat:=(ts.map fun t=>(pieces t).length).sum
theorem totalP_cons (t:List UInt8)(ts:List (List UInt8)):totalP (t::ts)=(pieces t).length+totalP ts:=by simp[totalP]
def tv (t:List UInt8):Value:=.string (str t)
theorem tLay_any (s d:Nat)(a:Option Addr)(cap:Nat)(ts:List (List UInt8))(w:World)(F:Nat→Prop)(D:DS)(h:DiskAt w F d D)(hF:∀ k,F k→k<w.heap.size)(ht:Cells w a (ts.map tv))(haF:∀ b o,a=some ⟨b,o,none⟩→¬ F b)(hs0:w.cell? ⟨s,0,none⟩=some (.pointer (some ⟨d,0,none⟩)))(hsF:¬ F s)(q qw:Addr)
  (hq:w.cell? ⟨4,0,none⟩=some (.iface 284 (.pointer (some q)))) (hw:w.cell? ⟨5,0,none⟩=some (.iface 284 (.pointer (some qw)))) (hFq:¬ F 4) (hFw:¬ F 5) (hsm:D.pages.length+totalP ts≤800000) (htn:ts.length≤100000) (htl:∀ t∈ts,t.length≤1000000) :
  Calls Tryz.prog 70 #[.pointer (some ⟨s,0,none⟩),.slice a ts.length cap] w fun e w'=>LayAllPost w F d q qw (layAll D ts) e w':=by
 have HTL:Hid (∀ t∈ts,t.length≤1000000):=htl
 clear htl
 go_enter Tryz.func70,Tryz.ntmps70
 go_wp2
 go_loopw [6,13] (fun sv i wr=>∃ (k:Nat) (E:DS) (hs:List (Option Addr×Nat)) (ls:List (List Nat)) (FD:Nat→Prop),k≤ts.length∧i=.int .i64 k∧ls.length≤k∧E.pages.length+totalP (ts.drop k)≤800000∧LayingS w F wr d E sv hs ls FD∧Hid ((∀ l∈ls,l.length≤1000000)∧layAll D ts=behindS ls (layAll E (ts.drop k)))) (fun _ i _=>ts.length-(intOf i).toNat)
 case atStart=>exact⟨0,D,[],[],F,Nat.zero_le _,rfl,Nat.le_refl _,by simpa using hsm,⟨h,fun k hk=>.inl hk,hF,OwnC.nil _ _ _,rfl,fun i h l hi=>by simp at hi,fun i h hi=>by simp at hi,fun g hg=>by simp[Value.ownBlock]at hg,Keep.refl _ _⟩,by show _∧_;exact⟨by simp,by simp[behindS]⟩⟩
 case round=>
  rename_i sv i
  obtain⟨k,E,hs,ls,FD,hk,rfl,hlk,hel,hL,HE⟩:=hrel
  by_cases hlt:k<ts.length
  ·have HDR:Hid (ts.drop k=ts[k]::ts.drop (k+1)):=List.drop_eq_getElem_cons hlt
   rw[HDR.out,totalP_cons]at hel
   rcases ht with ht|⟨b,o,rfl,hb,ht⟩
   ·simp at ht;subst ht;simp at hlt
   have cb:wr.cell? ⟨b,o+k,none⟩=some (.string (str ts[k])):=hL.keep.cell (ht k _ (by simp[hlt];rfl)) (haF b o rfl)
   have c0:=hL.keep.cell hs0 hsF
   have hlay:=dLay_any d ts[k] wr FD E hL.disk hL.lt q qw (hL.keep.cell hq hFq) (hL.keep.cell hw hFw) (fun hf=>?_) (fun hf=>?_) (by omega) (HTL.out _ (List.getElem_mem hlt))
   ·obtain⟨a0,c0',hsv,_⟩:=hL.own.cells
    have hzl:(List.zipWith segV hs ls).length=ls.length:=by simp[hL.len]
    rw[hzl]at hsv
    have HZ:Hid ((List.zipWith segV hs ls).length=ls.length):=hzl
    clear hzl
    subst hsv
    have hback:∀ (FD1:Nat→Prop),(∀ k,FD1 k→FD k∨wr.heap.size≤k)→∀ k,k<w.heap.size→FD1 k→F k:=fun FD1 h1 k hk hf=>by
     have:=hL.keep.size
     rcases h1 k hf with h|h
     ·exact(hL.from_ k h).resolve_right (by omega)
     omega
    have HB:=hback
    replace HB:Hid (∀ (FD1:Nat→Prop),(∀ k,FD1 k→FD k∨wr.heap.size≤k)→∀ k,k<w.heap.size→FD1 k→F k):=HB
    clear hback
    have HL:Hid (LayingS w F wr d E (.slice a0 ls.length c0') hs ls FD):=hL
    have hws:=hL.keep.size
    clear hL
    rcases hr:layL E (pieces ts[k])with⟨E1,l,r⟩
    have hll:=layL_len (pieces ts[k]) E
    rw[hr]at hlay hll
    simp only at hll
    cases r with
    |none=>
     have HE1:Hid ((∀ l'∈ls++[l],l'.length≤1000000)∧layAll D ts=behindS (ls++[l]) (layAll E1 (ts.drop (k+1)))):=by
      refine⟨fun l' hl'=>?_,by rw[HE.out.2,HDR.out,behindS_more hr]⟩
      rcases List.mem_append.1 hl' with h|h
      ·exact HE.out.1 l' h
      simp at h;subst h;omega
     clear HE HDR hr
     generalize ts[k]=tk at *
     go_wp2_with (first|(go_at_call 96;refine hlay.mono ?_;rintro e W1 ⟨hk1,FD1,hd1,hf1,hl1,sv1,rfl,ho1,ha1⟩;obtain⟨a1,c1,hs1,_⟩:=ho1.cells;rw[List.length_map]at hs1;subst hs1;have hs1:=hk1.size)|(at_builtin;go_must (refine wpList_append_D (by rfl) _ _ 56 29 _ 24 info_ints (by rfl) (by decide) (by kernel_rfl) (by rfl) w.heap.size _ _ (by rfl) (OwnC.alloc (HL.out.stand hk1).1 _) ⟨W1.heap.size,0,none⟩ 1 [.slice a1 l.length c1] (by rfl) (by exact news_one W1 _ _) (by intro u hu;simp at hu;subst hu;rfl) (by rw[HZ.out];simp only[List.length_cons,List.length_nil];omega) (by simp;omega) ?_);intro sv' w3 h1 h2 h3;obtain⟨a2,cap2,rfl,_⟩:=h1.cells))
     go_roundw
     case rel=>
      have hq:=HL.out.more hk1 hd1 hf1 hl1 a1 c1 l ho1 ha1 _ h1 h2 h3
      simp only[List.length_append,List.length_zipWith,List.length_cons,List.length_nil,Nat.zero_add]at hq
      exact⟨k+1,E1,_,_,_,by omega,by go_num,by simp;omega,by omega,hq,HE1.out⟩
     case measure=>simp[intOf];omega
    |some x=>
     have HE1:Hid (layAll D ts=(relD E1 l,ls,some x)):=by show _=_;rw[HE.out.2,HDR.out,behindS_err hr]
     have HLL:Hid (∀ l∈ls,l.length≤1000000):=HE.out.1
     clear HE HDR hr
     generalize ts[k]=tk at *
     go_wp2_with (first|(go_at_call 96;refine hlay.mono ?_;rintro e W1 ⟨hk1,FD1,hd1,hf1,hl1,b1,rfl,hb1,hc1,hn1⟩;have hsg:=HL.out.done.stands hk1.size (fun k hk hl=>hk1.block k hl hk.2.2);have hrl:=tRelease_any s d a0 c0' hs ls W1 FD1 _ _ hd1 hsg (fun k hk hf=>(hf1 k hf).elim hk.2.2 (fun h=>absurd hk.2.1 (by omega))) (hk1.cell c0 (fun hf=>(HL.out.from_ s hf).elim hsF (fun h=>by have:=lt_of_cell hs0;simp at this;omega))) (fun hf=>hsF (HB.out FD1 hf1 s (lt_of_cell hs0) hf)) (by omega) HLL.out)|(go_at_call 97;refine hrl.mono ?_;rintro e W2 ⟨rfl,hd2,hk2⟩))
     go_ret2
     rw[HE1.out]
     exact⟨(HL.out.stand hk1).2.1.trans' hk2 (HB.out FD1 hf1),FD1,hd2,fun k hf=>(hf1 k hf).elim (HL.out.from_ k) fun h=>.inr (by omega),fun k hf=>Nat.lt_of_lt_of_le (hl1 k hf) hk2.size,b1,rfl,Nat.le_trans hws hb1,chain_keep hc1 hk2 hn1,hn1⟩
   ·exact(hL.from_ _ hf).elim hFq fun h=>by have:=lt_of_cell hq;simp at this;omega
   exact(hL.from_ _ hf).elim hFw fun h=>by have:=lt_of_cell hw;simp at this;omega
  obtain rfl:k=ts.length:=by omega
  obtain⟨a1,c1,hsv,_⟩:=hL.own.cells
  have hzl:(List.zipWith segV hs ls).length=ls.length:=by simp[hL.len]
  rw[hzl]at hsv
  subst hsv
  have HE1:Hid (layAll D ts=(E,ls,none)):=by show _=_;rw[HE.out.2,List.drop_length];simp[behindS,layAll]
  clear HE
  go_wp2
  go_ret2
  rw[HE1.out]
  exact⟨hL.keep,FD,hL.disk,hL.from_,hL.lt,_,_,hs,rfl,hL.done,own_cap hL.own⟩
end Go.Proofs.YtkgibdjakgmmcaaGreatDoor
