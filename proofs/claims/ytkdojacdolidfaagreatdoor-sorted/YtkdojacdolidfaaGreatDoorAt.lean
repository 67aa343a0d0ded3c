/- Rows by their numbers: what a sorting moves, plainly. -/
import Derived.Test.YtkdojacdolidfaaGreatDoorZb
set_option maxHeartbeats 4000000
set_option maxRecDepth 100000
namespace Go.Proofs.YtkdojacdolidfaaGreatDoor
section
open Go.RowKit Go.Shelf
structure Sg (ts:List Int) (cs:Cs) (ks:List Krv):Prop where
 good:Zt ts cs
 keys:∀ k∈ks,k.c<cs.length
 nk:ks.length<=1000000
 few:ts.length<=100
 tys:∀ c,c<ts.length->1<=ts.getD c 0/\ts.getD c 0<=3
section
variable {ts:List Int} {cs:Cs} {ks:List Krv}
theorem Sg.val (h:Sg ts cs ks){i c}(hi:i<nR cs)(y:c<cs.length):okV (ts.getD c 0) ((cs.getD c []).getD i Jf)/\Jg ((cs.getD c []).getD i Jf).n:=by
 obtain⟨K,H,I⟩:=h.good.ty i hi;have e:(Ji cs i).getD c Jf=(cs.getD c []).getD i Jf:=by
  unfold Ji;rw[Oa0,Ob1,Oa3 y,Oa0 (l:=cs),Oa3 y];rfl
 rw[<-e];have hl:c<(Ji cs i).length:=by rw[Yk];exact y
 refine⟨H c hl,I _ ?_⟩;rw[Oa0,Oa3 hl];exact Ob3 hl
theorem Krw ids cs:(Jba ids cs).length=cs.length:=by simp[Jba]
theorem Kr8 ids{c}(y:c<cs.length):(Jba ids cs).getD c []=ids.map fun i=>(cs.getD c []).getD i Jf:=by
 unfold Jba;rw[Oa0,Ob1,Oa3 y,Oa0 (l:=cs),Oa3 y];simp only[Option.map_some,Option.getD_some,Yq,Oi6];refine Oj9 fun i _=>?_;simp only[Function.comp];rw[if_neg zo,Int.toNat_natCast]
theorem Kr1 ids{c}(y:c<cs.length):((Jba ids cs).getD c []).length=ids.length:=by rw[Kr8 ids y,Oa6]
theorem Kya {a b:Cs}(hl:a.length=b.length)(h:∀ c,c<a.length->a.getD c []=b.getD c []):a=b:=by
 refine Oh4 hl fun c y H=>?_;have:=h c y;rw[Oa0,Oa3 y,Oa0,Oa3 H]at this;exact this
theorem Kwm {a:Cs}(f:List V->List V){c:Nat}(y:c<a.length):(a.map f).getD c []=f (a.getD c []):=by
 rw[Oa0,Ob1,Oa3 y,Oa0,Oa3 y];rfl
theorem Ktk ids cs f t:(Jba ids cs).map (Jbx f t)=Jba ((ids.take t).drop f) cs:=by
 refine Kya (by simp[Jba]) fun c y=>?_;rw[Oa6,Krw]at y;rw[Kwm _ (by rw[Krw];exact y),Kr8 ids y,Kr8 _ y];unfold Jbx;rw[<-List.map_take,<-List.map_drop]
theorem Kua (h:Zt ts cs):Jba (List.range (nR cs)) cs=cs:=by
 refine Kya (Krw _ _) fun c y=>?_;rw[Krw]at y;rw[Kr8 _ y];have hl:=h.rows c y;generalize cs.getD c []=x at *;refine Oh4 (by rw[Oa6,Op1,hl]) fun i I H=>?_;rw[Od9,Oo7,Oa0,Oa3 H];rfl
theorem Kyl ids cs m g(H:∀ i,i<m->g i<ids.length):(Jba ids cs).map (Yq (Ktu m g))=Jba ((List.range m).map fun i=>ids.getD (g i) 0) cs:=by
 refine Kya (by simp[Jba]) fun c y=>?_;rw[Oa6,Krw]at y;rw[Kwm _ (by rw[Krw];exact y),Kr8 ids y,Kr8 _ y];unfold Yq Ktu;rw[Oi6,Oi6];refine Oj9 fun i hi=>?_;have hi:=H i (by simpa using hi);simp only[Function.comp];rw[if_neg zo,Int.toNat_natCast];simp[List.getD_eq_getElem?_getD,List.getElem?_eq_getElem hi]
theorem Kt8 ids{c t}(y:c<cs.length)(ht:t<ids.length):Kry (Jba ids cs) t c=Kry cs (ids.getD t 0) c:=by
 unfold Kry;rw[Kr8 ids y];simp[List.getD_eq_getElem?_getD,List.getElem?_eq_getElem ht,Jf]
theorem Kuj:∀ (ks:List Krv){r s y H:Nat->V},(∀ k∈ks,r k.c=y k.c/\s k.c=H k.c)->Ks5 ks r s=Ks5 ks y H
 |[],_,_,_,_,_=>rfl
 |k::ks,r,s,y,H,h=>by
  have I:=h k zS;unfold Ks5;rw[I.1,I.2,Kuj ks fun M K=>h M (Og1 _ K)]
theorem Kzy (h:Sg ts cs ks)ids{a b}(H:a<ids.length)(hb:b<ids.length):Ks5 ks (Kry (Jba ids cs) a) (Kry (Jba ids cs) b)=Kr7 ks cs (ids.getD a 0) (ids.getD b 0):=
 Kuj ks fun k y=>⟨Kt8 ids (h.keys k y) H,Kt8 ids (h.keys k y) hb⟩
theorem Qbe (h:Sg ts cs ks)ids y{a b}(I:a<ids.length)(hb:b<y.length):Ks5 ks (Kry (Jba ids cs) a) (Kry (Jba y cs) b)=Kr7 ks cs (ids.getD a 0) (y.getD b 0):=
 Kuj ks fun k H=>⟨Kt8 ids (h.keys k H) I,Kt8 y (h.keys k H) hb⟩
theorem Sg.okt (h:Sg ts cs ks):∀ k∈ks,∀ v∈cs.getD k.c [],OkT (ts.getD k.c 0) v:=fun k M v hv=>by
 have y:=h.keys k M;obtain⟨i,hi,rfl⟩:=Od5 hv;have K:i<nR cs:=by rw[<-h.good.rows k.c y];exact hi
 have:=(h.val K y).1;have e:(cs.getD k.c []).getD i Jf=(cs.getD k.c [])[i]:=by rw[Oa0 (l:=cs.getD k.c []),Oa3 hi];rfl
 rw[e]at this;rcases Jgh this with e|⟨H,I,_⟩
 ·exact .inl e
 exact .inr ⟨H,I⟩
theorem Sg.ord (h:Sg ts cs ks):Ksg (Kr7 ks cs):=Kxm (fun c=>ts.getD c 0) ks cs h.okt
theorem Sg.ordP (h:Sg ts cs ks)ids(K:∀ i∈ids,i<nR cs):Ksg fun i j=>Ks5 ks (Kry (Jba ids cs) i) (Kry (Jba ids cs) j):=
 Kxm (fun c=>ts.getD c 0) ks (Jba ids cs) fun k y v hv=>by
  rw[Kr8 ids (h.keys k y),Of0]at hv;obtain⟨i,hi,rfl⟩:=hv;have:=(h.val (K i hi) (h.keys k y)).1;rcases Jgh this with e|⟨H,I,_⟩
  ·exact .inl e
  exact .inr ⟨H,I⟩
theorem Sg.keyC (h:Sg ts cs ks)ids(I:ids.length<=100000):Qa9 ks (Jba ids cs) ids.length:=
 ⟨fun j y=>Kr1 ids (by rw[Krw]at y;exact y),fun k H=>by rw[Krw];exact h.keys k H,by rw[Krw];exact h.good.few,by rw[Krw];exact h.good.one,I,h.nk⟩
theorem Sg.inI (h:Sg ts cs ks){ids}(I:∀ i∈ids,i<nR cs):∀ c∈Jba ids cs,∀ v∈c,Jg v.n:=fun c H v hv=>by
 obtain⟨j,y,rfl⟩:=Od5 H;rw[Krw]at y;have e:(Jba ids cs)[j]'(by rw[Krw];exact y)=(Jba ids cs).getD j []:=by rw[Oa0,Oa3 (by rw[Krw];exact y)];rfl
 rw[e,Kr8 ids y,Of0]at hv;obtain⟨i,hi,rfl⟩:=hv;exact(h.val (I i hi) y).2
theorem Sg.lay (h:Sg ts cs ks){ids}(U:∀ i∈ids,i<nR cs)(hl:ids.length<=64):Kyv ts (Jba ids cs) ids.length/\Kr6 ts (Jba ids cs) ts.length≠[]/\(Qu (Kr6 ts (Jba ids cs) ts.length)).length<=11000:=by
 have hlen:=h.good.len;have bh:=h.good.one;have Z:=h.few;have I:∀ c,c<ts.length->way (ts.getD c 0) 0=true/\Jdq (ts.getD c 0) ((Jba ids cs).getD c []):=fun c y=>by
  refine⟨by have:=h.tys c y;unfold way;exact decide_eq_true zo,by rw[Kr1 ids zo];exact hl,fun j H=>?_⟩;have key:∀ (x:List V) (M:x=ids.map fun i=>(cs.getD c []).getD i Jf) (H:j<x.length),okV (ts.getD c 0) x[j]:=fun x M H=>by
   subst M;rw[Od9];exact(h.val (U _ (Ob3 _)) (by omega:c<cs.length)).1
  exact key _ (Kr8 ids (by omega:c<cs.length)) H
 have K:∀ c,c<ts.length->(Kst ts (Jba ids cs) c).length<=6100/\Kst ts (Jba ids cs) c≠[]:=fun c y=>Khf _ 0 _ (I c y).2;have htot:∀ k,k<=ts.length->(Kr6 ts (Jba ids cs) k).length<=6100*k:=by
  intro k;induction k with
  |zero=>intro _;simp[Kr6]
  |succ k Y=>intro bf;rw[Kso,Oa8];have:=Y zo;have:=(K k zo).1;omega
 have ht:=htot ts.length (Oa2 _);refine⟨⟨by rw[Krw];exact hlen,fun c y=>Kr1 ids zo,I,zo,zo⟩,fun e=>?_,?_⟩
 ·have O:=Kwt ts (Jba ids cs) 1 (ts.length-1);rw[show 1+(ts.length-1)=ts.length by omega,e,show (1:Nat)=0+1 from rfl,Kso,Oa8]at O;have:=(K 0 zo).2;have h0:0<(Kst ts (Jba ids cs) 0).length:=Oi9.2 this;rw[List.length_nil]at O;omega
 have:=Jio (Kr6 ts (Jba ids cs) ts.length);omega
end
end
section
open Go.RowKit
structure Top (D E:DS) (ls:List (List Nat)):Prop where
 nd:ls.flatten.Nodup
 free:∀ j∈ls.flatten,pg D j=none
 use:∀ j∈ls.flatten,∃ p,pg E j=some p
 rest:∀ j,j∉ls.flatten->pg E j=pg D j
 quota:E.quota=D.quota
 fail:E.fail=D.fail
theorem Top.refl D:Top D D []:=⟨List.nodup_nil,zS,zS,fun _ _=>rfl,rfl,rfl⟩
theorem Top.same {D E H I}(h:Top D E I)(s:Kft E H):Top D H I:=
 ⟨h.nd,h.free,fun j y=>by rw[s.pages];exact h.use j y,fun j y=>by rw[s.pages];exact h.rest j y,s.quota.trans h.quota,s.fail.trans h.fail⟩
theorem Top.perm {D E H I}(h:Top D E H)(p:H.Perm I):Top D E I:=by
 have hp:=p.flatten;exact⟨hp.nodup_iff.1 h.nd,fun j y=>h.free j (hp.mem_iff.2 y),fun j y=>h.use j (hp.mem_iff.2 y),fun j y=>h.rest j fun x=>y (hp.mem_iff.1 x),h.quota,h.fail⟩
theorem Jjo.some_ {D E ps l}(h:Jjo D E ps l){j}(y:j∈l):∃ p,pg E j=some p:=by
 obtain⟨i,hi,rfl⟩:=Od5 y;exact⟨_,h.held i hi⟩
theorem Top.laid {D E M H ps l}(h:Top D E H)(k:Jjo E M ps l):Top D M (H++[l]):=by
 have K:∀ j,j∈H.flatten->j∉l:=fun j y hl=>by
  obtain⟨p,hp⟩:=h.use j y;rw[k.free j hl]at hp;cases hp
 have I:(H++[l]).flatten=H.flatten++l:=zS;refine⟨?_,fun j y=>?_,fun j y=>?_,fun j y=>?_,k.quota.trans h.quota,k.fail.trans h.fail⟩
 ·rw[I];exact Op3.2 ⟨h.nd,k.nodup,fun a O b hb e=>K a O (e▸hb)⟩
 ·rw[I,Od2]at y;rcases y with y|y
  ·exact h.free j y
  rw[<-h.rest j fun x=>K j x y];exact k.free j y
 ·rw[I,Od2]at y;rcases y with y|y
  ·rw[k.other j (K j y)];exact h.use j y
  exact k.some_ y
 rw[I,Od2]at y;rw[k.other j fun x=>y (.inr x)];exact h.rest j fun x=>y (.inl x)
theorem zbd {p:Prop}(h:p:=by
 rw[H,Od2,Od2];rcases y with y|y
 ·exact .inl y
 exact .inr (.inr y)):p:=h
theorem Top.rel {D E a b l}(h:Top D E (a++l::b)):Top D (Jf4 E l) (a++b):=by
 have H:(a++l::b).flatten=a.flatten++(l++b.flatten):=zS;have I:(a++b).flatten=a.flatten++b.flatten:=zS;have M:=h.nd;rw[H]at M;obtain⟨Y,Z,n3⟩:=Op3.1 M;obtain⟨bj,bf,bh⟩:=Op3.1 Z;have K:=Jin l E;have O:∀ j,j∈a.flatten\/j∈b.flatten->j∉l:=fun j y hl=>by
  rcases y with y|y
  ·exact n3 j y j (Od2.2 (.inl hl)) rfl
  exact bh j hl j y rfl
 refine⟨?_,fun j y=>?_,fun j y=>?_,fun j y=>?_,K.1.trans h.quota,K.2.1.trans h.fail⟩
 ·rw[I];exact Op3.2 ⟨Y,bf,fun x U bi hy=>n3 x U bi (Od2.2 (.inr hy))⟩
 ·rw[I,Od2]at y;refine h.free j ?_;exact zbd
 ·rw[I,Od2]at y;rw[Jx3,if_neg (O j y)];refine h.use j ?_;exact zbd
 rw[I,Od2]at y;rw[Jx3];by_cases hl:j∈l
 ·rw[if_pos hl];exact(h.free j (by rw[H,Od2,Od2];exact .inr (.inl hl))).symm
 rw[if_neg hl];refine h.rest j fun x=>?_;rw[H,Od2,Od2]at x;rcases x with x|x|x
 ·exact y (.inl x)
 ·exact hl x
 exact y (.inr x)
theorem Top.done {D E}(h:Top D E []):Kft D E:=⟨fun j=>h.rest j zS,Jz2 fun j=>h.rest j zS,h.quota,h.fail⟩
theorem Top.held {D E H I ps l y t}(h:Top D E I)(k:Jjo E H ps l)(hl:y∈I)(s:Jan E y t):Jan H y t:=
 s.keep fun i hi=>k.other i fun x=>by
  obtain⟨p,hp⟩:=h.use i (List.mem_flatten.2 ⟨y,hl,hi⟩);rw[k.free i x]at hp;cases hp
theorem Top.held_rel {D E a b l y t}(h:Top D E (a++l::b))(hl:y∈a++b)(s:Jan E y t):Jan (Jf4 E l) y t:=
 s.keep fun i hi=>by
  rw[Jx3,if_neg];intro I;have K:(a++l::b).flatten=a.flatten++(l++b.flatten):=zS;have H:=h.nd;rw[K]at H;obtain⟨_,M,n3⟩:=Op3.1 H;obtain⟨_,_,O⟩:=Op3.1 M;rcases Od2.1 hl with hl|hl
  ·exact n3 i (List.mem_flatten.2 ⟨y,hl,hi⟩) i (Od2.2 (.inl I)) rfl
  exact O i I i (List.mem_flatten.2 ⟨y,hl,hi⟩) rfl
theorem Jan.same {E y l t}(s:Jan E l t)(h:Kft E y):Jan y l t:=s.keep fun i _=>h.pages i
end
open Go.RowKit Go.Shelf Tryz
structure Bk where
 ids:List Nat
 l:List Nat
 la:Option Addr
 lc:Nat
 pa:Option Addr
 pc:Nat
def Bk.cells (tn:Nat)(b:Bk):List Value:=[.int .i64 (b.ids.length:Nat),.slice b.la tn b.lc,.slice b.pa b.l.length b.pc]
structure Rn where
 place:Nat
 bs:List Bk
 held:List Nat
structure Kwc (w:World) (N:Nat->Prop) (ts:List Int) (cs:Cs) (b:Bk):Prop where
 lens:Uh w b.la ((Ktd ts (Jba b.ids cs) ts.length).map nv)
 pages:Uh w b.pa (b.l.map nv)
 ln:∀ x o,b.la=some ⟨x,o,none⟩->N x
 pn:∀ x o,b.pa=some ⟨x,o,none⟩->N x
def Ktq (w:World)(N:Nat->Prop)(cs:Cs)(ids:List Nat)(hv:Value):Prop:=
 (ids=[]/\hv=.slice none 0 0)\/(ids≠[]/\∃ hb hs cap,hv=.slice (some ⟨hb,0,none⟩) cs.length cap/\Qd w hb hs (Jba ids cs)/\N hb/\∀ j b o,j<cs.length->(Yo hs j).1=some ⟨b,o,none⟩->N b)
structure Kss (w:World) (N:Nat->Prop) (ts:List Int) (cs:Cs) (rb:Nat) (R:Rn) (ba:Option Addr) (bc:Nat) (hv:Value):Prop where
 cells:w.heap[rb]?=some (.cells #[.int .i64 (R.place:Nat),.slice ba R.bs.length bc,hv] 359 (0,0))
 arr:Uh w ba (R.bs.flatMap (Bk.cells ts.length))
 an:∀ x o,ba=some ⟨x,o,none⟩->N x
 cap:R.bs.length<=bc
 blk:∀ b∈R.bs,Kwc w N ts cs b
 held:Ktq w N cs R.held hv
 nr:¬ N rb
 lt:∀ k,N k->k<w.heap.size
section
variable {w w':World} {N G:Nat->Prop} {ts:List Int} {cs:Cs} {rb:Nat} {R:Rn} {ba:Option Addr} {bc:Nat} {hv:Value}
theorem Uh.on {a xs}(h:Uh w a xs)(hs:w.heap.size<=w'.heap.size)(y:∀ x o,a=some ⟨x,o,none⟩->w'.heap[x]?=w.heap[x]?):Uh w' a xs:=h.of_block hs fun b o e _=>y b o e
theorem Kwc.on {b}(h:Kwc w N ts cs b)(hs:w.heap.size<=w'.heap.size)(y:∀ k,N k->w'.heap[k]?=w.heap[k]?):Kwc w' N ts cs b:=
 ⟨h.lens.on hs fun x o e=>y x (h.ln x o e),h.pages.on hs fun x o e=>y x (h.pn x o e),h.ln,h.pn⟩
theorem Kwc.mono {y b}(h:Kwc w N ts cs b)(H:∀ k,N k->y k):Kwc w y ts cs b:=⟨h.lens,h.pages,fun x o e=>H x (h.ln x o e),fun x o e=>H x (h.pn x o e)⟩
theorem Qd.on {g:Nat}{hs:List (Option Addr×Nat)}{y:Cs}(h:Qd w g hs y)(M:w.heap.size<=w'.heap.size)(I:w'.heap[g]?=w.heap[g]?)(K:∀ j b o,j<y.length->(Yo hs j).1=some ⟨b,o,none⟩->w'.heap[b]?=w.heap[b]?):Qd w' g hs y:=
 ⟨h.row.of_block I,fun j H=>(h.vals j H).of_block M fun b o e _=>K j b o H e,h.cap⟩
theorem Ktq.on {ids}(h:Ktq w N cs ids hv)(hs:w.heap.size<=w'.heap.size)(K:∀ k,N k->w'.heap[k]?=w.heap[k]?):Ktq w' N cs ids hv:=by
 rcases h with h|⟨M,hb,Y,cap,O,U,y,H⟩
 ·exact .inl h
 exact .inr ⟨M,hb,Y,cap,O,U.on hs (K hb y) fun j b o I e=>K b (H j b o (by rw[Krw]at I;exact I) e),y,H⟩
theorem Kss.on (h:Kss w N ts cs rb R ba bc hv)(hs:w.heap.size<=w'.heap.size)(hr:w'.heap[rb]?=w.heap[rb]?)(y:∀ k,N k->w'.heap[k]?=w.heap[k]?):Kss w' N ts cs rb R ba bc hv:=
 ⟨hr.trans h.cells,h.arr.on hs fun x o e=>y x (h.an x o e),h.an,h.cap,fun b hb=>(h.blk b hb).on hs y,h.held.on hs y,h.nr,fun k H=>Oc2 (h.lt k H) hs⟩
theorem Kss.keep (h:Kss w N ts cs rb R ba bc hv)(y:Ju G w w')(hr:¬ G rb)(I:∀ k,N k->¬ G k):Kss w' N ts cs rb R ba bc hv:=
 h.on y.size (y.block rb (Jd h.cells) hr) fun k H=>y.block k (h.lt k H) (I k H)
theorem Kss.fields (h:Kss w N ts cs rb R ba bc hv):w.cell? ⟨rb,0,none⟩=some (.int .i64 (R.place:Nat))/\w.cell? ⟨rb,1,none⟩=some (.slice ba R.bs.length bc)/\w.cell? ⟨rb,2,none⟩=some hv/\∀ i,w.frozen? ⟨rb,i,none⟩=false:=Ksp h.cells
end
structure Qdj (w:World) (sb d tb to_ tc kb ko kc:Nat) (ts:List Int) (ks:List Krv):Prop where
 c0:w.cell? ⟨sb,0,none⟩=some (.slice (some ⟨tb,to_,none⟩) ts.length tc)
 c3:w.cell? ⟨sb,3,none⟩=some (.pointer (some ⟨d,0,none⟩))
 ty:Kc w (some ⟨tb,to_,none⟩) ts
 key:Kxj w sb kb ko kc ks
theorem Qbl w:Calls prog 56 #[.slice none 0 0] w fun e w'=>e=.returned (.int .i64 0)/\w'=w:=by
 go_enter func56,ntmps56
 go_wp2;go_ret
 exact⟨rfl,rfl⟩
theorem Kyq sb rb ts cs ks R ba bc hv w N(bi:Sg ts cs ks)(h:Kss w N ts cs rb R ba bc hv)(Z:1<R.held.length)(bL:R.held.length<=100000):
  Calls prog 209 #[.pointer (some ⟨sb,0,none⟩),.pointer (some ⟨rb,0,none⟩)] w fun e w'=>e=.returned (.tuple #[.bool true,.nilIface])/\Ju (fun k=>k=rb) w w'/\∃ Y bC,Kss w' Y ts cs rb ⟨R.place,R.bs,R.held.tail⟩ ba bc bC/\∀ k,Y k->N k\/w.heap.size<=k:=by
 obtain⟨bE,bG,bH,bx⟩:=h.fields;have bI:=bx 2;have y:=zh h;rcases h.held with⟨e,_⟩|⟨_,hb,hs,cap,rfl,hC,bK,bz⟩
 ·rw[e]at Z;simp at Z
 have U:=bi.good.one;have c0:=hC.row.cell (i:=0) (by rw[Krw];exact U);rw[Kr1 R.held U]at c0;have bA:=Jlg hb cs.length cap _ R.held.length _ w U c0;have bh:=Kdx hb cap hs (Jba R.held cs) R.held.length 1 R.held.length w hC (fun j H=>Kr1 R.held (by rw[Krw]at H;exact H)) zo (Oa2 _) (by rw[Krw];exact bi.good.few);rw[Krw,Ktk,Of2,List.drop_one]at bh;have bJ:(1:Int)<(R.held.length:Int):=zo;have bB:=Jd y.out.cells;clear h c0;go_enter func209,ntmps209
 go_wp2_with (first|(go_at_call 56;refine bA.mono ?_;rintro e X ⟨rfl,K⟩;subst X)|(go_at_call 114;refine bh.mono ?_;rintro e O ⟨M,rfl,bf⟩;have z1:=(M.block rb bB).trans y.out.cells;obtain⟨bN,bO,bP,bD⟩:=Ksp z1;have bQ:=bD 2))
 go_ret2
 have bj:=M.size;have K:∀ k,k≠rb->(O.setCell ⟨rb,2,none⟩ (.slice (some ⟨w.heap.size,0,none⟩) cs.length cs.length)).heap[k]?=O.heap[k]?:=fun k I=>Oa4 _ _ _ _ I;have bM:=bf.row.lt;have bk:∀ k,N k->(O.setCell ⟨rb,2,none⟩ (.slice (some ⟨w.heap.size,0,none⟩) cs.length cs.length)).heap[k]?=w.heap[k]?:=fun k I=>(K k fun e=>y.out.nr (e▸I)).trans (M.block k (y.out.lt k I));have hcut:∀ j b o,j<cs.length->(Yo (Jnt hs cs.length 1 R.held.length) j).1=some ⟨b,o,none⟩->N b:=fun j b o H e=>by
  rcases hC.vals j (by rw[Krw];exact H)with h0|⟨ab,ao,ha,hl,_⟩
  ·have:=Kr1 R.held H;rw[h0]at this;simp at this;omega
  rw[Jmn H ha e];exact bz j ab ao H ha
 refine⟨rfl,Ju.set (F:=fun k=>k=rb) (Ju.of_below M) rfl 2 _,fun k=>N k\/k=w.heap.size,_,⟨?_,y.out.arr.on (by simp;exact bj) fun x o e=>bk x (y.out.an x o e),fun x o e=>.inl (y.out.an x o e),y.out.cap,fun b hb=>((y.out.blk b hb).on (by simp;exact bj) bk).mono fun k I=>.inl I,.inr ⟨?_,w.heap.size,_,cs.length,rfl,?_,.inr rfl,fun j b o H e=>.inl (hcut j b o H e)⟩,?_,fun k I=>?_⟩,fun k I=>I.imp id (fun h=>zo)⟩
 ·rw[Jk z1];simp
 ·intro e;have:=congrArg List.length e;simp at this;omega
 ·exact bf.on zS (K _ zo) fun j b o H e=>K b fun br=>y.out.nr (br▸hcut j b o (by rw[Krw]at H;exact H) e)
 ·intro h;rcases h with h|h
  ·exact y.out.nr h
  omega
 rcases I with h|h
 ·have:=y.out.lt k h;simp;omega
 simp;omega
theorem Ktq.len {w N cs ids hv}(h:Ktq w N cs ids hv)(y:1<=cs.length):Calls prog 56 #[hv] w fun e w'=>e=.returned (.int .i64 (ids.length:Int))/\w'=w:=by
 rcases h with⟨rfl,rfl⟩|⟨_,hb,hs,cap,rfl,hC,_⟩
 ·exact Qbl w
 have c0:=hC.row.cell (i:=0) (by rw[Krw];exact y);rw[Kr1 ids y]at c0;exact Jlg hb cs.length cap _ ids.length _ w y c0
theorem Kss.drop {w N ts cs rb R ba bc hv}(h:Kss w N ts cs rb R ba bc hv):Kss (w.setCell ⟨rb,2,none⟩ (.slice none 0 0)) N ts cs rb ⟨R.place,R.bs,[]⟩ ba bc (.slice none 0 0):=by
 have H:∀ k,N k->(w.setCell ⟨rb,2,none⟩ (.slice none 0 0)).heap[k]?=w.heap[k]?:=fun k y=>Oa4 _ _ _ _ fun e=>h.nr ((show k=rb from e)▸y);refine⟨by rw[Jk h.cells];simp,h.arr.on zS fun x o e=>H x (h.an x o e),h.an,h.cap,fun b hb=>(h.blk b hb).on zS H,.inl ⟨rfl,rfl⟩,h.nr,fun k y=>by simpa using h.lt k y⟩
theorem Kyb sb rb ts cs ks R ba bc hv w N(M:Sg ts cs ks)(h:Kss w N ts cs rb R ba bc hv)(bf:R.held.length<=1)(hb:R.bs=[]):
  Calls prog 209 #[.pointer (some ⟨sb,0,none⟩),.pointer (some ⟨rb,0,none⟩)] w fun e w'=>e=.returned (.tuple #[.bool false,.nilIface])/\Ju (fun k=>k=rb) w w'/\Kss w' N ts cs rb ⟨R.place,[],[]⟩ ba bc (.slice none 0 0):=by
 obtain⟨U,I,Y,K⟩:=h.fields;have Z:=K 2;have O:=h.held.len M.good.one;have y:=h.drop;rw[hb]at y I;have H:=zh y;have bh:¬ (1:Int)<(R.held.length:Int):=zo;have bj:(([]:List Bk).length:Int)=0:=rfl;clear h y hb;go_enter func209,ntmps209
 go_wp2_with (go_at_call 56;refine O.mono ?_;rintro e X ⟨rfl,bi⟩;subst X)
 go_ret2
 exact⟨rfl,Ju.set (F:=fun k=>k=rb) (Ju.refl _ _) rfl 2 _,H.out⟩
structure Qck (w:World) (sb d tb to_ tc kb ko kc:Nat) (ts:List Int) (ks:List Krv) (a0 a1 a2 q qw pg:Addr):Prop where
 so:Qdj w sb d tb to_ tc kb ko kc ts ks
 er:Jf0 w a0 a1 a2
 cq:w.cell? ⟨6,0,none⟩=some (.iface 434 (.pointer (some q)))
 cw:w.cell? ⟨7,0,none⟩=some (.iface 434 (.pointer (some qw)))
 cp:w.cell? ⟨8,0,none⟩=some (.iface 434 (.pointer (some pg)))
theorem Kss.took {y O K N F ts cs rb place M U bc g b bs hs A C}(H:Kss y N ts cs rb ⟨place,b::bs,[]⟩ (some ⟨M,U,none⟩) bc (.slice none 0 0))(br:Below y.heap.size y O)(bi:Ju F O K)(bG:∀ k,N k->¬ F k)(hF:∀ k,F k->k<y.heap.size)(bf:Qd O g hs (Jba b.ids cs))(bh:Qah y O hs cs.length)(bz:y.heap.size<=g)(bI:b.ids≠[])(Z:(A=some ⟨M,U+3,none⟩/\C=bc-1)\/(bs=[]/\A=some ⟨M,U,none⟩/\C=0))(bL:K.heap[rb]?=some (.cells #[.int .i64 (place:Nat),.slice (some ⟨M,U,none⟩) (bs.length+1) bc,.slice none 0 0] 359 (0,0))):
  Kss ((K.setCell ⟨rb,1,none⟩ (.slice A bs.length C)).setCell ⟨rb,2,none⟩ (.slice (some ⟨g,0,none⟩) cs.length cs.length)) (fun k=>N k\/(y.heap.size<=k/\k<O.heap.size)) ts cs rb ⟨place,bs,b.ids⟩ A C (.slice (some ⟨g,0,none⟩) cs.length cs.length):=by
 have bP:=br.size;have bQ:=bi.size;have bO:=Jd H.cells;have bk:∀ k,k≠rb->((K.setCell ⟨rb,1,none⟩ (.slice A bs.length C)).setCell ⟨rb,2,none⟩ (.slice (some ⟨g,0,none⟩) cs.length cs.length)).heap[k]?=K.heap[k]?:=fun k I=>(Oa4 _ _ _ _ I).trans (Oa4 _ _ _ _ I);have bB:∀ k,N k->((K.setCell ⟨rb,1,none⟩ (.slice A bs.length C)).setCell ⟨rb,2,none⟩ (.slice (some ⟨g,0,none⟩) cs.length cs.length)).heap[k]?=y.heap[k]?:=fun k I=>by
  have hl:=H.lt k I;rw[bk k fun e=>H.nr (e▸I),bi.block k zo (bG k I),br.block k hl]
 have bA:∀ k,y.heap.size<=k->k<O.heap.size->((K.setCell ⟨rb,1,none⟩ (.slice A bs.length C)).setCell ⟨rb,2,none⟩ (.slice (some ⟨g,0,none⟩) cs.length cs.length)).heap[k]?=O.heap[k]?:=fun k bN bE=>by
  rw[bk k zo,bi.block k bE (fun h=>by have:=hF k h;omega)]
 have bR:((K.setCell ⟨rb,1,none⟩ (.slice A bs.length C)).setCell ⟨rb,2,none⟩ (.slice (some ⟨g,0,none⟩) cs.length cs.length)).heap.size=K.heap.size:=zS;refine⟨?_,?_,fun x o e=>?_,?_,fun bC bH=>((H.blk bC (Og1 _ bH)).on zo bB).mono fun k I=>.inl I,.inr ⟨bI,g,hs,cs.length,rfl,?_,.inr ⟨bz,bf.row.lt⟩,fun j x o Y e=>.inr (bh j Y x o e)⟩,fun h=>?_,fun k I=>?_⟩
 ·have bJ:=Jk bL 1 (.slice A bs.length C);have bK:=Jk bJ 2 (.slice (some ⟨g,0,none⟩) cs.length cs.length);rw[bK];simp
 ·by_cases bx:bs=[]
  ·exact .inl (by rw[bx];rfl)
  rcases Z with⟨rfl,rfl⟩|⟨h,_⟩
  ·rcases H.arr with e|⟨x,o,bj,bM,bD⟩
   ·simp[Bk.cells]at e
   simp at bj;obtain⟨rfl,rfl⟩:=bj;refine .inr ⟨M,U+3,rfl,zo,fun i v hi=>?_⟩;have:=bD (3+i) v (by simp[Bk.cells];rw[Nat.add_comm];simpa [Bk.cells] using hi);rw[<-On5]at this;rw[Oc3 (w:=y) (bB M (H.an M U rfl))];exact this
  exact absurd h bx
 ·rcases Z with⟨rfl,rfl⟩|⟨_,rfl,_⟩<;>(simp at e;obtain⟨rfl,rfl⟩:=e;exact .inl (H.an M U rfl))
 ·have:=H.cap;simp only[List.length_cons]at this |-;rcases Z with⟨_,rfl⟩|⟨rfl,_,rfl⟩
  ·omega
  exact Ob7 _
 ·exact bf.on zo (bA g bz bf.row.lt) fun j x o Y e=>by
   rw[Krw]at Y;exact bA x (bh j Y x o e).1 (bh j Y x o e).2
 ·rcases h with h|h
  ·exact H.nr h
  omega
 rcases I with h|h
 ·have:=H.lt k h;omega
 omega
theorem Kxi sb d tb to_ tc kb ko kc rb ts cs ks a0 a1 a2 q qw pg R b bs ba bc hv w N F D(bL:Sg ts cs ks)(h:Kss w N ts cs rb R ba bc hv)(cX:R.held.length<=1)(hb:R.bs=b::bs)(bX:∀ X,Ju (fun k=>F k\/k=rb) w X->Qck X sb d tb to_ tc kb ko kc ts ks a0 a1 a2 q qw pg)(bV:Zb w F d D)(hF:∀ k,F k->k<w.heap.size)(bG:∀ k,N k->¬ F k)(bz:¬ F rb)(cQ:¬ F sb)(cb:∀ i∈b.ids,i<nR cs)(bI:1<=b.ids.length/\b.ids.length<=64)(hh:Jan D b.l (Kr6 ts (Jba b.ids cs) ts.length))(cf:b.l.length<=1000000):
  Calls prog 209 #[.pointer (some ⟨sb,0,none⟩),.pointer (some ⟨rb,0,none⟩)] w fun e w'=>e=.returned (.tuple #[.bool true,.nilIface])/\Ju (fun k=>F k\/k=rb) w w'/\Zb w' F d (Jf4 D b.l)/\∃ bQ cE cF cR,Kss w' bQ ts cs rb ⟨R.place,bs,b.ids⟩ cE cF cR/\∀ k,bQ k->N k\/w.heap.size<=k:=by
 obtain⟨cG,bT,cH,bU⟩:=h.fields;have cI:=bU 2;have ci:=h.held.len bL.good.one;have bK:=h.drop;have bM:=h.arr;have bJ:=h.cap;rw[hb]at bK bT bM bJ;obtain⟨y,H,rfl,cM,cO⟩:∃ y H,ba=some ⟨y,H,none⟩/\y<w.heap.size/\∀ i v,((b::bs).flatMap (Bk.cells ts.length))[i]?=some v->w.cell? ⟨y,H+i,none⟩=some v:=by
  rcases bM with e|⟨x,o,bk,bS,bE⟩
  ·simp[Bk.cells]at e
  exact⟨x,o,bk,bS,bE⟩
 have I:=zh bK;have cW:Hid (rb<w.heap.size):=Jd h.cells;have cY:¬ (1:Int)<(R.held.length:Int):=zo;have cV:(((b::bs).length:Int)==0)=false:=by rw[beq_eq_false_iff_ne,List.length_cons];omega
 have dd:(0:Int)<((b::bs).length:Int):=by rw[List.length_cons];omega
 have cv:Ju (fun k=>F k\/k=rb) w (w.setCell ⟨rb,2,none⟩ (.slice none 0 0)):=Ju.set (Ju.refl _ _) (.inr rfl) 2 _;have bW:Zb (w.setCell ⟨rb,2,none⟩ (.slice none 0 0)) F d D:=bV.stands fun k O _=>Oa4 _ _ _ _ fun e=>bz ((show k=rb from e)▸O);have bi:Hid (Ju (fun k=>F k\/k=rb) w (w.setCell ⟨rb,2,none⟩ (.slice none 0 0))/\Zb (w.setCell ⟨rb,2,none⟩ (.slice none 0 0)) F d D):=⟨cv,bW⟩;have cC:=zh bX;clear h bK bM hb cv bW bX bU bV;go_enter func209,ntmps209
 go_upto_region 8 with(go_at_call 56;refine ci.mono ?_;rintro e X ⟨rfl,bH⟩;subst X)
 have cu:(w.setCell ⟨rb,2,none⟩ (.slice none 0 0)).heap.size=w.heap.size:=zS;clear cG bT cH cI cO cM ci cV;generalize w.setCell ⟨rb,2,none⟩ (.slice none 0 0)=K at *;have Z:=cC.out K bi.out.1;have cc:=bL.lay cb bI.2;obtain⟨cS,cz,cT,cU⟩:=I.out.fields;have bx:=I.out.blk b zS;have br:∀ i v,((b::bs).flatMap (Bk.cells ts.length))[i]?=some v->K.cell? ⟨y,H+i,none⟩=some v:=by
  rcases I.out.arr with e|⟨x,o,bk,bS,bE⟩
  ·simp[Bk.cells]at e
  simp at bk;obtain⟨rfl,rfl⟩:=bk;exact bE
 have cy:=br 0 (.int .i64 (b.ids.length:Nat)) (by simp[Bk.cells]);have x1:=br 1 (.slice b.la ts.length b.lc) (by simp[Bk.cells]);have x2:=br 2 (.slice b.pa b.l.length b.pc) (by simp[Bk.cells]);rw[Nat.add_zero]at cy;have bN:=Kyx sb tb to_ tc ts (Jba b.ids cs) b.ids.length b.la b.lc b.pa b.l b.pc K F d D pg a0 a1 a2 Z.so.c0 Z.so.c3 Z.so.ty cc.1 (bL.inI cb) bi.out.2 bx.lens bx.pages cf hh.read cc.2.1 Z.cp Z.er;unfold Qcn at bN;rw[Krw]at bN;have bh:Hid (¬ F y/\y<K.heap.size/\rb<K.heap.size/\K.heap.size=w.heap.size):=by
  refine⟨bG y (I.out.an y H rfl),I.out.lt y (I.out.an y H rfl),Jd I.out.cells,cu⟩
 have cD:Hid (∀ X,Below K.heap.size K X->Calls prog 97 #[.pointer (some ⟨d,0,none⟩),.slice b.pa b.l.length b.pc] X fun e w'=>e=.returned (.tuple #[])/\Zb w' F d (Jf4 D b.l)/\Ju F X w'):=fun X bH=>Ki0 d b.pa b.pc b.l X F D (bi.out.2.below bH) (bx.pages.below bH) (fun x o e=>bG x (bx.pn x o e)) cf;clear br cu;go_wp2_with (go_at_call 245;refine bN.mono ?_;rintro e bR ⟨M,g,hs,rfl,cP,cK,cL⟩)
 have bP:=Ja M Z.so.c3;have bA:=Ja M cz;have bO:=Ja M x2;simp only[List.length_cons]at bA;go_region_held3 (fun X=>X.cell? ⟨sb,3,none⟩=some (.pointer (some ⟨d,0,none⟩))/\X.cell? ⟨rb,1,none⟩=some (.slice (some ⟨y,H,none⟩) (bs.length+1) bc)/\X.cell? ⟨y,H+2,none⟩=some (.slice b.pa b.l.length b.pc))
  (first|(exact⟨bP,bA,bO⟩)|(exact bY)|(go_split_ands;refine⟨?_,?_,?_⟩<;>assumption))
  (first|(go_at_call 97;refine(cD.out _ (Jp M 1)).mono ?_;rintro e bj ⟨rfl,ca,bf⟩;have U:Ju F bR bj:=⟨bf.os,bf.tape,bf.output,bf.size,bf.block⟩;clear bf;have bY:=And.intro (U.cell bP cQ) (And.intro (U.cell bA bz) (U.cell bO bh.out.1))))
 have cA:bj.heap[rb]?=some (.cells #[.int .i64 (R.place:Nat),.slice (some ⟨y,H,none⟩) (bs.length+1) bc,.slice none 0 0] 359 (0,0)):=(U.block rb (Oc2 bh.out.2.2.1 M.size) bz).trans ((M.block rb bh.out.2.2.1).trans (by have:=I.out.cells;simpa using this));obtain⟨u0,u1,u2,cx⟩:=Ksp cA;have db:=cx 1;have dc:=cx 2;have cZ:(1:Int)<=(bc:Int):=by simp at bJ;omega
 clear bA bO bP bY cS cz cT cU cy x1 x2;have ht:=fun (A:Option Addr) (C:Nat) (cJ:(A=some ⟨y,H+3,none⟩/\C=bc-1)\/(bs=[]/\A=some ⟨y,H,none⟩/\C=0))=>Kss.took (A:=A) (C:=C) I.out M U bG (fun k O=>by have:=hF k O;have:=bh.out;omega) cK cL cP (fun e=>by rw[e]at bI;simp at bI) cJ cA;have bD:Hid _:=ht;clear ht;have Y:Hid (∀ v bB:Value,Ju (fun k=>F k\/k=rb) w ((bj.setCell ⟨rb,1,none⟩ v).setCell ⟨rb,2,none⟩ bB)/\Zb ((bj.setCell ⟨rb,1,none⟩ v).setCell ⟨rb,2,none⟩ bB) F d (Jf4 D b.l)):=fun v bB=>by
  refine⟨(((bi.out.1.trans (Ju.of_below M)).trans (U.mono fun k _ h=>.inl h)).set (.inr rfl) 1 v).set (.inr rfl) 2 bB,ca.stands fun k O _=>?_⟩;have cj:k≠rb:=fun e=>bz (e▸O);exact(Oa4 _ _ _ _ cj).trans (Oa4 _ _ _ _ cj)
 have cn:∀ k,(N k\/(K.heap.size<=k/\k<bR.heap.size))->N k\/w.heap.size<=k:=fun k O=>O.imp id fun h=>by have:=bh.out;omega
 have bC:=zh cn;clear cn ca U;by_cases cN:bc=1
 ·have bZ:bs.length=0:=by simp at bJ;omega
  have cB:Hid (bs=[]):=List.eq_nil_of_length_eq_zero bZ;subst cN;clear bZ;go_wp2;all_goals go_ret2
  all_goals first|exact⟨rfl,(Y.out _ _).1,(Y.out _ _).2,_,_,_,_,bD.out _ _ (.inl ⟨rfl,rfl⟩),bC.out⟩|exact⟨rfl,(Y.out _ _).1,(Y.out _ _).2,_,_,_,_,bD.out _ _ (.inr ⟨cB.out,rfl,rfl⟩),bC.out⟩
 have da:(1:Int)<(bc:Int):=zo;go_wp2;all_goals go_ret2
 all_goals exact⟨rfl,(Y.out _ _).1,(Y.out _ _).2,_,_,_,_,bD.out _ _ (.inl ⟨rfl,rfl⟩),bC.out⟩
def Kyr (ks:List Krv)(cs:Cs)(i j y H:Nat):Bool:=if Kr7 ks cs i j≠0 then decide (Kr7 ks cs i j<0)else decide (y<H)
structure Qau (w:World) (cs:Cs) (rb i p:Nat):Prop where
 c0:w.cell? ⟨rb,0,none⟩=some (.int .i64 (p:Nat))
 held:∃ (N:Nat->Prop) (ids:List Nat) (hb:Nat) (hs:List (Option Addr×Nat)) (cap:Nat),ids.head?=some i/\w.cell? ⟨rb,2,none⟩=some (.slice (some ⟨hb,0,none⟩) cs.length cap)/\Qd w hb hs (Jba ids cs)/\N hb
theorem Kss.atRow {w N ts cs rb R ba bc hv i}(h:Kss w N ts cs rb R ba bc hv)(hi:R.held.head?=some i):Qau w cs rb i R.place:=by
 obtain⟨y,_,H,_⟩:=h.fields;rcases h.held with⟨e,_⟩|⟨_,hb,hs,cap,rfl,hC,I,_⟩
 ·rw[e]at hi;cases hi
 exact⟨y,N,R.held,hb,hs,cap,hi,H,hC,I⟩
theorem Kx0 sb kb ko kc bi rb i j bD bE ts cs ks w(K:Sg ts cs ks)(hK:Kxj w sb kb ko kc ks)(bH:Qau w cs bi i bD)(hb:Qau w cs rb j bE):
  Calls prog 208 #[.pointer (some ⟨sb,0,none⟩),.pointer (some ⟨bi,0,none⟩),.pointer (some ⟨rb,0,none⟩)] w fun e w'=>e=.returned (.bool (Kyr ks cs i j bD bE))/\Below w.heap.size w w':=by
 obtain⟨a0,_,H,bf,bJ,U,M,a2,bz,_⟩:=bH;obtain⟨b0,_,I,bh,bK,Y,eb,b2,bA,_⟩:=hb;have bk:0<H.length:=by cases H with|nil=>cases M|cons x l=>simp
 have br:0<I.length:=by cases I with|nil=>cases eb|cons x l=>simp
 have bB:H.getD 0 0=i:=by cases H with|nil=>cases M|cons x l=>simp at M;simp[M]
 have bC:I.getD 0 0=j:=by cases I with|nil=>cases eb|cons x l=>simp at eb;simp[eb]
 have bx:Hid (∀ X,Below w.heap.size w X->Calls prog 205 #[.pointer (some ⟨sb,0,none⟩),.slice (some ⟨bf,0,none⟩) cs.length U,.int .i64 0,.slice (some ⟨bh,0,none⟩) cs.length Y,.int .i64 0] X fun e w'=>e=.returned (.int .i64 (Kr7 ks cs i j))/\Below X.heap.size X w'):=fun X Z=>by
  have:=Kuf sb kb ko kc ks bf U bJ (Jba H cs) 0 bh Y bK (Jba I cs) 0 X (hK.below Z).cell (hK.below Z).keys K.nk (bz.below Z) (bA.below Z) (fun k O=>⟨by rw[Krw];exact K.keys k O,by rw[Kr1 H (K.keys k O)];exact bk⟩) (fun k O=>⟨by rw[Krw];exact K.keys k O,by rw[Kr1 I (K.keys k O)];exact br⟩);rw[Krw,Krw,Qbe K H I bk br,bB,bC]at this;exact this
 unfold Kyr;generalize Kr7 ks cs i j=o at *;clear bz bA bB bC M eb bk br hK;by_cases ho:o=0
 ·have bI:(o != 0)=false:=by simp[ho]
  rw[if_neg (fun h=>h ho)];clear ho;go_enter func208,ntmps208
  go_wp2_with fail
  go_region_held3 (fun X=>X.cell? ⟨bi,2,none⟩=some (.slice (some ⟨bf,0,none⟩) cs.length U)/\X.cell? ⟨rb,2,none⟩=some (.slice (some ⟨bh,0,none⟩) cs.length Y))
   (first|(exact⟨a2,b2⟩)|(exact bj)|(go_split_ands;constructor<;>assumption))
   (first|(go_at_call 205;refine(bx.out _ (Jp (Oa5 _ _) 1)).mono ?_;rintro e bG ⟨rfl,y⟩;have bj:=And.intro (Ja (Jw y) a2) (Ja (Jw y) b2)))
  have bL:=Ja (Jw y) a0;have bM:=Ja (Jw y) b0;go_wp2;go_quiet (fail)
  go_wp2;go_ret
  exact⟨Qr zS,Jp (Jw y) _⟩
 have bI:(o != 0)=true:=by simp[ho]
 rw[if_pos ho];clear ho;go_enter func208,ntmps208
 go_wp2_with fail
 go_region_held3 (fun X=>X.cell? ⟨bi,2,none⟩=some (.slice (some ⟨bf,0,none⟩) cs.length U)/\X.cell? ⟨rb,2,none⟩=some (.slice (some ⟨bh,0,none⟩) cs.length Y))
  (first|(exact⟨a2,b2⟩)|(exact bj)|(go_split_ands;constructor<;>assumption))
  (first|(go_at_call 205;refine(bx.out _ (Jp (Oa5 _ _) 1)).mono ?_;rintro e bG ⟨rfl,y⟩;have bj:=And.intro (Ja (Jw y) a2) (Ja (Jw y) b2)))
 go_wp2;go_ret
 exact⟨rfl,Jw y⟩
def rpV (r:Nat):Value:=.pointer (some ⟨r,0,none⟩)
def ahV (sb:Nat):Value:=.func (.func 208) #[.pointer (some ⟨sb,0,none⟩)] #[]
structure Ksa (w:World) (hb ag sb n cap:Nat) (f:Nat->Nat):Prop where
 st:w.heap[hb]?=some (.cells #[.slice (some ⟨ag,0,none⟩) n cap,ahV sb] 366 (0,0))
 lt:ag<w.heap.size
 cell:∀ i,i<n->w.cell? ⟨ag,i,none⟩=some (.pointer (some ⟨f i,0,none⟩))
 froz:∀ i,w.frozen? ⟨ag,i,none⟩=false
 ne:ag≠hb
 row:∃ cur:Array Value,w.heap[ag]?=some (.cells cur 356 (0,0))/\cur.size=cap/\cap<=maxLen
 cap:n<=cap
section
variable {w w':World} {hb ag sb n cap:Nat} {f g:Nat->Nat}
theorem Ksw {b x y t}(h:w.heap[b]?=some (.cells #[x,y] t (0,0))):w.cell? ⟨b,0,none⟩=some x/\w.cell? ⟨b,1,none⟩=some y/\∀ i,w.frozen? ⟨b,i,none⟩=false:=
 ⟨by simp[World.cell?,h],by simp[World.cell?,h],fun i=>by simp[World.frozen?,h]⟩
theorem Ksa.on (h:Ksa w hb ag sb n cap f)(hs:w.heap.size<=w'.heap.size)(I:w'.heap[hb]?=w.heap[hb]?)(y:w'.heap[ag]?=w.heap[ag]?):Ksa w' hb ag sb n cap f:=
 ⟨I.trans h.st,Oc2 h.lt hs,fun i hi=>by rw[Oc3 (w:=w) y];exact h.cell i hi,fun i=>by rw[Ol7 (w:=w) y];exact h.froz i,h.ne,by obtain⟨H,K,M⟩:=h.row;exact⟨H,y.trans K,M⟩,h.cap⟩
theorem Ksa.below (h:Ksa w hb ag sb n cap f)(y:Below w.heap.size w w'):Ksa w' hb ag sb n cap f:=h.on y.size (y.block _ (Jd h.st)) (y.block _ h.lt)
theorem Ksa.congr (h:Ksa w hb ag sb n cap f)(e:∀ i,i<n->g i=f i):Ksa w hb ag sb n cap g:=⟨h.st,h.lt,fun i hi=>by rw[e i hi];exact h.cell i hi,h.froz,h.ne,h.row,h.cap⟩
theorem Ksa.set (h:Ksa w hb ag sb n cap f){i}(hi:i<n)x:Ksa (w.setCell ⟨ag,i,none⟩ (.pointer (some ⟨x,0,none⟩))) hb ag sb n cap (fun k=>if k=i then x else f k):=by
 refine⟨(Oa4 _ _ _ _ (fun e=>h.ne (show hb=ag from e).symm)).trans h.st,by simpa using h.lt,fun k I=>?_,fun k=>by rw[On9];exact h.froz k,h.ne,by obtain⟨K,y,H⟩:=h.row;exact⟨_,Jk y i _,by simpa using H⟩,h.cap⟩;by_cases e:k=i
 ·exact zaV
 rw[if_neg e,Ob5 _ _ _ _ (by intro h;apply e;injection h with _ h;exact h.symm)];exact h.cell k I
theorem Ksa.swap (h:Ksa w hb ag sb n cap f){i j}(hi:i<n)(H:j<n)(I:i≠j):
  Ksa ((w.setCell ⟨ag,i,none⟩ (.pointer (some ⟨f j,0,none⟩))).setCell ⟨ag,j,none⟩ (.pointer (some ⟨f i,0,none⟩))) hb ag sb n cap (swp f i j):=by
 refine((h.set hi (f j)).set H (f i)).congr fun k _=>?_;unfold swp;by_cases y:k=j
 ·rw[if_pos y,if_neg zo,if_pos y]
 rw[if_neg y,if_neg y]
end
abbrev HpG (hb y:Nat):Nat->Prop:=fun k=>k=hb\/k=y
def Ku8 (w:World)(G:Nat->Prop)(sb:Nat)(P:Nat->Prop)(key:Nat->Nat)(c:Nat->Nat->Int):Prop:=∀ W,Ju G w W->∀ r s,P r->P s ->
 Calls prog 208 #[.pointer (some ⟨sb,0,none⟩),.pointer (some ⟨r,0,none⟩),.pointer (some ⟨s,0,none⟩)] W fun e w'=>e=.returned (.bool (ltB c (key r) (key s)))/\Below W.heap.size W w'
theorem Ku8.keep {w w' G sb P key c}(h:Ku8 w G sb P key c)(H:Ju G w w'):Ku8 w' G sb P key c:=fun W y=>h W (H.trans y)
theorem Kvr hb y sb n cap i k f w(h:Ksa w hb y sb n cap f)(hi:i<n)(H:k<n)(I:i≠k):
  Calls prog 248 #[.pointer (some ⟨hb,0,none⟩),.int .i64 (i:Nat),.int .i64 (k:Nat)] w fun e w'=>e=.returned (.tuple #[])/\Ksa w' hb y sb n cap (swp f i k)/\Ju (HpG hb y) w w':=by
 obtain⟨bj,s1,bk⟩:=Ksw h.st;have O:=h.cell i hi;have ck:=h.cell k H;have U:=h.froz i;have Y:=h.froz k;have bf:(i:Int)<(n:Int):=zo;have bh:(k:Int)<(n:Int):=zo;have K:Hid _:=h.swap hi H I;have M:=h.ne;have Z:hb≠y:=fun e=>M e.symm;have bi:k≠i:=fun e=>I e.symm;generalize f i=x at *;generalize f k=br at *;clear h;go_enter func248,ntmps248
 go_wp2_with fail
 go_big_region
 all_goals go_wp2
 all_goals go_end0
 all_goals exact⟨rfl,K.out.on zS rfl rfl,(((Ju.refl _ _).set (.inr rfl) i _).set (.inr rfl) k _).drewN 1⟩
def Inj (n:Nat)(g:Nat->Nat):Prop:=∀ a b,a<n->b<n->g a=g b->a=b
theorem Inj.swp {n i k g}(h:Inj n g)(hi:i<n)(bf:k<n)(bj:i≠k):Inj n (swp g i k):=by
 have e:∀ a,a<n->∃ y,y<n/\Go.Proofs.YtkdojacdolidfaaGreatDoor.swp g i k a=g y/\((a=i/\y=k)\/(a=k/\y=i)\/(a≠i/\a≠k/\y=a)):=fun a K=>by
  by_cases H:a=i
  ·subst H;exact⟨k,bf,Kty _ _,.inl ⟨rfl,rfl⟩⟩
  by_cases I:a=k
  ·subst I;exact⟨i,hi,Kvh _ _ zo,.inr (.inl ⟨rfl,rfl⟩)⟩
  exact⟨a,K,Ks7 H I,.inr (.inr ⟨H,I,rfl⟩)⟩
 intro a b K hb M;obtain⟨y,Y,U,bh⟩:=e a K;obtain⟨O,Z,eb,bi⟩:=e b hb;rw[U,eb]at M;have:=h y O Y Z M;omega
theorem Kvi (key f:Nat->Nat)(i k:Nat):(fun j=>key (swp f i k j))=swp (fun j=>key (f j)) i k:=by
 funext j;unfold swp;split
 ·rfl
 split<;>rfl
theorem Kwx {n:Nat}{f y:Nat->Nat}{P:Nat->Prop}(h:Arr 0 n f y)(H:∀ j,j<n->P (f j)):∀ j,j<n->P (y j):=fun j I=>by
 obtain⟨t,_,K,e⟩:=h.at (k:=j) ⟨Ob7 _,I⟩;rw[e];exact H t K
theorem Ky6 hb H sb n cap i f key P c(ho:Ksg c)w(h:Ksa w hb H sb n cap f)(hi:i<n)(bQ:n<=1000000)(bC:∀ j,j<n->P (f j))(bA:Ku8 w (HpG hb H) sb P key c)(bD:Kwy c n (fun j=>key (f j)) i)(bB:Inj n (fun j=>key (f j))):
  Calls prog 246 #[.pointer (some ⟨hb,0,none⟩),.int .i64 (i:Nat)] w fun e w'=>e=.returned (.tuple #[])/\Ju (HpG hb H) w w'/\∃ Y,Ksa w' hb H sb n cap Y/\Arr 0 n f Y/\Hp c n (fun j=>key (Y j))/\Inj n (fun j=>key (Y j)):=by
 have bG:=zh bA;have bk:=zh bC;have bx:Hid (Kwy c n (fun j=>key (f j)) i/\Inj n (fun j=>key (f j))):=⟨bD,bB⟩;clear bA bC bD bB;go_enter func246,ntmps246
 go_wp2;go_loopw [1] (fun iv wr=>∃ (j:Nat) (y:Nat->Nat),iv=.int .i64 j/\j<n/\Ksa wr hb H sb n cap y/\Ju (HpG hb H) w wr/\Hid (Arr 0 n f y/\Kwy c n (fun j=>key (y j)) j/\Inj n (fun j=>key (y j)))) (fun iv _=>(intOf iv).toNat)
 case atStart=>exact⟨i,f,rfl,hi,h,Ju.refl _ _,Arr.refl _ _ _,bx.out.1,bx.out.2⟩
 case round=>
  rename_i iv
  clear h;obtain⟨j,y,rfl,M,O,hK,K⟩:=hrel;by_cases h0:0<j
  ·have bI:(0:Int)<(j:Int):=zo;obtain⟨p,hp⟩:∃ p,p=(j-1) / 2:=⟨_,rfl⟩;have bO:((j:Int)-1).tdiv 2=(p:Int):=by
    rw[show (j:Int)-1=((j-1:Nat):Int) by omega,show (2:Int)=((2:Nat):Int) from rfl,<-Int.ofNat_tdiv];rw[hp]
   have bR:p<j:=zo;have br:=zh hp;clear hp;obtain⟨bh,s1,_⟩:=Ksw O.st;have U:=O.cell j M;have cp:=O.cell p zo;have bP:(j:Int)<(n:Int):=zo;have bS:(p:Int)<(n:Int):=zo;have Z:=bG.out wr.drew hK.drew (y j) (y p) (Kwx K.out.1 bk.out j M) (Kwx K.out.1 bk.out p zo);have bf:=fun X (bL:Ksa X hb H sb n cap y)=>Kvr hb H sb n cap j p y X bL M zo zo;have bH:Hid _:=bf;clear bf;unfold ahV at s1;by_cases hl:ltB c (key (y j)) (key (y p))=true
   ·rw[hl]at Z;go_wp2_with fail
    go_region_held3 (fun X=>X.cell? ⟨hb,0,none⟩=some (.slice (some ⟨H,0,none⟩) n cap)/\X.cell? ⟨hb,1,none⟩=some (.func (.func 208) #[.pointer (some ⟨sb,0,none⟩)] #[])/\X.cell? ⟨H,j,none⟩=some (.pointer (some ⟨y j,0,none⟩))/\X.cell? ⟨H,p,none⟩=some (.pointer (some ⟨y p,0,none⟩)))
     (first|(exact⟨bh,s1,U,cp⟩)|(exact bi)|(go_split_ands;refine⟨?_,?_,?_,?_⟩<;>assumption))
     (first|(go_at_call 208;refine Z.mono ?_;rintro e bz ⟨rfl,bj⟩;have I:=Jw bj;have bi:=And.intro (Ja I bh) (And.intro (Ja I s1) (And.intro (Ja I U) (Ja I cp)))))
    have bf:=bH.out bz (O.below I);go_wp2_with (go_at_call 248;refine bf.mono ?_;rintro e bN ⟨rfl,bJ,bK⟩)
    go_roundw
    case rel=>
     have hp:=br.out;have bM:=K.out.2.1.step ho h0 M (by rw[<-hp];exact Ksu.1 hl);refine⟨p,swp y j p,rfl,zo,bJ,(hK.trans (Ju.of_below I)).trans bK,K.out.1.trans (Arr.swp ⟨Ob7 _,M⟩ ⟨Ob7 _,zo⟩),?_,?_⟩
     ·rw[Kvi,hp];exact bM
     rw[Kvi];exact K.out.2.2.swp M zo zo
    case measure=>simp[intOf];omega
   have bE:ltB c (key (y j)) (key (y p))=false:=by simpa using hl
   rw[bE]at Z;go_wp2_with fail
   go_region_held3 (fun X=>X.cell? ⟨hb,0,none⟩=some (.slice (some ⟨H,0,none⟩) n cap)/\X.cell? ⟨hb,1,none⟩=some (.func (.func 208) #[.pointer (some ⟨sb,0,none⟩)] #[])/\X.cell? ⟨H,j,none⟩=some (.pointer (some ⟨y j,0,none⟩))/\X.cell? ⟨H,p,none⟩=some (.pointer (some ⟨y p,0,none⟩)))
    (first|(exact⟨bh,s1,U,cp⟩)|(exact bi)|(go_split_ands;refine⟨?_,?_,?_,?_⟩<;>assumption))
    (first|(go_at_call 208;refine Z.mono ?_;rintro e bz ⟨rfl,bj⟩;have I:=Jw bj;have bi:=And.intro (Ja I bh) (And.intro (Ja I s1) (And.intro (Ja I U) (Ja I cp)))))
   go_wp2;(try simp only[Exit.inBlock,Exit.then])
   refine bodyPost_ret (results_none rfl _ _ _) rfl ?_;have hp:=br.out;refine⟨rfl,hK.trans (Ju.of_below I),y,O.below I,K.out.1,K.out.2.1.done (.inr ?_),K.out.2.2⟩;rw[<-hp];exact Lt.total ho (fun e=>by have:=K.out.2.2 j p M zo e;omega) (Ks9.1 bE)
  have bI:¬ (0:Int)<(j:Int):=zo;go_wp2;go_end0
  exact⟨rfl,hK,y,O,K.out.1,K.out.2.1.done (.inl zo),K.out.2.2⟩
def Kse (c:Nat->Nat->Int)(n:Nat)(g:Nat->Nat)(i l:Nat):Nat:=if (decide (l<n)&&ltB c (g l) (g i))=true then l else i
theorem Qca {c n g i l}(hi:i<n):Kse c n g i l<n:=by
 unfold Kse;split
 ·rename_i h;simp at h;exact h.1
 exact hi
theorem zaW {p:Prop}(h:p:=by
 have bA:Hid _:=bh;clear bh;go_wp2;go_ret
 exact⟨by rw[bA.out];rfl,bK⟩):p:=h
theorem Kxu hb H sb n cap i l r f key P c w(h:Ksa w hb H sb n cap f)(hi:i<n)(hl:l<=3000000)(bJ:∀ j,j<n->P (f j))(bI:Ku8 w (HpG hb H) sb P key c):
  Calls prog 247 #[.pointer (some ⟨hb,0,none⟩),.int .i64 (i:Nat),.int .i64 (l:Nat),.int .i64 (r:Nat)] w fun e w'=>e=.returned (.int .i64 (Kse c n (fun j=>key (f j)) (Kse c n (fun j=>key (f j)) i l) r:Nat))/\Below w.heap.size w w':=by
 have bH:=zh bI;have bk:=zh bJ;have O:Hid (∀ X,Below w.heap.size w X->Ksa X hb H sb n cap f):=fun X bP=>h.below bP;have Z:Below w.heap.size w w:=Oa5 _ _;clear bI bJ h;go_enter func247,ntmps247
 obtain⟨M,s1,_⟩:=Ksw (O.out w Z).st;unfold ahV at s1;have K:=(O.out w Z).cell i hi;have bQ:(i:Int)<(n:Int):=zo;obtain⟨q1,bM⟩:∃ q1,(decide (l<n)&&ltB c (key (f l)) (key (f i)))=q1:=⟨_,rfl⟩;have br:=zh bM;clear bM;go_upto_region 1 with fail
 go_cut [36] from 9 to 36 (fun v bj=>v=.bool q1/\Below w.heap.size w bj)
 case first=>
  by_cases I:l<n
  ·have bi:(l:Int)<(n:Int):=zo;have cl:=(O.out w Z).cell l I;have bC:=bH.out w.drew (Ju.of_below (Jp Z 1)) (f l) (f i) (bk.out l I) (bk.out i hi);go_region_held3 (fun X=>X.cell? ⟨hb,0,none⟩=some (.slice (some ⟨H,0,none⟩) n cap)/\X.cell? ⟨hb,1,none⟩=some (.func (.func 208) #[.pointer (some ⟨sb,0,none⟩)] #[])/\X.cell? ⟨H,l,none⟩=some (.pointer (some ⟨f l,0,none⟩))/\X.cell? ⟨H,i,none⟩=some (.pointer (some ⟨f i,0,none⟩)))
    (first|(exact⟨M,s1,cl,K⟩)|(exact bB)|(go_split_ands;refine⟨?_,?_,?_,?_⟩<;>assumption))
    (first|(go_at_call 208;refine bC.mono ?_;rintro e bO ⟨rfl,bD⟩;have y:=Jw bD;have bB:=And.intro (Ja y M) (And.intro (Ja y s1) (And.intro (Ja y cl) (Ja y K)))))
   go_wp2;go_meet
   case rel=>exact⟨by rw[<-br.out,decide_eq_true I,Bool.true_and],Jb Z y⟩
  have bi:¬ (l:Int)<(n:Int):=zo;have bR:decide ((l:Int)<(n:Int))=false:=decide_eq_false bi;go_big_region
  all_goals go_wp2
  all_goals go_meet
  all_goals exact⟨by rw[<-br.out,decide_eq_false I,Bool.false_and],Jp Z 1⟩
 case rest=>
 obtain⟨rfl,bE⟩:=hcut;clear M s1 K bQ;generalize wc=bT at *;obtain⟨m,bf⟩:∃ m,m=Kse c n (fun j=>key (f j)) i l:=⟨_,rfl⟩;have bL:m<n:=bf▸Qca hi;have U:=zh bf;clear bf;have bf:=bL;clear bL;go_upto_if 36 with fail
 go_cut [1] from 9 to 37 (fun v bj=>v=.int .i64 (m:Nat)/\Below w.heap.size w bj)
 case first=>
  cases q1 with
  |true=>
   have bG:m=l:=by rw[U.out];unfold Kse;rw[if_pos br.out]
   clear U;subst bG;go_wp2;go_meet
   case rel=>exact⟨rfl,bE⟩
  |false=>
   have bG:m=i:=by rw[U.out];unfold Kse;rw[if_neg (by rw[br.out];simp)]
   clear U;subst bG;go_wp2;go_meet
   case rel=>exact⟨rfl,bE⟩
 case rest=>
 clear bE;obtain⟨rfl,Y⟩:=hcut;generalize wc=bz at *;obtain⟨M,s1,_⟩:=Ksw (O.out bz Y).st;unfold ahV at s1;have K:=(O.out bz Y).cell m bf;have bS:(m:Int)<(n:Int):=zo;obtain⟨q2,bN⟩:∃ q2,(decide (r<n)&&ltB c (key (f r)) (key (f m)))=q2:=⟨_,rfl⟩;have bx:=zh bN;clear bN;go_upto_region 3 with fail
 go_cut [65] from 38 to 65 (fun v bj=>v=.bool q2/\Below w.heap.size w bj)
 case first=>
  by_cases I:r<n
  ·have bi:(r:Int)<(n:Int):=zo;have cl:=(O.out bz Y).cell r I;have bC:=bH.out bz.drew (Ju.of_below (Jp Y 1)) (f r) (f m) (bk.out r I) (bk.out m bf);go_region_held3 (fun X=>X.cell? ⟨hb,0,none⟩=some (.slice (some ⟨H,0,none⟩) n cap)/\X.cell? ⟨hb,1,none⟩=some (.func (.func 208) #[.pointer (some ⟨sb,0,none⟩)] #[])/\X.cell? ⟨H,r,none⟩=some (.pointer (some ⟨f r,0,none⟩))/\X.cell? ⟨H,m,none⟩=some (.pointer (some ⟨f m,0,none⟩)))
    (first|(exact⟨M,s1,cl,K⟩)|(exact bB)|(go_split_ands;refine⟨?_,?_,?_,?_⟩<;>assumption))
    (first|(go_at_call 208;refine bC.mono ?_;rintro e bO ⟨rfl,bD⟩;have y:=Jw bD;have bB:=And.intro (Ja y M) (And.intro (Ja y s1) (And.intro (Ja y cl) (Ja y K)))))
   go_wp2;go_meet
   case rel=>exact⟨by rw[<-bx.out,decide_eq_true I,Bool.true_and],Jb Y y⟩
  have bi:¬ (r:Int)<(n:Int):=zo;have bR:decide ((r:Int)<(n:Int))=false:=decide_eq_false bi;go_big_region
  all_goals go_wp2
  all_goals go_meet
  all_goals exact⟨by rw[<-bx.out,decide_eq_false I,Bool.false_and],Jp Y 1⟩
 case rest=>
 obtain⟨rfl,bK⟩:=hcut;clear M s1 K bS;generalize wc=bU at *;cases q2 with
 |true=>
  have bh:Kse c n (fun j=>key (f j)) (Kse c n (fun j=>key (f j)) i l) r=r:=by rw[<-U.out];unfold Kse;rw[if_pos bx.out]
  exact zaW
 |false=>
  have bh:Kse c n (fun j=>key (f j)) (Kse c n (fun j=>key (f j)) i l) r=m:=by rw[<-U.out];unfold Kse;rw[if_neg (by rw[bx.out];simp)]
  exact zaW
theorem Qam {c}(ho:Ksg c){n g i}(Z:Inj n g)(hi:i<n):
  (Kse c n g (Kse c n g i (2*i+1)) (2*i+2)=i/\∀ j,0<j->j<n->(j-1) / 2=i->Lt c (g i) (g j)) \/
  ((
   Kse c n g (Kse c n g i (2*i+1)) (2*i+2)=2*i+1\/Kse c n g (Kse c n g i (2*i+1)) (2*i+2)=2*i+2)/\Kse c n g (Kse c n g i (2*i+1)) (2*i+2)<n/\Lt c (g (Kse c n g (Kse c n g i (2*i+1)) (2*i+2))) (g i) /\
   ∀ j,0<j->j<n->(j-1) / 2=i->j≠Kse c n g (Kse c n g i (2*i+1)) (2*i+2)->Lt c (g (Kse c n g (Kse c n g i (2*i+1)) (2*i+2))) (g j)):=by
 have M:∀ a b,a<n->b<n->a≠b->¬ Lt c (g a) (g b)->Lt c (g b) (g a):=fun a b bf hb bh h=>Lt.total ho (fun e=>bh (Z a b bf hb e)) h;by_cases H:2*i+1<n/\Lt c (g (2*i+1)) (g i)
 ·have U:Kse c n g i (2*i+1)=2*i+1:=by unfold Kse;rw[if_pos (by simp[H.1,Ksu.2 H.2])]
  rw[U];by_cases y:2*i+2<n/\Lt c (g (2*i+2)) (g (2*i+1))
  ·have I:Kse c n g (2*i+1) (2*i+2)=2*i+2:=by unfold Kse;rw[if_pos (by simp[y.1,Ksu.2 y.2])]
   rw[I];refine .inr ⟨.inr rfl,y.1,y.2.trans ho H.2,fun j a1 a2 O Y=>?_⟩;rw[show j=2*i+1 by omega];exact y.2
  have I:Kse c n g (2*i+1) (2*i+2)=2*i+1:=by unfold Kse;rw[if_neg (by rw[Og5,decide_eq_true_eq,Ksu];exact y)]
  rw[I];refine .inr ⟨.inl rfl,H.1,H.2,fun j a1 a2 O Y=>?_⟩;have K:j=2*i+2:=zo;subst K;exact M _ _ a2 H.1 zo fun h=>y ⟨a2,h⟩
 have U:Kse c n g i (2*i+1)=i:=by unfold Kse;rw[if_neg (by rw[Og5,decide_eq_true_eq,Ksu];exact H)]
 rw[U];by_cases y:2*i+2<n/\Lt c (g (2*i+2)) (g i)
 ·have I:Kse c n g i (2*i+2)=2*i+2:=by unfold Kse;rw[if_pos (by simp[y.1,Ksu.2 y.2])]
  rw[I];refine .inr ⟨.inr rfl,y.1,y.2,fun j a1 a2 O Y=>?_⟩;have K:j=2*i+1:=zo;subst K;exact y.2.trans ho (M _ _ a2 hi zo fun h=>H ⟨a2,h⟩)
 have I:Kse c n g i (2*i+2)=i:=by unfold Kse;rw[if_neg (by rw[Og5,decide_eq_true_eq,Ksu];exact y)]
 rw[I];refine .inl ⟨rfl,fun j a1 a2 O=>?_⟩;by_cases K:j=2*i+1
 ·subst K;exact M _ _ a2 hi zo fun h=>H ⟨a2,h⟩
 have K:j=2*i+2:=zo;subst K;exact M _ _ a2 hi zo fun h=>y ⟨a2,h⟩
theorem Kwz hb y sb cap f w(h:Ksa w hb y sb 0 cap f):
  Calls prog 247 #[.pointer (some ⟨hb,0,none⟩),.int .i64 0,.int .i64 1,.int .i64 2] w fun e w'=>e=.returned (.int .i64 0)/\Below w.heap.size w w':=by
 obtain⟨H,s1,_⟩:=Ksw h.st;go_enter func247,ntmps247
 go_wp2_with fail
 go_big_region
 all_goals go_wp2_with fail
 all_goals go_big_region
 all_goals go_wp2
 all_goals go_ret
 all_goals exact⟨rfl,Jp (Jp (Oa5 _ _) 1) 1⟩
theorem Kvq hb H sb n cap f key P c(ho:Ksg c)w(h:Ksa w hb H sb n cap f)(bT:n<=1000000)(bB:∀ j,j<n->P (f j))(bA:Ku8 w (HpG hb H) sb P key c)(bC:Kxa c n (fun j=>key (f j)) 0)(bk:Inj n (fun j=>key (f j))):
  Calls prog 211 #[.pointer (some ⟨hb,0,none⟩)] w fun e w'=>e=.returned (.tuple #[])/\Ju (HpG hb H) w w'/\∃ Y,Ksa w' hb H sb n cap Y/\Arr 0 n f Y/\Hp c n (fun j=>key (Y j))/\Inj n (fun j=>key (Y j)):=by
 by_cases bG:n=0
 ·subst bG;have bL:=Kwz hb H sb cap f w h;go_enter func211,ntmps211
  go_wp2;go_loopw [2] (fun iv wr=>iv=.int .i64 0/\wr=w) (fun _ _=>1)
  case atStart=>exact⟨rfl,rfl⟩
  case round=>
   obtain⟨rfl,rfl⟩:=hrel;go_wp2_with (go_at_call 247;refine bL.mono ?_;rintro e bi ⟨rfl,K⟩)
   (try simp only[Exit.inBlock,Exit.then])
   refine bodyPost_ret (results_none rfl _ _ _) rfl ?_;exact⟨rfl,Ju.of_below K,f,h.below K,Arr.refl _ _ _,fun j bQ bR=>zo,bk⟩
 have bH:=zh bA;have bI:=zh bB;have br:Hid (Kxa c n (fun j=>key (f j)) 0/\Inj n (fun j=>key (f j))):=⟨bC,bk⟩;have bO:0<n:=zo;clear bA bB bC bk bG;go_enter func211,ntmps211
 go_wp2;go_loopw [2] (fun iv wr=>∃ (j:Nat) (y:Nat->Nat),iv=.int .i64 j/\j<n/\Ksa wr hb H sb n cap y/\Ju (HpG hb H) w wr/\Hid (Arr 0 n f y/\Kxa c n (fun j=>key (y j)) j/\Inj n (fun j=>key (y j)))) (fun iv _=>n-(intOf iv).toNat)
 case atStart=>exact⟨0,f,rfl,bO,h,Ju.refl _ _,Arr.refl _ _ _,br.out.1,br.out.2⟩
 case round=>
  rename_i iv
  clear h;obtain⟨j,y,rfl,O,bj,hK,I⟩:=hrel;have Z:=Kxu hb H sb n cap j (2*j+1) (2*j+2) y key P c wr bj O zo (Kwx I.out.1 bI.out) (bH.out.keep hK);have M:=Qam ho I.out.2.2 O;obtain⟨m,bD⟩:∃ m,Kse c n (fun j=>key (y j)) (Kse c n (fun j=>key (y j)) j (2*j+1)) (2*j+2)=m:=⟨_,rfl⟩;rw[bD]at M Z;have bx:((2*j+1:Nat):Int)=2*(j:Int)+1:=zo;have bz:((2*j+2:Nat):Int)=2*(j:Int)+2:=zo;rw[bx,bz]at Z;have bh:Hid _:=M;clear bD bx bz M;by_cases bE:m=j
  ·subst bE;have bM:((m:Int)==(m:Int))=true:=zS;go_wp2_with (go_at_call 247;refine Z.mono ?_;rintro e bi ⟨rfl,K⟩)
   (try simp only[Exit.inBlock,Exit.then])
   refine bodyPost_ret (results_none rfl _ _ _) rfl ?_;refine⟨rfl,hK.trans (Ju.of_below K),y,bj.below K,I.out.1,I.out.2.1.done ?_,I.out.2.2⟩;rcases bh.out with h|h
   ·exact h.2
   omega
  have bM:((m:Int)==(j:Int))=false:=by rw[beq_eq_false_iff_ne];omega
  have M:=bh.out.resolve_left (fun h=>bE h.1);have U:=M.2.1;have bS:=M.1;have bf:Hid _:=M;clear M bh;go_wp2_with (first|(go_at_call 247;refine Z.mono ?_;rintro e bi ⟨rfl,K⟩;have bN:=Kvr hb H sb n cap j m y bi (bj.below K) O U zo)|(go_at_call 248;refine bN.mono ?_;rintro e bP ⟨rfl,bJ,bK⟩))
  go_roundw
  case rel=>
   refine⟨m,swp y j m,rfl,U,bJ,(hK.trans (Ju.of_below K)).trans bK,I.out.1.trans (Arr.swp ⟨Ob7 _,O⟩ ⟨Ob7 _,U⟩),?_,?_⟩
   ·rw[Kvi];exact I.out.2.1.step bf.out.1 U bf.out.2.2.1 bf.out.2.2.2
   rw[Kvi];exact I.out.2.2.swp O U zo
  case measure=>simp[intOf];omega
