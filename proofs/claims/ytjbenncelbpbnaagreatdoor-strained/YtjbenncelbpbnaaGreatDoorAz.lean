/- What is left of all runs is let go: release. -/
import Derived.Test.YtjbenncelbpbnaaGreatDoorAr
set_option maxHeartbeats 2000000
set_option maxRecDepth 100000
namespace Go.Proofs.YtjbenncelbpbnaaGreatDoor
section
open Go.RowKit Go.Shelf
structure Mr where
 rb:Nat
 R:Rn
 N:Nat->Prop
 ba:Option Addr
 bc:Nat
 hv:Value
def Mr.ls (m:Mr):List (List Nat):=m.R.bs.map (·.l)
def Kxa (w:World)(F:Nat->Prop)(ts:List Int)(cs:Cs)(m:Mr):Prop:=Ksp w m.N ts cs m.rb m.R m.ba m.bc m.hv/\¬ F m.rb/\∀ k,m.N k->¬ F k
theorem Kxa.keep {w w' F ts cs m}(h:Kxa w F ts cs m)(hk:Ju F w w'):Kxa w' F ts cs m:=⟨h.1.keep hk h.2.1 h.2.2,h.2⟩
theorem Qb3 {α:Type}(f:α->List Value)(z:Nat)(H:∀ a,(f a).length=z):∀ (l:List α) (j:Nat) (y:j<l.length) (t:Nat),t<z->(l.flatMap f)[j*z+t]?=(f l[j])[t]?
 |[],j,y,_,_=>absurd y zS
 |a::l,0,_,t,ht=>by simp[List.getElem?_append_left (show t<(f a).length by rw[H];exact ht)]
 |a::l,j+1,y,t,ht=>by
  rw[Og7,Ob6 (by rw[H,Nat.add_mul];omega),H,show (j+1)*z+t-z=j*z+t by rw[Nat.add_mul];omega];have:=Qb3 f z H l j (by simpa using y) t ht;simpa using this
end
section
open Go.RowKit Go.Shelf Tryz
def Kt2 (w:World)(sb:Nat)(tv y:Value)(bu:Int)(d:Nat)(bl:Int)(mv:Value):Prop:=w.heap[sb]?=some (.cells #[tv,y,.int .i64 bu,.pointer (some ⟨d,0,none⟩),.int .i64 bl,mv] 303 (0,0))
theorem Kt2.field {w sb d tv y mv bu bl}(h:Kt2 w sb tv y bu d bl mv):(w.cell? ⟨sb,0,none⟩=some tv/\w.cell? ⟨sb,1,none⟩=some y/\w.cell? ⟨sb,2,none⟩=some (.int .i64 bu))/\w.cell? ⟨sb,3,none⟩=some (.pointer (some ⟨d,0,none⟩))/\w.cell? ⟨sb,4,none⟩=some (.int .i64 bl)/\w.cell? ⟨sb,5,none⟩=some mv/\∀ i,w.frozen? ⟨sb,i,none⟩=false:=by
 unfold Kt2 at h;exact⟨⟨by simp[World.cell?,h],by simp[World.cell?,h],by simp[World.cell?,h]⟩,by simp[World.cell?,h],by simp[World.cell?,h],by simp[World.cell?,h],fun i=>by simp[World.frozen?,h]⟩
theorem Ktw:(prog.info? 354).map (fun i=>(i.zero,i.size,i.bytes))=some (some (.pointer none),1,8):=zK
theorem Kzy sb d p tv bf mv bu bl ms B w(h:Kt2 w sb tv bf bu d bl mv)(bj:Jo w B 354 mv (ms.map rpV))(bP:B<=w.heap.size)(M:mv.ownBlock≠some sb)(hn:ms.length<=900000):
  Calls prog 240 #[.pointer (some ⟨sb,0,none⟩),.int .i64 (p:Nat)] w fun e w'=>e=.returned (rpV w.heap.size)/\Ju (fun k=>k=sb\/mv.ownBlock=some k) w w'/\w'.heap[w.heap.size]?=some (.cells #[.int .i64 (p:Nat),.slice none 0 0,.slice none 0 0] 357 (0,0))/\∃ bh,Kt2 w' sb tv bf bu d bl bh/\Jo w' B 354 bh ((ms++[w.heap.size]).map rpV)/\(bh.ownBlock=mv.ownBlock\/∃ g,bh.ownBlock=some g/\w.heap.size<g):=by
 obtain⟨_,_,_,bE,bG⟩:=h.field;have bL:=bG 5;have bN:=zh h;have bi:Hid (Jo w B 354 mv (ms.map rpV)/\mv.ownBlock≠some sb):=⟨bj,M⟩;have bK:=Jd h;go_enter func240,ntmps240
 go_upto_region 2 with fail
 have I:=Jc (Oa5 w.heap.size w) (.cells #[.int .i64 (p:Nat),.slice none 0 0,.slice none 0 0] 357);have bM:=heap_alloc_new w (.cells #[.int .i64 (p:Nat),.slice none 0 0,.slice none 0 0] 357);have bC:(w.alloc (.cells #[.int .i64 (p:Nat),.slice none 0 0,.slice none 0 0] 357)).heap.size=w.heap.size+1:=zS;have bQ:=Ja I bE;have bB:Kt2 _ sb tv bf bu d bl mv:=(I.block sb bK).trans h;have bI:=Jaw bj I;have bR:=bB.field.2.2.2.2 5;clear bj M h bE bG bL;generalize w.alloc (.cells #[.int .i64 (p:Nat),.slice none 0 0,.slice none 0 0] 357)=H at *;have Y:=zh bC;clear bC;go_wp2_with (at_builtin;go_must (refine Ks zR _ _ 301 354 _ 8 Ktw zR zd zK zR B _ _ zR (Jo.alloc bI _) ⟨H.heap.size,0,none⟩ 1 [rpV w.heap.size] zR (by exact Ua H _ _) (by intro u bD;simp at bD;subst bD;rfl) zt (by have:=Y.out;simp;omega) ?_);intro sv' y br K U;obtain⟨a2,O,rfl,_⟩:=br.cells;have bk:y.heap[sb]?=some (.cells #[tv,bf,.int .i64 bu,.pointer (some ⟨d,0,none⟩),.int .i64 bl,mv] 303 (0,0)):=(K.block sb (by have:=Y.out;simp;omega) (fun e=>bi.out.2 e.symm)).trans ((Oa9 H _ sb (by have:=Y.out;omega)).trans bB);have bS:=(Kt2.field (w:=y) bk).2.2.2.1;have bT:=(Kt2.field (w:=y) bk).2.2.2.2 5)
 go_ret
 have hW:=Y.out;have bJ:w.heap.size<=y.heap.size:=by have:=K.size;simp at this;omega
 have bH:∀ g,mv.ownBlock=some g->g<w.heap.size:=fun g Z=>(Je bi.out.1 Z).2;have bx:∀ k,k≠sb->(y.setCell ⟨sb,5,none⟩ (.slice a2 (ms.length+1) O)).heap[k]?=y.heap[k]?:=fun k hk=>Oa4 _ _ _ _ hk;have bz:∀ k,k<H.heap.size->mv.ownBlock≠some k->y.heap[k]?=H.heap[k]?:=fun k hk M=>(K.block k zt (fun e=>M e.symm)).trans (Oa9 H _ k hk);have bA:(Value.slice a2 (ms.length+1) O).ownBlock=mv.ownBlock\/∃ g,(Value.slice a2 (ms.length+1) O).ownBlock=some g/\w.heap.size<g:=by
  rcases U with U|U
  ·exact .inl (by simpa using U)
  exact .inr ⟨H.heap.size+1,by simpa using U,zo⟩
 refine⟨rfl,?_,?_,.slice a2 (ms.length+1) O,?_,?_,bA⟩
 ·refine Ju.set (b:=sb) ?_ (.inl rfl) 5 _;exact⟨K.os.trans (I.os),K.tape.trans I.tape,K.output.trans I.output,bJ,fun k hk M=>(bz k zo fun e=>M (.inr e)).trans (I.block k hk)⟩
 ·rw[bx _ zo,bz _ zo (fun e=>by have:=bH _ e;omega)];exact bM
 ·unfold Kt2;rw[Jk bk];simp
 rw[Ob8];have:=Yd (w':=y.setCell ⟨sb,5,none⟩ (.slice a2 (ms.length+1) O)) br fun g Z=>bx g fun e=>by
  subst e;rcases bA with h|⟨bO,h,hl⟩
  ·exact bi.out.2 (h.symm.trans (by simpa using Z))
  have:=h.symm.trans (by simpa using Z);simp at this;omega
 simpa using this
end
section
open Go.RowKit Go.Shelf
structure SC where
 w0:World
 F0:Nat->Prop
 D0:DS
 sb:Nat
 d:Nat
 tb:Nat
 to_:Nat
 tc:Nat
 kb:Nat
 ko:Nat
 kc:Nat
 ts:List Int
 cs:Cs
 ks:List Krv
 a0:Addr
 a1:Addr
 a2:Addr
 q:Addr
 qw:Addr
 pg:Addr
 bu:Int
structure SK (K:SC):Prop where
 sg:Sg K.ts K.cs K.ks
 sb:K.w0.heap.size<=K.sb
 low:∀ k,K.F0 k->k<K.w0.heap.size
 env:∀ X,Ju K.F0 K.w0 X->Kc X (some ⟨K.tb,K.to_,none⟩) K.ts/\Klj X K.kb K.ko K.ks/\Jf0 X K.a0 K.a1 K.a2/\X.cell? ⟨6,0,none⟩=some (.iface 432 (.pointer (some K.q)))/\X.cell? ⟨7,0,none⟩=some (.iface 432 (.pointer (some K.qw)))/\X.cell? ⟨8,0,none⟩=some (.iface 432 (.pointer (some K.pg)))
 gl:¬ K.F0 6/\¬ K.F0 7/\6<K.w0.heap.size/\7<K.w0.heap.size
def Kzj (y:SC)(E:DS)(b:Bk):Prop:=Jan E b.l (Kr3 y.ts (Jba b.ids y.cs) y.ts.length)/\(1<=b.ids.length/\b.ids.length<=64)/\(∀ i∈b.ids,i<nR y.cs)/\b.l.length<=1000000
structure Qa3 (K:SC) (mv:Value) (m:Mr):Prop where
 lo:K.w0.heap.size<=m.rb
 sb:m.rb≠K.sb
 made:mv.ownBlock≠some m.rb
 nlo:∀ k,m.N k->K.w0.heap.size<=k
 nsb:¬ m.N K.sb
 nmade:∀ g,mv.ownBlock=some g->¬ m.N g
structure SI (K:SC) (w:World) (F:Nat->Prop) (E:DS) (Ms:List Mr) (mv:Value) (bl:Int):Prop where
 st:Kt2 w K.sb (.slice (some ⟨K.tb,K.to_,none⟩) K.ts.length K.tc) (.slice (some ⟨K.kb,K.ko,none⟩) K.ks.length K.kc) K.bu K.d bl mv
 own:Jo w K.w0.heap.size 354 mv ((Ms.map (·.rb)).map rpV)
 msb:mv.ownBlock≠some K.sb
 runs:∀ m∈Ms,Kxa w F K.ts K.cs m
 off:∀ m∈Ms,Qa3 K mv m
 sep:∀ (i j:Nat) mi mj,Ms[i]?=some mi->Ms[j]?=some mj->i≠j->mi.rb≠mj.rb/\¬ mi.N mj.rb
 disk:Zb w F K.d E
 flt:∀ k,F k->k<w.heap.size
 sF:¬ F K.sb
 mF:∀ g,mv.ownBlock=some g->¬ F g
 ffr:∀ k,F k->K.F0 k\/K.w0.heap.size<=k
 old:Ju K.F0 K.w0 w
 top:Top K.D0 E (Ms.flatMap Mr.ls)
 blks:∀ m∈Ms,∀ b∈m.R.bs,Kzj K E b
theorem SI.env {y w F E H mv bl}(h:SI y w F E H mv bl)(hK:SK y):Qb5 w y.sb y.d y.tb y.to_ y.tc y.kb y.ko y.kc y.ts y.ks y.a0 y.a1 y.a2 y.q y.qw y.pg:=by
 obtain⟨I,K,M,O,U,Y⟩:=hK.env w h.old;obtain⟨⟨Z,s1,_⟩,s3,_⟩:=h.st.field;exact⟨⟨Z,s3,I,⟨s1,K⟩⟩,M,O,U,Y⟩
theorem SI.keep {y w w' F G E K mv bl}(h:SI y w F E K mv bl)(hk:Ju G w w')(M:∀ k,G k->y.w0.heap.size<=k)(U:¬ G y.sb)(O:∀ g,mv.ownBlock=some g->¬ G g)(hF:∀ k,F k->¬ G k)(hM:∀ m∈K,¬ G m.rb/\∀ k,m.N k->¬ G k):SI y w' F E K mv bl:=by
 have Y:=Jd h.st;refine⟨(hk.block _ Y U).trans h.st,Yd h.own fun g H=>hk.block g (Qk h.own H) (O g H),h.msb,fun m I=>⟨(h.runs m I).1.keep hk (hM m I).1 (hM m I).2,(h.runs m I).2⟩,h.off,h.sep,h.disk.stands fun k hf hl=>hk.block k hl (hF k hf),fun k hf=>Oc2 (h.flt k hf) hk.size,h.sF,h.mF,h.ffr,h.old.trans' hk fun i hi H=>absurd (M i H) zo,h.top,h.blks⟩
theorem getElem?_set_cases {α:Type}{l:List α}{i j:Nat}{x y:α}(h:(l.set i x)[j]?=some y):(j=i/\y=x)\/(j≠i/\l[j]?=some y):=by
 by_cases e:j=i
 ·subst e;rw[List.getElem?_set_self' ]at h;cases hj:l[j]? with
  |none=>rw[hj]at h;simp at h
  |some z=>rw[hj]at h;simp at h;exact .inl ⟨rfl,h.symm⟩
 rw[Od1 (fun H=>e H.symm)]at h;exact .inr ⟨e,h⟩
theorem SI.turn {I w w' F E Z H mv bl i m y}(h:SI I w F E H mv bl)(hi:H[i]?=some m)(hk:Ju (fun k=>F k\/k=m.rb) w w')(K:y.rb=m.rb)(hr:Ksp w' y.N I.ts I.cs y.rb y.R y.ba y.bc y.hv)(U:∀ k,y.N k->m.N k\/w.heap.size<=k)(bG:Zb w' F I.d Z)(ht:Top I.D0 Z ((H.set i y).flatMap Mr.ls))(hb:∀ x∈H.set i y,∀ b∈x.R.bs,Kzj I Z b):SI I w' F Z (H.set i y) mv bl:=by
 have bB:=Of6 hi;have ho:=h.off m bB;have bA:=h.runs m bB;have bM:=Jd h.st;have bK:(H.set i y).map (·.rb)=H.map (·.rb):=by
  rw[Op0,K];refine Oi8 fun j=>?_;by_cases e:j=i
  ·subst e;rw[List.getElem?_set_self'];rw[Ob1,hi];rfl
  rw[Od1 (fun bD=>e bD.symm)]
 have bL:∀ x∈H.set i y,Qa3 I mv x:=fun x Y=>by
  rcases List.mem_or_eq_of_mem_set Y with Y|rfl
  ·exact h.off x Y
  exact⟨K▸ho.lo,K▸ho.sb,K▸ho.made,fun k hk=>(U k hk).elim (ho.nlo k) (fun M=>by have:=h.old.size;omega),fun hn=>(U _ hn).elim ho.nsb (fun M=>zo),fun g O hn=>(U _ hn).elim (ho.nmade g O) (fun M=>by have:=Qk h.own O;omega)⟩
 refine⟨(hk.block _ bM (fun hh=>hh.elim h.sF (fun e=>ho.sb e.symm))).trans h.st,?_,h.msb,fun x Y=>?_,bL,fun a b bN mb bH br bk=>?_,bG,fun k hf=>Oc2 (h.flt k hf) hk.size,h.sF,h.mF,h.ffr,?_,ht,hb⟩
 ·rw[bK];exact Yd h.own fun g O=>hk.block g (Qk h.own O) (fun hh=>hh.elim (h.mF g O) (fun e=>ho.made (e▸O)))
 ·obtain⟨j,bJ,e⟩:=Od5 Y;rcases getElem?_set_cases (show (H.set i y)[j]?=some x by rw[Oa3 bJ,e])with⟨_,rfl⟩|⟨hji,hjx⟩
  ·refine⟨hr,by rw[K];exact bA.2.1,fun k bz hf=>?_⟩;rcases U k bz with M|M
   ·exact bA.2.2 k M hf
   have:=h.flt k hf;omega
  have bh:=h.runs x (Of6 hjx);have bC:=h.sep j i x m hjx hi hji;exact⟨bh.1.keep hk (fun hh=>hh.elim bh.2.1 bC.1) (fun k hn hh=>hh.elim (bh.2.2 k hn) (fun e=>bC.2 (e▸hn))),bh.2⟩
 ·rcases getElem?_set_cases bH with⟨bE,bi⟩|⟨bI,bj⟩
  ·rcases getElem?_set_cases br with⟨eb,_⟩|⟨bx,bf⟩
   ·exact absurd (bE.trans eb.symm) bk
   have:=h.sep i b m mb hi bf (fun e=>bx e.symm);rw[bi];refine⟨K▸this.1,fun hn=>(U _ hn).elim this.2 fun M=>?_⟩;have:=Jd (h.runs mb (Of6 bf)).1.cells;omega
  rcases getElem?_set_cases br with⟨eb,bi⟩|⟨bx,bf⟩
  ·rw[bi,K];exact h.sep a i bN m bj hi bI
  exact h.sep _ _ _ _ bj bf bk
 refine h.old.trans' hk fun k bz hh=>?_;rcases hh with hf|rfl
 ·exact(h.ffr k hf).resolve_right zo
 have:=ho.lo;omega
end
open Go.RowKit Go.Shelf Tryz
def Rn.rem (R:Rn):List Nat:=R.held++(R.bs.map (·.ids)).flatten
theorem Kx4 {α:Type}:∀ (l:List α) (i:Nat) (m:α),l[i]?=some m->∃ H y,l=H++m::y/\∀ x,l.set i x=H++x::y
 |[],i,m,h=>by simp at h
 |a::l,0,m,h=>by simp at h;subst h;exact⟨[],l,rfl,fun _=>rfl⟩
 |a::l,i+1,m,h=>by
  obtain⟨H,y,I,K⟩:=Kx4 l i m (by simpa using h);exact⟨a::H,y,by rw[I];rfl,fun x=>by rw[List.set_cons_succ,K x];rfl⟩
theorem Kzf l:∀ D:DS,(Jf4 D l).pages.length=D.pages.length:=by
 induction l with
 |nil=>intro D;rfl
 |cons a l y=>
  intro D;show (Jf4 (Jae D a) l).pages.length=_;rw[y];unfold Jae;split<;>simp
def dz (E:DS):Nat:=if 0<=E.writes then max E.pages.length E.writes.toNat else 1000000
def Kso (D:DS)(x:Bool):Prop:=(x=true->D.quota<=950000)/\(x=false->0<D.fail/\D.fail<=950000)
theorem Kx9 D l:dz (Jf4 D l)=dz D:=by unfold dz;rw[Kzf,(Jin l D).2.2]
theorem Kxu {E}(h:dz E<=950000):E.pages.length<=dz E:=by
 unfold dz at h |-;by_cases hw:0<=E.writes
 ·rw[if_pos hw];omega
 rw[if_neg hw]at h;omega
theorem Qbi ps D(h:dz D+ps.length<=950000):dz (Uy D ps).1<=dz D+ps.length/\∀ x,(Uy D ps).2.2=some x->Kso D x:=by
 have h0:=h;unfold dz at h0;by_cases hw:0<=D.writes
 ·rw[if_pos hw]at h0;have H:=Jkf ps D hw zo;have O:=(Jrh ps D).1;have I:dz (Uy D ps).1<=dz D+ps.length:=by
   unfold dz;rw[if_pos hw,if_pos zo];omega
  refine⟨I,fun x y=>⟨fun e=>?_,fun e=>?_⟩⟩
  ·obtain⟨bh,rest,_,_,E,K,_,bf,hq,_,M,_⟩:=(Jc1 ps D).2 x y;have U:=M e;have Y:=Kad (Uy D ps).1.pages;have Z:=K.quota;omega
  subst e;have:=H.2.1 y;omega
 rw[if_neg hw]at h0;omega
theorem Kso.of {D E x}(h:Kso E x)(hq:E.quota=D.quota)(hf:E.fail=D.fail):Kso D x:=by
 unfold Kso at h |-;rw[hq,hf]at h;exact h
structure Kst (K:SC) (w:World) (F:Nat->Prop) (E:DS) (Ms:List Mr) (mv:Value) (bl:Int) (i:Nat) (m m':Mr) (b:Bool) (E':DS) (w':World):Prop where
 rb:m'.rb=m.rb
 place:m'.R.place=m.R.place
 keep:Ju (fun k=>F k\/k=m.rb) w w'
 si:SI K w' F E' (Ms.set i m') mv bl
 rem:m'.R.rem=m.R.held.tail++(m.R.bs.map (·.ids)).flatten
 yes:b=true->m'.R.held≠[]
 no:b=false->m'.R.rem=[]
 new:∀ k,m'.N k->m.N k\/w.heap.size<=k
 pgs:dz E'=dz E
theorem SI.next {y w F E K mv bl i m}(h:SI y w F E K mv bl)(hK:SK y)(hi:K[i]?=some m)(hl:m.R.held.length<=100000):
  Calls prog 208 #[.pointer (some ⟨y.sb,0,none⟩),.pointer (some ⟨m.rb,0,none⟩)] w fun e w'=>∃ b bV bL,e=.returned (.tuple #[.bool b,.nilIface])/\Kst y w F E K mv bl i m bV b bL w':=by
 have bf:=Of6 hi;have I:=h.runs m bf;have ho:=h.off m bf;obtain⟨bx,br,bD,bC⟩:=Kx4 K i m hi;have bK:∀ w',Ju (fun k=>k=m.rb) w w'->Ju (fun k=>F k\/k=m.rb) w w'/\Zb w' F y.d E:=fun w' hk=>⟨hk.mono fun k _ e=>.inr e,h.disk.stands fun k hf bT=>hk.block k bT fun e=>I.2.1 (e▸hf)⟩;by_cases bQ:1<m.R.held.length
 ·refine(Kyu y.sb m.rb y.ts y.cs y.ks m.R m.ba m.bc m.hv w m.N hK.sg I.1 bQ hl).mono fun e w' hp=>?_;obtain⟨rfl,hk,bh,bk,hr,U⟩:=hp;obtain⟨Z,bB⟩:=bK w' hk;refine⟨true,⟨m.rb,⟨m.R.place,m.R.bs,m.R.held.tail⟩,bh,m.ba,m.bc,bk⟩,E,rfl,rfl,rfl,Z,h.turn hi Z rfl hr U bB ?_ ?_,rfl,fun _=>?_,(fun e=>by cases e),U,rfl⟩
  ·have:=h.top;rw[bD]at this;rw[bC];simpa [Mr.ls] using this
  ·intro x H b hb;rcases List.mem_or_eq_of_mem_set H with H|rfl
   ·exact h.blks x H b hb
   exact h.blks m bf b hb
  intro e;have:=congrArg List.length e;simp at this;omega
 have O:m.R.held.length<=1:=zo;have bJ:m.R.held.tail=[]:=by
  cases hh:m.R.held with
  |nil=>rfl
  |cons a l=>rw[hh]at O;simp at O;simp[O]
 cases hbs:m.R.bs with
 |nil=>
  refine(Kyg y.sb m.rb y.ts y.cs y.ks m.R m.ba m.bc m.hv w m.N hK.sg I.1 O hbs).mono fun e w' hp=>?_;obtain⟨rfl,hk,hr⟩:=hp;obtain⟨Z,bB⟩:=bK w' hk;refine⟨false,⟨m.rb,⟨m.R.place,[],[]⟩,m.N,m.ba,m.bc,.slice none 0 0⟩,E,rfl,rfl,rfl,Z,h.turn hi Z rfl hr (fun k hk=>.inl hk) bB ?_ ?_,by simp[Rn.rem,bJ,hbs],(fun e=>by cases e),fun _=>rfl,fun k hk=>.inl hk,rfl⟩
  ·have:=h.top;rw[bD]at this;rw[bC];simpa [Mr.ls,hbs] using this
  intro x H b hb;rcases List.mem_or_eq_of_mem_set H with H|rfl
  ·exact h.blks x H b hb
  cases hb
 |cons b bs=>
  have Y:=h.blks m bf b (by rw[hbs];simp);refine(Kw9 y.sb y.d y.tb y.to_ y.tc y.kb y.ko y.kc m.rb y.ts y.cs y.ks y.a0 y.a1 y.a2 y.q y.qw y.pg m.R b bs m.ba m.bc m.hv w m.N F E hK.sg I.1 O hbs (fun X bH=>?_) h.disk h.flt I.2.2 I.2.1 h.sF Y.2.2.1 Y.2.1 Y.1 Y.2.2.2).mono fun e w' hp=>?_
  ·obtain⟨bz,bi,bM,bN,bO,bP⟩:=hK.env X (h.old.trans' bH fun k bX hh=>by
    rcases hh with hf|rfl
    ·exact(h.ffr k hf).resolve_right zo
    ·have:=ho.lo;omega)
   have bU:Kt2 X y.sb _ _ _ _ _ _:=(bH.block _ (Jd h.st) (fun hh=>hh.elim h.sF (fun e=>ho.sb e.symm))).trans h.st;obtain⟨⟨bW,s1,_⟩,s3,_⟩:=bU.field;exact⟨⟨bW,s3,bz,⟨s1,bi⟩⟩,bM,bN,bO,bP⟩
  obtain⟨rfl,hk,bR,bh,bE,bG,bk,hr,U⟩:=hp;have bj:=h.top;rw[bD]at bj;have bz:(bx++m::br).flatMap Mr.ls=bx.flatMap Mr.ls++b.l::(bs.map (·.l)++br.flatMap Mr.ls):=by simp[Mr.ls,hbs]
  have bi:(K.set i ⟨m.rb,⟨m.R.place,bs,b.ids⟩,bh,bE,bG,bk⟩).flatMap Mr.ls=bx.flatMap Mr.ls++(bs.map (·.l)++br.flatMap Mr.ls):=by rw[bC];simp[Mr.ls]
  rw[bz]at bj;refine⟨true,⟨m.rb,⟨m.R.place,bs,b.ids⟩,bh,bE,bG,bk⟩,Jf4 E b.l,rfl,rfl,rfl,hk,h.turn hi hk rfl hr U bR (by rw[bi];exact bj.rel) ?_,by simp[Rn.rem,bJ,hbs],(fun _ e=>by have:=Y.2.1;rw[show b.ids=[] from e]at this;simp at this),(fun e=>by cases e),U,Kx9 _ _⟩;intro x H M bA;have bS:M.l∈bx.flatMap Mr.ls++(bs.map (·.l)++br.flatMap Mr.ls):=by
   rw[<-bi];exact Op5.2 ⟨x,H,Of0.2 ⟨M,bA,rfl⟩⟩
  have bI:Kzj y E M:=by
   rcases List.mem_or_eq_of_mem_set H with H|rfl
   ·exact h.blks x H M bA
   exact h.blks m bf M (by rw[hbs];exact Og1 _ bA)
  exact⟨bj.held_rel bS bI.1,bI.2⟩
