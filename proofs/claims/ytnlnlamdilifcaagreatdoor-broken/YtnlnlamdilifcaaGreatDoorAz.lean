/- What is left of all runs is let go: release. -/
import Derived.Test.YtnlnlamdilifcaaGreatDoorAt
set_option maxHeartbeats 2000000
set_option maxRecDepth 100000
namespace Go.Proofs.YtnlnlamdilifcaaGreatDoor
section
open Go.RowKit Go.Shelf
structure Mr where
 rb:Nat
 R:Rn
 N:Nat->Prop
 ba:Option Addr
 bc:Nat
 hv:Value
def Mr.ls (m:Mr):List (List Nat):=m.R.bs.map (·.l)
def Kxe (w:World)(F:Nat->Prop)(ts:List Int)(cs:Cs)(m:Mr):Prop:=Ksp w m.N ts cs m.rb m.R m.ba m.bc m.hv/\¬ F m.rb/\∀ k,m.N k->¬ F k
theorem Kxe.keep {w w' F ts cs m}(h:Kxe w F ts cs m)(y:Ju F w w'):Kxe w' F ts cs m:=⟨h.1.keep y h.2.1 h.2.2,h.2⟩
theorem Qcs {α:Type}(f:α->List Value)(z:Nat)(H:∀ a,(f a).length=z):∀ (l:List α) (j:Nat) (y:j<l.length) (t:Nat),t<z->(l.flatMap f)[j*z+t]?=(f l[j])[t]?
 |[],j,y,_,_=>absurd y zS
 |a::l,0,_,t,ht=>by simp[List.getElem?_append_left (show t<(f a).length by rw[H];exact ht)]
 |a::l,j+1,y,t,ht=>by
  rw[Og7,Ob6 (by rw[H,Nat.add_mul];omega),H,show (j+1)*z+t-z=j*z+t by rw[Nat.add_mul];omega];have:=Qcs f z H l j (by simpa using y) t ht;simpa using this
end
section
open Go.RowKit Go.Shelf Tryz
def Kt5 (w:World)(sb:Nat)(tv y:Value)(bu:Int)(d:Nat)(bl:Int)(mv:Value):Prop:=w.heap[sb]?=some (.cells #[tv,y,Iq bu,Pq d,Iq bl,mv] 325 (0,0))
theorem Kt5.field {w sb d tv y mv bu bl}(h:Kt5 w sb tv y bu d bl mv):(w.cell? (Aq sb)=some tv/\w.cell? (Ar sb 1)=some y/\w.cell? (Ar sb 2)=some (Iq bu))/\w.cell? (Ar sb 3)=some (Pq d)/\w.cell? (Ar sb 4)=some (Iq bl)/\w.cell? (Ar sb 5)=some mv/\∀ i,w.frozen? ⟨sb,i,none⟩=false:=by
 unfold Kt5 at h;exact⟨⟨by simp[World.cell?,h],by simp[World.cell?,h],by simp[World.cell?,h]⟩,by simp[World.cell?,h],by simp[World.cell?,h],by simp[World.cell?,h],fun i=>by simp[World.frozen?,h]⟩
theorem Ktu:(prog.info? 365).map (fun i=>(i.zero,i.size,i.bytes))=some (some (.pointer none),1,8):=zK
theorem Qad sb d p tv bh mv bu bl ms B w(h:Kt5 w sb tv bh bu d bl mv)(bk:Jo w B 365 mv (ms.map rpV))(bQ:B<=w.heap.size)(M:mv.ownBlock≠some sb)(bR:ms.length<=900000):
  Cq 247 #[Pq sb,Iq (p:Nat)] w fun e w'=>e=.returned (rpV w.heap.size)/\Ju (fun k=>k=sb\/mv.ownBlock=some k) w w'/\w'.heap[w.heap.size]?=some (.cells #[Iq (p:Nat),Sz,Sz] 368 (0,0))/\∃ bi,Kt5 w' sb tv bh bu d bl bi/\Jo w' B 365 bi ((ms++[w.heap.size]).map rpV)/\(bi.ownBlock=mv.ownBlock\/∃ g,bi.ownBlock=some g/\w.heap.size<g):=by
 obtain⟨_,_,_,bG,bH⟩:=h.field;have bM:=bH 5;have bO:=zh h;have bj:Hid (Jo w B 365 mv (ms.map rpV)/\mv.ownBlock≠some sb):=⟨bk,M⟩;have bL:=Jd h;go_enter func247,ntmps247
 go_upto_region 2 with fail
 have I:=Jc (Oa5 w.heap.size w) (.cells #[Iq (p:Nat),Sz,Sz] 368);have bN:=heap_alloc_new w (.cells #[Iq (p:Nat),Sz,Sz] 368);have bD:(w.alloc (.cells #[Iq (p:Nat),Sz,Sz] 368)).heap.size=w.heap.size+1:=zS;have bS:=Ja I bG;have bC:Kt5 _ sb tv bh bu d bl mv:=(I.block sb bL).trans h;have bJ:=Jaw bk I;have bT:=bC.field.2.2.2.2 5;clear bk M h bG bH bM;generalize w.alloc (.cells #[Iq (p:Nat),Sz,Sz] 368)=H at *;have Z:=zh bD;clear bD;go_wp2_with (at_builtin;go_must (refine Ks zR _ _ 323 365 _ 8 Ktu zR zd zK zR B _ _ zR (Jo.alloc bJ _) ⟨H.heap.size,0,none⟩ 1 [rpV w.heap.size] zR (by exact Ua H _ _) (by intro u bE;simp at bE;subst bE;rfl) zt (by have:=Z.out;simp;omega) ?_);intro sv' y bx K U;obtain⟨a2,O,rfl,_⟩:=bx.cells;have br:y.heap[sb]?=some (.cells #[tv,bh,Iq bu,Pq d,Iq bl,mv] 325 (0,0)):=(K.block sb (by have:=Z.out;simp;omega) (fun e=>bj.out.2 e.symm)).trans ((Oa9 H _ sb (by have:=Z.out;omega)).trans bC);have bU:=(Kt5.field (w:=y) br).2.2.2.1;have bV:=(Kt5.field (w:=y) br).2.2.2.2 5)
 go_ret
 have hW:=Z.out;have bK:w.heap.size<=y.heap.size:=by have:=K.size;simp at this;omega
 have bI:∀ g,mv.ownBlock=some g->g<w.heap.size:=fun g bf=>(Je bj.out.1 bf).2;have bz:∀ k,k≠sb->(y.setCell (Ar sb 5) (.slice a2 (ms.length+1) O)).heap[k]?=y.heap[k]?:=fun k Y=>Oa4 _ _ _ _ Y;have bA:∀ k,k<H.heap.size->mv.ownBlock≠some k->y.heap[k]?=H.heap[k]?:=fun k Y M=>(K.block k zt (fun e=>M e.symm)).trans (Oa9 H _ k Y);have bB:(Value.slice a2 (ms.length+1) O).ownBlock=mv.ownBlock\/∃ g,(Value.slice a2 (ms.length+1) O).ownBlock=some g/\w.heap.size<g:=by
  rcases U with U|U
  ·exact .inl (by simpa using U)
  exact .inr ⟨H.heap.size+1,by simpa using U,zo⟩
 refine⟨rfl,?_,?_,.slice a2 (ms.length+1) O,?_,?_,bB⟩
 ·refine Ju.set (b:=sb) ?_ (.inl rfl) 5 _;exact⟨K.os.trans (I.os),K.tape.trans I.tape,K.output.trans I.output,bK,fun k Y M=>(bA k zo fun e=>M (.inr e)).trans (I.block k Y)⟩
 ·rw[bz _ zo,bA _ zo (fun e=>by have:=bI _ e;omega)];exact bN
 ·unfold Kt5;rw[Jk br];simp
 rw[Ob8];have:=Yd (w':=y.setCell (Ar sb 5) (.slice a2 (ms.length+1) O)) bx fun g bf=>bz g fun e=>by
  subst e;rcases bB with h|⟨bP,h,hl⟩
  ·exact bj.out.2 (h.symm.trans (by simpa using bf))
  have:=h.symm.trans (by simpa using bf);simp at this;omega
 simpa using this
end
section
open Go.RowKit Go.Shelf
structure SC where
 w0:World
 F0:Nat->Prop
 D0:DS
 sb:Nat
 d:Nat
 tb:Nat
 to_:Nat
 tc:Nat
 kb:Nat
 ko:Nat
 kc:Nat
 ts:List Int
 cs:Cs
 ks:List Krv
 a0:Addr
 a1:Addr
 a2:Addr
 q:Addr
 qw:Addr
 pg:Addr
 bu:Int
structure SK (K:SC):Prop where
 sg:Sg K.ts K.cs K.ks
 sb:K.w0.heap.size<=K.sb
 low:∀ k,K.F0 k->k<K.w0.heap.size
 env:∀ X,Ju K.F0 K.w0 X->Kc X (some (Ar K.tb K.to_)) K.ts/\Klj X K.kb K.ko K.ks/\Jf0 X K.a0 K.a1 K.a2/\X.cell? (Aq 5)=some (Ie 435 K.q)/\X.cell? (Aq 6)=some (Ie 435 K.qw)/\X.cell? (Aq 7)=some (Ie 435 K.pg)
 gl:¬ K.F0 5/\¬ K.F0 6/\5<K.w0.heap.size/\6<K.w0.heap.size
def Kz3 (y:SC)(E:DS)(b:Bk):Prop:=Jan E b.l (Kr4 y.ts (Jba b.ids y.cs) y.ts.length)/\(1<=b.ids.length/\b.ids.length<=64)/\(∀ i∈b.ids,i<nR y.cs)/\b.l.length<=1000000
structure Qbl (K:SC) (mv:Value) (m:Mr):Prop where
 lo:K.w0.heap.size<=m.rb
 sb:m.rb≠K.sb
 made:mv.ownBlock≠some m.rb
 nlo:∀ k,m.N k->K.w0.heap.size<=k
 nsb:¬ m.N K.sb
 nmade:∀ g,mv.ownBlock=some g->¬ m.N g
structure SI (K:SC) (w:World) (F:Nat->Prop) (E:DS) (Ms:List Mr) (mv:Value) (bl:Int):Prop where
 st:Kt5 w K.sb (Sr K.tb K.to_ K.ts.length K.tc) (Sr K.kb K.ko K.ks.length K.kc) K.bu K.d bl mv
 own:Jo w K.w0.heap.size 365 mv ((Ms.map (·.rb)).map rpV)
 msb:mv.ownBlock≠some K.sb
 runs:∀ m∈Ms,Kxe w F K.ts K.cs m
 off:∀ m∈Ms,Qbl K mv m
 sep:∀ (i j:Nat) mi mj,Ms[i]?=some mi->Ms[j]?=some mj->i≠j->mi.rb≠mj.rb/\¬ mi.N mj.rb
 disk:Zb w F K.d E
 flt:∀ k,F k->k<w.heap.size
 sF:¬ F K.sb
 mF:∀ g,mv.ownBlock=some g->¬ F g
 ffr:∀ k,F k->K.F0 k\/K.w0.heap.size<=k
 old:Ju K.F0 K.w0 w
 top:Top K.D0 E (Ms.flatMap Mr.ls)
 blks:∀ m∈Ms,∀ b∈m.R.bs,Kz3 K E b
theorem SI.env {y w F E H mv bl}(h:SI y w F E H mv bl)(hK:SK y):Qcq w y.sb y.d y.tb y.to_ y.tc y.kb y.ko y.kc y.ts y.ks y.a0 y.a1 y.a2 y.q y.qw y.pg:=by
 obtain⟨I,K,M,O,U,Y⟩:=hK.env w h.old;obtain⟨⟨Z,s1,_⟩,s3,_⟩:=h.st.field;exact⟨⟨Z,s3,I,⟨s1,K⟩⟩,M,O,U,Y⟩
theorem SI.keep {H w w' F G E M mv bl}(h:SI H w F E M mv bl)(y:Ju G w w')(U:∀ k,G k->H.w0.heap.size<=k)(Z:¬ G H.sb)(Y:∀ g,mv.ownBlock=some g->¬ G g)(hF:∀ k,F k->¬ G k)(hM:∀ m∈M,¬ G m.rb/\∀ k,m.N k->¬ G k):SI H w' F E M mv bl:=by
 have bf:=Jd h.st;refine⟨(y.block _ bf Z).trans h.st,Yd h.own fun g I=>y.block g (Qk h.own I) (Y g I),h.msb,fun m K=>⟨(h.runs m K).1.keep y (hM m K).1 (hM m K).2,(h.runs m K).2⟩,h.off,h.sep,h.disk.stands fun k O hl=>y.block k hl (hF k O),fun k O=>Oc2 (h.flt k O) y.size,h.sF,h.mF,h.ffr,h.old.trans' y fun i hi I=>absurd (U i I) zo,h.top,h.blks⟩
theorem getElem?_set_cases {α:Type}{l:List α}{i j:Nat}{x y:α}(h:(l.set i x)[j]?=some y):(j=i/\y=x)\/(j≠i/\l[j]?=some y):=by
 by_cases e:j=i
 ·subst e;rw[List.getElem?_set_self' ]at h;cases hj:l[j]? with
  |none=>rw[hj]at h;simp at h
  |some z=>rw[hj]at h;simp at h;exact .inl ⟨rfl,h.symm⟩
 rw[Od1 (fun H=>e H.symm)]at h;exact .inr ⟨e,h⟩
theorem SI.turn {I w w' F E bi H mv bl i m y}(h:SI I w F E H mv bl)(hi:H[i]?=some m)(M:Ju (fun k=>F k\/k=m.rb) w w')(O:y.rb=m.rb)(hr:Ksp w' y.N I.ts I.cs y.rb y.R y.ba y.bc y.hv)(bf:∀ k,y.N k->m.N k\/w.heap.size<=k)(bJ:Zb w' F I.d bi)(ht:Top I.D0 bi ((H.set i y).flatMap Mr.ls))(hb:∀ x∈H.set i y,∀ b∈x.R.bs,Kz3 I bi b):SI I w' F bi (H.set i y) mv bl:=by
 have bE:=Of6 hi;have ho:=h.off m bE;have bD:=h.runs m bE;have bP:=Jd h.st;have bN:(H.set i y).map (·.rb)=H.map (·.rb):=by
  rw[Op0,O];refine Oi8 fun j=>?_;by_cases e:j=i
  ·subst e;rw[List.getElem?_set_self'];rw[Ob1,hi];rfl
  rw[Od1 (fun bH=>e bH.symm)]
 have bO:∀ x∈H.set i y,Qbl I mv x:=fun x bh=>by
  rcases List.mem_or_eq_of_mem_set bh with bh|rfl
  ·exact h.off x bh
  exact⟨O▸ho.lo,O▸ho.sb,O▸ho.made,fun k M=>(bf k M).elim (ho.nlo k) (fun U=>by have:=h.old.size;omega),fun K=>(bf _ K).elim ho.nsb (fun U=>zo),fun g Z K=>(bf _ K).elim (ho.nmade g Z) (fun U=>by have:=Qk h.own Z;omega)⟩
 refine⟨(M.block _ bP (fun hh=>hh.elim h.sF (fun e=>ho.sb e.symm))).trans h.st,?_,h.msb,fun x bh=>?_,bO,fun a b bQ mb bK bA bz=>?_,bJ,fun k Y=>Oc2 (h.flt k Y) M.size,h.sF,h.mF,h.ffr,?_,ht,hb⟩
 ·rw[bN];exact Yd h.own fun g Z=>M.block g (Qk h.own Z) (fun hh=>hh.elim (h.mF g Z) (fun e=>ho.made (e▸Z)))
 ·obtain⟨j,bM,e⟩:=Od5 bh;rcases getElem?_set_cases (show (H.set i y)[j]?=some x by rw[Oa3 bM,e])with⟨_,rfl⟩|⟨hji,hjx⟩
  ·refine⟨hr,by rw[O];exact bD.2.1,fun k bC Y=>?_⟩;rcases bf k bC with U|U
   ·exact bD.2.2 k U Y
   have:=h.flt k Y;omega
  have bk:=h.runs x (Of6 hjx);have bG:=h.sep j i x m hjx hi hji;exact⟨bk.1.keep M (fun hh=>hh.elim bk.2.1 bG.1) (fun k K hh=>hh.elim (bk.2.2 k K) (fun e=>bG.2 (e▸K))),bk.2⟩
 ·rcases getElem?_set_cases bK with⟨bI,br⟩|⟨bL,bx⟩
  ·rcases getElem?_set_cases bA with⟨eb,_⟩|⟨bB,bj⟩
   ·exact absurd (bI.trans eb.symm) bz
   have:=h.sep i b m mb hi bj (fun e=>bB e.symm);rw[br];refine⟨O▸this.1,fun K=>(bf _ K).elim this.2 fun U=>?_⟩;have:=Jd (h.runs mb (Of6 bj)).1.cells;omega
  rcases getElem?_set_cases bA with⟨eb,br⟩|⟨bB,bj⟩
  ·rw[br,O];exact h.sep a i bQ m bx hi bL
  exact h.sep _ _ _ _ bx bj bz
 refine h.old.trans' M fun k bC hh=>?_;rcases hh with Y|rfl
 ·exact(h.ffr k Y).resolve_right zo
 have:=ho.lo;omega
end
open Go.RowKit Go.Shelf Tryz
def Rn.rem (R:Rn):List Nat:=R.held++(R.bs.map (·.ids)).flatten
theorem Ky4 {α:Type}:∀ (l:List α) (i:Nat) (m:α),l[i]?=some m->∃ H y,l=H++m::y/\∀ x,l.set i x=H++x::y
 |[],i,m,h=>by simp at h
 |a::l,0,m,h=>by simp at h;subst h;exact⟨[],l,rfl,fun _=>rfl⟩
 |a::l,i+1,m,h=>by
  obtain⟨H,y,I,K⟩:=Ky4 l i m (by simpa using h);exact⟨a::H,y,by rw[I];rfl,fun x=>by rw[List.set_cons_succ,K x];rfl⟩
theorem Qal l:∀ D:DS,(Jf4 D l).pages.length=D.pages.length:=by
 induction l with
 |nil=>intro D;rfl
 |cons a l y=>
  intro D;show (Jf4 (Jae D a) l).pages.length=_;rw[y];unfold Jae;split<;>simp
def dz (E:DS):Nat:=if 0<=E.writes then max E.pages.length E.writes.toNat else 1000000
def Ksy (D:DS)(x:Bool):Prop:=(x=true->D.quota<=950000)/\(x=false->0<D.fail/\D.fail<=950000)
theorem Kyi D l:dz (Jf4 D l)=dz D:=by unfold dz;rw[Qal,(Jin l D).2.2]
theorem Qbo {E}(h:dz E<=950000):E.pages.length<=dz E:=by
 unfold dz at h |-;by_cases y:0<=E.writes
 ·rw[if_pos y];omega
 rw[if_neg y]at h;omega
theorem Qbz ps D(h:dz D+ps.length<=950000):dz (Uy D ps).1<=dz D+ps.length/\∀ x,(Uy D ps).2.2=some x->Ksy D x:=by
 have h0:=h;unfold dz at h0;by_cases y:0<=D.writes
 ·rw[if_pos y]at h0;have I:=Jkf ps D y zo;have U:=(Jrh ps D).1;have K:dz (Uy D ps).1<=dz D+ps.length:=by
   unfold dz;rw[if_pos y,if_pos zo];omega
  refine⟨K,fun x H=>⟨fun e=>?_,fun e=>?_⟩⟩
  ·obtain⟨bi,rest,_,_,E,M,_,bh,hq,_,O,_⟩:=(Jc1 ps D).2 x H;have Y:=O e;have Z:=Kad (Uy D ps).1.pages;have bf:=M.quota;omega
  subst e;have:=I.2.1 H;omega
 rw[if_neg y]at h0;omega
theorem Ksy.of {D E x}(h:Ksy E x)(hq:E.quota=D.quota)(y:E.fail=D.fail):Ksy D x:=by
 unfold Ksy at h |-;rw[hq,y]at h;exact h
structure Kst (K:SC) (w:World) (F:Nat->Prop) (E:DS) (Ms:List Mr) (mv:Value) (bl:Int) (i:Nat) (m m':Mr) (b:Bool) (E':DS) (w':World):Prop where
 rb:m'.rb=m.rb
 place:m'.R.place=m.R.place
 keep:Ju (fun k=>F k\/k=m.rb) w w'
 si:SI K w' F E' (Ms.set i m') mv bl
 rem:m'.R.rem=m.R.held.tail++(m.R.bs.map (·.ids)).flatten
 yes:b=true->m'.R.held≠[]
 no:b=false->m'.R.rem=[]
 new:∀ k,m'.N k->m.N k\/w.heap.size<=k
 pgs:dz E'=dz E
theorem SI.next {y w F E M mv bl i m}(h:SI y w F E M mv bl)(hK:SK y)(hi:M[i]?=some m)(hl:m.R.held.length<=100000):
  Cq 213 #[Pq y.sb,Pq m.rb] w fun e w'=>∃ b bX bN,e=.returned (.tuple #[.bool b,.nilIface])/\Kst y w F E M mv bl i m bX b bN w':=by
 have bh:=Of6 hi;have K:=h.runs m bh;have ho:=h.off m bh;obtain⟨bz,bx,bG,bE⟩:=Ky4 M i m hi;have bM:∀ w',Ju (fun k=>k=m.rb) w w'->Ju (fun k=>F k\/k=m.rb) w w'/\Zb w' F y.d E:=fun w' H=>⟨H.mono fun k _ e=>.inr e,h.disk.stands fun k bD bV=>H.block k bV fun e=>K.2.1 (e▸bD)⟩;by_cases bS:1<m.R.held.length
 ·refine(Ky3 y.sb m.rb y.ts y.cs y.ks m.R m.ba m.bc m.hv w m.N hK.sg K.1 bS hl).mono fun e w' hp=>?_;obtain⟨rfl,H,bi,br,hr,Y⟩:=hp;obtain⟨bf,bC⟩:=bM w' H;refine⟨true,⟨m.rb,⟨m.R.place,m.R.bs,m.R.held.tail⟩,bi,m.ba,m.bc,br⟩,E,rfl,rfl,rfl,bf,h.turn hi bf rfl hr Y bC ?_ ?_,rfl,fun _=>?_,(fun e=>by cases e),Y,rfl⟩
  ·have:=h.top;rw[bG]at this;rw[bE];simpa [Mr.ls] using this
  ·intro x I b hb;rcases List.mem_or_eq_of_mem_set I with I|rfl
   ·exact h.blks x I b hb
   exact h.blks m bh b hb
  intro e;have:=congrArg List.length e;simp at this;omega
 have U:m.R.held.length<=1:=zo;have bL:m.R.held.tail=[]:=by
  cases hh:m.R.held with
  |nil=>rfl
  |cons a l=>rw[hh]at U;simp at U;simp[U]
 cases hbs:m.R.bs with
 |nil=>
  refine(Kyx y.sb m.rb y.ts y.cs y.ks m.R m.ba m.bc m.hv w m.N hK.sg K.1 U hbs).mono fun e w' hp=>?_;obtain⟨rfl,H,hr⟩:=hp;obtain⟨bf,bC⟩:=bM w' H;refine⟨false,⟨m.rb,⟨m.R.place,[],[]⟩,m.N,m.ba,m.bc,Sz⟩,E,rfl,rfl,rfl,bf,h.turn hi bf rfl hr (fun k H=>.inl H) bC ?_ ?_,by simp[Rn.rem,bL,hbs],(fun e=>by cases e),fun _=>rfl,fun k H=>.inl H,rfl⟩
  ·have:=h.top;rw[bG]at this;rw[bE];simpa [Mr.ls,hbs] using this
  intro x I b hb;rcases List.mem_or_eq_of_mem_set I with I|rfl
  ·exact h.blks x I b hb
  cases hb
 |cons b bs=>
  have Z:=h.blks m bh b (by rw[hbs];simp);refine(Kxv y.sb y.d y.tb y.to_ y.tc y.kb y.ko y.kc m.rb y.ts y.cs y.ks y.a0 y.a1 y.a2 y.q y.qw y.pg m.R b bs m.ba m.bc m.hv w m.N F E hK.sg K.1 U hbs (fun X bJ=>?_) h.disk h.flt K.2.2 K.2.1 h.sF Z.2.2.1 Z.2.1 Z.1 Z.2.2.2).mono fun e w' hp=>?_
  ·obtain⟨bA,bj,bO,bP,bQ,bR⟩:=hK.env X (h.old.trans' bJ fun k bZ hh=>by
    rcases hh with bD|rfl
    ·exact(h.ffr k bD).resolve_right zo
    ·have:=ho.lo;omega)
   have bW:Kt5 X y.sb _ _ _ _ _ _:=(bJ.block _ (Jd h.st) (fun hh=>hh.elim h.sF (fun e=>ho.sb e.symm))).trans h.st;obtain⟨⟨bY,s1,_⟩,s3,_⟩:=bW.field;exact⟨⟨bY,s3,bA,⟨s1,bj⟩⟩,bO,bP,bQ,bR⟩
  obtain⟨rfl,H,bT,bi,bH,bI,br,hr,Y⟩:=hp;have bk:=h.top;rw[bG]at bk;have bA:(bz++m::bx).flatMap Mr.ls=bz.flatMap Mr.ls++b.l::(bs.map (·.l)++bx.flatMap Mr.ls):=by simp[Mr.ls,hbs]
  have bj:(M.set i ⟨m.rb,⟨m.R.place,bs,b.ids⟩,bi,bH,bI,br⟩).flatMap Mr.ls=bz.flatMap Mr.ls++(bs.map (·.l)++bx.flatMap Mr.ls):=by rw[bE];simp[Mr.ls]
  rw[bA]at bk;refine⟨true,⟨m.rb,⟨m.R.place,bs,b.ids⟩,bi,bH,bI,br⟩,Jf4 E b.l,rfl,rfl,rfl,H,h.turn hi H rfl hr Y bT (by rw[bj];exact bk.rel) ?_,by simp[Rn.rem,bL,hbs],(fun _ e=>by have:=Z.2.1;rw[show b.ids=[] from e]at this;simp at this),(fun e=>by cases e),Y,Kyi _ _⟩;intro x I O bB;have bU:O.l∈bz.flatMap Mr.ls++(bs.map (·.l)++bx.flatMap Mr.ls):=by
   rw[<-bj];exact Op5.2 ⟨x,I,Of0.2 ⟨O,bB,rfl⟩⟩
  have bK:Kz3 y E O:=by
   rcases List.mem_or_eq_of_mem_set I with I|rfl
   ·exact h.blks x I O bB
   exact h.blks m bh O (by rw[hbs];exact Og1 _ bB)
  exact⟨bk.held_rel bU bK.1,bK.2⟩
