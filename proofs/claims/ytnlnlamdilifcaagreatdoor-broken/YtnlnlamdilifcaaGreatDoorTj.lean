/- pack, walked. -/
import Derived.Test.YtnlnlamdilifcaaGreatDoorTi
set_option maxHeartbeats 4000000
set_option maxRecDepth 100000
namespace Go.Proofs.YtnlnlamdilifcaaGreatDoor
open Go.RowKit Go.Shelf Tryz
attribute [local go_sem] Oc0
theorem Kjq:(prog.info? 9).map (fun i=>(i.zero,i.size,i.bytes))=some (some (.string ⟨#[]⟩),1,16):=zK
structure Kis (w:World) (C0:Array Value) (hv:Value) (W:World) (T:List (List UInt8)):Prop where
 b0:W.heap[w.heap.size]?=some (.cells C0 25 (0,0))
 b1:Boxed W (w.heap.size+1) 22 hv
 b2:Boxed W (w.heap.size+1+1) 100 Sz
 b3:Boxed W (w.heap.size+1+1+1) 77 .nilIface
 own:∃ sv,Boxed W (w.heap.size+1+1+1+1) 100 sv/\Jo W (w.heap.size+7) 9 sv (T.map tv)
 below:Bq w W
 size:w.heap.size+7<=W.heap.size
theorem Kir {W y:World}{row:Option Nat}{k:Nat}{C:Array Value}{t:TypeId}{H:Nat×Nat}(h:W.heap[k]?=some (.cells C t H))(K:W.grownBy y row)(hr:∀ r,row=some r->∃ o:Obj,W.heap[r]?=some o/\o.isCells=false):y.heap[k]?=some (.cells C t H):=by
 refine(K.block k (Jd h) fun e=>?_).trans h;obtain⟨o,ho,I⟩:=hr k e.symm;rw[h]at ho;cases ho
 cases I
theorem Kjl {W H row B e sv xs}(h:Jo W B e sv xs)(I:W.grownBy H row)(hr:∀ r,row=some r->∃ o:Obj,W.heap[r]?=some o/\o.isCells=false):Jo H B e sv xs:=by
 refine Yd h fun g y=>?_;rcases h.2 with⟨hv,_⟩|⟨M,cap,K,hv,_,hb,_⟩
 ·subst hv;simp[Value.ownBlock]at y
 subst hv;simp[Value.ownBlock]at y;subst y;rw[hb];exact Kir hb I hr
theorem Kis.kept {w I hv W K T row}(h:Kis w I hv W T)(y:W.grownBy K row)(hr:∀ r,row=some r->w.heap.size<=r/\∃ o:Obj,W.heap[r]?=some o/\o.isCells=false):Kis w I hv K T:=by
 obtain⟨sv,hs,ho⟩:=h.own;have H:∀ r,row=some r->∃ o:Obj,W.heap[r]?=some o/\o.isCells=false:=fun r e=>(hr r e).2;exact⟨Kir h.b0 y H,Kir h.b1 y H,Kir h.b2 y H,Kir h.b3 y H,⟨sv,Kir hs y H,Kjl ho y H⟩,h.below.grown y h.below.size (fun k e=>(hr k e).1),Ob2 h.size y.size⟩
theorem Kis.ahead {w y hv W H T}(h:Kis w y hv W T)(hb:Bq W H):Kis w y hv H T:=
 h.kept (row:=none) ⟨hb.os,hb.tape,hb.output,hb.size,fun k I _=>hb.block k I⟩ (fun r e=>by cases e)
structure Ki7 (w:World) (a1:Addr) (W:World) (col:Nat):Prop where
 b2:Boxed W (w.heap.size+1+1) 100 Sz
 b3:∃ b,Boxed W (w.heap.size+1+1+1) 77 (Ip 106 b)/\w.heap.size<=b/\W.cell? (Ar b 1)=some (Iq (col:Int))/\W.cell? (Ar b 2)=some (Ie 435 a1)
 below:Bq w W
theorem Ki7.kept {w a1 W I col row}(h:Ki7 w a1 W col)(y:W.grownBy I row)(hr:∀ r,row=some r->w.heap.size<=r/\∃ o:Obj,W.heap[r]?=some o/\o.isCells=false):Ki7 w a1 I col:=by
 obtain⟨b,K,hb,c1,c2⟩:=h.b3;have H:∀ r,row=some r->∃ o:Obj,W.heap[r]?=some o/\o.isCells=false:=fun r e=>(hr r e).2;exact⟨Kir h.b2 y H,⟨b,Kir K y H,hb,cell_kept c1 y H,cell_kept c2 y H⟩,h.below.grown y h.below.size (fun k e=>(hr k e).1)⟩
def Kkr (w:World)(a1:Addr)(r:List (List UInt8)⊕Nat)(e:Ending)(w':World):Prop:=
 Bq w w'/\match r with
  |.inl T=>∃ a cap,e=.returned (.tuple #[.slice a T.length cap,.nilIface])/\Uh w' a (T.map tv)/\∀ b o,a=some (Ar b o)->w.heap.size<=b
  |.inr c=>∃ b,e=.returned (.tuple #[Sz,Ip 106 b])/\w.heap.size<=b/\Yu w' (Ip 106 b) a1 (some (c:Int)) none
theorem Jb4 (w:World)(o:Obj)(k:Nat)(y:k=w.heap.size):(w.alloc o).heap[k]?=some o:=by subst y;exact heap_alloc_new w o
theorem Kkx w y H I K M O U W(hW:(((((((w.alloc y).alloc H).alloc I).alloc K).alloc M).alloc O).alloc U)=W):
  W.heap.size=w.heap.size+7/\W.heap[w.heap.size]?=some y/\W.heap[w.heap.size+1]?=some H/\W.heap[w.heap.size+1+1]?=some I/\W.heap[w.heap.size+1+1+1]?=some K/\W.heap[w.heap.size+1+1+1+1]?=some M/\W.heap[w.heap.size+1+1+1+1+1]?=some O/\W.heap[w.heap.size+1+1+1+1+1+1]?=some U/\Bq w W:=by
 subst hW;refine⟨zS,?_,?_,?_,?_,?_,?_,?_,?_⟩
 ·rw[Oa9 _ _ _ (by simp only[Oa7];omega),Oa9 _ _ _ (by simp only[Oa7];omega),Oa9 _ _ _ (by simp only[Oa7];omega),Oa9 _ _ _ (by simp only[Oa7];omega),Oa9 _ _ _ (by simp only[Oa7];omega),Oa9 _ _ _ zS];exact Jb4 _ _ _ rfl
 ·rw[Oa9 _ _ _ (by simp only[Oa7];omega),Oa9 _ _ _ (by simp only[Oa7];omega),Oa9 _ _ _ (by simp only[Oa7];omega),Oa9 _ _ _ (by simp only[Oa7];omega),Oa9 _ _ _ zS];exact Jb4 _ _ _ (by simp only[Oa7])
 ·rw[Oa9 _ _ _ (by simp only[Oa7];omega),Oa9 _ _ _ (by simp only[Oa7];omega),Oa9 _ _ _ (by simp only[Oa7];omega),Oa9 _ _ _ zS];exact Jb4 _ _ _ (by simp only[Oa7])
 ·rw[Oa9 _ _ _ (by simp only[Oa7];omega),Oa9 _ _ _ (by simp only[Oa7];omega),Oa9 _ _ _ zS];exact Jb4 _ _ _ (by simp only[Oa7])
 ·rw[Oa9 _ _ _ (by simp only[Oa7];omega),Oa9 _ _ _ zS];exact Jb4 _ _ _ (by simp only[Oa7])
 ·rw[Oa9 _ _ _ zS];exact Jb4 _ _ _ (by simp only[Oa7])
 ·exact Jb4 _ _ _ (by simp only[Oa7])
 exact(((((((Oa5 _ w).alloc (Oa2 _) _).alloc zS _).alloc zt _).alloc zt _).alloc zt _).alloc zt _).alloc zt _
theorem Jpf.go {Q a w}(h:Q .normal a w):Jpf Q .normal a w:=h
theorem Kis.more {w O hv y w4 T sv sv'}(h:Kis w O hv y T)(bz:Boxed y (w.heap.size+1+1+1+1) 100 sv)(Z:Jo y (w.heap.size+7) 9 sv (T.map tv))o bi(bf:Jo w4 (w.heap.size+7) 9 sv' (T.map tv++[tv bi]))(H:(y.alloc o).grownBy w4 sv.ownBlock):
  Kis w O hv (w4.setCell (Aq (w.heap.size+1+1+1+1)) sv') (T++[bi])/\KeepsOthers y (w4.setCell (Aq (w.heap.size+1+1+1+1)) sv')/\KpC (w.heap.size+1+1+1+1+1) (w.heap.size+1+1+1+1+1+1) y (w4.setCell (Aq (w.heap.size+1+1+1+1)) sv')/\Boxed w4 (w.heap.size+1+1+1+1) 100 sv:=by
 have bB:=h.size;have bh:∀ g,sv.ownBlock=some g->w.heap.size+7<=g:=fun g H=>(Je Z H).1;have bx:∀ k,k<y.heap.size->sv.ownBlock≠some k->w4.heap[k]?=y.heap[k]?:=fun k I M=>(H.block k zt (Oc5 M)).trans (Oa9 y o k I);have Y:∀ k,k<w.heap.size+7->w4.heap[k]?=y.heap[k]?:=fun k I=>bx k zo fun e=>by have:=bh k e;omega
 have U:Boxed w4 (w.heap.size+1+1+1+1) 100 sv:=(Y _ zo).trans bz;have K:∀ k,k<w.heap.size+7->k≠w.heap.size+1+1+1+1->(w4.setCell (Aq (w.heap.size+1+1+1+1)) sv').heap[k]?=y.heap[k]?:=fun k I M=>(Oa4 _ _ _ _ M).trans (Y k I);have bk:=H.size;rw[Oa7]at bk;have br:(w4.setCell (Aq (w.heap.size+1+1+1+1)) sv').heap.size=w4.heap.size:=by simp[World.setCell]
 refine⟨⟨(K _ zo zo).trans h.b0,(K _ zo zo).trans h.b1,(K _ zo zo).trans h.b2,(K _ zo zo).trans h.b3,⟨sv',U.set sv',?_⟩,?_,by rw[br];omega⟩,?_,⟨K _ zo zo,K _ zo zo⟩,U⟩
 ·rw[Ob8];exact Yd bf fun g bj=>Oa4 _ _ _ _ (by have:=(Je bf bj).1;simp;omega)
 ·exact((h.below.alloc h.below.size o).grown H zt (fun k I=>by have:=bh k I;omega)).setCell (p:=Aq (w.heap.size+1+1+1+1)) zt _
 refine(KeepsOthers.alloc y o).trans ((KeepsOthers.of_grownBy H fun j ob e hob=>?_).trans (KeepsOthers.setCell _ _ _));rcases Z.2 with⟨hv,_⟩|⟨g,cap,bA,hv,_,hb,_⟩
 ·subst hv;simp[Value.ownBlock]at e
 subst hv;simp[Value.ownBlock]at e;subst e;rw[Oa9 _ _ _ (Jd hb),hb]at hob;cases hob
 rfl
theorem Kis.bad {w O hv y T}(h:Kis w O hv y T)name(c:Nat)a1 H(M:H.heap[y.heap.size]?=some (.cells #[.string name,Iq (c:Int),Ie 435 a1] 108 (0,0)))(U:Boxed H (w.heap.size+1+1) 100 Sz)(Y:Boxed H (w.heap.size+1+1+1) 77 (Ip 106 y.heap.size))(hb:Bq w H)(hs:y.heap.size<=H.heap.size)(ho:∀ k,k<y.heap.size->k≠w.heap.size+1+1->k≠w.heap.size+1+1+1->H.heap[k]?=y.heap[k]?):Ki7 w a1 H c/\KeepsOthers y H:=by
 have Z:=h.size;refine⟨⟨U,⟨y.heap.size,Y,zo,by simp[World.cell?,M],by simp[World.cell?,M]⟩,hb⟩,hs,fun k o I K=>?_⟩;refine(ho k (Jd I) (fun e=>?_) (fun e=>?_)).trans I
 ·subst e;rw[show y.heap[w.heap.size+1+1]?=_ from h.b2]at I;cases I
  cases K
 subst e;rw[show y.heap[w.heap.size+1+1+1]?=_ from h.b3]at I;cases I
 cases K
theorem Kis.badA {w H hv y T}(h:Kis w H hv y T)name(c:Nat)a1:
  Ki7 w a1 (((y.alloc (.cells #[.string name,Iq (c:Int),Ie 435 a1] 108)).setCell (Aq (w.heap.size+1+1)) Sz).setCell (Aq (w.heap.size+1+1+1)) (Ip 106 y.heap.size)).drew c /\
  KeepsOthers y (((y.alloc (.cells #[.string name,Iq (c:Int),Ie 435 a1] 108)).setCell (Aq (w.heap.size+1+1)) Sz).setCell (Aq (w.heap.size+1+1+1)) (Ip 106 y.heap.size)).drew:=by
 have U:=h.size;have M:Boxed ((y.alloc (.cells #[.string name,Iq (c:Int),Ie 435 a1] 108)).setCell (Aq (w.heap.size+1+1)) Sz) (w.heap.size+1+1+1) 77 .nilIface:=(Oa4 _ _ _ _ zS).trans (h.b3.alloc _);refine h.bad name c a1 _ ?_ ?_ ?_ ?_ ?_ ?_
 ·exact(Oa4 _ _ _ _ zt).trans ((Oa4 _ _ _ _ zt).trans (heap_alloc_new _ _))
 ·exact(Oa4 _ _ _ _ zS).trans ((h.b2.alloc _).set _)
 ·exact M.set _
 ·exact(((h.below.alloc h.below.size _).setCell (p:=Aq (w.heap.size+1+1)) zt _).setCell (p:=Aq (w.heap.size+1+1+1)) zt _).drew
 ·show y.heap.size<=((((y.alloc _).setCell _ _).setCell _ _).heap).size;simp[World.setCell]
 intro k O I K;exact(Oa4 _ _ _ _ K).trans ((Oa4 _ _ _ _ I).trans (Oa9 _ _ _ O))
theorem Kis.badB {w K hv y T}(h:Kis w K hv y T)name(c:Nat)a1:
  Ki7 w a1 (((y.setCell (Aq (w.heap.size+1+1)) Sz).alloc (.cells #[.string name,Iq (c:Int),Ie 435 a1] 108)).setCell (Aq (w.heap.size+1+1+1)) (Ip 106 y.heap.size)).drew c /\
  KeepsOthers y (((y.setCell (Aq (w.heap.size+1+1)) Sz).alloc (.cells #[.string name,Iq (c:Int),Ie 435 a1] 108)).setCell (Aq (w.heap.size+1+1+1)) (Ip 106 y.heap.size)).drew:=by
 have Z:=h.size;have H:(y.setCell (Aq (w.heap.size+1+1)) Sz).heap.size=y.heap.size:=by simp[World.setCell]
 have U:Boxed ((y.setCell (Aq (w.heap.size+1+1)) Sz).alloc (.cells #[.string name,Iq (c:Int),Ie 435 a1] 108)) (w.heap.size+1+1+1) 77 .nilIface:=Boxed.alloc ((Oa4 _ _ _ _ zS).trans h.b3) _;have I:=heap_alloc_new (y.setCell (Aq (w.heap.size+1+1)) Sz) (.cells #[.string name,Iq (c:Int),Ie 435 a1] 108);rw[H]at I;refine h.bad name c a1 _ ?_ ?_ ?_ ?_ ?_ ?_
 ·exact(Oa4 _ _ _ _ zt).trans I
 ·exact(Oa4 _ _ _ _ zS).trans ((h.b2.set _).alloc _)
 ·exact U.set _
 ·exact(((h.below.setCell (p:=Aq (w.heap.size+1+1)) zt _).alloc (by rw[H];omega) _).setCell (p:=Aq (w.heap.size+1+1+1)) zt _).drew
 ·show y.heap.size<=((((y.setCell _ _).alloc _).setCell _ _).heap).size;simp[World.setCell]
 intro k Y M O;exact(Oa4 _ _ _ _ O).trans ((Oa9 _ _ _ (by rw[H];exact Y)).trans (Oa4 _ _ _ _ M))
theorem Jqm {name ts hs rs rows}(bf:Jel name ts rs)(Z:∀ r∈rows,r∈rs)(Y:rows.length<=64)c(bk:c<ts.length)(br:hs.length=ts.length)(bi:∀ j (H:j<hs.length),way (ts.getD j 0) hs[j]=true):
  (Uo rows ts hs c).2=0\/(Uo rows ts hs c).2=2:=by
 have bh:=bi c zo;have K:hs.getD c 0=hs[c]' zo :=by simp[show c<hs.length by omega]
 have O:Jfr (ts.getD c 0) (Jaj rows c)=true:=by
  rw[Jfd];refine⟨by simpa [Jaj] using Y,fun j H=>?_⟩;have M:j<rows.length:=by simpa [Jaj] using H
  obtain⟨i,hi,U⟩:=Od5 (Z _ (Ob3 M));obtain⟨bj,I⟩:=bf.2.2.2 i hi;have y:c<(rs[i]).length:=zo;have:=I c y;have e:(Jaj rows c)[j]=(rs[i])[c]:=by
   simp only[Jaj,Od9,Oa0];simp only[<-U,Oa3 y,Option.getD_some]
  rw[e];exact this
 unfold Uo Jev;rw[K,bh,O,Bool.and_self,if_pos rfl];split
 ·exact .inr rfl
 exact .inl rfl
theorem zbd {p:Prop}(h:p:=by obtain⟨i,hi,rfl⟩:=Od5 (cc.out r hr);have:=(bO.2.2.2 i hi).1;omega):p:=h
theorem zbe {p:Prop}(h:p:=by exact⟨bU.trans (((Kiz bJ).trans bA.2).from _),rfl,c,br.out,bA.1⟩):p:=h
theorem Kkk name at_ ar bI(ct cr ch g:Nat)ts hs xs rs w(bO:Jel name ts rs)(cI:Hid (hs.length=ts.length))(cY:∀ j (fr:j<hs.length),way (ts.getD j 0) hs[j]=true)(bD:1<=g)(dE:g<=64)(dL:rs.length<=cr)(bA:Kc w at_ ts)(hh:Kc w bI hs)(hy:Zd w ar xs rs)(dh:Hid (∀ x∈hs,Qaq x))a0 a1 a2(cR:Jf0 w a0 a1 a2):
  Cq 42 #[.agg #[.string name,.slice at_ ts.length ct,.slice ar rs.length cr],.slice bI hs.length ch,Iq (g:Int)] w fun e w'=>Kkr w a1 (Jfg rs ts hs (cks rs.length g (ckN rs.length g))) e w':=by
 refine(callsIn_wide (n:=3)).1 ?_;refine callsIn_of_wp_marks func42 rfl trivial ?_ rfl;simp only[ntmps42,Om3,List.length_cons,List.length_nil,Nat.reduceAdd,Nat.reduceSub,Ok9,Array.replicate_zero,Om4,Ol2,List.nil_append,List.cons_append];have cQ:=fun (W:World)=>Kke ar rs.length cr g bD W;gi_wp2_with (refine⟨trivial,?_⟩;gi_at_call 61;refine(callsIn_wide.2 (cQ _)).mono ?_;rintro e w' ⟨rfl,rfl⟩)
 generalize cP:World.alloc _ (Obj.cells #[Iq (g:Int)] 3)=cf;obtain⟨cW,dp,dq,dr,ds,dt,cL,cM,dA⟩:=Kkx w _ _ _ _ _ _ _ cf cP;have bH:=zh cW;clear cP cW cQ;have dO:rs.length=0\/∃ b o,ar=some ⟨b,o,none⟩:=by
  rcases hy.cells with h|⟨b,o,h,_⟩
  ·left;have:=congrArg List.length h;simp[hy.len]at this;exact Od3.2 this
  exact .inr ⟨b,o,h⟩
 have fs:rs.length<=200:=bO.2.2.1;refine wpIn_rangeFunc_ownG rfl zo (gf:=82) (lb:=#[Pq (w.heap.size+1+1+1+1+1),Pq (w.heap.size+1+1+1+1+1+1)]) rfl trivial (enters_of func82 zK rfl)
  (Kjw 2 zo (w.heap.size+1+1+1+1+1) (w.heap.size+1+1+1+1+1+1) ar rs.length cr g bD dE zo dL dO cf (Jd cL) (Jd cM) (by simp[World.cell?,cL]) (by simp[World.cell?,cM]))
  (fun h k=>⟨k.1.trans h.1,k.2.trans h.2⟩) ?hKb (Oa5 _ _) (fun _=>rfl)
  (fun bh W=>∃ T,Jfg rs ts hs (bh.map Subtype.val)=.inl T/\T.length<=bh.length*6/\Kis w #[.string name,.slice at_ ts.length ct,.slice ar rs.length cr] (.slice bI hs.length ch) W T)
  (fun c bh W=>c=.ret/\∃ col,Jfg rs ts hs (bh.map Subtype.val)=.inr col/\Ki7 w a1 W col)
  ?hI ?hIx ?h0
  (fun x=>{tmps:=#[.agg #[.string name,.slice at_ ts.length ct,.slice ar rs.length cr],.slice bI hs.length ch,Iq (g:Int),Pq w.heap.size,Pq (w.heap.size+1),undef,Pq (w.heap.size+1+1),Pq (w.heap.size+1+1+1),Pq (w.heap.size+1+1+1+1),ckV ar x.1,undef,undef,undef,undef,
   (Pr w.heap.size 2),.slice ar rs.length cr,Iq (g:Int),.func (.func 82) #[] #[Pq (w.heap.size+1+1+1+1+1),Pq (w.heap.size+1+1+1+1+1+1)],ckV ar x.1,undef,undef,undef,undef,undef,undef,undef,undef,undef,undef,undef,undef,undef,undef,undef,undef,undef,undef,undef,undef,undef,undef,undef,undef,undef,undef,undef,undef,undef,undef,undef,undef,undef,undef,undef],defers:=[]}) ?assign ?body ?done ?stop
 case hKb=>
  intro W l o fv hl ho cx _;have:=bH.out;exact⟨World.putObj_heap_other zo,World.putObj_heap_other zo⟩
 case hI=>
  rintro s W y row ⟨T,Y,cN,M⟩ bD hr;exact⟨T,Y,cN,M.kept bD fun r e=>⟨by have:=(hr r e).1;have:=bH.out;omega,(hr r e).2⟩⟩
 case hIx=>
  rintro c s W y row ⟨cx,col,Y,M⟩ bD hr;exact⟨cx,col,Y,M.kept bD fun r e=>⟨by have:=(hr r e).1;have:=bH.out;omega,(hr r e).2⟩⟩
 case h0=>exact⟨[],rfl,zS,dp,dq,dr,ds,⟨_,dt,Jo.nil _ _ _⟩,dA,by rw[bH.out];exact Oa2 _⟩
 case assign=>
  intro l x W H hK;gi_wp2
  exact hK
 case body=>
  rintro l bh x W ⟨T,cO,fm,hI⟩ cC;obtain⟨de,dZ,cZ,dP⟩:=hy.piece x;obtain⟨bX,dj⟩:∃ bX,Hid (x.1.2=bX):=⟨_,rfl⟩;have dM:(Uk rs x.1).length<=64:=by have:=x.2;unfold Uk;rw[Oc7];omega
  have cc:Hid (∀ r∈Uk rs x.1,r∈rs):=fun r hr=>Oh7 (Om9 hr);have cJ:Hid (Jfg rs ts hs ((bh++[x]).map Subtype.val)=Jiu rs ts hs (.inl T) x.1):=by show _=_;rw[Ob8,Oe4,Oi4,Juv,cO]
  have fp:ckN rs.length g<=rs.length:=by
   unfold ckN;rw[Nat.div_le_iff_le_mul_add_pred zo];have:rs.length<=g*rs.length:=Nat.le_mul_of_pos_left _ bD;omega
  have cU:(bh++[x]).length=bh.length+1:=zS;have dg:=zh cU;rw[cZ,dj.out];clear cO cZ cU;have cK:Hid (Jiu rs ts hs (.inl T) x.1=match Jeo (Uk rs x.1) ts hs ts.length with|.inl l=>.inl (T++l)|.inr c=>.inr c):=rfl;generalize Uk rs x.1=rows at *;have fu:=bO.2.1.1;have fd:W.cell? ⟨w.heap.size,1,none⟩=some (.slice at_ ts.length ct):=by simp[World.cell?,hI.b0]
  have di:=zh cY;clear cY;gi_wp2
  gi_loopw [22] (fun i wr=>∃ (c:Nat) (L:List (List UInt8)),c<=ts.length/\i=Iq c/\Hid (Jeo rows ts hs c=.inl L)/\Kis w #[.string name,.slice at_ ts.length ct,.slice ar rs.length cr] (.slice bI hs.length ch) wr (T++L)/\KeepsFrom cf.heap.size W wr/\KpC (w.heap.size+1+1+1+1+1) (w.heap.size+1+1+1+1+1+1) W wr) (fun i _=>ts.length-(intOf i).toNat)
  case atStart=>exact⟨0,[],Ob7 _,rfl,rfl,by simpa using hI,KeepsFrom.refl _ _,rfl,rfl⟩
  case round=>
   obtain⟨c,L,cx,rfl,bC,bi,bU,cA⟩:=hrel;have cn:=Jjc rows ts hs c L bC.out;by_cases bV:c<ts.length
   ·have bx:=bi.below;have cS:c<hs.length:=by have:=cI.out;omega
    obtain⟨b1,fw,rfl,fo,fE⟩:=Kc.at (bA.below bx) bV;obtain⟨b2,bB,rfl,bT,bY⟩:=Kc.at (hh.below bx) cS;have c1:=bi.b1.cell;have fc:wr.cell? ⟨w.heap.size,0,none⟩=some (.string name):=by simp[World.cell?,bi.b0]
    have cy:=Jqm bO cc.out dM c bV cI.out di.out;have cz:Uo rows ts hs c=Jev ts[c] hs[c] (Jaj rows c):=(by simp[Uo,bV,cS]);rw[cz]at cy;have bP:=zh cz;have cH:Hid (∀ y,Bq w y->Cq 63 #[.slice de rows.length bX,Iq (c:Int)] y fun e w'=>∃ v,e=.returned v/\Jc9 y w' (Jaj rows c) v/\Bq y w'):=fun y cu=>by
     refine Kj5 de bX dZ rows c y zo (dP.below cu) (fun r hr=>?_) (fun r hr=>?_)
     ·exact zbd
     exact zbd
    have bQ:Hid (∀ y b,Bq w y->Kv y b (Jaj rows c) []->Cq 62 #[Iq ts[c],Iq hs[c],Sq b (Jaj rows c).length (Jaj rows c).length] y fun e w'=>e=.returned (.tuple #[.string (Qw (Jev ts[c] hs[c] (Jaj rows c)).1),Jk9 a0 a1 (Jev ts[c] hs[c] (Jaj rows c)).2])/\Bq y w'):=fun y b cu dK=>
     (dh.out hs[c] (Ob3 _)).pack ts[c] (some ⟨b,0,none⟩) _ (Jaj rows c) y (by unfold maxLen;simp[Jaj];omega) dK.vals a0 a1 a2 (cR.below cu)
    have df:=zh cn;have ft:prog.follows .mixedOrders=true:=zK;clear cz cn bA hh hy cR;generalize cV:Jev ts[c] hs[c] (Jaj rows c)=dU at *;obtain⟨bK,pc⟩:=dU;simp only at cy;rcases cy with rfl|rfl
    ·have ca:Hid (Jeo rows ts hs (c+1)=.inl (L++[bK])):=by show _=_;simp only[Jeo,bC.out,bP.out];rfl
     clear cV bC bP;have bM:=bi.b1.lt;have cb:Hid (∀ y b,Bq w y->Kv y b (Jaj rows c) []->Cq 62 #[Iq ts[c],Iq hs[c],Sq b (Jaj rows c).length (Jaj rows c).length] y fun e w'=>e=.returned (.tuple #[.string (Qw bK),.nilIface])/\Bq y w'):=bQ.out;clear bQ;gi_wp2
     refine Kix (S:=fun X=>X.cell? ⟨w.heap.size+1,0,none⟩=some (Sr b2 bB hs.length ch)/\X.cell? ⟨b2,bB+c,none⟩=some (Iq hs[c])/\Bq w X) zK zK ⟨c1,bY,bx.drew⟩ (fun I=>?_);refine tkj 0 rfl I ?_;refine tkj 1 rfl I ?_;refine tkj 2 rfl I ?_;refine tkj 3 rfl I ?_;refine tkj 4 rfl I ?_;refine tkj 5 rfl I ?_;refine tkj 6 rfl I ?_;refine tkn ?_;refine tkr 7 rfl fun H hK=>?_;go_simp;refine(cH.out _ I.2.2).mono ?_;rintro e dY ⟨v,rfl,⟨bq,rfl,dC,cD⟩,bf⟩;go_simp;obtain⟨kk,_⟩:=Kx bf;refine hK.out _ _ ⟨(kk (w.heap.size+1) 0 bM).trans c1,(kk b2 (bB+c) bT).trans bY,bx.trans ((Jw bf).mono bx.size)⟩ (fun O=>?_);clear hK H kk I;refine tkr 8 rfl fun H hK=>?_;go_simp;refine(cb.out _ _ O.2.2 cD).mono ?_;rintro e K ⟨rfl,bk⟩;go_simp;obtain⟨kk,_⟩:=Kx bk;have bj:=bf.size;refine hK.out _ _ ⟨(kk (w.heap.size+1) 0 (Oc2 bM bj)).trans O.1,(kk b2 (bB+c) (Oc2 bT bj)).trans O.2.1,O.2.2.trans (bk.mono O.2.2.size)⟩ (fun Z=>?_);clear hK H kk O;refine tkj 9 rfl Z ?_;refine tkj 10 rfl Z ?_;refine tkj 11 rfl Z ?_;refine tkj 12 rfl Z ?_;refine tkj 13 rfl Z ?_;refine tkn ?_;refine wpAnyH_done zK (Jpf.go ?_) _;have U:=bi.ahead ((Jw bf).trans (bk.mono bj));obtain⟨sv,bW,bG⟩:=U.own;have c4:=bW.cell;obtain⟨dT,hi,dQ,dR,dS⟩:=info_parts Kjq;have fl:(List.map tv (T++L)).length<=2000:=by rw[Oa6,Oa8,df.out];omega
     have dv:=U.size;obtain⟨fD,sc,bN,_⟩:=bG.cells;rw[Oa6,Oa8]at bN;subst bN;gi_wp2_with (gi_at_builtin;go_must (refine wpListIn_append_own _ rfl _ _ 100 rfl (w.heap.size+7) 9 dT _ 1 16 underlying100 hi dQ dR dS rfl zd _ _ _ rfl (Jo.alloc bG _) ⟨K.heap.size,0,none⟩ 1 1 [tv bK] rfl rfl (by exact Ua K _ _) (by intro u cX;simp at cX;subst cX;rfl) (by unfold maxLen;omega) zo zt ?_);intro dX w4 cT dG _;go_must (have bE:=U.more bW bG _ bK (sv':=dX) (w4:=w4) (by unfold Jo;simpa [On5] using cT) dG);go_must (obtain⟨fk,ff,dN⟩:=ownsRow_succ cT);subst dN;have fe:=bE.2.2.2.cell;have fi:=bE.2.2.2.frozen)
     go_roundw
     case rel=>
      have bJ:Bq wr K:=(Jw bf).trans (bk.mono bj);have dI:=Kiz bJ;rw[Oa6,Oa8]at bE;refine⟨c+1,L++[bK],zo,zn,ca.out,by rw[<-Od8];exact bE.1,bU.trans ((dI.trans bE.2.1).from _),?_,?_⟩
      ·exact(bE.2.2.1.1.trans (bJ.block _ (by have:=bi.size;omega))).trans cA.1
      exact(bE.2.2.1.2.trans (bJ.block _ (by have:=bi.size;omega))).trans cA.2
     case measure=>simp[intOf];omega
    have ca:Hid (Jeo rows ts hs ts.length=.inr c):=Kkc rows ts hs c (c+1) ts.length (by simp only[Jeo,bC.out,bP.out];rfl) bV;clear cV bC bP;have bM:=bi.b1.lt;have cb:Hid (∀ y b,Bq w y->Kv y b (Jaj rows c) []->Cq 62 #[Iq ts[c],Iq hs[c],Sq b (Jaj rows c).length (Jaj rows c).length] y fun e w'=>e=.returned (.tuple #[.string (Qw bK),Ie 435 a1])/\Bq y w'):=bQ.out;clear bQ;gi_wp2
    refine Kix (S:=fun X=>X.cell? ⟨w.heap.size+1,0,none⟩=some (Sr b2 bB hs.length ch)/\X.cell? ⟨b2,bB+c,none⟩=some (Iq hs[c])/\Bq w X) zK zK ⟨c1,bY,bx.drew⟩ (fun I=>?_);refine tkj 0 rfl I ?_;refine tkj 1 rfl I ?_;refine tkj 2 rfl I ?_;refine tkj 3 rfl I ?_;refine tkj 4 rfl I ?_;refine tkj 5 rfl I ?_;refine tkj 6 rfl I ?_;refine tkn ?_;refine tkr 7 rfl fun H hK=>?_;go_simp;refine(cH.out _ I.2.2).mono ?_;rintro e dY ⟨v,rfl,⟨bq,rfl,dC,cD⟩,bf⟩;go_simp;obtain⟨kk,_⟩:=Kx bf;refine hK.out _ _ ⟨(kk (w.heap.size+1) 0 bM).trans c1,(kk b2 (bB+c) bT).trans bY,bx.trans ((Jw bf).mono bx.size)⟩ (fun O=>?_);clear hK H kk I;refine tkr 8 rfl fun H hK=>?_;go_simp;refine(cb.out _ _ O.2.2 cD).mono ?_;rintro e K ⟨rfl,bk⟩;go_simp;obtain⟨kk,_⟩:=Kx bk;have bj:=bf.size;refine hK.out _ _ ⟨(kk (w.heap.size+1) 0 (Oc2 bM bj)).trans O.1,(kk b2 (bB+c) (Oc2 bT bj)).trans O.2.1,O.2.2.trans (bk.mono O.2.2.size)⟩ (fun Z=>?_);clear hK H kk O;refine tkj 9 rfl Z ?_;refine tkj 10 rfl Z ?_;refine tkj 11 rfl Z ?_;refine tkj 12 rfl Z ?_;refine tkj 13 rfl Z ?_;refine tkn ?_;refine wpAnyH_done zK (Jpf.go ?_) _;have U:=bi.ahead ((Jw bf).trans (bk.mono bj));have bJ:Bq wr K:=(Jw bf).trans (bk.mono bj);have br:Hid (Jfg rs ts hs ((bh++[x]).map Subtype.val)=.inr c):=by show _=_;rw[cJ.out,cK.out,ca.out]
    have ci:K.cell? ⟨w.heap.size,0,none⟩=some (.string name):=by simp[World.cell?,U.b0]
    have dW:=U.b2.cell;have dV:=U.b2.frozen;have dd:=U.b3.cell;have dc:=U.b3.frozen;have dv:=U.size;gi_wp2
    refine Kix (S:=fun X=>X.cell? ⟨w.heap.size,0,none⟩=some (.string name)) zK zK ci (fun bL=>?_);refine tkj 0 rfl bL ?_;refine tkj 1 rfl bL ?_;refine tkj 2 rfl bL ?_;refine tkj 3 rfl bL ?_;refine tkj 4 rfl bL ?_;refine tkn ?_;have fA:∀ o,(K.alloc o).cell? ⟨w.heap.size+1+1,0,none⟩=some Sz :=fun o=>(Jnf K o _ 0 zo).trans dW;have fx:∀ o,(K.alloc o).frozen? ⟨w.heap.size+1+1,0,none⟩=false:=fun o=>(Jh9 K o _ 0 zo).trans dV;have fB:∀ o,(K.alloc o).cell? ⟨w.heap.size+1+1+1,0,none⟩=some .nilIface:=fun o=>(Jnf K o _ 0 zo).trans dd;have fy:∀ o,(K.alloc o).frozen? ⟨w.heap.size+1+1+1,0,none⟩=false:=fun o=>(Jh9 K o _ 0 zo).trans dc;refine wpAnyH_ready (rs:=[5,7]) zK zS (AllReadyH.cons rfl (fun H hK=>?_) (AllReadyH.cons rfl (fun H hK=>?_) AllReadyH.nil))
    ·go_simp;refine hK.out _ _ ((Jnf K _ _ _ zo).trans ci) (fun bR=>?_);clear hK H;refine tkj 6 rfl bR ?_;refine tkn ?_;refine tkr 7 rfl fun H hK=>?_;go_simp;refine hK.out _ _ ((Ob5 _ _ _ _ zS).trans bR) (fun bS=>?_);clear hK H;refine tkr 8 rfl fun H hK=>?_;go_simp;refine hK.out _ _ ((Ob5 _ _ _ _ zS).trans bS) (fun dx=>?_);clear hK H;refine wpAnyH_done zK (Jpf.go ?_) _;gi_wp2
     have bA:=U.badA name c a1;exact zbe
    go_simp;refine hK.out _ _ ((Ob5 _ _ _ _ zS).trans ci) (fun bR=>?_);clear hK H;have cE:(K.setCell ⟨w.heap.size+1+1,0,none⟩ Sz).heap.size=K.heap.size:=by simp[World.setCell]
    have fC:∀ o,((K.setCell ⟨w.heap.size+1+1,0,none⟩ Sz).alloc o).cell? ⟨w.heap.size+1+1+1,0,none⟩=some .nilIface:=fun o=>(Jnf _ o _ 0 (by rw[cE];omega)).trans ((Ob5 _ _ _ _ zS).trans dd);have fz:∀ o,((K.setCell ⟨w.heap.size+1+1,0,none⟩ Sz).alloc o).frozen? ⟨w.heap.size+1+1+1,0,none⟩=false:=fun o=>(Jh9 _ o _ 0 (by rw[cE];omega)).trans ((On9 _ _ _ _).trans dc);refine tkr 5 rfl fun H hK=>?_;go_simp;refine hK.out _ _ ((Jnf _ _ _ _ (by rw[cE];omega)).trans bR) (fun bS=>?_);clear hK H;refine tkj 6 rfl bS ?_;refine tkn ?_;refine tkr 8 rfl fun H hK=>?_;go_simp;refine hK.out _ _ ((Ob5 _ _ _ _ zS).trans bS) (fun dx=>?_);clear hK H;refine wpAnyH_done zK (Jpf.go ?_) _;gi_wp2
    have bA:=U.badB name c a1;exact zbe
   obtain rfl:c=ts.length:=zo;have br:Hid (Jfg rs ts hs ((bh++[x]).map Subtype.val)=.inl (T++L)):=by show _=_;rw[cJ.out,cK.out,bC.out]
   clear cn;gi_wp2
   exact⟨bU,cA,T++L,br.out,by rw[dg.out,Oa8,Jjc rows ts hs _ L bC.out];omega,bi⟩
 case done=>
  rintro D fF W dw da ⟨T,Y,cN,M⟩ hK;rw[da]at Y;obtain⟨sv,bW,bG⟩:=M.own;obtain⟨a,cap,bN,fq⟩:=bG.cells;rw[Oa6]at bN;subst bN;have c4:=bW.cell;have c2:=M.b2.cell;have fg:=M.b2.frozen;have c3:=M.b3.cell;have fh:=M.b3.frozen;have br:=zh Y;have bZ:=M;replace bZ:Hid (Kis w #[.string name,.slice at_ ts.length ct,.slice ar rs.length cr] (.slice bI hs.length ch) W T):=bZ;clear Y M da;gi_wp2
  have cj:=((KeepsOthers.setCell W ⟨w.heap.size+1+1,0,none⟩ (.slice a T.length cap)).trans (KeepsOthers.setCell _ ⟨w.heap.size+1+1+1,0,none⟩ .nilIface)).same D _ hK rfl;refine⟨zS,.inl ⟨_,_,rfl,run_takeDeferred cj,?_⟩⟩;have g2:((W.setCell ⟨w.heap.size+1+1,0,none⟩ (.slice a T.length cap)).setCell ⟨w.heap.size+1+1+1,0,none⟩ .nilIface).cell? ⟨w.heap.size+1+1,0,none⟩=some (.slice a T.length cap):=by
   rw[Ob5 _ _ _ _ zS];exact World.cell?_setCell_same' _ _ _ (by rw[c2];rfl)
  have du:((W.setCell ⟨w.heap.size+1+1,0,none⟩ (.slice a T.length cap)).setCell ⟨w.heap.size+1+1+1,0,none⟩ .nilIface).cell? ⟨w.heap.size+1+1+1,0,none⟩=some .nilIface:=
   World.cell?_setCell_same' _ _ _ (by rw[Ob5 _ _ _ _ zS,c3];rfl)
  have bz:∀ r,some D=some r->∃ o:Obj,((W.setCell ⟨w.heap.size+1+1,0,none⟩ (.slice a T.length cap)).setCell ⟨w.heap.size+1+1+1,0,none⟩ .nilIface).heap[r]?=some o/\o.isCells=false:=fun r e=>by cases e;exact⟨_,cj,rfl⟩
  have cF:=cell_kept g2 (grownBy_putObj' _ D (.deferred none)) bz;have cG:=cell_kept du (grownBy_putObj' _ D (.deferred none)) bz;refine⟨.tuple #[.slice a T.length cap,.nilIface],by simp[results,Tryz.f42,go_sem,cF,cG],?_⟩;rw[br.out];have cv:Bq w ((W.setCell ⟨w.heap.size+1+1,0,none⟩ (.slice a T.length cap)).setCell ⟨w.heap.size+1+1+1,0,none⟩ .nilIface):=(bZ.out.below.setCell (p:=⟨w.heap.size+1+1,0,none⟩) zt _).setCell (p:=⟨w.heap.size+1+1+1,0,none⟩) zt _;have dJ:Jo ((W.setCell ⟨w.heap.size+1+1,0,none⟩ (.slice a T.length cap)).setCell ⟨w.heap.size+1+1+1,0,none⟩ .nilIface) (w.heap.size+7) 9 (.slice a T.length cap) (T.map tv):=Yd bG fun fj dD=>by
   have:=(Je bG dD).1;rw[Oa4 _ _ _ _ zt,Oa4 _ _ _ _ zt]
  have cB:=Kjl dJ (grownBy_putObj' _ D (.deferred none)) bz;refine⟨cv.trans (belowK_b (w:=w) (Oa2 _) _ D _ _ (by have:=bH.out;omega) cj rfl rfl),a,cap,rfl,(Jji cB).1,fun b o hb=>?_⟩;have:=(Je cB ((Jji cB).2 b o hb)).1;omega
 case stop=>
  rintro D c bh W dw ⟨k,dH,cC⟩ ⟨rfl,col,Y,M⟩ hK;rw[cC]at Y;obtain⟨fG,db⟩:=Jvd rs.length g k _ dH;have br:Hid (Jfg rs ts hs (cks rs.length g (ckN rs.length g))=.inr col):=by show _=_;rw[db];exact Kkl rs ts hs _ _ _ Y
  obtain⟨b,dy,dB,dl,dm⟩:=M.b3;have c2:=M.b2.cell;have c3:=dy.cell;have cv:=M.below;clear Y M cC db;gi_wp2
  have bz:∀ r,some D=some r->∃ o:Obj,W.heap[r]?=some o/\o.isCells=false:=fun r e=>by cases e;exact⟨_,hK,rfl⟩
  refine⟨zS,.inl ⟨_,_,rfl,run_takeDeferred hK,?_⟩⟩;have cF:=cell_kept c2 (grownBy_putObj' _ D (.deferred none)) bz;have cG:=cell_kept c3 (grownBy_putObj' _ D (.deferred none)) bz;refine⟨.tuple #[Sz,Ip 106 b],by simp[results,Tryz.f42,go_sem,cF,cG],?_⟩;rw[br.out];exact⟨cv.trans (belowK_b (w:=w) (Oa2 _) _ D _ _ (by have:=bH.out;omega) hK rfl rfl),b,rfl,dB,.tab b a1 col (cell_kept dl (grownBy_putObj' _ D (.deferred none)) bz) (cell_kept dm (grownBy_putObj' _ D (.deferred none)) bz)⟩
