/- A run without rows is added to a sorting. -/
import Derived.Test.YtnlnlamdilifcaaGreatDoorBt
namespace Go.Proofs.YtnlnlamdilifcaaGreatDoor
section
open Go.RowKit Go.Shelf Tryz
def Ksj (rb p:Nat):Mr:=⟨rb,⟨p,[],[]⟩,fun _=>False,none,0,Sz⟩
structure Qd4 (K:SC) (w:World) (F:Nat->Prop) (E:DS) (Ms:List Mr) (mv:Value) (bl:Int) (p:Nat) (mv':Value) (w':World):Prop where
 keep:Ju (fun k=>k=K.sb\/mv.ownBlock=some k) w w'
 sw:SW K w' F E (Ms++[Ksj w.heap.size p]) mv' bl Ms.length (Ksj w.heap.size p)
 own:mv'.ownBlock=mv.ownBlock\/∃ g,mv'.ownBlock=some g/\w.heap.size<g
theorem SI.add {I w F E H mv bl}(h:SI I w F E H mv bl)(hK:SK I)(O:H.length<=900000)p:
  Cq 247 #[Pq I.sb,Iq (p:Nat)] w fun e w'=>e=.returned (rpV w.heap.size)/\∃ Z,Qd4 I w F E H mv bl p Z w':=by
 have bL:=Jd h.st;refine(Qad I.sb I.d p _ _ mv I.bu bl (H.map (·.rb)) I.w0.heap.size w h.st h.own h.old.size h.msb (by rw[Oa6];exact O)).mono ?_;rintro e w' ⟨rfl,K,bz,Z,bM,bJ,hob⟩;refine⟨rfl,Z,K,?_,hob⟩;have bx:∀ g,mv.ownBlock=some g->I.w0.heap.size<=g/\g<w.heap.size:=fun g M=>Je h.own M;have bi:∀ g,Z.ownBlock=some g->mv.ownBlock=some g\/w.heap.size<g:=fun g M=>by
  rcases hob with e|⟨bO,e,hl⟩
  ·exact .inl (e.symm.trans M)
  exact .inr (by have:=Oj6 (e.symm.trans M);omega)
 have nb:∀ k,k<w.heap.size->mv.ownBlock≠some k->Z.ownBlock≠some k:=fun k hl bG e=>(bi k e).elim bG fun bP=>by omega
 have bQ:=Jd bz;have bI:∀ m∈H,Kxe w' F I.ts I.cs m:=fun m y=>⟨(h.runs m y).1.keep K (fun e=>e.elim (h.off m y).sb (h.off m y).made) (fun k O e=>e.elim (fun e=>(h.off m y).nsb (e▸O)) fun e=>(h.off m y).nmade k e O),(h.runs m y).2⟩;have bH:Kxe w' F I.ts I.cs (Ksj w.heap.size p):=⟨⟨bz,.inl rfl,(fun x o e=>by cases e),Oa2 _,(fun b hb=>by cases hb),.inl ⟨rfl,rfl⟩,id,fun k K=>K.elim⟩,fun e=>Oe3 _ (h.flt _ e),fun k K=>K.elim⟩;have bD:(H++[Ksj w.heap.size p])[H.length]?=some (Ksj w.heap.size p):=zS;have bj:∀ (i:Nat) m,(H++[Ksj w.heap.size p])[i]?=some m->H[i]?=some m\/(i=H.length/\m=Ksj w.heap.size p):=fun i m hi=>by
  by_cases hl:i<H.length
  ·rw[Ob0 hl]at hi;exact .inl hi
  rw[Ob6 zo]at hi;have h0:i-H.length=0:=by
   have:=(Ob9.1 hi).1;simp at this;omega
  rw[h0]at hi;exact .inr ⟨zo,(Oj6 hi).symm⟩
 have br:∀ m,m∈H++[Ksj w.heap.size p]->m∈H\/m=Ksj w.heap.size p:=fun m y=>by
  rcases Od2.1 y with y|y
  ·exact .inl y
  exact .inr (Oc6.1 y)
 have bk:∀ m∈H,m.rb<w.heap.size:=fun m y=>Jd (h.runs m y).1.cells;have bK:SI I w' F E (H++[Ksj w.heap.size p]) Z bl:=by
  refine⟨bM,?_,fun e=>nb _ bL h.msb e,fun m y=>(br m y).elim (bI m) fun e=>e▸bH,fun m y=>?_,fun i j bf bh hi Y bE=>?_,h.disk.stands fun k U hl=>K.block k hl fun e=>e.elim (fun e=>h.sF (e▸U)) fun e=>h.mF k e U,fun k U=>Oc2 (h.flt k U) K.size,h.sF,fun g M U=>(bi g M).elim (fun e=>h.mF g e U) fun e=>by have:=h.flt g U;omega,h.ffr,h.old.trans' K fun k hl e=>?_,?_,fun m y b hb=>?_⟩
  ·have e:(H++[Ksj w.heap.size p]).map (·.rb)=H.map (·.rb)++[w.heap.size]:=by rw[Ob8];rfl
   rw[e];exact bJ
  ·rcases br m y with y|rfl
   ·have ho:=h.off m y;exact⟨ho.lo,ho.sb,nb _ (bk m y) ho.made,ho.nlo,ho.nsb,fun g M O=>(bi g M).elim (fun e=>ho.nmade g e O) fun e=>by have:=(h.runs m y).1.lt g O;omega⟩
   exact⟨h.old.size,fun e=>by have:w.heap.size=I.sb:=e;omega,fun e=>(bi _ e).elim (fun e=>by have:=(bx _ e).2;exact Oe3 _ this) fun e=>Oe3 _ e,fun k K=>K.elim,id,fun _ _=>id⟩
  ·rcases bj i bf hi with hi|⟨bN,rfl⟩
   ·rcases bj j bh Y with Y|⟨bA,rfl⟩
    ·exact h.sep i j bf bh hi Y bE
    have y:=Of6 hi;exact⟨fun e=>by have bB:=bk bf y;have bC:bf.rb=w.heap.size:=e;omega,fun O=>Oe3 _ ((h.runs bf y).1.lt _ O)⟩
   rcases bj j bh Y with Y|⟨bA,_⟩
   ·exact⟨fun e=>by have bB:=bk bh (Of6 Y);have bC:w.heap.size=bh.rb:=e;omega,id⟩
   omega
  ·rcases e with e|e
   ·have:=hK.sb;omega
   have:=(bx k e).1;omega
  ·rw[Oe8];have:[Ksj w.heap.size p].flatMap Mr.ls=[]:=rfl;rw[this,Od7];exact h.top
  rcases br m y with y|rfl
  ·exact h.blks m y b hb
  cases hb
 exact⟨bK,bD,⟨rfl,.inl ⟨rfl,rfl⟩⟩,⟨rfl,rfl⟩,(fun g M=>by cases M),fun b hb=>by cases hb⟩
end
open Go.RowKit Go.Shelf
theorem NoS.step {M W U F K I O mv Z b}(h:NoS M W F I mv b)(hs:W.heap.size<=U.heap.size)(hF:∀ k,K k->F k\/W.heap.size<=k)(hM:∀ x∈O,(W.heap.size<=x.rb\/∃ y∈I,x.rb=y.rb)/\∀ k,x.N k->(∃ y∈I,y.N k)\/W.heap.size<=k)(bf:∀ g,Z.ownBlock=some g->mv.ownBlock=some g\/W.heap.size<=g):NoS M U K O Z b:=by
 have hl:=h.lt;refine⟨Oc2 hl hs,h.lo,h.sb,fun e=>(bf b e).elim h.mv fun e=>zo,fun e=>(hF b e).elim h.nf fun e=>zo,fun x Y=>⟨fun e=>?_,fun e=>?_⟩⟩
 ·rcases(hM x Y).1 with H|⟨y,hy,H⟩
  ·omega
  exact(h.ms y hy).1 (H.symm.trans e)
 rcases(hM x Y).2 b e with⟨y,hy,H⟩|H
 ·exact(h.ms y hy).2 H
 omega
structure Rv (K:SC) (W:World) (F:Nat->Prop) (Ms:List Mr) (mv:Value) (L b:Nat) (rv:Value) (ps:List Nat):Prop where
 box:W.heap[b]?=some (.cells #[rv] 323 (0,0))
 own:Jo W L 365 rv (ps.map rpV)
 bl:b<L
 nb:NoS K W F Ms mv b
 no:∀ g,rv.ownBlock=some g->NoS K W F Ms mv g
theorem Rv.step {K W Y F O G y U mv bh rv L b ps}(h:Rv K W F y mv L b rv ps)(I:Ju G W Y)(Z:∀ k,NoS K W F y mv k->¬ G k)(hF:∀ k,O k->F k\/W.heap.size<=k)(hM:∀ x∈U,(W.heap.size<=x.rb\/∃ M∈y,x.rb=M.rb)/\∀ k,x.N k->(∃ M∈y,M.N k)\/W.heap.size<=k)(bf:∀ g,bh.ownBlock=some g->mv.ownBlock=some g\/W.heap.size<=g):Rv K Y O U bh L b rv ps:=
 ⟨(I.block b h.nb.lt (Z b h.nb)).trans h.box,Yd h.own fun g H=>I.block g (h.no g H).lt (Z g (h.no g H)),h.bl,h.nb.step I.size hF hM bf,fun g H=>(h.no g H).step I.size hF hM bf⟩
theorem Rv.push {Y W Z K F E I mv rv rv' bl L b r ps}(h:Rv Y W F I mv L b rv ps)(hs:SI Y W F E I mv bl)(O:Bq W Z)(bf:Jo K L 365 rv' ((ps++[r]).map rpV))(M:Z.grownBy K rv.ownBlock)(br:rv'.ownBlock=rv.ownBlock\/rv'.ownBlock=some Z.heap.size):
  Rv Y (K.setCell (Aq b) rv') F I mv L b rv' (ps++[r])/\Ju (fun k=>k=b\/rv.ownBlock=some k) W (K.setCell (Aq b) rv')/\SI Y (K.setCell (Aq b) rv') F E I mv bl:=by
 have bE:=h.bl;have bG:=O.size;have bH:=M.size;have bC:rv.ownBlock≠some b:=fun e=>by have:=(Je h.own e).1;omega
 have bB:rv'.ownBlock≠some b:=fun e=>by have:=(Je bf e).1;omega
 have bA:Ju (fun k=>k=b\/rv.ownBlock=some k) W K:=⟨M.os.trans O.os,M.tape.trans O.tape,M.output.trans O.output,zo,fun k y bh=>(M.block k zo fun e=>bh (.inr e.symm)).trans (O.block k y)⟩;have y:Ju (fun k=>k=b\/rv.ownBlock=some k) W (K.setCell (Aq b) rv'):=Ju.set (F:=fun k=>k=b\/rv.ownBlock=some k) bA (.inl rfl) 0 _;have bx:K.heap[b]?=some (.cells #[rv] 323 (0,0)):=(M.block b (by have:=h.nb.lt;omega) fun e=>bC e.symm).trans ((O.block b h.nb.lt).trans h.box);have U:∀ k,(k=b\/rv.ownBlock=some k)->NoS Y W F I mv k:=fun k y=>y.elim (fun e=>e▸h.nb) (h.no k);have same:=fun (x:Mr) (bk:x∈I)=>(⟨.inr ⟨x,bk,rfl⟩,fun k y=>.inl ⟨x,bk,y⟩⟩:(W.heap.size<=x.rb\/∃ bi∈I,x.rb=bi.rb)/\∀ k,x.N k->(∃ bi∈I,bi.N k)\/W.heap.size<=k);refine⟨⟨by rw[Jk bx];simp,Yd bf fun g H=>Oa4 _ _ _ _ fun e=>bB (by rw[H];exact congrArg some e),h.bl,h.nb.step y.size (fun k y=>.inl y) same (fun g H=>.inl H),fun g H=>?_⟩,y,hs.keep y (fun k y=>(U k y).lo) (fun e=>(U _ e).sb rfl) (fun g H e=>(U _ e).mv H) (fun k bz e=>(U _ e).nf bz) fun m bj=>⟨fun e=>((U _ e).ms m bj).1 rfl,fun k bh e=>((U _ e).ms m bj).2 bh⟩⟩;rcases br with e|e
 ·exact(h.no g (e.symm.trans H)).step y.size (fun k y=>.inl y) same (fun g H=>.inl H)
 have bD:g=Z.heap.size:=Oj6 (H.symm.trans e);refine hs.noS zo ?_;have:=(Je bf H).2;simp;exact this
theorem Ks1 {L W H G}(M:Ju G W H)(U:∀ k,G k->L<=k->∃ o:Obj,W.heap[k]?=some o/\o.isCells=true):KeepsFrom L W H:=
 ⟨M.size,fun k o O y ho=>(M.block k (Jd y) fun e=>by
  obtain⟨Y,I,K⟩:=U k e O;rw[y]at I;cases I
  rw[ho]at K;cases K).trans y⟩
theorem Ktb {w B e sv xs}(h:Jo w B e sv xs){k}(H:sv.ownBlock=some k):∃ o:Obj,w.heap[k]?=some o/\o.isCells=true:=by
 obtain⟨I,y⟩:=Ja4 h H;exact⟨_,y,rfl⟩
theorem SI.narrow {I w F E K mv bl}(h:SI I w F E K mv bl):SI I w (fun k=>F k/\∃ o:Obj,w.heap[k]?=some o/\o.isCells=true) E K mv bl:=
 ⟨h.st,h.own,h.msb,fun m H=>⟨(h.runs m H).1,fun e=>(h.runs m H).2.1 e.1,fun k y e=>(h.runs m H).2.2 k y e.1⟩,h.off,h.sep,h.disk.narrow,fun k y=>h.flt k y.1,fun e=>h.sF e.1,fun g M e=>h.mF g M e.1,fun k y=>h.ffr k y.1,h.old,h.top,h.blks⟩
theorem NoS.grown {H W K F I mv b}(h:NoS H W F I mv b)(hs:W.heap.size<=K.heap.size):NoS H K F I mv b:=
 h.step hs (fun _ y=>.inl y) (fun x M=>⟨.inr ⟨x,M,rfl⟩,fun _ y=>.inl ⟨x,M,y⟩⟩) (fun _ O=>.inl O)
theorem Rv.ck {H W K F I mv rv L b ps}(h:Rv H W F I mv L b rv ps)(y:CK W K):Rv H K F I mv L b rv ps:=
 ⟨y.cells _ _ _ _ h.box,Jxz h.own y,h.bl,h.nb.grown y.size,fun g M=>(h.no g M).grown y.size⟩
theorem Rv.cell {y W F H mv rv L b ps}(h:Rv y W F H mv L b rv ps):W.cell? (Aq b)=some rv/\W.frozen? ⟨b,0,none⟩=false/\∃ a c,rv=.slice a ps.length c:=by
 refine⟨by simp[World.cell?,h.box],by simp[World.frozen?,h.box],?_⟩;obtain⟨a,c,e,_⟩:=h.own.cells;rw[Oa6]at e;exact⟨a,c,e⟩
