/- A run without rows is added to a sorting. -/
import Derived.Test.YtjbenncelbpbnaaGreatDoorBt
namespace Go.Proofs.YtjbenncelbpbnaaGreatDoor
section
open Go.RowKit Go.Shelf Tryz
def Ksi (rb p:Nat):Mr:=⟨rb,⟨p,[],[]⟩,fun _=>False,none,0,.slice none 0 0⟩
structure Qdi (K:SC) (w:World) (F:Nat->Prop) (E:DS) (Ms:List Mr) (mv:Value) (bl:Int) (p:Nat) (mv':Value) (w':World):Prop where
 keep:Ju (fun k=>k=K.sb\/mv.ownBlock=some k) w w'
 sw:SW K w' F E (Ms++[Ksi w.heap.size p]) mv' bl Ms.length (Ksi w.heap.size p)
 own:mv'.ownBlock=mv.ownBlock\/∃ g,mv'.ownBlock=some g/\w.heap.size<g
theorem SI.add {I w F E H mv bl}(h:SI I w F E H mv bl)(hK:SK I)(hn:H.length<=900000)p:
  Calls prog 240 #[.pointer (some ⟨I.sb,0,none⟩),.int .i64 (p:Nat)] w fun e w'=>e=.returned (rpV w.heap.size)/\∃ O,Qdi I w F E H mv bl p O w':=by
 have bI:=Jd h.st;refine(Kzy I.sb I.d p _ _ mv I.bu bl (H.map (·.rb)) I.w0.heap.size w h.st h.own h.old.size h.msb (by rw[Oa6];exact hn)).mono ?_;rintro e w' ⟨rfl,hk,bk,O,bJ,bG,hob⟩;refine⟨rfl,O,hk,?_,hob⟩;have bj:∀ g,mv.ownBlock=some g->I.w0.heap.size<=g/\g<w.heap.size:=fun g K=>Je h.own K;have Z:∀ g,O.ownBlock=some g->mv.ownBlock=some g\/w.heap.size<g:=fun g K=>by
  rcases hob with e|⟨bL,e,hl⟩
  ·exact .inl (e.symm.trans K)
  exact .inr (by have:=Oj6 (e.symm.trans K);omega)
 have nb:∀ k,k<w.heap.size->mv.ownBlock≠some k->O.ownBlock≠some k:=fun k hl bC e=>(Z k e).elim bC fun bM=>by omega
 have bN:=Jd bk;have bE:∀ m∈H,Kxa w' F I.ts I.cs m:=fun m y=>⟨(h.runs m y).1.keep hk (fun e=>e.elim (h.off m y).sb (h.off m y).made) (fun k hn e=>e.elim (fun e=>(h.off m y).nsb (e▸hn)) fun e=>(h.off m y).nmade k e hn),(h.runs m y).2⟩;have bD:Kxa w' F I.ts I.cs (Ksi w.heap.size p):=⟨⟨bk,.inl rfl,(fun x o e=>by cases e),Oa2 _,(fun b hb=>by cases hb),.inl ⟨rfl,rfl⟩,id,fun k hk=>hk.elim⟩,fun e=>Oe3 _ (h.flt _ e),fun k hk=>hk.elim⟩;have bA:(H++[Ksi w.heap.size p])[H.length]?=some (Ksi w.heap.size p):=zS;have bf:∀ (i:Nat) m,(H++[Ksi w.heap.size p])[i]?=some m->H[i]?=some m\/(i=H.length/\m=Ksi w.heap.size p):=fun i m hi=>by
  by_cases hl:i<H.length
  ·rw[Ob0 hl]at hi;exact .inl hi
  rw[Ob6 zo]at hi;have h0:i-H.length=0:=by
   have:=(Ob9.1 hi).1;simp at this;omega
  rw[h0]at hi;exact .inr ⟨zo,(Oj6 hi).symm⟩
 have bi:∀ m,m∈H++[Ksi w.heap.size p]->m∈H\/m=Ksi w.heap.size p:=fun m y=>by
  rcases Od2.1 y with y|y
  ·exact .inl y
  exact .inr (Oc6.1 y)
 have bh:∀ m∈H,m.rb<w.heap.size:=fun m y=>Jd (h.runs m y).1.cells;have bH:SI I w' F E (H++[Ksi w.heap.size p]) O bl:=by
  refine⟨bJ,?_,fun e=>nb _ bI h.msb e,fun m y=>(bi m y).elim (bE m) fun e=>e▸bD,fun m y=>?_,fun i j U Y hi M bB=>?_,h.disk.stands fun k hf hl=>hk.block k hl fun e=>e.elim (fun e=>h.sF (e▸hf)) fun e=>h.mF k e hf,fun k hf=>Oc2 (h.flt k hf) hk.size,h.sF,fun g K hf=>(Z g K).elim (fun e=>h.mF g e hf) fun e=>by have:=h.flt g hf;omega,h.ffr,h.old.trans' hk fun k hl e=>?_,?_,fun m y b hb=>?_⟩
  ·have e:(H++[Ksi w.heap.size p]).map (·.rb)=H.map (·.rb)++[w.heap.size]:=by rw[Ob8];rfl
   rw[e];exact bG
  ·rcases bi m y with y|rfl
   ·have ho:=h.off m y;exact⟨ho.lo,ho.sb,nb _ (bh m y) ho.made,ho.nlo,ho.nsb,fun g K hn=>(Z g K).elim (fun e=>ho.nmade g e hn) fun e=>by have:=(h.runs m y).1.lt g hn;omega⟩
   exact⟨h.old.size,fun e=>by have:w.heap.size=I.sb:=e;omega,fun e=>(Z _ e).elim (fun e=>by have:=(bj _ e).2;exact Oe3 _ this) fun e=>Oe3 _ e,fun k hk=>hk.elim,id,fun _ _=>id⟩
  ·rcases bf i U hi with hi|⟨bK,rfl⟩
   ·rcases bf j Y M with M|⟨br,rfl⟩
    ·exact h.sep i j U Y hi M bB
    have y:=Of6 hi;exact⟨fun e=>by have bx:=bh U y;have bz:U.rb=w.heap.size:=e;omega,fun hn=>Oe3 _ ((h.runs U y).1.lt _ hn)⟩
   rcases bf j Y M with M|⟨br,_⟩
   ·exact⟨fun e=>by have bx:=bh Y (Of6 M);have bz:w.heap.size=Y.rb:=e;omega,id⟩
   omega
  ·rcases e with e|e
   ·have:=hK.sb;omega
   have:=(bj k e).1;omega
  ·rw[Oe8];have:[Ksi w.heap.size p].flatMap Mr.ls=[]:=rfl;rw[this,Od7];exact h.top
  rcases bi m y with y|rfl
  ·exact h.blks m y b hb
  cases hb
 exact⟨bH,bA,⟨rfl,.inl ⟨rfl,rfl⟩⟩,⟨rfl,rfl⟩,(fun g K=>by cases K),fun b hb=>by cases hb⟩
end
open Go.RowKit Go.Shelf
theorem NoS.step {M W U F K I O mv Z b}(h:NoS M W F I mv b)(hs:W.heap.size<=U.heap.size)(hF:∀ k,K k->F k\/W.heap.size<=k)(hM:∀ x∈O,(W.heap.size<=x.rb\/∃ y∈I,x.rb=y.rb)/\∀ k,x.N k->(∃ y∈I,y.N k)\/W.heap.size<=k)(bf:∀ g,Z.ownBlock=some g->mv.ownBlock=some g\/W.heap.size<=g):NoS M U K O Z b:=by
 have hl:=h.lt;refine⟨Oc2 hl hs,h.lo,h.sb,fun e=>(bf b e).elim h.mv fun e=>zo,fun e=>(hF b e).elim h.nf fun e=>zo,fun x Y=>⟨fun e=>?_,fun e=>?_⟩⟩
 ·rcases(hM x Y).1 with H|⟨y,hy,H⟩
  ·omega
  exact(h.ms y hy).1 (H.symm.trans e)
 rcases(hM x Y).2 b e with⟨y,hy,H⟩|H
 ·exact(h.ms y hy).2 H
 omega
structure Rv (K:SC) (W:World) (F:Nat->Prop) (Ms:List Mr) (mv:Value) (L b:Nat) (rv:Value) (ps:List Nat):Prop where
 box:W.heap[b]?=some (.cells #[rv] 301 (0,0))
 own:Jo W L 354 rv (ps.map rpV)
 bl:b<L
 nb:NoS K W F Ms mv b
 no:∀ g,rv.ownBlock=some g->NoS K W F Ms mv g
theorem Rv.step {I W U F M G y O mv bf rv L b ps}(h:Rv I W F y mv L b rv ps)(hk:Ju G W U)(Y:∀ k,NoS I W F y mv k->¬ G k)(hF:∀ k,M k->F k\/W.heap.size<=k)(hM:∀ x∈O,(W.heap.size<=x.rb\/∃ K∈y,x.rb=K.rb)/\∀ k,x.N k->(∃ K∈y,K.N k)\/W.heap.size<=k)(Z:∀ g,bf.ownBlock=some g->mv.ownBlock=some g\/W.heap.size<=g):Rv I U M O bf L b rv ps:=
 ⟨(hk.block b h.nb.lt (Y b h.nb)).trans h.box,Yd h.own fun g H=>hk.block g (h.no g H).lt (Y g (h.no g H)),h.bl,h.nb.step hk.size hF hM Z,fun g H=>(h.no g H).step hk.size hF hM Z⟩
theorem Rv.push {U W Y I F E H mv rv rv' bl L b r ps}(h:Rv U W F H mv L b rv ps)(hs:SI U W F E H mv bl)(M:Below W.heap.size W Y)(Z:Jo I L 354 rv' ((ps++[r]).map rpV))(K:Y.grownBy I rv.ownBlock)(bj:rv'.ownBlock=rv.ownBlock\/rv'.ownBlock=some Y.heap.size):
  Rv U (I.setCell ⟨b,0,none⟩ rv') F H mv L b rv' (ps++[r])/\Ju (fun k=>k=b\/rv.ownBlock=some k) W (I.setCell ⟨b,0,none⟩ rv')/\SI U (I.setCell ⟨b,0,none⟩ rv') F E H mv bl:=by
 have bB:=h.bl;have bC:=M.size;have bD:=K.size;have bz:rv.ownBlock≠some b:=fun e=>by have:=(Je h.own e).1;omega
 have bx:rv'.ownBlock≠some b:=fun e=>by have:=(Je Z e).1;omega
 have br:Ju (fun k=>k=b\/rv.ownBlock=some k) W I:=⟨K.os.trans M.os,K.tape.trans M.tape,K.output.trans M.output,zo,fun k hk hn=>(K.block k zo fun e=>hn (.inr e.symm)).trans (M.block k hk)⟩;have hk:Ju (fun k=>k=b\/rv.ownBlock=some k) W (I.setCell ⟨b,0,none⟩ rv'):=Ju.set (F:=fun k=>k=b\/rv.ownBlock=some k) br (.inl rfl) 0 _;have bk:I.heap[b]?=some (.cells #[rv] 301 (0,0)):=(K.block b (by have:=h.nb.lt;omega) fun e=>bz e.symm).trans ((M.block b h.nb.lt).trans h.box);have O:∀ k,(k=b\/rv.ownBlock=some k)->NoS U W F H mv k:=fun k hk=>hk.elim (fun e=>e▸h.nb) (h.no k);have same:=fun (x:Mr) (bi:x∈H)=>(⟨.inr ⟨x,bi,rfl⟩,fun k hk=>.inl ⟨x,bi,hk⟩⟩:(W.heap.size<=x.rb\/∃ bf∈H,x.rb=bf.rb)/\∀ k,x.N k->(∃ bf∈H,bf.N k)\/W.heap.size<=k);refine⟨⟨by rw[Jk bk];simp,Yd Z fun g y=>Oa4 _ _ _ _ fun e=>bx (by rw[y];exact congrArg some e),h.bl,h.nb.step hk.size (fun k hk=>.inl hk) same (fun g y=>.inl y),fun g y=>?_⟩,hk,hs.keep hk (fun k hk=>(O k hk).lo) (fun e=>(O _ e).sb rfl) (fun g y e=>(O _ e).mv y) (fun k hf e=>(O _ e).nf hf) fun m bh=>⟨fun e=>((O _ e).ms m bh).1 rfl,fun k hn e=>((O _ e).ms m bh).2 hn⟩⟩;rcases bj with e|e
 ·exact(h.no g (e.symm.trans y)).step hk.size (fun k hk=>.inl hk) same (fun g y=>.inl y)
 have bA:g=Y.heap.size:=Oj6 (y.symm.trans e);refine hs.noS zo ?_;have:=(Je Z y).2;simp;exact this
theorem Ks1 {L W H G}(hk:Ju G W H)(O:∀ k,G k->L<=k->∃ o:Obj,W.heap[k]?=some o/\o.isCells=true):KeepsFrom L W H:=
 ⟨hk.size,fun k o M y ho=>(hk.block k (Jd y) fun e=>by
  obtain⟨U,I,K⟩:=O k e M;rw[y]at I;cases I
  rw[ho]at K;cases K).trans y⟩
theorem Ks9 {w B e sv xs}(h:Jo w B e sv xs){k}(hk:sv.ownBlock=some k):∃ o:Obj,w.heap[k]?=some o/\o.isCells=true:=by
 obtain⟨H,y⟩:=Ja4 h hk;exact⟨_,y,rfl⟩
theorem SI.narrow {H w F E I mv bl}(h:SI H w F E I mv bl):SI H w (fun k=>F k/\∃ o:Obj,w.heap[k]?=some o/\o.isCells=true) E I mv bl:=
 ⟨h.st,h.own,h.msb,fun m y=>⟨(h.runs m y).1,fun e=>(h.runs m y).2.1 e.1,fun k hk e=>(h.runs m y).2.2 k hk e.1⟩,h.off,h.sep,h.disk.narrow,fun k hk=>h.flt k hk.1,fun e=>h.sF e.1,fun g K e=>h.mF g K e.1,fun k hk=>h.ffr k hk.1,h.old,h.top,h.blks⟩
theorem NoS.grown {y W I F H mv b}(h:NoS y W F H mv b)(hs:W.heap.size<=I.heap.size):NoS y I F H mv b:=
 h.step hs (fun _ hk=>.inl hk) (fun x K=>⟨.inr ⟨x,K,rfl⟩,fun _ hk=>.inl ⟨x,K,hk⟩⟩) (fun _ M=>.inl M)
theorem Rv.ck {y W I F H mv rv L b ps}(h:Rv y W F H mv L b rv ps)(hk:CK W I):Rv y I F H mv L b rv ps:=
 ⟨hk.cells _ _ _ _ h.box,Jxz h.own hk,h.bl,h.nb.grown hk.size,fun g K=>(h.no g K).grown hk.size⟩
theorem Rv.cell {y W F H mv rv L b ps}(h:Rv y W F H mv L b rv ps):W.cell? ⟨b,0,none⟩=some rv/\W.frozen? ⟨b,0,none⟩=false/\∃ a c,rv=.slice a ps.length c:=by
 refine⟨by simp[World.cell?,h.box],by simp[World.frozen?,h.box],?_⟩;obtain⟨a,c,e,_⟩:=h.own.cells;rw[Oa6]at e;exact⟨a,c,e⟩
