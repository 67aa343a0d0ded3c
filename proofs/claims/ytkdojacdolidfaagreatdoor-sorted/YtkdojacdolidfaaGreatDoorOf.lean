/- '==' and '!=' of faults. -/
import Derived.Test.YtkdojacdolidfaaGreatDoorTe
import Derived.Deep.CutBlock
set_option maxHeartbeats 4000000
set_option maxRecDepth 100000
namespace Go.Proofs.YtkdojacdolidfaaGreatDoor
section
open Go.RowKit
theorem Jyf : (Tryz.prog.fieldsOf 51).toList.map (fun f => (f.name, f.type, f.offset)) = [("Code", 49, 0), ("Node", 3, 1), ("Row", 3, 2), ("Column", 3, 3), ("Page", 3, 4)] := by kernel_rfl
theorem Kef:Tryz.prog.underlying 51=some (.struct (Tryz.prog.fieldsOf 51)):=zK
theorem Kh3:Tryz.prog.stoodInHeld 51=false:=zK
theorem Js7 w c:(Op.equal 51 (Jb6 c) (Jb6 c)).run Tryz.prog w=.ok true w:=by
 rw[Op.equal,Op.maxDepth,run_equalIn_struct w 9999 51 _ _ Kef Kh3];have h:=Jyf;generalize (Tryz.prog.fieldsOf 51).toList=y at h;rcases y with _|⟨bz,_|⟨bA,_|⟨bB,_|⟨bC,_|⟨bD,_|⟨bE,y⟩⟩⟩⟩⟩⟩
 ·simp at h
 ·simp at h
 ·simp at h
 ·simp at h
 ·simp at h
 ·simp at h;obtain⟨⟨H,I,K⟩,⟨M,O,U⟩,⟨Y,Z,bf⟩,⟨bh,bi,bj⟩,bk,br,bx⟩:=h;simp[Op.eqFields,H,I,K,M,O,U,Y,Z,bf,bh,bi,bj,bk,br,bx,part,sizeOf,go_sem]
 simp at h
theorem Jjl c w:(binOp .eql 51 (Jb6 c) (Jb6 c)).run Tryz.prog w=.ok (.bool true) w:=by
 simp[binOp,Js7]
variable {F:Fence} {n:Nat} {P:Program}
def Kh4 {α:Type}(F:Fence)(n:Nat)(P:Program)(g:Nat)(lb:Array Value)(Y:α->Array Value)(O:α->World->Prop)(M:World->World->Prop)(S U:List α->Prop)(N:Nat)(w:World):Prop:=
 ∀ (l:Nat) (J K:List α->World->Prop) (W:World),Below w.heap.size w W->AbidesFrom W.heap.size J->AbidesFrom W.heap.size K ->
  (∀ y x I,J y I->O x I->y.length<N->YieldAt F (n-1) P l (Y x) I fun e H=>(e=.returned (.bool true)/\J (y++[x]) H/\M I H)\/(e=.returned (.bool false)/\K (y++[x]) H)) ->
  J [] W->CallsIn F n P g (#[.func (.yield l) #[] #[]]++lb) W fun e H=>(∃ v,e=.returned v)/\((∃ xs,S xs/\J xs H)\/(∃ y,U y/\K y H))
def Jb8 (B:Nat)(L:Loop)(W:World):Prop:=W.heap[B+1]?=some (.loop L)/\W.heap[B]?=some (.deferred (some []))
theorem Jb8.kept {B}{L:Loop}{W y row}(h:Jb8 B L W)(H:W.grownBy y row)(hr:∀ r,row=some r->∃ o:Obj,W.heap[r]?=some o/\o.isWalk=true):Jb8 B L y:=
 ⟨(grownBy_keeps H hr h.1 rfl).trans h.1,(grownBy_keeps H hr h.2 rfl).trans h.2⟩
theorem Jb8.put {B}{L y:Loop}{W}(h:Jb8 B L W):Jb8 B y (W.putObj (B+1) (.loop y)):=
 ⟨World.putObj_heap_same (Oe2.1 h.1).1,(World.putObj_heap_other zo).trans h.2⟩
theorem Jb8.from {B}{L:Loop}{W y}(h:Jb8 B L W)(H:KeepsFrom B W y):Jb8 B L y:=⟨H.same _ _ zo h.1 rfl,H.same _ _ (Oa2 _) h.2 rfl⟩
theorem zao {p:Prop}(h:p:=by
 constructor
 ·have:=World.alloc_heap_new (w.alloc (.deferred (some []))) (.loop (y .ready none));rw[Oa7]at this;exact this
 exact(Oa9 _ _ _ (by simp[B])).trans (World.alloc_heap_new w _)):p:=h
theorem zaz {p:Prop}(h:p:=by obtain⟨hr,hb,bj⟩:=fin (some c) X Y;exact⟨_,_,hr,.inr ⟨rfl,c,(hIx _).putObj _ bk zo hb.1 rfl,bj⟩⟩):p:=h
theorem Jg8 {α g}{ps:Array Tmp}{assign body:Code}{Q a w}(bU:F.round=none)(bH:1<=n){gf:Nat}{lb}(bQ:a.eval g=.func (.func gf) #[] lb)(bI:F.fn gf)(bG:∀ args w,(callFunc gf args).run P w=.ok (.enter gf args) w){bf:α->Array Value}{bi:α->World->Prop}{M:World->World->Prop}{S bz:List α->Prop}{N:Nat}{w0}(hseq:Kh4 F (n-1) P gf lb bf bi M S bz N w0)(bA:∀ {A B C:World},M A B->M B C->M A C)(hKb:∀ (W:World) (l:Nat) (o ca:Obj),w.heap.size<=l->W.heap[l]?=some o->o.isCells=false->o.isWalk=false->M W (W.putObj l ca))(bB:Below w0.heap.size w0 w)(bT:∀ x,(bf x).size=ps.size)(K:List α->World->Prop)(O:Code->List α->World->Prop)(hI:OwnFrom w.heap.size K)(hIx:∀ c,OwnFrom w.heap.size (O c))(hR:OwnFrom w.heap.size bi)(h0:K [] w)(a₁:α->Act)(bL:∀ (l:Nat) (x:α) (W:World) (bx:Act->World->Prop),bx (a₁ x) W->assign.wpIn (F.inRound l) (n-1-1) P (Exit.then bx (fun _ _ _=>False)) {tmps:=(ps.zip (bf x)).foldl (fun t (p,v)=>t.setIfInBounds p v) a.tmps,defers:=[]} W)(bM:∀ (l:Nat) (H:List α) (x:α) (W:World),K H W->bi x W->H.length<N->body.wpIn (F.inRound l) (n-1-1) P (ownPostG w.heap.size M K O (H++[x]) W) (a₁ x) W)(bO:∀ (D:Nat) (xs:List α) (W:World),w.heap.size<=D->S xs->K xs W->W.heap[D]?=some (.deferred (some []))->Q .normal {a with defers:={target:=.collected D,args:=#[]}::a.defers} W)(bV:∀ (D:Nat) (c:Code) (H:List α) (W:World),w.heap.size<=D->bz H->O c H W->W.heap[D]?=some (.deferred (some []))->c.wpIn F n P Q {a with defers:={target:=.collected D,args:=#[]}::a.defers} W):
  (Code.rangeFunc g ps assign body).wpIn F n P Q a w:=by
 refine wpIn_rangeFunc fun fn bP=>?_;rw[bU];let y:LoopState->Option Code->Loop:=fun st cb=>{state:=st,pending:=cb,fn,tmps:=a.tmps,params:=ps,assign,body,defers:=w.heap.size}
 let B:=w.heap.size
 let V:=(w.alloc (.deferred (some []))).alloc (.loop (y .ready none))
 have cj:V.heap.size=B+2:=by simp[V,B]
 have bD:Jb8 B (y .ready none) V:=by
  exact zao
 have bZ:K [] V:=hI.alloc _ (hI.alloc _ h0);have bE:Below w0.heap.size w0 V:=bB.trans ((((Oa5 _ w).alloc (Oa2 _) _).alloc zS _).mono bB.size);have walk:∀ {A:World} {row:Option Nat},(∀ r,row=some r->V.heap.size<=r/\∃ o:Obj,A.heap[r]?=some o/\o.isWalk=true)->∀ r,row=some r->B<=r/\∃ o:Obj,A.heap[r]?=some o/\o.isCells=false:=fun hr r e=>by
  obtain⟨ci,o,ho,bW⟩:=hr r e;exact⟨zo,o,ho,Obj.not_cells_of_walk bW⟩
 refine⟨B+1,[{target:=.collected B,args:=#[]}],V,{target:=.fn (.func gf) lb,args:=#[.func (.yield (B+1)) #[] #[]]},V,gf,#[.func (.yield (B+1)) #[] #[]]++lb,V,run_enterLoop_outer _ _ _ _ _,by simp only[resolve,bQ];simp[go_sem],fun cf bC=>?_,by simp[invoke,go_sem,bG],fun _=>bH,?_⟩
 ·simp[Target.leads]at bC;subst bC;exact bI
 refine(hseq (B+1) (fun H W=>K H W/\Jb8 B (y .ready none) W) (fun H W=>∃ c,O c H W/\Jb8 B (y .done (some c)) W) V bE
  (fun s A bh row hs Z hr=>⟨hI s A bh row hs.1 Z (walk hr),hs.2.kept Z fun r e=>(hr r e).2⟩)
  (fun s A bh row hs Z hr=>by obtain⟨c,bN,I⟩:=hs;exact⟨c,hIx c s A bh row bN Z (walk hr),I.kept Z fun r e=>(hr r e).2⟩) ?_ ⟨bZ,bD⟩).mono ?_
 ·rintro H x W ⟨hi,I⟩ bY hlen;have hy:=run_yield (P:=P) (args:=bf x) I.1 (bT x);refine⟨fn,_,assign,body,hy,roundIn_of_wpIn bP (bL _ x W _ ⟨_,run_beginRound I.1 rfl,?_⟩)⟩;have bR:Jb8 B (y .busy none) (W.putObj (B+1) (.loop (y .busy none))):=I.put;have bX:M W (W.putObj (B+1) (.loop (y .busy none))):=hKb _ _ _ _ zo I.1 rfl rfl;refine wpIn_mono (bM _ H x _ (hI.putObj _ hi zo I.1 rfl) (hR.putObj _ bY zo I.1 rfl) hlen) ?_;have fin:∀ (j:Option Code) (X:World),KeepsFrom w.heap.size (W.putObj (B+1) (.loop (y .busy none))) X->(Instr.endRound (B+1) j).run P X=.ok (.bool j.isNone) (X.putObj (B+1) (.loop (y (if j.isNone then .ready else .done) j)))/\Jb8 B (y .busy none) X/\Jb8 B (y (if j.isNone then .ready else .done) j) (X.putObj (B+1) (.loop (y (if j.isNone then .ready else .done) j))):=fun j X Y=>
   have hb:=bR.from Y
   ⟨run_endRound (P:=P) j hb.1,hb,hb.put⟩
  have br:∀ (c:Code) (X:World),KeepsFrom w.heap.size (W.putObj (B+1) (.loop (y .busy none))) X->O c (H++[x]) X->∃ v U,(Instr.endRound (B+1) (some c)).run P X=.ok v U/\((Ending.returned v=.returned (.bool true)/\(K (H++[x]) U/\Jb8 B (y .ready none) U)/\M W U)\/(Ending.returned v=.returned (.bool false)/\∃ c,O c (H++[x]) U/\Jb8 B (y .done (some c)) U)):=fun c X Y bk=>by
   exact zaz
  rintro e cc X hp;cases e with
  |normal=>
   obtain⟨Y,bS,bk⟩:=hp;obtain⟨hr,hb,bj⟩:=fin none X Y;exact⟨_,_,hr,.inl ⟨rfl,⟨hI.putObj _ bk zo hb.1 rfl,bj⟩,bA (bA bX bS) (hKb _ _ _ _ zo hb.1 rfl rfl)⟩⟩
  |ret=>exact br _ X hp.1 hp.2
  |exit id=>exact br _ X hp.1 hp.2
  |goto t=>exact br _ X hp.1 hp.2
  |panic ch=>exact hp.elim
  |outgrown=>exact hp.elim
 rintro e X ⟨⟨v,rfl⟩,(⟨xs,bJ,hi,I⟩|⟨H,bK,c,hi,I⟩)⟩
 ·exact⟨none,_,run_endLoop (P:=P) I.1 (by simp[y]),bO _ xs _ (Oa2 _) bJ (hI.putObj _ hi zo I.1 rfl) ((World.putObj_heap_other zo).trans I.2)⟩
 exact⟨some c,_,run_endLoop (P:=P) I.1 (by simp[y]),bV _ c H _ (Oa2 _) bK ((hIx c).putObj _ hi zo I.1 rfl) ((World.putObj_heap_other zo).trans I.2)⟩
variable {P:Program} {md:Region.Mode} {ops:Array Oper} {Q:Exit->Act->World->Prop}
abbrev dn (l:Array Bool)(k:Nat):Prop:=l.getD k false=true
variable {F:Fence} {n:Nat} {P:Program}
section
variable {P:Program} {md:Region.Mode} {ops:Array Oper} {Q:Exit->Act->World->Prop} {S:World->Prop} {m:Nat}
def Ktb (P:Program)(I:Region.Mode)(H:Array Oper)(Q:Exit->Act->World->Prop)(S:World->Prop)(m:Nat):Nat->Array Bool->Act->World->Prop
 |0,y,a,w=>Region.ready I H y=[]/\Q .normal a w
 |fuel+1,y,a,w=>(Region.ready I H y=[]->Q .normal a w)/\∀ i∈Region.ready I H y,wpOp P H Q i (fun K w'=>(i≠m->S w')/\Ktb P I H Q S m fuel (y.setIfInBounds i true) K w') a w
theorem Kth:∀ (fuel:Nat)(y:Array Bool)(a:Act)(w:World),Ktb P md ops Q S m fuel y a w->wpAny P md ops Q fuel y a w
 |0,_,_,_,h=>h
 |fuel+1,_,_,_,h=>⟨h.1,fun i hi=>wpOp_mono (fun H w' I=>Kth fuel _ H w' I.2) (h.2 i hi)⟩
def Kzl (y:Region.Mode)(H:Array Oper)(m i:Nat):Bool:=((H[m]?).map fun o=>o.after.any fun e=>Region.binds y e&&e.on==i).getD false
theorem Kym {i}(h:Kzl md ops m i=true){o}(ho:ops[m]?=some o):∃ e∈o.after,Region.binds md e=true/\e.on=i:=by
 unfold Kzl at h;rw[ho]at h;simp only[Option.map_some,Option.getD_some,Array.any_eq_true']at h;obtain⟨e,H,y⟩:=h;rw[Og5,beq_iff_eq]at y;exact⟨e,H,y⟩
theorem Kw5 {i K v}(hi:ops[i]?=some K)(bz:∀ (j:Nat) (o:Oper) cs b,ops[j]?=some o->o.op≠.select cs b)(bN:i≠m)(bL:Kzl md ops m i=true)(hQ:∀ c a w,Q (.panic c) (a.put K.dst v) w->Q (.panic c) a w):
  ∀ (fuel:Nat) (y:Array Bool) (a:Act) (w:World),
   (∀ j M,ops[j]?=some M->j≠i->y.getD j true=false->(∀ e∈M.after,Region.binds md e=true->e.on≠i)->K.apart ops M=true) ->
   i∈Region.ready md ops y->YieldsIf P ops S K v a->S w ->
   Ktb P md ops Q S m fuel (y.setIfInBounds i true) (a.put K.dst v) w->Ktb P md ops Q S m (fuel+1) y a w:=by
 intro fuel;induction fuel with
 |zero=>
  intro y a w _ hr hy U O;refine⟨fun h=>(by rw[h]at hr;cases hr),fun j Z=>?_⟩;by_cases H:j=i
  ·subst H;exact hy.wpOp hi U ⟨fun _=>U,O⟩
  have:=ready_mono Z H;rw[O.1]at this;cases this
 |succ fuel bM=>
  intro y a w bj hr hy U O;refine⟨fun h=>(by rw[h]at hr;cases hr),fun j Z=>?_⟩;by_cases H:j=i
  ·subst H;exact hy.wpOp hi U ⟨fun _=>U,O⟩
  have I:=O.2 j (ready_mono Z H);obtain⟨br,M,bf,bD⟩:=mem_ready.1 Z;have bx:∀ e∈M.after,Region.binds md e=true->e.on≠i:=fun e bi hb bE=>by
   have I:=bD e bi hb;have h0:=(mem_ready.1 hr).1;rw[bE]at I;rcases Oc1 i y.size with bh|bh
   ·simp[bh]at h0 I;rw[h0]at I;cases I
   simp[Array.getElem?_eq_none bh]at I
  have bH:j≠m:=fun e=>by
   subst e;obtain⟨e,bi,hb,ho⟩:=Kym bL bf;exact bx e bi hb ho
  have bC:=wpOp_putIf bf (bj j M bf H br bx) (fun cs b=>bz i K cs b hi) (fun cs b=>bz j M cs b bf) hQ hy I;have bG:∀ k ok,ops[k]?=some ok->k≠i->(y.setIfInBounds j true).getD k true=false ->
    (∀ e∈ok.after,Region.binds md e=true->e.on≠i)->K.apart ops ok=true:=fun k ok bI bJ bA bK=>by
   refine bj k ok bI bJ ?_ bK;by_cases bk:j=k
   ·subst bk;exact br
   rw[getD_set_ne true bk]at bA;exact bA
  refine wpOp_mono (fun bB w' Y=>⟨Y.2.1,bM (y.setIfInBounds j true) bB w' bG (ready_mono hr (Oc5 H)) Y.1 (Y.2.1 bH) ?_⟩) bC;rw[Array.setIfInBounds_comm _ _ H];exact Y.2.2
theorem tkm {H fuel y a w v}i(hi:ops[i]?=some H)(I:S w)(h:Ktb P md ops Q S m fuel (y.setIfInBounds i true) (a.put H.dst v) w)(hr:(Region.ready md ops y).contains i=true:=by kernel_rfl)(M:Region.free md ops y i=true:=by kernel_rfl)(hs:Region.noSelect ops=true:=by kernel_rfl)(Y:Kzl md ops m i=true:=by kernel_rfl)(O:i≠m:=by decide)(hy:∀ w,S w->(execOp a.eval H).run P w=.ok (.value v) w:=by intro w K;(try dsimp only at K);go_simp;try rfl)(hQ:∀ c a w,Q (.panic c) (a.put H.dst v) w->Q (.panic c) a w:=by exact fun _ _ _ h=>h)(U:Region.wanted H (yielded ops a.tmps)=true:=by rfl):Ktb P md ops Q S m (fuel+1) y a w:=
 Kw5 hi (Region.noSelect_spec hs) O Y hQ fuel y a w (Region.free_spec hi M) (by simpa using hr) (.inl ⟨U,hy⟩) I h
theorem tku {H fuel y a w}i(hi:ops[i]?=some H)(I:S w)(h:wpAnyH P md ops Q S fuel (y.setIfInBounds i true) (a.put H.dst undef) w)(hr:(Region.ready md ops y).contains i=true:=by kernel_rfl)(K:Region.free md ops y i=true:=by kernel_rfl)(hs:Region.noSelect ops=true:=by kernel_rfl)(hQ:∀ c a w,Q (.panic c) (a.put H.dst undef) w->Q (.panic c) a w:=by exact fun _ _ _ h=>h)(M:Region.wanted H (yielded ops a.tmps)=false:=by kernel_rfl):wpAnyH P md ops Q S (fuel+1) y a w:=
 wpAnyH_take hi hs K hr hQ (.inr ⟨M,rfl⟩) I h
theorem Ksc {fuel H a w}i{o}(ho:ops[i]?=some o)(h:∀ y:Act->World->Prop,Shut (∀ a w,S w->(S w->Ktb P md ops Q S m fuel (H.setIfInBounds i true) a w)->y a w)->if Region.wanted o (yielded ops a.tmps)=true then Oper.wp P o a w y Q else y (a.put o.dst undef) w)(hr:Region.ready md ops H=[i]:=by kernel_rfl):Ktb P md ops Q S m (fuel+1) H a w:=
 ⟨fun h0=>(by rw[hr]at h0;cases h0),fun j K=>by
  rw[hr,Oc6]at K;subst K;exact wpOp_step ho fun y hK=>h y fun a w I M=>hK a w ⟨fun _=>I,M I⟩⟩
theorem Ktx {fuel H a w o}(ho:ops[m]?=some o)(h:∀ y:Act->World->Prop,Shut (∀ a w,Q .normal a w->y a w)->if Region.wanted o (yielded ops a.tmps)=true then Oper.wp P o a w y Q else y (a.put o.dst undef) w)(hr:Region.ready md ops H=[m]:=by kernel_rfl)(K:Region.ready md ops (H.setIfInBounds m true)=[]:=by kernel_rfl):Ktb P md ops Q S m (fuel+1) H a w:=
 ⟨fun h0=>(by rw[hr]at h0;cases h0),fun j I=>by
  rw[hr,Oc6]at I;subst I;refine wpOp_step ho fun y hK=>h y fun a w hq=>hK a w ⟨fun M=>absurd rfl M,?_⟩;cases fuel with
  |zero=>exact⟨K,hq⟩
  |succ f=>exact⟨fun _=>hq,by rw[K];simp⟩⟩
theorem Kt3 {id a w}m(H:P.follows .mixedOrders=true)(y:S w.drew)(h:S w.drew->Ktb P .any ops Q S m ops.size (Array.replicate ops.size false) a w.drew):(Code.region id ops true).wp P Q a w:=
 wp_region_any H (Kth _ _ _ _ (h y))
end
end
def swp (f:Nat->Nat)(i j:Nat):Nat->Nat:=fun k=>if k=i then f j else if k=j then f i else f k
def Arr (a b:Nat)(f g:Nat->Nat):Prop:=
 ∃ p q:Nat->Nat,(∀ k,q (p k)=k)/\(∀ k,p (q k)=k)/\(∀ k,(k<a\/b<=k)->p k=k)/\∀ k,g k=f (p k)
theorem Arr.refl a b f:Arr a b f f:=⟨id,id,fun _=>rfl,fun _=>rfl,fun _ _=>rfl,fun _=>rfl⟩
theorem Arr.trans {a b f g h}(x:Arr a b f g)(bi:Arr a b g h):Arr a b f h:=by
 obtain⟨p,q,K,M,O,U⟩:=x;obtain⟨y,H,Y,Z,bf,bh⟩:=bi;exact⟨fun k=>p (y k),fun k=>H (q k),fun k=>by show H (q (p (y k)))=k;rw[K,Y],fun k=>by show p (y (H (q k)))=k;rw[Z,M],fun k I=>by show p (y k)=k;rw[bf k I,O k I],fun k=>by rw[bh,U]⟩
theorem Arr.mono {a b y H f g}(x:Arr a b f g)(U:y<=a)(hb:b<=H):Arr y H f g:=by
 obtain⟨p,q,I,K,M,O⟩:=x;exact⟨p,q,I,K,fun k Y=>M k zo,O⟩
theorem Ky9 i j k:swp (fun x=>x) i j (swp (fun x=>x) i j k)=k:=by
 unfold swp;by_cases H:k=i
 ·simp only[if_pos H];by_cases y:j=i
  ·rw[if_pos y];omega
  simp only[if_neg y,if_true];omega
 by_cases y:k=j
 ·simp only[if_neg H,if_pos y,if_true];omega
 simp only[if_neg H,if_neg y]
theorem Arr.swp {a b f i j}(hi:a<=i/\i<b)(y:a<=j/\j<b):Arr a b f (swp f i j):=
 ⟨Go.Proofs.YtkdojacdolidfaaGreatDoor.swp (fun x=>x) i j,Go.Proofs.YtkdojacdolidfaaGreatDoor.swp (fun x=>x) i j,Ky9 i j,Ky9 i j,fun k H=>by unfold Go.Proofs.YtkdojacdolidfaaGreatDoor.swp;rw[if_neg zo,if_neg zo],
  fun k=>by unfold Go.Proofs.YtkdojacdolidfaaGreatDoor.swp;split<;>(try split)<;>rfl⟩
theorem Arr.off {a b f g}(x:Arr a b f g){k}(I:k<a\/b<=k):g k=f k:=by
 obtain⟨p,q,K,M,y,H⟩:=x;rw[H,y k I]
theorem Arr.at {a b f g}(x:Arr a b f g){k}(M:a<=k/\k<b):∃ t,a<=t/\t<b/\g k=f t:=by
 obtain⟨p,q,y,K,H,I⟩:=x;refine⟨p k,?_,?_,I k⟩
 ·refine Decidable.byContradiction fun h=>?_;have e:=H (p k) (.inl zo);have:=y (p k);rw[e,y]at this;omega
 refine Decidable.byContradiction fun h=>?_;have e:=H (p k) (.inr zo);have:=y (p k);rw[e,y]at this;omega
structure Ksg (c:Nat->Nat->Int):Prop where
 neg:∀ x y,c y x=- c x y
 trans:∀ x y z,c x y<=0->c y z<=0->c x z<=0
def Lt (c:Nat->Nat->Int)(x y:Nat):Prop:=c x y<0\/(c x y=0/\x<y)
theorem Lt.trans {c}(ho:Ksg c){x y z}(h:Lt c x y)(k:Lt c y z):Lt c x z:=by
 have H:=ho.neg x y;have I:=ho.neg y z;have n3:=ho.neg x z;have K:=ho.trans x y z;have M:=ho.trans z x y;have O:=ho.trans y z x;unfold Lt at *;omega
theorem Lt.irrefl {c}(ho:Ksg c){x}(h:Lt c x x):False:=by
 have y:=ho.neg x x;unfold Lt at h;omega
def Srt (c:Nat->Nat->Int)(a b:Nat)(f:Nat->Nat):Prop:=∀ i j,a<=i->i<j->j<b->Lt c (f i) (f j)
def Ks0 (c:Nat->Nat->Int)(a b:Nat)(f:Nat->Nat):Prop:=∀ i j,a<=i->i<j->j<b->c (f i) (f j)=0->f i<f j
theorem Srt.stab {c a b f}(h:Srt c a b f):Ks0 c a b f:=fun i j y H I e=>by
 have:=h i j y H I;unfold Lt at this;omega
theorem Ks0.mono {c a b y H f}(h:Ks0 c a b f)(O:a<=y)(hb:H<=b):Ks0 c y H f:=fun i j K I M=>h i j zo I zo
theorem Srt.mono {c a b y H f}(h:Srt c a b f)(O:a<=y)(hb:H<=b):Srt c y H f:=fun i j K I M=>h i j zo I zo
theorem Srt.congr {c a b f g}(h:Srt c a b f)(e:∀ k,a<=k->k<b->g k=f k):Srt c a b g:=fun i j y I H=>by
 rw[e i y zo,e j zo H];exact h i j y I H
theorem Ks0.ge {c}(ho:Ksg c){a b f}(h:Ks0 c a b f){i j}(y:a<=i)(H:i<j)(I:j<b)(K:¬ c (f j) (f i)<0):Lt c (f i) (f j):=by
 have:=h i j y H I;have M:=ho.neg (f i) (f j);unfold Lt;omega
def Le (c:Nat->Nat->Int)(x y:Nat):Prop:=x=y\/Lt c x y
theorem Srt.le {c a b f}(h:Srt c a b f){i j}(y:a<=i)(I:i<=j)(H:j<b):Le c (f i) (f j):=by
 by_cases e:i=j
 ·exact .inl (by rw[e])
 exact .inr (h i j y zo H)
theorem Lt.le_le {c}(ho:Ksg c){x I z t}(y:Le c x I)(h:Lt c I z)(H:Le c z t):Lt c x t:=by
 have:Lt c x z:=by
  rcases y with rfl|y
  ·exact h
  exact y.trans ho h
 rcases H with rfl|H
 ·exact this
 exact this.trans ho H
theorem Ks0.swap {c}(ho:Ksg c){a b f}(h:Ks0 c a b f){j}(O:a<=j)(U:j+1<b)(Z:c (f (j+1)) (f j)<0):Ks0 c a b (swp f (j+1) j):=by
 intro i k hi Y H;have bf:=ho.neg (f (j+1)) (f j);unfold swp;by_cases I:i=j+1
 ·subst I;rw[if_pos rfl,if_neg zo,if_neg zo];exact h j k O zo H
 by_cases K:i=j
 ·subst K;rw[if_neg zo,if_pos rfl];by_cases y:k=i+1
  ·rw[if_pos y];intro e;omega
  rw[if_neg y,if_neg zo];exact h (i+1) k zo zo H
 rw[if_neg I,if_neg K];by_cases y:k=j+1
 ·rw[if_pos y];exact h i j hi zo zo
 rw[if_neg y];by_cases M:k=j
 ·rw[if_pos M];exact h i (j+1) hi zo U
 rw[if_neg M];exact h i k hi Y H
structure Kww (c:Nat->Nat->Int) (a i j:Nat) (f:Nat->Nat):Prop where
 rest:∀ s t,a<=s->s<t->t<=i->s≠j->t≠j->Lt c (f s) (f t)
 past:∀ t,j<t->t<=i->Lt c (f j) (f t)
theorem Kww.start {c a i f}(h:Srt c a i f):Kww c a i i f:=
 ⟨fun s t y H I K M=>h s t y H zo,fun t y H=>absurd y zo⟩
theorem Kww.step {c a i j f}(h:Kww c a i (j+1) f)(Y:a<=j)(bf:j+1<=i)(Z:c (f (j+1)) (f j)<0):Kww c a i j (swp f (j+1) j):=by
 refine⟨fun s t I K M O U=>?_,fun t I K=>?_⟩
 ·unfold swp;rw[if_neg O,if_neg U];by_cases H:s=j+1
  ·subst H;rw[if_pos rfl,if_neg zo];exact h.rest j t Y zo M zo zo
  rw[if_neg H];by_cases y:t=j+1
  ·rw[if_pos y];exact h.rest s j I zo zo H zo
  rw[if_neg y];exact h.rest s t I K M H y
 unfold swp;rw[if_neg zo,if_pos rfl];by_cases y:t=j+1
 ·rw[if_pos y];exact .inl Z
 rw[if_neg y,if_neg zo];exact h.past t zo K
theorem Kww.done {c}(ho:Ksg c){a i j f}(h:Kww c a i j f)(Y:a<=j)(Z:j<=i)(y:j=a\/Lt c (f (j-1)) (f j)):Srt c a (i+1) f:=by
 intro s t K M U;by_cases H:s=j
 ·subst H;exact h.past t M zo
 by_cases I:t=j
 ·subst I;rcases y with rfl|y
  ·omega
  by_cases O:s=t-1
  ·rw[O];exact y
  exact(h.rest s (t-1) K zo zo H zo).trans ho y
 exact h.rest s t K M zo H I
def Kvf (a k:Nat)(f:Nat->Nat):Nat->Nat:=fun t=>if a<=t/\t<k then f (t+1)else if t=k then f a else f t
theorem Ku6 a f:Kvf a a f=f:=by
 funext t;unfold Kvf;split
 ·omega
 split
 ·subst_vars;rfl
 rfl
theorem Kwn {a k}f(h:a<=k):swp (Kvf a k f) k (k+1)=Kvf a (k+1) f:=by
 funext t;unfold swp Kvf
 by_cases y:t=k
 ·subst y;rw[if_pos rfl,if_neg zo,if_neg zo,if_pos zo]
 rw[if_neg y];by_cases H:t=k+1
 ·subst H;rw[if_pos rfl,if_neg zo,if_pos rfl,if_neg zo,if_pos rfl]
 rw[if_neg H];by_cases I:a<=t/\t<k
 ·rw[if_pos I,if_pos zo]
 rw[if_neg I,if_neg y,if_neg zo,if_neg H]
def Kve (m:Nat)(f:Nat->Nat)(k:Nat):Nat->Nat:=fun t=>if k<t/\t<=m then f (t-1)else if t=k then f m else f t
theorem Kwi m f:Kve m f m=f:=by
 funext t;unfold Kve;split
 ·omega
 split
 ·subst_vars;rfl
 rfl
theorem Kwf {m k}f(h:k+1<=m):swp (Kve m f (k+1)) (k+1) k=Kve m f k:=by
 funext t;unfold swp Kve
 by_cases y:t=k+1
 ·subst y;rw[if_pos rfl,if_neg zo,if_neg zo,if_pos zo];congr 1
 rw[if_neg y];by_cases H:t=k
 ·subst H;rw[if_pos rfl,if_neg zo,if_pos rfl,if_neg zo,if_pos rfl]
 rw[if_neg H];by_cases I:k+1<t/\t<=m
 ·rw[if_pos I,if_pos zo]
 rw[if_neg I,if_neg y,if_neg zo,if_neg H]
theorem Kzv {c}(ho:Ksg c){a b i f}(hs:Srt c (a+1) b f)(hi:a+1<=i/\i<=b)(hl:i=a+1\/Lt c (f (i-1)) (f a))(hr:i=b\/Lt c (f a) (f i)):Srt c a b (Kvf a (i-1) f):=by
 intro s t M O H;unfold Kvf;by_cases I:s<i-1
 ·rw[if_pos zo];by_cases K:t<i-1
  ·rw[if_pos zo];exact hs _ _ zo zo zo
  rw[if_neg zo];by_cases y:t=i-1
  ·rw[if_pos y];exact Lt.le_le ho (hs.le (i:=s+1) (j:=i-1) zo zo zo) (hl.resolve_left zo) (.inl rfl)
  rw[if_neg y];exact hs _ _ zo zo zo
 rw[if_neg zo,if_neg (c:=a<=t/\t<i-1) zo];by_cases y:s=i-1
 ·rw[if_pos y,if_neg zo];exact Lt.le_le ho (.inl rfl) (hr.resolve_left zo) (hs.le zo zo H)
 rw[if_neg y,if_neg zo];exact hs _ _ zo zo H
theorem Kyi {c}(ho:Ksg c){a m i f}(hs:Srt c a m f)(hi:a<=i/\i<=m)(hl:i=a\/Lt c (f (i-1)) (f m))(hr:i=m\/Lt c (f m) (f i)):Srt c a (m+1) (Kve m f i):=by
 intro s t K M O;unfold Kve;by_cases H:s<i
 ·rw[if_neg zo,if_neg zo];by_cases I:t<i
  ·rw[if_neg zo,if_neg zo];exact hs _ _ zo zo zo
  by_cases y:t=i
  ·rw[if_neg zo,if_pos y];exact Lt.le_le ho (hs.le (i:=s) (j:=i-1) zo zo zo) (hl.resolve_left zo) (.inl rfl)
  rw[if_pos zo];exact hs _ _ zo zo zo
 rw[if_pos (c:=i<t/\t<=m) zo];by_cases y:s=i
 ·rw[if_neg zo,if_pos y];exact Lt.le_le ho (.inl rfl) (hr.resolve_left zo) (hs.le zo zo zo)
 rw[if_pos zo];exact hs _ _ zo zo zo
def rot (a m b:Nat)(f:Nat->Nat):Nat->Nat:=fun t=>if a<=t/\t<b then (if t<a+(b-m)then f (t+(m-a))else f (t-(b-m)))else f t
theorem Kxz {a m}f:rot a m m f=f:=by
 funext t;unfold rot;split
 ·rw[if_neg zo];congr 1;simp
 rfl
theorem Kzw {m b}f(h:m<=b):rot m m b f=f:=by
 funext t;unfold rot;split
 ·rw[if_pos zo];congr 1;omega
 rfl
theorem Arr.rot {a m b f}(H:a<=m)(I:m<=b):Arr a b f (rot a m b f):=by
 refine⟨Go.Proofs.YtkdojacdolidfaaGreatDoor.rot a m b (fun x=>x),Go.Proofs.YtkdojacdolidfaaGreatDoor.rot a (a+(b-m)) b (fun x=>x),fun k=>?_,fun k=>?_,fun k K=>?_,fun k=>?_⟩
 ·unfold Go.Proofs.YtkdojacdolidfaaGreatDoor.rot;by_cases e:a<=k/\k<b
  ·by_cases y:k<a+(b-m)
   ·simp only[if_pos e,if_pos y];rw[if_pos zo,if_neg zo];omega
   simp only[if_pos e,if_neg y];rw[if_pos zo,if_pos zo];omega
  simp only[if_neg e]
 ·unfold Go.Proofs.YtkdojacdolidfaaGreatDoor.rot;by_cases e:a<=k/\k<b
  ·by_cases y:k<a+(b-(a+(b-m)))
   ·simp only[if_pos e,if_pos y];rw[if_pos zo,if_neg zo];omega
   simp only[if_pos e,if_neg y];rw[if_pos zo,if_pos zo];omega
  simp only[if_neg e]
 ·unfold Go.Proofs.YtkdojacdolidfaaGreatDoor.rot;rw[if_neg zo]
 unfold Go.Proofs.YtkdojacdolidfaaGreatDoor.rot;split<;>(try split)<;>rfl
structure Cut (c:Nat->Nat->Int) (a m b s:Nat) (f:Nat->Nat):Prop where
 lo:a<=s/\s<=(a+b) / 2
 am:a<=m/\m<=b
 sm:s<=m
 eb:(a+b) / 2+m-s<=b
 left:s=a\/(a+b) / 2+m-s=b\/Lt c (f (s-1)) (f ((a+b) / 2+m-s))
 right:s=m\/s=(a+b) / 2\/Lt c (f ((a+b) / 2+m-s-1)) (f s)
structure Kxc (c:Nat->Nat->Int) (a b s m e:Nat) (g:Nat->Nat):Prop where
 s1:Srt c a s g
 s2:Srt c s m g
 s3:Srt c m e g
 s4:Srt c e b g
 cross:∀ i j,a<=i->i<m->m<=j->j<b->Lt c (g i) (g j)
 st1:Ks0 c a m g
 st2:Ks0 c m b g
theorem Cut.cut {c}(ho:Ksg c){a m b s f}(h:Cut c a m b s f)(hl:Srt c a m f)(hr:Srt c m b f)(U:Ks0 c a b f):
  Kxc c a b s ((a+b) / 2) ((a+b) / 2+m-s) (rot s m ((a+b) / 2+m-s) f):=by
 obtain⟨⟨br,bx⟩,⟨bz,m2⟩,sm,eb,left,right⟩:=h;generalize bi:(a+b) / 2=d at *;have bj:d<=b:=zo;have bh:a<=d:=zo;have g1:∀ k,k<s->rot s m (d+m-s) f k=f k:=fun k bf=>by unfold rot;rw[if_neg zo]
 have g2:∀ k,s<=k->k<d->rot s m (d+m-s) f k=f (k+(m-s)):=fun k y I=>by unfold rot;rw[if_pos zo,if_pos zo]
 have M:∀ k,d<=k->k<d+m-s->rot s m (d+m-s) f k=f (k-(d-s)):=fun k y I=>by unfold rot;rw[if_pos zo,if_neg zo];congr 1;omega
 have O:∀ k,d+m-s<=k->rot s m (d+m-s) f k=f k:=fun k bf=>by unfold rot;rw[if_neg zo]
 generalize bk:rot s m (d+m-s) f=g at *;have cross:∀ i j,a<=i->i<d->d<=j->j<b->Lt c (g i) (g j):=by
  intro i j y I H Z;by_cases Y:i<s
  ·rw[g1 i Y];by_cases K:j<d+m-s
   ·rw[M j H K];exact hl _ _ y zo zo
   rw[O j zo];rcases left with x|x|x
   ·omega
   ·omega
   exact Lt.le_le ho (hl.le (i:=i) (j:=s-1) y zo zo) x (hr.le zo zo Z)
  rw[g2 i zo I];by_cases K:j<d+m-s
  ·rw[M j H K];rcases right with x|x|x
   ·omega
   ·omega
   exact Lt.le_le ho (hr.le (i:=i+(m-s)) (j:=d+m-s-1) zo zo zo) x (hl.le zo zo zo)
  rw[O j zo];exact hr _ _ zo zo Z
 refine⟨fun i j y I H=>?_,fun i j y I H=>?_,fun i j y I H=>?_,fun i j y I H=>?_,cross,fun i j y I H=>?_,fun i j y I H=>?_⟩
 ·rw[g1 i zo,g1 j H];exact hl _ _ y I zo
 ·rw[g2 i y zo,g2 j zo H];exact hr _ _ zo zo zo
 ·rw[M i y zo,M j zo H];exact hl _ _ zo zo zo
 ·rw[O i y,O j zo];exact hr _ _ zo I H
 ·by_cases Y:i<s
  ·rw[g1 i Y];by_cases K:j<s
   ·rw[g1 j K];exact U _ _ y I zo
   rw[g2 j zo H];exact U _ _ y zo zo
  rw[g2 i zo zo,g2 j zo H];exact U _ _ zo zo zo
 by_cases Y:j<d+m-s
 ·rw[M i y zo,M j zo Y];exact U _ _ zo zo zo
 rw[O j zo];by_cases K:i<d+m-s
 ·rw[M i y K];exact U _ _ zo zo H
 rw[O i zo];exact U _ _ zo I H
theorem Kxc.whole {c a b s m e g H I}(h:Kxc c a b s m e g)(O:Arr a m g H)(y:Arr m b H I)(s1:Srt c a m H)(s2:Srt c m b I):Srt c a b I:=by
 intro i j hi U Y;by_cases K:j<m
 ·rw[y.off (.inl zo),y.off (.inl K)];exact s1 i j hi U K
 by_cases M:i<m
 ·rw[y.off (.inl M)];obtain⟨t,bf,bh,ht⟩:=O.at ⟨hi,M⟩;obtain⟨u,u1,u2,Z⟩:=y.at (k:=j) ⟨zo,Y⟩;rw[ht,Z,O.off (.inr u1)];exact h.cross t u bf bh u1 u2
 exact s2 i j zo U Y
theorem Srt.join {c a b s f}(y:Srt c a s f)(H:Srt c s b f)(h:s=a\/s=b):Srt c a b f:=by
 rcases h with rfl|rfl
 ·exact H
 exact y
def Blk (c:Nat->Nat->Int)(s lo hi:Nat)(f:Nat->Nat):Prop:=∀ i j,lo<=i->i<j->j<hi->i / s=j / s->Lt c (f i) (f j)
theorem Blk.one {c s n f}(h:Blk c s 0 n f)(hs:n<=s):Srt c 0 n f:=fun i j y H I=>
 h i j y H I (by rw[Op6 zo,Op6 zo])
theorem Blk.more {c s k e f g}(h:Blk c s 0 (k*s) f)(H:Arr (k*s) e f g)(hs:Srt c (k*s) e g)(I:0<s):Blk c s 0 e g:=by
 intro i j O y U Y;by_cases K:k*s<=i
 ·exact hs i j K y U
 by_cases M:k*s<=j
 ·have a1:i / s<k:=(Nat.div_lt_iff_lt_mul I).2 zo;have a2:k<=j / s:=(Nat.le_div_iff_mul_le I).2 M;omega
 rw[H.off (.inl zo),H.off (.inl zo)];exact h i j O y zo Y
theorem Blk.sub {c s lo hi H y f}(h:Blk c s lo hi f)(K:lo<=H)(M:y<=hi):Blk c s H y f:=fun i j a1 a2 I=>h i j zo a2 zo
theorem Blk.srt {c s n k e f}(h:Blk c s (k*s) n f)(M:e<=n)(O:e<=k*s+s)(y:0<s):Srt c (k*s) e f:=fun i j H I K=>
 h i j H I zo (by
  have b1:i / s=k:=by
   have a1:i / s<k+1:=(Nat.div_lt_iff_lt_mul y).2 (by rw[Nat.add_mul];omega);have a2:k<=i / s:=(Nat.le_div_iff_mul_le y).2 H;omega
  have b2:j / s=k:=by
   have a1:j / s<k+1:=(Nat.div_lt_iff_lt_mul y).2 (by rw[Nat.add_mul];omega);have a2:k<=j / s:=(Nat.le_div_iff_mul_le y).2 zo;omega
  rw[b1,b2])
def Kuc (f:Nat->Nat)(a c k:Nat):Nat->Nat:=fun t=>if a<=t/\t<a+k then f (t-a+c)else if c<=t/\t<c+k then f (t-c+a)else f t
theorem Kzn f a c:Kuc f a c 0=f:=by
 funext t;unfold Kuc;rw[if_neg zo,if_neg zo]
theorem Kz2 {f a c k}(h:a+k<c):swp (Kuc f a c k) (a+k) (c+k)=Kuc f a c (k+1):=by
 funext t;unfold swp Kuc
 by_cases y:t=a+k
 ·rw[if_pos y,if_neg zo,if_neg zo,if_pos zo];congr 1;omega
 rw[if_neg y];by_cases H:t=c+k
 ·rw[if_pos H,if_neg zo,if_neg zo,if_neg zo,if_pos zo];congr 1;omega
 rw[if_neg H];by_cases I:a<=t/\t<a+k
 ·rw[if_pos I,if_pos zo]
 rw[if_neg I,if_neg (c:=a<=t/\t<a+(k+1)) zo];by_cases K:c<=t/\t<c+k
 ·rw[if_pos K,if_pos zo]
 rw[if_neg K,if_neg zo]
theorem Qbd {p i j}g(h:j<=i):rot (p+j) (p+i) (p+i+j) (Kuc g p (p+i) j)=rot p (p+i) (p+i+j) g:=by
 funext t;unfold rot Kuc
 by_cases y:p<=t/\t<p+j
 ·rw[if_neg zo,if_pos y,if_pos zo,if_pos zo];congr 1;omega
 by_cases H:p+j<=t/\t<p+i+j
 ·rw[if_pos H,if_pos (c:=p<=t/\t<p+i+j) zo,if_neg (c:=t<p+(p+i+j-(p+i))) zo];by_cases I:t<p+j+(p+i+j-(p+i))
  ·rw[if_pos I,if_neg zo,if_pos zo];congr 1;omega
  rw[if_neg I,if_neg zo,if_neg zo]
 rw[if_neg H,if_neg y,if_neg (c:=p+i<=t/\t<p+i+j) zo,if_neg zo]
theorem Kxw {p i j}g(h:i<=j):rot p (p+i) (p+j) (Kuc g p (p+j) i)=rot p (p+i) (p+i+j) g:=by
 funext t;unfold rot Kuc
 by_cases y:p<=t/\t<p+j
 ·rw[if_pos y,if_pos (c:=p<=t/\t<p+i+j) zo,if_pos (c:=t<p+(p+i+j-(p+i))) zo];by_cases I:t<p+(p+j-(p+i))
  ·rw[if_pos I,if_neg zo,if_neg zo]
  rw[if_neg I,if_pos zo];congr 1;omega
 rw[if_neg y];by_cases H:p+j<=t/\t<p+j+i
 ·rw[if_neg zo,if_pos H,if_pos zo,if_neg zo];congr 1;omega
 rw[if_neg zo,if_neg H,if_neg zo]
theorem Qbv {p i}g:Kuc g p (p+i) i=rot p (p+i) (p+i+i) g:=by
 rw[<-Kxw g (Oa2 i)];have:=Kxz (a:=p) (m:=p+i) (Kuc g p (p+i) i);exact this.symm
section
open Go.RowKit Tryz
structure Kr9 (w:World) (b n:Nat) (f:Nat->Nat):Prop where
 lt:b<w.heap.size
 cell:∀ i,i<n->w.cell? ⟨b,i,none⟩=some (.int .i64 (f i:Nat))
 froz:∀ i,i<n->w.frozen? ⟨b,i,none⟩=false
theorem Kr9.below {w w' b n f}(h:Kr9 w b n f)(hb:Below w.heap.size w w'):Kr9 w' b n f:=
 ⟨Oc2 h.lt hb.size,fun i hi=>by rw[(Kx hb).1 b i h.lt];exact h.cell i hi,fun i hi=>by rw[(Kx hb).2 b i h.lt];exact h.froz i hi⟩
theorem Kr9.drew {w b n f}(h:Kr9 w b n f)m:Kr9 (w.drewN m) b n f:=⟨h.lt,h.cell,h.froz⟩
theorem Kr9.congr {w b n f g}(h:Kr9 w b n f)(e:f=g):Kr9 w b n g:=e▸h
theorem zaV {p:Prop}(h:p:=by subst e;rw[if_pos rfl];exact World.cell?_setCell_same _ _ _ (h.cell k hi)):p:=h
theorem Kr9.set {w}{b n:Nat}{f}(h:Kr9 w b n f){i:Nat}(hi:i<n)(x:Nat):Kr9 (w.setCell ⟨b,i,none⟩ (.int .i64 x)) b n (fun k=>if k=i then x else f k):=by
 refine⟨by simpa using h.lt,fun k y=>?_,fun k y=>by rw[On9];exact h.froz k y⟩;by_cases e:k=i
 ·exact zaV
 rw[if_neg e,Ob5 _ _ _ _ (by intro h;apply e;injection h with _ h;exact h.symm)];exact h.cell k y
theorem Kr9.swap {w b n f}(h:Kr9 w b n f){i j}(hi:i<n)(H:j<n)(I:i≠j):
  Kr9 ((w.setCell ⟨b,i,none⟩ (.int .i64 (f j:Nat))).setCell ⟨b,j,none⟩ (.int .i64 (f i:Nat))) b n (swp f i j):=by
 refine((h.set hi (f j)).set H (f i)).congr ?_;funext k;unfold swp
 by_cases y:k=j
 ·rw[if_pos y,if_neg zo,if_pos y]
 rw[if_neg y,if_neg y]
abbrev Ks4 (b:Nat):Nat->Prop:=fun k=>k=b
theorem Kt9 {w wr b i j}(h:Ju (Ks4 b) w wr)x y:Ju (Ks4 b) w ((wr.setCell ⟨b,i,none⟩ x).setCell ⟨b,j,none⟩ y):=(h.set rfl i x).set rfl j y
theorem Kt2 (b n cap a c k:Nat)(I K O:Int)Y f w(Z:I=a)(bf:K=c)(bh:O=k)(bB:a+k<=c)(bC:c+k<=n)(bG:n<=1000000)(hr:Kr9 w b n f):
  Calls prog 298 #[.slice (some ⟨b,0,none⟩) n cap,.int .i64 I,.int .i64 K,.int .i64 O,Y] w fun e w'=>e=.returned (.tuple #[])/\Kr9 w' b n (Kuc f a c k)/\Ju (Ks4 b) w w':=by
 subst Z bf bh;go_enter func298,ntmps298
 go_wp2;go_loopw [10] (fun i wr=>∃ t:Nat,t<=k/\i=.int .i64 t/\Kr9 wr b n (Kuc f a c t)/\Ju (Ks4 b) w wr) (fun i _=>k-(intOf i).toNat)
 case atStart=>exact⟨0,Ob7 _,rfl,hr.congr (Kzn f a c).symm,Ju.refl _ _⟩
 case round=>
  rename_i i
  obtain⟨t,bH,rfl,hR,hK⟩:=hrel;by_cases bD:t<k
  ·obtain⟨x,H⟩:∃ x,x=a+t:=⟨_,rfl⟩;obtain⟨y,hy⟩:∃ y,y=c+t:=⟨_,rfl⟩;have bk:=hR.cell x zo;have br:=hR.cell y zo;have bz:=hR.froz x zo;have bA:=hR.froz y zo;have M:=(hR.swap (i:=x) (j:=y) zo zo zo).congr (show _=Kuc f a c (t+1) by rw[H,hy];exact Kz2 zo);have U:Hid _:=M;clear M;have ex:(a:Int)+(t:Int)=(x:Int):=zo;have bx:(c:Int)+(t:Int)=(y:Int):=zo;have bI:(x:Int)<(n:Int):=zo;have bJ:(y:Int)<(n:Int):=zo;generalize Kuc f a c t x=bK at *;generalize Kuc f a c t y=bL at *;have bi:=zh H;have bj:=zh hy;clear H hy;go_wp2_with fail
   go_big_region
   all_goals go_wp2
   refine⟨⟨t+1,zo,zn,U.out.drew 1,(Kt9 hK _ _).drewN 1⟩,by simp[intOf];omega⟩
  obtain rfl:t=k:=zo;have bE:¬ (t:Int)<(t:Int):=zo;go_wp2;go_end0
  exact⟨rfl,hR,hK⟩
theorem Kw1 (b n cap s m e:Nat)(si bh y:Int)M f w(hs:si=s)(bB:bh=m)(bk:y=e)(bG:s<m)(bH:m<e)(bI:e<=n)(bf:n<=1000000)(hr:Kr9 w b n f):
  Calls prog 293 #[.slice (some ⟨b,0,none⟩) n cap,.int .i64 si,.int .i64 bh,.int .i64 y,M] w fun O w'=>O=.returned (.tuple #[])/\Kr9 w' b n (rot s m e f)/\Ju (Ks4 b) w w':=by
 subst hs bB bk;have bj:(m:Int)-(s:Int)=((m-s:Nat):Int):=zo;have bi:(e:Int)-(m:Int)=((e-m:Nat):Int):=zo;go_enter func293,ntmps293
 go_wp2;go_loopw [10,11] (fun iv Y wr=>∃ (p i j:Nat) (g:Nat->Nat),iv=.int .i64 i/\Y=.int .i64 j/\0<i/\0<j/\p+i=m/\s<=p/\m+j<=e/\Kr9 wr b n g/\Ju (Ks4 b) w wr/\Hid (rot p m (m+j) g=rot s m e f)) (fun iv Y _=>(intOf iv).toNat+(intOf Y).toNat)
 case atStart=>exact⟨s,m-s,e-m,f,by first|rfl|rw[bj],by first|rfl|rw[bi],zo,zo,zo,Oa2 _,zo,hr,Ju.refl _ _,by show _=_;rw[show m+(e-m)=e by omega]⟩
 case round=>
  rename_i iv Y
  obtain⟨p,i,j,g,rfl,rfl,bx,bA,U,bD,bK,hR,hK,Z⟩:=hrel;have bE:(m:Int)-(i:Int)=(p:Int):=zo;by_cases bz:i=j
  ·subst bz;have K:=Kt2 b n cap p m i p m i M g wr rfl rfl rfl zo zo bf hR;have bC:((i:Int) != (i:Int))=false:=zS;go_wp2_with (go_at_call 298;refine K.mono ?_;rintro O w' ⟨rfl,I,H⟩)
   go_end0
   refine⟨rfl,I.congr ?_,hK.trans H⟩;rw[<-Z.out,<-U];exact Qbv g
  have bC:((i:Int) != (j:Int))=true:=by simp;omega
  by_cases bJ:j<i
  ·have K:=Kt2 b n cap p m j p m j M g wr rfl rfl rfl zo zo bf hR;have br:(j:Int)<(i:Int):=zo;have y:(i:Int)-(j:Int)=((i-j:Nat):Int):=zo;go_wp2_with (go_at_call 298;refine K.mono ?_;rintro O w' ⟨rfl,I,H⟩)
   go_roundw
   case rel=>
    refine⟨p+j,i-j,j,_,by first|rfl|rw[y],rfl,zo,bA,zo,zo,zo,I,hK.trans H,?_⟩;show _=_;rw[<-Z.out,<-U];exact Qbd g zo
   case measure=>simp[intOf];omega
  have br:¬ (j:Int)<(i:Int):=zo;have K:=Kt2 b n cap p (p+j) i p ((m:Int)+j-i) i M g wr rfl zo rfl zo zo bf hR;have y:(j:Int)-(i:Int)=((j-i:Nat):Int):=zo;go_wp2_with (go_at_call 298;refine K.mono ?_;rintro O w' ⟨rfl,I,H⟩)
  go_roundw
  case rel=>
   refine⟨p,i,j-i,_,rfl,by first|rfl|rw[y],bx,zo,U,bD,zo,I,hK.trans H,?_⟩;show _=_;rw[<-Z.out,<-U,show p+i+(j-i)=p+j by omega];exact Kxw g zo
  case measure=>simp[intOf];omega
def Kue (w:World)(b N:Nat)(p q:Addr)(c:Nat->Nat->Int):Prop:=∀ W,Ju (Ks4 b) w W->∀ x y:Nat,x<N->y<N ->
 Calls prog 204 #[.int .i64 x,.int .i64 y,.pointer (some p),.pointer (some q)] W fun e w'=>e=.returned (.int .i64 (c x y))/\Below W.heap.size W w'
theorem Kue.keep {w w' b N p q c}(h:Kue w b N p q c)(H:Ju (Ks4 b) w w'):Kue w' b N p q c:=fun W y=>h W (H.trans y)
def Kti (p q:Addr):Value:=.func (.func 204) #[] #[.pointer (some p),.pointer (some q)]
theorem Ju.drew {F w w'}(h:Ju F w w'):Ju F w w'.drew:=h.drewN 1
def Kto (N n:Nat)(f:Nat->Nat):Prop:=∀ i,i<n->f i<N
theorem Kto.arr {N n a e f g}(h:Kto N n f)(x:Arr a e f g)(y:e<=n):Kto N n g:=fun i hi=>by
 by_cases k:a<=i/\i<e
 ·obtain⟨t,_,H,ht⟩:=x.at k;rw[ht];exact h t zo
 rw[x.off zo];exact h i hi
theorem Kuw (b n N cap a e:Nat)(bz bA:Int)p q c(ho:Ksg c)f w(bR:bz=a)(bS:bA=e)(bW:a<=e)(bC:e<=n)(cf:n<=1000000)(hr:Kr9 w b n f)(bI:Kto N n f)(bE:Kue w b N p q c)(bV:Ks0 c a e f):
  Calls prog 279 #[.slice (some ⟨b,0,none⟩) n cap,.int .i64 bz,.int .i64 bA,Kti p q] w fun bj w'=>bj=.returned (.tuple #[])/\∃ g,Kr9 w' b n g/\Ju (Ks4 b) w w'/\Arr a e f g/\Srt c a e g:=by
 subst bR bS;have bM:=zh bE;clear bE;unfold Kti;go_enter func279,ntmps279
 go_wp2;go_loopw [8] (fun iv wr=>∃ (k:Nat) (g:Nat->Nat),iv=.int .i64 k/\a<k/\(k<=e\/k=a+1)/\Kr9 wr b n g/\Ju (Ks4 b) w wr/\Hid (Arr a e f g/\Srt c a k g/\Ks0 c a e g)) (fun iv _=>e+1-(intOf iv).toNat)
 case atStart=>exact⟨a+1,f,zn,zo,.inr rfl,hr,Ju.refl _ _,Arr.refl _ _ _,fun i j x K z=>zo,bV⟩
 case round=>
  rename_i iv
  obtain⟨k,g,rfl,bX,cb,hR,hK,H⟩:=hrel;by_cases cc:k<e
  ·have bU:(k:Int)<(e:Int):=zo;go_wp2;go_loopw [9] (fun bi bL=>∃ (j:Nat) (g2:Nat->Nat),bi=.int .i64 j/\a<=j/\j<=k/\Kr9 bL b n g2/\Ju (Ks4 b) w bL/\Hid (Arr a e f g2/\Kww c a k j g2/\Ks0 c a e g2)) (fun bi _=>(intOf bi).toNat)
   case atStart=>exact⟨k,g,rfl,zo,Oa2 _,hR,hK,H.out.1,Kww.start H.out.2.1,H.out.2.2⟩
   case round=>
    rename_i bi
    clear hR hK H;obtain⟨j,g2,rfl,bD,bH,hR,hK,H⟩:=hrel;by_cases bY:a<j
    ·obtain⟨y,rfl⟩:∃ y,j=y+1:=⟨j-1,zo⟩;obtain⟨x,bh⟩:∃ x,g2 (y+1)=x:=⟨_,rfl⟩;obtain⟨K,hy⟩:∃ K,g2 y=K:=⟨_,rfl⟩;have bf:=hR.cell (y+1) zo;have cp:=hR.cell y zo;have bJ:x<N:=bh▸(bI.arr H.out.1 bC) (y+1) zo;have bK:K<N:=hy▸(bI.arr H.out.1 bC) y zo;rw[bh]at bf;rw[hy]at cp;have M:=zh bh;have O:=zh hy;clear bh hy;have bT:(a:Int)<(y:Int)+1:=zo;have ca:(y:Int)+1<(n:Int):=zo;have ci:(y:Int)<(n:Int):=zo;have cn:(0:Int)<=(y:Int)+1:=zo;have bP:((y:Int)+1).toNat=y+1:=zo;have cj:IntKind.i64.wrap (y:Int)=(y:Int):=by rw[Od4];omega
     have cu:(0:Int)<=(y:Int):=zo;have br:=bM.out wr.drew hK.drew x K bJ bK;clear bJ bK;by_cases bG:c x K<0
     ·go_wp2_with fail
      go_region_held3 (fun X=>X.cell? ⟨b,y+1,none⟩=some (.int .i64 (x:Nat))/\X.cell? ⟨b,y,none⟩=some (.int .i64 (K:Nat)))
       (first|(exact⟨bf,cp⟩)|(exact⟨U,Z⟩)|(go_split_ands;constructor<;>assumption))
       (first|(go_at_call 204;refine br.mono ?_;rintro bj bO ⟨rfl,Y⟩;have bk:=hK.trans (Ju.of_below (Jw Y));have I:=hR.below (Jw Y);have U:=I.cell (y+1) zo;have Z:=I.cell y zo;have bB:=I.froz (y+1) zo;have bQ:=I.froz y zo;rw[M.out]at U;rw[O.out]at Z))
      go_wp2_with fail
      obtain⟨j1,bx⟩:∃ j1,j1=y+1:=⟨_,rfl⟩;rw[<-bx]at U bB bP;have bN:=zh bx;clear bx bf cp br Y;go_big_region
      all_goals go_wp2
      refine⟨⟨y,swp g2 (y+1) y,zn,zo,zo,?_,(Kt9 bk _ _).drewN 1,H.out.1.trans (Arr.swp zo zo),H.out.2.1.step zo zo (by rw[M.out,O.out];exact bG),H.out.2.2.swap ho zo zo (by rw[M.out,O.out];exact bG)⟩,by simp[intOf]⟩;have:=I.swap (i:=y+1) (j:=y) zo zo zo;rw[M.out,O.out]at this;rw[bN.out];exact this.drew 1
     go_wp2_with fail
     go_region_held3 (fun X=>X.cell? ⟨b,y+1,none⟩=some (.int .i64 (x:Nat))/\X.cell? ⟨b,y,none⟩=some (.int .i64 (K:Nat)))
      (first|(exact⟨bf,cp⟩)|(exact⟨U,Z⟩)|(go_split_ands;constructor<;>assumption))
      (first|(go_at_call 204;refine br.mono ?_;rintro bj bO ⟨rfl,Y⟩;have bk:=hK.trans (Ju.of_below (Jw Y));have I:=hR.below (Jw Y);have U:=I.cell (y+1) zo;have Z:=I.cell y zo;have bB:=I.froz (y+1) zo;have bQ:=I.froz y zo;rw[M.out]at U;rw[O.out]at Z))
     go_wp2;go_roundw
     case rel=>exact⟨k+1,g2,zn,zo,zo,I,bk,H.out.1,H.out.2.1.done ho bD bH (.inr (by rw[Nat.add_sub_cancel];exact H.out.2.2.ge ho zo zo zo (by rw[M.out,O.out];omega))),H.out.2.2⟩
     case measure=>simp[intOf];omega
    have bT:¬ (a:Int)<(j:Int):=zo;have bZ:decide ((j:Int)>(a:Int))=false:=decide_eq_false zo;go_wp2_with fail
    go_big_region
    all_goals go_wp2
    go_roundw
    case rel=>exact⟨k+1,g2,zn,zo,zo,hR.drew 1,hK.drew,H.out.1,H.out.2.1.done ho bD bH (.inl zo),H.out.2.2⟩
    case measure=>simp[intOf];omega
  have bU:¬ (k:Int)<(e:Int):=zo;go_wp2;go_end0
  exact⟨rfl,g,hR,hK,H.out.1,H.out.2.1.mono (Oa2 _) zo⟩
def Kvv (b n a e:Nat)(c:Nat->Nat->Int)(f:Nat->Nat)(w:World)(y:Ending)(w':World):Prop:=y=.returned (.tuple #[])/\∃ g,Kr9 w' b n g/\Ju (Ks4 b) w w'/\Arr a e f g/\Srt c a e g
theorem Arr.mvUp {a e k f}(h:a<=k/\k<e):Arr a e f (Kvf a k f):=by
 obtain⟨I,K⟩:=h;induction k with
 |zero=>
      obtain rfl:a=0:=zo;rw[Ku6];exact Arr.refl _ _ _
 |succ k H=>
  by_cases y:a=k+1
  ·rw[<-y,Ku6];exact Arr.refl _ _ _
  rw[<-Kwn f zo];exact(H zo zo).trans (Arr.swp zo zo)
theorem Kz0 (b n N cap a m e:Nat)(bC bI bz:Int)p q c(ho:Ksg c)f w(bP:bC=a)(bX:bI=m)(bT:bz=e)(bD:m=a+1)(ci:m<e)(cj:e<=n)(cF:n<=1000000)(hr:Kr9 w b n f)(bH:Kto N n f)(bE:Kue w b N p q c)(bY:Ks0 c a e f)(hs:Srt c m e f):
  Calls prog 280 #[.slice (some ⟨b,0,none⟩) n cap,.int .i64 bC,.int .i64 bI,.int .i64 bz,Kti p q] w (Kvv b n a e c f w):=by
 subst bP bX bT;have bJ:=zh bE;have cE:(m:Int)-(a:Int)=1:=zo;have bK:=zh bD;have cf:a<m:=zo;clear bE bD;unfold Kti;go_enter func280,ntmps280
 go_wp2;go_loopw [10,11] (fun iv bk wr=>∃ i j:Nat,iv=.int .i64 i/\bk=.int .i64 j/\m<=i/\i<=j/\j<=e/\Kr9 wr b n f/\Ju (Ks4 b) w wr/\Hid ((i=m\/Lt c (f (i-1)) (f a))/\(j=e\/Lt c (f a) (f j)))) (fun iv bk _=>(intOf bk).toNat-(intOf iv).toNat)
 case atStart=>exact⟨m,e,rfl,rfl,Oa2 _,zo,Oa2 _,hr,Ju.refl _ _,.inl rfl,.inl rfl⟩
 case round=>
  rename_i iv bk
  obtain⟨i,j,rfl,rfl,bQ,cy,bU,hR,hK,Y⟩:=hrel;by_cases cD:i<j
  ·have bW:(i:Int)<(j:Int):=zo;obtain⟨h,hh⟩:∃ h,h=(i+j) / 2:=⟨_,rfl⟩;have bZ:((i:Int)+(j:Int)) / 2=(h:Int):=zo;have cx:i<=h/\h<j:=zo;clear hh;have cu:(h:Int)<(n:Int):=zo;have cn:(a:Int)<(n:Int):=zo;obtain⟨x,bj⟩:∃ x,f h=x:=⟨_,rfl⟩;obtain⟨K,hy⟩:∃ K,f a=K:=⟨_,rfl⟩;have bh:=hR.cell h zo;have bi:=hR.cell a zo;have bG:=bJ.out wr.drew hK.drew x K (bj▸bH h zo) (hy▸bH a zo);rw[bj]at bh;rw[hy]at bi;have Z:=zh bj;have bf:=zh hy;clear bj hy;by_cases bS:c x K<0
   ·go_wp2_with fail
    go_region_held3 (fun X=>X.cell? ⟨b,h,none⟩=some (.int .i64 (x:Nat))/\X.cell? ⟨b,a,none⟩=some (.int .i64 (K:Nat)))
       (first|(exact⟨bh,bi⟩)|(exact⟨M,O⟩)|(go_split_ands;constructor<;>assumption))
       (first|(go_at_call 204;refine bG.mono ?_;rintro bN bM ⟨rfl,U⟩;have bA:=hK.trans (Ju.of_below (Jw U));have I:=hR.below (Jw U);have M:=I.cell h zo;have O:=I.cell a zo;rw[Z.out]at M;rw[bf.out]at O))
    go_wp2;go_roundw
    case rel=>exact⟨h+1,j,zn,rfl,zo,zo,bU,I,bA,.inr (by rw[Nat.add_sub_cancel,Z.out,bf.out];exact .inl bS),Y.out.2⟩
    case measure=>simp[intOf];omega
   go_wp2_with fail
   go_region_held3 (fun X=>X.cell? ⟨b,h,none⟩=some (.int .i64 (x:Nat))/\X.cell? ⟨b,a,none⟩=some (.int .i64 (K:Nat)))
      (first|(exact⟨bh,bi⟩)|(exact⟨M,O⟩)|(go_split_ands;constructor<;>assumption))
      (first|(go_at_call 204;refine bG.mono ?_;rintro bN bM ⟨rfl,U⟩;have bA:=hK.trans (Ju.of_below (Jw U));have I:=hR.below (Jw U);have M:=I.cell h zo;have O:=I.cell a zo;rw[Z.out]at M;rw[bf.out]at O))
   go_wp2;go_roundw
   case rel=>exact⟨i,h,rfl,rfl,bQ,zo,zo,I,bA,Y.out.1,.inr (bY.ge ho (Oa2 _) zo zo (by rw[Z.out,bf.out];omega))⟩
   case measure=>simp[intOf];omega
  obtain rfl:i=j:=zo;have bW:¬ (i:Int)<(i:Int):=zo;obtain⟨H,cv⟩:∃ H,i=H+1:=⟨i-1,zo⟩;have bz:(i:Int)-1=(H:Int):=zo;go_wp2;go_loopw [13] (fun br wr=>∃ k:Nat,br=.int .i64 k/\a<=k/\k<=H/\Kr9 wr b n (Kvf a k f)/\Ju (Ks4 b) w wr) (fun br _=>H-(intOf br).toNat)
  case atStart=>exact⟨a,rfl,Oa2 _,zo,hR.congr (Ku6 a f).symm,hK⟩
  case round=>
   rename_i br
   clear hR hK;obtain⟨k,rfl,bR,cB,hR,hK⟩:=hrel;by_cases cz:k<H
   ·have bV:(k:Int)<(H:Int):=zo;obtain⟨y,bB⟩:∃ y,y=k+1:=⟨_,rfl⟩;have ca:(k:Int)+1=(y:Int):=zo;have bh:=hR.cell k zo;have bi:=hR.cell y zo;have cb:=hR.froz k zo;have cc:=hR.froz y zo;have cC:(k:Int)<(n:Int):=zo;have cA:(y:Int)<(n:Int):=zo;have bL:Hid _:=(hR.swap (i:=k) (j:=y) zo zo zo).congr (show _=Kvf a y f by rw[bB];exact Kwn f bR);generalize Kvf a k f k=cG at *;generalize Kvf a k f y=cH at *;have bx:=zh bB;clear bB;go_wp2_with fail
    go_big_region
    all_goals go_wp2
    exact⟨⟨y,rfl,by have:=bx.out;omega,by have:=bx.out;omega,bL.out.drew 1,(Kt9 hK _ _).drewN 1⟩,by have:=bx.out;simp[intOf];omega⟩
   have bV:¬ (k:Int)<(H:Int):=zo;go_wp2;go_end0
   refine⟨rfl,_,hR,hK,Arr.mvUp zo,?_⟩;have bO:k=i-1:=zo;rw[bO];have:=bK.out;subst this;exact Kzv ho hs zo Y.out.1 Y.out.2
theorem Arr.mvDn {a m f k d}(h:a<=k)(H:k+d=m):Arr a (m+1) f (Kve m f k):=by
 induction d generalizing k with
 |zero=>
      obtain rfl:k=m:=zo;rw[Kwi];exact Arr.refl _ _ _
 |succ d y=>
  rw[<-Kwf f zo];exact(y (k:=k+1) zo zo).trans (Arr.swp zo zo)
theorem Kyo (b n N cap a m e:Nat)(bA bI bB:Int)p q c(ho:Ksg c)f w(bO:bA=a)(bU:bI=m)(bQ:bB=e)(bC:e=m+1)(cb:a+1<m)(cc:e<=n)(cE:n<=1000000)(hr:Kr9 w b n f)(bH:Kto N n f)(bD:Kue w b N p q c)(bV:Ks0 c a e f)(hs:Srt c a m f):
  Calls prog 280 #[.slice (some ⟨b,0,none⟩) n cap,.int .i64 bA,.int .i64 bI,.int .i64 bB,Kti p q] w (Kvv b n a e c f w):=by
 subst bO bU bQ;have bJ:=zh bD;have cC:((m:Int)-(a:Int)==1)=false:=by simp;omega
 have cD:(e:Int)-(m:Int)=1:=zo;have bK:=zh bC;have ca:m<e:=zo;clear bD bC;unfold Kti;go_enter func280,ntmps280
 go_wp2;go_loopw [14,15] (fun iv bj wr=>∃ i j:Nat,iv=.int .i64 i/\bj=.int .i64 j/\a<=i/\i<=j/\j<=m/\Kr9 wr b n f/\Ju (Ks4 b) w wr/\Hid ((i=a\/Lt c (f (i-1)) (f m))/\(j=m\/Lt c (f m) (f j)))) (fun iv bj _=>(intOf bj).toNat-(intOf iv).toNat)
 case atStart=>exact⟨a,m,rfl,rfl,Oa2 _,zo,Oa2 _,hr,Ju.refl _ _,.inl rfl,.inl rfl⟩
 case round=>
  rename_i iv bj
  obtain⟨i,j,rfl,rfl,bP,cv,bR,hR,hK,U⟩:=hrel;by_cases cB:i<j
  ·have bT:(i:Int)<(j:Int):=zo;obtain⟨h,hh⟩:∃ h,h=(i+j) / 2:=⟨_,rfl⟩;have bW:((i:Int)+(j:Int)) / 2=(h:Int):=zo;have cu:i<=h/\h<j:=zo;clear hh;have cn:(h:Int)<(n:Int):=zo;have ci:(m:Int)<(n:Int):=zo;obtain⟨x,bi⟩:∃ x,f m=x:=⟨_,rfl⟩;obtain⟨I,hy⟩:∃ I,f h=I:=⟨_,rfl⟩;have bf:=hR.cell m zo;have bh:=hR.cell h zo;have bG:=bJ.out wr.drew hK.drew x I (bi▸bH m zo) (hy▸bH h zo);rw[bi]at bf;rw[hy]at bh;have Y:=zh bi;have Z:=zh hy;clear bi hy;by_cases bE:c x I<0
   ·go_wp2_with fail
    go_region_held3 (fun X=>X.cell? ⟨b,m,none⟩=some (.int .i64 (x:Nat))/\X.cell? ⟨b,h,none⟩=some (.int .i64 (I:Nat)))
       (first|(exact⟨bf,bh⟩)|(exact⟨K,M⟩)|(go_split_ands;constructor<;>assumption))
       (first|(go_at_call 204;refine bG.mono ?_;rintro bN bM ⟨rfl,O⟩;have bx:=hK.trans (Ju.of_below (Jw O));have H:=hR.below (Jw O);have K:=H.cell m zo;have M:=H.cell h zo;rw[Y.out]at K;rw[Z.out]at M))
    go_wp2;go_roundw
    case rel=>exact⟨i,h,rfl,rfl,bP,zo,zo,H,bx,U.out.1,.inr (by rw[Y.out,Z.out];exact .inl bE)⟩
    case measure=>simp[intOf];omega
   have cj:decide (c x I<0)=false:=decide_eq_false bE;go_wp2_with fail
   go_region_held3 (fun X=>X.cell? ⟨b,m,none⟩=some (.int .i64 (x:Nat))/\X.cell? ⟨b,h,none⟩=some (.int .i64 (I:Nat)))
      (first|(exact⟨bf,bh⟩)|(exact⟨K,M⟩)|(go_split_ands;constructor<;>assumption))
      (first|(go_at_call 204;refine bG.mono ?_;rintro bN bM ⟨rfl,O⟩;have bx:=hK.trans (Ju.of_below (Jw O));have H:=hR.below (Jw O);have K:=H.cell m zo;have M:=H.cell h zo;rw[Y.out]at K;rw[Z.out]at M))
   go_wp2;go_roundw
   case rel=>exact⟨h+1,j,zn,rfl,zo,zo,bR,H,bx,.inr (by rw[Nat.add_sub_cancel];exact bV.ge ho zo zo zo (by rw[Y.out,Z.out];omega)),U.out.2⟩
   case measure=>simp[intOf];omega
  obtain rfl:i=j:=zo;have bT:¬ (i:Int)<(i:Int):=zo;go_wp2;go_loopw [17] (fun bk wr=>∃ k:Nat,bk=.int .i64 k/\i<=k/\k<=m/\Kr9 wr b n (Kve m f k)/\Ju (Ks4 b) w wr) (fun bk _=>(intOf bk).toNat)
  case atStart=>exact⟨m,rfl,zo,Oa2 _,hR.congr (Kwi m f).symm,hK⟩
  case round=>
   rename_i bk
   clear hR hK;obtain⟨k,rfl,cf,cz,hR,hK⟩:=hrel;by_cases cx:i<k
   ·have bS:(i:Int)<(k:Int):=zo;obtain⟨y,bz⟩:∃ y,k=y+1:=⟨k-1,zo⟩;have bX:(k:Int)-1=(y:Int):=zo;have bf:=hR.cell k zo;have bh:=hR.cell y zo;have bY:=hR.froz k zo;have bZ:=hR.froz y zo;have cA:(k:Int)<(n:Int):=zo;have cy:(y:Int)<(n:Int):=zo;have bL:Hid _:=(hR.swap (i:=k) (j:=y) zo zo zo).congr (show _=Kve m f y by rw[bz];exact Kwf f zo);generalize Kve m f k k=cF at *;generalize Kve m f k y=cG at *;have br:=zh bz;clear bz;go_wp2_with fail
    go_big_region
    all_goals go_wp2
    exact⟨⟨y,rfl,by have:=br.out;omega,by have:=br.out;omega,bL.out.drew 1,(Kt9 hK _ _).drewN 1⟩,by have:=br.out;simp[intOf];omega⟩
   have bS:¬ (i:Int)<(k:Int):=zo;go_wp2;go_end0
   obtain rfl:k=i:=zo;have:=bK.out;subst this;exact⟨rfl,_,hR,hK,Arr.mvDn (d:=m-k) zo zo,Kyi ho hs zo U.out.1 U.out.2⟩
def Qbi (b n N cap:Nat)(p q:Addr)(c:Nat->Nat->Int)(a m e:Nat):Prop:=∀ (f:Nat->Nat) (w:World),Kr9 w b n f->Kto N n f->Kue w b N p q c->Ks0 c a e f->Srt c a m f->Srt c m e f ->
 Calls prog 280 #[.slice (some ⟨b,0,none⟩) n cap,.int .i64 (a:Nat),.int .i64 (m:Nat),.int .i64 (e:Nat),Kti p q] w (Kvv b n a e c f w)
theorem Kyk b n N cap a m e p q c(ho:Ksg c)(bZ:a+1<m)(dd:m+1<e)(cz:e<=n)(cT:n<=1000000)(hI:∀ bW cj bh,bW<cj->cj<bh->bh<=n->bh-bW<e-a->Qbi b n N cap p q c bW cj bh):Qbi b n N cap p q c a m e:=by
 intro f w hr cK cC cL cI br;have bS:=zh cC;have cn:=zh hI;have bV:=zh cK;have bL:Hid (Ks0 c a e f/\Srt c a m f/\Srt c m e f):=⟨cL,cI,br⟩;have dl:((m:Int)-(a:Int)==1)=false:=by simp;omega
 have dm:((e:Int)-(m:Int)==1)=false:=by simp;omega
 obtain⟨d,cE⟩:∃ d,d=(a+e) / 2:=⟨_,rfl⟩;have cY:((a:Int)+(e:Int)) / 2=(d:Int):=zo;have dg:2*d<=a+e/\a+e<=2*d+1:=zo;have bT:=zh cE;obtain⟨y,cF⟩:∃ y,y=d+m:=⟨_,rfl⟩;have da:(d:Int)+(m:Int)=(y:Int):=zo;obtain⟨bI,cG⟩:∃ bI,y=bI+1:=⟨y-1,zo⟩;have db:(y:Int)-1=(bI:Int):=zo;have O:Hid (y=d+m/\y=bI+1):=⟨cF,cG⟩;have dp:y<=2000000:=zo;clear cC hI cK cL cI br cE cF cG;unfold Kti;go_enter func280,ntmps280
 go_upto_if 140 with fail
 go_cut [20,21] from 138 to 146 (fun sv rv Y=>∃ bf Z:Nat,sv=.int .i64 bf/\rv=.int .i64 Z/\((d<m/\bf+e=y/\Z=d)\/(m<=d/\bf=a/\Z=m))/\Y=w)
 case first=>
  by_cases cR:d<m
  ·have cS:(d:Int)<(m:Int):=zo;have es:(y:Int)-(e:Int)=((y-e:Nat):Int):=by have:=O.out;omega
   go_wp2;go_meet
   case rel=>exact⟨y-e,d,by first|rfl|rw[es],rfl,.inl ⟨cR,by have:=O.out;omega,rfl⟩,rfl⟩
  have cS:¬ (d:Int)<(m:Int):=zo;go_wp2;go_meet
  case rel=>exact⟨a,m,rfl,rfl,.inr ⟨zo,rfl,rfl⟩,rfl⟩
 case rest=>
  obtain⟨bf,Z,rfl,rfl,ci,cN⟩:=hcut;subst wc;have df:a<=bf/\bf<=Z/\Z<=m/\Z<=d/\y<=bf+e:=by have:=O.out;omega
  have cv:=zh ci;clear ci;go_wp2;go_loopw [20,21] (fun sv rv wr=>∃ s r:Nat,sv=.int .i64 s/\rv=.int .i64 r/\bf<=s/\s<=r/\r<=Z/\Kr9 wr b n f/\Ju (Ks4 b) w wr/\Hid ((s=bf\/Lt c (f (s-1)) (f (y-s)))/\(r=Z\/Lt c (f (y-1-r)) (f r)))) (fun sv rv _=>(intOf rv).toNat-(intOf sv).toNat)
  case atStart=>exact⟨bf,Z,rfl,rfl,Oa2 _,zo,Oa2 _,hr,Ju.refl _ _,.inl rfl,.inl rfl⟩
  case round=>
   rename_i sv rv
   obtain⟨s,r,rfl,rfl,cV,ci,cU,hR,hK,bK⟩:=hrel;by_cases dj:s<r
   ·have cQ:(s:Int)<(r:Int):=zo;obtain⟨h,hh⟩:∃ h,h=(s+r) / 2:=⟨_,rfl⟩;have cZ:((s:Int)+(r:Int)) / 2=(h:Int):=zo;have di:s<=h/\h<r:=zo;obtain⟨u,cM⟩:∃ u,u+1+h=y:=⟨y-1-h,by have:=O.out;omega⟩;have dc:(bI:Int)-(h:Int)=(u:Int):=by have:=O.out;omega
    have dr:m<=u/\u<e:=by have:=O.out;omega
    have dt:IntKind.i64.wrap (u:Int)=(u:Int):=by rw[Od4];omega
    have cy:=zh cM;clear hh cM;have dh:(h:Int)<(n:Int):=zo;have ds:(u:Int)<(n:Int):=zo;obtain⟨x,bQ⟩:∃ x,f u=x:=⟨_,rfl⟩;obtain⟨I,hy⟩:∃ I,f h=I:=⟨_,rfl⟩;have bX:=hR.cell u zo;have bY:=hR.cell h zo;have cD:=bS.out wr.drew hK.drew x I (bQ▸bV.out u zo) (hy▸bV.out h zo);rw[bQ]at bX;rw[hy]at bY;have bM:=zh bQ;have bN:=zh hy;clear bQ hy;by_cases cc:c x I<0
    ·have bC:decide (c x I<0)=true:=decide_eq_true cc;go_wp2_with fail
     go_region_held3 (fun X=>X.cell? ⟨b,u,none⟩=some (.int .i64 (x:Nat))/\X.cell? ⟨b,h,none⟩=some (.int .i64 (I:Nat)))
       (first|(exact⟨bX,bY⟩)|(exact⟨bz,bA⟩)|(go_split_ands;constructor<;>assumption))
       (first|(go_at_call 204;refine cD.mono ?_;rintro bh bO ⟨rfl,bB⟩;have K:=hK.trans (Ju.of_below (Jw bB));have H:=hR.below (Jw bB);have bz:=H.cell u zo;have bA:=H.cell h zo;rw[bM.out]at bz;rw[bN.out]at bA))
     go_wp2;go_roundw
     case rel=>exact⟨s,h,rfl,rfl,cV,zo,zo,H,K,bK.out.1,.inr (by rw[show y-1-h=u by have:=cy.out;omega,bM.out,bN.out];exact .inl cc)⟩
     case measure=>simp[intOf];omega
    have bC:decide (c x I<0)=false:=decide_eq_false cc;go_wp2_with fail
    go_region_held3 (fun X=>X.cell? ⟨b,u,none⟩=some (.int .i64 (x:Nat))/\X.cell? ⟨b,h,none⟩=some (.int .i64 (I:Nat)))
      (first|(exact⟨bX,bY⟩)|(exact⟨bz,bA⟩)|(go_split_ands;constructor<;>assumption))
      (first|(go_at_call 204;refine cD.mono ?_;rintro bh bO ⟨rfl,bB⟩;have K:=hK.trans (Ju.of_below (Jw bB));have H:=hR.below (Jw bB);have bz:=H.cell u zo;have bA:=H.cell h zo;rw[bM.out]at bz;rw[bN.out]at bA))
    go_wp2;go_roundw
    case rel=>exact⟨h+1,r,zn,rfl,zo,zo,cU,H,K,.inr (by rw[Nat.add_sub_cancel,show y-(h+1)=u by have:=cy.out;omega];exact bL.out.1.ge ho zo zo zo (by rw[bM.out,bN.out];omega)),bK.out.2⟩
    case measure=>simp[intOf];omega
   obtain rfl:s=r:=zo;have cQ:¬ (s:Int)<(s:Int):=zo;obtain⟨t,ht⟩:∃ t,s+t=y:=⟨y-s,by have:=O.out;omega⟩;have et:(y:Int)-(s:Int)=(t:Int):=zo;have cx:Hid (t=(a+e) / 2+m-s):=by show _=_;have:=O.out;rw[<-bT.out];omega
   have hcut:Cut c a m e s f:=by
    have de:=O.out;have cA:=cx.out;have cO:(a+e) / 2=d:=bT.out.symm;refine⟨zo,zo,zo,zo,?_,?_⟩
    ·rw[<-cA];rcases bK.out.1 with x|x
     ·rcases cv.out with I|I
      ·right;left;omega
      left;omega
     right;right;rw[show t=y-s by omega];exact x
    rw[<-cA,cO];rcases bK.out.2 with x|x
    ·rcases cv.out with I|I
     ·right;left;omega
     left;omega
    right;right;rw[show t-1=y-1-s by omega];exact x
   have bC:=hcut.cut ho bL.out.2.1 bL.out.2.2 bL.out.1;rw[<-cx.out,<-bT.out]at bC;have cB:Arr a e f (rot s m t f):=(Arr.rot zo (by have:=O.out;omega)).mono zo zo;have U:Hid (Kxc c a e s d t (rot s m t f)/\Arr a e f (rot s m t f)):=⟨bC,cB⟩;have dq:m<=t/\t<=e/\d<=t/\s<=d/\s<=m/\a<=s:=by have:=O.out;omega
   have cJ:(s<d↔m<t)/\(s<m↔d<t):=by have:=O.out;omega
   have cX:=zh cJ;clear hcut bC cB ht cJ;go_upto_region 39 with fail
   go_cut [185] from 178 to 185 (fun v Y=>v=.bool (decide (s<m/\m<t))/\Y=wr)
   case first=>
    by_cases bj:s<m
    ·have bG:(s:Int)<(m:Int):=zo;by_cases bk:m<t
     ·have bH:(m:Int)<(t:Int):=zo;go_wp2;go_meet
      case rel=>exact⟨by rw[decide_eq_true ⟨bj,bk⟩],rfl⟩
     have bH:¬ (m:Int)<(t:Int):=zo;go_wp2;go_meet
     case rel=>exact⟨by rw[decide_eq_false fun x=>bk x.2],rfl⟩
    have bG:¬ (s:Int)<(m:Int):=zo;go_wp2;go_meet
    case rel=>exact⟨by rw[decide_eq_false fun x=>bj x.1],rfl⟩
   case rest=>
   obtain⟨rfl,cN⟩:=hcut;subst wc;go_upto_if 185 with fail
   go_cut [24] from 178 to 191 (fun tv Y=>tv=.int .i64 t/\Kr9 Y b n (rot s m t f)/\Ju (Ks4 b) w Y)
   case first=>
    by_cases M:s<m/\m<t
    ·have cf:decide (s<m/\m<t)=true:=decide_eq_true M;have cH:=Kw1 b n cap s m t s m t (Kti p q) f wr rfl rfl rfl M.1 M.2 zo cT hR;unfold Kti at cH;go_wp2_with (go_at_call 293;refine cH.mono ?_;rintro bh bO ⟨rfl,H,K⟩)
     go_meet
     case rel=>exact⟨rfl,H,hK.trans K⟩
    have cf:decide (s<m/\m<t)=false:=decide_eq_false M;have bU:=zh M;clear M;go_wp2;go_meet
    case rel=>exact⟨rfl,hR.congr (by
     have:=bU.out;by_cases x:s=m
     ·rw[x];exact(Kzw f zo).symm
     rw[show t=m by omega];exact(Kxz f).symm),hK⟩
   case rest=>
    obtain⟨rfl,H,K⟩:=hcut;have cu:Hid (Kto N n (rot s m t f)):=bV.out.arr U.out.2 cz;generalize rot s m t f=g at *;obtain⟨bR,cW⟩:∃ bR,bR=wc:=⟨_,rfl⟩;subst cW;go_upto_region 41 with fail
    go_cut [199] from 192 to 199 (fun v Y=>v=.bool (decide (a<s/\s<d))/\Y=bR)
    case first=>
     by_cases bj:a<s
     ·have bG:(a:Int)<(s:Int):=zo;by_cases bk:s<d
      ·have bH:(s:Int)<(d:Int):=zo;go_wp2;go_meet
       case rel=>exact⟨by rw[decide_eq_true ⟨bj,bk⟩],rfl⟩
      have bH:¬ (s:Int)<(d:Int):=zo;go_wp2;go_meet
      case rel=>exact⟨by rw[decide_eq_false fun x=>bk x.2],rfl⟩
     have bG:¬ (a:Int)<(s:Int):=zo;go_wp2;go_meet
     case rel=>exact⟨by rw[decide_eq_false fun x=>bj x.1],rfl⟩
    case rest=>
    obtain⟨rfl,cN⟩:=hcut;subst wc;go_upto_if 199 with fail
    go_cut [24] from 192 to 205 (fun tv Y=>tv=.int .i64 t/\∃ g1,Kr9 Y b n g1/\Ju (Ks4 b) w Y/\Hid (Arr a d g g1/\Srt c a d g1))
    case first=>
     by_cases M:a<s/\s<d
     ·have cf:decide (a<s/\s<d)=true:=decide_eq_true M;have bE:=cn.out a s d M.1 M.2 zo zo g bR H cu.out (bS.out.keep K) U.out.1.st1 U.out.1.s1 U.out.1.s2;unfold Kti at bE;go_wp2_with (go_at_call 280;refine bE.mono ?_;rintro bh bO ⟨rfl,g1,cb,ca,bP,br⟩)
      go_meet
      case rel=>exact⟨rfl,g1,cb,K.trans ca,bP,br⟩
     have cf:decide (a<s/\s<d)=false:=decide_eq_false M;have bU:=zh M;clear M;go_wp2;go_meet
     case rel=>exact⟨rfl,g,H,K,Arr.refl _ _ _,U.out.1.s1.join U.out.1.s2 (by have:=bU.out;omega)⟩
    case rest=>
     clear hR hK H K;obtain⟨rfl,g1,H,K,bx⟩:=hcut;have fin:∀ g2,Arr d e g1 g2->Srt c d e g2->Arr a e f g2/\Srt c a e g2:=fun g2 x I=>
      ⟨(U.out.2.trans (bx.out.1.mono (Oa2 _) zo)).trans (x.mono zo (Oa2 _)),U.out.1.whole bx.out.1 x bx.out.2 I⟩
     have bJ:=zh fin;have bD:∀ k,d<=k->g1 k=g k:=fun k cP=>bx.out.1.off (.inr cP);have bi:Hid (Srt c d t g1/\Srt c t e g1/\Ks0 c d e g1/\Kto N n g1):=⟨U.out.1.s3.congr fun k bZ _=>bD k bZ,U.out.1.s4.congr fun k bZ _=>bD k zo,(fun i j x I z=>by rw[bD i x,bD j zo];exact U.out.1.st2 i j x I z),cu.out.arr bx.out.1 zo⟩;clear fin bD;by_cases bj:d<t
     ·have bG:(d:Int)<(t:Int):=zo;by_cases bk:t<e
      ·have bH:(t:Int)<(e:Int):=zo;have bE:=cn.out d t e bj bk cz zo g1 wc H bi.out.2.2.2 (bS.out.keep K) bi.out.2.2.1 bi.out.1 bi.out.2.1;unfold Kti at bE;go_wp2_with (go_at_call 280;refine bE.mono ?_;rintro bh bO ⟨rfl,g2,cb,ca,bP,br⟩)
       go_end0
       exact⟨rfl,g2,cb,K.trans ca,(bJ.out g2 bP br).1,(bJ.out g2 bP br).2⟩
      have bH:¬ (t:Int)<(e:Int):=zo;go_wp2;go_end0
      have:=bJ.out g1 (Arr.refl _ _ _) (bi.out.1.join bi.out.2.1 (.inr zo));exact⟨rfl,g1,H,K,this.1,this.2⟩
     have bG:¬ (d:Int)<(t:Int):=zo;go_wp2;go_end0
     have:=bJ.out g1 (Arr.refl _ _ _) (bi.out.1.join bi.out.2.1 (.inl zo));exact⟨rfl,g1,H,K,this.1,this.2⟩
theorem Kwe b n N cap p q c(ho:Ksg c)(I:n<=1000000):∀ (k a m e:Nat),e-a<=k->a<m->m<e->e<=n->Qbi b n N cap p q c a m e:=by
 intro k;induction k with
 |zero=>intro a m e bh bi O y;omega
 |succ k br=>
  intro a m e bh bi O y;by_cases Z:m=a+1
  ·exact fun f w hr K H M _ bk=>Kz0 b n N cap a m e a m e p q c ho f w rfl rfl rfl Z O y I hr K H M bk
  by_cases bf:e=m+1
  ·exact fun f w hr K H M bj _=>Kyo b n N cap a m e a m e p q c ho f w rfl rfl rfl bf zo y I hr K H M bj
  exact Kyk b n N cap a m e p q c ho zo zo y I fun U bx Y x1 x2 bz bA=>br U bx Y zo x1 x2 bz
theorem Ks0.arr {c A B lo hi g H}(h:Ks0 c A B g)(y:Arr lo hi g H)(hs:Srt c lo hi H)(Z:A<=lo)(bf:hi<=B):Ks0 c A B H:=by
 intro i j I K M;by_cases O:lo<=i/\i<hi
 ·by_cases j1:lo<=j/\j<hi
  ·exact hs.stab i j O.1 K j1.2
  obtain⟨t,U,Y,ht⟩:=y.at O;rw[ht,y.off (k:=j) zo];exact h t j zo zo M
 by_cases j1:lo<=j/\j<hi
 ·obtain⟨t,U,Y,ht⟩:=y.at j1;rw[ht,y.off (k:=i) zo];exact h i t I zo zo
 rw[y.off (k:=i) zo,y.off (k:=j) zo];exact h i j I K M
def Kv2 (c:Nat->Nat->Int)(n s A:Nat)(f g:Nat->Nat):Prop:=Arr 0 n f g/\Blk c s 0 A g/\Ks0 c 0 n g
theorem Kv2.more {c n s A e f g y}(h:Kv2 c n s A f g)(M:∃ k,A=k*s)(hs:0<s)(H:Arr A e g y)(K:Srt c A e y)(I:e<=n):Kv2 c n s e f y:=by
 obtain⟨k,rfl⟩:=M;exact⟨h.1.trans (H.mono (Ob7 _) I),h.2.1.more H K hs,h.2.2.arr H K (Ob7 _) I⟩
theorem Kwv b n N cap p q c(ho:Ksg c)f w(br:n<=1000000)(hr:Kr9 w b n f)(bN:Kto N n f)(bM:Kue w b N p q c)(bT:Ks0 c 0 n f):
  Calls prog 239 #[.slice (some ⟨b,0,none⟩) n cap,.int .i64 (n:Nat),Kti p q] w (Kvv b n 0 n c f w):=by
 have bj:=zh bM;have bx:=zh bN;clear bM bN;unfold Kti;go_enter func239,ntmps239
 go_wp2;go_loopw [7,8] (fun bh bv wr=>∃ (A B:Nat) (g:Nat->Nat),bh=.int .i64 A/\bv=.int .i64 B/\A<=n/\B<=n+20/\Kr9 wr b n g/\Ju (Ks4 b) w wr/\Hid (B=A+20/\(∃ k,A=k*20)/\Kv2 c n 20 A f g)) (fun _ bv _=>n+1-(intOf bv).toNat)
 case atStart=>exact⟨0,20,f,rfl,rfl,zo,zo,hr,Ju.refl _ _,rfl,⟨0,rfl⟩,Arr.refl _ _ _,(fun i j _ _ h=>absurd h zo),bT⟩
 case round=>
  rename_i bh bv
  obtain⟨A,B,g,rfl,rfl,bJ,bU,hR,hK,y⟩:=hrel;by_cases bk:B<=n
  ·have bO:(B:Int)<=(n:Int):=zo;have Y:=Kuw b n N cap A B A B p q c ho g wr rfl rfl (by have:=y.out.1;omega) bk br hR (bx.out.arr y.out.2.2.1 (Oa2 _)) (bj.out.keep hK) (y.out.2.2.2.2.mono zo bk);unfold Kti at Y;go_wp2_with (go_at_call 279;refine Y.mono ?_;rintro bA bz ⟨rfl,g1,K,I,H,O⟩)
   go_roundw
   case rel=>
    refine⟨B,B+20,g1,rfl,zn,bk,zo,K,hK.trans I,rfl,?_,y.out.2.2.more y.out.2.1 zo H O bk⟩;obtain⟨k,M⟩:=y.out.2.1;exact⟨k+1,by have:=y.out.1;omega⟩
   case measure=>have:=y.out.1;simp[intOf];omega
  have bO:¬ (B:Int)<=(n:Int):=zo;have Y:=Kuw b n N cap A n A n p q c ho g wr rfl rfl bJ (Oa2 _) br hR (bx.out.arr y.out.2.2.1 (Oa2 _)) (bj.out.keep hK) (y.out.2.2.2.2.mono zo (Oa2 _));unfold Kti at Y;go_wp2_with (go_at_call 279;refine Y.mono ?_;rintro bA bz ⟨rfl,g1,K,I,H,O⟩)
  have bH:Hid (Kv2 c n 20 n f g1):=y.out.2.2.more y.out.2.1 zo H O (Oa2 _);have bL:=hK.trans I;clear Y hR hK y H O I;go_loopw [6] (fun sv wr=>∃ (s:Nat) (g:Nat->Nat),sv=.int .i64 s/\20<=s/\s<=2000000/\Kr9 wr b n g/\Ju (Ks4 b) w wr/\Hid (Kv2 c n s n f g)) (fun sv _=>n-(intOf sv).toNat)
  case atStart=>exact⟨20,g1,rfl,Oa2 _,zo,K,bL,bH.out⟩
  case round=>
   rename_i sv
   clear K bL bH;obtain⟨s,g2,rfl,bY,bX,hR,hK,y⟩:=hrel;by_cases bZ:s<n
   ·have bS:(s:Int)<(n:Int):=zo;go_wp2;go_loopw [7,8] (fun bh bv wr=>∃ (A B:Nat) (g:Nat->Nat),bh=.int .i64 A/\bv=.int .i64 B/\A<=n/\B<=A+2*s/\A+2*s<=B/\Kr9 wr b n g/\Ju (Ks4 b) w wr/\Hid ((∃ k,A=k*(2*s))/\Kv2 c n (2*s) A f g/\Blk c s A n g)) (fun _ bv _=>n+1-(intOf bv).toNat)
    case atStart=>exact⟨0,2*s,g2,rfl,zn,zo,zo,zo,hR,hK,⟨0,zS⟩,⟨y.out.1,fun i j _ _ h=>absurd h zo,y.out.2.2⟩,y.out.2.1⟩
    case round=>
     rename_i bh bv
     clear hR hK y;obtain⟨A,B,g,rfl,rfl,bJ,bV,bW,hR,hK,y⟩:=hrel;have bG:∃ k,A=k*s:=by
      obtain⟨k,M⟩:=y.out.1;exact⟨2*k,by rw[M,Nat.mul_comm 2 k,Nat.mul_assoc]⟩
     have bK:∃ k,A+s=k*s:=by
      obtain⟨k,M⟩:=bG;exact⟨k+1,by rw[Nat.add_mul,Nat.one_mul,M]⟩
     have srt:∀ x e,(∃ k,x=k*s)->A<=x->e<=n->e<=x+s->Srt c x e g:=fun x e ⟨k,M⟩ bC bD bE=>by
      subst M;exact(y.out.2.2.sub bC (Oa2 _)).srt bD bE zo
     have Z:Hid ((∃ k,A=k*s)/\(∃ k,A+s=k*s)):=⟨bG,bK⟩;have bf:=zh srt;have bI:Hid (Kto N n g):=bx.out.arr y.out.2.1.1 (Oa2 _);clear bG bK srt;by_cases bi:B<=n
     ·have bP:(B:Int)<=(n:Int):=zo;have U:=Kwe b n N cap p q c ho br n A (A+s) B zo zo zo bi g wr hR bI.out (bj.out.keep hK) (y.out.2.1.2.2.mono zo bi) (bf.out A (A+s) Z.out.1 (Oa2 _) zo (Oa2 _)) (bf.out (A+s) B Z.out.2 zo bi zo);unfold Kti at U;rw[show ((A+s:Nat):Int)=(A:Int)+(s:Int) by omega]at U;go_wp2_with (go_at_call 280;refine U.mono ?_;rintro bA bz ⟨rfl,bB,K,I,H,O⟩)
      go_roundw
      case rel=>
       refine⟨B,B+2*s,bB,rfl,zn,bi,zo,zo,K,hK.trans I,?_,y.out.2.1.more y.out.1 zo H O bi,fun i j bC bD bE=>?_⟩
       ·obtain⟨k,M⟩:=y.out.1;exact⟨k+1,by rw[Nat.add_mul,Nat.one_mul,<-M];omega⟩
       rw[H.off (k:=i) (.inr bC),H.off (k:=j) (.inr zo)];exact y.out.2.2 i j zo bD bE
      case measure=>simp[intOf];omega
     have bP:¬ (B:Int)<=(n:Int):=zo;by_cases bQ:A+s<n
     ·have bR:(A:Int)+(s:Int)<(n:Int):=zo;have U:=Kwe b n N cap p q c ho br n A (A+s) n zo zo bQ (Oa2 _) g wr hR bI.out (bj.out.keep hK) (y.out.2.1.2.2.mono zo (Oa2 _)) (bf.out A (A+s) Z.out.1 (Oa2 _) zo (Oa2 _)) (bf.out (A+s) n Z.out.2 zo (Oa2 _) zo);unfold Kti at U;rw[show ((A+s:Nat):Int)=(A:Int)+(s:Int) by omega]at U;go_wp2_with (go_at_call 280;refine U.mono ?_;rintro bA bz ⟨rfl,bB,K,I,H,O⟩)
      go_roundw
      case rel=>
       refine⟨s*2,bB,zn,zo,zo,K,hK.trans I,?_⟩;rw[Nat.mul_comm s 2];exact y.out.2.1.more y.out.1 zo H O (Oa2 _)
      case measure=>simp[intOf];omega
     have bR:¬ (A:Int)+(s:Int)<(n:Int):=zo;go_wp2;go_roundw
     case rel=>
      refine⟨s*2,g,zn,zo,zo,hR,hK,?_⟩;rw[Nat.mul_comm s 2];exact y.out.2.1.more y.out.1 zo (Arr.refl _ _ _) (bf.out A n Z.out.1 (Oa2 _) (Oa2 _) zo) (Oa2 _)
     case measure=>simp[intOf];omega
   have bS:¬ (s:Int)<(n:Int):=zo;go_wp2;go_end0
   exact⟨rfl,g2,hR,hK,y.out.1,y.out.2.1.one zo⟩
theorem Kyp b n N cap p q c(ho:Ksg c)f w(H:n<=1000000)(hr:Kr9 w b n f)(I:Kto N n f)(y:Kue w b N p q c)(K:Ks0 c 0 n f):
  Calls prog 203 #[.slice (some ⟨b,0,none⟩) n cap,Kti p q] w (Kvv b n 0 n c f w):=by
 have hs:=Kwv b n N cap p q c ho f w H hr I y K;unfold Kti at hs |-;go_enter func203,ntmps203
 go_wp2_with (go_at_call 239;refine hs.mono ?_;rintro O M ⟨rfl,g,h⟩)
 go_end0
 exact⟨rfl,g,h⟩
end
section
def Hp (c:Nat->Nat->Int)(n:Nat)(g:Nat->Nat):Prop:=∀ j,0<j->j<n->Lt c (g ((j-1) / 2)) (g j)
structure Kwy (c:Nat->Nat->Int) (n:Nat) (g:Nat->Nat) (i:Nat):Prop where
 rest:∀ j,0<j->j<n->j≠i->Lt c (g ((j-1) / 2)) (g j)
 over:0<i->∀ j,0<j->j<n->(j-1) / 2=i->Lt c (g ((i-1) / 2)) (g j)
structure Kxa (c:Nat->Nat->Int) (n:Nat) (g:Nat->Nat) (i:Nat):Prop where
 rest:∀ j,0<j->j<n->(j-1) / 2≠i->Lt c (g ((j-1) / 2)) (g j)
 over:0<i->∀ j,0<j->j<n->(j-1) / 2=i->Lt c (g ((i-1) / 2)) (g j)
section
variable {c:Nat->Nat->Int} {n:Nat} {g:Nat->Nat} {i:Nat}
theorem Kwy.done (h:Kwy c n g i)(hi:i=0\/Lt c (g ((i-1) / 2)) (g i)):Hp c n g:=fun j y H=>by
 by_cases e:j=i
 ·subst e;rcases hi with hi|hi
  ·omega
  exact hi
 exact h.rest j y H e
theorem Kty i j:swp g i j i=g j:=by unfold swp;rw[if_pos rfl]
theorem Kvh i j(h:j≠i):swp g i j j=g i:=by unfold swp;rw[if_neg h,if_pos rfl]
theorem Ks7 {i j k}(y:k≠i)(H:k≠j):swp g i j k=g k:=by unfold swp;rw[if_neg y,if_neg H]
theorem Kwy.step (ho:Ksg c)(h:Kwy c n g i)(h0:0<i)(Y:i<n)(hl:Lt c (g i) (g ((i-1) / 2))):Kwy c n (swp g i ((i-1) / 2)) ((i-1) / 2):=by
 obtain⟨p,hp⟩:∃ p,p=(i-1) / 2:=⟨_,rfl⟩;rw[<-hp]at hl |-;have Z:p<i:=zo;have O:=h.over h0;rw[<-hp]at O;refine⟨fun j y H M=>?_,fun U j y H M=>?_⟩
 ·by_cases e:j=i
  ·subst e;rw[<-hp,Kvh j p zo,Kty];exact hl
  rw[Ks7 e M];by_cases I:(j-1) / 2=i
  ·rw[I,Kty];exact O j y H I
  by_cases K:(j-1) / 2=p
  ·rw[K,Kvh i p zo];have:=h.rest j y H e;rw[K]at this;exact hl.trans ho this
  rw[Ks7 I K];exact h.rest j y H e
 rw[Ks7 zo zo];have hr:=h.rest p U zo zo;by_cases e:j=i
 ·subst e;rw[Kty];exact hr
 rw[Ks7 e zo];have:=h.rest j y H e;rw[M]at this;exact hr.trans ho this
theorem Kxa.done (h:Kxa c n g i)(hi:∀ j,0<j->j<n->(j-1) / 2=i->Lt c (g i) (g j)):Hp c n g:=fun j y H=>by
 by_cases e:(j-1) / 2=i
 ·rw[e];exact hi j y H e
 exact h.rest j y H e
theorem Kxa.step (h:Kxa c n g i){m}(Y:m=2*i+1\/m=2*i+2)(U:m<n)(hl:Lt c (g m) (g i))(hs:∀ j,0<j->j<n->(j-1) / 2=i->j≠m->Lt c (g m) (g j)):Kxa c n (swp g i m) m:=by
 have M:(m-1) / 2=i:=zo;refine⟨fun j y I K=>?_,fun _ j y I K=>?_⟩
 ·by_cases e:j=m
  ·subst e;rw[M,Kty,Kvh i j zo];exact hl
  by_cases H:(j-1) / 2=i
  ·rw[H,Kty,Ks7 zo e];exact hs j y I H e
  rw[Ks7 H K];by_cases O:j=i
  ·subst O;rw[Kty];exact h.over y m zo U M
  rw[Ks7 O e];exact h.rest j y I H
 rw[M,Kty,Ks7 zo zo];have:=h.rest j y I zo;rw[K]at this;exact this
theorem Hp.min (ho:Ksg c)(h:Hp c n g):∀ j,0<j->j<n->Lt c (g 0) (g j):=by
 intro j;induction j using Nat.strongRecOn with
 |_ j K=>
  intro H I;have y:=h j H I;by_cases e:(j-1) / 2=0
  ·rw[e]at y;exact y
  exact(K ((j-1) / 2) zo zo zo).trans ho y
theorem Hp.up (h:Hp c n g){y}(e:∀ j,j<n->y j=g j):Kwy c (n+1) y n:=
 ⟨fun j H I K=>by rw[e _ zo,e j zo];exact h j H zo,fun h0 j H I K=>zo⟩
theorem Hp.turned (h:Hp c n g){m y}(M:m<=n)(e:∀ j,0<j->j<m->y j=g j):Kxa c m y 0:=
 ⟨fun j H I K=>by rw[e _ zo zo,e j H I];exact h j H zo,fun h0=>zo⟩
end
theorem Lt.total {c}(ho:Ksg c){x y}(h:x≠y)(H:¬ Lt c x y):Lt c y x:=by
 have:=ho.neg x y;unfold Lt at *;omega
def ltB (c:Nat->Nat->Int)(x y:Nat):Bool:=decide (c x y<0\/(c x y=0/\x<y))
theorem Ksu {c x y}:ltB c x y=true↔Lt c x y:=by unfold ltB Lt;simp
theorem Ks9 {c x y}:ltB c x y=false↔¬ Lt c x y:=by rw[<-Ksu];cases ltB c x y<;>simp
end
def Ksi (c:Nat->Nat->Int)(l:List Nat):List Nat:=l.mergeSort fun x y=>!ltB c y x
theorem Ksb c l:(Ksi c l).Perm l:=List.mergeSort_perm _ _
theorem Kzf {c}(ho:Ksg c)l:(Ksi c l).Pairwise fun x I=>(!ltB c I x)=true:=by
 refine List.pairwise_mergeSort (le:=fun x I=>!ltB c I x) (fun a b d y H=>?_) (fun a b=>?_) l
 ·simp only[Bool.not_eq_true',Ks9]at y H |-;intro h;by_cases e:a=b
  ·subst e;exact H h
  have:=Lt.total ho (fun x=>e x.symm) y;exact H (h.trans ho this)
 cases y:ltB c b a
 ·rfl
 have:ltB c a b=false:=Ks9.2 fun h=>Lt.irrefl ho (h.trans ho (Ksu.1 y));simp[this]
theorem Kw8 {c}(ho:Ksg c){l H}(hp:H.Perm l)(hs:H.Pairwise (Lt c)):H=Ksi c l:=by
 refine List.Perm.eq_of_pairwise (le:=fun x K=>(!ltB c K x)=true) (fun a b _ _ I y=>?_) (hs.imp fun {a b} h=>?_) (Kzf ho l) (hp.trans (Ksb c l).symm)
 ·simp only[Bool.not_eq_true',Ks9]at I y;exact Decidable.byContradiction fun e=>I (Lt.total ho e y)
 simp only[Bool.not_eq_true',Ks9];exact fun y=>Lt.irrefl ho (h.trans ho y)
theorem Ktw {c}(ho:Ksg c){l}(I:l.Nodup):(Ksi c l).Pairwise (Lt c):=by
 have H:(Ksi c l).Nodup:=(Ksb c l).nodup_iff.2 I;have:=(Kzf ho l).and H;refine this.imp fun {a b} h=>?_;have y:=h.1;simp only[Bool.not_eq_true',Ks9]at y;exact Lt.total ho (fun e=>h.2 e.symm) y
theorem Qa0 {n g}(h:Arr 0 n (fun x=>x) g):((List.range n).map g).Perm (List.range n):=by
 have inj:∀ a b,g a=g b->a=b:=fun a b e=>by
  obtain⟨p,q,K,I,M,y⟩:=h;rw[y,y]at e;have:=congrArg q e;simpa [K] using this
 have U:((List.range n).map g).Nodup:=List.Pairwise.map _ (fun a b O e=>O (inj a b e)) List.nodup_range;refine(List.perm_ext_iff_of_nodup U List.nodup_range).2 fun x=>⟨fun H=>?_,fun H=>?_⟩
 ·obtain⟨i,hi,rfl⟩:=Of0.1 H;obtain⟨t,_,Y,e⟩:=h.at (k:=i) ⟨Ob7 _,Oj4.1 hi⟩;rw[e];exact Oj4.2 Y
 obtain⟨p,q,K,I,M,y⟩:=h;have H:=Oj4.1 H;refine Of0.2 ⟨q x,Oj4.2 ?_,by rw[y,I]⟩;refine Decidable.byContradiction fun hq=>?_;have:=M (q x) (.inr zo);rw[I]at this;omega
structure Mrg (c:Nat->Nat->Int) (all taken:List Nat) (rems:List (List Nat)):Prop where
 perm:(taken++rems.flatten).Perm all
 runs:∀ r∈rems,r.Pairwise (Lt c)
 front:taken.Pairwise (Lt c)
 ahead:∀ a∈taken,∀ b∈rems.flatten,Lt c a b
theorem Kt5 {x r}:∀ (rems:List (List Nat)) (i:Nat),rems[i]?=some (x::r)->(x::(rems.set i r).flatten).Perm rems.flatten
 |[],i,h=>by simp at h
 |a::l,0,h=>by simp at h;subst h;simp
 |a::l,i+1,h=>by
  simp only[List.getElem?_cons_succ]at h;have y:=Kt5 l i h;simp only[List.set_cons_succ,List.flatten_cons];refine List.Perm.trans ?_ (y.append_left a);exact(List.perm_middle (a:=x) (l₁:=a) (l₂:=(l.set i r).flatten)).symm
theorem Mrg.start {c all rems}(hp:rems.flatten.Perm all)(hr:∀ r∈rems,r.Pairwise (Lt c)):Mrg c all [] rems:=⟨by simpa using hp,hr,List.Pairwise.nil,zS⟩
theorem Mrg.take {c}(ho:Ksg c){all U rems i x r}(h:Mrg c all U rems)(hi:rems[i]?=some (x::r))(bf:∀ j I s,rems[j]?=some (I::s)->j≠i->Lt c x I):Mrg c all (U++[x]) (rems.set i r):=by
 have K:=Kt5 rems i hi;have Z:=h.runs (x::r) (Of6 hi);have bi:x∈rems.flatten:=K.subset zS;have bj:=(Ob9.1 hi).1;have bh:∀ b∈(rems.set i r).flatten,Lt c x b:=fun b hb=>by
  obtain⟨s,hs,H⟩:=List.mem_flatten.1 hb;obtain⟨j,M,e⟩:=Od5 hs;rw[Of8]at M;by_cases O:j=i
  ·subst O;rw[List.getElem_set_self]at e;subst e;exact(List.pairwise_cons.1 Z).1 b H
  rw[List.getElem_set_ne (fun e=>O e.symm)]at e;subst e;have Y:=h.runs rems[j] (Ob3 M);cases hrj:rems[j]with
  |nil=>rw[hrj]at H;cases H
  |cons I s=>
   have hy:=bf j I s (by rw[Oa3 M,hrj]) O;rw[hrj]at H Y;rcases Of1.1 H with rfl|H
   ·exact hy
   exact hy.trans ho ((List.pairwise_cons.1 Y).1 b H)
 refine⟨?_,fun s hs=>?_,?_,fun a y b hb=>?_⟩
 ·rw[Od8];exact(List.Perm.append_left U K).trans h.perm
 ·rcases List.mem_or_eq_of_mem_set hs with hs|rfl
  ·exact h.runs s hs
  exact(List.pairwise_cons.1 Z).2
 ·exact List.pairwise_append.2 ⟨h.front,List.pairwise_singleton _ _,fun a y b hb=>by rw[Oc6.1 hb];exact h.ahead a y x bi⟩
 rcases Od2.1 y with y|y
 ·exact h.ahead a y b (K.subset (Og1 _ hb))
 rw[Oc6.1 y];exact bh b hb
theorem Mrg.done {c}(ho:Ksg c){all y rems}(h:Mrg c all y rems)(I:∀ r∈rems,r=[]):y=Ksi c all:=by
 have H:rems.flatten=[]:=List.flatten_eq_nil_iff.2 I;have:=h.perm;rw[H,Od7]at this;exact Kw8 ho this h.front
open Go.RowKit
variable {F:Fence} {n:Nat} {P:Program}
def Qdf {α:Type}(F:Fence)(n:Nat)(P:Program)(g:Nat)(lb:Array Value)(Z:α->Array Value)(U:α->World->Prop)(O:List α->α->Prop)(M:World->World->Prop)(S Y:List α->Prop)(N:Nat)(w:World):Prop:=
 ∀ (l:Nat) (J K:List α->World->Prop) (W:World),Below w.heap.size w W->AbidesFrom W.heap.size J->AbidesFrom W.heap.size K ->
  (∀ y x I,J y I->U x I->O y x->y.length<N->YieldAt F (n-1) P l (Z x) I fun e H=>(e=.returned (.bool true)/\J (y++[x]) H/\M I H)\/(e=.returned (.bool false)/\K (y++[x]) H)) ->
  J [] W->CallsIn F n P g (#[.func (.yield l) #[] #[]]++lb) W fun e H=>(∃ v,e=.returned v)/\((∃ xs,S xs/\J xs H)\/(∃ y,Y y/\K y H))
theorem Kvk {α g}{ps:Array Tmp}{assign body:Code}{Q a w}(bV:F.round=none)(bI:1<=n){gf:Nat}{lb}(bR:a.eval g=.func (.func gf) #[] lb)(bJ:F.fn gf)(bH:∀ args w,(callFunc gf args).run P w=.ok (.enter gf args) w){bf:α->Array Value}{bi:α->World->Prop}{bz:List α->α->Prop}{M:World->World->Prop}{S bA:List α->Prop}{N:Nat}{w0}(hseq:Qdf F (n-1) P gf lb bf bi bz M S bA N w0)(bB:∀ {A B C:World},M A B->M B C->M A C)(hKb:∀ (W:World) (l:Nat) (o cc:Obj),w.heap.size<=l->W.heap[l]?=some o->o.isCells=false->o.isWalk=false->M W (W.putObj l cc))(bC:Below w0.heap.size w0 w)(bU:∀ x,(bf x).size=ps.size)(K:List α->World->Prop)(O:Code->List α->World->Prop)(hI:OwnFrom w.heap.size K)(hIx:∀ c,OwnFrom w.heap.size (O c))(hR:OwnFrom w.heap.size bi)(h0:K [] w)(a₁:α->Act)(bM:∀ (l:Nat) (x:α) (W:World) (bx:Act->World->Prop),bx (a₁ x) W->assign.wpIn (F.inRound l) (n-1-1) P (Exit.then bx (fun _ _ _=>False)) {tmps:=(ps.zip (bf x)).foldl (fun t (p,v)=>t.setIfInBounds p v) a.tmps,defers:=[]} W)(bN:∀ (l:Nat) (H:List α) (x:α) (W:World),K H W->bi x W->bz H x->H.length<N->body.wpIn (F.inRound l) (n-1-1) P (ownPostG w.heap.size M K O (H++[x]) W) (a₁ x) W)(bP:∀ (D:Nat) (xs:List α) (W:World),w.heap.size<=D->S xs->K xs W->W.heap[D]?=some (.deferred (some []))->Q .normal {a with defers:={target:=.collected D,args:=#[]}::a.defers} W)(bW:∀ (D:Nat) (c:Code) (H:List α) (W:World),w.heap.size<=D->bA H->O c H W->W.heap[D]?=some (.deferred (some []))->c.wpIn F n P Q {a with defers:={target:=.collected D,args:=#[]}::a.defers} W):
  (Code.rangeFunc g ps assign body).wpIn F n P Q a w:=by
 refine wpIn_rangeFunc fun fn bQ=>?_;rw[bV];let y:LoopState->Option Code->Loop:=fun st cf=>{state:=st,pending:=cf,fn,tmps:=a.tmps,params:=ps,assign,body,defers:=w.heap.size}
 let B:=w.heap.size
 let V:=(w.alloc (.deferred (some []))).alloc (.loop (y .ready none))
 have cu:V.heap.size=B+2:=by simp[V,B]
 have bE:Jb8 B (y .ready none) V:=by
  exact zao
 have cb:K [] V:=hI.alloc _ (hI.alloc _ h0);have bG:Below w0.heap.size w0 V:=bC.trans ((((Oa5 _ w).alloc (Oa2 _) _).alloc zS _).mono bC.size);have walk:∀ {A:World} {row:Option Nat},(∀ r,row=some r->V.heap.size<=r/\∃ o:Obj,A.heap[r]?=some o/\o.isWalk=true)->∀ r,row=some r->B<=r/\∃ o:Obj,A.heap[r]?=some o/\o.isCells=false:=fun hr r e=>by
  obtain⟨cn,o,ho,bX⟩:=hr r e;exact⟨zo,o,ho,Obj.not_cells_of_walk bX⟩
 refine⟨B+1,[{target:=.collected B,args:=#[]}],V,{target:=.fn (.func gf) lb,args:=#[.func (.yield (B+1)) #[] #[]]},V,gf,#[.func (.yield (B+1)) #[] #[]]++lb,V,run_enterLoop_outer _ _ _ _ _,by simp only[resolve,bR];simp[go_sem],fun cj bD=>?_,by simp[invoke,go_sem,bH],fun _=>bI,?_⟩
 ·simp[Target.leads]at bD;subst bD;exact bJ
 refine(hseq (B+1) (fun H W=>K H W/\Jb8 B (y .ready none) W) (fun H W=>∃ c,O c H W/\Jb8 B (y .done (some c)) W) V bG
  (fun s A bh row hs Z hr=>⟨hI s A bh row hs.1 Z (walk hr),hs.2.kept Z fun r e=>(hr r e).2⟩)
  (fun s A bh row hs Z hr=>by obtain⟨c,bO,I⟩:=hs;exact⟨c,hIx c s A bh row bO Z (walk hr),I.kept Z fun r e=>(hr r e).2⟩) ?_ ⟨cb,bE⟩).mono ?_
 ·rintro H x W ⟨hi,I⟩ bZ ca hlen;have hy:=run_yield (P:=P) (args:=bf x) I.1 (bU x);refine⟨fn,_,assign,body,hy,roundIn_of_wpIn bQ (bM _ x W _ ⟨_,run_beginRound I.1 rfl,?_⟩)⟩;have bS:Jb8 B (y .busy none) (W.putObj (B+1) (.loop (y .busy none))):=I.put;have bY:M W (W.putObj (B+1) (.loop (y .busy none))):=hKb _ _ _ _ zo I.1 rfl rfl;refine wpIn_mono (bN _ H x _ (hI.putObj _ hi zo I.1 rfl) (hR.putObj _ bZ zo I.1 rfl) ca hlen) ?_;have fin:∀ (j:Option Code) (X:World),KeepsFrom w.heap.size (W.putObj (B+1) (.loop (y .busy none))) X->(Instr.endRound (B+1) j).run P X=.ok (.bool j.isNone) (X.putObj (B+1) (.loop (y (if j.isNone then .ready else .done) j)))/\Jb8 B (y .busy none) X/\Jb8 B (y (if j.isNone then .ready else .done) j) (X.putObj (B+1) (.loop (y (if j.isNone then .ready else .done) j))):=fun j X Y=>
   have hb:=bS.from Y
   ⟨run_endRound (P:=P) j hb.1,hb,hb.put⟩
  have br:∀ (c:Code) (X:World),KeepsFrom w.heap.size (W.putObj (B+1) (.loop (y .busy none))) X->O c (H++[x]) X->∃ v U,(Instr.endRound (B+1) (some c)).run P X=.ok v U/\((Ending.returned v=.returned (.bool true)/\(K (H++[x]) U/\Jb8 B (y .ready none) U)/\M W U)\/(Ending.returned v=.returned (.bool false)/\∃ c,O c (H++[x]) U/\Jb8 B (y .done (some c)) U)):=fun c X Y bk=>by
   exact zaz
  rintro e ci X hp;cases e with
  |normal=>
   obtain⟨Y,bT,bk⟩:=hp;obtain⟨hr,hb,bj⟩:=fin none X Y;exact⟨_,_,hr,.inl ⟨rfl,⟨hI.putObj _ bk zo hb.1 rfl,bj⟩,bB (bB bY bT) (hKb _ _ _ _ zo hb.1 rfl rfl)⟩⟩
  |ret=>exact br _ X hp.1 hp.2
  |exit id=>exact br _ X hp.1 hp.2
  |goto t=>exact br _ X hp.1 hp.2
  |panic ch=>exact hp.elim
  |outgrown=>exact hp.elim
 rintro e X ⟨⟨v,rfl⟩,(⟨xs,bK,hi,I⟩|⟨H,bL,c,hi,I⟩)⟩
 ·exact⟨none,_,run_endLoop (P:=P) I.1 (by simp[y]),bP _ xs _ (Oa2 _) bK (hI.putObj _ hi zo I.1 rfl) ((World.putObj_heap_other zo).trans I.2)⟩
 exact⟨some c,_,run_endLoop (P:=P) I.1 (by simp[y]),bW _ c H _ (Oa2 _) bL ((hIx c).putObj _ hi zo I.1 rfl) ((World.putObj_heap_other zo).trans I.2)⟩
