/- The expression that adds 1, worked on one row: the parts. -/
import Derived.Handy
import Derived.Test.YtnlnlamdilifcaaGreatDoorYf
set_option maxHeartbeats 2000000
set_option maxRecDepth 100000
namespace Go.Proofs.YtnlnlamdilifcaaGreatDoor
section
open Go.RowKit Go.Shelf Tryz
attribute [local go_sem] Oc0
theorem Qcp box w(hb:w.cell? (Aq box)=some (.func (.func 226) #[] #[])):Cq 267 #[.agg #[Iq 1,Iq 41,.string ⟨#[]⟩],.agg #[Iq 1,Iq 1,.string ⟨#[]⟩],Pq box] w fun e w'=>e=.returned (.tuple #[.agg #[Iq 1,Iq 42,.string ⟨#[]⟩],.nilIface])/\Bq w w':=by
 have I:∀ (args:Array Value) (W:World),(callFunc 226 args).run prog W=.ok (.enter 226 args) W:=fun args W=>by kernel_rfl
 have H:∀ x y z,(((w.alloc x).alloc y).alloc z).cell? (Aq box)=some (.func (.func 226) #[] #[]):=fun _ _ _=>Kf (Kf (Kf hb));go_enter func267,ntmps267
 go_wp2;go_returns
 exact⟨rfl,by go_grown⟩
theorem Kxg W:(Instr.makeSlice 62 (Iq 1) (Iq 1)).run prog W=.ok (Sq W.heap.size 1 1) (W.alloc (.cells #[iZ,iZ,.string ⟨#[]⟩] 65)):=zK
theorem Kz8 {X:World}{f b o:Nat}{p q r u:Value}(h:b<f)(y:X.cell? (Ar b o)=some u):(((X.setCell (Aq f) p).setCell (Ar f 1) q).setCell (Ar f 2) r).cell? (Ar b o)=some u:=by
 have h:∀ i,(⟨f,i,none⟩:Addr)≠⟨b,o,none⟩:=fun i e=>by cases e;omega
 exact Uc (h 2) (Uc (h 1) (Uc (h 0) y))
theorem Qdh b Z cp bl U cl K Y cr box ex ba er bH w(h:Uz w b ex ba bH 1 (Sq Z 2 cp) er)(h0:w.cell? (Aq Z)=some (Sr bl U 1 cl))(bh:w.cell? (Ar Z 1)=some (Sr K Y 1 cr))(hl:VAt w bl U ⟨1,41,⟨#[]⟩⟩)(hr:VAt w K Y ⟨1,1,⟨#[]⟩⟩)(bA:w.cell? (Aq box)=some (.func (.func 226) #[] #[])):
  Cq 232 #[Pq b,.agg #[Iq 2,iZ,Iq 1,iZ,iZ,iZ,.string ⟨#[]⟩],.func (.func 267) #[] #[Pq box]] w fun e w'=>∃ g,e=.returned (Sq g 1 1)/\w.heap.size<=g/\w'.heap[g]?=some (.cells #[Iq 1,Iq 42,.string ⟨#[]⟩] 65 (0,0))/\Bq w w':=by
 obtain⟨_,_,_,c3,c4,_⟩:=h.cells;obtain⟨bj,x1,x2⟩:=hl;obtain⟨bk,bB,bC⟩:=hr;have bP:bl<w.heap.size:=Jm bj;have bQ:K<w.heap.size:=Jm bk;have hq:=heap_alloc_new w (.cells #[Iq 2,iZ,Iq 1,iZ,iZ,iZ,.string ⟨#[]⟩] 70);have M:Bq w (w.alloc (.cells #[Iq 2,iZ,Iq 1,iZ,iZ,iZ,.string ⟨#[]⟩] 70)):=Jc (Oa5 _ _) _;clear h;go_enter func232,ntmps232
 go_upto_region 1 with fail
 have bf:(w.alloc (.cells #[Iq 2,iZ,Iq 1,iZ,iZ,iZ,.string ⟨#[]⟩] 70)).heap.size=w.heap.size+1:=zS;generalize w.alloc (.cells #[Iq 2,iZ,Iq 1,iZ,iZ,iZ,.string ⟨#[]⟩] 70)=W at hq M bf |-;have bL:=zc 1 hq;have bM:=zc 2 hq;replace c3:=Ja M c3;replace c4:=Ja M c4;replace h0:=Ja M h0;replace bh:=Ja M bh;go_region_held3 (fun X=>X.cell? (Ar b 4)=some (Sq Z 2 cp)/\X.cell? (Aq Z)=some (Sr bl U 1 cl)/\X.cell? (Ar Z 1)=some (Sr K Y 1 cr)/\X.cell? (Ar w.heap.size 1)=some iZ /\X.cell? (Ar w.heap.size 2)=some (Iq 1)) (go_keep) (fail)
 have bJ:=Kxg;go_wp2;refine wp_loop_rounds 2 ?_;rw[rounds_succ];go_wp2;have I:Bq w (W.alloc (.cells #[iZ,iZ,.string ⟨#[]⟩] 65)).drew:=Jj (Jc M _);have bz:(W.alloc (.cells #[iZ,iZ,.string ⟨#[]⟩] 65)).drew.heap[w.heap.size+1]?=_:=bf▸heap_alloc_new W _;have bi:(W.alloc (.cells #[iZ,iZ,.string ⟨#[]⟩] 65)).drew.heap.size=w.heap.size+2:=by rw[heap_drew,Oa7,bf]
 generalize (W.alloc (.cells #[iZ,iZ,.string ⟨#[]⟩] 65)).drew=O at I bz bi |-;replace bj:=Ja I bj;replace x1:=Ja I x1;replace x2:=Ja I x2;replace bk:=Ja I bk;replace bB:=Ja I bB;replace bC:=Ja I bC;have bO:=I.size;have bN:∀ (args:Array Value) (W:World),(callFunc 267 args).run prog W=.ok (.enter 267 args) W:=fun args W=>by kernel_rfl
 have bx:=fun X bI=>Qcp box X (Ja (Jb I bI) bA);clear c3 c4 h0 bh bL bM hq M bf bA bJ;go_cut [11,12] from 39 to 52 (fun a c X=>c=.nilIface/\∃ fa:Nat,a=Pq fa/\X.heap[fa]?=some (.cells #[Iq 1,Iq 42,.string ⟨#[]⟩] 65 (0,0))/\Bq O X)
 case first=>
  go_region_held3 (fun X=>X.cell? (Ar bl U)=some (Iq 1)/\X.cell? (Ar bl (U+1))=some (Iq 41)/\X.cell? (Ar bl (U+2))=some (.string ⟨#[]⟩)/\X.cell? (Ar K Y)=some (Iq 1)/\X.cell? (Ar K (Y+1))=some (Iq 1)/\X.cell? (Ar K (Y+2))=some (.string ⟨#[]⟩))
   (refine⟨?_,?_,?_,?_,?_,?_⟩<;>(repeat (with_reducible first|assumption|refine Ja H ?_|refine Kf ?_|refine Jh ?_|refine Kz8 zo ?_)))
   (first|(go_at_call 267;refine(bx _ (by with_reducible exact Jj (Oa5 _ _))).mono ?_;rintro e br ⟨rfl,H⟩;have bK:=H.size;simp only[heap_drew]at bK)|(go_at_call 267;refine(bx _ (by go_grown)).mono ?_;rintro e br ⟨rfl,H⟩;have y:=(H.block (w.heap.size+2) (by simp[bi])).trans (bi▸heap_alloc_new O _);have bR:=zc 0 y;have bS:=zc 1 y;have m2:=zc 2 y;have bD:=Lib.frozen_of_heap y 0;have bE:=Lib.frozen_of_heap y 1;have bG:=Lib.frozen_of_heap y 2))
  ·go_wp2_with fail
   go_meet
   case rel=>exact⟨rfl,_,rfl,heap_alloc_new br _,Jc (Jw (B:=O.heap.size) H) _⟩
  go_wp2_with fail
  go_meet
  case rel=>
   have:=Jk (Jk (Jk y 0 (Iq 1)) 1 (Iq 42)) 2 (.string ⟨#[]⟩);have H:=Jb (show Bq O _ by go_grown) H;exact⟨rfl,_,rfl,this,by go_grown⟩
 case rest=>
  obtain⟨rfl,fa,rfl,y,H⟩:=hcut;have n:=(H.block (w.heap.size+1) zo).trans bz;have bT:=zc 0 n;have bU:=zc 1 n;have bV:=zc 2 n;have bW:=Lib.frozen_of_heap n 0;have z1:=Lib.frozen_of_heap n 1;have z2:=Lib.frozen_of_heap n 2;have bD:=zc 0 y;have bE:=zc 1 y;have bG:=zc 2 y;have n:=Jk (Jk (Jk n 0 (Iq 1)) 1 (Iq 42)) 2 (.string ⟨#[]⟩);have H:=Jb I H;go_wp2;rw[rounds_succ];go_wp2;go_returns
  exact⟨_,rfl,zo,n,by go_grown⟩
theorem VAt.low {w w' b o v}(h:VAt w b o v)(hb:Bq w w'):VAt w' b o v:=⟨Ja hb h.1,Ja hb h.2.1,Ja hb h.2.2⟩
def Qb9 (B b:Nat)(v:V)(w:World):Ending->World->Prop:=fun e w'=>∃ g o c:Nat,e=.returned (Sr g o 1 c)/\g≠b/\(g<B\/w.heap.size<=g)/\VAt w' g o v/\Bq w w'
theorem Qea B b H cp bl K cl I M cr ex ba er O w(h:Uz w b ex ba O 1 (Sq H 2 cp) er)(h0:w.cell? (Aq H)=some (Sr bl K 1 cl))(U:w.cell? (Ar H 1)=some (Sr I M 1 cr))(hl:VAt w bl K ⟨1,41,⟨#[]⟩⟩)(hr:VAt w I M ⟨1,1,⟨#[]⟩⟩):
  Cq 182 #[Pq b,.agg #[Iq 2,iZ,Iq 1,iZ,iZ,iZ,.string ⟨#[]⟩]] w (Qb9 B b ⟨1,42,⟨#[]⟩⟩ w):=by
 have hb:=Jd h;have Z:=fun x Y (y:Bq w (((w.alloc x).alloc Y).alloc (.cells #[.func (.func 226) #[] #[]] 389)))=>Qdh b H cp bl K cl I M cr (w.heap.size+1+1) ex ba er O _ (h.below y) (Ja y h0) (Ja y U) (hl.low y) (hr.low y) (by have:=heap_alloc_new ((w.alloc x).alloc Y) (.cells #[.func (.func 226) #[] #[]] 389);rw[Oa7,Oa7]at this;unfold World.cell?;rw[this];rfl);clear h h0 U hl hr;go_enter func182,ntmps182
 go_wp2_with (first|(go_at_call 225;go_enter func225,ntmps225)|(go_at_call 232;refine(Z _ _ (by go_grown)).mono ?_;rintro e bh ⟨g,rfl,bf,hv,y⟩))
 go_returns
 have y:=Jb (show Bq w _ by go_grown) y;simp at bf;exact⟨g,0,1,rfl,zo,.inr zo,by constructor<;>simp[World.cell?,hv],y⟩
attribute [local go_sem] Oc0
theorem Qd7 B b gb cap bl y cl ex O er I w(h:Uz w b ex (Sq gb 1 cap) I 1 O er)(h0:w.cell? (Aq gb)=some (Sr bl y 1 cl))(hl:VAt w bl y ⟨1,41,⟨#[]⟩⟩)(M:bl≠b)(K:bl<B):
  Cq 180 #[Pq b,.agg #[iZ,iZ,iZ,iZ,iZ,iZ,.string ⟨#[]⟩]] w (Qb9 B b ⟨1,41,⟨#[]⟩⟩ w):=by
 have c1:=h.cells.2.1;have U:=World.new_ne w _ c1;have Y:=World.new_ne w _ h0;have H:Hid _:=hl;clear h hl;go_enter func180,ntmps180
 go_upto_region 1 with fail
 go_region_held3 (fun X=>X.cell? (Ar b 1)=some (Sq gb 1 cap)/\X.cell? (Aq gb)=some (Sr bl y 1 cl)/\X.cell? (Ar w.heap.size 3)=some iZ) (go_keep) (fail)
 go_wp2;go_returns
 exact⟨bl,y,cl,rfl,M,.inl K,VAt.low H.out (by go_grown),by go_grown⟩
theorem Qc5 B b ex ba H er y w(h:Uz w b ex ba y 1 H er):
  Cq 181 #[Pq b,.agg #[Iq 1,iZ,iZ,Iq 1,Iq 1,Iq 1,.string ⟨#[]⟩]] w (Qb9 B b ⟨1,1,⟨#[]⟩⟩ w):=by
 have c3:=h.cells.2.2.2.1;have K:=World.new_ne w _ c3;have hb:=Jd h;have I:=Kxg;clear h;go_enter func181,ntmps181
 go_wp2;go_rounds 2
 go_returns
 exact⟨_,0,1,rfl,zo,.inr zo,by refine⟨?_,?_,?_⟩<;>simp[go_sem],by go_grown⟩
attribute [local go_sem] Oc0
theorem Ksw {p}(h:p):Hid p:=h
theorem Qdo w x y z W(h:((w.alloc x).alloc y).alloc z=W):W.heap.size=w.heap.size+3/\W.heap[w.heap.size]?=some x/\W.heap[w.heap.size+1+1]?=some z/\Bq w W:=by
 subst h;have:=heap_alloc_new ((w.alloc x).alloc y) z;rw[Oa7,Oa7]at this;exact⟨zS,(Oa9 _ _ _ zt).trans ((Oa9 _ _ _ zS).trans (heap_alloc_new w _)),this,by go_grown⟩
structure ExT (w:World) (b B:Nat) (ex ba er:Value) (fi:Int) (vs:List V) (sv:Value) (qs:List Value) (wr:World):Prop where
 own:Jo wr w.heap.size 62 sv qs
 wk:Uz wr b ex ba fi 1 sv er
 keep:Ju (·=b) w wr
 vals:∀ (j:Nat) (u:Value),qs[j]?=some u->∃ (g o c:Nat) (v:V),u=Sr g o 1 c/\vs[j]?=some v/\VAt wr g o v/\g≠b/\sv.ownBlock≠some g/\(g<B\/w.heap.size<=g)
theorem ExT.step {w b B ex ba er bi vs sv O wr H I}(h:ExT w b B ex ba er bi vs sv O wr)(hb:b<w.heap.size)(bO:B<=w.heap.size)(y:Bq wr H){g o c v}(bD:vs[O.length]?=some v)(Z:g≠b)(bP:g<B\/wr.heap.size<=g)(hv:VAt H g o v){sv' bH}(ho:Jo I w.heap.size 62 sv' (O++[Sr g o 1 c]))(M:(H.alloc bH).grownBy I sv.ownBlock)(bB:sv'.ownBlock=sv.ownBlock\/sv'.ownBlock=some (H.heap.size+1)):
  ExT w b B ex ba er bi vs sv' (O++[Sr g o 1 c]) (I.setCell (Ar b 4) sv'):=by
 have bQ:=h.keep.size;have z1:=y.size;have bN:=M.size;rw[Oa7]at bN;have hob:=fun g e=>Je h.own (g:=g) e;have bh:=Jm hv.1;simp only at bh;have U:∀ k,k<H.heap.size->sv.ownBlock≠some k->I.heap[k]?=H.heap[k]?:=fun k y bG=>by rw[M.block k (by rw[Oa7];omega) (fun e=>bG e.symm),Oa9 _ _ k y]
 have Y:∀ k,k≠b->(I.setCell (Ar b 4) sv').heap[k]?=I.heap[k]?:=fun k y=>Oa4 _ _ _ _ y;have bC:sv.ownBlock≠some b:=fun e=>by have:=hob b e;omega
 have bj:sv.ownBlock≠some g:=fun e=>by have:=hob g e;omega
 have br:∀ k,k<H.heap.size->sv.ownBlock≠some k->sv'.ownBlock≠some k:=fun k y Z e=>by
  rcases bB with bf|bf
  ·exact Z (bf▸e)
  rw[bf]at e;simp at e;omega
 refine⟨Jl ho fun k e=>Y k (by have:=Je ho e;omega),?_,⟨M.os.trans (y.os.trans h.keep.os),M.tape.trans (y.tape.trans h.keep.tape),M.output.trans (y.output.trans h.keep.output),by rw[World.size_setCell];omega,fun k bE bk=>?_⟩,fun j u K=>?_⟩
 ·exact Jk (((U b zo bC).trans (y.block b zo)).trans h.wk) 4 sv'
 ·rw[Y k bk,U k zo (fun e=>by have:=hob k e;omega),y.block k zo];exact h.keep.block k bE bk
 rw[Om7]at K;split at K
 ·obtain⟨g2,bI,c2,bM,bJ,bK,bx,bz,bA,bL⟩:=h.vals j u K;have hl:=Jm bx.1;simp only at hl;exact⟨g2,bI,c2,bM,bJ,bK,bx.of_block (by rw[Y g2 bz,U g2 zo bA,y.block g2 hl]),bz,br g2 zo bA,bL⟩
 obtain rfl:j=O.length:=by
  have:=(Ob9.1 K).1;simp at this;omega
 simp at K;exact⟨g,o,c,v,K.symm,bD,hv.of_block (by rw[Y g Z,U g bh bj]),Z,br g bh bj,zo⟩
def Qcx:List V:=[⟨1,41,⟨#[]⟩⟩,⟨1,1,⟨#[]⟩⟩,⟨1,42,⟨#[]⟩⟩]
structure One (w:World) (b B gb cap:Nat):Prop where
 col:∃ bl ol cl:Nat,w.cell? (Aq gb)=some (Sr bl ol 1 cl)/\VAt w bl ol ⟨1,41,⟨#[]⟩⟩/\bl≠b/\bl<B
 ne:gb≠b
 low:B<=w.heap.size
theorem One.keep {w w' b B gb cap}(h:One w b B gb cap)(y:Ju (·=b) w w'):One w' b B gb cap:=by
 obtain⟨bl,O,cl,K,I,H,M⟩:=h.col;exact⟨⟨bl,O,cl,y.cell K h.ne,⟨y.cell I.1 H,y.cell I.2.1 H,y.cell I.2.2 H⟩,H,M⟩,h.ne,Ob2 h.low y.size⟩
theorem Qdr {w wr X b B gb cap ex er sv H I}(h:ExT w b B ex (Sq gb 1 cap) er H Qcx sv I wr)(hC:One w b B gb cap)(y:Bq wr X){p}(hp:Jkp[I.length]?=some p):∃ v,Qcx[I.length]?=some v/\Cq (Zv p.op) #[Pq b,p.val] X (Qb9 B b v X):=by
 obtain⟨bl,bx,cl,bf,bh,bi,bj⟩:=(hC.keep (h.keep.trans (Ju.of_below y))).col;have K:=h.wk.below y;match I,hp,h.vals,h.own with
 |[],hp,_,_=>cases hp;exact⟨_,rfl,Qd7 B b gb cap bl bx cl ex sv er H X K bf bh bi bj⟩
 |[_],hp,_,_=>cases hp;exact⟨_,rfl,Qc5 B b ex _ sv er H X K⟩
 |[u0,u1],hp,hv,ho=>
  cases hp
  obtain⟨Z,bk,c0,_,rfl,bA,bB,bE,bG,_⟩:=hv 0 u0 rfl;obtain⟨g1,br,c1,_,rfl,bC,bD,bH,bI,_⟩:=hv 1 u1 rfl;cases bA
  cases bC
  obtain⟨a,cp,e,M⟩:=Ji8 ho;obtain⟨bz,rfl,_,O,_⟩:=M 0 _ rfl;obtain⟨_,Y,_,U,_⟩:=M 1 _ rfl;cases Y
  subst e;exact⟨_,rfl,Qea B b bz cp Z bk c0 g1 br c1 ex _ er H X K (Ja y O) (Ja y U) (bB.low y) (bD.low y)⟩
attribute [local go_sem] Oc0
theorem Qda b B gb cap sb sc ex er bI bf w(hW:Uz w b ex (Sq gb 1 cap) bf 1 bI er)(hC:One w b B gb cap)(bD:Jco w sb b Jkp):
  Cq 156 #[Pq b,Sq sb 3 sc] w fun e w'=>∃ (g o c:Nat) (cn:Value),e=.returned (Sr g o 1 c)/\g≠b/\(g<B\/w.heap.size<=g)/\VAt w' g o ⟨1,42,⟨#[]⟩⟩/\Ju (·=b) w w'/\Uz w' b ex (Sq gb 1 cap) bf 1 cn er:=by
 have c4:=hW.cells.2.2.2.2.1;have bC:=hW.thaw 4;have bT:=Jd hW;have Z:Hid (Uz w b ex (Sq gb 1 cap) bf 1 bI er/\One w b B gb cap/\Jco w sb b Jkp):=⟨hW,hC,bD⟩;clear hW hC bD;go_enter func156,ntmps156
 go_wp2;go_loopw [12] (fun i wr=>∃ (j:Nat) (sv:Value) (O:List Value),j<=3/\O.length=j/\i=Iq (j:Int)/\Hid (ExT w b B ex (Sq gb 1 cap) er bf Qcx sv O wr)) (fun i _=>3-(intOf i).toNat)
 case atStart=>exact⟨0,Sz,[],zo,rfl,rfl,Jo.nil _ _ _,Jk Z.out.1 4 _,Ju.set (F:=fun x=>x=b) (Ju.refl _ w) rfl 4 _,fun j u K=>by simp at K⟩
 case round=>
  obtain⟨j,sv,O,cC,hq,rfl,H⟩:=hrel;have bj:=H.out.wk.cells.2.2.2.2.1;have cE:=H.out.keep.size;by_cases bX:j<3
  ·obtain⟨p,hp⟩:∃ p,Jkp[j]?=some p:=⟨_,Oa3 bX⟩;obtain⟨cu,x1,x2,cv,cx,cy,cz,bJ⟩:=(Z.out.2.2.keep H.out.keep).step j p hp;have Y:=fun X U=>Qdr (X:=X) H.out Z.out.2.1 U (hq▸hp);have bU:=Js0 p.op;generalize Zv p.op=f at bJ bU Y;have bK:=Ksw Y;have bA:=Ksw hq;have j1:(0:Int)<=(j:Int):=zo;have j2:(j:Int)<3:=zo;have ca:∀ (a:Addr) (W:World),(store a (.func (.func f) #[Pq b] #[])).run prog W=stored prog W a (.func (.func f) #[Pq b] #[]) .plain:=fun a W=>run_store _ _ _ _ _ rfl;clear Y hp hq;go_upto_region 5 with fail
   generalize bk:wr.alloc _=A;have bB:A.heap[wr.heap.size]?=_:=bk▸heap_alloc_new wr _;have U:Bq wr A:=bk▸Jc (Oa5 _ _) _;have cj:wr.heap.size<A.heap.size:=Jd bB;clear bk cu x1 x2 cv cx cy cz bJ ca c4 bC;obtain⟨ci,bW,cb,cc,cf⟩:=info_parts Jps;obtain⟨v,hv,Y⟩:=bK.out A.drew (Jj U);refine Ktv 14 (S:=fun X=>X.cell? (Ar b 4)=some sv/\X.cell? (Aq wr.heap.size)=some (Iq p.op)/\X.cell? (Ar wr.heap.size 1)=some (Iq p.l)/\X.cell? (Ar wr.heap.size 2)=some (Iq p.r)/\X.cell? (Ar wr.heap.size 3)=some (Iq p.c)/\X.cell? (Ar wr.heap.size 4)=some (Iq p.v.k)/\X.cell? (Ar wr.heap.size 5)=some (Iq p.v.n)/\X.cell? (Ar wr.heap.size 6)=some (.string p.v.s)/\X.cell? (Ar wr.heap.size 7)=some (.func (.func f) #[Pq b] #[])) zK ⟨Jh (Ja U bj),by refine⟨?_,?_,?_,?_,?_,?_,?_,?_⟩<;>(unfold World.cell?;rw[heap_drew,bB];rfl)⟩ (fun y=>?_);refine tkm 0 rfl y ?_;refine tkm 1 rfl y ?_;refine tkm 2 rfl y ?_;refine tkm 3 rfl y ?_;refine tkm 4 rfl y ?_;refine tkm 5 rfl y ?_;refine tkm 6 rfl y ?_;refine tkm 7 rfl y ?_;refine tkm 8 rfl y ?_;refine tkn ?_;refine Kr2 9 rfl (fun I hK=>?_);go_simp;refine Y.mono ?_;rintro e M ⟨g,o,c,rfl,bz,br,bQ,bh⟩;go_simp;refine hK.out _ _ (by simpa only[World.cell?,bh.block b (by rw[heap_drew];omega),bh.block wr.heap.size cj] using y) (fun y=>?_);clear hK I;have bi:Bq wr M:=Jb (Jj U) bh;have z2:=bi.size;have cA:=bh.size;simp only[heap_drew]at cA;refine Kr2 10 rfl (fun I hK=>?_);go_simp;refine hK.out _ _ (by simpa only[World.cell?,Oa9 M _ b zo,Oa9 M _ wr.heap.size zo] using y) (fun y=>?_);clear hK I;have bY:=heap_alloc_new M (.cells #[Sr g o 1 c] 62);have hq:=bA.out;have hob:=fun g e=>Je H.out.own (g:=g) e;have bS:sv.ownBlock≠some b:=fun e=>by have:=hob b e;omega
   refine Kr2 11 rfl (fun I hK=>?_);refine step_append_lies (M.alloc (.cells #[Sr g o 1 c] 62)) rfl (.tmp 20) (.tmp 26) 83 rfl w.heap.size 62 ci Sz 1 24 underlying83 bW cb cc cf rfl zd sv O.length O rfl (Jo.alloc (H.out.own.below bi) _) ⟨M.heap.size,0,none⟩ 1 1 [Sr g o 1 c] rfl rfl (fun j u K=>World.news_of_block bY j u (by simpa using K)) (fun u K=>by simp at K;subst K;rfl) zd (by unfold maxLen;omega) zo (by rw[Oa7];omega) (M.heap.size+1) zS (fun bP bM bL bZ bx bR cD=>?_);have bE:=bx.block b (by rw[Oa7];omega) (fun e=>bS e.symm);refine hK.out _ _ (by simpa only[World.cell?,bE,bx.block wr.heap.size (by rw[Oa7];omega) (fun e=>by have:=hob _ e.symm;omega)] using y) (fun y=>?_);clear hK I;have cG:=y.1;have cB:bL.frozen? ⟨b,4,none⟩=false:=by have:=(H.out.wk.below bi).thaw 4;simpa only[World.frozen?,bE,Oa9 M _ b (by omega:b<M.heap.size)] using this
   have bV:=Ksw (H.out.step bT Z.out.2.1.low bi (hq▸hv) bz (br.imp id fun h=>by rw[heap_drew]at h;omega) bQ (sv':=Sq bP (O.length+1) bM) (by rw[Jo,Oa8];exact bZ) bx (bR.imp Eq.symm (congrArg some)));clear hq;simp only[Act.put,List.getElem_toArray,List.getElem_cons_zero,List.getElem_cons_succ,Oa1,List.set_cons_zero,List.set_cons_succ];refine Kr2 12 rfl (fun I hK=>?_);go_simp;refine hK.out _ _ y (fun y=>?_);clear hK I;refine Kr2 13 rfl (fun I hK=>?_);go_simp;refine hK.out _ _ y (fun y=>?_);clear hK I;refine Kts rfl (fun I hK=>?_);go_simp;refine hK.out _ _ ?_;go_wp2;go_roundw
   case rel=>exact⟨j+1,_,_,zo,by simp[bA.out],zn,bV⟩
   case measure=>simp[intOf];omega
  obtain rfl:j=3:=zo;obtain⟨a,cp,e,bG⟩:=Ji8 H.out.own;obtain⟨u,K⟩:∃ u,O[2]?=some u:=⟨_,Oa3 zo⟩;obtain⟨g,o,c,v,rfl,bO,hv,bz,_,br⟩:=H.out.vals 2 u K;cases bO
  obtain⟨bH,rfl,_,bN,_⟩:=bG 2 _ K;rw[e,hq]at bj;have hv:=Ksw hv;have cF:IntKind.i64.wrap 2=2:=rfl;clear K bG e c4 bC hq;go_upto_region 7 with fail
  refine wp_region_held_drew (S:=fun X=>X.cell? (Ar b 4)=some (Sq bH 3 cp)/\X.cell? (Ar bH 2)=some (Sr g o 1 c)) zK ⟨bj,bN⟩ (fun y=>?_);refine tkj 0 rfl y ?_;refine tkj 1 rfl y ?_;refine tkj 2 rfl y ?_;refine tkj 3 rfl y ?_;refine tkj 4 rfl y ?_;refine tkj 5 rfl y ?_;refine tkj 6 rfl y ?_;refine tkj 7 rfl y ?_;refine tkj 8 rfl y ?_;refine tkj 9 rfl y ?_;refine tkj 10 rfl y ?_;refine tkj 11 rfl y ?_;refine tkj 12 rfl y ?_;refine tkn ?_;refine wpAnyH_done zK ?_ _;go_wp2;go_returns
  exact⟨g,o,c,_,rfl,bz,br,hv.out,H.out.keep.drewN 1,H.out.wk⟩
attribute [local go_sem] Oc0
def Kzr (w:World)(b y H:Nat):Prop:=(∃ (ba I er:Value) (f n:Int),Uz w b (Sq y 1 H) ba f n I er)/\y≠b/\∃ sb sc,w.cell? (Aq y)=some (Sq sb 3 sc)/\Jco w sb b Jkp/\b<y/\b<sb
theorem Kzr.move {w w' b H y}(h:Kzr w b H y)(O:∀ k c t f,b<=k->w.heap[k]?=some (.cells c t f)->w'.heap[k]?=some (.cells c t f)):Kzr w' b H y:=by
 obtain⟨⟨ba,bh,er,f,n,hW⟩,bf,sb,sc,U,I,Y,K⟩:=h;have M:∀ g o v,b<=g->w.cell? (Ar g o)=some v->w'.cell? (Ar g o)=some v:=fun g o v Z h=>by
  unfold World.cell? at h |-;split at h
  ·rename_i e
   rw[O _ _ _ _ Z e];exact h
  cases h
 refine⟨⟨ba,bh,er,f,n,O b _ _ _ (Oa2 _) hW⟩,bf,sb,sc,M _ _ _ zo U,⟨I.ne,fun j p hp=>?_⟩,Y,K⟩;obtain⟨bi,bj,bk,br,bx,bz,bA,bB⟩:=I.step j p hp;have:=fun o v=>M sb o v (Nat.le_of_lt K);exact⟨this _ _ bi,this _ _ bj,this _ _ bk,this _ _ br,this _ _ bx,this _ _ bz,this _ _ bA,this _ _ bB⟩
theorem eOn b B gb cap U O I w(hR:Kzr w b U O)(hC:One w b B gb cap):
  Cq 124 #[Pq b,Sq gb 1 cap,Iq I] w fun e w'=>∃ g2 cp g o c:Nat,e=.returned (.tuple #[Sq g2 1 cp,.nilIface])/\w.heap.size<=g2/\w'.cell? (Aq g2)=some (Sr g o 1 c)/\(g<B\/w.heap.size<=g)/\VAt w' g o ⟨1,42,⟨#[]⟩⟩/\Ju (·=b) w w':=by
 obtain⟨⟨ba,br,er,f,n,hW⟩,bH,sb,sc,bf,Z,_⟩:=hR;obtain⟨c0,c1,c2,c3,c4,c5⟩:=hW.cells;have bA:=hW.thaw 1;have bB:=hW.thaw 2;have bC:=hW.thaw 3;have bD:=hW.thaw 5;have bP:=Jd hW;obtain⟨bl,bU,cl,bh,_⟩:=hC.col;go_enter func124,ntmps124
 go_upto_region 2 with(first|(go_at_call 71;go_enter func71,ntmps71))
 generalize K:World.setCell _ _ _=A;have bk:Uz A b (Sq U 1 O) (Sq gb 1 cap) I 1 br .nilIface:=by rw[<-K];exact Jk (Jk (Jk (Jk hW 1 _) 2 _) 3 _) 5 _
 have y:Ju (·=b) w A:=by rw[<-K];exact Ju.set (F:=fun x=>x=b) (Ju.set (F:=fun x=>x=b) (Ju.set (F:=fun x=>x=b) (Ju.set (F:=fun x=>x=b) (Ju.refl _ w) rfl 1 _) rfl 2 _) rfl 3 _) rfl 5 _
 have bI:=Qda b B gb cap sb sc _ .nilIface br I A bk (hC.keep y) (Z.keep y);have bQ:=y.cell bf bH;have bM:=bk.cells.1;have bS:=y.size;have y:=Ksw y;clear K hW Z hC c0 c1 c2 c3 c4 c5 bA bB bC bD bh bf;go_wp2;refine wp_loop_rounds 2 ?_;rw[rounds_succ];go_wp2_with (first|(go_at_call 156;refine bI.mono ?_;rintro e H ⟨g,o,c,bV,rfl,bR,bh,hv,bi,bK⟩;have bT:=bi.size)|(at_builtin;go_must (refine Ul zR _ _ 84 62 _ 24 Jps zR zd zK zR w.heap.size _ _ zR (Jo.nil _ _ _) ⟨H.heap.size,0,none⟩ 1 [Sr g o 1 c] zR (by exact Ua H _ _) (by intro u bj;simp at bj;subst bj;rfl) zS zt ?_);intro sv' bL Y bE bO))
 rw[rounds_succ];have M:=Jy (sv:=Sz) (Jc (Oa5 _ H) _) bE (fun k y=>by cases y);have bN:=(bK.below M).cells.2.2.2.2.2;obtain⟨a,cp,e,bG⟩:=Ji8 Y;obtain⟨g2,rfl,bx,bz,_⟩:=bG 0 _ rfl;have bJ:=(Je Y bx).1;go_wp2;subst e;go_returns
 exact⟨g2,cp,g,o,c,rfl,bJ,bz,zo,hv.low M,(y.out.trans bi).trans (Ju.of_below M)⟩
attribute [local go_sem] Oc0
theorem Qeb eb bD bU bK bL pc w(bH:w.cell? (Ar eb bD)=some (Sr bK bL 3 pc))(hp:∀ k p,Jkp[k]?=some p->Qi w bK (bL+k*7) p):
  Cq 122 #[Sr eb bD 1 bU] w fun e w'=>Bq w w'/\e=.returned (Pq w.heap.size)/\∃ bW bV,Kzr w' w.heap.size bW bV:=by
 have cR:∀ (f:Nat) (a:Addr) (X:World),(store a (.func (.func f) #[Pq w.heap.size] #[])).run prog X=stored prog X a (.func (.func f) #[Pq w.heap.size] #[]) .plain:=fun f a X=>run_store _ _ _ _ _ rfl;have hp:=Ksw hp;go_enter func122,ntmps122
 go_wp2;generalize bE:World.alloc _ _=A;obtain⟨cZ,hW,bh,Z⟩:=Qdo w _ _ _ A bE;have cM:=Ja Z bH;have hK:∀ (k:Nat) (p:Pt),Jkp[k]?=some p->p.op=(k:Int)/\A.cell? (Ar (w.heap.size+1+1) k)=some (.func (.func (Zv p.op)) #[Pq w.heap.size] #[]):=fun k p h=>by
  simp only[World.cell?,bh];match k,h with
  |0,h=>cases h;exact⟨rfl,rfl⟩
  |1,h=>cases h;exact⟨rfl,rfl⟩
  |2,h=>cases h;exact⟨rfl,rfl⟩
 have hK:=Ksw hK;clear bE bH bh;refine wp_loop_rounds 2 ?_;rw[rounds_succ];go_wp2;go_loopw [7,22] (fun s i wr=>∃ k:Nat,k<=3/\i=Iq (k:Int)/\Hid (wr.ownsRow A.heap.size 288 8 s k ((Jkp.take k).flatMap (Jft w.heap.size)))/\Bq A wr) (fun _ i _=>3-(intOf i).toNat)
 case atStart=>exact⟨0,zo,rfl,⟨rfl,.inl ⟨rfl,rfl⟩⟩,Oa5 _ _⟩
 case round=>
  obtain⟨k,cO,rfl,O,hb⟩:=hrel;have cS:=hb.size;by_cases cb:k<3
  ·obtain⟨p,br⟩:∃ p,Jkp[k]?=some p:=⟨_,Oa3 cb⟩;obtain⟨bM,x1,x2,cD,cE,cF,cG⟩:=(hp.out k p br).below (Jb Z hb);obtain⟨ho,M⟩:=hK.out k p br;replace M:=Ja hb M;have U:Jft w.heap.size p=[Iq (k:Int),Iq p.l,Iq p.r,Iq p.c,Iq p.v.k,Iq p.v.n,.string p.v.s,.func (.func (Zv p.op)) #[Pq w.heap.size] #[]]:=by rw[<-ho];rfl
   rw[ho]at bM;generalize Zv p.op=f at M U;have U:=Ksw U;have bP:=Ksw br;have cU:(0:Int)<=(k:Int):=zo;have cV:(k:Int)<3:=zo;have cW:(k:Int)<12:=zo;clear ho br;go_upto_region 10 with fail
   generalize bj:wr.alloc _=P;have bS:P.heap[wr.heap.size]?=_:=bj▸heap_alloc_new wr _;have bI:Bq wr P:=bj▸Jc (Oa5 _ _) _;have bN:P.heap.size=wr.heap.size+1:=by rw[<-bj];simp
   clear bj bM x1 x2 cD cE cF cG;replace M:=Jh (Ja bI M);obtain⟨cn,ca,cf,ci,cj⟩:=info_parts Jue;refine wp_region_held_drew (S:=fun X=>X.cell? (Ar (w.heap.size+1+1) k)=some (.func (.func f) #[Pq w.heap.size] #[])/\X.cell? (Aq wr.heap.size)=some (Iq (k:Int))/\X.cell? (Ar wr.heap.size 1)=some (Iq p.l)/\X.cell? (Ar wr.heap.size 2)=some (Iq p.r)/\X.cell? (Ar wr.heap.size 3)=some (Iq p.c)/\X.cell? (Ar wr.heap.size 4)=some (Iq p.v.k)/\X.cell? (Ar wr.heap.size 5)=some (Iq p.v.n)/\X.cell? (Ar wr.heap.size 6)=some (.string p.v.s)) zK ⟨M,by refine⟨?_,?_,?_,?_,?_,?_,?_⟩<;>(unfold World.cell?;rw[heap_drew,bS];rfl)⟩ (fun y=>?_);refine tkj 0 rfl y ?_;refine tkj 1 rfl y ?_;refine tkj 2 rfl y ?_;refine tkj 3 rfl y ?_;refine tkj 4 rfl y ?_;refine tkj 5 rfl y ?_;refine tkj 6 rfl y ?_;refine tkn ?_;refine tkr 7 rfl fun bx Y=>?_;go_simp;generalize bk:World.alloc _ _=X;have bT:X.heap[wr.heap.size+1]?=_:=bk▸bN▸heap_alloc_new P _;have bB:Bq P X:=bk▸Jc (Oa5 _ _) _;have cH:X.heap.size=wr.heap.size+2:=by rw[<-bk,Oa7,bN]
   clear bk;refine Y.out _ _ (by simpa only[World.cell?,heap_drew,bB.block wr.heap.size zo,bB.block (w.heap.size+1+1) zo] using y) (fun y=>?_);clear Y bx;have bG:Bq wr X.drew:=Jj (Jb bI bB);have hob:=fun g e=>Je O.out (g:=g) e;refine tkr 8 rfl fun bx Y=>?_;refine step_append_lies X.drew rfl (.tmp 26) (.tmp 33) 286 rfl A.heap.size 288 cn (.agg #[iZ,iZ,iZ,iZ,iZ,iZ,.string ⟨#[]⟩,.nilFunc]) 8 72 underlying286 ca cf ci cj rfl zd u7 k ((Jkp.take k).flatMap (Jft w.heap.size)) rfl (Jaw O.out bG) ⟨wr.heap.size+1,0,none⟩ 1 1 (Jft w.heap.size p) rfl rfl (fun j u H=>World.news_of_block (show X.drew.heap[wr.heap.size+1]?=_ from bT) j u (by rw[U.out]at H;simpa using H)) (fun u H=>by rw[U.out]at H;simp at H;rcases H with rfl|rfl|rfl|rfl|rfl|rfl|rfl|rfl<;>rfl) zd (by unfold maxLen;omega) zo (by rw[heap_drew];omega) (wr.heap.size+2) (by rw[heap_drew,cH]) (fun bX bQ bf cc bA cL cP=>?_);refine Y.out _ _ (by simpa only[World.cell?,bA.block wr.heap.size (by rw[heap_drew];omega) (fun e=>by have:=hob _ e.symm;omega),bA.block (w.heap.size+1+1) (by rw[heap_drew];omega) (fun e=>by have:=hob _ e.symm;omega)] using y) (fun y=>?_);clear Y bx;simp only[Act.put,List.getElem_toArray,List.getElem_cons_zero,List.getElem_cons_succ,Oa1,List.set_cons_zero,List.set_cons_succ];refine tkj 9 rfl y ?_;refine tkn ?_;refine wpAnyH_done zK ?_ _;have bO:Hid (bf.ownsRow A.heap.size 288 8 (Sq bX (k+1) bQ) (k+1) ((Jkp.take (k+1)).flatMap (Jft w.heap.size))):=by
    show World.ownsRow _ _ _ _ _ _ _;rw[Oi7,bP.out,Oe8];simpa using cc
   have I:=Jy (Jb hb bG) bA fun g e=>(hob g e).1;go_wp2;go_roundw
   case rel=>exact⟨k+1,zo,zn,bO,I⟩
   case measure=>simp[intOf];omega
  obtain rfl:k=3:=zo;obtain⟨sb,sc,rfl⟩:∃ sb sc,u7=Sq sb 3 sc:=by
   obtain⟨_,⟨_,bz⟩|⟨sb,sc,cI,bi,_⟩⟩:=O.out
   ·cases bz
   exact⟨sb,sc,bi⟩
  have K:=(show Uz A w.heap.size _ _ _ _ _ _ from hW).below hb;have c0:=K.cells.1;have cQ:=Je O.out rfl;have K:=Ksw K;go_wp2_with (at_builtin;go_must (refine Ul zR _ _ 280 286 _ 24 Jsw zR zd zK zR wr.heap.size _ _ zR (Jo.nil _ _ _) ⟨wr.heap.size,0,none⟩ 1 [Sq sb 3 sc] zR (by exact Ua wr _ _) (by intro u H;simp at H;subst H;rfl) zS zS ?_);intro cJ bf bi bz cK;have I:=Jy (sv:=Sz) (Jc (Oa5 _ wr) _) bz (fun k Z=>by cases Z);obtain⟨a,cp,e,bY⟩:=Ji8 bi;obtain⟨g2,rfl,bR,bh,_⟩:=bY 0 _ rfl;have cN:=(Je bi bR).1;subst e;have cX:=(K.out.below I).cells.1;have cY:=(K.out.below I).thaw 0)
  rw[rounds_succ];go_wp2;go_returns
  have bJ:∀ g,g≠w.heap.size->∀ o v,bf.cell? (Ar g o)=some v->(bf.setCell (Aq w.heap.size) (Sq g2 1 cp)).cell? (Ar g o)=some v:=fun g bZ o v h=>Uc (fun e=>bZ (congrArg Addr.block e).symm) h;have cT:=Jd K.out;refine⟨(Jb (Jb Z hb) I).setCell (Oa2 _) _,rfl,g2,cp,⟨_,_,_,_,_,Jk (K.out.below I) 0 _⟩,zo,sb,sc,bJ g2 zo 0 _ bh,?_⟩;have bC:=Jnn (es:=Jkp) (b:=w.heap.size) (Jaw O.out I) zo;exact⟨⟨bC.ne,fun j p h=>by
   obtain⟨cu,cv,cx,cy,cz,cA,cB,cC⟩:=bC.step j p h;have:=bJ sb bC.ne;exact⟨this _ _ cu,this _ _ cv,this _ _ cx,this _ _ cy,this _ _ cz,this _ _ cA,this _ _ cB,this _ _ cC⟩⟩,zo,zo⟩
attribute [local go_sem] Oc0
structure PrI (w:World) (db l wb tb rg eg ec:Nat) (pre:List Bat) (W:World):Prop where
 b1:W.heap[w.heap.size+1]?=some (.cells #[Sz] 84 (0,0))
 b2:W.heap[w.heap.size+1+1]?=some (.cells #[.nilIface] 77 (0,0))
 bw:W.heap[wb]?=some (.cells #[Pq (w.heap.size+3)] 238 (0,0))
 bt:W.heap[tb]?=some (.cells #[Sq rg 1 1] 84 (0,0))
 rd:pre=[]->Kzr W (w.heap.size+3) eg ec
 ct:∃ svs,Jar W rg rg svs [pre.map fun _=>⟨1,42,⟨#[]⟩⟩]/\∀ c,(Uq svs 0).ownBlock=some c->tb+3<=c
 keep:Ju (·=db) w W
 dn:W.heap[db]?=Jdc w db l
 size:tb+3<=W.heap.size
theorem Qcn {α}{F:Fence}{n P g lb}{K:α->Array Value}{H:α->World->Prop}{y:World->World->Prop}{S I:List α->Prop}{N w}(h:Kh4 F n P g lb K H y S I N w):Qc3 F n P g lb K H (fun _ _=>True) y S I N w:=fun l J M W hW bf bh bi h0=>h l J M W hW bf bh (fun bj x O U Y Z=>bi bj x O U Y trivial Z) h0
theorem Qbb (rb y k cO l z:Nat)bu bl dc dd cP sc(op r:Int)tn ky(kk:Int)(eb cy cQ cI cJ pc g cap:Nat)hs w(hr:Jck w rb z bu bl dc dd cP sc (Sq y k cO))(hl:l<k)(bi:w.cell? (Ar y l)=some (Sq g 1 cap))(cU:w.frozen? ⟨y,l,none⟩=false)(ci:rb≠y)(cT:w.cell? (Ar eb cy)=some (Sr cI cJ 3 pc))(hp:∀ k p,Jkp[k]?=some p->Qi w cI (cJ+k*7) p)(dE:1<=z)(dH:z<=100000)(hC:Qd w g hs [[⟨1,41,⟨#[]⟩⟩]])(cV:Jbo g hs 1 (fun b=>b≠y))(cW:Jbo g hs 1 (fun b=>b<w.heap.size)):
  Cq 93 #[Pq rb,.agg #[Iq op,Iq (l:Int),Iq r,.string tn,Sr eb cy 1 cQ,ky,Iq kk]] w fun e w'=>Ju (·=y) w w'/\∃ rg bz,e=.returned (.tuple #[Sq rg 1 1,.nilIface])/\w.heap.size<=rg/\Jar w' rg rg bz [[⟨1,42,⟨#[]⟩⟩]]/\w'.heap[y]?=Jdc w y l:=by
 have cc:=Jm bi;simp only at cc;have bK:=Ksw (And.intro hr (And.intro hl (And.intro bi (And.intro cU ci))));have cL:=Ksw (And.intro cT hp);have bf:=Ksw (And.intro hC (And.intro cV cW));clear hr hl bi cU ci cT hp hC cV cW;refine(callsIn_wide (n:=3)).1 ?_;refine callsIn_of_wp_marks func93 rfl trivial ?_ rfl;simp only[ntmps93,Om3,List.length_cons,List.length_nil,Nat.reduceAdd,Nat.reduceSub,Ok9,Array.replicate_zero,Om4,Ol2,List.nil_append,List.cons_append];refine wpIn_wide.2 ?_;go_upto_region 1 with fail
 generalize hW:World.alloc _ _=cN;obtain⟨cF,bG,bS,bT,Z⟩:=Jur w _ _ _ cN hW;clear hW;have cH:=zc 4 bG;have bO:=Qeb eb cy cQ cI cJ pc cN (Ja Z cL.out.1) (fun k p h=>(cL.out.2 k p h).below Z);rw[cF]at bO;go_upto_region 2 with(go_at_call 122;refine bO.mono ?_;rintro e I ⟨br,rfl,cx,cv,bP⟩)
 try rw[<-cF]at br
 have dG:=br.size;have cX:w.heap.size+3<I.heap.size:=by obtain⟨⟨_,_,_,_,_,h⟩,_⟩:=bP;exact Jd h
 generalize hW:I.alloc _=bL;have cu:bL.heap[I.heap.size]?=_:=hW▸heap_alloc_new I _;have bI:Below I.heap.size I bL:=hW▸Jc (Oa5 _ _) _;have z2:bL.heap.size=I.heap.size+1:=by rw[<-hW,Oa7]
 replace bP:=bP.move (fun k _ _ _ _ h=>(bI.block k (Jd h)).trans h);replace br:=Jb br bI;replace bG:=(br.block _ zo).trans bG;replace bS:=(br.block _ zo).trans bS;replace bT:=(br.block _ zo).trans bT;replace Z:=Jb Z br;generalize I.heap.size=K at *;clear hW bO cH cF br bI dG;have cH:=zc 4 bG;have bO:=Jiz 1 bL zo;go_upto_region 3 with(go_at_call 72;refine bO.mono ?_;rintro e bE ⟨rfl,bj,bx⟩)
 have cG:=bj.row.lt;generalize hW:bE.alloc _=bM;have di:bM.heap[bE.heap.size]?=_:=hW▸heap_alloc_new bE _;have cB:Below bE.heap.size bE bM:=hW▸Jc (Oa5 _ _) _;have de:bM.heap.size=bE.heap.size+1:=by rw[<-hW,Oa7]
 replace bj:=bj.below cB;replace bx:=Jb bx cB;replace bP:=bP.move (fun k _ _ _ _ h=>(bx.block k (Jd h)).trans h);replace bG:=(bx.block _ zo).trans bG;replace bS:=(bx.block _ zo).trans bS;replace bT:=(bx.block _ zo).trans bT;replace cu:=(bx.block _ zo).trans cu;replace Z:=Jb Z bx;generalize bE.heap.size=tb at *;rw[z2]at bj cG;clear hW bO cH z2 bx cB;have cM:Hid (w.heap.size+3<K/\K+1<tb/\bM.heap.size=tb+1/\y<w.heap.size):=⟨cX,cG,de,cc⟩;clear cX cG de;have dK:=zc 1 bG;have dL:=(bK.out.1.below Z).cells.1;have dx:=Jjb rb y k cO l z bu bl dc dd cP sc (some (Aq g)) 1 cap bM.drew (bK.out.1.below (Jj Z)) bK.out.2.1 (Ja Z bK.out.2.2.1) (by rw[<-bK.out.2.2.2.1];exact Ol7 (Z.block y cc));have dr:=fun X=>Jh4 (Sq g 1 cap) (z:Int) (some (Aq g)) 1 cap rfl X;have dA:y≠w.heap.size:=zo;have ci:=bK.out.2.2.2.2;refine(wpIn_wide (n:=3)).1 (Code.wpIn_mono Jpf.imp ((wpIn_wide (n:=3)).2 (wp_region_held_drew (S:=fun X=>X.cell? (Ar w.heap.size 1)=some (Iq (l:Int))/\X.cell? (Aq rb)=some (Iq (z:Int))) zK ⟨dK,dL⟩ (fun Y=>?_))));refine tkj 0 rfl Y ?_;refine tkj 1 rfl Y ?_;refine tkj 2 rfl Y ?_;refine tkj 4 rfl Y ?_;refine tkj 5 rfl Y ?_;refine tkj 6 rfl Y ?_;refine tkj 7 rfl Y ?_;refine tkj 8 rfl Y ?_;refine tkn ?_;refine tkr 3 rfl fun bY hK=>?_;go_simp;refine dx.mono ?_;rintro e bZ ⟨rfl,bD⟩;replace bD:=Ksw bD;go_simp;refine hK.out _ _ (by rw[bD.out];exact⟨Uc (fun e=>dA (congrArg Addr.block e)) Y.1,Uc (fun e=>ci (congrArg Addr.block e).symm) Y.2⟩) (fun Y=>?_);clear hK bY;refine tkr 9 rfl fun bY hK=>?_;go_simp;refine(dr bZ).mono ?_;rintro e bk ⟨rfl,cA⟩;have bU:Below bZ.heap.size bZ bk:=by rw[cA];go_grown
 have bX:=Ksw cA;clear cA;go_simp;refine hK.out _ _ ⟨Ja bU Y.1,Ja bU Y.2⟩ (fun Y=>?_);clear hK bY;refine wpAnyH_done zK (Jpf.go ?_) _;go_wp2_with fail
 refine(wpIn_wide (n:=3)).1 ?_;have s1:bZ.heap.size=tb+1:=by rw[bD.out,<-cM.out.2.2.1];simp
 rw[s1]at bU |-;have dE:=cM.out;have bQ:∀ k,k<tb+1->k≠y->bk.heap[k]?=bM.heap[k]?:=fun k H cD=>by
  rw[bU.block k H,bD.out,Oa4 _ _ _ _ cD];rfl
 have cC:Ju (·=y) w bk:=by
  rw[bX.out,bD.out];exact Ju.alloc (Ju.alloc (Ju.set (F:=fun x=>x=y) (Ju.of_below (Jj Z)) rfl l _) _) _
 have s2:bk.heap.size=tb+3:=by rw[bX.out,Oa7,Oa7,s1]
 have dq:PrI w y l K tb (K+1) cx cv [] bk:=by
  refine⟨(bQ _ zo zo).trans bS,(bQ _ zo zo).trans bT,(bQ _ zo zo).trans cu,(bQ _ zo zo).trans di,fun _=>bP.move (fun k _ _ _ bh U=>(bQ k (by have:=Jd U;omega) zo).trans U),⟨_,⟨bj.row.of_block (bQ _ zo zo),bj.low,bj.len,fun i hi=>Jl (bj.own i hi) fun g e=>?_,bj.ne,bj.apart⟩,fun c e=>by cases e⟩,cC,?_,zo⟩
  ·match i,hi with
   |0,_=>cases e
  rw[bU.block y zo,bD.out];exact Jol (Z.block y cc)
 have dl:bk.cell? (Aq (tb+1))=some (Sq g 1 cap):=by rw[bX.out,<-s1];simp[go_sem]
 have dj:bk.cell? (Aq (tb+1+1))=some (Iq (z:Int)):=by rw[bX.out,<-s1];simp[go_sem]
 have dp:Qd bk g hs [[⟨1,41,⟨#[]⟩⟩]]:=bf.out.1.kp (Fx:=fun k=>k<w.heap.size/\k≠y) ⟨cC.size,fun k H=>cC.block k H.1 H.2⟩ ⟨⟨bf.out.2.2.1,bf.out.2.1.1⟩,fun j O b o e=>⟨bf.out.2.2.2 j O b o e,bf.out.2.1.2 j O b o e⟩⟩;have cb:ckN 1 z=1:=by unfold ckN;rw[Nat.add_comm,Nat.add_sub_cancel];exact Nat.div_self zo
 apply Ktz rfl zo (gf:=155) (lb:=#[Pq (tb+1),Pq (tb+1+1)]) rfl trivial (enters_of func155 zK rfl)
  (Qcn (Jjx 2 zo (tb+1) (tb+1+1) g cap hs [[⟨1,41,⟨#[]⟩⟩]] 1 z zo dH zo zS zS bk dp (fun j O=>by match j,O with|0,_=>rfl) dl dj (fun k=>k=tb+1\/k=tb+1+1\/(k<w.heap.size/\k≠y)) ⟨.inl rfl,.inr (.inl rfl),.inr (.inr ⟨bf.out.2.2.1,bf.out.2.1.1⟩),fun j O b o e=>.inr (.inr ⟨bf.out.2.2.2 j O b o e,bf.out.2.1.2 j O b o e⟩)⟩ (fun k H=>zo)))
  (fun h k=>h.trans k) ?hKb (Oa5 _ _) (fun _=>rfl) (fun cK W=>PrI w y l K tb (K+1) cx cv cK W) (fun _ _ _=>False) ?hI (fun _ _ _ _ _ h=>h.elim) ?hR dq _ ?assign ?body ?done (fun _ _ _ _ _ _ h=>h.elim)
 case assign=>
  intro l x W bY hK;gi_wp2
  exact hK
 case hKb=>
  intro W l o db hl ho _ _;exact⟨zS,fun k H=>World.putObj_heap_other zo⟩
 case hI=>
  intro s W dg row h bR hr;have H:=CK.of_grown bR fun r e=>(hr r e).2;obtain⟨bz,bi,hs⟩:=h.ct;have:=h.size;exact⟨H.cells _ _ _ _ h.b1,H.cells _ _ _ _ h.b2,H.cells _ _ _ _ h.bw,H.cells _ _ _ _ h.bt,fun e=>(h.rd e).move fun k c t f _ h=>H.cells k c t f h,⟨bz,bi.ck H,hs⟩,Jau h.keep bR fun r e=>by have:=(hr r e).1;omega,(bR.block y zo (fun e=>by have:=(hr y e.symm).1;omega)).trans h.dn,Ob2 h.size bR.size⟩
 case hR=>
  rintro x W dg row ⟨bh,U,bB,bN⟩ bR hr;exact⟨bh,U,bB,bN.ck (CK.of_grown bR fun r e=>(hr r e).2)⟩
 case body=>
  rintro da cK ⟨f,m,gx⟩ W hI ⟨dB,⟨dC,_⟩,dD,cj⟩ _ dw;rw[cb]at dw;obtain rfl:cK=[]:=Od3.1 zo;simp only at dB dC dD cj;obtain⟨rfl,rfl⟩:f=0/\m=1:=zo;have cR:One W (w.heap.size+3) w.heap.size gx 1:=by
   obtain⟨dU,dV,cS,_⟩:=(bf.out.1.vals 0 zS).at (i:=0) zS;obtain⟨bl,dM,hb,_,hv⟩:=(cj.vals 0 zS).at (i:=0) zd;have e:=Jmn zS cS hb;have fd:=bf.out.2.2.2 0 zS _ _ cS;have bi:=cj.row.cell (i:=0) zS;rw[hb]at bi;exact⟨⟨bl,dM,_,bi,hv,zo,zo⟩,zo,hI.keep.size⟩
  have dv:=eOn (w.heap.size+3) w.heap.size gx 1 cx cv 0 W (hI.rd rfl) cR;have cw:W.cell? (Aq K)=some (Pq (w.heap.size+3)):=by simp[World.cell?,hI.bw]
  obtain⟨bz,M,bV⟩:=hI.ct;have ff:=hI.size;have hob:∀ b,(Uq bz 0).ownBlock=some b->tb+3<=b/\b<W.heap.size:=fun b e=>⟨bV b e,(Je (M.own 0 zS) e).2⟩;have ca:∀ (I:World) (g2 cp g o c:Nat),Ju (·=w.heap.size+3) W I->W.heap.size<=g2->I.cell? (Aq g2)=some (Sr g o 1 c)->(g<w.heap.size\/W.heap.size<=g)->VAt I g o ⟨1,42,⟨#[]⟩⟩->Cq 126 #[Sq (K+1) 1 1,Sq g2 1 cp] I fun e w'=>e=.returned (.tuple #[])/\(∃ cn,Jar w' (K+1) (K+1) cn [[⟨1,42,⟨#[]⟩⟩]]/\∀ c,(Uq cn 0).ownBlock=some c->tb+3<=c)/\Below (K+1) I w'/\I.heap.size<=w'.heap.size/\∀ x,x<I.heap.size->x≠K+1->(Uq bz 0).ownBlock≠some x->w'.heap[x]?=I.heap[x]?:=fun I g2 cp g o c H bh U bB bN=>by
   have fi:=H.size;have:=Jm U;simp only at this;refine(Kb4 (K+1) (K+1) 1 bz [[]] g2 cp [(some (Ar g o),c)] [[⟨1,42,⟨#[]⟩⟩]] I ⟨M.row.of_block (H.block _ M.row.lt (by show ¬ K+1=w.heap.size+3;omega)),M.low,M.len,fun i hi=>Jl (M.own i hi) fun b e=>?_,M.ne,M.apart⟩ ⟨this,fun j O=>?_,fun j O=>?_⟩ rfl (fun j O=>?_) zo zS (fun j b O e=>?_) ⟨zo,fun k dh db H e=>?_⟩).mono fun e w' ⟨dN,⟨cn,dO,dP⟩,dQ,dR,dS⟩=>⟨dN,⟨cn,dO,fun c e=>?_⟩,dQ,dR,fun x bh U bB=>dS x bh U fun j O=>?_⟩
   ·match i,hi with
    |0,_=>
     have:=hob b e;exact H.block b this.2 (by show ¬ b=w.heap.size+3;omega)
   ·match j,O with
    |0,_=>exact U
   ·match j,O with
    |0,_=>exact .inr ⟨g,o,rfl,Jm bN.1,fun i v hi=>by
     match i,hi with
     |0,hi=>cases hi;exact bN⟩
   ·match j,O with
    |0,_=>decide
   ·match j,O with
    |0,_=>
     have:=hob b e;refine⟨zo,fun k dh db H e=>?_⟩;match k,H with
     |0,_=>cases e;omega
   ·match k,H with
    |0,_=>cases e;omega
   ·rcases dP 0 c zS e with h|h
    ·exact bV c h
    omega
   match j,O with
   |0,_=>exact bB
  have dy:=Ksw fun b e=>Ja4 (M.own 0 zS) (g:=b) e;have df:=Ksw ca;have bW:=Ksw hI;clear ca hI M bV cj cR;gi_wp2_with (first|(refine⟨trivial,?_⟩;gi_at_call 124;refine(CallsIn.inRound da (callsIn_wide.2 dv)).mono ?_;rintro e I ⟨g2,cp,dm,o,c,rfl,bh,U,bB,bN,bC⟩;have ct:=bC.cell (show W.cell? (Aq tb)=some (Sq (K+1) 1 1) by simp[World.cell?,bW.out.bt]) (by show ¬ tb=w.heap.size+3;omega);have ca:=df.out I g2 cp dm o c bC bh U bB bN)|(refine⟨trivial,?_⟩;gi_at_call 126;refine(CallsIn.inRound da (callsIn_wide.2 ca)).mono ?_;rintro e bL ⟨rfl,ds,bI,fe,cY⟩))
  have fc:=bC.size;have bJ:∀ k,k<tb+3->k≠K+1->k≠w.heap.size+3->bL.heap[k]?=W.heap[k]?:=fun k bh U bB=>by rw[cY k zo U (fun e=>by have:=hob k e;omega),bC.block k zo bB]
  have hh:=bW.out;refine⟨⟨zo,fun k o H ho bi=>?_⟩,⟨zo,fun k H=>bJ k zo zo zo⟩,(bJ _ zo zo zo).trans hh.b1,(bJ _ zo zo zo).trans hh.b2,(bJ _ zo zo zo).trans hh.bw,(bJ _ zo zo zo).trans hh.bt,(fun e=>by cases e),ds,⟨bI.os.trans (bC.os.trans hh.keep.os),bI.tape.trans (bC.tape.trans hh.keep.tape),bI.output.trans (bC.output.trans hh.keep.output),by have:=hh.keep.size;omega,fun k H cD=>(bJ k zo zo zo).trans (hh.keep.block k H cD)⟩,(bJ y zo zo zo).trans hh.dn,zo⟩;rw[cY k (by have:=Jd ho;omega) zo (fun e=>?_),bC.block k (Jd ho) (by show ¬ k=w.heap.size+3;omega)]
  ·exact ho
  obtain⟨dW,h⟩:=dy.out k e;rw[h]at ho;cases ho
  cases bi
 case done=>
  rintro D dT W dZ cZ hI hK;have hy:dT.length=1:=by have:=congrArg List.length cZ;rw[Oa6,Jbp,cb]at this;exact this
  obtain⟨fg,rfl⟩:=List.length_eq_one_iff.1 hy;have c2:W.cell? (Aq (w.heap.size+1))=some Sz :=by simp[World.cell?,hI.b1]
  have dX:=Lib.frozen_of_heap hI.b1 0;have c3:W.cell? (Aq (w.heap.size+1+1))=some .nilIface:=by simp[World.cell?,hI.b2]
  have dY:=Lib.frozen_of_heap hI.b2 0;have c4:W.cell? (Aq tb)=some (Sq (K+1) 1 1):=by simp[World.cell?,hI.bt]
  have bW:=Ksw hI;clear hI cZ hy;go_wp2_with fail
  have cz:=((KeepsOthers.setCell W ⟨w.heap.size+1,0,none⟩ (Sq (K+1) 1 1)).trans (KeepsOthers.setCell _ ⟨w.heap.size+1+1,0,none⟩ .nilIface)).same D _ hK rfl;refine⟨zS,.inl ⟨_,_,rfl,run_takeDeferred cz,?_⟩⟩;have hI:=bW.out;generalize bH:(W.setCell (Aq (w.heap.size+1)) _).setCell _ _=bA at cz |-;have cf:∀ k,k≠w.heap.size+1->k≠w.heap.size+1+1->bA.heap[k]?=W.heap[k]?:=fun k bh U=>by rw[<-bH,Oa4 _ _ _ _ U,Oa4 _ _ _ _ bh]
  have g1:bA.heap[w.heap.size+1]?=_:=bH▸(Oa4 _ _ _ _ zS).trans (Jk hI.b1 0 _);have g2:bA.heap[w.heap.size+1+1]?=_:=bH▸Jk ((Oa4 _ _ _ _ zS).trans hI.b2) 0 _;have fh:bA.heap.size=W.heap.size:=by rw[<-bH];simp
  have fj:=hI.keep.size;have cE:∀ k,k≠D->(bA.putObj D (.deferred none)).heap[k]?=bA.heap[k]?:=fun k h=>World.putObj_heap_other h;have dI:=(cE (w.heap.size+1) zo).trans g1;have dJ:=(cE (w.heap.size+1+1) zo).trans g2;refine⟨.tuple #[Sq (K+1) 1 1,.nilIface],by simp[results,Tryz.f93,go_sem,World.cell?,dI,dJ],?_⟩;obtain⟨bz,M,bV⟩:=hI.ct;have dt:Ju (·=y) w bA:=⟨by rw[<-bH];exact hI.keep.os,by rw[<-bH];exact hI.keep.tape,by rw[<-bH];exact hI.keep.output,zo,fun k H du=>(cf k zo zo).trans (hI.keep.block k H du)⟩;have cb:=CK.of_grown (grownBy_putObj' bA D (.deferred none)) fun r e=>by cases e;exact⟨_,cz,rfl⟩
  exact⟨Jau dt (grownBy_putObj' _ D (.deferred none)) (fun r e=>by cases e;omega),K+1,bz,rfl,zo,Jar.ck ⟨M.row.of_block (cf _ zo zo),M.low,M.len,fun i hi=>Jl (M.own i hi) fun b e=>by
   match i,hi with
   |0,_=>
    have:=bV b e;exact cf b zo zo,M.ne,M.apart⟩ cb,(cE y zo).trans ((cf y zo zo).trans hI.dn)⟩
attribute [local go_sem] Oc0
theorem Qdd tb bh Y j U O p w(hp:Jkp[j]?=some p)(H:Jg6 w tb (.slice U 1 bh) (.slice O j Y))(hC:Kc w U [1])(I:Kc w O (List.replicate j 1)):Cq 178 #[Pq tb,p.val] w (TyP w 1):=by
 have bB:∀ (f:Nat) (a:Addr) (X:World),(store a (.func (.func f) #[Pq tb] #[])).run prog X=stored prog X a (.func (.func f) #[Pq tb] #[]) .plain:=fun f a X=>run_store _ _ _ _ _ rfl;have M:∃ f k:Nat,p.op=(k:Int)/\k<3/\f=(if k=0 then 260 else if k=1 then 261 else 262)/\(∀ (args:Array Value) (W:World),(callFunc f args).run prog W=.ok (.enter f args) W)/\∀ X,Bq w X->Cq f #[Pq tb,p.val] X (TyP X 1):=by
  match j,hp,H,I with
  |0,hp,H,I=>cases hp;exact⟨_,0,rfl,zo,rfl,fun _ _=>zK,fun X K=>Jtu tb _ O Y [] _ U bh 0 [1] rfl rfl zS X ((K.block _ (Jd H)).trans H) (hC.below K)⟩
  |1,hp,H,I=>cases hp;exact⟨_,1,rfl,zo,rfl,fun _ _=>zK,fun X K=>Jpx tb _ X zd zd (by unfold okV;simp[okB,okK])⟩
  |2,hp,H,I=>cases hp;exact⟨_,2,rfl,zo,rfl,fun _ _=>zK,fun X K=>Jtk tb _ O Y [1,1] _ 0 rfl zS 1 rfl zS rfl rfl X ((K.block _ (Jd H)).trans H) (I.below K)⟩
 obtain⟨f,k,ho,bx,Z,bA,M⟩:=M;rw[Pt.val,ho]at M |-;clear hp H hC I ho;replace M:=Ksw M;have bC:(0:Int)<=(k:Int):=zo;have bD:(k:Int)<12:=zo;have bE:¬ (k:Int)<0:=zo;replace Z:=Ksw Z;go_enter func178,ntmps178
 go_wp2;generalize bi:World.alloc _ _=A;obtain⟨bG,bk,br,hb⟩:=Qdo w _ _ _ A bi;have ck:A.cell? (Ar (w.heap.size+1+1) k)=some (.func (.func f) #[Pq tb] #[]):=by
  simp only[World.cell?,br];rw[Z.out];match k,bx with
  |0,_=>rfl
  |1,_=>rfl
  |2,_=>rfl
 clear bi;refine wp_region_held_drew (S:=fun X=>X.cell? (Ar (w.heap.size+1+1) k)=some (.func (.func f) #[Pq tb] #[])/\X.cell? (Aq w.heap.size)=some (Iq (k:Int))/\X.cell? (Ar w.heap.size 1)=some (Iq p.l)/\X.cell? (Ar w.heap.size 2)=some (Iq p.r)/\X.cell? (Ar w.heap.size 3)=some (Iq p.c)/\X.cell? (Ar w.heap.size 4)=some (Iq p.v.k)/\X.cell? (Ar w.heap.size 5)=some (Iq p.v.n)/\X.cell? (Ar w.heap.size 6)=some (.string p.v.s)) zK ⟨ck,by refine⟨?_,?_,?_,?_,?_,?_,?_⟩<;>(unfold World.cell?;rw[heap_drew,bk];rfl)⟩ (fun y=>?_);refine tkj 0 rfl y ?_;refine tkj 1 rfl y ?_;refine tkj 2 rfl y ?_;refine tkj 3 rfl y ?_;refine tkj 4 rfl y ?_;refine tkn ?_;refine tkr 5 rfl fun bj hK=>?_;go_simp;refine(M.out A.drew (Jj hb)).mono ?_;rintro e bz ⟨rfl,bf⟩;go_simp;refine hK.out _ _ (by simpa only[World.cell?,bf.block w.heap.size (by rw[heap_drew];omega),bf.block (w.heap.size+1+1) (by rw[heap_drew];omega)] using y) (fun y=>?_);clear hK bj;refine tkj 6 rfl y ?_;refine tkj 7 rfl y ?_;refine tkj 8 rfl y ?_;refine tkj 9 rfl y ?_;refine tkn ?_;refine wpAnyH_done zK ?_ _;go_wp2;go_returns
 exact⟨rfl,Jb (Jj hb) bf⟩
theorem Qdc bC bD pc M I w(bx:∀ k p,Jkp[k]?=some p->Qi w bC (bD+k*7) p)(hC:Kc w I [1]):Cq 146 #[Sr bC bD 3 pc,.slice I 1 M] w fun e w'=>e=.returned (.tuple #[Iq 1,.nilIface])/\Bq w w':=by
 have bj:=Ksw (And.intro bx hC);clear bx hC;go_enter func146,ntmps146
 go_upto_region 4 with fail
 generalize Z:w.alloc _=A;have Y:Jg6 A w.heap.size (.slice I 1 M) Sz :=Z▸heap_alloc_new w _;have hb:Bq w A:=Z▸Jc (Oa5 _ _) _;clear Z;replace Y:=Ksw Y;go_wp2;go_loopw [28] (fun i wr=>∃ (j:Nat) (ev:Value),j<=3/\i=Iq (j:Int)/\Hid (Jg6 wr w.heap.size (.slice I 1 M) ev/\Jo wr (w.heap.size+1) 3 ev ((List.replicate j 1).map iv))/\Bq w wr) (fun i _=>3-(intOf i).toNat)
 case atStart=>exact⟨0,_,zo,rfl,⟨Y.out,Jo.nil _ _ _⟩,hb⟩
 case round=>
  obtain⟨j,ev,bO,rfl,H,hb⟩:=hrel;obtain⟨bH,bk,bz,O⟩:=H.out.2.cells;rw[Oa6,Od6]at bz;subst bz;have bh:=Jd H.out.1;by_cases bI:j<3
  ·obtain⟨p,hp⟩:∃ p,Jkp[j]?=some p:=⟨_,Oa3 bI⟩;obtain⟨bR,bS,bT,bU,bV,bW,bX⟩:=(bj.out.1 j p hp).below hb;have bJ:=fun X (bf:Bq wr X)=>Qdd w.heap.size M bk j I bH p X hp ((bf.block _ bh).trans H.out.1) (bj.out.2.below (Jb hb bf)) (Uh.below O bf);have j1:(0:Int)<=(j:Int):=zo;have j2:(j:Int)<3:=zo;clear hp O;go_wp2_with (first|(go_at_call 178;refine(bJ _ (by go_grown)).mono ?_;rintro e U ⟨rfl,bL⟩;have K:=Jb (show Bq wr _ by go_grown) bL;have c1:=(show Jg6 U w.heap.size _ _ from (K.block _ bh).trans H.out.1).cells.2;have z1:=K.size)|(at_builtin;go_must (refine Ks zR _ _ 22 3 _ 8 Zw zR zd zK zR (w.heap.size+1) _ _ zR (Jo.alloc (H.out.2.below K) _) ⟨U.heap.size,0,none⟩ 1 [iv 1] zR (by exact Ua U _ _) (by intro u bB;simp at bB;subst bB;rfl) zt zt ?_);intro sv bG bi bE bQ;have ht:=(show Jg6 bG w.heap.size _ _ from (bE.block _ zt (fun e=>by have:=Je H.out.2 e.symm;omega)).trans ((Oa9 _ _ _ zo).trans ((K.block _ bh).trans H.out.1)));have c2:=ht.cells.2;have bN:=Lib.frozen_of_heap ht 1;obtain⟨bM,c5,bA,_⟩:=bi.cells;rw[Oa8,Oa6,Od6]at bA;subst bA;have ht:=Ksw ht))
   refine⟨⟨j+1,_,zo,zn,⟨Jk ht.out 1 _,?_⟩,?_⟩,by simp[intOf];omega⟩
   ·rw[List.replicate_succ',Ob8];exact Jl bi fun g e=>Oa4 _ _ _ _ (by have:=Je bi e;simp;omega)
   exact(Jy (Jc (Jb hb K) _) bE (fun k e=>by have:=Je H.out.2 e;omega)).setCell (Oa2 _) _
  obtain rfl:j=3:=zo;obtain⟨eb,br,rfl,_,bK⟩:=Kc.at (ns:=[1,1,1]) O (i:=2) zS;have c1:=H.out.1.cells.2;have bP:IntKind.i64.wrap 2=2:=rfl;clear O;go_upto_region 12 with fail
  refine wp_region_held_drew (S:=fun X=>X.cell? (Ar w.heap.size 1)=some (Sr eb br 3 bk)/\X.cell? (Ar eb (br+2))=some (Iq 1)) zK ⟨Jh c1,Jh bK⟩ (fun y=>?_);refine tkj 0 rfl y ?_;refine tkj 1 rfl y ?_;refine tkj 2 rfl y ?_;refine tkj 3 rfl y ?_;refine tkj 4 rfl y ?_;refine tkj 5 rfl y ?_;refine tkj 6 rfl y ?_;refine tkj 7 rfl y ?_;refine tkj 8 rfl y ?_;refine tkj 9 rfl y ?_;refine tkj 10 rfl y ?_;refine tkj 11 rfl y ?_;refine tkj 12 rfl y ?_;refine tkj 13 rfl y ?_;refine tkn ?_;refine wpAnyH_done zK ?_ _;go_wp2;go_returns
  exact⟨rfl,Jj hb⟩
attribute [local go_sem] Oc0
theorem Qds (L I:Nat)bh ev(ks:List Kn)(nd:Nd)(i eb bi bL:Nat)w(h:Jed L I bh ev ks w)(hl:nd.l=(i:Int))(hi:i<ks.length)(bE:ks[i].2=false)(hs:ks[i].1.2.2=[1])(br:nd.xs=(some (Ar eb bi),1,bL))(bB:∀ X,w.grownBy X ev.ownBlock->Jaz X eb bi [Jkp]):
  Cq 116 #[Pq I,nd.val] w (Jq3 L I bh ev (ks.set i (ks[i].1,true)) [1] w):=by
 have Z:Bq w (Jam w nd):=Jc (Oa5 _ _) _;have hq:=Jh0 w nd;have bk:=Jr1 L I bh ev ks i (Jam w nd) (h.below Z) hi bE;have hob:ev.ownBlock≠some w.heap.size:=fun e=>by have:=(Je h.own e).2;omega
 have bz:Hid (∀ X,Jed L I bh ev (ks.set i (ks[i].1,true)) X->(Jam w nd).grownBy X ev.ownBlock->∃ y H pc,X.cell? (Ar eb bi)=some (Sr y H 3 pc)/\Cq 146 #[Sr y H 3 pc,Jbl ks[i].1] X fun bM w'=>bM=.returned (.tuple #[Iq 1,.nilIface])/\Bq X w'):=fun X bN bO=>by
  obtain⟨y,H,pc,M,bx⟩:=bB X (Ut (Qq Z) bO) 0 Jkp rfl;have K:=bN.ints (ks[i].1,true) (List.mem_set hi _);simp only[hs]at K;rw[Jbl,hs];exact⟨y,H,pc,M,Qdc y H pc _ _ X bx K⟩
 have O:Hid (Zm (Jam w nd) w.heap.size 0 nd/\ev.ownBlock≠some w.heap.size/\Bq w (Jam w nd)):=⟨hq,hob,Z⟩;have bI:=hq.2.1;rw[hl,Od0]at bI;replace br:=Ksw br;have bU:=run_neq_nil_nil (P:=prog);obtain⟨s,bG⟩:∃ s,s=ks[i].1:=⟨_,rfl⟩;rw[<-bG]at bk bz |-;clear bG hl hq hob Z h bE bB hs;go_enter func116,ntmps116
 go_upto_region 2 with(go_at_call 145;refine bk.mono ?_;rintro bK Y ⟨rfl,bj,bf,bV⟩)
 have bJ:=(Jmi O.out.1 bf O.out.2.1).2.2.2.2.1;rw[br.out,Od0]at bJ;simp only at bJ;obtain⟨y,H,pc,M,bR⟩:=bz.out Y bj bf;have U:=Ksw (And.intro bj bf);clear bj bf bk bI;go_wp2;refine wp_loop_rounds 2 ?_;rw[rounds_succ];go_wp2_with (first|(go_at_call 146;refine bR.mono ?_;rintro bK bA ⟨rfl,bC⟩)|(at_builtin;go_must (refine Ks zR _ _ 22 3 _ 8 Zw zR zd zK zR Y.heap.size _ _ zR (Jo.nil _ _ _) ⟨bA.heap.size,0,none⟩ 1 [iv 1] zR (by exact Ua bA _ _) (by intro u bH;simp at bH;subst bH;rfl) zS (by simp;have:=bC.size;omega) ?_);intro sv' w4 M bx bX))
 rw[rounds_succ];go_wp2;have bD:Bq Y w4:=Jy (sv:=Sz) (Jc bC _) bx (fun k bQ=>by cases bQ);obtain⟨a,cp,e,K⟩:=M.cells;obtain⟨g,o,rfl,bP,_⟩:=Kc.at (ns:=[1]) K (i:=0) zS;subst e;have bT:=Je M (g:=g) rfl;go_returns
 refine⟨some (Ar g o),cp,rfl,U.out.1.below bD,Ut (Ut (Qq O.out.2.2) U.out.2) (Qq bD),K,fun bS bW e=>?_⟩;cases e
 exact⟨fun e=>by have:=(Je U.out.1.own e).2;omega,by have:=Jd U.out.1.ck;omega,bP,.inl (by have:=O.out.2.2.size;omega)⟩
end
open Go.RowKit Go.Shelf
theorem Qdj {tab:ByteArray->Cs⊕Nat}(y:tab Yh=.inl [[Za]]):Jkq tab ⟨2,0,⟨#[]⟩,[Jkp],[],0,0⟩ (stN tab Jcq 1)=[[⟨1,42,⟨#[]⟩⟩]]:=by
 unfold Jkq;rw[if_neg zd,if_neg zd,if_neg zd,if_neg zd,if_neg zd,if_neg zd,(Kc3 y).2];rfl
theorem Qdp {tys}{tab:ByteArray->Cs⊕Nat}(K:tab Yh=.inl [[Za]]):Ktc tys [[1],[1]] Jcq tab:=fun n U h0 {j sch} y ok _ _=>by
 match j,y with
 |0,y=>cases y;exact absurd rfl h0
 |1,y=>
  cases y
  obtain⟨sc,M,O,_⟩:=ok.proj rfl;cases M
  have I:Jkq tab ⟨2,0,⟨#[]⟩,[Jkp],[],0,0⟩ (stN tab Jcq 1)=[[⟨1,42,⟨#[]⟩⟩]]:=Qdj K;rw[O,I];refine⟨rfl,zd,zd,fun j y=>?_,zd,fun i hi=>?_⟩
  ·match j,y with
   |0,_=>rfl
  match i,hi with
  |0,_=>exact⟨rfl,fun k H=>by
    match k,H with
    |0,_=>show okV 1 _;unfold okV;simp[okB,okK,Ji],fun v hv=>by
    obtain rfl:=Oc6.1 hv;show Jg 42;unfold Jg;decide⟩
theorem Qdl {tys}(h:Jdk tys [[1],[1]] Jcq){nd w}(hi:Jnm w ⟨2,0,⟨#[]⟩,[Jkp],[],0,0⟩ nd)y:Jvz w y [[1],[1]] (flN Jcq) nd 1:=by
 refine Km2 h rfl hi zd zd y [1] rfl fun W ev ks hb M hC U O Y=>?_;obtain⟨eb,I,H,Z,bh,bf⟩:=hi.es (.inr rfl);rw[show Jm5 nd.op=116 by rw[hi.op];rfl];exact Qds _ _ _ ev ks nd 0 eb I H W hC hi.l U O (Oj6 Y).symm Z fun X K=>bf.under (Kaf hb M K)
theorem Qdt {tys}{tab:ByteArray->Cs⊕Nat}(h:Jdk tys [[1],[1]] Jcq)(bW:Ktc tys [[1],[1]] Jcq tab)(ht:∀ n∈Jcq,n.op=0->∀ cs,tab n.tn=.inl cs->Zt (tys n.tn) cs)(bC:tab Yh=.inl [[Za]]){nd X}(hi:Jnm X ⟨2,0,⟨#[]⟩,[Jkp],[],0,0⟩ nd)(s z:Nat)(bu bl:Int)O K sc Y bD Z pg(ca:1<=z)(cE:z<=1000):
  Ju1 X (X.heap.size+1) X.heap.size z bu bl O (Pq s) K sc (PSp tab Jcq) (ERp tab Jcq Y bD Z pg) nd 1:=by
 refine Km1 h bW ht rfl hi zd zd s z bu bl O K sc Y bD Z pg fun W bI bH hb hR cx g bB ci cF bQ bi cC cy=>?_;obtain⟨eb,bM,bL,bY,cD,bZ⟩:=hi.es (.inr rfl);rw[show Jej nd.op=93 by rw[hi.op];rfl];obtain⟨cA,bx⟩:=Kc3 bC;rw[bx]at bi;subst bi;obtain⟨cb,cc,pc,bS,hp⟩:=(bZ.under fun k M=>hb.block k M) 0 Jkp rfl;obtain⟨U,bG,bj,bV,cu,cv,bP,bU,I,bX⟩:=hR.take bQ;have bA:=hR.run;rw[bj]at bA;have hob:bI.ownBlock=some U:=by rw[bj];rfl
 have:=Qbb X.heap.size U bH.length bG 0 z (Iq bu) (Iq bl) O (Pq s) K sc nd.op nd.r nd.tn (.slice nd.ky.1 nd.ky.2.1 nd.ky.2.2) nd.kk eb bM bL cb cc pc g (Kut bB 1) bB W bA bV bP bU zo bS hp ca zo I.1 ⟨fun e=>I.2.1.2.1 (hob.trans (congrArg some e.symm)),fun j H b o y bK=>(I.2.2 j H b o y).2.1 (hob.trans (congrArg some bK.symm))⟩ ⟨I.2.1.2.2,fun j H b o y=>(I.2.2 j H b o y).2.2⟩;rw[Qdj bC,Nd.val,hi.l,bY];refine this.mono fun cn bE hp=>?_;obtain⟨M,rg,cf,rfl,cz,bh,bR⟩:=hp;have bk:=Jgr M;obtain⟨bf,bz⟩:=Jo6 bh;have cB:=Jd hR.run;refine⟨by rw[hob];exact bk,.inl ⟨rg,cf.map slH,?_,bX bE bk bR,⟨bf,⟨zo,(by rw[hob];intro e;cases e;omega),bf.row.lt⟩,fun j H b o y=>?_⟩,⟨(fun bJ=>by cases bJ),fun _ i br cj bT=>?_,(fun bO=>by cases bO),(fun bN=>by cases bN)⟩,Kxl.new ⟨zo,fun j H b o y=>by have:=bz j H b o y;omega⟩⟩⟩
 ·simp only[dnV];rw[Kuk (by rw[Oa6,bh.len];exact Oa2 _)];rfl
 ·have hb:=bz j H b o y;exact⟨zo,(by rw[hob];intro e;cases e;omega),hb.2⟩
 rw[bx]at br |-;obtain rfl:=Oc6.1 bT;match i,br with
 |0,_=>exact⟨_,Khj⟩
