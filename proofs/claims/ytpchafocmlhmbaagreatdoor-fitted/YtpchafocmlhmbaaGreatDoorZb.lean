/- Plans with a Join that are right. -/
import Derived.Test.YtpchafocmlhmbaaGreatDoorYf
import Derived.Test.YtpchafocmlhmbaaGreatDoorHf
import Derived.Test.YtpchafocmlhmbaaGreatDoorJq
set_option maxHeartbeats 4000000
set_option maxRecDepth 100000
namespace Go.Proofs.YtpchafocmlhmbaaGreatDoor
section
open Go.RowKit Go.Shelf Go.Maps Tryz
attribute [local go_sem] Oc0
structure Kyi (l r:List Int) (k:Krv):Prop where
 c:k.c<l.length
 o:0≤k.o∧k.o.toNat<r.length
 t:l.getD k.c 0=r.getD k.o.toNat 0
theorem Kvk (kb ko kc:Nat)(gk:List Krv)(a b:Option Addr)(R U:Nat)(l r:List Int)(w:World)(ba:Klj w kb ko gk)(hl:Kc w a l)(hr:Kc w b r)(bK:gk.length≤4)(bj:∀ k∈gk,Kyi l r k) :
  Calls prog 132 #[.slice (some ⟨kb,ko,none⟩) gk.length kc,.slice a l.length R,.slice b r.length U] w fun e w'=>e=.returned (.bool true)∧Below w.heap.size w w':=by
 have bn:Hid (∀ y j (H:j<gk.length),Below w.heap.size w y→(y.cell? ⟨kb,ko+j*4,none⟩=some (.int .i64 (gk[j].c:Nat))∧y.cell? ⟨kb,ko+j*4+1,none⟩=some (.int .i64 gk[j].o)∧y.cell? ⟨kb,ko+j*4+2,none⟩=some (.bool gk[j].d)∧y.cell? ⟨kb,ko+j*4+3,none⟩=some (.int .i64 (gk[j].f:Nat)))∧∃ t,∀ D,Below y.heap.size y D→Calls prog 135 #[.slice a l.length R,.int .i64 (gk[j].c:Nat)] D (fun e w'=>e=.returned (.tuple #[.int .i64 t,.bool true])∧w'=D)∧Calls prog 135 #[.slice b r.length U,.int .i64 gk[j].o] D fun e w'=>e=.returned (.tuple #[.int .i64 t,.bool true])∧w'=D):=fun y j H E=>by
  obtain⟨bG,bH,bI,bJ⟩:=ba j gk[j] (Oa3 H);have K:=bj gk[j] (Ob3 H);refine⟨⟨Ja E bG,Ja E bH,Ja E bI,Ja E bJ⟩,l.getD gk[j].c 0,fun D bc=>⟨Jef a R l gk[j].c D K.c (hl.below (Jb E bc)),?_⟩⟩;have:=Jef b U r gk[j].o.toNat D K.o.2 (hr.below (Jb E bc));rw[←K.t,Int.toNat_of_nonneg K.o.1]at this;exact this
 clear ba hl hr bj;go_enter func132,ntmps132
 go_upto_region 2 with fail
 go_loopw [15] (fun i wr=>∃ j:Nat,j≤gk.length∧i=.int .i64 (j:Int)∧Below w.heap.size w wr) (fun i _=>gk.length-(intOf i).toNat)
 case atStart=>exact⟨0,Ob7 _,rfl,Oa5 _ _⟩
 case round=>
  obtain⟨j,H,rfl,X⟩:=hrel;have Z:Hid (Below w.heap.size w wr):=X;by_cases bi:j<gk.length
  ·obtain⟨⟨bB,bC,bD,bE⟩,t,Y⟩:=bn.out wr j bi X;obtain⟨ky,bh⟩:∃ ky,ky=gk[j]:=⟨_,rfl⟩;rw[←bh]at bB bC bD bE Y;have O:Hid (j<gk.length):=bi;have bf:Below wr.heap.size wr (wr.alloc (.cells #[.int .i64 (ky.c:Nat),.int .i64 ky.o,.bool ky.d,.int .i64 (ky.f:Nat)] 54)):=Jc (Oa5 _ _) _;obtain⟨bz,bA⟩:=Y _ bf;clear bh X Y;go_upto_region 5 with(go_at_call 135;refine bz.mono ?_;rintro bx br ⟨rfl,rfl⟩)
   go_wp2_with (go_at_call 135;refine bA.mono ?_;rintro bx br ⟨rfl,rfl⟩)
   go_roundw
   case rel=>exact⟨j+1,O.out,by have:=O.out;go_num,Jb Z.out bf⟩
   case measure=>have:=O.out;simp[intOf];omega
  obtain rfl:j=gk.length:=by omega
  go_wp2;go_ret
  exact⟨rfl,Z.out⟩
theorem Kv1 (b1 D c1 b2 E c2:Nat)(l r:List Int)(w:World)(hl:Kc w (some ⟨b1,D,none⟩) l)(hr:Kc w (some ⟨b2,E,none⟩) r)(ba:1≤l.length)(bz:l.length+r.length≤12) :
  Calls prog 133 #[.slice (some ⟨b1,D,none⟩) l.length c1,.slice (some ⟨b2,E,none⟩) r.length c2] w fun e w'=>Below w.heap.size w w'∧∃ g o c,e=.returned (.tuple #[.slice (some ⟨g,o,none⟩) (l++r).length c,.nilIface])∧w.heap.size≤g∧g<w'.heap.size∧Kc w' (some ⟨g,o,none⟩) (l++r):=by
 have H:Below w.heap.size w (w.alloc (.cells #[.slice (some ⟨b1,D,none⟩) l.length c1,.slice (some ⟨b2,E,none⟩) r.length c2] 22)):=Jc (Oa5 _ _) _;have U:=heap_alloc_new w (.cells #[.slice (some ⟨b1,D,none⟩) l.length c1,.slice (some ⟨b2,E,none⟩) r.length c2] 22);have bB:=Oa7 w (.cells #[.slice (some ⟨b1,D,none⟩) l.length c1,.slice (some ⟨b2,E,none⟩) r.length c2] 22);have O:∀ {b o:Nat} {xs:List Int} {K:World},Kc K (some ⟨b,o,none⟩) xs→∀ j u,(xs.map iv)[j]?=some u→K.cell? ⟨b,o+j,none⟩=some u:=fun {b o xs K} h j u y=>by
  have X:j<xs.length:=by have:=(Ob9.1 y).1;rwa [Oa6]at this
  obtain⟨bx,bC,e,_,bh⟩:=h.at X;cases e
  rw[Ob1,Oa3 X]at y;rw[bh];exact y
 have bi:=Kvj w.heap.size c1 c2 2 b1 D b2 E (l.map iv) (r.map iv) (w.alloc (.cells #[.slice (some ⟨b1,D,none⟩) l.length c1,.slice (some ⟨b2,E,none⟩) r.length c2] 22)) (by rw[Oa6];simp only[World.cell?,U];rfl) (by rw[Oa6];simp only[World.cell?,U];rfl) (O (hl.below H)) (O (hr.below H)) (fun u y=>by rcases Od2.1 y with y|y<;>(obtain⟨i,_,rfl⟩:=Of0.1 y;rfl)) (by rw[Oa6];exact ba) (by rw[Oa6];omega) (by rw[Oa6];omega);have j1:IntKind.i64.wrap ((l.length:Int)+(r.length:Int))=(l.length:Int)+(r.length:Int):=by rw[Od4];omega
 have j2:¬ ((l.length:Int)+(r.length:Int)>12):=by omega
 have Z:Hid (Below w.heap.size w (w.alloc (.cells #[.slice (some ⟨b1,D,none⟩) l.length c1,.slice (some ⟨b2,E,none⟩) r.length c2] 22))):=H;clear H U hl hr O;go_enter func133,ntmps133
 go_wp2_with (go_at_call 172;refine bi.mono ?_;rintro e w' ⟨bc,sv,rfl,R⟩)
 have bf:=Jb Z.out bc;rw[←Ob8]at R;obtain⟨bD,br,rfl,Y⟩:=R.cells;have bn:0<(l++r).length:=by rw[Oa8];omega
 obtain⟨g,o,rfl,bj,_⟩:=Kc.at (ns:=l++r) Y (i:=0) bn;have bA:=Je R (g:=g) rfl;rw[Oa6];go_ret2
 exact⟨bf,g,o,br,rfl,by omega,bj,Y⟩
theorem Ku9 (L y:Nat)(E ev:Value)(ks:List Kn)(nd:Nd)(i r:Nat)(w:World)(h:Jed L y E ev ks w)(hl:nd.l=(i:Int))(hr:nd.r=(r:Int))(hi:i<ks.length)(bc:r<ks.length)(bE:i≠r)(hn:ks[i].2=false)(bf:ks[r].2=false) :
  Calls prog 130 #[.pointer (some ⟨y,0,none⟩),nd.val] w fun e D=>e=.returned (.tuple #[Jbl ks[i].1,Jbl ks[r].1,.nilIface])∧Jed L y E ev ((ks.set i (ks[i].1,true)).set r (ks[r].1,true)) D∧w.grownBy D ev.ownBlock:=by
 have O:Below w.heap.size w (Jam w nd):=Jc (Oa5 _ _) _;have X:=Jh0 w nd;have Z:=h.below O;have Y:=Jr1 L y E ev ks i (Jam w nd) Z hi hn;have bh:ev.ownBlock≠some w.heap.size:=fun e=>by have:=(Je h.own e).2;omega
 have U:(ks.set i (ks[i].1,true))[r]'(by rw[Of8];exact bc)=ks[r]:=List.getElem_set_ne bE _;have H:Hid (∀ W,Jed L y E ev (ks.set i (ks[i].1,true)) W→Calls prog 128 #[.pointer (some ⟨y,0,none⟩),.int .i64 (r:Int)] W fun e D=>e=.returned (.tuple #[Jbl ks[r].1,.nilIface])∧Jed L y E ev ((ks.set i (ks[i].1,true)).set r (ks[r].1,true)) D∧W.grownBy D ev.ownBlock∧D.heap.size=W.heap.size):=fun W bC=>by
  have:=Jr1 L y E ev (ks.set i (ks[i].1,true)) r W bC (by rw[Of8];exact bc) (by rw[U];exact bf);rw[U]at this;exact this
 have K:Hid (Zm (Jam w nd) w.heap.size 0 nd∧ev.ownBlock≠some w.heap.size∧Below w.heap.size w (Jam w nd)):=⟨X,bh,O⟩;have bx:Hid (nd.r=(r:Int)):=hr;have bn:=X.2.1;rw[hl,Od0]at bn;have bJ:=run_neq_nil_nil (P:=prog);obtain⟨s,hs⟩:∃ s,s=ks[i].1:=⟨_,rfl⟩;obtain⟨t,bj⟩:∃ t,t=ks[r].1:=⟨_,rfl⟩;rw[←hs]at Y H ⊢;rw[←bj]at H ⊢;clear hs bj hl hr X bh O Z h hn bf U;go_enter func130,ntmps130
 go_upto_region 4 with(go_at_call 128;refine Y.mono ?_;rintro bA bz ⟨rfl,ba,R,bK⟩)
 have bi:=Jmi K.out.1 R K.out.2.1;have bH:=bi.2.2.1;rw[bx.out,Od0]at bH;have bG:=H.out bz ba;have br:Hid _:=R;clear bi ba R Y bn H;go_wp2_with (go_at_call 128;refine bG.mono ?_;rintro bA bI ⟨rfl,bB,bD,bL⟩)
 exact bodyPost_ret (v:=.tuple #[Jbl s,Jbl t,.nilIface]) (by simp[results,results130,go_sem]) rfl ⟨rfl,bB,Ut (Ut (Qq K.out.2.2) br.out) bD⟩
theorem Kxu (L E:Nat)(ba ev:Value)(ks:List Kn)(nd:Nd)(i r:Nat)(gk:List Krv)(kb ko kc k:Nat)(w:World)(h:Jed L E ba ev ks w)(hl:nd.l=(i:Int))(hr:nd.r=(r:Int))(hi:i<ks.length)(bU:r<ks.length)(bY:i≠r)(hn:ks[i].2=false)(bZ:ks[r].2=false)(bW:nd.ky=(some ⟨kb,ko,none⟩,gk.length,kc))(bV:nd.kk=(k:Int))(cO:k<4)(cE:1≤gk.length)(bX:gk.length≤4)
  (bO:∀ y,w.grownBy y ev.ownBlock→Klj y kb ko gk) (bn:∀ cI∈gk,Kyi ks[i].1.2.2 ks[r].1.2.2 cI) (ch:k<2→ks[i].1.2.2.length+ks[r].1.2.2.length≤12) :
  Calls prog 98 #[.pointer (some ⟨E,0,none⟩),nd.val] w (Jq3 L E ba ev ((ks.set i (ks[i].1,true)).set r (ks[r].1,true)) (if k<2 then ks[i].1.2.2++ks[r].1.2.2 else ks[i].1.2.2) w):=by
 have bh:Below w.heap.size w (Jam w nd):=Jc (Oa5 _ _) _;have cc:=Jh0 w nd;have bC:=h.below bh;have bj:=Ku9 L E ba ev ks nd i r (Jam w nd) bC hl hr hi bU bY hn bZ;have ca:ev.ownBlock≠some w.heap.size:=fun e=>by have:=(Je h.own e).2;omega
 have bi:(ks[r].1,true)∈(ks.set i (ks[i].1,true)).set r (ks[r].1,true):=List.mem_set (by rw[Of8];exact bU) _;have Z:(ks[i].1,true)∈(ks.set i (ks[i].1,true)).set r (ks[r].1,true):=Ok2.2 ⟨i,by rw[Op2,if_neg (Oc5 bY),Op2,if_pos rfl];simp[hi]⟩;have bG:∀ g o,ks[i].1.1=some ⟨g,o,none⟩→ev.ownBlock≠some g∧g≠E∧g<(Jam w nd).heap.size:=fun g o e=>bC.off ks[i] (Ob3 hi) g o e;have bL:=Ob3 (show 0<gk.length by omega);have bH:0<ks[i].1.2.2.length:=by have:=(bn _ bL).c;omega
 have cb:0<ks[r].1.2.2.length:=by have:=(bn _ bL).o;omega
 have bf:Hid (∀ y,Jed L E ba ev ((ks.set i (ks[i].1,true)).set r (ks[r].1,true)) y→(Jam w nd).grownBy y ev.ownBlock→Calls prog 132 #[.slice (some ⟨kb,ko,none⟩) gk.length kc,Jbl ks[i].1,Jbl ks[r].1] y (fun e w'=>e=.returned (.bool true)∧Below y.heap.size y w')∧(k<2→∀ K,Below y.heap.size y K→Calls prog 133 #[Jbl ks[i].1,Jbl ks[r].1] K fun e w'=>Below K.heap.size K w'∧∃ g o c,e=.returned (.tuple #[.slice (some ⟨g,o,none⟩) (ks[i].1.2.2++ks[r].1.2.2).length c,.nilIface])∧K.heap.size≤g∧g<w'.heap.size∧Kc w' (some ⟨g,o,none⟩) (ks[i].1.2.2++ks[r].1.2.2))):=fun y bP cD=>by
  have ci:=bP.ints _ Z;have cj:=bP.ints _ bi;refine⟨Kvk kb ko kc gk ks[i].1.1 ks[r].1.1 ks[i].1.2.1 ks[r].1.2.1 ks[i].1.2.2 ks[r].1.2.2 y (bO y (Ut (Qq bh) cD)) ci cj bX bn,fun Y K bQ=>?_⟩;have bJ:=ci.below bQ;have bK:=cj.below bQ;obtain⟨b1,cG,bA,_,_⟩:=Kc.at (ns:=ks[i].1.2.2) bJ bH;obtain⟨b2,cH,bB,_,_⟩:=Kc.at (ns:=ks[r].1.2.2) bK cb;simp only at bA bB;unfold Jbl;rw[bA,bB];simp only[bA]at bJ;simp only[bB]at bK;exact Kv1 b1 cG _ b2 cH _ _ _ K bJ bK bH (ch Y)
 have R:Hid (Zm (Jam w nd) w.heap.size 0 nd∧ev.ownBlock≠some w.heap.size∧Below w.heap.size w (Jam w nd)):=⟨cc,ca,bh⟩;have bN:Hid (nd.ky=(some ⟨kb,ko,none⟩,gk.length,kc)∧nd.kk=(k:Int)):=⟨bW,bV⟩;have cP:=run_neq_nil_nil (P:=prog);have bT:=fun y=>Kn1 (some ⟨kb,ko,none⟩) gk.length kc y cE bX;obtain⟨cF,cn,cu,cv,cx,cy,cz⟩:=cc;rw[Od0]at cn cu cv cx cy cz;obtain⟨s,hs⟩:∃ s,s=ks[i].1:=⟨_,rfl⟩;obtain⟨t,cf⟩:∃ t,t=ks[r].1:=⟨_,rfl⟩;rw[←hs]at bj bf Z bi bG ⊢;rw[←cf]at bj bf Z bi ⊢;have bc:Hid ((s,true)∈(ks.set i (s,true)).set r (t,true)∧∀ g o,s.1=some ⟨g,o,none⟩→ev.ownBlock≠some g∧g≠E∧g<(Jam w nd).heap.size):=⟨Z,bG⟩;clear hs cf hl hr bW bV ca bh bC h hn bZ bO bn ch Z bi bG bH cb bL;go_enter func98,ntmps98
 go_upto_region 2 with(go_at_call 130;refine bj.mono ?_;rintro bz U ⟨rfl,bD,O⟩)
 have bI:=Jmi R.out.1 O R.out.2.1;have br:=bI.2.2.2.2.2.1;have bx:=bI.2.2.2.2.2.2;rw[bN.out.1,Od0]at br;rw[bN.out.2,Od0]at bx;simp only at br;obtain⟨bE,X⟩:=bf.out U bD O;have D:Hid (Jed L E ba ev ((ks.set i (s,true)).set r (t,true)) U∧(Jam w nd).grownBy U ev.ownBlock):=⟨bD,O⟩;clear bI bD O bj cF cn cu cv cx cy cz bf;have bS:Calls prog 131 #[.slice (some ⟨kb,ko,none⟩) gk.length kc] U fun e w'=>e=.returned (.bool true)∧w'=U:=by
  have cQ:(1:Int)≤(gk.length:Int):=by omega
  have cS:(gk.length:Int)≤4:=by omega
  clear bE X br bx bT D bc;go_enter func131,ntmps131
  go_wp2;go_ret
  exact⟨rfl,rfl⟩
 clear bT;have bM:Hid _:=X;clear X;go_upto_region 6 with(first|(go_at_call 131;refine bS.mono ?_;rintro bz cJ ⟨rfl,cB⟩;subst cB)|(go_at_call 132;refine bE.mono ?_;rintro bz cA ⟨rfl,H⟩))
 have cU:=Ja H bx;clear br bx bS bE;by_cases Y:k<2
 ·rw[if_pos Y];have X:=bM.out Y cA H;obtain rfl|rfl:k=0∨k=1:=by omega
  all_goals
   go_wp2_with (go_at_call 133;refine X.mono ?_;rintro bz cK ⟨cC,g,o,c,rfl,cN,O,hI⟩)
   have bR:=Jb H cC;refine bodyPost_ret (v:=.tuple #[.slice (some ⟨g,o,none⟩) (s.2.2++t.2.2).length c,.nilIface]) (by simp[results,results98,go_sem]) rfl ⟨some ⟨g,o,none⟩,c,rfl,D.out.1.below bR,Ut (Ut (Qq R.out.2.2) D.out.2) (Qq bR),hI,fun cM cT e=>?_⟩;cases e
   have z1:=H.size;have z2:=D.out.2.size;have cV:=R.out.2.2.size;exact⟨fun e=>by have:=(Je D.out.1.own e).2;omega,by have:=Jd D.out.1.ck;omega,O,.inl (by omega)⟩
 rw[if_neg Y];clear bM;obtain rfl|rfl:k=2∨k=3:=by omega
 all_goals
  go_wp2;refine bodyPost_ret (v:=.tuple #[Jbl s,.nilIface]) (by simp[results,results98,go_sem]) rfl ⟨s.1,s.2.1,rfl,D.out.1.below H,Ut (Ut (Qq R.out.2.2) D.out.2) (Qq H),(D.out.1.ints (s,true) bc.out.1).below H,fun g o e=>?_⟩;have:=bc.out.2 g o e;have z1:=H.size;have z2:=D.out.2.size;exact⟨this.1,this.2.1,by omega,.inr ⟨(s,true),bc.out.1,e⟩⟩
end
section
open Go.RowKit Go.Shelf Tryz
structure PN where
 op:Nat
 l:Nat
 tn:ByteArray
 es:List (List Pt)
 gk:List Krv
 r:Nat
 kk:Int
def Jg7 (n:PN):List Nat:=if n.op=0 then []else if n.op=3∨n.op=7 then [n.l,n.r]else [n.l]
def flN (ns:List PN)(j i:Nat):Bool:=(ns.take j).any fun n=>(Jg7 n).contains i
theorem Jtp {ns:List PN}{j:Nat}{n:PN}(h:ns[j]?=some n)(i:Nat):flN ns (j+1) i=(flN ns j i||(Jg7 n).contains i):=by
 unfold flN;rw[Oi7,h];simp
structure Jnm (w:World) (n:PN) (nd:Nd):Prop where
 op:nd.op=(n.op:Int)
 l:nd.l=(n.l:Int)
 tn:nd.tn=n.tn
 es:n.op=1∨n.op=2→∃ eb eo ec,nd.xs=(some ⟨eb,eo,none⟩,n.es.length,ec)∧n.es.length≤ec∧Jaz w eb eo n.es
 gk:n.op=3∨n.op=4→∃ kb ko kc,nd.ky=(some ⟨kb,ko,none⟩,n.gk.length,kc)∧Klj w kb ko n.gk
 r:nd.r=(n.r:Int)
 kk:nd.kk=n.kk
theorem Jb0 {w:World}{b o:Nat}{v:Value}(h:w.cell? ⟨b,o,none⟩=some v):b<w.heap.size:=by
 unfold World.cell? at h;cases e:w.heap[b]? with
 |none=>simp[e]at h
 |some x=>exact(Oe2.1 e).1
theorem Zx {B:Nat}{w w':World}{b o:Nat}{v:Value}(D:∀ k,k<B→w'.heap[k]?=w.heap[k]?)(h:w.cell? ⟨b,o,none⟩=some v)(y:b<B):w'.cell? ⟨b,o,none⟩=some v:=by
 rw[←h];simp only[World.cell?,D b y]
theorem Jaz.under {w w':World}{D eo:Nat}{E:List (List Pt)}(h:Jaz w D eo E)(y:∀ k,k<w.heap.size→w'.heap[k]?=w.heap[k]?):Jaz w' D eo E:=fun j es bc=>by
 obtain⟨pb,bh,bf,H,ba⟩:=h j es bc;refine⟨pb,bh,bf,Zx y H (Jb0 H),fun k p hp=>?_⟩;obtain⟨K,O,R,U,X,Y,Z⟩:=ba k p hp;exact⟨Zx y K (Jb0 K),Zx y O (Jb0 O),Zx y R (Jb0 R),Zx y U (Jb0 U),Zx y X (Jb0 X),Zx y Y (Jb0 Y),Zx y Z (Jb0 Z)⟩
theorem Klj.under {w w':World}{kb ko:Nat}{ks:List Krv}(h:Klj w kb ko ks)(y:∀ k,k<w.heap.size→w'.heap[k]?=w.heap[k]?):Klj w' kb ko ks:=fun j k O=>by
 obtain⟨D,E,H,K⟩:=h j k O;exact⟨Zx y D (Jb0 D),Zx y E (Jb0 E),Zx y H (Jb0 H),Zx y K (Jb0 K)⟩
theorem Jnm.under {w w':World}{n:PN}{nd:Nd}(h:Jnm w n nd)(E:∀ k,k<w.heap.size→w'.heap[k]?=w.heap[k]?):Jnm w' n nd:=
 ⟨h.op,h.l,h.tn,fun h0=>by
  obtain⟨H,eo,K,y,D,O⟩:=h.es h0;exact⟨H,eo,K,y,D,O.under E⟩,fun h0=>by
  obtain⟨kb,ko,kc,y,D⟩:=h.gk h0;exact⟨kb,ko,kc,y,D.under E⟩,h.r,h.kk⟩
theorem Jnm.below {w w':World}{n:PN}{nd:Nd}(h:Jnm w n nd)(y:Below w.heap.size w w'):Jnm w' n nd:=h.under fun k D=>y.block k D
structure Kik (tys:ByteArray→List Int) (scs:List (List Int)) (n:PN) (sch:List Int):Prop where
 le:n.op≤4
 scan:n.op=0→sch=tys n.tn
 filt:n.op=1→scs[n.l]?=some sch∧∃ e,n.es=[e]∧Uj sch e∧1≤e.length∧e.length≤12∧Jbk sch e=2
 proj:n.op=2→∃ sc,scs[n.l]?=some sc∧sch=n.es.map (Jbk sc)∧1≤n.es.length∧n.es.length≤6∧∀ e∈n.es,Uj sc e∧1≤e.length∧e.length≤12
 grp:n.op=4→∃ sc ky,scs[n.l]?=some sc∧sch=n.gk.map (tyK sc)∧n.es=[]∧n.gk.length≤4∧(∀ k∈n.gk,Kn7 sc k)∧n.gk[0]?=some ky∧ky.f=0
 join:n.op=3→∃ ls rs k,scs[n.l]?=some ls∧scs[n.r]?=some rs∧n.l≠n.r∧n.es=[]∧n.kk=(k:Nat)∧k<4∧1≤n.gk.length∧n.gk.length≤4∧(∀ y∈n.gk,Kyi ls rs y)∧(k<2→ls.length+rs.length≤12)∧sch=if k<2 then ls++rs else ls
structure Jdk (tys:ByteArray→List Int) (scs:List (List Int)) (ns:List PN):Prop where
 len:scs.length=ns.length
 ok:∀ (j:Nat) (n:PN),ns[j]?=some n→∃ sch,scs[j]?=some sch∧Kik tys scs n sch
 ahead:∀ (j:Nat) (n:PN),ns[j]?=some n→∀ i∈Jg7 n,i<j∧flN ns j i=false
 all:∀ i,i+1<ns.length→flN ns ns.length i=true
 one:1≤ns.length
 few:ns.length≤12
theorem Jdk.unnamed {tys:ByteArray→List Int}{D:List (List Int)}{ns:List PN}(h:Jdk tys D ns)(j:Nat):flN ns (j+1) j=false:=by
 unfold flN;rw[List.any_eq_false];intro n hn;obtain⟨i,hi⟩:=Ok2.1 hn;rw[Oe7]at hi;split at hi
 ·intro y;have:=(h.ahead i n hi j (by simpa using y)).1;omega
 cases hi
theorem Kaf {w W y:World}{ev:Value}(D:Below w.heap.size w W)(H:∀ g,ev.ownBlock=some g→w.heap.size≤g)(K:W.grownBy y ev.ownBlock):∀ k,k<w.heap.size→y.heap[k]?=w.heap[k]?:=fun k E=>by
 rw[K.block k (Oc2 E D.size) (fun e=>by have:=H k e.symm;omega)];exact D.block k E
theorem Koi {tys:ByteArray→List Int}{E:List (List Int)}{ns:List PN}(h:Jdk tys E ns){j:Nat}{n:PN}(D:ns[j]?=some n){nd:Nd}{w:World}(hi:Jnm w n nd)(h0:n.op=0)(s:Nat)
  (Y:∀ y,Below w.heap.size w y→Calls prog 31 #[.pointer (some ⟨s,0,none⟩),.string n.tn] y fun e w'=>Below y.heap.size y w'∧∃ g c,e=.returned (.tuple #[.slice (some ⟨g,0,none⟩) (tys n.tn).length c,.bool true])∧y.heap.size≤g∧g<w'.heap.size∧Kc w' (some ⟨g,0,none⟩) (tys n.tn)) :
  Jvz w (.func (.func 31) #[.pointer (some ⟨s,0,none⟩)] #[]) E (flN ns) nd j:=by
 obtain⟨sch,hs,ok⟩:=h.ok j n D;refine⟨by rw[hi.op];omega,by rw[hi.op];omega,sch,hs,fun W ev ks O ba hC H=>?_⟩;have R:Jm5 nd.op=95:=by rw[hi.op,h0];rfl
 rw[R];have X:=ok.scan h0;have:=Kc7 (w.heap.size+2) (w.heap.size+1) s ev ks nd sch W hC fun y K=>by
  have:=Y y (Jb O K);rw[hi.tn,X];exact this
 refine this.mono fun e Z hp=>⟨ks,rfl,fun i k U=>?_,hp⟩;rw[Jtp D,H.flg i k U];simp[Jg7,h0]
theorem Km2 {tys:ByteArray→List Int}{K:List (List Int)}{ns:List PN}(h:Jdk tys K ns){j:Nat}{n:PN}(O:ns[j]?=some n){nd:Nd}{w:World}(hi:Jnm w n nd)(h0:n.op≠0)(Y:¬ (n.op=3∨n.op=7))(R:Value)(sch:List Int)(hs:K[j]?=some sch)
  (ba:∀ W ev (ks:List Kn),Below w.heap.size w W→(∀ g,ev.ownBlock=some g→w.heap.size≤g)→Jed (w.heap.size+2) (w.heap.size+1) R ev ks W→∀ E:n.l<ks.length,ks[n.l].2=false→K[n.l]?=some ks[n.l].1.2.2 →
   Calls prog (Jm5 nd.op) #[.pointer (some ⟨w.heap.size+1,0,none⟩),nd.val] W (Jq3 (w.heap.size+2) (w.heap.size+1) R ev (ks.set n.l (ks[n.l].1,true)) sch W)) :
  Jvz w R K (flN ns) nd j:=by
 obtain⟨_,_,ok⟩:=h.ok j n O;have bA:=ok.le;refine⟨by rw[hi.op];omega,by rw[hi.op];omega,sch,hs,fun W ev ks Z bc hC H=>?_⟩;have br:=Jtp O;have X:Jg7 n=[n.l]:=by unfold Jg7;rw[if_neg h0,if_neg Y]
 obtain⟨bj,bf⟩:=h.ahead j n O n.l (by rw[X];exact Oc6.2 rfl);have E:n.l<ks.length:=by rw[H.len];exact bj
 have U:ks[n.l]?=some ks[n.l]:=Oa3 E;have bi:ks[n.l].2=false:=by rw[H.flg n.l _ U];exact bf
 have bx:=H.sch n.l _ U;have bn:(ks.set n.l (ks[n.l].1,true)).map (·.1)=ks.map (·.1):=by
  rw[Op0];apply Oi8;intro i;rw[Op2];by_cases y:n.l=i
  ·subst y;rw[if_pos rfl];simp[E]
  rw[if_neg y]
 have bh:∀ (i:Nat) (k:Kn),(ks.set n.l (ks[n.l].1,true))[i]?=some k→k.2=flN ns (j+1) i:=fun i k D=>by
  rw[br,X];rw[Op2]at D;by_cases y:n.l=i
  ·subst y;rw[if_pos rfl]at D;simp only[E,if_true]at D;cases D
   simp
  rw[if_neg y]at D;rw[H.flg i k D];have:([n.l]:List Nat).contains i=false:=by simp;exact fun e=>y e.symm
  rw[this,Bool.or_false]
 exact(ba W ev ks Z bc hC E bi bx).mono fun e bz hp=>⟨_,bn,bh,hp⟩
theorem Kne {tys:ByteArray→List Int}{O:List (List Int)}{ns:List PN}(h:Jdk tys O ns){j:Nat}{n:PN}(H:ns[j]?=some n){nd:Nd}{w:World}(hi:Jnm w n nd)(D:n.op=2)(R:Value):Jvz w R O (flN ns) nd j:=by
 obtain⟨sch,hs,ok⟩:=h.ok j n H;refine Km2 h H hi (by omega) (by omega) R sch hs fun W ev ks Z bc hC bh bf bi=>?_;obtain⟨E,eo,U,bj,bB,bn⟩:=hi.es (.inr D);have X:∀ y,W.grownBy y ev.ownBlock→Jaz y E eo n.es:=fun y Y=>bn.under (Kaf Z bc Y);have ba:Jm5 nd.op=97:=by rw[hi.op,D];rfl
 rw[ba];obtain⟨bC,K,br,bx,bz,bA⟩:=ok.proj D;rw[bi]at K;cases K
 rw[br];exact Jsy (w.heap.size+2) (w.heap.size+1) _ ev ks nd n.l n.es E eo U W hC hi.l bh bf bj bx bz X bA
theorem Kv7 {tys:ByteArray→List Int}{H:List (List Int)}{ns:List PN}(h:Jdk tys H ns){j:Nat}{n:PN}(Y:ns[j]?=some n){nd:Nd}{w:World}(hi:Jnm w n nd)(bc:n.op=3∨n.op=7)(bB:n.l≠n.r)(Z:Value)(sch:List Int)(hs:H[j]?=some sch)
  (bh:∀ W ev (ks:List Kn),Below w.heap.size w W→(∀ g,ev.ownBlock=some g→w.heap.size≤g)→Jed (w.heap.size+2) (w.heap.size+1) Z ev ks W→∀ (K:n.l<ks.length) (O:n.r<ks.length),ks[n.l].2=false→ks[n.r].2=false→H[n.l]?=some ks[n.l].1.2.2→H[n.r]?=some ks[n.r].1.2.2 →
   Calls prog (Jm5 nd.op) #[.pointer (some ⟨w.heap.size+1,0,none⟩),nd.val] W (Jq3 (w.heap.size+2) (w.heap.size+1) Z ev ((ks.set n.l (ks[n.l].1,true)).set n.r (ks[n.r].1,true)) sch W)) :
  Jvz w Z H (flN ns) nd j:=by
 refine⟨by rw[hi.op];omega,by rw[hi.op];omega,sch,hs,fun W ev ks bf bi hC E=>?_⟩;have bx:=Jtp Y;have X:Jg7 n=[n.l,n.r]:=by unfold Jg7;rw[if_neg (by omega),if_pos bc]
 obtain⟨br,bj⟩:=h.ahead j n Y n.l (by rw[X];simp);obtain⟨bz,bn⟩:=h.ahead j n Y n.r (by rw[X];simp);have K:n.l<ks.length:=by rw[E.len];exact br
 have O:n.r<ks.length:=by rw[E.len];exact bz
 have R:ks[n.l]?=some ks[n.l]:=Oa3 K;have U:ks[n.r]?=some ks[n.r]:=Oa3 O;have ba:∀ i:Nat,((ks.set n.l (ks[n.l].1,true)).set n.r (ks[n.r].1,true))[i]?=if n.r=i then some (ks[n.r].1,true)else if n.l=i then some (ks[n.l].1,true)else ks[i]?:=fun i=>by
  rw[Op2];by_cases e:n.r=i
  ·subst e;simp[O]
  rw[if_neg e,if_neg e,Op2];by_cases y:n.l=i
  ·subst y;simp[K]
  rw[if_neg y,if_neg y]
 refine(bh W ev ks bf bi hC K O (by rw[E.flg n.l _ R];exact bj) (by rw[E.flg n.r _ U];exact bn) (E.sch n.l _ R) (E.sch n.r _ U)).mono fun e bA hp=>⟨_,Oi8 fun i=>?_,fun i k D=>?_,hp⟩
 ·rw[Ob1,Ob1,ba];by_cases e:n.r=i
  ·subst e;rw[if_pos rfl,U];rfl
  rw[if_neg e];by_cases y:n.l=i
  ·subst y;rw[if_pos rfl,R];rfl
  rw[if_neg y]
 rw[ba]at D;rw[bx,X];by_cases e:n.r=i
 ·rw[if_pos e]at D;cases D;simp[e]
 rw[if_neg e]at D;by_cases y:n.l=i
 ·rw[if_pos y]at D;cases D;simp[y]
 rw[if_neg y]at D;have:([n.l,n.r]:List Nat).contains i=false:=by simp;exact⟨fun x=>y x.symm,fun x=>e x.symm⟩
 rw[E.flg i k D,this,Bool.or_false]
theorem Kvd {tys:ByteArray→List Int}{O:List (List Int)}{ns:List PN}(h:Jdk tys O ns){j:Nat}{n:PN}(D:ns[j]?=some n){nd:Nd}{w:World}(hi:Jnm w n nd)(y:n.op=3)(R:Value):Jvz w R O (flN ns) nd j:=by
 obtain⟨sch,hs,ok⟩:=h.ok j n D;obtain⟨bH,rs,k,E,H,K,_,bA,bB,bC,bD,bE,bx,bz⟩:=ok.join y;refine Kv7 h D hi (.inl y) K R sch hs fun W ev ks X Z hC bc bh ba bf bi bj=>?_;obtain⟨kb,ko,kc,bn,br⟩:=hi.gk (.inl y);have Y:Jm5 nd.op=98:=by rw[hi.op,y];rfl
 rw[Y];rw[bi]at E;cases E
 rw[bj]at H;cases H
 rw[bz];exact Kxu (w.heap.size+2) (w.heap.size+1) _ ev ks nd n.l n.r n.gk kb ko kc k W hC hi.l hi.r bc bh K ba bf bn (by rw[hi.kk,bA]) bB bC bD (fun bG U=>br.under (Kaf X Z U)) bE bx
theorem Jvh {tys:ByteArray→List Int}{D:List (List Int)}{ns:List PN}(h:Jdk tys D ns)(E no O:Nat)(y:List Nd)(hl:y.length=ns.length)(s:Nat)(w:World)(R:∀ (j:Nat) (nd:Nd),y[j]?=some nd→Zm w E (no+j*7) nd)
  (X:∀ (j:Nat) (n:PN) (nd:Nd),ns[j]?=some n→y[j]?=some nd→Jvz w (.func (.func 31) #[.pointer (some ⟨s,0,none⟩)] #[]) D (flN ns) nd j) :
  Calls prog 30 #[.agg #[.slice (some ⟨E,no,none⟩) y.length O],.func (.func 31) #[.pointer (some ⟨s,0,none⟩)] #[]] w fun e w'=>∃ (H:List Sch) (sv:Value),e=.returned (.tuple #[sv,.nilIface])∧Below w.heap.size w w'∧Jo w' (w.heap.size+2) 22 sv (H.map Jbl)∧H.map (·.2.2)=D∧∀ s∈H,Kc w' s.1 s.2.2:=by
 have Y:=h.one;have Z:=h.few;refine Jrc E no O y 31 _ D (flN ns) w R (by omega) (by omega) (by rw[h.len,hl]) (fun j nd K=>?_) h.unnamed (fun i hi=>by rw[hl]at hi ⊢;exact h.all i hi);have U:j<ns.length:=by rw[←hl];exact(Ob9.1 K).1
 exact X j _ nd (Oa3 U) K
end
section
open Go.RowKit Go.Shelf
abbrev Cs:=List (List V)
def nR (cs:Cs):Nat:=(cs.getD 0 []).length
structure Zt (sch:List Int) (cs:Cs):Prop where
 len:cs.length=sch.length
 one:1≤cs.length
 few:cs.length≤1000
 rows:∀ j,j<cs.length→(cs.getD j []).length=nR cs
 many:nR cs≤100000
 ty:∀ i,i<nR cs→Jee sch (Ji cs i)
def Jbs (n:PN)(st:List (Option Cs)):Cs:=(st.getD n.l none).getD []
def csR (n:PN)(st:List (Option Cs)):Cs:=(st.getD n.r none).getD []
def jnN (n:PN)(st:List (Option Cs)):List Int:=jnL n.kk.toNat n.gk (Jbs n st) (csR n st) (nR (Jbs n st)) (nR (csR n st))
def Jba (ks:List Nat)(cs:Cs):Cs:=cs.map (Yq (ks.map fun (i:Nat)=>(i:Int)))
def Jcb (es:List (List Pt))(cs:Cs):Cs:=es.map fun e=>(List.range (nR cs)).map fun i=>pv1 e (Ji cs i)
def Kk9 (gk:List Krv)(cs:Cs):List (List V):=Klt [] (mkL gk cs) (List.range (nR cs))
def Klk (gk:List Krv)(cs:Cs):List V→List Tly:=tfB gk cs (List.range (nR cs))
def Kln (gk:List Krv)(cs:Cs):Cs:=tcI gk (Kk9 gk cs) (Klk gk cs) (Kk9 gk cs).length 0
def Krd (gk:List Krv)(cs:Cs):Prop:=Klz gk (Kk9 gk cs) (Klk gk cs) (Kk9 gk cs).length 0
def Jkq (tab:ByteArray→Cs⊕Nat)(n:PN)(st:List (Option Cs)):Cs:=
 if n.op=0 then (tab n.tn).elim id fun _=>[]else if n.op=1 then Jba (Yf (n.es.getD 0 []) (Jbs n st) (nR (Jbs n st))) (Jbs n st)else if n.op=4 then Kln n.gk (Jbs n st)else if n.op=3 then Kr4 n.kk.toNat n.gk (Jbs n st) (csR n st) (nR (Jbs n st)) (nR (csR n st))else Jcb n.es (Jbs n st)
def Jb3 (tab:ByteArray→Cs⊕Nat)(n:PN)(st:List (Option Cs)):List (Option Cs):=(if n.op=0 then st else if n.op=3∨n.op=7 then (st.set n.l none).set n.r none else st.set n.l none)++[some (Jkq tab n st)]
def stN (tab:ByteArray→Cs⊕Nat)(ns:List PN)(j:Nat):List (Option Cs):=(ns.take j).foldl (fun s n=>Jb3 tab n s) []
theorem Jma {tab:ByteArray→Cs⊕Nat}{ns:List PN}{j:Nat}{n:PN}(h:ns[j]?=some n):stN tab ns (j+1)=Jb3 tab n (stN tab ns j):=by
 unfold stN;rw[Oi7,h,Ol1];rfl
def Jlw (tab:ByteArray→Cs⊕Nat)(n:PN)(st:List (Option Cs)):Prop:=(n.op=0→∃ cs,tab n.tn=.inl cs)∧(n.op≠0→∀ i,i<nR (Jbs n st)→∀ e∈n.es,∃ v,Kl e (Ji (Jbs n st) i)=.inl v)∧(n.op=4→Krd n.gk (Jbs n st))∧(n.op=3→(jnN n st).length≤2000)
theorem Jix (tab:ByteArray→Cs⊕Nat)(n:PN)(st:List (Option Cs)):(Jb3 tab n st).length=st.length+1:=by
 unfold Jb3;rw[Oa8];split
 ·rfl
 split<;>simp
theorem Jhh (tab:ByteArray→Cs⊕Nat)(ns:List PN):∀ j,j≤ns.length→(stN tab ns j).length=j
 |0,_=>by simp[stN]
 |j+1,h=>by
  rw[Jma (Oa3 (by omega:j<ns.length)),Jix,Jhh tab ns j (by omega)]
theorem Kee {sch:List Int}{es:List Pt}{x:List V}(D:Uj sch es)(E:Jee sch x):∀ j d,j≤es.length→Yy (es.take j) x []=.inl d→d.length=j∧Jho (es.map (tyP sch)) d
 |0,d,_,h=>by
  rw[List.take_zero]at h;simp only[Yy]at h;cases h
  exact⟨rfl,fun k O=>absurd O (Oe0 _),fun v R=>by cases R⟩
 |j+1,d,U,h=>by
  have hp:es[j]?=some es[j]:=Oa3 (by omega);cases hr:Yy (es.take j) x []with
  |inr c=>
   have:=Oi7 (l:=es) (i:=j);rw[this,Jdz,hr]at h;cases h
  |inl H=>
   obtain⟨y,K⟩:=Kee D E j H (by omega) hr;rw[Jmx hp hr]at h;split at h
   ·rename_i h0
    cases h
    refine⟨by simp[y],?_⟩;refine Jyb rfl (by rw[y];exact hp) ?_ E K h0;rw[y];exact D j _ hp
   cases h
theorem Jp2 {sch:List Int}{es:List Pt}{x:List V}{v:V}(H:Uj sch es)(K:Jee sch x)(O:1≤es.length)(h:Kl es x=.inl v):okV (Jbk sch es) v∧Jg v.n:=by
 unfold Kl at h;cases hr:Yy es x []with
 |inr c=>rw[hr]at h;cases h
 |inl d=>
  rw[hr]at h;cases h
  obtain⟨y,E⟩:=Kee H K es.length d (Oa2 _) (by rw[Of2];exact hr);have D:d≠[]:=by intro e;rw[e]at y;simp at y;omega
  have hl:d.getLastD Jf=d.getD (es.length-1) Jf:=by
   rw[Ok7,Om6,Oa0,y]
  constructor
  ·rw[hl];unfold Jbk;exact E.1 (es.length-1) (by omega)
  have:d.getLastD Jf∈d:=by
   rw[Ok7,List.getLast?_eq_some_getLast D];exact List.getLast_mem D
  exact E.2 _ this
theorem Jjj (es:List (List Pt))(cs:Cs)(i:Nat)(hi:i<nR cs):Ji (Jcb es cs) i=es.map fun e=>pv1 e (Ji cs i):=by
 unfold Jcb;conv=>lhs;unfold Ji
 rw[Oi6];refine Oj9 fun e _=>?_;simp only[Function.comp_apply];rw[Oa0,Ob1,Oh6 hi];rfl
theorem Jm1 (es:List (List Pt))(cs:Cs)(h:1≤es.length):nR (Jcb es cs)=nR cs:=by
 conv=>lhs;unfold nR Jcb
 rw[Oa0,Ob1,Oa3 (by omega:0<es.length)];simp
theorem Jxl {O:List Int}{cs:Cs}(h:Zt O cs){es:List (List Pt)}(Y:1≤es.length)(Z:es.length≤6)(y:∀ e∈es,Uj O e∧1≤e.length∧e.length≤12)(hf:∀ i,i<nR cs→∀ e∈es,∃ v,Kl e (Ji cs i)=.inl v):Zt (es.map (Jbk O)) (Jcb es cs):=by
 have hn:=Jm1 es cs Y;have U:(Jcb es cs).length=es.length:=by unfold Jcb;rw[Oa6]
 refine⟨by rw[U,Oa6],by omega,by omega,fun j R=>?_,by rw[hn];exact h.many,fun i hi=>?_⟩
 ·rw[hn];rw[U]at R;unfold Jcb;rw[Oa0,Ob1,Oa3 R];simp
 rw[hn]at hi;rw[Jjj es cs i hi];refine⟨by simp,fun k H=>?_,fun v D=>?_⟩
 ·rw[Oa6]at H;have K:=Ob3 H;obtain⟨v,D⟩:=hf i hi _ K;rw[Oa0,Ob1,Oa0,Ob1,Oa3 H];simp only[Option.map_some,Option.getD_some];rw[Jgd D];exact(Jp2 (y _ K).1 (h.ty i hi) (y _ K).2.1 D).1
 obtain⟨e,E,rfl⟩:=Of0.1 D;obtain⟨u,X⟩:=hf i hi e E;rw[Jgd X];exact(Jp2 (y _ E).1 (h.ty i hi) (y _ E).2.1 X).2
theorem Kmh {sch:List Int}{cs:Cs}(h:Zt sch cs){r c:Nat}(hr:r<nR cs)(y:c<sch.length):okV (sch.getD c 0) ((cs.getD c []).getD r Jf)∧Jg ((cs.getD c []).getD r Jf).n:=by
 have D:c<cs.length:=by rw[h.len];exact y
 obtain⟨E,H,K⟩:=h.ty r hr;have e:(Ji cs r)[c]?=some ((cs.getD c []).getD r Jf):=by
  unfold Ji;rw[Ob1,Oa3 D,Option.map_some];rw[Oa0 (l:=cs),Oa3 D];rfl
 refine⟨?_,K _ (Of6 e)⟩;have:=H c (by rw[E];exact y);rw[Oa0 (l:=Ji cs r),e]at this;exact this
theorem Kpk {t:Int}{v:V}(h:okV t v)(hn:Jg v.n):Km9 v:=by
 have hs:∀ s:ByteArray,s.toList.isEmpty=true→s.size≤maxLen:=fun s e=>by rw[Ja6 e];decide
 unfold okV okB okK at h;simp only[decide_eq_true_eq]at h;unfold Km9 Jg;rcases h with⟨H,D,y⟩|⟨H,⟨D,y⟩|⟨D,E,y⟩|⟨D,y,E⟩⟩
 ·exact⟨by omega,hn,hs _ y⟩
 ·exact⟨by omega,hn,hs _ y⟩
 ·exact⟨by omega,hn,hs _ y⟩
 exact⟨by omega,hn,Ob2 E (by decide)⟩
section
variable {sc:List Int} {cs:Cs} {gk:List Krv}
end
structure Khz (tys:ByteArray→List Int) (scs:List (List Int)) (tab:ByteArray→Cs⊕Nat) (ns:List PN) (j:Nat):Prop where
 good:∀ (l:Nat) (cs:Cs),(stN tab ns j)[l]?=some (some cs)→∃ sch,scs[l]?=some sch∧Zt sch cs
 there:∀ (l:Nat),l<j→flN ns j l=false→∃ cs,(stN tab ns j)[l]?=some (some cs)
theorem Ktr {tys:ByteArray→List Int}{E:List (List Int)}{ns:List PN}(h:Jdk tys E ns){tab:ByteArray→Cs⊕Nat}{j:Nat}{n:PN}(R:ns[j]?=some n)(H:Khz tys E tab ns j){i:Nat}(hi:i∈Jg7 n):∃ cs y,(stN tab ns j)[i]?=some (some cs)∧((stN tab ns j).getD i none).getD []=cs∧E[i]?=some y∧Zt y cs:=by
 obtain⟨U,K⟩:=h.ahead j n R i hi;obtain⟨cs,D⟩:=H.there i U K;obtain⟨y,X,O⟩:=H.good i cs D;exact⟨cs,y,D,by rw[Oa0,D];rfl,X,O⟩
def Ks9 (op:Nat):Prop:=∀ {tys:ByteArray→List Int} {y:List (List Int)} {ns:List PN} {tab:ByteArray→Cs⊕Nat} {j:Nat} {n:PN} {sch:List Int},Jdk tys y ns→ns[j]?=some n→n.op=op→Kik tys y n sch→Khz tys y tab ns j→Jlw tab n (stN tab ns j)→Zt sch (Jkq tab n (stN tab ns j))
theorem Kuu:Ks9 2:=fun {tys bi ns tab j n sch} h R H ok K hf=>by
 obtain⟨cs,bf,bc,y,U,O⟩:=Ktr h R K (i:=n.l) (by unfold Jg7;rw[if_neg (by omega),if_neg (by omega)];simp);have y:Jbs n (stN tab ns j)=cs:=y;have D:=hf.2.1 (by omega);rw[y]at D;unfold Jkq;rw[if_neg (by omega),if_neg (by omega),if_neg (by omega),if_neg (by omega),y];obtain⟨bh,E,X,Y,Z,ba⟩:=ok.proj H;rw[U]at E;cases E
 rw[X];exact Jxl O Y Z ba D
theorem Kte (L:List Int)(cs:Cs)(i:Nat)(hi:i<L.length):Ji (cs.map (Yq L)) i=if L[i]=-1 then List.replicate cs.length Jf else Ji cs L[i].toNat:=by
 unfold Ji;rw[Oi6];have e:∀ c:List V,(Yq L c).getD i Jf=if L[i]=-1 then Jf else c.getD L[i].toNat Jf:=fun c=>by
  unfold Yq;rw[Oa0,Ob1,Oa3 hi];rfl
 by_cases h:L[i]=-1
 ·rw[if_pos h,List.eq_replicate_iff];refine⟨by rw[Oa6],fun b y=>?_⟩;obtain⟨c,_,rfl⟩:=Of0.1 y;simp only[Function.comp_apply];rw[e,if_pos h]
 rw[if_neg h];refine Oj9 fun c _=>?_;simp only[Function.comp_apply];rw[e,if_neg h]
theorem Jee.nulls (sch:List Int):Jee sch (List.replicate sch.length Jf):=⟨Od6,fun i _=>by
 have:(List.replicate sch.length Jf).getD i Jf=Jf:=by
  rw[Oa0,Of3];split<;>rfl
 rw[this];exact Jet _,fun v y=>by rw[(List.mem_replicate.1 y).2];exact⟨by decide,by decide⟩⟩
theorem Jee.append {a b:List Int}{x E:List V}(y:Jee a x)(D:Jee b E):Jee (a++b) (x++E):=⟨by rw[Oa8,Oa8,y.1,D.1],fun i hi=>by
 by_cases h:i<x.length
 ·rw[Oa0,Oa0,Ob0 (by rw[←y.1];exact h),Ob0 h,←Oa0,←Oa0];exact y.2.1 i h
 rw[Oa8]at hi;rw[Oa0,Oa0,Ob6 (by rw[←y.1];omega),Ob6 (by omega),←Oa0,←Oa0,←y.1];exact D.2.1 _ (by omega),fun v H=>(Od2.1 H).elim (y.2.2 v) (D.2.2 v)⟩
theorem Kt9 {sch:List Int}{cs:Cs}(h:Zt sch cs){L:List Int}(hL:∀ m∈L,m=-1∨(0≤m∧m<(nR cs:Int))){i:Nat}(hi:i<L.length):Jee sch (Ji (cs.map (Yq L)) i):=by
 rw[Kte L cs i hi];split
 ·rw[h.len];exact Jee.nulls sch
 rename_i y
 have:=hL _ (Ob3 hi);exact h.ty _ (by omega)
theorem Kuk {k:Nat}{gk:List Krv}{lc rc:Cs}{a b:Nat}:(Kr4 k gk lc rc a b).length=if k<2 then lc.length+rc.length else lc.length:=by
 unfold Kr4;split<;>simp
theorem Kua {k:Nat}{gk:List Krv}{lc rc:Cs}{a b j:Nat}(y:j<(Kr4 k gk lc rc a b).length):((Kr4 k gk lc rc a b).getD j []).length=(jnL k gk lc rc a b).length:=by
 have hp:∀ (cs:Cs) (L:List Int) (i:Nat),i<cs.length→((cs.map (Yq L)).getD i []).length=L.length:=fun cs L i hi=>by
  rw[Oa0,Ob1,Oa3 hi];simp[Yq]
 unfold Kr4 at y ⊢;by_cases D:k<2
 ·rw[if_pos D]at y ⊢;rw[Oa8,Oa6,Oa6]at y;by_cases h:j<lc.length
  ·rw[Kto (by rw[Oa6];exact h)];exact hp _ _ _ h
  rw[Ktd (by rw[Oa6];omega),Oa6,Kvn D];exact hp _ _ _ (by omega)
 rw[if_neg D]at y ⊢;rw[Oa6]at y;exact hp _ _ _ y
theorem Kya {k:Nat}{gk:List Krv}{D rs:List Int}{lc rc:Cs}(hl:Zt D lc)(hr:Zt rs rc)(U:k<2→D.length+rs.length≤12)(X:(jnL k gk lc rc (nR lc) (nR rc)).length≤2000):Zt (if k<2 then D++rs else D) (Kr4 k gk lc rc (nR lc) (nR rc)):=by
 have E:=Kuk (k:=k) (gk:=gk) (lc:=lc) (rc:=rc) (a:=nR lc) (b:=nR rc);have H:1≤(Kr4 k gk lc rc (nR lc) (nR rc)).length:=by rw[E];have:=hl.one;split<;>omega
 have hn:nR (Kr4 k gk lc rc (nR lc) (nR rc))=(jnL k gk lc rc (nR lc) (nR rc)).length:=Kua H;have R:=hl.len;have Y:=hr.len;have O:=hl.few;refine⟨?_,H,?_,fun j K=>by rw[hn];exact Kua K,by omega,fun i hi=>?_⟩
 ·rw[E];split
  ·rw[Oa8];omega
  exact R
 ·rw[E];split
  ·have:=U (by assumption);omega
  exact O
 rw[hn]at hi;unfold Kr4;by_cases y:k<2
 ·rw[if_pos y,if_pos y];have e:∀ a b:Cs,Ji (a++b) i=Ji a i++Ji b i:=fun a b=>Ob8;rw[e];exact(Kt9 hl Kvy hi).append (Kt9 hr Kxi (by rw[←Kvn y];exact hi))
 rw[if_neg y,if_neg y];exact Kt9 hl Kvy hi
theorem Kwi:Ks9 3:=fun {tys bx ns tab j n sch} h R y ok K hf=>by
 have O:Jg7 n=[n.l,n.r]:=by unfold Jg7;rw[if_neg (by omega),if_pos (.inl y)]
 obtain⟨lc,bn,_,D,bc,Z⟩:=Ktr h R K (i:=n.l) (by rw[O];simp);obtain⟨rc,br,_,E,bf,ba⟩:=Ktr h R K (i:=n.r) (by rw[O];simp);have D:Jbs n (stN tab ns j)=lc:=D;have E:csR n (stN tab ns j)=rc:=E;have H:=hf.2.2.2 y;obtain⟨bj,rs,k,U,X,_,_,Y,_,_,_,_,bh,bi⟩:=ok.join y;rw[bc]at U;cases U
 rw[bf]at X;cases X
 unfold Jkq;unfold jnN at H;rw[if_neg (by omega),if_neg (by omega),if_neg (by omega),if_pos y,D,E,bi,Y];rw[D,E,Y]at H;exact Kya Z ba bh H
theorem Kcs {tys:ByteArray→List Int}{D:List (List Int)}{ns:List PN}(h:Jdk tys D ns)(K:∀ n∈ns,n.op≠0→Ks9 n.op){tab:ByteArray→Cs⊕Nat}(O:∀ n∈ns,n.op=0→∀ cs,tab n.tn=.inl cs→Zt (tys n.tn) cs){j:Nat}{n:PN}(y:ns[j]?=some n)(H:Khz tys D tab ns j)(hf:Jlw tab n (stN tab ns j)):∃ sch,D[j]?=some sch∧Zt sch (Jkq tab n (stN tab ns j)):=by
 obtain⟨sch,hs,ok⟩:=h.ok j n y;refine⟨sch,hs,?_⟩;by_cases h0:n.op=0
 ·unfold Jkq;rw[if_pos h0];obtain⟨cs,E⟩:=hf.1 h0;rw[E,ok.scan h0];exact O n (Of6 y) h0 cs E
 exact K n (Of6 y) h0 h y rfl ok H hf
theorem Jqw {tys:ByteArray→List Int}{bi:List (List Int)}{ns:List PN}(h:Jdk tys bi ns)(Z:∀ n∈ns,n.op≠0→Ks9 n.op){tab:ByteArray→Cs⊕Nat}(bh:∀ n∈ns,n.op=0→∀ cs,tab n.tn=.inl cs→Zt (tys n.tn) cs):∀ j,j≤ns.length→(∀ (k:Nat) (n:PN),k<j→ns[k]?=some n→Jlw tab n (stN tab ns k))→Khz tys bi tab ns j
 |0,_,_=>⟨fun l cs hl=>by simp[stN]at hl,fun l hl=>absurd hl (Oe0 _)⟩
 |j+1,bx,hf=>by
  have hn:ns[j]?=some ns[j]:=Oa3 (by omega);have Y:=Jqw h Z bh j (by omega) fun k n bz y=>hf k n (by omega) y;have bn:=hf j _ (by omega) hn;have ba:=Jhh tab ns j (by omega);obtain⟨E,K⟩:∃ E,E=(if ns[j].op=0 then stN tab ns j else if ns[j].op=3∨ns[j].op=7 then ((stN tab ns j).set ns[j].l none).set ns[j].r none else (stN tab ns j).set ns[j].l none):=⟨_,rfl⟩;have H:E.length=j:=by
   rw[K];split
   ·exact ba
   split<;>simp[ba]
  have bf:stN tab ns (j+1)=E++[some (Jkq tab ns[j] (stN tab ns j))]:=by rw[Jma (tab:=tab) hn,K];rfl
  have X:∀ {s:List (Option Cs)} {i l:Nat} {x:Cs},(s.set i none)[l]?=some (some x)→s[l]?=some (some x):=fun {s i l x} y=>by
   rw[Op2]at y;split at y
   ·split at y<;>cases y
   exact y
  have br:∀ l x,l<j→(E++[some (Jkq tab ns[j] (stN tab ns j))])[l]?=some (some x)→(stN tab ns j)[l]?=some (some x):=fun l x hl y=>by
   rw[Ob0 (by rw[H];exact hl),K]at y;split at y
   ·exact y
   split at y
   ·exact X (X y)
   exact X y
  have bc:(E++[some (Jkq tab ns[j] (stN tab ns j))])[j]?=some (some (Jkq tab ns[j] (stN tab ns j))):=by
   rw[Ob6 (by rw[H];exact Oa2 _),H,Oe1];rfl
  refine⟨fun l cs y=>?_,fun l hl U=>?_⟩
  ·rw[bf]at y;have bA:l<j+1:=by
    have:=(Ob9.1 y).1;rw[Oa8,H]at this;exact this
   by_cases e:l=j
   ·subst e;rw[bc]at y;cases y
    exact Kcs h Z bh hn Y bn
   exact Y.good l cs (br l cs (by omega) y)
  rw[bf];by_cases e:l=j
  ·subst e;exact⟨_,bc⟩
  rw[Jtp hn,Bool.or_eq_false_iff]at U;obtain⟨cs,R⟩:=Y.there l (by omega) U.1;refine⟨cs,?_⟩;have D:∀ i∈Jg7 ns[j],i≠l:=fun i hi bj=>by
   have:=U.2;rw[List.contains_eq_any_beq,List.any_eq_false]at this;exact this i hi (by rw[bj];simp)
  rw[Ob0 (by rw[H];omega),K];unfold Jg7 at D;split
  ·exact R
  rename_i h0
  rw[if_neg h0]at D;split
  ·rename_i O
   rw[if_pos O]at D;rw[Op2,if_neg (D ns[j].r (by simp)),Op2,if_neg (D ns[j].l (by simp))];exact R
  rename_i O
  rw[if_neg O]at D;rw[Op2,if_neg (D ns[j].l (by simp))];exact R
end
end Go.Proofs.YtpchafocmlhmbaaGreatDoor
