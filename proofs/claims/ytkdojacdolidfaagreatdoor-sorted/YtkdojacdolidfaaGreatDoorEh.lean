/- The expression that adds 1, worked on one row: the parts. -/
import Derived.Handy
import Derived.Test.YtkdojacdolidfaaGreatDoorYf
set_option maxHeartbeats 2000000
set_option maxRecDepth 100000
namespace Go.Proofs.YtkdojacdolidfaaGreatDoor
section
open Go.RowKit Go.Shelf Tryz
attribute [local go_sem] Oc0
theorem Qby box w(hb:w.cell? ⟨box,0,none⟩=some (.func (.func 220) #[] #[])):Calls prog 262 #[.agg #[.int .i64 1,.int .i64 41,.string ⟨#[]⟩],.agg #[.int .i64 1,.int .i64 1,.string ⟨#[]⟩],.pointer (some ⟨box,0,none⟩)] w fun e w'=>e=.returned (.tuple #[.agg #[.int .i64 1,.int .i64 42,.string ⟨#[]⟩],.nilIface])/\Below w.heap.size w w':=by
 have I:∀ (args:Array Value) (W:World),(callFunc 220 args).run prog W=.ok (.enter 220 args) W:=fun args W=>by kernel_rfl
 have H:∀ x y z,(((w.alloc x).alloc y).alloc z).cell? ⟨box,0,none⟩=some (.func (.func 220) #[] #[]):=fun _ _ _=>Kf (Kf (Kf hb));go_enter func262,ntmps262
 go_wp2;go_returns
 exact⟨rfl,by go_grown⟩
theorem Kx5 W:(Instr.makeSlice 30 (.int .i64 1) (.int .i64 1)).run prog W=.ok (.slice (some ⟨W.heap.size,0,none⟩) 1 1) (W.alloc (.cells #[.int .i64 0,.int .i64 0,.string ⟨#[]⟩] 33)):=zK
theorem Kzr {X:World}{f b o:Nat}{p q r u:Value}(h:b<f)(y:X.cell? ⟨b,o,none⟩=some u):(((X.setCell ⟨f,0,none⟩ p).setCell ⟨f,1,none⟩ q).setCell ⟨f,2,none⟩ r).cell? ⟨b,o,none⟩=some u:=by
 have h:∀ i,(⟨f,i,none⟩:Addr)≠⟨b,o,none⟩:=fun i e=>by cases e;omega
 exact Uc (h 2) (Uc (h 1) (Uc (h 0) y))
theorem Qdg b Z cp bl U cl K Y cr box ex ba er bH w(h:Uz w b ex ba bH 1 (.slice (some ⟨Z,0,none⟩) 2 cp) er)(h0:w.cell? ⟨Z,0,none⟩=some (.slice (some ⟨bl,U,none⟩) 1 cl))(bh:w.cell? ⟨Z,1,none⟩=some (.slice (some ⟨K,Y,none⟩) 1 cr))(hl:VAt w bl U ⟨1,41,⟨#[]⟩⟩)(hr:VAt w K Y ⟨1,1,⟨#[]⟩⟩)(bA:w.cell? ⟨box,0,none⟩=some (.func (.func 220) #[] #[])):
  Calls prog 226 #[.pointer (some ⟨b,0,none⟩),.agg #[.int .i64 2,.int .i64 0,.int .i64 1,.int .i64 0,.int .i64 0,.int .i64 0,.string ⟨#[]⟩],.func (.func 262) #[] #[.pointer (some ⟨box,0,none⟩)]] w fun e w'=>∃ g,e=.returned (.slice (some ⟨g,0,none⟩) 1 1)/\w.heap.size<=g/\w'.heap[g]?=some (.cells #[.int .i64 1,.int .i64 42,.string ⟨#[]⟩] 33 (0,0))/\Below w.heap.size w w':=by
 obtain⟨_,_,_,c3,c4,_⟩:=h.cells;obtain⟨bj,x1,x2⟩:=hl;obtain⟨bk,bB,bC⟩:=hr;have bN:bl<w.heap.size:=Jm bj;have bO:K<w.heap.size:=Jm bk;have hq:=heap_alloc_new w (.cells #[.int .i64 2,.int .i64 0,.int .i64 1,.int .i64 0,.int .i64 0,.int .i64 0,.string ⟨#[]⟩] 65);have M:Below w.heap.size w (w.alloc (.cells #[.int .i64 2,.int .i64 0,.int .i64 1,.int .i64 0,.int .i64 0,.int .i64 0,.string ⟨#[]⟩] 65)):=Jc (Oa5 _ _) _;clear h;go_enter func226,ntmps226
 go_upto_region 1 with fail
 have bf:(w.alloc (.cells #[.int .i64 2,.int .i64 0,.int .i64 1,.int .i64 0,.int .i64 0,.int .i64 0,.string ⟨#[]⟩] 65)).heap.size=w.heap.size+1:=zS;generalize w.alloc (.cells #[.int .i64 2,.int .i64 0,.int .i64 1,.int .i64 0,.int .i64 0,.int .i64 0,.string ⟨#[]⟩] 65)=W at hq M bf |-;have q1:=zc 1 hq;have q2:=zc 2 hq;replace c3:=Ja M c3;replace c4:=Ja M c4;replace h0:=Ja M h0;replace bh:=Ja M bh;go_region_held3 (fun X=>X.cell? ⟨b,4,none⟩=some (.slice (some ⟨Z,0,none⟩) 2 cp)/\X.cell? ⟨Z,0,none⟩=some (.slice (some ⟨bl,U,none⟩) 1 cl)/\X.cell? ⟨Z,1,none⟩=some (.slice (some ⟨K,Y,none⟩) 1 cr)/\X.cell? ⟨w.heap.size,1,none⟩=some (.int .i64 0)/\X.cell? ⟨w.heap.size,2,none⟩=some (.int .i64 1)) (go_keep) (fail)
 have bJ:=Kx5;go_wp2;refine wp_loop_rounds 2 ?_;rw[rounds_succ];go_wp2;have I:Below w.heap.size w (W.alloc (.cells #[.int .i64 0,.int .i64 0,.string ⟨#[]⟩] 33)).drew:=Jj (Jc M _);have bz:(W.alloc (.cells #[.int .i64 0,.int .i64 0,.string ⟨#[]⟩] 33)).drew.heap[w.heap.size+1]?=_:=bf▸heap_alloc_new W _;have bi:(W.alloc (.cells #[.int .i64 0,.int .i64 0,.string ⟨#[]⟩] 33)).drew.heap.size=w.heap.size+2:=by rw[heap_drew,Oa7,bf]
 generalize (W.alloc (.cells #[.int .i64 0,.int .i64 0,.string ⟨#[]⟩] 33)).drew=O at I bz bi |-;replace bj:=Ja I bj;replace x1:=Ja I x1;replace x2:=Ja I x2;replace bk:=Ja I bk;replace bB:=Ja I bB;replace bC:=Ja I bC;have bM:=I.size;have bL:∀ (args:Array Value) (W:World),(callFunc 262 args).run prog W=.ok (.enter 262 args) W:=fun args W=>by kernel_rfl
 have bx:=fun X bI=>Qby box X (Ja (Jb I bI) bA);clear c3 c4 h0 bh q1 q2 hq M bf bA bJ;go_cut [11,12] from 39 to 52 (fun a c X=>c=.nilIface/\∃ fa:Nat,a=.pointer (some ⟨fa,0,none⟩)/\X.heap[fa]?=some (.cells #[.int .i64 1,.int .i64 42,.string ⟨#[]⟩] 33 (0,0))/\Below O.heap.size O X)
 case first=>
  go_region_held3 (fun X=>X.cell? ⟨bl,U,none⟩=some (.int .i64 1)/\X.cell? ⟨bl,U+1,none⟩=some (.int .i64 41)/\X.cell? ⟨bl,U+2,none⟩=some (.string ⟨#[]⟩)/\X.cell? ⟨K,Y,none⟩=some (.int .i64 1)/\X.cell? ⟨K,Y+1,none⟩=some (.int .i64 1)/\X.cell? ⟨K,Y+2,none⟩=some (.string ⟨#[]⟩))
   (refine⟨?_,?_,?_,?_,?_,?_⟩<;>(repeat (with_reducible first|assumption|refine Ja H ?_|refine Kf ?_|refine Jh ?_|refine Kzr zo ?_)))
   (first|(go_at_call 262;refine(bx _ (by with_reducible exact Jj (Oa5 _ _))).mono ?_;rintro e br ⟨rfl,H⟩;have bK:=H.size;simp only[heap_drew]at bK)|(go_at_call 262;refine(bx _ (by go_grown)).mono ?_;rintro e br ⟨rfl,H⟩;have y:=(H.block (w.heap.size+2) (by simp[bi])).trans (bi▸heap_alloc_new O _);have bP:=zc 0 y;have bQ:=zc 1 y;have m2:=zc 2 y;have bD:=Lib.frozen_of_heap y 0;have bE:=Lib.frozen_of_heap y 1;have bG:=Lib.frozen_of_heap y 2))
  ·go_wp2_with fail
   go_meet
   case rel=>exact⟨rfl,_,rfl,heap_alloc_new br _,Jc (Jw (B:=O.heap.size) H) _⟩
  go_wp2_with fail
  go_meet
  case rel=>
   have:=Jk (Jk (Jk y 0 (.int .i64 1)) 1 (.int .i64 42)) 2 (.string ⟨#[]⟩);have H:=Jb (show Below O.heap.size O _ by go_grown) H;exact⟨rfl,_,rfl,this,by go_grown⟩
 case rest=>
  obtain⟨rfl,fa,rfl,y,H⟩:=hcut;have n:=(H.block (w.heap.size+1) zo).trans bz;have bR:=zc 0 n;have bS:=zc 1 n;have bT:=zc 2 n;have bU:=Lib.frozen_of_heap n 0;have z1:=Lib.frozen_of_heap n 1;have z2:=Lib.frozen_of_heap n 2;have bD:=zc 0 y;have bE:=zc 1 y;have bG:=zc 2 y;have n:=Jk (Jk (Jk n 0 (.int .i64 1)) 1 (.int .i64 42)) 2 (.string ⟨#[]⟩);have H:=Jb I H;go_wp2;rw[rounds_succ];go_wp2;go_returns
  exact⟨_,rfl,zo,n,by go_grown⟩
theorem VAt.low {w w' b o v}(h:VAt w b o v)(hb:Below w.heap.size w w'):VAt w' b o v:=⟨Ja hb h.1,Ja hb h.2.1,Ja hb h.2.2⟩
def Qb2 (B b:Nat)(v:V)(w:World):Ending->World->Prop:=fun e w'=>∃ g o c:Nat,e=.returned (.slice (some ⟨g,o,none⟩) 1 c)/\g≠b/\(g<B\/w.heap.size<=g)/\VAt w' g o v/\Below w.heap.size w w'
theorem Qdo B b H cp bl K cl I M cr ex ba er O w(h:Uz w b ex ba O 1 (.slice (some ⟨H,0,none⟩) 2 cp) er)(h0:w.cell? ⟨H,0,none⟩=some (.slice (some ⟨bl,K,none⟩) 1 cl))(U:w.cell? ⟨H,1,none⟩=some (.slice (some ⟨I,M,none⟩) 1 cr))(hl:VAt w bl K ⟨1,41,⟨#[]⟩⟩)(hr:VAt w I M ⟨1,1,⟨#[]⟩⟩):
  Calls prog 178 #[.pointer (some ⟨b,0,none⟩),.agg #[.int .i64 2,.int .i64 0,.int .i64 1,.int .i64 0,.int .i64 0,.int .i64 0,.string ⟨#[]⟩]] w (Qb2 B b ⟨1,42,⟨#[]⟩⟩ w):=by
 have hb:=Jd h;have Z:=fun x Y (y:Below w.heap.size w (((w.alloc x).alloc Y).alloc (.cells #[.func (.func 220) #[] #[]] 381)))=>Qdg b H cp bl K cl I M cr (w.heap.size+1+1) ex ba er O _ (h.below y) (Ja y h0) (Ja y U) (hl.low y) (hr.low y) (by have:=heap_alloc_new ((w.alloc x).alloc Y) (.cells #[.func (.func 220) #[] #[]] 381);rw[Oa7,Oa7]at this;unfold World.cell?;rw[this];rfl);clear h h0 U hl hr;go_enter func178,ntmps178
 go_wp2_with (first|(go_at_call 219;go_enter func219,ntmps219)|(go_at_call 226;refine(Z _ _ (by go_grown)).mono ?_;rintro e bh ⟨g,rfl,bf,hv,y⟩))
 go_returns
 have y:=Jb (show Below w.heap.size w _ by go_grown) y;simp at bf;exact⟨g,0,1,rfl,zo,.inr zo,by constructor<;>simp[World.cell?,hv],y⟩
attribute [local go_sem] Oc0
theorem Qdk B b y cap bl H cl ex U er K w(h:Uz w b ex (.slice (some ⟨y,0,none⟩) 1 cap) K 1 U er)(h0:w.cell? ⟨y,0,none⟩=some (.slice (some ⟨bl,H,none⟩) 1 cl))(hl:VAt w bl H ⟨1,41,⟨#[]⟩⟩)(O:bl≠b)(M:bl<B):
  Calls prog 176 #[.pointer (some ⟨b,0,none⟩),.agg #[.int .i64 0,.int .i64 0,.int .i64 0,.int .i64 0,.int .i64 0,.int .i64 0,.string ⟨#[]⟩]] w (Qb2 B b ⟨1,41,⟨#[]⟩⟩ w):=by
 have c1:=h.cells.2.1;have Y:=World.new_ne w _ c1;have Z:=World.new_ne w _ h0;have I:Hid _:=hl;clear h hl;go_enter func176,ntmps176
 go_upto_region 1 with fail
 go_region_held3 (fun X=>X.cell? ⟨b,1,none⟩=some (.slice (some ⟨y,0,none⟩) 1 cap)/\X.cell? ⟨y,0,none⟩=some (.slice (some ⟨bl,H,none⟩) 1 cl)/\X.cell? ⟨w.heap.size,3,none⟩=some (.int .i64 0)) (go_keep) (fail)
 go_wp2;go_returns
 exact⟨bl,H,cl,rfl,O,.inl M,VAt.low I.out (by go_grown),by go_grown⟩
theorem Qcp B b ex ba H er y w(h:Uz w b ex ba y 1 H er):
  Calls prog 177 #[.pointer (some ⟨b,0,none⟩),.agg #[.int .i64 1,.int .i64 0,.int .i64 0,.int .i64 1,.int .i64 1,.int .i64 1,.string ⟨#[]⟩]] w (Qb2 B b ⟨1,1,⟨#[]⟩⟩ w):=by
 have c3:=h.cells.2.2.2.1;have K:=World.new_ne w _ c3;have hb:=Jd h;have I:=Kx5;clear h;go_enter func177,ntmps177
 go_wp2;go_rounds 2
 go_returns
 exact⟨_,0,1,rfl,zo,.inr zo,by refine⟨?_,?_,?_⟩<;>simp[go_sem],by go_grown⟩
attribute [local go_sem] Oc0
theorem Ks3 {p}(h:p):Hid p:=h
theorem Qc6 w x y z W(h:((w.alloc x).alloc y).alloc z=W):W.heap.size=w.heap.size+3/\W.heap[w.heap.size]?=some x/\W.heap[w.heap.size+1+1]?=some z/\Below w.heap.size w W:=by
 subst h;have:=heap_alloc_new ((w.alloc x).alloc y) z;rw[Oa7,Oa7]at this;exact⟨zS,(Oa9 _ _ _ zt).trans ((Oa9 _ _ _ zS).trans (heap_alloc_new w _)),this,by go_grown⟩
structure ExT (w:World) (b B:Nat) (ex ba er:Value) (fi:Int) (vs:List V) (sv:Value) (qs:List Value) (wr:World):Prop where
 own:Jo wr w.heap.size 30 sv qs
 wk:Uz wr b ex ba fi 1 sv er
 keep:Ju (·=b) w wr
 vals:∀ (j:Nat) (u:Value),qs[j]?=some u->∃ (g o c:Nat) (v:V),u=.slice (some ⟨g,o,none⟩) 1 c/\vs[j]?=some v/\VAt wr g o v/\g≠b/\sv.ownBlock≠some g/\(g<B\/w.heap.size<=g)
theorem ExT.step {w b B ex ba er bj vs sv O wr H I}(h:ExT w b B ex ba er bj vs sv O wr)(hb:b<w.heap.size)(bN:B<=w.heap.size)(y:Below wr.heap.size wr H){g o c v}(bE:vs[O.length]?=some v)(Z:g≠b)(bO:g<B\/wr.heap.size<=g)(hv:VAt H g o v){sv' bI}(ho:Jo I w.heap.size 30 sv' (O++[.slice (some ⟨g,o,none⟩) 1 c]))(M:(H.alloc bI).grownBy I sv.ownBlock)(bC:sv'.ownBlock=sv.ownBlock\/sv'.ownBlock=some (H.heap.size+1)):
  ExT w b B ex ba er bj vs sv' (O++[.slice (some ⟨g,o,none⟩) 1 c]) (I.setCell ⟨b,4,none⟩ sv'):=by
 have bP:=h.keep.size;have z1:=y.size;have bM:=M.size;rw[Oa7]at bM;have bi:=fun g e=>Je h.own (g:=g) e;have bh:=Jm hv.1;simp only at bh;have U:∀ k,k<H.heap.size->sv.ownBlock≠some k->I.heap[k]?=H.heap[k]?:=fun k y bH=>by rw[M.block k (by rw[Oa7];omega) (fun e=>bH e.symm),Oa9 _ _ k y]
 have Y:∀ k,k≠b->(I.setCell ⟨b,4,none⟩ sv').heap[k]?=I.heap[k]?:=fun k y=>Oa4 _ _ _ _ y;have bD:sv.ownBlock≠some b:=fun e=>by have:=bi b e;omega
 have bk:sv.ownBlock≠some g:=fun e=>by have:=bi g e;omega
 have bx:∀ k,k<H.heap.size->sv.ownBlock≠some k->sv'.ownBlock≠some k:=fun k y Z e=>by
  rcases bC with bf|bf
  ·exact Z (bf▸e)
  rw[bf]at e;simp at e;omega
 refine⟨Jl ho fun k e=>Y k (by have:=Je ho e;omega),?_,⟨M.os.trans (y.os.trans h.keep.os),M.tape.trans (y.tape.trans h.keep.tape),M.output.trans (y.output.trans h.keep.output),by rw[World.size_setCell];omega,fun k bG br=>?_⟩,fun j u K=>?_⟩
 ·exact Jk (((U b zo bD).trans (y.block b zo)).trans h.wk) 4 sv'
 ·rw[Y k br,U k zo (fun e=>by have:=bi k e;omega),y.block k zo];exact h.keep.block k bG br
 rw[Om7]at K;split at K
 ·obtain⟨g2,bJ,c2,bL,q1,q2,bz,bA,bB,bK⟩:=h.vals j u K;have hl:=Jm bz.1;simp only at hl;exact⟨g2,bJ,c2,bL,q1,q2,bz.of_block (by rw[Y g2 bA,U g2 zo bB,y.block g2 hl]),bA,bx g2 zo bB,bK⟩
 obtain rfl:j=O.length:=by
  have:=(Ob9.1 K).1;simp at this;omega
 simp at K;exact⟨g,o,c,v,K.symm,bE,hv.of_block (by rw[Y g Z,U g bh bk]),Z,bx g bh bk,zo⟩
def Jkp:List Pt:=[⟨0,0,0,0,Jf⟩,⟨1,0,0,1,⟨1,1,⟨#[]⟩⟩⟩,⟨2,0,1,0,Jf⟩]
def Qct:List V:=[⟨1,41,⟨#[]⟩⟩,⟨1,1,⟨#[]⟩⟩,⟨1,42,⟨#[]⟩⟩]
structure One (w:World) (b B gb cap:Nat):Prop where
 col:∃ bl ol cl:Nat,w.cell? ⟨gb,0,none⟩=some (.slice (some ⟨bl,ol,none⟩) 1 cl)/\VAt w bl ol ⟨1,41,⟨#[]⟩⟩/\bl≠b/\bl<B
 ne:gb≠b
 low:B<=w.heap.size
theorem One.keep {w w' b B K cap}(h:One w b B K cap)(y:Ju (·=b) w w'):One w' b B K cap:=by
 obtain⟨bl,U,cl,M,I,H,O⟩:=h.col;exact⟨⟨bl,U,cl,y.cell M h.ne,⟨y.cell I.1 H,y.cell I.2.1 H,y.cell I.2.2 H⟩,H,O⟩,h.ne,Ob2 h.low y.size⟩
theorem Qc4 {w wr X b B K cap ex er sv H I}(h:ExT w b B ex (.slice (some ⟨K,0,none⟩) 1 cap) er H Qct sv I wr)(hC:One w b B K cap)(y:Below wr.heap.size wr X){p}(hp:Jkp[I.length]?=some p):∃ v,Qct[I.length]?=some v/\Calls prog (Zv p.op) #[.pointer (some ⟨b,0,none⟩),p.val] X (Qb2 B b v X):=by
 obtain⟨bl,bz,cl,bh,bi,bj,bk⟩:=(hC.keep (h.keep.trans (Ju.of_below y))).col;have M:=h.wk.below y;match I,hp,h.vals,h.own with
 |[],hp,_,_=>cases hp;exact⟨_,rfl,Qdk B b K cap bl bz cl ex sv er H X M bh bi bj bk⟩
 |[_],hp,_,_=>cases hp;exact⟨_,rfl,Qcp B b ex _ sv er H X M⟩
 |[u0,u1],hp,hv,ho=>
  cases hp
  obtain⟨bf,br,c0,_,rfl,q1,q2,bC,bD,_⟩:=hv 0 u0 rfl;obtain⟨g1,bx,c1,_,rfl,bB,r2,bE,bG,_⟩:=hv 1 u1 rfl;cases q1
  cases bB
  obtain⟨a,cp,e,O⟩:=Ji8 ho;obtain⟨bA,rfl,_,U,_⟩:=O 0 _ rfl;obtain⟨_,Z,_,Y,_⟩:=O 1 _ rfl;cases Z
  subst e;exact⟨_,rfl,Qdo B b bA cp bf br c0 g1 bx c1 ex _ er H X M (Ja y U) (Ja y Y) (q2.low y) (r2.low y)⟩
attribute [local go_sem] Oc0
theorem Qc9 b B U cap sb sc ex er bL bi w(Y:Uz w b ex (.slice (some ⟨U,0,none⟩) 1 cap) bi 1 bL er)(hC:One w b B U cap)(bG:Jco w sb b Jkp):
  Calls prog 142 #[.pointer (some ⟨b,0,none⟩),.slice (some ⟨sb,0,none⟩) 3 sc] w fun e w'=>∃ (g o c:Nat) (cx:Value),e=.returned (.slice (some ⟨g,o,none⟩) 1 c)/\g≠b/\(g<B\/w.heap.size<=g)/\VAt w' g o ⟨1,42,⟨#[]⟩⟩/\Ju (·=b) w w'/\Uz w' b ex (.slice (some ⟨U,0,none⟩) 1 cap) bi 1 cx er:=by
 have c4:=Y.cells.2.2.2.2.1;have bE:=Y.thaw 4;have bW:=Jd Y;have bh:Hid (Uz w b ex (.slice (some ⟨U,0,none⟩) 1 cap) bi 1 bL er/\One w b B U cap/\Jco w sb b Jkp):=⟨Y,hC,bG⟩;clear Y hC bG;go_enter func142,ntmps142
 go_wp2;go_loopw [12] (fun i wr=>∃ (j:Nat) (sv:Value) (O:List Value),j<=3/\O.length=j/\i=.int .i64 (j:Int)/\Hid (ExT w b B ex (.slice (some ⟨U,0,none⟩) 1 cap) er bi Qct sv O wr)) (fun i _=>3-(intOf i).toNat)
 case atStart=>exact⟨0,.slice none 0 0,[],zo,rfl,rfl,Jo.nil _ _ _,Jk bh.out.1 4 _,Ju.set (F:=fun x=>x=b) (Ju.refl _ w) rfl 4 _,fun j u K=>by simp at K⟩
 case round=>
  obtain⟨j,sv,O,cF,hq,rfl,H⟩:=hrel;have br:=H.out.wk.cells.2.2.2.2.1;have cH:=H.out.keep.size;by_cases ca:j<3
  ·obtain⟨p,hp⟩:∃ p,Jkp[j]?=some p:=⟨_,Oa3 ca⟩;obtain⟨cy,x1,x2,cz,cA,cB,cC,bM⟩:=(bh.out.2.2.keep H.out.keep).step j p hp;have bf:=fun X Z=>Qc4 (X:=X) H.out bh.out.2.1 Z (hq▸hp);have bX:=Js0 p.op;generalize Zv p.op=f at bM bX bf;have bN:=Ks3 bf;have bC:=Ks3 hq;have j1:(0:Int)<=(j:Int):=zo;have j2:(j:Int)<3:=zo;have cf:∀ (a:Addr) (W:World),(store a (.func (.func f) #[.pointer (some ⟨b,0,none⟩)] #[])).run prog W=stored prog W a (.func (.func f) #[.pointer (some ⟨b,0,none⟩)] #[]) .plain:=fun a W=>run_store _ _ _ _ _ rfl;clear bf hp hq;go_upto_region 5 with fail
   generalize bx:wr.alloc _=A;have bD:A.heap[wr.heap.size]?=_:=bx▸heap_alloc_new wr _;have Z:Below wr.heap.size wr A:=bx▸Jc (Oa5 _ _) _;have cv:wr.heap.size<A.heap.size:=Jd bD;clear bx cy x1 x2 cz cA cB cC bM cf c4 bE;obtain⟨cu,bZ,ci,cj,cn⟩:=info_parts Jps;obtain⟨v,hv,bf⟩:=bN.out A.drew (Jj Z);refine Kt3 14 (S:=fun X=>X.cell? ⟨b,4,none⟩=some sv/\X.cell? ⟨wr.heap.size,0,none⟩=some (.int .i64 p.op)/\X.cell? ⟨wr.heap.size,1,none⟩=some (.int .i64 p.l)/\X.cell? ⟨wr.heap.size,2,none⟩=some (.int .i64 p.r)/\X.cell? ⟨wr.heap.size,3,none⟩=some (.int .i64 p.c)/\X.cell? ⟨wr.heap.size,4,none⟩=some (.int .i64 p.v.k)/\X.cell? ⟨wr.heap.size,5,none⟩=some (.int .i64 p.v.n)/\X.cell? ⟨wr.heap.size,6,none⟩=some (.string p.v.s)/\X.cell? ⟨wr.heap.size,7,none⟩=some (.func (.func f) #[.pointer (some ⟨b,0,none⟩)] #[])) zK ⟨Jh (Ja Z br),by refine⟨?_,?_,?_,?_,?_,?_,?_,?_⟩<;>(unfold World.cell?;rw[heap_drew,bD];rfl)⟩ (fun y=>?_);refine tkm 0 rfl y ?_;refine tkm 1 rfl y ?_;refine tkm 2 rfl y ?_;refine tkm 3 rfl y ?_;refine tkm 4 rfl y ?_;refine tkm 5 rfl y ?_;refine tkm 6 rfl y ?_;refine tkm 7 rfl y ?_;refine tkm 8 rfl y ?_;refine tkn ?_;refine Ksc 9 rfl (fun I hK=>?_);go_simp;refine bf.mono ?_;rintro e M ⟨g,o,c,rfl,bB,bz,bT,bj⟩;go_simp;refine hK.out _ _ (by simpa only[World.cell?,bj.block b (by rw[heap_drew];omega),bj.block wr.heap.size cv] using y) (fun y=>?_);clear hK I;have bk:Below wr.heap.size wr M:=Jb (Jj Z) bj;have z2:=bk.size;have cD:=bj.size;simp only[heap_drew]at cD;refine Ksc 10 rfl (fun I hK=>?_);go_simp;refine hK.out _ _ (by simpa only[World.cell?,Oa9 M _ b zo,Oa9 M _ wr.heap.size zo] using y) (fun y=>?_);clear hK I;have cb:=heap_alloc_new M (.cells #[.slice (some ⟨g,o,none⟩) 1 c] 30);have hq:=bC.out;have bJ:=fun g e=>Je H.out.own (g:=g) e;have bV:sv.ownBlock≠some b:=fun e=>by have:=bJ b e;omega
   refine Ksc 11 rfl (fun I hK=>?_);refine step_append_lies (M.alloc (.cells #[.slice (some ⟨g,o,none⟩) 1 c] 30)) rfl (.tmp 20) (.tmp 26) 77 rfl w.heap.size 30 cu (.slice none 0 0) 1 24 underlying77 bZ ci cj cn rfl zd sv O.length O rfl (Jo.alloc (H.out.own.below bk) _) ⟨M.heap.size,0,none⟩ 1 1 [.slice (some ⟨g,o,none⟩) 1 c] rfl rfl (fun j u K=>World.news_of_block cb j u (by simpa using K)) (fun u K=>by simp at K;subst K;rfl) zd (by unfold maxLen;omega) zo (by rw[Oa7];omega) (M.heap.size+1) zS (fun bS bP bO cc bA bU cG=>?_);have bH:=bA.block b (by rw[Oa7];omega) (fun e=>bV e.symm);refine hK.out _ _ (by simpa only[World.cell?,bH,bA.block wr.heap.size (by rw[Oa7];omega) (fun e=>by have:=bJ _ e.symm;omega)] using y) (fun y=>?_);clear hK I;have cJ:=y.1;have cE:bO.frozen? ⟨b,4,none⟩=false:=by have:=(H.out.wk.below bk).thaw 4;simpa only[World.frozen?,bH,Oa9 M _ b (by omega:b<M.heap.size)] using this
   have bY:=Ks3 (H.out.step bW bh.out.2.1.low bk (hq▸hv) bB (bz.imp id fun h=>by rw[heap_drew]at h;omega) bT (sv':=.slice (some ⟨bS,0,none⟩) (O.length+1) bP) (by rw[Jo,Oa8];exact cc) bA (bU.imp Eq.symm (congrArg some)));clear hq;simp only[Act.put,List.getElem_toArray,List.getElem_cons_zero,List.getElem_cons_succ,Oa1,List.set_cons_zero,List.set_cons_succ];refine Ksc 12 rfl (fun I hK=>?_);go_simp;refine hK.out _ _ y (fun y=>?_);clear hK I;refine Ksc 13 rfl (fun I hK=>?_);go_simp;refine hK.out _ _ y (fun y=>?_);clear hK I;refine Ktx rfl (fun I hK=>?_);go_simp;refine hK.out _ _ ?_;go_wp2;go_roundw
   case rel=>exact⟨j+1,_,_,zo,by simp[bC.out],zn,bY⟩
   case measure=>simp[intOf];omega
  obtain rfl:j=3:=zo;obtain⟨a,cp,e,bI⟩:=Ji8 H.out.own;obtain⟨u,K⟩:∃ u,O[2]?=some u:=⟨_,Oa3 zo⟩;obtain⟨g,o,c,v,rfl,bR,hv,bB,_,bz⟩:=H.out.vals 2 u K;cases bR
  obtain⟨bK,rfl,_,bQ,_⟩:=bI 2 _ K;rw[e,hq]at br;have hv:=Ks3 hv;have cI:IntKind.i64.wrap 2=2:=rfl;clear K bI e c4 bE hq;go_upto_region 7 with fail
  refine wp_region_held_drew (S:=fun X=>X.cell? ⟨b,4,none⟩=some (.slice (some ⟨bK,0,none⟩) 3 cp)/\X.cell? ⟨bK,2,none⟩=some (.slice (some ⟨g,o,none⟩) 1 c)) zK ⟨br,bQ⟩ (fun y=>?_);refine tkj 0 rfl y ?_;refine tkj 1 rfl y ?_;refine tkj 2 rfl y ?_;refine tkj 3 rfl y ?_;refine tkj 4 rfl y ?_;refine tkj 5 rfl y ?_;refine tkj 6 rfl y ?_;refine tkj 7 rfl y ?_;refine tkj 8 rfl y ?_;refine tkj 9 rfl y ?_;refine tkj 10 rfl y ?_;refine tkj 11 rfl y ?_;refine tkj 12 rfl y ?_;refine tkn ?_;refine wpAnyH_done zK ?_ _;go_wp2;go_returns
  exact⟨g,o,c,_,rfl,bB,bz,hv.out,H.out.keep.drewN 1,H.out.wk⟩
attribute [local go_sem] Oc0
def Kzt (w:World)(b y H:Nat):Prop:=(∃ (ba I er:Value) (f n:Int),Uz w b (.slice (some ⟨y,0,none⟩) 1 H) ba f n I er)/\y≠b/\∃ sb sc,w.cell? ⟨y,0,none⟩=some (.slice (some ⟨sb,0,none⟩) 3 sc)/\Jco w sb b Jkp/\b<y/\b<sb
theorem Kzt.move {w w' b H y}(h:Kzt w b H y)(O:∀ k c t f,b<=k->w.heap[k]?=some (.cells c t f)->w'.heap[k]?=some (.cells c t f)):Kzt w' b H y:=by
 obtain⟨⟨ba,bi,er,f,n,Z⟩,bh,sb,sc,U,I,Y,K⟩:=h;have M:∀ g o v,b<=g->w.cell? ⟨g,o,none⟩=some v->w'.cell? ⟨g,o,none⟩=some v:=fun g o v bf h=>by
  unfold World.cell? at h |-;split at h
  ·rename_i e
   rw[O _ _ _ _ bf e];exact h
  cases h
 refine⟨⟨ba,bi,er,f,n,O b _ _ _ (Oa2 _) Z⟩,bh,sb,sc,M _ _ _ zo U,⟨I.ne,fun j p hp=>?_⟩,Y,K⟩;obtain⟨bj,q1,q2,bk,br,bx,bz,bA⟩:=I.step j p hp;have:=fun o v=>M sb o v (Nat.le_of_lt K);exact⟨this _ _ bj,this _ _ q1,this _ _ q2,this _ _ bk,this _ _ br,this _ _ bx,this _ _ bz,this _ _ bA⟩
theorem eOn b B I cap Z Y M w(hR:Kzt w b Z Y)(hC:One w b B I cap):
  Calls prog 108 #[.pointer (some ⟨b,0,none⟩),.slice (some ⟨I,0,none⟩) 1 cap,.int .i64 M] w fun e w'=>∃ g2 cp g o c:Nat,e=.returned (.tuple #[.slice (some ⟨g2,0,none⟩) 1 cp,.nilIface])/\w.heap.size<=g2/\w'.cell? ⟨g2,0,none⟩=some (.slice (some ⟨g,o,none⟩) 1 c)/\(g<B\/w.heap.size<=g)/\VAt w' g o ⟨1,42,⟨#[]⟩⟩/\Ju (·=b) w w':=by
 obtain⟨⟨ba,bz,er,f,n,H⟩,bJ,sb,sc,bi,bh,_⟩:=hR;obtain⟨c0,c1,c2,c3,c4,c5⟩:=H.cells;have bC:=H.thaw 1;have bD:=H.thaw 2;have bE:=H.thaw 3;have bG:=H.thaw 5;have bR:=Jd H;obtain⟨bl,bW,cl,bj,_⟩:=hC.col;go_enter func108,ntmps108
 go_upto_region 2 with(first|(go_at_call 56;go_enter func56,ntmps56))
 generalize O:World.setCell _ _ _=A;have bx:Uz A b (.slice (some ⟨Z,0,none⟩) 1 Y) (.slice (some ⟨I,0,none⟩) 1 cap) M 1 bz .nilIface:=by rw[<-O];exact Jk (Jk (Jk (Jk H 1 _) 2 _) 3 _) 5 _
 have y:Ju (·=b) w A:=by rw[<-O];exact Ju.set (F:=fun x=>x=b) (Ju.set (F:=fun x=>x=b) (Ju.set (F:=fun x=>x=b) (Ju.set (F:=fun x=>x=b) (Ju.refl _ w) rfl 1 _) rfl 2 _) rfl 3 _) rfl 5 _
 have bK:=Qc9 b B I cap sb sc _ .nilIface bz M A bx (hC.keep y) (bh.keep y);have bS:=y.cell bi bJ;have bO:=bx.cells.1;have bU:=y.size;have y:=Ks3 y;clear O H bh hC c0 c1 c2 c3 c4 c5 bC bD bE bG bj bi;go_wp2;refine wp_loop_rounds 2 ?_;rw[rounds_succ];go_wp2_with (first|(go_at_call 142;refine bK.mono ?_;rintro e K ⟨g,o,c,bX,rfl,bT,bj,hv,bk,bM⟩;have bV:=bk.size)|(at_builtin;go_must (refine Ul zR _ _ 78 30 _ 24 Jps zR zd zK zR w.heap.size _ _ zR (Jo.nil _ _ _) ⟨K.heap.size,0,none⟩ 1 [.slice (some ⟨g,o,none⟩) 1 c] zR (by exact Ua K _ _) (by intro u br;simp at br;subst br;rfl) zS zt ?_);intro sv' bN bf bH bQ))
 rw[rounds_succ];have U:=Jy (sv:=.slice none 0 0) (Jc (Oa5 _ K) _) bH (fun k y=>by cases y);have bP:=(bM.below U).cells.2.2.2.2.2;obtain⟨a,cp,e,bI⟩:=Ji8 bf;obtain⟨g2,rfl,bA,bB,_⟩:=bI 0 _ rfl;have bL:=(Je bf bA).1;go_wp2;subst e;go_returns
 exact⟨g2,cp,g,o,c,rfl,bL,bB,zo,hv.low U,(y.out.trans bk).trans (Ju.of_below U)⟩
attribute [local go_sem] Oc0
theorem Qdi eb bE bV bL bM pc w(bI:w.cell? ⟨eb,bE,none⟩=some (.slice (some ⟨bL,bM,none⟩) 3 pc))(hp:∀ k p,Jkp[k]?=some p->Qi w bL (bM+k*7) p):
  Calls prog 106 #[.slice (some ⟨eb,bE,none⟩) 1 bV] w fun e w'=>Below w.heap.size w w'/\e=.returned (.pointer (some ⟨w.heap.size,0,none⟩))/\∃ bX bW,Kzt w' w.heap.size bX bW:=by
 have cR:∀ (f:Nat) (a:Addr) (X:World),(store a (.func (.func f) #[.pointer (some ⟨w.heap.size,0,none⟩)] #[])).run prog X=stored prog X a (.func (.func f) #[.pointer (some ⟨w.heap.size,0,none⟩)] #[]) .plain:=fun f a X=>run_store _ _ _ _ _ rfl;have hp:=Ks3 hp;go_enter func106,ntmps106
 go_wp2;generalize bG:World.alloc _ _=A;obtain⟨cZ,bZ,bh,Z⟩:=Qc6 w _ _ _ A bG;have cM:=Ja Z bI;have hK:∀ (k:Nat) (p:Pt),Jkp[k]?=some p->p.op=(k:Int)/\A.cell? ⟨w.heap.size+1+1,k,none⟩=some (.func (.func (Zv p.op)) #[.pointer (some ⟨w.heap.size,0,none⟩)] #[]):=fun k p h=>by
  simp only[World.cell?,bh];match k,h with
  |0,h=>cases h;exact⟨rfl,rfl⟩
  |1,h=>cases h;exact⟨rfl,rfl⟩
  |2,h=>cases h;exact⟨rfl,rfl⟩
 have hK:=Ks3 hK;clear bG bI bh;refine wp_loop_rounds 2 ?_;rw[rounds_succ];go_wp2;go_loopw [7,22] (fun s i wr=>∃ k:Nat,k<=3/\i=.int .i64 (k:Int)/\Hid (wr.ownsRow A.heap.size 268 8 s k ((Jkp.take k).flatMap (Jft w.heap.size)))/\Below A.heap.size A wr) (fun _ i _=>3-(intOf i).toNat)
 case atStart=>exact⟨0,zo,rfl,⟨rfl,.inl ⟨rfl,rfl⟩⟩,Oa5 _ _⟩
 case round=>
  obtain⟨k,cO,rfl,O,hb⟩:=hrel;have cS:=hb.size;by_cases cf:k<3
  ·obtain⟨p,br⟩:∃ p,Jkp[k]?=some p:=⟨_,Oa3 cf⟩;obtain⟨bN,x1,x2,cD,cE,cF,cG⟩:=(hp.out k p br).below (Jb Z hb);obtain⟨ho,M⟩:=hK.out k p br;replace M:=Ja hb M;have U:Jft w.heap.size p=[.int .i64 (k:Int),.int .i64 p.l,.int .i64 p.r,.int .i64 p.c,.int .i64 p.v.k,.int .i64 p.v.n,.string p.v.s,.func (.func (Zv p.op)) #[.pointer (some ⟨w.heap.size,0,none⟩)] #[]]:=by rw[<-ho];rfl
   rw[ho]at bN;generalize Zv p.op=f at M U;have U:=Ks3 U;have bQ:=Ks3 br;have cU:(0:Int)<=(k:Int):=zo;have cV:(k:Int)<3:=zo;have cW:(k:Int)<12:=zo;clear ho br;go_upto_region 10 with fail
   generalize bj:wr.alloc _=P;have bT:P.heap[wr.heap.size]?=_:=bj▸heap_alloc_new wr _;have bJ:Below wr.heap.size wr P:=bj▸Jc (Oa5 _ _) _;have bO:P.heap.size=wr.heap.size+1:=by rw[<-bj];simp
   clear bj bN x1 x2 cD cE cF cG;replace M:=Jh (Ja bJ M);obtain⟨cv,cc,cj,cn,cu⟩:=info_parts Jue;refine wp_region_held_drew (S:=fun X=>X.cell? ⟨w.heap.size+1+1,k,none⟩=some (.func (.func f) #[.pointer (some ⟨w.heap.size,0,none⟩)] #[])/\X.cell? ⟨wr.heap.size,0,none⟩=some (.int .i64 (k:Int))/\X.cell? ⟨wr.heap.size,1,none⟩=some (.int .i64 p.l)/\X.cell? ⟨wr.heap.size,2,none⟩=some (.int .i64 p.r)/\X.cell? ⟨wr.heap.size,3,none⟩=some (.int .i64 p.c)/\X.cell? ⟨wr.heap.size,4,none⟩=some (.int .i64 p.v.k)/\X.cell? ⟨wr.heap.size,5,none⟩=some (.int .i64 p.v.n)/\X.cell? ⟨wr.heap.size,6,none⟩=some (.string p.v.s)) zK ⟨M,by refine⟨?_,?_,?_,?_,?_,?_,?_⟩<;>(unfold World.cell?;rw[heap_drew,bT];rfl)⟩ (fun y=>?_);refine tkj 0 rfl y ?_;refine tkj 1 rfl y ?_;refine tkj 2 rfl y ?_;refine tkj 3 rfl y ?_;refine tkj 4 rfl y ?_;refine tkj 5 rfl y ?_;refine tkj 6 rfl y ?_;refine tkn ?_;refine tkr 7 rfl fun bx Y=>?_;go_simp;generalize bk:World.alloc _ _=X;have bU:X.heap[wr.heap.size+1]?=_:=bk▸bO▸heap_alloc_new P _;have bB:Below P.heap.size P X:=bk▸Jc (Oa5 _ _) _;have cH:X.heap.size=wr.heap.size+2:=by rw[<-bk,Oa7,bO]
   clear bk;refine Y.out _ _ (by simpa only[World.cell?,heap_drew,bB.block wr.heap.size zo,bB.block (w.heap.size+1+1) zo] using y) (fun y=>?_);clear Y bx;have bH:Below wr.heap.size wr X.drew:=Jj (Jb bJ bB);have bC:=fun g e=>Je O.out (g:=g) e;refine tkr 8 rfl fun bx Y=>?_;refine step_append_lies X.drew rfl (.tmp 26) (.tmp 33) 266 rfl A.heap.size 268 cv (.agg #[.int .i64 0,.int .i64 0,.int .i64 0,.int .i64 0,.int .i64 0,.int .i64 0,.string ⟨#[]⟩,.nilFunc]) 8 72 underlying266 cc cj cn cu rfl zd u7 k ((Jkp.take k).flatMap (Jft w.heap.size)) rfl (Jaw O.out bH) ⟨wr.heap.size+1,0,none⟩ 1 1 (Jft w.heap.size p) rfl rfl (fun j u H=>World.news_of_block (show X.drew.heap[wr.heap.size+1]?=_ from bU) j u (by rw[U.out]at H;simpa using H)) (fun u H=>by rw[U.out]at H;simp at H;rcases H with rfl|rfl|rfl|rfl|rfl|rfl|rfl|rfl<;>rfl) zd (by unfold maxLen;omega) zo (by rw[heap_drew];omega) (wr.heap.size+2) (by rw[heap_drew,cH]) (fun bY bR bf ci bA cL cP=>?_);refine Y.out _ _ (by simpa only[World.cell?,bA.block wr.heap.size (by rw[heap_drew];omega) (fun e=>by have:=bC _ e.symm;omega),bA.block (w.heap.size+1+1) (by rw[heap_drew];omega) (fun e=>by have:=bC _ e.symm;omega)] using y) (fun y=>?_);clear Y bx;simp only[Act.put,List.getElem_toArray,List.getElem_cons_zero,List.getElem_cons_succ,Oa1,List.set_cons_zero,List.set_cons_succ];refine tkj 9 rfl y ?_;refine tkn ?_;refine wpAnyH_done zK ?_ _;have bP:Hid (bf.ownsRow A.heap.size 268 8 (.slice (some ⟨bY,0,none⟩) (k+1) bR) (k+1) ((Jkp.take (k+1)).flatMap (Jft w.heap.size))):=by
    show World.ownsRow _ _ _ _ _ _ _;rw[Oi7,bQ.out,Oe8];simpa using ci
   have I:=Jy (Jb hb bH) bA fun g e=>(bC g e).1;go_wp2;go_roundw
   case rel=>exact⟨k+1,zo,zn,bP,I⟩
   case measure=>simp[intOf];omega
  obtain rfl:k=3:=zo;obtain⟨sb,sc,rfl⟩:∃ sb sc,u7=.slice (some ⟨sb,0,none⟩) 3 sc:=by
   obtain⟨_,⟨_,bz⟩|⟨sb,sc,cI,bi,_⟩⟩:=O.out
   ·cases bz
   exact⟨sb,sc,bi⟩
  have K:=(show Uz A w.heap.size _ _ _ _ _ _ from bZ).below hb;have c0:=K.cells.1;have cQ:=Je O.out rfl;have K:=Ks3 K;go_wp2_with (at_builtin;go_must (refine Ul zR _ _ 260 266 _ 24 Jsw zR zd zK zR wr.heap.size _ _ zR (Jo.nil _ _ _) ⟨wr.heap.size,0,none⟩ 1 [.slice (some ⟨sb,0,none⟩) 3 sc] zR (by exact Ua wr _ _) (by intro u H;simp at H;subst H;rfl) zS zS ?_);intro cJ bf bi bz cK;have I:=Jy (sv:=.slice none 0 0) (Jc (Oa5 _ wr) _) bz (fun k Z=>by cases Z);obtain⟨a,cp,e,ca⟩:=Ji8 bi;obtain⟨g2,rfl,bS,bh,_⟩:=ca 0 _ rfl;have cN:=(Je bi bS).1;subst e;have cX:=(K.out.below I).cells.1;have cY:=(K.out.below I).thaw 0)
  rw[rounds_succ];go_wp2;go_returns
  have bK:∀ g,g≠w.heap.size->∀ o v,bf.cell? ⟨g,o,none⟩=some v->(bf.setCell ⟨w.heap.size,0,none⟩ (.slice (some ⟨g2,0,none⟩) 1 cp)).cell? ⟨g,o,none⟩=some v:=fun g cb o v h=>Uc (fun e=>cb (congrArg Addr.block e).symm) h;have cT:=Jd K.out;refine⟨(Jb (Jb Z hb) I).setCell (Oa2 _) _,rfl,g2,cp,⟨_,_,_,_,_,Jk (K.out.below I) 0 _⟩,zo,sb,sc,bK g2 zo 0 _ bh,?_⟩;have bD:=Jnn (es:=Jkp) (b:=w.heap.size) (Jaw O.out I) zo;exact⟨⟨bD.ne,fun j p h=>by
   obtain⟨cx,q1,q2,cy,cz,cA,cB,cC⟩:=bD.step j p h;have:=bK sb bD.ne;exact⟨this _ _ cx,this _ _ q1,this _ _ q2,this _ _ cy,this _ _ cz,this _ _ cA,this _ _ cB,this _ _ cC⟩⟩,zo,zo⟩
attribute [local go_sem] Oc0
structure PrI (w:World) (db l wb tb rg eg ec:Nat) (pre:List Bat) (W:World):Prop where
 b1:W.heap[w.heap.size+1]?=some (.cells #[.slice none 0 0] 78 (0,0))
 b2:W.heap[w.heap.size+1+1]?=some (.cells #[.nilIface] 80 (0,0))
 bw:W.heap[wb]?=some (.cells #[.pointer (some ⟨w.heap.size+3,0,none⟩)] 210 (0,0))
 bt:W.heap[tb]?=some (.cells #[.slice (some ⟨rg,0,none⟩) 1 1] 78 (0,0))
 rd:pre=[]->Kzt W (w.heap.size+3) eg ec
 ct:∃ svs,Jar W rg rg svs [pre.map fun _=>⟨1,42,⟨#[]⟩⟩]/\∀ c,(Uq svs 0).ownBlock=some c->tb+3<=c
 keep:Ju (·=db) w W
 dn:W.heap[db]?=Jdc w db l
 size:tb+3<=W.heap.size
theorem Qbh (rb y k cQ l z:Nat)bu bl de df cR sc(op r:Int)tn ky(kk:Int)(eb cz cS cK cL pc g cap:Nat)hs w(hr:Jck w rb z bu bl de df cR sc (.slice (some ⟨y,0,none⟩) k cQ))(hl:l<k)(bj:w.cell? ⟨y,l,none⟩=some (.slice (some ⟨g,0,none⟩) 1 cap))(cW:w.frozen? ⟨y,l,none⟩=false)(cj:rb≠y)(cV:w.cell? ⟨eb,cz,none⟩=some (.slice (some ⟨cK,cL,none⟩) 3 pc))(hp:∀ k p,Jkp[k]?=some p->Qi w cK (cL+k*7) p)(dH:1<=z)(dJ:z<=100000)(hC:Qd w g hs [[⟨1,41,⟨#[]⟩⟩]])(cX:Jbo g hs 1 (fun b=>b≠y))(cY:Jbo g hs 1 (fun b=>b<w.heap.size)):
  Calls prog 74 #[.pointer (some ⟨rb,0,none⟩),.agg #[.int .i64 op,.int .i64 (l:Int),.int .i64 r,.string tn,.slice (some ⟨eb,cz,none⟩) 1 cS,ky,.int .i64 kk]] w fun e w'=>Ju (·=y) w w'/\∃ rg bA,e=.returned (.tuple #[.slice (some ⟨rg,0,none⟩) 1 1,.nilIface])/\w.heap.size<=rg/\Jar w' rg rg bA [[⟨1,42,⟨#[]⟩⟩]]/\w'.heap[y]?=Jdc w y l:=by
 have cf:=Jm bj;simp only at cf;have bL:=Ks3 (And.intro hr (And.intro hl (And.intro bj (And.intro cW cj))));have cN:=Ks3 (And.intro cV hp);have bh:=Ks3 (And.intro hC (And.intro cX cY));clear hr hl bj cW cj cV hp hC cX cY;refine(callsIn_wide (n:=3)).1 ?_;refine callsIn_of_wp_marks func74 rfl trivial ?_ rfl;simp only[ntmps74,Om3,List.length_cons,List.length_nil,Nat.reduceAdd,Nat.reduceSub,Ok9,Array.replicate_zero,Om4,Ol2,List.nil_append,List.cons_append];refine wpIn_wide.2 ?_;go_upto_region 1 with fail
 generalize Z:World.alloc _ _=cP;obtain⟨cH,bH,bT,bU,bf⟩:=Jur w _ _ _ cP Z;clear Z;have cJ:=zc 4 bH;have bP:=Qdi eb cz cS cK cL pc cP (Ja bf cN.out.1) (fun k p h=>(cN.out.2 k p h).below bf);rw[cH]at bP;go_upto_region 2 with(go_at_call 106;refine bP.mono ?_;rintro e I ⟨bx,rfl,cy,cx,bQ⟩)
 rw[<-cH]at bx;have dI:=bx.size;have cZ:w.heap.size+3<I.heap.size:=by obtain⟨⟨_,_,_,_,_,h⟩,_⟩:=bQ;exact Jd h
 generalize Z:I.alloc _=bM;have cv:bM.heap[I.heap.size]?=_:=Z▸heap_alloc_new I _;have bJ:Below I.heap.size I bM:=Z▸Jc (Oa5 _ _) _;have z2:bM.heap.size=I.heap.size+1:=by rw[<-Z,Oa7]
 replace bQ:=bQ.move (fun k _ _ _ _ h=>(bJ.block k (Jd h)).trans h);replace bx:=Jb bx bJ;replace bH:=(bx.block _ zo).trans bH;replace bT:=(bx.block _ zo).trans bT;replace bU:=(bx.block _ zo).trans bU;replace bf:=Jb bf bx;generalize I.heap.size=K at *;clear Z bP cJ cH bx bJ dI;have cJ:=zc 4 bH;have bP:=Jiz 1 bM zo;go_upto_region 3 with(go_at_call 80;refine bP.mono ?_;rintro e bG ⟨rfl,bk,bz⟩)
 have cI:=bk.row.lt;generalize Z:bG.alloc _=bN;have dl:bN.heap[bG.heap.size]?=_:=Z▸heap_alloc_new bG _;have cC:Below bG.heap.size bG bN:=Z▸Jc (Oa5 _ _) _;have dg:bN.heap.size=bG.heap.size+1:=by rw[<-Z,Oa7]
 replace bk:=bk.below cC;replace bz:=Jb bz cC;replace bQ:=bQ.move (fun k _ _ _ _ h=>(bz.block k (Jd h)).trans h);replace bH:=(bz.block _ zo).trans bH;replace bT:=(bz.block _ zo).trans bT;replace bU:=(bz.block _ zo).trans bU;replace cv:=(bz.block _ zo).trans cv;replace bf:=Jb bf bz;generalize bG.heap.size=tb at *;rw[z2]at bk cI;clear Z bP cJ z2 bz cC;have cO:Hid (w.heap.size+3<K/\K+1<tb/\bN.heap.size=tb+1/\y<w.heap.size):=⟨cZ,cI,dg,cf⟩;clear cZ cI dg;have dM:=zc 1 bH;have dN:=(bL.out.1.below bf).cells.1;have dA:=Jjb rb y k cQ l z bu bl de df cR sc (some ⟨g,0,none⟩) 1 cap bN.drew (bL.out.1.below (Jj bf)) bL.out.2.1 (Ja bf bL.out.2.2.1) (by rw[<-bL.out.2.2.2.1];exact Ol7 (bf.block y cf));have dt:=fun X=>Jh4 (.slice (some ⟨g,0,none⟩) 1 cap) (z:Int) (some ⟨g,0,none⟩) 1 cap rfl X;have dC:y≠w.heap.size:=zo;have cj:=bL.out.2.2.2.2;refine(wpIn_wide (n:=3)).1 (Code.wpIn_mono Jpf.imp ((wpIn_wide (n:=3)).2 (wp_region_held_drew (S:=fun X=>X.cell? ⟨w.heap.size,1,none⟩=some (.int .i64 (l:Int))/\X.cell? ⟨rb,0,none⟩=some (.int .i64 (z:Int))) zK ⟨dM,dN⟩ (fun Y=>?_))));refine tkj 0 rfl Y ?_;refine tkj 1 rfl Y ?_;refine tkj 2 rfl Y ?_;refine tkj 4 rfl Y ?_;refine tkj 5 rfl Y ?_;refine tkj 6 rfl Y ?_;refine tkj 7 rfl Y ?_;refine tkj 8 rfl Y ?_;refine tkn ?_;refine tkr 3 rfl fun bZ hK=>?_;go_simp;refine dA.mono ?_;rintro e ca ⟨rfl,bE⟩;replace bE:=Ks3 bE;go_simp;refine hK.out _ _ (by rw[bE.out];exact⟨Uc (fun e=>dC (congrArg Addr.block e)) Y.1,Uc (fun e=>cj (congrArg Addr.block e).symm) Y.2⟩) (fun Y=>?_);clear hK bZ;refine tkr 9 rfl fun bZ hK=>?_;go_simp;refine(dt ca).mono ?_;rintro e br ⟨rfl,cB⟩;have bV:Below ca.heap.size ca br:=by rw[cB];go_grown
 have bY:=Ks3 cB;clear cB;go_simp;refine hK.out _ _ ⟨Ja bV Y.1,Ja bV Y.2⟩ (fun Y=>?_);clear hK bZ;refine wpAnyH_done zK (Jpf.go ?_) _;go_wp2_with fail
 refine(wpIn_wide (n:=3)).1 ?_;have s1:ca.heap.size=tb+1:=by rw[bE.out,<-cO.out.2.2.1];simp
 rw[s1]at bV |-;have dH:=cO.out;have bR:∀ k,k<tb+1->k≠y->br.heap[k]?=bN.heap[k]?:=fun k H cE=>by
  rw[bV.block k H,bE.out,Oa4 _ _ _ _ cE];rfl
 have cD:Ju (·=y) w br:=by
  rw[bY.out,bE.out];exact Ju.alloc (Ju.alloc (Ju.set (F:=fun x=>x=y) (Ju.of_below (Jj bf)) rfl l _) _) _
 have s2:br.heap.size=tb+3:=by rw[bY.out,Oa7,Oa7,s1]
 have ds:PrI w y l K tb (K+1) cy cx [] br:=by
  refine⟨(bR _ zo zo).trans bT,(bR _ zo zo).trans bU,(bR _ zo zo).trans cv,(bR _ zo zo).trans dl,fun _=>bQ.move (fun k _ _ _ bi U=>(bR k (by have:=Jd U;omega) zo).trans U),⟨_,⟨bk.row.of_block (bR _ zo zo),bk.low,bk.len,fun i hi=>Jl (bk.own i hi) fun g e=>?_,bk.ne,bk.apart⟩,fun c e=>by cases e⟩,cD,?_,zo⟩
  ·match i,hi with
   |0,_=>cases e
  rw[bV.block y zo,bE.out];exact Jol (bf.block y cf)
 have dp:br.cell? ⟨tb+1,0,none⟩=some (.slice (some ⟨g,0,none⟩) 1 cap):=by rw[bY.out,<-s1];simp[go_sem]
 have dm:br.cell? ⟨tb+1+1,0,none⟩=some (.int .i64 (z:Int)):=by rw[bY.out,<-s1];simp[go_sem]
 have dr:Qd br g hs [[⟨1,41,⟨#[]⟩⟩]]:=bh.out.1.kp (Fx:=fun k=>k<w.heap.size/\k≠y) ⟨cD.size,fun k H=>cD.block k H.1 H.2⟩ ⟨⟨bh.out.2.2.1,bh.out.2.1.1⟩,fun j O b o e=>⟨bh.out.2.2.2 j O b o e,bh.out.2.1.2 j O b o e⟩⟩;have cc:ckN 1 z=1:=by unfold ckN;rw[Nat.add_comm,Nat.add_sub_cancel];exact Nat.div_self zo
 apply Jg8 rfl zo (gf:=141) (lb:=#[.pointer (some ⟨tb+1,0,none⟩),.pointer (some ⟨tb+1+1,0,none⟩)]) rfl trivial (enters_of func141 zK rfl)
  (Jjx 2 zo (tb+1) (tb+1+1) g cap hs [[⟨1,41,⟨#[]⟩⟩]] 1 z zo dJ zo zS zS br dr (fun j O=>by match j,O with|0,_=>rfl) dp dm (fun k=>k=tb+1\/k=tb+1+1\/(k<w.heap.size/\k≠y)) ⟨.inl rfl,.inr (.inl rfl),.inr (.inr ⟨bh.out.2.2.1,bh.out.2.1.1⟩),fun j O b o e=>.inr (.inr ⟨bh.out.2.2.2 j O b o e,bh.out.2.1.2 j O b o e⟩)⟩ (fun k H=>zo))
  (fun h k=>h.trans k) ?hKb (Oa5 _ _) (fun _=>rfl) (fun cM W=>PrI w y l K tb (K+1) cy cx cM W) (fun _ _ _=>False) ?hI (fun _ _ _ _ _ h=>h.elim) ?hR ds _ ?assign ?body ?done (fun _ _ _ _ _ _ h=>h.elim)
 case assign=>
  intro l x W bZ hK;gi_wp2
  exact hK
 case hKb=>
  intro W l o dd hl ho _ _;exact⟨zS,fun k H=>World.putObj_heap_other zo⟩
 case hI=>
  intro s W di row h bS hr;have H:=CK.of_grown bS fun r e=>(hr r e).2;obtain⟨bA,bj,hs⟩:=h.ct;have:=h.size;exact⟨H.cells _ _ _ _ h.b1,H.cells _ _ _ _ h.b2,H.cells _ _ _ _ h.bw,H.cells _ _ _ _ h.bt,fun e=>(h.rd e).move fun k c t f _ h=>H.cells k c t f h,⟨bA,bj.ck H,hs⟩,Jau h.keep bS fun r e=>by have:=(hr r e).1;omega,(bS.block y zo (fun e=>by have:=(hr y e.symm).1;omega)).trans h.dn,Ob2 h.size bS.size⟩
 case hR=>
  rintro x W di row ⟨bi,U,bC,bO⟩ bS hr;exact⟨bi,U,bC,bO.ck (CK.of_grown bS fun r e=>(hr r e).2)⟩
 case body=>
  rintro dc cM ⟨f,m,gx⟩ W hI ⟨dD,⟨dE,_⟩,dG,cn⟩ dy;rw[cc]at dy;obtain rfl:cM=[]:=Od3.1 zo;simp only at dD dE dG cn;obtain⟨rfl,rfl⟩:f=0/\m=1:=zo;have cT:One W (w.heap.size+3) w.heap.size gx 1:=by
   obtain⟨dU,dV,cU,_⟩:=(bh.out.1.vals 0 zS).at (i:=0) zS;obtain⟨bl,dO,hb,_,hv⟩:=(cn.vals 0 zS).at (i:=0) zd;have e:=Jmn zS cU hb;have fd:=bh.out.2.2.2 0 zS _ _ cU;have bj:=cn.row.cell (i:=0) zS;rw[hb]at bj;exact⟨⟨bl,dO,_,bj,hv,zo,zo⟩,zo,hI.keep.size⟩
  have dx:=eOn (w.heap.size+3) w.heap.size gx 1 cy cx 0 W (hI.rd rfl) cT;have cw:W.cell? ⟨K,0,none⟩=some (.pointer (some ⟨w.heap.size+3,0,none⟩)):=by simp[World.cell?,hI.bw]
  obtain⟨bA,M,bW⟩:=hI.ct;have ff:=hI.size;have cF:∀ b,(Uq bA 0).ownBlock=some b->tb+3<=b/\b<W.heap.size:=fun b e=>⟨bW b e,(Je (M.own 0 zS) e).2⟩;have cb:∀ (I:World) (g2 cp g o c:Nat),Ju (·=w.heap.size+3) W I->W.heap.size<=g2->I.cell? ⟨g2,0,none⟩=some (.slice (some ⟨g,o,none⟩) 1 c)->(g<w.heap.size\/W.heap.size<=g)->VAt I g o ⟨1,42,⟨#[]⟩⟩->Calls prog 110 #[.slice (some ⟨K+1,0,none⟩) 1 1,.slice (some ⟨g2,0,none⟩) 1 cp] I fun e w'=>e=.returned (.tuple #[])/\(∃ cu,Jar w' (K+1) (K+1) cu [[⟨1,42,⟨#[]⟩⟩]]/\∀ c,(Uq cu 0).ownBlock=some c->tb+3<=c)/\Below (K+1) I w'/\I.heap.size<=w'.heap.size/\∀ x,x<I.heap.size->x≠K+1->(Uq bA 0).ownBlock≠some x->w'.heap[x]?=I.heap[x]?:=fun I g2 cp g o c H bi U bC bO=>by
   have fi:=H.size;have:=Jm U;simp only at this;refine(Kb4 (K+1) (K+1) 1 bA [[]] g2 cp [(some ⟨g,o,none⟩,c)] [[⟨1,42,⟨#[]⟩⟩]] I ⟨M.row.of_block (H.block _ M.row.lt (by show ¬ K+1=w.heap.size+3;omega)),M.low,M.len,fun i hi=>Jl (M.own i hi) fun b e=>?_,M.ne,M.apart⟩ ⟨this,fun j O=>?_,fun j O=>?_⟩ rfl (fun j O=>?_) zo zS (fun j b O e=>?_) ⟨zo,fun k dj dd H e=>?_⟩).mono fun e w' ⟨q1,⟨cu,q2,dP⟩,dQ,dR,dS⟩=>⟨q1,⟨cu,q2,fun c e=>?_⟩,dQ,dR,fun x bi U bC=>dS x bi U fun j O=>?_⟩
   ·match i,hi with
    |0,_=>
     have:=cF b e;exact H.block b this.2 (by show ¬ b=w.heap.size+3;omega)
   ·match j,O with
    |0,_=>exact U
   ·match j,O with
    |0,_=>exact .inr ⟨g,o,rfl,Jm bO.1,fun i v hi=>by
     match i,hi with
     |0,hi=>cases hi;exact bO⟩
   ·match j,O with
    |0,_=>decide
   ·match j,O with
    |0,_=>
     have:=cF b e;refine⟨zo,fun k dj dd H e=>?_⟩;match k,H with
     |0,_=>cases e;omega
   ·match k,H with
    |0,_=>cases e;omega
   ·rcases dP 0 c zS e with h|h
    ·exact bW c h
    omega
   match j,O with
   |0,_=>exact bC
  have dB:=Ks3 fun b e=>Ja4 (M.own 0 zS) (g:=b) e;have dh:=Ks3 cb;have bX:=Ks3 hI;clear cb hI M bW cn cT;gi_wp2_with (first|(refine⟨trivial,?_⟩;gi_at_call 108;refine(CallsIn.inRound dc (callsIn_wide.2 dx)).mono ?_;rintro e I ⟨g2,cp,dq,o,c,rfl,bi,U,bC,bO,bD⟩;have ct:=bD.cell (show W.cell? ⟨tb,0,none⟩=some (.slice (some ⟨K+1,0,none⟩) 1 1) by simp[World.cell?,bX.out.bt]) (by show ¬ tb=w.heap.size+3;omega);have cb:=dh.out I g2 cp dq o c bD bi U bC bO)|(refine⟨trivial,?_⟩;gi_at_call 110;refine(CallsIn.inRound dc (callsIn_wide.2 cb)).mono ?_;rintro e bM ⟨rfl,du,bJ,fe,da⟩))
  have fc:=bD.size;have bK:∀ k,k<tb+3->k≠K+1->k≠w.heap.size+3->bM.heap[k]?=W.heap[k]?:=fun k bi U bC=>by rw[da k zo U (fun e=>by have:=cF k e;omega),bD.block k zo bC]
  have hh:=bX.out;refine⟨⟨zo,fun k o H ho bj=>?_⟩,⟨zo,fun k H=>bK k zo zo zo⟩,(bK _ zo zo zo).trans hh.b1,(bK _ zo zo zo).trans hh.b2,(bK _ zo zo zo).trans hh.bw,(bK _ zo zo zo).trans hh.bt,(fun e=>by cases e),du,⟨bJ.os.trans (bD.os.trans hh.keep.os),bJ.tape.trans (bD.tape.trans hh.keep.tape),bJ.output.trans (bD.output.trans hh.keep.output),by have:=hh.keep.size;omega,fun k H cE=>(bK k zo zo zo).trans (hh.keep.block k H cE)⟩,(bK y zo zo zo).trans hh.dn,zo⟩;rw[da k (by have:=Jd ho;omega) zo (fun e=>?_),bD.block k (Jd ho) (by show ¬ k=w.heap.size+3;omega)]
  ·exact ho
  obtain⟨dW,h⟩:=dB.out k e;rw[h]at ho;cases ho
  cases bj
 case done=>
  rintro D dT W dZ db hI hK;have hy:dT.length=1:=by have:=congrArg List.length db;rw[Oa6,Jbp,cc]at this;exact this
  obtain⟨fg,rfl⟩:=List.length_eq_one_iff.1 hy;have c2:W.cell? ⟨w.heap.size+1,0,none⟩=some (.slice none 0 0):=by simp[World.cell?,hI.b1]
  have dX:=Lib.frozen_of_heap hI.b1 0;have c3:W.cell? ⟨w.heap.size+1+1,0,none⟩=some .nilIface:=by simp[World.cell?,hI.b2]
  have dY:=Lib.frozen_of_heap hI.b2 0;have c4:W.cell? ⟨tb,0,none⟩=some (.slice (some ⟨K+1,0,none⟩) 1 1):=by simp[World.cell?,hI.bt]
  have bX:=Ks3 hI;clear hI db hy;go_wp2_with fail
  have cA:=((KeepsOthers.setCell W ⟨w.heap.size+1,0,none⟩ (.slice (some ⟨K+1,0,none⟩) 1 1)).trans (KeepsOthers.setCell _ ⟨w.heap.size+1+1,0,none⟩ .nilIface)).same D _ hK rfl;refine⟨zS,.inl ⟨_,_,rfl,run_takeDeferred cA,?_⟩⟩;have hI:=bX.out;generalize bI:(W.setCell ⟨w.heap.size+1,0,none⟩ _).setCell _ _=bB at cA |-;have ci:∀ k,k≠w.heap.size+1->k≠w.heap.size+1+1->bB.heap[k]?=W.heap[k]?:=fun k bi U=>by rw[<-bI,Oa4 _ _ _ _ U,Oa4 _ _ _ _ bi]
  have g1:bB.heap[w.heap.size+1]?=_:=bI▸(Oa4 _ _ _ _ zS).trans (Jk hI.b1 0 _);have g2:bB.heap[w.heap.size+1+1]?=_:=bI▸Jk ((Oa4 _ _ _ _ zS).trans hI.b2) 0 _;have fh:bB.heap.size=W.heap.size:=by rw[<-bI];simp
  have fj:=hI.keep.size;have cG:∀ k,k≠D->(bB.putObj D (.deferred none)).heap[k]?=bB.heap[k]?:=fun k h=>World.putObj_heap_other h;have dK:=(cG (w.heap.size+1) zo).trans g1;have dL:=(cG (w.heap.size+1+1) zo).trans g2;refine⟨.tuple #[.slice (some ⟨K+1,0,none⟩) 1 1,.nilIface],by simp[results,Tryz.f74,go_sem,World.cell?,dK,dL],?_⟩;obtain⟨bA,M,bW⟩:=hI.ct;have dv:Ju (·=y) w bB:=⟨by rw[<-bI];exact hI.keep.os,by rw[<-bI];exact hI.keep.tape,by rw[<-bI];exact hI.keep.output,zo,fun k H dw=>(ci k zo zo).trans (hI.keep.block k H dw)⟩;have cc:=CK.of_grown (grownBy_putObj' bB D (.deferred none)) fun r e=>by cases e;exact⟨_,cA,rfl⟩
  exact⟨Jau dv (grownBy_putObj' _ D (.deferred none)) (fun r e=>by cases e;omega),K+1,bA,rfl,zo,Jar.ck ⟨M.row.of_block (ci _ zo zo),M.low,M.len,fun i hi=>Jl (M.own i hi) fun b e=>by
   match i,hi with
   |0,_=>
    have:=bW b e;exact ci b zo zo,M.ne,M.apart⟩ cc,(cG y zo).trans ((ci y zo zo).trans hI.dn)⟩
attribute [local go_sem] Oc0
theorem Qcz tb bh Y j U O p w(hp:Jkp[j]?=some p)(H:Jg6 w tb (.slice U 1 bh) (.slice O j Y))(hC:Kc w U [1])(I:Kc w O (List.replicate j 1)):Calls prog 174 #[.pointer (some ⟨tb,0,none⟩),p.val] w (TyP w 1):=by
 have bB:∀ (f:Nat) (a:Addr) (X:World),(store a (.func (.func f) #[.pointer (some ⟨tb,0,none⟩)] #[])).run prog X=stored prog X a (.func (.func f) #[.pointer (some ⟨tb,0,none⟩)] #[]) .plain:=fun f a X=>run_store _ _ _ _ _ rfl;have M:∃ f k:Nat,p.op=(k:Int)/\k<3/\f=(if k=0 then 255 else if k=1 then 256 else 257)/\(∀ (args:Array Value) (W:World),(callFunc f args).run prog W=.ok (.enter f args) W)/\∀ X,Below w.heap.size w X->Calls prog f #[.pointer (some ⟨tb,0,none⟩),p.val] X (TyP X 1):=by
  match j,hp,H,I with
  |0,hp,H,I=>cases hp;exact⟨_,0,rfl,zo,rfl,fun _ _=>zK,fun X K=>Jtu tb _ O Y [] _ U bh 0 [1] rfl rfl zS X ((K.block _ (Jd H)).trans H) (hC.below K)⟩
  |1,hp,H,I=>cases hp;exact⟨_,1,rfl,zo,rfl,fun _ _=>zK,fun X K=>Jpx tb _ X zd zd (by unfold okV;simp[okB,okK])⟩
  |2,hp,H,I=>cases hp;exact⟨_,2,rfl,zo,rfl,fun _ _=>zK,fun X K=>Jtk tb _ O Y [1,1] _ 0 rfl zS 1 rfl zS rfl rfl X ((K.block _ (Jd H)).trans H) (I.below K)⟩
 obtain⟨f,k,ho,bx,Z,bA,M⟩:=M;rw[Pt.val,ho]at M |-;clear hp H hC I ho;replace M:=Ks3 M;have bC:(0:Int)<=(k:Int):=zo;have bD:(k:Int)<12:=zo;have bE:¬ (k:Int)<0:=zo;replace Z:=Ks3 Z;go_enter func174,ntmps174
 go_wp2;generalize bi:World.alloc _ _=A;obtain⟨bG,bk,br,hb⟩:=Qc6 w _ _ _ A bi;have ck:A.cell? ⟨w.heap.size+1+1,k,none⟩=some (.func (.func f) #[.pointer (some ⟨tb,0,none⟩)] #[]):=by
  simp only[World.cell?,br];rw[Z.out];match k,bx with
  |0,_=>rfl
  |1,_=>rfl
  |2,_=>rfl
 clear bi;refine wp_region_held_drew (S:=fun X=>X.cell? ⟨w.heap.size+1+1,k,none⟩=some (.func (.func f) #[.pointer (some ⟨tb,0,none⟩)] #[])/\X.cell? ⟨w.heap.size,0,none⟩=some (.int .i64 (k:Int))/\X.cell? ⟨w.heap.size,1,none⟩=some (.int .i64 p.l)/\X.cell? ⟨w.heap.size,2,none⟩=some (.int .i64 p.r)/\X.cell? ⟨w.heap.size,3,none⟩=some (.int .i64 p.c)/\X.cell? ⟨w.heap.size,4,none⟩=some (.int .i64 p.v.k)/\X.cell? ⟨w.heap.size,5,none⟩=some (.int .i64 p.v.n)/\X.cell? ⟨w.heap.size,6,none⟩=some (.string p.v.s)) zK ⟨ck,by refine⟨?_,?_,?_,?_,?_,?_,?_⟩<;>(unfold World.cell?;rw[heap_drew,bk];rfl)⟩ (fun y=>?_);refine tkj 0 rfl y ?_;refine tkj 1 rfl y ?_;refine tkj 2 rfl y ?_;refine tkj 3 rfl y ?_;refine tkj 4 rfl y ?_;refine tkn ?_;refine tkr 5 rfl fun bj hK=>?_;go_simp;refine(M.out A.drew (Jj hb)).mono ?_;rintro e bz ⟨rfl,bf⟩;go_simp;refine hK.out _ _ (by simpa only[World.cell?,bf.block w.heap.size (by rw[heap_drew];omega),bf.block (w.heap.size+1+1) (by rw[heap_drew];omega)] using y) (fun y=>?_);clear hK bj;refine tkj 6 rfl y ?_;refine tkj 7 rfl y ?_;refine tkj 8 rfl y ?_;refine tkj 9 rfl y ?_;refine tkn ?_;refine wpAnyH_done zK ?_ _;go_wp2;go_returns
 exact⟨rfl,Jb (Jj hb) bf⟩
theorem Qc5 bB bC pc M I w(br:∀ k p,Jkp[k]?=some p->Qi w bB (bC+k*7) p)(hC:Kc w I [1]):Calls prog 132 #[.slice (some ⟨bB,bC,none⟩) 3 pc,.slice I 1 M] w fun e w'=>e=.returned (.tuple #[.int .i64 1,.nilIface])/\Below w.heap.size w w':=by
 have bi:=Ks3 (And.intro br hC);clear br hC;go_enter func132,ntmps132
 go_upto_region 4 with fail
 generalize Z:w.alloc _=A;have Y:Jg6 A w.heap.size (.slice I 1 M) (.slice none 0 0):=Z▸heap_alloc_new w _;have hb:Below w.heap.size w A:=Z▸Jc (Oa5 _ _) _;clear Z;replace Y:=Ks3 Y;go_wp2;go_loopw [28] (fun i wr=>∃ (j:Nat) (ev:Value),j<=3/\i=.int .i64 (j:Int)/\Hid (Jg6 wr w.heap.size (.slice I 1 M) ev/\Jo wr (w.heap.size+1) 3 ev ((List.replicate j 1).map iv))/\Below w.heap.size w wr) (fun i _=>3-(intOf i).toNat)
 case atStart=>exact⟨0,_,zo,rfl,⟨Y.out,Jo.nil _ _ _⟩,hb⟩
 case round=>
  obtain⟨j,ev,bM,rfl,H,hb⟩:=hrel;obtain⟨bE,bj,bx,O⟩:=H.out.2.cells;rw[Oa6,Od6]at bx;subst bx;have bh:=Jd H.out.1;by_cases bG:j<3
  ·obtain⟨p,hp⟩:∃ p,Jkp[j]?=some p:=⟨_,Oa3 bG⟩;obtain⟨bP,bQ,bR,bS,bT,bU,bV⟩:=(bi.out.1 j p hp).below hb;have bH:=fun X (bf:Below wr.heap.size wr X)=>Qcz w.heap.size M bj j I bE p X hp ((bf.block _ bh).trans H.out.1) (bi.out.2.below (Jb hb bf)) (Uh.below O bf);have j1:(0:Int)<=(j:Int):=zo;have j2:(j:Int)<3:=zo;clear hp O;go_wp2_with (first|(go_at_call 174;refine(bH _ (by go_grown)).mono ?_;rintro e U ⟨rfl,bJ⟩;have K:=Jb (show Below wr.heap.size wr _ by go_grown) bJ;have c1:=(show Jg6 U w.heap.size _ _ from (K.block _ bh).trans H.out.1).cells.2;have z1:=K.size)|(at_builtin;go_must (refine Ks zR _ _ 22 3 _ 8 Zw zR zd zK zR (w.heap.size+1) _ _ zR (Jo.alloc (H.out.2.below K) _) ⟨U.heap.size,0,none⟩ 1 [iv 1] zR (by exact Ua U _ _) (by intro u bA;simp at bA;subst bA;rfl) zt zt ?_);intro sv bD q1 q2 bO;have ht:=(show Jg6 bD w.heap.size _ _ from (q2.block _ zt (fun e=>by have:=Je H.out.2 e.symm;omega)).trans ((Oa9 _ _ _ zo).trans ((K.block _ bh).trans H.out.1)));have c2:=ht.cells.2;have bL:=Lib.frozen_of_heap ht 1;obtain⟨bK,c5,bz,_⟩:=q1.cells;rw[Oa8,Oa6,Od6]at bz;subst bz;have ht:=Ks3 ht))
   refine⟨⟨j+1,_,zo,zn,⟨Jk ht.out 1 _,?_⟩,?_⟩,by simp[intOf];omega⟩
   ·rw[List.replicate_succ',Ob8];exact Jl q1 fun g e=>Oa4 _ _ _ _ (by have:=Je q1 e;simp;omega)
   exact(Jy (Jc (Jb hb K) _) q2 (fun k e=>by have:=Je H.out.2 e;omega)).setCell (Oa2 _) _
  obtain rfl:j=3:=zo;obtain⟨eb,bk,rfl,_,bI⟩:=Kc.at (ns:=[1,1,1]) O (i:=2) zS;have c1:=H.out.1.cells.2;have bN:IntKind.i64.wrap 2=2:=rfl;clear O;go_upto_region 12 with fail
  refine wp_region_held_drew (S:=fun X=>X.cell? ⟨w.heap.size,1,none⟩=some (.slice (some ⟨eb,bk,none⟩) 3 bj)/\X.cell? ⟨eb,bk+2,none⟩=some (.int .i64 1)) zK ⟨Jh c1,Jh bI⟩ (fun y=>?_);refine tkj 0 rfl y ?_;refine tkj 1 rfl y ?_;refine tkj 2 rfl y ?_;refine tkj 3 rfl y ?_;refine tkj 4 rfl y ?_;refine tkj 5 rfl y ?_;refine tkj 6 rfl y ?_;refine tkj 7 rfl y ?_;refine tkj 8 rfl y ?_;refine tkj 9 rfl y ?_;refine tkj 10 rfl y ?_;refine tkj 11 rfl y ?_;refine tkj 12 rfl y ?_;refine tkj 13 rfl y ?_;refine tkn ?_;refine wpAnyH_done zK ?_ _;go_wp2;go_returns
  exact⟨rfl,Jj hb⟩
attribute [local go_sem] Oc0
theorem Qdd (L I:Nat)bf ev(ks:List Kn)(nd:Nd)(i eb bh bK:Nat)w(h:Jed L I bf ev ks w)(hl:nd.l=(i:Int))(hi:i<ks.length)(bC:ks[i].2=false)(hs:ks[i].1.2.2=[1])(bk:nd.xs=(some ⟨eb,bh,none⟩,1,bK))(bz:∀ X,w.grownBy X ev.ownBlock->Jaz X eb bh [Jkp]):
  Calls prog 100 #[.pointer (some ⟨I,0,none⟩),nd.val] w (Jq3 L I bf ev (ks.set i (ks[i].1,true)) [1] w):=by
 have Y:Below w.heap.size w (Jam w nd):=Jc (Oa5 _ _) _;have hq:=Jh0 w nd;have bj:=Jr1 L I bf ev ks i (Jam w nd) (h.below Y) hi bC;have bD:ev.ownBlock≠some w.heap.size:=fun e=>by have:=(Je h.own e).2;omega
 have br:Hid (∀ X,Jed L I bf ev (ks.set i (ks[i].1,true)) X->(Jam w nd).grownBy X ev.ownBlock->∃ y H pc,X.cell? ⟨eb,bh,none⟩=some (.slice (some ⟨y,H,none⟩) 3 pc)/\Calls prog 132 #[.slice (some ⟨y,H,none⟩) 3 pc,Jbl ks[i].1] X fun bL w'=>bL=.returned (.tuple #[.int .i64 1,.nilIface])/\Below X.heap.size X w'):=fun X bM bN=>by
  obtain⟨y,H,pc,q1,q2⟩:=bz X (Ut (Qq Y) bN) 0 Jkp rfl;have K:=bM.ints (ks[i].1,true) (List.mem_set hi _);simp only[hs]at K;rw[Jbl,hs];exact⟨y,H,pc,q1,Qc5 y H pc _ _ X q2 K⟩
 have M:Hid (Zm (Jam w nd) w.heap.size 0 nd/\ev.ownBlock≠some w.heap.size/\Below w.heap.size w (Jam w nd)):=⟨hq,bD,Y⟩;have bH:=hq.2.1;rw[hl,Od0]at bH;replace bk:=Ks3 bk;have bT:=run_neq_nil_nil (P:=prog);obtain⟨s,bE⟩:∃ s,s=ks[i].1:=⟨_,rfl⟩;rw[<-bE]at bj br |-;clear bE hl hq bD Y h bC bz hs;go_enter func100,ntmps100
 go_upto_region 2 with(go_at_call 131;refine bj.mono ?_;rintro bJ U ⟨rfl,bi,Z,bU⟩)
 have bI:=(Jmi M.out.1 Z M.out.2.1).2.2.2.2.1;rw[bk.out,Od0]at bI;simp only at bI;obtain⟨y,H,pc,q1,bQ⟩:=br.out U bi Z;have O:=Ks3 (And.intro bi Z);clear bi Z bj bH;go_wp2;refine wp_loop_rounds 2 ?_;rw[rounds_succ];go_wp2_with (first|(go_at_call 132;refine bQ.mono ?_;rintro bJ bx ⟨rfl,bA⟩)|(at_builtin;go_must (refine Ks zR _ _ 22 3 _ 8 Zw zR zd zK zR U.heap.size _ _ zR (Jo.nil _ _ _) ⟨bx.heap.size,0,none⟩ 1 [iv 1] zR (by exact Ua bx _ _) (by intro u bG;simp at bG;subst bG;rfl) zS (by simp;have:=bA.size;omega) ?_);intro sv' w4 q1 q2 bW))
 rw[rounds_succ];go_wp2;have bB:Below U.heap.size U w4:=Jy (sv:=.slice none 0 0) (Jc bA _) q2 (fun k bP=>by cases bP);obtain⟨a,cp,e,K⟩:=q1.cells;obtain⟨g,o,rfl,bO,_⟩:=Kc.at (ns:=[1]) K (i:=0) zS;subst e;have bS:=Je q1 (g:=g) rfl;go_returns
 refine⟨some ⟨g,o,none⟩,cp,rfl,O.out.1.below bB,Ut (Ut (Qq M.out.2.2) O.out.2) (Qq bB),K,fun bR bV e=>?_⟩;cases e
 exact⟨fun e=>by have:=(Je O.out.1.own e).2;omega,by have:=Jd O.out.1.ck;omega,bO,.inl (by have:=M.out.2.2.size;omega)⟩
end
open Go.RowKit Go.Shelf
theorem Qb6 {E T rs}(ht:Jer E T rs)(bh:Jel T.name T.types rs)(bf:∀ r∈rs,∀ v∈r,Jg v.n):
  ∃ cs,Zo E T=.inl cs/\Zt T.types cs/\nR cs=rs.length/\∀ i,i<rs.length->Ji cs i=rs.getD i []:=by
 have I:Jid E T:=ht.ok;obtain⟨O,U⟩:=Jmq E T I.group.1;have hr:=ht.read;rw[O]at hr;cases hc:Zo E T with
 |inr j=>rw[hc]at hr;cases hr
 |inl cs=>
  rw[hc]at hr;obtain⟨q1,q2⟩:=U cs hc;have K:Qf T.rows cs=rs:=by simpa using hr
  have hlen:T.rows=rs.length:=by rw[<-K,Uu]
  have bk:=I.cols;have H:nR cs=rs.length:=by
   unfold nR;rw[q2 0 (by rw[q1];omega),hlen]
  have M:∀ i,i<rs.length->Ji cs i=rs.getD i []:=fun i hi=>by
   have:=Jge T.rows cs i zo;rw[K]at this;rw[Oa0,this];rfl
  refine⟨cs,rfl,⟨q1,zo,zo,fun j y=>by rw[H,q2 j y,hlen],by have:=I.rows;omega,fun i hi=>?_⟩,H,M⟩;rw[H]at hi;rw[M i hi];have Y:rs.getD i []=rs[i]:=by rw[Oa0,Oa3 hi];rfl
  rw[Y];obtain⟨bi,bj⟩:=bh.2.2.2 i hi;refine⟨bi,fun j y=>?_,bf _ (Ob3 hi)⟩;have:=bj j y;have Z:rs[i].getD j Jf=rs[i][j]:=by rw[Oa0,Oa3 y];rfl
  rw[Z];exact this
theorem Kff {E T rs}(h:Jbc E [(T,rs)])(K:Jel T.name T.types rs)(I:∀ r∈rs,∀ v∈r,Jg v.n):
  ∃ cs,Ye E [T] T.name=.inl cs/\Zt T.types cs/\nR cs=rs.length/\∀ i,i<rs.length->Ji cs i=rs.getD i []:=by
 obtain⟨cs,y,H⟩:=Qb6 (h.tab (T,rs) zS) K I;exact⟨cs,by unfold Ye Jcm;simp[Ub,y],H⟩
def ndC (p:Nd):List Value:=[.int .i64 p.op,.int .i64 p.l,.int .i64 p.r,.string p.tn,.slice p.xs.1 p.xs.2.1 p.xs.2.2,.slice p.ky.1 p.ky.2.1 p.ky.2.2,.int .i64 p.kk]
theorem Jnj {w:World}{g:Nat}{xs:List Value}{t:TypeId}(h:w.heap[g]?=some (.cells xs.toArray t (0,0)))(i:Nat):w.cell? ⟨g,i,none⟩=xs[i]?:=by
 simp[World.cell?,h]
theorem Jfm {w}{nb:Nat}{H:List Nd}{t:TypeId}(h:w.heap[nb]?=some (.cells (H.flatMap ndC).toArray t (0,0))):∀ (j:Nat) (nd:Nd),H[j]?=some nd->Zm w nb (0+j*7) nd:=fun j nd I=>by
 have y:∀ i,i<7->w.cell? ⟨nb,j*7+i,none⟩=(ndC nd)[i]?:=fun i hi=>by
  rw[Jnj h];exact Jek ndC 7 (fun _=>rfl) H j i nd I hi
 rw[Od0];exact⟨y 0 zo,y 1 zo,y 2 zo,y 3 zo,y 4 zo,y 5 zo,y 6 zo⟩
theorem Jfp {w}{g:Nat}{es:List Pt}{t:TypeId}(h:w.heap[g]?=some (.cells (es.flatMap ptC).toArray t (0,0))):∀ (k:Nat) (p:Pt),es[k]?=some p->Qi w g (0+k*7) p:=fun k p H=>by
 have y:∀ i,i<7->w.cell? ⟨g,k*7+i,none⟩=(ptC p)[i]?:=fun i hi=>by
  rw[Jnj h];exact Jek ptC 7 (fun _=>rfl) es k i p H hi
 rw[Od0];exact⟨y 0 zo,y 1 zo,y 2 zo,y 3 zo,y 4 zo,y 5 zo,y 6 zo⟩
theorem Jyd {w K H I pc e}(h:w.cell? ⟨K,0,none⟩=some (.slice (some ⟨H,I,none⟩) e.length pc))(hp:∀ (k:Nat) (p:Pt),e[k]?=some p->Qi w H (I+k*7) p):Jaz w K 0 [e]:=fun j es y=>by
 match j,y with
 |0,y=>cases y;exact⟨H,I,pc,h,hp⟩
theorem Kcr sch:Uj sch []:=fun j p y=>by simp at y
theorem Kf8:Uj [1] Jkp:=by
 have y:Uj [1] ([]++[⟨0,0,0,0,Jf⟩]):=(Kcr [1]).snoc (Jh7 (c:=0) zd);have H:Uj [1] (([]++[⟨0,0,0,0,Jf⟩])++[⟨1,0,0,1,⟨1,1,⟨#[]⟩⟩⟩]):=y.snoc (Jtf (by unfold okV;simp[okB,okK]) (by simp[Jg]) ⟨zo,zo⟩);exact H.snoc (Zs (o:=2) (l:=0) (r:=1) zo zo zd zd zd zd)
def Jcq:List PN:=[⟨0,0,Yh,[],[],0,0⟩,⟨2,0,⟨#[]⟩,[Jkp],[],0,0⟩]
theorem Jw6 {tys}(h:tys Yh=[1]):Jdk tys [[1],[1]] Jcq where
 len:=rfl
 ok:=fun j n y=>by
  match j,y with
  |0,y=>cases y;exact⟨[1],rfl,zd,fun _=>h.symm,fun h=>absurd h zd,fun h=>absurd h zd,fun h=>absurd h zd,fun h=>absurd h zd,fun h=>absurd h zd,fun h=>absurd h zd⟩
  |1,y=>
   cases y
   refine⟨[1],rfl,zd,fun h=>absurd h zd,fun h=>absurd h zd,fun _=>⟨[1],rfl,rfl,zd,zd,fun e H=>?_⟩,fun h=>absurd h zd,fun h=>absurd h zd,fun h=>absurd h zd,fun h=>absurd h zd⟩;rw[Oc6]at H;subst H;exact⟨Kf8,zd,zd⟩
 ahead:=fun j n y i hi=>by
  match j,y with
  |0,y=>cases y;simp[Jg7]at hi
  |1,y=>cases y;simp[Jg7]at hi;subst hi;exact⟨zo,rfl⟩
 all:=fun i hi=>by
  have:i=0:=by simp[Jcq]at hi;omega
  subst this;rfl
 one:=zd
 few:=zd
theorem Khj:Kl Jkp [Za]=.inl ⟨1,42,⟨#[]⟩⟩:=zR
structure Kd3 (E:DS) (T:TS) (name:ByteArray) (ts:List Int) (rs:List (List V)) (cs:Cs):Prop where
 tab:Ye E [T] name=.inl cs
 good:Zt ts cs
 len:nR cs=rs.length
 row:∀ i,i<rs.length->Ji cs i=rs.getD i []
 tys:Jhd [T] name=ts
 find:Ub [T] name<[T].length
 ok:∀ T'∈[T],Jid E T'
 all:∀ T'∈[T],∀ cs',Zo E T'=.inl cs'->Zt T'.types cs'
theorem Jx2 {E T name ts rs}(h:Jbc E [(T,rs)])(Z:T.name=name)(ht:T.types=ts)(bf:Jel name ts rs)(Y:∀ r∈rs,∀ v∈r,Jg v.n):∃ cs,Kd3 E T name ts rs cs:=by
 subst Z ht;obtain⟨cs,y,I,M,O⟩:=Kff h bf Y;have H:Ub [T] T.name=0:=by simp[Ub]
 have bh:Ye E [T] T.name=Zo E T:=by unfold Ye Jcm;rw[H];rfl
 refine⟨cs,y,I,M,O,?_,by rw[H];simp,(Jrp h rfl).2,fun bi K bj U=>?_⟩
 ·unfold Jhd;rw[H];rfl
 rw[Oc6]at K;subst K;rw[bh,U]at y;cases y
 exact I
theorem Kc3 {tab:ByteArray->Cs⊕Nat}{cs}(h:tab Yh=.inl cs):Jac tab Jcq=Jcb [Jkp] cs/\Jbs ⟨2,0,⟨#[]⟩,[Jkp],[],0,0⟩ (stN tab Jcq 1)=cs:=by
 constructor
 ·simp[Jac,stN,Jcq,Jb3,Jkq,Jbs,h]
 simp[stN,Jcq,Jb3,Jkq,Jbs,h]
abbrev Jvf (y:Nat):List Nd:=[⟨0,0,0,Yh,(none,0,0),(none,0,0),0⟩,⟨2,0,0,⟨#[]⟩,(some ⟨y,0,none⟩,1,1),(none,0,0),0⟩]
theorem Qde {tys}(h:Jdk tys [[1],[1]] Jcq){nd w}(hi:Jnm w ⟨2,0,⟨#[]⟩,[Jkp],[],0,0⟩ nd)y:Jvz w y [[1],[1]] (flN Jcq) nd 1:=by
 refine Km2 h rfl hi zd zd y [1] rfl fun W ev ks hb M hC U O Y=>?_;obtain⟨eb,I,H,Z,bh,bf⟩:=hi.es (.inr rfl);rw[show Jm5 nd.op=100 by rw[hi.op];rfl];exact Qdd _ _ _ ev ks nd 0 eb I H W hC hi.l U O (Oj6 Y).symm Z fun X K=>bf.under (Kaf hb M K)
theorem Qc1 {tys}{tab:ByteArray->Cs⊕Nat}(h:Jdk tys [[1],[1]] Jcq)(bW:∀ n∈Jcq,n.op≠0->Ktf n.op)(ht:∀ n∈Jcq,n.op=0->∀ cs,tab n.tn=.inl cs->Zt (tys n.tn) cs)(bZ:tab Yh=.inl [[Za]]){nd X}(hi:Jnm X ⟨2,0,⟨#[]⟩,[Jkp],[],0,0⟩ nd)(s z:Nat)(bu bl:Int)Y M sc bf bD bh pg(cc:1<=z)(cG:z<=1000):
  Ju1 X (X.heap.size+1) X.heap.size z bu bl Y (.pointer (some ⟨s,0,none⟩)) M sc (PSp tab Jcq) (ERp tab Jcq bf bD bh pg) nd 1:=by
 refine Km1 h bW ht rfl hi zd zd s z bu bl Y M sc bf bD bh pg fun W bI bH hb hR cz g bC cn cH bQ bk cE cA=>?_;obtain⟨eb,bM,bL,ca,cF,cb⟩:=hi.es (.inr rfl);rw[show Jej nd.op=74 by rw[hi.op];rfl];obtain⟨cC,U⟩:=Kc3 bZ;rw[U]at bk;subst bk;obtain⟨cf,ci,pc,bS,hp⟩:=(cb.under fun k O=>hb.block k O) 0 Jkp rfl;obtain⟨Z,bG,br,bV,cx,cy,bP,bU,I,bX⟩:=hR.take bQ;have bB:=hR.run;rw[br]at bB;have K:bI.ownBlock=some Z:=by rw[br];rfl
 have:=Qbh X.heap.size Z bH.length bG 0 z (.int .i64 bu) (.int .i64 bl) Y (.pointer (some ⟨s,0,none⟩)) M sc nd.op nd.r nd.tn (.slice nd.ky.1 nd.ky.2.1 nd.ky.2.2) nd.kk eb bM bL cf ci pc g (Ku1 bC 1) bC W bB bV bP bU zo bS hp cc zo I.1 ⟨fun e=>I.2.1.2.1 (K.trans (congrArg some e.symm)),fun j H b o y bK=>(I.2.2 j H b o y).2.1 (K.trans (congrArg some bK.symm))⟩ ⟨I.2.1.2.2,fun j H b o y=>(I.2.2 j H b o y).2.2⟩;have bY:Jkq tab ⟨2,0,⟨#[]⟩,[Jkp],[],0,0⟩ (stN tab Jcq 1)=[[⟨1,42,⟨#[]⟩⟩]]:=by
  unfold Jkq;rw[if_neg zd,if_neg zd,if_neg zd,if_neg zd,if_neg zd,if_neg zd,U];rfl
 rw[bY,Nd.val,hi.l,ca];refine this.mono fun cv bE hp=>?_;obtain⟨O,rg,cj,rfl,cB,bj,bR⟩:=hp;have bx:=Jgr O;obtain⟨bi,bA⟩:=Jo6 bj;have cD:=Jd hR.run;refine⟨by rw[K];exact bx,.inl ⟨rg,cj.map slH,?_,bX bE bx bR,⟨bi,⟨zo,(by rw[K];intro e;cases e;omega),bi.row.lt⟩,fun j H b o y=>?_⟩,⟨(fun bJ=>by cases bJ),fun _ i bz cu bT=>?_,(fun bO=>by cases bO),(fun bN=>by cases bN)⟩,Kxp.new ⟨zo,fun j H b o y=>by have:=bA j H b o y;omega⟩⟩⟩
 ·simp only[dnV];rw[Kuo (by rw[Oa6,bj.len];exact Oa2 _)];rfl
 ·have hb:=bA j H b o y;exact⟨zo,(by rw[K];intro e;cases e;omega),hb.2⟩
 rw[U]at bz |-;obtain rfl:=Oc6.1 bT;match i,bz with
 |0,_=>exact⟨_,Khj⟩
