/- The expression that adds 1, worked on one row: the parts. -/
import Derived.Handy
import Derived.Test.YtjbenncelbpbnaaGreatDoorXv
set_option maxHeartbeats 2000000
set_option maxRecDepth 100000
namespace Go.Proofs.YtjbenncelbpbnaaGreatDoor
open Go.RowKit Go.Shelf Tryz
attribute [local go_sem] Oc0
theorem Qbs box w(hb:w.cell? ⟨box,0,none⟩=some (.func (.func 219) #[] #[])):Calls prog 261 #[.agg #[.int .i64 1,.int .i64 41,.string ⟨#[]⟩],.agg #[.int .i64 1,.int .i64 1,.string ⟨#[]⟩],.pointer (some ⟨box,0,none⟩)] w fun e w'=>e=.returned (.tuple #[.agg #[.int .i64 1,.int .i64 42,.string ⟨#[]⟩],.nilIface])/\Below w.heap.size w w':=by
 have I:∀ (args:Array Value) (W:World),(callFunc 219 args).run prog W=.ok (.enter 219 args) W:=fun args W=>by kernel_rfl
 have H:∀ x y z,(((w.alloc x).alloc y).alloc z).cell? ⟨box,0,none⟩=some (.func (.func 219) #[] #[]):=fun _ _ _=>Kf (Kf (Kf hb));go_enter func261,ntmps261
 go_wp2;go_returns
 exact⟨rfl,by go_grown⟩
theorem Kxf W:(Instr.makeSlice 60 (.int .i64 1) (.int .i64 1)).run prog W=.ok (.slice (some ⟨W.heap.size,0,none⟩) 1 1) (W.alloc (.cells #[.int .i64 0,.int .i64 0,.string ⟨#[]⟩] 59)):=zK
theorem Kzb {X:World}{f b o:Nat}{p q r u:Value}(h:b<f)(y:X.cell? ⟨b,o,none⟩=some u):(((X.setCell ⟨f,0,none⟩ p).setCell ⟨f,1,none⟩ q).setCell ⟨f,2,none⟩ r).cell? ⟨b,o,none⟩=some u:=by
 have h:∀ i,(⟨f,i,none⟩:Addr)≠⟨b,o,none⟩:=fun i e=>by cases e;omega
 exact Uc (h 2) (Uc (h 1) (Uc (h 0) y))
theorem Qct b U cp bl M cl H O cr box ex ba er bD w(h:Uz w b ex ba bD 1 (.slice (some ⟨U,0,none⟩) 2 cp) er)(h0:w.cell? ⟨U,0,none⟩=some (.slice (some ⟨bl,M,none⟩) 1 cl))(Z:w.cell? ⟨U,1,none⟩=some (.slice (some ⟨H,O,none⟩) 1 cr))(hl:VAt w bl M ⟨1,41,⟨#[]⟩⟩)(hr:VAt w H O ⟨1,1,⟨#[]⟩⟩)(br:w.cell? ⟨box,0,none⟩=some (.func (.func 219) #[] #[])):
  Calls prog 225 #[.pointer (some ⟨b,0,none⟩),.agg #[.int .i64 2,.int .i64 0,.int .i64 1,.int .i64 0,.int .i64 0,.int .i64 0,.string ⟨#[]⟩],.func (.func 261) #[] #[.pointer (some ⟨box,0,none⟩)]] w fun e w'=>∃ g,e=.returned (.slice (some ⟨g,0,none⟩) 1 1)/\w.heap.size<=g/\w'.heap[g]?=some (.cells #[.int .i64 1,.int .i64 42,.string ⟨#[]⟩] 59 (0,0))/\Below w.heap.size w w':=by
 obtain⟨_,_,_,c3,c4,_⟩:=h.cells;obtain⟨bh,x1,x2⟩:=hl;obtain⟨bi,bx,bz⟩:=hr;have bM:bl<w.heap.size:=Jm bh;have bN:H<w.heap.size:=Jm bi;have hq:=heap_alloc_new w (.cells #[.int .i64 2,.int .i64 0,.int .i64 1,.int .i64 0,.int .i64 0,.int .i64 0,.string ⟨#[]⟩] 63);have I:Below w.heap.size w (w.alloc (.cells #[.int .i64 2,.int .i64 0,.int .i64 1,.int .i64 0,.int .i64 0,.int .i64 0,.string ⟨#[]⟩] 63)):=Jc (Oa5 _ _) _;clear h;go_enter func225,ntmps225
 go_upto_region 1 with fail
 have Y:(w.alloc (.cells #[.int .i64 2,.int .i64 0,.int .i64 1,.int .i64 0,.int .i64 0,.int .i64 0,.string ⟨#[]⟩] 63)).heap.size=w.heap.size+1:=zS;generalize w.alloc (.cells #[.int .i64 2,.int .i64 0,.int .i64 1,.int .i64 0,.int .i64 0,.int .i64 0,.string ⟨#[]⟩] 63)=W at hq I Y |-;have bI:=zc 1 hq;have bJ:=zc 2 hq;replace c3:=Ja I c3;replace c4:=Ja I c4;replace h0:=Ja I h0;replace Z:=Ja I Z;go_region_held3 (fun X=>X.cell? ⟨b,4,none⟩=some (.slice (some ⟨U,0,none⟩) 2 cp)/\X.cell? ⟨U,0,none⟩=some (.slice (some ⟨bl,M,none⟩) 1 cl)/\X.cell? ⟨U,1,none⟩=some (.slice (some ⟨H,O,none⟩) 1 cr)/\X.cell? ⟨w.heap.size,1,none⟩=some (.int .i64 0)/\X.cell? ⟨w.heap.size,2,none⟩=some (.int .i64 1)) (go_keep) (fail)
 have bG:=Kxf;go_wp2;refine wp_loop_rounds 2 ?_;rw[rounds_succ];go_wp2;have y:Below w.heap.size w (W.alloc (.cells #[.int .i64 0,.int .i64 0,.string ⟨#[]⟩] 59)).drew:=Jj (Jc I _);have hn:(W.alloc (.cells #[.int .i64 0,.int .i64 0,.string ⟨#[]⟩] 59)).drew.heap[w.heap.size+1]?=_:=Y▸heap_alloc_new W _;have bf:(W.alloc (.cells #[.int .i64 0,.int .i64 0,.string ⟨#[]⟩] 59)).drew.heap.size=w.heap.size+2:=by rw[heap_drew,Oa7,Y]
 generalize (W.alloc (.cells #[.int .i64 0,.int .i64 0,.string ⟨#[]⟩] 59)).drew=K at y hn bf |-;replace bh:=Ja y bh;replace x1:=Ja y x1;replace x2:=Ja y x2;replace bi:=Ja y bi;replace bx:=Ja y bx;replace bz:=Ja y bz;have bL:=y.size;have bK:∀ (args:Array Value) (W:World),(callFunc 261 args).run prog W=.ok (.enter 261 args) W:=fun args W=>by kernel_rfl
 have bk:=fun X bE=>Qbs box X (Ja (Jb y bE) br);clear c3 c4 h0 Z bI bJ hq I Y br bG;go_cut [11,12] from 39 to 52 (fun a c X=>c=.nilIface/\∃ fa:Nat,a=.pointer (some ⟨fa,0,none⟩)/\X.heap[fa]?=some (.cells #[.int .i64 1,.int .i64 42,.string ⟨#[]⟩] 59 (0,0))/\Below K.heap.size K X)
 case first=>
  go_region_held3 (fun X=>X.cell? ⟨bl,M,none⟩=some (.int .i64 1)/\X.cell? ⟨bl,M+1,none⟩=some (.int .i64 41)/\X.cell? ⟨bl,M+2,none⟩=some (.string ⟨#[]⟩)/\X.cell? ⟨H,O,none⟩=some (.int .i64 1)/\X.cell? ⟨H,O+1,none⟩=some (.int .i64 1)/\X.cell? ⟨H,O+2,none⟩=some (.string ⟨#[]⟩))
   (refine⟨?_,?_,?_,?_,?_,?_⟩<;>(repeat (with_reducible first|assumption|refine Ja hk ?_|refine Kf ?_|refine Jh ?_|refine Kzb zo ?_)))
   (first|(go_at_call 261;refine(bk _ (by with_reducible exact Jj (Oa5 _ _))).mono ?_;rintro e bj ⟨rfl,hk⟩;have bH:=hk.size;simp only[heap_drew]at bH)|(go_at_call 261;refine(bk _ (by go_grown)).mono ?_;rintro e bj ⟨rfl,hk⟩;have hf:=(hk.block (w.heap.size+2) (by simp[bf])).trans (bf▸heap_alloc_new K _);have bO:=zc 0 hf;have bP:=zc 1 hf;have m2:=zc 2 hf;have bA:=Lib.frozen_of_heap hf 0;have bB:=Lib.frozen_of_heap hf 1;have bC:=Lib.frozen_of_heap hf 2))
  ·go_wp2_with fail
   go_meet
   case rel=>exact⟨rfl,_,rfl,heap_alloc_new bj _,Jc (Jw (B:=K.heap.size) hk) _⟩
  go_wp2_with fail
  go_meet
  case rel=>
   have:=Jk (Jk (Jk hf 0 (.int .i64 1)) 1 (.int .i64 42)) 2 (.string ⟨#[]⟩);have hk:=Jb (show Below K.heap.size K _ by go_grown) hk;exact⟨rfl,_,rfl,this,by go_grown⟩
 case rest=>
  obtain⟨rfl,fa,rfl,hf,hk⟩:=hcut;have n:=(hk.block (w.heap.size+1) zo).trans hn;have bQ:=zc 0 n;have bR:=zc 1 n;have bS:=zc 2 n;have bT:=Lib.frozen_of_heap n 0;have z1:=Lib.frozen_of_heap n 1;have z2:=Lib.frozen_of_heap n 2;have bA:=zc 0 hf;have bB:=zc 1 hf;have bC:=zc 2 hf;have n:=Jk (Jk (Jk n 0 (.int .i64 1)) 1 (.int .i64 42)) 2 (.string ⟨#[]⟩);have hk:=Jb y hk;go_wp2;rw[rounds_succ];go_wp2;go_returns
  exact⟨_,rfl,zo,n,by go_grown⟩
theorem VAt.low {w w' b o v}(h:VAt w b o v)(hb:Below w.heap.size w w'):VAt w' b o v:=⟨Ja hb h.1,Ja hb h.2.1,Ja hb h.2.2⟩
def Qb0 (B b:Nat)(v:V)(w:World):Ending->World->Prop:=fun e w'=>∃ g o c:Nat,e=.returned (.slice (some ⟨g,o,none⟩) 1 c)/\g≠b/\(g<B\/w.heap.size<=g)/\VAt w' g o v/\Below w.heap.size w w'
theorem Qdj B b y cp bl I cl H K cr ex ba er M w(h:Uz w b ex ba M 1 (.slice (some ⟨y,0,none⟩) 2 cp) er)(h0:w.cell? ⟨y,0,none⟩=some (.slice (some ⟨bl,I,none⟩) 1 cl))(O:w.cell? ⟨y,1,none⟩=some (.slice (some ⟨H,K,none⟩) 1 cr))(hl:VAt w bl I ⟨1,41,⟨#[]⟩⟩)(hr:VAt w H K ⟨1,1,⟨#[]⟩⟩):
  Calls prog 177 #[.pointer (some ⟨b,0,none⟩),.agg #[.int .i64 2,.int .i64 0,.int .i64 1,.int .i64 0,.int .i64 0,.int .i64 0,.string ⟨#[]⟩]] w (Qb0 B b ⟨1,42,⟨#[]⟩⟩ w):=by
 have hb:=Jd h;have Y:=fun x U (hk:Below w.heap.size w (((w.alloc x).alloc U).alloc (.cells #[.func (.func 219) #[] #[]] 379)))=>Qct b y cp bl I cl H K cr (w.heap.size+1+1) ex ba er M _ (h.below hk) (Ja hk h0) (Ja hk O) (hl.low hk) (hr.low hk) (by have:=heap_alloc_new ((w.alloc x).alloc U) (.cells #[.func (.func 219) #[] #[]] 379);rw[Oa7,Oa7]at this;unfold World.cell?;rw[this];rfl);clear h h0 O hl hr;go_enter func177,ntmps177
 go_wp2_with (first|(go_at_call 218;go_enter func218,ntmps218)|(go_at_call 225;refine(Y _ _ (by go_grown)).mono ?_;rintro e bf ⟨g,rfl,Z,hv,hk⟩))
 go_returns
 have hk:=Jb (show Below w.heap.size w _ by go_grown) hk;simp at Z;exact⟨g,0,1,rfl,zo,.inr zo,by constructor<;>simp[World.cell?,hv],hk⟩
attribute [local go_sem] Oc0
theorem Qc9 B b y cap bl H cl ex O er K w(h:Uz w b ex (.slice (some ⟨y,0,none⟩) 1 cap) K 1 O er)(h0:w.cell? ⟨y,0,none⟩=some (.slice (some ⟨bl,H,none⟩) 1 cl))(hl:VAt w bl H ⟨1,41,⟨#[]⟩⟩)(hn:bl≠b)(M:bl<B):
  Calls prog 175 #[.pointer (some ⟨b,0,none⟩),.agg #[.int .i64 0,.int .i64 0,.int .i64 0,.int .i64 0,.int .i64 0,.int .i64 0,.string ⟨#[]⟩]] w (Qb0 B b ⟨1,41,⟨#[]⟩⟩ w):=by
 have c1:=h.cells.2.1;have U:=World.new_ne w _ c1;have Y:=World.new_ne w _ h0;have I:Hid _:=hl;clear h hl;go_enter func175,ntmps175
 go_upto_region 1 with fail
 go_region_held3 (fun X=>X.cell? ⟨b,1,none⟩=some (.slice (some ⟨y,0,none⟩) 1 cap)/\X.cell? ⟨y,0,none⟩=some (.slice (some ⟨bl,H,none⟩) 1 cl)/\X.cell? ⟨w.heap.size,3,none⟩=some (.int .i64 0)) (go_keep) (fail)
 go_wp2;go_returns
 exact⟨bl,H,cl,rfl,hn,.inl M,VAt.low I.out (by go_grown),by go_grown⟩
theorem Qb6 B b ex ba H er y w(h:Uz w b ex ba y 1 H er):
  Calls prog 176 #[.pointer (some ⟨b,0,none⟩),.agg #[.int .i64 1,.int .i64 0,.int .i64 0,.int .i64 1,.int .i64 1,.int .i64 1,.string ⟨#[]⟩]] w (Qb0 B b ⟨1,1,⟨#[]⟩⟩ w):=by
 have c3:=h.cells.2.2.2.1;have K:=World.new_ne w _ c3;have hb:=Jd h;have I:=Kxf;clear h;go_enter func176,ntmps176
 go_wp2;go_rounds 2
 go_returns
 exact⟨_,0,1,rfl,zo,.inr zo,by refine⟨?_,?_,?_⟩<;>simp[go_sem],by go_grown⟩
attribute [local go_sem] Oc0
theorem Ksx {p}(h:p):Hid p:=h
theorem Qc7 w x y z W(h:((w.alloc x).alloc y).alloc z=W):W.heap.size=w.heap.size+3/\W.heap[w.heap.size]?=some x/\W.heap[w.heap.size+1+1]?=some z/\Below w.heap.size w W:=by
 subst h;have:=heap_alloc_new ((w.alloc x).alloc y) z;rw[Oa7,Oa7]at this;exact⟨zS,(Oa9 _ _ _ zt).trans ((Oa9 _ _ _ zS).trans (heap_alloc_new w _)),this,by go_grown⟩
structure ExT (w:World) (b B:Nat) (ex ba er:Value) (fi:Int) (vs:List V) (sv:Value) (qs:List Value) (wr:World):Prop where
 own:Jo wr w.heap.size 60 sv qs
 wk:Uz wr b ex ba fi 1 sv er
 keep:Ju (·=b) w wr
 vals:∀ (j:Nat) (u:Value),qs[j]?=some u->∃ (g o c:Nat) (v:V),u=.slice (some ⟨g,o,none⟩) 1 c/\vs[j]?=some v/\VAt wr g o v/\g≠b/\sv.ownBlock≠some g/\(g<B\/w.heap.size<=g)
theorem ExT.step {w b B ex ba er bf vs sv M wr y H}(h:ExT w b B ex ba er bf vs sv M wr)(hb:b<w.heap.size)(bM:B<=w.heap.size)(hk:Below wr.heap.size wr y){g o c v}(bB:vs[M.length]?=some v)(hn:g≠b)(bN:g<B\/wr.heap.size<=g)(hv:VAt y g o v){sv' bE}(ho:Jo H w.heap.size 60 sv' (M++[.slice (some ⟨g,o,none⟩) 1 c]))(K:(y.alloc bE).grownBy H sv.ownBlock)(bz:sv'.ownBlock=sv.ownBlock\/sv'.ownBlock=some (y.heap.size+1)):
  ExT w b B ex ba er bf vs sv' (M++[.slice (some ⟨g,o,none⟩) 1 c]) (H.setCell ⟨b,4,none⟩ sv'):=by
 have bO:=h.keep.size;have z1:=hk.size;have bL:=K.size;rw[Oa7]at bL;have hob:=fun g e=>Je h.own (g:=g) e;have Z:=Jm hv.1;simp only at Z;have O:∀ k,k<y.heap.size->sv.ownBlock≠some k->H.heap[k]?=y.heap[k]?:=fun k hk bD=>by rw[K.block k (by rw[Oa7];omega) (fun e=>bD e.symm),Oa9 _ _ k hk]
 have U:∀ k,k≠b->(H.setCell ⟨b,4,none⟩ sv').heap[k]?=H.heap[k]?:=fun k hk=>Oa4 _ _ _ _ hk;have bA:sv.ownBlock≠some b:=fun e=>by have:=hob b e;omega
 have bh:sv.ownBlock≠some g:=fun e=>by have:=hob g e;omega
 have bj:∀ k,k<y.heap.size->sv.ownBlock≠some k->sv'.ownBlock≠some k:=fun k hk hn e=>by
  rcases bz with Y|Y
  ·exact hn (Y▸e)
  rw[Y]at e;simp at e;omega
 refine⟨Jl ho fun k e=>U k (by have:=Je ho e;omega),?_,⟨K.os.trans (hk.os.trans h.keep.os),K.tape.trans (hk.tape.trans h.keep.tape),K.output.trans (hk.output.trans h.keep.output),by rw[World.size_setCell];omega,fun k bC bi=>?_⟩,fun j u I=>?_⟩
 ·exact Jk (((O b zo bA).trans (hk.block b zo)).trans h.wk) 4 sv'
 ·rw[U k bi,O k zo (fun e=>by have:=hob k e;omega),hk.block k zo];exact h.keep.block k bC bi
 rw[Om7]at I;split at I
 ·obtain⟨g2,bG,c2,bK,bH,bI,bk,br,bx,bJ⟩:=h.vals j u I;have hl:=Jm bk.1;simp only at hl;exact⟨g2,bG,c2,bK,bH,bI,bk.of_block (by rw[U g2 br,O g2 zo bx,hk.block g2 hl]),br,bj g2 zo bx,bJ⟩
 obtain rfl:j=M.length:=by
  have:=(Ob9.1 I).1;simp at this;omega
 simp at I;exact⟨g,o,c,v,I.symm,bB,hv.of_block (by rw[U g hn,O g Z bh]),hn,bj g Z bh,zo⟩
def Qcd:List V:=[⟨1,41,⟨#[]⟩⟩,⟨1,1,⟨#[]⟩⟩,⟨1,42,⟨#[]⟩⟩]
structure One (w:World) (b B gb cap:Nat):Prop where
 col:∃ bl ol cl:Nat,w.cell? ⟨gb,0,none⟩=some (.slice (some ⟨bl,ol,none⟩) 1 cl)/\VAt w bl ol ⟨1,41,⟨#[]⟩⟩/\bl≠b/\bl<B
 ne:gb≠b
 low:B<=w.heap.size
theorem One.keep {w w' b B I cap}(h:One w b B I cap)(hk:Ju (·=b) w w'):One w' b B I cap:=by
 obtain⟨bl,O,cl,K,H,y,M⟩:=h.col;exact⟨⟨bl,O,cl,hk.cell K h.ne,⟨hk.cell H.1 y,hk.cell H.2.1 y,hk.cell H.2.2 y⟩,y,M⟩,h.ne,Ob2 h.low hk.size⟩
theorem Qcu {w wr X b B I cap ex er sv y H}(h:ExT w b B ex (.slice (some ⟨I,0,none⟩) 1 cap) er y Qcd sv H wr)(hC:One w b B I cap)(hk:Below wr.heap.size wr X){p}(hp:Jkp[H.length]?=some p):∃ v,Qcd[H.length]?=some v/\Calls prog (Zv p.op) #[.pointer (some ⟨b,0,none⟩),p.val] X (Qb0 B b v X):=by
 obtain⟨bl,br,cl,Z,bf,bh,bi⟩:=(hC.keep (h.keep.trans (Ju.of_below hk))).col;have hw:=h.wk.below hk;match H,hp,h.vals,h.own with
 |[],hp,_,_=>cases hp;exact⟨_,rfl,Qc9 B b I cap bl br cl ex sv er y X hw Z bf bh bi⟩
 |[_],hp,_,_=>cases hp;exact⟨_,rfl,Qb6 B b ex _ sv er y X hw⟩
 |[u0,u1],hp,hv,ho=>
  cases hp
  obtain⟨Y,bj,c0,_,rfl,bz,bA,bD,bE,_⟩:=hv 0 u0 rfl;obtain⟨g1,bk,c1,_,rfl,bB,bC,bG,bH,_⟩:=hv 1 u1 rfl;cases bz
  cases bB
  obtain⟨a,cp,e,K⟩:=Ji8 ho;obtain⟨bx,rfl,_,M,_⟩:=K 0 _ rfl;obtain⟨_,U,_,O,_⟩:=K 1 _ rfl;cases U
  subst e;exact⟨_,rfl,Qdj B b bx cp Y bj c0 g1 bk c1 ex _ er y X hw (Ja hk M) (Ja hk O) (bA.low hk) (bC.low hk)⟩
attribute [local go_sem] Oc0
theorem Qc3 b B U cap sb sc ex er bH bf w(hW:Uz w b ex (.slice (some ⟨U,0,none⟩) 1 cap) bf 1 bH er)(hC:One w b B U cap)(bC:Jco w sb b Jkp):
  Calls prog 141 #[.pointer (some ⟨b,0,none⟩),.slice (some ⟨sb,0,none⟩) 3 sc] w fun e w'=>∃ (g o c:Nat) (cj:Value),e=.returned (.slice (some ⟨g,o,none⟩) 1 c)/\g≠b/\(g<B\/w.heap.size<=g)/\VAt w' g o ⟨1,42,⟨#[]⟩⟩/\Ju (·=b) w w'/\Uz w' b ex (.slice (some ⟨U,0,none⟩) 1 cap) bf 1 cj er:=by
 have c4:=hW.cells.2.2.2.2.1;have bB:=hW.thaw 4;have bS:=Jd hW;have Z:Hid (Uz w b ex (.slice (some ⟨U,0,none⟩) 1 cap) bf 1 bH er/\One w b B U cap/\Jco w sb b Jkp):=⟨hW,hC,bC⟩;clear hW hC bC;go_enter func141,ntmps141
 go_wp2;go_loopw [12] (fun i wr=>∃ (j:Nat) (sv:Value) (O:List Value),j<=3/\O.length=j/\i=.int .i64 (j:Int)/\Hid (ExT w b B ex (.slice (some ⟨U,0,none⟩) 1 cap) er bf Qcd sv O wr)) (fun i _=>3-(intOf i).toNat)
 case atStart=>exact⟨0,.slice none 0 0,[],zo,rfl,rfl,Jo.nil _ _ _,Jk Z.out.1 4 _,Ju.set (F:=fun x=>x=b) (Ju.refl _ w) rfl 4 _,fun j u K=>by simp at K⟩
 case round=>
  obtain⟨j,sv,O,cB,hq,rfl,H⟩:=hrel;have bj:=H.out.wk.cells.2.2.2.2.1;have cD:=H.out.keep.size;by_cases bW:j<3
  ·obtain⟨p,hp⟩:∃ p,Jkp[j]?=some p:=⟨_,Oa3 bW⟩;obtain⟨cn,x1,x2,cu,cv,cx,cy,bI⟩:=(Z.out.2.2.keep H.out.keep).step j p hp;have Y:=fun X hk=>Qcu (X:=X) H.out Z.out.2.1 hk (hq▸hp);have bT:=Js0 p.op;generalize Zv p.op=f at bI bT Y;have bJ:=Ksx Y;have bz:=Ksx hq;have j1:(0:Int)<=(j:Int):=zo;have j2:(j:Int)<3:=zo;have bZ:∀ (a:Addr) (W:World),(store a (.func (.func f) #[.pointer (some ⟨b,0,none⟩)] #[])).run prog W=stored prog W a (.func (.func f) #[.pointer (some ⟨b,0,none⟩)] #[]) .plain:=fun a W=>run_store _ _ _ _ _ rfl;clear Y hp hq;go_upto_region 5 with fail
   generalize bk:wr.alloc _=A;have bA:A.heap[wr.heap.size]?=_:=bk▸heap_alloc_new wr _;have hk:Below wr.heap.size wr A:=bk▸Jc (Oa5 _ _) _;have ci:wr.heap.size<A.heap.size:=Jd bA;clear bk cn x1 x2 cu cv cx cy bI bZ c4 bB;obtain⟨cf,bV,ca,cb,cc⟩:=info_parts Jps;obtain⟨v,hv,Y⟩:=bJ.out A.drew (Jj hk);refine Ktp 14 (S:=fun X=>X.cell? ⟨b,4,none⟩=some sv/\X.cell? ⟨wr.heap.size,0,none⟩=some (.int .i64 p.op)/\X.cell? ⟨wr.heap.size,1,none⟩=some (.int .i64 p.l)/\X.cell? ⟨wr.heap.size,2,none⟩=some (.int .i64 p.r)/\X.cell? ⟨wr.heap.size,3,none⟩=some (.int .i64 p.c)/\X.cell? ⟨wr.heap.size,4,none⟩=some (.int .i64 p.v.k)/\X.cell? ⟨wr.heap.size,5,none⟩=some (.int .i64 p.v.n)/\X.cell? ⟨wr.heap.size,6,none⟩=some (.string p.v.s)/\X.cell? ⟨wr.heap.size,7,none⟩=some (.func (.func f) #[.pointer (some ⟨b,0,none⟩)] #[])) zK ⟨Jh (Ja hk bj),by refine⟨?_,?_,?_,?_,?_,?_,?_,?_⟩<;>(unfold World.cell?;rw[heap_drew,bA];rfl)⟩ (fun y=>?_);refine tkm 0 rfl y ?_;refine tkm 1 rfl y ?_;refine tkm 2 rfl y ?_;refine tkm 3 rfl y ?_;refine tkm 4 rfl y ?_;refine tkm 5 rfl y ?_;refine tkm 6 rfl y ?_;refine tkm 7 rfl y ?_;refine tkm 8 rfl y ?_;refine tkn ?_;refine Kr1 9 rfl (fun I hK=>?_);go_simp;refine Y.mono ?_;rintro e M ⟨g,o,c,rfl,hn,br,bP,bh⟩;go_simp;refine hK.out _ _ (by simpa only[World.cell?,bh.block b (by rw[heap_drew];omega),bh.block wr.heap.size ci] using y) (fun y=>?_);clear hK I;have bi:Below wr.heap.size wr M:=Jb (Jj hk) bh;have z2:=bi.size;have cz:=bh.size;simp only[heap_drew]at cz;refine Kr1 10 rfl (fun I hK=>?_);go_simp;refine hK.out _ _ (by simpa only[World.cell?,Oa9 M _ b zo,Oa9 M _ wr.heap.size zo] using y) (fun y=>?_);clear hK I;have bX:=heap_alloc_new M (.cells #[.slice (some ⟨g,o,none⟩) 1 c] 60);have hq:=bz.out;have hob:=fun g e=>Je H.out.own (g:=g) e;have bR:sv.ownBlock≠some b:=fun e=>by have:=hob b e;omega
   refine Kr1 11 rfl (fun I hK=>?_);refine step_append_lies (M.alloc (.cells #[.slice (some ⟨g,o,none⟩) 1 c] 60)) rfl (.tmp 20) (.tmp 26) 75 rfl w.heap.size 60 cf (.slice none 0 0) 1 24 underlying75 bV ca cb cc rfl zd sv O.length O rfl (Jo.alloc (H.out.own.below bi) _) ⟨M.heap.size,0,none⟩ 1 1 [.slice (some ⟨g,o,none⟩) 1 c] rfl rfl (fun j u K=>World.news_of_block bX j u (by simpa using K)) (fun u K=>by simp at K;subst K;rfl) zd (by unfold maxLen;omega) zo (by rw[Oa7];omega) (M.heap.size+1) zS (fun bO bL bK bY bx bQ cC=>?_);have bD:=bx.block b (by rw[Oa7];omega) (fun e=>bR e.symm);refine hK.out _ _ (by simpa only[World.cell?,bD,bx.block wr.heap.size (by rw[Oa7];omega) (fun e=>by have:=hob _ e.symm;omega)] using y) (fun y=>?_);clear hK I;have cF:=y.1;have cA:bK.frozen? ⟨b,4,none⟩=false:=by have:=(H.out.wk.below bi).thaw 4;simpa only[World.frozen?,bD,Oa9 M _ b (by omega:b<M.heap.size)] using this
   have bU:=Ksx (H.out.step bS Z.out.2.1.low bi (hq▸hv) hn (br.imp id fun h=>by rw[heap_drew]at h;omega) bP (sv':=.slice (some ⟨bO,0,none⟩) (O.length+1) bL) (by rw[Jo,Oa8];exact bY) bx (bQ.imp Eq.symm (congrArg some)));clear hq;simp only[Act.put,List.getElem_toArray,List.getElem_cons_zero,List.getElem_cons_succ,Oa1,List.set_cons_zero,List.set_cons_succ];refine Kr1 12 rfl (fun I hK=>?_);go_simp;refine hK.out _ _ y (fun y=>?_);clear hK I;refine Kr1 13 rfl (fun I hK=>?_);go_simp;refine hK.out _ _ y (fun y=>?_);clear hK I;refine Ktt rfl (fun I hK=>?_);go_simp;refine hK.out _ _ ?_;go_wp2;go_roundw
   case rel=>exact⟨j+1,_,_,zo,by simp[bz.out],zn,bU⟩
   case measure=>simp[intOf];omega
  obtain rfl:j=3:=zo;obtain⟨a,cp,e,bE⟩:=Ji8 H.out.own;obtain⟨u,K⟩:∃ u,O[2]?=some u:=⟨_,Oa3 zo⟩;obtain⟨g,o,c,v,rfl,bN,hv,hn,_,br⟩:=H.out.vals 2 u K;cases bN
  obtain⟨bG,rfl,_,bM,_⟩:=bE 2 _ K;rw[e,hq]at bj;have hv:=Ksx hv;have cE:IntKind.i64.wrap 2=2:=rfl;clear K bE e c4 bB hq;go_upto_region 7 with fail
  refine wp_region_held_drew (S:=fun X=>X.cell? ⟨b,4,none⟩=some (.slice (some ⟨bG,0,none⟩) 3 cp)/\X.cell? ⟨bG,2,none⟩=some (.slice (some ⟨g,o,none⟩) 1 c)) zK ⟨bj,bM⟩ (fun y=>?_);refine tkj 0 rfl y ?_;refine tkj 1 rfl y ?_;refine tkj 2 rfl y ?_;refine tkj 3 rfl y ?_;refine tkj 4 rfl y ?_;refine tkj 5 rfl y ?_;refine tkj 6 rfl y ?_;refine tkj 7 rfl y ?_;refine tkj 8 rfl y ?_;refine tkj 9 rfl y ?_;refine tkj 10 rfl y ?_;refine tkj 11 rfl y ?_;refine tkj 12 rfl y ?_;refine tkn ?_;refine wpAnyH_done zK ?_ _;go_wp2;go_returns
  exact⟨g,o,c,_,rfl,hn,br,hv.out,H.out.keep.drewN 1,H.out.wk⟩
attribute [local go_sem] Oc0
def Kz3 (w:World)(b y H:Nat):Prop:=(∃ (ba I er:Value) (f n:Int),Uz w b (.slice (some ⟨y,0,none⟩) 1 H) ba f n I er)/\y≠b/\∃ sb sc,w.cell? ⟨y,0,none⟩=some (.slice (some ⟨sb,0,none⟩) 3 sc)/\Jco w sb b Jkp/\b<y/\b<sb
theorem Kz3.move {w w' b H y}(h:Kz3 w b H y)(hk:∀ k c t f,b<=k->w.heap[k]?=some (.cells c t f)->w'.heap[k]?=some (.cells c t f)):Kz3 w' b H y:=by
 obtain⟨⟨ba,Z,er,f,n,hW⟩,hn,sb,sc,O,I,U,K⟩:=h;have M:∀ g o v,b<=g->w.cell? ⟨g,o,none⟩=some v->w'.cell? ⟨g,o,none⟩=some v:=fun g o v Y h=>by
  unfold World.cell? at h |-;split at h
  ·rename_i e
   rw[hk _ _ _ _ Y e];exact h
  cases h
 refine⟨⟨ba,Z,er,f,n,hk b _ _ _ (Oa2 _) hW⟩,hn,sb,sc,M _ _ _ zo O,⟨I.ne,fun j p hp=>?_⟩,U,K⟩;obtain⟨bf,bh,bi,bj,bk,br,bx,bz⟩:=I.step j p hp;have:=fun o v=>M sb o v (Nat.le_of_lt K);exact⟨this _ _ bf,this _ _ bh,this _ _ bi,this _ _ bj,this _ _ bk,this _ _ br,this _ _ bx,this _ _ bz⟩
theorem eOn b B y cap U O I w(hR:Kz3 w b U O)(hC:One w b B y cap):
  Calls prog 107 #[.pointer (some ⟨b,0,none⟩),.slice (some ⟨y,0,none⟩) 1 cap,.int .i64 I] w fun e w'=>∃ g2 cp g o c:Nat,e=.returned (.tuple #[.slice (some ⟨g2,0,none⟩) 1 cp,.nilIface])/\w.heap.size<=g2/\w'.cell? ⟨g2,0,none⟩=some (.slice (some ⟨g,o,none⟩) 1 c)/\(g<B\/w.heap.size<=g)/\VAt w' g o ⟨1,42,⟨#[]⟩⟩/\Ju (·=b) w w':=by
 obtain⟨⟨ba,bk,er,f,n,hW⟩,bG,sb,sc,bf,Z,_⟩:=hR;obtain⟨c0,c1,c2,c3,c4,c5⟩:=hW.cells;have bz:=hW.thaw 1;have bA:=hW.thaw 2;have bB:=hW.thaw 3;have bC:=hW.thaw 5;have bO:=Jd hW;obtain⟨bl,bS,cl,bh,_⟩:=hC.col;go_enter func107,ntmps107
 go_upto_region 2 with(first|(go_at_call 55;go_enter func55,ntmps55))
 generalize K:World.setCell _ _ _=A;have hw:Uz A b (.slice (some ⟨U,0,none⟩) 1 O) (.slice (some ⟨y,0,none⟩) 1 cap) I 1 bk .nilIface:=by rw[<-K];exact Jk (Jk (Jk (Jk hW 1 _) 2 _) 3 _) 5 _
 have hk:Ju (·=b) w A:=by rw[<-K];exact Ju.set (F:=fun x=>x=b) (Ju.set (F:=fun x=>x=b) (Ju.set (F:=fun x=>x=b) (Ju.set (F:=fun x=>x=b) (Ju.refl _ w) rfl 1 _) rfl 2 _) rfl 3 _) rfl 5 _
 have bH:=Qc3 b B y cap sb sc _ .nilIface bk I A hw (hC.keep hk) (Z.keep hk);have bP:=hk.cell bf bG;have bL:=hw.cells.1;have bQ:=hk.size;have hk:=Ksx hk;clear K hW Z hC c0 c1 c2 c3 c4 c5 bz bA bB bC bh bf;go_wp2;refine wp_loop_rounds 2 ?_;rw[rounds_succ];go_wp2_with (first|(go_at_call 141;refine bH.mono ?_;rintro e H ⟨g,o,c,bT,rfl,hn,bh,hv,bi,bJ⟩;have bR:=bi.size)|(at_builtin;go_must (refine Ul zR _ _ 76 60 _ 24 Jps zR zd zK zR w.heap.size _ _ zR (Jo.nil _ _ _) ⟨H.heap.size,0,none⟩ 1 [.slice (some ⟨g,o,none⟩) 1 c] zR (by exact Ua H _ _) (by intro u bj;simp at bj;subst bj;rfl) zS zt ?_);intro sv' bK Y bD bN))
 rw[rounds_succ];have M:=Jy (sv:=.slice none 0 0) (Jc (Oa5 _ H) _) bD (fun k hk=>by cases hk);have bM:=(bJ.below M).cells.2.2.2.2.2;obtain⟨a,cp,e,bE⟩:=Ji8 Y;obtain⟨g2,rfl,br,bx,_⟩:=bE 0 _ rfl;have bI:=(Je Y br).1;go_wp2;subst e;go_returns
 exact⟨g2,cp,g,o,c,rfl,bI,bx,zo,hv.low M,(hk.out.trans bi).trans (Ju.of_below M)⟩
attribute [local go_sem] Oc0
theorem Qc8 eb bB bR bH bI pc w(bE:w.cell? ⟨eb,bB,none⟩=some (.slice (some ⟨bH,bI,none⟩) 3 pc))(hp:∀ k p,Jkp[k]?=some p->Qi w bH (bI+k*7) p):
  Calls prog 105 #[.slice (some ⟨eb,bB,none⟩) 1 bR] w fun e w'=>Below w.heap.size w w'/\e=.returned (.pointer (some ⟨w.heap.size,0,none⟩))/\∃ bT bS,Kz3 w' w.heap.size bT bS:=by
 have cO:∀ (f:Nat) (a:Addr) (X:World),(store a (.func (.func f) #[.pointer (some ⟨w.heap.size,0,none⟩)] #[])).run prog X=stored prog X a (.func (.func f) #[.pointer (some ⟨w.heap.size,0,none⟩)] #[]) .plain:=fun f a X=>run_store _ _ _ _ _ rfl;have hp:=Ksx hp;go_enter func105,ntmps105
 go_wp2;generalize bC:World.alloc _ _=A;obtain⟨cW,hW,Z,hk⟩:=Qc7 w _ _ _ A bC;have cJ:=Ja hk bE;have hK:∀ (k:Nat) (p:Pt),Jkp[k]?=some p->p.op=(k:Int)/\A.cell? ⟨w.heap.size+1+1,k,none⟩=some (.func (.func (Zv p.op)) #[.pointer (some ⟨w.heap.size,0,none⟩)] #[]):=fun k p h=>by
  simp only[World.cell?,Z];match k,h with
  |0,h=>cases h;exact⟨rfl,rfl⟩
  |1,h=>cases h;exact⟨rfl,rfl⟩
  |2,h=>cases h;exact⟨rfl,rfl⟩
 have hK:=Ksx hK;clear bC bE Z;refine wp_loop_rounds 2 ?_;rw[rounds_succ];go_wp2;go_loopw [7,22] (fun s i wr=>∃ k:Nat,k<=3/\i=.int .i64 (k:Int)/\Hid (wr.ownsRow A.heap.size 266 8 s k ((Jkp.take k).flatMap (Jft w.heap.size)))/\Below A.heap.size A wr) (fun _ i _=>3-(intOf i).toNat)
 case atStart=>exact⟨0,zo,rfl,⟨rfl,.inl ⟨rfl,rfl⟩⟩,Oa5 _ _⟩
 case round=>
  obtain⟨k,cL,rfl,M,hb⟩:=hrel;have cP:=hb.size;by_cases bY:k<3
  ·obtain⟨p,bj⟩:∃ p,Jkp[k]?=some p:=⟨_,Oa3 bY⟩;obtain⟨bJ,x1,x2,cA,cB,cC,cD⟩:=(hp.out k p bj).below (Jb hk hb);obtain⟨ho,K⟩:=hK.out k p bj;replace K:=Ja hb K;have O:Jft w.heap.size p=[.int .i64 (k:Int),.int .i64 p.l,.int .i64 p.r,.int .i64 p.c,.int .i64 p.v.k,.int .i64 p.v.n,.string p.v.s,.func (.func (Zv p.op)) #[.pointer (some ⟨w.heap.size,0,none⟩)] #[]]:=by rw[<-ho];rfl
   rw[ho]at bJ;generalize Zv p.op=f at K O;have O:=Ksx O;have bM:=Ksx bj;have cR:(0:Int)<=(k:Int):=zo;have cS:(k:Int)<3:=zo;have cT:(k:Int)<12:=zo;clear ho bj;go_upto_region 10 with fail
   generalize bh:wr.alloc _=P;have bP:P.heap[wr.heap.size]?=_:=bh▸heap_alloc_new wr _;have bG:Below wr.heap.size wr P:=bh▸Jc (Oa5 _ _) _;have bK:P.heap.size=wr.heap.size+1:=by rw[<-bh];simp
   clear bh bJ x1 x2 cA cB cC cD;replace K:=Jh (Ja bG K);obtain⟨cf,bX,ca,cb,cc⟩:=info_parts Jue;refine wp_region_held_drew (S:=fun X=>X.cell? ⟨w.heap.size+1+1,k,none⟩=some (.func (.func f) #[.pointer (some ⟨w.heap.size,0,none⟩)] #[])/\X.cell? ⟨wr.heap.size,0,none⟩=some (.int .i64 (k:Int))/\X.cell? ⟨wr.heap.size,1,none⟩=some (.int .i64 p.l)/\X.cell? ⟨wr.heap.size,2,none⟩=some (.int .i64 p.r)/\X.cell? ⟨wr.heap.size,3,none⟩=some (.int .i64 p.c)/\X.cell? ⟨wr.heap.size,4,none⟩=some (.int .i64 p.v.k)/\X.cell? ⟨wr.heap.size,5,none⟩=some (.int .i64 p.v.n)/\X.cell? ⟨wr.heap.size,6,none⟩=some (.string p.v.s)) zK ⟨K,by refine⟨?_,?_,?_,?_,?_,?_,?_⟩<;>(unfold World.cell?;rw[heap_drew,bP];rfl)⟩ (fun y=>?_);refine tkj 0 rfl y ?_;refine tkj 1 rfl y ?_;refine tkj 2 rfl y ?_;refine tkj 3 rfl y ?_;refine tkj 4 rfl y ?_;refine tkj 5 rfl y ?_;refine tkj 6 rfl y ?_;refine tkn ?_;refine tkr 7 rfl fun bk U=>?_;go_simp;generalize bi:World.alloc _ _=X;have bQ:X.heap[wr.heap.size+1]?=_:=bi▸bK▸heap_alloc_new P _;have bz:Below P.heap.size P X:=bi▸Jc (Oa5 _ _) _;have cE:X.heap.size=wr.heap.size+2:=by rw[<-bi,Oa7,bK]
   clear bi;refine U.out _ _ (by simpa only[World.cell?,heap_drew,bz.block wr.heap.size zo,bz.block (w.heap.size+1+1) zo] using y) (fun y=>?_);clear U bk;have bD:Below wr.heap.size wr X.drew:=Jj (Jb bG bz);have hob:=fun g e=>Je M.out (g:=g) e;refine tkr 8 rfl fun bk U=>?_;refine step_append_lies X.drew rfl (.tmp 26) (.tmp 33) 264 rfl A.heap.size 266 cf (.agg #[.int .i64 0,.int .i64 0,.int .i64 0,.int .i64 0,.int .i64 0,.int .i64 0,.string ⟨#[]⟩,.nilFunc]) 8 72 underlying264 bX ca cb cc rfl zd u7 k ((Jkp.take k).flatMap (Jft w.heap.size)) rfl (Jaw M.out bD) ⟨wr.heap.size+1,0,none⟩ 1 1 (Jft w.heap.size p) rfl rfl (fun j u H=>World.news_of_block (show X.drew.heap[wr.heap.size+1]?=_ from bQ) j u (by rw[O.out]at H;simpa using H)) (fun u H=>by rw[O.out]at H;simp at H;rcases H with rfl|rfl|rfl|rfl|rfl|rfl|rfl|rfl<;>rfl) zd (by unfold maxLen;omega) zo (by rw[heap_drew];omega) (wr.heap.size+2) (by rw[heap_drew,cE]) (fun bU bN Y bZ bx cI cM=>?_);refine U.out _ _ (by simpa only[World.cell?,bx.block wr.heap.size (by rw[heap_drew];omega) (fun e=>by have:=hob _ e.symm;omega),bx.block (w.heap.size+1+1) (by rw[heap_drew];omega) (fun e=>by have:=hob _ e.symm;omega)] using y) (fun y=>?_);clear U bk;simp only[Act.put,List.getElem_toArray,List.getElem_cons_zero,List.getElem_cons_succ,Oa1,List.set_cons_zero,List.set_cons_succ];refine tkj 9 rfl y ?_;refine tkn ?_;refine wpAnyH_done zK ?_ _;have bL:Hid (Y.ownsRow A.heap.size 266 8 (.slice (some ⟨bU,0,none⟩) (k+1) bN) (k+1) ((Jkp.take (k+1)).flatMap (Jft w.heap.size))):=by
    show World.ownsRow _ _ _ _ _ _ _;rw[Oi7,bM.out,Oe8];simpa using bZ
   have I:=Jy (Jb hb bD) bx fun g e=>(hob g e).1;go_wp2;go_roundw
   case rel=>exact⟨k+1,zo,zn,bL,I⟩
   case measure=>simp[intOf];omega
  obtain rfl:k=3:=zo;obtain⟨sb,sc,rfl⟩:∃ sb sc,u7=.slice (some ⟨sb,0,none⟩) 3 sc:=by
   obtain⟨_,⟨_,br⟩|⟨sb,sc,cF,bf,_⟩⟩:=M.out
   ·cases br
   exact⟨sb,sc,bf⟩
  have hw:=(show Uz A w.heap.size _ _ _ _ _ _ from hW).below hb;have c0:=hw.cells.1;have cN:=Je M.out rfl;have hw:=Ksx hw;go_wp2_with (at_builtin;go_must (refine Ul zR _ _ 258 264 _ 24 Jsw zR zd zK zR wr.heap.size _ _ zR (Jo.nil _ _ _) ⟨wr.heap.size,0,none⟩ 1 [.slice (some ⟨sb,0,none⟩) 3 sc] zR (by exact Ua wr _ _) (by intro u H;simp at H;subst H;rfl) zS zS ?_);intro cG Y bf br cH;have I:=Jy (sv:=.slice none 0 0) (Jc (Oa5 _ wr) _) br (fun k hk=>by cases hk);obtain⟨a,cp,e,bV⟩:=Ji8 bf;obtain⟨g2,rfl,bO,Z,_⟩:=bV 0 _ rfl;have cK:=(Je bf bO).1;subst e;have cU:=(hw.out.below I).cells.1;have cV:=(hw.out.below I).thaw 0)
  rw[rounds_succ];go_wp2;go_returns
  have hn:∀ g,g≠w.heap.size->∀ o v,Y.cell? ⟨g,o,none⟩=some v->(Y.setCell ⟨w.heap.size,0,none⟩ (.slice (some ⟨g2,0,none⟩) 1 cp)).cell? ⟨g,o,none⟩=some v:=fun g bW o v h=>Uc (fun e=>bW (congrArg Addr.block e).symm) h;have cQ:=Jd hw.out;refine⟨(Jb (Jb hk hb) I).setCell (Oa2 _) _,rfl,g2,cp,⟨_,_,_,_,_,Jk (hw.out.below I) 0 _⟩,zo,sb,sc,hn g2 zo 0 _ Z,?_⟩;have bA:=Jnn (es:=Jkp) (b:=w.heap.size) (Jaw M.out I) zo;exact⟨⟨bA.ne,fun j p h=>by
   obtain⟨ci,cj,cn,cu,cv,cx,cy,cz⟩:=bA.step j p h;have:=hn sb bA.ne;exact⟨this _ _ ci,this _ _ cj,this _ _ cn,this _ _ cu,this _ _ cv,this _ _ cx,this _ _ cy,this _ _ cz⟩⟩,zo,zo⟩
attribute [local go_sem] Oc0
structure PrI (w:World) (db l wb tb rg eg ec:Nat) (pre:List Bat) (W:World):Prop where
 b1:W.heap[w.heap.size+1]?=some (.cells #[.slice none 0 0] 76 (0,0))
 b2:W.heap[w.heap.size+1+1]?=some (.cells #[.nilIface] 78 (0,0))
 bw:W.heap[wb]?=some (.cells #[.pointer (some ⟨w.heap.size+3,0,none⟩)] 208 (0,0))
 bt:W.heap[tb]?=some (.cells #[.slice (some ⟨rg,0,none⟩) 1 1] 76 (0,0))
 rd:pre=[]->Kz3 W (w.heap.size+3) eg ec
 ct:∃ svs,Jar W rg rg svs [pre.map fun _=>⟨1,42,⟨#[]⟩⟩]/\∀ c,(Uq svs 0).ownBlock=some c->tb+3<=c
 keep:Ju (·=db) w W
 dn:W.heap[db]?=Jdc w db l
 size:tb+3<=W.heap.size
theorem Qbq {α}{F:Fence}{n P g lb}{K:α->Array Value}{H:α->World->Prop}{y:World->World->Prop}{S I:List α->Prop}{N w}(h:Kh4 F n P g lb K H y S I N w):Qcj F n P g lb K H (fun _ _=>True) y S I N w:=fun l J M W hW bf bh bi h0=>h l J M W hW bf bh (fun bj x O U Y Z=>bi bj x O U Y trivial Z) h0
theorem Qan (rb y k cL l z:Nat)bu bl cZ da cM sc(op r:Int)tn ky(kk:Int)(eb cv cN cF cG pc g cap:Nat)hs w(hr:Jck w rb z bu bl cZ da cM sc (.slice (some ⟨y,0,none⟩) k cL))(hl:l<k)(bf:w.cell? ⟨y,l,none⟩=some (.slice (some ⟨g,0,none⟩) 1 cap))(cR:w.frozen? ⟨y,l,none⟩=false)(cc:rb≠y)(cQ:w.cell? ⟨eb,cv,none⟩=some (.slice (some ⟨cF,cG,none⟩) 3 pc))(hp:∀ k p,Jkp[k]?=some p->Qi w cF (cG+k*7) p)(dA:1<=z)(dC:z<=100000)(hC:Qd w g hs [[⟨1,41,⟨#[]⟩⟩]])(cS:Jbo g hs 1 (fun b=>b≠y))(cT:Jbo g hs 1 (fun b=>b<w.heap.size)):
  Calls prog 73 #[.pointer (some ⟨rb,0,none⟩),.agg #[.int .i64 op,.int .i64 (l:Int),.int .i64 r,.string tn,.slice (some ⟨eb,cv,none⟩) 1 cN,ky,.int .i64 kk]] w fun e w'=>Ju (·=y) w w'/\∃ rg br,e=.returned (.tuple #[.slice (some ⟨rg,0,none⟩) 1 1,.nilIface])/\w.heap.size<=rg/\Jar w' rg rg br [[⟨1,42,⟨#[]⟩⟩]]/\w'.heap[y]?=Jdc w y l:=by
 have ca:=Jm bf;simp only at ca;have bI:=Ksx (And.intro hr (And.intro hl (And.intro bf (And.intro cR cc))));have cI:=Ksx (And.intro cQ hp);have Y:=Ksx (And.intro hC (And.intro cS cT));clear hr hl bf cR cc cQ hp hC cS cT;refine(callsIn_wide (n:=3)).1 ?_;refine callsIn_of_wp_marks func73 rfl trivial ?_ rfl;simp only[ntmps73,Om3,List.length_cons,List.length_nil,Nat.reduceAdd,Nat.reduceSub,Ok9,Array.replicate_zero,Om4,Ol2,List.nil_append,List.cons_append];refine wpIn_wide.2 ?_;go_upto_region 1 with fail
 generalize hW:World.alloc _ _=cK;obtain⟨cC,bD,bQ,bR,U⟩:=Jur w _ _ _ cK hW;clear hW;have cE:=zc 4 bD;have bM:=Qc8 eb cv cN cF cG pc cK (Ja U cI.out.1) (fun k p h=>(cI.out.2 k p h).below U);rw[cC]at bM;go_upto_region 2 with(go_at_call 105;refine bM.mono ?_;rintro e H ⟨bj,rfl,cu,cn,bN⟩)
 rw[<-cC]at bj;have dB:=bj.size;have cU:w.heap.size+3<H.heap.size:=by obtain⟨⟨_,_,_,_,_,h⟩,_⟩:=bN;exact Jd h
 generalize hW:H.alloc _=bJ;have cj:bJ.heap[H.heap.size]?=_:=hW▸heap_alloc_new H _;have bG:Below H.heap.size H bJ:=hW▸Jc (Oa5 _ _) _;have z2:bJ.heap.size=H.heap.size+1:=by rw[<-hW,Oa7]
 replace bN:=bN.move (fun k _ _ _ _ h=>(bG.block k (Jd h)).trans h);replace bj:=Jb bj bG;replace bD:=(bj.block _ zo).trans bD;replace bQ:=(bj.block _ zo).trans bQ;replace bR:=(bj.block _ zo).trans bR;replace U:=Jb U bj;generalize H.heap.size=wb at *;clear hW bM cE cC bj bG dB;have cE:=zc 4 bD;have bM:=Jiz 1 bJ zo;go_upto_region 3 with(go_at_call 79;refine bM.mono ?_;rintro e bC ⟨rfl,bh,bk⟩)
 have cD:=bh.row.lt;generalize hW:bC.alloc _=bK;have df:bK.heap[bC.heap.size]?=_:=hW▸heap_alloc_new bC _;have cz:Below bC.heap.size bC bK:=hW▸Jc (Oa5 _ _) _;have db:bK.heap.size=bC.heap.size+1:=by rw[<-hW,Oa7]
 replace bh:=bh.below cz;replace bk:=Jb bk cz;replace bN:=bN.move (fun k _ _ _ _ h=>(bk.block k (Jd h)).trans h);replace bD:=(bk.block _ zo).trans bD;replace bQ:=(bk.block _ zo).trans bQ;replace bR:=(bk.block _ zo).trans bR;replace cj:=(bk.block _ zo).trans cj;replace U:=Jb U bk;generalize bC.heap.size=tb at *;rw[z2]at bh cD;clear hW bM cE z2 bk cz;have cJ:Hid (w.heap.size+3<wb/\wb+1<tb/\bK.heap.size=tb+1/\y<w.heap.size):=⟨cU,cD,db,ca⟩;clear cU cD db;have dG:=zc 1 bD;have dH:=(bI.out.1.below U).cells.1;have du:=Jjb rb y k cL l z bu bl cZ da cM sc (some ⟨g,0,none⟩) 1 cap bK.drew (bI.out.1.below (Jj U)) bI.out.2.1 (Ja U bI.out.2.2.1) (by rw[<-bI.out.2.2.2.1];exact Ol7 (U.block y ca));have dm:=fun X=>Jh4 (.slice (some ⟨g,0,none⟩) 1 cap) (z:Int) (some ⟨g,0,none⟩) 1 cap rfl X;have dv:y≠w.heap.size:=zo;have cc:=bI.out.2.2.2.2;refine(wpIn_wide (n:=3)).1 (Code.wpIn_mono Jpf.imp ((wpIn_wide (n:=3)).2 (wp_region_held_drew (S:=fun X=>X.cell? ⟨w.heap.size,1,none⟩=some (.int .i64 (l:Int))/\X.cell? ⟨rb,0,none⟩=some (.int .i64 (z:Int))) zK ⟨dG,dH⟩ (fun O=>?_))));refine tkj 0 rfl O ?_;refine tkj 1 rfl O ?_;refine tkj 2 rfl O ?_;refine tkj 4 rfl O ?_;refine tkj 5 rfl O ?_;refine tkj 6 rfl O ?_;refine tkj 7 rfl O ?_;refine tkj 8 rfl O ?_;refine tkn ?_;refine tkr 3 rfl fun bW hK=>?_;go_simp;refine du.mono ?_;rintro e bX ⟨rfl,bB⟩;replace bB:=Ksx bB;go_simp;refine hK.out _ _ (by rw[bB.out];exact⟨Uc (fun e=>dv (congrArg Addr.block e)) O.1,Uc (fun e=>cc (congrArg Addr.block e).symm) O.2⟩) (fun O=>?_);clear hK bW;refine tkr 9 rfl fun bW hK=>?_;go_simp;refine(dm bX).mono ?_;rintro e bi ⟨rfl,cy⟩;have bS:Below bX.heap.size bX bi:=by rw[cy];go_grown
 have bV:=Ksx cy;clear cy;go_simp;refine hK.out _ _ ⟨Ja bS O.1,Ja bS O.2⟩ (fun O=>?_);clear hK bW;refine wpAnyH_done zK (Jpf.go ?_) _;go_wp2_with fail
 refine(wpIn_wide (n:=3)).1 ?_;have s1:bX.heap.size=tb+1:=by rw[bB.out,<-cJ.out.2.2.1];simp
 rw[s1]at bS |-;have dA:=cJ.out;have bO:∀ k,k<tb+1->k≠y->bi.heap[k]?=bK.heap[k]?:=fun k hk hn=>by
  rw[bS.block k hk,bB.out,Oa4 _ _ _ _ hn];rfl
 have cA:Ju (·=y) w bi:=by
  rw[bV.out,bB.out];exact Ju.alloc (Ju.alloc (Ju.set (F:=fun x=>x=y) (Ju.of_below (Jj U)) rfl l _) _) _
 have s2:bi.heap.size=tb+3:=by rw[bV.out,Oa7,Oa7,s1]
 have dl:PrI w y l wb tb (wb+1) cu cn [] bi:=by
  refine⟨(bO _ zo zo).trans bQ,(bO _ zo zo).trans bR,(bO _ zo zo).trans cj,(bO _ zo zo).trans df,fun _=>bN.move (fun k _ _ _ Z M=>(bO k (by have:=Jd M;omega) zo).trans M),⟨_,⟨bh.row.of_block (bO _ zo zo),bh.low,bh.len,fun i hi=>Jl (bh.own i hi) fun g e=>?_,bh.ne,bh.apart⟩,fun c e=>by cases e⟩,cA,?_,zo⟩
  ·match i,hi with
   |0,_=>cases e
  rw[bS.block y zo,bB.out];exact Jol (U.block y ca)
 have dh:bi.cell? ⟨tb+1,0,none⟩=some (.slice (some ⟨g,0,none⟩) 1 cap):=by rw[bV.out,<-s1];simp[go_sem]
 have dg:bi.cell? ⟨tb+1+1,0,none⟩=some (.int .i64 (z:Int)):=by rw[bV.out,<-s1];simp[go_sem]
 have dj:Qd bi g hs [[⟨1,41,⟨#[]⟩⟩]]:=Y.out.1.kp (Fx:=fun k=>k<w.heap.size/\k≠y) ⟨cA.size,fun k hk=>cA.block k hk.1 hk.2⟩ ⟨⟨Y.out.2.2.1,Y.out.2.1.1⟩,fun j K b o e=>⟨Y.out.2.2.2 j K b o e,Y.out.2.1.2 j K b o e⟩⟩;have bZ:ckN 1 z=1:=by unfold ckN;rw[Nat.add_comm,Nat.add_sub_cancel];exact Nat.div_self zo
 apply Ktr rfl zo (gf:=140) (lb:=#[.pointer (some ⟨tb+1,0,none⟩),.pointer (some ⟨tb+1+1,0,none⟩)]) rfl trivial (enters_of func140 zK rfl)
  (Qbq (Jjx 2 zo (tb+1) (tb+1+1) g cap hs [[⟨1,41,⟨#[]⟩⟩]] 1 z zo dC zo zS zS bi dj (fun j K=>by match j,K with|0,_=>rfl) dh dg (fun k=>k=tb+1\/k=tb+1+1\/(k<w.heap.size/\k≠y)) ⟨.inl rfl,.inr (.inl rfl),.inr (.inr ⟨Y.out.2.2.1,Y.out.2.1.1⟩),fun j K b o e=>.inr (.inr ⟨Y.out.2.2.2 j K b o e,Y.out.2.1.2 j K b o e⟩)⟩ (fun k hk=>zo)))
  (fun h k=>h.trans k) ?hKb (Oa5 _ _) (fun _=>rfl) (fun cH W=>PrI w y l wb tb (wb+1) cu cn cH W) (fun _ _ _=>False) ?hI (fun _ _ _ _ _ h=>h.elim) ?hR dl _ ?assign ?body ?done (fun _ _ _ _ _ _ h=>h.elim)
 case assign=>
  intro l x W bW hK;gi_wp2
  exact hK
 case hKb=>
  intro W l o cY hl ho _ _;exact⟨zS,fun k hk=>World.putObj_heap_other zo⟩
 case hI=>
  intro s W dd row h bP hr;have hk:=CK.of_grown bP fun r e=>(hr r e).2;obtain⟨br,bf,hs⟩:=h.ct;have:=h.size;exact⟨hk.cells _ _ _ _ h.b1,hk.cells _ _ _ _ h.b2,hk.cells _ _ _ _ h.bw,hk.cells _ _ _ _ h.bt,fun e=>(h.rd e).move fun k c t f _ h=>hk.cells k c t f h,⟨br,bf.ck hk,hs⟩,Jau h.keep bP fun r e=>by have:=(hr r e).1;omega,(bP.block y zo (fun e=>by have:=(hr y e.symm).1;omega)).trans h.dn,Ob2 h.size bP.size⟩
 case hR=>
  rintro x W dd row ⟨Z,M,bz,bL⟩ bP hr;exact⟨Z,M,bz,bL.ck (CK.of_grown bP fun r e=>(hr r e).2)⟩
 case body=>
  rintro cX cH ⟨f,m,gx⟩ W hI ⟨dw,⟨dx,_⟩,dy,cf⟩ _ dt;rw[bZ]at dt;obtain rfl:cH=[]:=Od3.1 zo;simp only at dw dx dy cf;obtain⟨rfl,rfl⟩:f=0/\m=1:=zo;have cO:One W (w.heap.size+3) w.heap.size gx 1:=by
   obtain⟨dQ,dR,cP,_⟩:=(Y.out.1.vals 0 zS).at (i:=0) zS;obtain⟨bl,dI,hb,_,hv⟩:=(cf.vals 0 zS).at (i:=0) zd;have e:=Jmn zS cP hb;have dX:=Y.out.2.2.2 0 zS _ _ cP;have bf:=cf.row.cell (i:=0) zS;rw[hb]at bf;exact⟨⟨bl,dI,_,bf,hv,zo,zo⟩,zo,hI.keep.size⟩
  have ds:=eOn (w.heap.size+3) w.heap.size gx 1 cu cn 0 W (hI.rd rfl) cO;have cw:W.cell? ⟨wb,0,none⟩=some (.pointer (some ⟨w.heap.size+3,0,none⟩)):=by simp[World.cell?,hI.bw]
  obtain⟨br,I,bT⟩:=hI.ct;have dZ:=hI.size;have hob:∀ b,(Uq br 0).ownBlock=some b->tb+3<=b/\b<W.heap.size:=fun b e=>⟨bT b e,(Je (I.own 0 zS) e).2⟩;have bY:∀ (H:World) (g2 cp g o c:Nat),Ju (·=w.heap.size+3) W H->W.heap.size<=g2->H.cell? ⟨g2,0,none⟩=some (.slice (some ⟨g,o,none⟩) 1 c)->(g<w.heap.size\/W.heap.size<=g)->VAt H g o ⟨1,42,⟨#[]⟩⟩->Calls prog 109 #[.slice (some ⟨wb+1,0,none⟩) 1 1,.slice (some ⟨g2,0,none⟩) 1 cp] H fun e w'=>e=.returned (.tuple #[])/\(∃ ci,Jar w' (wb+1) (wb+1) ci [[⟨1,42,⟨#[]⟩⟩]]/\∀ c,(Uq ci 0).ownBlock=some c->tb+3<=c)/\Below (wb+1) H w'/\H.heap.size<=w'.heap.size/\∀ x,x<H.heap.size->x≠wb+1->(Uq br 0).ownBlock≠some x->w'.heap[x]?=H.heap[x]?:=fun H g2 cp g o c hk Z M bz bL=>by
   have fe:=hk.size;have:=Jm M;simp only at this;refine(Kb4 (wb+1) (wb+1) 1 br [[]] g2 cp [(some ⟨g,o,none⟩,c)] [[⟨1,42,⟨#[]⟩⟩]] H ⟨I.row.of_block (hk.block _ I.row.lt (by show ¬ wb+1=w.heap.size+3;omega)),I.low,I.len,fun i hi=>Jl (I.own i hi) fun b e=>?_,I.ne,I.apart⟩ ⟨this,fun j K=>?_,fun j K=>?_⟩ rfl (fun j K=>?_) zo zS (fun j b K e=>?_) ⟨zo,fun k de cY hk e=>?_⟩).mono fun e w' ⟨dJ,⟨ci,dK,dL⟩,dM,dN,dO⟩=>⟨dJ,⟨ci,dK,fun c e=>?_⟩,dM,dN,fun x Z M bz=>dO x Z M fun j K=>?_⟩
   ·match i,hi with
    |0,_=>
     have:=hob b e;exact hk.block b this.2 (by show ¬ b=w.heap.size+3;omega)
   ·match j,K with
    |0,_=>exact M
   ·match j,K with
    |0,_=>exact .inr ⟨g,o,rfl,Jm bL.1,fun i v hi=>by
     match i,hi with
     |0,hi=>cases hi;exact bL⟩
   ·match j,K with
    |0,_=>decide
   ·match j,K with
    |0,_=>
     have:=hob b e;refine⟨zo,fun k de cY hk e=>?_⟩;match k,hk with
     |0,_=>cases e;omega
   ·match k,hk with
    |0,_=>cases e;omega
   ·rcases dL 0 c zS e with h|h
    ·exact bT c h
    omega
   match j,K with
   |0,_=>exact bz
  have hty:=Ksx fun b e=>Ja4 (I.own 0 zS) (g:=b) e;have dc:=Ksx bY;have bU:=Ksx hI;clear bY hI I bT cf cO;gi_wp2_with (first|(refine⟨trivial,?_⟩;gi_at_call 107;refine(CallsIn.inRound cX (callsIn_wide.2 ds)).mono ?_;rintro e H ⟨g2,cp,di,o,c,rfl,Z,M,bz,bL,bA⟩;have ct:=bA.cell (show W.cell? ⟨tb,0,none⟩=some (.slice (some ⟨wb+1,0,none⟩) 1 1) by simp[World.cell?,bU.out.bt]) (by show ¬ tb=w.heap.size+3;omega);have bY:=dc.out H g2 cp di o c bA Z M bz bL)|(refine⟨trivial,?_⟩;gi_at_call 109;refine(CallsIn.inRound cX (callsIn_wide.2 bY)).mono ?_;rintro e bJ ⟨rfl,dp,bG,dY,cV⟩))
  have dW:=bA.size;have bH:∀ k,k<tb+3->k≠wb+1->k≠w.heap.size+3->bJ.heap[k]?=W.heap[k]?:=fun k Z M bz=>by rw[cV k zo M (fun e=>by have:=hob k e;omega),bA.block k zo bz]
  have hh:=bU.out;refine⟨⟨zo,fun k o hk ho bf=>?_⟩,⟨zo,fun k hk=>bH k zo zo zo⟩,(bH _ zo zo zo).trans hh.b1,(bH _ zo zo zo).trans hh.b2,(bH _ zo zo zo).trans hh.bw,(bH _ zo zo zo).trans hh.bt,(fun e=>by cases e),dp,⟨bG.os.trans (bA.os.trans hh.keep.os),bG.tape.trans (bA.tape.trans hh.keep.tape),bG.output.trans (bA.output.trans hh.keep.output),by have:=hh.keep.size;omega,fun k hk hn=>(bH k zo zo zo).trans (hh.keep.block k hk hn)⟩,(bH y zo zo zo).trans hh.dn,zo⟩;rw[cV k (by have:=Jd ho;omega) zo (fun e=>?_),bA.block k (Jd ho) (by show ¬ k=w.heap.size+3;omega)]
  ·exact ho
  obtain⟨dS,h⟩:=hty.out k e;rw[h]at ho;cases ho
  cases bf
 case done=>
  rintro D dP W dV cW hI hK;have hy:dP.length=1:=by have:=congrArg List.length cW;rw[Oa6,Jbp,bZ]at this;exact this
  obtain⟨fc,rfl⟩:=List.length_eq_one_iff.1 hy;have c2:W.cell? ⟨w.heap.size+1,0,none⟩=some (.slice none 0 0):=by simp[World.cell?,hI.b1]
  have dT:=Lib.frozen_of_heap hI.b1 0;have c3:W.cell? ⟨w.heap.size+1+1,0,none⟩=some .nilIface:=by simp[World.cell?,hI.b2]
  have dU:=Lib.frozen_of_heap hI.b2 0;have c4:W.cell? ⟨tb,0,none⟩=some (.slice (some ⟨wb+1,0,none⟩) 1 1):=by simp[World.cell?,hI.bt]
  have bU:=Ksx hI;clear hI cW hy;go_wp2_with fail
  have cx:=((KeepsOthers.setCell W ⟨w.heap.size+1,0,none⟩ (.slice (some ⟨wb+1,0,none⟩) 1 1)).trans (KeepsOthers.setCell _ ⟨w.heap.size+1+1,0,none⟩ .nilIface)).same D _ hK rfl;refine⟨zS,.inl ⟨_,_,rfl,run_takeDeferred cx,?_⟩⟩;have hI:=bU.out;generalize bE:(W.setCell ⟨w.heap.size+1,0,none⟩ _).setCell _ _=bx at cx |-;have cb:∀ k,k≠w.heap.size+1->k≠w.heap.size+1+1->bx.heap[k]?=W.heap[k]?:=fun k Z M=>by rw[<-bE,Oa4 _ _ _ _ M,Oa4 _ _ _ _ Z]
  have g1:bx.heap[w.heap.size+1]?=_:=bE▸(Oa4 _ _ _ _ zS).trans (Jk hI.b1 0 _);have g2:bx.heap[w.heap.size+1+1]?=_:=bE▸Jk ((Oa4 _ _ _ _ zS).trans hI.b2) 0 _;have fd:bx.heap.size=W.heap.size:=by rw[<-bE];simp
  have ff:=hI.keep.size;have cB:∀ k,k≠D->(bx.putObj D (.deferred none)).heap[k]?=bx.heap[k]?:=fun k h=>World.putObj_heap_other h;have dD:=(cB (w.heap.size+1) zo).trans g1;have dE:=(cB (w.heap.size+1+1) zo).trans g2;refine⟨.tuple #[.slice (some ⟨wb+1,0,none⟩) 1 1,.nilIface],by simp[results,Tryz.f73,go_sem,World.cell?,dD,dE],?_⟩;obtain⟨br,I,bT⟩:=hI.ct;have dq:Ju (·=y) w bx:=⟨by rw[<-bE];exact hI.keep.os,by rw[<-bE];exact hI.keep.tape,by rw[<-bE];exact hI.keep.output,zo,fun k hk dr=>(cb k zo zo).trans (hI.keep.block k hk dr)⟩;have bZ:=CK.of_grown (grownBy_putObj' bx D (.deferred none)) fun r e=>by cases e;exact⟨_,cx,rfl⟩
  exact⟨Jau dq (grownBy_putObj' _ D (.deferred none)) (fun r e=>by cases e;omega),wb+1,br,rfl,zo,Jar.ck ⟨I.row.of_block (cb _ zo zo),I.low,I.len,fun i hi=>Jl (I.own i hi) fun b e=>by
   match i,hi with
   |0,_=>
    have:=bT b e;exact cb b zo zo,I.ne,I.apart⟩ bZ,(cB y zo).trans ((cb y zo zo).trans hI.dn)⟩
attribute [local go_sem] Oc0
theorem Qcp tb bf Y j U O p w(hp:Jkp[j]?=some p)(H:Jg6 w tb (.slice U 1 bf) (.slice O j Y))(hC:Kc w U [1])(I:Kc w O (List.replicate j 1)):Calls prog 173 #[.pointer (some ⟨tb,0,none⟩),p.val] w (TyP w 1):=by
 have bz:∀ (f:Nat) (a:Addr) (X:World),(store a (.func (.func f) #[.pointer (some ⟨tb,0,none⟩)] #[])).run prog X=stored prog X a (.func (.func f) #[.pointer (some ⟨tb,0,none⟩)] #[]) .plain:=fun f a X=>run_store _ _ _ _ _ rfl;have M:∃ f k:Nat,p.op=(k:Int)/\k<3/\f=(if k=0 then 254 else if k=1 then 255 else 256)/\(∀ (args:Array Value) (W:World),(callFunc f args).run prog W=.ok (.enter f args) W)/\∀ X,Below w.heap.size w X->Calls prog f #[.pointer (some ⟨tb,0,none⟩),p.val] X (TyP X 1):=by
  match j,hp,H,I with
  |0,hp,H,I=>cases hp;exact⟨_,0,rfl,zo,rfl,fun _ _=>zK,fun X K=>Jtu tb _ O Y [] _ U bf 0 [1] rfl rfl zS X ((K.block _ (Jd H)).trans H) (hC.below K)⟩
  |1,hp,H,I=>cases hp;exact⟨_,1,rfl,zo,rfl,fun _ _=>zK,fun X K=>Jpx tb _ X zd zd (by unfold okV;simp[okB,okK])⟩
  |2,hp,H,I=>cases hp;exact⟨_,2,rfl,zo,rfl,fun _ _=>zK,fun X K=>Jtk tb _ O Y [1,1] _ 0 rfl zS 1 rfl zS rfl rfl X ((K.block _ (Jd H)).trans H) (I.below K)⟩
 obtain⟨f,k,ho,hk,hf,bx,M⟩:=M;rw[Pt.val,ho]at M |-;clear hp H hC I ho;replace M:=Ksx M;have bA:(0:Int)<=(k:Int):=zo;have bB:(k:Int)<12:=zo;have bC:¬ (k:Int)<0:=zo;replace hf:=Ksx hf;go_enter func173,ntmps173
 go_wp2;generalize bh:World.alloc _ _=A;obtain⟨bD,bj,bk,hb⟩:=Qc7 w _ _ _ A bh;have ck:A.cell? ⟨w.heap.size+1+1,k,none⟩=some (.func (.func f) #[.pointer (some ⟨tb,0,none⟩)] #[]):=by
  simp only[World.cell?,bk];rw[hf.out];match k,hk with
  |0,_=>rfl
  |1,_=>rfl
  |2,_=>rfl
 clear bh;refine wp_region_held_drew (S:=fun X=>X.cell? ⟨w.heap.size+1+1,k,none⟩=some (.func (.func f) #[.pointer (some ⟨tb,0,none⟩)] #[])/\X.cell? ⟨w.heap.size,0,none⟩=some (.int .i64 (k:Int))/\X.cell? ⟨w.heap.size,1,none⟩=some (.int .i64 p.l)/\X.cell? ⟨w.heap.size,2,none⟩=some (.int .i64 p.r)/\X.cell? ⟨w.heap.size,3,none⟩=some (.int .i64 p.c)/\X.cell? ⟨w.heap.size,4,none⟩=some (.int .i64 p.v.k)/\X.cell? ⟨w.heap.size,5,none⟩=some (.int .i64 p.v.n)/\X.cell? ⟨w.heap.size,6,none⟩=some (.string p.v.s)) zK ⟨ck,by refine⟨?_,?_,?_,?_,?_,?_,?_⟩<;>(unfold World.cell?;rw[heap_drew,bj];rfl)⟩ (fun y=>?_);refine tkj 0 rfl y ?_;refine tkj 1 rfl y ?_;refine tkj 2 rfl y ?_;refine tkj 3 rfl y ?_;refine tkj 4 rfl y ?_;refine tkn ?_;refine tkr 5 rfl fun bi hK=>?_;go_simp;refine(M.out A.drew (Jj hb)).mono ?_;rintro e br ⟨rfl,Z⟩;go_simp;refine hK.out _ _ (by simpa only[World.cell?,Z.block w.heap.size (by rw[heap_drew];omega),Z.block (w.heap.size+1+1) (by rw[heap_drew];omega)] using y) (fun y=>?_);clear hK bi;refine tkj 6 rfl y ?_;refine tkj 7 rfl y ?_;refine tkj 8 rfl y ?_;refine tkj 9 rfl y ?_;refine tkn ?_;refine wpAnyH_done zK ?_ _;go_wp2;go_returns
 exact⟨rfl,Jb (Jj hb) Z⟩
theorem Qcx bC bD pc M I w(bx:∀ k p,Jkp[k]?=some p->Qi w bC (bD+k*7) p)(hC:Kc w I [1]):Calls prog 131 #[.slice (some ⟨bC,bD,none⟩) 3 pc,.slice I 1 M] w fun e w'=>e=.returned (.tuple #[.int .i64 1,.nilIface])/\Below w.heap.size w w':=by
 have bj:=Ksx (And.intro bx hC);clear bx hC;go_enter func131,ntmps131
 go_upto_region 4 with fail
 generalize Z:w.alloc _=A;have Y:Jg6 A w.heap.size (.slice I 1 M) (.slice none 0 0):=Z▸heap_alloc_new w _;have hb:Below w.heap.size w A:=Z▸Jc (Oa5 _ _) _;clear Z;replace Y:=Ksx Y;go_wp2;go_loopw [28] (fun i wr=>∃ (j:Nat) (ev:Value),j<=3/\i=.int .i64 (j:Int)/\Hid (Jg6 wr w.heap.size (.slice I 1 M) ev/\Jo wr (w.heap.size+1) 3 ev ((List.replicate j 1).map iv))/\Below w.heap.size w wr) (fun i _=>3-(intOf i).toNat)
 case atStart=>exact⟨0,_,zo,rfl,⟨Y.out,Jo.nil _ _ _⟩,hb⟩
 case round=>
  obtain⟨j,ev,bN,rfl,H,hb⟩:=hrel;obtain⟨bH,bk,bz,O⟩:=H.out.2.cells;rw[Oa6,Od6]at bz;subst bz;have bh:=Jd H.out.1;by_cases bI:j<3
  ·obtain⟨p,hp⟩:∃ p,Jkp[j]?=some p:=⟨_,Oa3 bI⟩;obtain⟨bQ,bR,bS,bT,bU,bV,bW⟩:=(bj.out.1 j p hp).below hb;have bJ:=fun X (bf:Below wr.heap.size wr X)=>Qcp w.heap.size M bk j I bH p X hp ((bf.block _ bh).trans H.out.1) (bj.out.2.below (Jb hb bf)) (Uh.below O bf);have j1:(0:Int)<=(j:Int):=zo;have j2:(j:Int)<3:=zo;clear hp O;go_wp2_with (first|(go_at_call 173;refine(bJ _ (by go_grown)).mono ?_;rintro e U ⟨rfl,hk⟩;have K:=Jb (show Below wr.heap.size wr _ by go_grown) hk;have c1:=(show Jg6 U w.heap.size _ _ from (K.block _ bh).trans H.out.1).cells.2;have z1:=K.size)|(at_builtin;go_must (refine Ks zR _ _ 22 3 _ 8 Zw zR zd zK zR (w.heap.size+1) _ _ zR (Jo.alloc (H.out.2.below K) _) ⟨U.heap.size,0,none⟩ 1 [iv 1] zR (by exact Ua U _ _) (by intro u bB;simp at bB;subst bB;rfl) zt zt ?_);intro sv bG bi bE bP;have ht:=(show Jg6 bG w.heap.size _ _ from (bE.block _ zt (fun e=>by have:=Je H.out.2 e.symm;omega)).trans ((Oa9 _ _ _ zo).trans ((K.block _ bh).trans H.out.1)));have c2:=ht.cells.2;have bM:=Lib.frozen_of_heap ht 1;obtain⟨bL,c5,bA,_⟩:=bi.cells;rw[Oa8,Oa6,Od6]at bA;subst bA;have ht:=Ksx ht))
   refine⟨⟨j+1,_,zo,zn,⟨Jk ht.out 1 _,?_⟩,?_⟩,by simp[intOf];omega⟩
   ·rw[List.replicate_succ',Ob8];exact Jl bi fun g e=>Oa4 _ _ _ _ (by have:=Je bi e;simp;omega)
   exact(Jy (Jc (Jb hb K) _) bE (fun k e=>by have:=Je H.out.2 e;omega)).setCell (Oa2 _) _
  obtain rfl:j=3:=zo;obtain⟨eb,br,rfl,_,bK⟩:=Kc.at (ns:=[1,1,1]) O (i:=2) zS;have c1:=H.out.1.cells.2;have bO:IntKind.i64.wrap 2=2:=rfl;clear O;go_upto_region 12 with fail
  refine wp_region_held_drew (S:=fun X=>X.cell? ⟨w.heap.size,1,none⟩=some (.slice (some ⟨eb,br,none⟩) 3 bk)/\X.cell? ⟨eb,br+2,none⟩=some (.int .i64 1)) zK ⟨Jh c1,Jh bK⟩ (fun y=>?_);refine tkj 0 rfl y ?_;refine tkj 1 rfl y ?_;refine tkj 2 rfl y ?_;refine tkj 3 rfl y ?_;refine tkj 4 rfl y ?_;refine tkj 5 rfl y ?_;refine tkj 6 rfl y ?_;refine tkj 7 rfl y ?_;refine tkj 8 rfl y ?_;refine tkj 9 rfl y ?_;refine tkj 10 rfl y ?_;refine tkj 11 rfl y ?_;refine tkj 12 rfl y ?_;refine tkj 13 rfl y ?_;refine tkn ?_;refine wpAnyH_done zK ?_ _;go_wp2;go_returns
  exact⟨rfl,Jj hb⟩
attribute [local go_sem] Oc0
theorem Qcy (L I:Nat)bh ev(ks:List Kn)(nd:Nd)(i eb bi bK:Nat)w(h:Jed L I bh ev ks w)(hl:nd.l=(i:Int))(hi:i<ks.length)(hn:ks[i].2=false)(hs:ks[i].1.2.2=[1])(br:nd.xs=(some ⟨eb,bi,none⟩,1,bK))(bB:∀ X,w.grownBy X ev.ownBlock->Jaz X eb bi [Jkp]):
  Calls prog 99 #[.pointer (some ⟨I,0,none⟩),nd.val] w (Jq3 L I bh ev (ks.set i (ks[i].1,true)) [1] w):=by
 have Z:Below w.heap.size w (Jam w nd):=Jc (Oa5 _ _) _;have hq:=Jh0 w nd;have bk:=Jr1 L I bh ev ks i (Jam w nd) (h.below Z) hi hn;have hob:ev.ownBlock≠some w.heap.size:=fun e=>by have:=(Je h.own e).2;omega
 have bz:Hid (∀ X,Jed L I bh ev (ks.set i (ks[i].1,true)) X->(Jam w nd).grownBy X ev.ownBlock->∃ y H pc,X.cell? ⟨eb,bi,none⟩=some (.slice (some ⟨y,H,none⟩) 3 pc)/\Calls prog 131 #[.slice (some ⟨y,H,none⟩) 3 pc,Jbl ks[i].1] X fun bL w'=>bL=.returned (.tuple #[.int .i64 1,.nilIface])/\Below X.heap.size X w'):=fun X bM bN=>by
  obtain⟨y,H,pc,M,bx⟩:=bB X (Ut (Qq Z) bN) 0 Jkp rfl;have K:=bM.ints (ks[i].1,true) (List.mem_set hi _);simp only[hs]at K;rw[Jbl,hs];exact⟨y,H,pc,M,Qcx y H pc _ _ X bx K⟩
 have O:Hid (Zm (Jam w nd) w.heap.size 0 nd/\ev.ownBlock≠some w.heap.size/\Below w.heap.size w (Jam w nd)):=⟨hq,hob,Z⟩;have bH:=hq.2.1;rw[hl,Od0]at bH;replace br:=Ksx br;have bS:=run_neq_nil_nil (P:=prog);obtain⟨s,bE⟩:∃ s,s=ks[i].1:=⟨_,rfl⟩;rw[<-bE]at bk bz |-;clear bE hl hq hob Z h hn bB hs;go_enter func99,ntmps99
 go_upto_region 2 with(go_at_call 130;refine bk.mono ?_;rintro bJ Y ⟨rfl,bj,bf,bT⟩)
 have bI:=(Jmi O.out.1 bf O.out.2.1).2.2.2.2.1;rw[br.out,Od0]at bI;simp only at bI;obtain⟨y,H,pc,M,bP⟩:=bz.out Y bj bf;have U:=Ksx (And.intro bj bf);clear bj bf bk bH;go_wp2;refine wp_loop_rounds 2 ?_;rw[rounds_succ];go_wp2_with (first|(go_at_call 131;refine bP.mono ?_;rintro bJ bA ⟨rfl,bC⟩)|(at_builtin;go_must (refine Ks zR _ _ 22 3 _ 8 Zw zR zd zK zR Y.heap.size _ _ zR (Jo.nil _ _ _) ⟨bA.heap.size,0,none⟩ 1 [iv 1] zR (by exact Ua bA _ _) (by intro u bG;simp at bG;subst bG;rfl) zS (by simp;have:=bC.size;omega) ?_);intro sv' w4 M bx bV))
 rw[rounds_succ];go_wp2;have bD:Below Y.heap.size Y w4:=Jy (sv:=.slice none 0 0) (Jc bC _) bx (fun k hk=>by cases hk);obtain⟨a,cp,e,K⟩:=M.cells;obtain⟨g,o,rfl,bO,_⟩:=Kc.at (ns:=[1]) K (i:=0) zS;subst e;have bR:=Je M (g:=g) rfl;go_returns
 refine⟨some ⟨g,o,none⟩,cp,rfl,U.out.1.below bD,Ut (Ut (Qq O.out.2.2) U.out.2) (Qq bD),K,fun bQ bU e=>?_⟩;cases e
 exact⟨fun e=>by have:=(Je U.out.1.own e).2;omega,by have:=Jd U.out.1.ck;omega,bO,.inl (by have:=O.out.2.2.size;omega)⟩
