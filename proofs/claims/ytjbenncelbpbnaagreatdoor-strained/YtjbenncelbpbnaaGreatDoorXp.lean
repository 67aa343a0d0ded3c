/- The nodes of a plan at work: what is taken, Project. -/
import Derived.Test.YtjbenncelbpbnaaGreatDoorYb
set_option maxHeartbeats 2000000
set_option maxRecDepth 100000
namespace Go.Proofs.YtjbenncelbpbnaaGreatDoor
section
open Go.RowKit Go.Shelf Tryz
attribute [local go_sem] Oc0
def Jck (w:World)(rb:Nat)(z:Int)(bu bl H I y sc dn:Value):Prop:=w.heap[rb]?=some (.cells #[.int .i64 z,bu,bl,H,I,y,sc,dn] 99 (0,0))
theorem Jck.below {w w' rb z bu bl H I y sc dn}(h:Jck w rb z bu bl H I y sc dn)(hb:Below w.heap.size w w'):Jck w' rb z bu bl H I y sc dn:=(hb.block rb (Jd h)).trans h
theorem Jck.cells {w rb z bu bl I H y sc dn}(h:Jck w rb z bu bl I H y sc dn):w.cell? ⟨rb,0,none⟩=some (.int .i64 z)/\w.cell? ⟨rb,4,none⟩=some H/\w.cell? ⟨rb,5,none⟩=some y/\w.cell? ⟨rb,6,none⟩=some sc/\w.cell? ⟨rb,7,none⟩=some dn:=by
 unfold Jck at h;simp[World.cell?,h]
theorem Jjb rb y k cap i z bu bl I K H sc a n c w(h:Jck w rb z bu bl I K H sc (.slice (some ⟨y,0,none⟩) k cap))(hi:i<k)(U:w.cell? ⟨y,i,none⟩=some (.slice a n c))(hf:w.frozen? ⟨y,i,none⟩=false):
  Calls prog 36 #[.pointer (some ⟨rb,0,none⟩),.int .i64 (i:Int)] w fun e w'=>e=.returned (.slice a n c)/\w'=w.setCell ⟨y,i,none⟩ (.slice none 0 0):=by
 obtain⟨c0,c4,c5,M,O⟩:=h.cells;have Y:(0:Int)<=(i:Int):=zo;have Z:(i:Int)<(k:Int):=zo;clear h;go_enter func36,ntmps36
 go_wp2;go_ret
 exact⟨rfl,rfl⟩
theorem Jh4 v z a n c(hv:v=.slice a n c)w:Calls prog 106 #[v,.int .i64 z] w fun e w'=>e=.returned (.func (.func 140) #[] #[.pointer (some ⟨w.heap.size,0,none⟩),.pointer (some ⟨w.heap.size+1,0,none⟩)])/\w'=(w.alloc (.cells #[v] 76)).alloc (.cells #[.int .i64 z] 3):=by
 subst hv;go_enter func106,ntmps106
 go_wp2;go_ret
 exact⟨rfl,rfl⟩
structure CK (W W':World):Prop where
 size:W.heap.size<=W'.heap.size
 cells:∀ (k:Nat) (c:Array Value) (t:TypeId) (f:Nat×Nat),W.heap[k]?=some (Obj.cells c t f)->W'.heap[k]?=some (Obj.cells c t f)
theorem CK.of_grown {W y row}(H:W.grownBy y row)(hr:∀ r,row=some r->∃ o:Obj,W.heap[r]?=some o/\o.isCells=false):CK W y:=
 ⟨H.size,fun k c t f h=>by
  rw[H.block k (Oe2.1 h).1 (fun e=>by
   obtain⟨o,ho,hn⟩:=hr k e.symm;rw[h]at ho;cases ho
   simp[Obj.isCells]at hn)]
  exact h⟩
theorem CK.cell {W H}(h:CK W H){a v}(y:W.cell? a=some v):H.cell? a=some v:=by
 unfold World.cell? at y |-;split at y
 ·rename_i c t f I
  rw[h.cells _ _ _ _ I];exact y
 cases y
theorem Jv.ck {W H a vs}(h:Jv W a vs)(hk:CK W H):Jv H a vs:=by
 rcases h with h|⟨b,o,I,K,y⟩
 ·exact .inl h
 exact .inr ⟨b,o,I,Oc2 K hk.size,fun i v hi=>⟨hk.cell (y i v hi).1,hk.cell (y i v hi).2.1,hk.cell (y i v hi).2.2⟩⟩
theorem Jxz {W H B e z sv n xs}(h:W.ownsRow B e z sv n xs)(hk:CK W H):H.ownsRow B e z sv n xs:=by
 obtain⟨h0,y|⟨g,cap,I,y,K,M,O⟩⟩:=h
 ·exact⟨h0,.inl y⟩
 exact⟨h0,.inr ⟨g,cap,I,y,K,hk.cells _ _ _ _ M,O⟩⟩
theorem Jq5 {W y b t n f}(h:W.rowIs b t n f)(hk:CK W y):y.rowIs b t n f:=by
 obtain⟨c,H,I⟩:=h;exact⟨c,hk.cells _ _ _ _ H,I⟩
theorem Qbo {W y b t n f}(h:Kt6 W b t n f)(hk:CK W y):Kt6 y b t n f:=by
 obtain⟨c,H,I⟩:=h;exact⟨c,hk.cells _ _ _ _ H,I⟩
theorem Jar.ck {W y B g H cs}(h:Jar W B g H cs)(hk:CK W y):Jar y B g H cs:=⟨Jq5 h.row hk,h.low,h.len,fun i hi=>Jxz (h.own i hi) hk,h.ne,h.apart⟩
theorem Qd.ck {W y g hs cs}(h:Qd W g hs cs)(hk:CK W y):Qd y g hs cs:=⟨Qbo h.row hk,fun j H=>(h.vals j H).ck hk,h.cap⟩
def pv1 (e:List Pt)(x:List V):V:=match Kl e x with|.inl v=>v|.inr _=>Jf
theorem Jgd {e x v}(h:Kl e x=.inl v):pv1 e x=v:=by unfold pv1;rw[h]
def Jdc (w:World)(y l:Nat):Option Obj:=(w.setCell ⟨y,l,none⟩ (.slice none 0 0)).heap[y]?
theorem Jol {w W:World}{y l:Nat}(h:W.heap[y]?=w.heap[y]?):(W.setCell ⟨y,l,none⟩ (.slice none 0 0)).heap[y]?=Jdc w y l:=by
 unfold Jdc World.setCell;simp only[Oi3,h]
theorem Jau {F w W H row}(h:Ju F w W)(y:W.grownBy H row)(hr:∀ r,row=some r->w.heap.size<=r):Ju F w H:=
 ⟨y.os.trans h.os,y.tape.trans h.tape,y.output.trans h.output,Ob2 h.size y.size,fun k hk hn=>(y.block k (Oc2 hk h.size) (fun e=>by have:=hr k e.symm;omega)).trans (h.block k hk hn)⟩
end
section
open Go.RowKit Go.Shelf
attribute [local go_sem] Oc0
theorem Jur w y H I W(hW:((w.alloc y).alloc H).alloc I=W):W.heap.size=w.heap.size+3/\W.heap[w.heap.size]?=some y/\W.heap[w.heap.size+1]?=some H/\W.heap[w.heap.size+2]?=some I/\Below w.heap.size w W:=by
 subst hW;have O:=heap_alloc_new w y;have K:=heap_alloc_new (w.alloc y) H;have M:=heap_alloc_new ((w.alloc y).alloc H) I;have z1:(w.alloc y).heap.size=w.heap.size+1:=zS;have z2:((w.alloc y).alloc H).heap.size=w.heap.size+2:=zS;rw[z1]at K;rw[z2]at M;exact⟨zS,by rw[Oa9 _ _ _ zo,Oa9 _ _ _ zo];exact O,by rw[Oa9 _ _ _ zo];exact K,M,Jc (Jc (Jc (Oa5 _ _) _) _) _⟩
theorem Jmn {hs k f t j b o y H}(M:j<k)(K:(Yo hs j).1=some ⟨y,H,none⟩)(h:(Yo (Jnt hs k f t) j).1=some ⟨b,o,none⟩):b=y:=by
 have I:Yo (Jnt hs k f t) j=(Jkl (Yo hs j).1 f t,t-f):=by simp[Yo,Jnt,M]
 rw[I,K]at h;simp only at h;unfold Jkl at h;split at h
 ·simp only[Oc9,Oh2]at h;exact h.1.symm
 rw[Option.map_some,Op7]at h;simp only[Oc9,Oh2]at h;exact h.1.symm
end
section
open Go.RowKit Go.Shelf Tryz
attribute [local go_sem] Oc0
theorem Jk5 ba bu bl U w(y:1<=ba)(H:ba<=1000)(I:2<=bu)(K:bu<=1000)(M:0<=bl)(O:bl<=4096):Calls prog 34 #[.agg #[.int .i64 ba,.int .i64 bu,.int .i64 bl,U]] w fun e w'=>e=.returned (.bool true)/\Below w.heap.size w w':=by
 have Y:decide (1<=ba)=true:=by simp[y]
 have Z:decide (ba<=1000)=true:=by simp[H]
 have bf:decide (2<=bu)=true:=by simp[I]
 have bh:decide (bu<=1000)=true:=by simp[K]
 have bi:decide (0<=bl)=true:=by simp[M]
 have bj:decide (bl<=4096)=true:=by simp[O]
 go_enter func34,ntmps34
 go_wp2;go_ret
 exact⟨rfl,Jc (Oa5 _ _) _⟩
abbrev Jd5 (b:Nat):Array Value:=#[.func (.func 71) #[.pointer (some ⟨b,0,none⟩)] #[],.func (.func 72) #[.pointer (some ⟨b,0,none⟩)] #[],.func (.func 73) #[.pointer (some ⟨b,0,none⟩)] #[],.func (.func 74) #[.pointer (some ⟨b,0,none⟩)] #[],.func (.func 75) #[.pointer (some ⟨b,0,none⟩)] #[],.func (.func 76) #[.pointer (some ⟨b,0,none⟩)] #[],.func (.func 77) #[.pointer (some ⟨b,0,none⟩)] #[],.func (.func 78) #[.pointer (some ⟨b,0,none⟩)] #[]]
theorem Juh b w:Calls prog 54 #[.pointer (some ⟨b,0,none⟩)] w fun e w'=>e=.returned (.agg (Jd5 b))/\Below w.heap.size w w':=by
 have y:∀ (f:Nat) (a:Addr) (W:World),(store a (.func (.func f) #[.pointer (some ⟨b,0,none⟩)] #[])).run prog W=stored prog W a (.func (.func f) #[.pointer (some ⟨b,0,none⟩)] #[]) .plain:=fun f a W=>run_store _ _ _ _ _ rfl;go_enter func54,ntmps54
 go_wp2;exact bodyPost_ret (v:=.agg (Jd5 b)) (by simp[results,results54,go_sem]) rfl ⟨rfl,(by repeat (first|exact Oa5 _ _|refine Jc ?_ _|refine Jj ?_))⟩
theorem Jos rb s z bu bl bf Y sc dn op l r tn xs ky kk w(P:World->Value->Value->World->Prop)(hr:Jck w rb z bu bl bf (.pointer (some ⟨s,0,none⟩)) Y sc dn)(M:∀ X,Below w.heap.size w X->Calls prog 38 #[.pointer (some ⟨s,0,none⟩),.string tn] X fun e w'=>Below X.heap.size X w'/\∃ a b,e=.returned (.tuple #[a,b])/\P X a b w'):
  Calls prog 71 #[.pointer (some ⟨rb,0,none⟩),.agg #[.int .i64 op,.int .i64 l,.int .i64 r,.string tn,xs,ky,.int .i64 kk]] w fun e w'=>Below w.heap.size w w'/\∃ X,Below w.heap.size w X/\∃ a b,e=.returned (.tuple #[a,b])/\P X a b w':=by
 obtain⟨_,c4,_,_,_⟩:=hr.cells;have hb:Below w.heap.size w (w.alloc (.cells #[.int .i64 op,.int .i64 l,.int .i64 r,.string tn,xs,ky,.int .i64 kk] 41)).drew:=Jj (Jc (Oa5 _ _) _);have Z:=M _ hb;have I:=zh hb;have hn:=heap_alloc_new w (.cells #[.int .i64 op,.int .i64 l,.int .i64 r,.string tn,xs,ky,.int .i64 kk] 41);have n3:(w.alloc (.cells #[.int .i64 op,.int .i64 l,.int .i64 r,.string tn,xs,ky,.int .i64 kk] 41)).drew.cell? ⟨w.heap.size,3,none⟩=some (.string tn):=by unfold World.cell?;rw[heap_drew,hn];rfl
 clear hr M hb hn;go_enter func71,ntmps71
 go_upto_region 1 with fail
 refine wp_region_held_drew (S:=fun X=>X.cell? ⟨rb,4,none⟩=some (.pointer (some ⟨s,0,none⟩))/\X.cell? ⟨w.heap.size,3,none⟩=some (.string tn)) zK ⟨Jh (Kf c4),n3⟩ (fun y=>?_);refine tkj 0 rfl y ?_;refine tkj 1 rfl y ?_;refine tkj 2 rfl y ?_;refine tkj 3 rfl y ?_;refine tkj 4 rfl y ?_;refine tkj 5 rfl y ?_;refine tkn ?_;refine tkr 6 rfl fun U hK=>?_;go_simp;refine Z.mono ?_;rintro e bh ⟨H,a,b,rfl,K⟩;have O:=zh K;clear K;go_simp;refine hK.out _ _ ⟨Ja H y.1,Ja H y.2⟩ (fun y=>?_);clear hK U;refine tkj 7 rfl y ?_;refine tkj 8 rfl y ?_;refine tkj 9 rfl y ?_;refine tkj 10 rfl y ?_;refine tkn ?_;refine wpAnyH_done zK ?_ _;go_wp2_with fail
 exact bodyPost_ret (v:=.tuple #[a,b]) (by simp[results,results71,go_sem]) rfl ⟨Jb I.out H,_,I.out,a,b,rfl,O.out⟩
attribute [local go_sem] Oc0
structure Nd where
 op:Int
 l:Int
 r:Int
 tn:ByteArray
 xs:Option Addr×Nat×Nat
 ky:Option Addr×Nat×Nat
 kk:Int
abbrev Nd.val (p:Nd):Value:=.agg #[.int .i64 p.op,.int .i64 p.l,.int .i64 p.r,.string p.tn,.slice p.xs.1 p.xs.2.1 p.xs.2.2,.slice p.ky.1 p.ky.2.1 p.ky.2.2,.int .i64 p.kk]
def Zm (w:World)(g o:Nat)(p:Nd):Prop:=
 w.cell? ⟨g,o,none⟩=some (.int .i64 p.op)/\w.cell? ⟨g,o+1,none⟩=some (.int .i64 p.l)/\w.cell? ⟨g,o+2,none⟩=some (.int .i64 p.r)/\w.cell? ⟨g,o+3,none⟩=some (.string p.tn)/\w.cell? ⟨g,o+4,none⟩=some (.slice p.xs.1 p.xs.2.1 p.xs.2.2)/\w.cell? ⟨g,o+5,none⟩=some (.slice p.ky.1 p.ky.2.1 p.ky.2.2)/\w.cell? ⟨g,o+6,none⟩=some (.int .i64 p.kk)
theorem Zm.below {w w' g o p}(h:Zm w g o p)(hb:Below w.heap.size w w'):Zm w' g o p:=
 ⟨Ja hb h.1,Ja hb h.2.1,Ja hb h.2.2.1,Ja hb h.2.2.2.1,Ja hb h.2.2.2.2.1,Ja hb h.2.2.2.2.2.1,Ja hb h.2.2.2.2.2.2⟩
def Jej (op:Int):Nat:=if op=0 then 71 else if op=1 then 72 else if op=2 then 73 else if op=3 then 74 else if op=4 then 75 else if op=5 then 76 else if op=6 then 77 else 78
theorem Js3 op args W:(callFunc (Jej op) args).run prog W=.ok (.enter (Jej op) args) W:=by
 unfold Jej;repeat (split;(first|kernel_rfl|skip))
 kernel_rfl
theorem Jy7 b k(hk:k<8):(Jd5 b)[k]?=some (.func (.func (Jej (k:Int))) #[.pointer (some ⟨b,0,none⟩)] #[]):=by
 match k,hk with
 |0,_=>rfl
 |1,_=>rfl
 |2,_=>rfl
 |3,_=>rfl
 |4,_=>rfl
 |5,_=>rfl
 |6,_=>rfl
 |7,_=>rfl
 |k+8,h=>omega
def Jbu (b:Nat)(p:Nd):List Value:=[.int .i64 p.op,.int .i64 p.l,.int .i64 p.r,.string p.tn,.slice p.xs.1 p.xs.2.1 p.xs.2.2,.slice p.ky.1 p.ky.2.1 p.ky.2.2,.int .i64 p.kk,.func (.func (Jej p.op)) #[.pointer (some ⟨b,0,none⟩)] #[]]
theorem Jvj:(prog.info? 104).map (fun i=>(i.zero,i.size,i.bytes))=some (some (.agg #[.int .i64 0,.int .i64 0,.int .i64 0,.string ⟨#[]⟩,.slice none 0 0,.slice none 0 0,.int .i64 0,.nilFunc]),8,104):=zK
theorem Jxb (rb nb no Z:Nat)(I:List Nd)w(bD:∀ j p,I[j]?=some p->Zm w nb (no+j*7) p)(bO:∀ p∈I,0<=p.op/\p.op<=7)(hl:I.length<=1000):
  Calls prog 35 #[.pointer (some ⟨rb,0,none⟩),.agg #[.slice (some ⟨nb,no,none⟩) I.length Z]] w fun e w'=>Below w.heap.size w w'/\∃ sv,e=.returned sv/\w'.ownsRow w.heap.size 104 8 sv I.length (I.flatMap (Jbu rb)):=by
 have bC:Hid ((∀ j p,I[j]?=some p->Zm w nb (no+j*7) p)/\∀ p∈I,0<=p.op/\p.op<=7):=⟨bD,bO⟩;clear bD bO;have cF:∀ (f:Nat) (a:Addr) (X:World),(store a (.func (.func f) #[.pointer (some ⟨rb,0,none⟩)] #[])).run prog X=stored prog X a (.func (.func f) #[.pointer (some ⟨rb,0,none⟩)] #[]) .plain:=fun f a X=>run_store _ _ _ _ _ rfl;have bL:=Juh rb (w.alloc (.cells #[.slice (some ⟨nb,no,none⟩) I.length Z] 47));have bQ:=heap_alloc_new w (.cells #[.slice (some ⟨nb,no,none⟩) I.length Z] 47);have bE:Below w.heap.size w (w.alloc (.cells #[.slice (some ⟨nb,no,none⟩) I.length Z] 47)):=Jc (Oa5 _ _) _;have bj:Hid (Below w.heap.size w (w.alloc (.cells #[.slice (some ⟨nb,no,none⟩) I.length Z] 47))/\(w.alloc (.cells #[.slice (some ⟨nb,no,none⟩) I.length Z] 47)).heap[w.heap.size]?=some (.cells #[.slice (some ⟨nb,no,none⟩) I.length Z] 47 (0,0))):=⟨bE,bQ⟩;clear bQ bE;go_enter func35,ntmps35
 go_upto_region 2 with(go_at_call 54;refine bL.mono ?_;rintro e M ⟨rfl,bB⟩)
 have K:Below M.heap.size M (M.alloc (.cells (Jd5 rb) 141)):=Jc (Oa5 _ _) _;have bi:=heap_alloc_new M (.cells (Jd5 rb) 141);have bI:=Jb bj.out.1 (Jb bB K);have bR:=(Jb bB K).block _ (Jd bj.out.2) |>.trans bj.out.2
 have U:Hid ((M.alloc (.cells (Jd5 rb) 141)).heap[M.heap.size]?=some (.cells (Jd5 rb) 141 (0,0))/\Below w.heap.size w (M.alloc (.cells (Jd5 rb) 141))):=⟨bi,bI⟩;have bS:(M.alloc (.cells (Jd5 rb) 141)).cell? ⟨w.heap.size,0,none⟩=some (.slice (some ⟨nb,no,none⟩) I.length Z):=by simp only[World.cell?,bR];rfl
 clear bL bB K bi bI bR bj;obtain⟨kb,bi⟩:∃ kb,kb=M.heap.size:=⟨_,rfl⟩;rw[<-bi]at U |-;clear bi;generalize M.alloc (.cells (Jd5 rb) 141)=O at U bS |-;go_wp2;go_loopw [6,14] (fun s i wr=>∃ k:Nat,k<=I.length/\i=.int .i64 (k:Int)/\Hid (wr.ownsRow O.heap.size 104 8 s k ((I.take k).flatMap (Jbu rb)))/\Below O.heap.size O wr) (fun _ i _=>I.length-(intOf i).toNat)
 case atStart=>exact⟨0,Ob7 _,rfl,⟨rfl,.inl ⟨rfl,rfl⟩⟩,Oa5 _ _⟩
 case round=>
  obtain⟨k,hk,rfl,bf,bh⟩:=hrel;have cG:=bh.size;clear bS;by_cases cj:k<I.length
  ·obtain⟨p,hp⟩:∃ p,I[k]?=some p:=⟨_,Oa3 cj⟩;obtain⟨bT,x1,x2,cA,cB,cC,cD⟩:=(bC.out.1 k p hp).below (Jb U.out.2 bh);have cu:=bC.out.2 p (Of6 hp);obtain⟨y,bx⟩:∃ y:Nat,p.op=(y:Int):=⟨p.op.toNat,zo⟩;have cn:y<8:=zo;have bK:wr.cell? ⟨kb,y,none⟩=some (.func (.func (Jej p.op)) #[.pointer (some ⟨rb,0,none⟩)] #[]):=by
    have cc:=(bh.block _ (Jd U.out.1)).trans U.out.1;have:=Jy7 rb y cn;rw[<-bx]at this;rw[<-this];simp only[World.cell?,cc];rfl
   obtain⟨f,hf⟩:∃ f,f=Jej p.op:=⟨_,rfl⟩;have bW:Hid (Jbu rb p=[.int .i64 (y:Int),.int .i64 p.l,.int .i64 p.r,.string p.tn,.slice p.xs.1 p.xs.2.1 p.xs.2.2,.slice p.ky.1 p.ky.2.1 p.ky.2.2,.int .i64 p.kk,.func (.func f) #[.pointer (some ⟨rb,0,none⟩)] #[]]):=by
    show _=_;unfold Jbu;rw[hf,bx]
   rw[<-hf]at bK;rw[bx]at bT;have bV:=zh hp;have cH:(0:Int)<=(k:Int):=zo;have cI:(k:Int)<(I.length:Int):=zo;have cJ:(0:Int)<=(y:Int):=zo;have cK:(y:Int)<8:=zo;clear hf bx hp cu;go_upto_region 6 with fail
   have bM:=heap_alloc_new wr (.cells #[.int .i64 (y:Int),.int .i64 p.l,.int .i64 p.r,.string p.tn,.slice p.xs.1 p.xs.2.1 p.xs.2.2,.slice p.ky.1 p.ky.2.1 p.ky.2.2,.int .i64 p.kk] 41);have cf:(wr.alloc (.cells #[.int .i64 (y:Int),.int .i64 p.l,.int .i64 p.r,.string p.tn,.slice p.xs.1 p.xs.2.1 p.xs.2.2,.slice p.ky.1 p.ky.2.1 p.ky.2.2,.int .i64 p.kk] 41)).drew.cell? ⟨kb,y,none⟩=some (.func (.func f) #[.pointer (some ⟨rb,0,none⟩)] #[]):=Jh (Kf bK);obtain⟨cz,cb,cv,cx,cy⟩:=info_parts Jvj;refine wp_region_held_drew (S:=fun X=>X.cell? ⟨wr.heap.size,0,none⟩=some (.int .i64 (y:Int))/\X.cell? ⟨wr.heap.size,1,none⟩=some (.int .i64 p.l)/\X.cell? ⟨wr.heap.size,2,none⟩=some (.int .i64 p.r)/\X.cell? ⟨wr.heap.size,3,none⟩=some (.string p.tn)/\X.cell? ⟨wr.heap.size,4,none⟩=some (.slice p.xs.1 p.xs.2.1 p.xs.2.2)/\X.cell? ⟨wr.heap.size,5,none⟩=some (.slice p.ky.1 p.ky.2.1 p.ky.2.2)/\X.cell? ⟨wr.heap.size,6,none⟩=some (.int .i64 p.kk)/\X.cell? ⟨kb,y,none⟩=some (.func (.func f) #[.pointer (some ⟨rb,0,none⟩)] #[])) zK (by refine⟨?_,?_,?_,?_,?_,?_,?_,cf⟩<;>(unfold World.cell?;rw[heap_drew,bM];rfl)) (fun H=>?_);refine tkj 0 rfl H ?_;refine tkj 1 rfl H ?_;refine tkj 2 rfl H ?_;refine tkj 3 rfl H ?_;refine tkj 4 rfl H ?_;refine tkj 5 rfl H ?_;refine tkj 6 rfl H ?_;refine tkn ?_;clear bM bT x1 x2 cA cB cC cD;refine tkr 7 rfl fun bA hK=>?_;go_simp;have K:Below (wr.alloc (.cells #[.int .i64 (y:Int),.int .i64 p.l,.int .i64 p.r,.string p.tn,.slice p.xs.1 p.xs.2.1 p.xs.2.2,.slice p.ky.1 p.ky.2.1 p.ky.2.2,.int .i64 p.kk] 41)).drew.heap.size (wr.alloc (.cells #[.int .i64 (y:Int),.int .i64 p.l,.int .i64 p.r,.string p.tn,.slice p.xs.1 p.xs.2.1 p.xs.2.2,.slice p.ky.1 p.ky.2.1 p.ky.2.2,.int .i64 p.kk] 41)).drew (((wr.alloc (.cells #[.int .i64 (y:Int),.int .i64 p.l,.int .i64 p.r,.string p.tn,.slice p.xs.1 p.xs.2.1 p.xs.2.2,.slice p.ky.1 p.ky.2.1 p.ky.2.2,.int .i64 p.kk] 41)).alloc (.cells #[.int .i64 (y:Int),.int .i64 p.l,.int .i64 p.r,.string p.tn,.slice p.xs.1 p.xs.2.1 p.xs.2.2,.slice p.ky.1 p.ky.2.1 p.ky.2.2,.int .i64 p.kk,.func (.func f) #[.pointer (some ⟨rb,0,none⟩)] #[]] 104)).drew):=by
    have:=Jc (Oa5 _ (wr.alloc (.cells #[.int .i64 (y:Int),.int .i64 p.l,.int .i64 p.r,.string p.tn,.slice p.xs.1 p.xs.2.1 p.xs.2.2,.slice p.ky.1 p.ky.2.1 p.ky.2.2,.int .i64 p.kk] 41))) (.cells #[.int .i64 (y:Int),.int .i64 p.l,.int .i64 p.r,.string p.tn,.slice p.xs.1 p.xs.2.1 p.xs.2.2,.slice p.ky.1 p.ky.2.1 p.ky.2.2,.int .i64 p.kk,.func (.func f) #[.pointer (some ⟨rb,0,none⟩)] #[]] 104);exact⟨this.os,this.tape,this.output,this.size,this.block⟩
   refine hK.out _ _ ⟨Ja K H.1,Ja K H.2.1,Ja K H.2.2.1,Ja K H.2.2.2.1,Ja K H.2.2.2.2.1,Ja K H.2.2.2.2.2.1,Ja K H.2.2.2.2.2.2.1,Ja K H.2.2.2.2.2.2.2⟩ (fun H=>?_);clear hK bA;refine tkr 8 rfl fun bA hK=>?_;have bH:Below wr.heap.size wr (((wr.alloc (.cells #[.int .i64 (y:Int),.int .i64 p.l,.int .i64 p.r,.string p.tn,.slice p.xs.1 p.xs.2.1 p.xs.2.2,.slice p.ky.1 p.ky.2.1 p.ky.2.2,.int .i64 p.kk] 41)).alloc (.cells #[.int .i64 (y:Int),.int .i64 p.l,.int .i64 p.r,.string p.tn,.slice p.xs.1 p.xs.2.1 p.xs.2.2,.slice p.ky.1 p.ky.2.1 p.ky.2.2,.int .i64 p.kk,.func (.func f) #[.pointer (some ⟨rb,0,none⟩)] #[]] 104)).drew):=Jj (Jc (Jc (Oa5 _ _) _) _);have bP:(((wr.alloc (.cells #[.int .i64 (y:Int),.int .i64 p.l,.int .i64 p.r,.string p.tn,.slice p.xs.1 p.xs.2.1 p.xs.2.2,.slice p.ky.1 p.ky.2.1 p.ky.2.2,.int .i64 p.kk] 41)).alloc (.cells #[.int .i64 (y:Int),.int .i64 p.l,.int .i64 p.r,.string p.tn,.slice p.xs.1 p.xs.2.1 p.xs.2.2,.slice p.ky.1 p.ky.2.1 p.ky.2.2,.int .i64 p.kk,.func (.func f) #[.pointer (some ⟨rb,0,none⟩)] #[]] 104)).drew).ownsRow O.heap.size 104 8 u6 k ((I.take k).flatMap (Jbu rb)):=Jaw bf.out bH;have bG:(((wr.alloc (.cells #[.int .i64 (y:Int),.int .i64 p.l,.int .i64 p.r,.string p.tn,.slice p.xs.1 p.xs.2.1 p.xs.2.2,.slice p.ky.1 p.ky.2.1 p.ky.2.2,.int .i64 p.kk] 41)).alloc (.cells #[.int .i64 (y:Int),.int .i64 p.l,.int .i64 p.r,.string p.tn,.slice p.xs.1 p.xs.2.1 p.xs.2.2,.slice p.ky.1 p.ky.2.1 p.ky.2.2,.int .i64 p.kk,.func (.func f) #[.pointer (some ⟨rb,0,none⟩)] #[]] 104)).drew).heap[wr.heap.size+1]?=some (.cells #[.int .i64 (y:Int),.int .i64 p.l,.int .i64 p.r,.string p.tn,.slice p.xs.1 p.xs.2.1 p.xs.2.2,.slice p.ky.1 p.ky.2.1 p.ky.2.2,.int .i64 p.kk,.func (.func f) #[.pointer (some ⟨rb,0,none⟩)] #[]] 104 (0,0)):=by
    have:=heap_alloc_new (wr.alloc (.cells #[.int .i64 (y:Int),.int .i64 p.l,.int .i64 p.r,.string p.tn,.slice p.xs.1 p.xs.2.1 p.xs.2.2,.slice p.ky.1 p.ky.2.1 p.ky.2.2,.int .i64 p.kk] 41)) (.cells #[.int .i64 (y:Int),.int .i64 p.l,.int .i64 p.r,.string p.tn,.slice p.xs.1 p.xs.2.1 p.xs.2.2,.slice p.ky.1 p.ky.2.1 p.ky.2.2,.int .i64 p.kk,.func (.func f) #[.pointer (some ⟨rb,0,none⟩)] #[]] 104);rw[Oa7]at this;exact this
   refine step_append_lies (((wr.alloc (.cells #[.int .i64 (y:Int),.int .i64 p.l,.int .i64 p.r,.string p.tn,.slice p.xs.1 p.xs.2.1 p.xs.2.2,.slice p.ky.1 p.ky.2.1 p.ky.2.2,.int .i64 p.kk] 41)).alloc (.cells #[.int .i64 (y:Int),.int .i64 p.l,.int .i64 p.r,.string p.tn,.slice p.xs.1 p.xs.2.1 p.xs.2.2,.slice p.ky.1 p.ky.2.1 p.ky.2.2,.int .i64 p.kk,.func (.func f) #[.pointer (some ⟨rb,0,none⟩)] #[]] 104)).drew) rfl (.tmp 18) (.tmp 25) 100 rfl O.heap.size 104 cz (.agg #[.int .i64 0,.int .i64 0,.int .i64 0,.string ⟨#[]⟩,.slice none 0 0,.slice none 0 0,.int .i64 0,.nilFunc]) 8 104 underlying100 cb cv cx cy rfl zd u6 k ((I.take k).flatMap (Jbu rb)) rfl bP ⟨wr.heap.size+1,0,none⟩ 1 1 [.int .i64 (y:Int),.int .i64 p.l,.int .i64 p.r,.string p.tn,.slice p.xs.1 p.xs.2.1 p.xs.2.2,.slice p.ky.1 p.ky.2.1 p.ky.2.2,.int .i64 p.kk,.func (.func f) #[.pointer (some ⟨rb,0,none⟩)] #[]] rfl rfl (fun j u bz=>World.news_of_block bG j u (by simpa using bz)) (fun u bz=>by simp at bz;rcases bz with rfl|rfl|rfl|rfl|rfl|rfl|rfl|rfl<;>rfl) zd (by unfold maxLen;omega) zo (by rw[heap_drew,Oa7,Oa7];omega) (wr.heap.size+2) (by rw[heap_drew,Oa7,Oa7]) (fun bY bX bk bN br bZ ci=>?_);have cL:=br.size;have cE:kb<O.heap.size:=Jd U.out.1;have Y:∀ o:Nat,bk.cell? ⟨wr.heap.size,o,none⟩=(((wr.alloc (.cells #[.int .i64 (y:Int),.int .i64 p.l,.int .i64 p.r,.string p.tn,.slice p.xs.1 p.xs.2.1 p.xs.2.2,.slice p.ky.1 p.ky.2.1 p.ky.2.2,.int .i64 p.kk] 41)).alloc (.cells #[.int .i64 (y:Int),.int .i64 p.l,.int .i64 p.r,.string p.tn,.slice p.xs.1 p.xs.2.1 p.xs.2.2,.slice p.ky.1 p.ky.2.1 p.ky.2.2,.int .i64 p.kk,.func (.func f) #[.pointer (some ⟨rb,0,none⟩)] #[]] 104)).drew).cell? ⟨wr.heap.size,o,none⟩:=fun o=>by simp only[World.cell?,br.block wr.heap.size (Jm H.1) (fun e=>by have:=Je bf.out e.symm;omega)]
   have bJ:bk.cell? ⟨kb,y,none⟩=(((wr.alloc (.cells #[.int .i64 (y:Int),.int .i64 p.l,.int .i64 p.r,.string p.tn,.slice p.xs.1 p.xs.2.1 p.xs.2.2,.slice p.ky.1 p.ky.2.1 p.ky.2.2,.int .i64 p.kk] 41)).alloc (.cells #[.int .i64 (y:Int),.int .i64 p.l,.int .i64 p.r,.string p.tn,.slice p.xs.1 p.xs.2.1 p.xs.2.2,.slice p.ky.1 p.ky.2.1 p.ky.2.2,.int .i64 p.kk,.func (.func f) #[.pointer (some ⟨rb,0,none⟩)] #[]] 104)).drew).cell? ⟨kb,y,none⟩:=by simp only[World.cell?,br.block kb (by rw[heap_drew,Oa7,Oa7];omega) (fun e=>by have:=Je bf.out e.symm;omega)]
   refine hK.out _ _ ⟨(Y 0).trans H.1,(Y 1).trans H.2.1,(Y 2).trans H.2.2.1,(Y 3).trans H.2.2.2.1,(Y 4).trans H.2.2.2.2.1,(Y 5).trans H.2.2.2.2.2.1,(Y 6).trans H.2.2.2.2.2.2.1,bJ.trans H.2.2.2.2.2.2.2⟩ (fun H=>?_);clear hK bA Y bJ;simp only[Act.put,List.getElem_toArray,List.getElem_cons_zero,List.getElem_cons_succ,Oa1,List.set_cons_zero,List.set_cons_succ];refine tkj 9 rfl H ?_;refine tkn ?_;refine wpAnyH_done zK ?_ _;have bU:Hid (bk.ownsRow O.heap.size 104 8 (.slice (some ⟨bY,0,none⟩) (k+1) bX) (k+1) ((I.take (k+1)).flatMap (Jbu rb))):=by
    show World.ownsRow _ _ _ _ _ _ _;rw[Oi7,bV.out,Oe8];show World.ownsRow _ _ _ _ _ _ ((I.take k).flatMap (Jbu rb)++(Jbu rb p++[]));rw[Od7,bW.out];exact bN
   have ca:Below O.heap.size O bk:=Jy (Jb bh bH) br fun g e=>(Je bf.out e).1;clear H bN bZ ci bP bG;go_wp2;go_roundw
   case rel=>exact⟨k+1,zo,zn,bU,ca⟩
   case measure=>simp[intOf];omega
  obtain rfl:k=I.length:=zo;go_wp2;go_ret
  have:=bf.out;rw[Oc8 (Oa2 _)]at this;exact⟨Jb U.out.2 bh,_,rfl,Jgl this U.out.2.size⟩
end
open Go.RowKit Go.Shelf
attribute [local go_sem] Oc0
def Yf (e:List Pt)(cols:List (List V))(N:Nat):List Nat:=(List.range N).filter fun i=>decide ((pv1 e (Ji cols i)).n=1)
attribute [local go_sem] Oc0
