/- The nodes of a plan at work: what is taken, Project. -/
import Derived.Test.YtnlnlamdilifcaaGreatDoorYb
set_option maxHeartbeats 2000000
set_option maxRecDepth 100000
namespace Go.Proofs.YtnlnlamdilifcaaGreatDoor
section
open Go.RowKit Go.Shelf Tryz
attribute [local go_sem] Oc0
def Jck (w:World)(rb:Nat)(z:Int)(bu bl H I y sc dn:Value):Prop:=w.heap[rb]?=some (.cells #[Iq z,bu,bl,H,I,y,sc,dn] 125 (0,0))
theorem Jck.below {w w' rb z bu bl H I y sc dn}(h:Jck w rb z bu bl H I y sc dn)(hb:Bq w w'):Jck w' rb z bu bl H I y sc dn:=(hb.block rb (Jd h)).trans h
theorem Jck.cells {w rb z bu bl I H y sc dn}(h:Jck w rb z bu bl I H y sc dn):w.cell? (Aq rb)=some (Iq z)/\w.cell? (Ar rb 4)=some H/\w.cell? (Ar rb 5)=some y/\w.cell? (Ar rb 6)=some sc/\w.cell? (Ar rb 7)=some dn:=by
 unfold Jck at h;simp[World.cell?,h]
theorem Jjb rb y k cap i z bu bl I K H sc a n c w(h:Jck w rb z bu bl I K H sc (Sq y k cap))(hi:i<k)(U:w.cell? (Ar y i)=some (.slice a n c))(Y:w.frozen? ⟨y,i,none⟩=false):
  Cq 51 #[Pq rb,Iq (i:Int)] w fun e w'=>e=.returned (.slice a n c)/\w'=w.setCell (Ar y i) Sz :=by
 obtain⟨c0,c4,c5,M,O⟩:=h.cells;have Z:(0:Int)<=(i:Int):=zo;have bf:(i:Int)<(k:Int):=zo;clear h;go_enter func51,ntmps51
 go_wp2;go_ret
 exact⟨rfl,rfl⟩
theorem Jh4 v z a n c(hv:v=.slice a n c)w:Cq 123 #[v,Iq z] w fun e w'=>e=.returned (.func (.func 155) #[] #[Pq w.heap.size,Pq (w.heap.size+1)])/\w'=(w.alloc (.cells #[v] 84)).alloc (.cells #[Iq z] 3):=by
 subst hv;go_enter func123,ntmps123
 go_wp2;go_ret
 exact⟨rfl,rfl⟩
structure CK (W W':World):Prop where
 size:W.heap.size<=W'.heap.size
 cells:∀ (k:Nat) (c:Array Value) (t:TypeId) (f:Nat×Nat),W.heap[k]?=some (Obj.cells c t f)->W'.heap[k]?=some (Obj.cells c t f)
theorem CK.of_grown {W y row}(H:W.grownBy y row)(hr:∀ r,row=some r->∃ o:Obj,W.heap[r]?=some o/\o.isCells=false):CK W y:=
 ⟨H.size,fun k c t f h=>by
  rw[H.block k (Oe2.1 h).1 (fun e=>by
   obtain⟨o,ho,I⟩:=hr k e.symm;rw[h]at ho;cases ho
   simp[Obj.isCells]at I)]
  exact h⟩
theorem CK.cell {W H}(h:CK W H){a v}(y:W.cell? a=some v):H.cell? a=some v:=by
 unfold World.cell? at y |-;split at y
 ·rename_i c t f I
  rw[h.cells _ _ _ _ I];exact y
 cases y
theorem Jv.ck {W I a vs}(h:Jv W a vs)(y:CK W I):Jv I a vs:=by
 rcases h with h|⟨b,o,K,M,H⟩
 ·exact .inl h
 exact .inr ⟨b,o,K,Oc2 M y.size,fun i v hi=>⟨y.cell (H i v hi).1,y.cell (H i v hi).2.1,y.cell (H i v hi).2.2⟩⟩
theorem Jxz {W H B e z sv n xs}(h:W.ownsRow B e z sv n xs)(U:CK W H):H.ownsRow B e z sv n xs:=by
 obtain⟨h0,y|⟨g,cap,I,y,K,M,O⟩⟩:=h
 ·exact⟨h0,.inl y⟩
 exact⟨h0,.inr ⟨g,cap,I,y,K,U.cells _ _ _ _ M,O⟩⟩
theorem Jq5 {W y b t n f}(h:W.rowIs b t n f)(K:CK W y):y.rowIs b t n f:=by
 obtain⟨c,H,I⟩:=h;exact⟨c,K.cells _ _ _ _ H,I⟩
theorem Qce {W y b t n f}(h:Kt9 W b t n f)(K:CK W y):Kt9 y b t n f:=by
 obtain⟨c,H,I⟩:=h;exact⟨c,K.cells _ _ _ _ H,I⟩
theorem Jar.ck {W y B g I cs}(h:Jar W B g I cs)(H:CK W y):Jar y B g I cs:=⟨Jq5 h.row H,h.low,h.len,fun i hi=>Jxz (h.own i hi) H,h.ne,h.apart⟩
theorem Qd.ck {W y g hs cs}(h:Qd W g hs cs)(H:CK W y):Qd y g hs cs:=⟨Qce h.row H,fun j I=>(h.vals j I).ck H,h.cap⟩
def pv1 (e:List Pt)(x:List V):V:=match Kl e x with|.inl v=>v|.inr _=>Jf
theorem Jgd {e x v}(h:Kl e x=.inl v):pv1 e x=v:=by unfold pv1;rw[h]
def Jdc (w:World)(y l:Nat):Option Obj:=(w.setCell (Ar y l) Sz).heap[y]?
theorem Jol {w W:World}{y l:Nat}(h:W.heap[y]?=w.heap[y]?):(W.setCell (Ar y l) Sz).heap[y]?=Jdc w y l:=by
 unfold Jdc World.setCell;simp only[Oi3,h]
theorem Jau {F w W H row}(h:Ju F w W)(y:W.grownBy H row)(hr:∀ r,row=some r->w.heap.size<=r):Ju F w H:=
 ⟨y.os.trans h.os,y.tape.trans h.tape,y.output.trans h.output,Ob2 h.size y.size,fun k I K=>(y.block k (Oc2 I h.size) (fun e=>by have:=hr k e.symm;omega)).trans (h.block k I K)⟩
end
section
open Go.RowKit Go.Shelf
attribute [local go_sem] Oc0
theorem Jur w y H I W(hW:((w.alloc y).alloc H).alloc I=W):W.heap.size=w.heap.size+3/\W.heap[w.heap.size]?=some y/\W.heap[w.heap.size+1]?=some H/\W.heap[w.heap.size+2]?=some I/\Bq w W:=by
 subst hW;have O:=heap_alloc_new w y;have K:=heap_alloc_new (w.alloc y) H;have M:=heap_alloc_new ((w.alloc y).alloc H) I;have z1:(w.alloc y).heap.size=w.heap.size+1:=zS;have z2:((w.alloc y).alloc H).heap.size=w.heap.size+2:=zS;rw[z1]at K;rw[z2]at M;exact⟨zS,by rw[Oa9 _ _ _ zo,Oa9 _ _ _ zo];exact O,by rw[Oa9 _ _ _ zo];exact K,M,Jc (Jc (Jc (Oa5 _ _) _) _) _⟩
theorem Jmn {hs k f t j b o y H}(M:j<k)(K:(Yo hs j).1=some (Ar y H))(h:(Yo (Jnt hs k f t) j).1=some (Ar b o)):b=y:=by
 have I:Yo (Jnt hs k f t) j=(Jkl (Yo hs j).1 f t,t-f):=by simp[Yo,Jnt,M]
 rw[I,K]at h;simp only at h;unfold Jkl at h;split at h
 ·simp only[Oc9,Oh2]at h;exact h.1.symm
 rw[Option.map_some,Op7]at h;simp only[Oc9,Oh2]at h;exact h.1.symm
end
section
open Go.RowKit Go.Shelf Tryz
attribute [local go_sem] Oc0
theorem Jk5 ba bu bl U w(y:1<=ba)(H:ba<=1000)(I:2<=bu)(K:bu<=1000)(M:0<=bl)(O:bl<=4096):Cq 49 #[.agg #[Iq ba,Iq bu,Iq bl,U]] w fun e w'=>e=.returned (.bool true)/\Bq w w':=by
 have Y:decide (1<=ba)=true:=by simp[y]
 have Z:decide (ba<=1000)=true:=by simp[H]
 have bf:decide (2<=bu)=true:=by simp[I]
 have bh:decide (bu<=1000)=true:=by simp[K]
 have bi:decide (0<=bl)=true:=by simp[M]
 have bj:decide (bl<=4096)=true:=by simp[O]
 go_enter func49,ntmps49
 go_wp2;go_ret
 exact⟨rfl,Jc (Oa5 _ _) _⟩
abbrev Jd5 (b:Nat):Array Value:=#[.func (.func 91) #[Pq b] #[],.func (.func 92) #[Pq b] #[],.func (.func 93) #[Pq b] #[],.func (.func 94) #[Pq b] #[],.func (.func 95) #[Pq b] #[],.func (.func 96) #[Pq b] #[],.func (.func 97) #[Pq b] #[],.func (.func 98) #[Pq b] #[]]
theorem Juh b w:Cq 70 #[Pq b] w fun e w'=>e=.returned (.agg (Jd5 b))/\Bq w w':=by
 have y:∀ (f:Nat) (a:Addr) (W:World),(store a (.func (.func f) #[Pq b] #[])).run prog W=stored prog W a (.func (.func f) #[Pq b] #[]) .plain:=fun f a W=>run_store _ _ _ _ _ rfl;go_enter func70,ntmps70
 go_wp2;exact bodyPost_ret (v:=.agg (Jd5 b)) (by simp[results,results70,go_sem]) rfl ⟨rfl,(by repeat (first|exact Oa5 _ _|refine Jc ?_ _|refine Jj ?_))⟩
theorem Jos rb s z bu bl bh Z sc dn op l r tn xs ky kk w(P:World->Value->Value->World->Prop)(hr:Jck w rb z bu bl bh (Pq s) Z sc dn)(O:∀ X,Bq w X->Cq 30 #[Pq s,.string tn] X fun e w'=>Bq X w'/\∃ a b,e=.returned (.tuple #[a,b])/\P X a b w'):
  Cq 91 #[Pq rb,.agg #[Iq op,Iq l,Iq r,.string tn,xs,ky,Iq kk]] w fun e w'=>Bq w w'/\∃ X,Bq w X/\∃ a b,e=.returned (.tuple #[a,b])/\P X a b w':=by
 obtain⟨_,c4,_,_,_⟩:=hr.cells;have hb:Bq w (w.alloc (.cells #[Iq op,Iq l,Iq r,.string tn,xs,ky,Iq kk] 54)).drew:=Jj (Jc (Oa5 _ _) _);have bf:=O _ hb;have I:=zh hb;have M:=heap_alloc_new w (.cells #[Iq op,Iq l,Iq r,.string tn,xs,ky,Iq kk] 54);have n3:(w.alloc (.cells #[Iq op,Iq l,Iq r,.string tn,xs,ky,Iq kk] 54)).drew.cell? (Ar w.heap.size 3)=some (.string tn):=by unfold World.cell?;rw[heap_drew,M];rfl
 clear hr O hb M;go_enter func91,ntmps91
 go_upto_region 1 with fail
 refine wp_region_held_drew (S:=fun X=>X.cell? (Ar rb 4)=some (Pq s)/\X.cell? (Ar w.heap.size 3)=some (.string tn)) zK ⟨Jh (Kf c4),n3⟩ (fun y=>?_);refine tkj 0 rfl y ?_;refine tkj 1 rfl y ?_;refine tkj 2 rfl y ?_;refine tkj 3 rfl y ?_;refine tkj 4 rfl y ?_;refine tkj 5 rfl y ?_;refine tkn ?_;refine tkr 6 rfl fun Y hK=>?_;go_simp;refine bf.mono ?_;rintro e bi ⟨H,a,b,rfl,K⟩;have U:=zh K;clear K;go_simp;refine hK.out _ _ ⟨Ja H y.1,Ja H y.2⟩ (fun y=>?_);clear hK Y;refine tkj 7 rfl y ?_;refine tkj 8 rfl y ?_;refine tkj 9 rfl y ?_;refine tkj 10 rfl y ?_;refine tkn ?_;refine wpAnyH_done zK ?_ _;go_wp2_with fail
 exact bodyPost_ret (v:=.tuple #[a,b]) (by simp[results,results91,go_sem]) rfl ⟨Jb I.out H,_,I.out,a,b,rfl,U.out⟩
attribute [local go_sem] Oc0
structure Nd where
 op:Int
 l:Int
 r:Int
 tn:ByteArray
 xs:Option Addr×Nat×Nat
 ky:Option Addr×Nat×Nat
 kk:Int
abbrev Nd.val (p:Nd):Value:=.agg #[Iq p.op,Iq p.l,Iq p.r,.string p.tn,.slice p.xs.1 p.xs.2.1 p.xs.2.2,.slice p.ky.1 p.ky.2.1 p.ky.2.2,Iq p.kk]
def Zm (w:World)(g o:Nat)(p:Nd):Prop:=
 w.cell? (Ar g o)=some (Iq p.op)/\w.cell? (Ar g (o+1))=some (Iq p.l)/\w.cell? (Ar g (o+2))=some (Iq p.r)/\w.cell? (Ar g (o+3))=some (.string p.tn)/\w.cell? (Ar g (o+4))=some (.slice p.xs.1 p.xs.2.1 p.xs.2.2)/\w.cell? (Ar g (o+5))=some (.slice p.ky.1 p.ky.2.1 p.ky.2.2)/\w.cell? (Ar g (o+6))=some (Iq p.kk)
theorem Zm.below {w w' g o p}(h:Zm w g o p)(hb:Bq w w'):Zm w' g o p:=
 ⟨Ja hb h.1,Ja hb h.2.1,Ja hb h.2.2.1,Ja hb h.2.2.2.1,Ja hb h.2.2.2.2.1,Ja hb h.2.2.2.2.2.1,Ja hb h.2.2.2.2.2.2⟩
def Jej (op:Int):Nat:=if op=0 then 91 else if op=1 then 92 else if op=2 then 93 else if op=3 then 94 else if op=4 then 95 else if op=5 then 96 else if op=6 then 97 else 98
theorem Js3 op args W:(callFunc (Jej op) args).run prog W=.ok (.enter (Jej op) args) W:=by
 unfold Jej;repeat (split;(first|kernel_rfl|skip))
 kernel_rfl
theorem Jy7 b k(y:k<8):(Jd5 b)[k]?=some (.func (.func (Jej (k:Int))) #[Pq b] #[]):=by
 match k,y with
 |0,_=>rfl
 |1,_=>rfl
 |2,_=>rfl
 |3,_=>rfl
 |4,_=>rfl
 |5,_=>rfl
 |6,_=>rfl
 |7,_=>rfl
 |k+8,h=>omega
def Jbu (b:Nat)(p:Nd):List Value:=[Iq p.op,Iq p.l,Iq p.r,.string p.tn,.slice p.xs.1 p.xs.2.1 p.xs.2.2,.slice p.ky.1 p.ky.2.1 p.ky.2.2,Iq p.kk,.func (.func (Jej p.op)) #[Pq b] #[]]
theorem Jvj:(prog.info? 130).map (fun i=>(i.zero,i.size,i.bytes))=some (some (.agg #[iZ,iZ,iZ,.string ⟨#[]⟩,Sz,Sz,iZ,.nilFunc]),8,104):=zK
abbrev ndW (w:World)(y:Nat)(p:Nd):World:=w.alloc (.cells #[Iq y,Iq p.l,Iq p.r,.string p.tn,.slice p.xs.1 p.xs.2.1 p.xs.2.2,.slice p.ky.1 p.ky.2.1 p.ky.2.2,Iq p.kk] 54)
abbrev ndF (y:Nat)(p:Nd)(f rb:Nat):Obj:=.cells #[Iq y,Iq p.l,Iq p.r,.string p.tn,.slice p.xs.1 p.xs.2.1 p.xs.2.2,.slice p.ky.1 p.ky.2.1 p.ky.2.2,Iq p.kk,.func (.func f) #[Pq rb] #[]] 130
abbrev ndX (w:World)(y:Nat)(p:Nd)(f rb:Nat):World:=((ndW w y p).alloc (ndF y p f rb)).drew
theorem Jxb (rb nb no Z:Nat)(I:List Nd)w(bE:∀ j p,I[j]?=some p->Zm w nb (no+j*7) p)(bP:∀ p∈I,0<=p.op/\p.op<=7)(hl:I.length<=1000):
  Cq 50 #[Pq rb,.agg #[Sr nb no I.length Z]] w fun e w'=>Bq w w'/\∃ sv,e=.returned sv/\w'.ownsRow w.heap.size 130 8 sv I.length (I.flatMap (Jbu rb)):=by
 have bD:Hid ((∀ j p,I[j]?=some p->Zm w nb (no+j*7) p)/\∀ p∈I,0<=p.op/\p.op<=7):=⟨bE,bP⟩;clear bE bP;have cH:∀ (f:Nat) (a:Addr) (X:World),(store a (.func (.func f) #[Pq rb] #[])).run prog X=stored prog X a (.func (.func f) #[Pq rb] #[]) .plain:=fun f a X=>run_store _ _ _ _ _ rfl;have bM:=Juh rb (w.alloc (.cells #[Sr nb no I.length Z] 60));have bR:=heap_alloc_new w (.cells #[Sr nb no I.length Z] 60);have bG:Bq w (w.alloc (.cells #[Sr nb no I.length Z] 60)):=Jc (Oa5 _ _) _;have bj:Hid (Bq w (w.alloc (.cells #[Sr nb no I.length Z] 60))/\(w.alloc (.cells #[Sr nb no I.length Z] 60)).heap[w.heap.size]?=some (.cells #[Sr nb no I.length Z] 60 (0,0))):=⟨bG,bR⟩;clear bR bG;go_enter func50,ntmps50
 go_upto_region 2 with(go_at_call 70;refine bM.mono ?_;rintro e M ⟨rfl,bB⟩)
 have K:Bq M (M.alloc (.cells (Jd5 rb) 176)):=Jc (Oa5 _ _) _;have bi:=heap_alloc_new M (.cells (Jd5 rb) 176);have bJ:=Jb bj.out.1 (Jb bB K);have bS:=(Jb bB K).block _ (Jd bj.out.2) |>.trans bj.out.2
 have U:Hid ((M.alloc (.cells (Jd5 rb) 176)).heap[M.heap.size]?=some (.cells (Jd5 rb) 176 (0,0))/\Bq w (M.alloc (.cells (Jd5 rb) 176))):=⟨bi,bJ⟩;have bT:(M.alloc (.cells (Jd5 rb) 176)).cell? (Aq w.heap.size)=some (Sr nb no I.length Z):=by simp only[World.cell?,bS];rfl
 clear bM bB K bi bJ bS bj;obtain⟨kb,bi⟩:∃ kb,kb=M.heap.size:=⟨_,rfl⟩;rw[<-bi]at U |-;clear bi;generalize M.alloc (.cells (Jd5 rb) 176)=O at U bT |-;go_wp2;go_loopw [6,14] (fun s i wr=>∃ k:Nat,k<=I.length/\i=Iq (k:Int)/\Hid (wr.ownsRow O.heap.size 130 8 s k ((I.take k).flatMap (Jbu rb)))/\Bq O wr) (fun _ i _=>I.length-(intOf i).toNat)
 case atStart=>exact⟨0,Ob7 _,rfl,⟨rfl,.inl ⟨rfl,rfl⟩⟩,Oa5 _ _⟩
 case round=>
  obtain⟨k,cF,rfl,bf,bh⟩:=hrel;have cI:=bh.size;clear bT;by_cases cn:k<I.length
  ·obtain⟨p,hp⟩:∃ p,I[k]?=some p:=⟨_,Oa3 cn⟩;obtain⟨bU,x1,x2,cB,cC,cD,cE⟩:=(bD.out.1 k p hp).below (Jb U.out.2 bh);have cv:=bD.out.2 p (Of6 hp);obtain⟨y,bx⟩:∃ y:Nat,p.op=(y:Int):=⟨p.op.toNat,zo⟩;have cu:y<8:=zo;have bL:wr.cell? (Ar kb y)=some (.func (.func (Jej p.op)) #[Pq rb] #[]):=by
    have cf:=(bh.block _ (Jd U.out.1)).trans U.out.1;have:=Jy7 rb y cu;rw[<-bx]at this;rw[<-this];simp only[World.cell?,cf];rfl
   obtain⟨f,bC⟩:∃ f,f=Jej p.op:=⟨_,rfl⟩;have bX:Hid (Jbu rb p=[Iq (y:Int),Iq p.l,Iq p.r,.string p.tn,.slice p.xs.1 p.xs.2.1 p.xs.2.2,.slice p.ky.1 p.ky.2.1 p.ky.2.2,Iq p.kk,.func (.func f) #[Pq rb] #[]]):=by
    show _=_;unfold Jbu;rw[bC,bx]
   rw[<-bC]at bL;rw[bx]at bU;have bW:=zh hp;have cJ:(0:Int)<=(k:Int):=zo;have cK:(k:Int)<(I.length:Int):=zo;have cL:(0:Int)<=(y:Int):=zo;have cM:(y:Int)<8:=zo;clear bC bx hp cv;go_upto_region 6 with fail
   have bN:=heap_alloc_new wr (.cells #[Iq (y:Int),Iq p.l,Iq p.r,.string p.tn,.slice p.xs.1 p.xs.2.1 p.xs.2.2,.slice p.ky.1 p.ky.2.1 p.ky.2.2,Iq p.kk] 54);have ci:(ndW wr y p).drew.cell? (Ar kb y)=some (.func (.func f) #[Pq rb] #[]):=Jh (Kf bL);obtain⟨cA,cc,cx,cy,cz⟩:=info_parts Jvj;refine wp_region_held_drew (S:=fun X=>X.cell? (Aq wr.heap.size)=some (Iq (y:Int))/\X.cell? (Ar wr.heap.size 1)=some (Iq p.l)/\X.cell? (Ar wr.heap.size 2)=some (Iq p.r)/\X.cell? (Ar wr.heap.size 3)=some (.string p.tn)/\X.cell? (Ar wr.heap.size 4)=some (.slice p.xs.1 p.xs.2.1 p.xs.2.2)/\X.cell? (Ar wr.heap.size 5)=some (.slice p.ky.1 p.ky.2.1 p.ky.2.2)/\X.cell? (Ar wr.heap.size 6)=some (Iq p.kk)/\X.cell? (Ar kb y)=some (.func (.func f) #[Pq rb] #[])) zK (by refine⟨?_,?_,?_,?_,?_,?_,?_,ci⟩<;>(unfold World.cell?;rw[heap_drew,bN];rfl)) (fun H=>?_);refine tkj 0 rfl H ?_;refine tkj 1 rfl H ?_;refine tkj 2 rfl H ?_;refine tkj 3 rfl H ?_;refine tkj 4 rfl H ?_;refine tkj 5 rfl H ?_;refine tkj 6 rfl H ?_;refine tkn ?_;clear bN bU x1 x2 cB cC cD cE;refine tkr 7 rfl fun bA hK=>?_;go_simp;have K:Below (ndW wr y p).drew.heap.size (ndW wr y p).drew (ndX wr y p f rb):=by
    have:=Jc (Oa5 _ (ndW wr y p)) (ndF y p f rb);exact⟨this.os,this.tape,this.output,this.size,this.block⟩
   refine hK.out _ _ ⟨Ja K H.1,Ja K H.2.1,Ja K H.2.2.1,Ja K H.2.2.2.1,Ja K H.2.2.2.2.1,Ja K H.2.2.2.2.2.1,Ja K H.2.2.2.2.2.2.1,Ja K H.2.2.2.2.2.2.2⟩ (fun H=>?_);clear hK bA;refine tkr 8 rfl fun bA hK=>?_;have bI:Bq wr (ndX wr y p f rb):=Jj (Jc (Jc (Oa5 _ _) _) _);have bQ:(ndX wr y p f rb).ownsRow O.heap.size 130 8 u6 k ((I.take k).flatMap (Jbu rb)):=Jaw bf.out bI;have bH:(ndX wr y p f rb).heap[wr.heap.size+1]?=some (ndF y p f rb):=by
    have:=heap_alloc_new (ndW wr y p) (ndF y p f rb);rw[Oa7]at this;exact this
   refine step_append_lies (ndX wr y p f rb) rfl (.tmp 18) (.tmp 25) 126 rfl O.heap.size 130 cA (.agg #[iZ,iZ,iZ,.string ⟨#[]⟩,Sz,Sz,iZ,.nilFunc]) 8 104 underlying126 cc cx cy cz rfl zd u6 k ((I.take k).flatMap (Jbu rb)) rfl bQ ⟨wr.heap.size+1,0,none⟩ 1 1 [Iq (y:Int),Iq p.l,Iq p.r,.string p.tn,.slice p.xs.1 p.xs.2.1 p.xs.2.2,.slice p.ky.1 p.ky.2.1 p.ky.2.2,Iq p.kk,.func (.func f) #[Pq rb] #[]] rfl rfl (fun j u bz=>World.news_of_block bH j u (by simpa using bz)) (fun u bz=>by simp at bz;rcases bz with rfl|rfl|rfl|rfl|rfl|rfl|rfl|rfl<;>rfl) zd (by unfold maxLen;omega) zo (by rw[heap_drew,Oa7,Oa7];omega) (wr.heap.size+2) (by rw[heap_drew,Oa7,Oa7]) (fun bZ bY bk bO br ca cj=>?_);have cN:=br.size;have cG:kb<O.heap.size:=Jd U.out.1;have Y:∀ o:Nat,bk.cell? (Ar wr.heap.size o)=(ndX wr y p f rb).cell? (Ar wr.heap.size o):=fun o=>by simp only[World.cell?,br.block wr.heap.size (Jm H.1) (fun e=>by have:=Je bf.out e.symm;omega)]
   have bK:bk.cell? (Ar kb y)=(ndX wr y p f rb).cell? (Ar kb y):=by simp only[World.cell?,br.block kb (by rw[heap_drew,Oa7,Oa7];omega) (fun e=>by have:=Je bf.out e.symm;omega)]
   refine hK.out _ _ ⟨(Y 0).trans H.1,(Y 1).trans H.2.1,(Y 2).trans H.2.2.1,(Y 3).trans H.2.2.2.1,(Y 4).trans H.2.2.2.2.1,(Y 5).trans H.2.2.2.2.2.1,(Y 6).trans H.2.2.2.2.2.2.1,bK.trans H.2.2.2.2.2.2.2⟩ (fun H=>?_);clear hK bA Y bK;simp only[Act.put,List.getElem_toArray,List.getElem_cons_zero,List.getElem_cons_succ,Oa1,List.set_cons_zero,List.set_cons_succ];refine tkj 9 rfl H ?_;refine tkn ?_;refine wpAnyH_done zK ?_ _;have bV:Hid (bk.ownsRow O.heap.size 130 8 (Sq bZ (k+1) bY) (k+1) ((I.take (k+1)).flatMap (Jbu rb))):=by
    show World.ownsRow _ _ _ _ _ _ _;rw[Oi7,bW.out,Oe8];show World.ownsRow _ _ _ _ _ _ ((I.take k).flatMap (Jbu rb)++(Jbu rb p++[]));rw[Od7,bX.out];exact bO
   have cb:Bq O bk:=Jy (Jb bh bI) br fun g e=>(Je bf.out e).1;clear H bO ca cj bQ bH;go_wp2;go_roundw
   case rel=>exact⟨k+1,zo,zn,bV,cb⟩
   case measure=>simp[intOf];omega
  obtain rfl:k=I.length:=zo;go_wp2;go_ret
  have:=bf.out;rw[Oc8 (Oa2 _)]at this;exact⟨Jb U.out.2 bh,_,rfl,Jgl this U.out.2.size⟩
end
open Go.RowKit Go.Shelf
attribute [local go_sem] Oc0
def Yf (e:List Pt)(cols:List (List V))(N:Nat):List Nat:=(List.range N).filter fun i=>decide ((pv1 e (Ji cols i)).n=1)
attribute [local go_sem] Oc0
