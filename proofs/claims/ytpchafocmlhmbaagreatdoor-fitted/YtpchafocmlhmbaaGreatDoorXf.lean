/- The parts of expressions worked on a batch of rows: row by row. -/
import Derived.Test.YtpchafocmlhmbaaGreatDoorXc
set_option maxHeartbeats 1000000
set_option maxRecDepth 100000
namespace Go.Proofs.YtpchafocmlhmbaaGreatDoor
open Go.RowKit Go.Shelf Tryz
attribute [local go_sem] Oc0
def Jhg (y:V→V→V×Nat)(l r:List V)(n:Nat):List V:=(List.range n).map fun i=>(y (l.getD i Jf) (r.getD i Jf)).1
theorem Ud (y:V→V→V×Nat)(l r:List V)(n:Nat):(Jhg y l r n).length=n:=by simp[Jhg]
theorem Ji7 (y:V→V→V×Nat)(l r:List V)(n i:Nat)(h:i<n):(Jhg y l r n)[i]'(by rw[Ud];exact h)=(y (l.getD i Jf) (r.getD i Jf)).1:=by simp[Jhg]
def Je5 (K O:Addr)(b:Nat)(ex E:Value)(first n:Nat)(H er:Value)(k:Nat)(w:World)(y:Nat→Nat)(m:Nat)(w':World):Prop:=
 Ju (·=b) w w'∧m≤n∧(∀ i,i<m→y i=0)∧((m=n∧Uz w' b ex E first n H er)∨(m<n∧y m≠0∧∃ D,w.heap.size≤D∧Uz w' b ex E first m H (Qv D)∧Ja8 w' D ((first+m:Nat):Int) k (Jdb K O (y m))))
def Qa (E H:Addr)(b:Nat)(ex D:Value)(first n:Nat)(K er:Value)(k:Nat)(w:World)(y:V→V→V×Nat)(lv rv:List V):Ending→World→Prop:=fun e w'=>∃ (g m:Nat) (vs:List V),e=.returned (.slice (some ⟨g,0,none⟩) n n)∧w.heap.size≤g∧g≠b∧vs.length=n∧Kv w' g vs []∧(∀ i,i<m→vs.getD i Jf=(y (lv.getD i Jf) (rv.getD i Jf)).1)∧Je5 E H b ex D first n K er k w (fun i=>(y (lv.getD i Jf) (rv.getD i Jf)).2) m w'
theorem Je5.back {H O:Addr}{b:Nat}{ex D:Value}{first n:Nat}{R er:Value}{k:Nat}{w w1 w':World}{E:Nat→Nat}{m:Nat}(h:Je5 H O b ex D first n R er k w1 E m w')(K:Below w.heap.size w w1):Je5 H O b ex D first n R er k w E m w':=by
 obtain⟨X,Y,Z,y⟩:=h;refine⟨(Ju.of_below K).trans X,Y,Z,?_⟩;rcases y with y|⟨y,ba,U,bc,bf⟩
 ·exact .inl y
 exact .inr ⟨y,ba,U,Ob2 K.size bc,bf⟩
theorem Qa.back {E K:Addr}{b:Nat}{ex D:Value}{first n:Nat}{O er:Value}{k:Nat}{w w1 w':World}{y:V→V→V×Nat}{lv rv:List V}{e:Ending}(h:Qa E K b ex D first n O er k w1 y lv rv e w')(H:Below w.heap.size w w1):Qa E K b ex D first n O er k w y lv rv e w':=by
 obtain⟨g,m,vs,R,U,X,Y,Z,ba,bc⟩:=h;exact⟨g,m,vs,R,Ob2 H.size U,X,Y,Z,ba,bc.back H⟩
theorem Jpe (b:Nat)(p:Pt)(f:Nat)(bN:Array Value)(Y:V→V→V×Nat)(G:V→Prop)(bh bi:Addr)(ex bM:Value)(first n:Nat)(pb bj k cp:Nat)(er:Value)(L Z:Nat)(bL ar:Option Addr)(cl cr:Nat)(lv rv:List V)(w:World)
  (h:Uz w b ex bM first n (.slice (some ⟨pb,bj,none⟩) k cp) er) (dw:p.l=L) (dx:p.r=Z) (hL:L<k) (hR:Z<k) (hn:n≤100000) (hf:first+n≤10000000)
  (cL:w.cell? ⟨pb,bj+L,none⟩=some (.slice bL lv.length cl)) (cR:w.cell? ⟨pb,bj+Z,none⟩=some (.slice ar rv.length cr)) (hl:Jv w bL lv) (hr:Jv w ar rv) (nl:n≤lv.length) (nr:n≤rv.length) (gl:∀ i (hi:i<lv.length),i<n→G lv[i]) (gr:∀ i (hi:i<rv.length),i<n→G rv[i])
  (dJ:∀ (args:Array Value) (W:World),(callFunc f args).run prog W=.ok (.enter f args) W)
  (cT:∀ x K E,G x→G K→Below w.heap.size w E→Calls prog f (#[x.val,K.val]++bN) E (Jah bh bi E (Y x K))) :
  Calls prog 223 #[.pointer (some ⟨b,0,none⟩),p.val,.func (.func f) #[] bN] w (Qa bh bi b ex bM first n (.slice (some ⟨pb,bj,none⟩) k cp) er k w Y lv rv):=by
 obtain⟨c0,c1,c2,c3,c4,c5⟩:=h.cells;have bK:Hid (Uz w b ex bM first n (.slice (some ⟨pb,bj,none⟩) k cp) er):=h;have dg:Hid (∀ x K E,G x→G K→Below w.heap.size w E→Calls prog f (#[x.val,K.val]++bN) E (Jah bh bi E (Y x K))):=cT;have cJ:Hid ((∀ i (hi:i<lv.length),i<n→G lv[i])∧(∀ i (hi:i<rv.length),i<n→G rv[i])):=⟨gl,gr⟩;have di:Hid (Jv w bL lv):=hl;have dj:Hid (Jv w ar rv):=hr;have df:Hid (first+n≤10000000):=hf;clear h cT gl gr hl hr hf;rw[Pt.val,dw,dx];obtain⟨w1,bI⟩:∃ w1,w1=(w.alloc (.cells #[.int .i64 p.op,.int .i64 (L:Int),.int .i64 (Z:Int),.int .i64 p.c,.int .i64 p.v.k,.int .i64 p.v.n,.string p.v.s] 63)).drew:=⟨_,rfl⟩;have bY:Below w.heap.size w w1:=by rw[bI];exact Jj (Jc (Oa5 _ _) _)
 obtain⟨C,cS,cn⟩:=Jqo n hn w1;have dL:(0:Int)≤(L:Int):=by omega
 have dM:(L:Int)<(k:Int):=by omega
 have dN:(0:Int)≤(Z:Int):=by omega
 have dO:(Z:Int)<(k:Int):=by omega
 have cK:=Ja bY c3;have dp:=Ja bY c4;rw[bI]at cS cK;have bG:=heap_alloc_new w (.cells #[.int .i64 p.op,.int .i64 (L:Int),.int .i64 (Z:Int),.int .i64 p.c,.int .i64 p.v.k,.int .i64 p.v.n,.string p.v.s] 63);have cU:(w.alloc (.cells #[.int .i64 p.op,.int .i64 (L:Int),.int .i64 (Z:Int),.int .i64 p.c,.int .i64 p.v.k,.int .i64 p.v.n,.string p.v.s] 63)).cell? ⟨w.heap.size,1,none⟩=some (.int .i64 (L:Int)):=by unfold World.cell?;rw[bG];rfl
 have cV:(w.alloc (.cells #[.int .i64 p.op,.int .i64 (L:Int),.int .i64 (Z:Int),.int .i64 p.c,.int .i64 p.v.k,.int .i64 p.v.n,.string p.v.s] 63)).cell? ⟨w.heap.size,2,none⟩=some (.int .i64 (Z:Int)):=by unfold World.cell?;rw[bG];rfl
 go_enter func223,ntmps223
 go_wp2;refine wp_region_held_drew (S:=fun E=>E.cell? ⟨b,4,none⟩=some (.slice (some ⟨pb,bj,none⟩) k cp)∧E.cell? ⟨pb,bj+L,none⟩=some (.slice bL lv.length cl)∧E.cell? ⟨pb,bj+Z,none⟩=some (.slice ar rv.length cr)∧E.cell? ⟨w.heap.size,1,none⟩=some (.int .i64 (L:Int))∧E.cell? ⟨w.heap.size,2,none⟩=some (.int .i64 (Z:Int))) (by kernel_rfl) ⟨Jh (Kf c4),Jh (Kf cL),Jh (Kf cR),Jh cU,Jh cV⟩ (fun y=>?_);refine tkj 0 rfl y ?_;refine tkj 1 rfl y ?_;refine tkj 2 rfl y ?_;refine tkj 3 rfl y ?_;refine tkj 4 rfl y ?_;refine tkj 5 rfl y ?_;refine tkj 6 rfl y ?_;refine tkj 7 rfl y ?_;refine tkj 8 rfl y ?_;refine tkj 9 rfl y ?_;refine tkj 10 rfl y ?_;refine tkj 11 rfl y ?_;refine tkj 12 rfl y ?_;refine tkj 13 rfl y ?_;refine tkj 14 rfl y ?_;refine tkj 15 rfl y ?_;refine tkj 16 rfl y ?_;refine tkj 17 rfl y ?_;refine tkn ?_;refine wpAnyH_done (by kernel_rfl) ?_ _;go_wp2;have cW:Kv (((w.alloc (.cells #[.int .i64 p.op,.int .i64 (L:Int),.int .i64 (Z:Int),.int .i64 p.c,.int .i64 p.v.k,.int .i64 p.v.n,.string p.v.s] 63)).alloc (.cells C 39)).drew) (w.heap.size+1) (List.replicate n Jf) []:=by
  have dB:w1.heap.size=w.heap.size+1:=by rw[bI,heap_drew];simp
  rw[←dB];rw[bI]at cn ⊢;exact cn
 clear cn cS cK bG cU cV dp bI bY cL cR c0 c1 c2 c3 c4 c5;go_loopw [36] (fun i wr=>∃ c:Nat,c≤n∧i=.int .i64 (c:Int)∧Kv wr (w.heap.size+1) ((Jhg Y lv rv n).take c++List.replicate (n-c) Jf) []∧Hid (∀ i,i<c→(Y (lv.getD i Jf) (rv.getD i Jf)).2=0)∧Below w.heap.size w wr) (fun i _=>n-(intOf i).toNat)
 case atStart=>exact⟨0,Ob7 _,rfl,by simpa using cW,fun i hi=>absurd hi (Oe0 _),Jj (Jc (Jc (Oa5 _ _) _) _)⟩
 case round=>
  obtain⟨c,dI,rfl,cu,bU,bz⟩:=hrel;have bT:Hid (Kv wr (w.heap.size+1) ((Jhg Y lv rv n).take c++List.replicate (n-c) Jf) []):=cu;have cO:=cu.lt;clear cu cW;by_cases bB:c<n
  ·have cc:c<lv.length:=(by omega);have ch:c<rv.length:=(by omega);obtain⟨b1,cA,dr,bD,cZ,da,db⟩:=(di.out.below bz).at cc;obtain⟨b2,cB,ds,bE,dc,dd,de⟩:=(dj.out.below bz).at ch;have bV:=cJ.out.1 c cc bB;have bW:=cJ.out.2 c ch bB;obtain⟨x,cy⟩:∃ x,x=lv[c]:=⟨_,rfl⟩;obtain⟨K,cz⟩:∃ K,K=rv[c]:=⟨_,rfl⟩;rw[←cy]at cZ da db bV;rw[←cz]at dc dd de bW;have bn:Hid (lv.getD c Jf=x∧rv.getD c Jf=K):=⟨by rw[cy,Oa0,Oa3 cc];rfl,by rw[cz,Oa0,Oa3 ch];rfl⟩;clear cy cz;have cb:=fun E=>dg.out x K E bV bW;obtain⟨v,br,bX⟩:∃ v br,Y x K=(v,br):=⟨_,_,rfl⟩;rw[bX]at cb;have bJ:Hid (Y x K=(v,br)):=bX;have bS:Hid (∀ E,Below w.heap.size w E→Calls prog f (#[x.val,K.val]++bN) E (OpP E v (Jdb bh bi br))):=cb;clear cb bX bV bW;subst dr ds;have j1:(0:Int)≤(c:Int):=(by omega);have j2:(c:Int)<(lv.length:Int):=(by omega);have dP:(c:Int)<(rv.length:Int):=(by omega);go_upto_region 6 with fail
   go_cut [11,12] from 39 to 52 (fun dC dD cY=>∃ fa:Nat,dC=.pointer (some ⟨fa,0,none⟩)∧dD=Jdb bh bi br∧cY.heap[fa]?=some (.cells #[.int .i64 v.k,.int .i64 v.n,.string v.s] 39 (0,0))∧Below wr.heap.size wr cY∧wr.heap.size≤fa)
   case first=>
    obtain⟨ev,ci⟩:∃ ev,ev=Jdb bh bi br:=⟨_,rfl⟩;rw[←ci]at bS;have cN:Below wr.heap.size wr wr.drew:=Jj (Oa5 _ _);refine wp_region_held_drew (S:=fun E=>E.cell? ⟨b1,cA+c*3,none⟩=some (.int .i64 x.k)∧E.cell? ⟨b1,cA+c*3+1,none⟩=some (.int .i64 x.n)∧E.cell? ⟨b1,cA+c*3+2,none⟩=some (.string x.s)∧E.cell? ⟨b2,cB+c*3,none⟩=some (.int .i64 K.k)∧E.cell? ⟨b2,cB+c*3+1,none⟩=some (.int .i64 K.n)∧E.cell? ⟨b2,cB+c*3+2,none⟩=some (.string K.s)) (by kernel_rfl) ⟨cZ,da,db,dc,dd,de⟩ (fun y=>?_);refine tkj 0 rfl y ?_;refine tkj 1 rfl y ?_;refine tkj 2 rfl y ?_;refine tkj 3 rfl y ?_;refine tkj 4 rfl y ?_;refine tkj 5 rfl y ?_;refine tkj 6 rfl y ?_;refine tkj 7 rfl y ?_;refine tkj 8 rfl y ?_;refine tkn ?_;refine wpAnyH_ready (rs:=[9,13]) (by kernel_rfl) (by simp) (AllReadyH.cons rfl (fun ba O=>?_) (AllReadyH.cons rfl (fun ba O=>?_) AllReadyH.nil))
    ·go_simp;refine(bS.out wr.drew (Jb bz cN)).mono ?_;rintro e D ⟨rfl,X⟩;have cM:Below wr.heap.size wr D:=Jb cN X;go_simp;refine O.out _ _ ⟨Ja X y.1,Ja X y.2.1,Ja X y.2.2.1,Ja X y.2.2.2.1,Ja X y.2.2.2.2.1,Ja X y.2.2.2.2.2⟩ (fun y=>?_);clear O ba;refine tkj 10 rfl y ?_;refine tkj 11 rfl y ?_;refine tkj 12 rfl y ?_;refine tkn ?_;refine tkr 13 rfl fun ba O=>?_;go_simp;have R:Below D.heap.size D (D.alloc (.cells #[.int .i64 0,.int .i64 0,.string ⟨#[]⟩] 39)):=(Oa5 _ D).alloc (Oa2 _) _;have H:(D.alloc (.cells #[.int .i64 0,.int .i64 0,.string ⟨#[]⟩] 39)).heap[D.heap.size]?=some (.cells #[.int .i64 0,.int .i64 0,.string ⟨#[]⟩] 39 (0,0)):=heap_alloc_new D _;refine O.out _ _ ⟨Ja R y.1,Ja R y.2.1,Ja R y.2.2.1,Ja R y.2.2.2.1,Ja R y.2.2.2.2.1,Ja R y.2.2.2.2.2⟩ (fun y=>?_);clear O ba;have bO:=Jb cM R;have bf:wr.heap.size≤D.heap.size:=cM.size;generalize D.alloc (.cells #[.int .i64 0,.int .i64 0,.string ⟨#[]⟩] 39)=bc at bO R H y ⊢;have cC:bc.cell? ⟨D.heap.size,0,none⟩=some (.int .i64 0):=by simp[World.cell?,H]
     have cD:bc.cell? ⟨D.heap.size,1,none⟩=some (.int .i64 0):=by simp[World.cell?,H]
     have cE:bc.cell? ⟨D.heap.size,2,none⟩=some (.string ⟨#[]⟩):=by simp[World.cell?,H]
     have cF:bc.frozen? ⟨D.heap.size,0,none⟩=false:=by simp[World.frozen?,H]
     have cG:bc.frozen? ⟨D.heap.size,1,none⟩=false:=by simp[World.frozen?,H]
     have cH:bc.frozen? ⟨D.heap.size,2,none⟩=false:=by simp[World.frozen?,H]
     have bx:=Jk (Jk (Jk H 0 (.int .i64 v.k)) 1 (.int .i64 v.n)) 2 (.string v.s);simp only[Oa1,List.set_cons_zero,List.set_cons_succ]at bx;have bZ:Below wr.heap.size wr (((bc.setCell ⟨D.heap.size,0,none⟩ (.int .i64 v.k)).setCell ⟨D.heap.size,1,none⟩ (.int .i64 v.n)).setCell ⟨D.heap.size,2,none⟩ (.string v.s)):=((bO.setCell (p:=⟨D.heap.size,0,none⟩) bf _).setCell (p:=⟨D.heap.size,1,none⟩) bf _).setCell (p:=⟨D.heap.size,2,none⟩) bf _;have U:∀ (b o:Nat) (u:Value),b<wr.heap.size→bc.cell? ⟨b,o,none⟩=some u→(((bc.setCell ⟨D.heap.size,0,none⟩ (.int .i64 v.k)).setCell ⟨D.heap.size,1,none⟩ (.int .i64 v.n)).setCell ⟨D.heap.size,2,none⟩ (.string v.s)).cell? ⟨b,o,none⟩=some u:=fun b o u dt bH=>by
      have bC:D.heap.size≠b:=(by omega);exact Uc (fun e=>bC (congrArg Addr.block e)) (Uc (fun e=>bC (congrArg Addr.block e)) (Uc (fun e=>bC (congrArg Addr.block e)) bH))
     have bR:Hid ((((bc.setCell ⟨D.heap.size,0,none⟩ (.int .i64 v.k)).setCell ⟨D.heap.size,1,none⟩ (.int .i64 v.n)).setCell ⟨D.heap.size,2,none⟩ (.string v.s)).heap[D.heap.size]?=some (.cells #[.int .i64 v.k,.int .i64 v.n,.string v.s] 39 (0,0))):=bx;clear bx H;refine tkr 14 rfl fun ba O=>?_;go_simp;refine O.out _ _ ⟨U _ _ _ bD y.1,U _ _ _ bD y.2.1,U _ _ _ bD y.2.2.1,U _ _ _ bE y.2.2.2.1,U _ _ _ bE y.2.2.2.2.1,U _ _ _ bE y.2.2.2.2.2⟩ (fun y=>?_);clear O ba U cC cD cE cF cG cH;refine tkj 15 rfl y ?_;refine tkn ?_;refine wpAnyH_done (by kernel_rfl) ?_ _;go_wp2_with fail
     go_meet
     case rel=>exact⟨D.heap.size,rfl,by first|rfl|exact ci,bR.out,bZ,bf⟩
    go_simp;have R:Below wr.heap.size wr ((wr.alloc (.cells #[.int .i64 0,.int .i64 0,.string ⟨#[]⟩] 39)).drew):=Jj (Jc (Oa5 _ _) _);have cj:((wr.alloc (.cells #[.int .i64 0,.int .i64 0,.string ⟨#[]⟩] 39)).drew).heap[wr.heap.size]?=some (.cells #[.int .i64 0,.int .i64 0,.string ⟨#[]⟩] 39 (0,0)):=heap_alloc_new wr _;have bA:Below wr.drew.heap.size wr.drew ((wr.alloc (.cells #[.int .i64 0,.int .i64 0,.string ⟨#[]⟩] 39)).drew):=⟨R.os,R.tape,R.output,R.size,R.block⟩;refine O.out _ _ ⟨Ja bA y.1,Ja bA y.2.1,Ja bA y.2.2.1,Ja bA y.2.2.2.1,Ja bA y.2.2.2.2.1,Ja bA y.2.2.2.2.2⟩ (fun y=>?_);clear O ba;generalize dq:(wr.alloc (.cells #[.int .i64 0,.int .i64 0,.string ⟨#[]⟩] 39)).drew=dm at R bA cj y ⊢;clear dq;refine tkr 9 rfl fun ba O=>?_;go_simp;refine(bS.out dm (Jb bz R)).mono ?_;rintro e D ⟨rfl,X⟩;have bO:Below wr.heap.size wr D:=Jb R X;have H:D.heap[wr.heap.size]?=some (.cells #[.int .i64 0,.int .i64 0,.string ⟨#[]⟩] 39 (0,0)):=(X.block _ (Jd cj)).trans cj;have bf:wr.heap.size≤wr.heap.size:=Oa2 _;go_simp;refine O.out _ _ ⟨Ja X y.1,Ja X y.2.1,Ja X y.2.2.1,Ja X y.2.2.2.1,Ja X y.2.2.2.2.1,Ja X y.2.2.2.2.2⟩ (fun y=>?_);clear O ba;refine tkj 10 rfl y ?_;refine tkj 11 rfl y ?_;refine tkj 12 rfl y ?_;refine tkn ?_;have cC:D.cell? ⟨wr.heap.size,0,none⟩=some (.int .i64 0):=by simp[World.cell?,H]
    have cD:D.cell? ⟨wr.heap.size,1,none⟩=some (.int .i64 0):=by simp[World.cell?,H]
    have cE:D.cell? ⟨wr.heap.size,2,none⟩=some (.string ⟨#[]⟩):=by simp[World.cell?,H]
    have cF:D.frozen? ⟨wr.heap.size,0,none⟩=false:=by simp[World.frozen?,H]
    have cG:D.frozen? ⟨wr.heap.size,1,none⟩=false:=by simp[World.frozen?,H]
    have cH:D.frozen? ⟨wr.heap.size,2,none⟩=false:=by simp[World.frozen?,H]
    have bx:=Jk (Jk (Jk H 0 (.int .i64 v.k)) 1 (.int .i64 v.n)) 2 (.string v.s);simp only[Oa1,List.set_cons_zero,List.set_cons_succ]at bx;have bZ:Below wr.heap.size wr (((D.setCell ⟨wr.heap.size,0,none⟩ (.int .i64 v.k)).setCell ⟨wr.heap.size,1,none⟩ (.int .i64 v.n)).setCell ⟨wr.heap.size,2,none⟩ (.string v.s)):=((bO.setCell (p:=⟨wr.heap.size,0,none⟩) bf _).setCell (p:=⟨wr.heap.size,1,none⟩) bf _).setCell (p:=⟨wr.heap.size,2,none⟩) bf _;have U:∀ (b o:Nat) (u:Value),b<wr.heap.size→D.cell? ⟨b,o,none⟩=some u→(((D.setCell ⟨wr.heap.size,0,none⟩ (.int .i64 v.k)).setCell ⟨wr.heap.size,1,none⟩ (.int .i64 v.n)).setCell ⟨wr.heap.size,2,none⟩ (.string v.s)).cell? ⟨b,o,none⟩=some u:=fun b o u dt bH=>by
     have bC:wr.heap.size≠b:=(by omega);exact Uc (fun e=>bC (congrArg Addr.block e)) (Uc (fun e=>bC (congrArg Addr.block e)) (Uc (fun e=>bC (congrArg Addr.block e)) bH))
    have bR:Hid ((((D.setCell ⟨wr.heap.size,0,none⟩ (.int .i64 v.k)).setCell ⟨wr.heap.size,1,none⟩ (.int .i64 v.n)).setCell ⟨wr.heap.size,2,none⟩ (.string v.s)).heap[wr.heap.size]?=some (.cells #[.int .i64 v.k,.int .i64 v.n,.string v.s] 39 (0,0))):=bx;clear bx H;refine tkr 14 rfl fun ba O=>?_;go_simp;refine O.out _ _ ⟨U _ _ _ bD y.1,U _ _ _ bD y.2.1,U _ _ _ bD y.2.2.1,U _ _ _ bE y.2.2.2.1,U _ _ _ bE y.2.2.2.2.1,U _ _ _ bE y.2.2.2.2.2⟩ (fun y=>?_);clear O ba U cC cD cE cF cG cH;refine tkj 15 rfl y ?_;refine tkn ?_;refine wpAnyH_done (by kernel_rfl) ?_ _;go_wp2_with fail
    go_meet
    case rel=>exact⟨wr.heap.size,rfl,by first|rfl|exact ci,bR.out,bZ,bf⟩
   case rest=>
    obtain⟨fa,rfl,rfl,bQ,ca,bf⟩:=hcut;have bP:=Jb bz ca;have cI:Hid (Below wr.heap.size wr wc):=ca;by_cases cf:br=0
    ·subst cf;have dR:wc.cell? ⟨fa,0,none⟩=some (.int .i64 v.k):=by simp[World.cell?,bQ]
     have dS:wc.cell? ⟨fa,1,none⟩=some (.int .i64 v.n):=by simp[World.cell?,bQ]
     have dT:wc.cell? ⟨fa,2,none⟩=some (.string v.s):=by simp[World.cell?,bQ]
     have cX:=bT.out.of_block (ca.block _ cO);have cQ:((Jhg Y lv rv n).take c++List.replicate (n-c) Jf).length=n:=by rw[Oa8,Oc7,Ud,Od6];omega
     obtain⟨dQ,⟨c0,dE⟩,⟨c1,dG⟩,⟨c2,dH⟩,cx⟩:=cX.put v c (by rw[cQ];exact bB);have bH:(Jhg Y lv rv n)[c]'(by rw[Ud];exact bB)=v:=by rw[Ji7 _ _ _ _ _ bB,bn.out.1,bn.out.2,bJ.out]
     have cv:=Jk1 (Jhg Y lv rv n) c n (Ud _ _ _ _) bB;rw[bH]at cv;rw[cv]at cx;have dh:Hid (Kv (((wc.setCell ⟨w.heap.size+1,c*3,none⟩ (.int .i64 v.k)).setCell ⟨w.heap.size+1,c*3+1,none⟩ (.int .i64 v.n)).setCell ⟨w.heap.size+1,c*3+2,none⟩ (.string v.s)) (w.heap.size+1) ((Jhg Y lv rv n).take (c+1)++List.replicate (n-(c+1)) Jf) []):=cx;have du:Below w.heap.size w (((wc.setCell ⟨w.heap.size+1,c*3,none⟩ (.int .i64 v.k)).setCell ⟨w.heap.size+1,c*3+1,none⟩ (.int .i64 v.n)).setCell ⟨w.heap.size+1,c*3+2,none⟩ (.string v.s)):=
      ((bP.setCell (p:=⟨w.heap.size+1,c*3,none⟩) (by show w.heap.size≤w.heap.size+1;omega) _).setCell (p:=⟨w.heap.size+1,c*3+1,none⟩) (by show w.heap.size≤w.heap.size+1;omega) _).setCell (p:=⟨w.heap.size+1,c*3+2,none⟩) (by show w.heap.size≤w.heap.size+1;omega) _
     have j4:(c:Int)<(n:Int):=(by omega);clear cx cv bH cQ cX bQ;rw[show Jdb bh bi 0=Value.nilIface from rfl];go_wp2;go_roundw
     case rel=>
      refine⟨c+1,by omega,by go_num,dh.out,fun i hi=>?_,du⟩;by_cases dv:i=c
      ·subst dv;rw[bn.out.1,bn.out.2,bJ.out]
      exact bU.out i (by omega)
     case measure=>simp[intOf];omega
    obtain⟨q,bG⟩:∃ q,Jdb bh bi br=.iface 433 (.pointer (some q)):=by
     unfold Jdb;rw[if_neg cf];split
     ·exact⟨_,rfl⟩
     ·exact⟨_,rfl⟩
    have dz:=Jd bK.out;have U:=Jzk b c q ex bM first n (some ⟨pb,bj,none⟩) k cp er wc (by have:=df.out;omega) (bK.out.below bP)
    rw[bG];go_wp2_with (go_at_call 264;refine U.mono ?_;rintro e dk ⟨rfl,dK,dy,dA,cP⟩)
    go_ret
    refine⟨w.heap.size+1,c,_,rfl,by omega,by omega,?_,((bT.out.of_block (cI.out.block _ cO)).of_block (cP.block _ (by have:=cI.out.size;omega) (by show ¬ w.heap.size+1=b;omega))),fun i hi=>?_,(Ju.of_below bP).trans cP,by omega,bU.out,.inr ⟨bB,?_,wc.heap.size,bP.size,dy,?_⟩⟩
    ·rw[Oa8,Oc7,Ud,Od6];omega
    ·rw[Oa0,Ob0 (by rw[Oc7,Ud];omega),Oe7,if_pos hi,Oa3 (by rw[Ud];omega),Ji7 _ _ _ _ _ (by omega)];rfl
    ·show (Y (lv.getD c Jf) (rv.getD c Jf)).2≠0;rw[bn.out.1,bn.out.2,bJ.out];exact cf
    show Ja8 dk wc.heap.size _ _ (Jdb bh bi (Y (lv.getD c Jf) (rv.getD c Jf)).2);rw[bn.out.1,bn.out.2,bJ.out,bG];exact dA
  obtain rfl:c=n:=by omega
  have dz:=Jd bK.out;go_wp2;go_ret
  refine⟨w.heap.size+1,c,_,rfl,by omega,by omega,?_,bT.out,fun i hi=>?_,Ju.of_below bz,Oa2 _,bU.out,.inl ⟨rfl,bK.out.below bz⟩⟩
  ·rw[Oa8,Oc7,Ud,Od6];omega
  rw[Oa0,Ob0 (by rw[Oc7,Ud];omega),Oe7,if_pos hi,Oa3 (by rw[Ud];omega),Ji7 _ _ _ _ _ (by omega)];rfl
attribute [local go_sem] Oc0
structure Jg5 (w:World) (b:Nat) (ex ba:Value) (first n pb po k cp:Nat) (er:Value) (L Rr:Nat) (lv rv:List V) (dv ov:Addr):Prop where
 wk:Uz w b ex ba first n (.slice (some ⟨pb,po,none⟩) k cp) er
 hL:L<k
 hR:Rr<k
 hn:n≤100000
 hf:first+n≤10000000
 cL:∃ al cl,w.cell? ⟨pb,po+L,none⟩=some (.slice al lv.length cl)∧Jv w al lv
 cR:∃ ar cr,w.cell? ⟨pb,po+Rr,none⟩=some (.slice ar rv.length cr)∧Jv w ar rv
 nl:n≤lv.length
 nr:n≤rv.length
 gl:∀ i (hi:i<lv.length),i<n→Jg lv[i].n
 gr:∀ i (hi:i<rv.length),i<n→Jg rv[i].n
 err:Jdo w dv ov
theorem Jg5.below {w w':World}{b:Nat}{ex K:Value}{first n pb U k cp:Nat}{er:Value}{L H:Nat}{lv rv:List V}{O R:Addr}(h:Jg5 w b ex K first n pb U k cp er L H lv rv O R)(y:Below w.heap.size w w'):Jg5 w' b ex K first n pb U k cp er L H lv rv O R:=
 ⟨h.wk.below y,h.hL,h.hR,h.hn,h.hf,by obtain⟨a,c,D,E⟩:=h.cL;exact⟨a,c,Ja y D,E.below y⟩,by obtain⟨a,c,D,E⟩:=h.cR;exact⟨a,c,Ja y D,E.below y⟩,h.nl,h.nr,h.gl,h.gr,h.err.below y⟩
def Jku (E H:Addr)(f:Nat)(K:V→V→V×Nat):Prop:=(∀ (args:Array Value) (W:World),(callFunc f args).run prog W=.ok (.enter f args) W)∧∀ x D y,Jg x.n→Jg D.n→Jdo y E H→Calls prog f #[x.val,D.val] y (Jah E H y (K x D))
theorem Jdf {w:World}{b:Nat}{ex O:Value}{first n pb U k cp:Nat}{er:Value}{L X:Nat}{lv rv:List V}{D E:Addr}(h:Jg5 w b ex O first n pb U k cp er L X lv rv D E)(p:Pt)(bh:p.l=L)(bi:p.r=X){f:Nat}{K:V→V→V×Nat}(Z:Jku D E f K) :
  Calls prog 216 #[.pointer (some ⟨b,0,none⟩),p.val,.func (.func f) #[] #[]] w (Qa D E b ex O first n (.slice (some ⟨pb,U,none⟩) k cp) er k w (Kd K) lv rv):=by
 obtain⟨H,R⟩:∃ H,H=(w.alloc (.cells #[.int .i64 p.op,.int .i64 p.l,.int .i64 p.r,.int .i64 p.c,.int .i64 p.v.k,.int .i64 p.v.n,.string p.v.s] 63)).alloc (.cells #[.func (.func f) #[] #[]] 380):=⟨_,rfl⟩;have Y:Below w.heap.size w H:=by rw[R];exact Jc (Jc (Oa5 _ _) _) _
 have bc:H.cell? ⟨w.heap.size+1,0,none⟩=some (.func (.func f) #[] #[]):=by
  have:=heap_alloc_new (w.alloc (.cells #[.int .i64 p.op,.int .i64 p.l,.int .i64 p.r,.int .i64 p.c,.int .i64 p.v.k,.int .i64 p.v.n,.string p.v.s] 63)) (.cells #[.func (.func f) #[] #[]] 380);rw[←R,Oa7]at this;simp[World.cell?,this]
 have bf:Calls prog 223 #[.pointer (some ⟨b,0,none⟩),p.val,.func (.func 259) #[] #[.pointer (some ⟨w.heap.size+1,0,none⟩)]] H (Qa D E b ex O first n (.slice (some ⟨pb,U,none⟩) k cp) er k w (Kd K) lv rv):=by
  have y:=h.below Y;obtain⟨bx,cl,bz,bA⟩:=y.cL;obtain⟨ar,cr,bB,bC⟩:=y.cR;refine(Jpe b p 259 #[.pointer (some ⟨w.heap.size+1,0,none⟩)] (Kd K) (fun v=>Jg v.n) D E ex O first n pb U k cp er L X bx ar cl cr lv rv H y.wk bh bi y.hL y.hR y.hn y.hf bz bB bA bC y.nl y.nr y.gl y.gr (fun args W=>by kernel_rfl) fun x bj bn bG bH ba=>?_).mono fun e w' hp=>hp.back Y;exact Js9 x bj (w.heap.size+1) f K bn D E Z.1 (Ja ba bc) fun br bD=>Z.2 x bj br bG bH (y.err.below (Jb ba bD))
 rw[R]at bf;clear bc Y R h Z bh bi;go_enter func216,ntmps216
 go_wp2_with (go_at_call 223;refine bf.mono ?_;rintro e bI ⟨g,m,vs,rfl,bE⟩)
 go_ret
 exact⟨g,m,vs,rfl,bE⟩
theorem Kf4 (y D:Addr):Jku y D 217 Jik:=⟨fun args W=>by kernel_rfl,fun x R E K O H=>Kdj x R E y D H K O⟩
theorem Kdq {w:World}{b:Nat}{ex H:Value}{first n pb U k cp:Nat}{er:Value}{L E:Nat}{lv rv:List V}{y D:Addr}(h:Jg5 w b ex H first n pb U k cp er L E lv rv y D)(p:Pt)(O:p.l=L)(R:p.r=E) :
  Calls prog 175 #[.pointer (some ⟨b,0,none⟩),p.val] w (Qa y D b ex H first n (.slice (some ⟨pb,U,none⟩) k cp) er k w (Kd Jik) lv rv):=by
 have K:Below w.heap.size w (w.alloc (.cells #[.int .i64 p.op,.int .i64 p.l,.int .i64 p.r,.int .i64 p.c,.int .i64 p.v.k,.int .i64 p.v.n,.string p.v.s] 63)):=Jc (Oa5 _ _) _;have X:=(Jdf (h.below K) p O R (Kf4 y D)).mono fun e w' hp=>hp.back K;clear h O R;go_enter func175,ntmps175
 go_wp2_with (go_at_call 216;refine X.mono ?_;rintro e Z ⟨g,m,vs,rfl,Y⟩)
 go_ret
 exact⟨g,m,vs,rfl,Y⟩
def Jbi (B M:Nat)(D E:Addr)(b:Nat)(ex y:Value)(first n:Nat)(H er:Value)(k:Nat)(w:World)(val:Nat→V×Nat):Ending→World→Prop:=fun e w'=>
 ∃ (a:Option Addr) (m c:Nat) (vs:List V),e=.returned (.slice a vs.length c)∧(∀ g o,a=some ⟨g,o,none⟩→g≠b∧g<w'.heap.size∧(g<B∨w.heap.size≤g))∧(n≤vs.length∧vs.length≤M)∧Jv w' a vs∧(∀ i,i<m→vs.getD i Jf=(val i).1)∧Je5 D E b ex y first n H er k w (fun i=>(val i).2) m w'
theorem Qa.meth (B M:Nat){E K:Addr}{b:Nat}{ex D:Value}{first n:Nat}{O er:Value}{k:Nat}{w w':World}{y:V→V→V×Nat}{lv rv:List V}{e:Ending}(h:Qa E K b ex D first n O er k w y lv rv e w')(X:n≤M):Jbi B M E K b ex D first n O er k w (fun i=>y (lv.getD i Jf) (rv.getD i Jf)) e w':=by
 obtain⟨g,m,vs,rfl,Z,ba,rfl,H,R,U⟩:=h;exact⟨some ⟨g,0,none⟩,m,vs.length,vs,rfl,fun Y o e=>by simp at e;have:=H.lt;omega,⟨Oa2 _,X⟩,H.vals,R,U⟩
theorem Kdu (B M b:Nat)(p:Pt)(ex:Value)(D go W cap C:Nat)(a:Option Addr)(c:Nat)(vs:List V)(first n:Nat)(O er:Value)(k:Nat)(w:World)(bc bj:Addr)(h:Uz w b ex (.slice (some ⟨D,go,none⟩) W cap) first n O er)(X:p.c=C)(hC:C<W)(bh:w.cell? ⟨D,go+C,none⟩=some (.slice a vs.length c))(Z:Jv w a vs)(hn:n≤vs.length)(U:∀ g o,a=some ⟨g,o,none⟩→g≠b∧g<B)(br:B≤w.heap.size)(bf:vs.length≤M) :
  Calls prog 173 #[.pointer (some ⟨b,0,none⟩),p.val] w (Jbi B M bc bj b ex (.slice (some ⟨D,go,none⟩) W cap) first n O er k w fun i=>(vs.getD i Jf,0)):=by
 obtain⟨c0,c1,c2,c3,c4,c5⟩:=h.cells;have ba:Hid (Uz w b ex (.slice (some ⟨D,go,none⟩) W cap) first n O er):=h;have H:Hid (Jv w a vs∧n≤vs.length∧∀ g o,a=some ⟨g,o,none⟩→g≠b∧g<B):=⟨Z,hn,U⟩;rw[Pt.val,X];have Y:=heap_alloc_new w (.cells #[.int .i64 p.op,.int .i64 p.l,.int .i64 p.r,.int .i64 (C:Int),.int .i64 p.v.k,.int .i64 p.v.n,.string p.v.s] 63);have bi:(w.alloc (.cells #[.int .i64 p.op,.int .i64 p.l,.int .i64 p.r,.int .i64 (C:Int),.int .i64 p.v.k,.int .i64 p.v.n,.string p.v.s] 63)).cell? ⟨w.heap.size,3,none⟩=some (.int .i64 (C:Int)):=by unfold World.cell?;rw[Y];rfl
 have bx:(0:Int)≤(C:Int):=by omega
 have bz:(C:Int)<(W:Int):=by omega
 clear h Z hn U X Y;go_enter func173,ntmps173
 go_wp2;refine wp_region_held_drew (S:=fun K=>K.cell? ⟨b,1,none⟩=some (.slice (some ⟨D,go,none⟩) W cap)∧K.cell? ⟨D,go+C,none⟩=some (.slice a vs.length c)∧K.cell? ⟨w.heap.size,3,none⟩=some (.int .i64 (C:Int))) (by kernel_rfl) ⟨Jh (Kf c1),Jh (Kf bh),Jh bi⟩ (fun y=>?_);refine tkj 0 rfl y ?_;refine tkj 1 rfl y ?_;refine tkj 2 rfl y ?_;refine tkj 3 rfl y ?_;refine tkj 4 rfl y ?_;refine tkj 5 rfl y ?_;refine tkj 6 rfl y ?_;refine tkj 7 rfl y ?_;refine tkj 8 rfl y ?_;refine tkn ?_;refine wpAnyH_done (by kernel_rfl) ?_ _;go_wp2;go_ret
 have E:Below w.heap.size w (w.alloc (.cells #[.int .i64 p.op,.int .i64 p.l,.int .i64 p.r,.int .i64 (C:Int),.int .i64 p.v.k,.int .i64 p.v.n,.string p.v.s] 63)).drew:=Jj (Jc (Oa5 _ _) _);exact⟨a,n,c,vs,rfl,fun g o e=>by have R:=H.out.2.2 g o e;have bn:=E.size;exact⟨R.1,by omega,.inl R.2⟩,⟨H.out.2.1,bf⟩,H.out.1.below E,fun _ _=>rfl,Ju.of_below E,Oa2 _,fun _ _=>rfl,.inl ⟨rfl,ba.out.below E⟩⟩
theorem Jtv (B M b:Nat)(p:Pt)(ex bh:Value)(first n:Nat)(bA er:Value)(k:Nat)(w:World)(bW cb:Addr)(h:Uz w b ex bh first n bA er)(hn:n≤100000)(hs:p.v.s.size≤255)(bX:n≤M) :
  Calls prog 174 #[.pointer (some ⟨b,0,none⟩),p.val] w (Jbi B M bW cb b ex bh first n bA er k w fun _=>(p.v,0)):=by
 obtain⟨u,bz⟩:∃ u,u=p.v:=⟨_,rfl⟩;unfold Pt.val;rw[←bz];rw[←bz]at hs;clear bz;obtain⟨D,E,bB⟩:=u;obtain⟨t,rfl⟩:∃ t,bB=Qw t:=⟨bB.toList,(Zf bB).symm⟩;have bZ:t.length≤255:=by rw[Jb2]at hs;exact hs
 obtain⟨H,X⟩:∃ H,H=(w.alloc (.cells #[.int .i64 p.op,.int .i64 p.l,.int .i64 p.r,.int .i64 p.c,.int .i64 D,.int .i64 E,.string (Qw t)] 63)).alloc (.cells #[.int .i64 D,.int .i64 E,.string (Qw t)] 39):=⟨_,rfl⟩;have bD:Below w.heap.size w H:=by rw[X];exact Jc (Jc (Oa5 _ _) _) _
 have bJ:H.heap[w.heap.size+1]?=some (.cells #[.int .i64 D,.int .i64 E,.string (Qw t)] 39 (0,0)):=by
  have:=heap_alloc_new (w.alloc (.cells #[.int .i64 p.op,.int .i64 p.l,.int .i64 p.r,.int .i64 p.c,.int .i64 D,.int .i64 E,.string (Qw t)] 63)) (.cells #[.int .i64 D,.int .i64 E,.string (Qw t)] 39);rw[Oa7]at this;rw[X];exact this
 have bj:=Jhm t H bZ;rw[X]at bj;have bf:Hid (Uz w b ex bh first n bA er):=h;have bC:Hid (H.heap[w.heap.size+1]?=some (.cells #[.int .i64 D,.int .i64 E,.string (Qw t)] 39 (0,0))):=bJ;have bK:Hid (Below w.heap.size w H):=bD;have bP:Hid (H=(w.alloc (.cells #[.int .i64 p.op,.int .i64 p.l,.int .i64 p.r,.int .i64 p.c,.int .i64 D,.int .i64 E,.string (Qw t)] 63)).alloc (.cells #[.int .i64 D,.int .i64 E,.string (Qw t)] 39)):=X;clear h bJ bD X hs;go_enter func174,ntmps174
 go_upto_region 3 with(go_at_call 47;refine bj.mono ?_;rintro e K ⟨rfl,Y⟩;rw[←bP.out]at Y;have ba:=(Y.block _ (Jd bC.out)).trans bC.out;have m2:K.cell? ⟨w.heap.size+1,2,none⟩=some (.string (Qw t)):=(by simp[World.cell?,ba]);have z2:K.frozen? ⟨w.heap.size+1,2,none⟩=false:=(by simp[World.frozen?,ba]);have bN:Hid (K.heap[w.heap.size+1]?=some (.cells #[.int .i64 D,.int .i64 E,.string (Qw t)] 39 (0,0))):=ba;clear ba)
 have R:=Jk bN.out 2 (.string (Qw t));simp only[Oa1,List.set_cons_zero,List.set_cons_succ]at R;have O:Below w.heap.size w (K.setCell ⟨w.heap.size+1,2,none⟩ (.string (Qw t))):=(Jb bK.out Y).setCell (p:=⟨w.heap.size+1,2,none⟩) (by show w.heap.size≤w.heap.size+1;omega) _;clear m2 z2 bj Y;generalize K.setCell ⟨w.heap.size+1,2,none⟩ (.string (Qw t))=y at R O ⊢;obtain⟨bQ,bR,bS,bT,bU,bV⟩:=(bf.out.below O).cells;obtain⟨C,bI,bn⟩:=Jqo n hn y;have ca:=Jd R;go_wp2;have bE:Below y.heap.size y (y.alloc (.cells C 39)):=Jc (Oa5 _ _) _;go_loopw [21] (fun i wr=>∃ c:Nat,c≤n∧i=.int .i64 (c:Int)∧Kv wr y.heap.size ((List.replicate n (V.mk D E (Qw t))).take c++List.replicate (n-c) Jf) []∧wr.heap[w.heap.size+1]?=some (.cells #[.int .i64 D,.int .i64 E,.string (Qw t)] 39 (0,0))∧Below w.heap.size w wr) (fun i _=>n-(intOf i).toNat)
 case atStart=>exact⟨0,Ob7 _,rfl,by simpa using bn,(bE.block _ ca).trans R,Jb O bE⟩
 case round=>
  obtain⟨c,cn,rfl,Z,U,bi⟩:=hrel;by_cases bH:c<n
  ·have cv:wr.cell? ⟨w.heap.size+1,0,none⟩=some (.int .i64 D):=by simp[World.cell?,U]
   have cx:wr.cell? ⟨w.heap.size+1,1,none⟩=some (.int .i64 E):=by simp[World.cell?,U]
   have cy:wr.cell? ⟨w.heap.size+1,2,none⟩=some (.string (Qw t)):=by simp[World.cell?,U]
   have bG:((List.replicate n (V.mk D E (Qw t))).take c++List.replicate (n-c) Jf).length=n:=by rw[Oa8,Oc7,Od6,Od6];omega
   obtain⟨cu,⟨c0,cc⟩,⟨c1,cf⟩,⟨c2,ch⟩,bx⟩:=Z.put (V.mk D E (Qw t)) c (by rw[bG];exact bH);have br:=Jk1 (List.replicate n (V.mk D E (Qw t))) c n (by simp) bH;rw[List.getElem_replicate]at br;rw[br]at bx;have bM:Hid (Kv (((wr.setCell ⟨y.heap.size,c*3,none⟩ (.int .i64 D)).setCell ⟨y.heap.size,c*3+1,none⟩ (.int .i64 E)).setCell ⟨y.heap.size,c*3+2,none⟩ (.string (Qw t))) y.heap.size ((List.replicate n (V.mk D E (Qw t))).take (c+1)++List.replicate (n-(c+1)) Jf) []):=bx;have bc:w.heap.size≤y.heap.size:=O.size;have bY:Below w.heap.size w (((wr.setCell ⟨y.heap.size,c*3,none⟩ (.int .i64 D)).setCell ⟨y.heap.size,c*3+1,none⟩ (.int .i64 E)).setCell ⟨y.heap.size,c*3+2,none⟩ (.string (Qw t))):=
    ((bi.setCell (p:=⟨y.heap.size,c*3,none⟩) bc _).setCell (p:=⟨y.heap.size,c*3+1,none⟩) bc _).setCell (p:=⟨y.heap.size,c*3+2,none⟩) bc _
   have bO:Hid ((((wr.setCell ⟨y.heap.size,c*3,none⟩ (.int .i64 D)).setCell ⟨y.heap.size,c*3+1,none⟩ (.int .i64 E)).setCell ⟨y.heap.size,c*3+2,none⟩ (.string (Qw t))).heap[w.heap.size+1]?=some (.cells #[.int .i64 D,.int .i64 E,.string (Qw t)] 39 (0,0))):=by
    show _=_;rw[Oa4 _ _ _ _ (by show w.heap.size+1≠y.heap.size;omega),Oa4 _ _ _ _ (by show w.heap.size+1≠y.heap.size;omega),Oa4 _ _ _ _ (by show w.heap.size+1≠y.heap.size;omega)];exact U
   have j4:(c:Int)<(n:Int):=(by omega);clear bx br bG Z U bI bn bQ bR bS bT bU bV R;go_wp2;go_roundw
   case rel=>exact⟨c+1,by omega,by go_num,bM.out,bO.out,bY⟩
   case measure=>simp[intOf];omega
  obtain rfl:c=n:=by omega
  have bL:Hid (Kv wr y.heap.size ((List.replicate c (V.mk D E (Qw t))).take c++List.replicate (c-c) Jf) []):=Z;have bc:w.heap.size≤y.heap.size:=O.size;have cj:=Jd bf.out;clear Z bI bn;go_wp2;go_ret
  have hr:=bL.out;rw[Oe1,List.replicate_zero,Od7,Oc8 (by simp)]at hr;refine⟨some ⟨y.heap.size,0,none⟩,c,c,List.replicate c (V.mk D E (Qw t)),by simp,fun g o e=>by simp at e;have ci:=hr.lt;omega,⟨by simp,by simpa using bX⟩,hr.vals,fun i hi=>?_,Ju.of_below bi,Oa2 _,fun _ _=>rfl,.inl ⟨rfl,bf.out.below bi⟩⟩;rw[Oa0,Of3,if_pos hi];rfl
attribute [local go_sem] Oc0
def opR (op:Int):V→V→V×Nat:=
 if op=2 then Kd Jik else if op=3 then Kd Jiw else if op=4 then Kd Jkj else if op=5 then Kd Jg4 else if op=6 then Kd Jsg else if op=7 then Kd Jkc else if op=8 then Jse else if op=9 then orR else if op=10 then Kd Ju0 else Jle
theorem Jdj (cs:List (List V))(i j:Nat)(y:j<cs.length):(Ji cs i).getD j Jf=(cs.getD j []).getD i Jf:=by
 unfold Ji;rw[Oa0,Ob1,Oa3 y,Oa0 (l:=cs),Oa3 y];rfl
def Qp (p:Pt)(x done:List V):V×Nat:=
 if p.op=0 then (x.getD p.c.toNat Jf,0)else if p.op=1 then (p.v,0)else opR p.op (done.getD p.l.toNat Jf) (done.getD (if p.op≤9 then p.r else p.l).toNat Jf)
def Zv (op:Int):Nat:=if op=0 then 173 else if op=1 then 174 else if op=2 then 175 else if op=3 then 176 else if op=4 then 177 else if op=5 then 178 else if op=6 then 179 else if op=7 then 180 else if op=8 then 181 else if op=9 then 182 else if op=10 then 183 else 184
structure Kyk (W k:Nat) (p:Pt):Prop where
 lo:0≤p.op
 hi:p.op≤11
 col:p.op=0→0≤p.c∧p.c<W
 con:p.op=1→p.v.s.size≤255∧Jg p.v.n
 left:2≤p.op→0≤p.l∧p.l<k
 right:2≤p.op→p.op≤9→0≤p.r∧p.r<k
structure Jha (w:World) (b g:Nat) (hs:List (Option Addr×Nat)) (cs:List (List V)):Prop where
 ne:g≠b
 cell:∀ j,j<cs.length→w.cell? ⟨g,j,none⟩=some (.slice (Yo hs j).1 (cs.getD j []).length (Yo hs j).2)
 vals:∀ j,j<cs.length→Jv w (Yo hs j).1 (cs.getD j [])
 off:∀ j,j<cs.length→∀ g' o,(Yo hs j).1=some ⟨g',o,none⟩→g'≠b
theorem Jv.keep {b:Nat}{w w':World}{a:Option Addr}{vs:List V}(h:Jv w a vs)(y:Ju (·=b) w w')(D:∀ g o,a=some ⟨g,o,none⟩→g≠b):Jv w' a vs:=h.of_block y.size fun g o e hl=>y.block g hl (D g o e)
theorem Jha.keep {w w':World}{b g:Nat}{hs:List (Option Addr×Nat)}{cs:List (List V)}(h:Jha w b g hs cs)(D:Ju (·=b) w w'):Jha w' b g hs cs:=
 ⟨h.ne,fun j y=>D.cell (h.cell j y) h.ne,fun j y=>(h.vals j y).keep D (h.off j y),h.off⟩
theorem Jbi.val {B M:Nat}{D E:Addr}{b:Nat}{ex y:Value}{first n:Nat}{H er:Value}{k:Nat}{w w':World}{f g:Nat→V×Nat}{e:Ending}(h:Jbi B M D E b ex y first n H er k w f e w')(K:∀ i,f i=g i):Jbi B M D E b ex y first n H er k w g e w':=by
 rwa [show f=g from funext K]at h
def Kui (op:Int):Prop:=∀ (B M b:Nat) (ex:Value) (first n:Nat) (y cap:Nat) (hs:List (Option Addr×Nat)) (cols:List (List V)) (D er:Value) (K:List (Option Addr×Nat)) (ps:List (List V)) (p:Pt) (E H:Addr) (w:World),p.op=op→(Uz w b ex (.slice (some ⟨y,0,none⟩) cols.length cap) first n D er)→(Jha w b y hs cols)→(∀ j,j<cols.length→n≤(cols.getD j []).length)→(∀ j,j<cols.length→∀ g o,(Yo hs j).1=some ⟨g,o,none⟩→g<B)→(B≤w.heap.size)→(∀ j,j<cols.length→(cols.getD j []).length≤M)→(n≤M)→(ps.length=0∨∃ pb cp,D=.slice (some ⟨pb,0,none⟩) ps.length cp∧Jha w b pb K ps)→(∀ j,j<ps.length→n≤(ps.getD j []).length)→(∀ j,j<ps.length→∀ i,i<n→Jg ((ps.getD j []).getD i Jf).n)→(Kyk cols.length ps.length p)→(n≤100000)→(first+n≤10000000)→(Jdo w E H)→Calls prog (Zv op) #[.pointer (some ⟨b,0,none⟩),p.val] w (Jbi B M E H b ex (.slice (some ⟨y,0,none⟩) cols.length cap) first n D er ps.length w fun i=>Qp p (Ji cols i) (Ji ps i))
theorem Kw5:Kui 0:=by
 intro B M b ex first n H cap hs cols Z er bj ps p E Y w h0 O hC X R K U bh bf bi ba hp hn hf bc
 obtain⟨bn,br⟩:=hp.col h0;obtain⟨C,D⟩:∃ C:Nat,p.c=C:=⟨p.c.toNat,by omega⟩;have y:C<cols.length:=by omega
 have:=Kdu B M b p ex H 0 cols.length cap C (Yo hs C).1 (Yo hs C).2 (cols.getD C []) first n Z er ps.length w E Y O D y (by rw[Od0];exact hC.cell C y) (hC.vals C y) (X C y) (fun g o e=>⟨hC.off C y g o e,R C y g o e⟩) K (U C y)
 rw[show Zv 0=173 from rfl];refine this.mono fun e w' h=>h.val fun i=>?_;unfold Qp;rw[if_pos h0,D,Int.toNat_natCast,Jdj _ _ _ y]
theorem Kxq:Kui 1:=by
 intro B M b ex first n O cap hs cols K er bh ps p y H w h0 D hC bc Z U ba E Y bf R hp hn hf X
 rw[show Zv 1=174 from rfl];refine(Jtv B M b p ex _ first n K er ps.length w y H D hn (hp.con h0).1 E).mono fun e w' h=>h.val fun i=>?_;unfold Qp;rw[if_neg (by omega),if_pos h0]
theorem Kwu {op:Int}{f:V→V→V×Nat}{B M b:Nat}{ex:Value}{first n K cap:Nat}{cols:List (List V)}{er:Value}{bn:List (Option Addr×Nat)}{ps:List (List V)}{p:Pt}{H R:Addr}{w:World}{pb cp L y:Nat}(h0:p.op=op)(br:2≤op)(bj:opR op=f)
  (ba:Uz w b ex (.slice (some ⟨K,0,none⟩) cols.length cap) first n (.slice (some ⟨pb,0,none⟩) ps.length cp) er) (D:L<ps.length) (E:y<ps.length) (hL:p.l=L) (hr:(if p.op≤9 then p.r else p.l)=(y:Int)) (bi:n≤M) (O:Jha w b pb bn ps)
  (X:∀ j,j<ps.length→n≤(ps.getD j []).length) (Y:∀ j,j<ps.length→∀ i,i<n→Jg ((ps.getD j []).getD i Jf).n) (hn:n≤100000) (hf:first+n≤10000000) (Z:Jdo w H R)
  (bh:Jg5 w b ex (.slice (some ⟨K,0,none⟩) cols.length cap) first n pb 0 ps.length cp er L y (ps.getD L []) (ps.getD y []) H R→Calls prog (Zv op) #[.pointer (some ⟨b,0,none⟩),p.val] w (Qa H R b ex (.slice (some ⟨K,0,none⟩) cols.length cap) first n (.slice (some ⟨pb,0,none⟩) ps.length cp) er ps.length w f (ps.getD L []) (ps.getD y []))) :
  Calls prog (Zv op) #[.pointer (some ⟨b,0,none⟩),p.val] w (Jbi B M H R b ex (.slice (some ⟨K,0,none⟩) cols.length cap) first n (.slice (some ⟨pb,0,none⟩) ps.length cp) er ps.length w fun i=>Qp p (Ji cols i) (Ji ps i)):=by
 have U:∀ j,j<ps.length→∀ i (hi:i<(ps.getD j []).length),i<n→Jg ((ps.getD j [])[i]).n:=fun j bf i hi bc=>by
  have:=Y j bf i bc;rwa [Oa0 (l:=ps.getD j []),Oa3 hi]at this
 refine(bh ⟨ba,D,E,hn,hf,⟨_,_,by rw[Od0];exact O.cell L D,O.vals L D⟩,⟨_,_,by rw[Od0];exact O.cell y E,O.vals y E⟩,X L D,X y E,U L D,U y E,Z⟩).mono fun e w' h=>(h.meth B M bi).val fun i=>?_;unfold Qp;rw[if_neg (by omega),if_neg (by omega),hr,hL,Int.toNat_natCast,Int.toNat_natCast,Jdj _ _ _ D,Jdj _ _ _ E,h0,bj]
theorem Kxd {op:Int}{f:V→V→V×Nat}(U:2≤op)(bz:op≤9)(bj:opR op=f)(bh:∀ {w:World} {b:Nat} {ex K:Value} {first n pb O k cp:Nat} {er:Value} {L H:Nat} {lv rv:List V} {D E:Addr},Jg5 w b ex K first n pb O k cp er L H lv rv D E→∀ p:Pt,p.l=L→p.r=H→Calls prog (Zv op) #[.pointer (some ⟨b,0,none⟩),p.val] w (Qa D E b ex K first n (.slice (some ⟨pb,O,none⟩) k cp) er k w f lv rv)):Kui op:=by
 intro B M b ex first n bx cap hs cols bI er bE ps p D E w h0 bf hC bD bB bA bC bi Z bn R hp hn hf X
 obtain⟨bG,bH⟩:=hp.left (by omega);obtain⟨L,hL⟩:∃ L:Nat,p.l=L:=⟨p.l.toNat,by omega⟩;have Y:L<ps.length:=by omega
 obtain⟨pb,cp,br,ba⟩:=Z.resolve_left (by omega);subst br;obtain⟨bJ,bK⟩:=hp.right (by omega) (by omega);obtain⟨y,hR⟩:∃ y:Nat,p.r=y:=⟨p.r.toNat,by omega⟩;have bc:y<ps.length:=by omega
 exact Kwu h0 U bj bf Y bc hL (by rw[if_pos (by omega)];exact hR) bi ba bn R hn hf X fun h=>bh h p hL hR
theorem Kxp:Kui 2:=Kxd (by decide) (by decide) rfl fun h p hl hr=>Kdq h p hl hr
structure Jr0 (W k:Nat) (p:Pt):Prop where
 pt:Kyk W k p
 meth:Kui p.op
theorem Kcm (B M b:Nat)(ex:Value)(first n:Nat)(y cap:Nat)(hs:List (Option Addr×Nat))(cols:List (List V))(D er:Value)(K:List (Option Addr×Nat))(ps:List (List V))(p:Pt)(E H:Addr)(w:World)
  (Y:Uz w b ex (.slice (some ⟨y,0,none⟩) cols.length cap) first n D er) (hC:Jha w b y hs cols) (bc:∀ j,j<cols.length→n≤(cols.getD j []).length) (Z:∀ j,j<cols.length→∀ g o,(Yo hs j).1=some ⟨g,o,none⟩→g<B) (R:B≤w.heap.size) (ba:∀ j,j<cols.length→(cols.getD j []).length≤M) (bf:n≤M)
  (X:ps.length=0∨∃ pb cp,D=.slice (some ⟨pb,0,none⟩) ps.length cp∧Jha w b pb K ps) (bh:∀ j,j<ps.length→n≤(ps.getD j []).length) (O:∀ j,j<ps.length→∀ i,i<n→Jg ((ps.getD j []).getD i Jf).n)
  (hp:Jr0 cols.length ps.length p) (hn:n≤100000) (hf:first+n≤10000000) (U:Jdo w E H) :
  Calls prog (Zv p.op) #[.pointer (some ⟨b,0,none⟩),p.val] w (Jbi B M E H b ex (.slice (some ⟨y,0,none⟩) cols.length cap) first n D er ps.length w fun i=>Qp p (Ji cols i) (Ji ps i)):=
 hp.meth B M b ex first n y cap hs cols D er K ps p E H w rfl Y hC bc Z R ba bf X bh O hp.pt hn hf U
theorem Kaz (a b:V):Jg (Jik a b).1.n:=by
 unfold Jik;split
 ·rename_i h;exact(Qj _).1 h
 exact(Qj _).1 rfl
theorem Jym (a b:V):Jg (Jiw a b).1.n:=by
 unfold Jiw;split
 ·rename_i h;exact(Qj _).1 h
 exact(Qj _).1 rfl
theorem Kbf (a b:V):Jg (Jkj a b).1.n:=by
 unfold Jkj;split
 ·rename_i h;exact(Qj _).1 h
 exact(Qj _).1 rfl
theorem Je7:Jg Jf.n:=(Qj _).1 rfl
theorem Jzw (a b:V):Jg (Jg4 a b).1.n:=by
 unfold Jg4;split
 ·exact Je7
 split
 ·rename_i h;exact(Qj _).1 h
 exact Je7
theorem Jc0 (b:Bool):Jg (Yi b).n:=by cases b<;>exact(Qj _).1 rfl
theorem Jod {a b d:V}(y:Jg a.n)(D:Jg b.n)(E:Jg d.n):Jg (Jk6 a b d).n:=by
 unfold Jk6;split
 ·exact E
 split
 ·exact y
 exact D
theorem Zr {y:V→V→V×Nat}{a b:V}(h:Jg (y a b).1.n):Jg (Kd y a b).1.n:=by
 unfold Kd;split
 ·exact Je7
 exact h
theorem Kbx (op:Int)(a b:V)(y:Jg a.n)(D:Jg b.n):Jg (opR op a b).1.n:=by
 unfold opR;split
 ·exact Zr (Kaz a b)
 split
 ·exact Zr (Jym a b)
 split
 ·exact Zr (Kbf a b)
 split
 ·exact Zr (Jzw a b)
 split
 ·exact Zr (Jc0 _)
 split
 ·exact Zr (Jc0 _)
 split
 ·exact Jod y D (Jc0 _)
 split
 ·exact Jod y D (Jc0 _)
 split
 ·exact Zr (Jc0 _)
 exact Jc0 _
theorem Jg3 {l:List V}(h:∀ v∈l,Jg v.n)(i:Nat):Jg (l.getD i Jf).n:=by
 rw[Oa0];by_cases hi:i<l.length
 ·rw[Oa3 hi];exact h _ (Ob3 hi)
 rw[Ob4 (by omega)];exact Je7
theorem Kak {W k:Nat}{p:Pt}(hp:Jr0 W k p){x done:List V}(D:∀ v∈x,Jg v.n)(y:∀ v∈done,Jg v.n):Jg (Qp p x done).1.n:=by
 unfold Qp;split
 ·exact Jg3 D _
 split
 ·rename_i h;exact(hp.pt.con h).2
 exact Kbx _ _ _ (Jg3 y _) (Jg3 y _)
def Yy:List Pt→List V→List V→List V⊕Nat
 |[],_,d=>.inl d
 |p::ps,x,d=>if (Qp p x d).2=0 then Yy ps x (d++[(Qp p x d).1])else .inr (Qp p x d).2
theorem Jdz (ps y:List Pt)(x:List V):∀ d,Yy (ps++y) x d=match Yy ps x d with|.inl d'=>Yy y x d'|.inr c=>.inr c:=by
 induction ps with
 |nil=>intro d;rfl
 |cons p ps D=>
  intro d;simp only[List.cons_append,Yy];split
  ·exact D _
  rfl
theorem Jsv {ps:List Pt}{x d y:List V}(p:Pt)(h:Yy ps x d=.inl y):Yy (ps++[p]) x d=if (Qp p x y).2=0 then .inl (y++[(Qp p x y).1])else .inr (Qp p x y).2:=by
 rw[Jdz,h];simp only[Yy]
theorem Jo0 {W:Nat}{x:List V}(K:∀ v∈x,Jg v.n):∀ (ps:List Pt) (d y:List V),(∀ j p,ps[j]?=some p→Jr0 W (d.length+j) p)→(∀ v∈d,Jg v.n)→Yy ps x d=.inl y→∀ v∈y,Jg v.n:=by
 intro ps;induction ps with
 |nil=>intro d y _ D h;simp only[Yy]at h;cases h;exact D
 |cons p ps O=>
  intro d y hp D h;simp only[Yy]at h;split at h
  ·refine O _ _ (fun j q H=>?_) (fun v E=>?_) h
   ·have:=hp (j+1) q (by simpa using H);rw[Oa8,List.length_singleton];have e:d.length+1+j=d.length+(j+1):=(by omega);rw[e];exact this
   rw[Od2,Oc6]at E;rcases E with E|rfl
   ·exact D v E
   exact Kak (hp 0 p rfl) K D
  cases h
end Go.Proofs.YtpchafocmlhmbaaGreatDoor
