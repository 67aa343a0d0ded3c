/- Rows held column by column, as the program's package columns hands them about: what is cut out of them. -/
import Derived.Test.YtpchafocmlhmbaaGreatDoorTl
set_option maxHeartbeats 4000000
set_option maxRecDepth 100000
namespace Go.Proofs.YtpchafocmlhmbaaGreatDoor
open Go.RowKit Go.Shelf Tryz
attribute [local go_sem] Oc0
abbrev Yo (hs:List (Option Addr×Nat))(j:Nat):Option Addr×Nat:=hs.getD j (none,0)
structure Qd (w:World) (g:Nat) (hs:List (Option Addr×Nat)) (cs:List (List V)):Prop where
 row:Ktm w g 40 cs.length (fun j=>.slice (Yo hs j).1 (cs.getD j []).length (Yo hs j).2)
 vals:∀ j,j<cs.length→Jv w (Yo hs j).1 (cs.getD j [])
 cap:∀ j,j<cs.length→(cs.getD j []).length≤(Yo hs j).2
theorem Qd.below {w w':World}{g:Nat}{hs:List (Option Addr×Nat)}{cs:List (List V)}(h:Qd w g hs cs)(y:Below w.heap.size w w'):Qd w' g hs cs:=
 ⟨h.row.of_block (y.block _ h.row.lt),fun j D=>(h.vals j D).below y,h.cap⟩
def Jbx (f t:Nat)(c:List V):List V:=(c.take t).drop f
theorem Jca {f t:Nat}{c:List V}(y:t≤c.length):(Jbx f t c).length=t-f:=by
 unfold Jbx;rw[Of7,Oc7,Oj1 y]
abbrev Jkl (a:Option Addr)(f t:Nat):Option Addr:=if t=f then a else a.map (·.add (f*3))
theorem Jv.cut {w:World}{a:Option Addr}{c:List V}(h:Jv w a c){f t:Nat}(hf:f≤t)(D:t≤c.length):Jv w (Jkl a f t) (Jbx f t c):=by
 by_cases e:t=f
 ·subst e;left;exact Od3.1 (by rw[Jca D,Oe1])
 rcases h with h|⟨b,o,rfl,H,h⟩
 ·subst h;simp at D;omega
 unfold Jkl;rw[if_neg e];right;have E:(⟨b,o,none⟩:Addr).add (f*3)=⟨b,o+f*3,none⟩:=Op7 b o (f*3);refine⟨b,o+f*3,by simp[E],H,fun i v hi=>?_⟩;unfold Jbx at hi;rw[Oh9]at hi;have K:f+i<t:=by
  rcases Oc1 (f+i) t with y|y
  ·exact y
  rw[List.getElem?_take_eq_none y]at hi;simp at hi
 rw[Oh3 K]at hi;have:=h (f+i) v hi;rw[Nat.add_mul,←On5]at this;exact this
def Jnt (hs:List (Option Addr×Nat))(k f t:Nat):List (Option Addr×Nat):=(List.range k).map fun j=>(Jkl (Yo hs j).1 f t,t-f)
theorem Kdx (g cap:Nat)(hs:List (Option Addr×Nat))(cs:List (List V))(n f t:Nat)(w:World)(hC:Qd w g hs cs)(hn:∀ j,j<cs.length→(cs.getD j []).length=n)(hf:f≤t)(bn:t≤n)(br:cs.length≤1000) :
  Calls prog 111 #[.slice (some ⟨g,0,none⟩) cs.length cap,.int .i64 (f:Int),.int .i64 (t:Int)] w fun e w'=>Below w.heap.size w w'∧e=.returned (.slice (some ⟨w.heap.size,0,none⟩) cs.length cs.length)∧Qd w' w.heap.size (Jnt hs cs.length f t) (cs.map (Jbx f t)):=by
 have bc:=Jiz cs.length w br;have bB:(f:Int)≤(t:Int):=by omega
 have bz:(0:Int)≤(f:Int):=by omega
 have bA:(0:Int)≤(t:Int):=by omega
 go_enter func111,ntmps111
 go_wp2_with (first|(go_at_call 77;refine bc.mono ?_;rintro e bx ⟨rfl,ba,bj⟩))
 have bf:=ba.row;rw[Od6]at bf;clear bc ba;go_loopw [15] (fun i wr=>∃ k:Nat,k≤cs.length∧i=.int .i64 (k:Int)∧wr.rowIs w.heap.size 40 cs.length (fun j=>if j<k then .slice (Jkl (Yo hs j).1 f t) (t-f) (t-f)else .slice none 0 0)∧Below w.heap.size w wr) (fun i _=>cs.length-(intOf i).toNat)
 case atStart=>
  refine⟨0,Ob7 _,rfl,bf.congr fun j y=>?_,bj⟩;rw[if_neg (Oe0 _)];unfold Uq;rw[Oa0,Of3];split<;>rfl
 case round=>
  obtain⟨k,bC,rfl,O,K⟩:=hrel;by_cases H:k<cs.length
  ·have Y:=Ja K (hC.row.cell H);rw[hn k H]at Y;have X:=hC.cap k H;rw[hn k H]at X;have c1:=O.cell H;have c2:=O.frozen k;simp only[Oe3,if_false]at c1;obtain⟨R,ck,U⟩:∃ R ck,Yo hs k=(R,ck):=⟨_,_,rfl⟩;rw[U]at Y X;simp only at Y X;have bD:(t:Int)≤(ck:Int):=(by omega);have bh:Hid (Yo hs k=(R,ck)):=U;clear U;go_wp2;go_roundw
   case rel=>
    refine⟨k+1,by omega,by go_num,(O.set k _).congr fun j y=>?_,K.setCell (p:=⟨w.heap.size,k,none⟩) (Oa2 _) _⟩;have bi:=bh.out;by_cases e:j=k
    ·subst e;rw[if_pos (show j=j from rfl),if_pos (show j<j+1 from On2 _),bi]
    rw[if_neg e];by_cases Z:j<k
    ·rw[if_pos Z,if_pos (by omega)]
    rw[if_neg Z,if_neg (by omega)]
   case measure=>simp[intOf];omega
  obtain rfl:k=cs.length:=by omega
  go_wp2;go_ret
  refine⟨K,rfl,⟨?_,fun j y=>?_,fun j y=>?_⟩⟩;all_goals unfold Jnt
  ·rw[Oa6];refine(Kt4 O).congr fun j y=>?_;rw[if_pos y];have D:Yo ((List.range cs.length).map fun j=>(Jkl (Yo hs j).1 f t,t-f)) j=(Jkl (Yo hs j).1 f t,t-f):=(by simp[Yo,y]);have E:((cs.map (Jbx f t)).getD j []).length=t-f:=by
    rw[Oa0,Ob1,Oa3 y];have:=hn j y;rw[Oa0,Oa3 y]at this;exact Jca (by simp at this;omega)
   rw[D,E]
  ·rw[Oa6]at y;have D:Yo ((List.range cs.length).map fun j=>(Jkl (Yo hs j).1 f t,t-f)) j=(Jkl (Yo hs j).1 f t,t-f):=(by simp[Yo,y]);have E:(cs.map (Jbx f t)).getD j []=Jbx f t (cs.getD j []):=by
    rw[Oa0,Ob1,Oa3 y,Oa0,Oa3 y];rfl
   rw[D,E];exact((hC.vals j y).below K).cut hf (by rw[hn j y];exact bn)
  rw[Oa6]at y;have D:Yo ((List.range cs.length).map fun j=>(Jkl (Yo hs j).1 f t,t-f)) j=(Jkl (Yo hs j).1 f t,t-f):=by simp[Yo,y]
  have E:((cs.map (Jbx f t)).getD j []).length=t-f:=by
   rw[Oa0,Ob1,Oa3 y];have:=hn j y;rw[Oa0,Oa3 y]at this;exact Jca (by simp at this;omega)
  rw[D,E];exact Oa2 _
theorem Jqo (n:Nat)(hn:n≤100000)(W:World):∃ C,(Instr.makeSlice 40 (.int .i64 (n:Int)) (.int .i64 (n:Int))).run prog W=.ok (.slice (some ⟨W.heap.size,0,none⟩) n n) (W.alloc (.cells C 39))∧Kv (W.alloc (.cells C 39)) W.heap.size (List.replicate n Jf) []:=by
 obtain⟨i,hi,E,D,y⟩:=info_parts Jow;have hr:=run_make (P:=prog) W 40 39 i _ (by kernel_rfl) hi E .i64 .i64 (n:Int) (n:Int) (by omega) (Int.le_refl _) (by rw[y];omega) (by omega);rw[Int.toNat_natCast,D]at hr;exact⟨_,hr,_,(Oh1 W _).1,by rw[Od7];exact Jt9 n⟩
def Yq (ns:List Int)(c:List V):List V:=ns.map fun m=>if m=-1 then Jf else c.getD m.toNat Jf
theorem Ze (ns:List Int)(c:List V):(Yq ns c).length=ns.length:=by simp[Yq]
theorem Kcv (L:List V)(c n:Nat)(hl:L.length=n)(E:c<n)(h0:L[c]=Jf):L.take c++List.replicate (n-c) Jf=L.take (c+1)++List.replicate (n-(c+1)) Jf:=by
 obtain⟨d,y⟩:∃ d,n-c=d+1:=⟨n-c-1,by omega⟩;have D:n-(c+1)=d:=by omega
 rw[y,D,List.replicate_succ,Jec L c (by omega),Od8,h0];rfl
theorem Jzq (g cap:Nat)(hs:List (Option Addr×Nat))(cs:List (List V))(n:Nat)(bN:Option Addr)(cF:Nat)(ns:List Int)(w:World)(hC:Qd w g hs cs)(hn:∀ j,j<cs.length→(cs.getD j []).length=n)(ci:Kc w bN ns)(cc:∀ m∈ns,m=-1∨(0≤m∧m<(n:Int)))(cV:cs.length≤1000)(hl:ns.length≤100000) :
  Calls prog 106 #[.slice (some ⟨g,0,none⟩) cs.length cap,.slice bN ns.length cF] w fun e w'=>Below w.heap.size w w'∧e=.returned (.slice (some ⟨w.heap.size,0,none⟩) cs.length cs.length)∧∃ cv,Qd w' w.heap.size cv (cs.map (Yq ns))∧∀ j,j<cs.length→∀ b o,(Yo cv j).1=some ⟨b,o,none⟩→w.heap.size≤b∧b<w'.heap.size:=by
 have cj:=Jiz cs.length w cV;have cb:=hC.row.lt;have cA:Hid (∀ m∈ns,m=-1∨(0≤m∧m<(n:Int))):=cc;have cB:Hid (Kc w bN ns):=ci;have bU:Hid (Qd w g hs cs):=hC;clear cc ci hC;go_enter func106,ntmps106
 go_wp2_with (first|(go_at_call 77;refine cj.mono ?_;rintro e cZ ⟨rfl,ca,cM⟩))
 have cu:=ca.row;rw[Od6]at cu;clear cj ca;go_loopw [15] (fun i wr=>∃ (k:Nat) (bs:List Nat),k≤cs.length∧i=.int .i64 (k:Int)∧Hid (bs.length=k)∧wr.rowIs w.heap.size 40 cs.length (fun j=>if j<k then .slice (some ⟨bs.getD j 0,0,none⟩) ns.length ns.length else .slice none 0 0)∧Hid (∀ j b,bs[j]?=some b→Kv wr b (Yq ns (cs.getD j [])) []∧w.heap.size<b)∧Below w.heap.size w wr) (fun i _=>cs.length-(intOf i).toNat)
 case atStart=>
  refine⟨0,[],Ob7 _,rfl,rfl,cu.congr fun j D=>?_,fun j b h=>by simp at h,cM⟩;rw[if_neg (Oe0 _)];unfold Uq;rw[Oa0,Of3];split<;>rfl
 case round=>
  obtain⟨k,bs,dg,rfl,bi,O,bJ,Y⟩:=hrel;obtain⟨y,bh⟩:∃ y,y=wr:=⟨_,rfl⟩;subst bh;have dh:=O.lt;by_cases ba:k<cs.length
  ·obtain⟨C,cO,bB⟩:=Jqo ns.length hl y;have bG:=Ja Y (bU.out.row.cell ba);rw[hn k ba]at bG;obtain⟨bM,ck,bY⟩:∃ bM ck,Yo hs k=(bM,ck):=⟨_,_,rfl⟩;have bD:=bU.out.vals k ba;rw[bY]at bG bD;simp only at bG bD;have bL:Hid (Jv w bM (cs.getD k [])∧(cs.getD k []).length=n):=⟨bD,hn k ba⟩;have c1:=O.cell ba;have c2:=O.frozen k;simp only[Oe3,if_false]at c1;clear bY bD;go_wp2;clear cO c1 c2;have bx:=Y.setCell (p:=⟨w.heap.size,k,none⟩) (Oa2 _) (.slice (some ⟨y.heap.size,0,none⟩) ns.length ns.length);have bf:(y.setCell ⟨w.heap.size,k,none⟩ (.slice (some ⟨y.heap.size,0,none⟩) ns.length ns.length)).heap.size=y.heap.size:=by simp[World.setCell]
   go_loopw [28] (fun i wr=>∃ c:Nat,c≤ns.length∧i=.int .i64 (c:Int)∧Kv wr y.heap.size ((Yq ns (cs.getD k [])).take c++List.replicate (ns.length-c) Jf) []∧wr.rowIs w.heap.size 40 cs.length (fun j=>if j=k then .slice (some ⟨y.heap.size,0,none⟩) ns.length ns.length else if j<k then .slice (some ⟨bs.getD j 0,0,none⟩) ns.length ns.length else .slice none 0 0)∧Hid (∀ x,x<y.heap.size→x≠w.heap.size→wr.heap[x]?=y.heap[x]?)∧y.heap.size<wr.heap.size∧Below w.heap.size w wr) (fun i _=>ns.length-(intOf i).toNat)
   case atStart=>
    obtain⟨cY,E,K⟩:=bB;rw[heap_alloc_new]at E;simp at E;subst E;refine⟨0,Ob7 _,rfl,⟨C,?_,by simpa using K⟩,(O.set k _).alloc _,fun x bR bS=>?_,by rw[Oa7,bf];omega,Jc bx _⟩
    ·have:=heap_alloc_new (y.setCell ⟨w.heap.size,k,none⟩ (.slice (some ⟨y.heap.size,0,none⟩) ns.length ns.length)) (.cells C 39);rw[bf]at this;exact this
    rw[Oa9 _ _ x (by rw[bf];exact bR),Oa4 _ _ _ _ bS]
   case round=>
    obtain⟨c,df,rfl,U,bj,bI,cx,X⟩:=hrel;have bH:Hid (wr.rowIs w.heap.size 40 cs.length (fun j=>if j=k then .slice (some ⟨y.heap.size,0,none⟩) ns.length ns.length else if j<k then .slice (some ⟨bs.getD j 0,0,none⟩) ns.length ns.length else .slice none 0 0)):=bj;by_cases Z:c<ns.length
    ·obtain⟨db,dm,rfl,de,cX⟩:=Kc.at (cB.out.below X) Z;have cP:c<(Yq ns (cs.getD k [])).length:=by rw[Ze];exact Z
     by_cases bc:ns[c]=-1
     ·have ch:(ns[c] != -1)=false:=(by simp[bc]);have bV:=Kcv (Yq ns (cs.getD k [])) c ns.length (Ze _ _) Z (by simp[Yq,bc]);rw[bV]at U;have bK:Hid (Kv wr y.heap.size ((Yq ns (cs.getD k [])).take (c+1)++List.replicate (ns.length-(c+1)) Jf) []):=U;clear U bj O bB bx bf bV bc;go_wp2;go_roundw
      case rel=>exact⟨c+1,by omega,by go_num,bK.out,bH.out,bI,cx,X⟩
      case measure=>simp[intOf];omega
     have ch:(ns[c] != -1)=true:=(by simp[bc]);have di:=(cA.out _ (Ob3 Z)).resolve_left bc;obtain⟨u,cy⟩:∃ u:Nat,ns[c]=(u:Int):=⟨ns[c].toNat,by omega⟩;have cT:u<n:=(by omega);rw[cy]at cX ch;have bQ:u<(cs.getD k []).length:=by rw[bL.out.2];exact cT
     obtain⟨b2,bE,cK,dd,z1,z2,bT⟩:=(bL.out.1.below X).at bQ;subst cK;obtain⟨da,dj,bZ,dc,_⟩:=bL.out.1.at bQ;simp only[Oc9,Oh2,and_true]at bZ;obtain⟨rfl,rfl⟩:=bZ;have bP:=bj.cell ba;simp only[if_true]at bP;have cn:(Yq ns (cs.getD k []))[c]=(cs.getD k [])[u]:=by
      simp only[Yq,Od9,cy];rw[if_neg (by omega),Int.toNat_natCast,Oa0 (l:=cs.getD k []),Oa3 bQ];rfl
     have cf:((Yq ns (cs.getD k [])).take c++List.replicate (ns.length-c) Jf).length=ns.length:=by
      rw[Oa8,Oc7,Ze,Od6];omega
     obtain⟨dk,⟨c0,cG⟩,⟨c1,E⟩,⟨c2,K⟩,bC⟩:=U.put (Yq ns (cs.getD k []))[c] c (by rw[cf];exact Z);rw[Jk1 (Yq ns (cs.getD k [])) c ns.length (Ze _ _) Z,cn]at bC;have dq:wr.cell? ⟨g,k,none⟩=some (.slice (some ⟨b2,bE,none⟩) n ck):=by rw[X.cell (p:=⟨g,k,none⟩) cb,←Y.cell (p:=⟨g,k,none⟩) cb];exact bG
     generalize (cs.getD k [])[u]=v at z1 z2 bT bC;have cD:Hid (Kv (((wr.setCell ⟨y.heap.size,c*3,none⟩ (.int .i64 v.k)).setCell ⟨y.heap.size,c*3+1,none⟩ (.int .i64 v.n)).setCell ⟨y.heap.size,c*3+2,none⟩ (.string v.s)) y.heap.size ((Yq ns (cs.getD k [])).take (c+1)++List.replicate (ns.length-(c+1)) Jf) []):=bC;have bh:=Y.size;clear bC cf cP bj O bB bx bf cn bc;go_wp2;refine wp_region_held_drew (S:=fun br=>br.cell? ⟨w.heap.size,k,none⟩=some (.slice (some ⟨y.heap.size,0,none⟩) ns.length ns.length)∧br.cell? ⟨b2,bE+u*3,none⟩=some (.int .i64 v.k)∧br.cell? ⟨b2,bE+u*3+1,none⟩=some (.int .i64 v.n)∧br.cell? ⟨b2,bE+u*3+2,none⟩=some (.string v.s)) (by kernel_rfl) ⟨bP,z1,z2,bT⟩ (fun H=>?_);refine tkj 0 rfl H ?_;refine tkj 1 rfl H ?_;refine tkj 2 rfl H ?_;refine tkj 3 rfl H ?_;refine tkj 4 rfl H ?_;refine tkj 5 rfl H ?_;refine tkj 6 rfl H ?_;refine tkj 7 rfl H ?_;refine tkj 8 rfl H ?_;refine tkj 9 rfl H ?_;refine tkn ?_;refine tkr 10 rfl fun cE bX=>?_;go_simp;have bn:∀ (b o:Nat) (u:Value),b≠y.heap.size→wr.cell? ⟨b,o,none⟩=some u→(((wr.setCell ⟨y.heap.size,c*3,none⟩ (.int .i64 v.k)).setCell ⟨y.heap.size,c*3+1,none⟩ (.int .i64 v.n)).setCell ⟨y.heap.size,c*3+2,none⟩ (.string v.s)).cell? ⟨b,o,none⟩=some u:=fun b o u R cU=>by
      rw[Ob5 _ _ _ _ (by first|(simp;done)|(simp;omega)),Ob5 _ _ _ _ (by first|(simp;done)|(simp;omega)),Ob5 _ _ _ _ (by first|(simp;done)|(simp;omega))];exact cU
     refine bX.out _ _ ⟨bn _ _ _ (by omega) bP,bn _ _ _ (by omega) z1,bn _ _ _ (by omega) z2,bn _ _ _ (by omega) bT⟩ (fun cJ=>?_);clear bX cE bn H cJ c0 cG c1 E c2 K;refine wpAnyH_done (by kernel_rfl) ?_ _;have cQ:Hid ((((wr.setCell ⟨y.heap.size,c*3,none⟩ (.int .i64 v.k)).setCell ⟨y.heap.size,c*3+1,none⟩ (.int .i64 v.n)).setCell ⟨y.heap.size,c*3+2,none⟩ (.string v.s)).rowIs w.heap.size 40 cs.length (fun j=>if j=k then .slice (some ⟨y.heap.size,0,none⟩) ns.length ns.length else if j<k then .slice (some ⟨bs.getD j 0,0,none⟩) ns.length ns.length else .slice none 0 0)):=
      ((bH.out.setOther (a:=⟨y.heap.size,c*3,none⟩) (by show w.heap.size≠y.heap.size;omega) _).setOther (a:=⟨y.heap.size,c*3+1,none⟩) (by show w.heap.size≠y.heap.size;omega) _).setOther (a:=⟨y.heap.size,c*3+2,none⟩) (by show w.heap.size≠y.heap.size;omega) _
     have cN:Below w.heap.size w (((wr.setCell ⟨y.heap.size,c*3,none⟩ (.int .i64 v.k)).setCell ⟨y.heap.size,c*3+1,none⟩ (.int .i64 v.n)).setCell ⟨y.heap.size,c*3+2,none⟩ (.string v.s)):=
      ((X.setCell (p:=⟨y.heap.size,c*3,none⟩) bh _).setCell (p:=⟨y.heap.size,c*3+1,none⟩) bh _).setCell (p:=⟨y.heap.size,c*3+2,none⟩) bh _
     have cC:Hid (∀ x,x<y.heap.size→x≠w.heap.size→(((wr.setCell ⟨y.heap.size,c*3,none⟩ (.int .i64 v.k)).setCell ⟨y.heap.size,c*3+1,none⟩ (.int .i64 v.n)).setCell ⟨y.heap.size,c*3+2,none⟩ (.string v.s)).heap[x]?=y.heap[x]?):=fun x bR bS=>by
      rw[Oa4 _ _ _ _ (by show x≠y.heap.size;omega),Oa4 _ _ _ _ (by show x≠y.heap.size;omega),Oa4 _ _ _ _ (by show x≠y.heap.size;omega)];exact bI.out x bR bS
     have cS:y.heap.size<(((wr.setCell ⟨y.heap.size,c*3,none⟩ (.int .i64 v.k)).setCell ⟨y.heap.size,c*3+1,none⟩ (.int .i64 v.n)).setCell ⟨y.heap.size,c*3+2,none⟩ (.string v.s)).heap.size:=by simp[World.setCell];exact cx
     generalize ((wr.setCell ⟨y.heap.size,c*3,none⟩ (.int .i64 v.k)).setCell ⟨y.heap.size,c*3+1,none⟩ (.int .i64 v.n)).setCell ⟨y.heap.size,c*3+2,none⟩ (.string v.s)=dp at *;go_wp2;go_roundw
     case rel=>exact⟨c+1,by omega,by go_num,cD.out,cQ.out,cC.out,cS,cN.drew⟩
     case measure=>simp[intOf];omega
    obtain rfl:c=ns.length:=by omega
    rw[Oe1,List.replicate_zero,Od7,Oc8 (by rw[Ze];exact Oa2 _)]at U;have bK:Hid (Kv wr y.heap.size (Yq ns (cs.getD k [])) []):=U;have bh:=Y.size;clear U bj O bB bx bf;go_wp2;go_roundw
    case rel=>
     refine⟨k+1,bs++[y.heap.size],by omega,by go_num,by show _=_;rw[Oa8,bi.out];rfl,bH.out.congr fun j D=>?_,fun j b R=>?_,X⟩
     ·have bA:=bi.out;by_cases e:j=k
      ·subst e;simp[bA]
      by_cases bW:j<k
      ·have bO:j<k+1:=(by omega);simp[e,bW,bO,List.getElem?_append_left (show j<bs.length by omega)]
      have bO:¬ j<k+1:=(by omega);simp[e,bW,bO]
     by_cases e:j<bs.length
     ·rw[Ob0 e]at R;obtain⟨cz,cW⟩:=bJ.out j b R;exact⟨cz.of_block (bI.out b cz.lt (by omega)),cW⟩
     have bA:=bi.out;have D:j=k:=by
      have:=(Ob9.1 R).1;simp at this;omega
     subst D;rw[←bA,Ob6 (Oa2 _),Oe1]at R;simp at R;subst R;exact⟨bK.out,by omega⟩
    case measure=>simp[intOf];omega
  obtain rfl:k=cs.length:=by omega
  go_wp2;go_ret
  refine⟨Y,rfl,(List.range cs.length).map fun j=>((some ⟨bs.getD j 0,0,none⟩:Option Addr),ns.length),⟨?_,fun j D=>?_,fun j D=>?_⟩,fun j D b o e=>?_⟩
  ·rw[Oa6];refine(Kt4 O).congr fun j D=>?_;rw[if_pos D];have E:Yo ((List.range cs.length).map fun j=>((some ⟨bs.getD j 0,0,none⟩:Option Addr),ns.length)) j=(some ⟨bs.getD j 0,0,none⟩,ns.length):=by simp[Yo,D]
   have K:((cs.map (Yq ns)).getD j []).length=ns.length:=by
    rw[Oa0,Ob1,Oa3 D];exact Ze _ _
   rw[E,K]
  ·rw[Oa6]at D;have E:Yo ((List.range cs.length).map fun j=>((some ⟨bs.getD j 0,0,none⟩:Option Addr),ns.length)) j=(some ⟨bs.getD j 0,0,none⟩,ns.length):=by simp[Yo,D]
   have K:(cs.map (Yq ns)).getD j []=Yq ns (cs.getD j []):=by
    rw[Oa0,Ob1,Oa3 D,Oa0,Oa3 D];rfl
   rw[E,K];have bz:j<bs.length:=by rw[bi.out];exact D
   have:=(bJ.out j bs[j] (Oa3 bz)).1.vals;have cH:bs.getD j 0=bs[j]:=by rw[Oa0,Oa3 bz];rfl
   rw[cH];exact this
  ·rw[Oa6]at D;have E:Yo ((List.range cs.length).map fun j=>((some ⟨bs.getD j 0,0,none⟩:Option Addr),ns.length)) j=(some ⟨bs.getD j 0,0,none⟩,ns.length):=by simp[Yo,D]
   have K:((cs.map (Yq ns)).getD j []).length=ns.length:=by
    rw[Oa0,Ob1,Oa3 D];exact Ze _ _
   rw[E,K];exact Oa2 _
  have bA:=bi.out;have bz:j<bs.length:=by omega
  have cI:(Yo ((List.range cs.length).map fun j=>((some ⟨bs.getD j 0,0,none⟩:Option Addr),ns.length)) j).1=some ⟨bs.getD j 0,0,none⟩:=by
   unfold Yo;rw[Oa0,Ob1,Oh6 D];rfl
  rw[cI]at e;cases e
  have:=bJ.out j (bs.getD j 0) (by rw[Oa0,Oa3 bz];rfl);exact⟨Nat.le_of_lt this.2,this.1.lt⟩
end Go.Proofs.YtpchafocmlhmbaaGreatDoor
