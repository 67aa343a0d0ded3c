/- Rows held column by column, as the program's package columns hands them about: what is cut out of them. -/
import Derived.Test.YtnlnlamdilifcaaGreatDoorKm
set_option maxHeartbeats 4000000
set_option maxRecDepth 100000
namespace Go.Proofs.YtnlnlamdilifcaaGreatDoor
section
open Go.RowKit Go.Shelf Tryz
attribute [local go_sem] Oc0
abbrev Yo (hs:List (Option Addr×Nat))(j:Nat):Option Addr×Nat:=hs.getD j (none,0)
structure Qd (w:World) (g:Nat) (hs:List (Option Addr×Nat)) (cs:List (List V)):Prop where
 row:Kt9 w g 62 cs.length (fun j=>.slice (Yo hs j).1 (cs.getD j []).length (Yo hs j).2)
 vals:∀ j,j<cs.length->Jv w (Yo hs j).1 (cs.getD j [])
 cap:∀ j,j<cs.length->(cs.getD j []).length<=(Yo hs j).2
theorem Qd.below {w w' g hs cs}(h:Qd w g hs cs)(hb:Bq w w'):Qd w' g hs cs:=
 ⟨h.row.of_block (hb.block _ h.row.lt),fun j y=>(h.vals j y).below hb,h.cap⟩
def Jbx (f t:Nat)(c:List V):List V:=(c.take t).drop f
theorem Jca {f t c}(y:t<=c.length):(Jbx f t c).length=t-f:=by
 unfold Jbx;rw[Of7,Oc7,Oj1 y]
abbrev Jkl (a:Option Addr)(f t:Nat):Option Addr:=if t=f then a else a.map (·.add (f*3))
theorem Jv.cut {w a c}(h:Jv w a c){f t}(K:f<=t)(ht:t<=c.length):Jv w (Jkl a f t) (Jbx f t c):=by
 by_cases e:t=f
 ·subst e;left;exact Od3.1 (by rw[Jca ht,Oe1])
 rcases h with h|⟨b,o,rfl,hb,h⟩
 ·subst h;simp at ht;omega
 unfold Jkl;rw[if_neg e];right;have H:(⟨b,o,none⟩:Addr).add (f*3)=⟨b,o+f*3,none⟩:=Op7 b o (f*3);refine⟨b,o+f*3,by simp[H],hb,fun i v hi=>?_⟩;unfold Jbx at hi;rw[Oh9]at hi;have I:f+i<t:=by
  rcases Oc1 (f+i) t with y|y
  ·exact y
  rw[List.getElem?_take_eq_none y]at hi;simp at hi
 rw[Oh3 I]at hi;have:=h (f+i) v hi;rw[Nat.add_mul,<-On5]at this;exact this
def Jnt (hs:List (Option Addr×Nat))(k f t:Nat):List (Option Addr×Nat):=(List.range k).map fun j=>(Jkl (Yo hs j).1 f t,t-f)
theorem zaT {p:Prop}(h:p:=by rw[Oa0,Ob1,Oa3 y];have:=M j y;rw[Oa0,Oa3 y]at this;exact Jca (by simp at this;omega)):p:=h
theorem Kdx g cap hs cs n f t w(hC:Qd w g hs cs)(M:∀ j,j<cs.length->(cs.getD j []).length=n)(bA:f<=t)(ht:t<=n)(bB:cs.length<=1000):
  Cq 130 #[Sq g cs.length cap,Iq (f:Int),Iq (t:Int)] w fun e w'=>Bq w w'/\e=.returned (Sq w.heap.size cs.length cs.length)/\Qd w' w.heap.size (Jnt hs cs.length f t) (cs.map (Jbx f t)):=by
 have bj:=Jiz cs.length w bB;have bG:(f:Int)<=(t:Int):=zo;have bD:(0:Int)<=(f:Int):=zo;have bE:(0:Int)<=(t:Int):=zo;go_enter func130,ntmps130
 go_wp2_with (first|(go_at_call 72;refine bj.mono ?_;rintro e bC ⟨rfl,bi,bz⟩))
 have bk:=bi.row;rw[Od6]at bk;clear bj bi;go_loopw [15] (fun i wr=>∃ k:Nat,k<=cs.length/\i=Iq (k:Int)/\wr.rowIs w.heap.size 62 cs.length (fun j=>if j<k then .slice (Jkl (Yo hs j).1 f t) (t-f) (t-f)else Sz)/\Bq w wr) (fun i _=>cs.length-(intOf i).toNat)
 case atStart=>
  refine⟨0,Ob7 _,rfl,bk.congr fun j y=>?_,bz⟩;rw[if_neg (Oe0 _)];unfold Uq;rw[Oa0,Of3];split<;>rfl
 case round=>
  obtain⟨k,bH,rfl,U,O⟩:=hrel;by_cases K:k<cs.length
  ·have x1:=Ja O (hC.row.cell K);rw[M k K]at x1;have Z:=hC.cap k K;rw[M k K]at Z;have c1:=U.cell K;have c2:=U.frozen k;simp only[Oe3,if_false]at c1;obtain⟨bf,ck,Y⟩:∃ bf ck,Yo hs k=(bf,ck):=⟨_,_,rfl⟩;rw[Y]at x1 Z;simp only at x1 Z;have bI:(t:Int)<=(ck:Int):=zo;have br:=zh Y;clear Y;go_wp2;go_roundw
   case rel=>
    refine⟨k+1,zo,zn,(U.set k _).congr fun j y=>?_,O.setCell (p:=Ar w.heap.size k) (Oa2 _) _⟩;have bx:=br.out;by_cases e:j=k
    ·subst e;rw[if_pos (show j=j from rfl),if_pos (show j<j+1 from On2 _),bx]
    rw[if_neg e];by_cases bh:j<k
    ·rw[if_pos bh,if_pos zo]
    rw[if_neg bh,if_neg zo]
   case measure=>simp[intOf];omega
  obtain rfl:k=cs.length:=zo;go_wp2;go_ret
  refine⟨O,rfl,⟨?_,fun j y=>?_,fun j y=>?_⟩⟩;all_goals unfold Jnt
  ·rw[Oa6];refine(Kud U).congr fun j y=>?_;rw[if_pos y];have H:Yo ((List.range cs.length).map fun j=>(Jkl (Yo hs j).1 f t,t-f)) j=(Jkl (Yo hs j).1 f t,t-f):=(by simp[Yo,y]);have I:((cs.map (Jbx f t)).getD j []).length=t-f:=by
    exact zaT
   rw[H,I]
  ·rw[Oa6]at y;have H:Yo ((List.range cs.length).map fun j=>(Jkl (Yo hs j).1 f t,t-f)) j=(Jkl (Yo hs j).1 f t,t-f):=(by simp[Yo,y]);have I:(cs.map (Jbx f t)).getD j []=Jbx f t (cs.getD j []):=by
    rw[Oa0,Ob1,Oa3 y,Oa0,Oa3 y];rfl
   rw[H,I];exact((hC.vals j y).below O).cut bA (by rw[M j y];exact ht)
  rw[Oa6]at y;have H:Yo ((List.range cs.length).map fun j=>(Jkl (Yo hs j).1 f t,t-f)) j=(Jkl (Yo hs j).1 f t,t-f):=by simp[Yo,y]
  have I:((cs.map (Jbx f t)).getD j []).length=t-f:=by
   exact zaT
  rw[H,I];exact Oa2 _
theorem Jqo (n:Nat)(K:n<=100000)W:∃ C,(Instr.makeSlice 62 (Iq (n:Int)) (Iq (n:Int))).run prog W=.ok (Sq W.heap.size n n) (W.alloc (.cells C 65))/\Kv (W.alloc (.cells C 65)) W.heap.size (List.replicate n Jf) []:=by
 exact zak
def Yq (ns:List Int)(c:List V):List V:=ns.map fun m=>if m=-1 then Jf else c.getD m.toNat Jf
theorem Ze ns c:(Yq ns c).length=ns.length:=by simp[Yq]
theorem Kcv (L:List V)(c n:Nat)(hl:L.length=n)(I:c<n)(h0:L[c]=Jf):L.take c++List.replicate (n-c) Jf=L.take (c+1)++List.replicate (n-(c+1)) Jf:=by
 obtain⟨d,y⟩:∃ d,n-c=d+1:=⟨n-c-1,zo⟩;have H:n-(c+1)=d:=zo;rw[y,H,List.replicate_succ,Jec L c zo,Od8,h0];rfl
theorem Jzq g cap hs cs n an cF ns w(hC:Qd w g hs cs)(cc:∀ j,j<cs.length->(cs.getD j []).length=n)(ci:Kc w an ns)(cb:∀ m∈ns,m=-1\/(0<=m/\m<(n:Int)))(cS:cs.length<=1000)(hl:ns.length<=100000):
  Cq 125 #[Sq g cs.length cap,.slice an ns.length cF] w fun e w'=>Bq w w'/\e=.returned (Sq w.heap.size cs.length cs.length)/\∃ cv,Qd w' w.heap.size cv (cs.map (Yq ns))/\∀ j,j<cs.length->∀ b o,(Yo cv j).1=some (Ar b o)->w.heap.size<=b/\b<w'.heap.size:=by
 have cj:=Jiz cs.length w cS;have ca:=hC.row.lt;have cA:=zh cb;have cB:=zh ci;have bU:=zh hC;clear cb ci hC;go_enter func125,ntmps125
 go_wp2_with (first|(go_at_call 72;refine cj.mono ?_;rintro e cW ⟨rfl,bZ,cL⟩))
 have cu:=bZ.row;rw[Od6]at cu;clear cj bZ;go_loopw [15] (fun i wr=>∃ (k:Nat) (bs:List Nat),k<=cs.length/\i=Iq (k:Int)/\Hid (bs.length=k)/\wr.rowIs w.heap.size 62 cs.length (fun j=>if j<k then Sq (bs.getD j 0) ns.length ns.length else Sz)/\Hid (∀ j b,bs[j]?=some b->Kv wr b (Yq ns (cs.getD j [])) []/\w.heap.size<b)/\Bq w wr) (fun i _=>cs.length-(intOf i).toNat)
 case atStart=>
  refine⟨0,[],Ob7 _,rfl,rfl,cu.congr fun j H=>?_,fun j b h=>by simp at h,cL⟩;rw[if_neg (Oe0 _)];unfold Uq;rw[Oa0,Of3];split<;>rfl
 case round=>
  obtain⟨k,bs,dc,rfl,br,O,bK,Z⟩:=hrel;obtain⟨y,bk⟩:∃ y,y=wr:=⟨_,rfl⟩;subst bk;have dd:=O.lt;by_cases bh:k<cs.length
  ·obtain⟨C,cN,bD⟩:=Jqo ns.length hl y;have x1:=Ja Z (bU.out.row.cell bh);rw[cc k bh]at x1;obtain⟨bN,ck,bX⟩:∃ bN ck,Yo hs k=(bN,ck):=⟨_,_,rfl⟩;have bG:=bU.out.vals k bh;rw[bX]at x1 bG;simp only at x1 bG;have bM:Hid (Jv w bN (cs.getD k [])/\(cs.getD k []).length=n):=⟨bG,cc k bh⟩;have c1:=O.cell bh;have c2:=O.frozen k;simp only[Oe3,if_false]at c1;clear bX bG;go_wp2;clear cN c1 c2;have bA:=Z.setCell (p:=Ar w.heap.size k) (Oa2 _) (Sq y.heap.size ns.length ns.length);have bj:(y.setCell (Ar w.heap.size k) (Sq y.heap.size ns.length ns.length)).heap.size=y.heap.size:=by simp[World.setCell]
   go_loopw [28] (fun i wr=>∃ c:Nat,c<=ns.length/\i=Iq (c:Int)/\Kv wr y.heap.size ((Yq ns (cs.getD k [])).take c++List.replicate (ns.length-c) Jf) []/\wr.rowIs w.heap.size 62 cs.length (fun j=>if j=k then Sq y.heap.size ns.length ns.length else if j<k then Sq (bs.getD j 0) ns.length ns.length else Sz)/\Hid (∀ x,x<y.heap.size->x≠w.heap.size->wr.heap[x]?=y.heap[x]?)/\y.heap.size<wr.heap.size/\Bq w wr) (fun i _=>ns.length-(intOf i).toNat)
   case atStart=>
    obtain⟨cV,I,M⟩:=bD;rw[heap_alloc_new]at I;simp at I;subst I;refine⟨0,Ob7 _,rfl,⟨C,?_,by simpa using M⟩,(O.set k _).alloc _,fun x bR bS=>?_,by rw[Oa7,bj];omega,Jc bA _⟩
    ·have:=heap_alloc_new (y.setCell (Ar w.heap.size k) (Sq y.heap.size ns.length ns.length)) (.cells C 65);rw[bj]at this;exact this
    rw[Oa9 _ _ x (by rw[bj];exact bR),Oa4 _ _ _ _ bS]
   case round=>
    obtain⟨c,db,rfl,U,bx,bJ,cx,Y⟩:=hrel;have bI:=zh bx;by_cases bf:c<ns.length
    ·obtain⟨bn,dg,rfl,da,cU⟩:=Kc.at (cB.out.below Y) bf;have cO:c<(Yq ns (cs.getD k [])).length:=by rw[Ze];exact bf
     by_cases bi:ns[c]=-1
     ·have cf:(ns[c] != -1)=false:=(by simp[bi]);have bV:=Kcv (Yq ns (cs.getD k [])) c ns.length (Ze _ _) bf (by simp[Yq,bi]);rw[bV]at U;have bL:=zh U;clear U bx O bD bA bj bV bi;go_wp2;go_roundw
      case rel=>exact⟨c+1,zo,zn,bL.out,bI.out,bJ,cx,Y⟩
      case measure=>simp[intOf];omega
     have cf:(ns[c] != -1)=true:=(by simp[bi]);have de:=(cA.out _ (Ob3 bf)).resolve_left bi;obtain⟨u,cy⟩:∃ u:Nat,ns[c]=(u:Int):=⟨ns[c].toNat,zo⟩;have cR:u<n:=zo;rw[cy]at cU cf;have bQ:u<(cs.getD k []).length:=by rw[bM.out.2];exact cR
     obtain⟨b2,bH,cK,cZ,z1,z2,bT⟩:=(bM.out.1.below Y).at bQ;subst cK;obtain⟨cX,df,bY,cY,_⟩:=bM.out.1.at bQ;simp only[Oc9,Oh2,and_true]at bY;obtain⟨rfl,rfl⟩:=bY;have bP:=bx.cell bh;simp only[if_true]at bP;have cn:(Yq ns (cs.getD k []))[c]=(cs.getD k [])[u]:=by
      simp only[Yq,Od9,cy];rw[if_neg zo,Int.toNat_natCast,Oa0 (l:=cs.getD k []),Oa3 bQ];rfl
     have hlen:((Yq ns (cs.getD k [])).take c++List.replicate (ns.length-c) Jf).length=ns.length:=by
      rw[Oa8,Oc7,Ze,Od6];omega
     obtain⟨old,⟨c0,cG⟩,⟨c1,I⟩,⟨c2,M⟩,bE⟩:=U.put (Yq ns (cs.getD k []))[c] c (by rw[hlen];exact bf);rw[Jk1 (Yq ns (cs.getD k [])) c ns.length (Ze _ _) bf,cn]at bE;have di:wr.cell? (Ar g k)=some (Sr b2 bH n ck):=by rw[Y.cell (p:=Ar g k) ca,<-Z.cell (p:=Ar g k) ca];exact x1
     generalize (cs.getD k [])[u]=v at z1 z2 bT bE;have cD:=zh bE;have bk:=Z.size;clear bE hlen cO bx O bD bA bj cn bi;go_wp2;refine wp_region_held_drew (S:=fun X=>X.cell? (Ar w.heap.size k)=some (Sq y.heap.size ns.length ns.length)/\X.cell? (Ar b2 (bH+u*3))=some (Iq v.k)/\X.cell? (Ar b2 (bH+u*3+1))=some (Iq v.n)/\X.cell? (Ar b2 (bH+u*3+2))=some (.string v.s)) zK ⟨bP,z1,z2,bT⟩ (fun K=>?_);refine tkj 0 rfl K ?_;refine tkj 1 rfl K ?_;refine tkj 2 rfl K ?_;refine tkj 3 rfl K ?_;refine tkj 4 rfl K ?_;refine tkj 5 rfl K ?_;refine tkj 6 rfl K ?_;refine tkj 7 rfl K ?_;refine tkj 8 rfl K ?_;refine tkj 9 rfl K ?_;refine tkn ?_;refine tkr 10 rfl fun cE hK=>?_;go_simp;have bz:∀ (b o:Nat) (u:Value),b≠y.heap.size->wr.cell? (Ar b o)=some u->(((wr.setCell (Ar y.heap.size (c*3)) (Iq v.k)).setCell (Ar y.heap.size (c*3+1)) (Iq v.n)).setCell (Ar y.heap.size (c*3+2)) (.string v.s)).cell? (Ar b o)=some u:=fun b o u hb hv=>by
      exact zah
     refine hK.out _ _ ⟨bz _ _ _ zo bP,bz _ _ _ zo z1,bz _ _ _ zo z2,bz _ _ _ zo bT⟩ (fun cJ=>?_);clear hK cE bz K cJ c0 cG c1 I c2 M;refine wpAnyH_done zK ?_ _;have cP:Hid ((((wr.setCell (Ar y.heap.size (c*3)) (Iq v.k)).setCell (Ar y.heap.size (c*3+1)) (Iq v.n)).setCell (Ar y.heap.size (c*3+2)) (.string v.s)).rowIs w.heap.size 62 cs.length (fun j=>if j=k then Sq y.heap.size ns.length ns.length else if j<k then Sq (bs.getD j 0) ns.length ns.length else Sz)):=
      ((bI.out.setOther (a:=Ar y.heap.size (c*3)) (by show w.heap.size≠y.heap.size;omega) _).setOther (a:=Ar y.heap.size (c*3+1)) (by show w.heap.size≠y.heap.size;omega) _).setOther (a:=Ar y.heap.size (c*3+2)) (by show w.heap.size≠y.heap.size;omega) _
     have cM:Bq w (((wr.setCell (Ar y.heap.size (c*3)) (Iq v.k)).setCell (Ar y.heap.size (c*3+1)) (Iq v.n)).setCell (Ar y.heap.size (c*3+2)) (.string v.s)):=
      ((Y.setCell (p:=Ar y.heap.size (c*3)) bk _).setCell (p:=Ar y.heap.size (c*3+1)) bk _).setCell (p:=Ar y.heap.size (c*3+2)) bk _
     have cC:Hid (∀ x,x<y.heap.size->x≠w.heap.size->(((wr.setCell (Ar y.heap.size (c*3)) (Iq v.k)).setCell (Ar y.heap.size (c*3+1)) (Iq v.n)).setCell (Ar y.heap.size (c*3+2)) (.string v.s)).heap[x]?=y.heap[x]?):=fun x bR bS=>by
      rw[Oa4 _ _ _ _ (by show x≠y.heap.size;omega),Oa4 _ _ _ _ (by show x≠y.heap.size;omega),Oa4 _ _ _ _ (by show x≠y.heap.size;omega)];exact bJ.out x bR bS
     have cQ:y.heap.size<(((wr.setCell (Ar y.heap.size (c*3)) (Iq v.k)).setCell (Ar y.heap.size (c*3+1)) (Iq v.n)).setCell (Ar y.heap.size (c*3+2)) (.string v.s)).heap.size:=by simp[World.setCell];exact cx
     generalize ((wr.setCell (Ar y.heap.size (c*3)) (Iq v.k)).setCell (Ar y.heap.size (c*3+1)) (Iq v.n)).setCell (Ar y.heap.size (c*3+2)) (.string v.s)=dh at *;go_wp2;go_roundw
     case rel=>exact⟨c+1,zo,zn,cD.out,cP.out,cC.out,cQ,cM.drew⟩
     case measure=>simp[intOf];omega
    obtain rfl:c=ns.length:=zo;rw[Oe1,List.replicate_zero,Od7,Oc8 (by rw[Ze];exact Oa2 _)]at U;have bL:=zh U;have bk:=Z.size;clear U bx O bD bA bj;go_wp2;go_roundw
    case rel=>
     refine⟨k+1,bs++[y.heap.size],zo,zn,by show _=_;rw[Oa8,br.out];rfl,bI.out.congr fun j H=>?_,fun j b hb=>?_,Y⟩
     ·have bC:=br.out;by_cases e:j=k
      ·subst e;simp[bC]
      by_cases bW:j<k
      ·have bO:j<k+1:=zo;simp[e,bW,bO,List.getElem?_append_left (show j<bs.length by omega)]
      have bO:¬ j<k+1:=zo;simp[e,bW,bO]
     by_cases e:j<bs.length
     ·rw[Ob0 e]at hb;obtain⟨cz,cT⟩:=bK.out j b hb;exact⟨cz.of_block (bJ.out b cz.lt zo),cT⟩
     have bC:=br.out;have H:j=k:=by
      have:=(Ob9.1 hb).1;simp at this;omega
     subst H;rw[<-bC,Ob6 (Oa2 _),Oe1]at hb;simp at hb;subst hb;exact⟨bL.out,zo⟩
    case measure=>simp[intOf];omega
  obtain rfl:k=cs.length:=zo;go_wp2;go_ret
  refine⟨Z,rfl,(List.range cs.length).map fun j=>((some (Aq (bs.getD j 0)):Option Addr),ns.length),⟨?_,fun j H=>?_,fun j H=>?_⟩,fun j H b o e=>?_⟩
  ·rw[Oa6];refine(Kud O).congr fun j H=>?_;rw[if_pos H];have I:Yo ((List.range cs.length).map fun j=>((some (Aq (bs.getD j 0)):Option Addr),ns.length)) j=(some (Aq (bs.getD j 0)),ns.length):=by simp[Yo,H]
   have M:((cs.map (Yq ns)).getD j []).length=ns.length:=by
    rw[Oa0,Ob1,Oa3 H];exact Ze _ _
   rw[I,M]
  ·rw[Oa6]at H;have I:Yo ((List.range cs.length).map fun j=>((some (Aq (bs.getD j 0)):Option Addr),ns.length)) j=(some (Aq (bs.getD j 0)),ns.length):=by simp[Yo,H]
   have M:(cs.map (Yq ns)).getD j []=Yq ns (cs.getD j []):=by
    rw[Oa0,Ob1,Oa3 H,Oa0,Oa3 H];rfl
   rw[I,M];have bB:j<bs.length:=by rw[br.out];exact H
   have:=(bK.out j bs[j] (Oa3 bB)).1.vals;have cH:bs.getD j 0=bs[j]:=by rw[Oa0,Oa3 bB];rfl
   rw[cH];exact this
  ·rw[Oa6]at H;have I:Yo ((List.range cs.length).map fun j=>((some (Aq (bs.getD j 0)):Option Addr),ns.length)) j=(some (Aq (bs.getD j 0)),ns.length):=by simp[Yo,H]
   have M:((cs.map (Yq ns)).getD j []).length=ns.length:=by
    rw[Oa0,Ob1,Oa3 H];exact Ze _ _
   rw[I,M];exact Oa2 _
  have bC:=br.out;have bB:j<bs.length:=zo;have cI:(Yo ((List.range cs.length).map fun j=>((some (Aq (bs.getD j 0)):Option Addr),ns.length)) j).1=some (Aq (bs.getD j 0)):=by
   unfold Yo;rw[Oa0,Ob1,Oh6 H];rfl
  rw[cI]at e;cases e
  have:=bK.out j (bs.getD j 0) (by rw[Oa0,Oa3 bB];rfl);exact⟨Nat.le_of_lt this.2,this.1.lt⟩
end
section
open Go.RowKit
attribute [local go_sem] Oc0
end
section
open Go.RowKit Go.Shelf Tryz
def KpB (Fx:Nat->Prop)(W y:World):Prop:=W.heap.size<=y.heap.size/\∀ k,Fx k->y.heap[k]?=W.heap[k]?
theorem KpB.trans {Fx A B C}(h:KpB Fx A B)(k:KpB Fx B C):KpB Fx A C:=⟨Ob2 h.1 k.1,fun i hi=>(k.2 i hi).trans (h.2 i hi)⟩
theorem KpB.of_below {Fx A B}(h:Bq A B)(hF:∀ k,Fx k->k<A.heap.size):KpB Fx A B:=⟨h.size,fun k y=>h.block k (hF k y)⟩
def Jbo (g:Nat)(hs:List (Option Addr×Nat))(k:Nat)(F:Nat->Prop):Prop:=F g/\∀ j,j<k->∀ b o,(Yo hs j).1=some (Ar b o)->F b
theorem Qd.kp {Fx W H g hs cs}(h:Qd W g hs cs)(y:KpB Fx W H)(hF:Jbo g hs cs.length Fx):Qd H g hs cs:=
 ⟨h.row.of_block (y.2 g hF.1),fun j I=>(h.vals j I).of_block y.1 fun b o e _=>y.2 b (hF.2 j I b o e),h.cap⟩
abbrev Bat:=Nat×Nat×Nat
def Kgp (B:Nat)(hs:List (Option Addr×Nat))(cols:List (List V))(N z:Nat)(x:Bat)(W:World):Prop:=x.1+x.2.1<=N/\(1<=x.2.1/\x.2.1<=z)/\B<=x.2.2/\Qd W x.2.2 (Jnt hs cols.length x.1 (x.1+x.2.1)) (cols.map (Jbx x.1 (x.1+x.2.1)))
theorem Jjx (n:Nat)(cx:1<=n)(I H g cap:Nat)hs cols(N z:Nat)(bL:1<=z)(cB:z<=100000)(cj:N<=100000)(bj:1<=cols.length)(cb:cols.length<=1000)w(hC:Qd w g hs cols)(bH:∀ j,j<cols.length->(cols.getD j []).length=N)(bA:w.cell? (Aq I)=some (Sq g cols.length cap))(bz:w.cell? (Aq H)=some (Iq (z:Int)))Fx(hF:Fx I/\Fx H/\Jbo g hs cols.length Fx)(bB:∀ k,Fx k->k<w.heap.size):
  Kh4 Fence.wide n prog 155 #[Pq I,Pq H] (fun x:Bat=>#[Iq (x.1:Int),Sq x.2.2 cols.length cols.length]) (Kgp w.heap.size hs cols N z) (KpB Fx) (fun y=>y.map (fun x=>(x.1,x.2.1))=cks N z (ckN N z)) (fun cc=>∃ k,k<=ckN N z/\cc.map (fun x=>(x.1,x.2.1))=cks N z k) (ckN N z) w:=by
 intro l J cf W hW bC bT bE h0;have bD:∀ s A U,Bq A U->J s A->J s U:=fun s A U hb h=>bC s A U none h ⟨hb.os,hb.tape,hb.output,hb.size,fun k K _=>hb.block k K⟩ (fun r e=>by cases e);have bM:=zh bD;have bP:=zh bE;have Y:Hid (Qd W g hs cols/\(∀ j,j<cols.length->(cols.getD j []).length=N)):=⟨hC.below hW,bH⟩;have M:Hid ((Fx I/\Fx H/\Jbo g hs cols.length Fx)/\∀ k,Fx k->k<W.heap.size):=⟨hF,fun k K=>Oc2 (bB k K) hW.size⟩;have bR:=Ja hW bA;have bx:=Ja hW bz;have cn:=hW.size;clear bD bE hC bH hF bB bA bz bC bT;have bh:=Y.out.1.row.cell bj;rw[Y.out.2 0 bj]at bh;have hlen:=Jlg g cols.length cap (Yo hs 0).1 N (Yo hs 0).2 W bj bh;clear bh;refine callsIn_of_wp func155 rfl trivial ?_ rfl;simp only[ntmps155,Om3,List.length_cons,List.length_nil,Nat.reduceAdd,Nat.reduceSub,Ok9,Array.replicate_zero,Om4,Ol2,List.nil_append,List.cons_append];gi_wp2_with (refine⟨trivial,?_⟩;gi_at_call 71;refine(callsIn_wide.2 hlen).mono ?_;rintro e w' ⟨rfl,ca⟩;rw[ca])
 gi_loopw [5] (fun i wr=>∃ (k:Nat) (y:List Bat),k<=ckN N z/\i=Iq ((k*z:Nat):Int)/\Hid (y.map (fun x=>(x.1,x.2.1))=cks N z k)/\J y wr/\KpB Fx W wr) (fun i _=>N+100000-(intOf i).toNat)
 case atStart=>exact⟨0,[],Ob7 _,zS,rfl,h0,Oa2 _,fun _ _=>rfl⟩
 case round=>
  obtain⟨k,y,K,rfl,Z,bi,O⟩:=hrel;have c1:wr.cell? (Aq I)=some (Sq g cols.length cap):=by rw[Oc3 (w:=W) (O.2 I M.out.1.1)];exact bR
  have c2:wr.cell? (Aq H)=some (Iq (z:Int)):=by rw[Oc3 (w:=W) (O.2 H M.out.1.2.1)];exact bx
  by_cases bK:k*z<N
  ·have bI:=Khi bL bK;have bf:Hid (cks N z (k+1)=cks N z k++[(k*z,min z (N-k*z))]):=Jbj N z k;have bO:Hid ((k+1)*z=k*z+z):=Of5 k z;have cA:y.length=k:=by have:=congrArg List.length Z.out;rw[Oa6,Jbp]at this;exact this
   generalize k*z=i at *;obtain⟨m,bX,bk⟩:∃ m:Nat,(i+m<=N/\1<=m/\m<=z)/\Hid (m=min z (N-i)):=⟨min z (N-i),zo,rfl⟩;rw[<-bk.out]at bf;obtain⟨cu,bY,bZ⟩:=bX;have cv:min ((i:Int)+(z:Int)) (N:Int)=(i:Int)+(m:Int):=by have:=bk.out;omega
   have cy:IntKind.i64.wrap ((i:Int)+(z:Int))=(i:Int)+(z:Int):=by rw[Od4];omega
   have hcut:=Kdx g cap hs cols N i (i+m) wr (Y.out.1.kp O M.out.1.2.2) Y.out.2 zo zo cb;rw[Int.natCast_add]at hcut;have cz:W.heap.size<=wr.heap.size:=O.1;have ci:=bi;gi_wp2_with (refine⟨trivial,?_⟩;gi_at_call 130;refine(callsIn_wide.2 hcut).mono ?_;rintro e bQ ⟨bG,rfl,bV⟩;obtain⟨fn,tmps,assign,body,hy,hR⟩:=bP.out y (i,m,wr.heap.size) bQ (bM.out _ _ _ bG bi) ⟨by show i+m<=N;omega,⟨bY,bZ⟩,by show w.heap.size<=wr.heap.size;omega,bV⟩ zo;dsimp only at hy)
   refine hR.mono ?_;rintro e br (⟨rfl,bS,bW⟩|⟨rfl,bU⟩)
   ·have bJ:KpB Fx W br:=(O.trans (KpB.of_below bG (fun k K=>by have:=M.out.2 k K;omega))).trans bW;have c3:br.cell? (Aq H)=some (Iq (z:Int)):=by rw[Oc3 (w:=W) (bJ.2 H M.out.1.2.1)];exact bx
    gi_wp2
    go_roundw
    case rel=>exact⟨k+1,y++[(i,m,wr.heap.size)],bI,by rw[bO.out];go_num,by show _=_;rw[Ob8,Z.out,bf.out];rfl,bS,bJ⟩
    case measure=>simp[intOf];omega
   gi_wp2
   refine bodyPost_ret (results_none rfl _ _ _) rfl ?_;exact⟨⟨_,rfl⟩,.inr ⟨_,⟨k+1,bI,by rw[Ob8,Z.out,bf.out];rfl⟩,bU⟩⟩
  have bN:Hid (k=ckN N z):=by
   rcases Oc1 k (ckN N z)with h'|h'
   ·exact absurd (Jqs bL h') bK
   ·show k=_;omega
  gi_wp2
  go_end0
  exact⟨⟨_,rfl⟩,.inl ⟨y,by rw[Z.out,bN.out],bi⟩⟩
attribute [local go_sem] Oc0
theorem Jfy w a n cap c(h:n<=cap)ty:(Builtin.append_ #[62,62] ty #[.slice a n cap,.slice none 0 c]).run prog w=.ok (.slice a n cap) w:=by
 have y:(sizeOf 65).run prog w=.ok 3 w:=zK;cases a with
 |none=>simp[Builtin.append_,run_underlying underlying62,y,Builtin.lenOf,Builtin.firstCells,h,Result.andThen]
 |some H=>simp[Builtin.append_,run_underlying underlying62,y,Builtin.lenOf,Builtin.firstCells,storeCells,h,Result.andThen]
theorem Jju {w Y rest o a Q}(O:o.guard=none)s x(ho:o.op=.call {callee:=.builtin .append,args:=#[s,x],argTypes:=#[62,62]})B sv y(hs:a.eval s=sv)(H:Yt w B sv y)M c vs(K:a.eval x=.slice M vs.length c)(hv:Jv w M vs)(hlen:y.length+vs.length<=1000000)(bj:B<=w.heap.size)(h:∀ sv' w',Yt w' B sv' (y++vs)->w.grownBy w' sv.ownBlock->(sv'.ownBlock=sv.ownBlock\/sv'.ownBlock=some w.heap.size)->wpList prog Y Q rest (a.put o.dst sv') w'):
  wpList prog Y Q (o::rest) a w:=by
 cases M with
 |none=>
  have bz:vs=[]:=by
   rcases hv with hv|⟨b,bB,hb,_⟩
   ·exact hv
   simp at hb
  subst bz;refine wpList_plain O fun bD hK=>?_;have hr:(Builtin.append_ #[62,62] o.type #[sv,.slice none 0 c]).run prog w=.ok sv w:=by
   rcases H.2 with⟨I,_⟩|⟨g,cap,bE,I,_,_,br,_⟩
   ·rw[I];exact Jfy w none 0 0 c (Oa2 _) _
   rw[I];exact Jfy w _ _ cap c br _
  unfold Oper.wp execOp;simp only[List.length_nil]at K;simp only[ho,resolve,invoke,builtin,Og8,Sem.run_pure,Result.andThen_ok,List.map_toArray,Oe4,Oi4,hs,K,hr];exact hK _ _ (h sv w (by rw[Od7];exact H) (World.grownBy.refl _ _) (.inl rfl))
 |some Z=>
  obtain⟨i,hi,bA,bx,bk⟩:=info_parts Jow;refine wpList_append_own_at w O s x 62 ho B 65 i _ 3 32 zK hi bA bx bk rfl zd sv y.length (y.flatMap V.cells) hs H Z vs.length c (vs.flatMap V.cells) K (Ja5 vs) ?_ ?_ ?_ ?_ bj ?_
  ·intro j u U;rcases hv with hv|⟨b,bB,hb,_,hv⟩
   ·subst hv;simp at U
   simp only[Oc9]at hb;subst hb;have:=Kem hv j u U;exact this
  ·exact Kap vs
  ·unfold maxLen;omega
  ·omega
  intro bC w' bf bh _ bi;refine h bC w' ?_ bh bi;unfold Yt;simpa using bf
def Jdi (cs y:List (List V))(k:Nat):List (List V):=(List.range cs.length).map fun j=>if j<k then cs.getD j []++y.getD j []else cs.getD j []
theorem Jf9 cs y k:(Jdi cs y k).length=cs.length:=by simp[Jdi]
theorem Jlm cs y k j(H:j<cs.length):(Jdi cs y k).getD j []=if j<k then cs.getD j []++y.getD j []else cs.getD j []:=by
 rw[Oa0];simp only[Jdi,Ob1,Oh6 H,Option.map_some,Option.getD_some]
theorem Kat cs y:Jdi cs y 0=cs:=by
 apply Oh4
 ·simp[Jdi]
 intro j I H;simp[Jdi,H]
theorem Jy5 cs y k(K:k<cs.length):(Jdi cs y k).set k ((Jdi cs y k).getD k []++y.getD k [])=Jdi cs y (k+1):=by
 apply Oh4
 ·simp[Jdi]
 intro j M I;have O:j<cs.length:=by simpa [Jdi] using I
 rw[List.getElem_set];by_cases e:k=j
 ·subst e;rw[if_pos rfl,Jlm cs y k k K,if_neg (Oe3 _)];simp[Jdi]
 rw[if_neg e];simp only[Jdi,Od9,Oo7];by_cases H:j<k
 ·rw[if_pos H,if_pos zo]
 rw[if_neg H,if_neg zo]
structure Kgu (w:World) (g:Nat) (hs:List (Option Addr×Nat)) (cs:List (List V)):Prop where
 lt:g<w.heap.size
 cell:∀ j,j<cs.length->w.cell? (Ar g j)=some (.slice (Yo hs j).1 (cs.getD j []).length (Yo hs j).2)
 vals:∀ j,j<cs.length->Jv w (Yo hs j).1 (cs.getD j [])
theorem Qd.loose {w g hs cs}(h:Qd w g hs cs):Kgu w g hs cs:=⟨h.row.lt,fun _ y=>h.row.cell y,h.vals⟩
theorem Kb4 B g cap K cs g2 cy hs y w(cA:Jar w B g K cs)(bL:Kgu w g2 hs y)(hl:y.length=cs.length)(bO:∀ j,j<cs.length->(cs.getD j []).length+(y.getD j []).length<=1000000)(cz:B<=w.heap.size)(cK:cs.length<=1000)(bM:∀ j b,j<cs.length->(Uq K j).ownBlock=some b->b≠g2/\∀ k Y bG,k<y.length->(Yo hs k).1=some ⟨Y,bG,none⟩->b≠Y)(bR:g≠g2/\∀ k Y bG,k<y.length->(Yo hs k).1=some ⟨Y,bG,none⟩->g≠Y):
  Cq 126 #[Sq g cs.length cap,Sq g2 y.length cy] w fun e w'=>e=.returned (.tuple #[])/\(∃ cf,Jar w' B g cf (Jdi cs y cs.length)/\∀ j b,j<cs.length->(Uq cf j).ownBlock=some b->(Uq K j).ownBlock=some b\/w.heap.size<=b)/\Below B w w'/\w.heap.size<=w'.heap.size/\∀ x,x<w.heap.size->x≠g->(∀ j,j<cs.length->(Uq K j).ownBlock≠some x)->w'.heap[x]?=w.heap[x]?:=by
 have bB:=zh bL;have bI:=zh bM;have bJ:=zh bR;have cj:=zh bO;clear bL bM bR bO;rw[hl];go_enter func126,ntmps126
 go_wp2;go_loopw [8] (fun i wr=>∃ (k:Nat) (M:List Value),k<=cs.length/\i=Iq (k:Int)/\Jar wr B g M (Jdi cs y k)/\Hid ((∀ j,k<=j->Uq M j=Uq K j)/\∀ j b,j<cs.length->(Uq M j).ownBlock=some b->(Uq K j).ownBlock=some b\/w.heap.size<=b)/\Below B w wr/\Hid (w.heap.size<=wr.heap.size/\∀ x,x<w.heap.size->x≠g->(∀ j,j<cs.length->(Uq K j).ownBlock≠some x)->wr.heap[x]?=w.heap[x]?)) (fun i _=>cs.length-(intOf i).toNat)
 case atStart=>exact⟨0,K,Ob7 _,rfl,by rw[Kat];exact cA,⟨fun j _=>rfl,fun j b _ e=>.inl e⟩,Oa5 _ _,⟨Oa2 _,fun x _ _ _=>rfl⟩⟩
 case round=>
  obtain⟨k,M,cJ,rfl,I,bk,bQ,H⟩:=hrel;by_cases bh:k<cs.length
  ·have bf:k<(Jdi cs y k).length:=by rw[Jf9];exact bh
   have bx:k<y.length:=zo;have cD:=bB.out.lt;have bN:wr.heap[g2]?=w.heap[g2]?:=H.out.2 g2 cD (Oc5 bJ.out.1) (fun j O e=>(bI.out j g2 O e).1 rfl);have x1:=(Oc3 (a:=⟨g2,k,none⟩) bN).trans (bB.out.cell k bx);obtain⟨bD,ck,Z⟩:∃ bD ck,Yo hs k=(bD,ck):=⟨_,_,rfl⟩;have bY:Jv wr bD (y.getD k []):=by
    have:=bB.out.vals k bx;rw[Z]at this;refine this.of_block H.out.1 fun b o hb cB=>H.out.2 b cB ?_ ?_
    ·exact fun e=>bJ.out.2 k b o bx (by rw[Z];exact hb) e.symm
    exact fun j O e=>(bI.out j b O e).2 k b o bx (by rw[Z];exact hb) rfl
   rw[Z]at x1;simp only at x1;obtain⟨vs,bA⟩:∃ vs,y.getD k []=vs:=⟨_,rfl⟩;rw[bA]at x1 bY;have cv:=zh bA;obtain⟨sv,bi⟩:∃ sv,Uq M k=sv:=⟨_,rfl⟩;have bC:=zh bi;obtain⟨U,bz⟩:∃ U,(Jdi cs y k).getD k []=U:=⟨_,rfl⟩;have cu:=zh bz;have cn:Hid (U.length+vs.length<=1000000):=by
    show _<=_;rw[<-bz,<-bA,Jlm cs y k k bh,if_neg (Oe3 _)];exact cj.out k bh
   have ci:=I.row.cell (i:=k) (by rw[I.len];exact bf);rw[bi]at ci;have cG:=I.row.frozen k;have bE:=I.own k bf;rw[bi,bz]at bE;have cx:Hid (∀ br,wr.grownBy br sv.ownBlock->br.cell? ⟨g,k,none⟩=some sv/\br.frozen? ⟨g,k,none⟩=false):=fun br cC=>by
    have bT:=I.ne k bf;rw[bi]at bT;have hb:=cC.block g I.row.lt (fun e=>bT e.symm);exact⟨by rw[Oc3 hb];exact ci,by rw[Ol7 hb];exact cG⟩
   have bP:B<=wr.heap.size:=Ob2 cz H.out.1;clear Z bA bi bz bN;go_wp2_with (first|(at_builtin;refine Jju zR _ _ zR B _ U zR bE _ _ vs zR bY cn.out bP ?_;intro sv' bH cb bj cc;obtain⟨cL,cM⟩:=cx.out bH bj;obtain⟨bK,c5,bX,_⟩:=cb.vals;rw[Oa8]at bX;subst bX))
   go_roundw
   case rel=>
    have bV:(Uq K k).ownBlock=sv.ownBlock:=by rw[<-bk.out.1 k (Oa2 _),bC.out]
    have bU:=I.put (vs:=vs) (sv':=.slice bK (U.length+vs.length) c5) bf (by rw[cu.out];exact cb) (by rw[bC.out];exact bj) (by rw[bC.out];exact cc);have bW:=Jy5 cs y k bh;rw[cv.out]at bW;rw[bW]at bU;have bS:k<M.length:=by rw[I.len];exact bf
    refine⟨k+1,_,zo,zn,bU,⟨fun j O=>?_,fun j b O e=>?_⟩,(bQ.grown bj bP (fun b hb=>(Je bE hb).1)).setCell (p:=⟨g,k,none⟩) I.low _,⟨?_,fun x cF bZ ca=>?_⟩⟩
    ·rw[Jem bS,if_neg zo];exact bk.out.1 j zo
    ·rw[Jem bS]at e;split at e
     ·rename_i cE
      subst cE;rcases cc with q|q
      ·rw[q]at e;exact .inl (bV.trans e)
      rw[q]at e;simp only[Oc9]at e;exact .inr (by have:=H.out.1;omega)
     exact bk.out.2 j b O e
    ·have cH:=H.out.1;have cI:=bj.size;have:(bH.setCell ⟨g,k,none⟩ (.slice bK (U.length+vs.length) c5)).heap.size=bH.heap.size:=by simp[World.setCell]
     omega
    rw[Oa4 _ _ _ _ bZ,bj.block x (by have:=H.out.1;omega) (fun e=>ca k bh (by rw[bV];exact e.symm))];exact H.out.2 x cF bZ ca
   case measure=>simp[intOf];omega
  obtain rfl:k=cs.length:=zo;go_wp2;go_end0
  exact⟨rfl,⟨M,I,bk.out.2⟩,bQ,H.out.1,H.out.2⟩
end
open Go.RowKit Tryz
theorem zaK {p:Prop}(h:p:=by
 go_wp2;go_ret
 refine⟨Qr ?_,Oa5 _ _⟩;cases b
 ·rfl
 exact absurd (congrArg List.length (K.out.1 rfl)) hl):p:=h
theorem Jqj a a2 cap Y xs y w(bi:xs.length<=maxLen)(bj:Jv w a xs)(hy:Jv w a2 y)b(hb:b=true↔xs=y):
  Cq 31 #[.slice a xs.length cap,.slice a2 y.length Y] w fun e w'=>e=.returned (.bool b)/\Bq w w':=by
 unfold maxLen at bi;have K:=zh hb;clear hb;by_cases hl:xs.length=y.length
 ·have O:=zh hl;have Z:((xs.length:Int) != (y.length:Int))=false:=by simp[hl]
  clear hl;go_enter func31,ntmps31
  go_wp2;go_loopw [5] (fun i wr=>∃ k:Nat,k<=xs.length/\i=Iq k/\(∃ m,wr=w.drewN m)/\Hid (∀ j (H:j<xs.length),j<k->xs[j]=y[j]'(O.out▸H))) (fun i _=>xs.length-(intOf i).toNat)
  case atStart=>exact⟨0,Ob7 _,rfl,⟨0,rfl⟩,fun j _ H=>absurd H (Oe0 _)⟩
  case round=>
   obtain⟨k,br,rfl,⟨m,rfl⟩,U⟩:=hrel;by_cases bf:k<xs.length
   ·have bh:k<y.length:=by have:=O.out;omega
    obtain⟨b1,bx,rfl,_,x1,x2,bA⟩:=bj.at bf;obtain⟨b2,bz,rfl,_,bB,bC,bD⟩:=hy.at bh;by_cases I:xs[k]=y[k]
    ·have hq:=Jql _ _ I;have M:=zh I;clear I;go_wp2;go_quiet (fail)
     go_wp2;go_roundw
     case rel=>
      refine⟨k+1,zo,zn,⟨_,rfl⟩,fun j H bk=>?_⟩;by_cases e:j=k
      ·subst e;exact M.out
      exact U.out j H zo
     case measure=>simp[intOf];omega
    have hq:=Jqe _ _ I;have M:=zh I;clear I;go_wp2;go_quiet (fail)
    go_wp2;go_ret
    refine⟨Qr ?_,Jp (Jp (Oa5 _ _) _) _⟩;cases b
    ·rfl
    exact absurd (by rw[List.getElem_of_eq (K.out.1 rfl)]) M.out
   go_wp2;go_ret
   exact⟨Qr (K.out.2 (Ka6 xs y O.out fun j H=>U.out j H zo)).symm,Jp (Oa5 _ _) _⟩
 have Z:((xs.length:Int) != (y.length:Int))=true:=by simp;omega
 go_enter func31,ntmps31
 exact zaK
theorem Kc2 (rs y:List (List V))(hl:rs.length=y.length)(h:∀ j (I:j<rs.length),rs[j]=y[j]'(hl▸I)):rs=y:=Oh4 hl fun i H _=>h i H
theorem Jn2 a a2 cap bj hs bz rs y w(bx:rs.length<=maxLen)(bf:∀ r∈rs,r.length<=maxLen)(bA:Zd w a hs rs)(hy:Zd w a2 bz y)b(hb:b=true↔rs=y):
  Cq 19 #[.slice a rs.length cap,.slice a2 y.length bj] w fun e w'=>e=.returned (.bool b)/\Bq w w':=by
 unfold maxLen at bx;have K:=zh hb;have bi:=zh bf;clear hb bf;by_cases hl:rs.length=y.length
 ·have M:=zh hl;have bk:((rs.length:Int) != (y.length:Int))=false:=by simp[hl]
  clear hl;go_enter func19,ntmps19
  go_wp2;go_loopw [5] (fun i wr=>∃ k:Nat,k<=rs.length/\i=Iq k/\Bq w wr/\Hid (∀ j (H:j<rs.length),j<k->rs[j]=y[j]'(M.out▸H))) (fun i _=>rs.length-(intOf i).toNat)
  case atStart=>exact⟨0,Ob7 _,rfl,Oa5 _ _,fun j _ H=>absurd H (Oe0 _)⟩
  case round=>
   obtain⟨k,bL,rfl,I,Y⟩:=hrel;by_cases Z:k<rs.length
   ·have br:k<y.length:=by have:=M.out;omega
    obtain⟨b1,bM,bB,bD,rfl,bI,x1,bG⟩:=(bA.below I).at Z;obtain⟨b2,bN,bC,bE,rfl,bJ,bO,bH⟩:=(hy.below I).at br;obtain⟨bb,O⟩:∃ bb:Bool,bb=true↔rs[k]=y[k]:=⟨(open Classical in decide (rs[k]=y[k])),by open Classical in exact decide_eq_true_iff⟩;have bh:=Jqj bB bC bD bE rs[k] y[k] wr.drew (bi.out _ (Ob3 Z)) (bG.of_block (Oa2 _) fun _ _ _ _=>rfl) (bH.of_block (Oa2 _) fun _ _ _ _=>rfl) bb O;have U:=zh O;clear O;cases bb with
    |true=>
     go_wp2_with fail
     go_region_with (first|(go_at_call 31;refine bh.mono ?_;rintro e w' ⟨rfl,hb⟩))
     all_goals
      go_wp2;go_roundw
      case rel=>
       refine⟨k+1,zo,zn,Jb I (Jw hb),fun j H bK=>?_⟩;by_cases e:j=k
       ·subst e;exact U.out.1 zS
       exact Y.out j H zo
      case measure=>simp[intOf];omega
    |false=>
     go_wp2_with fail
     go_region_with (first|(go_at_call 31;refine bh.mono ?_;rintro e w' ⟨rfl,hb⟩))
     all_goals
      go_wp2;go_ret
      refine⟨Qr ?_,Jb I (Jw hb)⟩;cases b
      ·rfl
      exact absurd (U.out.2 (by rw[List.getElem_of_eq (K.out.1 rfl)])) zS
   go_wp2;go_ret
   exact⟨Qr (K.out.2 (Kc2 rs y M.out fun j H=>Y.out j H zo)).symm,I⟩
 have bk:((rs.length:Int) != (y.length:Int))=true:=by simp;omega
 go_enter func19,ntmps19
 exact zaK
theorem Jpb n:Jg (wrap64 n):=by
 unfold Jg wrap64;omega
def tOk (t:Int):Prop:=t=1\/t=2\/t=3
theorem Jvl a cap ns w(bD:ns.length<=maxLen)(bI:Kc w a ns):
  Cq 22 #[.slice a ns.length cap,Iq 6] w fun e w'=>∃ (ts:List Int) (sv:Value),e=.returned sv/\Jo w' w.heap.size 3 sv (ts.map iv)/\(1<=ts.length/\ts.length<=6)/\(∀ t∈ts,tOk t)/\Bq w w':=by
 unfold maxLen at bD;go_enter func22,ntmps22
 go_wp2;go_loopw [5,6] (fun sv i wr=>∃ (k:Nat) (ts:List Int),k<=ns.length/\k<=6/\i=Iq k/\Hid (ts.length=k)/\Hid (∀ t∈ts,tOk t)/\Jo wr w.heap.size 3 sv (ts.map iv)/\Bq w wr) (fun _ i _=>6-(intOf i).toNat)
 case atStart=>exact⟨0,[],Ob7 _,Ob7 _,rfl,rfl,by intro t ht;simp at ht,Jo.nil _ _ _,Oa5 _ _⟩
 case round=>
  rename_i sv i
  obtain⟨k,ts,bN,bO,rfl,U,O,y,H⟩:=hrel;obtain⟨a1,c1,K,_⟩:=y.cells;rw[Oa6]at K;have bM:=H.size;have bP:ts.length<=6:=by have:=U.out;omega
  by_cases bf:k<ns.length/\k<6
  ·obtain⟨bi,bK⟩:=bf;obtain⟨b1,bR,rfl,bL,x1⟩:=Kc.at (bI.below H) bi;have br:=fun W=>Jfw (wrap64 (ns[k]-1)) 3 W (Jpb _) zd zd;have bx:=zh br;clear br;subst K;go_wp2_with (first|(go_at_call 14;go_must (refine(bx.out _).mono ?_);rintro e w1 ⟨⟨r,rfl,hr⟩,bQ⟩;subst w1)|(at_builtin;go_must (refine Ks zR _ _ 22 3 _ 8 Zw zR zd zK zR w.heap.size _ _ zR (Jo.alloc y _) ⟨wr.heap.size,0,none⟩ 1 [iv (1+(r:Int))] zR (by exact Ua wr _ _) (by intro u M;simp at M;subst M;rfl) (by simp only[List.length_cons,List.length_nil,Oa6];omega) zt ?_);intro sv' bJ I Y bA;obtain⟨a2,bz,bh,_⟩:=I.cells;subst bh))
   go_roundw
   case rel=>
    refine⟨k+1,ts++[1+(r:Int)],zo,zo,zn,by show _=_;rw[Oa8,U.out];rfl,?_,by simpa using I,Jy (Jc H _) Y (fun g Z=>(Je y Z).1)⟩;intro t ht;rcases Od2.1 ht with h|h
    ·exact O.out t h
    simp at h;subst h;unfold tOk;omega
   case measure=>simp[intOf];omega
  by_cases h0:ts.length=0
  ·have bH:ts=[]:=Od3.1 h0;subst bH;have bG:=K;subst bG;have bC:k=0:=by have:=U.out;simp at this;omega
   subst bC;by_cases bj:0<ns.length
   ·exact absurd ⟨bj,zo⟩ bf
   have bk:ns.length=0:=zo;have bE:=Od3.1 bk;subst bE;clear bf bj bk h0;simp at y;go_wp2_with (first|(at_builtin;go_must (refine Ks zR _ _ 22 3 _ 8 Zw zR zd zK zR w.heap.size _ [] zR (Jo.alloc (by exact y) _) ⟨wr.heap.size,0,none⟩ 1 [iv 1] zR (by exact Ua wr _ _) (by intro u M;simp at M;subst M;rfl) zS zt ?_);intro sv' bJ I Y bA;obtain⟨a2,bz,bh,_⟩:=I.cells;subst bh))
   go_ret
   exact⟨[1],_,rfl,by simpa using I,zS,by intro t ht;simp at ht;subst ht;exact .inl rfl,Jy (Jc H _) Y (fun g Z=>(Je y Z).1)⟩
  have hq:(((ts.length:Nat):Int)==0)=false:=by rw[beq_eq_false_iff_ne];omega
  by_cases bi:k<ns.length
  ·have bB:k=6:=zo;subst bB;subst K;go_wp2;go_ret
   exact⟨ts,_,rfl,y,zo,O.out,H⟩
  subst K;go_wp2;go_ret
  exact⟨ts,_,rfl,y,zo,O.out,H⟩
theorem Jpy t h(ht:tOk t)(h0:0<=h)(y:h<=3)(H:¬ (t=3/\h=3)):way t h=true:=by
 unfold way tOk at *;rw[decide_eq_true_eq];omega
structure Jfz (ts ns L:List Int) (k:Nat):Prop where
 len:L.length=k
 ok:∀ j (hj:j<L.length),way (ts.getD j 0) L[j]=true
 plain:∀ j (hj:j<L.length),ns.length<=j->L[j]=0
theorem Jfz.more {ts ns L k}(h:Jfz ts ns L k)v(hv:way (ts.getD k 0) v=true)(hp:ns.length<=k->v=0):Jfz ts ns (L++[v]) (k+1):=by
 have hl:=h.len;refine⟨by simp[hl],fun j y=>?_,fun j y H=>?_⟩
 ·by_cases e:j<L.length
  ·rw[Oi2 e];exact h.ok j e
  have:j=L.length:=by simp at y;omega
  subst this;rw[Ok8 (Oa2 _)];simpa [hl] using hv
 by_cases e:j<L.length
 ·rw[Oi2 e];exact h.plain j e H
 have:j=L.length:=by simp at y;omega
 subst this;rw[Ok8 (Oa2 _)];simpa using hp zo
theorem Jzt bz bA at_ a ct cap ts ns w(bS:ts.length<=6)(bE:∀ t∈ts,tOk t)(bD:∀ n∈ns,Jg n)(ht:Kc w at_ ts)(bM:Kc w a ns):
  Cq 9 #[.agg #[bz,.slice at_ ts.length ct,bA],.slice a ns.length cap] w fun e w'=>∃ (hs:List Int) (sv:Value),e=.returned sv/\Jo w' w.heap.size 3 sv (hs.map iv)/\Jfz ts ns hs ts.length/\Bq w w':=by
 have bH:=zh bE;have bG:=zh bD;clear bE bD;have bJ:Bq w (w.alloc (.cells #[bz,.slice at_ ts.length ct,bA] 25)):=(Oa5 _ _).alloc (Oa2 _) _;go_enter func9,ntmps9
 go_wp2;go_loopw [5,6] (fun sv i wr=>∃ (c:Nat) (L:List Int),c<=ts.length/\i=Iq c/\Hid (Jfz ts ns L c)/\Jo wr (w.heap.size+1) 3 sv (L.map iv)/\Below (w.heap.size+1) (w.alloc (.cells #[bz,.slice at_ ts.length ct,bA] 25)) wr) (fun _ i _=>ts.length-(intOf i).toNat)
 case atStart=>exact⟨0,[],Ob7 _,rfl,⟨rfl,zS,zS⟩,Jo.nil _ _ _,Oa5 _ _⟩
 case round=>
  rename_i sv i
  obtain⟨c,L,bR,rfl,Y,I,M⟩:=hrel;obtain⟨a1,c1,br,_⟩:=I.cells;rw[Oa6]at br;have bK:=M.size;simp at bK;have bO:L.length<=6:=by have:=Y.out.len;omega
  have bj:Bq w wr:=bJ.trans (M.mono (Nat.le_succ _));have bN:wr.cell? (Ar w.heap.size 1)=some (.slice at_ ts.length ct):=by rw[M.cell (p:=Ar w.heap.size 1) zS];simp
  by_cases bk:c<ts.length
  ·obtain⟨b1,bU,rfl,bP,x1⟩:=Kc.at (ht.below bj) bk;have bf:Hid (ts.getD c 0=ts[c]):=by show _=_;simp[bk]
   have Z:=bH.out _ (Ob3 bk);unfold tOk at Z;subst br;by_cases bC:c<ns.length
   ·obtain⟨b2,bV,rfl,bQ,x2⟩:=Kc.at (bM.below bj) bC;have bL:=Jfw ns[c] 4 wr (bG.out _ (Ob3 bC)) zd zd;go_wp2_with fail
    refine bL.mono ?_;rintro e w1 ⟨⟨r,rfl,hr⟩,bT⟩;subst w1;by_cases bI:r=3
    ·subst bI;by_cases bx:ts[c]=3
     ·have hq:(ts[c]==3)=true:=by rw[beq_iff_eq];exact bx
      rw[bx]at x1;go_wp2_with (at_builtin;go_must (refine Ks zR _ _ 22 3 _ 8 Zw zR zd zK zR (w.heap.size+1) _ _ zR (Jo.alloc I _) ⟨wr.heap.size,0,none⟩ 1 [iv 2] zR (by exact Ua wr _ _) (by intro u H;simp at H;subst H;rfl) (by simp only[List.length_cons,List.length_nil,Oa6];omega) zt ?_);intro sv' bB y K bi;obtain⟨a2,bh,U,_⟩:=y.cells;subst U)
      go_roundw
      case rel=>exact⟨c+1,L++[2],zo,zn,Y.out.more 2 (by rw[bf.out];exact Jpy _ _ Z zo zo zo) (fun h=>zo),by simpa using y,(M.alloc zo _).grown K zt (fun g O=>(Je I O).1)⟩
      case measure=>simp[intOf];omega
     have hq:(ts[c]==3)=false:=by rw[beq_eq_false_iff_ne];exact bx
     go_wp2_with (at_builtin;go_must (refine Ks zR _ _ 22 3 _ 8 Zw zR zd zK zR (w.heap.size+1) _ _ zR (Jo.alloc I _) ⟨wr.heap.size,0,none⟩ 1 [iv 3] zR (by exact Ua wr _ _) (by intro u H;simp at H;subst H;rfl) (by simp only[List.length_cons,List.length_nil,Oa6];omega) zt ?_);intro sv' bB y K bi;obtain⟨a2,bh,U,_⟩:=y.cells;subst U)
     go_roundw
     case rel=>exact⟨c+1,L++[3],zo,zn,Y.out.more 3 (by rw[bf.out];exact Jpy _ _ Z zo zo zo) (fun h=>zo),by simpa using y,(M.alloc zo _).grown K zt (fun g O=>(Je I O).1)⟩
     case measure=>simp[intOf];omega
    have hq:((r:Int)==3)=false:=by rw[beq_eq_false_iff_ne];omega
    go_wp2_with (at_builtin;go_must (refine Ks zR _ _ 22 3 _ 8 Zw zR zd zK zR (w.heap.size+1) _ _ zR (Jo.alloc I _) ⟨wr.heap.size,0,none⟩ 1 [iv (r:Int)] zR (by exact Ua wr _ _) (by intro u H;simp at H;subst H;rfl) (by simp only[List.length_cons,List.length_nil,Oa6];omega) zt ?_);intro sv' bB y K bi;obtain⟨a2,bh,U,_⟩:=y.cells;subst U)
    go_roundw
    case rel=>exact⟨c+1,L++[(r:Int)],zo,zn,Y.out.more (r:Int) (by rw[bf.out];exact Jpy _ _ Z zo zo zo) (fun h=>zo),by simpa using y,(M.alloc zo _).grown K zt (fun g O=>(Je I O).1)⟩
    case measure=>simp[intOf];omega
   go_wp2_with (at_builtin;go_must (refine Ks zR _ _ 22 3 _ 8 Zw zR zd zK zR (w.heap.size+1) _ _ zR (Jo.alloc I _) ⟨wr.heap.size,0,none⟩ 1 [iv 0] zR (by exact Ua wr _ _) (by intro u H;simp at H;subst H;rfl) (by simp only[List.length_cons,List.length_nil,Oa6];omega) zt ?_);intro sv' bB y K bi;obtain⟨a2,bh,U,_⟩:=y.cells;subst U)
   go_roundw
   case rel=>exact⟨c+1,L++[0],zo,zn,Y.out.more 0 (by rw[bf.out];exact Jpy _ _ Z zo zo zo) (fun _=>rfl),by simpa using y,(M.alloc zo _).grown K zt (fun g O=>(Je I O).1)⟩
   case measure=>simp[intOf];omega
  obtain rfl:c=ts.length:=zo;subst br;go_wp2;go_ret
  exact⟨L,_,rfl,Jgl I (Nat.le_succ _),Y.out,bj⟩
def Kgs (ts:List Int)(r:List V):Prop:=r.length=ts.length/\∀ j (y:j<r.length),okB (ts.getD j 0) r[j].k r[j].n r[j].s=true/\Jg r[j].n
theorem Kgd t:okB t Jf.k Jf.n Jf.s=true:=by simp[okB,Jf]
theorem Kf0:Jg Jf.n:=by simp[Jg,Jf]
structure Jkr (w:World) (tb:Nat) (name:ByteArray) (tsv rv:Value) (bs:List Nat) (rs:List (List V)):Prop where
 cells:w.heap[tb]?=some (.cells #[.string name,tsv,rv] 25 (0,0))
 own:Jo w (tb+1) 63 rv (List.zipWith Jad bs rs)
 len:bs.length=rs.length
 rows:∀ (i:Nat) b r,bs[i]?=some b->rs[i]?=some r->Kv w b r []
 new:∀ b∈bs,tb<b/\rv.ownBlock≠some b
 nd:bs.Nodup
theorem Jkr.lt {w tb name y rv bs rs}(h:Jkr w tb name y rv bs rs):tb<w.heap.size:=Jd h.cells
theorem Jkr.below {w w' tb name y rv bs rs}(h:Jkr w tb name y rv bs rs)(hb:Bq w w'):Jkr w' tb name y rv bs rs:=
 ⟨(hb.block _ h.lt).trans h.cells,h.own.below hb,h.len,fun i b r hi hr=>(h.rows i b r hi hr).of_block (hb.block _ (h.rows i b r hi hr).lt),h.new,h.nd⟩
theorem Jpz bs rs(h:bs.length=rs.length)b r:List.zipWith Jad (bs++[b]) (rs++[r])=List.zipWith Jad bs rs++[Jad b r]:=by
 rw[List.zipWith_append h];rfl
theorem Jkr.more {w w4 tb name U rv rv' bs rs}(h:Jkr w tb name U rv bs rs)rb r(hr:Kv w rb r [])(bx:tb<rb)(Z:rv.ownBlock≠some rb)(M:rb∉bs)o(bh:Jo w4 (tb+1) 63 rv' (List.zipWith Jad bs rs++[Jad rb r]))(bj:(w.alloc o).grownBy w4 rv.ownBlock)(hb:rv'.ownBlock=rv.ownBlock\/rv'.ownBlock=some (w.alloc o).heap.size):
  Jkr (w4.setCell (Ar tb 2) rv') tb name U rv' (bs++[rb]) (rs++[r]):=by
 have O:∀ k,k<w.heap.size->rv.ownBlock≠some k->w4.heap[k]?=w.heap[k]?:=fun k br K=>(bj.block k zt (Oc5 K)).trans (Oa9 w o k br);have htb:w4.heap[tb]?=some (.cells #[.string name,U,rv] 25 (0,0)):=(O tb h.lt fun e=>by have:=(Je h.own e).1;omega).trans h.cells;have bf:∀ b,b<w.heap.size->rv.ownBlock≠some b->rv'.ownBlock≠some b:=fun b Y K e=>by
  rcases hb with I|I
  ·exact K (I▸e)
  rw[I]at e;simp at e;omega
 refine⟨by have:=Jk htb 2 rv';simpa using this,?_,by simp[h.len],?_,?_,Op3.2 ⟨h.nd,zS,fun a bi b hb e=>by rw[Oc6]at hb;exact M (hb▸e▸bi)⟩⟩
 ·rw[Jpz bs rs h.len];exact Yd bh fun g bk=>Oa4 _ _ _ _ (by have:=(Je bh bk).1;simp;omega)
 ·intro i b q hi hq;rcases Kec hi with⟨hl,hi⟩|⟨hl,rfl⟩
  ·rw[Ob0 (by rw[<-h.len];exact hl)]at hq;have H:=h.rows i b q hi hq;have M:=h.new b (Of6 hi);exact(H.of_block (O b H.lt M.2)).of_block (Oa4 _ _ _ _ zt)
  rw[hl,h.len,Ob6 (Oa2 _)]at hq;simp at hq;subst hq;exact(hr.of_block (O rb hr.lt Z)).of_block (Oa4 _ _ _ _ zt)
 intro b Y;rcases Od2.1 Y with y|y
 ·obtain⟨i,hi,e⟩:=Od5 y;have H:=h.rows i b (rs[i]'(by rw[<-h.len];exact hi)) (by rw[<-e];simp[hi]) (by simp[show i<rs.length by rw[<-h.len];exact hi]);exact⟨(h.new b y).1,bf b H.lt (h.new b y).2⟩
 simp at y;subst y;exact⟨bx,bf b hr.lt Z⟩
theorem Jya bs:∀ rs:List (List V),List.zipWith Je1 (List.zipWith (fun b (r:List V)=>((some (Aq b):Option Addr),r.length)) bs rs) rs=List.zipWith Jad bs rs:=by
 induction bs with
 |nil=>intro rs;simp
 |cons b bs y=>
  intro rs;cases rs with
  |nil=>simp
  |cons r rs=>simp[Je1,Jad,y rs]
theorem Jyi bs rs(h:bs.length=rs.length){i:Nat}{x:Option Addr×Nat}(y:(List.zipWith (fun b (r:List V)=>((some (Aq b):Option Addr),r.length)) bs rs)[i]?=some x):∃ b,bs[i]?=some b/\x.1=some (Aq b):=by
 have hi:i<bs.length:=by
  rcases Oc1 i bs.length with H|H
  ·exact H
  rw[Ob4 zt]at y;simp at y
 have I:i<rs.length:=zo;rw[Ok5,Oa3 hi,Oa3 I]at y;simp at y;exact⟨bs[i],by simp[hi],by rw[<-y]⟩
theorem Jkr.out {w w' tb name O a n c q bs rs}(h:Jkr w tb name O (.slice a n c) bs rs)(hs:w.heap.size<=w'.heap.size)(hq:q<=tb)(H:∀ k,k≠q->w'.heap[k]?=w.heap[k]?):
  Zd w' a (List.zipWith (fun b (r:List V)=>((some (Aq b):Option Addr),r.length)) bs rs) rs/\rs.length<=c/\(∀ b o,a=some (Ar b o)->tb<b)/\∀ b∈bs,tb<b:=by
 have y:∀ b o,a=some (Ar b o)->tb<b:=fun b o hb=>by have:=(Je h.own ((Jji h.own).2 b o hb)).1;omega
 refine⟨⟨by simp[h.len],?_,fun i x r K hr=>?_⟩,?_,y,fun b hb=>(h.new b hb).1⟩
 ·rw[Jya];exact(Jji h.own).1.of_block hs fun b o hb _=>H b (by have:=y b o hb;omega)
 ·obtain⟨b,hb,M⟩:=Jyi bs rs h.len K;rw[M];exact((h.rows i b r hb hr).of_block (H b (by have:=(h.new b (Of6 hb)).1;omega))).vals
 have hl:(List.zipWith Jad bs rs).length=rs.length:=by simp[h.len]
 rcases h.own.2 with⟨hv,h0⟩|⟨g,cap,U,hv,_,_,I,_⟩
 ·rw[hl]at h0;omega
 simp at hv;rw[hl]at I;omega
structure Jug (w w':World) (name:ByteArray) (ts:List Int) (rs:List (List V)) (v:Value):Prop where
 val:∃ ta tc ra rc bs,v=.agg #[.string name,.slice ta ts.length tc,.slice ra rs.length rc]/\Kc w' ta ts/\Zd w' ra (List.zipWith (fun b (r:List V)=>((some (Aq b):Option Addr),r.length)) bs rs) rs/\rs.length<=rc/\(∀ b o,ta=some (Ar b o)->w.heap.size<=b)/\(∀ b o,ra=some (Ar b o)->w.heap.size<=b)/\∀ b∈bs,w.heap.size<=b
 types:(1<=ts.length/\ts.length<=6)/\∀ t∈ts,tOk t
 rows:∀ r∈rs,Kgs ts r
structure Qa9 (w w':World) (name:ByteArray) (ts:List Int) (rs:List (List V)) (ta:Option Addr) (tc:Nat) (rv:Value) (bs:List Nat) (tb:Nat):Prop where
 tys:Jo w' w.heap.size 3 (.slice ta ts.length tc) (ts.map iv)
 tyl:∀ b o,ta=some (Ar b o)->b<tb
 own:Jo w' (tb+1) 63 rv (List.zipWith Jad bs rs)
 len:bs.length=rs.length
 rows:∀ (i:Nat) b r,bs[i]?=some b->rs[i]?=some r->Kv w' b r []
 new:∀ b∈bs,tb<b/\rv.ownBlock≠some b
 nd:bs.Nodup
 low:w.heap.size<=tb
theorem Jkr.owned {w0 w w' q tb n name ts ta tc rv bs rs}(h:Jkr w tb name (.slice ta ts.length tc) rv bs rs)(hq:q<=tb)(H:∀ k,k≠q->w'.heap[k]?=w.heap[k]?)(ht:Jo w n 3 (.slice ta ts.length tc) (ts.map iv))(Y:w0.heap.size<=n)(M:∀ b o,ta=some (Ar b o)->b≠q/\b<tb)(hl:w0.heap.size<=tb):Qa9 w0 w' name ts rs ta tc rv bs tb:=by
 have K:Jo w' n 3 (.slice ta ts.length tc) (ts.map iv):=Yd ht fun g e=>H g (by
  cases ta with
  |none=>cases e
  |some a=>
   obtain⟨_,y|⟨U,cap,I,y,_⟩⟩:=ht
   ·cases y.1
   injection y with y;injection y with y;subst y;cases e
   exact(M _ _ rfl).1)
 refine⟨⟨K.1,K.2.imp id fun ⟨g,cap,I,a1,a2,O⟩=>⟨g,cap,I,a1,zo,O⟩⟩,fun b o e=>(M b o e).2,Yd h.own fun g e=>H g (by have:=(Je h.own e).1;omega),h.len,fun i b r hi hr=>(h.rows i b r hi hr).of_block (H b (by have:=(h.new b (Of6 hi)).1;omega)),h.new,h.nd,hl⟩
theorem Qbq (P:List Int->Prop)(bW name:ByteArray)at_ ar(ct cr bk:Nat)(ns:List Int)(xs:List (Option Addr×Nat))I w(hM:bk<=200)(cb:∀ W,Bq w W->Cq 22 #[.slice at_ ns.length ct,Iq 6] W fun e w'=>∃ (ts:List Int) (sv:Value),e=.returned sv/\Jo w' W.heap.size 3 sv (ts.map iv)/\(1<=ts.length/\ts.length<=6)/\(∀ t∈ts,tOk t)/\P ts/\Bq W w')(cx:∀ r∈I,r.length<=maxLen)(cj:∀ r∈I,∀ v∈r,Jg v.k/\Jg v.n)(hy:Zd w ar xs I):
  Cq 5 #[.agg #[.string bW,.slice at_ ns.length ct,.slice ar I.length cr],.string name,Iq (bk:Int)] w fun e w'=>∃ ts rs v,e=.returned v/\Jug w w' name ts rs v/\(∃ ta tc bV rc bs tb,v=.agg #[.string name,.slice ta ts.length tc,.slice bV rs.length rc]/\Qa9 w w' name ts rs ta tc (.slice bV rs.length rc) bs tb)/\rs.length<=bk/\P ts/\Bq w w':=by
 have ca:Bq w ((w.alloc (.cells #[.string bW,.slice at_ ns.length ct,.slice ar I.length cr] 25)).alloc (.cells #[.string ⟨#[]⟩,Sz,Sz] 25)):=((Oa5 _ _).alloc (Oa2 _) _).alloc zS _;have cE:=cb _ ca;have dP:=zh cx;have cJ:=zh cj;clear cx cj cb;go_enter func5,ntmps5
 go_wp2_with (go_at_call 22;refine cE.mono ?_;rintro e w1 ⟨ts,fi,rfl,bJ,dA,cC,cv,bH⟩;obtain⟨ta,tc,cD,cA⟩:=bJ.cells;rw[Oa6]at cD;subst cD)
 have dD:=bH.size;simp at dD;have cc:Bq w w1:=ca.trans (bH.mono zt);have cI:∀ (X:World),Bq w1 X->X.cell? (Ar w.heap.size 2)=some (.slice ar I.length cr):=fun X dc=>by
  rw[dc.cell (p:=Ar w.heap.size 2) zt,bH.cell (p:=Ar w.heap.size 2) zt];simp
 have bX:=zh cI;have cB:∀ b o,ta=some (Ar b o)->w.heap.size+2<=b/\b<w1.heap.size:=fun b o hb=>by
  have:=Je bJ ((Jji bJ).2 b o hb);simp at this;omega
 have bz:=zh cB;have bZ:=zh cC;have cQ:Hid (Jo w1 (w.heap.size+2) 3 (.slice ta ts.length tc) (ts.map iv)):=(by simpa using bJ:Jo w1 (w.heap.size+2) 3 (.slice ta ts.length tc) (ts.map iv));have cN:=zh cv;clear cI cB cC cE cv;have dv:Jkr (w1.alloc (.cells #[.string name,.slice ta ts.length tc,Sz] 25)) w1.heap.size name (.slice ta ts.length tc) Sz [] []:=
  ⟨heap_alloc_new _ _,Jo.nil _ _ _,rfl,fun i b r hi=>by simp at hi,fun b hb=>by simp at hb,List.nodup_nil⟩
 go_loopw [8] (fun i wr=>∃ (k:Nat) (rv:Value) (bs:List Nat) (rs:List (List V)),k<=I.length/\k<=bk/\i=Iq k/\rs.length<=k/\Hid (∀ r∈rs,Kgs ts r)/\Jkr wr w1.heap.size name (.slice ta ts.length tc) rv bs rs/\Bq w1 wr) (fun i _=>bk-(intOf i).toNat)
 case atStart=>exact⟨0,_,[],[],Ob7 _,Ob7 _,rfl,Oa2 _,by intro r hr;simp at hr,dv,(Oa5 _ _).alloc (Oa2 _) _⟩
 case round=>
  rename_i i
  obtain⟨k,rv,bs,rs,bI,ff,rfl,fg,bY,K,Y⟩:=hrel;obtain⟨y,bC⟩:∃ y,y=wr:=⟨_,rfl⟩;subst bC;have c2:=bX.out y Y;have cT:y.cell? (Ar w1.heap.size 1)=some (.slice ta ts.length tc):=by simp[World.cell?,K.cells]
  have dS:y.cell? (Ar w1.heap.size 2)=some rv:=by simp[World.cell?,K.cells]
  have de:=cc.trans (Y.mono zo);obtain⟨M,O,cy,_⟩:=K.own.cells;have bT:(List.zipWith Jad bs rs).length=rs.length:=by simp[K.len]
  rw[bT]at cy;have cR:=zh bT;clear bT;subst cy;by_cases cn:k<I.length/\k<bk
  ·obtain⟨bE,cY⟩:=cn;obtain⟨C,dq,dr⟩:=Jtn ts.length zo y;go_wp2;clear dq;go_loopw [10] (fun i wr=>∃ (c:Nat) (L:List V),c<=ts.length/\i=Iq c/\Hid (L.length=c/\∀ j (br:j<L.length),okB (ts.getD j 0) L[j].k L[j].n L[j].s=true/\Jg L[j].n)/\Kv wr y.heap.size (L++List.replicate (ts.length-c) Jf) []/\Bq y wr) (fun i _=>ts.length-(intOf i).toNat)
   case atStart=>exact⟨0,[],Ob7 _,rfl,⟨rfl,fun j br=>by simp at br⟩,by simpa using dr,(Oa5 _ _).alloc (Oa2 _) _⟩
   case round=>
    rename_i fh
    obtain⟨c,L,fd,rfl,bf,bB,bj⟩:=hrel;have bQ:=Y.trans (bj.mono Y.size);have bG:=cc.trans (bQ.mono zo);have cU:=bX.out wr bQ;have cV:wr.cell? (Ar w1.heap.size 1)=some (.slice ta ts.length tc):=by rw[bj.cell (p:=Ar w1.heap.size 1) K.lt];exact cT
    obtain⟨b1,bL,bV,rc,dd,dX,dJ,dC⟩:=hy.at bE;subst dd;have x1:=Ja bG dJ;by_cases bA:c<ts.length
    ·obtain⟨bt,bU,dx,dZ,dK⟩:=Kc.at (cA.below bQ) bA;subst dx;by_cases ci:c<I[k].length
     ·obtain⟨b2,bx,hra,dY,dL,dM,dO⟩:=dC.at ci;subst hra;have z1:=Ja bG dL;have z2:=Ja bG dM;have dN:=Ja bG dO;have fc:=bz.out bt bU rfl;have bC:=Y.size;have db:=K.lt;have cF:=bj.size;have cG:=cJ.out _ (Ob3 bE) _ (Ob3 ci);have cK:Hid (∀ W,Cq 18 #[I[k][c].val,Iq ts[c]] W fun e w'=>(∃ u:V,e=.returned u.val/\okB ts[c] u.k u.n u.s=true/\Jg u.n)/\Bq W w'):=fun W=>Jk8 I[k][c] ts[c] W (bZ.out _ (Ob3 bA)) cG.1 cG.2;have hlen:(L++List.replicate (ts.length-c) Jf).length=ts.length:=by rw[Oa8,bf.out.1,Od6];omega
      have cL:=zh hlen;clear hlen;go_wp2;refine wp_region_held_drew (S:=fun X=>X.cell? (Ar w.heap.size 2)=some (Sr b1 bL I.length cr)/\X.cell? (Ar b1 (bL+k))=some (Sr b2 bx I[k].length rc)/\X.cell? (Ar b2 (bx+c*3))=some (Iq I[k][c].k)/\X.cell? (Ar b2 (bx+c*3+1))=some (Iq I[k][c].n)/\X.cell? (Ar b2 (bx+c*3+2))=some (.string I[k][c].s)/\X.cell? (Ar w1.heap.size 1)=some (Sr bt bU ts.length tc)/\X.cell? (Ar bt (bU+c))=some (Iq ts[c])) zK ⟨cU,x1,z1,z2,dN,cV,dK⟩ (fun H=>?_);refine tkj 0 rfl H ?_;refine tkj 1 rfl H ?_;refine tkj 2 rfl H ?_;refine tkj 3 rfl H ?_;refine tkj 4 rfl H ?_;refine tkj 5 rfl H ?_;refine tkj 6 rfl H ?_;refine tkj 7 rfl H ?_;refine tkj 8 rfl H ?_;refine tkj 9 rfl H ?_;refine tkj 10 rfl H ?_;refine tkj 11 rfl H ?_;refine tkj 12 rfl H ?_;refine tkj 13 rfl H ?_;refine tkj 14 rfl H ?_;refine tkn ?_;refine tkr 15 rfl fun bN hK=>?_;go_simp;refine(cK.out _).mono ?_;rintro e Z ⟨⟨u,rfl,bK,dB⟩,bP⟩;go_simp;obtain⟨kk,_⟩:=Kx bP;refine hK.out _ _ ⟨(kk _ _ (by show w.heap.size<wr.heap.size;omega)).trans H.1,(kk _ _ (by show b1<wr.heap.size;omega)).trans H.2.1,(kk _ _ (by show b2<wr.heap.size;omega)).trans H.2.2.1,(kk _ _ (by show b2<wr.heap.size;omega)).trans H.2.2.2.1,(kk _ _ (by show b2<wr.heap.size;omega)).trans H.2.2.2.2.1,(kk _ _ (by show w1.heap.size<wr.heap.size;omega)).trans H.2.2.2.2.2.1,(kk _ _ (by show bt<wr.heap.size;omega)).trans H.2.2.2.2.2.2⟩ (fun bh=>?_);clear hK bN kk H;refine tkj 16 rfl bh ?_;refine tkn ?_;have du:Kv Z y.heap.size (L++List.replicate (ts.length-c) Jf) []:=bB.of_block ((Jw bP).block _ bB.lt);obtain⟨old,⟨c0,cW⟩,⟨c1,cX⟩,⟨cS,bO⟩,bS⟩:=du.put u c (by rw[cL.out];exact bA);rw[Jna L c ts.length u bf.out.1 bA]at bS;have cO:=zh bS;clear bS;refine tkr 17 rfl fun bN hK=>?_;go_simp;have U:∀ (b o:Nat) (v:Value),b≠y.heap.size->Z.cell? (Ar b o)=some v->(((Z.setCell (Ar y.heap.size (c*3)) (Iq u.k)).setCell (Ar y.heap.size (c*3+1)) (Iq u.n)).setCell (Ar y.heap.size (c*3+2)) (.string u.s)).cell? (Ar b o)=some v:=fun b o v hb hv=>by
       exact zah
      refine hK.out _ _ ⟨U _ _ _ zo bh.1,U _ _ _ zo bh.2.1,U _ _ _ zo bh.2.2.1,U _ _ _ zo bh.2.2.2.1,U _ _ _ zo bh.2.2.2.2.1,U _ _ _ zo bh.2.2.2.2.2.1,U _ _ _ zo bh.2.2.2.2.2.2⟩ (fun cZ=>?_);clear hK bN U bh cZ c0 cW c1 cX cS bO;refine wpAnyH_done zK ?_ _;have dg:Bq y (((Z.setCell (Ar y.heap.size (c*3)) (Iq u.k)).setCell (Ar y.heap.size (c*3+1)) (Iq u.n)).setCell (Ar y.heap.size (c*3+2)) (.string u.s)):=
       (((bj.trans ((Jw bP).mono cF)).setCell (p:=Ar y.heap.size (c*3)) (Oa2 _) _).setCell (p:=Ar y.heap.size (c*3+1)) (Oa2 _) _).setCell (p:=Ar y.heap.size (c*3+2)) (Oa2 _) _
      generalize ((Z.setCell (Ar y.heap.size (c*3)) (Iq u.k)).setCell (Ar y.heap.size (c*3+1)) (Iq u.n)).setCell (Ar y.heap.size (c*3+2)) (.string u.s)=dI at *;go_wp2;go_roundw
      case rel=>
       refine⟨c+1,L++[u],zo,zn,⟨by rw[Oa8,bf.out.1];rfl,fun j br=>?_⟩,cO.out,dg⟩;by_cases e:j<L.length
       ·rw[Oi2 e];exact bf.out.2 j e
       have bR:j=L.length:=by simp at br;omega
       subst bR;rw[Ok8 (Oa2 _)];have dm:ts.getD L.length 0=ts[c]:=by rw[bf.out.1];simp[bA]
       simp only[Oe1,List.getElem_cons_zero,dm];exact⟨bK,dB⟩
      case measure=>simp[intOf];omega
     have cP:Hid (L++List.replicate (ts.length-c) Jf=(L++[Jf])++List.replicate (ts.length-(c+1)) Jf):=by
      show _=_;obtain⟨d,di⟩:∃ d,ts.length-c=d+1:=⟨ts.length-c-1,zo⟩;have dj:ts.length-(c+1)=d:=zo;rw[di,dj,List.replicate_succ];simp
     go_wp2;go_roundw
     case rel=>
      refine⟨c+1,L++[Jf],zo,zn,⟨by rw[Oa8,bf.out.1];rfl,fun j br=>?_⟩,by rw[<-cP.out];exact bB,bj⟩;by_cases e:j<L.length
      ·rw[Oi2 e];exact bf.out.2 j e
      have bR:j=L.length:=by simp at br;omega
      subst bR;rw[Ok8 (Oa2 _)];simp only[Oe1,List.getElem_cons_zero];exact⟨Kgd _,Kf0⟩
     case measure=>simp[intOf];omega
    obtain rfl:c=ts.length:=zo;rw[Oe1,List.replicate_zero,Od7]at bB;have bi:=K.below bj;have db:=bi.lt;have bC:=Y.size;have cF:=bj.size;have bO:wr.cell? (Ar w1.heap.size 2)=some (.slice M rs.length O):=by simp[World.cell?,bi.cells]
    have ds:(Value.slice M rs.length O).ownBlock≠some y.heap.size:=fun e=>by have:=(Je K.own e).2;omega
    have da:=K.lt;have dt:y.heap.size∉bs:=fun dp=>by
     obtain⟨i,hi,e⟩:=Od5 dp;have:=(K.rows i _ (rs[i]'(by rw[<-K.len];exact hi)) (Oa3 hi) (Oa3 (by rw[<-K.len];exact hi))).lt;omega
    go_wp2_with (at_builtin;go_must (refine Ul zR _ _ 23 63 _ 24 Jip zR zd zK zR (w1.heap.size+1) _ _ zR (Jo.alloc bi.own _) ⟨wr.heap.size,0,none⟩ 1 [Sq y.heap.size ts.length ts.length] zR (by exact Ua wr _ _) (by intro u bK;simp at bK;subst bK;rfl) (by rw[cR.out];simp only[List.length_cons,List.length_nil];omega) zt ?_);intro sv' Z cH bM dH;go_must (have cu:=bi.more y.heap.size L bB zo ds dt _ (rv':=sv') (w4:=Z) (by unfold Jad;rw[bf.out.1];exact cH) bM dH);obtain⟨a2,dQ,dw,_⟩:=cH.cells;subst dw;go_must (have dT:Z.cell? (Ar w1.heap.size 2)=some (.slice M rs.length O):=(by rw[bM.cell_far _ zt (fun e=>absurd (Je bi.own e.symm).1 zS)];exact(Jnf wr _ _ 2 zo).trans bO));go_must (have dU:Z.frozen? ⟨w1.heap.size,2,none⟩=false:=(by rw[bM.frozen_far _ zt (fun e=>absurd (Je bi.own e.symm).1 zS)];refine(Jh9 wr _ _ 2 zo).trans ?_;simp[World.frozen?,bi.cells])))
    have dh:Bq w1 Z:=((Y.trans (bj.mono bC)).alloc zo _).grown bM zt (fun g dl=>by have:=(Je bi.own dl).1;omega);go_roundw
    case rel=>
     simp only[Oa8,List.length_zipWith,List.length_cons,List.length_nil,Od0]at cu;refine⟨k+1,_,bs++[y.heap.size],rs++[L],zo,zo,zn,by simp;omega,?_,cu,dh.setCell (p:=Ar w1.heap.size 2) (Oa2 _) _⟩;intro r hr;rcases Od2.1 hr with h|h
     ·exact bY.out r h
     simp at h;subst h;exact bf.out
    case measure=>simp[intOf];omega
  have da:=K.lt;have fe:y.heap[w1.heap.size]?=some (.cells #[.string name,.slice ta ts.length tc,.slice M rs.length O] 25 (0,0)):=K.cells;have dR:y.cell? (Aq w1.heap.size)=some (.string name):=by simp[World.cell?,K.cells]
  have bD:y.heap[w.heap.size+1]?=some (.cells #[.string ⟨#[]⟩,Sz,Sz] 25 (0,0)):=by
   rw[Y.block _ zo,bH.block _ zS];have:=heap_alloc_new (w.alloc (.cells #[.string bW,.slice at_ ns.length ct,.slice ar I.length cr] 25)) (.cells #[.string ⟨#[]⟩,Sz,Sz] 25);rw[Oa7]at this;exact this
  have dW:=zc 0 bD;have g1:=zc 1 bD;have g2:=zc 2 bD;have dV:∀ o,y.frozen? ⟨w.heap.size+1,o,none⟩=false:=fun o=>by simp[World.frozen?,bD]
  by_cases bE:k<I.length;focus
   have cY:¬ k<bk:=fun h=>cn ⟨bE,h⟩
  rotate_left 1;all_goals
   go_wp2;have U:∀ k,k≠w.heap.size+1->(((y.setCell (Aq (w.heap.size+1)) (.string name)).setCell (Ar (w.heap.size+1) 1) (.slice ta ts.length tc)).setCell (Ar (w.heap.size+1) 2) (.slice M rs.length O)).heap[k]?=y.heap[k]?:=fun k bI=>by
    rw[Oa4 _ _ _ _ bI,Oa4 _ _ _ _ bI,Oa4 _ _ _ _ bI]
   have bC:=Y.size;have cz:y.heap.size<=(((y.setCell (Aq (w.heap.size+1)) (.string name)).setCell (Ar (w.heap.size+1) 1) (.slice ta ts.length tc)).setCell (Ar (w.heap.size+1) 2) (.slice M rs.length O)).heap.size:=by simp[World.setCell]
   have cf:=Jk (Jk (Jk bD 0 (.string name)) 1 (.slice ta ts.length tc)) 2 (.slice M rs.length O);simp at cf;obtain⟨bL,bx,dE,dG⟩:=K.out (q:=w.heap.size+1) cz zo U;have df:Bq w (((y.setCell (Aq (w.heap.size+1)) (.string name)).setCell (Ar (w.heap.size+1) 1) (.slice ta ts.length tc)).setCell (Ar (w.heap.size+1) 2) (.slice M rs.length O)):=
    ((de.setCell (p:=Aq (w.heap.size+1)) zS _).setCell (p:=Ar (w.heap.size+1) 1) zS _).setCell (p:=Ar (w.heap.size+1) 2) zS _
   have dy:Kc (((y.setCell (Aq (w.heap.size+1)) (.string name)).setCell (Ar (w.heap.size+1) 1) (.slice ta ts.length tc)).setCell (Ar (w.heap.size+1) 2) (.slice M rs.length O)) ta ts:=(cA.below Y).of_block cz fun b o hb _=>U b (by have:=(bz.out b o hb).1;omega);have cM:=K.owned (w0:=w) (q:=w.heap.size+1) zo U (cQ.out.below Y) zS (fun b o hb=>⟨by have:=(bz.out b o hb).1;omega,(bz.out b o hb).2⟩) zo;generalize ((y.setCell (Aq (w.heap.size+1)) (.string name)).setCell (Ar (w.heap.size+1) 1) (.slice ta ts.length tc)).setCell (Ar (w.heap.size+1) 2) (.slice M rs.length O)=dI at *;refine bodyPost_ret (v:=.agg #[.string name,.slice ta ts.length tc,.slice M rs.length O]) (by simp[results,results5,go_sem,World.cell?,cf]) rfl ⟨ts,rs,_,rfl,⟨⟨ta,tc,M,O,bs,rfl,dy,bL,bx,fun b o hb=>by have:=(bz.out b o hb).1;omega,fun b o hb=>by have:=dE b o hb;omega,fun b hb=>by have:=dG b hb;omega⟩,⟨dA,bZ.out⟩,bY.out⟩,⟨ta,tc,M,O,bs,w1.heap.size,rfl,cM⟩,zo,cN.out,df⟩
theorem Qbf (P:List Int->Prop)(I name:ByteArray)at_ ar(ct cr H:Nat)(ns:List Int)(xs:List (Option Addr×Nat))y w(hM:H<=200)(U:∀ W,Bq w W->Cq 22 #[.slice at_ ns.length ct,Iq 6] W fun e w'=>∃ (ts:List Int) (sv:Value),e=.returned sv/\Jo w' W.heap.size 3 sv (ts.map iv)/\(1<=ts.length/\ts.length<=6)/\(∀ t∈ts,tOk t)/\P ts/\Bq W w')(Z:∀ r∈y,r.length<=maxLen)(Y:∀ r∈y,∀ v∈r,Jg v.k/\Jg v.n)(hy:Zd w ar xs y):
  Cq 5 #[.agg #[.string I,.slice at_ ns.length ct,.slice ar y.length cr],.string name,Iq (H:Int)] w fun e w'=>∃ ts rs v,e=.returned v/\Jug w w' name ts rs v/\rs.length<=H/\P ts/\Bq w w':=
 (Qbq P I name at_ ar ct cr H ns xs y w hM U Z Y hy).mono fun _ _ ⟨ts,rs,v,K,M,_,O⟩=>⟨ts,rs,v,K,M,O⟩
theorem Jt8 U name at_ ar(ct cr H:Nat)ns xs y w(hM:H<=200)(bf:ns.length<=maxLen)(bh:∀ r∈y,r.length<=maxLen)(Z:∀ r∈y,∀ v∈r,Jg v.k/\Jg v.n)(bi:Kc w at_ ns)(hy:Zd w ar xs y):
  Cq 5 #[.agg #[.string U,.slice at_ ns.length ct,.slice ar y.length cr],.string name,Iq (H:Int)] w fun e w'=>∃ ts rs v,e=.returned v/\Jug w w' name ts rs v/\rs.length<=H/\Bq w w':=
 (Qbf (fun _=>True) U name at_ ar ct cr H ns xs y w hM (fun W hb=>(Jvl at_ ct ns W bf (bi.below hb)).mono fun _ _ ⟨ts,sv,I,K,M,Y,O⟩=>⟨ts,sv,I,K,M,Y,trivial,O⟩) bh Z hy).mono fun _ _ ⟨ts,rs,v,I,K,M,_,O⟩=>⟨ts,rs,v,I,K,M,O⟩
