/- Rows held column by column, as the program's package columns hands them about: what is cut out of them. -/
import Derived.Test.YtjbenncelbpbnaaGreatDoorTl
import Derived.Test.YtjbenncelbpbnaaGreatDoorKm
set_option maxHeartbeats 4000000
set_option maxRecDepth 100000
namespace Go.Proofs.YtjbenncelbpbnaaGreatDoor
section
open Go.RowKit Go.Shelf Tryz
attribute [local go_sem] Oc0
abbrev Yo (hs:List (Option Addr×Nat))(j:Nat):Option Addr×Nat:=hs.getD j (none,0)
structure Qd (w:World) (g:Nat) (hs:List (Option Addr×Nat)) (cs:List (List V)):Prop where
 row:Kt6 w g 60 cs.length (fun j=>.slice (Yo hs j).1 (cs.getD j []).length (Yo hs j).2)
 vals:∀ j,j<cs.length->Jv w (Yo hs j).1 (cs.getD j [])
 cap:∀ j,j<cs.length->(cs.getD j []).length<=(Yo hs j).2
theorem Qd.below {w w' g hs cs}(h:Qd w g hs cs)(hb:Below w.heap.size w w'):Qd w' g hs cs:=
 ⟨h.row.of_block (hb.block _ h.row.lt),fun j y=>(h.vals j y).below hb,h.cap⟩
def Jbx (f t:Nat)(c:List V):List V:=(c.take t).drop f
theorem Jca {f t c}(y:t<=c.length):(Jbx f t c).length=t-f:=by
 unfold Jbx;rw[Of7,Oc7,Oj1 y]
abbrev Jkl (a:Option Addr)(f t:Nat):Option Addr:=if t=f then a else a.map (·.add (f*3))
theorem Jv.cut {w a c}(h:Jv w a c){f t}(hf:f<=t)(ht:t<=c.length):Jv w (Jkl a f t) (Jbx f t c):=by
 by_cases e:t=f
 ·subst e;left;exact Od3.1 (by rw[Jca ht,Oe1])
 rcases h with h|⟨b,o,rfl,hb,h⟩
 ·subst h;simp at ht;omega
 unfold Jkl;rw[if_neg e];right;have H:(⟨b,o,none⟩:Addr).add (f*3)=⟨b,o+f*3,none⟩:=Op7 b o (f*3);refine⟨b,o+f*3,by simp[H],hb,fun i v hi=>?_⟩;unfold Jbx at hi;rw[Oh9]at hi;have I:f+i<t:=by
  rcases Oc1 (f+i) t with y|y
  ·exact y
  rw[List.getElem?_take_eq_none y]at hi;simp at hi
 rw[Oh3 I]at hi;have:=h (f+i) v hi;rw[Nat.add_mul,<-On5]at this;exact this
def Jnt (hs:List (Option Addr×Nat))(k f t:Nat):List (Option Addr×Nat):=(List.range k).map fun j=>(Jkl (Yo hs j).1 f t,t-f)
theorem zaL {p:Prop}(h:p:=by rw[Oa0,Ob1,Oa3 y];have:=hn j y;rw[Oa0,Oa3 y]at this;exact Jca (by simp at this;omega)):p:=h
theorem Kdx g cap hs cs n f t w(hC:Qd w g hs cs)(hn:∀ j,j<cs.length->(cs.getD j []).length=n)(hf:f<=t)(ht:t<=n)(hw:cs.length<=1000):
  Calls prog 113 #[.slice (some ⟨g,0,none⟩) cs.length cap,.int .i64 (f:Int),.int .i64 (t:Int)] w fun e w'=>Below w.heap.size w w'/\e=.returned (.slice (some ⟨w.heap.size,0,none⟩) cs.length cs.length)/\Qd w' w.heap.size (Jnt hs cs.length f t) (cs.map (Jbx f t)):=by
 have bi:=Jiz cs.length w hw;have bC:(f:Int)<=(t:Int):=zo;have bA:(0:Int)<=(f:Int):=zo;have bB:(0:Int)<=(t:Int):=zo;go_enter func113,ntmps113
 go_wp2_with (first|(go_at_call 79;refine bi.mono ?_;rintro e bz ⟨rfl,bh,bx⟩))
 have bj:=bh.row;rw[Od6]at bj;clear bi bh;go_loopw [15] (fun i wr=>∃ k:Nat,k<=cs.length/\i=.int .i64 (k:Int)/\wr.rowIs w.heap.size 60 cs.length (fun j=>if j<k then .slice (Jkl (Yo hs j).1 f t) (t-f) (t-f)else .slice none 0 0)/\Below w.heap.size w wr) (fun i _=>cs.length-(intOf i).toNat)
 case atStart=>
  refine⟨0,Ob7 _,rfl,bj.congr fun j y=>?_,bx⟩;rw[if_neg (Oe0 _)];unfold Uq;rw[Oa0,Of3];split<;>rfl
 case round=>
  obtain⟨k,hk,rfl,O,M⟩:=hrel;by_cases K:k<cs.length
  ·have x1:=Ja M (hC.row.cell K);rw[hn k K]at x1;have Y:=hC.cap k K;rw[hn k K]at Y;have c1:=O.cell K;have c2:=O.frozen k;simp only[Oe3,if_false]at c1;obtain⟨Z,ck,U⟩:∃ Z ck,Yo hs k=(Z,ck):=⟨_,_,rfl⟩;rw[U]at x1 Y;simp only at x1 Y;have bD:(t:Int)<=(ck:Int):=zo;have bk:=zh U;clear U;go_wp2;go_roundw
   case rel=>
    refine⟨k+1,zo,zn,(O.set k _).congr fun j y=>?_,M.setCell (p:=⟨w.heap.size,k,none⟩) (Oa2 _) _⟩;have br:=bk.out;by_cases e:j=k
    ·subst e;rw[if_pos (show j=j from rfl),if_pos (show j<j+1 from On2 _),br]
    rw[if_neg e];by_cases bf:j<k
    ·rw[if_pos bf,if_pos zo]
    rw[if_neg bf,if_neg zo]
   case measure=>simp[intOf];omega
  obtain rfl:k=cs.length:=zo;go_wp2;go_ret
  refine⟨M,rfl,⟨?_,fun j y=>?_,fun j y=>?_⟩⟩;all_goals unfold Jnt
  ·rw[Oa6];refine(Kua O).congr fun j y=>?_;rw[if_pos y];have H:Yo ((List.range cs.length).map fun j=>(Jkl (Yo hs j).1 f t,t-f)) j=(Jkl (Yo hs j).1 f t,t-f):=(by simp[Yo,y]);have I:((cs.map (Jbx f t)).getD j []).length=t-f:=by
    exact zaL
   rw[H,I]
  ·rw[Oa6]at y;have H:Yo ((List.range cs.length).map fun j=>(Jkl (Yo hs j).1 f t,t-f)) j=(Jkl (Yo hs j).1 f t,t-f):=(by simp[Yo,y]);have I:(cs.map (Jbx f t)).getD j []=Jbx f t (cs.getD j []):=by
    rw[Oa0,Ob1,Oa3 y,Oa0,Oa3 y];rfl
   rw[H,I];exact((hC.vals j y).below M).cut hf (by rw[hn j y];exact ht)
  rw[Oa6]at y;have H:Yo ((List.range cs.length).map fun j=>(Jkl (Yo hs j).1 f t,t-f)) j=(Jkl (Yo hs j).1 f t,t-f):=by simp[Yo,y]
  have I:((cs.map (Jbx f t)).getD j []).length=t-f:=by
   exact zaL
  rw[H,I];exact Oa2 _
theorem Jqo (n:Nat)(hn:n<=100000)W:∃ C,(Instr.makeSlice 60 (.int .i64 (n:Int)) (.int .i64 (n:Int))).run prog W=.ok (.slice (some ⟨W.heap.size,0,none⟩) n n) (W.alloc (.cells C 59))/\Kv (W.alloc (.cells C 59)) W.heap.size (List.replicate n Jf) []:=by
 exact zai
def Yq (ns:List Int)(c:List V):List V:=ns.map fun m=>if m=-1 then Jf else c.getD m.toNat Jf
theorem Ze ns c:(Yq ns c).length=ns.length:=by simp[Yq]
theorem Kcv (L:List V)(c n:Nat)(hl:L.length=n)(I:c<n)(h0:L[c]=Jf):L.take c++List.replicate (n-c) Jf=L.take (c+1)++List.replicate (n-(c+1)) Jf:=by
 obtain⟨d,y⟩:∃ d,n-c=d+1:=⟨n-c-1,zo⟩;have H:n-(c+1)=d:=zo;rw[y,H,List.replicate_succ,Jec L c zo,Od8,h0];rfl
theorem Jzq g cap hs cs n an cE ns w(hC:Qd w g hs cs)(hn:∀ j,j<cs.length->(cs.getD j []).length=n)(cf:Kc w an ns)(cb:∀ m∈ns,m=-1\/(0<=m/\m<(n:Int)))(hw:cs.length<=1000)(hl:ns.length<=100000):
  Calls prog 108 #[.slice (some ⟨g,0,none⟩) cs.length cap,.slice an ns.length cE] w fun e w'=>Below w.heap.size w w'/\e=.returned (.slice (some ⟨w.heap.size,0,none⟩) cs.length cs.length)/\∃ cu,Qd w' w.heap.size cu (cs.map (Yq ns))/\∀ j,j<cs.length->∀ b o,(Yo cu j).1=some ⟨b,o,none⟩->w.heap.size<=b/\b<w'.heap.size:=by
 have ci:=Jiz cs.length w hw;have ca:=hC.row.lt;have cz:=zh cb;have cA:=zh cf;have bU:=zh hC;clear cb cf hC;go_enter func108,ntmps108
 go_wp2_with (first|(go_at_call 79;refine ci.mono ?_;rintro e cU ⟨rfl,bZ,cK⟩))
 have cn:=bZ.row;rw[Od6]at cn;clear ci bZ;go_loopw [15] (fun i wr=>∃ (k:Nat) (bs:List Nat),k<=cs.length/\i=.int .i64 (k:Int)/\Hid (bs.length=k)/\wr.rowIs w.heap.size 60 cs.length (fun j=>if j<k then .slice (some ⟨bs.getD j 0,0,none⟩) ns.length ns.length else .slice none 0 0)/\Hid (∀ j b,bs[j]?=some b->Kv wr b (Yq ns (cs.getD j [])) []/\w.heap.size<b)/\Below w.heap.size w wr) (fun i _=>cs.length-(intOf i).toNat)
 case atStart=>
  refine⟨0,[],Ob7 _,rfl,rfl,cn.congr fun j H=>?_,fun j b h=>by simp at h,cK⟩;rw[if_neg (Oe0 _)];unfold Uq;rw[Oa0,Of3];split<;>rfl
 case round=>
  obtain⟨k,bs,hk,rfl,br,O,bK,Z⟩:=hrel;obtain⟨y,bk⟩:∃ y,y=wr:=⟨_,rfl⟩;subst bk;have da:=O.lt;by_cases bh:k<cs.length
  ·obtain⟨C,cM,bD⟩:=Jqo ns.length hl y;have x1:=Ja Z (bU.out.row.cell bh);rw[hn k bh]at x1;obtain⟨bN,ck,bX⟩:∃ bN ck,Yo hs k=(bN,ck):=⟨_,_,rfl⟩;have bG:=bU.out.vals k bh;rw[bX]at x1 bG;simp only at x1 bG;have bM:Hid (Jv w bN (cs.getD k [])/\(cs.getD k []).length=n):=⟨bG,hn k bh⟩;have c1:=O.cell bh;have c2:=O.frozen k;simp only[Oe3,if_false]at c1;clear bX bG;go_wp2;clear cM c1 c2;have bA:=Z.setCell (p:=⟨w.heap.size,k,none⟩) (Oa2 _) (.slice (some ⟨y.heap.size,0,none⟩) ns.length ns.length);have bj:(y.setCell ⟨w.heap.size,k,none⟩ (.slice (some ⟨y.heap.size,0,none⟩) ns.length ns.length)).heap.size=y.heap.size:=by simp[World.setCell]
   go_loopw [28] (fun i wr=>∃ c:Nat,c<=ns.length/\i=.int .i64 (c:Int)/\Kv wr y.heap.size ((Yq ns (cs.getD k [])).take c++List.replicate (ns.length-c) Jf) []/\wr.rowIs w.heap.size 60 cs.length (fun j=>if j=k then .slice (some ⟨y.heap.size,0,none⟩) ns.length ns.length else if j<k then .slice (some ⟨bs.getD j 0,0,none⟩) ns.length ns.length else .slice none 0 0)/\Hid (∀ x,x<y.heap.size->x≠w.heap.size->wr.heap[x]?=y.heap[x]?)/\y.heap.size<wr.heap.size/\Below w.heap.size w wr) (fun i _=>ns.length-(intOf i).toNat)
   case atStart=>
    obtain⟨cT,I,M⟩:=bD;rw[heap_alloc_new]at I;simp at I;subst I;refine⟨0,Ob7 _,rfl,⟨C,?_,by simpa using M⟩,(O.set k _).alloc _,fun x bR bS=>?_,by rw[Oa7,bj];omega,Jc bA _⟩
    ·have:=heap_alloc_new (y.setCell ⟨w.heap.size,k,none⟩ (.slice (some ⟨y.heap.size,0,none⟩) ns.length ns.length)) (.cells C 59);rw[bj]at this;exact this
    rw[Oa9 _ _ x (by rw[bj];exact bR),Oa4 _ _ _ _ bS]
   case round=>
    obtain⟨c,cZ,rfl,U,bx,bJ,cv,Y⟩:=hrel;have bI:=zh bx;by_cases bf:c<ns.length
    ·obtain⟨bn,dd,rfl,cY,cS⟩:=Kc.at (cA.out.below Y) bf;have cN:c<(Yq ns (cs.getD k [])).length:=by rw[Ze];exact bf
     by_cases bi:ns[c]=-1
     ·have cc:(ns[c] != -1)=false:=(by simp[bi]);have bV:=Kcv (Yq ns (cs.getD k [])) c ns.length (Ze _ _) bf (by simp[Yq,bi]);rw[bV]at U;have bL:=zh U;clear U bx O bD bA bj bV bi;go_wp2;go_roundw
      case rel=>exact⟨c+1,zo,zn,bL.out,bI.out,bJ,cv,Y⟩
      case measure=>simp[intOf];omega
     have cc:(ns[c] != -1)=true:=(by simp[bi]);have db:=(cz.out _ (Ob3 bf)).resolve_left bi;obtain⟨u,cx⟩:∃ u:Nat,ns[c]=(u:Int):=⟨ns[c].toNat,zo⟩;have cQ:u<n:=zo;rw[cx]at cS cc;have bQ:u<(cs.getD k []).length:=by rw[bM.out.2];exact cQ
     obtain⟨b2,bH,cJ,cX,z1,z2,bT⟩:=(bM.out.1.below Y).at bQ;subst cJ;obtain⟨cV,dc,bY,cW,_⟩:=bM.out.1.at bQ;simp only[Oc9,Oh2,and_true]at bY;obtain⟨rfl,rfl⟩:=bY;have bP:=bx.cell bh;simp only[if_true]at bP;have cj:(Yq ns (cs.getD k []))[c]=(cs.getD k [])[u]:=by
      simp only[Yq,Od9,cx];rw[if_neg zo,Int.toNat_natCast,Oa0 (l:=cs.getD k []),Oa3 bQ];rfl
     have hlen:((Yq ns (cs.getD k [])).take c++List.replicate (ns.length-c) Jf).length=ns.length:=by
      rw[Oa8,Oc7,Ze,Od6];omega
     obtain⟨old,⟨c0,cF⟩,⟨c1,I⟩,⟨c2,M⟩,bE⟩:=U.put (Yq ns (cs.getD k []))[c] c (by rw[hlen];exact bf);rw[Jk1 (Yq ns (cs.getD k [])) c ns.length (Ze _ _) bf,cj]at bE;have df:wr.cell? ⟨g,k,none⟩=some (.slice (some ⟨b2,bH,none⟩) n ck):=by rw[Y.cell (p:=⟨g,k,none⟩) ca,<-Z.cell (p:=⟨g,k,none⟩) ca];exact x1
     generalize (cs.getD k [])[u]=v at z1 z2 bT bE;have cC:=zh bE;have bk:=Z.size;clear bE hlen cN bx O bD bA bj cj bi;go_wp2;refine wp_region_held_drew (S:=fun X=>X.cell? ⟨w.heap.size,k,none⟩=some (.slice (some ⟨y.heap.size,0,none⟩) ns.length ns.length)/\X.cell? ⟨b2,bH+u*3,none⟩=some (.int .i64 v.k)/\X.cell? ⟨b2,bH+u*3+1,none⟩=some (.int .i64 v.n)/\X.cell? ⟨b2,bH+u*3+2,none⟩=some (.string v.s)) zK ⟨bP,z1,z2,bT⟩ (fun K=>?_);refine tkj 0 rfl K ?_;refine tkj 1 rfl K ?_;refine tkj 2 rfl K ?_;refine tkj 3 rfl K ?_;refine tkj 4 rfl K ?_;refine tkj 5 rfl K ?_;refine tkj 6 rfl K ?_;refine tkj 7 rfl K ?_;refine tkj 8 rfl K ?_;refine tkj 9 rfl K ?_;refine tkn ?_;refine tkr 10 rfl fun cD hK=>?_;go_simp;have bz:∀ (b o:Nat) (u:Value),b≠y.heap.size->wr.cell? ⟨b,o,none⟩=some u->(((wr.setCell ⟨y.heap.size,c*3,none⟩ (.int .i64 v.k)).setCell ⟨y.heap.size,c*3+1,none⟩ (.int .i64 v.n)).setCell ⟨y.heap.size,c*3+2,none⟩ (.string v.s)).cell? ⟨b,o,none⟩=some u:=fun b o u hb hv=>by
      exact zaf
     refine hK.out _ _ ⟨bz _ _ _ zo bP,bz _ _ _ zo z1,bz _ _ _ zo z2,bz _ _ _ zo bT⟩ (fun cI=>?_);clear hK cD bz K cI c0 cF c1 I c2 M;refine wpAnyH_done zK ?_ _;have cO:Hid ((((wr.setCell ⟨y.heap.size,c*3,none⟩ (.int .i64 v.k)).setCell ⟨y.heap.size,c*3+1,none⟩ (.int .i64 v.n)).setCell ⟨y.heap.size,c*3+2,none⟩ (.string v.s)).rowIs w.heap.size 60 cs.length (fun j=>if j=k then .slice (some ⟨y.heap.size,0,none⟩) ns.length ns.length else if j<k then .slice (some ⟨bs.getD j 0,0,none⟩) ns.length ns.length else .slice none 0 0)):=
      ((bI.out.setOther (a:=⟨y.heap.size,c*3,none⟩) (by show w.heap.size≠y.heap.size;omega) _).setOther (a:=⟨y.heap.size,c*3+1,none⟩) (by show w.heap.size≠y.heap.size;omega) _).setOther (a:=⟨y.heap.size,c*3+2,none⟩) (by show w.heap.size≠y.heap.size;omega) _
     have cL:Below w.heap.size w (((wr.setCell ⟨y.heap.size,c*3,none⟩ (.int .i64 v.k)).setCell ⟨y.heap.size,c*3+1,none⟩ (.int .i64 v.n)).setCell ⟨y.heap.size,c*3+2,none⟩ (.string v.s)):=
      ((Y.setCell (p:=⟨y.heap.size,c*3,none⟩) bk _).setCell (p:=⟨y.heap.size,c*3+1,none⟩) bk _).setCell (p:=⟨y.heap.size,c*3+2,none⟩) bk _
     have cB:Hid (∀ x,x<y.heap.size->x≠w.heap.size->(((wr.setCell ⟨y.heap.size,c*3,none⟩ (.int .i64 v.k)).setCell ⟨y.heap.size,c*3+1,none⟩ (.int .i64 v.n)).setCell ⟨y.heap.size,c*3+2,none⟩ (.string v.s)).heap[x]?=y.heap[x]?):=fun x bR bS=>by
      rw[Oa4 _ _ _ _ (by show x≠y.heap.size;omega),Oa4 _ _ _ _ (by show x≠y.heap.size;omega),Oa4 _ _ _ _ (by show x≠y.heap.size;omega)];exact bJ.out x bR bS
     have cP:y.heap.size<(((wr.setCell ⟨y.heap.size,c*3,none⟩ (.int .i64 v.k)).setCell ⟨y.heap.size,c*3+1,none⟩ (.int .i64 v.n)).setCell ⟨y.heap.size,c*3+2,none⟩ (.string v.s)).heap.size:=by simp[World.setCell];exact cv
     generalize ((wr.setCell ⟨y.heap.size,c*3,none⟩ (.int .i64 v.k)).setCell ⟨y.heap.size,c*3+1,none⟩ (.int .i64 v.n)).setCell ⟨y.heap.size,c*3+2,none⟩ (.string v.s)=de at *;go_wp2;go_roundw
     case rel=>exact⟨c+1,zo,zn,cC.out,cO.out,cB.out,cP,cL.drew⟩
     case measure=>simp[intOf];omega
    obtain rfl:c=ns.length:=zo;rw[Oe1,List.replicate_zero,Od7,Oc8 (by rw[Ze];exact Oa2 _)]at U;have bL:=zh U;have bk:=Z.size;clear U bx O bD bA bj;go_wp2;go_roundw
    case rel=>
     refine⟨k+1,bs++[y.heap.size],zo,zn,by show _=_;rw[Oa8,br.out];rfl,bI.out.congr fun j H=>?_,fun j b hb=>?_,Y⟩
     ·have bC:=br.out;by_cases e:j=k
      ·subst e;simp[bC]
      by_cases bW:j<k
      ·have bO:j<k+1:=zo;simp[e,bW,bO,List.getElem?_append_left (show j<bs.length by omega)]
      have bO:¬ j<k+1:=zo;simp[e,bW,bO]
     by_cases e:j<bs.length
     ·rw[Ob0 e]at hb;obtain⟨cy,cR⟩:=bK.out j b hb;exact⟨cy.of_block (bJ.out b cy.lt zo),cR⟩
     have bC:=br.out;have H:j=k:=by
      have:=(Ob9.1 hb).1;simp at this;omega
     subst H;rw[<-bC,Ob6 (Oa2 _),Oe1]at hb;simp at hb;subst hb;exact⟨bL.out,zo⟩
    case measure=>simp[intOf];omega
  obtain rfl:k=cs.length:=zo;go_wp2;go_ret
  refine⟨Z,rfl,(List.range cs.length).map fun j=>((some ⟨bs.getD j 0,0,none⟩:Option Addr),ns.length),⟨?_,fun j H=>?_,fun j H=>?_⟩,fun j H b o e=>?_⟩
  ·rw[Oa6];refine(Kua O).congr fun j H=>?_;rw[if_pos H];have I:Yo ((List.range cs.length).map fun j=>((some ⟨bs.getD j 0,0,none⟩:Option Addr),ns.length)) j=(some ⟨bs.getD j 0,0,none⟩,ns.length):=by simp[Yo,H]
   have M:((cs.map (Yq ns)).getD j []).length=ns.length:=by
    rw[Oa0,Ob1,Oa3 H];exact Ze _ _
   rw[I,M]
  ·rw[Oa6]at H;have I:Yo ((List.range cs.length).map fun j=>((some ⟨bs.getD j 0,0,none⟩:Option Addr),ns.length)) j=(some ⟨bs.getD j 0,0,none⟩,ns.length):=by simp[Yo,H]
   have M:(cs.map (Yq ns)).getD j []=Yq ns (cs.getD j []):=by
    rw[Oa0,Ob1,Oa3 H,Oa0,Oa3 H];rfl
   rw[I,M];have bB:j<bs.length:=by rw[br.out];exact H
   have:=(bK.out j bs[j] (Oa3 bB)).1.vals;have cG:bs.getD j 0=bs[j]:=by rw[Oa0,Oa3 bB];rfl
   rw[cG];exact this
  ·rw[Oa6]at H;have I:Yo ((List.range cs.length).map fun j=>((some ⟨bs.getD j 0,0,none⟩:Option Addr),ns.length)) j=(some ⟨bs.getD j 0,0,none⟩,ns.length):=by simp[Yo,H]
   have M:((cs.map (Yq ns)).getD j []).length=ns.length:=by
    rw[Oa0,Ob1,Oa3 H];exact Ze _ _
   rw[I,M];exact Oa2 _
  have bC:=br.out;have bB:j<bs.length:=zo;have cH:(Yo ((List.range cs.length).map fun j=>((some ⟨bs.getD j 0,0,none⟩:Option Addr),ns.length)) j).1=some ⟨bs.getD j 0,0,none⟩:=by
   unfold Yo;rw[Oa0,Ob1,Oh6 H];rfl
  rw[cH]at e;cases e
  have:=bK.out j (bs.getD j 0) (by rw[Oa0,Oa3 bB];rfl);exact⟨Nat.le_of_lt this.2,this.1.lt⟩
end
section
open Go.RowKit
attribute [local go_sem] Oc0
end
section
open Go.RowKit Go.Shelf Tryz
def KpB (Fx:Nat->Prop)(W y:World):Prop:=W.heap.size<=y.heap.size/\∀ k,Fx k->y.heap[k]?=W.heap[k]?
theorem KpB.trans {Fx A B C}(h:KpB Fx A B)(k:KpB Fx B C):KpB Fx A C:=⟨Ob2 h.1 k.1,fun i hi=>(k.2 i hi).trans (h.2 i hi)⟩
theorem KpB.of_below {Fx A B}(h:Below A.heap.size A B)(hF:∀ k,Fx k->k<A.heap.size):KpB Fx A B:=⟨h.size,fun k hk=>h.block k (hF k hk)⟩
def Jbo (g:Nat)(hs:List (Option Addr×Nat))(k:Nat)(F:Nat->Prop):Prop:=F g/\∀ j,j<k->∀ b o,(Yo hs j).1=some ⟨b,o,none⟩->F b
theorem Qd.kp {Fx W y g hs cs}(h:Qd W g hs cs)(hk:KpB Fx W y)(hF:Jbo g hs cs.length Fx):Qd y g hs cs:=
 ⟨h.row.of_block (hk.2 g hF.1),fun j H=>(h.vals j H).of_block hk.1 fun b o e _=>hk.2 b (hF.2 j H b o e),h.cap⟩
abbrev Bat:=Nat×Nat×Nat
def Kgp (B:Nat)(hs:List (Option Addr×Nat))(cols:List (List V))(N z:Nat)(x:Bat)(W:World):Prop:=x.1+x.2.1<=N/\(1<=x.2.1/\x.2.1<=z)/\B<=x.2.2/\Qd W x.2.2 (Jnt hs cols.length x.1 (x.1+x.2.1)) (cols.map (Jbx x.1 (x.1+x.2.1)))
theorem Jjx (n:Nat)(hn:1<=n)(I H g cap:Nat)hs cols(N z:Nat)(bK:1<=z)(cz:z<=100000)(ci:N<=100000)(bi:1<=cols.length)(ca:cols.length<=1000)w(hC:Qd w g hs cols)(bG:∀ j,j<cols.length->(cols.getD j []).length=N)(bz:w.cell? ⟨I,0,none⟩=some (.slice (some ⟨g,0,none⟩) cols.length cap))(bx:w.cell? ⟨H,0,none⟩=some (.int .i64 (z:Int)))Fx(hF:Fx I/\Fx H/\Jbo g hs cols.length Fx)(bA:∀ k,Fx k->k<w.heap.size):
  Kh4 Fence.wide n prog 140 #[.pointer (some ⟨I,0,none⟩),.pointer (some ⟨H,0,none⟩)] (fun x:Bat=>#[.int .i64 (x.1:Int),.slice (some ⟨x.2.2,0,none⟩) cols.length cols.length]) (Kgp w.heap.size hs cols N z) (KpB Fx) (fun y=>y.map (fun x=>(x.1,x.2.1))=cks N z (ckN N z)) (fun cb=>∃ k,k<=ckN N z/\cb.map (fun x=>(x.1,x.2.1))=cks N z k) (ckN N z) w:=by
 intro l J cc W hW bB bS bD h0;have bC:∀ s A O,Below A.heap.size A O->J s A->J s O:=fun s A O hb h=>bB s A O none h ⟨hb.os,hb.tape,hb.output,hb.size,fun k hk _=>hb.block k hk⟩ (fun r e=>by cases e);have bL:=zh bC;have bO:=zh bD;have U:Hid (Qd W g hs cols/\(∀ j,j<cols.length->(cols.getD j []).length=N)):=⟨hC.below hW,bG⟩;have K:Hid ((Fx I/\Fx H/\Jbo g hs cols.length Fx)/\∀ k,Fx k->k<W.heap.size):=⟨hF,fun k hk=>Oc2 (bA k hk) hW.size⟩;have bQ:=Ja hW bz;have br:=Ja hW bx;have cj:=hW.size;clear bC bD hC bG hF bA bz bx bB bS;have bf:=U.out.1.row.cell bi;rw[U.out.2 0 bi]at bf;have hlen:=Jlg g cols.length cap (Yo hs 0).1 N (Yo hs 0).2 W bi bf;clear bf;refine callsIn_of_wp func140 rfl trivial ?_ rfl;simp only[ntmps140,Om3,List.length_cons,List.length_nil,Nat.reduceAdd,Nat.reduceSub,Ok9,Array.replicate_zero,Om4,Ol2,List.nil_append,List.cons_append];gi_wp2_with (refine⟨trivial,?_⟩;gi_at_call 55;refine(callsIn_wide.2 hlen).mono ?_;rintro e w' ⟨rfl,bZ⟩;rw[bZ])
 gi_loopw [5] (fun i wr=>∃ (k:Nat) (y:List Bat),k<=ckN N z/\i=.int .i64 ((k*z:Nat):Int)/\Hid (y.map (fun x=>(x.1,x.2.1))=cks N z k)/\J y wr/\KpB Fx W wr) (fun i _=>N+100000-(intOf i).toNat)
 case atStart=>exact⟨0,[],Ob7 _,zS,rfl,h0,Oa2 _,fun _ _=>rfl⟩
 case round=>
  obtain⟨k,y,hk,rfl,Y,bh,M⟩:=hrel;have c1:wr.cell? ⟨I,0,none⟩=some (.slice (some ⟨g,0,none⟩) cols.length cap):=by rw[Oc3 (w:=W) (M.2 I K.out.1.1)];exact bQ
  have c2:wr.cell? ⟨H,0,none⟩=some (.int .i64 (z:Int)):=by rw[Oc3 (w:=W) (M.2 H K.out.1.2.1)];exact br
  by_cases bJ:k*z<N
  ·have bH:=Khi bK bJ;have Z:Hid (cks N z (k+1)=cks N z k++[(k*z,min z (N-k*z))]):=Jbj N z k;have bN:Hid ((k+1)*z=k*z+z):=Of5 k z;have cy:y.length=k:=by have:=congrArg List.length Y.out;rw[Oa6,Jbp]at this;exact this
   generalize k*z=i at *;obtain⟨m,bW,bj⟩:∃ m:Nat,(i+m<=N/\1<=m/\m<=z)/\Hid (m=min z (N-i)):=⟨min z (N-i),zo,rfl⟩;rw[<-bj.out]at Z;obtain⟨cn,bX,bY⟩:=bW;have cu:min ((i:Int)+(z:Int)) (N:Int)=(i:Int)+(m:Int):=by have:=bj.out;omega
   have cv:IntKind.i64.wrap ((i:Int)+(z:Int))=(i:Int)+(z:Int):=by rw[Od4];omega
   have hcut:=Kdx g cap hs cols N i (i+m) wr (U.out.1.kp M K.out.1.2.2) U.out.2 zo zo ca;rw[Int.natCast_add]at hcut;have cx:W.heap.size<=wr.heap.size:=M.1;have cf:=bh;gi_wp2_with (refine⟨trivial,?_⟩;gi_at_call 113;refine(callsIn_wide.2 hcut).mono ?_;rintro e bP ⟨bE,rfl,bU⟩;obtain⟨fn,tmps,assign,body,hy,hR⟩:=bO.out y (i,m,wr.heap.size) bP (bL.out _ _ _ bE bh) ⟨by show i+m<=N;omega,⟨bX,bY⟩,by show w.heap.size<=wr.heap.size;omega,bU⟩ zo;dsimp only at hy)
   refine hR.mono ?_;rintro e bk (⟨rfl,bR,bV⟩|⟨rfl,bT⟩)
   ·have bI:KpB Fx W bk:=(M.trans (KpB.of_below bE (fun k hk=>by have:=K.out.2 k hk;omega))).trans bV;have c3:bk.cell? ⟨H,0,none⟩=some (.int .i64 (z:Int)):=by rw[Oc3 (w:=W) (bI.2 H K.out.1.2.1)];exact br
    gi_wp2
    go_roundw
    case rel=>exact⟨k+1,y++[(i,m,wr.heap.size)],bH,by rw[bN.out];go_num,by show _=_;rw[Ob8,Y.out,Z.out];rfl,bR,bI⟩
    case measure=>simp[intOf];omega
   gi_wp2
   refine bodyPost_ret (results_none rfl _ _ _) rfl ?_;exact⟨⟨_,rfl⟩,.inr ⟨_,⟨k+1,bH,by rw[Ob8,Y.out,Z.out];rfl⟩,bT⟩⟩
  have bM:Hid (k=ckN N z):=by
   rcases Oc1 k (ckN N z)with h'|h'
   ·exact absurd (Jqs bK h') bJ
   ·show k=_;omega
  gi_wp2
  go_end0
  exact⟨⟨_,rfl⟩,.inl ⟨y,by rw[Y.out,bM.out],bh⟩⟩
attribute [local go_sem] Oc0
theorem Jfy w a n cap c(h:n<=cap)ty:(Builtin.append_ #[60,60] ty #[.slice a n cap,.slice none 0 c]).run prog w=.ok (.slice a n cap) w:=by
 have y:(sizeOf 59).run prog w=.ok 3 w:=zK;cases a with
 |none=>simp[Builtin.append_,run_underlying underlying60,y,Builtin.lenOf,Builtin.firstCells,h,Result.andThen]
 |some H=>simp[Builtin.append_,run_underlying underlying60,y,Builtin.lenOf,Builtin.firstCells,storeCells,h,Result.andThen]
theorem Jju {w Y rest o a Q}(O:o.guard=none)s x(ho:o.op=.call {callee:=.builtin .append,args:=#[s,x],argTypes:=#[60,60]})B sv y(hs:a.eval s=sv)(H:Yt w B sv y)M c vs(K:a.eval x=.slice M vs.length c)(hv:Jv w M vs)(hlen:y.length+vs.length<=1000000)(bj:B<=w.heap.size)(h:∀ sv' w',Yt w' B sv' (y++vs)->w.grownBy w' sv.ownBlock->(sv'.ownBlock=sv.ownBlock\/sv'.ownBlock=some w.heap.size)->wpList prog Y Q rest (a.put o.dst sv') w'):
  wpList prog Y Q (o::rest) a w:=by
 cases M with
 |none=>
  have bz:vs=[]:=by
   rcases hv with hv|⟨b,bB,hb,_⟩
   ·exact hv
   simp at hb
  subst bz;refine wpList_plain O fun bD hK=>?_;have hr:(Builtin.append_ #[60,60] o.type #[sv,.slice none 0 c]).run prog w=.ok sv w:=by
   rcases H.2 with⟨I,_⟩|⟨g,cap,bE,I,_,_,br,_⟩
   ·rw[I];exact Jfy w none 0 0 c (Oa2 _) _
   rw[I];exact Jfy w _ _ cap c br _
  unfold Oper.wp execOp;simp only[List.length_nil]at K;simp only[ho,resolve,invoke,builtin,Og8,Sem.run_pure,Result.andThen_ok,List.map_toArray,Oe4,Oi4,hs,K,hr];exact hK _ _ (h sv w (by rw[Od7];exact H) (World.grownBy.refl _ _) (.inl rfl))
 |some Z=>
  obtain⟨i,hi,bA,bx,bk⟩:=info_parts Jow;refine wpList_append_own_at w O s x 60 ho B 59 i _ 3 32 zK hi bA bx bk rfl zd sv y.length (y.flatMap V.cells) hs H Z vs.length c (vs.flatMap V.cells) K (Ja5 vs) ?_ ?_ ?_ ?_ bj ?_
  ·intro j u U;rcases hv with hv|⟨b,bB,hb,_,hv⟩
   ·subst hv;simp at U
   simp only[Oc9]at hb;subst hb;have:=Kem hv j u U;exact this
  ·exact Kap vs
  ·unfold maxLen;omega
  ·omega
  intro bC w' bf bh _ bi;refine h bC w' ?_ bh bi;unfold Yt;simpa using bf
def Jdi (cs y:List (List V))(k:Nat):List (List V):=(List.range cs.length).map fun j=>if j<k then cs.getD j []++y.getD j []else cs.getD j []
theorem Jf9 cs y k:(Jdi cs y k).length=cs.length:=by simp[Jdi]
theorem Jlm cs y k j(H:j<cs.length):(Jdi cs y k).getD j []=if j<k then cs.getD j []++y.getD j []else cs.getD j []:=by
 rw[Oa0];simp only[Jdi,Ob1,Oh6 H,Option.map_some,Option.getD_some]
theorem Kat cs y:Jdi cs y 0=cs:=by
 apply Oh4
 ·simp[Jdi]
 intro j I H;simp[Jdi,H]
theorem Jy5 cs y k(hk:k<cs.length):(Jdi cs y k).set k ((Jdi cs y k).getD k []++y.getD k [])=Jdi cs y (k+1):=by
 apply Oh4
 ·simp[Jdi]
 intro j K I;have M:j<cs.length:=by simpa [Jdi] using I
 rw[List.getElem_set];by_cases e:k=j
 ·subst e;rw[if_pos rfl,Jlm cs y k k hk,if_neg (Oe3 _)];simp[Jdi]
 rw[if_neg e];simp only[Jdi,Od9,Oo7];by_cases H:j<k
 ·rw[if_pos H,if_pos zo]
 rw[if_neg H,if_neg zo]
structure Kgu (w:World) (g:Nat) (hs:List (Option Addr×Nat)) (cs:List (List V)):Prop where
 lt:g<w.heap.size
 cell:∀ j,j<cs.length->w.cell? ⟨g,j,none⟩=some (.slice (Yo hs j).1 (cs.getD j []).length (Yo hs j).2)
 vals:∀ j,j<cs.length->Jv w (Yo hs j).1 (cs.getD j [])
theorem Qd.loose {w g hs cs}(h:Qd w g hs cs):Kgu w g hs cs:=⟨h.row.lt,fun _ y=>h.row.cell y,h.vals⟩
theorem Kb4 B g cap K cs g2 cx hs y w(cz:Jar w B g K cs)(bL:Kgu w g2 hs y)(hl:y.length=cs.length)(bO:∀ j,j<cs.length->(cs.getD j []).length+(y.getD j []).length<=1000000)(cy:B<=w.heap.size)(hw:cs.length<=1000)(bM:∀ j b,j<cs.length->(Uq K j).ownBlock=some b->b≠g2/\∀ k Y bG,k<y.length->(Yo hs k).1=some ⟨Y,bG,none⟩->b≠Y)(bR:g≠g2/\∀ k Y bG,k<y.length->(Yo hs k).1=some ⟨Y,bG,none⟩->g≠Y):
  Calls prog 109 #[.slice (some ⟨g,0,none⟩) cs.length cap,.slice (some ⟨g2,0,none⟩) y.length cx] w fun e w'=>e=.returned (.tuple #[])/\(∃ cc,Jar w' B g cc (Jdi cs y cs.length)/\∀ j b,j<cs.length->(Uq cc j).ownBlock=some b->(Uq K j).ownBlock=some b\/w.heap.size<=b)/\Below B w w'/\w.heap.size<=w'.heap.size/\∀ x,x<w.heap.size->x≠g->(∀ j,j<cs.length->(Uq K j).ownBlock≠some x)->w'.heap[x]?=w.heap[x]?:=by
 have bB:=zh bL;have bI:=zh bM;have bJ:=zh bR;have ci:=zh bO;clear bL bM bR bO;rw[hl];go_enter func109,ntmps109
 go_wp2;go_loopw [8] (fun i wr=>∃ (k:Nat) (M:List Value),k<=cs.length/\i=.int .i64 (k:Int)/\Jar wr B g M (Jdi cs y k)/\Hid ((∀ j,k<=j->Uq M j=Uq K j)/\∀ j b,j<cs.length->(Uq M j).ownBlock=some b->(Uq K j).ownBlock=some b\/w.heap.size<=b)/\Below B w wr/\Hid (w.heap.size<=wr.heap.size/\∀ x,x<w.heap.size->x≠g->(∀ j,j<cs.length->(Uq K j).ownBlock≠some x)->wr.heap[x]?=w.heap[x]?)) (fun i _=>cs.length-(intOf i).toNat)
 case atStart=>exact⟨0,K,Ob7 _,rfl,by rw[Kat];exact cz,⟨fun j _=>rfl,fun j b _ e=>.inl e⟩,Oa5 _ _,⟨Oa2 _,fun x _ _ _=>rfl⟩⟩
 case round=>
  obtain⟨k,M,hk,rfl,I,bk,bQ,H⟩:=hrel;by_cases bh:k<cs.length
  ·have bf:k<(Jdi cs y k).length:=by rw[Jf9];exact bh
   have bx:k<y.length:=zo;have cC:=bB.out.lt;have bN:wr.heap[g2]?=w.heap[g2]?:=H.out.2 g2 cC (Oc5 bJ.out.1) (fun j O e=>(bI.out j g2 O e).1 rfl);have x1:=(Oc3 (a:=⟨g2,k,none⟩) bN).trans (bB.out.cell k bx);obtain⟨bD,ck,Z⟩:∃ bD ck,Yo hs k=(bD,ck):=⟨_,_,rfl⟩;have bX:Jv wr bD (y.getD k []):=by
    have:=bB.out.vals k bx;rw[Z]at this;refine this.of_block H.out.1 fun b o hb cA=>H.out.2 b cA ?_ ?_
    ·exact fun e=>bJ.out.2 k b o bx (by rw[Z];exact hb) e.symm
    exact fun j O e=>(bI.out j b O e).2 k b o bx (by rw[Z];exact hb) rfl
   rw[Z]at x1;simp only at x1;obtain⟨vs,bA⟩:∃ vs,y.getD k []=vs:=⟨_,rfl⟩;rw[bA]at x1 bX;have cu:=zh bA;obtain⟨sv,bi⟩:∃ sv,Uq M k=sv:=⟨_,rfl⟩;have bC:=zh bi;obtain⟨U,bz⟩:∃ U,(Jdi cs y k).getD k []=U:=⟨_,rfl⟩;have cn:=zh bz;have cj:Hid (U.length+vs.length<=1000000):=by
    show _<=_;rw[<-bz,<-bA,Jlm cs y k k bh,if_neg (Oe3 _)];exact ci.out k bh
   have cf:=I.row.cell (i:=k) (by rw[I.len];exact bf);rw[bi]at cf;have cF:=I.row.frozen k;have bE:=I.own k bf;rw[bi,bz]at bE;have cv:Hid (∀ br,wr.grownBy br sv.ownBlock->br.cell? ⟨g,k,none⟩=some sv/\br.frozen? ⟨g,k,none⟩=false):=fun br cB=>by
    have hn:=I.ne k bf;rw[bi]at hn;have hb:=cB.block g I.row.lt (fun e=>hn e.symm);exact⟨by rw[Oc3 hb];exact cf,by rw[Ol7 hb];exact cF⟩
   have bP:B<=wr.heap.size:=Ob2 cy H.out.1;clear Z bA bi bz bN;go_wp2_with (first|(at_builtin;refine Jju zR _ _ zR B _ U zR bE _ _ vs zR bX cj.out bP ?_;intro sv' bH ca bj cb;obtain⟨cI,cJ⟩:=cv.out bH bj;obtain⟨bK,c5,bW,_⟩:=ca.vals;rw[Oa8]at bW;subst bW))
   go_roundw
   case rel=>
    have bU:(Uq K k).ownBlock=sv.ownBlock:=by rw[<-bk.out.1 k (Oa2 _),bC.out]
    have bT:=I.put (vs:=vs) (sv':=.slice bK (U.length+vs.length) c5) bf (by rw[cn.out];exact ca) (by rw[bC.out];exact bj) (by rw[bC.out];exact cb);have bV:=Jy5 cs y k bh;rw[cu.out]at bV;rw[bV]at bT;have bS:k<M.length:=by rw[I.len];exact bf
    refine⟨k+1,_,zo,zn,bT,⟨fun j O=>?_,fun j b O e=>?_⟩,(bQ.grown bj bP (fun b hb=>(Je bE hb).1)).setCell (p:=⟨g,k,none⟩) I.low _,⟨?_,fun x cE bY bZ=>?_⟩⟩
    ·rw[Jem bS,if_neg zo];exact bk.out.1 j zo
    ·rw[Jem bS]at e;split at e
     ·rename_i cD
      subst cD;rcases cb with q|q
      ·rw[q]at e;exact .inl (bU.trans e)
      rw[q]at e;simp only[Oc9]at e;exact .inr (by have:=H.out.1;omega)
     exact bk.out.2 j b O e
    ·have cG:=H.out.1;have cH:=bj.size;have:(bH.setCell ⟨g,k,none⟩ (.slice bK (U.length+vs.length) c5)).heap.size=bH.heap.size:=by simp[World.setCell]
     omega
    rw[Oa4 _ _ _ _ bY,bj.block x (by have:=H.out.1;omega) (fun e=>bZ k bh (by rw[bU];exact e.symm))];exact H.out.2 x cE bY bZ
   case measure=>simp[intOf];omega
  obtain rfl:k=cs.length:=zo;go_wp2;go_end0
  exact⟨rfl,⟨M,I,bk.out.2⟩,bQ,H.out.1,H.out.2⟩
end
open Go.RowKit Tryz
theorem zaC {p:Prop}(h:p:=by
 go_wp2;go_ret
 refine⟨Qr ?_,Oa5 _ _⟩;cases b
 ·rfl
 exact absurd (congrArg List.length (K.out.1 rfl)) hl):p:=h
theorem Jqj a a2 cap Y xs y w(hn:xs.length<=maxLen)(bi:Jv w a xs)(hy:Jv w a2 y)b(hb:b=true↔xs=y):
  Calls prog 26 #[.slice a xs.length cap,.slice a2 y.length Y] w fun e w'=>e=.returned (.bool b)/\Below w.heap.size w w':=by
 unfold maxLen at hn;have K:=zh hb;clear hb;by_cases hl:xs.length=y.length
 ·have O:=zh hl;have Z:((xs.length:Int) != (y.length:Int))=false:=by simp[hl]
  clear hl;go_enter func26,ntmps26
  go_wp2;go_loopw [5] (fun i wr=>∃ k:Nat,k<=xs.length/\i=.int .i64 k/\(∃ m,wr=w.drewN m)/\Hid (∀ j (H:j<xs.length),j<k->xs[j]=y[j]'(O.out▸H))) (fun i _=>xs.length-(intOf i).toNat)
  case atStart=>exact⟨0,Ob7 _,rfl,⟨0,rfl⟩,fun j _ H=>absurd H (Oe0 _)⟩
  case round=>
   obtain⟨k,hk,rfl,⟨m,rfl⟩,U⟩:=hrel;by_cases bf:k<xs.length
   ·have bh:k<y.length:=by have:=O.out;omega
    obtain⟨b1,bk,rfl,_,x1,x2,bx⟩:=bi.at bf;obtain⟨b2,br,rfl,_,bz,bA,bB⟩:=hy.at bh;by_cases I:xs[k]=y[k]
    ·have hq:=Jql _ _ I;have M:=zh I;clear I;go_wp2;go_quiet (fail)
     go_wp2;go_roundw
     case rel=>
      refine⟨k+1,zo,zn,⟨_,rfl⟩,fun j H bj=>?_⟩;by_cases e:j=k
      ·subst e;exact M.out
      exact U.out j H zo
     case measure=>simp[intOf];omega
    have hq:=Jqe _ _ I;have M:=zh I;clear I;go_wp2;go_quiet (fail)
    go_wp2;go_ret
    refine⟨Qr ?_,Jp (Jp (Oa5 _ _) _) _⟩;cases b
    ·rfl
    exact absurd (by rw[List.getElem_of_eq (K.out.1 rfl)]) M.out
   go_wp2;go_ret
   exact⟨Qr (K.out.2 (Ka6 xs y O.out fun j H=>U.out j H zo)).symm,Jp (Oa5 _ _) _⟩
 have Z:((xs.length:Int) != (y.length:Int))=true:=by simp;omega
 go_enter func26,ntmps26
 exact zaC
theorem Kc2 (rs y:List (List V))(hl:rs.length=y.length)(h:∀ j (I:j<rs.length),rs[j]=y[j]'(hl▸I)):rs=y:=Oh4 hl fun i H _=>h i H
theorem Jn2 a a2 cap bj hs bx rs y w(hn:rs.length<=maxLen)(bf:∀ r∈rs,r.length<=maxLen)(bz:Zd w a hs rs)(hy:Zd w a2 bx y)b(hb:b=true↔rs=y):
  Calls prog 13 #[.slice a rs.length cap,.slice a2 y.length bj] w fun e w'=>e=.returned (.bool b)/\Below w.heap.size w w':=by
 unfold maxLen at hn;have K:=zh hb;have bi:=zh bf;clear hb bf;by_cases hl:rs.length=y.length
 ·have M:=zh hl;have bk:((rs.length:Int) != (y.length:Int))=false:=by simp[hl]
  clear hl;go_enter func13,ntmps13
  go_wp2;go_loopw [5] (fun i wr=>∃ k:Nat,k<=rs.length/\i=.int .i64 k/\Below w.heap.size w wr/\Hid (∀ j (H:j<rs.length),j<k->rs[j]=y[j]'(M.out▸H))) (fun i _=>rs.length-(intOf i).toNat)
  case atStart=>exact⟨0,Ob7 _,rfl,Oa5 _ _,fun j _ H=>absurd H (Oe0 _)⟩
  case round=>
   obtain⟨k,hk,rfl,I,Y⟩:=hrel;by_cases Z:k<rs.length
   ·have br:k<y.length:=by have:=M.out;omega
    obtain⟨b1,bK,bA,bC,rfl,bH,x1,bE⟩:=(bz.below I).at Z;obtain⟨b2,bL,bB,bD,rfl,bI,bM,bG⟩:=(hy.below I).at br;obtain⟨bb,O⟩:∃ bb:Bool,bb=true↔rs[k]=y[k]:=⟨(open Classical in decide (rs[k]=y[k])),by open Classical in exact decide_eq_true_iff⟩;have bh:=Jqj bA bB bC bD rs[k] y[k] wr.drew (bi.out _ (Ob3 Z)) (bE.of_block (Oa2 _) fun _ _ _ _=>rfl) (bG.of_block (Oa2 _) fun _ _ _ _=>rfl) bb O;have U:=zh O;clear O;cases bb with
    |true=>
     go_wp2_with fail
     go_region_with (first|(go_at_call 26;refine bh.mono ?_;rintro e w' ⟨rfl,hb⟩))
     all_goals
      go_wp2;go_roundw
      case rel=>
       refine⟨k+1,zo,zn,Jb I (Jw hb),fun j H bJ=>?_⟩;by_cases e:j=k
       ·subst e;exact U.out.1 zS
       exact Y.out j H zo
      case measure=>simp[intOf];omega
    |false=>
     go_wp2_with fail
     go_region_with (first|(go_at_call 26;refine bh.mono ?_;rintro e w' ⟨rfl,hb⟩))
     all_goals
      go_wp2;go_ret
      refine⟨Qr ?_,Jb I (Jw hb)⟩;cases b
      ·rfl
      exact absurd (U.out.2 (by rw[List.getElem_of_eq (K.out.1 rfl)])) zS
   go_wp2;go_ret
   exact⟨Qr (K.out.2 (Kc2 rs y M.out fun j H=>Y.out j H zo)).symm,I⟩
 have bk:((rs.length:Int) != (y.length:Int))=true:=by simp;omega
 go_enter func13,ntmps13
 exact zaC
theorem Jpb n:Jg (wrap64 n):=by
 unfold Jg wrap64;omega
def tOk (t:Int):Prop:=t=1\/t=2\/t=3
theorem Jvl a cap ns w(hn:ns.length<=maxLen)(bG:Kc w a ns):
  Calls prog 18 #[.slice a ns.length cap,.int .i64 6] w fun e w'=>∃ (ts:List Int) (sv:Value),e=.returned sv/\Jo w' w.heap.size 3 sv (ts.map iv)/\(1<=ts.length/\ts.length<=6)/\(∀ t∈ts,tOk t)/\Below w.heap.size w w':=by
 unfold maxLen at hn;go_enter func18,ntmps18
 go_wp2;go_loopw [5,6] (fun sv i wr=>∃ (k:Nat) (ts:List Int),k<=ns.length/\k<=6/\i=.int .i64 k/\Hid (ts.length=k)/\Hid (∀ t∈ts,tOk t)/\Jo wr w.heap.size 3 sv (ts.map iv)/\Below w.heap.size w wr) (fun _ i _=>6-(intOf i).toNat)
 case atStart=>exact⟨0,[],Ob7 _,Ob7 _,rfl,rfl,by intro t ht;simp at ht,Jo.nil _ _ _,Oa5 _ _⟩
 case round=>
  rename_i sv i
  obtain⟨k,ts,hk,bL,rfl,U,O,y,H⟩:=hrel;obtain⟨a1,c1,K,_⟩:=y.cells;rw[Oa6]at K;have bK:=H.size;have bM:ts.length<=6:=by have:=U.out;omega
  by_cases bf:k<ns.length/\k<6
  ·obtain⟨bi,bI⟩:=bf;obtain⟨b1,bO,rfl,bJ,x1⟩:=Kc.at (bG.below H) bi;have br:=fun W=>Jfw (wrap64 (ns[k]-1)) 3 W (Jpb _) zd zd;have bx:=zh br;clear br;subst K;go_wp2_with (first|(go_at_call 9;go_must (refine(bx.out _).mono ?_);rintro e w1 ⟨⟨r,rfl,hr⟩,bN⟩;subst w1)|(at_builtin;go_must (refine Ks zR _ _ 22 3 _ 8 Zw zR zd zK zR w.heap.size _ _ zR (Jo.alloc y _) ⟨wr.heap.size,0,none⟩ 1 [iv (1+(r:Int))] zR (by exact Ua wr _ _) (by intro u M;simp at M;subst M;rfl) (by simp only[List.length_cons,List.length_nil,Oa6];omega) zt ?_);intro sv' bH I Y bA;obtain⟨a2,bz,bh,_⟩:=I.cells;subst bh))
   go_roundw
   case rel=>
    refine⟨k+1,ts++[1+(r:Int)],zo,zo,zn,by show _=_;rw[Oa8,U.out];rfl,?_,by simpa using I,Jy (Jc H _) Y (fun g Z=>(Je y Z).1)⟩;intro t ht;rcases Od2.1 ht with h|h
    ·exact O.out t h
    simp at h;subst h;unfold tOk;omega
   case measure=>simp[intOf];omega
  by_cases h0:ts.length=0
  ·have hts:ts=[]:=Od3.1 h0;subst hts;have bE:=K;subst bE;have bC:k=0:=by have:=U.out;simp at this;omega
   subst bC;by_cases bj:0<ns.length
   ·exact absurd ⟨bj,zo⟩ bf
   have bk:ns.length=0:=zo;have bD:=Od3.1 bk;subst bD;clear bf bj bk h0;simp at y;go_wp2_with (first|(at_builtin;go_must (refine Ks zR _ _ 22 3 _ 8 Zw zR zd zK zR w.heap.size _ [] zR (Jo.alloc (by exact y) _) ⟨wr.heap.size,0,none⟩ 1 [iv 1] zR (by exact Ua wr _ _) (by intro u M;simp at M;subst M;rfl) zS zt ?_);intro sv' bH I Y bA;obtain⟨a2,bz,bh,_⟩:=I.cells;subst bh))
   go_ret
   exact⟨[1],_,rfl,by simpa using I,zS,by intro t ht;simp at ht;subst ht;exact .inl rfl,Jy (Jc H _) Y (fun g Z=>(Je y Z).1)⟩
  have hq:(((ts.length:Nat):Int)==0)=false:=by rw[beq_eq_false_iff_ne];omega
  by_cases bi:k<ns.length
  ·have bB:k=6:=zo;subst bB;subst K;go_wp2;go_ret
   exact⟨ts,_,rfl,y,zo,O.out,H⟩
  subst K;go_wp2;go_ret
  exact⟨ts,_,rfl,y,zo,O.out,H⟩
theorem Jpy t h(ht:tOk t)(h0:0<=h)(y:h<=3)(hn:¬ (t=3/\h=3)):way t h=true:=by
 unfold way tOk at *;rw[decide_eq_true_eq];omega
structure Jfz (ts ns L:List Int) (k:Nat):Prop where
 len:L.length=k
 ok:∀ j (hj:j<L.length),way (ts.getD j 0) L[j]=true
 plain:∀ j (hj:j<L.length),ns.length<=j->L[j]=0
theorem Jfz.more {ts ns L k}(h:Jfz ts ns L k)v(hv:way (ts.getD k 0) v=true)(hp:ns.length<=k->v=0):Jfz ts ns (L++[v]) (k+1):=by
 have hl:=h.len;refine⟨by simp[hl],fun j y=>?_,fun j y hn=>?_⟩
 ·by_cases e:j<L.length
  ·rw[Oi2 e];exact h.ok j e
  have:j=L.length:=by simp at y;omega
  subst this;rw[Ok8 (Oa2 _)];simpa [hl] using hv
 by_cases e:j<L.length
 ·rw[Oi2 e];exact h.plain j e hn
 have:j=L.length:=by simp at y;omega
 subst this;rw[Ok8 (Oa2 _)];simpa using hp zo
theorem Jzt bz bA at_ a ct cap ts ns w(bS:ts.length<=6)(bE:∀ t∈ts,tOk t)(bD:∀ n∈ns,Jg n)(ht:Kc w at_ ts)(bM:Kc w a ns):
  Calls prog 22 #[.agg #[bz,.slice at_ ts.length ct,bA],.slice a ns.length cap] w fun e w'=>∃ (hs:List Int) (sv:Value),e=.returned sv/\Jo w' w.heap.size 3 sv (hs.map iv)/\Jfz ts ns hs ts.length/\Below w.heap.size w w':=by
 have bH:=zh bE;have bG:=zh bD;clear bE bD;have bJ:Below w.heap.size w (w.alloc (.cells #[bz,.slice at_ ts.length ct,bA] 25)):=(Oa5 _ _).alloc (Oa2 _) _;go_enter func22,ntmps22
 go_wp2;go_loopw [5,6] (fun sv i wr=>∃ (c:Nat) (L:List Int),c<=ts.length/\i=.int .i64 c/\Hid (Jfz ts ns L c)/\Jo wr (w.heap.size+1) 3 sv (L.map iv)/\Below (w.heap.size+1) (w.alloc (.cells #[bz,.slice at_ ts.length ct,bA] 25)) wr) (fun _ i _=>ts.length-(intOf i).toNat)
 case atStart=>exact⟨0,[],Ob7 _,rfl,⟨rfl,zS,zS⟩,Jo.nil _ _ _,Oa5 _ _⟩
 case round=>
  rename_i sv i
  obtain⟨c,L,bR,rfl,Y,I,M⟩:=hrel;obtain⟨a1,c1,br,_⟩:=I.cells;rw[Oa6]at br;have bK:=M.size;simp at bK;have bO:L.length<=6:=by have:=Y.out.len;omega
  have bj:Below w.heap.size w wr:=bJ.trans (M.mono (Nat.le_succ _));have bN:wr.cell? ⟨w.heap.size,1,none⟩=some (.slice at_ ts.length ct):=by rw[M.cell (p:=⟨w.heap.size,1,none⟩) zS];simp
  by_cases bk:c<ts.length
  ·obtain⟨b1,bU,rfl,bP,x1⟩:=Kc.at (ht.below bj) bk;have bf:Hid (ts.getD c 0=ts[c]):=by show _=_;simp[bk]
   have Z:=bH.out _ (Ob3 bk);unfold tOk at Z;subst br;by_cases bC:c<ns.length
   ·obtain⟨b2,bV,rfl,bQ,x2⟩:=Kc.at (bM.below bj) bC;have bL:=Jfw ns[c] 4 wr (bG.out _ (Ob3 bC)) zd zd;go_wp2_with fail
    refine bL.mono ?_;rintro e w1 ⟨⟨r,rfl,hr⟩,bT⟩;subst w1;by_cases bI:r=3
    ·subst bI;by_cases bx:ts[c]=3
     ·have hq:(ts[c]==3)=true:=by rw[beq_iff_eq];exact bx
      rw[bx]at x1;go_wp2_with (at_builtin;go_must (refine Ks zR _ _ 22 3 _ 8 Zw zR zd zK zR (w.heap.size+1) _ _ zR (Jo.alloc I _) ⟨wr.heap.size,0,none⟩ 1 [iv 2] zR (by exact Ua wr _ _) (by intro u H;simp at H;subst H;rfl) (by simp only[List.length_cons,List.length_nil,Oa6];omega) zt ?_);intro sv' bB y K bi;obtain⟨a2,bh,U,_⟩:=y.cells;subst U)
      go_roundw
      case rel=>exact⟨c+1,L++[2],zo,zn,Y.out.more 2 (by rw[bf.out];exact Jpy _ _ Z zo zo zo) (fun h=>zo),by simpa using y,(M.alloc zo _).grown K zt (fun g O=>(Je I O).1)⟩
      case measure=>simp[intOf];omega
     have hq:(ts[c]==3)=false:=by rw[beq_eq_false_iff_ne];exact bx
     go_wp2_with (at_builtin;go_must (refine Ks zR _ _ 22 3 _ 8 Zw zR zd zK zR (w.heap.size+1) _ _ zR (Jo.alloc I _) ⟨wr.heap.size,0,none⟩ 1 [iv 3] zR (by exact Ua wr _ _) (by intro u H;simp at H;subst H;rfl) (by simp only[List.length_cons,List.length_nil,Oa6];omega) zt ?_);intro sv' bB y K bi;obtain⟨a2,bh,U,_⟩:=y.cells;subst U)
     go_roundw
     case rel=>exact⟨c+1,L++[3],zo,zn,Y.out.more 3 (by rw[bf.out];exact Jpy _ _ Z zo zo zo) (fun h=>zo),by simpa using y,(M.alloc zo _).grown K zt (fun g O=>(Je I O).1)⟩
     case measure=>simp[intOf];omega
    have hq:((r:Int)==3)=false:=by rw[beq_eq_false_iff_ne];omega
    go_wp2_with (at_builtin;go_must (refine Ks zR _ _ 22 3 _ 8 Zw zR zd zK zR (w.heap.size+1) _ _ zR (Jo.alloc I _) ⟨wr.heap.size,0,none⟩ 1 [iv (r:Int)] zR (by exact Ua wr _ _) (by intro u H;simp at H;subst H;rfl) (by simp only[List.length_cons,List.length_nil,Oa6];omega) zt ?_);intro sv' bB y K bi;obtain⟨a2,bh,U,_⟩:=y.cells;subst U)
    go_roundw
    case rel=>exact⟨c+1,L++[(r:Int)],zo,zn,Y.out.more (r:Int) (by rw[bf.out];exact Jpy _ _ Z zo zo zo) (fun h=>zo),by simpa using y,(M.alloc zo _).grown K zt (fun g O=>(Je I O).1)⟩
    case measure=>simp[intOf];omega
   go_wp2_with (at_builtin;go_must (refine Ks zR _ _ 22 3 _ 8 Zw zR zd zK zR (w.heap.size+1) _ _ zR (Jo.alloc I _) ⟨wr.heap.size,0,none⟩ 1 [iv 0] zR (by exact Ua wr _ _) (by intro u H;simp at H;subst H;rfl) (by simp only[List.length_cons,List.length_nil,Oa6];omega) zt ?_);intro sv' bB y K bi;obtain⟨a2,bh,U,_⟩:=y.cells;subst U)
   go_roundw
   case rel=>exact⟨c+1,L++[0],zo,zn,Y.out.more 0 (by rw[bf.out];exact Jpy _ _ Z zo zo zo) (fun _=>rfl),by simpa using y,(M.alloc zo _).grown K zt (fun g O=>(Je I O).1)⟩
   case measure=>simp[intOf];omega
  obtain rfl:c=ts.length:=zo;subst br;go_wp2;go_ret
  exact⟨L,_,rfl,Jgl I (Nat.le_succ _),Y.out,bj⟩
def Kgs (ts:List Int)(r:List V):Prop:=r.length=ts.length/\∀ j (y:j<r.length),okB (ts.getD j 0) r[j].k r[j].n r[j].s=true/\Jg r[j].n
theorem Kgd t:okB t Jf.k Jf.n Jf.s=true:=by simp[okB,Jf]
theorem Kf0:Jg Jf.n:=by simp[Jg,Jf]
structure Jkr (w:World) (tb:Nat) (name:ByteArray) (tsv rv:Value) (bs:List Nat) (rs:List (List V)):Prop where
 cells:w.heap[tb]?=some (.cells #[.string name,tsv,rv] 25 (0,0))
 own:Jo w (tb+1) 61 rv (List.zipWith Jad bs rs)
 len:bs.length=rs.length
 rows:∀ (i:Nat) b r,bs[i]?=some b->rs[i]?=some r->Kv w b r []
 new:∀ b∈bs,tb<b/\rv.ownBlock≠some b
 nd:bs.Nodup
theorem Jkr.lt {w tb name y rv bs rs}(h:Jkr w tb name y rv bs rs):tb<w.heap.size:=Jd h.cells
theorem Jkr.below {w w' tb name y rv bs rs}(h:Jkr w tb name y rv bs rs)(hb:Below w.heap.size w w'):Jkr w' tb name y rv bs rs:=
 ⟨(hb.block _ h.lt).trans h.cells,h.own.below hb,h.len,fun i b r hi hr=>(h.rows i b r hi hr).of_block (hb.block _ (h.rows i b r hi hr).lt),h.new,h.nd⟩
theorem Jpz bs rs(h:bs.length=rs.length)b r:List.zipWith Jad (bs++[b]) (rs++[r])=List.zipWith Jad bs rs++[Jad b r]:=by
 rw[List.zipWith_append h];rfl
theorem Jkr.more {w w4 tb name O rv rv' bs rs}(h:Jkr w tb name O rv bs rs)rb r(hr:Kv w rb r [])(bk:tb<rb)(Y:rv.ownBlock≠some rb)(K:rb∉bs)o(bf:Jo w4 (tb+1) 61 rv' (List.zipWith Jad bs rs++[Jad rb r]))(bi:(w.alloc o).grownBy w4 rv.ownBlock)(hb:rv'.ownBlock=rv.ownBlock\/rv'.ownBlock=some (w.alloc o).heap.size):
  Jkr (w4.setCell ⟨tb,2,none⟩ rv') tb name O rv' (bs++[rb]) (rs++[r]):=by
 have M:∀ k,k<w.heap.size->rv.ownBlock≠some k->w4.heap[k]?=w.heap[k]?:=fun k hk hn=>(bi.block k zt (Oc5 hn)).trans (Oa9 w o k hk);have htb:w4.heap[tb]?=some (.cells #[.string name,O,rv] 25 (0,0)):=(M tb h.lt fun e=>by have:=(Je h.own e).1;omega).trans h.cells;have Z:∀ b,b<w.heap.size->rv.ownBlock≠some b->rv'.ownBlock≠some b:=fun b U hn e=>by
  rcases hb with I|I
  ·exact hn (I▸e)
  rw[I]at e;simp at e;omega
 refine⟨by have:=Jk htb 2 rv';simpa using this,?_,by simp[h.len],?_,?_,Op3.2 ⟨h.nd,zS,fun a bh b hb e=>by rw[Oc6]at hb;exact K (hb▸e▸bh)⟩⟩
 ·rw[Jpz bs rs h.len];exact Yd bf fun g bj=>Oa4 _ _ _ _ (by have:=(Je bf bj).1;simp;omega)
 ·intro i b q hi hq;rcases Kec hi with⟨hl,hi⟩|⟨hl,rfl⟩
  ·rw[Ob0 (by rw[<-h.len];exact hl)]at hq;have H:=h.rows i b q hi hq;have K:=h.new b (Of6 hi);exact(H.of_block (M b H.lt K.2)).of_block (Oa4 _ _ _ _ zt)
  rw[hl,h.len,Ob6 (Oa2 _)]at hq;simp at hq;subst hq;exact(hr.of_block (M rb hr.lt Y)).of_block (Oa4 _ _ _ _ zt)
 intro b U;rcases Od2.1 U with y|y
 ·obtain⟨i,hi,e⟩:=Od5 y;have H:=h.rows i b (rs[i]'(by rw[<-h.len];exact hi)) (by rw[<-e];simp[hi]) (by simp[show i<rs.length by rw[<-h.len];exact hi]);exact⟨(h.new b y).1,Z b H.lt (h.new b y).2⟩
 simp at y;subst y;exact⟨bk,Z b hr.lt Y⟩
theorem Jya bs:∀ rs:List (List V),List.zipWith Je1 (List.zipWith (fun b (r:List V)=>((some ⟨b,0,none⟩:Option Addr),r.length)) bs rs) rs=List.zipWith Jad bs rs:=by
 induction bs with
 |nil=>intro rs;simp
 |cons b bs y=>
  intro rs;cases rs with
  |nil=>simp
  |cons r rs=>simp[Je1,Jad,y rs]
theorem Jyi bs rs(h:bs.length=rs.length){i:Nat}{x:Option Addr×Nat}(y:(List.zipWith (fun b (r:List V)=>((some ⟨b,0,none⟩:Option Addr),r.length)) bs rs)[i]?=some x):∃ b,bs[i]?=some b/\x.1=some ⟨b,0,none⟩:=by
 have hi:i<bs.length:=by
  rcases Oc1 i bs.length with H|H
  ·exact H
  rw[Ob4 zt]at y;simp at y
 have I:i<rs.length:=zo;rw[Ok5,Oa3 hi,Oa3 I]at y;simp at y;exact⟨bs[i],by simp[hi],by rw[<-y]⟩
theorem Jkr.out {w w' tb name M a n c q bs rs}(h:Jkr w tb name M (.slice a n c) bs rs)(hs:w.heap.size<=w'.heap.size)(hq:q<=tb)(hk:∀ k,k≠q->w'.heap[k]?=w.heap[k]?):
  Zd w' a (List.zipWith (fun b (r:List V)=>((some ⟨b,0,none⟩:Option Addr),r.length)) bs rs) rs/\rs.length<=c/\(∀ b o,a=some ⟨b,o,none⟩->tb<b)/\∀ b∈bs,tb<b:=by
 have y:∀ b o,a=some ⟨b,o,none⟩->tb<b:=fun b o hb=>by have:=(Je h.own ((Jji h.own).2 b o hb)).1;omega
 refine⟨⟨by simp[h.len],?_,fun i x r I hr=>?_⟩,?_,y,fun b hb=>(h.new b hb).1⟩
 ·rw[Jya];exact(Jji h.own).1.of_block hs fun b o hb _=>hk b (by have:=y b o hb;omega)
 ·obtain⟨b,hb,K⟩:=Jyi bs rs h.len I;rw[K];exact((h.rows i b r hb hr).of_block (hk b (by have:=(h.new b (Of6 hb)).1;omega))).vals
 have hl:(List.zipWith Jad bs rs).length=rs.length:=by simp[h.len]
 rcases h.own.2 with⟨hv,h0⟩|⟨g,cap,O,hv,_,_,H,_⟩
 ·rw[hl]at h0;omega
 simp at hv;rw[hl]at H;omega
structure Jug (w w':World) (name:ByteArray) (ts:List Int) (rs:List (List V)) (v:Value):Prop where
 val:∃ ta tc ra rc bs,v=.agg #[.string name,.slice ta ts.length tc,.slice ra rs.length rc]/\Kc w' ta ts/\Zd w' ra (List.zipWith (fun b (r:List V)=>((some ⟨b,0,none⟩:Option Addr),r.length)) bs rs) rs/\rs.length<=rc/\(∀ b o,ta=some ⟨b,o,none⟩->w.heap.size<=b)/\(∀ b o,ra=some ⟨b,o,none⟩->w.heap.size<=b)/\∀ b∈bs,w.heap.size<=b
 types:(1<=ts.length/\ts.length<=6)/\∀ t∈ts,tOk t
 rows:∀ r∈rs,Kgs ts r
structure Qay (w w':World) (name:ByteArray) (ts:List Int) (rs:List (List V)) (ta:Option Addr) (tc:Nat) (rv:Value) (bs:List Nat) (tb:Nat):Prop where
 tys:Jo w' w.heap.size 3 (.slice ta ts.length tc) (ts.map iv)
 tyl:∀ b o,ta=some ⟨b,o,none⟩->b<tb
 own:Jo w' (tb+1) 61 rv (List.zipWith Jad bs rs)
 len:bs.length=rs.length
 rows:∀ (i:Nat) b r,bs[i]?=some b->rs[i]?=some r->Kv w' b r []
 new:∀ b∈bs,tb<b/\rv.ownBlock≠some b
 nd:bs.Nodup
 low:w.heap.size<=tb
theorem Jkr.owned {w0 w w' q tb n name ts H tc rv bs rs}(h:Jkr w tb name (.slice H ts.length tc) rv bs rs)(hq:q<=tb)(hk:∀ k,k≠q->w'.heap[k]?=w.heap[k]?)(ht:Jo w n 3 (.slice H ts.length tc) (ts.map iv))(hn:w0.heap.size<=n)(M:∀ b o,H=some ⟨b,o,none⟩->b≠q/\b<tb)(hl:w0.heap.size<=tb):Qay w0 w' name ts rs H tc rv bs tb:=by
 have K:Jo w' n 3 (.slice H ts.length tc) (ts.map iv):=Yd ht fun g e=>hk g (by
  cases H with
  |none=>cases e
  |some a=>
   obtain⟨_,y|⟨U,cap,I,y,_⟩⟩:=ht
   ·cases y.1
   injection y with y;injection y with y;subst y;cases e
   exact(M _ _ rfl).1)
 refine⟨⟨K.1,K.2.imp id fun ⟨g,cap,I,a1,a2,O⟩=>⟨g,cap,I,a1,zo,O⟩⟩,fun b o e=>(M b o e).2,Yd h.own fun g e=>hk g (by have:=(Je h.own e).1;omega),h.len,fun i b r hi hr=>(h.rows i b r hi hr).of_block (hk b (by have:=(h.new b (Of6 hi)).1;omega)),h.new,h.nd,hl⟩
theorem Qam (P:List Int->Prop)(bW name:ByteArray)at_ ar(ct cr br:Nat)(ns:List Int)(xs:List (Option Addr×Nat))K w(hM:br<=200)(cb:∀ W,Below w.heap.size w W->Calls prog 18 #[.slice at_ ns.length ct,.int .i64 6] W fun e w'=>∃ (ts:List Int) (sv:Value),e=.returned sv/\Jo w' W.heap.size 3 sv (ts.map iv)/\(1<=ts.length/\ts.length<=6)/\(∀ t∈ts,tOk t)/\P ts/\Below W.heap.size W w')(cx:∀ r∈K,r.length<=maxLen)(cj:∀ r∈K,∀ v∈r,Jg v.k/\Jg v.n)(hy:Zd w ar xs K):
  Calls prog 5 #[.agg #[.string bW,.slice at_ ns.length ct,.slice ar K.length cr],.string name,.int .i64 (br:Int)] w fun e w'=>∃ ts rs v,e=.returned v/\Jug w w' name ts rs v/\(∃ I tc bV rc bs tb,v=.agg #[.string name,.slice I ts.length tc,.slice bV rs.length rc]/\Qay w w' name ts rs I tc (.slice bV rs.length rc) bs tb)/\rs.length<=br/\P ts/\Below w.heap.size w w':=by
 have ca:Below w.heap.size w ((w.alloc (.cells #[.string bW,.slice at_ ns.length ct,.slice ar K.length cr] 25)).alloc (.cells #[.string ⟨#[]⟩,.slice none 0 0,.slice none 0 0] 25)):=((Oa5 _ _).alloc (Oa2 _) _).alloc zS _;have hty:=cb _ ca;have dO:=zh cx;have cI:=zh cj;clear cx cj cb;go_enter func5,ntmps5
 go_wp2_with (go_at_call 18;refine hty.mono ?_;rintro e w1 ⟨ts,fh,rfl,bJ,dy,cC,cv,bI⟩;obtain⟨I,tc,cD,cA⟩:=bJ.cells;rw[Oa6]at cD;subst cD)
 have dC:=bI.size;simp at dC;have cc:Below w.heap.size w w1:=ca.trans (bI.mono zt);have cH:∀ (X:World),Below w1.heap.size w1 X->X.cell? ⟨w.heap.size,2,none⟩=some (.slice ar K.length cr):=fun X db=>by
  rw[db.cell (p:=⟨w.heap.size,2,none⟩) zt,bI.cell (p:=⟨w.heap.size,2,none⟩) zt];simp
 have bX:=zh cH;have cB:∀ b o,I=some ⟨b,o,none⟩->w.heap.size+2<=b/\b<w1.heap.size:=fun b o hb=>by
  have:=Je bJ ((Jji bJ).2 b o hb);simp at this;omega
 have bA:=zh cB;have bZ:=zh cC;have cP:Hid (Jo w1 (w.heap.size+2) 3 (.slice I ts.length tc) (ts.map iv)):=(by simpa using bJ:Jo w1 (w.heap.size+2) 3 (.slice I ts.length tc) (ts.map iv));have cM:=zh cv;clear cH cB cC hty cv;have du:Jkr (w1.alloc (.cells #[.string name,.slice I ts.length tc,.slice none 0 0] 25)) w1.heap.size name (.slice I ts.length tc) (.slice none 0 0) [] []:=
  ⟨heap_alloc_new _ _,Jo.nil _ _ _,rfl,fun i b r hi=>by simp at hi,fun b hb=>by simp at hb,List.nodup_nil⟩
 go_loopw [8] (fun i wr=>∃ (k:Nat) (rv:Value) (bs:List Nat) (rs:List (List V)),k<=K.length/\k<=br/\i=.int .i64 k/\rs.length<=k/\Hid (∀ r∈rs,Kgs ts r)/\Jkr wr w1.heap.size name (.slice I ts.length tc) rv bs rs/\Below w1.heap.size w1 wr) (fun i _=>br-(intOf i).toNat)
 case atStart=>exact⟨0,_,[],[],Ob7 _,Ob7 _,rfl,Oa2 _,by intro r hr;simp at hr,du,(Oa5 _ _).alloc (Oa2 _) _⟩
 case round=>
  rename_i i
  obtain⟨k,rv,bs,rs,hk,fe,rfl,ff,bY,M,Z⟩:=hrel;obtain⟨y,bD⟩:∃ y,y=wr:=⟨_,rfl⟩;subst bD;have c2:=bX.out y Z;have cS:y.cell? ⟨w1.heap.size,1,none⟩=some (.slice I ts.length tc):=by simp[World.cell?,M.cells]
  have dR:y.cell? ⟨w1.heap.size,2,none⟩=some rv:=by simp[World.cell?,M.cells]
  have dd:=cc.trans (Z.mono zo);obtain⟨O,U,cy,_⟩:=M.own.cells;have bT:(List.zipWith Jad bs rs).length=rs.length:=by simp[M.len]
  rw[bT]at cy;have cQ:=zh bT;clear bT;subst cy;by_cases cn:k<K.length/\k<br
  ·obtain⟨bG,cX⟩:=cn;obtain⟨C,dp,dq⟩:=Jtn ts.length zo y;go_wp2;clear dp;go_loopw [10] (fun i wr=>∃ (c:Nat) (L:List V),c<=ts.length/\i=.int .i64 c/\Hid (L.length=c/\∀ j (bx:j<L.length),okB (ts.getD j 0) L[j].k L[j].n L[j].s=true/\Jg L[j].n)/\Kv wr y.heap.size (L++List.replicate (ts.length-c) Jf) []/\Below y.heap.size y wr) (fun i _=>ts.length-(intOf i).toNat)
   case atStart=>exact⟨0,[],Ob7 _,rfl,⟨rfl,fun j bx=>by simp at bx⟩,by simpa using dq,(Oa5 _ _).alloc (Oa2 _) _⟩
   case round=>
    rename_i fg
    obtain⟨c,L,fc,rfl,bh,bC,bk⟩:=hrel;have bQ:=Z.trans (bk.mono Z.size);have bH:=cc.trans (bQ.mono zo);have cT:=bX.out wr bQ;have cU:wr.cell? ⟨w1.heap.size,1,none⟩=some (.slice I ts.length tc):=by rw[bk.cell (p:=⟨w1.heap.size,1,none⟩) M.lt];exact cS
    obtain⟨b1,bL,bV,rc,dc,dW,dI,dB⟩:=hy.at bG;subst dc;have x1:=Ja bH dI;by_cases bB:c<ts.length
    ·obtain⟨bt,bU,dw,dY,dJ⟩:=Kc.at (cA.below bQ) bB;subst dw;by_cases ci:c<K[k].length
     ·obtain⟨b2,bz,hra,dX,dK,dL,dN⟩:=dB.at ci;subst hra;have z1:=Ja bH dK;have z2:=Ja bH dL;have dM:=Ja bH dN;have dZ:=bA.out bt bU rfl;have bD:=Z.size;have da:=M.lt;have cE:=bk.size;have cF:=cI.out _ (Ob3 bG) _ (Ob3 ci);have cJ:Hid (∀ W,Calls prog 19 #[K[k][c].val,.int .i64 ts[c]] W fun e w'=>(∃ u:V,e=.returned u.val/\okB ts[c] u.k u.n u.s=true/\Jg u.n)/\Below W.heap.size W w'):=fun W=>Jk8 K[k][c] ts[c] W (bZ.out _ (Ob3 bB)) cF.1 cF.2;have hlen:(L++List.replicate (ts.length-c) Jf).length=ts.length:=by rw[Oa8,bh.out.1,Od6];omega
      have cK:=zh hlen;clear hlen;go_wp2;refine wp_region_held_drew (S:=fun X=>X.cell? ⟨w.heap.size,2,none⟩=some (.slice (some ⟨b1,bL,none⟩) K.length cr)/\X.cell? ⟨b1,bL+k,none⟩=some (.slice (some ⟨b2,bz,none⟩) K[k].length rc)/\X.cell? ⟨b2,bz+c*3,none⟩=some (.int .i64 K[k][c].k)/\X.cell? ⟨b2,bz+c*3+1,none⟩=some (.int .i64 K[k][c].n)/\X.cell? ⟨b2,bz+c*3+2,none⟩=some (.string K[k][c].s)/\X.cell? ⟨w1.heap.size,1,none⟩=some (.slice (some ⟨bt,bU,none⟩) ts.length tc)/\X.cell? ⟨bt,bU+c,none⟩=some (.int .i64 ts[c])) zK ⟨cT,x1,z1,z2,dM,cU,dJ⟩ (fun H=>?_);refine tkj 0 rfl H ?_;refine tkj 1 rfl H ?_;refine tkj 2 rfl H ?_;refine tkj 3 rfl H ?_;refine tkj 4 rfl H ?_;refine tkj 5 rfl H ?_;refine tkj 6 rfl H ?_;refine tkj 7 rfl H ?_;refine tkj 8 rfl H ?_;refine tkj 9 rfl H ?_;refine tkj 10 rfl H ?_;refine tkj 11 rfl H ?_;refine tkj 12 rfl H ?_;refine tkj 13 rfl H ?_;refine tkj 14 rfl H ?_;refine tkn ?_;refine tkr 15 rfl fun bN hK=>?_;go_simp;refine(cJ.out _).mono ?_;rintro e bf ⟨⟨u,rfl,bK,dA⟩,bP⟩;go_simp;obtain⟨kk,_⟩:=Kx bP;refine hK.out _ _ ⟨(kk _ _ (by show w.heap.size<wr.heap.size;omega)).trans H.1,(kk _ _ (by show b1<wr.heap.size;omega)).trans H.2.1,(kk _ _ (by show b2<wr.heap.size;omega)).trans H.2.2.1,(kk _ _ (by show b2<wr.heap.size;omega)).trans H.2.2.2.1,(kk _ _ (by show b2<wr.heap.size;omega)).trans H.2.2.2.2.1,(kk _ _ (by show w1.heap.size<wr.heap.size;omega)).trans H.2.2.2.2.2.1,(kk _ _ (by show bt<wr.heap.size;omega)).trans H.2.2.2.2.2.2⟩ (fun bi=>?_);clear hK bN kk H;refine tkj 16 rfl bi ?_;refine tkn ?_;have dt:Kv bf y.heap.size (L++List.replicate (ts.length-c) Jf) []:=bC.of_block ((Jw bP).block _ bC.lt);obtain⟨old,⟨c0,cV⟩,⟨c1,cW⟩,⟨cR,bO⟩,bS⟩:=dt.put u c (by rw[cK.out];exact bB);rw[Jna L c ts.length u bh.out.1 bB]at bS;have cN:=zh bS;clear bS;refine tkr 17 rfl fun bN hK=>?_;go_simp;have Y:∀ (b o:Nat) (v:Value),b≠y.heap.size->bf.cell? ⟨b,o,none⟩=some v->(((bf.setCell ⟨y.heap.size,c*3,none⟩ (.int .i64 u.k)).setCell ⟨y.heap.size,c*3+1,none⟩ (.int .i64 u.n)).setCell ⟨y.heap.size,c*3+2,none⟩ (.string u.s)).cell? ⟨b,o,none⟩=some v:=fun b o v hb hv=>by
       exact zaf
      refine hK.out _ _ ⟨Y _ _ _ zo bi.1,Y _ _ _ zo bi.2.1,Y _ _ _ zo bi.2.2.1,Y _ _ _ zo bi.2.2.2.1,Y _ _ _ zo bi.2.2.2.2.1,Y _ _ _ zo bi.2.2.2.2.2.1,Y _ _ _ zo bi.2.2.2.2.2.2⟩ (fun cY=>?_);clear hK bN Y bi cY c0 cV c1 cW cR bO;refine wpAnyH_done zK ?_ _;have df:Below y.heap.size y (((bf.setCell ⟨y.heap.size,c*3,none⟩ (.int .i64 u.k)).setCell ⟨y.heap.size,c*3+1,none⟩ (.int .i64 u.n)).setCell ⟨y.heap.size,c*3+2,none⟩ (.string u.s)):=
       (((bk.trans ((Jw bP).mono cE)).setCell (p:=⟨y.heap.size,c*3,none⟩) (Oa2 _) _).setCell (p:=⟨y.heap.size,c*3+1,none⟩) (Oa2 _) _).setCell (p:=⟨y.heap.size,c*3+2,none⟩) (Oa2 _) _
      generalize ((bf.setCell ⟨y.heap.size,c*3,none⟩ (.int .i64 u.k)).setCell ⟨y.heap.size,c*3+1,none⟩ (.int .i64 u.n)).setCell ⟨y.heap.size,c*3+2,none⟩ (.string u.s)=dH at *;go_wp2;go_roundw
      case rel=>
       refine⟨c+1,L++[u],zo,zn,⟨by rw[Oa8,bh.out.1];rfl,fun j bx=>?_⟩,cN.out,df⟩;by_cases e:j<L.length
       ·rw[Oi2 e];exact bh.out.2 j e
       have bR:j=L.length:=by simp at bx;omega
       subst bR;rw[Ok8 (Oa2 _)];have dl:ts.getD L.length 0=ts[c]:=by rw[bh.out.1];simp[bB]
       simp only[Oe1,List.getElem_cons_zero,dl];exact⟨bK,dA⟩
      case measure=>simp[intOf];omega
     have cO:Hid (L++List.replicate (ts.length-c) Jf=(L++[Jf])++List.replicate (ts.length-(c+1)) Jf):=by
      show _=_;obtain⟨d,dh⟩:∃ d,ts.length-c=d+1:=⟨ts.length-c-1,zo⟩;have di:ts.length-(c+1)=d:=zo;rw[dh,di,List.replicate_succ];simp
     go_wp2;go_roundw
     case rel=>
      refine⟨c+1,L++[Jf],zo,zn,⟨by rw[Oa8,bh.out.1];rfl,fun j bx=>?_⟩,by rw[<-cO.out];exact bC,bk⟩;by_cases e:j<L.length
      ·rw[Oi2 e];exact bh.out.2 j e
      have bR:j=L.length:=by simp at bx;omega
      subst bR;rw[Ok8 (Oa2 _)];simp only[Oe1,List.getElem_cons_zero];exact⟨Kgd _,Kf0⟩
     case measure=>simp[intOf];omega
    obtain rfl:c=ts.length:=zo;rw[Oe1,List.replicate_zero,Od7]at bC;have bj:=M.below bk;have da:=bj.lt;have bD:=Z.size;have cE:=bk.size;have bO:wr.cell? ⟨w1.heap.size,2,none⟩=some (.slice O rs.length U):=by simp[World.cell?,bj.cells]
    have dr:(Value.slice O rs.length U).ownBlock≠some y.heap.size:=fun e=>by have:=(Je M.own e).2;omega
    have cZ:=M.lt;have ds:y.heap.size∉bs:=fun dm=>by
     obtain⟨i,hi,e⟩:=Od5 dm;have:=(M.rows i _ (rs[i]'(by rw[<-M.len];exact hi)) (Oa3 hi) (Oa3 (by rw[<-M.len];exact hi))).lt;omega
    go_wp2_with (at_builtin;go_must (refine Ul zR _ _ 23 61 _ 24 Jip zR zd zK zR (w1.heap.size+1) _ _ zR (Jo.alloc bj.own _) ⟨wr.heap.size,0,none⟩ 1 [.slice (some ⟨y.heap.size,0,none⟩) ts.length ts.length] zR (by exact Ua wr _ _) (by intro u bK;simp at bK;subst bK;rfl) (by rw[cQ.out];simp only[List.length_cons,List.length_nil];omega) zt ?_);intro sv' bf cG bM dG;go_must (have cu:=bj.more y.heap.size L bC zo dr ds _ (rv':=sv') (w4:=bf) (by unfold Jad;rw[bh.out.1];exact cG) bM dG);obtain⟨a2,dP,dv,_⟩:=cG.cells;subst dv;go_must (have dS:bf.cell? ⟨w1.heap.size,2,none⟩=some (.slice O rs.length U):=(by rw[bM.cell_far _ zt (fun e=>absurd (Je bj.own e.symm).1 zS)];exact(Jnf wr _ _ 2 zo).trans bO));go_must (have dT:bf.frozen? ⟨w1.heap.size,2,none⟩=false:=(by rw[bM.frozen_far _ zt (fun e=>absurd (Je bj.own e.symm).1 zS)];refine(Jh9 wr _ _ 2 zo).trans ?_;simp[World.frozen?,bj.cells])))
    have dg:Below w1.heap.size w1 bf:=((Z.trans (bk.mono bD)).alloc zo _).grown bM zt (fun g dj=>by have:=(Je bj.own dj).1;omega);go_roundw
    case rel=>
     simp only[Oa8,List.length_zipWith,List.length_cons,List.length_nil,Od0]at cu;refine⟨k+1,_,bs++[y.heap.size],rs++[L],zo,zo,zn,by simp;omega,?_,cu,dg.setCell (p:=⟨w1.heap.size,2,none⟩) (Oa2 _) _⟩;intro r hr;rcases Od2.1 hr with h|h
     ·exact bY.out r h
     simp at h;subst h;exact bh.out
    case measure=>simp[intOf];omega
  have cZ:=M.lt;have fd:y.heap[w1.heap.size]?=some (.cells #[.string name,.slice I ts.length tc,.slice O rs.length U] 25 (0,0)):=M.cells;have dQ:y.cell? ⟨w1.heap.size,0,none⟩=some (.string name):=by simp[World.cell?,M.cells]
  have bE:y.heap[w.heap.size+1]?=some (.cells #[.string ⟨#[]⟩,.slice none 0 0,.slice none 0 0] 25 (0,0)):=by
   rw[Z.block _ zo,bI.block _ zS];have:=heap_alloc_new (w.alloc (.cells #[.string bW,.slice at_ ns.length ct,.slice ar K.length cr] 25)) (.cells #[.string ⟨#[]⟩,.slice none 0 0,.slice none 0 0] 25);rw[Oa7]at this;exact this
  have dV:=zc 0 bE;have g1:=zc 1 bE;have g2:=zc 2 bE;have dU:∀ o,y.frozen? ⟨w.heap.size+1,o,none⟩=false:=fun o=>by simp[World.frozen?,bE]
  by_cases bG:k<K.length;focus
   have cX:¬ k<br:=fun h=>cn ⟨bG,h⟩
  rotate_left 1;all_goals
   go_wp2;have Y:∀ k,k≠w.heap.size+1->(((y.setCell ⟨w.heap.size+1,0,none⟩ (.string name)).setCell ⟨w.heap.size+1,1,none⟩ (.slice I ts.length tc)).setCell ⟨w.heap.size+1,2,none⟩ (.slice O rs.length U)).heap[k]?=y.heap[k]?:=fun k hk=>by
    rw[Oa4 _ _ _ _ hk,Oa4 _ _ _ _ hk,Oa4 _ _ _ _ hk]
   have bD:=Z.size;have cz:y.heap.size<=(((y.setCell ⟨w.heap.size+1,0,none⟩ (.string name)).setCell ⟨w.heap.size+1,1,none⟩ (.slice I ts.length tc)).setCell ⟨w.heap.size+1,2,none⟩ (.slice O rs.length U)).heap.size:=by simp[World.setCell]
   have cf:=Jk (Jk (Jk bE 0 (.string name)) 1 (.slice I ts.length tc)) 2 (.slice O rs.length U);simp at cf;obtain⟨bL,bz,dD,dE⟩:=M.out (q:=w.heap.size+1) cz zo Y;have de:Below w.heap.size w (((y.setCell ⟨w.heap.size+1,0,none⟩ (.string name)).setCell ⟨w.heap.size+1,1,none⟩ (.slice I ts.length tc)).setCell ⟨w.heap.size+1,2,none⟩ (.slice O rs.length U)):=
    ((dd.setCell (p:=⟨w.heap.size+1,0,none⟩) zS _).setCell (p:=⟨w.heap.size+1,1,none⟩) zS _).setCell (p:=⟨w.heap.size+1,2,none⟩) zS _
   have dx:Kc (((y.setCell ⟨w.heap.size+1,0,none⟩ (.string name)).setCell ⟨w.heap.size+1,1,none⟩ (.slice I ts.length tc)).setCell ⟨w.heap.size+1,2,none⟩ (.slice O rs.length U)) I ts:=(cA.below Z).of_block cz fun b o hb _=>Y b (by have:=(bA.out b o hb).1;omega);have cL:=M.owned (w0:=w) (q:=w.heap.size+1) zo Y (cP.out.below Z) zS (fun b o hb=>⟨by have:=(bA.out b o hb).1;omega,(bA.out b o hb).2⟩) zo;generalize ((y.setCell ⟨w.heap.size+1,0,none⟩ (.string name)).setCell ⟨w.heap.size+1,1,none⟩ (.slice I ts.length tc)).setCell ⟨w.heap.size+1,2,none⟩ (.slice O rs.length U)=dH at *;refine bodyPost_ret (v:=.agg #[.string name,.slice I ts.length tc,.slice O rs.length U]) (by simp[results,results5,go_sem,World.cell?,cf]) rfl ⟨ts,rs,_,rfl,⟨⟨I,tc,O,U,bs,rfl,dx,bL,bz,fun b o hb=>by have:=(bA.out b o hb).1;omega,fun b o hb=>by have:=dD b o hb;omega,fun b hb=>by have:=dE b hb;omega⟩,⟨dy,bZ.out⟩,bY.out⟩,⟨I,tc,O,U,bs,w1.heap.size,rfl,cL⟩,zo,cM.out,de⟩
theorem Qas (P:List Int->Prop)(I name:ByteArray)at_ ar(ct cr H:Nat)(ns:List Int)(xs:List (Option Addr×Nat))y w(hM:H<=200)(U:∀ W,Below w.heap.size w W->Calls prog 18 #[.slice at_ ns.length ct,.int .i64 6] W fun e w'=>∃ (ts:List Int) (sv:Value),e=.returned sv/\Jo w' W.heap.size 3 sv (ts.map iv)/\(1<=ts.length/\ts.length<=6)/\(∀ t∈ts,tOk t)/\P ts/\Below W.heap.size W w')(Z:∀ r∈y,r.length<=maxLen)(Y:∀ r∈y,∀ v∈r,Jg v.k/\Jg v.n)(hy:Zd w ar xs y):
  Calls prog 5 #[.agg #[.string I,.slice at_ ns.length ct,.slice ar y.length cr],.string name,.int .i64 (H:Int)] w fun e w'=>∃ ts rs v,e=.returned v/\Jug w w' name ts rs v/\rs.length<=H/\P ts/\Below w.heap.size w w':=
 (Qam P I name at_ ar ct cr H ns xs y w hM U Z Y hy).mono fun _ _ ⟨ts,rs,v,K,M,_,O⟩=>⟨ts,rs,v,K,M,O⟩
theorem Jt8 U name at_ ar(ct cr H:Nat)ns xs y w(hM:H<=200)(hn:ns.length<=maxLen)(bf:∀ r∈y,r.length<=maxLen)(Z:∀ r∈y,∀ v∈r,Jg v.k/\Jg v.n)(bh:Kc w at_ ns)(hy:Zd w ar xs y):
  Calls prog 5 #[.agg #[.string U,.slice at_ ns.length ct,.slice ar y.length cr],.string name,.int .i64 (H:Int)] w fun e w'=>∃ ts rs v,e=.returned v/\Jug w w' name ts rs v/\rs.length<=H/\Below w.heap.size w w':=
 (Qas (fun _=>True) U name at_ ar ct cr H ns xs y w hM (fun W hb=>(Jvl at_ ct ns W hn (bh.below hb)).mono fun _ _ ⟨ts,sv,I,K,M,Y,O⟩=>⟨ts,sv,I,K,M,Y,trivial,O⟩) bf Z hy).mono fun _ _ ⟨ts,rs,v,I,K,M,_,O⟩=>⟨ts,rs,v,I,K,M,O⟩
