/- A table read from the disk, column by column; the columns told as rows. -/
import Derived.Test.YtpchafocmlhmbaaGreatDoorTk
set_option maxHeartbeats 4000000
set_option maxRecDepth 100000
namespace Go.Proofs.YtpchafocmlhmbaaGreatDoor
open Go.RowKit Go.Shelf Tryz
attribute [local go_sem] Oc0
theorem Jps:(prog.info? 40).map (fun i=>(i.zero,i.size,i.bytes))=some (some (.slice none 0 0),1,24):=by kernel_rfl
theorem Jiz (n:Nat)(w:World)(hn:n≤1000) :
  Calls prog 77 #[.int .i64 (n:Int)] w fun e w'=>e=.returned (.slice (some ⟨w.heap.size,0,none⟩) n n)∧Jar w' w.heap.size w.heap.size (List.replicate n (.slice none 0 0)) (List.replicate n [])∧Below w.heap.size w w':=by
 have K:∀ W,(Instr.makeSlice 72 (.int .i64 (n:Int)) (.int .i64 (n:Int))).run prog W=.ok (.slice (some ⟨W.heap.size,0,none⟩) n n) (W.alloc (.cells (madeCells #[.slice none 0 0] n) 40)):=
  fun W=>run_make_row' 72 40 (.slice none 0 0) 24 (by kernel_rfl) Jps rfl .i64 .i64 n (by omega) (by omega) W
 go_enter func77,ntmps77
 go_wp2;go_ret
 have y:∀ i,Uq (List.replicate n (.slice none 0 0)) i=.slice none 0 0:=fun i=>by
  unfold Uq;rw[Oa0,Of3];split<;>rfl
 refine⟨rfl,⟨?_,Oa2 _,by simp,fun i hi=>?_,fun i hi=>?_,fun i j b hi H E D=>?_⟩,(Oa5 _ _).alloc (Oa2 _) _⟩
 ·rw[Od6];exact(Ol3 _ _ _ _).congr fun j _=>(y j).symm
 ·rw[y,Oa0,Of3];split<;>exact Yt.nil _ _
 ·rw[y];simp[Value.ownBlock]
 rw[y]at D;simp[Value.ownBlock]at D
def Ji1 (w:World)(pg:Addr)(r:List (List V)⊕Nat)(e:Ending)(w':World):Prop:=
 Below w.heap.size w w'∧match r with
  |.inl cs=>∃ g y,e=.returned (.tuple #[.slice (some ⟨g,0,none⟩) cs.length cs.length,.nilIface])∧Jar w' w.heap.size g y cs
  |.inr j=>∃ b,e=.returned (.tuple #[.slice none 0 0,.iface 157 (.pointer (some ⟨b,0,none⟩))])∧w.heap.size≤b∧Yu w' (.iface 157 (.pointer (some ⟨b,0,none⟩))) pg none (some (j:Int))
theorem Kas (s d bY:Nat)(T:TS)(w:World)(F G:Nat→Prop)(D:DS)(h:Zb w F d D)(da:w.cell? ⟨s,0,none⟩=some (.pointer (some ⟨d,0,none⟩)))(dG:Jmg w G bY T)(dO:1≤T.types.length∧T.types.length≤6)(hr:T.rows≤200)(bj:1≤T.group)(fj:T.group≤64)(db:T.segs.length=ckN T.rows T.group*T.types.length)(bQ:∀ l∈T.segs,l≠[]∧l.length≤1000)(cD:∀ l∈T.segs,∀ t,Uf D l=.inl t→t≠[]∧Kje t)(cM cN cO:Addr)(cT:Jf0 w cM cN cO)(pg:Addr)(cY:w.cell? ⟨8,0,none⟩=some (.iface 433 (.pointer (some pg)))) :
  Calls prog 54 #[.pointer (some ⟨s,0,none⟩),.pointer (some ⟨bY,0,none⟩)] w fun e w'=>Ji1 w pg (Jfx D T.types T.segs (List.replicate T.types.length []) (cks T.rows T.group (ckN T.rows T.group))).1 e w':=by
 obtain⟨dX,fw,di,dj,hs,bD⟩:=dG;obtain⟨ft,dk,dS,dm,dV⟩:=bD.field;have dx:Hid (T.segs.length=ckN T.rows T.group*T.types.length):=db;have dM:=Ol5 (Oa2 (ckN T.rows T.group)) dO.2;have fc:Hid (∀ l∈T.segs,l≠[]∧l.length≤1000):=bQ;have fd:Hid (∀ l∈T.segs,∀ t,Uf D l=.inl t→t≠[]∧Kje t):=cD;have dC:Hid (∀ (y:World) (Y:Option Addr) (rc:Nat) (l:List Nat) (bZ:Int) (n:Nat),Below w.heap.size w y→l∈T.segs→Uh y Y (l.map nv)→Calls prog 78 #[.pointer (some ⟨s,0,none⟩),.slice Y l.length rc,.int .i64 bZ,.int .i64 (n:Int)] y fun e w'=>Jl8 y pg (Us D l bZ n) e w'):=
  fun y Y rc l bZ n U hl cQ=>Jto s d Y rc l bZ n y F D (h.below U) (Ja U da) cQ (bQ l hl).1 (by have:=(bQ l hl).2;omega) (cD l hl) cM cN cO (cT.below U) pg (Ja U cY)
 have cW:=Jiz T.types.length w (by omega);have fq:=run_neq_nil_nil (P:=prog);have dz:Hid (Kc w dX T.types):=bD.types;have dw:Hid (Jaf w G di hs T.segs∧T.segs.length≤dj):=⟨bD.segs,bD.cap⟩;clear db bQ cD h da cT cY bD dM;go_enter func54,ntmps54
 go_wp2_with (first|(go_at_call 77;refine cW.mono ?_;rintro e fe ⟨rfl,bP,bN⟩;have dR:=Ja bN dk;have dW:=Ja bN dV))
 clear cW dR dW;go_loopw [7,8] (fun lv cy wr=>∃ (k f:Nat) (cs:List (List V)) (bX:List Value) (bU:Option Addr) (bW:Nat) (cE:List (Option Addr×Nat)) (H:List (List Nat)),k≤ckN T.rows T.group∧Hid (f=k*T.group)∧f≤300∧cy=.int .i64 (f:Int)∧Hid ((Jfx D T.types T.segs (List.replicate T.types.length []) (cks T.rows T.group k)).1=.inl cs)∧Hid (cs.length=T.types.length)∧Hid (∀ j,(cs.getD j []).length≤f)∧Hid (T.segs.drop (k*T.types.length)=H)∧lv=.slice bU H.length bW∧Hid (Jaf w G bU cE H∧H.length≤bW)∧Jar wr w.heap.size w.heap.size bX cs∧Below w.heap.size w wr) (fun _ cy _=>T.rows-(intOf cy).toNat)
 case atStart=>
  refine⟨0,0,_,_,di,dj,hs,T.segs,Ob7 _,by show 0=_;simp,by omega,rfl,by show _=_;simp[cks,Jfx],by show _=_;simp,?_,by show _=_;simp,rfl,dw.out,bP,bN⟩;intro j;rw[Oa0,Of3];split<;>simp
 case round=>
  obtain⟨k,f,cs,bX,bU,bW,cE,H,fm,bz,fi,rfl,cc,cG,dq,bB,rfl,dy,bP,bE⟩:=hrel;have fu:=Ja bE dk;have dT:=Ja bE dS;have dU:=Ja bE dm;by_cases fo:f<T.rows
  ·have cf:Hid (k<ckN T.rows T.group):=by
    show _<_;rcases Oc1 k (ckN T.rows T.group)with h|h
    ·exact h
    ·have bC:=Jcy (len:=T.rows) bj;have bi:k=ckN T.rows T.group:=(by omega);rw[←bi,←bz.out]at bC;omega
   obtain⟨m,bn⟩:∃ m,m=min T.group (T.rows-f):=⟨_,rfl⟩;have cV:min (T.group:Int) ((T.rows:Int)-(f:Int))=(m:Int):=(by omega);have fp:m≤64:=(by omega);have cj:Hid (m=min T.group (T.rows-f)):=bn;clear bn;go_wp2;refine wp_region_held_drew (S:=fun y=>y.cell? ⟨bY,3,none⟩=some (.int .i64 (T.group:Int))∧y.cell? ⟨bY,2,none⟩=some (.int .i64 (T.rows:Int))) (by kernel_rfl) ⟨dU,dT⟩ (fun O=>?_);refine tkj 0 rfl O ?_;refine tkj 1 rfl O ?_;refine tkj 2 rfl O ?_;refine tkj 3 rfl O ?_;refine tkj 4 rfl O ?_;refine tkj 5 rfl O ?_;refine tkj 6 rfl O ?_;refine tkj 7 rfl O ?_;refine tkj 8 rfl O ?_;refine tkj 9 rfl O ?_;refine tkj 10 rfl O ?_;refine tkj 11 rfl O ?_;refine tkn ?_;refine wpAnyH_done (by kernel_rfl) ?_ _;have df:IntKind.i64.wrap ((T.rows:Int)-(f:Int))=(T.rows:Int)-(f:Int):=by rw[Od4];omega
   rw[df,cV];clear df cV;have cH:Hid (T.types.length≤H.length):=by
    show _≤_;rw[←bB.out,Of7,dx.out];have bC:(k+1)*T.types.length≤ckN T.rows T.group*T.types.length:=Om8 _ cf.out;rw[Of5]at bC;omega
   have du:Hid (∀ dp∈H,dp∈T.segs):=fun dp dg=>by rw[←bB.out]at dg;exact Oh7 dg
   clear O;go_wp2;go_loopw [7,52] (fun lv i wr=>∃ (c:Nat) (E:List (List V)) (ba:List Value) (bV:Option Addr) (bf:Nat) (bS:List (Option Addr×Nat)) (R:List (List Nat)),c≤T.types.length∧i=.int .i64 (c:Int)∧Hid (Jh3 D H T.types m cs c=.inl E)∧Hid (E.length=T.types.length)∧Hid (∀ j,(E.getD j []).length≤if j<c then f+m else f)∧Hid (H.drop c=R)∧lv=.slice bV R.length bf∧Hid (Jaf w G bV bS R∧R.length≤bf)∧Jar wr w.heap.size w.heap.size ba E∧Below w.heap.size w wr) (fun _ i _=>T.types.length-(intOf i).toNat)
   case atStart=>exact⟨0,cs,bX,bU,bW,cE,H,Ob7 _,rfl,rfl,cG,fun j=>by rw[if_neg (Oe0 _)];exact dq.out j,rfl,rfl,dy,bP.below (Oa5 _ _).drew,bE.drew⟩
   case round=>
    obtain⟨c,E,ba,bV,bf,bS,R,cQ,rfl,bI,ch,cb,bA,rfl,bK,cS,X⟩:=hrel;have fv:=Ja X dm;by_cases bR:c<T.types.length
    ·obtain⟨b1,fs,rfl,bN,fC⟩:=Kc.at (dz.out.below X) bR;have cZ:0<R.length:=by
      rw[←bA.out,Of7];have:=cH.out;omega
     have fh:=bK.out.2;obtain⟨b3,br,Y,rc,rfl,ff,fg,ca,cC,dJ⟩:=bK.out.1.at cZ;obtain⟨K,cU⟩:∃ K,R[0]=K:=⟨_,rfl⟩;have ci:Hid (R[0]=K):=cU;clear cU;rw[ci.out]at ca cC;rw[Nat.add_zero]at ca;have ds:Hid (H.getD c []=K):=by
      show _=_;rw[←ci.out];have cA:c<H.length:=by have:=cH.out;omega
      simp only[←bA.out,List.getElem_drop,Nat.add_zero,Oa0,Oa3 cA,Option.getD_some]
     have dv:Hid (K∈T.segs):=by
      apply du.out;have bn:=Ob3 cZ;rw[ci.out]at bn;have dL:K∈H.drop c:=by rw[bA.out];exact bn
      exact Oh7 dL
     have bL:Hid (∀ y,Below w.heap.size w y→Calls prog 78 #[.pointer (some ⟨s,0,none⟩),.slice Y K.length rc,.int .i64 T.types[c],.int .i64 (m:Int)] y fun e w'=>Jl8 y pg (Us D K T.types[c] m) e w'):=fun y U=>dC.out y Y rc K _ m U dv.out (cC.below U);have bJ:Hid (Jh3 D H T.types m cs (c+1)=match Us D K T.types[c] m with|.inr j=>.inr j|.inl vs=>.inl (E.set c (E.getD c []++vs))):=by
      show _=_;simp only[Jh3,bI.out,ds.out];rw[show T.types.getD c 0=T.types[c] by simp[bR]];all_goals cases Us D K T.types[c] m<;>rfl
     have cv:Hid (∀ vs,Us D K T.types[c] m=.inl vs→vs.length=m):=fun vs de=>Jnk de;have fD:=Ja X ca;clear ca cC dJ;generalize Us D K T.types[c] m=dY at *;rcases dY with vs|j
     ·have cu:Hid (∀ y,Below w.heap.size w y→Calls prog 78 #[.pointer (some ⟨s,0,none⟩),.slice Y K.length rc,.int .i64 T.types[c],.int .i64 (m:Int)] y fun e w'=>Below y.heap.size y w'∧∃ b,e=.returned (.tuple #[.slice (some ⟨b,0,none⟩) vs.length vs.length,.nilIface])∧y.heap.size≤b∧Kv w' b vs []):=bL.out;have cJ:Hid (vs.length=m):=cv.out vs rfl;have dt:Hid (Jh3 D H T.types m cs (c+1)=.inl (E.set c (E.getD c []++vs))):=bJ.out;have bG:c<E.length:=by rw[ch.out];exact bR
      obtain⟨sv,bH⟩:∃ sv,Uq ba c=sv:=⟨_,rfl⟩;have cI:Hid (Uq ba c=sv):=bH;obtain⟨bh,bT⟩:∃ bh,E.getD c []=bh:=⟨_,rfl⟩;have dB:Hid (E.getD c []=bh):=bT;have dd:bh.length+vs.length≤1000000:=by rw[←bT,cJ.out];have:=cb.out c;rw[if_neg (Oe3 _)]at this;omega
      have dA:Hid (bh.length+vs.length≤1000000):=dd;have cK:Hid (∀ y,Jar y w.heap.size w.heap.size ba E→y.cell? ⟨w.heap.size,c,none⟩=some sv∧y.frozen? ⟨w.heap.size,c,none⟩=false∧Yt y w.heap.size sv bh):=fun y Z=>by
       have:=Z.row.cell (i:=c) (by rw[Z.len];exact bG);rw[bH]at this;have bi:=Z.own c bG;rw[bH,bT]at bi;exact⟨this,Z.row.frozen c,bi⟩
      have dD:Hid (∀ y bM,Jar y w.heap.size w.heap.size ba E→y.grownBy bM sv.ownBlock→bM.cell? ⟨w.heap.size,c,none⟩=some sv∧bM.frozen? ⟨w.heap.size,c,none⟩=false):=fun y bM Z bj=>by
       have hn:=Z.ne c bG;rw[bH]at hn;have U:=bj.block w.heap.size Z.row.lt (fun e=>hn e.symm);obtain⟨bC,bi,_⟩:=cK.out y Z;exact⟨by rw[Oc3 U];exact bC,by rw[Ol7 U];exact bi⟩
      have dK:∃ bx,(bx=br+1∨R.length≤1)∧(if bf=1 then (some ⟨b3,br,none⟩:Option Addr)else some ⟨b3,br+1,none⟩)=some ⟨b3,bx,none⟩:=by
       by_cases e:bf=1
       ·exact⟨br,.inr (by omega),by rw[if_pos e]⟩
       exact⟨br+1,.inl rfl,by rw[if_neg e]⟩
      obtain⟨bx,cn,fk⟩:=dK;replace cn:Hid (bx=br+1∨R.length≤1):=cn;clear bL bJ bI cv bH bT dd;go_wp2_with (first|(go_at_call 78;refine(cu.out _ X).mono ?_;rintro e cx ⟨bO,fx,rfl,fr,dN⟩;have cB:=cS.below bO;obtain⟨fy,fz,cX⟩:=cK.out cx cB;have cz:=Jb X bO)|(at_builtin;refine Jjs (by rfl) _ _ (by rfl) w.heap.size _ _ (by rfl) cX _ _ vs (by rfl) dN dA.out cz.size ?_;intro sv' dZ dh cF dQ;obtain⟨fA,fB⟩:=dD.out cx dZ cB cF;obtain⟨dE,c5,dc,_⟩:=dh.vals;rw[Oa8]at dc;subst dc))
      go_roundw
      case rel=>
       refine⟨c+1,E.set c (E.getD c []++vs),ba.set c (.slice dE (bh.length+vs.length) c5),some ⟨b3,bx,none⟩,bf-1,bS.drop 1,R.drop 1,by omega,by go_num,dt,by show _=_;rw[Of8];exact ch.out,fun j=>?_,by show _=_;rw[←bA.out,List.drop_drop],by simp,⟨bK.out.1.tail bx cn.out,by rw[Of7];omega⟩,cB.put bG (by rw[dB.out];exact dh) (by rw[cI.out];exact cF) (by rw[cI.out];exact dQ),(cz.grown cF cz.size (fun g bj=>(Je cX bj).1)).setCell (p:=⟨w.heap.size,c,none⟩) (Oa2 _) _⟩;rw[Jyj bG];have bc:=cb.out j;have de:=cJ.out;by_cases e:j=c
       ·subst e;rw[if_neg (Oe3 _)]at bc;rw[if_pos rfl,if_pos (by omega),Oa8];omega
       rw[if_neg e];by_cases cP:j<c
       ·rw[if_pos cP]at bc;rw[if_pos (by omega)];exact bc
       rw[if_neg cP]at bc;rw[if_neg (by omega)];exact bc
      case measure=>simp[intOf];omega
     have cu:Hid (∀ y,Below w.heap.size w y→Calls prog 78 #[.pointer (some ⟨s,0,none⟩),.slice Y K.length rc,.int .i64 T.types[c],.int .i64 (m:Int)] y fun e w'=>Below y.heap.size y w'∧∃ b,e=.returned (.tuple #[.slice none 0 0,.iface 157 (.pointer (some ⟨b,0,none⟩))])∧y.heap.size≤b∧Yu w' (.iface 157 (.pointer (some ⟨b,0,none⟩))) pg none (some (j:Int))):=bL.out;have dr:Hid ((Jfx D T.types T.segs (List.replicate T.types.length []) (cks T.rows T.group (ckN T.rows T.group))).1=.inr j):=by
      show _=_;obtain⟨fE,dP⟩:=Jvd T.rows T.group (k+1) _ cf.out;rw[dP];refine Kel D T.types T.segs _ _ _ _ ?_;rw[Jbj,Ji5];simp only[Jpn,cc.out,Ji2,Jbp,bB.out];refine Kd4 D H T.types _ cs j (c+1) _ ?_ bR;have:=bJ.out;rw[cj.out,bz.out]at this;exact this
     clear bL bJ bI cv;go_wp2_with (first|(go_at_call 78;refine(cu.out _ X).mono ?_;rintro e cx ⟨bO,be,rfl,dH,dI⟩))
     go_ret2
     rw[dr.out];exact⟨Jb X bO,be,rfl,Ob2 X.size dH,dI⟩
    obtain rfl:c=T.types.length:=by omega
    go_wp2;go_roundw
    case rel=>
     refine⟨k+1,f+T.group,E,ba,bV,bf,bS,R,cf.out,by show _=_;rw[Of5,bz.out],by omega,by go_num,?_,ch,fun j=>?_,?_,rfl,bK,cS,X⟩
     ·show _=_;rw[Jbj,Ji5];simp only[Jpn,cc.out,Ji2,Jbp,bB.out];have:=bI.out;rw[cj.out,bz.out]at this;exact this
     ·have bc:=cb.out j;have bn:=cj.out;split at bc<;>omega
     show _=_;rw[←bA.out,←bB.out,List.drop_drop,Of5]
    case measure=>simp[intOf];omega
  obtain⟨_,rfl⟩:True∧k=ckN T.rows T.group:=by
   refine⟨trivial,?_⟩;rcases Oc1 k (ckN T.rows T.group)with h|h
   ·have:=Jqs bj h;rw[←bz.out]at this;omega
   ·omega
  have cA:=cG.out;go_wp2;go_ret2
  rw[cc.out];rw[←cA];exact⟨bE,_,bX,rfl,bP⟩
theorem Jlg (g n cap:Nat)(a:Option Addr)(l c:Nat)(w:World)(hn:1≤n)(h0:w.cell? ⟨g,0,none⟩=some (.slice a l c)) :
  Calls prog 53 #[.slice (some ⟨g,0,none⟩) n cap] w fun e w'=>e=.returned (.int .i64 (l:Int))∧w'=w:=by
 have q:((n:Int)==0)=false:=by rw[beq_eq_false_iff_ne];omega
 go_enter func53,ntmps53
 go_wp2;go_ret
 exact⟨rfl,rfl⟩
def Ji (cs:List (List V))(j:Nat):List V:=cs.map fun c=>c.getD j Jf
theorem Yk (cs:List (List V))(j:Nat):(Ji cs j).length=cs.length:=by simp[Ji]
theorem Jge (n:Nat)(cs:List (List V))(j:Nat)(y:j<n):(Qf n cs)[j]?=some (Ji cs j):=by simp[Qf,Ji,y]
theorem Jk1 (L:List V)(c n:Nat)(hl:L.length=n)(E:c<n):(L.take c++List.replicate (n-c) Jf).set c L[c]=L.take (c+1)++List.replicate (n-(c+1)) Jf:=by
 obtain⟨d,y⟩:∃ d,n-c=d+1:=⟨n-c-1,by omega⟩;have D:n-(c+1)=d:=by omega
 rw[y,D,List.replicate_succ,Ok4 _ _ (by rw[Oc7];omega)];rw[Oc7,Oj1 (by omega),Oe1,List.set_cons_zero,Jec L c (by omega),Od8];rfl
def Ktm (w:World)(b:Nat)(t:TypeId)(n:Nat)(f:Nat→Value):Prop:=∃ c:Array Value,w.heap[b]?=some (.cells c t (0,0))∧n≤c.size∧∀ i,i<n→c[i]?=some (f i)
section
variable {w w':World} {b:Nat} {t:TypeId} {n:Nat} {f g:Nat→Value}
theorem Kt4 (h:w.rowIs b t n f):Ktm w b t n f:=by
 obtain⟨c,y,E,D⟩:=h;exact⟨c,y,by omega,D⟩
theorem Ktm.cell (h:Ktm w b t n f){i:Nat}(hi:i<n):w.cell? ⟨b,i,none⟩=some (f i):=by
 obtain⟨c,y,_,D⟩:=h;simp[World.cell?,y,D i hi]
theorem Ktm.lt (h:Ktm w b t n f):b<w.heap.size:=by
 obtain⟨c,y,_,_⟩:=h;exact(Oe2.1 y).1
theorem Ktm.congr (h:Ktm w b t n f)(e:∀ i,i<n→f i=g i):Ktm w b t n g:=by
 obtain⟨c,y,hn,D⟩:=h;exact⟨c,y,hn,fun i hi=>by rw[D i hi,e i hi]⟩
theorem Ktm.of_block (h:Ktm w b t n f)(e:w'.heap[b]?=w.heap[b]?):Ktm w' b t n f:=by
 obtain⟨c,y,hn,D⟩:=h;exact⟨c,e.trans y,hn,D⟩
end
theorem Jo4 (g cap:Nat)(bD:List Value)(cs:List (List V))(n:Nat)(w:World)(bB:Ktm w g 40 bD.length (Uq bD))(hl:bD.length=cs.length)(bf:∀ i,i<cs.length→∃ a c,Uq bD i=.slice a (cs.getD i []).length c∧Jv w a (cs.getD i []))(Y:∀ i,i<cs.length→(cs.getD i []).length=n)(bn:1≤cs.length)(X:cs.length≤1000)(hn:n≤10000) :
  Calls prog 35 #[.slice (some ⟨g,0,none⟩) cs.length cap] w fun e w'=>e=.returned (.slice (some ⟨w.heap.size,0,none⟩) n n)∧(∃ bs,Jcu w' w.heap.size w.heap.size bs (Qf n cs))∧Below w.heap.size w w':=by
 have cC:∀ W,(Instr.makeSlice 23 (.int .i64 (n:Int)) (.int .i64 (n:Int))).run prog W=.ok (.slice (some ⟨W.heap.size,0,none⟩) n n) (W.alloc (.cells (madeCells #[.slice none 0 0] n) 41)):=
  fun W=>run_make_row' 23 41 (.slice none 0 0) 24 (by kernel_rfl) Jip rfl .i64 .i64 n (by omega) (by omega) W
 have bH:=bB.cell (i:=0) (by omega);obtain⟨ch,ci,bU,_⟩:=bf 0 (by omega);rw[bU,Y 0 (by omega)]at bH;have Z:=Jlg g cs.length cap ch n ci w bn bH;have cy:=bB.lt;have bY:Hid (∀ (W:World) (i k:Nat) (hi:i<cs.length) (bI:k<n),Below w.heap.size w W→∃ b o rc,W.cell? ⟨g,i,none⟩=some (.slice (some ⟨b,o,none⟩) n rc)∧b<w.heap.size∧VAt W b (o+k*3) ((Ji cs k)[i]'(by rw[Yk];exact hi))):=fun W i k hi bI D=>by
  obtain⟨a,rc,O,K⟩:=bf i hi;have bJ:k<(cs.getD i []).length:=by rw[Y i hi];exact bI
  obtain⟨b,o,rfl,cO,cH⟩:=(K.below D).at bJ;obtain⟨cK,cQ,bV,cx,_⟩:=K.at bJ;simp at bV;obtain⟨rfl,rfl⟩:=bV;refine⟨b,o,rc,?_,cx,?_⟩
  ·rw[D.cell (p:=⟨g,i,none⟩) cy,bB.cell (by omega),O,Y i hi]
  have e:cs.getD i []=cs[i]:=by rw[Oa0,Oa3 hi];rfl
  have cA:k<cs[i].length:=by rw[←e];exact bJ
  have K:(cs.getD i [])[k]=cs[i][k]:=by simp only[e]
  have:(Ji cs k)[i]'(by rw[Yk];exact hi)=(cs.getD i [])[k]:=by
   rw[K];simp only[Ji,Od9];rw[Oa0,Oa3 cA];rfl
  rw[this];exact cH
 clear bf Y bH bU bB hl;go_enter func35,ntmps35
 go_wp2_with (first|(go_at_call 53;refine Z.mono ?_;rintro e cf ⟨rfl,cM⟩;subst cf))
 clear cC Z;go_loopw [12] (fun i wr=>∃ (k:Nat) (bs:List Nat),k≤n∧i=.int .i64 k∧Hid (bs.length=k)∧wr.rowIs w.heap.size 41 n (fun j=>if j<k then .slice (some ⟨bs.getD j 0,0,none⟩) cs.length cs.length else .slice none 0 0)∧Hid (∀ j b,bs[j]?=some b→Kv wr b (Ji cs j) []∧w.heap.size<b)∧Hid bs.Nodup∧Below w.heap.size w wr) (fun i _=>n-(intOf i).toNat)
 case atStart=>exact⟨0,[],by omega,rfl,rfl,(Ol3 _ _ _ _).congr (fun j _=>by simp),fun j b h=>by simp at h,List.nodup_nil,(Oa5 _ _).alloc (Oa2 _) _⟩
 case round=>
  obtain⟨k,bs,bI,rfl,bh,R,bi,bS,br⟩:=hrel;obtain⟨y,U⟩:∃ y,y=wr:=⟨_,rfl⟩;subst U;have cP:=R.lt;by_cases bL:k<n
  ·obtain⟨C,cB,bM⟩:=Jtn cs.length X y;have c1:=R.cell bL;have c2:=R.frozen k;simp only[Oe3,if_false]at c1;go_wp2;clear cB c1 c2;have bG:=br.setCell (p:=⟨w.heap.size,k,none⟩) (Oa2 _) (.slice (some ⟨y.heap.size,0,none⟩) cs.length cs.length);have bc:(y.setCell ⟨w.heap.size,k,none⟩ (.slice (some ⟨y.heap.size,0,none⟩) cs.length cs.length)).heap.size=y.heap.size:=by simp[World.setCell]
   go_loopw [23] (fun i wr=>∃ c:Nat,c≤cs.length∧i=.int .i64 c∧Kv wr y.heap.size ((Ji cs k).take c++List.replicate (cs.length-c) Jf) []∧wr.rowIs w.heap.size 41 n (fun j=>if j=k then .slice (some ⟨y.heap.size,0,none⟩) cs.length cs.length else if j<k then .slice (some ⟨bs.getD j 0,0,none⟩) cs.length cs.length else .slice none 0 0)∧Hid (∀ x,x<y.heap.size→x≠w.heap.size→wr.heap[x]?=y.heap[x]?)∧y.heap.size<wr.heap.size∧Below w.heap.size w wr) (fun i _=>cs.length-(intOf i).toNat)
   case atStart=>
    obtain⟨cJ,O,K⟩:=bM;rw[heap_alloc_new]at O;simp at O;subst O;refine⟨0,Ob7 _,rfl,⟨C,?_,by simpa using K⟩,(R.set k _).alloc _,fun x bN bO=>?_,by rw[Oa7,bc];omega,Jc bG _⟩
    ·have:=heap_alloc_new (y.setCell ⟨w.heap.size,k,none⟩ (.slice (some ⟨y.heap.size,0,none⟩) cs.length cs.length)) (.cells C 39);rw[bc]at this;exact this
    rw[Oa9 _ _ x (by rw[bc];exact bN),Oa4 _ _ _ _ bO]
   case round=>
    obtain⟨c,Y,rfl,bA,bz,bT,cG,bE⟩:=hrel;have bR:Hid (wr.rowIs w.heap.size 41 n (fun j=>if j=k then .slice (some ⟨y.heap.size,0,none⟩) cs.length cs.length else if j<k then .slice (some ⟨bs.getD j 0,0,none⟩) cs.length cs.length else .slice none 0 0)):=bz;by_cases bx:c<cs.length
    ·obtain⟨b2,bP,rc,cU,cN,z1,z2,bQ⟩:=bY.out wr c k bx bL bE;have bK:=bz.cell bL;simp only[if_true]at bK;have cD:c<(Ji cs k).length:=by rw[Yk];exact bx
     have Z:((Ji cs k).take c++List.replicate (cs.length-c) Jf).length=cs.length:=by
      rw[Oa8,Oc7,Yk,Od6];omega
     obtain⟨cS,⟨c0,cj⟩,⟨c1,O⟩,⟨c2,K⟩,bC⟩:=bA.put (Ji cs k)[c] c (by rw[Z];exact bx);rw[Jk1 (Ji cs k) c cs.length (Yk _ _) bx]at bC;generalize (Ji cs k)[c]=v at z1 z2 bQ bC;have cb:Hid (Kv (((wr.setCell ⟨y.heap.size,c*3,none⟩ (.int .i64 v.k)).setCell ⟨y.heap.size,c*3+1,none⟩ (.int .i64 v.n)).setCell ⟨y.heap.size,c*3+2,none⟩ (.string v.s)) y.heap.size ((Ji cs k).take (c+1)++List.replicate (cs.length-(c+1)) Jf) []):=bC;have U:=br.size;clear bC Z cD bz R bM bG bc;go_wp2;refine wp_region_held_drew (S:=fun bj=>bj.cell? ⟨w.heap.size,k,none⟩=some (.slice (some ⟨y.heap.size,0,none⟩) cs.length cs.length)∧bj.cell? ⟨b2,bP+k*3,none⟩=some (.int .i64 v.k)∧bj.cell? ⟨b2,bP+k*3+1,none⟩=some (.int .i64 v.n)∧bj.cell? ⟨b2,bP+k*3+2,none⟩=some (.string v.s)) (by kernel_rfl) ⟨bK,z1,z2,bQ⟩ (fun E=>?_);refine tkj 0 rfl E ?_;refine tkj 1 rfl E ?_;refine tkj 2 rfl E ?_;refine tkj 3 rfl E ?_;refine tkj 4 rfl E ?_;refine tkj 5 rfl E ?_;refine tkj 6 rfl E ?_;refine tkj 7 rfl E ?_;refine tkj 8 rfl E ?_;refine tkj 9 rfl E ?_;refine tkn ?_;refine tkr 10 rfl fun cc bW=>?_;go_simp;have ba:∀ (b o:Nat) (u:Value),b≠y.heap.size→wr.cell? ⟨b,o,none⟩=some u→(((wr.setCell ⟨y.heap.size,c*3,none⟩ (.int .i64 v.k)).setCell ⟨y.heap.size,c*3+1,none⟩ (.int .i64 v.n)).setCell ⟨y.heap.size,c*3+2,none⟩ (.string v.s)).cell? ⟨b,o,none⟩=some u:=fun b o u D bf=>by
      rw[Ob5 _ _ _ _ (by first|(simp;done)|(simp;omega)),Ob5 _ _ _ _ (by first|(simp;done)|(simp;omega)),Ob5 _ _ _ _ (by first|(simp;done)|(simp;omega))];exact bf
     refine bW.out _ _ ⟨ba _ _ _ (by omega) bK,ba _ _ _ (by omega) z1,ba _ _ _ (by omega) z2,ba _ _ _ (by omega) bQ⟩ (fun cn=>?_);clear bW cc ba E cn c0 cj c1 O c2 K;refine wpAnyH_done (by kernel_rfl) ?_ _;have cE:Hid ((((wr.setCell ⟨y.heap.size,c*3,none⟩ (.int .i64 v.k)).setCell ⟨y.heap.size,c*3+1,none⟩ (.int .i64 v.n)).setCell ⟨y.heap.size,c*3+2,none⟩ (.string v.s)).rowIs w.heap.size 41 n (fun j=>if j=k then .slice (some ⟨y.heap.size,0,none⟩) cs.length cs.length else if j<k then .slice (some ⟨bs.getD j 0,0,none⟩) cs.length cs.length else .slice none 0 0)):=
      ((bR.out.setOther (a:=⟨y.heap.size,c*3,none⟩) (by show w.heap.size≠y.heap.size;omega) _).setOther (a:=⟨y.heap.size,c*3+1,none⟩) (by show w.heap.size≠y.heap.size;omega) _).setOther (a:=⟨y.heap.size,c*3+2,none⟩) (by show w.heap.size≠y.heap.size;omega) _
     have cv:Below w.heap.size w (((wr.setCell ⟨y.heap.size,c*3,none⟩ (.int .i64 v.k)).setCell ⟨y.heap.size,c*3+1,none⟩ (.int .i64 v.n)).setCell ⟨y.heap.size,c*3+2,none⟩ (.string v.s)):=
      ((bE.setCell (p:=⟨y.heap.size,c*3,none⟩) U _).setCell (p:=⟨y.heap.size,c*3+1,none⟩) U _).setCell (p:=⟨y.heap.size,c*3+2,none⟩) U _
     have bZ:Hid (∀ x,x<y.heap.size→x≠w.heap.size→(((wr.setCell ⟨y.heap.size,c*3,none⟩ (.int .i64 v.k)).setCell ⟨y.heap.size,c*3+1,none⟩ (.int .i64 v.n)).setCell ⟨y.heap.size,c*3+2,none⟩ (.string v.s)).heap[x]?=y.heap[x]?):=fun x bN bO=>by
      rw[Oa4 _ _ _ _ (by show x≠y.heap.size;omega),Oa4 _ _ _ _ (by show x≠y.heap.size;omega),Oa4 _ _ _ _ (by show x≠y.heap.size;omega)];exact bT.out x bN bO
     have cF:y.heap.size<(((wr.setCell ⟨y.heap.size,c*3,none⟩ (.int .i64 v.k)).setCell ⟨y.heap.size,c*3+1,none⟩ (.int .i64 v.n)).setCell ⟨y.heap.size,c*3+2,none⟩ (.string v.s)).heap.size:=by simp[World.setCell];exact cG
     generalize ((wr.setCell ⟨y.heap.size,c*3,none⟩ (.int .i64 v.k)).setCell ⟨y.heap.size,c*3+1,none⟩ (.int .i64 v.n)).setCell ⟨y.heap.size,c*3+2,none⟩ (.string v.s)=cT at *;go_wp2;go_roundw
     case rel=>exact⟨c+1,by omega,by go_num,cb.out,cE.out,bZ.out,cF,cv.drew⟩
     case measure=>simp[intOf];omega
    obtain rfl:c=cs.length:=by omega
    rw[Oe1,List.replicate_zero,Od7,Oc8 (by rw[Yk];exact Oa2 _)]at bA;have ca:Hid (Kv wr y.heap.size (Ji cs k) []):=bA;have U:=br.size;clear bA bz R bM bG bc;go_wp2;go_roundw
    case rel=>
     refine⟨k+1,bs++[y.heap.size],by omega,by go_num,by show _=_;rw[Oa8,bh.out];rfl,bR.out.congr fun j H=>?_,fun j b D=>?_,?_,bE⟩
     ·have hl:=bh.out;by_cases e:j=k
      ·subst e;simp[hl]
      by_cases bn:j<k
      ·have X:j<k+1:=(by omega);simp[e,bn,X,List.getElem?_append_left (show j<bs.length by omega)]
      have X:¬ j<k+1:=(by omega);simp[e,bn,X]
     ·by_cases e:j<bs.length
      ·rw[Ob0 e]at D;obtain⟨bX,cI⟩:=bi.out j b D;exact⟨bX.of_block (bT.out b bX.lt (by omega)),cI⟩
      have hl:=bh.out;have H:j=k:=by
       have:=(Ob9.1 D).1;simp at this;omega
      subst H;rw[←hl,Ob6 (Oa2 _),Oe1]at D;simp at D;subst D;exact⟨ca.out,by omega⟩
     show (bs++[y.heap.size]).Nodup;rw[Op3];refine⟨bS.out,by simp,fun a cu b D=>?_⟩;simp at D;subst D;obtain⟨j,H,rfl⟩:=Od5 cu;have:=(bi.out j _ (Oa3 H)).1.lt;omega
    case measure=>simp[intOf];omega
  obtain rfl:k=n:=by omega
  go_wp2;go_ret
  refine⟨rfl,⟨bs,by rw[Uu];exact bh.out,?_,?_,⟨Oa2 _,fun b D=>?_⟩,bS.out⟩,br⟩
  ·rw[Uu];refine R.congr fun j H=>?_;rw[if_pos H];unfold Jad;rw[Oa0 (l:=Qf k cs),Jge k cs j H];simp only[Option.getD_some,Yk]
  ·intro i b r hi hr;have cz:i<k:=by
    have:=(Ob9.1 hr).1;rw[Uu]at this;exact this
   rw[Jge k cs i cz]at hr;simp at hr;subst hr;exact(bi.out i b hi).1
  obtain⟨j,H,rfl⟩:=Od5 D;have:=(bi.out j _ (Oa3 H)).2;omega
end Go.Proofs.YtpchafocmlhmbaaGreatDoor
