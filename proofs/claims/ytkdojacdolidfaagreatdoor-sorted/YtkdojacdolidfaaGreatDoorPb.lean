/- fewRuns. -/
import Derived.Test.YtkdojacdolidfaaGreatDoorOk
import Derived.Test.YtkdojacdolidfaaGreatDoorOh
import Derived.Test.YtkdojacdolidfaaGreatDoorYf
set_option maxHeartbeats 4000000
set_option maxRecDepth 100000
namespace Go.Proofs.YtkdojacdolidfaaGreatDoor
open Go.RowKit Go.Shelf Tryz
def Kvo (y:SC)(z lim:Nat)(ev:Value)(w':World):Prop:=∃ I H M mv K b,ev=.iface 158 (.pointer (some ⟨b,0,none⟩))/\SI y w' I H M mv (z:Int)/\Yu w' (.iface 158 (.pointer (some ⟨b,0,none⟩))) (if K=true then y.q else y.qw) none (some (-1))/\y.w0.heap.size<=b/\¬ I b/\Ks1 y.D0 K/\dz H<=lim
def Kxg (K:SC)(z q n lim O:Nat)(g:Nat->Nat)(rv:Value)(w':World):Prop:=∃ I y H mv idx M,Ktc K z w' I y H mv rv idx M/\idx.length=q/\1<=q/\q<=50000/\H.length+q+g q<=O/\dz y+n*g q<=lim
theorem Kzj.split {K w w' z q ml lim}{e:Ending}{Y}(h:Kzj K w z q ml Y e w')(hl:Y<=lim)(bk:K.w0.heap.size<=w.heap.size):(∃ rv,e=.returned (.tuple #[rv,.nilIface])/\∃ I y H mv idx M,Ktc K z w' I y H mv rv idx M/\idx.length=q/\H.length=ml/\dz y<=Y)\/∃ b,e=.returned (.tuple #[.slice none 0 0,.iface 158 (.pointer (some ⟨b,0,none⟩))])/\Kvo K z lim (.iface 158 (.pointer (some ⟨b,0,none⟩))) w':=by
 rcases h with⟨I,y,H,mv,rv,idx,M,O,U⟩|⟨I,y,H,mv,br,b,O,U,Z,bf,bh,bi,bj⟩
 ·exact .inl ⟨rv,O,I,y,H,mv,idx,M,U⟩
 exact .inr ⟨b,O,I,y,H,mv,br,b,rfl,U,Z,Ob2 bk bf,bh,bi,Ob2 bj hl⟩
theorem Kum {q bu}(hb:2<=bu):2*ckN q bu<=q+1:=by
 unfold ckN;rcases Oj2 q with h|h
 ·subst h;rw[Op6 zo];omega
 have H:(q+bu-1) / bu<=(q+1) / 2:=by
  refine Nat.le_of_lt_succ ((Nat.div_lt_iff_lt_mul zo).2 ?_);have I:(q+1) / 2*bu>=(q+1) / 2*2:=Nat.mul_le_mul_left _ hb;have y:((q+1) / 2+1)*bu=(q+1) / 2*bu+bu:=Of5 _ _;rw[y];omega
 omega
theorem Kxg.pass {y}(hK:SK y){z q lim H bu pr:Nat}{g rv w}(h:Kxg y z q (pr*nR y.cs) lim H g rv w)(bz:y.bu=(bu:Int))(br:2<=bu)(bx:bu<=50000)(bG:1<=z)(bH:z<=64)(bD:∀ x,x<nR y.cs->(Qu (Kr6 y.ts (Jba [x] y.cs) y.ts.length)).length<=pr)(bj:nR y.cs<=50000)(hM:H<=900000)(bO:lim<=930000)(hq:bu<q)(bB:g (ckN q bu)+1<=g q):
  Calls prog 207 #[.pointer (some ⟨y.sb,0,none⟩),rv] w fun e w'=>(∃ rv',e=.returned (.tuple #[rv',.nilIface])/\Kxg y z (ckN q bu) (pr*nR y.cs) lim H g rv' w')\/∃ b,e=.returned (.tuple #[.slice none 0 0,.iface 158 (.pointer (some ⟨b,0,none⟩))])/\Kvo y z lim (.iface 158 (.pointer (some ⟨b,0,none⟩))) w':=by
 obtain⟨O,K,bf,mv,idx,Y,I,rfl,bi,bK,bL,bM⟩:=h;have bC:pr*nR y.cs*(g (ckN idx.length bu)+1)<=pr*nR y.cs*g idx.length:=Nat.mul_le_mul_left _ bB;rw[Nat.mul_add,Nat.mul_one]at bC;refine(Kw6 y hK w O K bf mv rv idx Y z bu pr I bz zo bx bG bH bD bi zo zo bj zo).mono fun e w' hp=>?_;rcases hp.split (lim:=lim) zo I.si.old.size with⟨rv',bA,U,M,bh,bJ,bI,Z,bk,bE,bP,bN⟩|hp
 ·refine .inl ⟨rv',bA,U,M,bh,bJ,bI,Z,bk,bE,Khi zo zo,?_,?_,zo⟩
  ·have:=Kg4 idx.length bu zo;omega
  have:=Kum (q:=idx.length) br;omega
 exact .inr hp
def Qdp (H:SC)(z bu lim:Nat)(e:Ending)(w':World):Prop:=
 (∃ rv,e=.returned (.tuple #[rv,.nilIface])/\∃ I y M mv idx K,Ktc H z w' I y M mv rv idx K/\1<=idx.length/\idx.length<=bu/\dz y<=lim)\/∃ ev,e=.returned (.tuple #[.slice none 0 0,ev])/\Kvo H z lim ev w'
theorem zaY {p:Prop}(h:p:=by
 have I:=Krx H;clear H hrel;go_wp2;go_ret2
 exact .inr ⟨_,rfl,I.out⟩):p:=h
theorem Qaq (y:SC)(hK:SK y)w(F:Nat->Prop)(E:DS)(bl:Int)(h:SI y w F E [] (.slice none 0 0) bl)(bf cp:Nat)(hs:List (Option Addr×Nat))(hC:Qd y.w0 bf hs y.cs)(bC:Jbo bf hs y.cs.length (fun b=>b<y.w0.heap.size/\¬ y.F0 b))(bu pr:Nat)(bk:y.bu=(bu:Int))(bG:2<=bu)(bH:bu<=50000)(bW:1<=nR y.cs)(bD:nR y.cs<=50000)(br:∀ ch:List Nat,(∀ t∈ch,t<nR y.cs)->1<=ch.length->ch.length<=64->(Qu (Kr6 y.ts (Jba ch y.cs) y.ts.length)).length<=pr*ch.length)(g:Nat->Nat)(bK:∀ q,bu<q->g (ckN q bu)+1<=g q)(bL:g (ckN (nR y.cs) bu)<=100000)(lim:Nat)(bY:lim<=930000)(bI:dz E+2*pr*bu*ckN (nR y.cs) bu+pr*nR y.cs*g (ckN (nR y.cs) bu)<=lim)(z:Nat)(bx:z=min (max (bu / ckN (nR y.cs) bu) 1) 64):
  Calls prog 157 #[.pointer (some ⟨y.sb,0,none⟩),.slice (some ⟨bf,0,none⟩) y.cs.length cp] w (Qdp y z bu lim):=by
 have cb:=h.old.size;obtain⟨⟨_,_,s2⟩,_⟩:=h.st.field;have hcut:=Kzs y hK w F E bl h bf cp hs hC bC bu pr bk zo bH bW bD br zo z bx;have bJ:=hcut.mono fun e w' hp=>hp.split (lim:=lim) zo cb;have bO:1<=ckN (nR y.cs) bu:=Khi zo zo;have bP:ckN (nR y.cs) bu<=nR y.cs:=Kg4 _ _ zo;have bQ:1<=z/\z<=64:=by rw[bx];generalize bu / ckN (nR y.cs) bu=cx;omega
 have bN:∀ x,x<nR y.cs->(Qu (Kr6 y.ts (Jba [x] y.cs) y.ts.length)).length<=pr:=fun x cc=>by
  have:=br [x] (fun t ht=>by rw[Oc6.1 ht];exact cc) (Oa2 _) (by rw[List.length_singleton];omega);rw[List.length_singleton,Nat.mul_one]at this;exact this
 have bS:Hid (∀ q rv W,bu<q->Kxg y z q (pr*nR y.cs) lim 900000 g rv W->Calls prog 207 #[.pointer (some ⟨y.sb,0,none⟩),rv] W fun e w'=>(∃ rv',e=.returned (.tuple #[rv',.nilIface])/\Kxg y z (ckN q bu) (pr*nR y.cs) lim 900000 g rv' w')\/∃ b,e=.returned (.tuple #[.slice none 0 0,.iface 158 (.pointer (some ⟨b,0,none⟩))])/\Kvo y z lim (.iface 158 (.pointer (some ⟨b,0,none⟩))) w'):=fun q rv W hq M=>M.pass hK bk bG bH bQ.1 bQ.2 bN bD (Oa2 _) bY hq (bK q hq);have bz:Hid (∀ rv W q,Kxg y z q (pr*nR y.cs) lim 900000 g rv W->W.cell? ⟨y.sb,2,none⟩=some (.int .i64 (bu:Int))/\∃ a c,rv=.slice a q c):=fun rv W q ⟨U,O,Z,mv,idx,Y,K,hq,_⟩=>by
  refine⟨?_,?_⟩
  ·have:=K.si.st.field.1.2.2;rw[bk]at this;exact this
  obtain⟨a,c,e,_⟩:=K.own.cells;rw[Oa6,Oa6,hq]at e;exact⟨a,c,e⟩
 have bh:=Krx bJ;have bT:Hid (1<=ckN (nR y.cs) bu/\ckN (nR y.cs) bu<=nR y.cs/\dz E+2*pr*bu*ckN (nR y.cs) bu+pr*nR y.cs*g (ckN (nR y.cs) bu)<=lim/\g (ckN (nR y.cs) bu)<=100000):=⟨bO,bP,bI,bL⟩;have bR:Hid (∀ q,bu<q->ckN q bu<q):=fun q hq=>by have:=Kum (q:=q) bG;omega
 clear hcut bJ br bN h hC bC bx bI bK bL s2 bO bP;go_enter func157,ntmps157
 go_wp2_with (go_at_call 206;refine bh.out.mono ?_)
 rintro e bB (⟨rv,rfl,U,O,Z,mv,idx,Y,K,hq,ca,bX⟩|⟨b,rfl,H⟩)
 ·have bj:Kxg y z (ckN (nR y.cs) bu) (pr*nR y.cs) lim 900000 g rv bB:=by
   have:=bT.out;exact⟨U,O,Z,mv,idx,Y,K,hq,zo,zo,zo,zo⟩
  have bA:=Krx bj;obtain⟨_,a,c,rfl⟩:=bz.out rv bB _ bj;clear bj K hq ca bX bh;go_wp2;go_loopg [6,7] (ckN (nR y.cs) bu+1) (fun k rv ev wr=>Hid ((ev=.nilIface/\∃ q,k=q+1/\Kxg y z q (pr*nR y.cs) lim 900000 g rv wr)\/(rv=.slice none 0 0/\∃ b,ev=.iface 158 (.pointer (some ⟨b,0,none⟩))/\Kvo y z lim (.iface 158 (.pointer (some ⟨b,0,none⟩))) wr)))
  case atStart=>exact .inl ⟨rfl,_,rfl,bA.out⟩
  case round=>
   clear bA;rcases hrel.out with⟨rfl,q,rfl,M⟩|⟨rfl,b,rfl,H⟩
   ·obtain⟨c2,a,c,rfl⟩:=bz.out _ _ _ M;by_cases bM:bu<q
    ·have bZ:(bu:Int)<(q:Int):=zo;have bi:=Krx (bS.out q _ _ bM M);clear M hrel;go_wp2_with (go_at_call 207;refine bi.out.mono ?_)
     rintro e cf (⟨rv',rfl,bE⟩|⟨b,rfl,H⟩)
     ·have bV:=Krx bE;clear bE bi;go_wp2;go_roundg (ckN q bu+1)
      case rel=>exact .inl ⟨rfl,_,rfl,bV.out⟩
      case measure=>have:=bR.out q bM;omega
     have I:=Krx H;clear H bi;go_wp2;go_roundg 0
     case rel=>exact .inr ⟨rfl,b,rfl,I.out⟩
     case measure=>omega
    have bZ:¬ (bu:Int)<(q:Int):=zo;have bU:=Krx M;clear M hrel;go_wp2;go_ret2
    obtain⟨U,O,Z,mv,idx,Y,K,ci,cj,cn,cu,cv⟩:=bU.out;exact .inl ⟨_,rfl,U,O,Z,mv,idx,Y,K,zo,zo,zo⟩
   exact zaY
 have I:=Krx H;clear H bh;go_wp2;go_loopg [6,7] 1 (fun k rv ev wr=>Hid (rv=.slice none 0 0/\ev=.iface 158 (.pointer (some ⟨b,0,none⟩))/\Kvo y z lim (.iface 158 (.pointer (some ⟨b,0,none⟩))) wr))
 case atStart=>exact⟨rfl,rfl,I.out⟩
 case round=>
  clear I;obtain⟨rfl,rfl,H⟩:=hrel.out;exact zaY
theorem Kxr (u:FrameMode)(sb d:Nat)bz(cj:Nat)(y:List Mr)(ts:List Int)(cs:Cs)w(F:Nat->Prop)(D:DS)(bX:w.cell? ⟨sb,3,none⟩=some (.pointer (some ⟨d,0,none⟩)))(cB:w.cell? ⟨sb,5,none⟩=some (.slice bz y.length cj))(bI:Uh w bz (y.map fun m=>.pointer (some ⟨m.rb,0,none⟩)))(bK:¬ F sb)(cb:∀ x o,bz=some ⟨x,o,none⟩->¬ F x)(bY:Zb w F d D)(hF:∀ k,F k->k<w.heap.size)(hM:∀ m∈y,Kxq w F ts cs m)(hl:∀ m∈y,m.R.bs.length<=1000000/\∀ b∈m.R.bs,b.l.length<=1000000)(cF:y.length<=9223372036854775807):
  CallsD prog 156 #[.pointer (some ⟨sb,0,none⟩)] u w fun e cn w'=>cn=u/\(e=.returned (.tuple #[])/\Zb w' F d (Jcg D (y.flatMap Mr.ls))/\Ju F w w'):=by
 have bQ:Hid (∀ m∈y,Kxq w F ts cs m/\m.R.bs.length<=1000000/\∀ b∈m.R.bs,b.l.length<=1000000):=fun m bH=>⟨hM m bH,hl m bH⟩;clear hM hl;go_enter_d func156,ntmps156
 go_wp2;go_loopw [11] (fun iv wr=>∃ i:Nat,iv=.int .i64 i/\i<=y.length/\Zb wr F d (Jcg D ((y.take i).flatMap Mr.ls))/\Ju F w wr) (fun iv _=>y.length-(intOf iv).toNat)
 case atStart=>exact⟨0,rfl,Ob7 _,bY,Ju.refl _ _⟩
 case round=>
  rename_i iv
  obtain⟨i,rfl,hi,Y,hK⟩:=hrel;by_cases O:i<y.length
  ·have ci:(i:Int)<(y.length:Int):=zo;obtain⟨cz,cA,rfl,cC,bB⟩:=(bI.on hK.size fun x o e=>hK.block x (by
    rcases bI with bC|⟨x',cH,M,bj,_⟩
    ·rw[List.map_eq_nil_iff]at bC;rw[bC]at O;simp at O
    rw[e]at M;simp at M;rw[M.1];exact bj) (cb x o e)).at (i:=i) (by simpa using O)
   rw[Od9]at bB;obtain⟨bk,cD,bE⟩:=bQ.out y[i] (Ob3 O);have H:=bk.keep hK;obtain⟨_,bW,_,_⟩:=H.1.fields;have bU:Hid ((y.take (i+1)).flatMap Mr.ls=(y.take i).flatMap Mr.ls++Mr.ls y[i]):=by show _=_;rw[Oc4 O,Oe8];simp
   have bO:=zh bk;have bP:=zh bE;clear bk H bE;generalize y[i]=m at *;go_wp2;go_loopw [20] (fun bh bN=>∃ j:Nat,bh=.int .i64 j/\j<=m.R.bs.length/\Zb bN F d (Jcg D ((y.take i).flatMap Mr.ls++(m.R.bs.take j).map (·.l)))/\Ju F w bN) (fun bh _=>m.R.bs.length-(intOf bh).toNat)
   case atStart=>exact⟨0,rfl,Ob7 _,by simpa using Y,hK⟩
   case round=>
    rename_i bh
    clear Y hK bW bB;obtain⟨j,rfl,cE,Z,hK⟩:=hrel;by_cases K:j<m.R.bs.length
    ·have cf:(j:Int)<(m.R.bs.length:Int):=zo;have H:=bO.out.keep hK;obtain⟨U,bi,bG,cG,bL⟩:∃ U bi,m.ba=some ⟨U,bi,none⟩/\U<wr.heap.size/\∀ i v,(m.R.bs.flatMap (Bk.cells ts.length))[i]?=some v->wr.cell? ⟨U,bi+i,none⟩=some v:=by
      rcases H.1.arr with e|⟨x,o,M,bj,bV⟩
      ·exfalso;cases hbs:m.R.bs with
       |nil=>rw[hbs]at K;simp at K
       |cons b l=>rw[hbs]at e;simp[Bk.cells]at e
      exact⟨x,o,M,bj,bV⟩
     have bf:∀ t v,(Bk.cells ts.length m.R.bs[j])[t]?=some v->wr.cell? ⟨U,bi+(j*3+t),none⟩=some v:=fun t v ht=>bL _ v (by
      have:=Qcj (fun b:Bk=>Bk.cells ts.length b) 3 (fun b=>rfl) m.R.bs j K t (by have:=(Ob9.1 ht).1;simpa [Bk.cells] using this);rw[this];exact ht)
     have cu:=bf 0 _ rfl;have x1:=bf 1 _ rfl;have x2:=bf 2 _ rfl;rw[Nat.add_zero]at cu;rw[<-On5]at x1 x2;have bx:=H.1.blk m.R.bs[j] (Ob3 K);have c3:=hK.cell bX bK;have bS:Hid (∀ X,Below wr.heap.size wr X->Calls prog 97 #[.pointer (some ⟨d,0,none⟩),.slice (m.R.bs[j]).pa (m.R.bs[j]).l.length (m.R.bs[j]).pc] X fun e w'=>e=.returned (.tuple #[])/\Zb w' F d (Jf4 (Jcg D ((y.take i).flatMap Mr.ls++(m.R.bs.take j).map (·.l))) (m.R.bs[j]).l)/\Ju F X w'):=fun X bD=>Ki0 d _ _ (m.R.bs[j]).l X F _ (Z.below bD) (bx.pages.below bD) (fun x o e=>H.2.2 x (bx.pn x o e)) (bP.out _ (Ob3 K));have bT:Hid (Jcg D ((y.take i).flatMap Mr.ls++(m.R.bs.take (j+1)).map (·.l))=Jf4 (Jcg D ((y.take i).flatMap Mr.ls++(m.R.bs.take j).map (·.l))) (m.R.bs[j]).l):=by show _=_;rw[Oc4 K,Ob8,<-Od8];exact Kjz _ _ _
     rw[bG];clear bG bf bL bx H Z;generalize m.R.bs[j]=b at *;go_wp2_with fail
     have br:=Jc (Oa5 wr.heap.size wr) (.cells #[.int .i64 (b.ids.length:Nat),.slice b.la ts.length b.lc,.slice b.pa b.l.length b.pc] 361);have cv:=heap_alloc_new wr (.cells #[.int .i64 (b.ids.length:Nat),.slice b.la ts.length b.lc,.slice b.pa b.l.length b.pc] 361);have bA:=Ja br c3;have bZ:=hK.trans (Ju.of_below br);obtain⟨_,_,bM,_⟩:=Ksp cv;generalize wr.alloc (.cells #[.int .i64 (b.ids.length:Nat),.slice b.la ts.length b.lc,.slice b.pa b.l.length b.pc] 361)=cx at *;have bJ:¬ F wr.heap.size:=fun h=>by have:=hF _ h;have:=hK.size;omega
     have bR:=zh bJ;clear bJ;generalize wr.heap.size=nb at *;go_region_held3 (fun X=>X.cell? ⟨sb,3,none⟩=some (.pointer (some ⟨d,0,none⟩))/\X.cell? ⟨nb,2,none⟩=some (.slice b.pa b.l.length b.pc))
      (first|(exact⟨bA,bM⟩)|(exact ca)|(go_split_ands;constructor<;>assumption))
      (first|(go_at_call 97;refine(bS.out _ (Jp br 1)).mono ?_;rintro e cy ⟨rfl,cc,I⟩;have ca:=And.intro (I.cell bA bK) (I.cell bM bR.out)))
     go_wp2;go_roundw
     case rel=>exact⟨j+1,zn,zo,by rw[bT.out];exact cc,bZ.trans ⟨I.os,I.tape,I.output,I.size,I.block⟩⟩
     case measure=>simp[intOf];omega
    have cf:¬ (j:Int)<(m.R.bs.length:Int):=zo;go_wp2;go_roundw
    case rel=>
     refine⟨i+1,zn,zo,?_,hK⟩;rw[bU.out];rw[show m.R.bs.take j=m.R.bs from Oc8 zo]at Z;exact Z
    case measure=>simp[intOf];omega
  have ci:¬ (i:Int)<(y.length:Int):=zo;rw[Oc8 zo]at Y;go_wp2;go_end0
  exact⟨rfl,Y,hK⟩
theorem Kwh:∀ (l m:List Nat),l.Nodup->(∀ x∈l,x∈m)->l.length<=m.length
 |[],m,_,_=>Ob7 _
 |a::l,m,y,hs=>by
  rw[Og0]at y;have K:=Kwh l (m.erase a) y.2 fun x I=>(List.mem_erase_of_ne (fun e:x=a=>y.1 (e▸I))).2 (hs x (Og1 _ I));have H:=hs a Of4;rw[List.length_erase_of_mem H]at K;have:=List.length_pos_of_mem H;rw[List.length_cons];omega
theorem Kwg:∀ (y:List (List Nat)),(∀ l∈y,l≠[])->y.length<=y.flatten.length
 |[],_=>Oa2 _
 |l::y,h=>by
  have I:=Kwg y fun x H=>h x (Og1 _ H);have K:=Oi9.2 (h l Of4);rw[List.flatten_cons,Oa8,List.length_cons];omega
theorem Top.relAll {D}:∀ (y:List (List Nat)) (E:DS),Top D E y->Top D (Jcg E y) []
 |[],E,h=>h
 |l::y,E,h=>by
  have H:Top D (Jf4 E l) y:=Top.rel (a:=[]) h;exact Top.relAll y (Jf4 E l) H
theorem Kzq y:∀ E:DS,dz (Jcg E y)=dz E:=by
 induction y with
 |nil=>intro E;rfl
 |cons l y H=>intro E;exact(H (Jf4 E l)).trans (Kyw E l)
section
variable {K:SC} {w:World} {F:Nat->Prop} {E:DS} {Ms:List Mr} {mv:Value} {bl:Int}
theorem SI.blk_len (h:SI K w F E Ms mv bl)(hK:SK K){m}(M:m∈Ms):m.R.bs.length<=1000000:=by
 obtain⟨sv,ps,U⟩:=h.disk;have hs:=U.small;have Z:∀ l∈m.ls,l≠[]:=fun l hl e=>by
  unfold Mr.ls at hl;obtain⟨b,hb,rfl⟩:=Of0.1 hl;have y:=h.blks m M b hb;have Y:=hK.sg.lay y.2.2.1 y.2.1.2;have:=y.1.1;rw[e]at this;exact Jy1 Y.2.1 (Od3.1 this.symm)
 have H:=Kwg m.ls Z;have O:m.ls.flatten.Sublist (Ms.flatMap Mr.ls).flatten:=by
  rw[List.flatMap_def];exact Kux (List.sublist_flatten_of_mem (List.mem_map_of_mem M))
 have I:=Kwh m.ls.flatten (List.range E.pages.length) (h.top.nd.sublist O) fun x bf=>by
  obtain⟨p,hp⟩:=h.top.use x (O.subset bf);rw[Oj4];unfold pg at hp;rw[Oa0]at hp;by_cases hl:x<E.pages.length
  ·exact hl
  rw[Ob4 zo]at hp;cases hp
 rw[Op1]at I;unfold Mr.ls at H I;rw[Oa6]at H;omega
theorem SI.release (h:SI K w F E Ms mv bl)(hK:SK K)(u:FrameMode):CallsD prog 156 #[.pointer (some ⟨K.sb,0,none⟩)] u w fun e Z w'=>Z=u/\(e=.returned (.tuple #[])/\∃ I,Zb w' F K.d I/\Kft K.D0 I/\dz I=dz E/\Ju F w w'):=by
 obtain⟨_,s3,_,bE,_⟩:=h.st.field;obtain⟨H,bD,e,U⟩:=h.own.cells;rw[Oa6,Oa6]at e;subst e;have bA:Ms.length<=9223372036854775807:=by
  rcases h.own.2 with⟨_,h0⟩|⟨g,cap,O,_,_,_,bf,bh,_⟩
  ·rw[Oa6,Oa6]at h0;omega
  rw[Oa6,Oa6]at bf;unfold maxLen at bh;omega
 have bB:∀ x o,H=some ⟨x,o,none⟩->Ms≠[]->¬ F x:=fun x o e M bx=>by
  rcases h.own.2 with⟨y,h0⟩|⟨g,cap,O,y,_⟩
  ·rw[Oa6,Oa6]at h0;exact M (Od3.1 h0)
  injection y with y;rw[e]at y;injection y with y;injection y with y e3;subst y e3;exact h.mF x (by rw[e];rfl) bx
 have bj:∀ x o,H=some ⟨x,o,none⟩->¬ F x:=fun x o e=>by
  by_cases M:Ms=[]
  ·rcases h.own.2 with⟨y,_⟩|⟨g,cap,O,y,_⟩
   ·rw[e]at y;cases y
   injection y with y;rw[e]at y;injection y with y;injection y with y e3;subst y e3;exact h.mF x (by rw[e];rfl)
  exact bB x o e M
 have bk:Uh w H (Ms.map fun m=>.pointer (some ⟨m.rb,0,none⟩)):=by
  rw[Oi6]at U;exact U
 refine(Kxr u K.sb K.d H bD Ms K.ts K.cs w F E s3 bE bk h.sF bj h.disk h.flt h.runs (fun m Y=>⟨h.blk_len hK Y,fun b hb=>(h.blks m Y b hb).2.2.2⟩) bA).mono ?_;rintro e Z w' ⟨bC,br,bi,bz⟩;exact⟨bC,br,_,bi,(Top.relAll _ _ h.top).done,Kzq _ _,bz⟩
end
theorem Qal cs:Jba [] cs=List.replicate cs.length []:=by
 refine Oh4 (by rw[Krw,Od6]) fun j y H=>?_;rw[Krw]at y;have:=Kr1 (cs:=cs) [] y;rw[Oa0,Oa3 (by rw[Krw];exact y)]at this;rw[List.getElem_replicate];exact Od3.1 this
theorem Kzc n j:(Uq (List.replicate n (.slice none 0 0)) j).ownBlock=none:=by
 unfold Uq;rw[Oa0,Of3];by_cases h:j<n
 ·rw[if_pos h];rfl
 rw[if_neg h];rfl
def Qda (y:SC)(z lim ob g:Nat)(e:Ending)(w':World):Prop:=
 (e=.returned .nilIface/\∃ I H M mv K,SI y w' I H M mv (z:Int)/\dz H<=lim/\Jar w' y.w0.heap.size g K (Jba (Ksi (Kr7 y.ks y.cs) (List.range (nR y.cs))) y.cs)/\w'.cell? ⟨ob,0,none⟩=some (.slice (some ⟨g,0,none⟩) y.cs.length y.cs.length)/\∀ k,(k=g\/∃ j,j<y.cs.length/\(Uq K j).ownBlock=some k)->¬ I k) \/
 ∃ b,e=.returned (.iface 158 (.pointer (some ⟨b,0,none⟩)))/\Kvo y z lim (.iface 158 (.pointer (some ⟨b,0,none⟩))) w'
theorem Ktc.last {y}(hK:SK y){z lim W H X F E I mv rv idx Y}(h:Ktc y z W F E I mv rv idx Y)(bA:1<=idx.length)(Z:idx.length<=100000)(cf:nR y.cs<=50000)(hl:dz E<=lim)(bE:Below W.heap.size W H)(bH:Jar H W.heap.size W.heap.size (List.replicate y.cs.length (.slice none 0 0)) (List.replicate y.cs.length []))(bf:Below H.heap.size H X)(bK:X.heap[H.heap.size]?=some (.cells #[.slice (some ⟨W.heap.size,0,none⟩) y.cs.length y.cs.length] 78 (0,0))):
  Calls prog 158 #[.pointer (some ⟨y.sb,0,none⟩),rv,.func (.func 159) #[] #[.pointer (some ⟨H.heap.size,0,none⟩)]] X (Qda y z lim H.heap.size W.heap.size):=by
 have bG:=Jb bE bf;have cu:=bE.size;have cv:=bf.size;have ci:=Jd bK;have cj:W.heap.size<H.heap.size:=bH.row.lt;obtain⟨K,O,rfl⟩:∃ K O,rv=.slice (some ⟨K,0,none⟩) idx.length O:=by
  exact zaB
 have bi:=h.no K rfl;have bL:=hK.sg.ord;have U:idx=(idx.drop 0).take idx.length:=by rw[List.drop_zero,Of2]
 have bB:(Y.drop 0).take idx.length=Y:=by rw[List.drop_zero,<-h.rd.len,Of2]
 have bW:SI y X F E I mv (z:Int):=h.si.keep (G:=fun _=>False) (Ju.of_below bG) (fun _ h=>h.elim) id (fun _ _=>id) (fun _ _=>id) (fun _ _=>⟨id,fun _ _=>id⟩);have bJ:∀ k,W.heap.size<=k->k<X.heap.size->NoS y X F I mv k:=fun k bA Z=>h.si.noS bA Z;have bN:=h.si.old.size;have bQ:Jar X y.w0.heap.size W.heap.size (List.replicate y.cs.length (.slice none 0 0)) (Jba [] y.cs):=by
  rw[Qal];have:=bH.below bf;exact⟨this.row,bN,this.len,fun i hi=>⟨(this.own i hi).1,(this.own i hi).2.imp id fun ⟨g,cap,bO,q1,q2,bY⟩=>⟨g,cap,bO,q1,Ob2 bN q2,bY⟩⟩,this.ne,this.apart⟩
 have bC:∀ k,SrT y.cs.length H.heap.size W.heap.size (List.replicate y.cs.length (.slice none 0 0)) k->k=H.heap.size\/k=W.heap.size:=fun k M=>by
  rcases M with e|e|⟨j,_,e⟩
  ·exact .inl e
  ·exact .inr e
  rw[Kzc]at e;cases e
 have bI:=h.rd.cnt U;rw[bB,h.flat,Op1]at bI;have hq:SrQ y mv (z:Int) H.heap.size W.heap.size y.cs.length lim [] (SrT y.cs.length H.heap.size W.heap.size (List.replicate y.cs.length (.slice none 0 0))) X F E I:=
  ⟨_,bW,bQ,by simp[World.cell?,bK],rfl,fun k M=>(bC k M).elim (fun e=>bJ k zo zo) (fun e=>bJ k zo zo),⟨zo,fun j _ e=>by rw[Kzc]at e;cases e⟩,hl⟩
 have bU:=bi.lt;have G:MgG y mv (z:Int) idx 159 (nR y.cs) lim #[.pointer (some ⟨H.heap.size,0,none⟩)] (SrQ y mv (z:Int) H.heap.size W.heap.size y.cs.length lim) X (SrT y.cs.length H.heap.size W.heap.size (List.replicate y.cs.length (.slice none 0 0))) F E I K 0:=by
  refine⟨fun args V=>enters_of func159 zK rfl args V,hK,SrQ.ok y hK mv (z:Int) H.heap.size W.heap.size y.cs.length (nR y.cs) lim idx zo,hq,h.rd.mgIn U,fun j i m bj bk=>?_,⟨bi.nf,fun e=>(bC _ e).elim (fun e=>zo) fun e=>zo,fun ⟨i,m,hi,bk,e⟩=>(bi.ms m (Of6 bk)).1 e.symm⟩,h.rd.hh bL U,bI,zo,Z⟩;obtain⟨a,cap,bP,bh⟩:=h.own.cells;obtain⟨rfl,_,rfl⟩:(some ⟨K,0,none⟩=a)/\_/\O=cap:=by injection bP with a1 a2 a3;exact⟨a1,a2,a3⟩
  rcases bh with e|⟨b,o,eb,_,bh⟩
  ·rw[List.map_eq_nil_iff,List.map_eq_nil_iff]at e;rw[e]at bj;simp at bj
  injection eb with eb;injection eb with eb1 eb2;subst eb1 eb2;have:=bh j (rpV (Kta I i)) (by rw[Ob1,Ob1,bj];rfl);rw[Ku7 bk]at this;exact(Oc3 (bG.block K bU)).trans this
 have bD:=h.rd.all bL U;rw[bB,h.flat]at bD;refine(Kva G O).mono ?_;rintro e cc ⟨cb,bx,br,bz,cn,bM,bT⟩;rcases bT with⟨rfl,bZ,hI⟩|⟨ca,b,rfl,bR,hb,bV,bX,bS⟩
 ·rw[bD]at hI;refine .inl ⟨rfl,bx,br,bz,mv,bZ,bM,hI.pgs,hI.col,hI.box,fun k M=>(hI.no k ?_).nf⟩;rw[hI.own];exact .inr M
 exact .inr ⟨b,rfl,bx,br,bz,mv,ca,b,rfl,bM,bR,zo,bV,bX,bS⟩
def Ktn (y:SC)(lim:Nat)(e:Ending)(w':World):Prop:=
 ∃ H I,Ju y.F0 y.w0 w'/\Zb w' H y.d I/\Kft y.D0 I/\(∀ k,H k->y.F0 k\/y.w0.heap.size<=k)/\(∀ k,H k->k<w'.heap.size)/\dz I<=lim /\
  ((∃ K M,e=.returned (.tuple #[.slice (some ⟨K,0,none⟩) y.cs.length y.cs.length,.nilIface])/\Qd w' K M (Jba (Ksi (Kr7 y.ks y.cs) (List.range (nR y.cs))) y.cs)/\Jbo K M y.cs.length (fun b=>y.w0.heap.size<=b/\b<w'.heap.size/\¬ H b)) \/
   ∃ O b,e=.returned (.tuple #[.slice none 0 0,.iface 158 (.pointer (some ⟨b,0,none⟩))])/\Yu w' (.iface 158 (.pointer (some ⟨b,0,none⟩))) (if O=true then y.q else y.qw) none (some (-1))/\y.w0.heap.size<=b/\¬ H b/\Ks1 y.D0 O)
theorem Ktn.cast {y lim}{e H:Ending}{w}(h:Ktn y lim e w)(I:H=e):Ktn y lim H w:=I▸h
theorem SI.start {y}(hK:SK y)(U:y.sb=y.w0.heap.size)(K:Zb y.w0 y.F0 y.d y.D0){w1}(hb:Below y.w0.heap.size y.w0 w1)(O:Kub w1 y.sb (.slice (some ⟨y.tb,y.to_,none⟩) y.ts.length y.tc) (.slice (some ⟨y.kb,y.ko,none⟩) y.ks.length y.kc) y.bu y.d 0 (.slice none 0 0)):SI y w1 y.F0 y.D0 [] (.slice none 0 0) 0:=
 ⟨O,Jo.nil _ _ _,by simp[Value.ownBlock],(fun m H=>by cases H),(fun m H=>by cases H),(fun i j Y Z hi=>by simp at hi),K.below hb,fun k I=>Oc2 (hK.low k I) hb.size,fun e=>by have:=hK.low _ e;omega,(fun g M=>by simp[Value.ownBlock]at M),fun k I=>.inl I,Ju.of_below hb,Top.refl _,(fun m H=>by cases H)⟩
theorem Ktn.err {y}{z lim:Nat}{ev w w' H O I bf mv Z}{b:Nat}(bk:ev=.iface 158 (.pointer (some ⟨b,0,none⟩)))(M:SI y w H O bf mv (z:Int))(bj:Yu w (.iface 158 (.pointer (some ⟨b,0,none⟩))) (if Z=true then y.q else y.qw) none (some (-1)))(hb:y.w0.heap.size<=b)(Y:¬ H b)(br:Ks1 y.D0 Z)(bA:dz O<=lim)(bh:Zb w' H y.d I)(bi:Kft y.D0 I)(bz:dz I=dz O)(K:Ju H w w'):Ktn y lim (.returned (.tuple #[.slice none 0 0,ev])) w':=by
 obtain⟨bx,q1⟩:=bj.disk_at;refine⟨H,I,M.old.trans' K fun k bB U=>(M.ffr k U).resolve_right zo,bh,bi,M.ffr,fun k U=>Oc2 (M.flt k U) K.size,zo,.inr ⟨Z,b,by rw[bk],.disk b _ _ (K.cell bx Y) (K.cell q1 Y),hb,Y,br⟩⟩
theorem Ktn.ok {y}{z lim g:Nat}{w w' O Z U bz mv I}(Y:SI y w O Z bz mv (z:Int))(bI:dz Z<=lim)(K:Jar w y.w0.heap.size g I (Jba (Ksi (Kr7 y.ks y.cs) (List.range (nR y.cs))) y.cs))(hF:∀ k,(k=g\/∃ j,j<y.cs.length/\(Uq I j).ownBlock=some k)->¬ O k)(bB:Zb w' O y.d U)(bC:Kft y.D0 U)(bH:dz U=dz Z)(M:Ju O w w'):Ktn y lim (.returned (.tuple #[.slice (some ⟨g,0,none⟩) y.cs.length y.cs.length,.nilIface])) w':=by
 have bi:∀ k,(k=g\/∃ j,j<y.cs.length/\(Uq I j).ownBlock=some k)->y.w0.heap.size<=k/\k<w.heap.size:=fun k M=>by
  rcases M with e|⟨j,H,e⟩
  ·exact⟨e▸K.low,e▸K.row.lt⟩
  exact Je (K.own j (by rw[Krw];exact H)) e
 have bD:Jar w' y.w0.heap.size g I (Jba (Ksi (Kr7 y.ks y.cs) (List.range (nR y.cs))) y.cs):=K.on fun k bk=>by
  have br:k=g\/∃ j,j<y.cs.length/\(Uq I j).ownBlock=some k:=bk.imp id fun ⟨j,H,e⟩=>⟨j,by rw[Krw]at H;exact H,e⟩;exact M.block k (bi k br).2 (hF k br)
 have bJ:=M.size;refine⟨O,U,Y.old.trans' M fun k bk bh=>(Y.ffr k bh).resolve_right zo,bB,bC,Y.ffr,fun k bh=>Oc2 (Y.flt k bh) M.size,zo,.inl ⟨g,_,rfl,(Jo6 bD).1,?_,fun j H b o e=>?_⟩⟩
 ·have:=bi g (.inl rfl);exact⟨this.1,zo,hF g (.inl rfl)⟩
 have bj:j<(Jba (Ksi (Kr7 y.ks y.cs) (List.range (nR y.cs))) y.cs).length:=by rw[Krw];exact H
 have bA:Yo (I.map slH) j=slH (Uq I j):=by
  unfold Yo Uq;rw[Oa0,Oa0,Ob1,Oa3 (by rw[K.len];exact bj)];rfl
 rw[bA]at e;have bx:(Uq I j).ownBlock=some b:=by
  rcases K.own j bj with⟨_,⟨bf,_⟩|⟨bG,bE,_,bf,_⟩⟩
  ·rw[bf]at e;cases e
  rw[bf]at e |-;simp only[slH]at e;injection e with e;injection e with e _;rw[<-e];rfl
 have:=bi b (.inr ⟨j,H,bx⟩);exact⟨this.1,zo,hF b (.inr ⟨j,H,bx⟩)⟩
theorem Kyf (y:SC)(hK:SK y)(bf:y.sb=y.w0.heap.size)(bG:Zb y.w0 y.F0 y.d y.D0)(O cp:Nat)(hs:List (Option Addr×Nat))(hC:Qd y.w0 O hs y.cs)(bE:Jbo O hs y.cs.length (fun b=>b<y.w0.heap.size/\¬ y.F0 b))(bu pr:Nat)(cv:y.bu=(bu:Int))(cX:2<=bu)(bH:bu<=50000)(cj:nR y.cs<=50000)(bY:∀ ch:List Nat,(∀ t∈ch,t<nR y.cs)->1<=ch.length->ch.length<=64->(Qu (Kr6 y.ts (Jba ch y.cs) y.ts.length)).length<=pr*ch.length)(g:Nat->Nat)(bU:∀ q,bu<q->g (ckN q bu)+1<=g q)(bV:g (ckN (nR y.cs) bu)<=100000)(lim:Nat)(dd:lim<=930000)(bJ:dz y.D0+2*pr*bu*ckN (nR y.cs) bu+pr*nR y.cs*g (ckN (nR y.cs) bu)<=lim):
  Calls prog 113 #[.slice (some ⟨O,0,none⟩) y.cs.length cp,.slice (some ⟨y.tb,y.to_,none⟩) y.ts.length y.tc,.slice (some ⟨y.kb,y.ko,none⟩) y.ks.length y.kc,.int .i64 (bu:Int),.pointer (some ⟨y.d,0,none⟩)] y.w0 (Ktn y lim):=by
 have cC:=hK.sg.good.one;have cZ:=hK.sg.good.few;have bI:=Jc (Oa5 y.w0.heap.size y.w0) (.cells #[.slice (some ⟨y.tb,y.to_,none⟩) y.ts.length y.tc,.slice (some ⟨y.kb,y.ko,none⟩) y.ks.length y.kc,.int .i64 (bu:Int),.pointer (some ⟨y.d,0,none⟩),.int .i64 0,.slice none 0 0] 305);have cK:=heap_alloc_new y.w0 (.cells #[.slice (some ⟨y.tb,y.to_,none⟩) y.ts.length y.tc,.slice (some ⟨y.kb,y.ko,none⟩) y.ks.length y.kc,.int .i64 (bu:Int),.pointer (some ⟨y.d,0,none⟩),.int .i64 0,.slice none 0 0] 305);have cF:=SI.start hK bf bG bI (by unfold Kub;rw[bf,cv];exact cK);have hlen:Calls prog 56 #[.slice (some ⟨O,0,none⟩) y.cs.length cp] (y.w0.alloc (.cells #[.slice (some ⟨y.tb,y.to_,none⟩) y.ts.length y.tc,.slice (some ⟨y.kb,y.ko,none⟩) y.ks.length y.kc,.int .i64 (bu:Int),.pointer (some ⟨y.d,0,none⟩),.int .i64 0,.slice none 0 0] 305)) fun e w'=>e=.returned (.int .i64 (nR y.cs:Int))/\w'=(y.w0.alloc (.cells #[.slice (some ⟨y.tb,y.to_,none⟩) y.ts.length y.tc,.slice (some ⟨y.kb,y.ko,none⟩) y.ks.length y.kc,.int .i64 (bu:Int),.pointer (some ⟨y.d,0,none⟩),.int .i64 0,.slice none 0 0] 305)):=
  Jlg O y.cs.length cp _ _ _ _ cC ((hC.below bI).row.cell cC)
 have bP:=Krx cF;have bB:=Krx bI;clear cK bI cF;generalize cn:y.w0.alloc (.cells #[.slice (some ⟨y.tb,y.to_,none⟩) y.ts.length y.tc,.slice (some ⟨y.kb,y.ko,none⟩) y.ks.length y.kc,.int .i64 (bu:Int),.pointer (some ⟨y.d,0,none⟩),.int .i64 0,.slice none 0 0] 305)=cc at bP bB hlen;have cM:=Krx bG;have di:Hid (Qd y.w0 O hs y.cs/\Jbo O hs y.cs.length (fun b=>b<y.w0.heap.size/\¬ y.F0 b)):=⟨hC,bE⟩;have cL:=Krx bJ;have cO:Hid (y.ts.length=y.cs.length):=hK.sg.good.len.symm;by_cases dq:nR y.cs<=bu
 ·have dc:(nR y.cs:Int)<=(bu:Int):=zo;have cD:=Kug y.sb y.kb y.ko y.kc O cp y.ts y.cs y.ks hs (List.range (nR y.cs)) cc hK.sg (bP.out.env hK).so.key (by rw[Kua hK.sg.good];exact hC.below bB.out) List.pairwise_lt_range (fun i hi=>Oj4.1 hi) (by rw[Op1];omega);have cN:=Krx cD;clear cD hC bE bG bY bU bV bJ;go_enter_defers func113,ntmps113
  go_upto_region 2 with fail
  rw[<-bf];clear bf cn;go_wp2_with (first|(go_at_call 56;refine hlen.mono ?_;rintro e X ⟨rfl,cW⟩;subst X)|(go_at_call 155;refine cN.out.mono ?_;rintro e K ⟨bH,cQ,de,rfl,dp,cf,cV⟩))
  have bT:Below y.w0.heap.size y.w0 K:=Jb bB.out bH;have ds:=bB.out.size;have dt:=bH.size;refine⟨_,results_tmp2 rfl _ _ _,y.F0,y.D0,Ju.of_below bT,cM.out.below bT,⟨fun _=>rfl,rfl,rfl,rfl⟩,fun k bW=>.inl bW,fun k bW=>Oc2 (hK.low k bW) bT.size,by have:=cL.out;omega,.inl ⟨cQ,de,rfl,cf,⟨zo,cf.row.lt,fun e=>by have:=hK.low _ e;omega⟩,fun j db b o e=>?_⟩⟩;have:=cV j db b o e;exact⟨zo,this.2,fun e=>by have:=hK.low _ e;omega⟩
 have dc:¬ (nR y.cs:Int)<=(bu:Int):=zo;obtain⟨z,cH⟩:∃ z,z=min (max (bu / ckN (nR y.cs) bu) 1) 64:=⟨_,rfl⟩;have cA:=Qaq y hK cc y.F0 y.D0 0 bP.out O cp hs hC bE bu pr cv cX bH zo cj bY g bU bV lim dd bJ z cH;have bN:=Krx cA;clear cA hC bE bG bY bU bV bJ cH;have bX:∀ X,Calls prog 80 #[.int .i64 (y.ts.length:Int)] X fun e w'=>e=.returned (.slice (some ⟨X.heap.size,0,none⟩) y.cs.length y.cs.length)/\Jar w' X.heap.size X.heap.size (List.replicate y.cs.length (.slice none 0 0)) (List.replicate y.cs.length [])/\Below X.heap.size X w':=fun X=>by
  rw[cO.out];exact Jiz y.cs.length X cZ
 have dr:∀ (fn:Fn) (first cap:Array Value) (w:World),(Instr.makeFunc fn first cap).run prog w=.ok (.func fn first cap) w:=fun _ _ _ _=>rfl;go_enter_defers func113,ntmps113
 go_upto_region 2 with fail
 rw[<-bf];clear bf cn;go_wp2_with (first|(go_at_call 56;refine hlen.mono ?_;rintro e X ⟨rfl,cW⟩;subst X)|(go_at_call 157;refine bN.out.mono ?_))
 clear hlen;rintro e K (⟨rv,rfl,dh,dg,dl,du,idx,dj,bS,cB,da,H⟩|⟨ev,rfl,bR⟩)
 ·have bO:Hid (∀ M X,Jar M K.heap.size K.heap.size (List.replicate y.cs.length (.slice none 0 0)) (List.replicate y.cs.length [])->Below K.heap.size K M->Below M.heap.size M X->X.heap[M.heap.size]?=some (.cells #[.slice (some ⟨K.heap.size,0,none⟩) y.cs.length y.cs.length] 78 (0,0))->Calls prog 158 #[.pointer (some ⟨y.sb,0,none⟩),rv,.func (.func 159) #[] #[.pointer (some ⟨M.heap.size,0,none⟩)]] X (Qda y z lim M.heap.size K.heap.size)):=fun M X cR cS cT cU=>bS.last hK cB zo cj H cS cR cT cU;obtain⟨dv,rc,cE,_⟩:=bS.own.cells;rw[Oa6,Oa6]at cE;subst cE;clear bS cB da H bN;go_wp2_with (first|(go_at_call 80;refine(bX _).mono ?_;rintro e M ⟨rfl,cx,cu⟩;have bM:=Krx cx;have bL:=Krx cu;clear cx cu)|(go_at_call 158;refine(bO.out M _ bM.out bL.out (Jc (Oa5 _ M) _) (heap_alloc_new M _)).mono ?_))
  rintro e bC (⟨rfl,cb,ca,cP,df,cI,cG,cz,cy,dm,ci⟩|⟨b,rfl,bR⟩)
  ·have bj:Hid (SI y bC cb ca cP df (z:Int)/\dz ca<=lim/\Jar bC y.w0.heap.size K.heap.size cI (Jba (Ksi (Kr7 y.ks y.cs) (List.range (nR y.cs))) y.cs)/\∀ k,(k=K.heap.size\/∃ j,j<y.cs.length/\(Uq cI j).ownBlock=some k)->¬ cb k):=⟨cG,cz,cy,ci⟩;clear cG cz cy ci bO bM bL bX;go_wp2;refine leaves_cons (f:=156) (args:=#[.pointer (some ⟨y.sb,0,none⟩)]) zS (by simp[go_sem]) ?_;obtain⟨I,H,cY,hF⟩:=bj.out;refine(I.release hK .returning).mono ?_;rintro e cJ w' ⟨rfl,rfl,bZ,bk,br,bx,bz⟩;exact⟨_,results_tmp2 rfl _ _ _,(Ktn.ok I H cY hF bk br bx bz).cast rfl⟩
  obtain⟨bi,bh,bQ,mv,bA,bD,bK,I,U,hb,Y,Z,H⟩:=bR;have bj:Hid (SI y bC bi bh bQ mv (z:Int)/\Yu bC (.iface 158 (.pointer (some ⟨bD,0,none⟩))) (if bA=true then y.q else y.qw) none (some (-1))/\y.w0.heap.size<=bD/\¬ bi bD/\Ks1 y.D0 bA/\dz bh<=lim/\(Value.iface 158 (.pointer (some ⟨b,0,none⟩)))=.iface 158 (.pointer (some ⟨bD,0,none⟩))):=⟨I,U,hb,Y,Z,H,bK⟩;clear I U hb Y Z H bK bO bM bL bX;go_wp2;refine leaves_cons (f:=156) (args:=#[.pointer (some ⟨y.sb,0,none⟩)]) zS (by simp[go_sem]) ?_;obtain⟨I,U,hb,Y,Z,H,bK⟩:=bj.out;refine(I.release hK .returning).mono ?_;rintro e cJ w' ⟨rfl,rfl,bZ,bk,br,bx,bz⟩;exact⟨_,results_tmp2 rfl _ _ _,(Ktn.err bK I U hb Y Z H bk br bx bz).cast rfl⟩
 obtain⟨bi,bh,bQ,mv,bA,b,rfl,I,U,hb,Y,Z,H⟩:=bR;have bj:Hid (SI y K bi bh bQ mv (z:Int)/\Yu K (.iface 158 (.pointer (some ⟨b,0,none⟩))) (if bA=true then y.q else y.qw) none (some (-1))/\y.w0.heap.size<=b/\¬ bi b/\Ks1 y.D0 bA/\dz bh<=lim):=⟨I,U,hb,Y,Z,H⟩;clear I U hb Y Z H bN;go_wp2;refine leaves_cons (f:=156) (args:=#[.pointer (some ⟨y.sb,0,none⟩)]) zS (by simp[go_sem]) ?_;obtain⟨I,U,hb,Y,Z,H⟩:=bj.out;refine(I.release hK .returning).mono ?_;rintro e cJ w' ⟨rfl,rfl,bZ,bk,br,bx,bz⟩;exact⟨_,results_tmp2 rfl _ _ _,(Ktn.err rfl I U hb Y Z H bk br bx bz).cast rfl⟩
attribute [local go_sem] Oc0
theorem Kzo rb I k bG l z bu bl bL bM d sg so U bh op r tn xs kk kb ko kc O bD bE cap tb to_ bk tc w F0(P:World->Value->Value->World->Prop)(hr:Jck w rb z (.int .i64 bu) bl bL bM (.pointer (some ⟨d,0,none⟩)) (.slice (some ⟨sg,so,none⟩) U bh) (.slice (some ⟨I,0,none⟩) k bG))(hl:l<k)(cx:l<U)(bI:w.cell? ⟨I,l,none⟩=some (.slice (some ⟨bD,0,none⟩) bE cap))(bT:w.frozen? ⟨I,l,none⟩=false)(bK:rb≠I)(hs:w.cell? ⟨sg,so+l,none⟩=some (.slice (some ⟨tb,to_,none⟩) bk tc))(cb:sg≠I)(hF:¬ F0 rb/\¬ F0 sg/\∀ k,F0 k->k<w.heap.size)(bW:∀ H,Ju (·=I) w H->H.heap[I]?=Jdc w I l->Calls prog 113 #[.slice (some ⟨bD,0,none⟩) bE cap,.slice (some ⟨tb,to_,none⟩) bk tc,.slice (some ⟨kb,ko,none⟩) O kc,.int .i64 bu,.pointer (some ⟨d,0,none⟩)] H fun e w'=>∃ a b,e=.returned (.tuple #[a,b])/\Ju F0 H w'/\P H a b w'):
  Calls prog 77 #[.pointer (some ⟨rb,0,none⟩),.agg #[.int .i64 op,.int .i64 (l:Int),.int .i64 r,.string tn,xs,.slice (some ⟨kb,ko,none⟩) O kc,.int .i64 kk]] w fun e w'=>∃ a b H,e=.returned (.tuple #[a,b])/\Ju (·=I) w H/\H.heap[I]?=Jdc w I l/\P H a b w':=by
 have bz:I<w.heap.size:=Jm bI;have bU:rb<w.heap.size:=Jd hr;have bV:sg<w.heap.size:=Jm hs;have M:Below w.heap.size w (w.alloc (.cells #[.int .i64 op,.int .i64 (l:Int),.int .i64 r,.string tn,xs,.slice (some ⟨kb,ko,none⟩) O kc,.int .i64 kk] 48)):=Jc (Oa5 _ _) _;have bi:=heap_alloc_new w (.cells #[.int .i64 op,.int .i64 (l:Int),.int .i64 r,.string tn,xs,.slice (some ⟨kb,ko,none⟩) O kc,.int .i64 kk] 48);go_enter func77,ntmps77
 go_upto_region 1 with fail
 generalize w.alloc (.cells #[.int .i64 op,.int .i64 (l:Int),.int .i64 r,.string tn,xs,.slice (some ⟨kb,ko,none⟩) O kc,.int .i64 kk] 48)=bx at M bi |-;have bX:=Jjb rb I k bG l z (.int .i64 bu) bl bL bM (.pointer (some ⟨d,0,none⟩)) (.slice (some ⟨sg,so,none⟩) U bh) (some ⟨bD,0,none⟩) bE cap bx.drew (hr.below (Jj M)) hl (Ja M bI) (by rw[<-bT];exact Ol7 (M.block I bz));have bO:Hid (∀ H,H=bx.drew.setCell ⟨I,l,none⟩ (.slice none 0 0)->Ju (·=I) w H/\H.heap[I]?=Jdc w I l):=fun H bf=>by
  have bA:Ju (·=I) w H:=by rw[bf];exact Ju.set (F:=fun x=>x=I) (Ju.of_below (Jj M)) rfl l _
  exact⟨bA,by rw[bf];exact Jol (M.block I bz)⟩
 obtain⟨K,bH⟩:∃ K,K=w.heap.size:=⟨_,rfl⟩;have bY:=Krx bH;rw[<-bH]at bi |-;have bR:I≠K:=zo;clear bH;have cc:=zc 1 bi;have cf:=zc 5 bi;have bB:bx.heap[rb]?=some (.cells #[.int .i64 z,.int .i64 bu,bl,bL,bM,.pointer (some ⟨d,0,none⟩),.slice (some ⟨sg,so,none⟩) U bh,.slice (some ⟨I,0,none⟩) k bG] 101 (0,0)):=hr.below M;have ci:=zc 1 bB;have cj:=zc 5 bB;have cn:=zc 6 bB;have cu:=Ja M hs;have cy:(0:Int)<=(l:Int):=zo;have cz:(l:Int)<(U:Int):=zo;have bN:=Krx bW;have bj:=Krx hF;have cv:Hid (I<w.heap.size/\rb<w.heap.size/\sg<w.heap.size/\K<bx.heap.size):=⟨bz,bU,bV,Jd bi⟩;clear hr bI bT hs bW hF bB bi bz bU bV;refine wp_region_held_drew (S:=fun X=>X.cell? ⟨K,1,none⟩=some (.int .i64 (l:Int))/\X.cell? ⟨K,5,none⟩=some (.slice (some ⟨kb,ko,none⟩) O kc)/\X.cell? ⟨rb,1,none⟩=some (.int .i64 bu)/\X.cell? ⟨rb,5,none⟩=some (.pointer (some ⟨d,0,none⟩))/\X.cell? ⟨rb,6,none⟩=some (.slice (some ⟨sg,so,none⟩) U bh)/\X.cell? ⟨sg,so+l,none⟩=some (.slice (some ⟨tb,to_,none⟩) bk tc)) zK ⟨cc,cf,ci,cj,cn,cu⟩ (fun y=>?_);refine tkj 0 rfl y ?_;refine tkj 1 rfl y ?_;refine tkj 2 rfl y ?_;refine tkj 4 rfl y ?_;refine tkj 5 rfl y ?_;refine tkj 6 rfl y ?_;refine tkj 7 rfl y ?_;refine tkj 8 rfl y ?_;refine tkn ?_;refine tkj 9 rfl y ?_;refine tkn ?_;refine tkj 10 rfl y ?_;refine tkj 11 rfl y ?_;refine tkj 12 rfl y ?_;refine tkj 13 rfl y ?_;refine tkj 14 rfl y ?_;refine tkj 15 rfl y ?_;refine tkj 16 rfl y ?_;refine tkn ?_;refine tkj 17 rfl y ?_;refine tkj 18 rfl y ?_;refine tkj 19 rfl y ?_;refine tkj 20 rfl y ?_;refine tkj 21 rfl y ?_;refine tkj 22 rfl y ?_;refine tkn ?_;refine tkr 3 rfl fun bC hK=>?_;go_simp;refine bX.mono ?_;rintro e H ⟨rfl,bf⟩;have bQ:H.cell? ⟨K,1,none⟩=some (.int .i64 (l:Int))/\H.cell? ⟨K,5,none⟩=some (.slice (some ⟨kb,ko,none⟩) O kc)/\H.cell? ⟨rb,1,none⟩=some (.int .i64 bu)/\H.cell? ⟨rb,5,none⟩=some (.pointer (some ⟨d,0,none⟩))/\H.cell? ⟨rb,6,none⟩=some (.slice (some ⟨sg,so,none⟩) U bh)/\H.cell? ⟨sg,so+l,none⟩=some (.slice (some ⟨tb,to_,none⟩) bk tc):=by
  rw[bf];exact⟨Uc (fun e=>bR (congrArg Addr.block e)) y.1,Uc (fun e=>bR (congrArg Addr.block e)) y.2.1,Uc (fun e=>bK (congrArg Addr.block e).symm) y.2.2.1,Uc (fun e=>bK (congrArg Addr.block e).symm) y.2.2.2.1,Uc (fun e=>bK (congrArg Addr.block e).symm) y.2.2.2.2.1,Uc (fun e=>cb (congrArg Addr.block e).symm) y.2.2.2.2.2⟩
 obtain⟨bA,bS⟩:=bO.out H bf;have br:Hid (Ju (·=I) w H/\H.heap[I]?=Jdc w I l/\K<H.heap.size):=⟨bA,bS,Jb0 bQ.1⟩;clear bf bS bA;go_simp;refine hK.out _ _ bQ (fun y=>?_);clear hK bC;refine tkr 23 rfl fun bC hK=>?_;go_simp;refine(bN.out H br.out.1 br.out.2.1).mono ?_;rintro e Z ⟨a,b,rfl,Y,bP⟩;have bZ:=zh bP;have bJ:¬ F0 K:=fun e=>by have:=bj.out.2.2 _ e;have:=bY.out;omega
 have ca:Z.cell? ⟨K,1,none⟩=some (.int .i64 (l:Int))/\Z.cell? ⟨K,5,none⟩=some (.slice (some ⟨kb,ko,none⟩) O kc)/\Z.cell? ⟨rb,1,none⟩=some (.int .i64 bu)/\Z.cell? ⟨rb,5,none⟩=some (.pointer (some ⟨d,0,none⟩))/\Z.cell? ⟨rb,6,none⟩=some (.slice (some ⟨sg,so,none⟩) U bh)/\Z.cell? ⟨sg,so+l,none⟩=some (.slice (some ⟨tb,to_,none⟩) bk tc):=⟨Y.cell y.1 bJ,Y.cell y.2.1 bJ,Y.cell y.2.2.1 bj.out.1,Y.cell y.2.2.2.1 bj.out.1,Y.cell y.2.2.2.2.1 bj.out.1,Y.cell y.2.2.2.2.2 bj.out.2.1⟩;clear bP Y bJ;go_simp;refine hK.out _ _ ca (fun y=>?_);clear hK bC bN bO bX;refine tkj 24 rfl y ?_;refine tkj 25 rfl y ?_;refine tkj 26 rfl y ?_;refine tkj 27 rfl y ?_;refine tkn ?_;refine wpAnyH_done zK ?_ _;go_wp2;go_ret2
 exact⟨a,b,H,rfl,br.out.1,br.out.2.1,bZ.out⟩
theorem Kyg (rb y k bI l q:Nat)(z:Int)bu bl bU bV bJ sc(op r:Int)tn xs ky(I cap N:Nat)hs cs w(hr:Jck w rb z bu bl bU bV bJ sc (.slice (some ⟨y,0,none⟩) k bI))(hl:l<k)(bz:w.cell? ⟨y,l,none⟩=some (.slice (some ⟨I,0,none⟩) cs.length cap))(bP:w.frozen? ⟨y,l,none⟩=false)(hC:Qd w I hs cs)(bL:Jbo I hs cs.length (fun b=>b<w.heap.size/\b≠y))(bM:∀ j,j<cs.length->(cs.getD j []).length=N)(bk:1<=cs.length)(bZ:cs.length<=1000):
  Calls prog 78 #[.pointer (some ⟨rb,0,none⟩),.agg #[.int .i64 op,.int .i64 (l:Int),.int .i64 r,.string tn,xs,ky,.int .i64 (q:Int)]] w fun e w'=>∃ g,e=.returned (.tuple #[.slice (some ⟨g,0,none⟩) cs.length cs.length,.nilIface])/\Ju (·=y) w w'/\w'.heap[y]?=Jdc w y l/\w.heap.size<=g/\Qd w' g (Jnt hs cs.length 0 (min q N)) (cs.map (Jbx 0 (min q N))):=by
 have bA:y<w.heap.size:=Jm bz;have O:Below w.heap.size w (w.alloc (.cells #[.int .i64 op,.int .i64 (l:Int),.int .i64 r,.string tn,xs,ky,.int .i64 (q:Int)] 48)):=Jc (Oa5 _ _) _;have bf:=heap_alloc_new w (.cells #[.int .i64 op,.int .i64 (l:Int),.int .i64 r,.string tn,xs,ky,.int .i64 (q:Int)] 48);go_enter func78,ntmps78
 go_upto_region 1 with fail
 generalize w.alloc (.cells #[.int .i64 op,.int .i64 (l:Int),.int .i64 r,.string tn,xs,ky,.int .i64 (q:Int)] 48)=bY at O bf |-;have bS:=Jjb rb y k bI l z bu bl bU bV bJ sc (some ⟨I,0,none⟩) cs.length cap bY (hr.below O) hl (Ja O bz) (by rw[<-bP];exact Ol7 (O.block y bA));obtain⟨Y,bx⟩:∃ Y,Y=w.heap.size:=⟨_,rfl⟩;have cf:=Krx bx;rw[<-bx]at bf |-;have ca:y≠Y:=zo;clear bx;have cb:=zc 1 bf;have bT:=zc 6 bf;have bC:Hid (Qd w I hs cs/\Jbo I hs cs.length (fun b=>b<w.heap.size/\b≠y)):=⟨hC,bL⟩;have bB:=Krx O;have bD:=Krx bA;clear hr bz bP hC bL bf O bA;go_upto_region 2 with(go_at_call 37;refine bS.mono ?_;rintro e H ⟨rfl,M⟩;have bG:=Krx M;clear M)
 have M:=bG.out;clear bG;have Z:Ju (·=y) w H:=by rw[M];exact Ju.set (F:=fun x=>x=y) (Ju.of_below bB.out) rfl l _
 have bO:H.heap[y]?=Jdc w y l:=by rw[M];exact Jol (bB.out.block y bD.out)
 have cc:H.cell? ⟨Y,6,none⟩=some (.int .i64 (q:Int)):=by rw[M];exact Uc (fun e=>ca (congrArg Addr.block e)) bT
 have br:Qd H I hs cs:=bC.out.1.kp (Fx:=fun b=>b<w.heap.size/\b≠y) ⟨Z.size,fun k bQ=>Z.block k bQ.1 bQ.2⟩ bC.out.2;have bR:∀ X,Below H.heap.size H X->Calls prog 56 #[.slice (some ⟨I,0,none⟩) cs.length cap] X fun e w'=>e=.returned (.int .i64 (N:Int))/\w'=X:=fun X bi=>by
  have c0:=(br.below bi).row.cell bk;rw[bM 0 bk]at c0;exact Jlg I cs.length cap _ N _ X bk c0
 have bN:∀ X,Below H.heap.size H X->Calls prog 114 #[.slice (some ⟨I,0,none⟩) cs.length cap,.int .i64 0,.int .i64 (min (q:Int) (N:Int))] X fun e w'=>Below X.heap.size X w'/\e=.returned (.slice (some ⟨X.heap.size,0,none⟩) cs.length cs.length)/\Qd w' X.heap.size (Jnt hs cs.length 0 (min q N)) (cs.map (Jbx 0 (min q N))):=fun X bi=>by
  have:=Kdx I cap hs cs N 0 (min q N) X (br.below bi) bM (Ob7 _) (Nat.min_le_right _ _) bZ;have e:((min q N:Nat):Int)=min (q:Int) (N:Int):=zo;rw[e]at this;exact this
 have bX:=Krx bR;have bW:=Krx bN;have bh:Hid (Ju (·=y) w H/\H.heap[y]?=Jdc w y l/\y<H.heap.size):=⟨Z,bO,by have:=Z.size;have:=bD.out;omega⟩;clear bR bN Z bO br M cb bT bS;refine wp_region_held_drew (S:=fun X=>X.cell? ⟨Y,6,none⟩=some (.int .i64 (q:Int))) zK cc (fun K=>?_);refine tkj 0 rfl K ?_;refine tkj 1 rfl K ?_;refine tkj 2 rfl K ?_;refine tkj 3 rfl K ?_;refine tkn ?_;refine tkr 4 rfl fun bj hK=>?_;go_simp;refine(bX.out H.drew (Jj (Oa5 _ _))).mono ?_;rintro e X ⟨rfl,bi⟩;subst X;go_simp;refine hK.out _ _ K (fun K=>?_);clear hK bj;refine tkj 5 rfl K ?_;refine tkn ?_;refine tkr 6 rfl fun bj hK=>?_;go_simp;refine(bW.out H.drew (Jj (Oa5 _ _))).mono ?_;rintro e bH ⟨U,rfl,bK⟩;have bE:Hid (Below H.heap.size H bH/\Qd bH H.heap.size (Jnt hs cs.length 0 (min q N)) (cs.map (Jbx 0 (min q N)))):=⟨Jw U,bK⟩;go_simp;refine hK.out _ _ (Ja U K) (fun K=>?_);clear hK bj U bK;refine tkj 7 rfl K ?_;refine tkj 8 rfl K ?_;refine tkn ?_;refine wpAnyH_done zK ?_ _;go_wp2;go_ret2
 have U:=bE.out.1;exact⟨H.heap.size,rfl,bh.out.1.trans (Ju.of_below U),(U.block y bh.out.2.2).trans bh.out.2.1,bh.out.1.size,bE.out.2⟩
structure DkS (X:World) (F0:Nat->Prop) (d:Nat) (D0:DS) (lim:Nat) (F:Nat->Prop) (W:World):Prop where
 keep:Ju F0 X W
 ex:∃ E,Zb W F d E/\Kft D0 E/\dz E<=lim
 ffr:∀ k,F k->F0 k\/X.heap.size<=k
 flt:∀ k,F k->k<W.heap.size
structure Jjg (F:Nat->Prop) (L rb:Nat) (z bu bl:Int) (se tp dp sc dv:Value) (ds:List Dn) (W:World):Prop where
 rs:Jd6 L rb z bu bl se tp dp sc dv ds W
 off:∀ x,some x∈ds->Jbo x.1 x.2.1 x.2.2.length fun b=>¬ F b
 rbF:¬ F rb
 dvF:∀ g,dv.ownBlock=some g->¬ F g
def Kvd (X:World)(L rb:Nat)(z bu bl:Int)(U Y:Value)(d:Nat)(sc:Value)(O:Nat->List Dn->Prop)(Z:Nat->Value->World->Prop)(F0:Nat->Prop)(D0:DS)(lim:Nat->Nat)(nd:Nd)(j:Nat):Prop:=
 0<=nd.op/\nd.op<=7/\∀ W F H K,DkS X F0 d D0 (lim j) F W->(∀ g,H.ownBlock=some g->X.heap.size<=g)->Jjg F L rb z bu bl U Y (.pointer (some ⟨d,0,none⟩)) sc H K W->K.length=j->O j K ->
  Calls prog (Jej nd.op) #[.pointer (some ⟨rb,0,none⟩),nd.val] W fun e y=>∃ I,DkS X F0 d D0 (lim (j+1)) I y/\Ju (fun k=>F k\/H.ownBlock=some k) W y/\(∀ k,I k->F k\/W.heap.size<=k) /\
   ((∃ (x:Nat×List (Option Addr×Nat)×List (List V)) (M:List Dn),e=.returned (.tuple #[dnV (some x),.nilIface])/\Jjg I L rb z bu bl U Y (.pointer (some ⟨d,0,none⟩)) sc H M y/\Jfk rb H x y/\(Jbo x.1 x.2.1 x.2.2.length fun b=>¬ I b)/\M.length=j/\O (j+1) (M++[some x])) \/
    (∃ (ty b:Nat),e=.returned (.tuple #[.slice none 0 0,.iface ty (.pointer (some ⟨b,0,none⟩))])/\Z j (.iface ty (.pointer (some ⟨b,0,none⟩))) y))
def Kui (W:World)(n:Nat):World:={W with heap:=W.heap.extract 0 n}
theorem Kwp W{n k}(y:k<n):(Kui W n).heap[k]?=W.heap[k]?:=by
 unfold Kui;simp[Array.getElem?_extract];omega
theorem Kxs W{n}(y:n<=W.heap.size):(Kui W n).heap.size=n:=by
 unfold Kui;simp;omega
theorem DkS.on {X F0 d D0 lim M F G W I}(h:DkS X F0 d D0 lim F W)(hl:lim<=M)(H:Ju G W I)(K:∀ k,G k->X.heap.size<=k/\¬ F k):DkS X F0 d D0 M F I:=by
 obtain⟨E,O,U,Z⟩:=h.ex;exact⟨h.keep.trans' H fun k bf e=>absurd (K k e).1 zo,⟨E,O.stands fun k y Y=>H.block k Y fun e=>(K k e).2 y,U,zo⟩,h.ffr,fun k y=>Oc2 (h.flt k y) H.size⟩
theorem Kv6 {W y:World}{v:Value}(h:W.grownBy y v.ownBlock):Ju (fun k=>v.ownBlock=some k) W y:=⟨h.os,h.tape,h.output,h.size,fun k H I=>h.block k H fun e=>I e.symm⟩
theorem Kvd.of {X z bu bl bf bh d sc O M F0 D0 lim nd j}(Y:0<=nd.op/\nd.op<=7)(hl:lim j<=lim (j+1))(h:∀ V,V.heap.size=X.heap.size->Ju F0 X V->Ju1 V (X.heap.size+1) X.heap.size z bu bl bf bh (.pointer (some ⟨d,0,none⟩)) sc O M nd j):Kvd X (X.heap.size+1) X.heap.size z bu bl bf bh d sc O M F0 D0 lim nd j:=by
 refine⟨Y.1,Y.2,fun W F br bj y U hR hlen bA=>?_⟩;have Z:=y.keep.size;have I:=Kxs W Z;have bC:Below (Kui W X.heap.size).heap.size (Kui W X.heap.size) W:=by
  rw[I];exact⟨rfl,rfl,rfl,by rw[I];exact Z,fun k H=>(Kwp W H).symm⟩
 have bD:Ju F0 X (Kui W X.heap.size):=⟨y.keep.os,y.keep.tape,y.keep.output,by rw[I];exact Oa2 _,fun k H bL=>(Kwp W H).trans (y.keep.block k H bL)⟩;obtain⟨_,_,bE⟩:=h _ I bD;refine(bE W br bj bC (fun g bI=>by rw[I];exact U g bI) hR.rs hlen bA).mono fun e bO hp=>?_;obtain⟨bJ,bG⟩:=hp;have H:=Kv6 bJ;refine⟨F,y.on hl H fun k e=>⟨U k e,hR.dvF k e⟩,H.mono fun k _ e=>.inr e,fun k bH=>.inl bH,?_⟩;rcases bG with⟨x,bk,K,bB,bx,bK,bz,bM,bN⟩|K
 ·exact .inl ⟨x,bk,K,⟨bB,fun bi hy=>hR.off bi (bN bi hy),hR.rbF,hR.dvF⟩,bx,bM F y.flt hR.off,bK,bz⟩
 exact .inr K
attribute [local go_sem] Oc0
def Kxf (n:Nat)(I:Nat->List Dn->Prop)(H:Nat->Value->World->Prop)(F0:Nat->Prop)(d:Nat)(D0:DS)(lim:Nat)(w:World):Ending->World->Prop:=fun e w'=>∃ y,DkS w F0 d D0 lim y w' /\
 ((∃ (x:Nat×List (Option Addr×Nat)×List (List V)) (K:List Dn),e=.returned (.tuple #[dnV (some x),.nilIface])/\Qd w' x.1 x.2.1 x.2.2/\(Jbo x.1 x.2.1 x.2.2.length fun b=>b<w'.heap.size/\¬ y b)/\I n (K++[some x])) \/
  (∃ (j:Nat) (v:Value) (eb:Nat),e=.returned (.tuple #[.slice none 0 0,.iface 107 (.pointer (some ⟨eb,0,none⟩))])/\w'.heap[eb]?=some (.cells #[.int .i64 (j:Int),v] 109 (0,0))/\H j v w'/\w.heap.size<=eb))
structure Kvs (W2:World) (F0:Nat->Prop) (D0:DS) (lim:Nat->Nat) (z bu bl:Int) (se tp:Value) (d:Nat) (sc sv:Value) (nds:List Nd) (PS:Nat->List Dn->Prop) (j:Nat) (dv:Value) (ds:List Dn) (F:Nat->Prop) (wr:World):Prop where
 rg:Jjg F (W2.heap.size+1) W2.heap.size z bu bl se tp (.pointer (some ⟨d,0,none⟩)) sc dv ds wr
 len:ds.length=j
 ps:PS j ds
 last:0<j->∃ ds' x,ds=ds'++[some x]
 steps:wr.ownsRow (W2.heap.size+1) 106 8 sv nds.length (nds.flatMap (Jbu W2.heap.size))
 sep:∀ g,sv.ownBlock=some g->dv.ownBlock≠some g/\¬ F g
 dk:DkS W2 F0 d D0 (lim j) F wr
theorem Jjg.below {F L rb z bu bl M O H sc K I W y}(h:Jjg F L rb z bu bl M O H sc K I W)(hb:Below W.heap.size W y):Jjg F L rb z bu bl M O H sc K I y:=⟨h.rs.below hb,h.off,h.rbF,h.dvF⟩
theorem DkS.below {X F0 d D0 lim F W y}(h:DkS X F0 d D0 lim F W)(hb:Below W.heap.size W y):DkS X F0 d D0 lim F y:=h.on (G:=fun _=>False) (Oa2 _) (Ju.of_below hb) fun _ e=>e.elim
theorem Kvs.step {I F0 F D0 lim z bu bl bi bj d sc sv H M j U O wr}(h:Kvs I F0 D0 lim z bu bl bi bj d sc sv H M j U O F wr){i nd}(hi:H[i]?=some nd):
  ∃ g cap,sv=.slice (some ⟨g,0,none⟩) H.length cap/\Zm wr g (i*8) nd/\wr.cell? ⟨g,i*8+7,none⟩=some (.func (.func (Jej nd.op)) #[.pointer (some ⟨I.heap.size,0,none⟩)] #[]):=by
 have bA:i<H.length:=(Ob9.1 hi).1;rcases h.steps with⟨h0,⟨K,Y⟩|⟨g,cap,bk,K,Y,Z,br,bx,bz,bf⟩⟩
 ·omega
 have y:∀ k,k<8->wr.cell? ⟨g,i*8+k,none⟩=(Jbu I.heap.size nd)[k]?:=fun k bh=>by
  have:=Jek (Jbu I.heap.size) 8 (fun _=>rfl) H i k nd hi bh;rw[<-bf,Oe7,if_pos zo,Oe6]at this;rw[<-this];simp[World.cell?,Z]
 exact⟨g,cap,K,⟨y 0 zo,y 1 zo,y 2 zo,y 3 zo,y 4 zo,y 5 zo,y 6 zo⟩,y 7 zo⟩
theorem Kvs.next {y F0 F U D0 lim z bu bl bf bh d sc sv bz bi j I O bA M wr K w4 x}(h:Kvs y F0 D0 lim z bu bl bf bh d sc sv bz bi j I bA F wr)(br:Ju (fun k=>F k\/I.ownBlock=some k) wr K)(hF:∀ k,U k->F k\/wr.heap.size<=k)(bk:DkS y F0 d D0 (lim (j+1)) U K)(hR:Jjg U (y.heap.size+1) y.heap.size z bu bl bf bh (.pointer (some ⟨d,0,none⟩)) sc I M K)(bE:Jfk y.heap.size I x K)(bI:Jbo x.1 x.2.1 x.2.2.length fun b=>¬ U b)(hl:M.length=j)(hp:bi (j+1) (M++[some x]))bj(q1:Jo w4 (y.heap.size+1) 78 O (M.map dnV++[dnV (some x)]))(q2:(K.alloc bj).grownBy w4 I.ownBlock)(Z:O.ownBlock=I.ownBlock\/O.ownBlock=some (K.alloc bj).heap.size):
  Kvs y F0 D0 lim z bu bl bf bh d sc sv bz bi (j+1) O (M++[some x]) U (w4.setCell ⟨y.heap.size,7,none⟩ O)/\Jck w4 y.heap.size z (.int .i64 bu) (.int .i64 bl) bf bh (.pointer (some ⟨d,0,none⟩)) sc I:=by
 obtain⟨bC,bD⟩:=hR.rs.more bE bj q1 q2 Z;have bB:∀ g,I.ownBlock=some g->y.heap.size+1<=g/\g<wr.heap.size:=fun g e=>Je h.rg.rs.own e;have Y:∀ g,sv.ownBlock=some g->y.heap.size+1<=g/\g<wr.heap.size:=fun g e=>Je h.steps e;have bM:=br.size;have bK:=q2.size;rw[Oa7]at bK Z;have bx:Ju (fun k=>k=y.heap.size\/I.ownBlock=some k) K (w4.setCell ⟨y.heap.size,7,none⟩ O):=by
  refine Ju.set (F:=fun k=>k=y.heap.size\/I.ownBlock=some k) ?_ (.inl rfl) 7 _;exact⟨q2.os,q2.tape,q2.output,zo,fun k bG bH=>(q2.block k (by rw[Oa7];omega) fun e=>bH (.inr e.symm)).trans (Oa9 _ _ _ bG)⟩
 refine⟨⟨⟨bC,fun bJ hy=>?_,hR.rbF,fun g e H=>?_⟩,by rw[Oa8,List.length_singleton,hl],hp,fun _=>⟨M,x,rfl⟩,Jl h.steps fun g e=>?_,fun g e=>⟨fun H=>?_,fun H=>?_⟩,bk.on (Oa2 _) bx fun k e=>?_⟩,bD⟩
 ·rcases Od2.1 hy with hy|hy
  ·exact hR.off bJ hy
  cases Oc6.1 hy
  exact bI
 ·rcases Z with q|q
  ·exact hR.dvF g (q.symm.trans e) H
  rw[q]at e;cases e
  have:=bk.flt _ H;omega
 ·rw[bx.block g (by have:=Y g e;omega) fun H=>H.elim (fun H=>by have:=Y g e;omega) (h.sep g e).1];exact br.block g (Y g e).2 fun H=>H.elim (h.sep g e).2 (h.sep g e).1
 ·rcases Z with q|q
  ·exact(h.sep g e).1 (q.symm.trans H)
  rw[q]at H;cases H
  have:=Y _ e;omega
 ·exact(hF g H).elim (h.sep g e).2 fun bL=>by have:=Y g e;omega
 rcases e with e|e
 ·rw[e];exact⟨Oa2 _,hR.rbF⟩
 exact⟨by have:=bB k e;omega,hR.dvF k e⟩
theorem DkS.elder {w X F0 d D0 lim y F W}(h:DkS X F0 d D0 lim F W)(hb:Below w.heap.size w X)(hl:lim<=y):DkS w F0 d D0 y F W:=by
 obtain⟨E,H,I,M⟩:=h.ex;have hs:=hb.size;exact⟨(Ju.of_below (F:=F0) hb).trans h.keep,⟨E,H,I,zo⟩,fun k K=>(h.ffr k K).imp id fun e=>zo,h.flt⟩
theorem Kwu (nb no bx s d:Nat)(F0:Nat->Prop)(D0:DS)(lim:Nat->Nat)(H:List Nd)(z bu bl sd:Int)(br:Nat->List Dn->Prop)(bA:Nat->Value->World->Prop)(SC:Value->World->Prop)w(dd:∀ j nd,H[j]?=some nd->Zm w nb (no+j*7) nd)(fo:1<=H.length)(fS:H.length<=12)(dR:1<=z)(dS:z<=1000)(bB:2<=bu)(bk:bu<=1000)(dv:0<=bl)(dw:bl<=4096)(dM:∀ X,Below w.heap.size w X->Calls prog 33 #[(.agg #[.slice (some ⟨nb,no,none⟩) H.length bx]),(.func (.func 34) #[.pointer (some ⟨s,0,none⟩)] #[])] X fun e w'=>∃ a n c,e=.returned (.tuple #[.slice a n c,.nilIface])/\Below X.heap.size X w'/\SC (.slice a n c) w')(df:∀ v W U,Below W.heap.size W U->SC v W->SC v U)(dP:∀ X sc,Below w.heap.size w X->SC sc X->∀ j nd,H[j]?=some nd->Kvd X (X.heap.size+1) X.heap.size z bu bl (.int .i64 sd) (.pointer (some ⟨s,0,none⟩)) d sc br bA F0 D0 lim nd j)(da:∀ j v W U,Below W.heap.size W U->bA j v W->bA j v U)(de:br 0 [])(cZ:DkS w F0 d D0 (lim 0) F0 w)(dx:∀ j,j<=H.length->lim j<=lim H.length):
  Calls prog 25 #[(.agg #[.slice (some ⟨nb,no,none⟩) H.length bx]),.agg #[.int .i64 z,.int .i64 bu,.int .i64 bl,.int .i64 sd],(.pointer (some ⟨s,0,none⟩)),(.pointer (some ⟨d,0,none⟩))] w (Kxf H.length br bA F0 d D0 (lim H.length) w):=by
 have bN:Hid ((∀ j nd,H[j]?=some nd->Zm w nb (no+j*7) nd)/\(∀ X sc,Below w.heap.size w X->SC sc X->∀ j nd,H[j]?=some nd->Kvd X (X.heap.size+1) X.heap.size z bu bl (.int .i64 sd) (.pointer (some ⟨s,0,none⟩)) d sc br bA F0 D0 lim nd j)/\(∀ j v W U,Below W.heap.size W U->bA j v W->bA j v U)/\br 0 []/\∀ v W U,Below W.heap.size W U->SC v W->SC v U):=⟨dd,dP,da,de,df⟩;have fU:=run_neq_nil_nil (P:=prog);obtain⟨w1,bJ⟩:∃ w1,w1=(w.alloc (.cells #[.slice (some ⟨nb,no,none⟩) H.length bx] 57)).alloc (.cells #[.int .i64 z,.int .i64 bu,.int .i64 bl,.int .i64 sd] 27):=⟨_,rfl⟩;have cx:Below w.heap.size w w1:=by rw[bJ];exact Jc (Jc (Oa5 _ _) _) _
 have cD:=dM w1 cx;have cN:=zh cx;have dV:w1.heap[w.heap.size]?=some (.cells #[.slice (some ⟨nb,no,none⟩) H.length bx] 57 (0,0)):=by rw[bJ];exact(Oa9 _ _ _ zS).trans (heap_alloc_new w _)
 have dW:w1.heap[w.heap.size+1]?=some (.cells #[.int .i64 z,.int .i64 bu,.int .i64 bl,.int .i64 sd] 27 (0,0)):=by
  have:=heap_alloc_new (w.alloc (.cells #[.slice (some ⟨nb,no,none⟩) H.length bx] 57)) (.cells #[.int .i64 z,.int .i64 bu,.int .i64 bl,.int .i64 sd] 27);rw[Oa7]at this;rw[bJ];exact this
 have dG:=fun W=>Jk5 z bu bl (.int .i64 sd) W dR dS bB bk dv dw;have bO:Hid (w1.heap[w.heap.size]?=some (.cells #[.slice (some ⟨nb,no,none⟩) H.length bx] 57 (0,0))/\w1.heap[w.heap.size+1]?=some (.cells #[.int .i64 z,.int .i64 bu,.int .i64 bl,.int .i64 sd] 27 (0,0))):=⟨dV,dW⟩;rw[bJ]at cD;have cV:=zh bJ;have cP:=Krx cZ;have cR:=Krx dx;clear cZ dx dd dP da de dM cx dV dW dR dS bB bk dv dw bJ df;go_enter func25,ntmps25
 go_upto_region 2 with(go_at_call 33;refine cD.mono ?_;rintro bS bU ⟨K,O,M,rfl,bB,dL⟩)
 rw[<-cV.out]at bB;have dZ:=(bB.block _ (Jd bO.out.1)).trans bO.out.1;have q1:=(bB.block _ (Jd bO.out.2)).trans bO.out.2;have cj:=zc 0 q1;have bz:=zc 1 q1;have bK:=zc 2 q1;have bL:=zc 3 q1;have bQ:Hid (Below w.heap.size w bU/\SC (.slice K O M) bU/\bU.heap[w.heap.size]?=some (.cells #[.slice (some ⟨nb,no,none⟩) H.length bx] 57 (0,0))/\bU.heap[w.heap.size+1]?=some (.cells #[.int .i64 z,.int .i64 bu,.int .i64 bl,.int .i64 sd] 27 (0,0))):=⟨Jb cN.out bB,dL,dZ,q1⟩;clear cD bB dL dZ q1 cV bO cN w1;go_upto_region 6 with(go_at_call 35;refine(dG _).mono ?_;rintro bS y ⟨rfl,bk⟩)
 have fk:=Ja bk cj;have fl:=Ja bk bz;have bE:=Ja bk bK;have fm:=Ja bk bL;have cK:=(bk.block _ (Jd bQ.out.2.2.1)).trans bQ.out.2.2.1;have cc:Below w.heap.size w y:=Jb bQ.out.1 bk;have cE:=bN.out.2.2.2.2 _ _ _ bk bQ.out.2.1;have bR:Hid (Below w.heap.size w y/\SC (.slice K O M) y):=⟨cc,cE⟩;have cI:=bN.out.2.1 y (.slice K O M) cc cE;have fg:=Krx cI;have bY:Below y.heap.size y (y.alloc (.cells #[.int .i64 z,.int .i64 bu,.int .i64 bl,.int .i64 sd,(.pointer (some ⟨s,0,none⟩)),(.pointer (some ⟨d,0,none⟩)),.slice K O M,.slice none 0 0] 101)):=Jc (Oa5 _ _) _;have dI:(y.alloc (.cells #[.int .i64 z,.int .i64 bu,.int .i64 bl,.int .i64 sd,(.pointer (some ⟨s,0,none⟩)),(.pointer (some ⟨d,0,none⟩)),.slice K O M,.slice none 0 0] 101)).heap[y.heap.size]?=_:=heap_alloc_new y (.cells #[.int .i64 z,.int .i64 bu,.int .i64 bl,.int .i64 sd,(.pointer (some ⟨s,0,none⟩)),(.pointer (some ⟨d,0,none⟩)),.slice K O M,.slice none 0 0] 101);have dY:=(bY.block _ (Jd cK)).trans cK;have cF:=Jxb y.heap.size nb no bx H (y.alloc (.cells #[.int .i64 z,.int .i64 bu,.int .i64 bl,.int .i64 sd,(.pointer (some ⟨s,0,none⟩)),(.pointer (some ⟨d,0,none⟩)),.slice K O M,.slice none 0 0] 101)) (fun j p hp=>((bN.out.1 j p hp).below cc).below bY) (fun p hp=>by
  obtain⟨j,cA⟩:=Ok2.1 hp;have:=cI j p cA;exact⟨this.1,this.2.1⟩) zo
 have dX:(y.alloc (.cells #[.int .i64 z,.int .i64 bu,.int .i64 bl,.int .i64 sd,(.pointer (some ⟨s,0,none⟩)),(.pointer (some ⟨d,0,none⟩)),.slice K O M,.slice none 0 0] 101)).cell? ⟨w.heap.size,0,none⟩=some (.slice (some ⟨nb,no,none⟩) H.length bx):=by simp[World.cell?,dY]
 clear cj bz bK bL bk dG bQ cK cc cE cI dY;go_upto_region 7 with fail
 have bD:Hid ((y.alloc (.cells #[.int .i64 z,.int .i64 bu,.int .i64 bl,.int .i64 sd,(.pointer (some ⟨s,0,none⟩)),(.pointer (some ⟨d,0,none⟩)),.slice K O M,.slice none 0 0] 101)).heap[y.heap.size]?=some (.cells #[.int .i64 z,.int .i64 bu,.int .i64 bl,.int .i64 sd,(.pointer (some ⟨s,0,none⟩)),(.pointer (some ⟨d,0,none⟩)),.slice K O M,.slice none 0 0] 101 (0,0))/\Below y.heap.size y (y.alloc (.cells #[.int .i64 z,.int .i64 bu,.int .i64 bl,.int .i64 sd,(.pointer (some ⟨s,0,none⟩)),(.pointer (some ⟨d,0,none⟩)),.slice K O M,.slice none 0 0] 101))/\(y.alloc (.cells #[.int .i64 z,.int .i64 bu,.int .i64 bl,.int .i64 sd,(.pointer (some ⟨s,0,none⟩)),(.pointer (some ⟨d,0,none⟩)),.slice K O M,.slice none 0 0] 101)).heap.size=y.heap.size+1):=⟨dI,bY,zS⟩;clear dI bY;generalize y.alloc (.cells #[.int .i64 z,.int .i64 bu,.int .i64 bl,.int .i64 sd,(.pointer (some ⟨s,0,none⟩)),(.pointer (some ⟨d,0,none⟩)),.slice K O M,.slice none 0 0] 101)=fL at cF dX bD |-;go_wp2_with (go_at_call 36;refine cF.mono ?_;rintro bS bV ⟨dh,sv,rfl,cG⟩;obtain⟨cL,cM,cH⟩:=Jcz cG;have cU:=zh cG;have fK:=zh cH;have fw:sv=.slice cL H.length cM:=cH;clear cG cH;subst fw)
 have cB:Below y.heap.size y bV:=Jb bD.out.2.1 dh;have dp:DkS y F0 d D0 (lim 0) F0 bV:=by
  have h0:=cP.out;have di:Below w.heap.size w bV:=Jb bR.out.1 cB;obtain⟨E,g1,g2,bX⟩:=h0.ex;exact⟨Ju.of_below cB,⟨E,g1.below di,g2,bX⟩,fun k bj=>.inl bj,fun k bj=>Oc2 (h0.flt k bj) di.size⟩
 have cv:∀ k,F0 k->k<y.heap.size:=fun k bj=>Oc2 (cP.out.flt k bj) bR.out.1.size;have dc:Kvs y F0 D0 lim z bu bl (.int .i64 sd) (.pointer (some ⟨s,0,none⟩)) d (.slice K O M) (.slice cL H.length cM) H br 0 (.slice none 0 0) [] F0 bV:=
  ⟨⟨⟨(dh.block _ (Jd bD.out.1)).trans bD.out.1,Jo.nil _ _ _,fun x cJ=>(by cases cJ),zo⟩,fun x cJ=>(by cases cJ),fun e=>Oe3 _ (cv _ e),fun g e=>(by cases e)⟩,rfl,bN.out.2.2.2.1,fun h=>absurd h (Oe3 _),(by have:=cU.out;rw[bD.out.2.2]at this;exact this),fun g e=>⟨fun bE=>(by cases bE),fun bE=>(by have fo:=cv g bE;have fp:=(Je cU.out e).1;rw[bD.out.2.2]at fp;omega)⟩,dp⟩
 have fd:=Krx dc;clear dc cF bD dX fk fl bE fm dp cB cv;go_loopw [41] (fun i wr=>∃ (j:Nat) (Z:Value) (bW:List Dn) (F:Nat->Prop),j<=H.length/\i=.int .i64 (j:Int)/\Kvs y F0 D0 lim z bu bl (.int .i64 sd) (.pointer (some ⟨s,0,none⟩)) d (.slice K O M) (.slice cL H.length cM) H br j Z bW F wr) (fun i _=>H.length-(intOf i).toNat)
 case atStart=>exact⟨0,_,_,_,Ob7 _,rfl,fd.out⟩
 case round=>
  obtain⟨j,Z,bW,F,cA,rfl,I⟩:=hrel;have cQ:=Krx I;have dJ:=I.rg.rs.run;obtain⟨cW,cX,ca,dm⟩:=I.rg.rs.own.cells;rw[Oa6,I.len]at ca;by_cases dy:j<H.length
  ·obtain⟨nd,cf⟩:∃ nd,H[j]?=some nd:=⟨_,Oa3 dy⟩;obtain⟨fy,fz,cz⟩:=fg.out j nd cf;obtain⟨sg,fY,dN,⟨fZ,ga,gb,gd,ge,gg,gh⟩,fJ⟩:=I.step cf;simp only[On8]at dN;obtain⟨rfl,-,rfl⟩:=dN;have ft:=Js3 nd.op;obtain⟨f,ds⟩:∃ f,f=Jej nd.op:=⟨_,rfl⟩;rw[<-ds]at ft fJ cz;have fV:∀ (a:Addr) (X:World),(store a (.func (.func f) #[.pointer (some ⟨y.heap.size,0,none⟩)] #[])).run prog X=stored prog X a (.func (.func f) #[.pointer (some ⟨y.heap.size,0,none⟩)] #[]) .plain:=fun a X=>run_store _ _ _ _ _ rfl;have bZ:Below wr.heap.size wr (wr.alloc (.cells #[.int .i64 nd.op,.int .i64 nd.l,.int .i64 nd.r,.string nd.tn,.slice nd.xs.1 nd.xs.2.1 nd.xs.2.2,.slice nd.ky.1 nd.ky.2.1 nd.ky.2.2,.int .i64 nd.kk,.func (.func f) #[.pointer (some ⟨y.heap.size,0,none⟩)] #[]] 106)):=Jc (Oa5 _ _) _;have cy:=(cz (wr.alloc (.cells #[.int .i64 nd.op,.int .i64 nd.l,.int .i64 nd.r,.string nd.tn,.slice nd.xs.1 nd.xs.2.1 nd.xs.2.2,.slice nd.ky.1 nd.ky.2.1 nd.ky.2.2,.int .i64 nd.kk,.func (.func f) #[.pointer (some ⟨y.heap.size,0,none⟩)] #[]] 106)) F Z bW (I.dk.below bZ) (fun g e=>by have:=(Je I.rg.rs.own e).1;omega) (I.rg.below bZ) I.len I.ps).mono (R':=fun e U=>∃ a b bf,e=.returned (.tuple #[a,b])/\(DkS y F0 d D0 (lim (j+1)) bf U/\Ju (fun k=>F k\/Z.ownBlock=some k) (wr.alloc (.cells #[.int .i64 nd.op,.int .i64 nd.l,.int .i64 nd.r,.string nd.tn,.slice nd.xs.1 nd.xs.2.1 nd.xs.2.2,.slice nd.ky.1 nd.ky.2.1 nd.ky.2.2,.int .i64 nd.kk,.func (.func f) #[.pointer (some ⟨y.heap.size,0,none⟩)] #[]] 106)) U/\∀ k,bf k->F k\/(wr.alloc (.cells #[.int .i64 nd.op,.int .i64 nd.l,.int .i64 nd.r,.string nd.tn,.slice nd.xs.1 nd.xs.2.1 nd.xs.2.2,.slice nd.ky.1 nd.ky.2.1 nd.ky.2.2,.int .i64 nd.kk,.func (.func f) #[.pointer (some ⟨y.heap.size,0,none⟩)] #[]] 106)).heap.size<=k)/\((∃ (x:Nat×List (Option Addr×Nat)×List (List V)) (Y:List Dn),a=dnV (some x)/\b=.nilIface/\Jjg bf (y.heap.size+1) y.heap.size z bu bl (.int .i64 sd) (.pointer (some ⟨s,0,none⟩)) (.pointer (some ⟨d,0,none⟩)) (.slice K O M) Z Y U/\Jfk y.heap.size Z x U/\(Jbo x.1 x.2.1 x.2.2.length fun b=>¬ bf b)/\Y.length=j/\br (j+1) (Y++[some x]))\/(∃ (ty bb:Nat),a=.slice none 0 0/\b=.iface ty (.pointer (some ⟨bb,0,none⟩))/\bA j b U))) (fun e U h=>by
    obtain⟨bf,g1,g2,bX,⟨x,Y,rfl,fE,r2,fF,fG,fH⟩|⟨ty,bb,rfl,cb⟩⟩:=h
    ·exact⟨_,_,bf,rfl,⟨g1,g2,bX⟩,.inl ⟨x,Y,rfl,rfl,fE,r2,fF,fG,fH⟩⟩
    exact⟨_,_,bf,rfl,⟨g1,g2,bX⟩,.inr ⟨ty,bb,rfl,rfl,cb⟩⟩)
   have bC:Hid (j<H.length/\H[j]?=some nd/\Below wr.heap.size wr (wr.alloc (.cells #[.int .i64 nd.op,.int .i64 nd.l,.int .i64 nd.r,.string nd.tn,.slice nd.xs.1 nd.xs.2.1 nd.xs.2.2,.slice nd.ky.1 nd.ky.2.1 nd.ky.2.2,.int .i64 nd.kk,.func (.func f) #[.pointer (some ⟨y.heap.size,0,none⟩)] #[]] 106))):=⟨dy,cf,bZ⟩;have dr:∀ g,Z.ownBlock=some g->y.heap.size+1<=g/\g<wr.heap.size:=fun g e=>Je I.rg.rs.own e;have bM:Hid (Z=.slice cW j cX/\∀ g,Z.ownBlock=some g->y.heap.size+1<=g/\g<wr.heap.size):=⟨ca,dr⟩;clear ds I cz cf fy fz dJ dm bZ ca dr;go_upto_region 11 with(refine cy.mono ?_;rintro bS bh ⟨fI,fX,bf,rfl,bI,fs⟩)
   rcases fs with⟨x,Y,hra,rfl,hR,cY,dQ,dq,dH⟩|⟨ty,bb,rfl,rfl,cb⟩
   ·as_aux_lemma=>
     have fv:fI=.slice (some ⟨x.1,0,none⟩) x.2.2.length (Ku1 x.2.1 x.2.2.length):=hra;subst fv;have cn:Hid (Ju (fun k=>F k\/Z.ownBlock=some k) wr bh/\(∀ k,bf k->F k\/wr.heap.size<=k)/\DkS y F0 d D0 (lim (j+1)) bf bh):=⟨(Ju.of_below bC.out.2.2).trans bI.2.1,fun k bj=>(bI.2.2 k bj).imp id fun e=>by have:=bC.out.2.2.size;omega,bI.1⟩;have bP:Hid (Jd6 (y.heap.size+1) y.heap.size z bu bl (.int .i64 sd) (.pointer (some ⟨s,0,none⟩)) (.pointer (some ⟨d,0,none⟩)) (.slice K O M) Z Y bh/\Jfk y.heap.size Z x bh/\Y.length=j/\br (j+1) (Y++[some x])):=⟨hR.rs,cY,dq,dH⟩;have cT:Hid (Jjg bf (y.heap.size+1) y.heap.size z bu bl (.int .i64 sd) (.pointer (some ⟨s,0,none⟩)) (.pointer (some ⟨d,0,none⟩)) (.slice K O M) Z Y bh/\Jbo x.1 x.2.1 x.2.2.length fun b=>¬ bf b):=⟨hR,dQ⟩;have cu:=hR.rs.run.cells.2.2.2.2;rw[bM.out.1]at cu;have fu:Jo bh (y.heap.size+1) 78 (.slice cW j cX) (Y.map dnV):=by have:=hR.rs.own;rw[bM.out.1]at this;exact this
     clear hra hR cY dq dH bI cy dQ;go_wp2_with (at_builtin;go_must (refine Ul zR _ _ 99 78 _ 24 Jzj zR zd zK zR (y.heap.size+1) _ _ zR (Jo.alloc fu _) ⟨bh.heap.size,0,none⟩ 1 [dnV (some x)] zR (by exact Ua bh _ _) (by intro u dO;simp at dO;subst dO;rfl) (by have:=bP.out.2.2.1;have:=bC.out.1;simp only[List.length_cons,List.length_nil,Oa6];omega) (by simp;have:=Jd bP.out.1.run;omega) ?_);intro fQ w4 q1 q2 fD;go_must (obtain⟨fr,cC⟩:=cQ.out.next cn.out.1 cn.out.2.1 cn.out.2.2 cT.out.1 bP.out.2.1 cT.out.2 bP.out.2.2.1 bP.out.2.2.2 (.cells #[dnV (some x)] 78) q1 (by rw[bM.out.1];exact q2) (by rw[bM.out.1];exact fD));obtain⟨fN,fO,dK,_⟩:=q1.cells;obtain⟨dT,dB⟩:∃ dT,dT=(Y.map dnV++[dnV (some x)]).length:=⟨_,rfl⟩;rw[<-dB]at dK;clear dB;subst dK;rw[bM.out.1]at cC;have fP:=cC.cells.2.2.2.2;have fR:w4.frozen? ⟨y.heap.size,7,none⟩=false:=(by simp[World.frozen?,show w4.heap[y.heap.size]?=_ from cC]))
     go_roundw
     case rel=>exact⟨j+1,_,_,_,bC.out.1,by have:=bC.out.1;go_num,fr⟩
     case measure=>have:=bC.out.1;simp[intOf];omega
   as_aux_lemma=>
    have cO:Hid (DkS w F0 d D0 (lim H.length) bf bh):=bI.1.elder bR.out.1 (cR.out (j+1) bC.out.1);have db:=bN.out.2.2.1 j _ bh (bh.alloc (.cells #[.int .i64 (j:Int),.iface ty (.pointer (some ⟨bb,0,none⟩))] 109)) (Jc (Oa5 _ _) _) cb;have fc:=Krx db;clear cb db bI cy;go_wp2;refine bodyPost_ret (v:=.tuple #[.slice none 0 0,.iface 107 (.pointer (some ⟨bh.heap.size,0,none⟩))]) (by simp[results,results25,go_sem]) rfl ⟨bf,cO.out.below (Jc (Oa5 _ _) _),.inr ⟨j,_,bh.heap.size,rfl,heap_alloc_new bh _,fc.out,cO.out.keep.size⟩⟩
  as_aux_lemma=>
   have du:j=H.length:=zo;obtain⟨Y,x,bG⟩:=I.last zo;have hlen:Y.length+1=H.length:=by have:=I.len;rw[bG,Oa8,List.length_singleton]at this;omega
   obtain⟨m,dA⟩:∃ m,m=Y.length:=⟨_,rfl⟩;rcases I.rg.rs.own with⟨cj,⟨bz,bK⟩|⟨bi,fj,fi,bz,bK,bL,fA,fB,fC,dU⟩⟩
   ·rw[Oa6,I.len]at bK;omega
   rw[Oa6,I.len]at bz;have dl:fi[m]?=some (dnV (some x)):=by
    have bT:(bW.map dnV)[m]?=some (dnV (some x)):=by rw[bG,Ob8,Ob6 (by rw[Oa6];omega),Oa6,dA,Oe1];rfl
    rw[<-dU,Oe7]at bT;split at bT
    ·rw[Oe6]at bT;exact bT
    cases bT
   have dj:wr.cell? ⟨bi,m,none⟩=some (.slice (some ⟨x.1,0,none⟩) x.2.2.length (Ku1 x.2.1 x.2.2.length)):=by
    simp only[World.cell?,bL];exact dl
   have dt:wr.frozen? ⟨bi,m,none⟩=false:=by simp[World.frozen?,bL]
   have ci:=I.rg.rs.run;rw[bz]at ci;have fx:=Jjb y.heap.size bi j fj m z (.int .i64 bu) (.int .i64 bl) (.int .i64 sd) (.pointer (some ⟨s,0,none⟩)) (.pointer (some ⟨d,0,none⟩)) (.slice K O M) _ _ _ wr ci zo dj dt;have cu:=ci.cells.2.2.2.2;have bH:=I.rg.rs.cols x (by rw[bG];simp);have fh:Hid (Qd (wr.setCell ⟨bi,m,none⟩ (.slice none 0 0)) x.1 x.2.1 x.2.2):=by
    have dC:Z.ownBlock=some bi:=by rw[bz];rfl
    exact bH.1.blocks (by simp[World.setCell]) ⟨Oa4 _ _ _ _ (fun e=>bH.2.1.2.1 (dC.trans (congrArg some e.symm))),fun k bj b o e=>Oa4 _ _ _ _ (fun bE=>(bH.2.2 k bj b o e).2.1 (dC.trans (congrArg some bE.symm)))⟩
   have fe:Hid (br H.length (Y++[some x])):=by have:=I.ps;rw[bG,du]at this;exact this
   have dD:Z.ownBlock=some bi:=by rw[bz];rfl
   have cS:Hid (DkS w F0 d D0 (lim H.length) F (wr.setCell ⟨bi,m,none⟩ (.slice none 0 0))/\Jbo x.1 x.2.1 x.2.2.length fun b=>b<(wr.setCell ⟨bi,m,none⟩ (.slice none 0 0)).heap.size/\¬ F b):=by
    have dE:=I.rg.off x (by rw[bG];simp);have fq:=(I.dk.elder bR.out.1 (cR.out j cA)).on (Oa2 _) (Ju.set (F:=fun k=>k=bi) (Ju.refl _ wr) rfl m (.slice none 0 0)) fun k e=>⟨by have:=bR.out.1.size;have bS:k=bi:=e;omega,by rw[show k=bi from e];exact I.rg.dvF bi dD⟩;refine⟨fq,⟨?_,dE.1⟩,fun k bj b o e=>⟨?_,dE.2 k bj b o e⟩⟩
    ·have:=bH.2.1.2.2;simpa [World.setCell] using this
    have:=(bH.2.2 k bj b o e).2.2;simpa [World.setCell] using this
   rw[du]at cu |-;have fW:(H.length:Int)-1=(m:Int):=zo;have fT:m<=11:=zo;clear dD bH ci I cQ dl dt dj cj bz bK bL fA fB fC dU dm ca bG hlen dA dJ;go_wp2_with (go_at_call 37;refine fx.mono ?_;rintro bS fM ⟨rfl,dg⟩;have ff:=zh dg;clear dg)
   refine bodyPost_ret (v:=.tuple #[.slice (some ⟨x.1,0,none⟩) x.2.2.length (Ku1 x.2.1 x.2.2.length),.nilIface]) (by simp[results,results25,go_sem]) rfl ?_;rw[ff.out];exact⟨F,cS.out.1,.inl ⟨x,Y,rfl,fh.out,cS.out.2,fe.out⟩⟩
