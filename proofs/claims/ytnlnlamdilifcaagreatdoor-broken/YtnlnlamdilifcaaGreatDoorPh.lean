/- fewRuns. -/
import Derived.Test.YtnlnlamdilifcaaGreatDoorOk
import Derived.Test.YtnlnlamdilifcaaGreatDoorOh
import Derived.Test.YtnlnlamdilifcaaGreatDoorYf
set_option maxHeartbeats 4000000
set_option maxRecDepth 100000
namespace Go.Proofs.YtnlnlamdilifcaaGreatDoor
section
open Go.RowKit Go.Shelf Tryz
def Kva (y:SC)(z lim:Nat)(ev:Value)(w':World):Prop:=∃ I H M mv K b,ev=Ip 149 b/\SI y w' I H M mv (z:Int)/\Yu w' (Ip 149 b) (if K=true then y.q else y.qw) none (some (-1))/\y.w0.heap.size<=b/\¬ I b/\Ksy y.D0 K/\dz H<=lim
def Kxh (K:SC)(z q n lim O:Nat)(g:Nat->Nat)(rv:Value)(w':World):Prop:=∃ I y H mv idx M,Ks4 K z w' I y H mv rv idx M/\idx.length=q/\1<=q/\q<=50000/\H.length+q+g q<=O/\dz y+n*g q<=lim
theorem Kzd.split {K w w' z q ml lim e Y}(h:Kzd K w z q ml Y e w')(hl:Y<=lim)(bk:K.w0.heap.size<=w.heap.size):(∃ rv,e=.returned (.tuple #[rv,.nilIface])/\∃ I y H mv idx M,Ks4 K z w' I y H mv rv idx M/\idx.length=q/\H.length=ml/\dz y<=Y)\/∃ b,e=.returned (.tuple #[Sz,Ip 149 b])/\Kva K z lim (Ip 149 b) w':=by
 rcases h with⟨I,y,H,mv,rv,idx,M,O,U⟩|⟨I,y,H,mv,br,b,O,U,Z,bf,bh,bi,bj⟩
 ·exact .inl ⟨rv,O,I,y,H,mv,idx,M,U⟩
 exact .inr ⟨b,O,I,y,H,mv,br,b,rfl,U,Z,Ob2 bk bf,bh,bi,Ob2 bj hl⟩
theorem Kup {q bu}(hb:2<=bu):2*ckN q bu<=q+1:=by
 unfold ckN;rcases Oj2 q with h|h
 ·subst h;rw[Op6 zo];omega
 have H:(q+bu-1) / bu<=(q+1) / 2:=by
  refine Nat.le_of_lt_succ ((Nat.div_lt_iff_lt_mul zo).2 ?_);have I:(q+1) / 2*bu>=(q+1) / 2*2:=Nat.mul_le_mul_left _ hb;have y:((q+1) / 2+1)*bu=(q+1) / 2*bu+bu:=Of5 _ _;rw[y];omega
 omega
theorem Kxh.pass {y}(hK:SK y){z q lim H bu pr:Nat}{g rv w}(h:Kxh y z q (pr*nR y.cs) lim H g rv w)(bz:y.bu=(bu:Int))(br:2<=bu)(bx:bu<=50000)(bG:1<=z)(bH:z<=64)(bD:∀ x,x<nR y.cs->(Qu (Kr4 y.ts (Jba [x] y.cs) y.ts.length)).length<=pr)(bj:nR y.cs<=50000)(hM:H<=900000)(bO:lim<=930000)(hq:bu<q)(bB:g (ckN q bu)+1<=g q):
  Cq 211 #[Pq y.sb,rv] w fun e w'=>(∃ rv',e=.returned (.tuple #[rv',.nilIface])/\Kxh y z (ckN q bu) (pr*nR y.cs) lim H g rv' w')\/∃ b,e=.returned (.tuple #[Sz,Ip 149 b])/\Kva y z lim (Ip 149 b) w':=by
 obtain⟨O,K,bf,mv,idx,Y,I,rfl,bi,bK,bL,bM⟩:=h;have bC:pr*nR y.cs*(g (ckN idx.length bu)+1)<=pr*nR y.cs*g idx.length:=Nat.mul_le_mul_left _ bB;rw[Nat.mul_add,Nat.mul_one]at bC;refine(Kwp y hK w O K bf mv rv idx Y z bu pr I bz zo bx bG bH bD bi zo zo bj zo).mono fun e w' hp=>?_;rcases hp.split (lim:=lim) zo I.si.old.size with⟨rv',bA,U,M,bh,bJ,bI,Z,bk,bE,bP,bN⟩|hp
 ·refine .inl ⟨rv',bA,U,M,bh,bJ,bI,Z,bk,bE,Khi zo zo,?_,?_,zo⟩
  ·have:=Kg4 idx.length bu zo;omega
  have:=Kup (q:=idx.length) br;omega
 exact .inr hp
def Qdw (H:SC)(z bu lim:Nat)(e:Ending)(w':World):Prop:=
 (∃ rv,e=.returned (.tuple #[rv,.nilIface])/\∃ I y M mv idx K,Ks4 H z w' I y M mv rv idx K/\1<=idx.length/\idx.length<=bu/\dz y<=lim)\/∃ ev,e=.returned (.tuple #[Sz,ev])/\Kva H z lim ev w'
theorem zbc {p:Prop}(h:p:=by
 have I:=Krx H;clear H hrel;go_wp2;go_ret2
 exact .inr ⟨_,rfl,I.out⟩):p:=h
theorem Qar (y:SC)(hK:SK y)w(F:Nat->Prop)(E:DS)(bl:Int)(h:SI y w F E [] Sz bl)(bf cp:Nat)(hs:List (Option Addr×Nat))(hC:Qd y.w0 bf hs y.cs)(bC:Jbo bf hs y.cs.length (fun b=>b<y.w0.heap.size/\¬ y.F0 b))(bu pr:Nat)(bk:y.bu=(bu:Int))(bG:2<=bu)(bH:bu<=50000)(bW:1<=nR y.cs)(bD:nR y.cs<=50000)(br:∀ ch:List Nat,(∀ t∈ch,t<nR y.cs)->1<=ch.length->ch.length<=64->(Qu (Kr4 y.ts (Jba ch y.cs) y.ts.length)).length<=pr*ch.length)(g:Nat->Nat)(bK:∀ q,bu<q->g (ckN q bu)+1<=g q)(bL:g (ckN (nR y.cs) bu)<=100000)(lim:Nat)(bY:lim<=930000)(bI:dz E+2*pr*bu*ckN (nR y.cs) bu+pr*nR y.cs*g (ckN (nR y.cs) bu)<=lim)(z:Nat)(bx:z=min (max (bu / ckN (nR y.cs) bu) 1) 64):
  Cq 171 #[Pq y.sb,Sq bf y.cs.length cp] w (Qdw y z bu lim):=by
 have cb:=h.old.size;obtain⟨⟨_,_,s2⟩,_⟩:=h.st.field;have hcut:=Qap y hK w F E bl h bf cp hs hC bC bu pr bk zo bH bW bD br zo z bx;have bJ:=hcut.mono fun e w' hp=>hp.split (lim:=lim) zo cb;have bO:1<=ckN (nR y.cs) bu:=Khi zo zo;have bP:ckN (nR y.cs) bu<=nR y.cs:=Kg4 _ _ zo;have bQ:1<=z/\z<=64:=by rw[bx];generalize bu / ckN (nR y.cs) bu=cx;omega
 have bN:∀ x,x<nR y.cs->(Qu (Kr4 y.ts (Jba [x] y.cs) y.ts.length)).length<=pr:=fun x cc=>by
  have:=br [x] (fun t ht=>by rw[Oc6.1 ht];exact cc) (Oa2 _) (by rw[List.length_singleton];omega);rw[List.length_singleton,Nat.mul_one]at this;exact this
 have bS:Hid (∀ q rv W,bu<q->Kxh y z q (pr*nR y.cs) lim 900000 g rv W->Cq 211 #[Pq y.sb,rv] W fun e w'=>(∃ rv',e=.returned (.tuple #[rv',.nilIface])/\Kxh y z (ckN q bu) (pr*nR y.cs) lim 900000 g rv' w')\/∃ b,e=.returned (.tuple #[Sz,Ip 149 b])/\Kva y z lim (Ip 149 b) w'):=fun q rv W hq M=>M.pass hK bk bG bH bQ.1 bQ.2 bN bD (Oa2 _) bY hq (bK q hq);have bz:Hid (∀ rv W q,Kxh y z q (pr*nR y.cs) lim 900000 g rv W->W.cell? (Ar y.sb 2)=some (Iq (bu:Int))/\∃ a c,rv=.slice a q c):=fun rv W q ⟨U,O,Z,mv,idx,Y,K,hq,_⟩=>by
  refine⟨?_,?_⟩
  ·have:=K.si.st.field.1.2.2;rw[bk]at this;exact this
  obtain⟨a,c,e,_⟩:=K.own.cells;rw[Oa6,Oa6,hq]at e;exact⟨a,c,e⟩
 have bh:=Krx bJ;have bT:Hid (1<=ckN (nR y.cs) bu/\ckN (nR y.cs) bu<=nR y.cs/\dz E+2*pr*bu*ckN (nR y.cs) bu+pr*nR y.cs*g (ckN (nR y.cs) bu)<=lim/\g (ckN (nR y.cs) bu)<=100000):=⟨bO,bP,bI,bL⟩;have bR:Hid (∀ q,bu<q->ckN q bu<q):=fun q hq=>by have:=Kup (q:=q) bG;omega
 clear hcut bJ br bN h hC bC bx bI bK bL s2 bO bP;go_enter func171,ntmps171
 go_wp2_with (go_at_call 210;refine bh.out.mono ?_)
 rintro e bB (⟨rv,rfl,U,O,Z,mv,idx,Y,K,hq,ca,bX⟩|⟨b,rfl,H⟩)
 ·have bj:Kxh y z (ckN (nR y.cs) bu) (pr*nR y.cs) lim 900000 g rv bB:=by
   have:=bT.out;exact⟨U,O,Z,mv,idx,Y,K,hq,zo,zo,zo,zo⟩
  have bA:=Krx bj;obtain⟨_,a,c,rfl⟩:=bz.out rv bB _ bj;clear bj K hq ca bX bh;go_wp2;go_loopg [6,7] (ckN (nR y.cs) bu+1) (fun k rv ev wr=>Hid ((ev=.nilIface/\∃ q,k=q+1/\Kxh y z q (pr*nR y.cs) lim 900000 g rv wr)\/(rv=Sz/\∃ b,ev=Ip 149 b/\Kva y z lim (Ip 149 b) wr)))
  case atStart=>exact .inl ⟨rfl,_,rfl,bA.out⟩
  case round=>
   clear bA;rcases hrel.out with⟨rfl,q,rfl,M⟩|⟨rfl,b,rfl,H⟩
   ·obtain⟨c2,a,c,rfl⟩:=bz.out _ _ _ M;by_cases bM:bu<q
    ·have bZ:(bu:Int)<(q:Int):=zo;have bi:=Krx (bS.out q _ _ bM M);clear M hrel;go_wp2_with (go_at_call 211;refine bi.out.mono ?_)
     rintro e cf (⟨rv',rfl,bE⟩|⟨b,rfl,H⟩)
     ·have bV:=Krx bE;clear bE bi;go_wp2;go_roundg (ckN q bu+1)
      case rel=>exact .inl ⟨rfl,_,rfl,bV.out⟩
      case measure=>have:=bR.out q bM;omega
     have I:=Krx H;clear H bi;go_wp2;go_roundg 0
     case rel=>exact .inr ⟨rfl,b,rfl,I.out⟩
     case measure=>omega
    have bZ:¬ (bu:Int)<(q:Int):=zo;have bU:=Krx M;clear M hrel;go_wp2;go_ret2
    obtain⟨U,O,Z,mv,idx,Y,K,ci,cj,cn,cu,cv⟩:=bU.out;exact .inl ⟨_,rfl,U,O,Z,mv,idx,Y,K,zo,zo,zo⟩
   exact zbc
 have I:=Krx H;clear H bh;go_wp2;go_loopg [6,7] 1 (fun k rv ev wr=>Hid (rv=Sz/\ev=Ip 149 b/\Kva y z lim (Ip 149 b) wr))
 case atStart=>exact⟨rfl,rfl,I.out⟩
 case round=>
  clear I;obtain⟨rfl,rfl,H⟩:=hrel.out;exact zbc
theorem Kxq (u:FrameMode)(sb d:Nat)bz(cj:Nat)(y:List Mr)(ts:List Int)(cs:Cs)w(F:Nat->Prop)(D:DS)(bX:w.cell? (Ar sb 3)=some (Pq d))(cB:w.cell? (Ar sb 5)=some (.slice bz y.length cj))(bI:Uh w bz (y.map fun m=>(Pq m.rb)))(bK:¬ F sb)(cb:∀ x o,bz=some (Ar x o)->¬ F x)(bY:Zb w F d D)(hF:∀ k,F k->k<w.heap.size)(hM:∀ m∈y,Kxe w F ts cs m)(hl:∀ m∈y,m.R.bs.length<=1000000/\∀ b∈m.R.bs,b.l.length<=1000000)(cF:y.length<=9223372036854775807):
  CallsD prog 170 #[Pq sb] u w fun e cn w'=>cn=u/\(e=.returned (.tuple #[])/\Zb w' F d (Jcg D (y.flatMap Mr.ls))/\Ju F w w'):=by
 have bQ:Hid (∀ m∈y,Kxe w F ts cs m/\m.R.bs.length<=1000000/\∀ b∈m.R.bs,b.l.length<=1000000):=fun m bH=>⟨hM m bH,hl m bH⟩;clear hM hl;go_enter_d func170,ntmps170
 go_wp2;go_loopw [11] (fun iv wr=>∃ i:Nat,iv=Iq i/\i<=y.length/\Zb wr F d (Jcg D ((y.take i).flatMap Mr.ls))/\Ju F w wr) (fun iv _=>y.length-(intOf iv).toNat)
 case atStart=>exact⟨0,rfl,Ob7 _,bY,Ju.refl _ _⟩
 case round=>
  rename_i iv
  obtain⟨i,rfl,hi,Y,hK⟩:=hrel;by_cases O:i<y.length
  ·have ci:(i:Int)<(y.length:Int):=zo;obtain⟨cz,cA,rfl,cC,bB⟩:=(bI.on hK.size fun x o e=>hK.block x (by
    rcases bI with bC|⟨cI,cH,M,bj,_⟩
    ·rw[List.map_eq_nil_iff]at bC;rw[bC]at O;simp at O
    rw[e]at M;simp at M;rw[M.1];exact bj) (cb x o e)).at (i:=i) (by simpa using O)
   rw[Od9]at bB;obtain⟨bk,cD,bE⟩:=bQ.out y[i] (Ob3 O);have H:=bk.keep hK;obtain⟨_,bW,_,_⟩:=H.1.fields;have bU:Hid ((y.take (i+1)).flatMap Mr.ls=(y.take i).flatMap Mr.ls++Mr.ls y[i]):=by show _=_;rw[Oc4 O,Oe8];simp
   have bO:=zh bk;have bP:=zh bE;clear bk H bE;generalize y[i]=m at *;go_wp2;go_loopw [20] (fun bh bN=>∃ j:Nat,bh=Iq j/\j<=m.R.bs.length/\Zb bN F d (Jcg D ((y.take i).flatMap Mr.ls++(m.R.bs.take j).map (·.l)))/\Ju F w bN) (fun bh _=>m.R.bs.length-(intOf bh).toNat)
   case atStart=>exact⟨0,rfl,Ob7 _,by simpa using Y,hK⟩
   case round=>
    rename_i bh
    clear Y hK bW bB;obtain⟨j,rfl,cE,Z,hK⟩:=hrel;by_cases K:j<m.R.bs.length
    ·have cf:(j:Int)<(m.R.bs.length:Int):=zo;have H:=bO.out.keep hK;obtain⟨U,bi,bG,cG,bL⟩:∃ U bi,m.ba=some (Ar U bi)/\U<wr.heap.size/\∀ i v,(m.R.bs.flatMap (Bk.cells ts.length))[i]?=some v->wr.cell? (Ar U (bi+i))=some v:=by
      rcases H.1.arr with e|⟨x,o,M,bj,bV⟩
      ·exfalso;cases hbs:m.R.bs with
       |nil=>rw[hbs]at K;simp at K
       |cons b l=>rw[hbs]at e;simp[Bk.cells]at e
      exact⟨x,o,M,bj,bV⟩
     have bf:∀ t v,(Bk.cells ts.length m.R.bs[j])[t]?=some v->wr.cell? (Ar U (bi+(j*3+t)))=some v:=fun t v ht=>bL _ v (by
      have:=Qcs (fun b:Bk=>Bk.cells ts.length b) 3 (fun b=>rfl) m.R.bs j K t (by have:=(Ob9.1 ht).1;simpa [Bk.cells] using this);rw[this];exact ht)
     have cu:=bf 0 _ rfl;have x1:=bf 1 _ rfl;have x2:=bf 2 _ rfl;rw[Nat.add_zero]at cu;rw[<-On5]at x1 x2;have bx:=H.1.blk m.R.bs[j] (Ob3 K);have c3:=hK.cell bX bK;have bS:Hid (∀ X,Bq wr X->Cq 89 #[Pq d,.slice (m.R.bs[j]).pa (m.R.bs[j]).l.length (m.R.bs[j]).pc] X fun e w'=>e=.returned (.tuple #[])/\Zb w' F d (Jf4 (Jcg D ((y.take i).flatMap Mr.ls++(m.R.bs.take j).map (·.l))) (m.R.bs[j]).l)/\Ju F X w'):=fun X bD=>Ki0 d _ _ (m.R.bs[j]).l X F _ (Z.below bD) (bx.pages.below bD) (fun x o e=>H.2.2 x (bx.pn x o e)) (bP.out _ (Ob3 K));have bT:Hid (Jcg D ((y.take i).flatMap Mr.ls++(m.R.bs.take (j+1)).map (·.l))=Jf4 (Jcg D ((y.take i).flatMap Mr.ls++(m.R.bs.take j).map (·.l))) (m.R.bs[j]).l):=by show _=_;rw[Oc4 K,Ob8,<-Od8];exact Kjz _ _ _
     rw[bG];clear bG bf bL bx H Z;generalize m.R.bs[j]=b at *;go_wp2_with fail
     have br:=Jc (Oa5 wr.heap.size wr) (.cells #[Iq (b.ids.length:Nat),.slice b.la ts.length b.lc,.slice b.pa b.l.length b.pc] 370);have cv:=heap_alloc_new wr (.cells #[Iq (b.ids.length:Nat),.slice b.la ts.length b.lc,.slice b.pa b.l.length b.pc] 370);have bA:=Ja br c3;have bZ:=hK.trans (Ju.of_below br);obtain⟨_,_,bM,_⟩:=Ksm cv;generalize wr.alloc (.cells #[Iq (b.ids.length:Nat),.slice b.la ts.length b.lc,.slice b.pa b.l.length b.pc] 370)=cx at *;have bJ:¬ F wr.heap.size:=fun h=>by have:=hF _ h;have:=hK.size;omega
     have bR:=zh bJ;clear bJ;generalize wr.heap.size=nb at *;go_region_held3 (fun X=>X.cell? (Ar sb 3)=some (Pq d)/\X.cell? (Ar nb 2)=some (.slice b.pa b.l.length b.pc))
      (first|(exact⟨bA,bM⟩)|(exact ca)|(go_split_ands;constructor<;>assumption))
      (first|(go_at_call 89;refine(bS.out _ (Jp br 1)).mono ?_;rintro e cy ⟨rfl,cc,I⟩;have ca:=And.intro (I.cell bA bK) (I.cell bM bR.out)))
     go_wp2;go_roundw
     case rel=>exact⟨j+1,zn,zo,by rw[bT.out];exact cc,bZ.trans ⟨I.os,I.tape,I.output,I.size,I.block⟩⟩
     case measure=>simp[intOf];omega
    have cf:¬ (j:Int)<(m.R.bs.length:Int):=zo;go_wp2;go_roundw
    case rel=>
     refine⟨i+1,zn,zo,?_,hK⟩;rw[bU.out];rw[show m.R.bs.take j=m.R.bs from Oc8 zo]at Z;exact Z
    case measure=>simp[intOf];omega
  have ci:¬ (i:Int)<(y.length:Int):=zo;rw[Oc8 zo]at Y;go_wp2;go_end0
  exact⟨rfl,Y,hK⟩
theorem Kwe:∀ (l m:List Nat),l.Nodup->(∀ x∈l,x∈m)->l.length<=m.length
 |[],m,_,_=>Ob7 _
 |a::l,m,y,hs=>by
  rw[Og0]at y;have K:=Kwe l (m.erase a) y.2 fun x I=>(List.mem_erase_of_ne (fun e:x=a=>y.1 (e▸I))).2 (hs x (Og1 _ I));have H:=hs a Of4;rw[List.length_erase_of_mem H]at K;have:=List.length_pos_of_mem H;rw[List.length_cons];omega
theorem Kwd:∀ (y:List (List Nat)),(∀ l∈y,l≠[])->y.length<=y.flatten.length
 |[],_=>Oa2 _
 |l::y,h=>by
  have I:=Kwd y fun x H=>h x (Og1 _ H);have K:=Oi9.2 (h l Of4);rw[List.flatten_cons,Oa8,List.length_cons];omega
theorem Top.relAll {D}:∀ (y:List (List Nat)) (E:DS),Top D E y->Top D (Jcg E y) []
 |[],E,h=>h
 |l::y,E,h=>by
  have H:Top D (Jf4 E l) y:=Top.rel (a:=[]) h;exact Top.relAll y (Jf4 E l) H
theorem Qan y:∀ E:DS,dz (Jcg E y)=dz E:=by
 induction y with
 |nil=>intro E;rfl
 |cons l y H=>intro E;exact(H (Jf4 E l)).trans (Kyi E l)
section
variable {K:SC} {w:World} {F:Nat->Prop} {E:DS} {Ms:List Mr} {mv:Value} {bl:Int}
theorem SI.blk_len (h:SI K w F E Ms mv bl)(hK:SK K){m}(M:m∈Ms):m.R.bs.length<=1000000:=by
 obtain⟨sv,ps,U⟩:=h.disk;have hs:=U.small;have Z:∀ l∈m.ls,l≠[]:=fun l hl e=>by
  unfold Mr.ls at hl;obtain⟨b,hb,rfl⟩:=Of0.1 hl;have y:=h.blks m M b hb;have Y:=hK.sg.lay y.2.2.1 y.2.1.2;have:=y.1.1;rw[e]at this;exact Jy1 Y.2.1 (Od3.1 this.symm)
 have H:=Kwd m.ls Z;have O:m.ls.flatten.Sublist (Ms.flatMap Mr.ls).flatten:=by
  rw[List.flatMap_def];exact Kun (List.sublist_flatten_of_mem (List.mem_map_of_mem M))
 have I:=Kwe m.ls.flatten (List.range E.pages.length) (h.top.nd.sublist O) fun x bf=>by
  obtain⟨p,hp⟩:=h.top.use x (O.subset bf);rw[Oj4];unfold pg at hp;rw[Oa0]at hp;by_cases hl:x<E.pages.length
  ·exact hl
  rw[Ob4 zo]at hp;cases hp
 rw[Op1]at I;unfold Mr.ls at H I;rw[Oa6]at H;omega
theorem SI.release (h:SI K w F E Ms mv bl)(hK:SK K)(u:FrameMode):CallsD prog 170 #[Pq K.sb] u w fun e Z w'=>Z=u/\(e=.returned (.tuple #[])/\∃ I,Zb w' F K.d I/\Kft K.D0 I/\dz I=dz E/\Ju F w w'):=by
 obtain⟨_,s3,_,bD,_⟩:=h.st.field;obtain⟨H,bC,e,U⟩:=h.own.cells;rw[Oa6,Oa6]at e;subst e;have bA:Ms.length<=9223372036854775807:=by
  rcases h.own.2 with⟨_,h0⟩|⟨g,cap,O,_,_,_,bf,bh,_⟩
  ·rw[Oa6,Oa6]at h0;omega
  rw[Oa6,Oa6]at bf;unfold maxLen at bh;omega
 have hob:∀ x o,H=some (Ar x o)->Ms≠[]->¬ F x:=fun x o e M bx=>by
  rcases h.own.2 with⟨y,h0⟩|⟨g,cap,O,y,_⟩
  ·rw[Oa6,Oa6]at h0;exact M (Od3.1 h0)
  injection y with y;rw[e]at y;injection y with y;injection y with y e3;subst y e3;exact h.mF x (by rw[e];rfl) bx
 have bj:∀ x o,H=some (Ar x o)->¬ F x:=fun x o e=>by
  by_cases M:Ms=[]
  ·rcases h.own.2 with⟨y,_⟩|⟨g,cap,O,y,_⟩
   ·rw[e]at y;cases y
   injection y with y;rw[e]at y;injection y with y;injection y with y e3;subst y e3;exact h.mF x (by rw[e];rfl)
  exact hob x o e M
 have bk:Uh w H (Ms.map fun m=>(Pq m.rb)):=by
  rw[Oi6]at U;exact U
 refine(Kxq u K.sb K.d H bC Ms K.ts K.cs w F E s3 bD bk h.sF bj h.disk h.flt h.runs (fun m Y=>⟨h.blk_len hK Y,fun b hb=>(h.blks m Y b hb).2.2.2⟩) bA).mono ?_;rintro e Z w' ⟨bB,br,bi,bz⟩;exact⟨bB,br,_,bi,(Top.relAll _ _ h.top).done,Qan _ _,bz⟩
end
theorem Qav cs:Jba [] cs=List.replicate cs.length []:=by
 refine Oh4 (by rw[Krw,Od6]) fun j y H=>?_;rw[Krw]at y;have:=Kr0 (cs:=cs) [] y;rw[Oa0,Oa3 (by rw[Krw];exact y)]at this;rw[List.getElem_replicate];exact Od3.1 this
theorem Kzi n j:(Uq (List.replicate n Sz) j).ownBlock=none:=by
 unfold Uq;rw[Oa0,Of3];by_cases h:j<n
 ·rw[if_pos h];rfl
 rw[if_neg h];rfl
def Qdn (y:SC)(z lim ob g:Nat)(e:Ending)(w':World):Prop:=
 (e=.returned .nilIface/\∃ I H M mv K,SI y w' I H M mv (z:Int)/\dz H<=lim/\Jar w' y.w0.heap.size g K (Jba (Ksi (Kr6 y.ks y.cs) (List.range (nR y.cs))) y.cs)/\w'.cell? (Aq ob)=some (Sq g y.cs.length y.cs.length)/\∀ k,(k=g\/∃ j,j<y.cs.length/\(Uq K j).ownBlock=some k)->¬ I k) \/
 ∃ b,e=.returned (Ip 149 b)/\Kva y z lim (Ip 149 b) w'
theorem Ks4.last {y}(hK:SK y){z lim W H X F E I mv rv idx Y}(h:Ks4 y z W F E I mv rv idx Y)(bA:1<=idx.length)(Z:idx.length<=100000)(ci:nR y.cs<=50000)(hl:dz E<=lim)(bE:Bq W H)(bH:Jar H W.heap.size W.heap.size (List.replicate y.cs.length Sz) (List.replicate y.cs.length []))(bf:Bq H X)(hob:X.heap[H.heap.size]?=some (.cells #[Sq W.heap.size y.cs.length y.cs.length] 84 (0,0))):
  Cq 172 #[Pq y.sb,rv,.func (.func 173) #[] #[Pq H.heap.size]] X (Qdn y z lim H.heap.size W.heap.size):=by
 have bG:=Jb bE bf;have cv:=bE.size;have cx:=bf.size;have cj:=Jd hob;have cn:W.heap.size<H.heap.size:=bH.row.lt;obtain⟨K,O,rfl⟩:∃ K O,rv=Sq K idx.length O:=by
  exact zaI
 have bi:=h.no K rfl;have bK:=hK.sg.ord;have U:idx=(idx.drop 0).take idx.length:=by rw[List.drop_zero,Of2]
 have bB:(Y.drop 0).take idx.length=Y:=by rw[List.drop_zero,<-h.rd.len,Of2]
 have bV:SI y X F E I mv (z:Int):=h.si.keep (G:=fun _=>False) (Ju.of_below bG) (fun _ h=>h.elim) id (fun _ _=>id) (fun _ _=>id) (fun _ _=>⟨id,fun _ _=>id⟩);have bJ:∀ k,W.heap.size<=k->k<X.heap.size->NoS y X F I mv k:=fun k bA Z=>h.si.noS bA Z;have bM:=h.si.old.size;have bP:Jar X y.w0.heap.size W.heap.size (List.replicate y.cs.length Sz) (Jba [] y.cs):=by
  rw[Qav];have:=bH.below bf;exact⟨this.row,bM,this.len,fun i hi=>⟨(this.own i hi).1,(this.own i hi).2.imp id fun ⟨g,cap,bN,bX,bY,bZ⟩=>⟨g,cap,bN,bX,Ob2 bM bY,bZ⟩⟩,this.ne,this.apart⟩
 have bC:∀ k,SrT y.cs.length H.heap.size W.heap.size (List.replicate y.cs.length Sz) k->k=H.heap.size\/k=W.heap.size:=fun k M=>by
  rcases M with e|e|⟨j,_,e⟩
  ·exact .inl e
  ·exact .inr e
  rw[Kzi]at e;cases e
 have bI:=h.rd.cnt U;rw[bB,h.flat,Op1]at bI;have hq:SrQ y mv (z:Int) H.heap.size W.heap.size y.cs.length lim [] (SrT y.cs.length H.heap.size W.heap.size (List.replicate y.cs.length Sz)) X F E I:=
  ⟨_,bV,bP,by simp[World.cell?,hob],rfl,fun k M=>(bC k M).elim (fun e=>bJ k zo zo) (fun e=>bJ k zo zo),⟨zo,fun j _ e=>by rw[Kzi]at e;cases e⟩,hl⟩
 have bT:=bi.lt;have G:MgG y mv (z:Int) idx 173 (nR y.cs) lim #[Pq H.heap.size] (SrQ y mv (z:Int) H.heap.size W.heap.size y.cs.length lim) X (SrT y.cs.length H.heap.size W.heap.size (List.replicate y.cs.length Sz)) F E I K 0:=by
  refine⟨fun args V=>enters_of func173 zK rfl args V,hK,SrQ.ok y hK mv (z:Int) H.heap.size W.heap.size y.cs.length (nR y.cs) lim idx zo,hq,h.rd.mgIn U,fun j i m bj bk=>?_,⟨bi.nf,fun e=>(bC _ e).elim (fun e=>zo) fun e=>zo,fun ⟨i,m,hi,bk,e⟩=>(bi.ms m (Of6 bk)).1 e.symm⟩,h.rd.hh bK U,bI,zo,Z⟩;obtain⟨a,cap,bO,bh⟩:=h.own.cells;obtain⟨rfl,_,rfl⟩:(some (Aq K)=a)/\_/\O=cap:=by injection bO with a1 a2 a3;exact⟨a1,a2,a3⟩
  rcases bh with e|⟨b,o,eb,_,bh⟩
  ·rw[List.map_eq_nil_iff,List.map_eq_nil_iff]at e;rw[e]at bj;simp at bj
  injection eb with eb;injection eb with eb1 eb2;subst eb1 eb2;have:=bh j (rpV (Ks8 I i)) (by rw[Ob1,Ob1,bj];rfl);rw[Kur bk]at this;exact(Oc3 (bG.block K bT)).trans this
 have bD:=h.rd.all bK U;rw[bB,h.flat]at bD;refine(Kux G O).mono ?_;rintro e cf ⟨cc,bx,br,bz,cu,bL,bS⟩;rcases bS with⟨rfl,ca,hI⟩|⟨cb,b,rfl,bQ,hb,bU,bW,bR⟩
 ·rw[bD]at hI;refine .inl ⟨rfl,bx,br,bz,mv,ca,bL,hI.pgs,hI.col,hI.box,fun k M=>(hI.no k ?_).nf⟩;rw[hI.own];exact .inr M
 exact .inr ⟨b,rfl,bx,br,bz,mv,cb,b,rfl,bL,bQ,zo,bU,bW,bR⟩
def Ktj (y:SC)(lim:Nat)(e:Ending)(w':World):Prop:=
 ∃ H I,Ju y.F0 y.w0 w'/\Zb w' H y.d I/\Kft y.D0 I/\(∀ k,H k->y.F0 k\/y.w0.heap.size<=k)/\(∀ k,H k->k<w'.heap.size)/\dz I<=lim /\
  ((∃ gb K,e=.returned (.tuple #[Sq gb y.cs.length y.cs.length,.nilIface])/\Qd w' gb K (Jba (Ksi (Kr6 y.ks y.cs) (List.range (nR y.cs))) y.cs)/\Jbo gb K y.cs.length (fun b=>y.w0.heap.size<=b/\b<w'.heap.size/\¬ H b)) \/
   ∃ M b,e=.returned (.tuple #[Sz,Ip 149 b])/\Yu w' (Ip 149 b) (if M=true then y.q else y.qw) none (some (-1))/\y.w0.heap.size<=b/\¬ H b/\Ksy y.D0 M/\y.bu<(nR y.cs:Int))
theorem Ktj.cast {y lim e H w}(h:Ktj y lim e w)(I:H=e):Ktj y lim H w:=I▸h
theorem SI.start {y}(hK:SK y)(U:y.sb=y.w0.heap.size)(K:Zb y.w0 y.F0 y.d y.D0){w1}(hb:Below y.w0.heap.size y.w0 w1)(O:Kt5 w1 y.sb (Sr y.tb y.to_ y.ts.length y.tc) (Sr y.kb y.ko y.ks.length y.kc) y.bu y.d 0 Sz):SI y w1 y.F0 y.D0 [] Sz 0:=
 ⟨O,Jo.nil _ _ _,by simp[Value.ownBlock],(fun m H=>by cases H),(fun m H=>by cases H),(fun i j Y Z hi=>by simp at hi),K.below hb,fun k I=>Oc2 (hK.low k I) hb.size,fun e=>by have:=hK.low _ e;omega,(fun g M=>by simp[Value.ownBlock]at M),fun k I=>.inl I,Ju.of_below hb,Top.refl _,(fun m H=>by cases H)⟩
theorem Ktj.err {y}{z lim:Nat}{ev w w' H O I bf mv Z}{b:Nat}(bk:ev=Ip 149 b)(M:SI y w H O bf mv (z:Int))(bj:Yu w (Ip 149 b) (if Z=true then y.q else y.qw) none (some (-1)))(hb:y.w0.heap.size<=b)(Y:¬ H b)(bx:Ksy y.D0 Z)(br:y.bu<(nR y.cs:Int))(bC:dz O<=lim)(bh:Zb w' H y.d I)(bi:Kft y.D0 I)(bB:dz I=dz O)(K:Ju H w w'):Ktj y lim (.returned (.tuple #[Sz,ev])) w':=by
 obtain⟨bz,bA⟩:=bj.disk_at;refine⟨H,I,M.old.trans' K fun k bD U=>(M.ffr k U).resolve_right zo,bh,bi,M.ffr,fun k U=>Oc2 (M.flt k U) K.size,zo,.inr ⟨Z,b,by rw[bk],.disk b _ _ (K.cell bz Y) (K.cell bA Y),hb,Y,bx,br⟩⟩
theorem Ktj.ok {y}{z lim g:Nat}{w w' O Z U bx mv I}(Y:SI y w O Z bx mv (z:Int))(bH:dz Z<=lim)(K:Jar w y.w0.heap.size g I (Jba (Ksi (Kr6 y.ks y.cs) (List.range (nR y.cs))) y.cs))(hF:∀ k,(k=g\/∃ j,j<y.cs.length/\(Uq I j).ownBlock=some k)->¬ O k)(bA:Zb w' O y.d U)(bB:Kft y.D0 U)(bG:dz U=dz Z)(M:Ju O w w'):Ktj y lim (.returned (.tuple #[Sq g y.cs.length y.cs.length,.nilIface])) w':=by
 have bi:∀ k,(k=g\/∃ j,j<y.cs.length/\(Uq I j).ownBlock=some k)->y.w0.heap.size<=k/\k<w.heap.size:=fun k M=>by
  rcases M with e|⟨j,H,e⟩
  ·exact⟨e▸K.low,e▸K.row.lt⟩
  exact Je (K.own j (by rw[Krw];exact H)) e
 have bC:Jar w' y.w0.heap.size g I (Jba (Ksi (Kr6 y.ks y.cs) (List.range (nR y.cs))) y.cs):=K.on fun k bk=>by
  have br:k=g\/∃ j,j<y.cs.length/\(Uq I j).ownBlock=some k:=bk.imp id fun ⟨j,H,e⟩=>⟨j,by rw[Krw]at H;exact H,e⟩;exact M.block k (bi k br).2 (hF k br)
 have bI:=M.size;refine⟨O,U,Y.old.trans' M fun k bk bh=>(Y.ffr k bh).resolve_right zo,bA,bB,Y.ffr,fun k bh=>Oc2 (Y.flt k bh) M.size,zo,.inl ⟨g,_,rfl,(Jo6 bC).1,?_,fun j H b o e=>?_⟩⟩
 ·have:=bi g (.inl rfl);exact⟨this.1,zo,hF g (.inl rfl)⟩
 have bj:j<(Jba (Ksi (Kr6 y.ks y.cs) (List.range (nR y.cs))) y.cs).length:=by rw[Krw];exact H
 have bz:Yo (I.map slH) j=slH (Uq I j):=by
  unfold Yo Uq;rw[Oa0,Oa0,Ob1,Oa3 (by rw[K.len];exact bj)];rfl
 rw[bz]at e;have hob:(Uq I j).ownBlock=some b:=by
  rcases K.own j bj with⟨_,⟨bf,_⟩|⟨bE,bD,_,bf,_⟩⟩
  ·rw[bf]at e;cases e
  rw[bf]at e |-;simp only[slH]at e;injection e with e;injection e with e _;rw[<-e];rfl
 have:=bi b (.inr ⟨j,H,hob⟩);exact⟨this.1,zo,hF b (.inr ⟨j,H,hob⟩)⟩
theorem Kx8 (y:SC)(hK:SK y)(bf:y.sb=y.w0.heap.size)(bG:Zb y.w0 y.F0 y.d y.D0)(O cp:Nat)(hs:List (Option Addr×Nat))(hC:Qd y.w0 O hs y.cs)(bE:Jbo O hs y.cs.length (fun b=>b<y.w0.heap.size/\¬ y.F0 b))(bu pr:Nat)(bU:y.bu=(bu:Int))(cX:2<=bu)(bH:bu<=50000)(cu:nR y.cs<=50000)(bZ:∀ ch:List Nat,(∀ t∈ch,t<nR y.cs)->1<=ch.length->ch.length<=64->(Qu (Kr4 y.ts (Jba ch y.cs) y.ts.length)).length<=pr*ch.length)(g:Nat->Nat)(bV:∀ q,bu<q->g (ckN q bu)+1<=g q)(bW:g (ckN (nR y.cs) bu)<=100000)(lim:Nat)(dd:lim<=930000)(bJ:dz y.D0+2*pr*bu*ckN (nR y.cs) bu+pr*nR y.cs*g (ckN (nR y.cs) bu)<=lim):
  Cq 129 #[Sq O y.cs.length cp,Sr y.tb y.to_ y.ts.length y.tc,Sr y.kb y.ko y.ks.length y.kc,Iq (bu:Int),Pq y.d] y.w0 (Ktj y lim):=by
 have cD:=hK.sg.good.one;have cZ:=hK.sg.good.few;have bI:=Jc (Oa5 y.w0.heap.size y.w0) (.cells #[Sr y.tb y.to_ y.ts.length y.tc,Sr y.kb y.ko y.ks.length y.kc,Iq (bu:Int),Pq y.d,iZ,Sz] 325);have cL:=heap_alloc_new y.w0 (.cells #[Sr y.tb y.to_ y.ts.length y.tc,Sr y.kb y.ko y.ks.length y.kc,Iq (bu:Int),Pq y.d,iZ,Sz] 325);have cG:=SI.start hK bf bG bI (by unfold Kt5;rw[bf,bU];exact cL);have hlen:Cq 71 #[Sq O y.cs.length cp] (y.w0.alloc (.cells #[Sr y.tb y.to_ y.ts.length y.tc,Sr y.kb y.ko y.ks.length y.kc,Iq (bu:Int),Pq y.d,iZ,Sz] 325)) fun e w'=>e=.returned (Iq (nR y.cs:Int))/\w'=(y.w0.alloc (.cells #[Sr y.tb y.to_ y.ts.length y.tc,Sr y.kb y.ko y.ks.length y.kc,Iq (bu:Int),Pq y.d,iZ,Sz] 325)):=
  Jlg O y.cs.length cp _ _ _ _ cD ((hC.below bI).row.cell cD)
 have bP:=Krx cG;have bB:=Krx bI;clear cL bI cG;generalize cv:y.w0.alloc (.cells #[Sr y.tb y.to_ y.ts.length y.tc,Sr y.kb y.ko y.ks.length y.kc,Iq (bu:Int),Pq y.d,iZ,Sz] 325)=ci at bP bB hlen;have cN:=Krx bG;have di:Hid (Qd y.w0 O hs y.cs/\Jbo O hs y.cs.length (fun b=>b<y.w0.heap.size/\¬ y.F0 b)):=⟨hC,bE⟩;have cM:=Krx bJ;have cP:Hid (y.ts.length=y.cs.length):=hK.sg.good.len.symm;by_cases dq:nR y.cs<=bu
 ·have dc:(nR y.cs:Int)<=(bu:Int):=zo;have cE:=Kt8 y.sb y.kb y.ko y.kc O cp y.ts y.cs y.ks hs (List.range (nR y.cs)) ci hK.sg (bP.out.env hK).so.key (by rw[Kt1 hK.sg.good];exact hC.below bB.out) List.pairwise_lt_range (fun i hi=>Oj4.1 hi) (by rw[Op1];omega);have cO:=Krx cE;clear cE hC bE bG bZ bV bW bJ;go_enter_defers func129,ntmps129
  go_upto_region 2 with fail
  rw[<-bf];clear bf cv;go_wp2_with (first|(go_at_call 71;refine hlen.mono ?_;rintro e X ⟨rfl,cW⟩;subst X)|(go_at_call 169;refine cO.out.mono ?_;rintro e K ⟨bH,gb,de,rfl,dp,cj,cV⟩))
  have bT:Below y.w0.heap.size y.w0 K:=Jb bB.out bH;have ds:=bB.out.size;have dt:=bH.size;refine⟨_,results_tmp2 rfl _ _ _,y.F0,y.D0,Ju.of_below bT,cN.out.below bT,⟨fun _=>rfl,rfl,rfl,rfl⟩,fun k bX=>.inl bX,fun k bX=>Oc2 (hK.low k bX) bT.size,by have:=cM.out;omega,.inl ⟨gb,de,rfl,cj,⟨zo,cj.row.lt,fun e=>by have:=hK.low _ e;omega⟩,fun j db b o e=>?_⟩⟩;have:=cV j db b o e;exact⟨zo,this.2,fun e=>by have:=hK.low _ e;omega⟩
 have dc:¬ (nR y.cs:Int)<=(bu:Int):=zo;have cf:=Krx (show y.bu<(nR y.cs:Int) by rw[bU];omega);obtain⟨z,cI⟩:∃ z,z=min (max (bu / ckN (nR y.cs) bu) 1) 64:=⟨_,rfl⟩;have cB:=Qar y hK ci y.F0 y.D0 0 bP.out O cp hs hC bE bu pr bU cX bH zo cu bZ g bV bW lim dd bJ z cI;have bN:=Krx cB;clear cB hC bE bG bZ bV bW bJ cI;have bY:∀ X,Cq 72 #[Iq (y.ts.length:Int)] X fun e w'=>e=.returned (Sq X.heap.size y.cs.length y.cs.length)/\Jar w' X.heap.size X.heap.size (List.replicate y.cs.length Sz) (List.replicate y.cs.length [])/\Bq X w':=fun X=>by
  rw[cP.out];exact Jiz y.cs.length X cZ
 have dr:∀ (fn:Fn) (first cap:Array Value) (w:World),(Instr.makeFunc fn first cap).run prog w=.ok (.func fn first cap) w:=fun _ _ _ _=>rfl;go_enter_defers func129,ntmps129
 go_upto_region 2 with fail
 rw[<-bf];clear bf cv;go_wp2_with (first|(go_at_call 71;refine hlen.mono ?_;rintro e X ⟨rfl,cW⟩;subst X)|(go_at_call 171;refine bN.out.mono ?_))
 clear hlen;rintro e K (⟨rv,rfl,dh,dg,dl,du,idx,dj,bS,cC,da,H⟩|⟨ev,rfl,bR⟩)
 ·have bO:Hid (∀ M X,Jar M K.heap.size K.heap.size (List.replicate y.cs.length Sz) (List.replicate y.cs.length [])->Bq K M->Bq M X->X.heap[M.heap.size]?=some (.cells #[Sq K.heap.size y.cs.length y.cs.length] 84 (0,0))->Cq 172 #[Pq y.sb,rv,.func (.func 173) #[] #[Pq M.heap.size]] X (Qdn y z lim M.heap.size K.heap.size)):=fun M X cR cS cT cU=>bS.last hK cC zo cu H cS cR cT cU;obtain⟨dv,rc,cF,_⟩:=bS.own.cells;rw[Oa6,Oa6]at cF;subst cF;clear bS cC da H bN;go_wp2_with (first|(go_at_call 72;refine(bY _).mono ?_;rintro e M ⟨rfl,cy,cx⟩;have bM:=Krx cy;have bL:=Krx cx;clear cy cx)|(go_at_call 172;refine(bO.out M _ bM.out bL.out (Jc (Oa5 _ M) _) (heap_alloc_new M _)).mono ?_))
  rintro e bC (⟨rfl,cc,cb,cQ,df,cJ,cH,cA,cz,dm,cn⟩|⟨b,rfl,bR⟩)
  ·have bj:Hid (SI y bC cc cb cQ df (z:Int)/\dz cb<=lim/\Jar bC y.w0.heap.size K.heap.size cJ (Jba (Ksi (Kr6 y.ks y.cs) (List.range (nR y.cs))) y.cs)/\∀ k,(k=K.heap.size\/∃ j,j<y.cs.length/\(Uq cJ j).ownBlock=some k)->¬ cc k):=⟨cH,cA,cz,cn⟩;clear cH cA cz cn bO bM bL bY;go_wp2;refine leaves_cons (f:=170) (args:=#[Pq y.sb]) zS (by simp[go_sem]) ?_;obtain⟨I,H,cY,hF⟩:=bj.out;refine(I.release hK .returning).mono ?_;rintro e cK w' ⟨rfl,rfl,ca,bk,br,bx,bz⟩;exact⟨_,results_tmp2 rfl _ _ _,(Ktj.ok I H cY hF bk br bx bz).cast rfl⟩
  obtain⟨bi,bh,bQ,mv,bA,bD,bK,I,U,hb,Y,Z,H⟩:=bR;have bj:Hid (SI y bC bi bh bQ mv (z:Int)/\Yu bC (Ip 149 bD) (if bA=true then y.q else y.qw) none (some (-1))/\y.w0.heap.size<=bD/\¬ bi bD/\Ksy y.D0 bA/\dz bh<=lim/\(Value.iface 149 (Pq b))=Ip 149 bD):=⟨I,U,hb,Y,Z,H,bK⟩;clear I U hb Y Z H bK bO bM bL bY;go_wp2;refine leaves_cons (f:=170) (args:=#[Pq y.sb]) zS (by simp[go_sem]) ?_;obtain⟨I,U,hb,Y,Z,H,bK⟩:=bj.out;refine(I.release hK .returning).mono ?_;rintro e cK w' ⟨rfl,rfl,ca,bk,br,bx,bz⟩;exact⟨_,results_tmp2 rfl _ _ _,(Ktj.err bK I U hb Y Z cf.out H bk br bx bz).cast rfl⟩
 obtain⟨bi,bh,bQ,mv,bA,b,rfl,I,U,hb,Y,Z,H⟩:=bR;have bj:Hid (SI y K bi bh bQ mv (z:Int)/\Yu K (Ip 149 b) (if bA=true then y.q else y.qw) none (some (-1))/\y.w0.heap.size<=b/\¬ bi b/\Ksy y.D0 bA/\dz bh<=lim):=⟨I,U,hb,Y,Z,H⟩;clear I U hb Y Z H bN;go_wp2;refine leaves_cons (f:=170) (args:=#[Pq y.sb]) zS (by simp[go_sem]) ?_;obtain⟨I,U,hb,Y,Z,H⟩:=bj.out;refine(I.release hK .returning).mono ?_;rintro e cK w' ⟨rfl,rfl,ca,bk,br,bx,bz⟩;exact⟨_,results_tmp2 rfl _ _ _,(Ktj.err rfl I U hb Y Z cf.out H bk br bx bz).cast rfl⟩
attribute [local go_sem] Oc0
theorem Kzp rb I k bG l z bu bl bL bM d sg so U bh op r tn xs kk kb ko kc O bD bE cap tb to_ bk tc w F0(P:World->Value->Value->World->Prop)(hr:Jck w rb z (Iq bu) bl bL bM (Pq d) (Sr sg so U bh) (Sq I k bG))(hl:l<k)(cx:l<U)(bI:w.cell? (Ar I l)=some (Sq bD bE cap))(bT:w.frozen? ⟨I,l,none⟩=false)(bK:rb≠I)(hs:w.cell? (Ar sg (so+l))=some (Sr tb to_ bk tc))(cb:sg≠I)(hF:¬ F0 rb/\¬ F0 sg/\∀ k,F0 k->k<w.heap.size)(bW:∀ H,Ju (·=I) w H->H.heap[I]?=Jdc w I l->Cq 129 #[Sq bD bE cap,Sr tb to_ bk tc,Sr kb ko O kc,Iq bu,Pq d] H fun e w'=>∃ a b,e=.returned (.tuple #[a,b])/\Ju F0 H w'/\P H a b w'):
  Cq 96 #[Pq rb,.agg #[Iq op,Iq (l:Int),Iq r,.string tn,xs,Sr kb ko O kc,Iq kk]] w fun e w'=>∃ a b H,e=.returned (.tuple #[a,b])/\Ju (·=I) w H/\H.heap[I]?=Jdc w I l/\P H a b w':=by
 have bz:I<w.heap.size:=Jm bI;have bU:rb<w.heap.size:=Jd hr;have bV:sg<w.heap.size:=Jm hs;have M:Bq w (w.alloc (.cells #[Iq op,Iq (l:Int),Iq r,.string tn,xs,Sr kb ko O kc,Iq kk] 54)):=Jc (Oa5 _ _) _;have bi:=heap_alloc_new w (.cells #[Iq op,Iq (l:Int),Iq r,.string tn,xs,Sr kb ko O kc,Iq kk] 54);go_enter func96,ntmps96
 go_upto_region 1 with fail
 generalize w.alloc (.cells #[Iq op,Iq (l:Int),Iq r,.string tn,xs,Sr kb ko O kc,Iq kk] 54)=bx at M bi |-;have bX:=Jjb rb I k bG l z (Iq bu) bl bL bM (Pq d) (Sr sg so U bh) (some (Aq bD)) bE cap bx.drew (hr.below (Jj M)) hl (Ja M bI) (by rw[<-bT];exact Ol7 (M.block I bz));have bO:Hid (∀ H,H=bx.drew.setCell (Ar I l) Sz ->Ju (·=I) w H/\H.heap[I]?=Jdc w I l):=fun H bf=>by
  have bA:Ju (·=I) w H:=by rw[bf];exact Ju.set (F:=fun x=>x=I) (Ju.of_below (Jj M)) rfl l _
  exact⟨bA,by rw[bf];exact Jol (M.block I bz)⟩
 obtain⟨K,bH⟩:∃ K,K=w.heap.size:=⟨_,rfl⟩;have bY:=Krx bH;rw[<-bH]at bi |-;have bR:I≠K:=zo;clear bH;have cc:=zc 1 bi;have cf:=zc 5 bi;have bB:bx.heap[rb]?=some (.cells #[Iq z,Iq bu,bl,bL,bM,Pq d,Sr sg so U bh,Sq I k bG] 125 (0,0)):=hr.below M;have ci:=zc 1 bB;have cj:=zc 5 bB;have cn:=zc 6 bB;have cu:=Ja M hs;have cy:(0:Int)<=(l:Int):=zo;have cz:(l:Int)<(U:Int):=zo;have bN:=Krx bW;have bj:=Krx hF;have cv:Hid (I<w.heap.size/\rb<w.heap.size/\sg<w.heap.size/\K<bx.heap.size):=⟨bz,bU,bV,Jd bi⟩;clear hr bI bT hs bW hF bB bi bz bU bV;refine wp_region_held_drew (S:=fun X=>X.cell? (Ar K 1)=some (Iq (l:Int))/\X.cell? (Ar K 5)=some (Sr kb ko O kc)/\X.cell? (Ar rb 1)=some (Iq bu)/\X.cell? (Ar rb 5)=some (Pq d)/\X.cell? (Ar rb 6)=some (Sr sg so U bh)/\X.cell? (Ar sg (so+l))=some (Sr tb to_ bk tc)) zK ⟨cc,cf,ci,cj,cn,cu⟩ (fun y=>?_);refine tkj 0 rfl y ?_;refine tkj 1 rfl y ?_;refine tkj 2 rfl y ?_;refine tkj 4 rfl y ?_;refine tkj 5 rfl y ?_;refine tkj 6 rfl y ?_;refine tkj 7 rfl y ?_;refine tkj 8 rfl y ?_;refine tkn ?_;refine tkj 9 rfl y ?_;refine tkn ?_;refine tkj 10 rfl y ?_;refine tkj 11 rfl y ?_;refine tkj 12 rfl y ?_;refine tkj 13 rfl y ?_;refine tkj 14 rfl y ?_;refine tkj 15 rfl y ?_;refine tkj 16 rfl y ?_;refine tkn ?_;refine tkj 17 rfl y ?_;refine tkj 18 rfl y ?_;refine tkj 19 rfl y ?_;refine tkj 20 rfl y ?_;refine tkj 21 rfl y ?_;refine tkj 22 rfl y ?_;refine tkn ?_;refine tkr 3 rfl fun bC hK=>?_;go_simp;refine bX.mono ?_;rintro e H ⟨rfl,bf⟩;have bQ:H.cell? (Ar K 1)=some (Iq (l:Int))/\H.cell? (Ar K 5)=some (Sr kb ko O kc)/\H.cell? (Ar rb 1)=some (Iq bu)/\H.cell? (Ar rb 5)=some (Pq d)/\H.cell? (Ar rb 6)=some (Sr sg so U bh)/\H.cell? (Ar sg (so+l))=some (Sr tb to_ bk tc):=by
  rw[bf];exact⟨Uc (fun e=>bR (congrArg Addr.block e)) y.1,Uc (fun e=>bR (congrArg Addr.block e)) y.2.1,Uc (fun e=>bK (congrArg Addr.block e).symm) y.2.2.1,Uc (fun e=>bK (congrArg Addr.block e).symm) y.2.2.2.1,Uc (fun e=>bK (congrArg Addr.block e).symm) y.2.2.2.2.1,Uc (fun e=>cb (congrArg Addr.block e).symm) y.2.2.2.2.2⟩
 obtain⟨bA,bS⟩:=bO.out H bf;have br:Hid (Ju (·=I) w H/\H.heap[I]?=Jdc w I l/\K<H.heap.size):=⟨bA,bS,Jb0 bQ.1⟩;clear bf bS bA;go_simp;refine hK.out _ _ bQ (fun y=>?_);clear hK bC;refine tkr 23 rfl fun bC hK=>?_;go_simp;refine(bN.out H br.out.1 br.out.2.1).mono ?_;rintro e Z ⟨a,b,rfl,Y,bP⟩;have bZ:=zh bP;have bJ:¬ F0 K:=fun e=>by have:=bj.out.2.2 _ e;have:=bY.out;omega
 have ca:Z.cell? (Ar K 1)=some (Iq (l:Int))/\Z.cell? (Ar K 5)=some (Sr kb ko O kc)/\Z.cell? (Ar rb 1)=some (Iq bu)/\Z.cell? (Ar rb 5)=some (Pq d)/\Z.cell? (Ar rb 6)=some (Sr sg so U bh)/\Z.cell? (Ar sg (so+l))=some (Sr tb to_ bk tc):=⟨Y.cell y.1 bJ,Y.cell y.2.1 bJ,Y.cell y.2.2.1 bj.out.1,Y.cell y.2.2.2.1 bj.out.1,Y.cell y.2.2.2.2.1 bj.out.1,Y.cell y.2.2.2.2.2 bj.out.2.1⟩;clear bP Y bJ;go_simp;refine hK.out _ _ ca (fun y=>?_);clear hK bC bN bO bX;refine tkj 24 rfl y ?_;refine tkj 25 rfl y ?_;refine tkj 26 rfl y ?_;refine tkj 27 rfl y ?_;refine tkn ?_;refine wpAnyH_done zK ?_ _;go_wp2;go_ret2
 exact⟨a,b,H,rfl,br.out.1,br.out.2.1,bZ.out⟩
theorem Kyw (rb y k bI l q:Nat)(z:Int)bu bl bU bV bJ sc(op r:Int)tn xs ky(I cap N:Nat)hs cs w(hr:Jck w rb z bu bl bU bV bJ sc (Sq y k bI))(hl:l<k)(bz:w.cell? (Ar y l)=some (Sq I cs.length cap))(bP:w.frozen? ⟨y,l,none⟩=false)(hC:Qd w I hs cs)(bL:Jbo I hs cs.length (fun b=>b<w.heap.size/\b≠y))(bM:∀ j,j<cs.length->(cs.getD j []).length=N)(bk:1<=cs.length)(bZ:cs.length<=1000):
  Cq 97 #[Pq rb,.agg #[Iq op,Iq (l:Int),Iq r,.string tn,xs,ky,Iq (q:Int)]] w fun e w'=>∃ g,e=.returned (.tuple #[Sq g cs.length cs.length,.nilIface])/\Ju (·=y) w w'/\w'.heap[y]?=Jdc w y l/\w.heap.size<=g/\Qd w' g (Jnt hs cs.length 0 (min q N)) (cs.map (Jbx 0 (min q N))):=by
 have bA:y<w.heap.size:=Jm bz;have O:Bq w (w.alloc (.cells #[Iq op,Iq (l:Int),Iq r,.string tn,xs,ky,Iq (q:Int)] 54)):=Jc (Oa5 _ _) _;have bf:=heap_alloc_new w (.cells #[Iq op,Iq (l:Int),Iq r,.string tn,xs,ky,Iq (q:Int)] 54);go_enter func97,ntmps97
 go_upto_region 1 with fail
 generalize w.alloc (.cells #[Iq op,Iq (l:Int),Iq r,.string tn,xs,ky,Iq (q:Int)] 54)=bY at O bf |-;have bS:=Jjb rb y k bI l z bu bl bU bV bJ sc (some (Aq I)) cs.length cap bY (hr.below O) hl (Ja O bz) (by rw[<-bP];exact Ol7 (O.block y bA));obtain⟨Y,bx⟩:∃ Y,Y=w.heap.size:=⟨_,rfl⟩;have cf:=Krx bx;rw[<-bx]at bf |-;have ca:y≠Y:=zo;clear bx;have cb:=zc 1 bf;have bT:=zc 6 bf;have bC:Hid (Qd w I hs cs/\Jbo I hs cs.length (fun b=>b<w.heap.size/\b≠y)):=⟨hC,bL⟩;have bB:=Krx O;have bD:=Krx bA;clear hr bz bP hC bL bf O bA;go_upto_region 2 with(go_at_call 51;refine bS.mono ?_;rintro e H ⟨rfl,M⟩;have bG:=Krx M;clear M)
 have M:=bG.out;clear bG;have Z:Ju (·=y) w H:=by rw[M];exact Ju.set (F:=fun x=>x=y) (Ju.of_below bB.out) rfl l _
 have bO:H.heap[y]?=Jdc w y l:=by rw[M];exact Jol (bB.out.block y bD.out)
 have cc:H.cell? (Ar Y 6)=some (Iq (q:Int)):=by rw[M];exact Uc (fun e=>ca (congrArg Addr.block e)) bT
 have br:Qd H I hs cs:=bC.out.1.kp (Fx:=fun b=>b<w.heap.size/\b≠y) ⟨Z.size,fun k bQ=>Z.block k bQ.1 bQ.2⟩ bC.out.2;have bR:∀ X,Bq H X->Cq 71 #[Sq I cs.length cap] X fun e w'=>e=.returned (Iq (N:Int))/\w'=X:=fun X bi=>by
  have c0:=(br.below bi).row.cell bk;rw[bM 0 bk]at c0;exact Jlg I cs.length cap _ N _ X bk c0
 have bN:∀ X,Bq H X->Cq 130 #[Sq I cs.length cap,iZ,Iq (min (q:Int) (N:Int))] X fun e w'=>Bq X w'/\e=.returned (Sq X.heap.size cs.length cs.length)/\Qd w' X.heap.size (Jnt hs cs.length 0 (min q N)) (cs.map (Jbx 0 (min q N))):=fun X bi=>by
  have:=Kdx I cap hs cs N 0 (min q N) X (br.below bi) bM (Ob7 _) (Nat.min_le_right _ _) bZ;have e:((min q N:Nat):Int)=min (q:Int) (N:Int):=zo;rw[e]at this;exact this
 have bX:=Krx bR;have bW:=Krx bN;have bh:Hid (Ju (·=y) w H/\H.heap[y]?=Jdc w y l/\y<H.heap.size):=⟨Z,bO,by have:=Z.size;have:=bD.out;omega⟩;clear bR bN Z bO br M cb bT bS;refine wp_region_held_drew (S:=fun X=>X.cell? (Ar Y 6)=some (Iq (q:Int))) zK cc (fun K=>?_);refine tkj 0 rfl K ?_;refine tkj 1 rfl K ?_;refine tkj 2 rfl K ?_;refine tkj 3 rfl K ?_;refine tkn ?_;refine tkr 4 rfl fun bj hK=>?_;go_simp;refine(bX.out H.drew (Jj (Oa5 _ _))).mono ?_;rintro e X ⟨rfl,bi⟩;subst X;go_simp;refine hK.out _ _ K (fun K=>?_);clear hK bj;refine tkj 5 rfl K ?_;refine tkn ?_;refine tkr 6 rfl fun bj hK=>?_;go_simp;refine(bW.out H.drew (Jj (Oa5 _ _))).mono ?_;rintro e bH ⟨U,rfl,bK⟩;have bE:Hid (Bq H bH/\Qd bH H.heap.size (Jnt hs cs.length 0 (min q N)) (cs.map (Jbx 0 (min q N)))):=⟨Jw U,bK⟩;go_simp;refine hK.out _ _ (Ja U K) (fun K=>?_);clear hK bj U bK;refine tkj 7 rfl K ?_;refine tkj 8 rfl K ?_;refine tkn ?_;refine wpAnyH_done zK ?_ _;go_wp2;go_ret2
 have U:=bE.out.1;exact⟨H.heap.size,rfl,bh.out.1.trans (Ju.of_below U),(U.block y bh.out.2.2).trans bh.out.2.1,bh.out.1.size,bE.out.2⟩
structure DkS (X:World) (F0:Nat->Prop) (d:Nat) (D0:DS) (lim:Nat) (F:Nat->Prop) (W:World):Prop where
 keep:Ju F0 X W
 ex:∃ E,Zb W F d E/\Kft D0 E/\dz E<=lim
 ffr:∀ k,F k->F0 k\/X.heap.size<=k
 flt:∀ k,F k->k<W.heap.size
structure Jjg (F:Nat->Prop) (L rb:Nat) (z bu bl:Int) (se tp dp sc dv:Value) (ds:List Dn) (W:World):Prop where
 rs:Jd6 L rb z bu bl se tp dp sc dv ds W
 off:∀ x,some x∈ds->Jbo x.1 x.2.1 x.2.2.length fun b=>¬ F b
 rbF:¬ F rb
 dvF:∀ g,dv.ownBlock=some g->¬ F g
def Ku2 (X:World)(L rb:Nat)(z bu bl:Int)(U Y:Value)(d:Nat)(sc:Value)(O:Nat->List Dn->Prop)(Z:Nat->Value->World->Prop)(F0:Nat->Prop)(D0:DS)(lim:Nat->Nat)(nd:Nd)(j:Nat):Prop:=
 0<=nd.op/\nd.op<=7/\∀ W F H K,DkS X F0 d D0 (lim j) F W->(∀ g,H.ownBlock=some g->X.heap.size<=g)->Jjg F L rb z bu bl U Y (Pq d) sc H K W->K.length=j->O j K ->
  Cq (Jej nd.op) #[Pq rb,nd.val] W fun e y=>∃ I,DkS X F0 d D0 (lim (j+1)) I y/\Ju (fun k=>F k\/H.ownBlock=some k) W y/\(∀ k,I k->F k\/W.heap.size<=k) /\
   ((∃ (x:Nat×List (Option Addr×Nat)×List (List V)) (M:List Dn),e=.returned (.tuple #[dnV (some x),.nilIface])/\Jjg I L rb z bu bl U Y (Pq d) sc H M y/\Jfk rb H x y/\(Jbo x.1 x.2.1 x.2.2.length fun b=>¬ I b)/\M.length=j/\O (j+1) (M++[some x])) \/
    (∃ (ty b:Nat),e=.returned (.tuple #[Sz,.iface ty (Pq b)])/\Z j (.iface ty (Pq b)) y))
def Kub (W:World)(n:Nat):World:={W with heap:=W.heap.extract 0 n}
theorem Kwi W{n k}(y:k<n):(Kub W n).heap[k]?=W.heap[k]?:=by
 unfold Kub;simp[Array.getElem?_extract];omega
theorem Kxs W{n}(y:n<=W.heap.size):(Kub W n).heap.size=n:=by
 unfold Kub;simp;omega
theorem DkS.on {X F0 d D0 lim M F G W I}(h:DkS X F0 d D0 lim F W)(hl:lim<=M)(H:Ju G W I)(K:∀ k,G k->X.heap.size<=k/\¬ F k):DkS X F0 d D0 M F I:=by
 obtain⟨E,O,U,Z⟩:=h.ex;exact⟨h.keep.trans' H fun k bf e=>absurd (K k e).1 zo,⟨E,O.stands fun k y Y=>H.block k Y fun e=>(K k e).2 y,U,zo⟩,h.ffr,fun k y=>Oc2 (h.flt k y) H.size⟩
theorem Kvz {W y:World}{v:Value}(h:W.grownBy y v.ownBlock):Ju (fun k=>v.ownBlock=some k) W y:=⟨h.os,h.tape,h.output,h.size,fun k H I=>h.block k H fun e=>I e.symm⟩
theorem Ku2.of {X z bu bl bf bh d sc O M F0 D0 lim nd j}(Y:0<=nd.op/\nd.op<=7)(hl:lim j<=lim (j+1))(h:∀ V,V.heap.size=X.heap.size->Ju F0 X V->Ju1 V (X.heap.size+1) X.heap.size z bu bl bf bh (Pq d) sc O M nd j):Ku2 X (X.heap.size+1) X.heap.size z bu bl bf bh d sc O M F0 D0 lim nd j:=by
 refine⟨Y.1,Y.2,fun W F br bj y U hR hlen bA=>?_⟩;have Z:=y.keep.size;have I:=Kxs W Z;have bC:Below (Kub W X.heap.size).heap.size (Kub W X.heap.size) W:=by
  rw[I];exact⟨rfl,rfl,rfl,by rw[I];exact Z,fun k H=>(Kwi W H).symm⟩
 have bD:Ju F0 X (Kub W X.heap.size):=⟨y.keep.os,y.keep.tape,y.keep.output,by rw[I];exact Oa2 _,fun k H bL=>(Kwi W H).trans (y.keep.block k H bL)⟩;obtain⟨_,_,bE⟩:=h _ I bD;refine(bE W br bj bC (fun g bI=>by rw[I];exact U g bI) hR.rs hlen bA).mono fun e bO hp=>?_;obtain⟨bJ,bG⟩:=hp;have H:=Kvz bJ;refine⟨F,y.on hl H fun k e=>⟨U k e,hR.dvF k e⟩,H.mono fun k _ e=>.inr e,fun k bH=>.inl bH,?_⟩;rcases bG with⟨x,bk,K,bB,bx,bK,bz,bM,bN⟩|K
 ·exact .inl ⟨x,bk,K,⟨bB,fun bi hy=>hR.off bi (bN bi hy),hR.rbF,hR.dvF⟩,bx,bM F y.flt hR.off,bK,bz⟩
 exact .inr K
attribute [local go_sem] Oc0
def Kx1 (n:Nat)(I:Nat->List Dn->Prop)(H:Nat->Value->World->Prop)(F0:Nat->Prop)(d:Nat)(D0:DS)(lim:Nat)(w:World):Ending->World->Prop:=fun e w'=>∃ y,DkS w F0 d D0 lim y w' /\
 ((∃ (x:Nat×List (Option Addr×Nat)×List (List V)) (K:List Dn),e=.returned (.tuple #[dnV (some x),.nilIface])/\Qd w' x.1 x.2.1 x.2.2/\(Jbo x.1 x.2.1 x.2.2.length fun b=>b<w'.heap.size/\¬ y b)/\I n (K++[some x])) \/
  (∃ (j:Nat) (v:Value) (eb:Nat),e=.returned (.tuple #[Sz,Ip 131 eb])/\w'.heap[eb]?=some (.cells #[Iq (j:Int),v] 133 (0,0))/\H j v w'/\w.heap.size<=eb))
structure Kvt (W2:World) (F0:Nat->Prop) (D0:DS) (lim:Nat->Nat) (z bu bl:Int) (se tp:Value) (d:Nat) (sc sv:Value) (nds:List Nd) (PS:Nat->List Dn->Prop) (j:Nat) (dv:Value) (ds:List Dn) (F:Nat->Prop) (wr:World):Prop where
 rg:Jjg F (W2.heap.size+1) W2.heap.size z bu bl se tp (Pq d) sc dv ds wr
 len:ds.length=j
 ps:PS j ds
 last:0<j->∃ ds' x,ds=ds'++[some x]
 steps:wr.ownsRow (W2.heap.size+1) 130 8 sv nds.length (nds.flatMap (Jbu W2.heap.size))
 sep:∀ g,sv.ownBlock=some g->dv.ownBlock≠some g/\¬ F g
 dk:DkS W2 F0 d D0 (lim j) F wr
theorem Jjg.below {F L rb z bu bl M O H sc K I W y}(h:Jjg F L rb z bu bl M O H sc K I W)(hb:Bq W y):Jjg F L rb z bu bl M O H sc K I y:=⟨h.rs.below hb,h.off,h.rbF,h.dvF⟩
theorem DkS.below {X F0 d D0 lim F W y}(h:DkS X F0 d D0 lim F W)(hb:Bq W y):DkS X F0 d D0 lim F y:=h.on (G:=fun _=>False) (Oa2 _) (Ju.of_below hb) fun _ e=>e.elim
theorem Kvt.step {I F0 F D0 lim z bu bl bi bj d sc sv H M j U O wr}(h:Kvt I F0 D0 lim z bu bl bi bj d sc sv H M j U O F wr){i nd}(hi:H[i]?=some nd):
  ∃ g cap,sv=Sq g H.length cap/\Zm wr g (i*8) nd/\wr.cell? (Ar g (i*8+7))=some (.func (.func (Jej nd.op)) #[Pq I.heap.size] #[]):=by
 have bA:i<H.length:=(Ob9.1 hi).1;rcases h.steps with⟨h0,⟨K,Y⟩|⟨g,cap,bk,K,Y,Z,br,bx,bz,bf⟩⟩
 ·omega
 have y:∀ k,k<8->wr.cell? (Ar g (i*8+k))=(Jbu I.heap.size nd)[k]?:=fun k bh=>by
  have:=Jek (Jbu I.heap.size) 8 (fun _=>rfl) H i k nd hi bh;rw[<-bf,Oe7,if_pos zo,Oe6]at this;rw[<-this];simp[World.cell?,Z]
 exact⟨g,cap,K,⟨y 0 zo,y 1 zo,y 2 zo,y 3 zo,y 4 zo,y 5 zo,y 6 zo⟩,y 7 zo⟩
theorem Kvt.next {y F0 F Y D0 lim z bu bl bh bi d sc sv bA bj j I O bB M wr K w4 x}(h:Kvt y F0 D0 lim z bu bl bh bi d sc sv bA bj j I bB F wr)(bx:Ju (fun k=>F k\/I.ownBlock=some k) wr K)(hF:∀ k,Y k->F k\/wr.heap.size<=k)(br:DkS y F0 d D0 (lim (j+1)) Y K)(hR:Jjg Y (y.heap.size+1) y.heap.size z bu bl bh bi (Pq d) sc I M K)(bG:Jfk y.heap.size I x K)(bJ:Jbo x.1 x.2.1 x.2.2.length fun b=>¬ Y b)(hl:M.length=j)(hp:bj (j+1) (M++[some x]))bk(bK:Jo w4 (y.heap.size+1) 84 O (M.map dnV++[dnV (some x)]))(U:(K.alloc bk).grownBy w4 I.ownBlock)(bf:O.ownBlock=I.ownBlock\/O.ownBlock=some (K.alloc bk).heap.size):
  Kvt y F0 D0 lim z bu bl bh bi d sc sv bA bj (j+1) O (M++[some x]) Y (w4.setCell (Ar y.heap.size 7) O)/\Jck w4 y.heap.size z (Iq bu) (Iq bl) bh bi (Pq d) sc I:=by
 obtain⟨bD,bE⟩:=hR.rs.more bG bk bK U bf;have bC:∀ g,I.ownBlock=some g->y.heap.size+1<=g/\g<wr.heap.size:=fun g e=>Je h.rg.rs.own e;have Z:∀ g,sv.ownBlock=some g->y.heap.size+1<=g/\g<wr.heap.size:=fun g e=>Je h.steps e;have bO:=bx.size;have bM:=U.size;rw[Oa7]at bM bf;have bz:Ju (fun k=>k=y.heap.size\/I.ownBlock=some k) K (w4.setCell (Ar y.heap.size 7) O):=by
  refine Ju.set (F:=fun k=>k=y.heap.size\/I.ownBlock=some k) ?_ (.inl rfl) 7 _;exact⟨U.os,U.tape,U.output,zo,fun k bH bI=>(U.block k (by rw[Oa7];omega) fun e=>bI (.inr e.symm)).trans (Oa9 _ _ _ bH)⟩
 refine⟨⟨⟨bD,fun bL hy=>?_,hR.rbF,fun g e H=>?_⟩,by rw[Oa8,List.length_singleton,hl],hp,fun _=>⟨M,x,rfl⟩,Jl h.steps fun g e=>?_,fun g e=>⟨fun H=>?_,fun H=>?_⟩,br.on (Oa2 _) bz fun k e=>?_⟩,bE⟩
 ·rcases Od2.1 hy with hy|hy
  ·exact hR.off bL hy
  cases Oc6.1 hy
  exact bJ
 ·rcases bf with q|q
  ·exact hR.dvF g (q.symm.trans e) H
  rw[q]at e;cases e
  have:=br.flt _ H;omega
 ·rw[bz.block g (by have:=Z g e;omega) fun H=>H.elim (fun H=>by have:=Z g e;omega) (h.sep g e).1];exact bx.block g (Z g e).2 fun H=>H.elim (h.sep g e).2 (h.sep g e).1
 ·rcases bf with q|q
  ·exact(h.sep g e).1 (q.symm.trans H)
  rw[q]at H;cases H
  have:=Z _ e;omega
 ·exact(hF g H).elim (h.sep g e).2 fun bN=>by have:=Z g e;omega
 rcases e with e|e
 ·rw[e];exact⟨Oa2 _,hR.rbF⟩
 exact⟨by have:=bC k e;omega,hR.dvF k e⟩
theorem DkS.elder {w X F0 d D0 lim y F W}(h:DkS X F0 d D0 lim F W)(hb:Bq w X)(hl:lim<=y):DkS w F0 d D0 y F W:=by
 obtain⟨E,H,I,M⟩:=h.ex;have hs:=hb.size;exact⟨(Ju.of_below (F:=F0) hb).trans h.keep,⟨E,H,I,zo⟩,fun k K=>(h.ffr k K).imp id fun e=>zo,h.flt⟩
theorem Kwu (nb no bx s d:Nat)(F0:Nat->Prop)(D0:DS)(lim:Nat->Nat)(H:List Nd)(z bu bl sd:Int)(br:Nat->List Dn->Prop)(bB:Nat->Value->World->Prop)(SC:Value->World->Prop)w(de:∀ j nd,H[j]?=some nd->Zm w nb (no+j*7) nd)(fo:1<=H.length)(fU:H.length<=12)(dR:1<=z)(dS:z<=1000)(bC:2<=bu)(bk:bu<=1000)(dw:0<=bl)(dx:bl<=4096)(dM:∀ X,Bq w X->Cq 47 #[(.agg #[Sr nb no H.length bx]),(.func (.func 48) #[Pq s] #[])] X fun e w'=>∃ a n c,e=.returned (.tuple #[.slice a n c,.nilIface])/\Bq X w'/\SC (.slice a n c) w')(dg:∀ v W U,Bq W U->SC v W->SC v U)(dP:∀ X sc,Bq w X->SC sc X->∀ j nd,H[j]?=some nd->Ku2 X (X.heap.size+1) X.heap.size z bu bl (Iq sd) (Pq s) d sc br bB F0 D0 lim nd j)(db:∀ j v W U,Bq W U->bB j v W->bB j v U)(df:br 0 [])(da:DkS w F0 d D0 (lim 0) F0 w)(dy:∀ j,j<=H.length->lim j<=lim H.length):
  Cq 28 #[(.agg #[Sr nb no H.length bx]),.agg #[Iq z,Iq bu,Iq bl,Iq sd],(Pq s),(Pq d)] w (Kx1 H.length br bB F0 d D0 (lim H.length) w):=by
 have bO:Hid ((∀ j nd,H[j]?=some nd->Zm w nb (no+j*7) nd)/\(∀ X sc,Bq w X->SC sc X->∀ j nd,H[j]?=some nd->Ku2 X (X.heap.size+1) X.heap.size z bu bl (Iq sd) (Pq s) d sc br bB F0 D0 lim nd j)/\(∀ j v W U,Bq W U->bB j v W->bB j v U)/\br 0 []/\∀ v W U,Bq W U->SC v W->SC v U):=⟨de,dP,db,df,dg⟩;have fW:=run_neq_nil_nil (P:=prog);obtain⟨w1,bK⟩:∃ w1,w1=(w.alloc (.cells #[Sr nb no H.length bx] 60)).alloc (.cells #[Iq z,Iq bu,Iq bl,Iq sd] 28):=⟨_,rfl⟩;have cy:Bq w w1:=by rw[bK];exact Jc (Jc (Oa5 _ _) _) _
 have cE:=dM w1 cy;have cO:=zh cy;have dV:w1.heap[w.heap.size]?=some (.cells #[Sr nb no H.length bx] 60 (0,0)):=by rw[bK];exact(Oa9 _ _ _ zS).trans (heap_alloc_new w _)
 have dW:w1.heap[w.heap.size+1]?=some (.cells #[Iq z,Iq bu,Iq bl,Iq sd] 28 (0,0)):=by
  have:=heap_alloc_new (w.alloc (.cells #[Sr nb no H.length bx] 60)) (.cells #[Iq z,Iq bu,Iq bl,Iq sd] 28);rw[Oa7]at this;rw[bK];exact this
 have dG:=fun W=>Jk5 z bu bl (Iq sd) W dR dS bC bk dw dx;have bP:Hid (w1.heap[w.heap.size]?=some (.cells #[Sr nb no H.length bx] 60 (0,0))/\w1.heap[w.heap.size+1]?=some (.cells #[Iq z,Iq bu,Iq bl,Iq sd] 28 (0,0))):=⟨dV,dW⟩;rw[bK]at cE;have cW:=zh bK;have cQ:=Krx da;have cS:=Krx dy;clear da dy de dP db df dM cy dV dW dR dS bC bk dw dx bK dg;go_enter func28,ntmps28
 go_upto_region 2 with(go_at_call 47;refine cE.mono ?_;rintro bT bV ⟨K,O,M,rfl,bC,dL⟩)
 rw[<-cW.out]at bC;have dZ:=(bC.block _ (Jd bP.out.1)).trans bP.out.1;have bA:=(bC.block _ (Jd bP.out.2)).trans bP.out.2;have cn:=zc 0 bA;have bz:=zc 1 bA;have bL:=zc 2 bA;have bM:=zc 3 bA;have bR:Hid (Bq w bV/\SC (.slice K O M) bV/\bV.heap[w.heap.size]?=some (.cells #[Sr nb no H.length bx] 60 (0,0))/\bV.heap[w.heap.size+1]?=some (.cells #[Iq z,Iq bu,Iq bl,Iq sd] 28 (0,0))):=⟨Jb cO.out bC,dL,dZ,bA⟩;clear cE bC dL dZ bA cW bP cO w1;go_upto_region 6 with(go_at_call 49;refine(dG _).mono ?_;rintro bT y ⟨rfl,bk⟩)
 have fk:=Ja bk cn;have fl:=Ja bk bz;have bG:=Ja bk bL;have fm:=Ja bk bM;have cL:=(bk.block _ (Jd bR.out.2.2.1)).trans bR.out.2.2.1;have cf:Bq w y:=Jb bR.out.1 bk;have cF:=bO.out.2.2.2.2 _ _ _ bk bR.out.2.1;have bS:Hid (Bq w y/\SC (.slice K O M) y):=⟨cf,cF⟩;have cJ:=bO.out.2.1 y (.slice K O M) cf cF;have fg:=Krx cJ;have bZ:Bq y (y.alloc (.cells #[Iq z,Iq bu,Iq bl,Iq sd,(Pq s),(Pq d),.slice K O M,Sz] 125)):=Jc (Oa5 _ _) _;have dI:(y.alloc (.cells #[Iq z,Iq bu,Iq bl,Iq sd,(Pq s),(Pq d),.slice K O M,Sz] 125)).heap[y.heap.size]?=_:=heap_alloc_new y (.cells #[Iq z,Iq bu,Iq bl,Iq sd,(Pq s),(Pq d),.slice K O M,Sz] 125);have dY:=(bZ.block _ (Jd cL)).trans cL;have cG:=Jxb y.heap.size nb no bx H (y.alloc (.cells #[Iq z,Iq bu,Iq bl,Iq sd,(Pq s),(Pq d),.slice K O M,Sz] 125)) (fun j p hp=>((bO.out.1 j p hp).below cf).below bZ) (fun p hp=>by
  obtain⟨j,cB⟩:=Ok2.1 hp;have:=cJ j p cB;exact⟨this.1,this.2.1⟩) zo
 have dX:(y.alloc (.cells #[Iq z,Iq bu,Iq bl,Iq sd,(Pq s),(Pq d),.slice K O M,Sz] 125)).cell? (Aq w.heap.size)=some (Sr nb no H.length bx):=by simp[World.cell?,dY]
 clear cn bz bL bM bk dG bR cL cf cF cJ dY;go_upto_region 7 with fail
 have bE:Hid ((y.alloc (.cells #[Iq z,Iq bu,Iq bl,Iq sd,(Pq s),(Pq d),.slice K O M,Sz] 125)).heap[y.heap.size]?=some (.cells #[Iq z,Iq bu,Iq bl,Iq sd,(Pq s),(Pq d),.slice K O M,Sz] 125 (0,0))/\Bq y (y.alloc (.cells #[Iq z,Iq bu,Iq bl,Iq sd,(Pq s),(Pq d),.slice K O M,Sz] 125))/\(y.alloc (.cells #[Iq z,Iq bu,Iq bl,Iq sd,(Pq s),(Pq d),.slice K O M,Sz] 125)).heap.size=y.heap.size+1):=⟨dI,bZ,zS⟩;clear dI bZ;generalize y.alloc (.cells #[Iq z,Iq bu,Iq bl,Iq sd,(Pq s),(Pq d),.slice K O M,Sz] 125)=fN at cG dX bE |-;go_wp2_with (go_at_call 50;refine cG.mono ?_;rintro bT bW ⟨di,sv,rfl,cH⟩;obtain⟨cM,cN,cI⟩:=Jcz cH;have cV:=zh cH;have fM:=zh cI;have fw:sv=.slice cM H.length cN:=cI;clear cH cI;subst fw)
 have cC:Bq y bW:=Jb bE.out.2.1 di;have dq:DkS y F0 d D0 (lim 0) F0 bW:=by
  have h0:=cQ.out;have dj:Bq w bW:=Jb bS.out.1 cC;obtain⟨E,g1,g2,bY⟩:=h0.ex;exact⟨Ju.of_below cC,⟨E,g1.below dj,g2,bY⟩,fun k bj=>.inl bj,fun k bj=>Oc2 (h0.flt k bj) dj.size⟩
 have cx:∀ k,F0 k->k<y.heap.size:=fun k bj=>Oc2 (cQ.out.flt k bj) bS.out.1.size;have dd:Kvt y F0 D0 lim z bu bl (Iq sd) (Pq s) d (.slice K O M) (.slice cM H.length cN) H br 0 Sz [] F0 bW:=
  ⟨⟨⟨(di.block _ (Jd bE.out.1)).trans bE.out.1,Jo.nil _ _ _,fun x cK=>(by cases cK),zo⟩,fun x cK=>(by cases cK),fun e=>Oe3 _ (cx _ e),fun g e=>(by cases e)⟩,rfl,bO.out.2.2.2.1,fun h=>absurd h (Oe3 _),(by have:=cV.out;rw[bE.out.2.2]at this;exact this),fun g e=>⟨fun bG=>(by cases bG),fun bG=>(by have fo:=cx g bG;have fp:=(Je cV.out e).1;rw[bE.out.2.2]at fp;omega)⟩,dq⟩
 have fd:=Krx dd;clear dd cG bE dX fk fl bG fm dq cC cx;go_loopw [41] (fun i wr=>∃ (j:Nat) (Z:Value) (bX:List Dn) (F:Nat->Prop),j<=H.length/\i=Iq (j:Int)/\Kvt y F0 D0 lim z bu bl (Iq sd) (Pq s) d (.slice K O M) (.slice cM H.length cN) H br j Z bX F wr) (fun i _=>H.length-(intOf i).toNat)
 case atStart=>exact⟨0,_,_,_,Ob7 _,rfl,fd.out⟩
 case round=>
  obtain⟨j,Z,bX,F,cB,rfl,I⟩:=hrel;have cR:=Krx I;have dJ:=I.rg.rs.run;obtain⟨cX,cY,cb,dp⟩:=I.rg.rs.own.cells;rw[Oa6,I.len]at cb;by_cases dA:j<H.length
  ·obtain⟨nd,ci⟩:∃ nd,H[j]?=some nd:=⟨_,Oa3 dA⟩;obtain⟨fy,fz,cA⟩:=fg.out j nd ci;obtain⟨sg,gd,dN,⟨ge,gg,gh,gi,gj,gm,gn⟩,fL⟩:=I.step ci;simp only[On8]at dN;obtain⟨rfl,-,rfl⟩:=dN;have ft:=Js3 nd.op;obtain⟨f,dt⟩:∃ f,f=Jej nd.op:=⟨_,rfl⟩;rw[<-dt]at ft fL cA;have fX:∀ (a:Addr) (X:World),(store a (.func (.func f) #[Pq y.heap.size] #[])).run prog X=stored prog X a (.func (.func f) #[Pq y.heap.size] #[]) .plain:=fun a X=>run_store _ _ _ _ _ rfl;have ca:Bq wr (wr.alloc (.cells #[Iq nd.op,Iq nd.l,Iq nd.r,.string nd.tn,.slice nd.xs.1 nd.xs.2.1 nd.xs.2.2,.slice nd.ky.1 nd.ky.2.1 nd.ky.2.2,Iq nd.kk,.func (.func f) #[Pq y.heap.size] #[]] 130)):=Jc (Oa5 _ _) _;have cz:=(cA (wr.alloc (.cells #[Iq nd.op,Iq nd.l,Iq nd.r,.string nd.tn,.slice nd.xs.1 nd.xs.2.1 nd.xs.2.2,.slice nd.ky.1 nd.ky.2.1 nd.ky.2.2,Iq nd.kk,.func (.func f) #[Pq y.heap.size] #[]] 130)) F Z bX (I.dk.below ca) (fun g e=>by have:=(Je I.rg.rs.own e).1;omega) (I.rg.below ca) I.len I.ps).mono (R':=fun e U=>∃ a b bf,e=.returned (.tuple #[a,b])/\(DkS y F0 d D0 (lim (j+1)) bf U/\Ju (fun k=>F k\/Z.ownBlock=some k) (wr.alloc (.cells #[Iq nd.op,Iq nd.l,Iq nd.r,.string nd.tn,.slice nd.xs.1 nd.xs.2.1 nd.xs.2.2,.slice nd.ky.1 nd.ky.2.1 nd.ky.2.2,Iq nd.kk,.func (.func f) #[Pq y.heap.size] #[]] 130)) U/\∀ k,bf k->F k\/(wr.alloc (.cells #[Iq nd.op,Iq nd.l,Iq nd.r,.string nd.tn,.slice nd.xs.1 nd.xs.2.1 nd.xs.2.2,.slice nd.ky.1 nd.ky.2.1 nd.ky.2.2,Iq nd.kk,.func (.func f) #[Pq y.heap.size] #[]] 130)).heap.size<=k)/\((∃ (x:Nat×List (Option Addr×Nat)×List (List V)) (Y:List Dn),a=dnV (some x)/\b=.nilIface/\Jjg bf (y.heap.size+1) y.heap.size z bu bl (Iq sd) (Pq s) (Pq d) (.slice K O M) Z Y U/\Jfk y.heap.size Z x U/\(Jbo x.1 x.2.1 x.2.2.length fun b=>¬ bf b)/\Y.length=j/\br (j+1) (Y++[some x]))\/(∃ (ty bb:Nat),a=Sz/\b=.iface ty (Pq bb)/\bB j b U))) (fun e U h=>by
    obtain⟨bf,g1,g2,bY,⟨x,Y,rfl,fF,fG,fH,fI,fJ⟩|⟨ty,bb,rfl,cc⟩⟩:=h
    ·exact⟨_,_,bf,rfl,⟨g1,g2,bY⟩,.inl ⟨x,Y,rfl,rfl,fF,fG,fH,fI,fJ⟩⟩
    exact⟨_,_,bf,rfl,⟨g1,g2,bY⟩,.inr ⟨ty,bb,rfl,rfl,cc⟩⟩)
   have bD:Hid (j<H.length/\H[j]?=some nd/\Bq wr (wr.alloc (.cells #[Iq nd.op,Iq nd.l,Iq nd.r,.string nd.tn,.slice nd.xs.1 nd.xs.2.1 nd.xs.2.2,.slice nd.ky.1 nd.ky.2.1 nd.ky.2.2,Iq nd.kk,.func (.func f) #[Pq y.heap.size] #[]] 130))):=⟨dA,ci,ca⟩;have ds:∀ g,Z.ownBlock=some g->y.heap.size+1<=g/\g<wr.heap.size:=fun g e=>Je I.rg.rs.own e;have bN:Hid (Z=.slice cX j cY/\∀ g,Z.ownBlock=some g->y.heap.size+1<=g/\g<wr.heap.size):=⟨cb,ds⟩;clear dt I cA ci fy fz dJ dp ca cb ds;go_upto_region 11 with(refine cz.mono ?_;rintro bT bh ⟨fK,fZ,bf,rfl,bJ,fs⟩)
   rcases fs with⟨x,Y,hra,rfl,hR,cZ,dQ,dr,dH⟩|⟨ty,bb,rfl,rfl,cc⟩
   ·as_aux_lemma=>
     have fv:fK=Sq x.1 x.2.2.length (Kut x.2.1 x.2.2.length):=hra;subst fv;have cu:Hid (Ju (fun k=>F k\/Z.ownBlock=some k) wr bh/\(∀ k,bf k->F k\/wr.heap.size<=k)/\DkS y F0 d D0 (lim (j+1)) bf bh):=⟨(Ju.of_below bD.out.2.2).trans bJ.2.1,fun k bj=>(bJ.2.2 k bj).imp id fun e=>by have:=bD.out.2.2.size;omega,bJ.1⟩;have bQ:Hid (Jd6 (y.heap.size+1) y.heap.size z bu bl (Iq sd) (Pq s) (Pq d) (.slice K O M) Z Y bh/\Jfk y.heap.size Z x bh/\Y.length=j/\br (j+1) (Y++[some x])):=⟨hR.rs,cZ,dr,dH⟩;have cU:Hid (Jjg bf (y.heap.size+1) y.heap.size z bu bl (Iq sd) (Pq s) (Pq d) (.slice K O M) Z Y bh/\Jbo x.1 x.2.1 x.2.2.length fun b=>¬ bf b):=⟨hR,dQ⟩;have cv:=hR.rs.run.cells.2.2.2.2;rw[bN.out.1]at cv;have fu:Jo bh (y.heap.size+1) 84 (.slice cX j cY) (Y.map dnV):=by have:=hR.rs.own;rw[bN.out.1]at this;exact this
     clear hra hR cZ dr dH bJ cz dQ;go_wp2_with (at_builtin;go_must (refine Ul zR _ _ 123 84 _ 24 Jzj zR zd zK zR (y.heap.size+1) _ _ zR (Jo.alloc fu _) ⟨bh.heap.size,0,none⟩ 1 [dnV (some x)] zR (by exact Ua bh _ _) (by intro u dO;simp at dO;subst dO;rfl) (by have:=bQ.out.2.2.1;have:=bD.out.1;simp only[List.length_cons,List.length_nil,Oa6];omega) (by simp;have:=Jd bQ.out.1.run;omega) ?_);intro fS w4 bA fD fE;go_must (obtain⟨fr,cD⟩:=cR.out.next cu.out.1 cu.out.2.1 cu.out.2.2 cU.out.1 bQ.out.2.1 cU.out.2 bQ.out.2.2.1 bQ.out.2.2.2 (.cells #[dnV (some x)] 84) bA (by rw[bN.out.1];exact fD) (by rw[bN.out.1];exact fE));obtain⟨fP,fQ,dK,_⟩:=bA.cells;obtain⟨dT,dC⟩:∃ dT,dT=(Y.map dnV++[dnV (some x)]).length:=⟨_,rfl⟩;rw[<-dC]at dK;clear dC;subst dK;rw[bN.out.1]at cD;have fR:=cD.cells.2.2.2.2;have fT:w4.frozen? ⟨y.heap.size,7,none⟩=false:=(by simp[World.frozen?,show w4.heap[y.heap.size]?=_ from cD]))
     go_roundw
     case rel=>exact⟨j+1,_,_,_,bD.out.1,by have:=bD.out.1;go_num,fr⟩
     case measure=>have:=bD.out.1;simp[intOf];omega
   as_aux_lemma=>
    have cP:Hid (DkS w F0 d D0 (lim H.length) bf bh):=bJ.1.elder bS.out.1 (cS.out (j+1) bD.out.1);have dc:=bO.out.2.2.1 j _ bh (bh.alloc (.cells #[Iq (j:Int),.iface ty (Pq bb)] 133)) (Jc (Oa5 _ _) _) cc;have fc:=Krx dc;clear cc dc bJ cz;go_wp2;refine bodyPost_ret (v:=.tuple #[Sz,Ip 131 bh.heap.size]) (by simp[results,results28,go_sem]) rfl ⟨bf,cP.out.below (Jc (Oa5 _ _) _),.inr ⟨j,_,bh.heap.size,rfl,heap_alloc_new bh _,fc.out,cP.out.keep.size⟩⟩
  as_aux_lemma=>
   have dv:j=H.length:=zo;obtain⟨Y,x,bH⟩:=I.last zo;have hlen:Y.length+1=H.length:=by have:=I.len;rw[bH,Oa8,List.length_singleton]at this;omega
   obtain⟨m,dB⟩:∃ m,m=Y.length:=⟨_,rfl⟩;rcases I.rg.rs.own with⟨cn,⟨bz,bL⟩|⟨bi,fj,fi,bz,bL,bM,fA,fB,fC,dU⟩⟩
   ·rw[Oa6,I.len]at bL;omega
   rw[Oa6,I.len]at bz;have dm:fi[m]?=some (dnV (some x)):=by
    have bU:(bX.map dnV)[m]?=some (dnV (some x)):=by rw[bH,Ob8,Ob6 (by rw[Oa6];omega),Oa6,dB,Oe1];rfl
    rw[<-dU,Oe7]at bU;split at bU
    ·rw[Oe6]at bU;exact bU
    cases bU
   have dl:wr.cell? (Ar bi m)=some (Sq x.1 x.2.2.length (Kut x.2.1 x.2.2.length)):=by
    simp only[World.cell?,bM];exact dm
   have du:wr.frozen? ⟨bi,m,none⟩=false:=by simp[World.frozen?,bM]
   have cj:=I.rg.rs.run;rw[bz]at cj;have fx:=Jjb y.heap.size bi j fj m z (Iq bu) (Iq bl) (Iq sd) (Pq s) (Pq d) (.slice K O M) _ _ _ wr cj zo dl du;have cv:=cj.cells.2.2.2.2;have bI:=I.rg.rs.cols x (by rw[bH];simp);have fh:Hid (Qd (wr.setCell (Ar bi m) Sz) x.1 x.2.1 x.2.2):=by
    have hob:Z.ownBlock=some bi:=by rw[bz];rfl
    exact bI.1.blocks (by simp[World.setCell]) ⟨Oa4 _ _ _ _ (fun e=>bI.2.1.2.1 (hob.trans (congrArg some e.symm))),fun k bj b o e=>Oa4 _ _ _ _ (fun bG=>(bI.2.2 k bj b o e).2.1 (hob.trans (congrArg some bG.symm)))⟩
   have fe:Hid (br H.length (Y++[some x])):=by have:=I.ps;rw[bH,dv]at this;exact this
   have dD:Z.ownBlock=some bi:=by rw[bz];rfl
   have cT:Hid (DkS w F0 d D0 (lim H.length) F (wr.setCell (Ar bi m) Sz)/\Jbo x.1 x.2.1 x.2.2.length fun b=>b<(wr.setCell (Ar bi m) Sz).heap.size/\¬ F b):=by
    have dE:=I.rg.off x (by rw[bH];simp);have fq:=(I.dk.elder bS.out.1 (cS.out j cB)).on (Oa2 _) (Ju.set (F:=fun k=>k=bi) (Ju.refl _ wr) rfl m Sz) fun k e=>⟨by have:=bS.out.1.size;have bT:k=bi:=e;omega,by rw[show k=bi from e];exact I.rg.dvF bi dD⟩;refine⟨fq,⟨?_,dE.1⟩,fun k bj b o e=>⟨?_,dE.2 k bj b o e⟩⟩
    ·have:=bI.2.1.2.2;simpa [World.setCell] using this
    have:=(bI.2.2 k bj b o e).2.2;simpa [World.setCell] using this
   rw[dv]at cv |-;have fY:(H.length:Int)-1=(m:Int):=zo;have fV:m<=11:=zo;clear dD bI cj I cR dm du dl cn bz bL bM fA fB fC dU dp cb bH hlen dB dJ;go_wp2_with (go_at_call 51;refine fx.mono ?_;rintro bT fO ⟨rfl,dh⟩;have ff:=zh dh;clear dh)
   refine bodyPost_ret (v:=.tuple #[Sq x.1 x.2.2.length (Kut x.2.1 x.2.2.length),.nilIface]) (by simp[results,results28,go_sem]) rfl ?_;rw[ff.out];exact⟨F,cT.out.1,.inl ⟨x,Y,rfl,fh.out,cT.out.2,fe.out⟩⟩
theorem Jjg.turn {F O L rb z bu bl bi bj Y sc bf Z W U}(h:Jjg F L rb z bu bl bi bj Y sc bf Z W)(I:Ju F W U)(hF:∀ k,O k->F k\/W.heap.size<=k):Jjg O L rb z bu bl bi bj Y sc bf Z U:=by
 have bh:=Jd h.rs.run;have M:∀ k,k<W.heap.size->¬ F k->¬ O k:=fun k I bk e=>(hF k e).elim bk fun e=>by omega
 refine⟨⟨(I.block rb bh h.rbF).trans h.rs.run,Jl h.rs.own fun g e=>I.block g (Je h.rs.own e).2 (h.dvF g e),fun x K=>?_,h.rs.low⟩,fun x K=>?_,M rb bh h.rbF,fun g e=>M g (Je h.rs.own e).2 (h.dvF g e)⟩
 ·have y:=h.rs.cols x K;have ho:=h.off x K;exact⟨y.1.blocks I.size ⟨I.block _ y.2.1.2.2 ho.1,fun j H b o e=>I.block b (y.2.2 j H b o e).2.2 (ho.2 j H b o e)⟩,⟨y.2.1.1,y.2.1.2.1,Oc2 y.2.1.2.2 I.size⟩,fun j H b o e=>⟨(y.2.2 j H b o e).1,(y.2.2 j H b o e).2.1,Oc2 (y.2.2 j H b o e).2.2 I.size⟩⟩
 have y:=h.rs.cols x K;have ho:=h.off x K;exact⟨M _ y.2.1.2.2 ho.1,fun j H b o e=>M b (y.2.2 j H b o e).2.2 (ho.2 j H b o e)⟩
structure Qd2 (X:World) (F0:Nat->Prop) (sch:List Int) (ks:List Krv) (kb ko sg so l tb to_ tc:Nat) (a0 a1 a2 q qw pg:Addr):Prop where
 env:∀ Y,Ju F0 X Y->Kc Y (some (Ar tb to_)) sch/\Klj Y kb ko ks/\Jf0 Y a0 a1 a2/\Y.cell? (Aq 5)=some (Ie 435 q)/\Y.cell? (Aq 6)=some (Ie 435 qw)/\Y.cell? (Aq 7)=some (Ie 435 pg)
 gl:¬ F0 5/\¬ F0 6/\5<X.heap.size/\6<X.heap.size
 sc:X.cell? (Ar sg (so+l))=some (Sr tb to_ sch.length tc)
 sgF:¬ F0 sg
section
variable {tys:ByteArray->List Int} {scs:List (List Int)} {ns:List PN} {tab:ByteArray->Cs⊕Nat} {j:Nat} {n:PN} {nd:Nd} {X:World}
theorem Kyb (h:Jdk tys scs ns)(dj:Ktc tys scs ns tab)(ht:∀ n∈ns,n.op=0->∀ cs,tab n.tn=.inl cs->Zt (tys n.tn) cs)(U:ns[j]?=some n)(cc:n.op=5)(dy:nd.op=5)(hl:nd.l=(n.l:Int))(z:Int)(bu:Nat)(bl:Int)bX bY(d sg so bK bW kb ko kc:Nat)(dm:nd.ky=(some (Ar kb ko),n.gk.length,kc))(ds:n.l<bK)(F0:Nat->Prop)(D0:DS)(lim:Nat->Nat)(ca:Nat->Value->World->Prop)a0 a1 a2 q qw pg(du:∀ sch,scs[n.l]?=some sch->∃ tb to_ tc,Qd2 X F0 sch n.gk kb ko sg so n.l tb to_ tc a0 a1 a2 q qw pg)(cD:∀ sch,scs[n.l]?=some sch->sch.length<=100/\∀ c,c<sch.length->1<=sch.getD c 0/\sch.getD c 0<=3)(cR:2<=bu)(cS:bu<=50000)(cK:∀ bG b bf,Jd7 tab ns j->Yu bf (Ip 149 b) (if bG=true then q else qw) none (some (-1))->Ksy D0 bG->bu<nR (Jbs n (stN tab ns j))->ca j (Ip 149 b) bf)(pr:Nat)(g:Nat->Nat)(de:∀ q,bu<q->g (ckN q bu)+1<=g q)(dq:lim (j+1)<=930000)(cU:Jd7 tab ns j->∀ cs sch,cs=Jbs n (stN tab ns j)->scs[n.l]?=some sch->nR cs<=50000/\(∀ ch:List Nat,(∀ t∈ch,t<nR cs)->1<=ch.length->ch.length<=64->(Qu (Kr4 sch (Jba ch cs) sch.length)).length<=pr*ch.length)/\g (ckN (nR cs) bu)<=100000/\lim j+2*pr*bu*ckN (nR cs) bu+pr*nR cs*g (ckN (nR cs) bu)<=lim (j+1)):
  Ku2 X (X.heap.size+1) X.heap.size z (bu:Int) bl bX bY d (Sr sg so bK bW) (PSp tab ns) ca F0 D0 lim nd j:=by
 obtain⟨sch,hs,ok⟩:=h.ok j n U;obtain⟨bE,dG,dU,dV,dH⟩:=ok.sort cc;have h0:n.op≠0:=zo;have cb:¬ (n.op=3\/n.op=7):=zo;have dQ:j<ns.length:=(Ob9.1 U).1;refine⟨zo,zo,fun W F bx br Y dO hR hlen cM=>?_⟩;obtain⟨bT,bJ⟩:=cM;have cC:=Jqw h dj ht j zo bJ;have dx:=Jma (tab:=tab) U;have dh:Jg7 n=[n.l]:=by unfold Jg7;rw[if_neg h0,if_neg cb]
 obtain⟨dr,dc⟩:=h.ahead j n U n.l (by rw[dh];exact Oc6.2 rfl);obtain⟨cs,Z⟩:=cC.there n.l dr dc;obtain⟨dW,cA,cu⟩:=cC.good n.l cs Z;rw[bE]at cA;cases cA
 have bR:Jbs n (stN tab ns j)=cs:=by unfold Jbs;rw[Oa0,Z];rfl
 obtain⟨⟨gc,bB,H⟩,bS⟩:∃ x,br[n.l]?=some (some x):=by
  rw[<-bT,Ob1]at Z;cases e:br[n.l]? with
  |none=>rw[e]at Z;cases Z
  |some o=>
   cases o with
   |none=>rw[e]at Z;cases Z
   |some x=>exact⟨x,rfl⟩
 have cV:H=cs:=by
  rw[<-bT,Ob1,bS]at Z;simpa using Z
 subst cV;obtain⟨tb,to_,tc,hM⟩:=du sch bE;obtain⟨cL,dA,df,dM⟩:=cU bJ H sch bR.symm bE;obtain⟨O,cE,ci,dg,dK,dN,cT,bU,bi,dw⟩:=hR.rs.take bS;have hob:bx.ownBlock=some O:=by rw[ci];rfl
 have cz:=hR.rs.run;rw[ci]at cz;obtain⟨E,cJ,bO,dP⟩:=Y.ex;have dT:=Y.keep.size;have cx:=hR.off _ (Of6 bS);have cY:=hR.dvF O hob;have cB:sg<X.heap.size:=Jb0 hM.sc;have bV:∀ k,k<X.heap.size->¬ F0 k->¬ F k:=fun k K dv e=>(Y.ffr k e).elim dv fun e=>by omega
 have cW:Jej nd.op=96:=by rw[dy];rfl
 rw[cW,Nd.val,hl,dm]
 -- what is given to the sorting
 let bI:World->SC:=fun y=>⟨y,F,E,y.heap.size,d,tb,to_,tc,kb,ko,kc,sch,H,n.gk,a0,a1,a2,q,qw,pg,(bu:Int)⟩
 have cf:∀ y,Ju (·=O) W y->∀ bk,Ju F y bk->Ju F0 X bk:=fun y M bk bP=>(Y.keep.trans' M fun k K e=>by have bh:k=O:=e;omega).trans' bP fun k K e=>(Y.ffr k e).resolve_right zo;have dB:∀ y,Ju (·=O) W y->y.heap[O]?=Jdc W O n.l->Cq 129 #[Sq gc H.length (Kut bB H.length),Sr tb to_ sch.length tc,Sr kb ko n.gk.length kc,Iq (bu:Int),Pq d] y fun e w'=>∃ a b,e=.returned (.tuple #[a,b])/\Ju F y w'/\Ktj (bI y) (lim (j+1)) (.returned (.tuple #[a,b])) w':=fun y M _=>by
  have bC:=M.size;have cQ:SK (bI y):=⟨⟨cu,fun k K=>by rw[cu.len];exact dH k K,by show n.gk.length<=1000000;omega,(cD sch bE).1,(cD sch bE).2⟩,Oa2 _,fun k K=>Oc2 (Y.flt k K) bC,fun bk bP=>hM.env bk (cf y M bk bP),bV _ hM.gl.2.2.1 hM.gl.1,bV _ hM.gl.2.2.2 hM.gl.2.1,by have:=hM.gl.2.2.1;show 5<y.heap.size;omega,by have:=hM.gl.2.2.2;show 6<y.heap.size;omega⟩;have cI:Zb y F d E:=cJ.stands fun k bU hl=>M.block k hl fun e=>cY ((show k=O from e)▸bU);have cv:∀ b,bx.ownBlock≠some b->b≠O:=fun b bM e=>bM (hob.trans (congrArg some e.symm));have cG:Qd y gc bB H:=bi.1.blocks bC ⟨M.block _ bi.2.1.2.2 (cv _ bi.2.1.2.1),fun j U b o e=>M.block b (bi.2.2 j U b o e).2.2 (cv _ (bi.2.2 j U b o e).2.1)⟩;refine(Kx8 (bI y) cQ rfl cI gc (Kut bB H.length) bB cG ⟨⟨Oc2 bi.2.1.2.2 bC,cx.1⟩,fun j U b o e=>⟨Oc2 (bi.2.2 j U b o e).2.2 bC,cx.2 j U b o e⟩⟩ bu pr rfl cR cS cL dA g de df (lim (j+1)) dq (by show dz E+2*pr*bu*ckN (nR H) bu+pr*nR H*g (ckN (nR H) bu)<=lim (j+1);omega)).mono fun e w' hp=>?_;have cy:=hp;obtain⟨bH,bZ,bj,_,_,_,_,_,⟨gb,bD,rfl,_⟩|⟨bG,b,rfl,_⟩⟩:=hp
  ·exact⟨_,_,rfl,bj,cy⟩
  exact⟨_,_,rfl,bj,cy⟩
 refine(Kzp X.heap.size O br.length cE n.l z (bu:Int) (Iq bl) bX bY d sg so bK bW nd.op nd.r nd.tn (.slice nd.xs.1 nd.xs.2.1 nd.xs.2.2) nd.kk kb ko kc n.gk.length gc H.length (Kut bB H.length) tb to_ sch.length tc W F (fun y a b w'=>Ktj (bI y) (lim (j+1)) (.returned (.tuple #[a,b])) w') cz dg ds cT bU zo (by
  have dl:=Y.keep.block sg cB hM.sgF;exact(Oc3 dl).trans hM.sc) zo ⟨hR.rbF,bV sg cB hM.sgF,Y.flt⟩ dB).mono fun e bf hp=>?_
 obtain⟨a,b,y,rfl,M,dC,bH,bZ,bj,cH,cP,cj,dd,da,db⟩:=hp;have bC:=M.size;have dS:=bj.size;have cn:∀ k,bH k->F k\/W.heap.size<=k:=fun k K=>(cj k K).imp id fun e=>by have bh:y.heap.size<=k:=e;omega
 have di:Ju (fun k=>F k\/bx.ownBlock=some k) W bf:=(M.mono fun k _ e=>.inr (by rw[show k=O from e];exact hob)).trans' bj fun k _ e=>.inl e;have cZ:DkS X F0 d D0 (lim (j+1)) bH bf:=⟨cf y M bf bj,⟨bZ,cH,bO.trans cP,da⟩,fun k K=>(cn k K).elim (Y.ffr k) fun e=>.inr zo,dd⟩;refine⟨bH,cZ,di,cn,?_⟩;have dp:(br.set n.l none).length=j:=by rw[Of8];exact hlen
 rcases db with⟨gb,bD,I,bN,bz⟩|⟨bG,bL,I,cX,dL,dR,dD,dt⟩
 ·injection I with I;injection I with I;have bQ:a=Sq gb H.length H.length/\b=.nilIface:=by simpa using I
  obtain⟨rfl,rfl⟩:=bQ;have bA:(Jba (Ksi (Kr6 n.gk H) (List.range (nR H))) H).length=H.length:=Krw _ _;have bN:Qd bf gb bD (Jba (Ksi (Kr6 n.gk H) (List.range (nR H))) H):=bN;have hcut:=bN.cut;rw[bA]at hcut;have cN:=dw y (Jgr M) dC;have cO:Jjg F (X.heap.size+1) X.heap.size z (bu:Int) bl bX bY (Pq d) (Sr sg so bK bW) bx (br.set n.l none) y:=⟨cN,fun x dE=>hR.off x (Kui dE),hR.rbF,hR.dvF⟩;refine .inl ⟨(gb,bD.take H.length,Jba (Ksi (Kr6 n.gk H) (List.range (nR H))) H),br.set n.l none,?_,cO.turn bj fun k K=>cj k K,⟨hcut.1,?_,fun i hi b o e=>?_⟩,⟨bz.1.2.2,fun i hi b o e=>?_⟩,dp,?_,bJ.more U ?_⟩
  ·simp only[dnV];rw[Kuk (by rw[Oc7,bA];omega),bA]
  ·have bM:y.heap.size<=gb:=bz.1.1;exact⟨by show gb≠X.heap.size;omega,fun e=>by have bh:bx.ownBlock=some gb:=e;rw[hob]at bh;cases bh;omega,bz.1.2.1⟩
  ·rw[bA]at hi;have e:(Yo (bD.take H.length) i).1=some (Ar b o):=e;rw[hcut.2 i hi]at e;have hb:=bz.2 i hi b o e;have bM:y.heap.size<=b:=hb.1;exact⟨zo,fun bh=>by rw[hob]at bh;cases bh;omega,hb.2.1⟩
  ·rw[bA]at hi;have e:(Yo (bD.take H.length) i).1=some (Ar b o):=e;rw[hcut.2 i hi]at e;exact(bz.2 i hi b o e).2.2
  ·rw[Ob8,Op0,bT,dx];unfold Jb3;rw[if_neg h0,if_neg cb];unfold Jkq;rw[if_neg h0,if_neg zo,if_neg zo,if_neg zo,if_pos cc,bR];rfl
  exact⟨fun cF=>absurd cF h0,(fun _ i hi e I=>by rw[dG]at I;cases I),fun dJ=>zo,fun dI=>zo⟩
 injection I with I;injection I with I;have bQ:a=Sz/\b=Ip 149 bL:=by simpa using I
 obtain⟨rfl,rfl⟩:=bQ;exact .inr ⟨_,bL,rfl,cK bG bL bf bJ cX (dD.of bO.quota bO.fail) (by rw[bR];have e:(bu:Int)<(nR H:Int):=dt;omega)⟩
end
theorem Kyr {m n}(h:m<=n):(List.range n).take m=List.range m:=by
 refine Oi8 fun i=>?_;rw[Oe7];by_cases hi:i<m
 ·rw[if_pos hi,Oh6 hi,Oh6 zo]
 rw[if_neg hi,Ob4 zt]
theorem Qa7 {sch cs}(h:Zt sch cs)m(y:m<=nR cs):cs.map (Jbx 0 m)=Jba (List.range m) cs:=by
 have:=Ktg (List.range (nR cs)) cs 0 m;rw[Kt1 h,List.drop_zero,Kyr y]at this;exact this
theorem Qaf {a t b o}(h:Jkl a 0 t=some (Ar b o)):∃ y,a=some (Ar b y):=by
 unfold Jkl at h;split at h
 ·exact⟨o,h⟩
 cases a with
 |none=>cases h
 |some x=>exact⟨o,by simpa [Addr.add] using h⟩
section
variable {tys:ByteArray->List Int} {scs:List (List Int)} {ns:List PN} {tab:ByteArray->Cs⊕Nat} {j:Nat} {n:PN} {nd:Nd} {X:World}
theorem Kw3 (h:Jdk tys scs ns)(bX:Ktc tys scs ns tab)(ht:∀ n∈ns,n.op=0->∀ cs,tab n.tn=.inl cs->Zt (tys n.tn) cs)(H:ns[j]?=some n)(hi:Jnm X n nd)(bh:n.op=6)(s:Nat)(z:Nat)(bu bl:Int)bj Z sc br bJ bx pg:
  Ju1 X (X.heap.size+1) X.heap.size z bu bl bj (Pq s) Z sc (PSp tab ns) (ERp tab ns br bJ bx pg) nd j:=by
 obtain⟨sch,hs,ok⟩:=h.ok j n H;have h0:n.op≠0:=zo;obtain⟨_,cc,cD,cE⟩:=ok.limit bh;refine Km1 h bX ht H hi h0 zo s z bu bl bj Z sc br bJ bx pg fun W bk bM hb hR cx g I y cF bB bS cB U=>?_;have bR:Jej nd.op=97:=by rw[hi.op,bh];rfl
 rw[bR];obtain⟨Y,bL,bC,bV,cu,cv,bQ,bU,K,ca⟩:=hR.take bB;have bI:=hR.run;rw[bC]at bI;have hob:bk.ownBlock=some Y:=by rw[bC];rfl
 have bH:∀ b,bk.ownBlock≠some b->b≠Y:=fun b bP e=>bP (hob.trans (congrArg some e.symm));obtain⟨q,bY⟩:∃ q:Nat,n.kk=(q:Int):=⟨n.kk.toNat,zo⟩;have bZ:n.kk.toNat=q:=zo;have cC:=hb.size;have cA:=hR.low;have cb:Jkq tab n (stN tab ns j)=y.map (Jbx 0 (min q (nR y))):=by
  unfold Jkq;rw[if_neg h0,if_neg zo,if_neg zo,if_neg zo,if_neg zo,if_pos bh,bS,bZ,Qa7 U _ zo]
 rw[cb,Nd.val,hi.l,hi.kk,bY];refine(Kyw X.heap.size Y bM.length bL n.l q z (Iq bu) (Iq bl) bj (Pq s) Z sc nd.op nd.r nd.tn (.slice nd.xs.1 nd.xs.2.1 nd.xs.2.2) (.slice nd.ky.1 nd.ky.2.1 nd.ky.2.2) g (Kut I y.length) (nR y) I y W bI bV bQ bU K.1 ⟨⟨K.2.1.2.2,bH _ K.2.1.2.1⟩,fun j H b o e=>⟨(K.2.2 j H b o e).2.2,bH _ (K.2.2 j H b o e).2.1⟩⟩ U.rows U.one U.few).mono fun ci bK hp=>?_;obtain⟨bO,rfl,bG,bT,cy,bz⟩:=hp;have bE:=Jgr bG;have bi:(y.map (Jbx 0 (min q (nR y)))).length=y.length:=Oa6 _;have bA:∀ j,j<y.length->∀ b o,(Yo (Jnt I y.length 0 (min q (nR y))) j).1=some (Ar b o)->∃ O,(Yo I j).1=some (Ar b O):=fun j H b o e=>by
  have M:Yo (Jnt I y.length 0 (min q (nR y))) j=(Jkl (Yo I j).1 0 (min q (nR y)),min q (nR y)-0):=by simp[Yo,Jnt,H]
  rw[M]at e;exact Qaf e
 refine⟨by rw[hob];exact bE,.inl ⟨bO,Jnt I y.length 0 (min q (nR y)),?_,ca bK bE bT,⟨bz,⟨?_,?_⟩⟩,⟨fun bN=>absurd bN h0,(fun _ i cz cf bD=>by rw[cc]at bD;cases bD),fun cn=>zo,fun cj=>zo⟩,fun F hF hy=>?_⟩⟩
 ·simp only[dnV];rw[Kuk (by simp[Jnt]),bi]
 ·exact⟨zo,by rw[hob];intro e;cases e;omega,bz.row.lt⟩
 ·intro j H b o M;rw[bi]at H;obtain⟨O,bf⟩:=bA j H b o M;have:=K.2.2 j H b O bf;exact⟨this.1,this.2.1,Oc2 this.2.2 bG.size⟩
 have bW:=hy _ (Of6 bB);refine⟨fun e=>by have:=hF _ e;omega,fun j H b o M=>?_⟩;rw[bi]at H;obtain⟨O,bf⟩:=bA j H b o M;exact bW.2 j H b O bf
theorem Kyt (M:ns[j]?=some n)(bP:nd.op=0)(bh:nd.tn=n.tn)(h0:n.op=0)s z bu bl bi d sc bx bS bB et pg F0 D0 lim(hl:lim j<=lim (j+1))U(bG:∀ v W,ERp tab ns bx bS bB pg j v W->U j v W)(bQ:∀ W F,DkS X F0 d D0 (lim j) F W->∀ y,Bq W y->Cq 30 #[Pq s,.string n.tn] y fun e w'=>Jrr y et pg (some (tab n.tn)) e w'):
  Ku2 X (X.heap.size+1) X.heap.size z bu bl bi (Pq s) d sc (PSp tab ns) U F0 D0 lim nd j:=by
 refine⟨zo,zo,fun W F br bk H bV hR hlen bH=>?_⟩;obtain⟨bL,Y⟩:=bH;have bO:=Jma (tab:=tab) M;have bK:Jej nd.op=91:=by rw[bP];rfl
 rw[bK];have bf:=bQ W F H;cases htab:tab n.tn with
 |inl cs=>
  have bM:Jlw tab n (stN tab ns j):=⟨fun _=>⟨cs,htab⟩,fun bN=>absurd h0 bN,fun bU=>zo,fun bT=>zo⟩;refine(Kdz hR.rs nd cs fun y K=>by
   rw[bh];refine(bf y K).mono fun e w' hp=>?_;rw[htab]at hp;exact hp).mono fun bA bj hp=>?_
  obtain⟨I,g,bR,rfl,bI,bE,Z⟩:=hp;refine⟨F,(H.on hl (Ju.of_below (F:=fun _=>False) I) fun _ e=>e.elim),Ju.of_below I,fun k O=>.inl O,.inl ⟨(g,bR,cs),bk,rfl,⟨bI,hR.off,hR.rbF,hR.dvF⟩,bE,⟨fun e=>by have:=H.flt _ e;have:=Z.1;omega,fun i hi b o e bz=>by have:=H.flt _ bz;have:=Z.2 i hi b o e;omega⟩,hlen,?_,Y.more M bM⟩⟩;rw[bO,Ob8,bL];unfold Jb3 Jkq;rw[if_pos h0,if_pos h0,htab];rfl
 |inr p=>
  have:=Jos X.heap.size s z (Iq bu) (Iq bl) bi (Pq d) sc br nd.op nd.l nd.r nd.tn (.slice nd.xs.1 nd.xs.2.1 nd.xs.2.2) (.slice nd.ky.1 nd.ky.2.1 nd.ky.2.2) nd.kk W (fun _ a b w'=>∃ g:Nat,a=Sz/\b=Ip 106 g/\Yu w' b pg (some (-1)) (some (p:Int))) hR.rs.run (fun y K=>by
   rw[bh];refine(bf y K).mono fun e w' hp=>?_;rw[htab]at hp;obtain⟨bC,b,rfl,_,bD⟩:=hp;exact⟨bC,_,_,rfl,b,rfl,rfl,bD⟩)
  refine this.mono fun bA bj hp=>?_;obtain⟨I,y,K,a,b,rfl,g,rfl,rfl,bJ⟩:=hp;exact⟨F,(H.on hl (Ju.of_below (F:=fun _=>False) I) fun _ e=>e.elim),Ju.of_below I,fun k O=>.inl O,.inr ⟨_,g,rfl,bG _ _ ⟨Y,n,M,.inl ⟨h0,p,g,htab,rfl,bJ⟩⟩⟩⟩
end
attribute [local go_sem] Oc0
theorem Qae F0 st d s I z bu bl sd w(bL:Jdu w st d s)(bE:∀ k,F0 k->k<w.heap.size)(bK:¬ F0 st)(P:World->Value->Value->World->Prop)(R:World->Value->Int->Int->Int->Int->Int->World->Prop)(bM:∀ X,Bq w X->Cq 28 #[.agg #[I],.agg #[Iq z,Iq bu,Iq bl,Iq sd],Pq s,Pq d] X fun e w'=>Ju F0 X w'/\∃ a b,e=.returned (.tuple #[a,b])/\P X a b w')(hl:∀ X a b H,Bq w X->X.heap.size=w.heap.size+3->Ju F0 X H->P X a b H->Cq 29 #[a,b] H fun e w'=>Bq H w'/\∃ l c nd row col pg,e=.returned (.tuple #[l,Ko c nd row col pg])/\R H l c nd row col pg w')(hR:∀ H l c nd row col pg K bk,K.heap.size<=bk.heap.size->(∀ k,k≠w.heap.size+2->bk.heap[k]?=K.heap[k]?)->R H l c nd row col pg K->R H l c nd row col pg bk):
  Cq 15 #[Pq st,.agg #[I],.agg #[Iq z,Iq bu,Iq bl,Iq sd]] w fun e w'=>Ju F0 w w'/\∃ H l c nd row col pg,Ju F0 w H/\w.heap.size+3<=H.heap.size/\e=.returned (.tuple #[l,Ko c nd row col pg])/\R H l c nd row col pg w':=by
 have bQ:=Krx bM;have bN:=Krx hl;have bO:=Krx hR;have bC:=Krx bE;have bD:=Krx bK;obtain⟨c0,c1⟩:=bL.field;clear bM hl hR bL bE bK;go_enter func15,ntmps15
 go_upto_region 1 with fail
 have bh:Bq w (((w.alloc (.cells #[I] 60)).alloc (.cells #[Iq z,Iq bu,Iq bl,Iq sd] 28)).alloc (.cells #[iZ,iZ,iZ,iZ,iZ] 39)):=Jc (Jc (Jc (Oa5 _ _) _) _) _;have bA:(((w.alloc (.cells #[I] 60)).alloc (.cells #[Iq z,Iq bu,Iq bl,Iq sd] 28)).alloc (.cells #[iZ,iZ,iZ,iZ,iZ] 39)).heap[w.heap.size]?=some (.cells #[I] 60 (0,0)):=((Oa9 _ _ _ zt).trans (Oa9 _ _ _ zS)).trans (heap_alloc_new w _);have bf:(((w.alloc (.cells #[I] 60)).alloc (.cells #[Iq z,Iq bu,Iq bl,Iq sd] 28)).alloc (.cells #[iZ,iZ,iZ,iZ,iZ] 39)).heap[w.heap.size+1]?=some (.cells #[Iq z,Iq bu,Iq bl,Iq sd] 28 (0,0)):=by
  have:=heap_alloc_new (w.alloc (.cells #[I] 60)) (.cells #[Iq z,Iq bu,Iq bl,Iq sd] 28);rw[Oa7]at this;exact(Oa9 _ _ _ zS).trans this
 have bB:(((w.alloc (.cells #[I] 60)).alloc (.cells #[Iq z,Iq bu,Iq bl,Iq sd] 28)).alloc (.cells #[iZ,iZ,iZ,iZ,iZ] 39)).heap[w.heap.size+2]?=some (.cells #[iZ,iZ,iZ,iZ,iZ] 39 (0,0)):=by
  have:=heap_alloc_new ((w.alloc (.cells #[I] 60)).alloc (.cells #[Iq z,Iq bu,Iq bl,Iq sd] 28)) (.cells #[iZ,iZ,iZ,iZ,iZ] 39);rw[Oa7,Oa7]at this;exact this
 have bz:(((w.alloc (.cells #[I] 60)).alloc (.cells #[Iq z,Iq bu,Iq bl,Iq sd] 28)).alloc (.cells #[iZ,iZ,iZ,iZ,iZ] 39)).heap.size=w.heap.size+3:=by rw[Oa7,Oa7,Oa7]
 generalize (((w.alloc (.cells #[I] 60)).alloc (.cells #[Iq z,Iq bu,Iq bl,Iq sd] 28)).alloc (.cells #[iZ,iZ,iZ,iZ,iZ] 39))=O at bh bA bf bB bz |-;have bS:=zc 0 bA;have bT:=zc 0 bf;have bU:=zc 1 bf;have bV:=zc 2 bf;have bW:=zc 3 bf;have cc:=Ja bh c0;have s1:=Ja bh c1;have Y:Hid (Bq w O/\O.heap[w.heap.size+2]?=some (.cells #[iZ,iZ,iZ,iZ,iZ] 39 (0,0))/\O.heap.size=w.heap.size+3):=⟨bh,bB,bz⟩;clear c0 c1 bh bA bf bB bz;refine wp_region_held_drew (S:=fun X=>X.cell? (Aq w.heap.size)=some I/\X.cell? (Aq (w.heap.size+1))=some (Iq z)/\X.cell? (Ar (w.heap.size+1) 1)=some (Iq bu)/\X.cell? (Ar (w.heap.size+1) 2)=some (Iq bl)/\X.cell? (Ar (w.heap.size+1) 3)=some (Iq sd)/\X.cell? (Aq st)=some (Pq d)/\X.cell? (Ar st 1)=some (Pq s)) zK ⟨Jh bS,Jh bT,Jh bU,Jh bV,Jh bW,Jh cc,Jh s1⟩ (fun y=>?_);refine tkj 0 rfl y ?_;refine tkj 1 rfl y ?_;refine tkj 2 rfl y ?_;refine tkj 3 rfl y ?_;refine tkj 4 rfl y ?_;refine tkj 5 rfl y ?_;refine tkj 6 rfl y ?_;refine tkj 7 rfl y ?_;refine tkj 8 rfl y ?_;refine tkj 9 rfl y ?_;refine tkn ?_;refine tkr 10 rfl fun bR hK=>?_;go_simp;refine(bQ.out O.drew (Jj Y.out.1)).mono ?_;rintro e H ⟨U,a,b,rfl,bG⟩;have Z:Hid (P O.drew a b H/\Ju F0 O.drew H):=⟨bG,U⟩;have nf:∀ k,w.heap.size<=k->¬ F0 k:=fun k bx e=>by have:=bC.out k e;omega
 clear bG;go_simp;refine hK.out _ _ ⟨U.cell y.1 (nf _ (Oa2 _)),U.cell y.2.1 (nf _ zo),U.cell y.2.2.1 (nf _ zo),U.cell y.2.2.2.1 (nf _ zo),U.cell y.2.2.2.2.1 (nf _ zo),U.cell y.2.2.2.2.2.1 bD.out,U.cell y.2.2.2.2.2.2 bD.out⟩ (fun y=>?_);clear hK bR U nf;refine tkj 11 rfl y ?_;refine tkj 12 rfl y ?_;refine tkj 13 rfl y ?_;refine tkj 14 rfl y ?_;refine tkj 15 rfl y ?_;refine tkn ?_;refine wpAnyH_done zK ?_ _;have bJ:=bN.out O.drew a b H (Jj Y.out.1) Y.out.2.2 Z.out.2 Z.out.1;go_wp2_with fail
 refine bJ.mono ?_;rintro e K ⟨bI,l,c,nd,row,col,pg,rfl,bH⟩;have bP:=zh bH;have bi:Ju F0 O H:=⟨Z.out.2.os,Z.out.2.tape,Z.out.2.output,Z.out.2.size,Z.out.2.block⟩;have br:Ju F0 O K:=bi.trans (Ju.of_below bI);have M:=(br.block _ (Jd Y.out.2.1) (fun e=>by have:=bC.out _ e;omega)).trans Y.out.2.1;have bX:=zc 0 M;have bY:=zc 1 M;have bZ:=zc 2 M;have ca:=zc 3 M;have cb:=zc 4 M;have ci:K.frozen? ⟨w.heap.size+2,0,none⟩=false:=by simp[World.frozen?,M]
 have cj:K.frozen? ⟨w.heap.size+2,1,none⟩=false:=by simp[World.frozen?,M]
 have cn:K.frozen? ⟨w.heap.size+2,2,none⟩=false:=by simp[World.frozen?,M]
 have cu:K.frozen? ⟨w.heap.size+2,3,none⟩=false:=by simp[World.frozen?,M]
 have cv:K.frozen? ⟨w.heap.size+2,4,none⟩=false:=by simp[World.frozen?,M]
 have bj:Hid (Ju F0 w K/\Ju F0 w H/\w.heap.size+3<=H.heap.size):=⟨(Ju.of_below Y.out.1).trans br,(Ju.of_below Y.out.1).trans bi,by have:=bi.size;have:=Y.out.2.2;omega⟩;clear bH bJ bi br M bI;go_wp2;refine bodyPost_ret (v:=.tuple #[l,Ko c nd row col pg]) (by simp[results,results15,go_sem,bX,bY,bZ,ca,cb]) rfl ⟨bj.out.1.trans' (Kzv _ (w.heap.size+2) _ _ _ _ _) fun k bx e=>by have cf:k=w.heap.size+2:=e;omega,H,l,c,nd,row,col,pg,bj.out.2.1,bj.out.2.2,rfl,bO.out _ _ _ _ _ _ _ _ _ ?_ (fun k bx=>?_) bP.out⟩
 ·simp[World.setCell]
 exact Jib _ _ _ _ _ _ _ k bx
end
section
open Go.RowKit Go.Shelf
theorem Kuw {D E}(h:Kft D E):∀ l,Uf E l=Uf D l
 |[]=>rfl
 |i::l=>by
  have y:E.pages.getD i none=D.pages.getD i none:=h.pages i;simp only[Uf,y,Kuw h l]
theorem Kzx {D E}(h:Kft D E)l t n:Us E l t n=Us D l t n:=by unfold Us;rw[Kuw h]
theorem Kwm {D E}(h:Kft D E)y ts m cols:∀ k,Jh3 E y ts m cols k=Jh3 D y ts m cols k
 |0=>rfl
 |k+1=>by simp only[Jh3,Kwm h y ts m cols k,Kzx h]
theorem Kzt {D E}(h:Kft D E):Zo E=Zo D:=funext fun T=>by
 have:Jpn E T.types=Jpn D T.types:=funext fun y=>funext fun x=>by unfold Jpn;simp only[Kwm h]
 unfold Zo Jfx;rw[this]
theorem Kwo {D E}(h:Kft D E){T}(y:Jid D T):Jid E T:=⟨y.cols,y.rows,y.group,y.count,y.segs,fun l hl t ht=>y.full l hl t (by rw[<-Kuw h];exact ht)⟩
theorem Kvh {D E}(h:Kft D E)Ts n:Jcm E Ts n=Jcm D Ts n:=by unfold Jcm;rw[Kzt h]
theorem Ju1.mono {w L rb z bu bl K M I sc H y ER' nd j}(h:Ju1 w L rb z bu bl K M I sc H y nd j)(bf:∀ v W,y j v W->ER' j v W):Ju1 w L rb z bu bl K M I sc H ER' nd j:=
 ⟨h.1,h.2.1,fun W U O a b c d e=>(h.2.2 W U O a b c d e).mono fun _ _ hp=>⟨hp.1,hp.2.imp id fun ⟨ty,b,Y,Z⟩=>⟨ty,b,Y,bf _ _ Z⟩⟩⟩
def ERd (tab:ByteArray->Cs⊕Nat)(ns:List PN)(bu:Nat)(D0:DS)(H K I pg q qw:Addr)(j:Nat)(v:Value)(W:World):Prop:=ERp tab ns H K I pg j v W \/
 ∃ y b,v=Ip 149 b/\Jd7 tab ns j/\(∃ n,ns[j]?=some n/\n.op=5/\bu<nR (Jbs n (stN tab ns j)))/\Yu W v (if y=true then q else qw) none (some (-1))/\Ksy D0 y
theorem ERd.below {tab:ByteArray->Cs⊕Nat}{ns bu D0 H K I pg q qw j v W y}(h:ERd tab ns bu D0 H K I pg q qw j v W)(hb:Bq W y):ERd tab ns bu D0 H K I pg q qw j v y:=by
 rcases h with h|⟨bf,b,M,O,U,Y,Z⟩
 ·exact .inl (h.below hb)
 exact .inr ⟨bf,b,M,O,U,Y.below hb,Z⟩
structure Kzh (tab:ByteArray->Cs⊕Nat) (ns:List PN) (scs:List (List Int)) (bu pr:Nat) (g:Nat->Nat) (lim:Nat->Nat):Prop where
 tys:∀ sch∈scs,sch.length<=100/\∀ c,c<sch.length->1<=sch.getD c 0/\sch.getD c 0<=3
 gdn:∀ q,bu<q->g (ckN q bu)+1<=g q
 mono:∀ j,lim j<=lim (j+1)
 top:∀ j,lim j<=930000
 cap:∀ (j:Nat) (n:PN),ns[j]?=some n->n.op=5->Jd7 tab ns j->∀ cs sch,cs=Jbs n (stN tab ns j)->scs[n.l]?=some sch->nR cs<=50000/\(∀ ch:List Nat,(∀ t∈ch,t<nR cs)->1<=ch.length->ch.length<=64->(Qu (Kr4 sch (Jba ch cs) sch.length)).length<=pr*ch.length)/\g (ckN (nR cs) bu)<=100000/\lim j+2*pr*bu*ckN (nR cs) bu+pr*nR cs*g (ckN (nR cs) bu)<=lim (j+1)
theorem Kzh.upto {tab:ByteArray->Cs⊕Nat}{ns I bu pr g lim}(h:Kzh tab ns I bu pr g lim)n:∀ j,j<=n->lim j<=lim n:=by
 induction n with
 |zero=>intro j y;rw[Nat.le_zero.1 y];exact Oa2 _
 |succ n H=>
  intro j y;by_cases e:j=n+1
  ·rw[e];exact Oa2 _
  exact Ob2 (H j zo) (h.mono n)
def Kwc (b:Nat)(H:List (List Int))(v:Value)(W:World):Prop:=∃ (B:Nat) (y:List Sch),b<=B/\Jo W B 22 v (y.map Jbl)/\y.map (fun x=>x.2.2)=H/\∀ x∈y,Kc W x.1 x.2.2/\∀ g o,x.1=some (Ar g o)->b<=g
theorem Kwc.below {b M v W y}(h:Kwc b M v W)(hb:Bq W y):Kwc b M v y:=by
 obtain⟨B,Y,O,I,U,K⟩:=h;exact⟨B,Y,O,Jl I fun g e=>hb.block g (Je I e).2,U,fun x H=>⟨(K x H).1.below hb,(K x H).2⟩⟩
theorem Kwc.at {b H v W}(h:Kwc b H v W){l}(hl:l<H.length):∃ sg cap,v=Sq sg H.length cap/\b<=sg/\∀ l sch,H[l]?=some sch->1<=sch.length->∃ tb to_ tc,W.cell? (Ar sg l)=some (Sr tb to_ sch.length tc)/\Kc W (some (Ar tb to_)) sch/\b<=tb/\tb<W.heap.size:=by
 obtain⟨B,y,bH,bz,bf,bA⟩:=h;have Z:y.length=H.length:=by rw[<-bf,Oa6]
 rcases bz with⟨_,⟨_,I⟩|⟨sg,cap,bh,I,bB,bi,bC,bD,bE,bj⟩⟩
 ·rw[Oa6]at I;omega
 rw[Oa6,Z]at I;refine⟨sg,cap,I,zo,fun l sch M bG=>?_⟩;have K:l<y.length:=by rw[Z];exact(Ob9.1 M).1
 have bk:W.cell? (Ar sg l)=some (Jbl y[l]):=by
  have:(bh.toList.take ((y.map Jbl).length*1))[l]?=(y.map Jbl)[l]?:=by rw[bj]
  rw[Oe7,if_pos (by rw[Oa6];omega),Oe6,Ob1,Oa3 K]at this;simp[World.cell?,bi];exact this
 have Y:y[l].2.2=sch:=by
  rw[<-bf,Ob1,Oa3 K]at M;simpa using M
 obtain⟨U,bx⟩:=bA y[l] (Ob3 K);rw[Y]at U;obtain⟨tb,to_,O,br,_⟩:=U.at (i:=0) zo;refine⟨tb,to_,y[l].2.1,?_,O▸U,bx tb to_ O,br⟩;rw[bk,Jbl,O,Y]
end
section
open Go.RowKit Go.Shelf Tryz
structure Qb4 (scs:List (List Int)) (ns:List PN) (tab:ByteArray->Cs⊕Nat) (j:Nat) (n:PN):Prop where
 chk:∀ {nd:Nd} {w:World} (_:Jnm w n nd) (tf:Value),Jvz w tf scs (flN ns) nd j
 wrk:∀ {nd:Nd} {X:World} (_:Jnm X n nd) (s:Nat) (z:Nat) (bu bl sd:Int) (dp sc:Value) (dva ova gva pg mna:Addr) (_:Qc8 tab ns X j n z bl sd dva ova gva mna),Ju1 X (X.heap.size+1) X.heap.size z bu bl (Iq sd) (Pq s) dp sc (PSp tab ns) (ERp tab ns dva ova gva pg) nd j
theorem Ksn {H w0 w V}(hb:Bq w0 w)(K:∀ k,H k->w0.heap.size<=k)(y:Ju H w V):Bq w0 V:=by
 have I:=hb.size;exact⟨y.os.trans hb.os,y.tape.trans hb.tape,y.output.trans hb.output,Ob2 I y.size,fun k M=>(y.block k zo fun e=>by have:=K k e;omega).trans (hb.block k M)⟩
theorem Kwg (bh:Nat->Prop)(st:Nat)(E:DS)(Ts:List TS)w(h:Sto bh w st E Ts)(dh:∀ T∈Ts,Jid E T)(dR:∀ T∈Ts,∀ cs,Zo E T=.inl cs->Zt T.types cs)a0 a1 a2 bQ q wr pg pl ex ta w0(cA:Jax w0 a0 a1 a2 bQ q wr pg pl ex ta)(cW:Bq w0 w)(bZ:∀ k,bh k->w0.heap.size<=k)(ns:List PN)(bJ:List (List Int))(bx:Jdk (Jhd Ts) bJ ns)(cC:∀ n∈ns,n.op=0->Ub Ts n.tn<Ts.length)(dY:Jd7 (Ye E Ts) ns ns.length->nR (Jac (Ye E Ts) ns)<=10000)(dQ:∀ n∈ns,n.op≠0->n.op≠5->n.op≠6->Kwr (Jhd Ts) bJ ns (Ye E Ts) n)(da:∀ (j:Nat) (n:PN),ns[j]?=some n->n.op≠0->n.op≠5->n.op≠6->Qb4 bJ ns (Ye E Ts) j n)(dS:∀ (j:Nat) (n:PN),ns[j]?=some n->n.op=4->Jd7 (Ye E Ts) ns j->nR (Jbs n (stN (Ye E Ts) ns j))<=20000)(dU:∀ (j:Nat) (n:PN),ns[j]?=some n->n.op=3->Jd7 (Ye E Ts) ns j->(jnN n (stN (Ye E Ts) ns j)).length<=2000)(nb no cK:Nat)(bG:List Nd)(hl:bG.length=ns.length)(cV:∀ (j:Nat) (nd:Nd),bG[j]?=some nd->Zm w nb (no+j*7) nd)(hI:∀ V,Ju bh w V->∀ (j:Nat) (n:PN) (nd:Nd),ns[j]?=some n->bG[j]?=some nd->Jnm V n nd)(z bu:Nat)(bl sd:Int)(fi:1<=z)(fj:z<=1000)(dJ:2<=bu)(fy:bu<=1000)(dd:0<=bl)(de:bl<=4096)(fd:Jg sd)(pr:Nat)(gf:Nat->Nat)(lim:Nat->Nat)(bC:Kzh (Ye E Ts) ns bJ bu pr gf lim)(dM:dz E<=lim 0)(R:World->Value->Int->Int->Int->Int->Int->World->Prop)(dC:∀ y l c nd row col pg bX bY,bX.heap.size<=bY.heap.size->(∀ k,y.heap.size<=k->bY.heap[k]?=bX.heap[k]?)->R y l c nd row col pg bX->R y l c nd row col pg bY)(dD:∀ y l c nd row col pg W,Qbt (Ye E Ts) ns y l c nd row col pg W->R y l c nd row col pg W)bA bE bB cJ(dX:Jig w0 [ex,pl,a0,a1,a2,bQ,q,wr,pg] bA bE bB cJ)(dO:∀ y,Ju bh w y->∀ (j:Nat) (v:Value) (eb:Nat),ERd (Ye E Ts) ns bu E bA bE bB pg q wr j v y->y.heap[eb]?=some (.cells #[Iq (j:Int),v] 133 (0,0))->Cq 29 #[Sz,Ip 131 eb] y fun e w'=>Bq y w'/\∃ l c nd row col bN,e=.returned (.tuple #[l,Ko c nd row col bN])/\R y l c nd row col bN w'):
  Cq 15 #[Pq st,.agg #[Sr nb no ns.length cK],.agg #[Iq (z:Int),Iq (bu:Int),Iq bl,Iq sd]] w fun e w'=>Ju bh w w'/\∃ y l c nd row col pg,w.heap.size<=y.heap.size/\e=.returned (.tuple #[l,Ko c nd row col pg])/\R y l c nd row col pg w' /\
   ∃ bW K,Sto bW w' st K Ts/\Kft E K/\dz K<=lim ns.length/\(∀ k,bh k->bW k)/\(∀ k,bW k->bh k\/w.heap.size<=k)/\∀ k,bW k->k<y.heap.size:=by
 obtain⟨⟨d,s,F,G,sv,bs,cv,cx,dx,cQ,cR,cS,cy,dy,dA,dw,hM⟩,bD⟩:=h;have fB:=bx.one;have fz:=bx.few;have bO:∀ k,F k->bh k:=fun k H=>hM k (.inl H);have bS:∀ k,F k->k<w.heap.size:=fun k H=>bD k (bO k H);have cT:∀ k,G k\/Jnr s sv k->¬ F k:=fun k H=>by
  rcases H with H|rfl|H
  ·exact cQ k H
  ·exact cR
  exact cS k H
 have cf:∀ V,Ju bh w V->Jax V a0 a1 a2 bQ q wr pg pl ex ta:=fun V bk=>cA.below (Ksn cW bZ bk);have dB:∀ V,Ju bh w V->Jig V [ex,pl,a0,a1,a2,bQ,q,wr,pg] bA bE bB cJ:=fun V bk=>dX.below (Ksn cW bZ bk);have cz:∀ X,Bq w X->Ju bh w X:=fun X bf=>Ju.of_below bf;have bT:∀ X V,Bq w X->Ju F X V->Ju bh w V:=fun X V bf bk=>(Ju.of_below bf).trans (bk.mono fun k _ e=>bO k e);have ff:∀ n∈ns,n.op=0->∀ X,Bq w X->Cq 48 #[Pq s,.string n.tn] X fun e w'=>Bq X w'/\∃ g c,e=.returned (.tuple #[Sq g (Jhd Ts n.tn).length c,.bool true])/\X.heap.size<=g/\g<w'.heap.size/\Kc w' (some (Aq g)) (Jhd Ts n.tn):=fun n I h0 X bf=>by
  have H:=cC n I h0;have dH:=Ob3 H;have cu:Jhd Ts n.tn=Ts[Ub Ts n.tn].types:=by unfold Jhd;rw[Oa3 H];rfl
  rw[cu];have ci:=(dh _ dH).cols;exact Kbe n.tn X G s d Ts sv bs (cx.below bf) (Ub Ts n.tn) rfl H (fun e=>by rw[e]at ci;simp at ci) zo
 have fe:∀ n∈ns,n.op=0->Jcm E Ts n.tn=some (Ye E Ts n.tn):=fun n I h0=>by
  have H:=cC n I h0;unfold Ye Jcm;rw[Oa3 H];rfl
 have ht:∀ n∈ns,n.op=0->∀ cs,Ye E Ts n.tn=.inl cs->Zt (Jhd Ts n.tn) cs:=fun n I h0 cs dK=>by
  have H:=cC n I h0;have cu:Jhd Ts n.tn=Ts[Ub Ts n.tn].types:=by unfold Jhd;rw[Oa3 H];rfl
  have M:Ye E Ts n.tn=Zo E Ts[Ub Ts n.tn]:=by unfold Ye Jcm;rw[Oa3 H];rfl
  rw[cu];exact dR _ (Ob3 H) cs (M.symm.trans dK)
 have cF:Ktc (Jhd Ts) bJ ns (Ye E Ts):=fun n I h0=>by
  by_cases bi:n.op=5
  ·exact Kwa.at bx (by rw[bi];exact Kzl)
  by_cases bK:n.op=6
  ·exact Kwa.at bx (by rw[bK];exact Kyy)
  exact dQ n I h0 bi bK
 have fE:∀ sch∈bJ,1<=sch.length->True:=fun _ _ _=>trivial;have fg:=fun X (bf:Bq w X)=>Kwu nb no cK s d F E lim bG z bu bl sd (PSp (Ye E Ts) ns) (ERd (Ye E Ts) ns bu E bA bE bB pg q wr)
  (Kwc w.heap.size bJ) X (fun j nd Z=>(cV j nd Z).below bf) zo zo zo zo zo zo dd de
  (fun y cE=>by
   have Y:=Jb bf cE;have cc:=cf y (cz y Y);refine(Jvh bx nb no cK bG hl s y (fun j nd Z=>(cV j nd Z).below Y) (fun j n nd Z dT=>by
    have bj:=hI y (cz y Y) j n nd Z dT;have cI:=Of6 Z;by_cases h0:n.op=0
    ·exact Koi bx Z bj h0 s fun bR bU=>ff n cI h0 bR (Jb Y bU)
    by_cases bi:n.op=5
    ·exact Kxt bx Z bj bi _ cc.m2.cp cc.m2.ce
    by_cases bK:n.op=6
    ·exact Kw7 bx Z bj bK _ cc.m2.cp cc.m2.ce
    exact(da j n Z h0 bi bK).chk bj _)).mono fun e w' hp=>?_
   obtain⟨fv,sv',rfl,fq,bP,bI,cL⟩:=hp;obtain⟨a,c,rfl⟩:=Jcz bP;have dm:=Y.size;exact⟨a,_,c,rfl,fq,_,fv,zo,bP,bI,fun x dl=>⟨(cL x dl).1,fun g o e=>by have:=(cL x dl).2 g o e;omega⟩⟩)
  (fun v W cP hb bC=>bC.below hb)
  (fun y sc cE dZ j nd Z=>by
   have Y:=Jb bf cE;have fF:=Y.size;have cZ:j<ns.length:=by rw[<-hl];exact(Ob9.1 Z).1
   have I:ns[j]?=some ns[j]:=Oa3 cZ;have cI:=Ob3 cZ;have bj:=hI y (cz y Y) j _ nd I Z;obtain⟨fu,fC,dp⟩:=bx.ok j _ I;have fA:=dp.le;by_cases h0:ns[j].op=0
   ·refine Kyt I (by rw[bj.op,h0];rfl) bj.tn h0 s z bu bl _ d sc bA bE bB bQ pg F E lim (bC.mono j) _ (fun v W br=>.inl br) fun W O bz bR bU=>?_;obtain⟨K,dL,dj,_⟩:=bz.ex;have dV:Ju bh w bR:=(bT y W Y bz.keep).trans (Ju.of_below bU);have cB:=cf bR dV;have dE:Jfl W G s d Ts sv bs:=(cx.below Y).stands bz.keep.size fun k H cG=>bz.keep.block k cG (cT k H);rw[<-fe _ cI h0,<-Kvh dj];exact Jou _ bR O G s d K Ts sv bs (dE.below bU) (dL.below bU) (fun T dG=>Kwo dj (dh T dG)) a0 a1 a2 cB.e bQ pg cB.m.cp cB.m.ct
   by_cases bi:ns[j].op=5
   ·obtain⟨bH,dq,dr,fL,fp⟩:=dp.sort bi;obtain⟨kb,ko,kc,db,_⟩:=bj.gk (.inr (.inr bi));have df:ns[j].l<bJ.length:=(Ob9.1 bH).1;obtain⟨sg,ft,rfl,fD,dI⟩:=dZ.at df;have fc:1<=fu.length:=by
     cases hgk:ns[j].gk with
     |nil=>rw[hgk]at dr;exact absurd dr zS
     |cons k ks=>have:=fp k (by rw[hgk];exact Of4);omega
    have cY:=(cf w (Ju.refl _ _)).m;have cU:¬ F 5/\¬ F 6:=⟨fun e=>by have:=bZ _ (bO _ e);have:=Jb0 cA.m.cq;omega,fun e=>by have:=bZ _ (bO _ e);have:=Jb0 cA.m.cw;omega⟩;refine Kyb bx cF ht I bi (by rw[bj.op,bi];rfl) bj.l z bu bl _ _ d sg 0 bJ.length ft kb ko kc db df F E lim _ a0 a1 a2 q wr pg (fun sch cj=>?_) (fun sch cj=>bC.tys sch (Of6 cj)) dJ zo (fun fw b cP dP ci fh bD=>.inr ⟨fw,b,rfl,dP,⟨_,I,bi,bD⟩,ci,fh⟩) pr gf bC.gdn (bC.top _) (bC.cap j _ I bi);rw[bH]at cj;cases cj
    obtain⟨tb,to_,tc,fm,fo,fG,fH⟩:=dI _ _ bH fc;refine⟨tb,to_,tc,⟨fun V bk=>?_,⟨cU.1,cU.2,?_,?_⟩,by rw[Od0];exact fm,fun e=>by have:=bS _ e;omega⟩⟩
    ·have bV:=bT y V Y bk;have cb:=cf V bV;refine⟨fo.of_block bk.size fun b o e hb=>bk.block b hb fun M=>?_,?_,cb.e,cb.m.cq,cb.m.cw,cb.m.cp⟩
     ·cases e
      have:=bS _ M;omega
     obtain⟨fI,fK,fJ,dc,dW⟩:=(hI V bV j _ nd I Z).gk (.inr (.inr bi));rw[db]at dc;cases dc
     exact dW
    ·have:=Jb0 cY.cq;omega
    have:=Jb0 cY.cw;omega
   by_cases bK:ns[j].op=6
   ·refine Ku2.of ⟨by rw[bj.op];omega,by rw[bj.op];omega⟩ (bC.mono j) fun V cD bk=>?_;have:=(Kw3 bx cF ht I (hI V (bT y V Y bk) j _ nd I Z) bK s z bu bl (Iq sd) (Pq d) sc bA bE bB pg).mono (ER':=ERd (Ye E Ts) ns bu E bA bE bB pg q wr) fun _ _ br=>.inl br;rw[cD]at this;exact this
   refine Ku2.of ⟨by rw[bj.op];omega,by rw[bj.op];omega⟩ (bC.mono j) fun V cD bk=>?_;have bV:=bT y V Y bk;have ca:=dB V bV;have:=((da _ _ I h0 bi bK).wrk (hI V bV j _ nd I Z) s z bu bl sd (Pq d) sc bA bE bB pg cJ ⟨fi,fj,⟨dd,de⟩,fd,⟨ca.cd,ca.co⟩,ca.cg,ca.cm,dS j _ I,dU j _ I⟩).mono (ER':=ERd (Ye E Ts) ns bu E bA bE bB pg q wr) fun _ _ br=>.inl br;rw[cD]at this;exact this)
  (fun j v W cP hb br=>br.below hb) ⟨by simp[stN],fun k m H=>absurd H (Oe0 _)⟩
  ⟨Ju.refl _ _,⟨E,dx.below bf,⟨fun _=>rfl,rfl,rfl,rfl⟩,dM⟩,fun k H=>.inl H,fun k H=>Oc2 (bS k H) bf.size⟩ (bC.upto _)
 rw[<-hl];refine(Qae F st d s _ z bu bl sd w cv bS cy (fun X a b W=>Kx1 bG.length (PSp (Ye E Ts) ns) (ERd (Ye E Ts) ns bu E bA bE bB pg q wr) F d E (lim bG.length) X (.returned (.tuple #[a,b])) W) (fun y l c nd row col pg W=>R y l c nd row col pg W/\w.heap.size+3<=y.heap.size/\y.heap.size<=W.heap.size/\∃ O K,Zb W O d K/\Kft E K/\dz K<=lim bG.length/\(∀ k,O k->F k\/w.heap.size+3<=k)/\∀ k,O k->k<y.heap.size) (fun X bf=>(fg X bf).mono fun e w' hp=>?_) (fun X a b y bf fx Y hp=>?_) (fun y l c nd row col bN bX bY dm H hr=>?_)).mono fun e w' hp=>?_
 ·have di:=hp;obtain⟨O,bz,⟨x,dt,rfl,_⟩|⟨j,v,eb,rfl,_⟩⟩:=hp
  ·exact⟨bz.keep,_,_,rfl,di⟩
  exact⟨bz.keep,_,_,rfl,di⟩
 ·have fk:=Y.size;obtain⟨O,bz,dN⟩:=hp;have cX:∀ w',Bq y w'->w.heap.size+3<=y.heap.size/\y.heap.size<=w'.heap.size/\∃ O K,Zb w' O d K/\Kft E K/\dz K<=lim bG.length/\(∀ k,O k->F k\/w.heap.size+3<=k)/\∀ k,O k->k<y.heap.size:=fun w' hb=>by
   obtain⟨K,g1,g2,dv⟩:=bz.ex;exact⟨zo,hb.size,O,K,g1.below hb,g2,dv,fun k H=>(bz.ffr k H).imp id fun e=>zo,bz.flt⟩
  rcases dN with⟨x,dt,br,bP,_,bI⟩|⟨j,v,eb,br,bP,bI,cL⟩
  ·cases br
   rw[hl]at bI;have cH:Jac (Ye E Ts) ns=x.2.2:=by
    unfold Jac;rw[<-bI.1,Ob8];simp
   obtain⟨sch,_,bM⟩:=Juy bx cF ht bI.2;have dg:=dY bI.2;rw[cH]at bM dg;refine(Jrn x.1 (Kut x.2.1 x.2.2.length) x.2.1 x.2.2 (nR x.2.2) y bP bM.rows bM.one bM.few dg).mono fun e w' hp=>?_;obtain⟨bH,du,bs',rfl,dq⟩:=hp;refine⟨bH,_,0,-1,-1,-1,-1,rfl,dD _ _ _ _ _ _ _ _ ⟨rfl,rfl,rfl,rfl,rfl,bI.2,du,bs',?_,?_⟩,cX w' bH⟩
   ·rw[cH]
   rw[cH];exact dq
  cases br
  refine(dO y (bT X y bf Y) j v eb bI bP).mono fun e w' hp=>?_;obtain⟨bH,l,c,nd,row,col,bN,br,hr⟩:=hp;exact⟨bH,l,c,nd,row,col,bN,br,hr,cX w' bH⟩
 ·obtain⟨fr,ds,fs,O,K,cM,cN,cO,bL,cn⟩:=hr;refine⟨dC _ _ _ _ _ _ _ _ _ dm (fun k U=>H k zo) fr,ds,zo,O,K,cM.stands fun k U _=>H k fun e=>?_,cN,cO,bL,cn⟩;rcases bL k U with M|M
  ·have:=bS k M;omega
  omega
 obtain⟨H,y,l,c,nd,row,col,bN,_,fk,rfl,hr,ds,fs,O,K,cM,cN,cO,bL,cn⟩:=hp;have fl:=H.size;refine⟨H.mono fun k _ e=>bO k e,y,l,c,nd,row,col,bN,zo,rfl,hr,fun k=>bh k\/O k,K,⟨⟨d,s,O,G,sv,bs,?_,cx.stands fl fun k U cG=>H.block k cG (cT k U),cM,fun k U e=>?_,fun e=>?_,fun g bM e=>?_,fun e=>?_,dy,dA,dw,fun k U=>?_⟩,fun k U=>?_⟩,cN,cO,fun k U=>.inl U,fun k U=>?_,fun k U=>?_⟩
 ·unfold Jdu at cv |-;exact(H.block st (bD st (hM st (.inr (.inr (.inr rfl))))) cy).trans cv
 ·rcases bL k e with M|M
  ·exact cQ k U M
  have:=bD k (hM k (.inr (.inl U)));omega
 ·rcases bL s e with M|M
  ·exact cR M
  have:=bD s (hM s (.inr (.inr (.inl (.inl rfl)))));omega
 ·rcases bL g e with M|M
  ·exact cS g bM M
  have:=bD g (hM g (.inr (.inr (.inl (.inr bM)))));omega
 ·rcases bL st e with M|M
  ·exact cy M
  have:=bD st (hM st (.inr (.inr (.inr rfl))));omega
 ·rcases U with e|e
  ·exact .inr e
  exact .inl (hM k (.inr e))
 ·rcases U with e|e
  ·have:=bD k e;omega
  have:=cn k e;omega
 ·rcases U with e|e
  ·exact .inl e
  exact(bL k e).elim (fun e=>.inl (bO k e)) fun e=>.inr zo
 rcases U with e|e
 ·have:=bD k e;omega
 exact cn k e
theorem Qas (y:Nat->Prop)(st:Nat)(E:DS)(Ts:List TS)w(h:Sto y w st E Ts)(ca:∀ T∈Ts,Jid E T)(bO:∀ T∈Ts,∀ cs,Zo E T=.inl cs->Zt T.types cs)a0 a1 a2 bz q wr pg pl ex ta w0(bk:Jax w0 a0 a1 a2 bz q wr pg pl ex ta)(bH:Bq w0 w)(bA:∀ k,y k->w0.heap.size<=k)(ns:List PN)(K:List (List Int))(bC:Jdk (Jhd Ts) K ns)(bE:∀ n∈ns,n.op=0->Ub Ts n.tn<Ts.length)(bW:Jd7 (Ye E Ts) ns ns.length->nR (Jac (Ye E Ts) ns)<=10000)(bN:∀ n∈ns,n.op≠0->n.op≠5->n.op≠6->Kwr (Jhd Ts) K ns (Ye E Ts) n)(bR:∀ (j:Nat) (n:PN),ns[j]?=some n->n.op≠0->n.op≠5->n.op≠6->Qb4 K ns (Ye E Ts) j n)(bP:∀ (j:Nat) (n:PN),ns[j]?=some n->n.op=4->Jd7 (Ye E Ts) ns j->nR (Jbs n (stN (Ye E Ts) ns j))<=20000)(bQ:∀ (j:Nat) (n:PN),ns[j]?=some n->n.op=3->Jd7 (Ye E Ts) ns j->(jnN n (stN (Ye E Ts) ns j)).length<=2000)(nb no bx:Nat)(O:List Nd)(hl:O.length=ns.length)(bB:∀ (j:Nat) (nd:Nd),O[j]?=some nd->Zm w nb (no+j*7) nd)(hI:∀ V,Ju y w V->∀ (j:Nat) (n:PN) (nd:Nd),ns[j]?=some n->O[j]?=some nd->Jnm V n nd)(z bu:Nat)(bl sd:Int)(cf:1<=z)(ci:z<=1000)(bI:2<=bu)(bJ:bu<=1000)(bS:0<=bl)(bT:bl<=4096)(cb:Jg sd)(pr:Nat)(gf:Nat->Nat)(lim:Nat->Nat)(bD:Kzh (Ye E Ts) ns K bu pr gf lim)(bK:dz E<=lim 0)(bZ:∀ (Y bf Z:Addr) (j:Nat) (v:Value) (W:World),¬ ERp (Ye E Ts) ns Y bf Z pg j v W)(bY:∀ (j:Nat) (n:PN),ns[j]?=some n->bu<nR (Jbs n (stN (Ye E Ts) ns j))->∀ bj,¬ Ksy E bj):
  Cq 15 #[Pq st,.agg #[Sr nb no ns.length bx],.agg #[Iq (z:Int),Iq (bu:Int),Iq bl,Iq sd]] w fun e w'=>Ju y w w'/\Jd7 (Ye E Ts) ns ns.length/\∃ U g bs H I,e=.returned (.tuple #[Sq g (nR (Jac (Ye E Ts) ns)) (nR (Jac (Ye E Ts) ns)),Ko 0 (-1) (-1) (-1) (-1)])/\w.heap.size<=U/\Jcu w' U g bs (Qf (nR (Jac (Ye E Ts) ns)) (Jac (Ye E Ts) ns)) /\
   Sto H w' st I Ts/\Kft E I/\dz I<=lim ns.length/\(∀ k,y k->H k)/\(∀ k,H k->y k\/w.heap.size<=k)/\∀ k,H k->k<U:=by
 obtain⟨Y,bf,Z,cj,bV,cG⟩:=bk.m3;refine(Kwg y st E Ts w h ca bO a0 a1 a2 bz q wr pg pl ex ta w0 bk bH bA ns K bC bE bW bN bR bP bQ nb no bx O hl bB hI z bu bl sd cf ci bI bJ bS bT cb pr gf lim bD bK (Qbt (Ye E Ts) ns) (fun M l c nd row col pg cD cE cH br hr=>?_) (fun M l c nd row col pg W hr=>hr) Y bf Z cj bV fun M cF j v eb bh cJ=>?_).mono fun e w' hp=>?_
 ·obtain⟨cn,cu,cv,cx,cy,cz,g,bs',cA,bi⟩:=hr;exact⟨cn,cu,cv,cx,cy,cz,g,bs',cA,bi.of_blocks (br g bi.from_.1) fun b hb=>br b (bi.from_.2 b hb).1⟩
 ·rcases bh with bh|⟨bj,_,_,_,⟨n,bX,_,bU⟩,_,cc⟩
  ·exact(bZ _ _ _ _ _ _ bh).elim
  exact(bY _ n bX bU bj cc).elim
 obtain⟨hb,M,l,c,nd,row,col,cI,bG,rfl,⟨rfl,rfl,rfl,rfl,rfl,bL,g,bs,rfl,bM⟩,H,I,s1,s2,s3,s4,cB,cC⟩:=hp;exact⟨hb,bL,M.heap.size,g,bs,H,I,rfl,bG,bM,s1,s2,s3,s4,cB,cC⟩
end
open Go.RowKit Go.Shelf
theorem Qbm t xs(h:Jdq t xs):(Jav t 0 xs).length<=4+42*xs.length:=by
 have y:(Jdt t 0 (Jz xs)).length<=41*(Jz xs).length:=by
  unfold Jdt;rw[if_pos rfl];exact Jgg _ (Jgz t xs h)
 have H:=Zy xs;exact zaU
theorem Sg.row {ts cs ks}(h:Sg ts cs ks)(y:ts.length<=6){ids}(I:∀ i∈ids,i<nR cs)(O:1<=ids.length)(hl:ids.length<=64):(Qu (Kr4 ts (Jba ids cs) ts.length)).length<=6*ids.length:=by
 have hlen:=h.good.len;have hC:=(h.lay I hl).1;have K:∀ c,c<ts.length->(Ksq ts (Jba ids cs) c).length<=4+42*ids.length:=fun c H=>by
  have:=Qbm _ _ (hC.ok c H).2;rw[Kr0 ids zo]at this;exact this
 have htot:∀ k,k<=ts.length->(Kr4 ts (Jba ids cs) k).length<=(4+42*ids.length)*k:=by
  intro k;induction k with
  |zero=>intro _;simp[Kr4]
  |succ k M=>intro U;rw[Ksl,Oa8,Nat.mul_succ];have:=M zo;have:=K k zo;omega
 have ht:=htot ts.length (Oa2 _);have:(4+42*ids.length)*ts.length<=(4+42*ids.length)*6:=Nat.mul_le_mul_left _ y;have:=Jio (Kr4 ts (Jba ids cs) ts.length);omega
def psN (q:Nat):Nat:=if q<=2 then 0 else if q<=4 then 1 else if q<=8 then 2 else if q<=16 then 3 else if q<=32 then 4 else if q<=64 then 5 else if q<=128 then 6 else q
theorem Kxp {bu}(hb:2<=bu)q(h:bu<q):psN (ckN q bu)+1<=psN q:=by
 have y:=Kup (q:=q) hb;generalize ckN q bu=m at y |-;unfold psN;repeat' split
 all_goals omega
theorem Qbg {n bu}(U:n<=200)(hb:2<=bu)(O:n+bu<=231):psN (ckN n bu)<=6/\2*6*bu*ckN n bu+6*n*psN (ckN n bu)<=10000:=by
 have H:ckN n bu<=100:=by have:=Kup (q:=n) hb;omega
 have I:bu*ckN n bu<=n+bu-1:=by unfold ckN;exact Nat.mul_div_le _ _
 have y:psN (ckN n bu)<=6:=by unfold psN;(repeat' split)<;>omega
 refine⟨y,?_⟩;have K:6*n*psN (ckN n bu)<=6*200*6:=Ol5 zo y;have M:2*6*bu*ckN n bu=12*(bu*ckN n bu):=by rw[Nat.mul_assoc]
 omega
