/- fewRuns. -/
import Derived.Test.YtjbenncelbpbnaaGreatDoorOk
import Derived.Test.YtjbenncelbpbnaaGreatDoorOh
import Derived.Test.YtjbenncelbpbnaaGreatDoorYf
set_option maxHeartbeats 4000000
set_option maxRecDepth 100000
namespace Go.Proofs.YtjbenncelbpbnaaGreatDoor
section
open Go.RowKit Go.Shelf Tryz
def Kvj (y:SC)(z lim:Nat)(ev:Value)(w':World):Prop:=∃ I H M mv K b,ev=.iface 156 (.pointer (some ⟨b,0,none⟩))/\SI y w' I H M mv (z:Int)/\Yu w' (.iface 156 (.pointer (some ⟨b,0,none⟩))) (if K=true then y.q else y.qw) none (some (-1))/\y.w0.heap.size<=b/\¬ I b/\Kso y.D0 K/\dz H<=lim
def Kxy (K:SC)(z q n lim O:Nat)(g:Nat->Nat)(rv:Value)(w':World):Prop:=∃ I y H mv idx M,Ks4 K z w' I y H mv rv idx M/\idx.length=q/\1<=q/\q<=50000/\H.length+q+g q<=O/\dz y+n*g q<=lim
theorem Ky4.split {K w w' z q ml lim}{e:Ending}{Y}(h:Ky4 K w z q ml Y e w')(hl:Y<=lim)(hw:K.w0.heap.size<=w.heap.size):(∃ rv,e=.returned (.tuple #[rv,.nilIface])/\∃ I y H mv idx M,Ks4 K z w' I y H mv rv idx M/\idx.length=q/\H.length=ml/\dz y<=Y)\/∃ b,e=.returned (.tuple #[.slice none 0 0,.iface 156 (.pointer (some ⟨b,0,none⟩))])/\Kvj K z lim (.iface 156 (.pointer (some ⟨b,0,none⟩))) w':=by
 rcases h with⟨I,y,H,mv,rv,idx,M,O,U⟩|⟨I,y,H,mv,bk,b,O,U,Z,bf,bh,bi,bj⟩
 ·exact .inl ⟨rv,O,I,y,H,mv,idx,M,U⟩
 exact .inr ⟨b,O,I,y,H,mv,bk,b,rfl,U,Z,Ob2 hw bf,bh,bi,Ob2 bj hl⟩
theorem Kug {q bu}(hb:2<=bu):2*ckN q bu<=q+1:=by
 unfold ckN;rcases Oj2 q with h|h
 ·subst h;rw[Op6 zo];omega
 have H:(q+bu-1) / bu<=(q+1) / 2:=by
  refine Nat.le_of_lt_succ ((Nat.div_lt_iff_lt_mul zo).2 ?_);have I:(q+1) / 2*bu>=(q+1) / 2*2:=Nat.mul_le_mul_left _ hb;have y:((q+1) / 2+1)*bu=(q+1) / 2*bu+bu:=Of5 _ _;rw[y];omega
 omega
theorem Kxy.pass {y}(hK:SK y){z q lim H bu pr:Nat}{g rv w}(h:Kxy y z q (pr*nR y.cs) lim H g rv w)(bz:y.bu=(bu:Int))(br:2<=bu)(bx:bu<=50000)(bG:1<=z)(bH:z<=64)(bD:∀ x,x<nR y.cs->(Qu (Kr3 y.ts (Jba [x] y.cs) y.ts.length)).length<=pr)(bj:nR y.cs<=50000)(hM:H<=900000)(bO:lim<=930000)(hq:bu<q)(bB:g (ckN q bu)+1<=g q):
  Calls prog 206 #[.pointer (some ⟨y.sb,0,none⟩),rv] w fun e w'=>(∃ rv',e=.returned (.tuple #[rv',.nilIface])/\Kxy y z (ckN q bu) (pr*nR y.cs) lim H g rv' w')\/∃ b,e=.returned (.tuple #[.slice none 0 0,.iface 156 (.pointer (some ⟨b,0,none⟩))])/\Kvj y z lim (.iface 156 (.pointer (some ⟨b,0,none⟩))) w':=by
 obtain⟨O,K,bf,mv,idx,Y,I,rfl,bi,bK,bL,bM⟩:=h;have bC:pr*nR y.cs*(g (ckN idx.length bu)+1)<=pr*nR y.cs*g idx.length:=Nat.mul_le_mul_left _ bB;rw[Nat.mul_add,Nat.mul_one]at bC;refine(Kw5 y hK w O K bf mv rv idx Y z bu pr I bz zo bx bG bH bD bi zo zo bj zo).mono fun e w' hp=>?_;rcases hp.split (lim:=lim) zo I.si.old.size with⟨rv',bA,U,M,bh,bJ,bI,Z,bk,bE,bP,bN⟩|hp
 ·refine .inl ⟨rv',bA,U,M,bh,bJ,bI,Z,bk,bE,Khi zo zo,?_,?_,zo⟩
  ·have:=Kg4 idx.length bu zo;omega
  have:=Kug (q:=idx.length) br;omega
 exact .inr hp
def Qdc (H:SC)(z bu lim:Nat)(e:Ending)(w':World):Prop:=
 (∃ rv,e=.returned (.tuple #[rv,.nilIface])/\∃ I y M mv idx K,Ks4 H z w' I y M mv rv idx K/\1<=idx.length/\idx.length<=bu/\dz y<=lim)\/∃ ev,e=.returned (.tuple #[.slice none 0 0,ev])/\Kvj H z lim ev w'
theorem zaS {p:Prop}(h:p:=by
 have I:=Krx H;clear H hrel;go_wp2;go_ret2
 exact .inr ⟨_,rfl,I.out⟩):p:=h
theorem Kzu (y:SC)(hK:SK y)w(F:Nat->Prop)(E:DS)(bl:Int)(h:SI y w F E [] (.slice none 0 0) bl)(bf cp:Nat)(hs:List (Option Addr×Nat))(hC:Qd y.w0 bf hs y.cs)(bC:Jbo bf hs y.cs.length (fun b=>b<y.w0.heap.size/\¬ y.F0 b))(bu pr:Nat)(bk:y.bu=(bu:Int))(bG:2<=bu)(bH:bu<=50000)(bW:1<=nR y.cs)(bD:nR y.cs<=50000)(br:∀ ch:List Nat,(∀ t∈ch,t<nR y.cs)->1<=ch.length->ch.length<=64->(Qu (Kr3 y.ts (Jba ch y.cs) y.ts.length)).length<=pr*ch.length)(g:Nat->Nat)(bK:∀ q,bu<q->g (ckN q bu)+1<=g q)(bL:g (ckN (nR y.cs) bu)<=100000)(lim:Nat)(bY:lim<=930000)(bI:dz E+2*pr*bu*ckN (nR y.cs) bu+pr*nR y.cs*g (ckN (nR y.cs) bu)<=lim)(z:Nat)(bx:z=min (max (bu / ckN (nR y.cs) bu) 1) 64):
  Calls prog 156 #[.pointer (some ⟨y.sb,0,none⟩),.slice (some ⟨bf,0,none⟩) y.cs.length cp] w (Qdc y z bu lim):=by
 have cb:=h.old.size;obtain⟨⟨_,_,s2⟩,_⟩:=h.st.field;have hcut:=Kz4 y hK w F E bl h bf cp hs hC bC bu pr bk zo bH bW bD br zo z bx;have bJ:=hcut.mono fun e w' hp=>hp.split (lim:=lim) zo cb;have bO:1<=ckN (nR y.cs) bu:=Khi zo zo;have bP:ckN (nR y.cs) bu<=nR y.cs:=Kg4 _ _ zo;have bQ:1<=z/\z<=64:=by rw[bx];generalize bu / ckN (nR y.cs) bu=cx;omega
 have bN:∀ x,x<nR y.cs->(Qu (Kr3 y.ts (Jba [x] y.cs) y.ts.length)).length<=pr:=fun x cc=>by
  have:=br [x] (fun t ht=>by rw[Oc6.1 ht];exact cc) (Oa2 _) (by rw[List.length_singleton];omega);rw[List.length_singleton,Nat.mul_one]at this;exact this
 have bS:Hid (∀ q rv W,bu<q->Kxy y z q (pr*nR y.cs) lim 900000 g rv W->Calls prog 206 #[.pointer (some ⟨y.sb,0,none⟩),rv] W fun e w'=>(∃ rv',e=.returned (.tuple #[rv',.nilIface])/\Kxy y z (ckN q bu) (pr*nR y.cs) lim 900000 g rv' w')\/∃ b,e=.returned (.tuple #[.slice none 0 0,.iface 156 (.pointer (some ⟨b,0,none⟩))])/\Kvj y z lim (.iface 156 (.pointer (some ⟨b,0,none⟩))) w'):=fun q rv W hq M=>M.pass hK bk bG bH bQ.1 bQ.2 bN bD (Oa2 _) bY hq (bK q hq);have bz:Hid (∀ rv W q,Kxy y z q (pr*nR y.cs) lim 900000 g rv W->W.cell? ⟨y.sb,2,none⟩=some (.int .i64 (bu:Int))/\∃ a c,rv=.slice a q c):=fun rv W q ⟨U,O,Z,mv,idx,Y,K,hq,_⟩=>by
  refine⟨?_,?_⟩
  ·have:=K.si.st.field.1.2.2;rw[bk]at this;exact this
  obtain⟨a,c,e,_⟩:=K.own.cells;rw[Oa6,Oa6,hq]at e;exact⟨a,c,e⟩
 have bh:=Krx bJ;have bT:Hid (1<=ckN (nR y.cs) bu/\ckN (nR y.cs) bu<=nR y.cs/\dz E+2*pr*bu*ckN (nR y.cs) bu+pr*nR y.cs*g (ckN (nR y.cs) bu)<=lim/\g (ckN (nR y.cs) bu)<=100000):=⟨bO,bP,bI,bL⟩;have bR:Hid (∀ q,bu<q->ckN q bu<q):=fun q hq=>by have:=Kug (q:=q) bG;omega
 clear hcut bJ br bN h hC bC bx bI bK bL s2 bO bP;go_enter func156,ntmps156
 go_wp2_with (go_at_call 205;refine bh.out.mono ?_)
 rintro e bB (⟨rv,rfl,U,O,Z,mv,idx,Y,K,hq,ca,bX⟩|⟨b,rfl,H⟩)
 ·have bj:Kxy y z (ckN (nR y.cs) bu) (pr*nR y.cs) lim 900000 g rv bB:=by
   have:=bT.out;exact⟨U,O,Z,mv,idx,Y,K,hq,zo,zo,zo,zo⟩
  have bA:=Krx bj;obtain⟨_,a,c,rfl⟩:=bz.out rv bB _ bj;clear bj K hq ca bX bh;go_wp2;go_loopg [6,7] (ckN (nR y.cs) bu+1) (fun k rv ev wr=>Hid ((ev=.nilIface/\∃ q,k=q+1/\Kxy y z q (pr*nR y.cs) lim 900000 g rv wr)\/(rv=.slice none 0 0/\∃ b,ev=.iface 156 (.pointer (some ⟨b,0,none⟩))/\Kvj y z lim (.iface 156 (.pointer (some ⟨b,0,none⟩))) wr)))
  case atStart=>exact .inl ⟨rfl,_,rfl,bA.out⟩
  case round=>
   clear bA;rcases hrel.out with⟨rfl,q,rfl,M⟩|⟨rfl,b,rfl,H⟩
   ·obtain⟨c2,a,c,rfl⟩:=bz.out _ _ _ M;by_cases bM:bu<q
    ·have bZ:(bu:Int)<(q:Int):=zo;have bi:=Krx (bS.out q _ _ bM M);clear M hrel;go_wp2_with (go_at_call 206;refine bi.out.mono ?_)
     rintro e cf (⟨rv',rfl,bE⟩|⟨b,rfl,H⟩)
     ·have bV:=Krx bE;clear bE bi;go_wp2;go_roundg (ckN q bu+1)
      case rel=>exact .inl ⟨rfl,_,rfl,bV.out⟩
      case measure=>have:=bR.out q bM;omega
     have I:=Krx H;clear H bi;go_wp2;go_roundg 0
     case rel=>exact .inr ⟨rfl,b,rfl,I.out⟩
     case measure=>omega
    have bZ:¬ (bu:Int)<(q:Int):=zo;have bU:=Krx M;clear M hrel;go_wp2;go_ret2
    obtain⟨U,O,Z,mv,idx,Y,K,ci,cj,cn,cu,cv⟩:=bU.out;exact .inl ⟨_,rfl,U,O,Z,mv,idx,Y,K,zo,zo,zo⟩
   exact zaS
 have I:=Krx H;clear H bh;go_wp2;go_loopg [6,7] 1 (fun k rv ev wr=>Hid (rv=.slice none 0 0/\ev=.iface 156 (.pointer (some ⟨b,0,none⟩))/\Kvj y z lim (.iface 156 (.pointer (some ⟨b,0,none⟩))) wr))
 case atStart=>exact⟨rfl,rfl,I.out⟩
 case round=>
  clear I;obtain⟨rfl,rfl,H⟩:=hrel.out;exact zaS
theorem Kxr (u:FrameMode)(sb d:Nat)bz(cj:Nat)(y:List Mr)(ts:List Int)(cs:Cs)w(F:Nat->Prop)(D:DS)(bX:w.cell? ⟨sb,3,none⟩=some (.pointer (some ⟨d,0,none⟩)))(cB:w.cell? ⟨sb,5,none⟩=some (.slice bz y.length cj))(bI:Uh w bz (y.map fun m=>.pointer (some ⟨m.rb,0,none⟩)))(bK:¬ F sb)(cb:∀ x o,bz=some ⟨x,o,none⟩->¬ F x)(bY:Zb w F d D)(hF:∀ k,F k->k<w.heap.size)(hM:∀ m∈y,Kxa w F ts cs m)(hl:∀ m∈y,m.R.bs.length<=1000000/\∀ b∈m.R.bs,b.l.length<=1000000)(hn:y.length<=9223372036854775807):
  CallsD prog 155 #[.pointer (some ⟨sb,0,none⟩)] u w fun e cn w'=>cn=u/\(e=.returned (.tuple #[])/\Zb w' F d (Jcg D (y.flatMap Mr.ls))/\Ju F w w'):=by
 have bQ:Hid (∀ m∈y,Kxa w F ts cs m/\m.R.bs.length<=1000000/\∀ b∈m.R.bs,b.l.length<=1000000):=fun m bH=>⟨hM m bH,hl m bH⟩;clear hM hl;go_enter_d func155,ntmps155
 go_wp2;go_loopw [11] (fun iv wr=>∃ i:Nat,iv=.int .i64 i/\i<=y.length/\Zb wr F d (Jcg D ((y.take i).flatMap Mr.ls))/\Ju F w wr) (fun iv _=>y.length-(intOf iv).toNat)
 case atStart=>exact⟨0,rfl,Ob7 _,bY,Ju.refl _ _⟩
 case round=>
  rename_i iv
  obtain⟨i,rfl,hi,Y,hK⟩:=hrel;by_cases O:i<y.length
  ·have ci:(i:Int)<(y.length:Int):=zo;obtain⟨cz,cA,rfl,cC,bB⟩:=(bI.on hK.size fun x o e=>hK.block x (by
    rcases bI with bC|⟨cH,cG,M,bj,_⟩
    ·rw[List.map_eq_nil_iff]at bC;rw[bC]at O;simp at O
    rw[e]at M;simp at M;rw[M.1];exact bj) (cb x o e)).at (i:=i) (by simpa using O)
   rw[Od9]at bB;obtain⟨bk,cD,bE⟩:=bQ.out y[i] (Ob3 O);have H:=bk.keep hK;obtain⟨_,bW,_,_⟩:=H.1.fields;have bU:Hid ((y.take (i+1)).flatMap Mr.ls=(y.take i).flatMap Mr.ls++Mr.ls y[i]):=by show _=_;rw[Oc4 O,Oe8];simp
   have bO:=zh bk;have bP:=zh bE;clear bk H bE;generalize y[i]=m at *;go_wp2;go_loopw [20] (fun bh bN=>∃ j:Nat,bh=.int .i64 j/\j<=m.R.bs.length/\Zb bN F d (Jcg D ((y.take i).flatMap Mr.ls++(m.R.bs.take j).map (·.l)))/\Ju F w bN) (fun bh _=>m.R.bs.length-(intOf bh).toNat)
   case atStart=>exact⟨0,rfl,Ob7 _,by simpa using Y,hK⟩
   case round=>
    rename_i bh
    clear Y hK bW bB;obtain⟨j,rfl,cE,Z,hK⟩:=hrel;by_cases K:j<m.R.bs.length
    ·have cf:(j:Int)<(m.R.bs.length:Int):=zo;have H:=bO.out.keep hK;obtain⟨U,bi,bG,cF,bL⟩:∃ U bi,m.ba=some ⟨U,bi,none⟩/\U<wr.heap.size/\∀ i v,(m.R.bs.flatMap (Bk.cells ts.length))[i]?=some v->wr.cell? ⟨U,bi+i,none⟩=some v:=by
      rcases H.1.arr with e|⟨x,o,M,bj,bV⟩
      ·exfalso;cases hbs:m.R.bs with
       |nil=>rw[hbs]at K;simp at K
       |cons b l=>rw[hbs]at e;simp[Bk.cells]at e
      exact⟨x,o,M,bj,bV⟩
     have bf:∀ t v,(Bk.cells ts.length m.R.bs[j])[t]?=some v->wr.cell? ⟨U,bi+(j*3+t),none⟩=some v:=fun t v ht=>bL _ v (by
      have:=Qb3 (fun b:Bk=>Bk.cells ts.length b) 3 (fun b=>rfl) m.R.bs j K t (by have:=(Ob9.1 ht).1;simpa [Bk.cells] using this);rw[this];exact ht)
     have cu:=bf 0 _ rfl;have x1:=bf 1 _ rfl;have x2:=bf 2 _ rfl;rw[Nat.add_zero]at cu;rw[<-On5]at x1 x2;have bx:=H.1.blk m.R.bs[j] (Ob3 K);have c3:=hK.cell bX bK;have bS:Hid (∀ X,Below wr.heap.size wr X->Calls prog 96 #[.pointer (some ⟨d,0,none⟩),.slice (m.R.bs[j]).pa (m.R.bs[j]).l.length (m.R.bs[j]).pc] X fun e w'=>e=.returned (.tuple #[])/\Zb w' F d (Jf4 (Jcg D ((y.take i).flatMap Mr.ls++(m.R.bs.take j).map (·.l))) (m.R.bs[j]).l)/\Ju F X w'):=fun X bD=>Ki0 d _ _ (m.R.bs[j]).l X F _ (Z.below bD) (bx.pages.below bD) (fun x o e=>H.2.2 x (bx.pn x o e)) (bP.out _ (Ob3 K));have bT:Hid (Jcg D ((y.take i).flatMap Mr.ls++(m.R.bs.take (j+1)).map (·.l))=Jf4 (Jcg D ((y.take i).flatMap Mr.ls++(m.R.bs.take j).map (·.l))) (m.R.bs[j]).l):=by show _=_;rw[Oc4 K,Ob8,<-Od8];exact Kjz _ _ _
     rw[bG];clear bG bf bL bx H Z;generalize m.R.bs[j]=b at *;go_wp2_with fail
     have br:=Jc (Oa5 wr.heap.size wr) (.cells #[.int .i64 (b.ids.length:Nat),.slice b.la ts.length b.lc,.slice b.pa b.l.length b.pc] 359);have cv:=heap_alloc_new wr (.cells #[.int .i64 (b.ids.length:Nat),.slice b.la ts.length b.lc,.slice b.pa b.l.length b.pc] 359);have bA:=Ja br c3;have bZ:=hK.trans (Ju.of_below br);obtain⟨_,_,bM,_⟩:=Ksm cv;generalize wr.alloc (.cells #[.int .i64 (b.ids.length:Nat),.slice b.la ts.length b.lc,.slice b.pa b.l.length b.pc] 359)=cx at *;have bJ:¬ F wr.heap.size:=fun h=>by have:=hF _ h;have:=hK.size;omega
     have bR:=zh bJ;clear bJ;generalize wr.heap.size=nb at *;go_region_held3 (fun X=>X.cell? ⟨sb,3,none⟩=some (.pointer (some ⟨d,0,none⟩))/\X.cell? ⟨nb,2,none⟩=some (.slice b.pa b.l.length b.pc))
      (first|(exact⟨bA,bM⟩)|(exact ca)|(go_split_ands;constructor<;>assumption))
      (first|(go_at_call 96;refine(bS.out _ (Jp br 1)).mono ?_;rintro e cy ⟨rfl,cc,I⟩;have ca:=And.intro (I.cell bA bK) (I.cell bM bR.out)))
     go_wp2;go_roundw
     case rel=>exact⟨j+1,zn,zo,by rw[bT.out];exact cc,bZ.trans ⟨I.os,I.tape,I.output,I.size,I.block⟩⟩
     case measure=>simp[intOf];omega
    have cf:¬ (j:Int)<(m.R.bs.length:Int):=zo;go_wp2;go_roundw
    case rel=>
     refine⟨i+1,zn,zo,?_,hK⟩;rw[bU.out];rw[show m.R.bs.take j=m.R.bs from Oc8 zo]at Z;exact Z
    case measure=>simp[intOf];omega
  have ci:¬ (i:Int)<(y.length:Int):=zo;rw[Oc8 zo]at Y;go_wp2;go_end0
  exact⟨rfl,Y,hK⟩
theorem Kwh:∀ (l m:List Nat),l.Nodup->(∀ x∈l,x∈m)->l.length<=m.length
 |[],m,_,_=>Ob7 _
 |a::l,m,hn,hs=>by
  rw[Og0]at hn;have I:=Kwh l (m.erase a) hn.2 fun x H=>(List.mem_erase_of_ne (fun e:x=a=>hn.1 (e▸H))).2 (hs x (Og1 _ H));have y:=hs a Of4;rw[List.length_erase_of_mem y]at I;have:=List.length_pos_of_mem y;rw[List.length_cons];omega
theorem Kwj:∀ (y:List (List Nat)),(∀ l∈y,l≠[])->y.length<=y.flatten.length
 |[],_=>Oa2 _
 |l::y,h=>by
  have I:=Kwj y fun x H=>h x (Og1 _ H);have K:=Oi9.2 (h l Of4);rw[List.flatten_cons,Oa8,List.length_cons];omega
theorem Top.relAll {D}:∀ (y:List (List Nat)) (E:DS),Top D E y->Top D (Jcg E y) []
 |[],E,h=>h
 |l::y,E,h=>by
  have H:Top D (Jf4 E l) y:=Top.rel (a:=[]) h;exact Top.relAll y (Jf4 E l) H
theorem Kzc y:∀ E:DS,dz (Jcg E y)=dz E:=by
 induction y with
 |nil=>intro E;rfl
 |cons l y H=>intro E;exact(H (Jf4 E l)).trans (Kx9 E l)
section
variable {K:SC} {w:World} {F:Nat->Prop} {E:DS} {Ms:List Mr} {mv:Value} {bl:Int}
theorem SI.blk_len (h:SI K w F E Ms mv bl)(hK:SK K){m}(M:m∈Ms):m.R.bs.length<=1000000:=by
 obtain⟨sv,ps,U⟩:=h.disk;have hs:=U.small;have Z:∀ l∈m.ls,l≠[]:=fun l hl e=>by
  unfold Mr.ls at hl;obtain⟨b,hb,rfl⟩:=Of0.1 hl;have y:=h.blks m M b hb;have Y:=hK.sg.lay y.2.2.1 y.2.1.2;have:=y.1.1;rw[e]at this;exact Jy1 Y.2.1 (Od3.1 this.symm)
 have H:=Kwj m.ls Z;have O:m.ls.flatten.Sublist (Ms.flatMap Mr.ls).flatten:=by
  rw[List.flatMap_def];exact Kui (List.sublist_flatten_of_mem (List.mem_map_of_mem M))
 have I:=Kwh m.ls.flatten (List.range E.pages.length) (h.top.nd.sublist O) fun x bf=>by
  obtain⟨p,hp⟩:=h.top.use x (O.subset bf);rw[Oj4];unfold pg at hp;rw[Oa0]at hp;by_cases hl:x<E.pages.length
  ·exact hl
  rw[Ob4 zo]at hp;cases hp
 rw[Op1]at I;unfold Mr.ls at H I;rw[Oa6]at H;omega
theorem SI.release (h:SI K w F E Ms mv bl)(hK:SK K)(u:FrameMode):CallsD prog 155 #[.pointer (some ⟨K.sb,0,none⟩)] u w fun e Z w'=>Z=u/\(e=.returned (.tuple #[])/\∃ I,Zb w' F K.d I/\Kft K.D0 I/\dz I=dz E/\Ju F w w'):=by
 obtain⟨_,s3,_,bA,_⟩:=h.st.field;obtain⟨H,bz,e,U⟩:=h.own.cells;rw[Oa6,Oa6]at e;subst e;have hn:Ms.length<=9223372036854775807:=by
  rcases h.own.2 with⟨_,h0⟩|⟨g,cap,O,_,_,_,bf,bh,_⟩
  ·rw[Oa6,Oa6]at h0;omega
  rw[Oa6,Oa6]at bf;unfold maxLen at bh;omega
 have hob:∀ x o,H=some ⟨x,o,none⟩->Ms≠[]->¬ F x:=fun x o e M hf=>by
  rcases h.own.2 with⟨y,h0⟩|⟨g,cap,O,y,_⟩
  ·rw[Oa6,Oa6]at h0;exact M (Od3.1 h0)
  injection y with y;rw[e]at y;injection y with y;injection y with y e3;subst y e3;exact h.mF x (by rw[e];rfl) hf
 have bj:∀ x o,H=some ⟨x,o,none⟩->¬ F x:=fun x o e=>by
  by_cases M:Ms=[]
  ·rcases h.own.2 with⟨y,_⟩|⟨g,cap,O,y,_⟩
   ·rw[e]at y;cases y
   injection y with y;rw[e]at y;injection y with y;injection y with y e3;subst y e3;exact h.mF x (by rw[e];rfl)
  exact hob x o e M
 have bk:Uh w H (Ms.map fun m=>.pointer (some ⟨m.rb,0,none⟩)):=by
  rw[Oi6]at U;exact U
 refine(Kxr u K.sb K.d H bz Ms K.ts K.cs w F E s3 bA bk h.sF bj h.disk h.flt h.runs (fun m Y=>⟨h.blk_len hK Y,fun b hb=>(h.blks m Y b hb).2.2.2⟩) hn).mono ?_;rintro e Z w' ⟨bx,br,bi,hk⟩;exact⟨bx,br,_,bi,(Top.relAll _ _ h.top).done,Kzc _ _,hk⟩
end
theorem Kzi cs:Jba [] cs=List.replicate cs.length []:=by
 refine Oh4 (by rw[Krw,Od6]) fun j y H=>?_;rw[Krw]at y;have:=Kr0 (cs:=cs) [] y;rw[Oa0,Oa3 (by rw[Krw];exact y)]at this;rw[List.getElem_replicate];exact Od3.1 this
theorem Ky9 n j:(Uq (List.replicate n (.slice none 0 0)) j).ownBlock=none:=by
 unfold Uq;rw[Oa0,Of3];by_cases h:j<n
 ·rw[if_pos h];rfl
 rw[if_neg h];rfl
def Qco (y:SC)(z lim ob g:Nat)(e:Ending)(w':World):Prop:=
 (e=.returned .nilIface/\∃ I H M mv K,SI y w' I H M mv (z:Int)/\dz H<=lim/\Jar w' y.w0.heap.size g K (Jba (Ksg (Kr5 y.ks y.cs) (List.range (nR y.cs))) y.cs)/\w'.cell? ⟨ob,0,none⟩=some (.slice (some ⟨g,0,none⟩) y.cs.length y.cs.length)/\∀ k,(k=g\/∃ j,j<y.cs.length/\(Uq K j).ownBlock=some k)->¬ I k) \/
 ∃ b,e=.returned (.iface 156 (.pointer (some ⟨b,0,none⟩)))/\Kvj y z lim (.iface 156 (.pointer (some ⟨b,0,none⟩))) w'
theorem Ks4.last {y}(hK:SK y){z lim W H X F E I mv rv idx U}(h:Ks4 y z W F E I mv rv idx U)(bz:1<=idx.length)(Y:idx.length<=100000)(cf:nR y.cs<=50000)(hl:dz E<=lim)(bD:Below W.heap.size W H)(bG:Jar H W.heap.size W.heap.size (List.replicate y.cs.length (.slice none 0 0)) (List.replicate y.cs.length []))(Z:Below H.heap.size H X)(hob:X.heap[H.heap.size]?=some (.cells #[.slice (some ⟨W.heap.size,0,none⟩) y.cs.length y.cs.length] 76 (0,0))):
  Calls prog 157 #[.pointer (some ⟨y.sb,0,none⟩),rv,.func (.func 158) #[] #[.pointer (some ⟨H.heap.size,0,none⟩)]] X (Qco y z lim H.heap.size W.heap.size):=by
 have bE:=Jb bD Z;have cu:=bD.size;have cv:=Z.size;have ci:=Jd hob;have cj:W.heap.size<H.heap.size:=bG.row.lt;obtain⟨K,M,rfl⟩:∃ K M,rv=.slice (some ⟨K,0,none⟩) idx.length M:=by
  exact zaB
 have bh:=h.no K rfl;have bJ:=hK.sg.ord;have O:idx=(idx.drop 0).take idx.length:=by rw[List.drop_zero,Of2]
 have bA:(U.drop 0).take idx.length=U:=by rw[List.drop_zero,<-h.rd.len,Of2]
 have bU:SI y X F E I mv (z:Int):=h.si.keep (G:=fun _=>False) (Ju.of_below bE) (fun _ h=>h.elim) id (fun _ _=>id) (fun _ _=>id) (fun _ _=>⟨id,fun _ _=>id⟩);have bI:∀ k,W.heap.size<=k->k<X.heap.size->NoS y X F I mv k:=fun k bz Y=>h.si.noS bz Y;have bL:=h.si.old.size;have bO:Jar X y.w0.heap.size W.heap.size (List.replicate y.cs.length (.slice none 0 0)) (Jba [] y.cs):=by
  rw[Kzi];have:=bG.below Z;exact⟨this.row,bL,this.len,fun i hi=>⟨(this.own i hi).1,(this.own i hi).2.imp id fun ⟨g,cap,bM,bW,bX,bY⟩=>⟨g,cap,bM,bW,Ob2 bL bX,bY⟩⟩,this.ne,this.apart⟩
 have bB:∀ k,SrT y.cs.length H.heap.size W.heap.size (List.replicate y.cs.length (.slice none 0 0)) k->k=H.heap.size\/k=W.heap.size:=fun k hk=>by
  rcases hk with e|e|⟨j,_,e⟩
  ·exact .inl e
  ·exact .inr e
  rw[Ky9]at e;cases e
 have bH:=h.rd.cnt O;rw[bA,h.flat,Op1]at bH;have hq:SrQ y mv (z:Int) H.heap.size W.heap.size y.cs.length lim [] (SrT y.cs.length H.heap.size W.heap.size (List.replicate y.cs.length (.slice none 0 0))) X F E I:=
  ⟨_,bU,bO,by simp[World.cell?,hob],rfl,fun k hk=>(bB k hk).elim (fun e=>bI k zo zo) (fun e=>bI k zo zo),⟨zo,fun j _ e=>by rw[Ky9]at e;cases e⟩,hl⟩
 have bS:=bh.lt;have G:MgG y mv (z:Int) idx 158 (nR y.cs) lim #[.pointer (some ⟨H.heap.size,0,none⟩)] (SrQ y mv (z:Int) H.heap.size W.heap.size y.cs.length lim) X (SrT y.cs.length H.heap.size W.heap.size (List.replicate y.cs.length (.slice none 0 0))) F E I K 0:=by
  refine⟨fun args V=>enters_of func158 zK rfl args V,hK,SrQ.ok y hK mv (z:Int) H.heap.size W.heap.size y.cs.length (nR y.cs) lim idx zo,hq,h.rd.mgIn O,fun j i m bi bj=>?_,⟨bh.nf,fun e=>(bB _ e).elim (fun e=>zo) fun e=>zo,fun ⟨i,m,hi,bj,e⟩=>(bh.ms m (Of6 bj)).1 e.symm⟩,h.rd.hh bJ O,bH,zo,Y⟩;obtain⟨a,cap,bN,bf⟩:=h.own.cells;obtain⟨rfl,_,rfl⟩:(some ⟨K,0,none⟩=a)/\_/\M=cap:=by injection bN with a1 a2 a3;exact⟨a1,a2,a3⟩
  rcases bf with e|⟨b,o,eb,_,bf⟩
  ·rw[List.map_eq_nil_iff,List.map_eq_nil_iff]at e;rw[e]at bi;simp at bi
  injection eb with eb;injection eb with eb1 eb2;subst eb1 eb2;have:=bf j (rpV (Ks7 I i)) (by rw[Ob1,Ob1,bi];rfl);rw[Kup bj]at this;exact(Oc3 (bE.block K bS)).trans this
 have bC:=h.rd.all bJ O;rw[bA,h.flat]at bC;refine(Kuv G M).mono ?_;rintro e cc ⟨cb,br,bk,bx,cn,bK,bR⟩;rcases bR with⟨rfl,bZ,hI⟩|⟨ca,b,rfl,bP,hb,bT,bV,bQ⟩
 ·rw[bC]at hI;refine .inl ⟨rfl,br,bk,bx,mv,bZ,bK,hI.pgs,hI.col,hI.box,fun k hk=>(hI.no k ?_).nf⟩;rw[hI.own];exact .inr hk
 exact .inr ⟨b,rfl,br,bk,bx,mv,ca,b,rfl,bK,bP,zo,bT,bV,bQ⟩
def Ktf (y:SC)(lim:Nat)(e:Ending)(w':World):Prop:=
 ∃ H I,Ju y.F0 y.w0 w'/\Zb w' H y.d I/\Kft y.D0 I/\(∀ k,H k->y.F0 k\/y.w0.heap.size<=k)/\(∀ k,H k->k<w'.heap.size)/\dz I<=lim /\
  ((∃ K M,e=.returned (.tuple #[.slice (some ⟨K,0,none⟩) y.cs.length y.cs.length,.nilIface])/\Qd w' K M (Jba (Ksg (Kr5 y.ks y.cs) (List.range (nR y.cs))) y.cs)/\Jbo K M y.cs.length (fun b=>y.w0.heap.size<=b/\b<w'.heap.size/\¬ H b)) \/
   ∃ O b,e=.returned (.tuple #[.slice none 0 0,.iface 156 (.pointer (some ⟨b,0,none⟩))])/\Yu w' (.iface 156 (.pointer (some ⟨b,0,none⟩))) (if O=true then y.q else y.qw) none (some (-1))/\y.w0.heap.size<=b/\¬ H b/\Kso y.D0 O/\y.bu<(nR y.cs:Int))
theorem Ktf.cast {y lim}{e H:Ending}{w}(h:Ktf y lim e w)(I:H=e):Ktf y lim H w:=I▸h
theorem SI.start {y}(hK:SK y)(O:y.sb=y.w0.heap.size)(I:Zb y.w0 y.F0 y.d y.D0){w1}(hb:Below y.w0.heap.size y.w0 w1)(M:Kt2 w1 y.sb (.slice (some ⟨y.tb,y.to_,none⟩) y.ts.length y.tc) (.slice (some ⟨y.kb,y.ko,none⟩) y.ks.length y.kc) y.bu y.d 0 (.slice none 0 0)):SI y w1 y.F0 y.D0 [] (.slice none 0 0) 0:=
 ⟨M,Jo.nil _ _ _,by simp[Value.ownBlock],(fun m H=>by cases H),(fun m H=>by cases H),(fun i j U Y hi=>by simp at hi),I.below hb,fun k hk=>Oc2 (hK.low k hk) hb.size,fun e=>by have:=hK.low _ e;omega,(fun g K=>by simp[Value.ownBlock]at K),fun k hk=>.inl hk,Ju.of_below hb,Top.refl _,(fun m H=>by cases H)⟩
theorem Ktf.err {y}{z lim:Nat}{ev w w' H E0 I U mv O}{b:Nat}(bh:ev=.iface 156 (.pointer (some ⟨b,0,none⟩)))(K:SI y w H E0 U mv (z:Int))(bf:Yu w (.iface 156 (.pointer (some ⟨b,0,none⟩))) (if O=true then y.q else y.qw) none (some (-1)))(hb:y.w0.heap.size<=b)(M:¬ H b)(bj:Kso y.D0 O)(bi:y.bu<(nR y.cs:Int))(bz:dz E0<=lim)(Y:Zb w' H y.d I)(Z:Kft y.D0 I)(bx:dz I=dz E0)(hk:Ju H w w'):Ktf y lim (.returned (.tuple #[.slice none 0 0,ev])) w':=by
 obtain⟨bk,br⟩:=bf.disk_at;refine⟨H,I,K.old.trans' hk fun k bA hf=>(K.ffr k hf).resolve_right zo,Y,Z,K.ffr,fun k hf=>Oc2 (K.flt k hf) hk.size,zo,.inr ⟨O,b,by rw[bh],.disk b _ _ (hk.cell bk M) (hk.cell br M),hb,M,bj,bi⟩⟩
theorem Ktf.ok {y}{z lim g:Nat}{w w' M E0 O bj mv I}(U:SI y w M E0 bj mv (z:Int))(bD:dz E0<=lim)(K:Jar w y.w0.heap.size g I (Jba (Ksg (Kr5 y.ks y.cs) (List.range (nR y.cs))) y.cs))(hF:∀ k,(k=g\/∃ j,j<y.cs.length/\(Uq I j).ownBlock=some k)->¬ M k)(br:Zb w' M y.d O)(bx:Kft y.D0 O)(bC:dz O=dz E0)(hk:Ju M w w'):Ktf y lim (.returned (.tuple #[.slice (some ⟨g,0,none⟩) y.cs.length y.cs.length,.nilIface])) w':=by
 have Z:∀ k,(k=g\/∃ j,j<y.cs.length/\(Uq I j).ownBlock=some k)->y.w0.heap.size<=k/\k<w.heap.size:=fun k hk=>by
  rcases hk with e|⟨j,H,e⟩
  ·exact⟨e▸K.low,e▸K.row.lt⟩
  exact Je (K.own j (by rw[Krw];exact H)) e
 have bz:Jar w' y.w0.heap.size g I (Jba (Ksg (Kr5 y.ks y.cs) (List.range (nR y.cs))) y.cs):=K.on fun k bh=>by
  have bi:k=g\/∃ j,j<y.cs.length/\(Uq I j).ownBlock=some k:=bh.imp id fun ⟨j,H,e⟩=>⟨j,by rw[Krw]at H;exact H,e⟩;exact hk.block k (Z k bi).2 (hF k bi)
 have bE:=hk.size;refine⟨M,O,U.old.trans' hk fun k bh hf=>(U.ffr k hf).resolve_right zo,br,bx,U.ffr,fun k hf=>Oc2 (U.flt k hf) hk.size,zo,.inl ⟨g,_,rfl,(Jo6 bz).1,?_,fun j H b o e=>?_⟩⟩
 ·have:=Z g (.inl rfl);exact⟨this.1,zo,hF g (.inl rfl)⟩
 have bf:j<(Jba (Ksg (Kr5 y.ks y.cs) (List.range (nR y.cs))) y.cs).length:=by rw[Krw];exact H
 have bk:Yo (I.map slH) j=slH (Uq I j):=by
  unfold Yo Uq;rw[Oa0,Oa0,Ob1,Oa3 (by rw[K.len];exact bf)];rfl
 rw[bk]at e;have hob:(Uq I j).ownBlock=some b:=by
  rcases K.own j bf with⟨_,⟨Y,_⟩|⟨bB,bA,_,Y,_⟩⟩
  ·rw[Y]at e;cases e
  rw[Y]at e |-;simp only[slH]at e;injection e with e;injection e with e _;rw[<-e];rfl
 have:=Z b (.inr ⟨j,H,hob⟩);exact⟨this.1,zo,hF b (.inr ⟨j,H,hob⟩)⟩
theorem Kyp (y:SC)(hK:SK y)(bf:y.sb=y.w0.heap.size)(bG:Zb y.w0 y.F0 y.d y.D0)(O cp:Nat)(hs:List (Option Addr×Nat))(hC:Qd y.w0 O hs y.cs)(bE:Jbo O hs y.cs.length (fun b=>b<y.w0.heap.size/\¬ y.F0 b))(bu pr:Nat)(bU:y.bu=(bu:Int))(cX:2<=bu)(bH:bu<=50000)(cn:nR y.cs<=50000)(bY:∀ ch:List Nat,(∀ t∈ch,t<nR y.cs)->1<=ch.length->ch.length<=64->(Qu (Kr3 y.ts (Jba ch y.cs) y.ts.length)).length<=pr*ch.length)(g:Nat->Nat)(bV:∀ q,bu<q->g (ckN q bu)+1<=g q)(bW:g (ckN (nR y.cs) bu)<=100000)(lim:Nat)(dd:lim<=930000)(bJ:dz y.D0+2*pr*bu*ckN (nR y.cs) bu+pr*nR y.cs*g (ckN (nR y.cs) bu)<=lim):
  Calls prog 112 #[.slice (some ⟨O,0,none⟩) y.cs.length cp,.slice (some ⟨y.tb,y.to_,none⟩) y.ts.length y.tc,.slice (some ⟨y.kb,y.ko,none⟩) y.ks.length y.kc,.int .i64 (bu:Int),.pointer (some ⟨y.d,0,none⟩)] y.w0 (Ktf y lim):=by
 have cC:=hK.sg.good.one;have cZ:=hK.sg.good.few;have bI:=Jc (Oa5 y.w0.heap.size y.w0) (.cells #[.slice (some ⟨y.tb,y.to_,none⟩) y.ts.length y.tc,.slice (some ⟨y.kb,y.ko,none⟩) y.ks.length y.kc,.int .i64 (bu:Int),.pointer (some ⟨y.d,0,none⟩),.int .i64 0,.slice none 0 0] 303);have cK:=heap_alloc_new y.w0 (.cells #[.slice (some ⟨y.tb,y.to_,none⟩) y.ts.length y.tc,.slice (some ⟨y.kb,y.ko,none⟩) y.ks.length y.kc,.int .i64 (bu:Int),.pointer (some ⟨y.d,0,none⟩),.int .i64 0,.slice none 0 0] 303);have cF:=SI.start hK bf bG bI (by unfold Kt2;rw[bf,bU];exact cK);have hlen:Calls prog 55 #[.slice (some ⟨O,0,none⟩) y.cs.length cp] (y.w0.alloc (.cells #[.slice (some ⟨y.tb,y.to_,none⟩) y.ts.length y.tc,.slice (some ⟨y.kb,y.ko,none⟩) y.ks.length y.kc,.int .i64 (bu:Int),.pointer (some ⟨y.d,0,none⟩),.int .i64 0,.slice none 0 0] 303)) fun e w'=>e=.returned (.int .i64 (nR y.cs:Int))/\w'=(y.w0.alloc (.cells #[.slice (some ⟨y.tb,y.to_,none⟩) y.ts.length y.tc,.slice (some ⟨y.kb,y.ko,none⟩) y.ks.length y.kc,.int .i64 (bu:Int),.pointer (some ⟨y.d,0,none⟩),.int .i64 0,.slice none 0 0] 303)):=
  Jlg O y.cs.length cp _ _ _ _ cC ((hC.below bI).row.cell cC)
 have bP:=Krx cF;have bB:=Krx bI;clear cK bI cF;generalize cu:y.w0.alloc (.cells #[.slice (some ⟨y.tb,y.to_,none⟩) y.ts.length y.tc,.slice (some ⟨y.kb,y.ko,none⟩) y.ks.length y.kc,.int .i64 (bu:Int),.pointer (some ⟨y.d,0,none⟩),.int .i64 0,.slice none 0 0] 303)=cf at bP bB hlen;have cM:=Krx bG;have di:Hid (Qd y.w0 O hs y.cs/\Jbo O hs y.cs.length (fun b=>b<y.w0.heap.size/\¬ y.F0 b)):=⟨hC,bE⟩;have cL:=Krx bJ;have cO:Hid (y.ts.length=y.cs.length):=hK.sg.good.len.symm;by_cases dq:nR y.cs<=bu
 ·have dc:(nR y.cs:Int)<=(bu:Int):=zo;have cD:=Kt3 y.sb y.kb y.ko y.kc O cp y.ts y.cs y.ks hs (List.range (nR y.cs)) cf hK.sg (bP.out.env hK).so.key (by rw[Kty hK.sg.good];exact hC.below bB.out) List.pairwise_lt_range (fun i hi=>Oj4.1 hi) (by rw[Op1];omega);have cN:=Krx cD;clear cD hC bE bG bY bV bW bJ;go_enter_defers func112,ntmps112
  go_upto_region 2 with fail
  rw[<-bf];clear bf cu;go_wp2_with (first|(go_at_call 55;refine hlen.mono ?_;rintro e X ⟨rfl,cW⟩;subst X)|(go_at_call 154;refine cN.out.mono ?_;rintro e K ⟨bH,cQ,de,rfl,dp,ci,cV⟩))
  have bT:Below y.w0.heap.size y.w0 K:=Jb bB.out bH;have ds:=bB.out.size;have dt:=bH.size;refine⟨_,results_tmp2 rfl _ _ _,y.F0,y.D0,Ju.of_below bT,cM.out.below bT,⟨fun _=>rfl,rfl,rfl,rfl⟩,fun k hk=>.inl hk,fun k hk=>Oc2 (hK.low k hk) bT.size,by have:=cL.out;omega,.inl ⟨cQ,de,rfl,ci,⟨zo,ci.row.lt,fun e=>by have:=hK.low _ e;omega⟩,fun j db b o e=>?_⟩⟩;have:=cV j db b o e;exact⟨zo,this.2,fun e=>by have:=hK.low _ e;omega⟩
 have dc:¬ (nR y.cs:Int)<=(bu:Int):=zo;have cc:=Krx (show y.bu<(nR y.cs:Int) by rw[bU];omega);obtain⟨z,cH⟩:∃ z,z=min (max (bu / ckN (nR y.cs) bu) 1) 64:=⟨_,rfl⟩;have cA:=Kzu y hK cf y.F0 y.D0 0 bP.out O cp hs hC bE bu pr bU cX bH zo cn bY g bV bW lim dd bJ z cH;have bN:=Krx cA;clear cA hC bE bG bY bV bW bJ cH;have bX:∀ X,Calls prog 79 #[.int .i64 (y.ts.length:Int)] X fun e w'=>e=.returned (.slice (some ⟨X.heap.size,0,none⟩) y.cs.length y.cs.length)/\Jar w' X.heap.size X.heap.size (List.replicate y.cs.length (.slice none 0 0)) (List.replicate y.cs.length [])/\Below X.heap.size X w':=fun X=>by
  rw[cO.out];exact Jiz y.cs.length X cZ
 have dr:∀ (fn:Fn) (first cap:Array Value) (w:World),(Instr.makeFunc fn first cap).run prog w=.ok (.func fn first cap) w:=fun _ _ _ _=>rfl;go_enter_defers func112,ntmps112
 go_upto_region 2 with fail
 rw[<-bf];clear bf cu;go_wp2_with (first|(go_at_call 55;refine hlen.mono ?_;rintro e X ⟨rfl,cW⟩;subst X)|(go_at_call 156;refine bN.out.mono ?_))
 clear hlen;rintro e K (⟨rv,rfl,dh,dg,dl,du,idx,dj,bS,cB,da,H⟩|⟨ev,rfl,bR⟩)
 ·have bO:Hid (∀ M X,Jar M K.heap.size K.heap.size (List.replicate y.cs.length (.slice none 0 0)) (List.replicate y.cs.length [])->Below K.heap.size K M->Below M.heap.size M X->X.heap[M.heap.size]?=some (.cells #[.slice (some ⟨K.heap.size,0,none⟩) y.cs.length y.cs.length] 76 (0,0))->Calls prog 157 #[.pointer (some ⟨y.sb,0,none⟩),rv,.func (.func 158) #[] #[.pointer (some ⟨M.heap.size,0,none⟩)]] X (Qco y z lim M.heap.size K.heap.size)):=fun M X cR cS cT cU=>bS.last hK cB zo cn H cS cR cT cU;obtain⟨dv,rc,cE,_⟩:=bS.own.cells;rw[Oa6,Oa6]at cE;subst cE;clear bS cB da H bN;go_wp2_with (first|(go_at_call 79;refine(bX _).mono ?_;rintro e M ⟨rfl,cx,cv⟩;have bM:=Krx cx;have bL:=Krx cv;clear cx cv)|(go_at_call 157;refine(bO.out M _ bM.out bL.out (Jc (Oa5 _ M) _) (heap_alloc_new M _)).mono ?_))
  rintro e bC (⟨rfl,cb,ca,cP,df,cI,cG,cz,cy,dm,cj⟩|⟨b,rfl,bR⟩)
  ·have bj:Hid (SI y bC cb ca cP df (z:Int)/\dz ca<=lim/\Jar bC y.w0.heap.size K.heap.size cI (Jba (Ksg (Kr5 y.ks y.cs) (List.range (nR y.cs))) y.cs)/\∀ k,(k=K.heap.size\/∃ j,j<y.cs.length/\(Uq cI j).ownBlock=some k)->¬ cb k):=⟨cG,cz,cy,cj⟩;clear cG cz cy cj bO bM bL bX;go_wp2;refine leaves_cons (f:=155) (args:=#[.pointer (some ⟨y.sb,0,none⟩)]) zS (by simp[go_sem]) ?_;obtain⟨I,H,cY,hF⟩:=bj.out;refine(I.release hK .returning).mono ?_;rintro e cJ w' ⟨rfl,rfl,bZ,bk,br,bx,bz⟩;exact⟨_,results_tmp2 rfl _ _ _,(Ktf.ok I H cY hF bk br bx bz).cast rfl⟩
  obtain⟨bi,bh,bQ,mv,bA,bD,bK,I,U,hb,Y,Z,H⟩:=bR;have bj:Hid (SI y bC bi bh bQ mv (z:Int)/\Yu bC (.iface 156 (.pointer (some ⟨bD,0,none⟩))) (if bA=true then y.q else y.qw) none (some (-1))/\y.w0.heap.size<=bD/\¬ bi bD/\Kso y.D0 bA/\dz bh<=lim/\(Value.iface 156 (.pointer (some ⟨b,0,none⟩)))=.iface 156 (.pointer (some ⟨bD,0,none⟩))):=⟨I,U,hb,Y,Z,H,bK⟩;clear I U hb Y Z H bK bO bM bL bX;go_wp2;refine leaves_cons (f:=155) (args:=#[.pointer (some ⟨y.sb,0,none⟩)]) zS (by simp[go_sem]) ?_;obtain⟨I,U,hb,Y,Z,H,bK⟩:=bj.out;refine(I.release hK .returning).mono ?_;rintro e cJ w' ⟨rfl,rfl,bZ,bk,br,bx,bz⟩;exact⟨_,results_tmp2 rfl _ _ _,(Ktf.err bK I U hb Y Z cc.out H bk br bx bz).cast rfl⟩
 obtain⟨bi,bh,bQ,mv,bA,b,rfl,I,U,hb,Y,Z,H⟩:=bR;have bj:Hid (SI y K bi bh bQ mv (z:Int)/\Yu K (.iface 156 (.pointer (some ⟨b,0,none⟩))) (if bA=true then y.q else y.qw) none (some (-1))/\y.w0.heap.size<=b/\¬ bi b/\Kso y.D0 bA/\dz bh<=lim):=⟨I,U,hb,Y,Z,H⟩;clear I U hb Y Z H bN;go_wp2;refine leaves_cons (f:=155) (args:=#[.pointer (some ⟨y.sb,0,none⟩)]) zS (by simp[go_sem]) ?_;obtain⟨I,U,hb,Y,Z,H⟩:=bj.out;refine(I.release hK .returning).mono ?_;rintro e cJ w' ⟨rfl,rfl,bZ,bk,br,bx,bz⟩;exact⟨_,results_tmp2 rfl _ _ _,(Ktf.err rfl I U hb Y Z cc.out H bk br bx bz).cast rfl⟩
attribute [local go_sem] Oc0
theorem Qae rb I k bG l z bu bl bL bM d sg so U bh op r tn xs kk kb ko kc O bD bE cap tb to_ bk tc w F0(P:World->Value->Value->World->Prop)(hr:Jck w rb z (.int .i64 bu) bl bL bM (.pointer (some ⟨d,0,none⟩)) (.slice (some ⟨sg,so,none⟩) U bh) (.slice (some ⟨I,0,none⟩) k bG))(hl:l<k)(cx:l<U)(bI:w.cell? ⟨I,l,none⟩=some (.slice (some ⟨bD,0,none⟩) bE cap))(bT:w.frozen? ⟨I,l,none⟩=false)(bK:rb≠I)(hs:w.cell? ⟨sg,so+l,none⟩=some (.slice (some ⟨tb,to_,none⟩) bk tc))(cb:sg≠I)(hF:¬ F0 rb/\¬ F0 sg/\∀ k,F0 k->k<w.heap.size)(bW:∀ H,Ju (·=I) w H->H.heap[I]?=Jdc w I l->Calls prog 112 #[.slice (some ⟨bD,0,none⟩) bE cap,.slice (some ⟨tb,to_,none⟩) bk tc,.slice (some ⟨kb,ko,none⟩) O kc,.int .i64 bu,.pointer (some ⟨d,0,none⟩)] H fun e w'=>∃ a b,e=.returned (.tuple #[a,b])/\Ju F0 H w'/\P H a b w'):
  Calls prog 76 #[.pointer (some ⟨rb,0,none⟩),.agg #[.int .i64 op,.int .i64 (l:Int),.int .i64 r,.string tn,xs,.slice (some ⟨kb,ko,none⟩) O kc,.int .i64 kk]] w fun e w'=>∃ a b H,e=.returned (.tuple #[a,b])/\Ju (·=I) w H/\H.heap[I]?=Jdc w I l/\P H a b w':=by
 have bz:I<w.heap.size:=Jm bI;have bU:rb<w.heap.size:=Jd hr;have bV:sg<w.heap.size:=Jm hs;have M:Below w.heap.size w (w.alloc (.cells #[.int .i64 op,.int .i64 (l:Int),.int .i64 r,.string tn,xs,.slice (some ⟨kb,ko,none⟩) O kc,.int .i64 kk] 41)):=Jc (Oa5 _ _) _;have bi:=heap_alloc_new w (.cells #[.int .i64 op,.int .i64 (l:Int),.int .i64 r,.string tn,xs,.slice (some ⟨kb,ko,none⟩) O kc,.int .i64 kk] 41);go_enter func76,ntmps76
 go_upto_region 1 with fail
 generalize w.alloc (.cells #[.int .i64 op,.int .i64 (l:Int),.int .i64 r,.string tn,xs,.slice (some ⟨kb,ko,none⟩) O kc,.int .i64 kk] 41)=bx at M bi |-;have bX:=Jjb rb I k bG l z (.int .i64 bu) bl bL bM (.pointer (some ⟨d,0,none⟩)) (.slice (some ⟨sg,so,none⟩) U bh) (some ⟨bD,0,none⟩) bE cap bx.drew (hr.below (Jj M)) hl (Ja M bI) (by rw[<-bT];exact Ol7 (M.block I bz));have bO:Hid (∀ H,H=bx.drew.setCell ⟨I,l,none⟩ (.slice none 0 0)->Ju (·=I) w H/\H.heap[I]?=Jdc w I l):=fun H bf=>by
  have bA:Ju (·=I) w H:=by rw[bf];exact Ju.set (F:=fun x=>x=I) (Ju.of_below (Jj M)) rfl l _
  exact⟨bA,by rw[bf];exact Jol (M.block I bz)⟩
 obtain⟨K,bH⟩:∃ K,K=w.heap.size:=⟨_,rfl⟩;have bY:=Krx bH;rw[<-bH]at bi |-;have bR:I≠K:=zo;clear bH;have cc:=zc 1 bi;have cf:=zc 5 bi;have bB:bx.heap[rb]?=some (.cells #[.int .i64 z,.int .i64 bu,bl,bL,bM,.pointer (some ⟨d,0,none⟩),.slice (some ⟨sg,so,none⟩) U bh,.slice (some ⟨I,0,none⟩) k bG] 99 (0,0)):=hr.below M;have ci:=zc 1 bB;have cj:=zc 5 bB;have cn:=zc 6 bB;have cu:=Ja M hs;have cy:(0:Int)<=(l:Int):=zo;have cz:(l:Int)<(U:Int):=zo;have bN:=Krx bW;have bj:=Krx hF;have cv:Hid (I<w.heap.size/\rb<w.heap.size/\sg<w.heap.size/\K<bx.heap.size):=⟨bz,bU,bV,Jd bi⟩;clear hr bI bT hs bW hF bB bi bz bU bV;refine wp_region_held_drew (S:=fun X=>X.cell? ⟨K,1,none⟩=some (.int .i64 (l:Int))/\X.cell? ⟨K,5,none⟩=some (.slice (some ⟨kb,ko,none⟩) O kc)/\X.cell? ⟨rb,1,none⟩=some (.int .i64 bu)/\X.cell? ⟨rb,5,none⟩=some (.pointer (some ⟨d,0,none⟩))/\X.cell? ⟨rb,6,none⟩=some (.slice (some ⟨sg,so,none⟩) U bh)/\X.cell? ⟨sg,so+l,none⟩=some (.slice (some ⟨tb,to_,none⟩) bk tc)) zK ⟨cc,cf,ci,cj,cn,cu⟩ (fun y=>?_);refine tkj 0 rfl y ?_;refine tkj 1 rfl y ?_;refine tkj 2 rfl y ?_;refine tkj 4 rfl y ?_;refine tkj 5 rfl y ?_;refine tkj 6 rfl y ?_;refine tkj 7 rfl y ?_;refine tkj 8 rfl y ?_;refine tkn ?_;refine tkj 9 rfl y ?_;refine tkn ?_;refine tkj 10 rfl y ?_;refine tkj 11 rfl y ?_;refine tkj 12 rfl y ?_;refine tkj 13 rfl y ?_;refine tkj 14 rfl y ?_;refine tkj 15 rfl y ?_;refine tkj 16 rfl y ?_;refine tkn ?_;refine tkj 17 rfl y ?_;refine tkj 18 rfl y ?_;refine tkj 19 rfl y ?_;refine tkj 20 rfl y ?_;refine tkj 21 rfl y ?_;refine tkj 22 rfl y ?_;refine tkn ?_;refine tkr 3 rfl fun bC hK=>?_;go_simp;refine bX.mono ?_;rintro e H ⟨rfl,bf⟩;have bQ:H.cell? ⟨K,1,none⟩=some (.int .i64 (l:Int))/\H.cell? ⟨K,5,none⟩=some (.slice (some ⟨kb,ko,none⟩) O kc)/\H.cell? ⟨rb,1,none⟩=some (.int .i64 bu)/\H.cell? ⟨rb,5,none⟩=some (.pointer (some ⟨d,0,none⟩))/\H.cell? ⟨rb,6,none⟩=some (.slice (some ⟨sg,so,none⟩) U bh)/\H.cell? ⟨sg,so+l,none⟩=some (.slice (some ⟨tb,to_,none⟩) bk tc):=by
  rw[bf];exact⟨Uc (fun e=>bR (congrArg Addr.block e)) y.1,Uc (fun e=>bR (congrArg Addr.block e)) y.2.1,Uc (fun e=>bK (congrArg Addr.block e).symm) y.2.2.1,Uc (fun e=>bK (congrArg Addr.block e).symm) y.2.2.2.1,Uc (fun e=>bK (congrArg Addr.block e).symm) y.2.2.2.2.1,Uc (fun e=>cb (congrArg Addr.block e).symm) y.2.2.2.2.2⟩
 obtain⟨bA,bS⟩:=bO.out H bf;have br:Hid (Ju (·=I) w H/\H.heap[I]?=Jdc w I l/\K<H.heap.size):=⟨bA,bS,Jb0 bQ.1⟩;clear bf bS bA;go_simp;refine hK.out _ _ bQ (fun y=>?_);clear hK bC;refine tkr 23 rfl fun bC hK=>?_;go_simp;refine(bN.out H br.out.1 br.out.2.1).mono ?_;rintro e Z ⟨a,b,rfl,Y,bP⟩;have bZ:=zh bP;have bJ:¬ F0 K:=fun e=>by have:=bj.out.2.2 _ e;have:=bY.out;omega
 have ca:Z.cell? ⟨K,1,none⟩=some (.int .i64 (l:Int))/\Z.cell? ⟨K,5,none⟩=some (.slice (some ⟨kb,ko,none⟩) O kc)/\Z.cell? ⟨rb,1,none⟩=some (.int .i64 bu)/\Z.cell? ⟨rb,5,none⟩=some (.pointer (some ⟨d,0,none⟩))/\Z.cell? ⟨rb,6,none⟩=some (.slice (some ⟨sg,so,none⟩) U bh)/\Z.cell? ⟨sg,so+l,none⟩=some (.slice (some ⟨tb,to_,none⟩) bk tc):=⟨Y.cell y.1 bJ,Y.cell y.2.1 bJ,Y.cell y.2.2.1 bj.out.1,Y.cell y.2.2.2.1 bj.out.1,Y.cell y.2.2.2.2.1 bj.out.1,Y.cell y.2.2.2.2.2 bj.out.2.1⟩;clear bP Y bJ;go_simp;refine hK.out _ _ ca (fun y=>?_);clear hK bC bN bO bX;refine tkj 24 rfl y ?_;refine tkj 25 rfl y ?_;refine tkj 26 rfl y ?_;refine tkj 27 rfl y ?_;refine tkn ?_;refine wpAnyH_done zK ?_ _;go_wp2;go_ret2
 exact⟨a,b,H,rfl,br.out.1,br.out.2.1,bZ.out⟩
theorem Kx3 (rb y k bI l q:Nat)(z:Int)bu bl bT bU bJ sc(op r:Int)tn xs ky(I cap N:Nat)hs cs w(hr:Jck w rb z bu bl bT bU bJ sc (.slice (some ⟨y,0,none⟩) k bI))(hl:l<k)(bz:w.cell? ⟨y,l,none⟩=some (.slice (some ⟨I,0,none⟩) cs.length cap))(bP:w.frozen? ⟨y,l,none⟩=false)(hC:Qd w I hs cs)(bL:Jbo I hs cs.length (fun b=>b<w.heap.size/\b≠y))(bM:∀ j,j<cs.length->(cs.getD j []).length=N)(bk:1<=cs.length)(bY:cs.length<=1000):
  Calls prog 77 #[.pointer (some ⟨rb,0,none⟩),.agg #[.int .i64 op,.int .i64 (l:Int),.int .i64 r,.string tn,xs,ky,.int .i64 (q:Int)]] w fun e w'=>∃ g,e=.returned (.tuple #[.slice (some ⟨g,0,none⟩) cs.length cs.length,.nilIface])/\Ju (·=y) w w'/\w'.heap[y]?=Jdc w y l/\w.heap.size<=g/\Qd w' g (Jnt hs cs.length 0 (min q N)) (cs.map (Jbx 0 (min q N))):=by
 have bA:y<w.heap.size:=Jm bz;have O:Below w.heap.size w (w.alloc (.cells #[.int .i64 op,.int .i64 (l:Int),.int .i64 r,.string tn,xs,ky,.int .i64 (q:Int)] 41)):=Jc (Oa5 _ _) _;have bf:=heap_alloc_new w (.cells #[.int .i64 op,.int .i64 (l:Int),.int .i64 r,.string tn,xs,ky,.int .i64 (q:Int)] 41);go_enter func77,ntmps77
 go_upto_region 1 with fail
 generalize w.alloc (.cells #[.int .i64 op,.int .i64 (l:Int),.int .i64 r,.string tn,xs,ky,.int .i64 (q:Int)] 41)=bX at O bf |-;have bR:=Jjb rb y k bI l z bu bl bT bU bJ sc (some ⟨I,0,none⟩) cs.length cap bX (hr.below O) hl (Ja O bz) (by rw[<-bP];exact Ol7 (O.block y bA));obtain⟨Y,bx⟩:∃ Y,Y=w.heap.size:=⟨_,rfl⟩;have cc:=Krx bx;rw[<-bx]at bf |-;have bZ:y≠Y:=zo;clear bx;have ca:=zc 1 bf;have bS:=zc 6 bf;have bC:Hid (Qd w I hs cs/\Jbo I hs cs.length (fun b=>b<w.heap.size/\b≠y)):=⟨hC,bL⟩;have bB:=Krx O;have bD:=Krx bA;clear hr bz bP hC bL bf O bA;go_upto_region 2 with(go_at_call 36;refine bR.mono ?_;rintro e H ⟨rfl,M⟩;have bG:=Krx M;clear M)
 have M:=bG.out;clear bG;have Z:Ju (·=y) w H:=by rw[M];exact Ju.set (F:=fun x=>x=y) (Ju.of_below bB.out) rfl l _
 have bO:H.heap[y]?=Jdc w y l:=by rw[M];exact Jol (bB.out.block y bD.out)
 have cb:H.cell? ⟨Y,6,none⟩=some (.int .i64 (q:Int)):=by rw[M];exact Uc (fun e=>bZ (congrArg Addr.block e)) bS
 have br:Qd H I hs cs:=bC.out.1.kp (Fx:=fun b=>b<w.heap.size/\b≠y) ⟨Z.size,fun k hk=>Z.block k hk.1 hk.2⟩ bC.out.2;have bQ:∀ X,Below H.heap.size H X->Calls prog 55 #[.slice (some ⟨I,0,none⟩) cs.length cap] X fun e w'=>e=.returned (.int .i64 (N:Int))/\w'=X:=fun X bi=>by
  have c0:=(br.below bi).row.cell bk;rw[bM 0 bk]at c0;exact Jlg I cs.length cap _ N _ X bk c0
 have bN:∀ X,Below H.heap.size H X->Calls prog 113 #[.slice (some ⟨I,0,none⟩) cs.length cap,.int .i64 0,.int .i64 (min (q:Int) (N:Int))] X fun e w'=>Below X.heap.size X w'/\e=.returned (.slice (some ⟨X.heap.size,0,none⟩) cs.length cs.length)/\Qd w' X.heap.size (Jnt hs cs.length 0 (min q N)) (cs.map (Jbx 0 (min q N))):=fun X bi=>by
  have:=Kdx I cap hs cs N 0 (min q N) X (br.below bi) bM (Ob7 _) (Nat.min_le_right _ _) bY;have e:((min q N:Nat):Int)=min (q:Int) (N:Int):=zo;rw[e]at this;exact this
 have bW:=Krx bQ;have bV:=Krx bN;have bh:Hid (Ju (·=y) w H/\H.heap[y]?=Jdc w y l/\y<H.heap.size):=⟨Z,bO,by have:=Z.size;have:=bD.out;omega⟩;clear bQ bN Z bO br M ca bS bR;refine wp_region_held_drew (S:=fun X=>X.cell? ⟨Y,6,none⟩=some (.int .i64 (q:Int))) zK cb (fun K=>?_);refine tkj 0 rfl K ?_;refine tkj 1 rfl K ?_;refine tkj 2 rfl K ?_;refine tkj 3 rfl K ?_;refine tkn ?_;refine tkr 4 rfl fun bj hK=>?_;go_simp;refine(bW.out H.drew (Jj (Oa5 _ _))).mono ?_;rintro e X ⟨rfl,bi⟩;subst X;go_simp;refine hK.out _ _ K (fun K=>?_);clear hK bj;refine tkj 5 rfl K ?_;refine tkn ?_;refine tkr 6 rfl fun bj hK=>?_;go_simp;refine(bV.out H.drew (Jj (Oa5 _ _))).mono ?_;rintro e bH ⟨U,rfl,bK⟩;have bE:Hid (Below H.heap.size H bH/\Qd bH H.heap.size (Jnt hs cs.length 0 (min q N)) (cs.map (Jbx 0 (min q N)))):=⟨Jw U,bK⟩;go_simp;refine hK.out _ _ (Ja U K) (fun K=>?_);clear hK bj U bK;refine tkj 7 rfl K ?_;refine tkj 8 rfl K ?_;refine tkn ?_;refine wpAnyH_done zK ?_ _;go_wp2;go_ret2
 have U:=bE.out.1;exact⟨H.heap.size,rfl,bh.out.1.trans (Ju.of_below U),(U.block y bh.out.2.2).trans bh.out.2.1,bh.out.1.size,bE.out.2⟩
structure DkS (X:World) (F0:Nat->Prop) (d:Nat) (D0:DS) (lim:Nat) (F:Nat->Prop) (W:World):Prop where
 keep:Ju F0 X W
 ex:∃ E,Zb W F d E/\Kft D0 E/\dz E<=lim
 ffr:∀ k,F k->F0 k\/X.heap.size<=k
 flt:∀ k,F k->k<W.heap.size
structure Jjg (F:Nat->Prop) (L rb:Nat) (z bu bl:Int) (se tp dp sc dv:Value) (ds:List Dn) (W:World):Prop where
 rs:Jd6 L rb z bu bl se tp dp sc dv ds W
 off:∀ x,some x∈ds->Jbo x.1 x.2.1 x.2.2.length fun b=>¬ F b
 rbF:¬ F rb
 dvF:∀ g,dv.ownBlock=some g->¬ F g
def Kuz (X:World)(L rb:Nat)(z bu bl:Int)(U Y:Value)(d:Nat)(sc:Value)(O:Nat->List Dn->Prop)(Z:Nat->Value->World->Prop)(F0:Nat->Prop)(D0:DS)(lim:Nat->Nat)(nd:Nd)(j:Nat):Prop:=
 0<=nd.op/\nd.op<=7/\∀ W F H K,DkS X F0 d D0 (lim j) F W->(∀ g,H.ownBlock=some g->X.heap.size<=g)->Jjg F L rb z bu bl U Y (.pointer (some ⟨d,0,none⟩)) sc H K W->K.length=j->O j K ->
  Calls prog (Jej nd.op) #[.pointer (some ⟨rb,0,none⟩),nd.val] W fun e y=>∃ I,DkS X F0 d D0 (lim (j+1)) I y/\Ju (fun k=>F k\/H.ownBlock=some k) W y/\(∀ k,I k->F k\/W.heap.size<=k) /\
   ((∃ (x:Nat×List (Option Addr×Nat)×List (List V)) (M:List Dn),e=.returned (.tuple #[dnV (some x),.nilIface])/\Jjg I L rb z bu bl U Y (.pointer (some ⟨d,0,none⟩)) sc H M y/\Jfk rb H x y/\(Jbo x.1 x.2.1 x.2.2.length fun b=>¬ I b)/\M.length=j/\O (j+1) (M++[some x])) \/
    (∃ (ty b:Nat),e=.returned (.tuple #[.slice none 0 0,.iface ty (.pointer (some ⟨b,0,none⟩))])/\Z j (.iface ty (.pointer (some ⟨b,0,none⟩))) y))
def Kt7 (W:World)(n:Nat):World:={W with heap:=W.heap.extract 0 n}
theorem Kv2 W{n k}(hk:k<n):(Kt7 W n).heap[k]?=W.heap[k]?:=by
 unfold Kt7;simp[Array.getElem?_extract];omega
theorem Kxg W{n}(hn:n<=W.heap.size):(Kt7 W n).heap.size=n:=by
 unfold Kt7;simp;omega
theorem DkS.on {X F0 d D0 lim I F G W y}(h:DkS X F0 d D0 lim F W)(hl:lim<=I)(hk:Ju G W y)(H:∀ k,G k->X.heap.size<=k/\¬ F k):DkS X F0 d D0 I F y:=by
 obtain⟨E,K,M,U⟩:=h.ex;exact⟨h.keep.trans' hk fun k Y e=>absurd (H k e).1 zo,⟨E,K.stands fun k hf O=>hk.block k O fun e=>(H k e).2 hf,M,zo⟩,h.ffr,fun k hf=>Oc2 (h.flt k hf) hk.size⟩
theorem Kvz {W y:World}{v:Value}(h:W.grownBy y v.ownBlock):Ju (fun k=>v.ownBlock=some k) W y:=⟨h.os,h.tape,h.output,h.size,fun k hk hn=>h.block k hk fun e=>hn e.symm⟩
theorem Kuz.of {X z bu bl Z bf d sc M K F0 D0 lim nd j}(U:0<=nd.op/\nd.op<=7)(hl:lim j<=lim (j+1))(h:∀ V,V.heap.size=X.heap.size->Ju F0 X V->Ju1 V (X.heap.size+1) X.heap.size z bu bl Z bf (.pointer (some ⟨d,0,none⟩)) sc M K nd j):Kuz X (X.heap.size+1) X.heap.size z bu bl Z bf d sc M K F0 D0 lim nd j:=by
 refine⟨U.1,U.2,fun W F bk bi y O hR hlen bz=>?_⟩;have Y:=y.keep.size;have H:=Kxg W Y;have bB:Below (Kt7 W X.heap.size).heap.size (Kt7 W X.heap.size) W:=by
  rw[H];exact⟨rfl,rfl,rfl,by rw[H];exact Y,fun k hk=>(Kv2 W hk).symm⟩
 have bC:Ju F0 X (Kt7 W X.heap.size):=⟨y.keep.os,y.keep.tape,y.keep.output,by rw[H];exact Oa2 _,fun k hk hn=>(Kv2 W hk).trans (y.keep.block k hk hn)⟩;obtain⟨_,_,bD⟩:=h _ H bC;refine(bD W bk bi bB (fun g bG=>by rw[H];exact O g bG) hR.rs hlen bz).mono fun e bL hp=>?_;obtain⟨bH,bE⟩:=hp;have hk:=Kvz bH;refine⟨F,y.on hl hk fun k e=>⟨O k e,hR.dvF k e⟩,hk.mono fun k _ e=>.inr e,fun k hf=>.inl hf,?_⟩;rcases bE with⟨x,bj,I,bA,br,bI,bx,bJ,bK⟩|I
 ·exact .inl ⟨x,bj,I,⟨bA,fun bh hy=>hR.off bh (bK bh hy),hR.rbF,hR.dvF⟩,br,bJ F y.flt hR.off,bI,bx⟩
 exact .inr I
attribute [local go_sem] Oc0
def Kx0 (n:Nat)(I:Nat->List Dn->Prop)(H:Nat->Value->World->Prop)(F0:Nat->Prop)(d:Nat)(D0:DS)(lim:Nat)(w:World):Ending->World->Prop:=fun e w'=>∃ y,DkS w F0 d D0 lim y w' /\
 ((∃ (x:Nat×List (Option Addr×Nat)×List (List V)) (K:List Dn),e=.returned (.tuple #[dnV (some x),.nilIface])/\Qd w' x.1 x.2.1 x.2.2/\(Jbo x.1 x.2.1 x.2.2.length fun b=>b<w'.heap.size/\¬ y b)/\I n (K++[some x])) \/
  (∃ (j:Nat) (v:Value) (eb:Nat),e=.returned (.tuple #[.slice none 0 0,.iface 105 (.pointer (some ⟨eb,0,none⟩))])/\w'.heap[eb]?=some (.cells #[.int .i64 (j:Int),v] 107 (0,0))/\H j v w'/\w.heap.size<=eb))
structure Kvb (W2:World) (F0:Nat->Prop) (D0:DS) (lim:Nat->Nat) (z bu bl:Int) (se tp:Value) (d:Nat) (sc sv:Value) (nds:List Nd) (PS:Nat->List Dn->Prop) (j:Nat) (dv:Value) (ds:List Dn) (F:Nat->Prop) (wr:World):Prop where
 rg:Jjg F (W2.heap.size+1) W2.heap.size z bu bl se tp (.pointer (some ⟨d,0,none⟩)) sc dv ds wr
 len:ds.length=j
 ps:PS j ds
 last:0<j->∃ ds' x,ds=ds'++[some x]
 steps:wr.ownsRow (W2.heap.size+1) 104 8 sv nds.length (nds.flatMap (Jbu W2.heap.size))
 sep:∀ g,sv.ownBlock=some g->dv.ownBlock≠some g/\¬ F g
 dk:DkS W2 F0 d D0 (lim j) F wr
theorem Jjg.below {F L rb z bu bl M O H sc K I W y}(h:Jjg F L rb z bu bl M O H sc K I W)(hb:Below W.heap.size W y):Jjg F L rb z bu bl M O H sc K I y:=⟨h.rs.below hb,h.off,h.rbF,h.dvF⟩
theorem DkS.below {X F0 d D0 lim F W y}(h:DkS X F0 d D0 lim F W)(hb:Below W.heap.size W y):DkS X F0 d D0 lim F y:=h.on (G:=fun _=>False) (Oa2 _) (Ju.of_below hb) fun _ e=>e.elim
theorem Kvb.step {I F0 F D0 lim z bu bl bh bi d sc sv H M j U O wr}(h:Kvb I F0 D0 lim z bu bl bh bi d sc sv H M j U O F wr){i nd}(hi:H[i]?=some nd):
  ∃ g cap,sv=.slice (some ⟨g,0,none⟩) H.length cap/\Zm wr g (i*8) nd/\wr.cell? ⟨g,i*8+7,none⟩=some (.func (.func (Jej nd.op)) #[.pointer (some ⟨I.heap.size,0,none⟩)] #[]):=by
 have bz:i<H.length:=(Ob9.1 hi).1;rcases h.steps with⟨h0,⟨K,Y⟩|⟨g,cap,bj,K,Y,Z,bk,br,bx,bf⟩⟩
 ·omega
 have y:∀ k,k<8->wr.cell? ⟨g,i*8+k,none⟩=(Jbu I.heap.size nd)[k]?:=fun k hk=>by
  have:=Jek (Jbu I.heap.size) 8 (fun _=>rfl) H i k nd hi hk;rw[<-bf,Oe7,if_pos zo,Oe6]at this;rw[<-this];simp[World.cell?,Z]
 exact⟨g,cap,K,⟨y 0 zo,y 1 zo,y 2 zo,y 3 zo,y 4 zo,y 5 zo,y 6 zo⟩,y 7 zo⟩
theorem Kvb.next {y F0 F Y D0 lim z bu bl bh bi d sc sv bA bj j I O bB M wr K w4 x}(h:Kvb y F0 D0 lim z bu bl bh bi d sc sv bA bj j I bB F wr)(bx:Ju (fun k=>F k\/I.ownBlock=some k) wr K)(hF:∀ k,Y k->F k\/wr.heap.size<=k)(br:DkS y F0 d D0 (lim (j+1)) Y K)(hR:Jjg Y (y.heap.size+1) y.heap.size z bu bl bh bi (.pointer (some ⟨d,0,none⟩)) sc I M K)(bG:Jfk y.heap.size I x K)(bH:Jbo x.1 x.2.1 x.2.2.length fun b=>¬ Y b)(hl:M.length=j)(hp:bj (j+1) (M++[some x]))bk(bI:Jo w4 (y.heap.size+1) 76 O (M.map dnV++[dnV (some x)]))(U:(K.alloc bk).grownBy w4 I.ownBlock)(bf:O.ownBlock=I.ownBlock\/O.ownBlock=some (K.alloc bk).heap.size):
  Kvb y F0 D0 lim z bu bl bh bi d sc sv bA bj (j+1) O (M++[some x]) Y (w4.setCell ⟨y.heap.size,7,none⟩ O)/\Jck w4 y.heap.size z (.int .i64 bu) (.int .i64 bl) bh bi (.pointer (some ⟨d,0,none⟩)) sc I:=by
 obtain⟨bD,bE⟩:=hR.rs.more bG bk bI U bf;have bC:∀ g,I.ownBlock=some g->y.heap.size+1<=g/\g<wr.heap.size:=fun g e=>Je h.rg.rs.own e;have Z:∀ g,sv.ownBlock=some g->y.heap.size+1<=g/\g<wr.heap.size:=fun g e=>Je h.steps e;have bM:=bx.size;have bK:=U.size;rw[Oa7]at bK bf;have bz:Ju (fun k=>k=y.heap.size\/I.ownBlock=some k) K (w4.setCell ⟨y.heap.size,7,none⟩ O):=by
  refine Ju.set (F:=fun k=>k=y.heap.size\/I.ownBlock=some k) ?_ (.inl rfl) 7 _;exact⟨U.os,U.tape,U.output,zo,fun k hk hn=>(U.block k (by rw[Oa7];omega) fun e=>hn (.inr e.symm)).trans (Oa9 _ _ _ hk)⟩
 refine⟨⟨⟨bD,fun bJ hy=>?_,hR.rbF,fun g e H=>?_⟩,by rw[Oa8,List.length_singleton,hl],hp,fun _=>⟨M,x,rfl⟩,Jl h.steps fun g e=>?_,fun g e=>⟨fun H=>?_,fun H=>?_⟩,br.on (Oa2 _) bz fun k e=>?_⟩,bE⟩
 ·rcases Od2.1 hy with hy|hy
  ·exact hR.off bJ hy
  cases Oc6.1 hy
  exact bH
 ·rcases bf with q|q
  ·exact hR.dvF g (q.symm.trans e) H
  rw[q]at e;cases e
  have:=br.flt _ H;omega
 ·rw[bz.block g (by have:=Z g e;omega) fun H=>H.elim (fun H=>by have:=Z g e;omega) (h.sep g e).1];exact bx.block g (Z g e).2 fun H=>H.elim (h.sep g e).2 (h.sep g e).1
 ·rcases bf with q|q
  ·exact(h.sep g e).1 (q.symm.trans H)
  rw[q]at H;cases H
  have:=Z _ e;omega
 ·exact(hF g H).elim (h.sep g e).2 fun bL=>by have:=Z g e;omega
 rcases e with e|e
 ·rw[e];exact⟨Oa2 _,hR.rbF⟩
 exact⟨by have:=bC k e;omega,hR.dvF k e⟩
theorem DkS.elder {w X F0 d D0 lim y F W}(h:DkS X F0 d D0 lim F W)(hb:Below w.heap.size w X)(hl:lim<=y):DkS w F0 d D0 y F W:=by
 obtain⟨E,H,I,K⟩:=h.ex;have hs:=hb.size;exact⟨(Ju.of_below (F:=F0) hb).trans h.keep,⟨E,H,I,zo⟩,fun k hk=>(h.ffr k hk).imp id fun e=>zo,h.flt⟩
theorem Kwy (nb no br s d:Nat)(F0:Nat->Prop)(D0:DS)(lim:Nat->Nat)(H:List Nd)(z bu bl sd:Int)(bk:Nat->List Dn->Prop)(bA:Nat->Value->World->Prop)(SC:Value->World->Prop)w(dd:∀ j nd,H[j]?=some nd->Zm w nb (no+j*7) nd)(fl:1<=H.length)(fS:H.length<=12)(dP:1<=z)(dQ:z<=1000)(bB:2<=bu)(bj:bu<=1000)(du:0<=bl)(dv:bl<=4096)(dK:∀ X,Below w.heap.size w X->Calls prog 32 #[(.agg #[.slice (some ⟨nb,no,none⟩) H.length br]),(.func (.func 33) #[.pointer (some ⟨s,0,none⟩)] #[])] X fun e w'=>∃ a n c,e=.returned (.tuple #[.slice a n c,.nilIface])/\Below X.heap.size X w'/\SC (.slice a n c) w')(df:∀ v W U,Below W.heap.size W U->SC v W->SC v U)(dN:∀ X sc,Below w.heap.size w X->SC sc X->∀ j nd,H[j]?=some nd->Kuz X (X.heap.size+1) X.heap.size z bu bl (.int .i64 sd) (.pointer (some ⟨s,0,none⟩)) d sc bk bA F0 D0 lim nd j)(da:∀ j v W U,Below W.heap.size W U->bA j v W->bA j v U)(de:bk 0 [])(cZ:DkS w F0 d D0 (lim 0) F0 w)(dw:∀ j,j<=H.length->lim j<=lim H.length):
  Calls prog 24 #[(.agg #[.slice (some ⟨nb,no,none⟩) H.length br]),.agg #[.int .i64 z,.int .i64 bu,.int .i64 bl,.int .i64 sd],(.pointer (some ⟨s,0,none⟩)),(.pointer (some ⟨d,0,none⟩))] w (Kx0 H.length bk bA F0 d D0 (lim H.length) w):=by
 have bN:Hid ((∀ j nd,H[j]?=some nd->Zm w nb (no+j*7) nd)/\(∀ X sc,Below w.heap.size w X->SC sc X->∀ j nd,H[j]?=some nd->Kuz X (X.heap.size+1) X.heap.size z bu bl (.int .i64 sd) (.pointer (some ⟨s,0,none⟩)) d sc bk bA F0 D0 lim nd j)/\(∀ j v W U,Below W.heap.size W U->bA j v W->bA j v U)/\bk 0 []/\∀ v W U,Below W.heap.size W U->SC v W->SC v U):=⟨dd,dN,da,de,df⟩;have fU:=run_neq_nil_nil (P:=prog);obtain⟨w1,bJ⟩:∃ w1,w1=(w.alloc (.cells #[.slice (some ⟨nb,no,none⟩) H.length br] 47)).alloc (.cells #[.int .i64 z,.int .i64 bu,.int .i64 bl,.int .i64 sd] 27):=⟨_,rfl⟩;have cx:Below w.heap.size w w1:=by rw[bJ];exact Jc (Jc (Oa5 _ _) _) _
 have cD:=dK w1 cx;have cN:=zh cx;have dT:w1.heap[w.heap.size]?=some (.cells #[.slice (some ⟨nb,no,none⟩) H.length br] 47 (0,0)):=by rw[bJ];exact(Oa9 _ _ _ zS).trans (heap_alloc_new w _)
 have dU:w1.heap[w.heap.size+1]?=some (.cells #[.int .i64 z,.int .i64 bu,.int .i64 bl,.int .i64 sd] 27 (0,0)):=by
  have:=heap_alloc_new (w.alloc (.cells #[.slice (some ⟨nb,no,none⟩) H.length br] 47)) (.cells #[.int .i64 z,.int .i64 bu,.int .i64 bl,.int .i64 sd] 27);rw[Oa7]at this;rw[bJ];exact this
 have dD:=fun W=>Jk5 z bu bl (.int .i64 sd) W dP dQ bB bj du dv;have bO:Hid (w1.heap[w.heap.size]?=some (.cells #[.slice (some ⟨nb,no,none⟩) H.length br] 47 (0,0))/\w1.heap[w.heap.size+1]?=some (.cells #[.int .i64 z,.int .i64 bu,.int .i64 bl,.int .i64 sd] 27 (0,0))):=⟨dT,dU⟩;rw[bJ]at cD;have cV:=zh bJ;have cP:=Krx cZ;have cR:=Krx dw;clear cZ dw dd dN da de dK cx dT dU dP dQ bB bj du dv bJ df;go_enter func24,ntmps24
 go_upto_region 2 with(go_at_call 32;refine cD.mono ?_;rintro bS bU ⟨K,O,M,rfl,bB,dJ⟩)
 rw[<-cV.out]at bB;have dX:=(bB.block _ (Jd bO.out.1)).trans bO.out.1;have bz:=(bB.block _ (Jd bO.out.2)).trans bO.out.2;have cj:=zc 0 bz;have bx:=zc 1 bz;have bK:=zc 2 bz;have bL:=zc 3 bz;have bQ:Hid (Below w.heap.size w bU/\SC (.slice K O M) bU/\bU.heap[w.heap.size]?=some (.cells #[.slice (some ⟨nb,no,none⟩) H.length br] 47 (0,0))/\bU.heap[w.heap.size+1]?=some (.cells #[.int .i64 z,.int .i64 bu,.int .i64 bl,.int .i64 sd] 27 (0,0))):=⟨Jb cN.out bB,dJ,dX,bz⟩;clear cD bB dJ dX bz cV bO cN w1;go_upto_region 6 with(go_at_call 34;refine(dD _).mono ?_;rintro bS y ⟨rfl,bj⟩)
 have fi:=Ja bj cj;have fj:=Ja bj bx;have bE:=Ja bj bK;have fk:=Ja bj bL;have cK:=(bj.block _ (Jd bQ.out.2.2.1)).trans bQ.out.2.2.1;have cc:Below w.heap.size w y:=Jb bQ.out.1 bj;have cE:=bN.out.2.2.2.2 _ _ _ bj bQ.out.2.1;have bR:Hid (Below w.heap.size w y/\SC (.slice K O M) y):=⟨cc,cE⟩;have cI:=bN.out.2.1 y (.slice K O M) cc cE;have fe:=Krx cI;have bY:Below y.heap.size y (y.alloc (.cells #[.int .i64 z,.int .i64 bu,.int .i64 bl,.int .i64 sd,(.pointer (some ⟨s,0,none⟩)),(.pointer (some ⟨d,0,none⟩)),.slice K O M,.slice none 0 0] 99)):=Jc (Oa5 _ _) _;have dG:(y.alloc (.cells #[.int .i64 z,.int .i64 bu,.int .i64 bl,.int .i64 sd,(.pointer (some ⟨s,0,none⟩)),(.pointer (some ⟨d,0,none⟩)),.slice K O M,.slice none 0 0] 99)).heap[y.heap.size]?=_:=heap_alloc_new y (.cells #[.int .i64 z,.int .i64 bu,.int .i64 bl,.int .i64 sd,(.pointer (some ⟨s,0,none⟩)),(.pointer (some ⟨d,0,none⟩)),.slice K O M,.slice none 0 0] 99);have dW:=(bY.block _ (Jd cK)).trans cK;have cF:=Jxb y.heap.size nb no br H (y.alloc (.cells #[.int .i64 z,.int .i64 bu,.int .i64 bl,.int .i64 sd,(.pointer (some ⟨s,0,none⟩)),(.pointer (some ⟨d,0,none⟩)),.slice K O M,.slice none 0 0] 99)) (fun j p hp=>((bN.out.1 j p hp).below cc).below bY) (fun p hp=>by
  obtain⟨j,cA⟩:=Ok2.1 hp;have:=cI j p cA;exact⟨this.1,this.2.1⟩) zo
 have dV:(y.alloc (.cells #[.int .i64 z,.int .i64 bu,.int .i64 bl,.int .i64 sd,(.pointer (some ⟨s,0,none⟩)),(.pointer (some ⟨d,0,none⟩)),.slice K O M,.slice none 0 0] 99)).cell? ⟨w.heap.size,0,none⟩=some (.slice (some ⟨nb,no,none⟩) H.length br):=by simp[World.cell?,dW]
 clear cj bx bK bL bj dD bQ cK cc cE cI dW;go_upto_region 7 with fail
 have bD:Hid ((y.alloc (.cells #[.int .i64 z,.int .i64 bu,.int .i64 bl,.int .i64 sd,(.pointer (some ⟨s,0,none⟩)),(.pointer (some ⟨d,0,none⟩)),.slice K O M,.slice none 0 0] 99)).heap[y.heap.size]?=some (.cells #[.int .i64 z,.int .i64 bu,.int .i64 bl,.int .i64 sd,(.pointer (some ⟨s,0,none⟩)),(.pointer (some ⟨d,0,none⟩)),.slice K O M,.slice none 0 0] 99 (0,0))/\Below y.heap.size y (y.alloc (.cells #[.int .i64 z,.int .i64 bu,.int .i64 bl,.int .i64 sd,(.pointer (some ⟨s,0,none⟩)),(.pointer (some ⟨d,0,none⟩)),.slice K O M,.slice none 0 0] 99))/\(y.alloc (.cells #[.int .i64 z,.int .i64 bu,.int .i64 bl,.int .i64 sd,(.pointer (some ⟨s,0,none⟩)),(.pointer (some ⟨d,0,none⟩)),.slice K O M,.slice none 0 0] 99)).heap.size=y.heap.size+1):=⟨dG,bY,zS⟩;clear dG bY;generalize y.alloc (.cells #[.int .i64 z,.int .i64 bu,.int .i64 bl,.int .i64 sd,(.pointer (some ⟨s,0,none⟩)),(.pointer (some ⟨d,0,none⟩)),.slice K O M,.slice none 0 0] 99)=fL at cF dV bD |-;go_wp2_with (go_at_call 35;refine cF.mono ?_;rintro bS bV ⟨dh,sv,rfl,cG⟩;obtain⟨cL,cM,cH⟩:=Jcz cG;have cU:=zh cG;have fK:=zh cH;have fu:sv=.slice cL H.length cM:=cH;clear cG cH;subst fu)
 have cB:Below y.heap.size y bV:=Jb bD.out.2.1 dh;have dp:DkS y F0 d D0 (lim 0) F0 bV:=by
  have h0:=cP.out;have di:Below w.heap.size w bV:=Jb bR.out.1 cB;obtain⟨E,g1,g2,bX⟩:=h0.ex;exact⟨Ju.of_below cB,⟨E,g1.below di,g2,bX⟩,fun k hk=>.inl hk,fun k hk=>Oc2 (h0.flt k hk) di.size⟩
 have cv:∀ k,F0 k->k<y.heap.size:=fun k hk=>Oc2 (cP.out.flt k hk) bR.out.1.size;have dc:Kvb y F0 D0 lim z bu bl (.int .i64 sd) (.pointer (some ⟨s,0,none⟩)) d (.slice K O M) (.slice cL H.length cM) H bk 0 (.slice none 0 0) [] F0 bV:=
  ⟨⟨⟨(dh.block _ (Jd bD.out.1)).trans bD.out.1,Jo.nil _ _ _,fun x cJ=>(by cases cJ),zo⟩,fun x cJ=>(by cases cJ),fun e=>Oe3 _ (cv _ e),fun g e=>(by cases e)⟩,rfl,bN.out.2.2.2.1,fun h=>absurd h (Oe3 _),(by have:=cU.out;rw[bD.out.2.2]at this;exact this),fun g e=>⟨fun bE=>(by cases bE),fun bE=>(by have fl:=cv g bE;have fm:=(Je cU.out e).1;rw[bD.out.2.2]at fm;omega)⟩,dp⟩
 have dZ:=Krx dc;clear dc cF bD dV fi fj bE fk dp cB cv;go_loopw [41] (fun i wr=>∃ (j:Nat) (Z:Value) (bW:List Dn) (F:Nat->Prop),j<=H.length/\i=.int .i64 (j:Int)/\Kvb y F0 D0 lim z bu bl (.int .i64 sd) (.pointer (some ⟨s,0,none⟩)) d (.slice K O M) (.slice cL H.length cM) H bk j Z bW F wr) (fun i _=>H.length-(intOf i).toNat)
 case atStart=>exact⟨0,_,_,_,Ob7 _,rfl,dZ.out⟩
 case round=>
  obtain⟨j,Z,bW,F,cA,rfl,I⟩:=hrel;have cQ:=Krx I;have dH:=I.rg.rs.run;obtain⟨cW,cX,ca,dm⟩:=I.rg.rs.own.cells;rw[Oa6,I.len]at ca;by_cases dx:j<H.length
  ·obtain⟨nd,cf⟩:∃ nd,H[j]?=some nd:=⟨_,Oa3 dx⟩;obtain⟨fw,fx,cz⟩:=fe.out j nd cf;obtain⟨sg,fY,dL,⟨fZ,ga,gb,gd,ge,gg,gh⟩,fJ⟩:=I.step cf;simp only[On8]at dL;obtain⟨rfl,-,rfl⟩:=dL;have fr:=Js3 nd.op;obtain⟨f,hf⟩:∃ f,f=Jej nd.op:=⟨_,rfl⟩;rw[<-hf]at fr fJ cz;have fV:∀ (a:Addr) (X:World),(store a (.func (.func f) #[.pointer (some ⟨y.heap.size,0,none⟩)] #[])).run prog X=stored prog X a (.func (.func f) #[.pointer (some ⟨y.heap.size,0,none⟩)] #[]) .plain:=fun a X=>run_store _ _ _ _ _ rfl;have bZ:Below wr.heap.size wr (wr.alloc (.cells #[.int .i64 nd.op,.int .i64 nd.l,.int .i64 nd.r,.string nd.tn,.slice nd.xs.1 nd.xs.2.1 nd.xs.2.2,.slice nd.ky.1 nd.ky.2.1 nd.ky.2.2,.int .i64 nd.kk,.func (.func f) #[.pointer (some ⟨y.heap.size,0,none⟩)] #[]] 104)):=Jc (Oa5 _ _) _;have cy:=(cz (wr.alloc (.cells #[.int .i64 nd.op,.int .i64 nd.l,.int .i64 nd.r,.string nd.tn,.slice nd.xs.1 nd.xs.2.1 nd.xs.2.2,.slice nd.ky.1 nd.ky.2.1 nd.ky.2.2,.int .i64 nd.kk,.func (.func f) #[.pointer (some ⟨y.heap.size,0,none⟩)] #[]] 104)) F Z bW (I.dk.below bZ) (fun g e=>by have:=(Je I.rg.rs.own e).1;omega) (I.rg.below bZ) I.len I.ps).mono (R':=fun e U=>∃ a b bf,e=.returned (.tuple #[a,b])/\(DkS y F0 d D0 (lim (j+1)) bf U/\Ju (fun k=>F k\/Z.ownBlock=some k) (wr.alloc (.cells #[.int .i64 nd.op,.int .i64 nd.l,.int .i64 nd.r,.string nd.tn,.slice nd.xs.1 nd.xs.2.1 nd.xs.2.2,.slice nd.ky.1 nd.ky.2.1 nd.ky.2.2,.int .i64 nd.kk,.func (.func f) #[.pointer (some ⟨y.heap.size,0,none⟩)] #[]] 104)) U/\∀ k,bf k->F k\/(wr.alloc (.cells #[.int .i64 nd.op,.int .i64 nd.l,.int .i64 nd.r,.string nd.tn,.slice nd.xs.1 nd.xs.2.1 nd.xs.2.2,.slice nd.ky.1 nd.ky.2.1 nd.ky.2.2,.int .i64 nd.kk,.func (.func f) #[.pointer (some ⟨y.heap.size,0,none⟩)] #[]] 104)).heap.size<=k)/\((∃ (x:Nat×List (Option Addr×Nat)×List (List V)) (Y:List Dn),a=dnV (some x)/\b=.nilIface/\Jjg bf (y.heap.size+1) y.heap.size z bu bl (.int .i64 sd) (.pointer (some ⟨s,0,none⟩)) (.pointer (some ⟨d,0,none⟩)) (.slice K O M) Z Y U/\Jfk y.heap.size Z x U/\(Jbo x.1 x.2.1 x.2.2.length fun b=>¬ bf b)/\Y.length=j/\bk (j+1) (Y++[some x]))\/(∃ (ty bb:Nat),a=.slice none 0 0/\b=.iface ty (.pointer (some ⟨bb,0,none⟩))/\bA j b U))) (fun e U h=>by
    obtain⟨bf,g1,g2,bX,⟨x,Y,rfl,fD,fE,fF,fG,fH⟩|⟨ty,bb,rfl,cb⟩⟩:=h
    ·exact⟨_,_,bf,rfl,⟨g1,g2,bX⟩,.inl ⟨x,Y,rfl,rfl,fD,fE,fF,fG,fH⟩⟩
    exact⟨_,_,bf,rfl,⟨g1,g2,bX⟩,.inr ⟨ty,bb,rfl,rfl,cb⟩⟩)
   have bC:Hid (j<H.length/\H[j]?=some nd/\Below wr.heap.size wr (wr.alloc (.cells #[.int .i64 nd.op,.int .i64 nd.l,.int .i64 nd.r,.string nd.tn,.slice nd.xs.1 nd.xs.2.1 nd.xs.2.2,.slice nd.ky.1 nd.ky.2.1 nd.ky.2.2,.int .i64 nd.kk,.func (.func f) #[.pointer (some ⟨y.heap.size,0,none⟩)] #[]] 104))):=⟨dx,cf,bZ⟩;have dr:∀ g,Z.ownBlock=some g->y.heap.size+1<=g/\g<wr.heap.size:=fun g e=>Je I.rg.rs.own e;have bM:Hid (Z=.slice cW j cX/\∀ g,Z.ownBlock=some g->y.heap.size+1<=g/\g<wr.heap.size):=⟨ca,dr⟩;clear hf I cz cf fw fx dH dm bZ ca dr;go_upto_region 11 with(refine cy.mono ?_;rintro bS bh ⟨fI,fX,bf,rfl,bI,fq⟩)
   rcases fq with⟨x,Y,hra,rfl,hR,cY,dO,dq,dE⟩|⟨ty,bb,rfl,rfl,cb⟩
   ·as_aux_lemma=>
     have ft:fI=.slice (some ⟨x.1,0,none⟩) x.2.2.length (Kul x.2.1 x.2.2.length):=hra;subst ft;have cn:Hid (Ju (fun k=>F k\/Z.ownBlock=some k) wr bh/\(∀ k,bf k->F k\/wr.heap.size<=k)/\DkS y F0 d D0 (lim (j+1)) bf bh):=⟨(Ju.of_below bC.out.2.2).trans bI.2.1,fun k hk=>(bI.2.2 k hk).imp id fun e=>by have:=bC.out.2.2.size;omega,bI.1⟩;have bP:Hid (Jd6 (y.heap.size+1) y.heap.size z bu bl (.int .i64 sd) (.pointer (some ⟨s,0,none⟩)) (.pointer (some ⟨d,0,none⟩)) (.slice K O M) Z Y bh/\Jfk y.heap.size Z x bh/\Y.length=j/\bk (j+1) (Y++[some x])):=⟨hR.rs,cY,dq,dE⟩;have cT:Hid (Jjg bf (y.heap.size+1) y.heap.size z bu bl (.int .i64 sd) (.pointer (some ⟨s,0,none⟩)) (.pointer (some ⟨d,0,none⟩)) (.slice K O M) Z Y bh/\Jbo x.1 x.2.1 x.2.2.length fun b=>¬ bf b):=⟨hR,dO⟩;have cu:=hR.rs.run.cells.2.2.2.2;rw[bM.out.1]at cu;have fs:Jo bh (y.heap.size+1) 76 (.slice cW j cX) (Y.map dnV):=by have:=hR.rs.own;rw[bM.out.1]at this;exact this
     clear hra hR cY dq dE bI cy dO;go_wp2_with (at_builtin;go_must (refine Ul zR _ _ 97 76 _ 24 Jzj zR zd zK zR (y.heap.size+1) _ _ zR (Jo.alloc fs _) ⟨bh.heap.size,0,none⟩ 1 [dnV (some x)] zR (by exact Ua bh _ _) (by intro u dM;simp at dM;subst dM;rfl) (by have:=bP.out.2.2.1;have:=bC.out.1;simp only[List.length_cons,List.length_nil,Oa6];omega) (by simp;have:=Jd bP.out.1.run;omega) ?_);intro fQ w4 bz fB fC;go_must (obtain⟨fp,cC⟩:=cQ.out.next cn.out.1 cn.out.2.1 cn.out.2.2 cT.out.1 bP.out.2.1 cT.out.2 bP.out.2.2.1 bP.out.2.2.2 (.cells #[dnV (some x)] 76) bz (by rw[bM.out.1];exact fB) (by rw[bM.out.1];exact fC));obtain⟨fN,fO,dI,_⟩:=bz.cells;obtain⟨dR,dA⟩:∃ dR,dR=(Y.map dnV++[dnV (some x)]).length:=⟨_,rfl⟩;rw[<-dA]at dI;clear dA;subst dI;rw[bM.out.1]at cC;have fP:=cC.cells.2.2.2.2;have fR:w4.frozen? ⟨y.heap.size,7,none⟩=false:=(by simp[World.frozen?,show w4.heap[y.heap.size]?=_ from cC]))
     go_roundw
     case rel=>exact⟨j+1,_,_,_,bC.out.1,by have:=bC.out.1;go_num,fp⟩
     case measure=>have:=bC.out.1;simp[intOf];omega
   as_aux_lemma=>
    have cO:Hid (DkS w F0 d D0 (lim H.length) bf bh):=bI.1.elder bR.out.1 (cR.out (j+1) bC.out.1);have db:=bN.out.2.2.1 j _ bh (bh.alloc (.cells #[.int .i64 (j:Int),.iface ty (.pointer (some ⟨bb,0,none⟩))] 107)) (Jc (Oa5 _ _) _) cb;have dY:=Krx db;clear cb db bI cy;go_wp2;refine bodyPost_ret (v:=.tuple #[.slice none 0 0,.iface 105 (.pointer (some ⟨bh.heap.size,0,none⟩))]) (by simp[results,results24,go_sem]) rfl ⟨bf,cO.out.below (Jc (Oa5 _ _) _),.inr ⟨j,_,bh.heap.size,rfl,heap_alloc_new bh _,dY.out,cO.out.keep.size⟩⟩
  as_aux_lemma=>
   have dt:j=H.length:=zo;obtain⟨Y,x,bG⟩:=I.last zo;have hlen:Y.length+1=H.length:=by have:=I.len;rw[bG,Oa8,List.length_singleton]at this;omega
   obtain⟨m,dy⟩:∃ m,m=Y.length:=⟨_,rfl⟩;rcases I.rg.rs.own with⟨cj,⟨bx,bK⟩|⟨bi,fh,fg,bx,bK,bL,fy,fz,fA,dS⟩⟩
   ·rw[Oa6,I.len]at bK;omega
   rw[Oa6,I.len]at bx;have dl:fg[m]?=some (dnV (some x)):=by
    have bT:(bW.map dnV)[m]?=some (dnV (some x)):=by rw[bG,Ob8,Ob6 (by rw[Oa6];omega),Oa6,dy,Oe1];rfl
    rw[<-dS,Oe7]at bT;split at bT
    ·rw[Oe6]at bT;exact bT
    cases bT
   have dj:wr.cell? ⟨bi,m,none⟩=some (.slice (some ⟨x.1,0,none⟩) x.2.2.length (Kul x.2.1 x.2.2.length)):=by
    simp only[World.cell?,bL];exact dl
   have ds:wr.frozen? ⟨bi,m,none⟩=false:=by simp[World.frozen?,bL]
   have ci:=I.rg.rs.run;rw[bx]at ci;have fv:=Jjb y.heap.size bi j fh m z (.int .i64 bu) (.int .i64 bl) (.int .i64 sd) (.pointer (some ⟨s,0,none⟩)) (.pointer (some ⟨d,0,none⟩)) (.slice K O M) _ _ _ wr ci zo dj ds;have cu:=ci.cells.2.2.2.2;have bH:=I.rg.rs.cols x (by rw[bG];simp);have ff:Hid (Qd (wr.setCell ⟨bi,m,none⟩ (.slice none 0 0)) x.1 x.2.1 x.2.2):=by
    have hob:Z.ownBlock=some bi:=by rw[bx];rfl
    exact bH.1.blocks (by simp[World.setCell]) ⟨Oa4 _ _ _ _ (fun e=>bH.2.1.2.1 (hob.trans (congrArg some e.symm))),fun k hk b o e=>Oa4 _ _ _ _ (fun bE=>(bH.2.2 k hk b o e).2.1 (hob.trans (congrArg some bE.symm)))⟩
   have fc:Hid (bk H.length (Y++[some x])):=by have:=I.ps;rw[bG,dt]at this;exact this
   have dB:Z.ownBlock=some bi:=by rw[bx];rfl
   have cS:Hid (DkS w F0 d D0 (lim H.length) F (wr.setCell ⟨bi,m,none⟩ (.slice none 0 0))/\Jbo x.1 x.2.1 x.2.2.length fun b=>b<(wr.setCell ⟨bi,m,none⟩ (.slice none 0 0)).heap.size/\¬ F b):=by
    have dC:=I.rg.off x (by rw[bG];simp);have fo:=(I.dk.elder bR.out.1 (cR.out j cA)).on (Oa2 _) (Ju.set (F:=fun k=>k=bi) (Ju.refl _ wr) rfl m (.slice none 0 0)) fun k e=>⟨by have:=bR.out.1.size;have bS:k=bi:=e;omega,by rw[show k=bi from e];exact I.rg.dvF bi dB⟩;refine⟨fo,⟨?_,dC.1⟩,fun k hk b o e=>⟨?_,dC.2 k hk b o e⟩⟩
    ·have:=bH.2.1.2.2;simpa [World.setCell] using this
    have:=(bH.2.2 k hk b o e).2.2;simpa [World.setCell] using this
   rw[dt]at cu |-;have fW:(H.length:Int)-1=(m:Int):=zo;have fT:m<=11:=zo;clear dB bH ci I cQ dl ds dj cj bx bK bL fy fz fA dS dm ca bG hlen dy dH;go_wp2_with (go_at_call 36;refine fv.mono ?_;rintro bS fM ⟨rfl,dg⟩;have fd:=zh dg;clear dg)
   refine bodyPost_ret (v:=.tuple #[.slice (some ⟨x.1,0,none⟩) x.2.2.length (Kul x.2.1 x.2.2.length),.nilIface]) (by simp[results,results24,go_sem]) rfl ?_;rw[fd.out];exact⟨F,cS.out.1,.inl ⟨x,Y,rfl,ff.out,cS.out.2,fc.out⟩⟩
theorem Jjg.turn {F M L rb z bu bl bh bi U sc Z Y W O}(h:Jjg F L rb z bu bl bh bi U sc Z Y W)(hk:Ju F W O)(hF:∀ k,M k->F k\/W.heap.size<=k):Jjg M L rb z bu bl bh bi U sc Z Y O:=by
 have bf:=Jd h.rs.run;have K:∀ k,k<W.heap.size->¬ F k->¬ M k:=fun k hk hn e=>(hF k e).elim hn fun e=>by omega
 refine⟨⟨(hk.block rb bf h.rbF).trans h.rs.run,Jl h.rs.own fun g e=>hk.block g (Je h.rs.own e).2 (h.dvF g e),fun x I=>?_,h.rs.low⟩,fun x I=>?_,K rb bf h.rbF,fun g e=>K g (Je h.rs.own e).2 (h.dvF g e)⟩
 ·have y:=h.rs.cols x I;have ho:=h.off x I;exact⟨y.1.blocks hk.size ⟨hk.block _ y.2.1.2.2 ho.1,fun j H b o e=>hk.block b (y.2.2 j H b o e).2.2 (ho.2 j H b o e)⟩,⟨y.2.1.1,y.2.1.2.1,Oc2 y.2.1.2.2 hk.size⟩,fun j H b o e=>⟨(y.2.2 j H b o e).1,(y.2.2 j H b o e).2.1,Oc2 (y.2.2 j H b o e).2.2 hk.size⟩⟩
 have y:=h.rs.cols x I;have ho:=h.off x I;exact⟨K _ y.2.1.2.2 ho.1,fun j H b o e=>K b (y.2.2 j H b o e).2.2 (ho.2 j H b o e)⟩
structure Qdl (X:World) (F0:Nat->Prop) (sch:List Int) (ks:List Krv) (kb ko sg so l tb to_ tc:Nat) (a0 a1 a2 q qw pg:Addr):Prop where
 env:∀ Y,Ju F0 X Y->Kc Y (some ⟨tb,to_,none⟩) sch/\Klj Y kb ko ks/\Jf0 Y a0 a1 a2/\Y.cell? ⟨6,0,none⟩=some (.iface 432 (.pointer (some q)))/\Y.cell? ⟨7,0,none⟩=some (.iface 432 (.pointer (some qw)))/\Y.cell? ⟨8,0,none⟩=some (.iface 432 (.pointer (some pg)))
 gl:¬ F0 6/\¬ F0 7/\6<X.heap.size/\7<X.heap.size
 sc:X.cell? ⟨sg,so+l,none⟩=some (.slice (some ⟨tb,to_,none⟩) sch.length tc)
 sgF:¬ F0 sg
section
variable {tys:ByteArray->List Int} {scs:List (List Int)} {ns:List PN} {tab:ByteArray->Cs⊕Nat} {j:Nat} {n:PN} {nd:Nd} {X:World}
theorem Kyx (h:Jdk tys scs ns)(dh:Ktc tys scs ns tab)(ht:∀ n∈ns,n.op=0->∀ cs,tab n.tn=.inl cs->Zt (tys n.tn) cs)(O:ns[j]?=some n)(cb:n.op=5)(dv:nd.op=5)(hl:nd.l=(n.l:Int))(z:Int)(bu:Nat)(bl:Int)bW bX(d sg so bK bV kb ko kc:Nat)(dj:nd.ky=(some ⟨kb,ko,none⟩,n.gk.length,kc))(dq:n.l<bK)(F0:Nat->Prop)(D0:DS)(lim:Nat->Nat)(bZ:Nat->Value->World->Prop)a0 a1 a2 q qw pg(ds:∀ sch,scs[n.l]?=some sch->∃ tb to_ tc,Qdl X F0 sch n.gk kb ko sg so n.l tb to_ tc a0 a1 a2 q qw pg)(hts:∀ sch,scs[n.l]?=some sch->sch.length<=100/\∀ c,c<sch.length->1<=sch.getD c 0/\sch.getD c 0<=3)(cP:2<=bu)(cQ:bu<=50000)(cI:∀ bG b Z,Jd7 tab ns j->Yu Z (.iface 156 (.pointer (some ⟨b,0,none⟩))) (if bG=true then q else qw) none (some (-1))->Kso D0 bG->bu<nR (Jbs n (stN tab ns j))->bZ j (.iface 156 (.pointer (some ⟨b,0,none⟩))) Z)(pr:Nat)(g:Nat->Nat)(dc:∀ q,bu<q->g (ckN q bu)+1<=g q)(dm:lim (j+1)<=930000)(cS:Jd7 tab ns j->∀ cs sch,cs=Jbs n (stN tab ns j)->scs[n.l]?=some sch->nR cs<=50000/\(∀ ch:List Nat,(∀ t∈ch,t<nR cs)->1<=ch.length->ch.length<=64->(Qu (Kr3 sch (Jba ch cs) sch.length)).length<=pr*ch.length)/\g (ckN (nR cs) bu)<=100000/\lim j+2*pr*bu*ckN (nR cs) bu+pr*nR cs*g (ckN (nR cs) bu)<=lim (j+1)):
  Kuz X (X.heap.size+1) X.heap.size z (bu:Int) bl bW bX d (.slice (some ⟨sg,so,none⟩) bK bV) (PSp tab ns) bZ F0 D0 lim nd j:=by
 obtain⟨sch,hs,ok⟩:=h.ok j n O;obtain⟨bE,dC,dR,dS,dD⟩:=ok.sort cb;have h0:n.op≠0:=zo;have ca:¬ (n.op=3\/n.op=7):=zo;have dN:j<ns.length:=(Ob9.1 O).1;refine⟨zo,zo,fun W F bx br U dL hR hlen cK=>?_⟩;obtain⟨bT,bJ⟩:=cK;have cB:=Jqw h dh ht j zo bJ;have du:=Jma (tab:=tab) O;have df:Jg7 n=[n.l]:=by unfold Jg7;rw[if_neg h0,if_neg ca]
 obtain⟨dp,da⟩:=h.ahead j n O n.l (by rw[df];exact Oc6.2 rfl);obtain⟨cs,Y⟩:=cB.there n.l dp da;obtain⟨dT,cz,cn⟩:=cB.good n.l cs Y;rw[bE]at cz;cases cz
 have bR:Jbs n (stN tab ns j)=cs:=by unfold Jbs;rw[Oa0,Y];rfl
 obtain⟨⟨gc,bB,H⟩,bS⟩:∃ x,br[n.l]?=some (some x):=by
  rw[<-bT,Ob1]at Y;cases e:br[n.l]? with
  |none=>rw[e]at Y;cases Y
  |some o=>
   cases o with
   |none=>rw[e]at Y;cases Y
   |some x=>exact⟨x,rfl⟩
 have cT:H=cs:=by
  rw[<-bT,Ob1,bS]at Y;simpa using Y
 subst cT;obtain⟨tb,to_,tc,hM⟩:=ds sch bE;obtain⟨cJ,dw,dd,dJ⟩:=cS bJ H sch bR.symm bE;obtain⟨M,cC,cf,de,dH,dK,cR,hf,bi,dt⟩:=hR.rs.take bS;have hob:bx.ownBlock=some M:=by rw[cf];rfl
 have cy:=hR.rs.run;rw[cf]at cy;obtain⟨E,cH,bO,dM⟩:=U.ex;have dQ:=U.keep.size;have cv:=hR.off _ (Of6 bS);have cW:=hR.dvF M hob;have cA:sg<X.heap.size:=Jb0 hM.sc;have bU:∀ k,k<X.heap.size->¬ F0 k->¬ F k:=fun k hk hn e=>(U.ffr k e).elim hn fun e=>by omega
 have cU:Jej nd.op=76:=by rw[dv];rfl
 rw[cU,Nd.val,hl,dj]
 -- what is given to the sorting
 let bI:World->SC:=fun y=>⟨y,F,E,y.heap.size,d,tb,to_,tc,kb,ko,kc,sch,H,n.gk,a0,a1,a2,q,qw,pg,(bu:Int)⟩
 have cc:∀ y,Ju (·=M) W y->∀ bk,Ju F y bk->Ju F0 X bk:=fun y K bk bP=>(U.keep.trans' K fun k hk e=>by have bf:k=M:=e;omega).trans' bP fun k hk e=>(U.ffr k e).resolve_right zo;have dx:∀ y,Ju (·=M) W y->y.heap[M]?=Jdc W M n.l->Calls prog 112 #[.slice (some ⟨gc,0,none⟩) H.length (Kul bB H.length),.slice (some ⟨tb,to_,none⟩) sch.length tc,.slice (some ⟨kb,ko,none⟩) n.gk.length kc,.int .i64 (bu:Int),.pointer (some ⟨d,0,none⟩)] y fun e w'=>∃ a b,e=.returned (.tuple #[a,b])/\Ju F y w'/\Ktf (bI y) (lim (j+1)) (.returned (.tuple #[a,b])) w':=fun y K _=>by
  have bC:=K.size;have cO:SK (bI y):=⟨⟨cn,fun k hk=>by rw[cn.len];exact dD k hk,by show n.gk.length<=1000000;omega,(hts sch bE).1,(hts sch bE).2⟩,Oa2 _,fun k hk=>Oc2 (U.flt k hk) bC,fun bk bP=>hM.env bk (cc y K bk bP),bU _ hM.gl.2.2.1 hM.gl.1,bU _ hM.gl.2.2.2 hM.gl.2.1,by have:=hM.gl.2.2.1;show 6<y.heap.size;omega,by have:=hM.gl.2.2.2;show 7<y.heap.size;omega⟩;have cG:Zb y F d E:=cH.stands fun k hf hl=>K.block k hl fun e=>cW ((show k=M from e)▸hf);have cu:∀ b,bx.ownBlock≠some b->b≠M:=fun b bM e=>bM (hob.trans (congrArg some e.symm));have cE:Qd y gc bB H:=bi.1.blocks bC ⟨K.block _ bi.2.1.2.2 (cu _ bi.2.1.2.1),fun j O b o e=>K.block b (bi.2.2 j O b o e).2.2 (cu _ (bi.2.2 j O b o e).2.1)⟩;refine(Kyp (bI y) cO rfl cG gc (Kul bB H.length) bB cE ⟨⟨Oc2 bi.2.1.2.2 bC,cv.1⟩,fun j O b o e=>⟨Oc2 (bi.2.2 j O b o e).2.2 bC,cv.2 j O b o e⟩⟩ bu pr rfl cP cQ cJ dw g dc dd (lim (j+1)) dm (by show dz E+2*pr*bu*ckN (nR H) bu+pr*nR H*g (ckN (nR H) bu)<=lim (j+1);omega)).mono fun e w' hp=>?_;have cx:=hp;obtain⟨bH,bY,bj,_,_,_,_,_,⟨bh,bD,rfl,_⟩|⟨bG,b,rfl,_⟩⟩:=hp
  ·exact⟨_,_,rfl,bj,cx⟩
  exact⟨_,_,rfl,bj,cx⟩
 refine(Qae X.heap.size M br.length cC n.l z (bu:Int) (.int .i64 bl) bW bX d sg so bK bV nd.op nd.r nd.tn (.slice nd.xs.1 nd.xs.2.1 nd.xs.2.2) nd.kk kb ko kc n.gk.length gc H.length (Kul bB H.length) tb to_ sch.length tc W F (fun y a b w'=>Ktf (bI y) (lim (j+1)) (.returned (.tuple #[a,b])) w') cy de dq cR hf zo (by
  have di:=U.keep.block sg cA hM.sgF;exact(Oc3 di).trans hM.sc) zo ⟨hR.rbF,bU sg cA hM.sgF,U.flt⟩ dx).mono fun e Z hp=>?_
 obtain⟨a,b,y,rfl,K,dy,bH,bY,bj,cF,cN,ci,db,cY,cZ⟩:=hp;have bC:=K.size;have dP:=bj.size;have cj:∀ k,bH k->F k\/W.heap.size<=k:=fun k hk=>(ci k hk).imp id fun e=>by have bf:y.heap.size<=k:=e;omega
 have dg:Ju (fun k=>F k\/bx.ownBlock=some k) W Z:=(K.mono fun k _ e=>.inr (by rw[show k=M from e];exact hob)).trans' bj fun k _ e=>.inl e;have cX:DkS X F0 d D0 (lim (j+1)) bH Z:=⟨cc y K Z bj,⟨bY,cF,bO.trans cN,cY⟩,fun k hk=>(cj k hk).elim (U.ffr k) fun e=>.inr zo,db⟩;refine⟨bH,cX,dg,cj,?_⟩;have dl:(br.set n.l none).length=j:=by rw[Of8];exact hlen
 rcases cZ with⟨bh,bD,I,bN,bz⟩|⟨bG,bL,I,cV,dI,dO,dA,dr⟩
 ·injection I with I;injection I with I;have bQ:a=.slice (some ⟨bh,0,none⟩) H.length H.length/\b=.nilIface:=by simpa using I
  obtain⟨rfl,rfl⟩:=bQ;have bA:(Jba (Ksg (Kr5 n.gk H) (List.range (nR H))) H).length=H.length:=Krw _ _;have bN:Qd Z bh bD (Jba (Ksg (Kr5 n.gk H) (List.range (nR H))) H):=bN;have hcut:=bN.cut;rw[bA]at hcut;have cL:=dt y (Jgr K) dy;have cM:Jjg F (X.heap.size+1) X.heap.size z (bu:Int) bl bW bX (.pointer (some ⟨d,0,none⟩)) (.slice (some ⟨sg,so,none⟩) bK bV) bx (br.set n.l none) y:=⟨cL,fun x dB=>hR.off x (Kub dB),hR.rbF,hR.dvF⟩;refine .inl ⟨(bh,bD.take H.length,Jba (Ksg (Kr5 n.gk H) (List.range (nR H))) H),br.set n.l none,?_,cM.turn bj fun k hk=>ci k hk,⟨hcut.1,?_,fun i hi b o e=>?_⟩,⟨bz.1.2.2,fun i hi b o e=>?_⟩,dl,?_,bJ.more O ?_⟩
  ·simp only[dnV];rw[Kuf (by rw[Oc7,bA];omega),bA]
  ·have bM:y.heap.size<=bh:=bz.1.1;exact⟨by show bh≠X.heap.size;omega,fun e=>by have bf:bx.ownBlock=some bh:=e;rw[hob]at bf;cases bf;omega,bz.1.2.1⟩
  ·rw[bA]at hi;have e:(Yo (bD.take H.length) i).1=some ⟨b,o,none⟩:=e;rw[hcut.2 i hi]at e;have hb:=bz.2 i hi b o e;have bM:y.heap.size<=b:=hb.1;exact⟨zo,fun bf=>by rw[hob]at bf;cases bf;omega,hb.2.1⟩
  ·rw[bA]at hi;have e:(Yo (bD.take H.length) i).1=some ⟨b,o,none⟩:=e;rw[hcut.2 i hi]at e;exact(bz.2 i hi b o e).2.2
  ·rw[Ob8,Op0,bT,du];unfold Jb3;rw[if_neg h0,if_neg ca];unfold Jkq;rw[if_neg h0,if_neg zo,if_neg zo,if_neg zo,if_pos cb,bR];rfl
  exact⟨fun cD=>absurd cD h0,(fun _ i hi e I=>by rw[dC]at I;cases I),fun dG=>zo,fun dE=>zo⟩
 injection I with I;injection I with I;have bQ:a=.slice none 0 0/\b=.iface 156 (.pointer (some ⟨bL,0,none⟩)):=by simpa using I
 obtain⟨rfl,rfl⟩:=bQ;exact .inr ⟨_,bL,rfl,cI bG bL Z bJ cV (dA.of bO.quota bO.fail) (by rw[bR];have e:(bu:Int)<(nR H:Int):=dr;omega)⟩
end
theorem Kyo {m n}(h:m<=n):(List.range n).take m=List.range m:=by
 refine Oi8 fun i=>?_;rw[Oe7];by_cases hi:i<m
 ·rw[if_pos hi,Oh6 hi,Oh6 zo]
 rw[if_neg hi,Ob4 zt]
theorem Qaj {sch cs}(h:Zt sch cs)m(y:m<=nR cs):cs.map (Jbx 0 m)=Jba (List.range m) cs:=by
 have:=Kte (List.range (nR cs)) cs 0 m;rw[Kty h,List.drop_zero,Kyo y]at this;exact this
theorem Qac {a t b o}(h:Jkl a 0 t=some ⟨b,o,none⟩):∃ y,a=some ⟨b,y,none⟩:=by
 unfold Jkl at h;split at h
 ·exact⟨o,h⟩
 cases a with
 |none=>cases h
 |some x=>exact⟨o,by simpa [Addr.add] using h⟩
section
variable {tys:ByteArray->List Int} {scs:List (List Int)} {ns:List PN} {tab:ByteArray->Cs⊕Nat} {j:Nat} {n:PN} {nd:Nd} {X:World}
theorem Kwr (h:Jdk tys scs ns)(bV:Ktc tys scs ns tab)(ht:∀ n∈ns,n.op=0->∀ cs,tab n.tn=.inl cs->Zt (tys n.tn) cs)(H:ns[j]?=some n)(hi:Jnm X n nd)(bh:n.op=6)(s:Nat)(z:Nat)(bu bl:Int)bj Z sc br bI bx pg:
  Ju1 X (X.heap.size+1) X.heap.size z bu bl bj (.pointer (some ⟨s,0,none⟩)) Z sc (PSp tab ns) (ERp tab ns br bI bx pg) nd j:=by
 obtain⟨sch,hs,ok⟩:=h.ok j n H;have h0:n.op≠0:=zo;obtain⟨_,ca,cB,cC⟩:=ok.limit bh;refine Km1 h bV ht H hi h0 zo s z bu bl bj Z sc br bI bx pg fun W bk bL hb hR cu g I y cD bB bR cz U=>?_;have bQ:Jej nd.op=77:=by rw[hi.op,bh];rfl
 rw[bQ];obtain⟨Y,bK,bC,bT,cj,cn,bP,hf,K,bY⟩:=hR.take bB;have bH:=hR.run;rw[bC]at bH;have hob:bk.ownBlock=some Y:=by rw[bC];rfl
 have bG:∀ b,bk.ownBlock≠some b->b≠Y:=fun b bO e=>bO (hob.trans (congrArg some e.symm));obtain⟨q,bW⟩:∃ q:Nat,n.kk=(q:Int):=⟨n.kk.toNat,zo⟩;have bX:n.kk.toNat=q:=zo;have cA:=hb.size;have cy:=hR.low;have bZ:Jkq tab n (stN tab ns j)=y.map (Jbx 0 (min q (nR y))):=by
  unfold Jkq;rw[if_neg h0,if_neg zo,if_neg zo,if_neg zo,if_neg zo,if_pos bh,bR,bX,Qaj U _ zo]
 rw[bZ,Nd.val,hi.l,hi.kk,bW];refine(Kx3 X.heap.size Y bL.length bK n.l q z (.int .i64 bu) (.int .i64 bl) bj (.pointer (some ⟨s,0,none⟩)) Z sc nd.op nd.r nd.tn (.slice nd.xs.1 nd.xs.2.1 nd.xs.2.2) (.slice nd.ky.1 nd.ky.2.1 nd.ky.2.2) g (Kul I y.length) (nR y) I y W bH bT bP hf K.1 ⟨⟨K.2.1.2.2,bG _ K.2.1.2.1⟩,fun j H b o e=>⟨(K.2.2 j H b o e).2.2,bG _ (K.2.2 j H b o e).2.1⟩⟩ U.rows U.one U.few).mono fun cc bJ hp=>?_;obtain⟨bN,rfl,hk,bS,cv,bz⟩:=hp;have bE:=Jgr hk;have bi:(y.map (Jbx 0 (min q (nR y)))).length=y.length:=Oa6 _;have bA:∀ j,j<y.length->∀ b o,(Yo (Jnt I y.length 0 (min q (nR y))) j).1=some ⟨b,o,none⟩->∃ O,(Yo I j).1=some ⟨b,O,none⟩:=fun j H b o e=>by
  have M:Yo (Jnt I y.length 0 (min q (nR y))) j=(Jkl (Yo I j).1 0 (min q (nR y)),min q (nR y)-0):=by simp[Yo,Jnt,H]
  rw[M]at e;exact Qac e
 refine⟨by rw[hob];exact bE,.inl ⟨bN,Jnt I y.length 0 (min q (nR y)),?_,bY bJ bE bS,⟨bz,⟨?_,?_⟩⟩,⟨fun bM=>absurd bM h0,(fun _ i cx cb bD=>by rw[ca]at bD;cases bD),fun ci=>zo,fun cf=>zo⟩,fun F hF hy=>?_⟩⟩
 ·simp only[dnV];rw[Kuf (by simp[Jnt]),bi]
 ·exact⟨zo,by rw[hob];intro e;cases e;omega,bz.row.lt⟩
 ·intro j H b o M;rw[bi]at H;obtain⟨O,bf⟩:=bA j H b o M;have:=K.2.2 j H b O bf;exact⟨this.1,this.2.1,Oc2 this.2.2 hk.size⟩
 have bU:=hy _ (Of6 bB);refine⟨fun e=>by have:=hF _ e;omega,fun j H b o M=>?_⟩;rw[bi]at H;obtain⟨O,bf⟩:=bA j H b o M;exact bU.2 j H b O bf
theorem Kya (M:ns[j]?=some n)(bO:nd.op=0)(bf:nd.tn=n.tn)(h0:n.op=0)s z bu bl bh d sc br bR bA et pg F0 D0 lim(hl:lim j<=lim (j+1))O(bE:∀ v W,ERp tab ns br bR bA pg j v W->O j v W)(bP:∀ W F,DkS X F0 d D0 (lim j) F W->∀ y,Below W.heap.size W y->Calls prog 38 #[.pointer (some ⟨s,0,none⟩),.string n.tn] y fun e w'=>Jrr y et pg (some (tab n.tn)) e w'):
  Kuz X (X.heap.size+1) X.heap.size z bu bl bh (.pointer (some ⟨s,0,none⟩)) d sc (PSp tab ns) O F0 D0 lim nd j:=by
 refine⟨zo,zo,fun W F bk bj H bU hR hlen bG=>?_⟩;obtain⟨bK,U⟩:=bG;have bN:=Jma (tab:=tab) M;have bJ:Jej nd.op=71:=by rw[bO];rfl
 rw[bJ];have Z:=bP W F H;cases htab:tab n.tn with
 |inl cs=>
  have bL:Jlw tab n (stN tab ns j):=⟨fun _=>⟨cs,htab⟩,fun bM=>absurd h0 bM,fun bT=>zo,fun bS=>zo⟩;refine(Kdz hR.rs nd cs fun y K=>by
   rw[bf];refine(Z y K).mono fun e w' hp=>?_;rw[htab]at hp;exact hp).mono fun bz bi hp=>?_
  obtain⟨I,g,bQ,rfl,bH,bD,Y⟩:=hp;refine⟨F,(H.on hl (Ju.of_below (F:=fun _=>False) I) fun _ e=>e.elim),Ju.of_below I,fun k hk=>.inl hk,.inl ⟨(g,bQ,cs),bj,rfl,⟨bH,hR.off,hR.rbF,hR.dvF⟩,bD,⟨fun e=>by have:=H.flt _ e;have:=Y.1;omega,fun i hi b o e bx=>by have:=H.flt _ bx;have:=Y.2 i hi b o e;omega⟩,hlen,?_,U.more M bL⟩⟩;rw[bN,Ob8,bK];unfold Jb3 Jkq;rw[if_pos h0,if_pos h0,htab];rfl
 |inr p=>
  have:=Jos X.heap.size s z (.int .i64 bu) (.int .i64 bl) bh (.pointer (some ⟨d,0,none⟩)) sc bk nd.op nd.l nd.r nd.tn (.slice nd.xs.1 nd.xs.2.1 nd.xs.2.2) (.slice nd.ky.1 nd.ky.2.1 nd.ky.2.2) nd.kk W (fun _ a b w'=>∃ g:Nat,a=.slice none 0 0/\b=.iface 123 (.pointer (some ⟨g,0,none⟩))/\Yu w' b pg (some (-1)) (some (p:Int))) hR.rs.run (fun y K=>by
   rw[bf];refine(Z y K).mono fun e w' hp=>?_;rw[htab]at hp;obtain⟨bB,b,rfl,_,bC⟩:=hp;exact⟨bB,_,_,rfl,b,rfl,rfl,bC⟩)
  refine this.mono fun bz bi hp=>?_;obtain⟨I,y,K,a,b,rfl,g,rfl,rfl,bI⟩:=hp;exact⟨F,(H.on hl (Ju.of_below (F:=fun _=>False) I) fun _ e=>e.elim),Ju.of_below I,fun k hk=>.inl hk,.inr ⟨_,g,rfl,bE _ _ ⟨U,n,M,.inl ⟨h0,p,g,htab,rfl,bI⟩⟩⟩⟩
end
attribute [local go_sem] Oc0
theorem Kzz F0 st d s I z bu bl sd w(bK:Jdu w st d s)(bD:∀ k,F0 k->k<w.heap.size)(bJ:¬ F0 st)(P:World->Value->Value->World->Prop)(R:World->Value->Int->Int->Int->Int->Int->World->Prop)(hw:∀ X,Below w.heap.size w X->Calls prog 24 #[.agg #[I],.agg #[.int .i64 z,.int .i64 bu,.int .i64 bl,.int .i64 sd],.pointer (some ⟨s,0,none⟩),.pointer (some ⟨d,0,none⟩)] X fun e w'=>Ju F0 X w'/\∃ a b,e=.returned (.tuple #[a,b])/\P X a b w')(hl:∀ X a b H,Below w.heap.size w X->X.heap.size=w.heap.size+3->Ju F0 X H->P X a b H->Calls prog 25 #[a,b] H fun e w'=>Below H.heap.size H w'/\∃ l c nd row col pg,e=.returned (.tuple #[l,Ko c nd row col pg])/\R H l c nd row col pg w')(hR:∀ H l c nd row col pg K bk,K.heap.size<=bk.heap.size->(∀ k,k≠w.heap.size+2->bk.heap[k]?=K.heap[k]?)->R H l c nd row col pg K->R H l c nd row col pg bk):
  Calls prog 12 #[.pointer (some ⟨st,0,none⟩),.agg #[I],.agg #[.int .i64 z,.int .i64 bu,.int .i64 bl,.int .i64 sd]] w fun e w'=>Ju F0 w w'/\∃ H l c nd row col pg,Ju F0 w H/\w.heap.size+3<=H.heap.size/\e=.returned (.tuple #[l,Ko c nd row col pg])/\R H l c nd row col pg w':=by
 have bO:=Krx hw;have bL:=Krx hl;have bM:=Krx hR;have bB:=Krx bD;have bC:=Krx bJ;obtain⟨c0,c1⟩:=bK.field;clear hw hl hR bK bD bJ;go_enter func12,ntmps12
 go_upto_region 1 with fail
 have bh:Below w.heap.size w (((w.alloc (.cells #[I] 47)).alloc (.cells #[.int .i64 z,.int .i64 bu,.int .i64 bl,.int .i64 sd] 27)).alloc (.cells #[.int .i64 0,.int .i64 0,.int .i64 0,.int .i64 0,.int .i64 0] 51)):=Jc (Jc (Jc (Oa5 _ _) _) _) _;have bz:(((w.alloc (.cells #[I] 47)).alloc (.cells #[.int .i64 z,.int .i64 bu,.int .i64 bl,.int .i64 sd] 27)).alloc (.cells #[.int .i64 0,.int .i64 0,.int .i64 0,.int .i64 0,.int .i64 0] 51)).heap[w.heap.size]?=some (.cells #[I] 47 (0,0)):=((Oa9 _ _ _ zt).trans (Oa9 _ _ _ zS)).trans (heap_alloc_new w _);have bf:(((w.alloc (.cells #[I] 47)).alloc (.cells #[.int .i64 z,.int .i64 bu,.int .i64 bl,.int .i64 sd] 27)).alloc (.cells #[.int .i64 0,.int .i64 0,.int .i64 0,.int .i64 0,.int .i64 0] 51)).heap[w.heap.size+1]?=some (.cells #[.int .i64 z,.int .i64 bu,.int .i64 bl,.int .i64 sd] 27 (0,0)):=by
  have:=heap_alloc_new (w.alloc (.cells #[I] 47)) (.cells #[.int .i64 z,.int .i64 bu,.int .i64 bl,.int .i64 sd] 27);rw[Oa7]at this;exact(Oa9 _ _ _ zS).trans this
 have bA:(((w.alloc (.cells #[I] 47)).alloc (.cells #[.int .i64 z,.int .i64 bu,.int .i64 bl,.int .i64 sd] 27)).alloc (.cells #[.int .i64 0,.int .i64 0,.int .i64 0,.int .i64 0,.int .i64 0] 51)).heap[w.heap.size+2]?=some (.cells #[.int .i64 0,.int .i64 0,.int .i64 0,.int .i64 0,.int .i64 0] 51 (0,0)):=by
  have:=heap_alloc_new ((w.alloc (.cells #[I] 47)).alloc (.cells #[.int .i64 z,.int .i64 bu,.int .i64 bl,.int .i64 sd] 27)) (.cells #[.int .i64 0,.int .i64 0,.int .i64 0,.int .i64 0,.int .i64 0] 51);rw[Oa7,Oa7]at this;exact this
 have bx:(((w.alloc (.cells #[I] 47)).alloc (.cells #[.int .i64 z,.int .i64 bu,.int .i64 bl,.int .i64 sd] 27)).alloc (.cells #[.int .i64 0,.int .i64 0,.int .i64 0,.int .i64 0,.int .i64 0] 51)).heap.size=w.heap.size+3:=by rw[Oa7,Oa7,Oa7]
 generalize (((w.alloc (.cells #[I] 47)).alloc (.cells #[.int .i64 z,.int .i64 bu,.int .i64 bl,.int .i64 sd] 27)).alloc (.cells #[.int .i64 0,.int .i64 0,.int .i64 0,.int .i64 0,.int .i64 0] 51))=O at bh bz bf bA bx |-;have bQ:=zc 0 bz;have bR:=zc 0 bf;have bS:=zc 1 bf;have bT:=zc 2 bf;have bU:=zc 3 bf;have ca:=Ja bh c0;have s1:=Ja bh c1;have Y:Hid (Below w.heap.size w O/\O.heap[w.heap.size+2]?=some (.cells #[.int .i64 0,.int .i64 0,.int .i64 0,.int .i64 0,.int .i64 0] 51 (0,0))/\O.heap.size=w.heap.size+3):=⟨bh,bA,bx⟩;clear c0 c1 bh bz bf bA bx;refine wp_region_held_drew (S:=fun X=>X.cell? ⟨w.heap.size,0,none⟩=some I/\X.cell? ⟨w.heap.size+1,0,none⟩=some (.int .i64 z)/\X.cell? ⟨w.heap.size+1,1,none⟩=some (.int .i64 bu)/\X.cell? ⟨w.heap.size+1,2,none⟩=some (.int .i64 bl)/\X.cell? ⟨w.heap.size+1,3,none⟩=some (.int .i64 sd)/\X.cell? ⟨st,0,none⟩=some (.pointer (some ⟨d,0,none⟩))/\X.cell? ⟨st,1,none⟩=some (.pointer (some ⟨s,0,none⟩))) zK ⟨Jh bQ,Jh bR,Jh bS,Jh bT,Jh bU,Jh ca,Jh s1⟩ (fun y=>?_);refine tkj 0 rfl y ?_;refine tkj 1 rfl y ?_;refine tkj 2 rfl y ?_;refine tkj 3 rfl y ?_;refine tkj 4 rfl y ?_;refine tkj 5 rfl y ?_;refine tkj 6 rfl y ?_;refine tkj 7 rfl y ?_;refine tkj 8 rfl y ?_;refine tkj 9 rfl y ?_;refine tkn ?_;refine tkr 10 rfl fun bP hK=>?_;go_simp;refine(bO.out O.drew (Jj Y.out.1)).mono ?_;rintro e H ⟨U,a,b,rfl,bE⟩;have Z:Hid (P O.drew a b H/\Ju F0 O.drew H):=⟨bE,U⟩;have nf:∀ k,w.heap.size<=k->¬ F0 k:=fun k hk e=>by have:=bB.out k e;omega
 clear bE;go_simp;refine hK.out _ _ ⟨U.cell y.1 (nf _ (Oa2 _)),U.cell y.2.1 (nf _ zo),U.cell y.2.2.1 (nf _ zo),U.cell y.2.2.2.1 (nf _ zo),U.cell y.2.2.2.2.1 (nf _ zo),U.cell y.2.2.2.2.2.1 bC.out,U.cell y.2.2.2.2.2.2 bC.out⟩ (fun y=>?_);clear hK bP U nf;refine tkj 11 rfl y ?_;refine tkj 12 rfl y ?_;refine tkj 13 rfl y ?_;refine tkj 14 rfl y ?_;refine tkj 15 rfl y ?_;refine tkn ?_;refine wpAnyH_done zK ?_ _;have bI:=bL.out O.drew a b H (Jj Y.out.1) Y.out.2.2 Z.out.2 Z.out.1;go_wp2_with fail
 refine bI.mono ?_;rintro e K ⟨bH,l,c,nd,row,col,pg,rfl,bG⟩;have bN:=zh bG;have bi:Ju F0 O H:=⟨Z.out.2.os,Z.out.2.tape,Z.out.2.output,Z.out.2.size,Z.out.2.block⟩;have br:Ju F0 O K:=bi.trans (Ju.of_below bH);have M:=(br.block _ (Jd Y.out.2.1) (fun e=>by have:=bB.out _ e;omega)).trans Y.out.2.1;have bV:=zc 0 M;have bW:=zc 1 M;have bX:=zc 2 M;have bY:=zc 3 M;have bZ:=zc 4 M;have cc:K.frozen? ⟨w.heap.size+2,0,none⟩=false:=by simp[World.frozen?,M]
 have cf:K.frozen? ⟨w.heap.size+2,1,none⟩=false:=by simp[World.frozen?,M]
 have ci:K.frozen? ⟨w.heap.size+2,2,none⟩=false:=by simp[World.frozen?,M]
 have cj:K.frozen? ⟨w.heap.size+2,3,none⟩=false:=by simp[World.frozen?,M]
 have cn:K.frozen? ⟨w.heap.size+2,4,none⟩=false:=by simp[World.frozen?,M]
 have bj:Hid (Ju F0 w K/\Ju F0 w H/\w.heap.size+3<=H.heap.size):=⟨(Ju.of_below Y.out.1).trans br,(Ju.of_below Y.out.1).trans bi,by have:=bi.size;have:=Y.out.2.2;omega⟩;clear bG bI bi br M bH;go_wp2;refine bodyPost_ret (v:=.tuple #[l,Ko c nd row col pg]) (by simp[results,results12,go_sem,bV,bW,bX,bY,bZ]) rfl ⟨bj.out.1.trans' (Kzv _ (w.heap.size+2) _ _ _ _ _) fun k hk e=>by have cb:k=w.heap.size+2:=e;omega,H,l,c,nd,row,col,pg,bj.out.2.1,bj.out.2.2,rfl,bM.out _ _ _ _ _ _ _ _ _ ?_ (fun k hk=>?_) bN.out⟩
 ·simp[World.setCell]
 exact Jib _ _ _ _ _ _ _ k hk
end
section
open Go.RowKit Go.Shelf
theorem Kum {D E}(h:Kft D E):∀ l,Uf E l=Uf D l
 |[]=>rfl
 |i::l=>by
  have y:E.pages.getD i none=D.pages.getD i none:=h.pages i;simp only[Uf,y,Kum h l]
theorem Kzt {D E}(h:Kft D E)l t n:Us E l t n=Us D l t n:=by unfold Us;rw[Kum h]
theorem Kwb {D E}(h:Kft D E)y ts m cols:∀ k,Jh3 E y ts m cols k=Jh3 D y ts m cols k
 |0=>rfl
 |k+1=>by simp only[Jh3,Kwb h y ts m cols k,Kzt h]
theorem Kwf {D E}(h:Kft D E):Zo E=Zo D:=funext fun T=>by
 have:Jpn E T.types=Jpn D T.types:=funext fun y=>funext fun x=>by unfold Jpn;simp only[Kwb h]
 unfold Zo Jfx;rw[this]
theorem Ky6 {D E}(h:Kft D E){T}(y:Jid D T):Jid E T:=⟨y.cols,y.rows,y.group,y.count,y.segs,fun l hl t ht=>y.full l hl t (by rw[<-Kum h];exact ht)⟩
theorem Kvt {D E}(h:Kft D E)Ts n:Jcm E Ts n=Jcm D Ts n:=by unfold Jcm;rw[Kwf h]
theorem Ju1.mono {w L rb z bu bl K M I sc H y ER' nd j}(h:Ju1 w L rb z bu bl K M I sc H y nd j)(bf:∀ v W,y j v W->ER' j v W):Ju1 w L rb z bu bl K M I sc H ER' nd j:=
 ⟨h.1,h.2.1,fun W U O a b c d e=>(h.2.2 W U O a b c d e).mono fun _ _ hp=>⟨hp.1,hp.2.imp id fun ⟨ty,b,Y,Z⟩=>⟨ty,b,Y,bf _ _ Z⟩⟩⟩
def ERd (tab:ByteArray->Cs⊕Nat)(ns:List PN)(bu:Nat)(D0:DS)(H K I pg q qw:Addr)(j:Nat)(v:Value)(W:World):Prop:=ERp tab ns H K I pg j v W \/
 ∃ y b,v=.iface 156 (.pointer (some ⟨b,0,none⟩))/\Jd7 tab ns j/\(∃ n,ns[j]?=some n/\n.op=5/\bu<nR (Jbs n (stN tab ns j)))/\Yu W v (if y=true then q else qw) none (some (-1))/\Kso D0 y
theorem ERd.below {tab:ByteArray->Cs⊕Nat}{ns bu D0 H K I pg q qw j v W y}(h:ERd tab ns bu D0 H K I pg q qw j v W)(hb:Below W.heap.size W y):ERd tab ns bu D0 H K I pg q qw j v y:=by
 rcases h with h|⟨bf,b,M,O,U,Y,Z⟩
 ·exact .inl (h.below hb)
 exact .inr ⟨bf,b,M,O,U,Y.below hb,Z⟩
structure Ky1 (tab:ByteArray->Cs⊕Nat) (ns:List PN) (scs:List (List Int)) (bu pr:Nat) (g:Nat->Nat) (lim:Nat->Nat):Prop where
 tys:∀ sch∈scs,sch.length<=100/\∀ c,c<sch.length->1<=sch.getD c 0/\sch.getD c 0<=3
 gdn:∀ q,bu<q->g (ckN q bu)+1<=g q
 mono:∀ j,lim j<=lim (j+1)
 top:∀ j,lim j<=930000
 cap:∀ (j:Nat) (n:PN),ns[j]?=some n->n.op=5->Jd7 tab ns j->∀ cs sch,cs=Jbs n (stN tab ns j)->scs[n.l]?=some sch->nR cs<=50000/\(∀ ch:List Nat,(∀ t∈ch,t<nR cs)->1<=ch.length->ch.length<=64->(Qu (Kr3 sch (Jba ch cs) sch.length)).length<=pr*ch.length)/\g (ckN (nR cs) bu)<=100000/\lim j+2*pr*bu*ckN (nR cs) bu+pr*nR cs*g (ckN (nR cs) bu)<=lim (j+1)
theorem Ky1.upto {tab:ByteArray->Cs⊕Nat}{ns I bu pr g lim}(h:Ky1 tab ns I bu pr g lim)n:∀ j,j<=n->lim j<=lim n:=by
 induction n with
 |zero=>intro j y;rw[Nat.le_zero.1 y];exact Oa2 _
 |succ n H=>
  intro j y;by_cases e:j=n+1
  ·rw[e];exact Oa2 _
  exact Ob2 (H j zo) (h.mono n)
def Kwa (b:Nat)(H:List (List Int))(v:Value)(W:World):Prop:=∃ (B:Nat) (y:List Sch),b<=B/\Jo W B 22 v (y.map Jbl)/\y.map (fun x=>x.2.2)=H/\∀ x∈y,Kc W x.1 x.2.2/\∀ g o,x.1=some ⟨g,o,none⟩->b<=g
theorem Kwa.below {b M v W y}(h:Kwa b M v W)(hb:Below W.heap.size W y):Kwa b M v y:=by
 obtain⟨B,Y,O,I,U,K⟩:=h;exact⟨B,Y,O,Jl I fun g e=>hb.block g (Je I e).2,U,fun x H=>⟨(K x H).1.below hb,(K x H).2⟩⟩
theorem Kwa.at {b H v W}(h:Kwa b H v W){l}(hl:l<H.length):∃ sg cap,v=.slice (some ⟨sg,0,none⟩) H.length cap/\b<=sg/\∀ l sch,H[l]?=some sch->1<=sch.length->∃ tb to_ tc,W.cell? ⟨sg,l,none⟩=some (.slice (some ⟨tb,to_,none⟩) sch.length tc)/\Kc W (some ⟨tb,to_,none⟩) sch/\b<=tb/\tb<W.heap.size:=by
 obtain⟨B,y,bH,bz,bf,bA⟩:=h;have Z:y.length=H.length:=by rw[<-bf,Oa6]
 rcases bz with⟨_,⟨_,I⟩|⟨sg,cap,bh,I,bB,bi,bC,bD,bE,bj⟩⟩
 ·rw[Oa6]at I;omega
 rw[Oa6,Z]at I;refine⟨sg,cap,I,zo,fun l sch M bG=>?_⟩;have K:l<y.length:=by rw[Z];exact(Ob9.1 M).1
 have bk:W.cell? ⟨sg,l,none⟩=some (Jbl y[l]):=by
  have:(bh.toList.take ((y.map Jbl).length*1))[l]?=(y.map Jbl)[l]?:=by rw[bj]
  rw[Oe7,if_pos (by rw[Oa6];omega),Oe6,Ob1,Oa3 K]at this;simp[World.cell?,bi];exact this
 have Y:y[l].2.2=sch:=by
  rw[<-bf,Ob1,Oa3 K]at M;simpa using M
 obtain⟨U,bx⟩:=bA y[l] (Ob3 K);rw[Y]at U;obtain⟨tb,to_,O,br,_⟩:=U.at (i:=0) zo;refine⟨tb,to_,y[l].2.1,?_,O▸U,bx tb to_ O,br⟩;rw[bk,Jbl,O,Y]
end
section
open Go.RowKit Go.Shelf Tryz
structure Qa6 (scs:List (List Int)) (ns:List PN) (tab:ByteArray->Cs⊕Nat) (j:Nat) (n:PN):Prop where
 chk:∀ {nd:Nd} {w:World} (_:Jnm w n nd) (tf:Value),Jvz w tf scs (flN ns) nd j
 wrk:∀ {nd:Nd} {X:World} (_:Jnm X n nd) (s:Nat) (z:Nat) (bu bl sd:Int) (dp sc:Value) (dva ova gva pg mna:Addr) (_:Qcw tab ns X j n z bl sd dva ova gva mna),Ju1 X (X.heap.size+1) X.heap.size z bu bl (.int .i64 sd) (.pointer (some ⟨s,0,none⟩)) dp sc (PSp tab ns) (ERp tab ns dva ova gva pg) nd j
theorem Ksw {y w0 w V}(hb:Below w0.heap.size w0 w)(I:∀ k,y k->w0.heap.size<=k)(hk:Ju y w V):Below w0.heap.size w0 V:=by
 have H:=hb.size;exact⟨hk.os.trans hb.os,hk.tape.trans hb.tape,hk.output.trans hb.output,Ob2 H hk.size,fun k K=>(hk.block k zo fun e=>by have:=I k e;omega).trans (hb.block k K)⟩
theorem Kv3 (Z:Nat->Prop)(st:Nat)(E:DS)(Ts:List TS)w(h:Sto Z w st E Ts)(df:∀ T∈Ts,Jid E T)(dP:∀ T∈Ts,∀ cs,Zo E T=.inl cs->Zt T.types cs)a0 a1 a2 bO q wr pg pl ex dr w0(cy:Jax w0 a0 a1 a2 bO q wr pg pl ex dr)(cU:Below w0.heap.size w0 w)(bX:∀ k,Z k->w0.heap.size<=k)(ns:List PN)(bH:List (List Int))(bk:Jdk (Jhd Ts) bH ns)(cA:∀ n∈ns,n.op=0->Ub Ts n.tn<Ts.length)(dW:Jd7 (Ye E Ts) ns ns.length->nR (Jac (Ye E Ts) ns)<=10000)(dO:∀ n∈ns,n.op≠0->n.op≠5->n.op≠6->Kwx (Jhd Ts) bH ns (Ye E Ts) n)(cY:∀ (j:Nat) (n:PN),ns[j]?=some n->n.op≠0->n.op≠5->n.op≠6->Qa6 bH ns (Ye E Ts) j n)(dQ:∀ (j:Nat) (n:PN),ns[j]?=some n->n.op=4->Jd7 (Ye E Ts) ns j->nR (Jbs n (stN (Ye E Ts) ns j))<=20000)(dS:∀ (j:Nat) (n:PN),ns[j]?=some n->n.op=3->Jd7 (Ye E Ts) ns j->(jnN n (stN (Ye E Ts) ns j)).length<=2000)(nb no cI:Nat)(bD:List Nd)(hl:bD.length=ns.length)(cT:∀ (j:Nat) (nd:Nd),bD[j]?=some nd->Zm w nb (no+j*7) nd)(hI:∀ V,Ju Z w V->∀ (j:Nat) (n:PN) (nd:Nd),ns[j]?=some n->bD[j]?=some nd->Jnm V n nd)(z bu:Nat)(bl sd:Int)(ff:1<=z)(fg:z<=1000)(dI:2<=bu)(fv:bu<=1000)(db:0<=bl)(dc:bl<=4096)(dZ:Jg sd)(pr:Nat)(gf:Nat->Nat)(lim:Nat->Nat)(bA:Ky1 (Ye E Ts) ns bH bu pr gf lim)(dL:dz E<=lim 0)(R:World->Value->Int->Int->Int->Int->Int->World->Prop)(dB:∀ y l c nd row col pg bV bW,bV.heap.size<=bW.heap.size->(∀ k,y.heap.size<=k->bW.heap[k]?=bV.heap[k]?)->R y l c nd row col pg bV->R y l c nd row col pg bW)(dC:∀ y l c nd row col pg W,Qbl (Ye E Ts) ns y l c nd row col pg W->R y l c nd row col pg W)bx bC bz cH(dV:Jig w0 [ex,pl,a0,a1,a2,bO,q,wr,pg] bx bC bz cH)(dN:∀ y,Ju Z w y->∀ (j:Nat) (v:Value) (eb:Nat),ERd (Ye E Ts) ns bu E bx bC bz pg q wr j v y->y.heap[eb]?=some (.cells #[.int .i64 (j:Int),v] 107 (0,0))->Calls prog 25 #[.slice none 0 0,.iface 105 (.pointer (some ⟨eb,0,none⟩))] y fun e w'=>Below y.heap.size y w'/\∃ l c nd row col bL,e=.returned (.tuple #[l,Ko c nd row col bL])/\R y l c nd row col bL w'):
  Calls prog 12 #[.pointer (some ⟨st,0,none⟩),.agg #[.slice (some ⟨nb,no,none⟩) ns.length cI],.agg #[.int .i64 (z:Int),.int .i64 (bu:Int),.int .i64 bl,.int .i64 sd]] w fun e w'=>Ju Z w w'/\∃ y l c nd row col pg,w.heap.size<=y.heap.size/\e=.returned (.tuple #[l,Ko c nd row col pg])/\R y l c nd row col pg w' /\
   ∃ bU H,Sto bU w' st H Ts/\Kft E H/\dz H<=lim ns.length/\(∀ k,Z k->bU k)/\(∀ k,bU k->Z k\/w.heap.size<=k)/\∀ k,bU k->k<y.heap.size:=by
 obtain⟨⟨d,s,F,G,sv,bs,cn,cu,dw,cO,cP,cQ,cv,dx,dy,dv,hM⟩,bB⟩:=h;have fy:=bk.one;have fw:=bk.few;have bM:∀ k,F k->Z k:=fun k hk=>hM k (.inl hk);have bQ:∀ k,F k->k<w.heap.size:=fun k hk=>bB k (bM k hk);have cR:∀ k,G k\/Jnr s sv k->¬ F k:=fun k hk=>by
  rcases hk with hk|rfl|hk
  ·exact cO k hk
  ·exact cP
  exact cQ k hk
 have cb:∀ V,Ju Z w V->Jax V a0 a1 a2 bO q wr pg pl ex dr:=fun V bi=>cy.below (Ksw cU bX bi);have dA:∀ V,Ju Z w V->Jig V [ex,pl,a0,a1,a2,bO,q,wr,pg] bx bC bz cH:=fun V bi=>dV.below (Ksw cU bX bi);have cx:∀ X,Below w.heap.size w X->Ju Z w X:=fun X Y=>Ju.of_below Y;have bR:∀ X V,Below w.heap.size w X->Ju F X V->Ju Z w V:=fun X V Y bi=>(Ju.of_below Y).trans (bi.mono fun k _ e=>bM k e);have hty:∀ n∈ns,n.op=0->∀ X,Below w.heap.size w X->Calls prog 33 #[.pointer (some ⟨s,0,none⟩),.string n.tn] X fun e w'=>Below X.heap.size X w'/\∃ g c,e=.returned (.tuple #[.slice (some ⟨g,0,none⟩) (Jhd Ts n.tn).length c,.bool true])/\X.heap.size<=g/\g<w'.heap.size/\Kc w' (some ⟨g,0,none⟩) (Jhd Ts n.tn):=fun n hn h0 X Y=>by
  have hk:=cA n hn h0;have dG:=Ob3 hk;have cj:Jhd Ts n.tn=Ts[Ub Ts n.tn].types:=by unfold Jhd;rw[Oa3 hk];rfl
  rw[cj];have cc:=(df _ dG).cols;exact Kbe n.tn X G s d Ts sv bs (cu.below Y) (Ub Ts n.tn) rfl hk (fun e=>by rw[e]at cc;simp at cc) zo
 have fc:∀ n∈ns,n.op=0->Jcm E Ts n.tn=some (Ye E Ts n.tn):=fun n hn h0=>by
  have hk:=cA n hn h0;unfold Ye Jcm;rw[Oa3 hk];rfl
 have ht:∀ n∈ns,n.op=0->∀ cs,Ye E Ts n.tn=.inl cs->Zt (Jhd Ts n.tn) cs:=fun n hn h0 cs dJ=>by
  have hk:=cA n hn h0;have cj:Jhd Ts n.tn=Ts[Ub Ts n.tn].types:=by unfold Jhd;rw[Oa3 hk];rfl
  have I:Ye E Ts n.tn=Zo E Ts[Ub Ts n.tn]:=by unfold Ye Jcm;rw[Oa3 hk];rfl
  rw[cj];exact dP _ (Ob3 hk) cs (I.symm.trans dJ)
 have cD:Ktc (Jhd Ts) bH ns (Ye E Ts):=fun n hn h0=>by
  by_cases bf:n.op=5
  ·exact Kv5.at bk (by rw[bf];exact Kz5)
  by_cases bI:n.op=6
  ·exact Kv5.at bk (by rw[bI];exact Kyr)
  exact dO n hn h0 bf bI
 have fB:∀ sch∈bH,1<=sch.length->True:=fun _ _ _=>trivial;have fd:=fun X (Y:Below w.heap.size w X)=>Kwy nb no cI s d F E lim bD z bu bl sd (PSp (Ye E Ts) ns) (ERd (Ye E Ts) ns bu E bx bC bz pg q wr)
  (Kwa w.heap.size bH) X (fun j nd U=>(cT j nd U).below Y) zo zo zo zo zo zo db dc
  (fun y cC=>by
   have O:=Jb Y cC;have ca:=cb y (cx y O);refine(Jvh bk nb no cI bD hl s y (fun j nd U=>(cT j nd U).below O) (fun j n nd U dR=>by
    have bh:=hI y (cx y O) j n nd U dR;have cG:=Of6 U;by_cases h0:n.op=0
    ·exact Koi bk U bh h0 s fun bP bS=>hty n cG h0 bP (Jb O bS)
    by_cases bf:n.op=5
    ·exact Kxe bk U bh bf _ ca.m2.cp ca.m2.ce
    by_cases bI:n.op=6
    ·exact Kw6 bk U bh bI _ ca.m2.cp ca.m2.ce
    exact(cY j n U h0 bf bI).chk bh _)).mono fun e w' hp=>?_
   obtain⟨fs,sv',rfl,fm,bN,bG,cJ⟩:=hp;obtain⟨a,c,rfl⟩:=Jcz bN;have dj:=O.size;exact⟨a,_,c,rfl,fm,_,fs,zo,bN,bG,fun x di=>⟨(cJ x di).1,fun g o e=>by have:=(cJ x di).2 g o e;omega⟩⟩)
  (fun v W cN hb bA=>bA.below hb)
  (fun y sc cC dX j nd U=>by
   have O:=Jb Y cC;have fC:=O.size;have cX:j<ns.length:=by rw[<-hl];exact(Ob9.1 U).1
   have hn:ns[j]?=some ns[j]:=Oa3 cX;have cG:=Ob3 cX;have bh:=hI y (cx y O) j _ nd hn U;obtain⟨fr,fz,dl⟩:=bk.ok j _ hn;have fx:=dl.le;by_cases h0:ns[j].op=0
   ·refine Kya hn (by rw[bh.op,h0];rfl) bh.tn h0 s z bu bl _ d sc bx bC bz bO pg F E lim (bA.mono j) _ (fun v W bj=>.inl bj) fun W K br bP bS=>?_;obtain⟨H,dK,dh,_⟩:=br.ex;have dT:Ju Z w bP:=(bR y W O br.keep).trans (Ju.of_below bS);have cz:=cb bP dT;have dD:Jfl W G s d Ts sv bs:=(cu.below O).stands br.keep.size fun k hk cE=>br.keep.block k cE (cR k hk);rw[<-fc _ cG h0,<-Kvt dh];exact Jou _ bP K G s d H Ts sv bs (dD.below bS) (dK.below bS) (fun T dE=>Ky6 dh (df T dE)) a0 a1 a2 cz.e bO pg cz.m.cp cz.m.ct
   by_cases bf:ns[j].op=5
   ·obtain⟨bE,dm,dp,fI,fl⟩:=dl.sort bf;obtain⟨kb,ko,kc,cZ,_⟩:=bh.gk (.inr (.inr bf));have dd:ns[j].l<bH.length:=(Ob9.1 bE).1;obtain⟨sg,fq,rfl,fA,dH⟩:=dX.at dd;have dY:1<=fr.length:=by
     cases hgk:ns[j].gk with
     |nil=>rw[hgk]at dp;exact absurd dp zS
     |cons k ks=>have:=fl k (by rw[hgk];exact Of4);omega
    have cW:=(cb w (Ju.refl _ _)).m;have cS:¬ F 6/\¬ F 7:=⟨fun e=>by have:=bX _ (bM _ e);have:=Jb0 cy.m.cq;omega,fun e=>by have:=bX _ (bM _ e);have:=Jb0 cy.m.cw;omega⟩;refine Kyx bk cD ht hn bf (by rw[bh.op,bf];rfl) bh.l z bu bl _ _ d sg 0 bH.length fq kb ko kc cZ dd F E lim _ a0 a1 a2 q wr pg (fun sch cf=>?_) (fun sch cf=>bA.tys sch (Of6 cf)) dI zo (fun ft b cN hf cc fe bB=>.inr ⟨ft,b,rfl,hf,⟨_,hn,bf,bB⟩,cc,fe⟩) pr gf bA.gdn (bA.top _) (bA.cap j _ hn bf);rw[bE]at cf;cases cf
    obtain⟨tb,to_,tc,fj,fk,fD,fE⟩:=dH _ _ bE dY;refine⟨tb,to_,tc,⟨fun V bi=>?_,⟨cS.1,cS.2,?_,?_⟩,by rw[Od0];exact fj,fun e=>by have:=bQ _ e;omega⟩⟩
    ·have bT:=bR y V O bi;have bZ:=cb V bT;refine⟨fk.of_block bi.size fun b o e hb=>bi.block b hb fun I=>?_,?_,bZ.e,bZ.m.cq,bZ.m.cw,bZ.m.cp⟩
     ·cases e
      have:=bQ _ I;omega
     obtain⟨fF,fH,fG,da,dU⟩:=(hI V bT j _ nd hn U).gk (.inr (.inr bf));rw[cZ]at da;cases da
     exact dU
    ·have:=Jb0 cW.cq;omega
    have:=Jb0 cW.cw;omega
   by_cases bI:ns[j].op=6
   ·refine Kuz.of ⟨by rw[bh.op];omega,by rw[bh.op];omega⟩ (bA.mono j) fun V cB bi=>?_;have:=(Kwr bk cD ht hn (hI V (bR y V O bi) j _ nd hn U) bI s z bu bl (.int .i64 sd) (.pointer (some ⟨d,0,none⟩)) sc bx bC bz pg).mono (ER':=ERd (Ye E Ts) ns bu E bx bC bz pg q wr) fun _ _ bj=>.inl bj;rw[cB]at this;exact this
   refine Kuz.of ⟨by rw[bh.op];omega,by rw[bh.op];omega⟩ (bA.mono j) fun V cB bi=>?_;have bT:=bR y V O bi;have bY:=dA V bT;have:=((cY _ _ hn h0 bf bI).wrk (hI V bT j _ nd hn U) s z bu bl sd (.pointer (some ⟨d,0,none⟩)) sc bx bC bz pg cH ⟨ff,fg,⟨db,dc⟩,dZ,⟨bY.cd,bY.co⟩,bY.cg,bY.cm,dQ j _ hn,dS j _ hn⟩).mono (ER':=ERd (Ye E Ts) ns bu E bx bC bz pg q wr) fun _ _ bj=>.inl bj;rw[cB]at this;exact this)
  (fun j v W cN hb bj=>bj.below hb) ⟨by simp[stN],fun k m hk=>absurd hk (Oe0 _)⟩
  ⟨Ju.refl _ _,⟨E,dw.below Y,⟨fun _=>rfl,rfl,rfl,rfl⟩,dL⟩,fun k hk=>.inl hk,fun k hk=>Oc2 (bQ k hk) Y.size⟩ (bA.upto _)
 rw[<-hl];refine(Kzz F st d s _ z bu bl sd w cn bQ cv (fun X a b W=>Kx0 bD.length (PSp (Ye E Ts) ns) (ERd (Ye E Ts) ns bu E bx bC bz pg q wr) F d E (lim bD.length) X (.returned (.tuple #[a,b])) W) (fun y l c nd row col pg W=>R y l c nd row col pg W/\w.heap.size+3<=y.heap.size/\y.heap.size<=W.heap.size/\∃ K H,Zb W K d H/\Kft E H/\dz H<=lim bD.length/\(∀ k,K k->F k\/w.heap.size+3<=k)/\∀ k,K k->k<y.heap.size) (fun X Y=>(fd X Y).mono fun e w' hp=>?_) (fun X a b y Y fu O hp=>?_) (fun y l c nd row col bL bV bW dj hk hr=>?_)).mono fun e w' hp=>?_
 ·have dg:=hp;obtain⟨K,br,⟨x,ds,rfl,_⟩|⟨j,v,eb,rfl,_⟩⟩:=hp
  ·exact⟨br.keep,_,_,rfl,dg⟩
  exact⟨br.keep,_,_,rfl,dg⟩
 ·have fh:=O.size;obtain⟨K,br,dM⟩:=hp;have cV:∀ w',Below y.heap.size y w'->w.heap.size+3<=y.heap.size/\y.heap.size<=w'.heap.size/\∃ K H,Zb w' K d H/\Kft E H/\dz H<=lim bD.length/\(∀ k,K k->F k\/w.heap.size+3<=k)/\∀ k,K k->k<y.heap.size:=fun w' hb=>by
   obtain⟨H,g1,g2,du⟩:=br.ex;exact⟨zo,hb.size,K,H,g1.below hb,g2,du,fun k hk=>(br.ffr k hk).imp id fun e=>zo,br.flt⟩
  rcases dM with⟨x,ds,bj,bN,_,bG⟩|⟨j,v,eb,bj,bN,bG,cJ⟩
  ·cases bj
   rw[hl]at bG;have cF:Jac (Ye E Ts) ns=x.2.2:=by
    unfold Jac;rw[<-bG.1,Ob8];simp
   obtain⟨sch,_,bK⟩:=Juy bk cD ht bG.2;have de:=dW bG.2;rw[cF]at bK de;refine(Jrn x.1 (Kul x.2.1 x.2.2.length) x.2.1 x.2.2 (nR x.2.2) y bN bK.rows bK.one bK.few de).mono fun e w' hp=>?_;obtain⟨bE,dt,bs',rfl,dm⟩:=hp;refine⟨bE,_,0,-1,-1,-1,-1,rfl,dC _ _ _ _ _ _ _ _ ⟨rfl,rfl,rfl,rfl,rfl,bG.2,dt,bs',?_,?_⟩,cV w' bE⟩
   ·rw[cF]
   rw[cF];exact dm
  cases bj
  refine(dN y (bR X y Y O) j v eb bG bN).mono fun e w' hp=>?_;obtain⟨bE,l,c,nd,row,col,bL,bj,hr⟩:=hp;exact⟨bE,l,c,nd,row,col,bL,bj,hr,cV w' bE⟩
 ·obtain⟨fo,dq,fp,K,H,cK,cL,cM,bJ,ci⟩:=hr;refine⟨dB _ _ _ _ _ _ _ _ _ dj (fun k M=>hk k zo) fo,dq,zo,K,H,cK.stands fun k M _=>hk k fun e=>?_,cL,cM,bJ,ci⟩;rcases bJ k M with I|I
  ·have:=bQ k I;omega
  omega
 obtain⟨hk,y,l,c,nd,row,col,bL,_,fh,rfl,hr,dq,fp,K,H,cK,cL,cM,bJ,ci⟩:=hp;have fi:=hk.size;refine⟨hk.mono fun k _ e=>bM k e,y,l,c,nd,row,col,bL,zo,rfl,hr,fun k=>Z k\/K k,H,⟨⟨d,s,K,G,sv,bs,?_,cu.stands fi fun k M cE=>hk.block k cE (cR k M),cK,fun k M e=>?_,fun e=>?_,fun g bK e=>?_,fun e=>?_,dx,dy,dv,fun k M=>?_⟩,fun k M=>?_⟩,cL,cM,fun k M=>.inl M,fun k M=>?_,fun k M=>?_⟩
 ·unfold Jdu at cn |-;exact(hk.block st (bB st (hM st (.inr (.inr (.inr rfl))))) cv).trans cn
 ·rcases bJ k e with I|I
  ·exact cO k M I
  have:=bB k (hM k (.inr (.inl M)));omega
 ·rcases bJ s e with I|I
  ·exact cP I
  have:=bB s (hM s (.inr (.inr (.inl (.inl rfl)))));omega
 ·rcases bJ g e with I|I
  ·exact cQ g bK I
  have:=bB g (hM g (.inr (.inr (.inl (.inr bK)))));omega
 ·rcases bJ st e with I|I
  ·exact cv I
  have:=bB st (hM st (.inr (.inr (.inr rfl))));omega
 ·rcases M with e|e
  ·exact .inr e
  exact .inl (hM k (.inr e))
 ·rcases M with e|e
  ·have:=bB k e;omega
  have:=ci k e;omega
 ·rcases M with e|e
  ·exact .inl e
  exact(bJ k e).elim (fun e=>.inl (bM k e)) fun e=>.inr zo
 rcases M with e|e
 ·have:=bB k e;omega
 exact ci k e
theorem Kz1 (y:Nat->Prop)(st:Nat)(E:DS)(Ts:List TS)w(h:Sto y w st E Ts)(bY:∀ T∈Ts,Jid E T)(bN:∀ T∈Ts,∀ cs,Zo E T=.inl cs->Zt T.types cs)a0 a1 a2 bz q wr pg pl ex bx w0(bk:Jax w0 a0 a1 a2 bz q wr pg pl ex bx)(bH:Below w0.heap.size w0 w)(bA:∀ k,y k->w0.heap.size<=k)(ns:List PN)(K:List (List Int))(bC:Jdk (Jhd Ts) K ns)(bE:∀ n∈ns,n.op=0->Ub Ts n.tn<Ts.length)(bV:Jd7 (Ye E Ts) ns ns.length->nR (Jac (Ye E Ts) ns)<=10000)(bM:∀ n∈ns,n.op≠0->n.op≠5->n.op≠6->Kwx (Jhd Ts) K ns (Ye E Ts) n)(bQ:∀ (j:Nat) (n:PN),ns[j]?=some n->n.op≠0->n.op≠5->n.op≠6->Qa6 K ns (Ye E Ts) j n)(bO:∀ (j:Nat) (n:PN),ns[j]?=some n->n.op=4->Jd7 (Ye E Ts) ns j->nR (Jbs n (stN (Ye E Ts) ns j))<=20000)(bP:∀ (j:Nat) (n:PN),ns[j]?=some n->n.op=3->Jd7 (Ye E Ts) ns j->(jnN n (stN (Ye E Ts) ns j)).length<=2000)(nb no br:Nat)(O:List Nd)(hl:O.length=ns.length)(bB:∀ (j:Nat) (nd:Nd),O[j]?=some nd->Zm w nb (no+j*7) nd)(hI:∀ V,Ju y w V->∀ (j:Nat) (n:PN) (nd:Nd),ns[j]?=some n->O[j]?=some nd->Jnm V n nd)(z bu:Nat)(bl sd:Int)(cb:1<=z)(cc:z<=1000)(bI:2<=bu)(bJ:bu<=1000)(bR:0<=bl)(bS:bl<=4096)(bZ:Jg sd)(pr:Nat)(gf:Nat->Nat)(lim:Nat->Nat)(bD:Ky1 (Ye E Ts) ns K bu pr gf lim)(bK:dz E<=lim 0)(bX:∀ (Y bf Z:Addr) (j:Nat) (v:Value) (W:World),¬ ERp (Ye E Ts) ns Y bf Z pg j v W)(bW:∀ (j:Nat) (n:PN),ns[j]?=some n->bu<nR (Jbs n (stN (Ye E Ts) ns j))->∀ bj,¬ Kso E bj):
  Calls prog 12 #[.pointer (some ⟨st,0,none⟩),.agg #[.slice (some ⟨nb,no,none⟩) ns.length br],.agg #[.int .i64 (z:Int),.int .i64 (bu:Int),.int .i64 bl,.int .i64 sd]] w fun e w'=>Ju y w w'/\Jd7 (Ye E Ts) ns ns.length/\∃ U g bs H I,e=.returned (.tuple #[.slice (some ⟨g,0,none⟩) (nR (Jac (Ye E Ts) ns)) (nR (Jac (Ye E Ts) ns)),Ko 0 (-1) (-1) (-1) (-1)])/\w.heap.size<=U/\Jcu w' U g bs (Qf (nR (Jac (Ye E Ts) ns)) (Jac (Ye E Ts) ns)) /\
   Sto H w' st I Ts/\Kft E I/\dz I<=lim ns.length/\(∀ k,y k->H k)/\(∀ k,H k->y k\/w.heap.size<=k)/\∀ k,H k->k<U:=by
 obtain⟨Y,bf,Z,cf,bU,cE⟩:=bk.m3;refine(Kv3 y st E Ts w h bY bN a0 a1 a2 bz q wr pg pl ex bx w0 bk bH bA ns K bC bE bV bM bQ bO bP nb no br O hl bB hI z bu bl sd cb cc bI bJ bR bS bZ pr gf lim bD bK (Qbl (Ye E Ts) ns) (fun M l c nd row col pg cB cC cF hk hr=>?_) (fun M l c nd row col pg W hr=>hr) Y bf Z cf bU fun M cD j v eb bh cH=>?_).mono fun e w' hp=>?_
 ·obtain⟨ci,cj,cn,cu,cv,cx,g,bs',cy,bi⟩:=hr;exact⟨ci,cj,cn,cu,cv,cx,g,bs',cy,bi.of_blocks (hk g bi.from_.1) fun b hb=>hk b (bi.from_.2 b hb).1⟩
 ·rcases bh with bh|⟨bj,_,_,_,⟨n,hn,_,bT⟩,_,ca⟩
  ·exact(bX _ _ _ _ _ _ bh).elim
  exact(bW _ n hn bT bj ca).elim
 obtain⟨hb,M,l,c,nd,row,col,cG,bG,rfl,⟨rfl,rfl,rfl,rfl,rfl,hf,g,bs,rfl,bL⟩,H,I,s1,s2,s3,s4,cz,cA⟩:=hp;exact⟨hb,hf,M.heap.size,g,bs,H,I,rfl,bG,bL,s1,s2,s3,s4,cz,cA⟩
end
open Go.RowKit Go.Shelf
theorem Qa2 t xs(h:Jdq t xs):(Jav t 0 xs).length<=4+42*xs.length:=by
 have y:(Jdt t 0 (Jz xs)).length<=41*(Jz xs).length:=by
  unfold Jdt;rw[if_pos rfl];exact Jgg _ (Jgz t xs h)
 have H:=Zy xs;exact zaM
theorem Sg.row {ts cs ks}(h:Sg ts cs ks)(y:ts.length<=6){ids}(I:∀ i∈ids,i<nR cs)(O:1<=ids.length)(hl:ids.length<=64):(Qu (Kr3 ts (Jba ids cs) ts.length)).length<=6*ids.length:=by
 have hlen:=h.good.len;have hC:=(h.lay I hl).1;have K:∀ c,c<ts.length->(Ksq ts (Jba ids cs) c).length<=4+42*ids.length:=fun c H=>by
  have:=Qa2 _ _ (hC.ok c H).2;rw[Kr0 ids zo]at this;exact this
 have htot:∀ k,k<=ts.length->(Kr3 ts (Jba ids cs) k).length<=(4+42*ids.length)*k:=by
  intro k;induction k with
  |zero=>intro _;simp[Kr3]
  |succ k M=>intro hk;rw[Ksj,Oa8,Nat.mul_succ];have:=M zo;have:=K k zo;omega
 have ht:=htot ts.length (Oa2 _);have:(4+42*ids.length)*ts.length<=(4+42*ids.length)*6:=Nat.mul_le_mul_left _ y;have:=Jio (Kr3 ts (Jba ids cs) ts.length);omega
def psN (q:Nat):Nat:=if q<=2 then 0 else if q<=4 then 1 else if q<=8 then 2 else if q<=16 then 3 else if q<=32 then 4 else if q<=64 then 5 else if q<=128 then 6 else q
theorem Kxd {bu}(hb:2<=bu)q(h:bu<q):psN (ckN q bu)+1<=psN q:=by
 have y:=Kug (q:=q) hb;generalize ckN q bu=m at y |-;unfold psN;repeat' split
 all_goals omega
theorem Qap {n bu}(hn:n<=200)(hb:2<=bu)(O:n+bu<=231):psN (ckN n bu)<=6/\2*6*bu*ckN n bu+6*n*psN (ckN n bu)<=10000:=by
 have H:ckN n bu<=100:=by have:=Kug (q:=n) hb;omega
 have I:bu*ckN n bu<=n+bu-1:=by unfold ckN;exact Nat.mul_div_le _ _
 have y:psN (ckN n bu)<=6:=by unfold psN;(repeat' split)<;>omega
 refine⟨y,?_⟩;have K:6*n*psN (ckN n bu)<=6*200*6:=Ol5 zo y;have M:2*6*bu*ckN n bu=12*(bu*ckN n bu):=by rw[Nat.mul_assoc]
 omega
