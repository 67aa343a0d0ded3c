/- '==' and '!=' of faults. -/
import Derived.Test.YtnlnlamdilifcaaGreatDoorTe
import Derived.Deep.CutBlock
set_option maxHeartbeats 4000000
set_option maxRecDepth 100000
namespace Go.Proofs.YtnlnlamdilifcaaGreatDoor
section
open Go.RowKit
theorem Jyf : (Tryz.prog.fieldsOf 39).toList.map (fun f => (f.name, f.type, f.offset)) = [("Code", 37, 0), ("Node", 3, 1), ("Row", 3, 2), ("Column", 3, 3), ("Page", 3, 4)] := by kernel_rfl
theorem Kef:Tryz.prog.underlying 39=some (.struct (Tryz.prog.fieldsOf 39)):=zK
theorem Kh3:Tryz.prog.stoodInHeld 39=false:=zK
theorem Js7 w c:(Op.equal 39 (Jb6 c) (Jb6 c)).run Tryz.prog w=.ok true w:=by
 rw[Op.equal,Op.maxDepth,run_equalIn_struct w 9999 39 _ _ Kef Kh3];have h:=Jyf;generalize (Tryz.prog.fieldsOf 39).toList=y at h;rcases y with _|⟨bz,_|⟨bA,_|⟨bB,_|⟨bC,_|⟨bD,_|⟨bE,y⟩⟩⟩⟩⟩⟩
 ·simp at h
 ·simp at h
 ·simp at h
 ·simp at h
 ·simp at h
 ·simp at h;obtain⟨⟨H,I,K⟩,⟨M,O,U⟩,⟨Y,Z,bf⟩,⟨bh,bi,bj⟩,bk,br,bx⟩:=h;simp[Op.eqFields,H,I,K,M,O,U,Y,Z,bf,bh,bi,bj,bk,br,bx,part,sizeOf,go_sem]
 simp at h
theorem Jjl c w:(binOp .eql 39 (Jb6 c) (Jb6 c)).run Tryz.prog w=.ok (.bool true) w:=by
 simp[binOp,Js7]
theorem Kz9 c w:(binOp .neq 39 (Jb6 c) (Jb6 c)).run Tryz.prog w=.ok (.bool false) w:=by
 simp[binOp,Js7]
end
open Go.RowKit Tryz
structure Kr9 (w:World) (b n:Nat) (f:Nat->Nat):Prop where
 lt:b<w.heap.size
 cell:∀ i,i<n->w.cell? (Ar b i)=some (Iq (f i:Nat))
 froz:∀ i,i<n->w.frozen? ⟨b,i,none⟩=false
theorem Kr9.below {w w' b n f}(h:Kr9 w b n f)(hb:Bq w w'):Kr9 w' b n f:=
 ⟨Oc2 h.lt hb.size,fun i hi=>by rw[(Kx hb).1 b i h.lt];exact h.cell i hi,fun i hi=>by rw[(Kx hb).2 b i h.lt];exact h.froz i hi⟩
theorem Kr9.drew {w b n f}(h:Kr9 w b n f)m:Kr9 (w.drewN m) b n f:=⟨h.lt,h.cell,h.froz⟩
theorem Kr9.congr {w b n f g}(h:Kr9 w b n f)(e:f=g):Kr9 w b n g:=e▸h
theorem zaZ {p:Prop}(h:p:=by subst e;rw[if_pos rfl];exact World.cell?_setCell_same _ _ _ (h.cell k hi)):p:=h
theorem Kr9.set {w}{b n:Nat}{f}(h:Kr9 w b n f){i:Nat}(hi:i<n)(x:Nat):Kr9 (w.setCell (Ar b i) (Iq x)) b n (fun k=>if k=i then x else f k):=by
 refine⟨by simpa using h.lt,fun k y=>?_,fun k y=>by rw[On9];exact h.froz k y⟩;by_cases e:k=i
 ·exact zaZ
 rw[if_neg e,Ob5 _ _ _ _ (by intro h;apply e;injection h with _ h;exact h.symm)];exact h.cell k y
theorem Kr9.swap {w b n f}(h:Kr9 w b n f){i j}(hi:i<n)(H:j<n)(I:i≠j):
  Kr9 ((w.setCell (Ar b i) (Iq (f j:Nat))).setCell (Ar b j) (Iq (f i:Nat))) b n (swp f i j):=by
 refine((h.set hi (f j)).set H (f i)).congr ?_;funext k;unfold swp
 by_cases y:k=j
 ·rw[if_pos y,if_neg zo,if_pos y]
 rw[if_neg y,if_neg y]
abbrev Ksz (b:Nat):Nat->Prop:=fun k=>k=b
theorem Kt2 {w wr b i j}(h:Ju (Ksz b) w wr)x y:Ju (Ksz b) w ((wr.setCell (Ar b i) x).setCell (Ar b j) y):=(h.set rfl i x).set rfl j y
theorem Kty (b n cap a c k:Nat)(I K O:Int)Y f w(Z:I=a)(bf:K=c)(bh:O=k)(bB:a+k<=c)(bC:c+k<=n)(bG:n<=1000000)(hr:Kr9 w b n f):
  Cq 298 #[Sq b n cap,Iq I,Iq K,Iq O,Y] w fun e w'=>e=.returned (.tuple #[])/\Kr9 w' b n (Kt4 f a c k)/\Ju (Ksz b) w w':=by
 subst Z bf bh;go_enter func298,ntmps298
 go_wp2;go_loopw [10] (fun i wr=>∃ t:Nat,t<=k/\i=Iq t/\Kr9 wr b n (Kt4 f a c t)/\Ju (Ksz b) w wr) (fun i _=>k-(intOf i).toNat)
 case atStart=>exact⟨0,Ob7 _,rfl,hr.congr (Kzy f a c).symm,Ju.refl _ _⟩
 case round=>
  rename_i i
  obtain⟨t,bH,rfl,hR,hK⟩:=hrel;by_cases bD:t<k
  ·obtain⟨x,H⟩:∃ x,x=a+t:=⟨_,rfl⟩;obtain⟨y,hy⟩:∃ y,y=c+t:=⟨_,rfl⟩;have bk:=hR.cell x zo;have br:=hR.cell y zo;have bz:=hR.froz x zo;have bA:=hR.froz y zo;have M:=(hR.swap (i:=x) (j:=y) zo zo zo).congr (show _=Kt4 f a c (t+1) by rw[H,hy];exact Kz1 zo);have U:Hid _:=M;clear M;have ex:(a:Int)+(t:Int)=(x:Int):=zo;have bx:(c:Int)+(t:Int)=(y:Int):=zo;have bI:(x:Int)<(n:Int):=zo;have bJ:(y:Int)<(n:Int):=zo;generalize Kt4 f a c t x=bK at *;generalize Kt4 f a c t y=bL at *;have bi:=zh H;have bj:=zh hy;clear H hy;go_wp2_with fail
   go_big_region
   all_goals go_wp2
   refine⟨⟨t+1,zo,zn,U.out.drew 1,(Kt2 hK _ _).drewN 1⟩,by simp[intOf];omega⟩
  obtain rfl:t=k:=zo;have bE:¬ (t:Int)<(t:Int):=zo;go_wp2;go_end0
  exact⟨rfl,hR,hK⟩
theorem Kws (b n cap s m e:Nat)(si bh y:Int)M f w(hs:si=s)(bB:bh=m)(bk:y=e)(bG:s<m)(bH:m<e)(bI:e<=n)(bf:n<=1000000)(hr:Kr9 w b n f):
  Cq 296 #[Sq b n cap,Iq si,Iq bh,Iq y,M] w fun O w'=>O=.returned (.tuple #[])/\Kr9 w' b n (rot s m e f)/\Ju (Ksz b) w w':=by
 subst hs bB bk;have bj:(m:Int)-(s:Int)=((m-s:Nat):Int):=zo;have bi:(e:Int)-(m:Int)=((e-m:Nat):Int):=zo;go_enter func296,ntmps296
 go_wp2;go_loopw [10,11] (fun iv Y wr=>∃ (p i j:Nat) (g:Nat->Nat),iv=Iq i/\Y=Iq j/\0<i/\0<j/\p+i=m/\s<=p/\m+j<=e/\Kr9 wr b n g/\Ju (Ksz b) w wr/\Hid (rot p m (m+j) g=rot s m e f)) (fun iv Y _=>(intOf iv).toNat+(intOf Y).toNat)
 case atStart=>exact⟨s,m-s,e-m,f,by first|rfl|rw[bj],by first|rfl|rw[bi],zo,zo,zo,Oa2 _,zo,hr,Ju.refl _ _,by show _=_;rw[show m+(e-m)=e by omega]⟩
 case round=>
  rename_i iv Y
  obtain⟨p,i,j,g,rfl,rfl,bx,bA,U,bD,bK,hR,hK,Z⟩:=hrel;have bE:(m:Int)-(i:Int)=(p:Int):=zo;by_cases bz:i=j
  ·subst bz;have K:=Kty b n cap p m i p m i M g wr rfl rfl rfl zo zo bf hR;have bC:((i:Int) != (i:Int))=false:=zS;go_wp2_with (go_at_call 298;refine K.mono ?_;rintro O w' ⟨rfl,I,H⟩)
   go_end0
   refine⟨rfl,I.congr ?_,hK.trans H⟩;rw[<-Z.out,<-U];exact Qbc g
  have bC:((i:Int) != (j:Int))=true:=by simp;omega
  by_cases bJ:j<i
  ·have K:=Kty b n cap p m j p m j M g wr rfl rfl rfl zo zo bf hR;have br:(j:Int)<(i:Int):=zo;have y:(i:Int)-(j:Int)=((i-j:Nat):Int):=zo;go_wp2_with (go_at_call 298;refine K.mono ?_;rintro O w' ⟨rfl,I,H⟩)
   go_roundw
   case rel=>
    refine⟨p+j,i-j,j,_,by first|rfl|rw[y],rfl,zo,bA,zo,zo,zo,I,hK.trans H,?_⟩;show _=_;rw[<-Z.out,<-U];exact Qbk g zo
   case measure=>simp[intOf];omega
  have br:¬ (j:Int)<(i:Int):=zo;have K:=Kty b n cap p (p+j) i p ((m:Int)+j-i) i M g wr rfl zo rfl zo zo bf hR;have y:(j:Int)-(i:Int)=((j-i:Nat):Int):=zo;go_wp2_with (go_at_call 298;refine K.mono ?_;rintro O w' ⟨rfl,I,H⟩)
  go_roundw
  case rel=>
   refine⟨p,i,j-i,_,rfl,by first|rfl|rw[y],bx,zo,U,bD,zo,I,hK.trans H,?_⟩;show _=_;rw[<-Z.out,<-U,show p+i+(j-i)=p+j by omega];exact Kxj g zo
  case measure=>simp[intOf];omega
def Kt6 (w:World)(b N:Nat)(p q:Addr)(c:Nat->Nat->Int):Prop:=∀ W,Ju (Ksz b) w W->∀ x y:Nat,x<N->y<N ->
 Cq 208 #[Iq x,Iq y,Po p,Po q] W fun e w'=>e=.returned (Iq (c x y))/\Bq W w'
theorem Kt6.keep {w w' b N p q c}(h:Kt6 w b N p q c)(y:Ju (Ksz b) w w'):Kt6 w' b N p q c:=fun W hW=>h W (y.trans hW)
def Kte (p q:Addr):Value:=.func (.func 208) #[] #[Po p,Po q]
theorem Ju.drew {F w w'}(h:Ju F w w'):Ju F w w'.drew:=h.drewN 1
def Ktf (N n:Nat)(f:Nat->Nat):Prop:=∀ i,i<n->f i<N
theorem Ktf.arr {N n a e f g}(h:Ktf N n f)(x:Arr a e f g)(y:e<=n):Ktf N n g:=fun i hi=>by
 by_cases k:a<=i/\i<e
 ·obtain⟨t,_,H,ht⟩:=x.at k;rw[ht];exact h t zo
 rw[x.off zo];exact h i hi
theorem Kug (b n N cap a e:Nat)(bz bA:Int)p q c(ho:Kse c)f w(bR:bz=a)(bS:bA=e)(bW:a<=e)(bC:e<=n)(cf:n<=1000000)(hr:Kr9 w b n f)(bI:Ktf N n f)(bE:Kt6 w b N p q c)(bV:Ksx c a e f):
  Cq 284 #[Sq b n cap,Iq bz,Iq bA,Kte p q] w fun bj w'=>bj=.returned (.tuple #[])/\∃ g,Kr9 w' b n g/\Ju (Ksz b) w w'/\Arr a e f g/\Srt c a e g:=by
 subst bR bS;have bM:=zh bE;clear bE;unfold Kte;go_enter func284,ntmps284
 go_wp2;go_loopw [8] (fun iv wr=>∃ (k:Nat) (g:Nat->Nat),iv=Iq k/\a<k/\(k<=e\/k=a+1)/\Kr9 wr b n g/\Ju (Ksz b) w wr/\Hid (Arr a e f g/\Srt c a k g/\Ksx c a e g)) (fun iv _=>e+1-(intOf iv).toNat)
 case atStart=>exact⟨a+1,f,zn,zo,.inr rfl,hr,Ju.refl _ _,Arr.refl _ _ _,fun i j x K z=>zo,bV⟩
 case round=>
  rename_i iv
  obtain⟨k,g,rfl,bX,cb,hR,hK,H⟩:=hrel;by_cases cc:k<e
  ·have bU:(k:Int)<(e:Int):=zo;go_wp2;go_loopw [9] (fun bi bL=>∃ (j:Nat) (g2:Nat->Nat),bi=Iq j/\a<=j/\j<=k/\Kr9 bL b n g2/\Ju (Ksz b) w bL/\Hid (Arr a e f g2/\Kw0 c a k j g2/\Ksx c a e g2)) (fun bi _=>(intOf bi).toNat)
   case atStart=>exact⟨k,g,rfl,zo,Oa2 _,hR,hK,H.out.1,Kw0.start H.out.2.1,H.out.2.2⟩
   case round=>
    rename_i bi
    clear hR hK H;obtain⟨j,g2,rfl,bD,bH,hR,hK,H⟩:=hrel;by_cases bY:a<j
    ·obtain⟨y,rfl⟩:∃ y,j=y+1:=⟨j-1,zo⟩;obtain⟨x,bh⟩:∃ x,g2 (y+1)=x:=⟨_,rfl⟩;obtain⟨K,hy⟩:∃ K,g2 y=K:=⟨_,rfl⟩;have bf:=hR.cell (y+1) zo;have cp:=hR.cell y zo;have bJ:x<N:=bh▸(bI.arr H.out.1 bC) (y+1) zo;have bK:K<N:=hy▸(bI.arr H.out.1 bC) y zo;rw[bh]at bf;rw[hy]at cp;have M:=zh bh;have O:=zh hy;clear bh hy;have bT:(a:Int)<(y:Int)+1:=zo;have ca:(y:Int)+1<(n:Int):=zo;have ci:(y:Int)<(n:Int):=zo;have cn:(0:Int)<=(y:Int)+1:=zo;have bP:((y:Int)+1).toNat=y+1:=zo;have cj:IntKind.i64.wrap (y:Int)=(y:Int):=by rw[Od4];omega
     have cu:(0:Int)<=(y:Int):=zo;have br:=bM.out wr.drew hK.drew x K bJ bK;clear bJ bK;by_cases bG:c x K<0
     ·go_wp2_with fail
      go_region_held3 (fun X=>X.cell? (Ar b (y+1))=some (Iq (x:Nat))/\X.cell? (Ar b y)=some (Iq (K:Nat)))
       (first|(exact⟨bf,cp⟩)|(exact⟨U,Z⟩)|(go_split_ands;constructor<;>assumption))
       (first|(go_at_call 208;refine br.mono ?_;rintro bj bO ⟨rfl,Y⟩;have bk:=hK.trans (Ju.of_below (Jw Y));have I:=hR.below (Jw Y);have U:=I.cell (y+1) zo;have Z:=I.cell y zo;have bB:=I.froz (y+1) zo;have bQ:=I.froz y zo;rw[M.out]at U;rw[O.out]at Z))
      go_wp2_with fail
      obtain⟨j1,bx⟩:∃ j1,j1=y+1:=⟨_,rfl⟩;rw[<-bx]at U bB bP;have bN:=zh bx;clear bx bf cp br Y;go_big_region
      all_goals go_wp2
      refine⟨⟨y,swp g2 (y+1) y,zn,zo,zo,?_,(Kt2 bk _ _).drewN 1,H.out.1.trans (Arr.swp zo zo),H.out.2.1.step zo zo (by rw[M.out,O.out];exact bG),H.out.2.2.swap ho zo zo (by rw[M.out,O.out];exact bG)⟩,by simp[intOf]⟩;have:=I.swap (i:=y+1) (j:=y) zo zo zo;rw[M.out,O.out]at this;rw[bN.out];exact this.drew 1
     go_wp2_with fail
     go_region_held3 (fun X=>X.cell? (Ar b (y+1))=some (Iq (x:Nat))/\X.cell? (Ar b y)=some (Iq (K:Nat)))
      (first|(exact⟨bf,cp⟩)|(exact⟨U,Z⟩)|(go_split_ands;constructor<;>assumption))
      (first|(go_at_call 208;refine br.mono ?_;rintro bj bO ⟨rfl,Y⟩;have bk:=hK.trans (Ju.of_below (Jw Y));have I:=hR.below (Jw Y);have U:=I.cell (y+1) zo;have Z:=I.cell y zo;have bB:=I.froz (y+1) zo;have bQ:=I.froz y zo;rw[M.out]at U;rw[O.out]at Z))
     go_wp2;go_roundw
     case rel=>exact⟨k+1,g2,zn,zo,zo,I,bk,H.out.1,H.out.2.1.done ho bD bH (.inr (by rw[Nat.add_sub_cancel];exact H.out.2.2.ge ho zo zo zo (by rw[M.out,O.out];omega))),H.out.2.2⟩
     case measure=>simp[intOf];omega
    have bT:¬ (a:Int)<(j:Int):=zo;have bZ:decide ((j:Int)>(a:Int))=false:=decide_eq_false zo;go_wp2_with fail
    go_big_region
    all_goals go_wp2
    go_roundw
    case rel=>exact⟨k+1,g2,zn,zo,zo,hR.drew 1,hK.drew,H.out.1,H.out.2.1.done ho bD bH (.inl zo),H.out.2.2⟩
    case measure=>simp[intOf];omega
  have bU:¬ (k:Int)<(e:Int):=zo;go_wp2;go_end0
  exact⟨rfl,g,hR,hK,H.out.1,H.out.2.1.mono (Oa2 _) zo⟩
def Kvq (b n a e:Nat)(c:Nat->Nat->Int)(f:Nat->Nat)(w:World)(y:Ending)(w':World):Prop:=y=.returned (.tuple #[])/\∃ g,Kr9 w' b n g/\Ju (Ksz b) w w'/\Arr a e f g/\Srt c a e g
theorem Arr.mvUp {a e k f}(h:a<=k/\k<e):Arr a e f (Ku4 a k f):=by
 obtain⟨I,K⟩:=h;induction k with
 |zero=>
      obtain rfl:a=0:=zo;rw[Kuq];exact Arr.refl _ _ _
 |succ k H=>
  by_cases y:a=k+1
  ·rw[<-y,Kuq];exact Arr.refl _ _ _
  rw[<-Kwb f zo];exact(H zo zo).trans (Arr.swp zo zo)
theorem Qag (b n N cap a m e:Nat)(bC bI bz:Int)p q c(ho:Kse c)f w(bP:bC=a)(bX:bI=m)(bT:bz=e)(bD:m=a+1)(ci:m<e)(cj:e<=n)(cF:n<=1000000)(hr:Kr9 w b n f)(bH:Ktf N n f)(bE:Kt6 w b N p q c)(bY:Ksx c a e f)(hs:Srt c m e f):
  Cq 285 #[Sq b n cap,Iq bC,Iq bI,Iq bz,Kte p q] w (Kvq b n a e c f w):=by
 subst bP bX bT;have bJ:=zh bE;have cE:(m:Int)-(a:Int)=1:=zo;have bK:=zh bD;have cf:a<m:=zo;clear bE bD;unfold Kte;go_enter func285,ntmps285
 go_wp2;go_loopw [10,11] (fun iv bk wr=>∃ i j:Nat,iv=Iq i/\bk=Iq j/\m<=i/\i<=j/\j<=e/\Kr9 wr b n f/\Ju (Ksz b) w wr/\Hid ((i=m\/Lt c (f (i-1)) (f a))/\(j=e\/Lt c (f a) (f j)))) (fun iv bk _=>(intOf bk).toNat-(intOf iv).toNat)
 case atStart=>exact⟨m,e,rfl,rfl,Oa2 _,zo,Oa2 _,hr,Ju.refl _ _,.inl rfl,.inl rfl⟩
 case round=>
  rename_i iv bk
  obtain⟨i,j,rfl,rfl,bQ,cy,bU,hR,hK,Y⟩:=hrel;by_cases cD:i<j
  ·have bW:(i:Int)<(j:Int):=zo;obtain⟨h,hh⟩:∃ h,h=(i+j) / 2:=⟨_,rfl⟩;have bZ:((i:Int)+(j:Int)) / 2=(h:Int):=zo;have cx:i<=h/\h<j:=zo;clear hh;have cu:(h:Int)<(n:Int):=zo;have cn:(a:Int)<(n:Int):=zo;obtain⟨x,bj⟩:∃ x,f h=x:=⟨_,rfl⟩;obtain⟨K,hy⟩:∃ K,f a=K:=⟨_,rfl⟩;have bh:=hR.cell h zo;have bi:=hR.cell a zo;have bG:=bJ.out wr.drew hK.drew x K (bj▸bH h zo) (hy▸bH a zo);rw[bj]at bh;rw[hy]at bi;have Z:=zh bj;have bf:=zh hy;clear bj hy;by_cases bS:c x K<0
   ·go_wp2_with fail
    go_region_held3 (fun X=>X.cell? (Ar b h)=some (Iq (x:Nat))/\X.cell? (Ar b a)=some (Iq (K:Nat)))
       (first|(exact⟨bh,bi⟩)|(exact⟨M,O⟩)|(go_split_ands;constructor<;>assumption))
       (first|(go_at_call 208;refine bG.mono ?_;rintro bN bM ⟨rfl,U⟩;have bA:=hK.trans (Ju.of_below (Jw U));have I:=hR.below (Jw U);have M:=I.cell h zo;have O:=I.cell a zo;rw[Z.out]at M;rw[bf.out]at O))
    go_wp2;go_roundw
    case rel=>exact⟨h+1,j,zn,rfl,zo,zo,bU,I,bA,.inr (by rw[Nat.add_sub_cancel,Z.out,bf.out];exact .inl bS),Y.out.2⟩
    case measure=>simp[intOf];omega
   go_wp2_with fail
   go_region_held3 (fun X=>X.cell? (Ar b h)=some (Iq (x:Nat))/\X.cell? (Ar b a)=some (Iq (K:Nat)))
      (first|(exact⟨bh,bi⟩)|(exact⟨M,O⟩)|(go_split_ands;constructor<;>assumption))
      (first|(go_at_call 208;refine bG.mono ?_;rintro bN bM ⟨rfl,U⟩;have bA:=hK.trans (Ju.of_below (Jw U));have I:=hR.below (Jw U);have M:=I.cell h zo;have O:=I.cell a zo;rw[Z.out]at M;rw[bf.out]at O))
   go_wp2;go_roundw
   case rel=>exact⟨i,h,rfl,rfl,bQ,zo,zo,I,bA,Y.out.1,.inr (bY.ge ho (Oa2 _) zo zo (by rw[Z.out,bf.out];omega))⟩
   case measure=>simp[intOf];omega
  obtain rfl:i=j:=zo;have bW:¬ (i:Int)<(i:Int):=zo;obtain⟨H,cv⟩:∃ H,i=H+1:=⟨i-1,zo⟩;have bz:(i:Int)-1=(H:Int):=zo;go_wp2;go_loopw [13] (fun br wr=>∃ k:Nat,br=Iq k/\a<=k/\k<=H/\Kr9 wr b n (Ku4 a k f)/\Ju (Ksz b) w wr) (fun br _=>H-(intOf br).toNat)
  case atStart=>exact⟨a,rfl,Oa2 _,zo,hR.congr (Kuq a f).symm,hK⟩
  case round=>
   rename_i br
   clear hR hK;obtain⟨k,rfl,bR,cB,hR,hK⟩:=hrel;by_cases cz:k<H
   ·have bV:(k:Int)<(H:Int):=zo;obtain⟨y,bB⟩:∃ y,y=k+1:=⟨_,rfl⟩;have ca:(k:Int)+1=(y:Int):=zo;have bh:=hR.cell k zo;have bi:=hR.cell y zo;have cb:=hR.froz k zo;have cc:=hR.froz y zo;have cC:(k:Int)<(n:Int):=zo;have cA:(y:Int)<(n:Int):=zo;have bL:Hid _:=(hR.swap (i:=k) (j:=y) zo zo zo).congr (show _=Ku4 a y f by rw[bB];exact Kwb f bR);generalize Ku4 a k f k=cG at *;generalize Ku4 a k f y=cH at *;have bx:=zh bB;clear bB;go_wp2_with fail
    go_big_region
    all_goals go_wp2
    exact⟨⟨y,rfl,by have:=bx.out;omega,by have:=bx.out;omega,bL.out.drew 1,(Kt2 hK _ _).drewN 1⟩,by have:=bx.out;simp[intOf];omega⟩
   have bV:¬ (k:Int)<(H:Int):=zo;go_wp2;go_end0
   refine⟨rfl,_,hR,hK,Arr.mvUp zo,?_⟩;have bO:k=i-1:=zo;rw[bO];have:=bK.out;subst this;exact Qac ho hs zo Y.out.1 Y.out.2
theorem Arr.mvDn {a m f k d}(h:a<=k)(H:k+d=m):Arr a (m+1) f (Ku5 m f k):=by
 induction d generalizing k with
 |zero=>
      obtain rfl:k=m:=zo;rw[Kv6];exact Arr.refl _ _ _
 |succ d y=>
  rw[<-Kv9 f zo];exact(y (k:=k+1) zo zo).trans (Arr.swp zo zo)
theorem Kyj (b n N cap a m e:Nat)(bA bI bB:Int)p q c(ho:Kse c)f w(bO:bA=a)(bU:bI=m)(bQ:bB=e)(bC:e=m+1)(cb:a+1<m)(cc:e<=n)(cE:n<=1000000)(hr:Kr9 w b n f)(bH:Ktf N n f)(bD:Kt6 w b N p q c)(bV:Ksx c a e f)(hs:Srt c a m f):
  Cq 285 #[Sq b n cap,Iq bA,Iq bI,Iq bB,Kte p q] w (Kvq b n a e c f w):=by
 subst bO bU bQ;have bJ:=zh bD;have cC:((m:Int)-(a:Int)==1)=false:=by simp;omega
 have cD:(e:Int)-(m:Int)=1:=zo;have bK:=zh bC;have ca:m<e:=zo;clear bD bC;unfold Kte;go_enter func285,ntmps285
 go_wp2;go_loopw [14,15] (fun iv bj wr=>∃ i j:Nat,iv=Iq i/\bj=Iq j/\a<=i/\i<=j/\j<=m/\Kr9 wr b n f/\Ju (Ksz b) w wr/\Hid ((i=a\/Lt c (f (i-1)) (f m))/\(j=m\/Lt c (f m) (f j)))) (fun iv bj _=>(intOf bj).toNat-(intOf iv).toNat)
 case atStart=>exact⟨a,m,rfl,rfl,Oa2 _,zo,Oa2 _,hr,Ju.refl _ _,.inl rfl,.inl rfl⟩
 case round=>
  rename_i iv bj
  obtain⟨i,j,rfl,rfl,bP,cv,bR,hR,hK,U⟩:=hrel;by_cases cB:i<j
  ·have bT:(i:Int)<(j:Int):=zo;obtain⟨h,hh⟩:∃ h,h=(i+j) / 2:=⟨_,rfl⟩;have bW:((i:Int)+(j:Int)) / 2=(h:Int):=zo;have cu:i<=h/\h<j:=zo;clear hh;have cn:(h:Int)<(n:Int):=zo;have ci:(m:Int)<(n:Int):=zo;obtain⟨x,bi⟩:∃ x,f m=x:=⟨_,rfl⟩;obtain⟨I,hy⟩:∃ I,f h=I:=⟨_,rfl⟩;have bf:=hR.cell m zo;have bh:=hR.cell h zo;have bG:=bJ.out wr.drew hK.drew x I (bi▸bH m zo) (hy▸bH h zo);rw[bi]at bf;rw[hy]at bh;have Y:=zh bi;have Z:=zh hy;clear bi hy;by_cases bE:c x I<0
   ·go_wp2_with fail
    go_region_held3 (fun X=>X.cell? (Ar b m)=some (Iq (x:Nat))/\X.cell? (Ar b h)=some (Iq (I:Nat)))
       (first|(exact⟨bf,bh⟩)|(exact⟨K,M⟩)|(go_split_ands;constructor<;>assumption))
       (first|(go_at_call 208;refine bG.mono ?_;rintro bN bM ⟨rfl,O⟩;have bx:=hK.trans (Ju.of_below (Jw O));have H:=hR.below (Jw O);have K:=H.cell m zo;have M:=H.cell h zo;rw[Y.out]at K;rw[Z.out]at M))
    go_wp2;go_roundw
    case rel=>exact⟨i,h,rfl,rfl,bP,zo,zo,H,bx,U.out.1,.inr (by rw[Y.out,Z.out];exact .inl bE)⟩
    case measure=>simp[intOf];omega
   have cj:decide (c x I<0)=false:=decide_eq_false bE;go_wp2_with fail
   go_region_held3 (fun X=>X.cell? (Ar b m)=some (Iq (x:Nat))/\X.cell? (Ar b h)=some (Iq (I:Nat)))
      (first|(exact⟨bf,bh⟩)|(exact⟨K,M⟩)|(go_split_ands;constructor<;>assumption))
      (first|(go_at_call 208;refine bG.mono ?_;rintro bN bM ⟨rfl,O⟩;have bx:=hK.trans (Ju.of_below (Jw O));have H:=hR.below (Jw O);have K:=H.cell m zo;have M:=H.cell h zo;rw[Y.out]at K;rw[Z.out]at M))
   go_wp2;go_roundw
   case rel=>exact⟨h+1,j,zn,rfl,zo,zo,bR,H,bx,.inr (by rw[Nat.add_sub_cancel];exact bV.ge ho zo zo zo (by rw[Y.out,Z.out];omega)),U.out.2⟩
   case measure=>simp[intOf];omega
  obtain rfl:i=j:=zo;have bT:¬ (i:Int)<(i:Int):=zo;go_wp2;go_loopw [17] (fun bk wr=>∃ k:Nat,bk=Iq k/\i<=k/\k<=m/\Kr9 wr b n (Ku5 m f k)/\Ju (Ksz b) w wr) (fun bk _=>(intOf bk).toNat)
  case atStart=>exact⟨m,rfl,zo,Oa2 _,hR.congr (Kv6 m f).symm,hK⟩
  case round=>
   rename_i bk
   clear hR hK;obtain⟨k,rfl,cf,cz,hR,hK⟩:=hrel;by_cases cx:i<k
   ·have bS:(i:Int)<(k:Int):=zo;obtain⟨y,bz⟩:∃ y,k=y+1:=⟨k-1,zo⟩;have bX:(k:Int)-1=(y:Int):=zo;have bf:=hR.cell k zo;have bh:=hR.cell y zo;have bY:=hR.froz k zo;have bZ:=hR.froz y zo;have cA:(k:Int)<(n:Int):=zo;have cy:(y:Int)<(n:Int):=zo;have bL:Hid _:=(hR.swap (i:=k) (j:=y) zo zo zo).congr (show _=Ku5 m f y by rw[bz];exact Kv9 f zo);generalize Ku5 m f k k=cF at *;generalize Ku5 m f k y=cG at *;have br:=zh bz;clear bz;go_wp2_with fail
    go_big_region
    all_goals go_wp2
    exact⟨⟨y,rfl,by have:=br.out;omega,by have:=br.out;omega,bL.out.drew 1,(Kt2 hK _ _).drewN 1⟩,by have:=br.out;simp[intOf];omega⟩
   have bS:¬ (i:Int)<(k:Int):=zo;go_wp2;go_end0
   obtain rfl:k=i:=zo;have:=bK.out;subst this;exact⟨rfl,_,hR,hK,Arr.mvDn (d:=m-k) zo zo,Kx9 ho hs zo U.out.1 U.out.2⟩
def Qb1 (b n N cap:Nat)(p q:Addr)(c:Nat->Nat->Int)(a m e:Nat):Prop:=∀ (f:Nat->Nat) (w:World),Kr9 w b n f->Ktf N n f->Kt6 w b N p q c->Ksx c a e f->Srt c a m f->Srt c m e f ->
 Cq 285 #[Sq b n cap,Iq (a:Nat),Iq (m:Nat),Iq (e:Nat),Kte p q] w (Kvq b n a e c f w)
theorem Kyz b n N cap a m e p q c(ho:Kse c)(bY:a+1<m)(dc:m+1<e)(cy:e<=n)(cS:n<=1000000)(hI:∀ a' ci bh,a'<ci->ci<bh->bh<=n->bh-a'<e-a->Qb1 b n N cap p q c a' ci bh):Qb1 b n N cap p q c a m e:=by
 intro f w hr cJ cB cK cH br;have bS:=zh cB;have cj:=zh hI;have bV:=zh cJ;have bL:Hid (Ksx c a e f/\Srt c a m f/\Srt c m e f):=⟨cK,cH,br⟩;have dj:((m:Int)-(a:Int)==1)=false:=by simp;omega
 have dl:((e:Int)-(m:Int)==1)=false:=by simp;omega
 obtain⟨d,cD⟩:∃ d,d=(a+e) / 2:=⟨_,rfl⟩;have cX:((a:Int)+(e:Int)) / 2=(d:Int):=zo;have df:2*d<=a+e/\a+e<=2*d+1:=zo;have bT:=zh cD;obtain⟨y,cE⟩:∃ y,y=d+m:=⟨_,rfl⟩;have cZ:(d:Int)+(m:Int)=(y:Int):=zo;obtain⟨bI,cF⟩:∃ bI,y=bI+1:=⟨y-1,zo⟩;have da:(y:Int)-1=(bI:Int):=zo;have O:Hid (y=d+m/\y=bI+1):=⟨cE,cF⟩;have dm:y<=2000000:=zo;clear cB hI cJ cK cH br cD cE cF;unfold Kte;go_enter func285,ntmps285
 go_upto_if 140 with fail
 go_cut [20,21] from 138 to 146 (fun sv rv Y=>∃ bf Z:Nat,sv=Iq bf/\rv=Iq Z/\((d<m/\bf+e=y/\Z=d)\/(m<=d/\bf=a/\Z=m))/\Y=w)
 case first=>
  by_cases cQ:d<m
  ·have cR:(d:Int)<(m:Int):=zo;have es:(y:Int)-(e:Int)=((y-e:Nat):Int):=by have:=O.out;omega
   go_wp2;go_meet
   case rel=>exact⟨y-e,d,by first|rfl|rw[es],rfl,.inl ⟨cQ,by have:=O.out;omega,rfl⟩,rfl⟩
  have cR:¬ (d:Int)<(m:Int):=zo;go_wp2;go_meet
  case rel=>exact⟨a,m,rfl,rfl,.inr ⟨zo,rfl,rfl⟩,rfl⟩
 case rest=>
  obtain⟨bf,Z,rfl,rfl,cf,cM⟩:=hcut;subst wc;have de:a<=bf/\bf<=Z/\Z<=m/\Z<=d/\y<=bf+e:=by have:=O.out;omega
  have cu:=zh cf;clear cf;go_wp2;go_loopw [20,21] (fun sv rv wr=>∃ s r:Nat,sv=Iq s/\rv=Iq r/\bf<=s/\s<=r/\r<=Z/\Kr9 wr b n f/\Ju (Ksz b) w wr/\Hid ((s=bf\/Lt c (f (s-1)) (f (y-s)))/\(r=Z\/Lt c (f (y-1-r)) (f r)))) (fun sv rv _=>(intOf rv).toNat-(intOf sv).toNat)
  case atStart=>exact⟨bf,Z,rfl,rfl,Oa2 _,zo,Oa2 _,hr,Ju.refl _ _,.inl rfl,.inl rfl⟩
  case round=>
   rename_i sv rv
   obtain⟨s,r,rfl,rfl,cU,cf,cT,hR,hK,bK⟩:=hrel;by_cases di:s<r
   ·have cP:(s:Int)<(r:Int):=zo;obtain⟨h,hh⟩:∃ h,h=(s+r) / 2:=⟨_,rfl⟩;have cY:((s:Int)+(r:Int)) / 2=(h:Int):=zo;have dh:s<=h/\h<r:=zo;obtain⟨u,cL⟩:∃ u,u+1+h=y:=⟨y-1-h,by have:=O.out;omega⟩;have db:(bI:Int)-(h:Int)=(u:Int):=by have:=O.out;omega
    have dq:m<=u/\u<e:=by have:=O.out;omega
    have ds:IntKind.i64.wrap (u:Int)=(u:Int):=by rw[Od4];omega
    have cx:=zh cL;clear hh cL;have dg:(h:Int)<(n:Int):=zo;have dr:(u:Int)<(n:Int):=zo;obtain⟨x,bQ⟩:∃ x,f u=x:=⟨_,rfl⟩;obtain⟨I,hy⟩:∃ I,f h=I:=⟨_,rfl⟩;have bW:=hR.cell u zo;have bX:=hR.cell h zo;have cC:=bS.out wr.drew hK.drew x I (bQ▸bV.out u zo) (hy▸bV.out h zo);rw[bQ]at bW;rw[hy]at bX;have bM:=zh bQ;have bN:=zh hy;clear bQ hy;by_cases cb:c x I<0
    ·have bC:decide (c x I<0)=true:=decide_eq_true cb;go_wp2_with fail
     go_region_held3 (fun X=>X.cell? (Ar b u)=some (Iq (x:Nat))/\X.cell? (Ar b h)=some (Iq (I:Nat)))
       (first|(exact⟨bW,bX⟩)|(exact⟨bz,bA⟩)|(go_split_ands;constructor<;>assumption))
       (first|(go_at_call 208;refine cC.mono ?_;rintro bh bO ⟨rfl,bB⟩;have K:=hK.trans (Ju.of_below (Jw bB));have H:=hR.below (Jw bB);have bz:=H.cell u zo;have bA:=H.cell h zo;rw[bM.out]at bz;rw[bN.out]at bA))
     go_wp2;go_roundw
     case rel=>exact⟨s,h,rfl,rfl,cU,zo,zo,H,K,bK.out.1,.inr (by rw[show y-1-h=u by have:=cx.out;omega,bM.out,bN.out];exact .inl cb)⟩
     case measure=>simp[intOf];omega
    have bC:decide (c x I<0)=false:=decide_eq_false cb;go_wp2_with fail
    go_region_held3 (fun X=>X.cell? (Ar b u)=some (Iq (x:Nat))/\X.cell? (Ar b h)=some (Iq (I:Nat)))
      (first|(exact⟨bW,bX⟩)|(exact⟨bz,bA⟩)|(go_split_ands;constructor<;>assumption))
      (first|(go_at_call 208;refine cC.mono ?_;rintro bh bO ⟨rfl,bB⟩;have K:=hK.trans (Ju.of_below (Jw bB));have H:=hR.below (Jw bB);have bz:=H.cell u zo;have bA:=H.cell h zo;rw[bM.out]at bz;rw[bN.out]at bA))
    go_wp2;go_roundw
    case rel=>exact⟨h+1,r,zn,rfl,zo,zo,cT,H,K,.inr (by rw[Nat.add_sub_cancel,show y-(h+1)=u by have:=cx.out;omega];exact bL.out.1.ge ho zo zo zo (by rw[bM.out,bN.out];omega)),bK.out.2⟩
    case measure=>simp[intOf];omega
   obtain rfl:s=r:=zo;have cP:¬ (s:Int)<(s:Int):=zo;obtain⟨t,ht⟩:∃ t,s+t=y:=⟨y-s,by have:=O.out;omega⟩;have et:(y:Int)-(s:Int)=(t:Int):=zo;have cv:Hid (t=(a+e) / 2+m-s):=by show _=_;have:=O.out;rw[<-bT.out];omega
   have hcut:Cut c a m e s f:=by
    have dd:=O.out;have cz:=cv.out;have cN:(a+e) / 2=d:=bT.out.symm;refine⟨zo,zo,zo,zo,?_,?_⟩
    ·rw[<-cz];rcases bK.out.1 with x|x
     ·rcases cu.out with I|I
      ·right;left;omega
      left;omega
     right;right;rw[show t=y-s by omega];exact x
    rw[<-cz,cN];rcases bK.out.2 with x|x
    ·rcases cu.out with I|I
     ·right;left;omega
     left;omega
    right;right;rw[show t-1=y-1-s by omega];exact x
   have bC:=hcut.cut ho bL.out.2.1 bL.out.2.2 bL.out.1;rw[<-cv.out,<-bT.out]at bC;have cA:Arr a e f (rot s m t f):=(Arr.rot zo (by have:=O.out;omega)).mono zo zo;have U:Hid (Kw6 c a e s d t (rot s m t f)/\Arr a e f (rot s m t f)):=⟨bC,cA⟩;have dp:m<=t/\t<=e/\d<=t/\s<=d/\s<=m/\a<=s:=by have:=O.out;omega
   have cI:(s<d↔m<t)/\(s<m↔d<t):=by have:=O.out;omega
   have cW:=zh cI;clear hcut bC cA ht cI;go_upto_region 39 with fail
   go_cut [185] from 178 to 185 (fun v Y=>v=.bool (decide (s<m/\m<t))/\Y=wr)
   case first=>
    by_cases bj:s<m
    ·have bG:(s:Int)<(m:Int):=zo;by_cases bk:m<t
     ·have bH:(m:Int)<(t:Int):=zo;go_wp2;go_meet
      case rel=>exact⟨by rw[decide_eq_true ⟨bj,bk⟩],rfl⟩
     have bH:¬ (m:Int)<(t:Int):=zo;go_wp2;go_meet
     case rel=>exact⟨by rw[decide_eq_false fun x=>bk x.2],rfl⟩
    have bG:¬ (s:Int)<(m:Int):=zo;go_wp2;go_meet
    case rel=>exact⟨by rw[decide_eq_false fun x=>bj x.1],rfl⟩
   case rest=>
   obtain⟨rfl,cM⟩:=hcut;subst wc;go_upto_if 185 with fail
   go_cut [24] from 178 to 191 (fun tv Y=>tv=Iq t/\Kr9 Y b n (rot s m t f)/\Ju (Ksz b) w Y)
   case first=>
    by_cases M:s<m/\m<t
    ·have cc:decide (s<m/\m<t)=true:=decide_eq_true M;have cG:=Kws b n cap s m t s m t (Kte p q) f wr rfl rfl rfl M.1 M.2 zo cS hR;unfold Kte at cG;go_wp2_with (go_at_call 296;refine cG.mono ?_;rintro bh bO ⟨rfl,H,K⟩)
     go_meet
     case rel=>exact⟨rfl,H,hK.trans K⟩
    have cc:decide (s<m/\m<t)=false:=decide_eq_false M;have bU:=zh M;clear M;go_wp2;go_meet
    case rel=>exact⟨rfl,hR.congr (by
     have:=bU.out;by_cases x:s=m
     ·rw[x];exact(Qat f zo).symm
     rw[show t=m by omega];exact(Kxd f).symm),hK⟩
   case rest=>
    obtain⟨rfl,H,K⟩:=hcut;have cn:Hid (Ktf N n (rot s m t f)):=bV.out.arr U.out.2 cy;generalize rot s m t f=g at *;obtain⟨bR,cV⟩:∃ bR,bR=wc:=⟨_,rfl⟩;subst cV;go_upto_region 41 with fail
    go_cut [199] from 192 to 199 (fun v Y=>v=.bool (decide (a<s/\s<d))/\Y=bR)
    case first=>
     by_cases bj:a<s
     ·have bG:(a:Int)<(s:Int):=zo;by_cases bk:s<d
      ·have bH:(s:Int)<(d:Int):=zo;go_wp2;go_meet
       case rel=>exact⟨by rw[decide_eq_true ⟨bj,bk⟩],rfl⟩
      have bH:¬ (s:Int)<(d:Int):=zo;go_wp2;go_meet
      case rel=>exact⟨by rw[decide_eq_false fun x=>bk x.2],rfl⟩
     have bG:¬ (a:Int)<(s:Int):=zo;go_wp2;go_meet
     case rel=>exact⟨by rw[decide_eq_false fun x=>bj x.1],rfl⟩
    case rest=>
    obtain⟨rfl,cM⟩:=hcut;subst wc;go_upto_if 199 with fail
    go_cut [24] from 192 to 205 (fun tv Y=>tv=Iq t/\∃ g1,Kr9 Y b n g1/\Ju (Ksz b) w Y/\Hid (Arr a d g g1/\Srt c a d g1))
    case first=>
     by_cases M:a<s/\s<d
     ·have cc:decide (a<s/\s<d)=true:=decide_eq_true M;have bE:=cj.out a s d M.1 M.2 zo zo g bR H cn.out (bS.out.keep K) U.out.1.st1 U.out.1.s1 U.out.1.s2;unfold Kte at bE;go_wp2_with (go_at_call 285;refine bE.mono ?_;rintro bh bO ⟨rfl,g1,ca,bZ,bP,br⟩)
      go_meet
      case rel=>exact⟨rfl,g1,ca,K.trans bZ,bP,br⟩
     have cc:decide (a<s/\s<d)=false:=decide_eq_false M;have bU:=zh M;clear M;go_wp2;go_meet
     case rel=>exact⟨rfl,g,H,K,Arr.refl _ _ _,U.out.1.s1.join U.out.1.s2 (by have:=bU.out;omega)⟩
    case rest=>
     clear hR hK H K;obtain⟨rfl,g1,H,K,bx⟩:=hcut;have fin:∀ g2,Arr d e g1 g2->Srt c d e g2->Arr a e f g2/\Srt c a e g2:=fun g2 x I=>
      ⟨(U.out.2.trans (bx.out.1.mono (Oa2 _) zo)).trans (x.mono zo (Oa2 _)),U.out.1.whole bx.out.1 x bx.out.2 I⟩
     have bJ:=zh fin;have bD:∀ k,d<=k->g1 k=g k:=fun k cO=>bx.out.1.off (.inr cO);have bi:Hid (Srt c d t g1/\Srt c t e g1/\Ksx c d e g1/\Ktf N n g1):=⟨U.out.1.s3.congr fun k bY _=>bD k bY,U.out.1.s4.congr fun k bY _=>bD k zo,(fun i j x I z=>by rw[bD i x,bD j zo];exact U.out.1.st2 i j x I z),cn.out.arr bx.out.1 zo⟩;clear fin bD;by_cases bj:d<t
     ·have bG:(d:Int)<(t:Int):=zo;by_cases bk:t<e
      ·have bH:(t:Int)<(e:Int):=zo;have bE:=cj.out d t e bj bk cy zo g1 wc H bi.out.2.2.2 (bS.out.keep K) bi.out.2.2.1 bi.out.1 bi.out.2.1;unfold Kte at bE;go_wp2_with (go_at_call 285;refine bE.mono ?_;rintro bh bO ⟨rfl,g2,ca,bZ,bP,br⟩)
       go_end0
       exact⟨rfl,g2,ca,K.trans bZ,(bJ.out g2 bP br).1,(bJ.out g2 bP br).2⟩
      have bH:¬ (t:Int)<(e:Int):=zo;go_wp2;go_end0
      have:=bJ.out g1 (Arr.refl _ _ _) (bi.out.1.join bi.out.2.1 (.inr zo));exact⟨rfl,g1,H,K,this.1,this.2⟩
     have bG:¬ (d:Int)<(t:Int):=zo;go_wp2;go_end0
     have:=bJ.out g1 (Arr.refl _ _ _) (bi.out.1.join bi.out.2.1 (.inl zo));exact⟨rfl,g1,H,K,this.1,this.2⟩
theorem Kwk b n N cap p q c(ho:Kse c)(I:n<=1000000):∀ (k a m e:Nat),e-a<=k->a<m->m<e->e<=n->Qb1 b n N cap p q c a m e:=by
 intro k;induction k with
 |zero=>intro a m e bf bh O y;omega
 |succ k bk=>
  intro a m e bf bh O y;by_cases Y:m=a+1
  ·exact fun f w hr K H M _ bj=>Qag b n N cap a m e a m e p q c ho f w rfl rfl rfl Y O y I hr K H M bj
  by_cases Z:e=m+1
  ·exact fun f w hr K H M bi _=>Kyj b n N cap a m e a m e p q c ho f w rfl rfl rfl Z zo y I hr K H M bi
  exact Kyz b n N cap a m e p q c ho zo zo y I fun a' br U x1 x2 bx bz=>bk a' br U zo x1 x2 bx
theorem Ksx.arr {c A B lo hi g H}(h:Ksx c A B g)(y:Arr lo hi g H)(hs:Srt c lo hi H)(Z:A<=lo)(bf:hi<=B):Ksx c A B H:=by
 intro i j I K M;by_cases O:lo<=i/\i<hi
 ·by_cases j1:lo<=j/\j<hi
  ·exact hs.stab i j O.1 K j1.2
  obtain⟨t,U,Y,ht⟩:=y.at O;rw[ht,y.off (k:=j) zo];exact h t j zo zo M
 by_cases j1:lo<=j/\j<hi
 ·obtain⟨t,U,Y,ht⟩:=y.at j1;rw[ht,y.off (k:=i) zo];exact h i t I zo zo
 rw[y.off (k:=i) zo,y.off (k:=j) zo];exact h i j I K M
def Ku9 (c:Nat->Nat->Int)(n s A:Nat)(f g:Nat->Nat):Prop:=Arr 0 n f g/\Blk c s 0 A g/\Ksx c 0 n g
theorem Ku9.more {c n s A e f g y}(h:Ku9 c n s A f g)(M:∃ k,A=k*s)(hs:0<s)(H:Arr A e g y)(K:Srt c A e y)(I:e<=n):Ku9 c n s e f y:=by
 obtain⟨k,rfl⟩:=M;exact⟨h.1.trans (H.mono (Ob7 _) I),h.2.1.more H K hs,h.2.2.arr H K (Ob7 _) I⟩
theorem Kw2 b n N cap p q c(ho:Kse c)f w(br:n<=1000000)(hr:Kr9 w b n f)(bN:Ktf N n f)(bM:Kt6 w b N p q c)(bT:Ksx c 0 n f):
  Cq 245 #[Sq b n cap,Iq (n:Nat),Kte p q] w (Kvq b n 0 n c f w):=by
 have bj:=zh bM;have bx:=zh bN;clear bM bN;unfold Kte;go_enter func245,ntmps245
 go_wp2;go_loopw [7,8] (fun bh bv wr=>∃ (A B:Nat) (g:Nat->Nat),bh=Iq A/\bv=Iq B/\A<=n/\B<=n+20/\Kr9 wr b n g/\Ju (Ksz b) w wr/\Hid (B=A+20/\(∃ k,A=k*20)/\Ku9 c n 20 A f g)) (fun _ bv _=>n+1-(intOf bv).toNat)
 case atStart=>exact⟨0,20,f,rfl,rfl,zo,zo,hr,Ju.refl _ _,rfl,⟨0,rfl⟩,Arr.refl _ _ _,(fun i j _ _ h=>absurd h zo),bT⟩
 case round=>
  rename_i bh bv
  obtain⟨A,B,g,rfl,rfl,bJ,bU,hR,hK,y⟩:=hrel;by_cases bk:B<=n
  ·have bO:(B:Int)<=(n:Int):=zo;have Y:=Kug b n N cap A B A B p q c ho g wr rfl rfl (by have:=y.out.1;omega) bk br hR (bx.out.arr y.out.2.2.1 (Oa2 _)) (bj.out.keep hK) (y.out.2.2.2.2.mono zo bk);unfold Kte at Y;go_wp2_with (go_at_call 284;refine Y.mono ?_;rintro bA bz ⟨rfl,g1,K,I,H,O⟩)
   go_roundw
   case rel=>
    refine⟨B,B+20,g1,rfl,zn,bk,zo,K,hK.trans I,rfl,?_,y.out.2.2.more y.out.2.1 zo H O bk⟩;obtain⟨k,M⟩:=y.out.2.1;exact⟨k+1,by have:=y.out.1;omega⟩
   case measure=>have:=y.out.1;simp[intOf];omega
  have bO:¬ (B:Int)<=(n:Int):=zo;have Y:=Kug b n N cap A n A n p q c ho g wr rfl rfl bJ (Oa2 _) br hR (bx.out.arr y.out.2.2.1 (Oa2 _)) (bj.out.keep hK) (y.out.2.2.2.2.mono zo (Oa2 _));unfold Kte at Y;go_wp2_with (go_at_call 284;refine Y.mono ?_;rintro bA bz ⟨rfl,g1,K,I,H,O⟩)
  have bH:Hid (Ku9 c n 20 n f g1):=y.out.2.2.more y.out.2.1 zo H O (Oa2 _);have bL:=hK.trans I;clear Y hR hK y H O I;go_loopw [6] (fun sv wr=>∃ (s:Nat) (g:Nat->Nat),sv=Iq s/\20<=s/\s<=2000000/\Kr9 wr b n g/\Ju (Ksz b) w wr/\Hid (Ku9 c n s n f g)) (fun sv _=>n-(intOf sv).toNat)
  case atStart=>exact⟨20,g1,rfl,Oa2 _,zo,K,bL,bH.out⟩
  case round=>
   rename_i sv
   clear K bL bH;obtain⟨s,g2,rfl,bY,bX,hR,hK,y⟩:=hrel;by_cases bZ:s<n
   ·have bS:(s:Int)<(n:Int):=zo;go_wp2;go_loopw [7,8] (fun bh bv wr=>∃ (A B:Nat) (g:Nat->Nat),bh=Iq A/\bv=Iq B/\A<=n/\B<=A+2*s/\A+2*s<=B/\Kr9 wr b n g/\Ju (Ksz b) w wr/\Hid ((∃ k,A=k*(2*s))/\Ku9 c n (2*s) A f g/\Blk c s A n g)) (fun _ bv _=>n+1-(intOf bv).toNat)
    case atStart=>exact⟨0,2*s,g2,rfl,zn,zo,zo,zo,hR,hK,⟨0,zS⟩,⟨y.out.1,fun i j _ _ h=>absurd h zo,y.out.2.2⟩,y.out.2.1⟩
    case round=>
     rename_i bh bv
     clear hR hK y;obtain⟨A,B,g,rfl,rfl,bJ,bV,bW,hR,hK,y⟩:=hrel;have bG:∃ k,A=k*s:=by
      obtain⟨k,M⟩:=y.out.1;exact⟨2*k,by rw[M,Nat.mul_comm 2 k,Nat.mul_assoc]⟩
     have bK:∃ k,A+s=k*s:=by
      obtain⟨k,M⟩:=bG;exact⟨k+1,by rw[Nat.add_mul,Nat.one_mul,M]⟩
     have srt:∀ x e,(∃ k,x=k*s)->A<=x->e<=n->e<=x+s->Srt c x e g:=fun x e ⟨k,M⟩ bC bD bE=>by
      subst M;exact(y.out.2.2.sub bC (Oa2 _)).srt bD bE zo
     have Z:Hid ((∃ k,A=k*s)/\(∃ k,A+s=k*s)):=⟨bG,bK⟩;have bf:=zh srt;have bI:Hid (Ktf N n g):=bx.out.arr y.out.2.1.1 (Oa2 _);clear bG bK srt;by_cases bi:B<=n
     ·have bP:(B:Int)<=(n:Int):=zo;have U:=Kwk b n N cap p q c ho br n A (A+s) B zo zo zo bi g wr hR bI.out (bj.out.keep hK) (y.out.2.1.2.2.mono zo bi) (bf.out A (A+s) Z.out.1 (Oa2 _) zo (Oa2 _)) (bf.out (A+s) B Z.out.2 zo bi zo);unfold Kte at U;rw[show ((A+s:Nat):Int)=(A:Int)+(s:Int) by omega]at U;go_wp2_with (go_at_call 285;refine U.mono ?_;rintro bA bz ⟨rfl,bB,K,I,H,O⟩)
      go_roundw
      case rel=>
       refine⟨B,B+2*s,bB,rfl,zn,bi,zo,zo,K,hK.trans I,?_,y.out.2.1.more y.out.1 zo H O bi,fun i j bC bD bE=>?_⟩
       ·obtain⟨k,M⟩:=y.out.1;exact⟨k+1,by rw[Nat.add_mul,Nat.one_mul,<-M];omega⟩
       rw[H.off (k:=i) (.inr bC),H.off (k:=j) (.inr zo)];exact y.out.2.2 i j zo bD bE
      case measure=>simp[intOf];omega
     have bP:¬ (B:Int)<=(n:Int):=zo;by_cases bQ:A+s<n
     ·have bR:(A:Int)+(s:Int)<(n:Int):=zo;have U:=Kwk b n N cap p q c ho br n A (A+s) n zo zo bQ (Oa2 _) g wr hR bI.out (bj.out.keep hK) (y.out.2.1.2.2.mono zo (Oa2 _)) (bf.out A (A+s) Z.out.1 (Oa2 _) zo (Oa2 _)) (bf.out (A+s) n Z.out.2 zo (Oa2 _) zo);unfold Kte at U;rw[show ((A+s:Nat):Int)=(A:Int)+(s:Int) by omega]at U;go_wp2_with (go_at_call 285;refine U.mono ?_;rintro bA bz ⟨rfl,bB,K,I,H,O⟩)
      go_roundw
      case rel=>
       refine⟨s*2,bB,zn,zo,zo,K,hK.trans I,?_⟩;rw[Nat.mul_comm s 2];exact y.out.2.1.more y.out.1 zo H O (Oa2 _)
      case measure=>simp[intOf];omega
     have bR:¬ (A:Int)+(s:Int)<(n:Int):=zo;go_wp2;go_roundw
     case rel=>
      refine⟨s*2,g,zn,zo,zo,hR,hK,?_⟩;rw[Nat.mul_comm s 2];exact y.out.2.1.more y.out.1 zo (Arr.refl _ _ _) (bf.out A n Z.out.1 (Oa2 _) (Oa2 _) zo) (Oa2 _)
     case measure=>simp[intOf];omega
   have bS:¬ (s:Int)<(n:Int):=zo;go_wp2;go_end0
   exact⟨rfl,g2,hR,hK,y.out.1,y.out.2.1.one zo⟩
theorem Kyg b n N cap p q c(ho:Kse c)f w(H:n<=1000000)(hr:Kr9 w b n f)(I:Ktf N n f)(y:Kt6 w b N p q c)(K:Ksx c 0 n f):
  Cq 207 #[Sq b n cap,Kte p q] w (Kvq b n 0 n c f w):=by
 have hs:=Kw2 b n N cap p q c ho f w H hr I y K;unfold Kte at hs |-;go_enter func207,ntmps207
 go_wp2_with (go_at_call 245;refine hs.mono ?_;rintro O M ⟨rfl,g,h⟩)
 go_end0
 exact⟨rfl,g,h⟩
