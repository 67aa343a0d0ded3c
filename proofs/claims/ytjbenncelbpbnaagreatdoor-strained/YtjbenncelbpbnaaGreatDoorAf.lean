/- '==' and '!=' of faults. -/
import Derived.Test.YtjbenncelbpbnaaGreatDoorTe
import Derived.Deep.CutBlock
set_option maxHeartbeats 4000000
set_option maxRecDepth 100000
namespace Go.Proofs.YtjbenncelbpbnaaGreatDoor
section
open Go.RowKit
theorem Jyf : (Tryz.prog.fieldsOf 51).toList.map (fun f => (f.name, f.type, f.offset)) = [("Code", 49, 0), ("Node", 3, 1), ("Row", 3, 2), ("Column", 3, 3), ("Page", 3, 4)] := by kernel_rfl
theorem Kef:Tryz.prog.underlying 51=some (.struct (Tryz.prog.fieldsOf 51)):=zK
theorem Kh3:Tryz.prog.stoodInHeld 51=false:=zK
theorem Js7 w c:(Op.equal 51 (Jb6 c) (Jb6 c)).run Tryz.prog w=.ok true w:=by
 rw[Op.equal,Op.maxDepth,run_equalIn_struct w 9999 51 _ _ Kef Kh3];have h:=Jyf;generalize (Tryz.prog.fieldsOf 51).toList=y at h;rcases y with _|⟨bz,_|⟨bA,_|⟨bB,_|⟨bC,_|⟨bD,_|⟨bE,y⟩⟩⟩⟩⟩⟩
 ·simp at h
 ·simp at h
 ·simp at h
 ·simp at h
 ·simp at h
 ·simp at h;obtain⟨⟨H,I,K⟩,⟨M,O,U⟩,⟨Y,Z,bf⟩,⟨bh,bi,bj⟩,bk,br,bx⟩:=h;simp[Op.eqFields,H,I,K,M,O,U,Y,Z,bf,bh,bi,bj,bk,br,bx,part,sizeOf,go_sem]
 simp at h
theorem Jjl c w:(binOp .eql 51 (Jb6 c) (Jb6 c)).run Tryz.prog w=.ok (.bool true) w:=by
 simp[binOp,Js7]
theorem Kzo c w:(binOp .neq 51 (Jb6 c) (Jb6 c)).run Tryz.prog w=.ok (.bool false) w:=by
 simp[binOp,Js7]
end
open Go.RowKit Tryz
structure Kr7 (w:World) (b n:Nat) (f:Nat->Nat):Prop where
 lt:b<w.heap.size
 cell:∀ i,i<n->w.cell? ⟨b,i,none⟩=some (.int .i64 (f i:Nat))
 froz:∀ i,i<n->w.frozen? ⟨b,i,none⟩=false
theorem Kr7.below {w w' b n f}(h:Kr7 w b n f)(hb:Below w.heap.size w w'):Kr7 w' b n f:=
 ⟨Oc2 h.lt hb.size,fun i hi=>by rw[(Kx hb).1 b i h.lt];exact h.cell i hi,fun i hi=>by rw[(Kx hb).2 b i h.lt];exact h.froz i hi⟩
theorem Kr7.drew {w b n f}(h:Kr7 w b n f)m:Kr7 (w.drewN m) b n f:=⟨h.lt,h.cell,h.froz⟩
theorem Kr7.congr {w b n f g}(h:Kr7 w b n f)(e:f=g):Kr7 w b n g:=e▸h
theorem zap {p:Prop}(h:p:=by
 by_cases e:k=i
 ·subst e;rw[if_pos rfl];exact World.cell?_setCell_same _ _ _ (h.cell k hi)
 rw[if_neg e,Ob5 _ _ _ _ (by intro h;apply e;injection h with _ h;exact h.symm)];exact h.cell k hk):p:=h
theorem Kr7.set {w}{b n:Nat}{f}(h:Kr7 w b n f){i:Nat}(hi:i<n)(x:Nat):Kr7 (w.setCell ⟨b,i,none⟩ (.int .i64 x)) b n (fun k=>if k=i then x else f k):=by
 refine⟨by simpa using h.lt,fun k hk=>?_,fun k hk=>by rw[On9];exact h.froz k hk⟩;exact zap
theorem Kr7.swap {w b n f}(h:Kr7 w b n f){i j}(hi:i<n)(H:j<n)(I:i≠j):
  Kr7 ((w.setCell ⟨b,i,none⟩ (.int .i64 (f j:Nat))).setCell ⟨b,j,none⟩ (.int .i64 (f i:Nat))) b n (swp f i j):=by
 refine((h.set hi (f j)).set H (f i)).congr ?_;funext k;unfold swp
 by_cases y:k=j
 ·rw[if_pos y,if_neg zo,if_pos y]
 rw[if_neg y,if_neg y]
abbrev Ksy (b:Nat):Nat->Prop:=fun k=>k=b
theorem Ktz {w wr b i j}(h:Ju (Ksy b) w wr)x y:Ju (Ksy b) w ((wr.setCell ⟨b,i,none⟩ x).setCell ⟨b,j,none⟩ y):=(h.set rfl i x).set rfl j y
theorem Kto (b n cap a c k:Nat)(I K O:Int)Y f w(Z:I=a)(bf:K=c)(hk:O=k)(bA:a+k<=c)(bB:c+k<=n)(hn:n<=1000000)(hr:Kr7 w b n f):
  Calls prog 297 #[.slice (some ⟨b,0,none⟩) n cap,.int .i64 I,.int .i64 K,.int .i64 O,Y] w fun e w'=>e=.returned (.tuple #[])/\Kr7 w' b n (Kt1 f a c k)/\Ju (Ksy b) w w':=by
 subst Z bf hk;go_enter func297,ntmps297
 go_wp2;go_loopw [10] (fun i wr=>∃ t:Nat,t<=k/\i=.int .i64 t/\Kr7 wr b n (Kt1 f a c t)/\Ju (Ksy b) w wr) (fun i _=>k-(intOf i).toNat)
 case atStart=>exact⟨0,Ob7 _,rfl,hr.congr (Kzq f a c).symm,Ju.refl _ _⟩
 case round=>
  rename_i i
  obtain⟨t,bE,rfl,hR,hK⟩:=hrel;by_cases bC:t<k
  ·obtain⟨x,H⟩:∃ x,x=a+t:=⟨_,rfl⟩;obtain⟨y,hy⟩:∃ y,y=c+t:=⟨_,rfl⟩;have bj:=hR.cell x zo;have bk:=hR.cell y zo;have bx:=hR.froz x zo;have bz:=hR.froz y zo;have M:=(hR.swap (i:=x) (j:=y) zo zo zo).congr (show _=Kt1 f a c (t+1) by rw[H,hy];exact Kzk zo);have U:Hid _:=M;clear M;have ex:(a:Int)+(t:Int)=(x:Int):=zo;have br:(c:Int)+(t:Int)=(y:Int):=zo;have bG:(x:Int)<(n:Int):=zo;have bH:(y:Int)<(n:Int):=zo;generalize Kt1 f a c t x=bI at *;generalize Kt1 f a c t y=bJ at *;have bh:=zh H;have bi:=zh hy;clear H hy;go_wp2_with fail
   go_big_region
   all_goals go_wp2
   refine⟨⟨t+1,zo,zn,U.out.drew 1,(Ktz hK _ _).drewN 1⟩,by simp[intOf];omega⟩
  obtain rfl:t=k:=zo;have bD:¬ (t:Int)<(t:Int):=zo;go_wp2;go_end0
  exact⟨rfl,hR,hK⟩
theorem Kww (b n cap s m e:Nat)(si bf y:Int)M f w(hs:si=s)(bA:bf=m)(bj:y=e)(bE:s<m)(bG:m<e)(bH:e<=n)(hn:n<=1000000)(hr:Kr7 w b n f):
  Calls prog 292 #[.slice (some ⟨b,0,none⟩) n cap,.int .i64 si,.int .i64 bf,.int .i64 y,M] w fun O w'=>O=.returned (.tuple #[])/\Kr7 w' b n (rot s m e f)/\Ju (Ksy b) w w':=by
 subst hs bA bj;have bi:(m:Int)-(s:Int)=((m-s:Nat):Int):=zo;have bh:(e:Int)-(m:Int)=((e-m:Nat):Int):=zo;go_enter func292,ntmps292
 go_wp2;go_loopw [10,11] (fun iv Y wr=>∃ (p i j:Nat) (g:Nat->Nat),iv=.int .i64 i/\Y=.int .i64 j/\0<i/\0<j/\p+i=m/\s<=p/\m+j<=e/\Kr7 wr b n g/\Ju (Ksy b) w wr/\Hid (rot p m (m+j) g=rot s m e f)) (fun iv Y _=>(intOf iv).toNat+(intOf Y).toNat)
 case atStart=>exact⟨s,m-s,e-m,f,by first|rfl|rw[bi],by first|rfl|rw[bh],zo,zo,zo,Oa2 _,zo,hr,Ju.refl _ _,by show _=_;rw[show m+(e-m)=e by omega]⟩
 case round=>
  rename_i iv Y
  obtain⟨p,i,j,g,rfl,rfl,br,bz,U,bC,bJ,hR,hK,Z⟩:=hrel;have bD:(m:Int)-(i:Int)=(p:Int):=zo;by_cases bx:i=j
  ·subst bx;have K:=Kto b n cap p m i p m i M g wr rfl rfl rfl zo zo hn hR;have bB:((i:Int) != (i:Int))=false:=zS;go_wp2_with (go_at_call 297;refine K.mono ?_;rintro O w' ⟨rfl,I,H⟩)
   go_end0
   refine⟨rfl,I.congr ?_,hK.trans H⟩;rw[<-Z.out,<-U];exact Qao g
  have bB:((i:Int) != (j:Int))=true:=by simp;omega
  by_cases bI:j<i
  ·have K:=Kto b n cap p m j p m j M g wr rfl rfl rfl zo zo hn hR;have bk:(j:Int)<(i:Int):=zo;have y:(i:Int)-(j:Int)=((i-j:Nat):Int):=zo;go_wp2_with (go_at_call 297;refine K.mono ?_;rintro O w' ⟨rfl,I,H⟩)
   go_roundw
   case rel=>
    refine⟨p+j,i-j,j,_,by first|rfl|rw[y],rfl,zo,bz,zo,zo,zo,I,hK.trans H,?_⟩;show _=_;rw[<-Z.out,<-U];exact Qa1 g zo
   case measure=>simp[intOf];omega
  have bk:¬ (j:Int)<(i:Int):=zo;have K:=Kto b n cap p (p+j) i p ((m:Int)+j-i) i M g wr rfl zo rfl zo zo hn hR;have y:(j:Int)-(i:Int)=((j-i:Nat):Int):=zo;go_wp2_with (go_at_call 297;refine K.mono ?_;rintro O w' ⟨rfl,I,H⟩)
  go_roundw
  case rel=>
   refine⟨p,i,j-i,_,rfl,by first|rfl|rw[y],br,zo,U,bC,zo,I,hK.trans H,?_⟩;show _=_;rw[<-Z.out,<-U,show p+i+(j-i)=p+j by omega];exact Kxm g zo
  case measure=>simp[intOf];omega
def Kt5 (w:World)(b N:Nat)(p q:Addr)(c:Nat->Nat->Int):Prop:=∀ W,Ju (Ksy b) w W->∀ x y:Nat,x<N->y<N ->
 Calls prog 203 #[.int .i64 x,.int .i64 y,.pointer (some p),.pointer (some q)] W fun e w'=>e=.returned (.int .i64 (c x y))/\Below W.heap.size W w'
theorem Kt5.keep {w w' b N p q c}(h:Kt5 w b N p q c)(hk:Ju (Ksy b) w w'):Kt5 w' b N p q c:=fun W hW=>h W (hk.trans hW)
def Kta (p q:Addr):Value:=.func (.func 203) #[] #[.pointer (some p),.pointer (some q)]
theorem Ju.drew {F w w'}(h:Ju F w w'):Ju F w w'.drew:=h.drewN 1
def Ktd (N n:Nat)(f:Nat->Nat):Prop:=∀ i,i<n->f i<N
theorem Ktd.arr {N n a e f g}(h:Ktd N n f)(x:Arr a e f g)(y:e<=n):Ktd N n g:=fun i hi=>by
 by_cases k:a<=i/\i<e
 ·obtain⟨t,_,H,ht⟩:=x.at k;rw[ht];exact h t zo
 rw[x.off zo];exact h i hi
theorem Kuj (b n N cap a e:Nat)(bz bA:Int)p q c(ho:Kse c)f w(bR:bz=a)(bS:bA=e)(bW:a<=e)(bC:e<=n)(hn:n<=1000000)(hr:Kr7 w b n f)(bI:Ktd N n f)(bE:Kt5 w b N p q c)(bV:Ksv c a e f):
  Calls prog 278 #[.slice (some ⟨b,0,none⟩) n cap,.int .i64 bz,.int .i64 bA,Kta p q] w fun bj w'=>bj=.returned (.tuple #[])/\∃ g,Kr7 w' b n g/\Ju (Ksy b) w w'/\Arr a e f g/\Srt c a e g:=by
 subst bR bS;have bM:=zh bE;clear bE;unfold Kta;go_enter func278,ntmps278
 go_wp2;go_loopw [8] (fun iv wr=>∃ (k:Nat) (g:Nat->Nat),iv=.int .i64 k/\a<k/\(k<=e\/k=a+1)/\Kr7 wr b n g/\Ju (Ksy b) w wr/\Hid (Arr a e f g/\Srt c a k g/\Ksv c a e g)) (fun iv _=>e+1-(intOf iv).toNat)
 case atStart=>exact⟨a+1,f,zn,zo,.inr rfl,hr,Ju.refl _ _,Arr.refl _ _ _,fun i j x K z=>zo,bV⟩
 case round=>
  rename_i iv
  obtain⟨k,g,rfl,bX,cb,hR,hK,H⟩:=hrel;by_cases cc:k<e
  ·have bU:(k:Int)<(e:Int):=zo;go_wp2;go_loopw [9] (fun bi bL=>∃ (j:Nat) (g2:Nat->Nat),bi=.int .i64 j/\a<=j/\j<=k/\Kr7 bL b n g2/\Ju (Ksy b) w bL/\Hid (Arr a e f g2/\Kw4 c a k j g2/\Ksv c a e g2)) (fun bi _=>(intOf bi).toNat)
   case atStart=>exact⟨k,g,rfl,zo,Oa2 _,hR,hK,H.out.1,Kw4.start H.out.2.1,H.out.2.2⟩
   case round=>
    rename_i bi
    clear hR hK H;obtain⟨j,g2,rfl,bD,bH,hR,hK,H⟩:=hrel;by_cases bY:a<j
    ·obtain⟨y,rfl⟩:∃ y,j=y+1:=⟨j-1,zo⟩;obtain⟨x,bh⟩:∃ x,g2 (y+1)=x:=⟨_,rfl⟩;obtain⟨K,hy⟩:∃ K,g2 y=K:=⟨_,rfl⟩;have bf:=hR.cell (y+1) zo;have cp:=hR.cell y zo;have bJ:x<N:=bh▸(bI.arr H.out.1 bC) (y+1) zo;have bK:K<N:=hy▸(bI.arr H.out.1 bC) y zo;rw[bh]at bf;rw[hy]at cp;have M:=zh bh;have O:=zh hy;clear bh hy;have bT:(a:Int)<(y:Int)+1:=zo;have ca:(y:Int)+1<(n:Int):=zo;have cf:(y:Int)<(n:Int):=zo;have cj:(0:Int)<=(y:Int)+1:=zo;have bP:((y:Int)+1).toNat=y+1:=zo;have ci:IntKind.i64.wrap (y:Int)=(y:Int):=by rw[Od4];omega
     have cn:(0:Int)<=(y:Int):=zo;have br:=bM.out wr.drew hK.drew x K bJ bK;clear bJ bK;by_cases bG:c x K<0
     ·go_wp2_with fail
      go_region_held3 (fun X=>X.cell? ⟨b,y+1,none⟩=some (.int .i64 (x:Nat))/\X.cell? ⟨b,y,none⟩=some (.int .i64 (K:Nat)))
       (first|(exact⟨bf,cp⟩)|(exact⟨U,Z⟩)|(go_split_ands;constructor<;>assumption))
       (first|(go_at_call 203;refine br.mono ?_;rintro bj bO ⟨rfl,Y⟩;have bk:=hK.trans (Ju.of_below (Jw Y));have I:=hR.below (Jw Y);have U:=I.cell (y+1) zo;have Z:=I.cell y zo;have bB:=I.froz (y+1) zo;have bQ:=I.froz y zo;rw[M.out]at U;rw[O.out]at Z))
      go_wp2_with fail
      obtain⟨j1,bx⟩:∃ j1,j1=y+1:=⟨_,rfl⟩;rw[<-bx]at U bB bP;have bN:=zh bx;clear bx bf cp br Y;go_big_region
      all_goals go_wp2
      refine⟨⟨y,swp g2 (y+1) y,zn,zo,zo,?_,(Ktz bk _ _).drewN 1,H.out.1.trans (Arr.swp zo zo),H.out.2.1.step zo zo (by rw[M.out,O.out];exact bG),H.out.2.2.swap ho zo zo (by rw[M.out,O.out];exact bG)⟩,by simp[intOf]⟩;have:=I.swap (i:=y+1) (j:=y) zo zo zo;rw[M.out,O.out]at this;rw[bN.out];exact this.drew 1
     go_wp2_with fail
     go_region_held3 (fun X=>X.cell? ⟨b,y+1,none⟩=some (.int .i64 (x:Nat))/\X.cell? ⟨b,y,none⟩=some (.int .i64 (K:Nat)))
      (first|(exact⟨bf,cp⟩)|(exact⟨U,Z⟩)|(go_split_ands;constructor<;>assumption))
      (first|(go_at_call 203;refine br.mono ?_;rintro bj bO ⟨rfl,Y⟩;have bk:=hK.trans (Ju.of_below (Jw Y));have I:=hR.below (Jw Y);have U:=I.cell (y+1) zo;have Z:=I.cell y zo;have bB:=I.froz (y+1) zo;have bQ:=I.froz y zo;rw[M.out]at U;rw[O.out]at Z))
     go_wp2;go_roundw
     case rel=>exact⟨k+1,g2,zn,zo,zo,I,bk,H.out.1,H.out.2.1.done ho bD bH (.inr (by rw[Nat.add_sub_cancel];exact H.out.2.2.ge ho zo zo zo (by rw[M.out,O.out];omega))),H.out.2.2⟩
     case measure=>simp[intOf];omega
    have bT:¬ (a:Int)<(j:Int):=zo;have bZ:decide ((j:Int)>(a:Int))=false:=decide_eq_false zo;go_wp2_with fail
    go_big_region
    all_goals go_wp2
    go_roundw
    case rel=>exact⟨k+1,g2,zn,zo,zo,hR.drew 1,hK.drew,H.out.1,H.out.2.1.done ho bD bH (.inl zo),H.out.2.2⟩
    case measure=>simp[intOf];omega
  have bU:¬ (k:Int)<(e:Int):=zo;go_wp2;go_end0
  exact⟨rfl,g,hR,hK,H.out.1,H.out.2.1.mono (Oa2 _) zo⟩
def Kvk (b n a e:Nat)(c:Nat->Nat->Int)(f:Nat->Nat)(w:World)(y:Ending)(w':World):Prop:=y=.returned (.tuple #[])/\∃ g,Kr7 w' b n g/\Ju (Ksy b) w w'/\Arr a e f g/\Srt c a e g
theorem Arr.mvUp {a e k f}(h:a<=k/\k<e):Arr a e f (Ku0 a k f):=by
 obtain⟨I,K⟩:=h;induction k with
 |zero=>
      obtain rfl:a=0:=zo;rw[Kun];exact Arr.refl _ _ _
 |succ k H=>
  by_cases y:a=k+1
  ·rw[<-y,Kun];exact Arr.refl _ _ _
  rw[<-Kwi f zo];exact(H zo zo).trans (Arr.swp zo zo)
theorem Kzh (b n N cap a m e:Nat)(bC bI bz:Int)p q c(ho:Kse c)f w(bP:bC=a)(bX:bI=m)(bT:bz=e)(bD:m=a+1)(ci:m<e)(cj:e<=n)(hn:n<=1000000)(hr:Kr7 w b n f)(bH:Ktd N n f)(bE:Kt5 w b N p q c)(bY:Ksv c a e f)(hs:Srt c m e f):
  Calls prog 279 #[.slice (some ⟨b,0,none⟩) n cap,.int .i64 bC,.int .i64 bI,.int .i64 bz,Kta p q] w (Kvk b n a e c f w):=by
 subst bP bX bT;have bJ:=zh bE;have cD:(m:Int)-(a:Int)=1:=zo;have bK:=zh bD;have cf:a<m:=zo;clear bE bD;unfold Kta;go_enter func279,ntmps279
 go_wp2;go_loopw [10,11] (fun iv bk wr=>∃ i j:Nat,iv=.int .i64 i/\bk=.int .i64 j/\m<=i/\i<=j/\j<=e/\Kr7 wr b n f/\Ju (Ksy b) w wr/\Hid ((i=m\/Lt c (f (i-1)) (f a))/\(j=e\/Lt c (f a) (f j)))) (fun iv bk _=>(intOf bk).toNat-(intOf iv).toNat)
 case atStart=>exact⟨m,e,rfl,rfl,Oa2 _,zo,Oa2 _,hr,Ju.refl _ _,.inl rfl,.inl rfl⟩
 case round=>
  rename_i iv bk
  obtain⟨i,j,rfl,rfl,bQ,cy,bU,hR,hK,Y⟩:=hrel;by_cases cC:i<j
  ·have bW:(i:Int)<(j:Int):=zo;obtain⟨h,hh⟩:∃ h,h=(i+j) / 2:=⟨_,rfl⟩;have bZ:((i:Int)+(j:Int)) / 2=(h:Int):=zo;have cx:i<=h/\h<j:=zo;clear hh;have cu:(h:Int)<(n:Int):=zo;have cn:(a:Int)<(n:Int):=zo;obtain⟨x,bj⟩:∃ x,f h=x:=⟨_,rfl⟩;obtain⟨K,hy⟩:∃ K,f a=K:=⟨_,rfl⟩;have bh:=hR.cell h zo;have bi:=hR.cell a zo;have bG:=bJ.out wr.drew hK.drew x K (bj▸bH h zo) (hy▸bH a zo);rw[bj]at bh;rw[hy]at bi;have Z:=zh bj;have bf:=zh hy;clear bj hy;by_cases bS:c x K<0
   ·go_wp2_with fail
    go_region_held3 (fun X=>X.cell? ⟨b,h,none⟩=some (.int .i64 (x:Nat))/\X.cell? ⟨b,a,none⟩=some (.int .i64 (K:Nat)))
       (first|(exact⟨bh,bi⟩)|(exact⟨M,O⟩)|(go_split_ands;constructor<;>assumption))
       (first|(go_at_call 203;refine bG.mono ?_;rintro bN bM ⟨rfl,U⟩;have bA:=hK.trans (Ju.of_below (Jw U));have I:=hR.below (Jw U);have M:=I.cell h zo;have O:=I.cell a zo;rw[Z.out]at M;rw[bf.out]at O))
    go_wp2;go_roundw
    case rel=>exact⟨h+1,j,zn,rfl,zo,zo,bU,I,bA,.inr (by rw[Nat.add_sub_cancel,Z.out,bf.out];exact .inl bS),Y.out.2⟩
    case measure=>simp[intOf];omega
   go_wp2_with fail
   go_region_held3 (fun X=>X.cell? ⟨b,h,none⟩=some (.int .i64 (x:Nat))/\X.cell? ⟨b,a,none⟩=some (.int .i64 (K:Nat)))
      (first|(exact⟨bh,bi⟩)|(exact⟨M,O⟩)|(go_split_ands;constructor<;>assumption))
      (first|(go_at_call 203;refine bG.mono ?_;rintro bN bM ⟨rfl,U⟩;have bA:=hK.trans (Ju.of_below (Jw U));have I:=hR.below (Jw U);have M:=I.cell h zo;have O:=I.cell a zo;rw[Z.out]at M;rw[bf.out]at O))
   go_wp2;go_roundw
   case rel=>exact⟨i,h,rfl,rfl,bQ,zo,zo,I,bA,Y.out.1,.inr (bY.ge ho (Oa2 _) zo zo (by rw[Z.out,bf.out];omega))⟩
   case measure=>simp[intOf];omega
  obtain rfl:i=j:=zo;have bW:¬ (i:Int)<(i:Int):=zo;obtain⟨H,cv⟩:∃ H,i=H+1:=⟨i-1,zo⟩;have bz:(i:Int)-1=(H:Int):=zo;go_wp2;go_loopw [13] (fun br wr=>∃ k:Nat,br=.int .i64 k/\a<=k/\k<=H/\Kr7 wr b n (Ku0 a k f)/\Ju (Ksy b) w wr) (fun br _=>H-(intOf br).toNat)
  case atStart=>exact⟨a,rfl,Oa2 _,zo,hR.congr (Kun a f).symm,hK⟩
  case round=>
   rename_i br
   clear hR hK;obtain⟨k,rfl,bR,cA,hR,hK⟩:=hrel;by_cases hk:k<H
   ·have bV:(k:Int)<(H:Int):=zo;obtain⟨y,bB⟩:∃ y,y=k+1:=⟨_,rfl⟩;have ca:(k:Int)+1=(y:Int):=zo;have bh:=hR.cell k zo;have bi:=hR.cell y zo;have cb:=hR.froz k zo;have cc:=hR.froz y zo;have cB:(k:Int)<(n:Int):=zo;have cz:(y:Int)<(n:Int):=zo;have bL:Hid _:=(hR.swap (i:=k) (j:=y) zo zo zo).congr (show _=Ku0 a y f by rw[bB];exact Kwi f bR);generalize Ku0 a k f k=cE at *;generalize Ku0 a k f y=cF at *;have bx:=zh bB;clear bB;go_wp2_with fail
    go_big_region
    all_goals go_wp2
    exact⟨⟨y,rfl,by have:=bx.out;omega,by have:=bx.out;omega,bL.out.drew 1,(Ktz hK _ _).drewN 1⟩,by have:=bx.out;simp[intOf];omega⟩
   have bV:¬ (k:Int)<(H:Int):=zo;go_wp2;go_end0
   refine⟨rfl,_,hR,hK,Arr.mvUp zo,?_⟩;have bO:k=i-1:=zo;rw[bO];have:=bK.out;subst this;exact Kzm ho hs zo Y.out.1 Y.out.2
theorem Arr.mvDn {a m f k d}(h:a<=k)(H:k+d=m):Arr a (m+1) f (Ku1 m f k):=by
 induction d generalizing k with
 |zero=>
      obtain rfl:k=m:=zo;rw[Kv9];exact Arr.refl _ _ _
 |succ d y=>
  rw[<-Kwd f zo];exact(y (k:=k+1) zo zo).trans (Arr.swp zo zo)
theorem Kym (b n N cap a m e:Nat)(bA bI bB:Int)p q c(ho:Kse c)f w(bO:bA=a)(bU:bI=m)(bQ:bB=e)(bC:e=m+1)(cb:a+1<m)(cc:e<=n)(hn:n<=1000000)(hr:Kr7 w b n f)(bH:Ktd N n f)(bD:Kt5 w b N p q c)(bV:Ksv c a e f)(hs:Srt c a m f):
  Calls prog 279 #[.slice (some ⟨b,0,none⟩) n cap,.int .i64 bA,.int .i64 bI,.int .i64 bB,Kta p q] w (Kvk b n a e c f w):=by
 subst bO bU bQ;have bJ:=zh bD;have cB:((m:Int)-(a:Int)==1)=false:=by simp;omega
 have cC:(e:Int)-(m:Int)=1:=zo;have bK:=zh bC;have ca:m<e:=zo;clear bD bC;unfold Kta;go_enter func279,ntmps279
 go_wp2;go_loopw [14,15] (fun iv bj wr=>∃ i j:Nat,iv=.int .i64 i/\bj=.int .i64 j/\a<=i/\i<=j/\j<=m/\Kr7 wr b n f/\Ju (Ksy b) w wr/\Hid ((i=a\/Lt c (f (i-1)) (f m))/\(j=m\/Lt c (f m) (f j)))) (fun iv bj _=>(intOf bj).toNat-(intOf iv).toNat)
 case atStart=>exact⟨a,m,rfl,rfl,Oa2 _,zo,Oa2 _,hr,Ju.refl _ _,.inl rfl,.inl rfl⟩
 case round=>
  rename_i iv bj
  obtain⟨i,j,rfl,rfl,bP,cv,bR,hR,hK,U⟩:=hrel;by_cases cA:i<j
  ·have bT:(i:Int)<(j:Int):=zo;obtain⟨h,hh⟩:∃ h,h=(i+j) / 2:=⟨_,rfl⟩;have bW:((i:Int)+(j:Int)) / 2=(h:Int):=zo;have cu:i<=h/\h<j:=zo;clear hh;have cn:(h:Int)<(n:Int):=zo;have ci:(m:Int)<(n:Int):=zo;obtain⟨x,bi⟩:∃ x,f m=x:=⟨_,rfl⟩;obtain⟨I,hy⟩:∃ I,f h=I:=⟨_,rfl⟩;have bf:=hR.cell m zo;have bh:=hR.cell h zo;have bG:=bJ.out wr.drew hK.drew x I (bi▸bH m zo) (hy▸bH h zo);rw[bi]at bf;rw[hy]at bh;have Y:=zh bi;have Z:=zh hy;clear bi hy;by_cases bE:c x I<0
   ·go_wp2_with fail
    go_region_held3 (fun X=>X.cell? ⟨b,m,none⟩=some (.int .i64 (x:Nat))/\X.cell? ⟨b,h,none⟩=some (.int .i64 (I:Nat)))
       (first|(exact⟨bf,bh⟩)|(exact⟨K,M⟩)|(go_split_ands;constructor<;>assumption))
       (first|(go_at_call 203;refine bG.mono ?_;rintro bN bM ⟨rfl,O⟩;have bx:=hK.trans (Ju.of_below (Jw O));have H:=hR.below (Jw O);have K:=H.cell m zo;have M:=H.cell h zo;rw[Y.out]at K;rw[Z.out]at M))
    go_wp2;go_roundw
    case rel=>exact⟨i,h,rfl,rfl,bP,zo,zo,H,bx,U.out.1,.inr (by rw[Y.out,Z.out];exact .inl bE)⟩
    case measure=>simp[intOf];omega
   have cj:decide (c x I<0)=false:=decide_eq_false bE;go_wp2_with fail
   go_region_held3 (fun X=>X.cell? ⟨b,m,none⟩=some (.int .i64 (x:Nat))/\X.cell? ⟨b,h,none⟩=some (.int .i64 (I:Nat)))
      (first|(exact⟨bf,bh⟩)|(exact⟨K,M⟩)|(go_split_ands;constructor<;>assumption))
      (first|(go_at_call 203;refine bG.mono ?_;rintro bN bM ⟨rfl,O⟩;have bx:=hK.trans (Ju.of_below (Jw O));have H:=hR.below (Jw O);have K:=H.cell m zo;have M:=H.cell h zo;rw[Y.out]at K;rw[Z.out]at M))
   go_wp2;go_roundw
   case rel=>exact⟨h+1,j,zn,rfl,zo,zo,bR,H,bx,.inr (by rw[Nat.add_sub_cancel];exact bV.ge ho zo zo zo (by rw[Y.out,Z.out];omega)),U.out.2⟩
   case measure=>simp[intOf];omega
  obtain rfl:i=j:=zo;have bT:¬ (i:Int)<(i:Int):=zo;go_wp2;go_loopw [17] (fun bk wr=>∃ k:Nat,bk=.int .i64 k/\i<=k/\k<=m/\Kr7 wr b n (Ku1 m f k)/\Ju (Ksy b) w wr) (fun bk _=>(intOf bk).toNat)
  case atStart=>exact⟨m,rfl,zo,Oa2 _,hR.congr (Kv9 m f).symm,hK⟩
  case round=>
   rename_i bk
   clear hR hK;obtain⟨k,rfl,cf,cy,hR,hK⟩:=hrel;by_cases hk:i<k
   ·have bS:(i:Int)<(k:Int):=zo;obtain⟨y,bz⟩:∃ y,k=y+1:=⟨k-1,zo⟩;have bX:(k:Int)-1=(y:Int):=zo;have bf:=hR.cell k zo;have bh:=hR.cell y zo;have bY:=hR.froz k zo;have bZ:=hR.froz y zo;have cz:(k:Int)<(n:Int):=zo;have cx:(y:Int)<(n:Int):=zo;have bL:Hid _:=(hR.swap (i:=k) (j:=y) zo zo zo).congr (show _=Ku1 m f y by rw[bz];exact Kwd f zo);generalize Ku1 m f k k=cD at *;generalize Ku1 m f k y=cE at *;have br:=zh bz;clear bz;go_wp2_with fail
    go_big_region
    all_goals go_wp2
    exact⟨⟨y,rfl,by have:=br.out;omega,by have:=br.out;omega,bL.out.drew 1,(Ktz hK _ _).drewN 1⟩,by have:=br.out;simp[intOf];omega⟩
   have bS:¬ (i:Int)<(k:Int):=zo;go_wp2;go_end0
   obtain rfl:k=i:=zo;have:=bK.out;subst this;exact⟨rfl,_,hR,hK,Arr.mvDn (d:=m-k) zo zo,Kyc ho hs zo U.out.1 U.out.2⟩
def Qai (b n N cap:Nat)(p q:Addr)(c:Nat->Nat->Int)(a m e:Nat):Prop:=∀ (f:Nat->Nat) (w:World),Kr7 w b n f->Ktd N n f->Kt5 w b N p q c->Ksv c a e f->Srt c a m f->Srt c m e f ->
 Calls prog 279 #[.slice (some ⟨b,0,none⟩) n cap,.int .i64 (a:Nat),.int .i64 (m:Nat),.int .i64 (e:Nat),Kta p q] w (Kvk b n a e c f w)
theorem Kyy b n N cap a m e p q c(ho:Kse c)(bY:a+1<m)(da:m+1<e)(cy:e<=n)(hn:n<=1000000)(hI:∀ bV ci bf,bV<ci->ci<bf->bf<=n->bf-bV<e-a->Qai b n N cap p q c bV ci bf):Qai b n N cap p q c a m e:=by
 intro f w hr cJ cB cK cH bk;have bR:=zh cB;have cj:=zh hI;have bU:=zh cJ;have bK:Hid (Ksv c a e f/\Srt c a m f/\Srt c m e f):=⟨cK,cH,bk⟩;have dh:((m:Int)-(a:Int)==1)=false:=by simp;omega
 have di:((e:Int)-(m:Int)==1)=false:=by simp;omega
 obtain⟨d,cD⟩:∃ d,d=(a+e) / 2:=⟨_,rfl⟩;have cV:((a:Int)+(e:Int)) / 2=(d:Int):=zo;have dd:2*d<=a+e/\a+e<=2*d+1:=zo;have bS:=zh cD;obtain⟨y,cE⟩:∃ y,y=d+m:=⟨_,rfl⟩;have cX:(d:Int)+(m:Int)=(y:Int):=zo;obtain⟨bH,cF⟩:∃ bH,y=bH+1:=⟨y-1,zo⟩;have cY:(y:Int)-1=(bH:Int):=zo;have O:Hid (y=d+m/\y=bH+1):=⟨cE,cF⟩;have dj:y<=2000000:=zo;clear cB hI cJ cK cH bk cD cE cF;unfold Kta;go_enter func279,ntmps279
 go_upto_if 140 with fail
 go_cut [20,21] from 138 to 146 (fun sv rv wx=>∃ Z Y:Nat,sv=.int .i64 Z/\rv=.int .i64 Y/\((d<m/\Z+e=y/\Y=d)\/(m<=d/\Z=a/\Y=m))/\wx=w)
 case first=>
  by_cases cP:d<m
  ·have cQ:(d:Int)<(m:Int):=zo;have es:(y:Int)-(e:Int)=((y-e:Nat):Int):=by have:=O.out;omega
   go_wp2;go_meet
   case rel=>exact⟨y-e,d,by first|rfl|rw[es],rfl,.inl ⟨cP,by have:=O.out;omega,rfl⟩,rfl⟩
  have cQ:¬ (d:Int)<(m:Int):=zo;go_wp2;go_meet
  case rel=>exact⟨a,m,rfl,rfl,.inr ⟨zo,rfl,rfl⟩,rfl⟩
 case rest=>
  obtain⟨Z,Y,rfl,rfl,cf,cM⟩:=hcut;subst wc;have dc:a<=Z/\Z<=Y/\Y<=m/\Y<=d/\y<=Z+e:=by have:=O.out;omega
  have cu:=zh cf;clear cf;go_wp2;go_loopw [20,21] (fun sv rv wr=>∃ s r:Nat,sv=.int .i64 s/\rv=.int .i64 r/\Z<=s/\s<=r/\r<=Y/\Kr7 wr b n f/\Ju (Ksy b) w wr/\Hid ((s=Z\/Lt c (f (s-1)) (f (y-s)))/\(r=Y\/Lt c (f (y-1-r)) (f r)))) (fun sv rv _=>(intOf rv).toNat-(intOf sv).toNat)
  case atStart=>exact⟨Z,Y,rfl,rfl,Oa2 _,zo,Oa2 _,hr,Ju.refl _ _,.inl rfl,.inl rfl⟩
  case round=>
   rename_i sv rv
   obtain⟨s,r,rfl,rfl,cS,cf,cR,hR,hK,bJ⟩:=hrel;by_cases dg:s<r
   ·have cO:(s:Int)<(r:Int):=zo;obtain⟨h,hh⟩:∃ h,h=(s+r) / 2:=⟨_,rfl⟩;have cW:((s:Int)+(r:Int)) / 2=(h:Int):=zo;have df:s<=h/\h<r:=zo;obtain⟨u,cL⟩:∃ u,u+1+h=y:=⟨y-1-h,by have:=O.out;omega⟩;have cZ:(bH:Int)-(h:Int)=(u:Int):=by have:=O.out;omega
    have dm:m<=u/\u<e:=by have:=O.out;omega
    have dq:IntKind.i64.wrap (u:Int)=(u:Int):=by rw[Od4];omega
    have cx:=zh cL;clear hh cL;have de:(h:Int)<(n:Int):=zo;have dp:(u:Int)<(n:Int):=zo;obtain⟨x,bP⟩:∃ x,f u=x:=⟨_,rfl⟩;obtain⟨I,hy⟩:∃ I,f h=I:=⟨_,rfl⟩;have bW:=hR.cell u zo;have bX:=hR.cell h zo;have cC:=bR.out wr.drew hK.drew x I (bP▸bU.out u zo) (hy▸bU.out h zo);rw[bP]at bW;rw[hy]at bX;have bL:=zh bP;have bM:=zh hy;clear bP hy;by_cases cb:c x I<0
    ·have bB:decide (c x I<0)=true:=decide_eq_true cb;go_wp2_with fail
     go_region_held3 (fun X=>X.cell? ⟨b,u,none⟩=some (.int .i64 (x:Nat))/\X.cell? ⟨b,h,none⟩=some (.int .i64 (I:Nat)))
       (first|(exact⟨bW,bX⟩)|(exact⟨bx,bz⟩)|(go_split_ands;constructor<;>assumption))
       (first|(go_at_call 203;refine cC.mono ?_;rintro bf bN ⟨rfl,bA⟩;have K:=hK.trans (Ju.of_below (Jw bA));have H:=hR.below (Jw bA);have bx:=H.cell u zo;have bz:=H.cell h zo;rw[bL.out]at bx;rw[bM.out]at bz))
     go_wp2;go_roundw
     case rel=>exact⟨s,h,rfl,rfl,cS,zo,zo,H,K,bJ.out.1,.inr (by rw[show y-1-h=u by have:=cx.out;omega,bL.out,bM.out];exact .inl cb)⟩
     case measure=>simp[intOf];omega
    have bB:decide (c x I<0)=false:=decide_eq_false cb;go_wp2_with fail
    go_region_held3 (fun X=>X.cell? ⟨b,u,none⟩=some (.int .i64 (x:Nat))/\X.cell? ⟨b,h,none⟩=some (.int .i64 (I:Nat)))
      (first|(exact⟨bW,bX⟩)|(exact⟨bx,bz⟩)|(go_split_ands;constructor<;>assumption))
      (first|(go_at_call 203;refine cC.mono ?_;rintro bf bN ⟨rfl,bA⟩;have K:=hK.trans (Ju.of_below (Jw bA));have H:=hR.below (Jw bA);have bx:=H.cell u zo;have bz:=H.cell h zo;rw[bL.out]at bx;rw[bM.out]at bz))
    go_wp2;go_roundw
    case rel=>exact⟨h+1,r,zn,rfl,zo,zo,cR,H,K,.inr (by rw[Nat.add_sub_cancel,show y-(h+1)=u by have:=cx.out;omega];exact bK.out.1.ge ho zo zo zo (by rw[bL.out,bM.out];omega)),bJ.out.2⟩
    case measure=>simp[intOf];omega
   obtain rfl:s=r:=zo;have cO:¬ (s:Int)<(s:Int):=zo;obtain⟨t,ht⟩:∃ t,s+t=y:=⟨y-s,by have:=O.out;omega⟩;have et:(y:Int)-(s:Int)=(t:Int):=zo;have cv:Hid (t=(a+e) / 2+m-s):=by show _=_;have:=O.out;rw[<-bS.out];omega
   have hcut:Cut c a m e s f:=by
    have db:=O.out;have cz:=cv.out;have cN:(a+e) / 2=d:=bS.out.symm;refine⟨zo,zo,zo,zo,?_,?_⟩
    ·rw[<-cz];rcases bJ.out.1 with x|x
     ·rcases cu.out with I|I
      ·right;left;omega
      left;omega
     right;right;rw[show t=y-s by omega];exact x
    rw[<-cz,cN];rcases bJ.out.2 with x|x
    ·rcases cu.out with I|I
     ·right;left;omega
     left;omega
    right;right;rw[show t-1=y-1-s by omega];exact x
   have bB:=hcut.cut ho bK.out.2.1 bK.out.2.2 bK.out.1;rw[<-cv.out,<-bS.out]at bB;have cA:Arr a e f (rot s m t f):=(Arr.rot zo (by have:=O.out;omega)).mono zo zo;have U:Hid (Kwv c a e s d t (rot s m t f)/\Arr a e f (rot s m t f)):=⟨bB,cA⟩;have dl:m<=t/\t<=e/\d<=t/\s<=d/\s<=m/\a<=s:=by have:=O.out;omega
   have cI:(s<d↔m<t)/\(s<m↔d<t):=by have:=O.out;omega
   have cU:=zh cI;clear hcut bB cA ht cI;go_upto_region 39 with fail
   go_cut [185] from 178 to 185 (fun v wx=>v=.bool (decide (s<m/\m<t))/\wx=wr)
   case first=>
    by_cases bi:s<m
    ·have bE:(s:Int)<(m:Int):=zo;by_cases bj:m<t
     ·have bG:(m:Int)<(t:Int):=zo;go_wp2;go_meet
      case rel=>exact⟨by rw[decide_eq_true ⟨bi,bj⟩],rfl⟩
     have bG:¬ (m:Int)<(t:Int):=zo;go_wp2;go_meet
     case rel=>exact⟨by rw[decide_eq_false fun x=>bj x.2],rfl⟩
    have bE:¬ (s:Int)<(m:Int):=zo;go_wp2;go_meet
    case rel=>exact⟨by rw[decide_eq_false fun x=>bi x.1],rfl⟩
   case rest=>
   obtain⟨rfl,cM⟩:=hcut;subst wc;go_upto_if 185 with fail
   go_cut [24] from 178 to 191 (fun tv wx=>tv=.int .i64 t/\Kr7 wx b n (rot s m t f)/\Ju (Ksy b) w wx)
   case first=>
    by_cases M:s<m/\m<t
    ·have cc:decide (s<m/\m<t)=true:=decide_eq_true M;have cG:=Kww b n cap s m t s m t (Kta p q) f wr rfl rfl rfl M.1 M.2 zo hn hR;unfold Kta at cG;go_wp2_with (go_at_call 292;refine cG.mono ?_;rintro bf bN ⟨rfl,H,K⟩)
     go_meet
     case rel=>exact⟨rfl,H,hK.trans K⟩
    have cc:decide (s<m/\m<t)=false:=decide_eq_false M;have bT:=zh M;clear M;go_wp2;go_meet
    case rel=>exact⟨rfl,hR.congr (by
     have:=bT.out;by_cases x:s=m
     ·rw[x];exact(Kz0 f zo).symm
     rw[show t=m by omega];exact(Kxp f).symm),hK⟩
   case rest=>
    obtain⟨rfl,H,K⟩:=hcut;have cn:Hid (Ktd N n (rot s m t f)):=bU.out.arr U.out.2 cy;generalize rot s m t f=g at *;obtain⟨bQ,cT⟩:∃ bQ,bQ=wc:=⟨_,rfl⟩;subst cT;go_upto_region 41 with fail
    go_cut [199] from 192 to 199 (fun v wx=>v=.bool (decide (a<s/\s<d))/\wx=bQ)
    case first=>
     by_cases bi:a<s
     ·have bE:(a:Int)<(s:Int):=zo;by_cases bj:s<d
      ·have bG:(s:Int)<(d:Int):=zo;go_wp2;go_meet
       case rel=>exact⟨by rw[decide_eq_true ⟨bi,bj⟩],rfl⟩
      have bG:¬ (s:Int)<(d:Int):=zo;go_wp2;go_meet
      case rel=>exact⟨by rw[decide_eq_false fun x=>bj x.2],rfl⟩
     have bE:¬ (a:Int)<(s:Int):=zo;go_wp2;go_meet
     case rel=>exact⟨by rw[decide_eq_false fun x=>bi x.1],rfl⟩
    case rest=>
    obtain⟨rfl,cM⟩:=hcut;subst wc;go_upto_if 199 with fail
    go_cut [24] from 192 to 205 (fun tv wx=>tv=.int .i64 t/\∃ g1,Kr7 wx b n g1/\Ju (Ksy b) w wx/\Hid (Arr a d g g1/\Srt c a d g1))
    case first=>
     by_cases M:a<s/\s<d
     ·have cc:decide (a<s/\s<d)=true:=decide_eq_true M;have bD:=cj.out a s d M.1 M.2 zo zo g bQ H cn.out (bR.out.keep K) U.out.1.st1 U.out.1.s1 U.out.1.s2;unfold Kta at bD;go_wp2_with (go_at_call 279;refine bD.mono ?_;rintro bf bN ⟨rfl,g1,ca,bZ,bO,bk⟩)
      go_meet
      case rel=>exact⟨rfl,g1,ca,K.trans bZ,bO,bk⟩
     have cc:decide (a<s/\s<d)=false:=decide_eq_false M;have bT:=zh M;clear M;go_wp2;go_meet
     case rel=>exact⟨rfl,g,H,K,Arr.refl _ _ _,U.out.1.s1.join U.out.1.s2 (by have:=bT.out;omega)⟩
    case rest=>
     clear hR hK H K;obtain⟨rfl,g1,H,K,br⟩:=hcut;have fin:∀ g2,Arr d e g1 g2->Srt c d e g2->Arr a e f g2/\Srt c a e g2:=fun g2 x I=>
      ⟨(U.out.2.trans (br.out.1.mono (Oa2 _) zo)).trans (x.mono zo (Oa2 _)),U.out.1.whole br.out.1 x br.out.2 I⟩
     have bI:=zh fin;have bC:∀ k,d<=k->g1 k=g k:=fun k hk=>br.out.1.off (.inr hk);have bh:Hid (Srt c d t g1/\Srt c t e g1/\Ksv c d e g1/\Ktd N n g1):=⟨U.out.1.s3.congr fun k bY _=>bC k bY,U.out.1.s4.congr fun k bY _=>bC k zo,(fun i j x I z=>by rw[bC i x,bC j zo];exact U.out.1.st2 i j x I z),cn.out.arr br.out.1 zo⟩;clear fin bC;by_cases bi:d<t
     ·have bE:(d:Int)<(t:Int):=zo;by_cases bj:t<e
      ·have bG:(t:Int)<(e:Int):=zo;have bD:=cj.out d t e bi bj cy zo g1 wc H bh.out.2.2.2 (bR.out.keep K) bh.out.2.2.1 bh.out.1 bh.out.2.1;unfold Kta at bD;go_wp2_with (go_at_call 279;refine bD.mono ?_;rintro bf bN ⟨rfl,g2,ca,bZ,bO,bk⟩)
       go_end0
       exact⟨rfl,g2,ca,K.trans bZ,(bI.out g2 bO bk).1,(bI.out g2 bO bk).2⟩
      have bG:¬ (t:Int)<(e:Int):=zo;go_wp2;go_end0
      have:=bI.out g1 (Arr.refl _ _ _) (bh.out.1.join bh.out.2.1 (.inr zo));exact⟨rfl,g1,H,K,this.1,this.2⟩
     have bE:¬ (d:Int)<(t:Int):=zo;go_wp2;go_end0
     have:=bI.out g1 (Arr.refl _ _ _) (bh.out.1.join bh.out.2.1 (.inl zo));exact⟨rfl,g1,H,K,this.1,this.2⟩
theorem Kwl b n N cap p q c(ho:Kse c)(hn:n<=1000000):∀ (k a m e:Nat),e-a<=k->a<m->m<e->e<=n->Qai b n N cap p q c a m e:=by
 intro k;induction k with
 |zero=>intro a m e bf bh M y;omega
 |succ k bk=>
  intro a m e bf bh M y;by_cases Y:m=a+1
  ·exact fun f w hr I H K _ bj=>Kzh b n N cap a m e a m e p q c ho f w rfl rfl rfl Y M y hn hr I H K bj
  by_cases Z:e=m+1
  ·exact fun f w hr I H K bi _=>Kym b n N cap a m e a m e p q c ho f w rfl rfl rfl Z zo y hn hr I H K bi
  exact Kyy b n N cap a m e p q c ho zo zo y hn fun O br U x1 x2 bx bz=>bk O br U zo x1 x2 bx
theorem Ksv.arr {c A B lo hi g H}(h:Ksv c A B g)(y:Arr lo hi g H)(hs:Srt c lo hi H)(Z:A<=lo)(bf:hi<=B):Ksv c A B H:=by
 intro i j I K M;by_cases O:lo<=i/\i<hi
 ·by_cases j1:lo<=j/\j<hi
  ·exact hs.stab i j O.1 K j1.2
  obtain⟨t,U,Y,ht⟩:=y.at O;rw[ht,y.off (k:=j) zo];exact h t j zo zo M
 by_cases j1:lo<=j/\j<hi
 ·obtain⟨t,U,Y,ht⟩:=y.at j1;rw[ht,y.off (k:=i) zo];exact h i t I zo zo
 rw[y.off (k:=i) zo,y.off (k:=j) zo];exact h i j I K M
def Ku5 (c:Nat->Nat->Int)(n s A:Nat)(f g:Nat->Nat):Prop:=Arr 0 n f g/\Blk c s 0 A g/\Ksv c 0 n g
theorem Ku5.more {c n s A e f g y}(h:Ku5 c n s A f g)(M:∃ k,A=k*s)(hs:0<s)(H:Arr A e g y)(K:Srt c A e y)(I:e<=n):Ku5 c n s e f y:=by
 obtain⟨k,rfl⟩:=M;exact⟨h.1.trans (H.mono (Ob7 _) I),h.2.1.more H K hs,h.2.2.arr H K (Ob7 _) I⟩
theorem Kw3 b n N cap p q c(ho:Kse c)f w(hn:n<=1000000)(hr:Kr7 w b n f)(bL:Ktd N n f)(bK:Kt5 w b N p q c)(bR:Ksv c 0 n f):
  Calls prog 238 #[.slice (some ⟨b,0,none⟩) n cap,.int .i64 (n:Nat),Kta p q] w (Kvk b n 0 n c f w):=by
 have bi:=zh bK;have bk:=zh bL;clear bK bL;unfold Kta;go_enter func238,ntmps238
 go_wp2;go_loopw [7,8] (fun bf bv wr=>∃ (A B:Nat) (g:Nat->Nat),bf=.int .i64 A/\bv=.int .i64 B/\A<=n/\B<=n+20/\Kr7 wr b n g/\Ju (Ksy b) w wr/\Hid (B=A+20/\(∃ k,A=k*20)/\Ku5 c n 20 A f g)) (fun _ bv _=>n+1-(intOf bv).toNat)
 case atStart=>exact⟨0,20,f,rfl,rfl,zo,zo,hr,Ju.refl _ _,rfl,⟨0,rfl⟩,Arr.refl _ _ _,(fun i j _ _ h=>absurd h zo),bR⟩
 case round=>
  rename_i bf bv
  obtain⟨A,B,g,rfl,rfl,bH,bS,hR,hK,y⟩:=hrel;by_cases bj:B<=n
  ·have bM:(B:Int)<=(n:Int):=zo;have U:=Kuj b n N cap A B A B p q c ho g wr rfl rfl (by have:=y.out.1;omega) bj hn hR (bk.out.arr y.out.2.2.1 (Oa2 _)) (bi.out.keep hK) (y.out.2.2.2.2.mono zo bj);unfold Kta at U;go_wp2_with (go_at_call 278;refine U.mono ?_;rintro bx br ⟨rfl,g1,K,I,H,M⟩)
   go_roundw
   case rel=>
    refine⟨B,B+20,g1,rfl,zn,bj,zo,K,hK.trans I,rfl,?_,y.out.2.2.more y.out.2.1 zo H M bj⟩;obtain⟨k,hk⟩:=y.out.2.1;exact⟨k+1,by have:=y.out.1;omega⟩
   case measure=>have:=y.out.1;simp[intOf];omega
  have bM:¬ (B:Int)<=(n:Int):=zo;have U:=Kuj b n N cap A n A n p q c ho g wr rfl rfl bH (Oa2 _) hn hR (bk.out.arr y.out.2.2.1 (Oa2 _)) (bi.out.keep hK) (y.out.2.2.2.2.mono zo (Oa2 _));unfold Kta at U;go_wp2_with (go_at_call 278;refine U.mono ?_;rintro bx br ⟨rfl,g1,K,I,H,M⟩)
  have bE:Hid (Ku5 c n 20 n f g1):=y.out.2.2.more y.out.2.1 zo H M (Oa2 _);have bJ:=hK.trans I;clear U hR hK y H M I;go_loopw [6] (fun sv wr=>∃ (s:Nat) (g:Nat->Nat),sv=.int .i64 s/\20<=s/\s<=2000000/\Kr7 wr b n g/\Ju (Ksy b) w wr/\Hid (Ku5 c n s n f g)) (fun sv _=>n-(intOf sv).toNat)
  case atStart=>exact⟨20,g1,rfl,Oa2 _,zo,K,bJ,bE.out⟩
  case round=>
   rename_i sv
   clear K bJ bE;obtain⟨s,g2,rfl,bW,bV,hR,hK,y⟩:=hrel;by_cases bX:s<n
   ·have bQ:(s:Int)<(n:Int):=zo;go_wp2;go_loopw [7,8] (fun bf bv wr=>∃ (A B:Nat) (g:Nat->Nat),bf=.int .i64 A/\bv=.int .i64 B/\A<=n/\B<=A+2*s/\A+2*s<=B/\Kr7 wr b n g/\Ju (Ksy b) w wr/\Hid ((∃ k,A=k*(2*s))/\Ku5 c n (2*s) A f g/\Blk c s A n g)) (fun _ bv _=>n+1-(intOf bv).toNat)
    case atStart=>exact⟨0,2*s,g2,rfl,zn,zo,zo,zo,hR,hK,⟨0,zS⟩,⟨y.out.1,fun i j _ _ h=>absurd h zo,y.out.2.2⟩,y.out.2.1⟩
    case round=>
     rename_i bf bv
     clear hR hK y;obtain⟨A,B,g,rfl,rfl,bH,bT,bU,hR,hK,y⟩:=hrel;have bD:∃ k,A=k*s:=by
      obtain⟨k,hk⟩:=y.out.1;exact⟨2*k,by rw[hk,Nat.mul_comm 2 k,Nat.mul_assoc]⟩
     have bI:∃ k,A+s=k*s:=by
      obtain⟨k,hk⟩:=bD;exact⟨k+1,by rw[Nat.add_mul,Nat.one_mul,hk]⟩
     have srt:∀ x e,(∃ k,x=k*s)->A<=x->e<=n->e<=x+s->Srt c x e g:=fun x e ⟨k,hk⟩ bA bB bC=>by
      subst hk;exact(y.out.2.2.sub bA (Oa2 _)).srt bB bC zo
     have Y:Hid ((∃ k,A=k*s)/\(∃ k,A+s=k*s)):=⟨bD,bI⟩;have Z:=zh srt;have bG:Hid (Ktd N n g):=bk.out.arr y.out.2.1.1 (Oa2 _);clear bD bI srt;by_cases bh:B<=n
     ·have bN:(B:Int)<=(n:Int):=zo;have O:=Kwl b n N cap p q c ho hn n A (A+s) B zo zo zo bh g wr hR bG.out (bi.out.keep hK) (y.out.2.1.2.2.mono zo bh) (Z.out A (A+s) Y.out.1 (Oa2 _) zo (Oa2 _)) (Z.out (A+s) B Y.out.2 zo bh zo);unfold Kta at O;rw[show ((A+s:Nat):Int)=(A:Int)+(s:Int) by omega]at O;go_wp2_with (go_at_call 279;refine O.mono ?_;rintro bx br ⟨rfl,bz,K,I,H,M⟩)
      go_roundw
      case rel=>
       refine⟨B,B+2*s,bz,rfl,zn,bh,zo,zo,K,hK.trans I,?_,y.out.2.1.more y.out.1 zo H M bh,fun i j bA bB bC=>?_⟩
       ·obtain⟨k,hk⟩:=y.out.1;exact⟨k+1,by rw[Nat.add_mul,Nat.one_mul,<-hk];omega⟩
       rw[H.off (k:=i) (.inr bA),H.off (k:=j) (.inr zo)];exact y.out.2.2 i j zo bB bC
      case measure=>simp[intOf];omega
     have bN:¬ (B:Int)<=(n:Int):=zo;by_cases bO:A+s<n
     ·have bP:(A:Int)+(s:Int)<(n:Int):=zo;have O:=Kwl b n N cap p q c ho hn n A (A+s) n zo zo bO (Oa2 _) g wr hR bG.out (bi.out.keep hK) (y.out.2.1.2.2.mono zo (Oa2 _)) (Z.out A (A+s) Y.out.1 (Oa2 _) zo (Oa2 _)) (Z.out (A+s) n Y.out.2 zo (Oa2 _) zo);unfold Kta at O;rw[show ((A+s:Nat):Int)=(A:Int)+(s:Int) by omega]at O;go_wp2_with (go_at_call 279;refine O.mono ?_;rintro bx br ⟨rfl,bz,K,I,H,M⟩)
      go_roundw
      case rel=>
       refine⟨s*2,bz,zn,zo,zo,K,hK.trans I,?_⟩;rw[Nat.mul_comm s 2];exact y.out.2.1.more y.out.1 zo H M (Oa2 _)
      case measure=>simp[intOf];omega
     have bP:¬ (A:Int)+(s:Int)<(n:Int):=zo;go_wp2;go_roundw
     case rel=>
      refine⟨s*2,g,zn,zo,zo,hR,hK,?_⟩;rw[Nat.mul_comm s 2];exact y.out.2.1.more y.out.1 zo (Arr.refl _ _ _) (Z.out A n Y.out.1 (Oa2 _) (Oa2 _) zo) (Oa2 _)
     case measure=>simp[intOf];omega
   have bQ:¬ (s:Int)<(n:Int):=zo;go_wp2;go_end0
   exact⟨rfl,g2,hR,hK,y.out.1,y.out.2.1.one zo⟩
theorem Kys b n N cap p q c(ho:Kse c)f w(hn:n<=1000000)(hr:Kr7 w b n f)(H:Ktd N n f)(y:Kt5 w b N p q c)(I:Ksv c 0 n f):
  Calls prog 202 #[.slice (some ⟨b,0,none⟩) n cap,Kta p q] w (Kvk b n 0 n c f w):=by
 have hs:=Kw3 b n N cap p q c ho f w hn hr H y I;unfold Kta at hs |-;go_enter func202,ntmps202
 go_wp2_with (go_at_call 238;refine hs.mono ?_;rintro M K ⟨rfl,g,h⟩)
 go_end0
 exact⟨rfl,g,h⟩
