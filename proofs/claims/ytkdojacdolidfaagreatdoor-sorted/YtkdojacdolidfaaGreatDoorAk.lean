/- The law's own words for an expression: what it is worth on a row. -/
import Derived.Test.YtkdojacdolidfaaGreatDoorXr
import Derived.Test.YtkdojacdolidfaaGreatDoorXp
import Derived.Test.YtkdojacdolidfaaGreatDoorGf
set_option maxHeartbeats 2000000
set_option maxRecDepth 100000
namespace Go.Proofs.YtkdojacdolidfaaGreatDoor
section
open Go.RowKit Go.Shelf
attribute [local go_sem] Oc0
attribute [local go_sem] Jdy
theorem Jyb {sch T:List Int}{x d}{p:Pt}{es:List Pt}(K:T=es.map (tyP sch))(H:es[d.length]?=some p)(hp:Jeg sch T d.length p)(I:Jee sch x)(y:Jho T d)(h0:(Qp p x d).2=0):Jho T (d++[(Qp p x d).1]):=by
 have hl:d.length<es.length:=(Ob9.1 H).1;have ht:T.getD d.length 0=tyP sch p:=by
  rw[K,Oa0,Ob1,H];rfl
 refine⟨fun k M=>?_,fun v hv=>?_⟩
 ·rw[Oa8,List.length_singleton]at M;by_cases e:k<d.length
  ·rw[show (d++[(Qp p x d).1]).getD k Jf=d.getD k Jf by rw[Oa0,Oa0,Ob0 e]];exact y.1 k e
  obtain rfl:k=d.length:=zo;rw[ht,show (d++[(Qp p x d).1]).getD d.length Jf=(Qp p x d).1 by rw[Oa0,Ob6 (Oa2 _)];simp];exact Kfb hp I y h0
 have hr:Yy [p] x d=.inl (d++[(Qp p x d).1]):=by simp only[Yy];rw[if_pos h0]
 refine Jo0 (W:=sch.length) I.2.2 [p] d _ (fun j q hq=>?_) y.2 hr v hv;match j,hq with
 |0,hq=>cases hq;exact hp.ok
theorem Jmx {es:List Pt}{x}{j:Nat}{p:Pt}{d}(y:es[j]?=some p)(hr:Yy (es.take j) x []=.inl d):Yy (es.take (j+1)) x []=if (Qp p x d).2=0 then .inl (d++[(Qp p x d).1])else .inr (Qp p x d).2:=by
 obtain⟨H,hp⟩:=Ob9.1 y;rw[Oc4 H,hp];exact Jsv p hr
attribute [local go_sem] Oc0
end
section
open Go.RowKit
structure Ksm {α:Type} (P:α->Prop) (c:α->α->Int):Prop where
 neg:∀ x y,P x->P y->c y x=- c x y
 trans:∀ x y z,P x->P y->P z->c x y<=0->c y z<=0->c x z<=0
theorem Ksm.lex {α}{P:α->Prop}{c d:α->α->Int}(h:Ksm P c)(k:Ksm P d):Ksm P fun x y=>if c x y≠0 then c x y else d x y:=by
 refine⟨fun x y H hy=>?_,fun x y z H hy I=>?_⟩
 ·have O:=h.neg x y H hy;have U:=k.neg x y H hy;show (if c y x≠0 then c y x else d y x)=- (if c x y≠0 then c x y else d x y);by_cases e:c x y=0
  ·rw[if_neg zo,if_neg zo];exact U
  rw[if_pos zo,if_pos e];exact O
 have Z:=h.neg x y H hy;have bf:=h.neg y z hy I;have n3:=h.neg x z H I;have bh:=h.trans x y z H hy I;have bi:=h.trans z x y I H hy;have bj:=h.trans y z x hy I H;have bk:=h.trans z y x I hy H;have Y:=k.trans x y z H hy I;show (if c x y≠0 then c x y else d x y)<=0->(if c y z≠0 then c y z else d y z)<=0->(if c x z≠0 then c x z else d x z)<=0;by_cases M:c x y=0
 ·rw[if_neg zo];by_cases K:c y z=0
  ·rw[if_neg zo,if_neg zo];exact Y
  rw[if_pos K];intro a b;rw[if_pos zo];omega
 rw[if_pos M];by_cases K:c y z=0
 ·rw[if_neg zo];intro a b;rw[if_pos zo];omega
 rw[if_pos K];intro a b;rw[if_pos zo];omega
theorem Ksm.down {α}{P:α->Prop}{c:α->α->Int}(h:Ksm P c):Ksm P fun x y=>c y x:=
 ⟨fun x y H hy=>h.neg y x hy H,fun x y z H hy I a b=>h.trans z y x I hy H b a⟩
theorem Ksm.congr {α}{P:α->Prop}{c d:α->α->Int}(h:Ksm P c)(e:∀ x y,P x->P y->d x y=c x y):Ksm P d:=
 ⟨fun x y H hy=>by rw[e x y H hy,e y x hy H];exact h.neg x y H hy,fun x y z H hy I=>by rw[e x y H hy,e y z hy I,e x z H I];exact h.trans x y z H hy I⟩
theorem Ksm.pull {α β}{P:α->Prop}{c:α->α->Int}(h:Ksm P c)(f:β->α):Ksm (fun x=>P (f x)) fun x y=>c (f x) (f y):=
 ⟨fun x y=>h.neg (f x) (f y),fun x y z=>h.trans (f x) (f y) (f z)⟩
theorem Ksm.ordn {c P}(h:Ksm P c)(hp:∀ x,P x):Ksg c:=⟨fun x y=>h.neg x y (hp x) (hp y),fun x y z=>h.trans x y z (hp x) (hp y) (hp z)⟩
theorem Ksm.mono {α}{P Q:α->Prop}{c:α->α->Int}(h:Ksm P c)(hq:∀ x,Q x->P x):Ksm Q c:=⟨fun x y a b=>h.neg x y (hq x a) (hq y b),fun x y z a b d=>h.trans x y z (hq x a) (hq y b) (hq z d)⟩
theorem Kx3:∀ x H:List UInt8,Lib.compareBytes H x=- Lib.compareBytes x H
 |[],[]=>rfl
 |_::_,[]=>rfl
 |[],_::_=>rfl
 |a::x,b::H=>by
  simp only[Lib.compareBytes,UInt8.lt_iff_toNat_lt];have I:=Kx3 x H;by_cases h:a.toNat<b.toNat
  ·have y:¬ b.toNat<a.toNat:=zo;simp[h,y]
  by_cases y:b.toNat<a.toNat
  ·simp[h,y]
  simp[h,y,I]
theorem Kvj:∀ x H z:List UInt8,Lib.compareBytes x H<=0->Lib.compareBytes H z<=0->Lib.compareBytes x z<=0
 |[],_,[]=>fun _ _=>by simp[Lib.compareBytes]
 |[],_,_::_=>fun _ _=>by simp[Lib.compareBytes]
 |_::_,[],_=>fun h _=>by simp[Lib.compareBytes]at h
 |_::_,_::_,[]=>fun _ h=>by simp[Lib.compareBytes]at h
 |a::x,b::H,c::z=>by
  simp only[Lib.compareBytes,UInt8.lt_iff_toNat_lt];have O:=Kvj x H z;by_cases K:a.toNat<b.toNat
  ·rw[if_pos K];by_cases I:b.toNat<c.toNat
   ·intro _ _;rw[if_pos zo];omega
   rw[if_neg I];by_cases y:c.toNat<b.toNat
   ·rw[if_pos y];intro _ h;omega
   intro _ _;rw[if_pos zo];omega
  rw[if_neg K];by_cases M:b.toNat<a.toNat
  ·rw[if_pos M];intro h;omega
  rw[if_neg M];by_cases I:b.toNat<c.toNat
  ·intro _ _;rw[if_pos zo];omega
  rw[if_neg I];by_cases y:c.toNat<b.toNat
  ·rw[if_pos y];intro _ h;omega
  rw[if_neg y,if_neg zo,if_neg zo];exact O
theorem Kvy:Ksm (fun _:V=>True) Jxt:=by
 refine⟨fun x y _ _=>?_,fun x y z _ _ _=>?_⟩
 ·unfold Jxt;have:=Kx3 x.s.data.toList y.s.data.toList;by_cases h:x.n<y.n
  ·rw[if_neg zo,if_pos h,if_pos h];rfl
  by_cases H:y.n<x.n
  ·rw[if_pos H,if_neg h,if_pos H]
  rw[if_neg H,if_neg h,if_neg h,if_neg H];exact this
 unfold Jxt;have:=Kvj x.s.data.toList y.s.data.toList z.s.data.toList;by_cases M:x.n<y.n
 ·rw[if_pos M];by_cases K:y.n<z.n
  ·intro _ _;rw[if_pos zo];omega
  rw[if_neg K];by_cases I:z.n<y.n
  ·rw[if_pos I];intro _ h;omega
  intro _ _;rw[if_pos zo];omega
 rw[if_neg M];by_cases H:y.n<x.n
 ·rw[if_pos H];intro h;omega
 rw[if_neg H];by_cases K:y.n<z.n
 ·intro _ _;rw[if_pos zo];omega
 rw[if_neg K];by_cases I:z.n<y.n
 ·rw[if_pos I];intro _ h;omega
 rw[if_neg I,if_neg zo,if_neg zo];exact this
def Kud (a b:V)(d:Bool):Int:=if a.beq b=true then 0 else if a.k=0 then -1 else if b.k=0 then 1 else if d=true then Jxt b a else Jxt a b
def OkT (t:Int)(v:V):Prop:=v=⟨0,0,⟨#[]⟩⟩\/(v.k=t/\t≠0)
def Kzp (a b:V):Int:=(if a.k=0 then 0 else 1)-(if b.k=0 then 0 else 1)
theorem Qbk:Ksm (fun _:V=>True) Kzp:=⟨fun x y _ _=>by unfold Kzp;omega,fun x y z _ _ _ a b=>by unfold Kzp at *;omega⟩
theorem Kwd a:Jxt a a=0:=by have:=Kvy.neg a a trivial trivial;omega
theorem Qbg t d:Ksm (OkT t) fun a b=>Kud a b d:=by
 have h:Ksm (OkT t) fun a b=>if Kzp a b≠0 then Kzp a b else (if d=true then Jxt b a else Jxt a b):=by
  refine(Qbk.lex ?_).mono fun _ _=>trivial;cases d
  ·exact Kvy.congr fun x H _ _=>by simp
  exact Kvy.down.congr fun x H _ _=>by simp
 refine h.congr fun x H K hy=>?_;unfold Kud Kzp;by_cases e:x=H
 ·subst e;rw[if_pos ((V.beq_iff x x).2 rfl),if_neg zo];split<;>exact(Kwd x).symm
 rw[if_neg (fun hh=>e ((V.beq_iff x H).1 hh))];by_cases I:x.k=0
 ·rw[if_pos I];by_cases y:H.k=0
  ·exfalso;rcases K with K|K
   ·rcases hy with hy|hy
    ·exact e (K.trans hy.symm)
    omega
   omega
  rw[if_neg y,if_pos I,if_pos zo];rfl
 rw[if_neg I,if_neg I];by_cases y:H.k=0
 ·rw[if_pos y,if_pos y,if_pos zo];rfl
 rw[if_neg y,if_neg y];simp
def Ks5:List Krv->(Nat->V)->(Nat->V)->Int
 |[],_,_=>0
 |k::ks,r,s=>if Kud (r k.c) (s k.c) k.d≠0 then Kud (r k.c) (s k.c) k.d else Ks5 ks r s
theorem Kx6 (ts:Nat->Int):∀ ks:List Krv,Ksm (fun r:Nat->V=>∀ k∈ks,OkT (ts k.c) (r k.c)) (Ks5 ks)
 |[]=>⟨fun _ _ _ _=>rfl,fun _ _ _ _ _ _ _ _=>Int.le_refl 0⟩
 |k::ks=>by
  have H:=((Qbg (ts k.c) k.d).pull fun r:Nat->V=>r k.c).mono (Q:=fun r:Nat->V=>∀ y∈k::ks,OkT (ts y.c) (r y.c)) fun r h=>h k zS;exact H.lex ((Kx6 ts ks).mono fun r h y I=>h y (Og1 _ I))
def Kry (cs:List (List V))(i:Nat):Nat->V:=fun j=>(cs.getD j []).getD i ⟨0,0,⟨#[]⟩⟩
theorem Kxm (ts:Nat->Int)ks cs(h:∀ k∈ks,∀ v∈cs.getD k.c [],OkT (ts k.c) v):Ksg fun i j=>Ks5 ks (Kry cs i) (Kry cs j):=
 ((
  Kx6 ts ks).pull (Kry cs)).ordn fun i k y=>by
  unfold Kry;rw[Oa0];cases e:(cs.getD k.c [])[i]? with
  |none=>exact .inl rfl
  |some v=>exact h k y v (Of6 e)
end
open Go.RowKit Go.Shelf Tryz
theorem zap {p:Prop}(h:p:=by
 unfold V.val at *;go_enter func240,ntmps240
 go_wp2;go_ret
 exact⟨rfl,Jc (Jc (Oa5 _ _) _) _⟩):p:=h
theorem zaD {p:Prop}(h:p:=by
 go_wp2_with (go_at_call 237;refine(M _).mono ?_;rintro e X ⟨rfl,K⟩)
 go_ret
 exact⟨rfl,Qx (Qx K)⟩):p:=h
theorem Kwa a b d w:Calls prog 240 #[a.val,b.val,.bool d] w fun e w'=>e=.returned (.int .i64 (Kud a b d))/\Below w.heap.size w w':=by
 unfold Kud;by_cases H:a=b
 ·have Y:=Jhz a b H;rw[if_pos ((V.beq_iff a b).2 H)];clear H;exact zap
 have Y:=Jh8 a b H;rw[if_neg (fun hh=>H ((V.beq_iff a b).1 hh))];clear H;by_cases y:a.k=0
 ·rw[if_pos y];have O:(a.k==0)=true:=by simp[y]
  have Z:=zh y;clear y;exact zap
 rw[if_neg y];have O:(a.k==0)=false:=by simp[y]
 clear y;by_cases I:b.k=0
 ·rw[if_pos I];have U:(b.k==0)=true:=by simp[I]
  clear I;exact zap
 rw[if_neg I];have U:(b.k==0)=false:=by simp[I]
 clear I;cases d
 ·have M:=fun X=>Kl5 a b X;unfold V.val at *;go_enter func240,ntmps240
  exact zaD
 have M:=fun X=>Kl5 b a X;unfold V.val at *;go_enter func240,ntmps240
 exact zaD
theorem Kxo {cs i j c}(y:cs.getD j []=c)(hi:i<c.length):Kry cs i j=c[i]:=by
 unfold Kry;rw[y,Oa0,Oa3 hi];rfl
theorem Kuf sb kb ko kc ks bj cp hs cs i bk bZ bT H y w(bD:w.cell? ⟨sb,1,none⟩=some (.slice (some ⟨kb,ko,none⟩) ks.length kc))(hK:Klj w kb ko ks)(cu:ks.length<=1000000)(hC:Qd w bj hs cs)(bO:Qd w bk bT H)(bM:∀ k∈ks,k.c<cs.length/\i<(cs.getD k.c []).length)(bN:∀ k∈ks,k.c<H.length/\y<(H.getD k.c []).length):
  Calls prog 205 #[.pointer (some ⟨sb,0,none⟩),.slice (some ⟨bj,0,none⟩) cs.length cp,.int .i64 (i:Nat),.slice (some ⟨bk,0,none⟩) H.length bZ,.int .i64 (y:Nat)] w
   fun e w'=>e=.returned (.int .i64 (Ks5 ks (Kry cs i) (Kry H y)))/\Below w.heap.size w w':=by
 have bX:Hid (∀ k∈ks,(k.c<cs.length/\i<(cs.getD k.c []).length)/\k.c<H.length/\y<(H.getD k.c []).length):=fun k bD=>⟨bM k bD,bN k bD⟩;clear bM bN;go_enter func205,ntmps205
 go_wp2;go_loopw [19] (fun iv wr=>∃ t:Nat,iv=.int .i64 t/\t<=ks.length/\Below w.heap.size w wr/\Hid (Ks5 ks (Kry cs i) (Kry H y)=Ks5 (ks.drop t) (Kry cs i) (Kry H y))) (fun iv _=>ks.length-(intOf iv).toNat)
 case atStart=>exact⟨0,rfl,zo,Oa5 _ _,rfl⟩
 case round=>
  rename_i iv
  obtain⟨t,rfl,ht,Z,bi⟩:=hrel;by_cases bE:t<ks.length
  ·have ca:(t:Int)<(ks.length:Int):=zo;obtain⟨ky,bh⟩:∃ ky,ks[t]?=some ky:=⟨_,Oa3 bE⟩;obtain⟨⟨bU,r2⟩,bV,bW⟩:=bX.out ky (Of6 bh);obtain⟨cc,q1,q2,cf⟩:=hK.below Z t ky bh;have bS:ks.drop t=ky::ks.drop (t+1):=by rw[Oi1 bE];rw[Oa3 bE]at bh;simp at bh;rw[bh]
   have a0:=(hC.below Z).row.cell bU;have b0:=(bO.below Z).row.cell bV;obtain⟨M,O,bP,cz,a1,a2,bf⟩:=((hC.below Z).vals _ bU).at r2;obtain⟨I,K,bQ,cy,b1,b2,b3⟩:=((bO.below Z).vals _ bV).at bW;rw[bP]at a0;rw[bQ]at b0;have bK:(cs.getD ky.c [])[i]=Kry cs i ky.c:=(Kxo rfl r2).symm;have bL:(H.getD ky.c [])[y]=Kry H y ky.c:=(Kxo rfl bW).symm;rw[bK]at a1 a2 bf;rw[bL]at b1 b2 b3;have bx:Hid (Ks5 ks (Kry cs i) (Kry H y)=if Kud (Kry cs i ky.c) (Kry H y ky.c) ky.d≠0 then Kud (Kry cs i ky.c) (Kry H y ky.c) ky.d else Ks5 (ks.drop (t+1)) (Kry cs i) (Kry H y)):=by show _=_;rw[bi.out,bS];rfl
   generalize Kry cs i ky.c=v at *;generalize Kry H y ky.c=u at *;have bH:Hid (∀ X,Calls prog 240 #[v.val,u.val,.bool ky.d] X fun e w'=>e=.returned (.int .i64 (Kud v u ky.d))/\Below X.heap.size X w'):=fun X=>Kwa v u ky.d X;have ci:=zh bi;clear bi bS bP bQ bK bL bh;generalize (cs.getD ky.c []).length=bz at *;generalize (H.getD ky.c []).length=bA at *;generalize Kud v u ky.d=o at *;have cv:(i:Int)<(bz:Int):=zo;have cx:(y:Int)<(bA:Int):=zo;have cj:(ky.c:Int)<(cs.length:Int):=zo;have cn:(ky.c:Int)<(H.length:Int):=zo;go_wp2_with fail
   have bG:(wr.alloc (.cells #[.int .i64 (ky.c:Nat),.int .i64 ky.o,.bool ky.d,.int .i64 (ky.f:Nat)] 44)).cell? ⟨wr.heap.size,0,none⟩=some (.int .i64 (ky.c:Nat)):=zS;have z2:(wr.alloc (.cells #[.int .i64 (ky.c:Nat),.int .i64 ky.o,.bool ky.d,.int .i64 (ky.f:Nat)] 44)).cell? ⟨wr.heap.size,2,none⟩=some (.bool ky.d):=zS;have Y:=Jc (Oa5 wr.heap.size wr) (.cells #[.int .i64 (ky.c:Nat),.int .i64 ky.o,.bool ky.d,.int .i64 (ky.f:Nat)] 44);have bR:=Jb Z Y;replace a0:=Ja Y a0;replace b0:=Ja Y b0;replace a1:=Ja Y a1;replace a2:=Ja Y a2;replace bf:=Ja Y bf;replace b1:=Ja Y b1;replace b2:=Ja Y b2;replace b3:=Ja Y b3;clear cc q1 q2 cf Y Z;generalize wr.alloc (.cells #[.int .i64 (ky.c:Nat),.int .i64 ky.o,.bool ky.d,.int .i64 (ky.f:Nat)] 44)=bJ at *;generalize (Yo hs ky.c).2=c1 at *;generalize (Yo bT ky.c).2=c2 at *;generalize wr.heap.size=g at *;have bI:Hid (∀ X,Below bJ.heap.size bJ X->_):=fun X U=>(show (fun X=>X.cell? ⟨g,0,none⟩=some (.int .i64 (ky.c:Nat))/\X.cell? ⟨g,2,none⟩=some (.bool ky.d)/\X.cell? ⟨bj,ky.c,none⟩=some (.slice (some ⟨M,O,none⟩) bz c1)/\X.cell? ⟨bk,ky.c,none⟩=some (.slice (some ⟨I,K,none⟩) bA c2)/\X.cell? ⟨M,O+i*3,none⟩=some (.int .i64 v.k)/\X.cell? ⟨M,O+i*3+1,none⟩=some (.int .i64 v.n)/\X.cell? ⟨M,O+i*3+2,none⟩=some (.string v.s)/\X.cell? ⟨I,K+y*3,none⟩=some (.int .i64 u.k)/\X.cell? ⟨I,K+y*3+1,none⟩=some (.int .i64 u.n)/\X.cell? ⟨I,K+y*3+2,none⟩=some (.string u.s)) X from ⟨Ja U bG,Ja U z2,Ja U a0,Ja U b0,Ja U a1,Ja U a2,Ja U bf,Ja U b1,Ja U b2,Ja U b3⟩);by_cases ho:o=0
   ·have cb:(o != 0)=false:=(by simp[ho]);have bB:Hid (Ks5 ks (Kry cs i) (Kry H y)=Ks5 (ks.drop (t+1)) (Kry cs i) (Kry H y)):=by show _=_;rw[bx.out,if_neg (fun h=>h ho)]
    clear ho bx;go_region_held3 (fun X=>X.cell? ⟨g,0,none⟩=some (.int .i64 (ky.c:Nat))/\X.cell? ⟨g,2,none⟩=some (.bool ky.d)/\X.cell? ⟨bj,ky.c,none⟩=some (.slice (some ⟨M,O,none⟩) bz c1)/\X.cell? ⟨bk,ky.c,none⟩=some (.slice (some ⟨I,K,none⟩) bA c2)/\X.cell? ⟨M,O+i*3,none⟩=some (.int .i64 v.k)/\X.cell? ⟨M,O+i*3+1,none⟩=some (.int .i64 v.n)/\X.cell? ⟨M,O+i*3+2,none⟩=some (.string v.s)/\X.cell? ⟨I,K+y*3,none⟩=some (.int .i64 u.k)/\X.cell? ⟨I,K+y*3+1,none⟩=some (.int .i64 u.n)/\X.cell? ⟨I,K+y*3+2,none⟩=some (.string u.s))
     (first|(exact⟨bG,z2,a0,b0,a1,a2,bf,b1,b2,b3⟩)|(exact bC)|(go_split_ands;refine⟨?_,?_,?_,?_,?_,?_,?_,?_,?_,?_⟩<;>assumption))
     (first|(go_at_call 240;refine(bH.out _).mono ?_;rintro e X ⟨rfl,br⟩;have bC:=bI.out X (Jw br)))
    go_wp2;go_roundw
    case rel=>exact⟨t+1,zn,zo,Jb bR (Jw br),bB.out⟩
    case measure=>simp[intOf];omega
   have cb:(o != 0)=true:=(by simp[ho]);have bB:Hid (Ks5 ks (Kry cs i) (Kry H y)=o):=by show _=_;rw[bx.out,if_pos ho]
   clear ho bx;go_region_held3 (fun X=>X.cell? ⟨g,0,none⟩=some (.int .i64 (ky.c:Nat))/\X.cell? ⟨g,2,none⟩=some (.bool ky.d)/\X.cell? ⟨bj,ky.c,none⟩=some (.slice (some ⟨M,O,none⟩) bz c1)/\X.cell? ⟨bk,ky.c,none⟩=some (.slice (some ⟨I,K,none⟩) bA c2)/\X.cell? ⟨M,O+i*3,none⟩=some (.int .i64 v.k)/\X.cell? ⟨M,O+i*3+1,none⟩=some (.int .i64 v.n)/\X.cell? ⟨M,O+i*3+2,none⟩=some (.string v.s)/\X.cell? ⟨I,K+y*3,none⟩=some (.int .i64 u.k)/\X.cell? ⟨I,K+y*3+1,none⟩=some (.int .i64 u.n)/\X.cell? ⟨I,K+y*3+2,none⟩=some (.string u.s))
    (first|(exact⟨bG,z2,a0,b0,a1,a2,bf,b1,b2,b3⟩)|(exact bC)|(go_split_ands;refine⟨?_,?_,?_,?_,?_,?_,?_,?_,?_,?_⟩<;>assumption))
    (first|(go_at_call 240;refine(bH.out _).mono ?_;rintro e X ⟨rfl,br⟩;have bC:=bI.out X (Jw br)))
   go_wp2;go_ret
   exact⟨Yp bB.out.symm,Jb bR (Jw br)⟩
  have ca:¬ (t:Int)<(ks.length:Int):=zo;have bY:Hid (Ks5 ks (Kry cs i) (Kry H y)=0):=by show _=_;rw[bi.out,List.drop_eq_nil_of_le zo];rfl
  clear bi;go_wp2;go_ret
  exact⟨Yp bY.out.symm,Z⟩
structure Kxj (w:World) (sb kb ko kc:Nat) (ks:List Krv):Prop where
 cell:w.cell? ⟨sb,1,none⟩=some (.slice (some ⟨kb,ko,none⟩) ks.length kc)
 keys:Klj w kb ko ks
theorem Kxj.below {w w' sb kb ko kc ks}(h:Kxj w sb kb ko kc ks)(hb:Below w.heap.size w w'):Kxj w' sb kb ko kc ks:=⟨Ja hb h.cell,h.keys.below hb⟩
structure Qa9 (ks:List Krv) (cs:List (List V)) (n:Nat):Prop where
 len:∀ j,j<cs.length->(cs.getD j []).length=n
 in_:∀ k∈ks,k.c<cs.length
 few:cs.length<=1000
 some_:1<=cs.length
 many:n<=100000
 keys:ks.length<=1000000
theorem Qa9.at {ks cs n i}(h:Qa9 ks cs n)(hi:i<n):∀ k∈ks,k.c<cs.length/\i<(cs.getD k.c []).length:=fun k y=>⟨h.in_ k y,by rw[h.len _ (h.in_ k y)];exact hi⟩
theorem Qbb w0 w b M O sb kb ko kc ks H cp hs cs n(hb:w0.heap.size<=b)(K:Below w0.heap.size w0 w)(hp:w0.cell? ⟨M,0,none⟩=some (.pointer (some ⟨sb,0,none⟩)))(hq:w0.cell? ⟨O,0,none⟩=some (.slice (some ⟨H,0,none⟩) cs.length cp))(hK:Kxj w0 sb kb ko kc ks)(hC:Qd w0 H hs cs)(I:Qa9 ks cs n):
  Kue w b n ⟨M,0,none⟩ ⟨O,0,none⟩ fun i j=>Ks5 ks (Kry cs i) (Kry cs j):=by
 intro W U x bi bh hy;have y:Below w0.heap.size w0 W:=K.trans (U.below (fun k I bf=>by simp only[Ks4]at bf;omega) K.size);have Z:=Kuf sb kb ko kc ks H cp hs cs x H cp hs cs bi W (hK.below y).cell (hK.below y).keys I.keys (hC.below y) (hC.below y) (I.at bh) (I.at hy);have bj:=Ja y hp;have q1:=Ja y hq;go_enter func204,ntmps204
 go_wp2_with (go_at_call 205;refine Z.mono ?_;rintro e X ⟨rfl,Y⟩)
 go_ret
 exact⟨rfl,Y⟩
def Ktu (n:Nat)(g:Nat->Nat):List Int:=(List.range n).map fun i=>(g i:Int)
theorem Kwl n g:(Ktu n g).length=n:=by simp[Ktu]
theorem Kr9.ints {w b n g}(h:Kr9 w b n g):Kc w (some ⟨b,0,none⟩) (Ktu n g):=by
 refine .inr ⟨b,0,rfl,h.lt,fun j v y=>?_⟩;have H:j<n:=by
  have:=(Ob9.1 y).1;simpa [Ktu] using this
 simp[Ktu,List.getElem?_range H]at y;subst y;have:=h.cell j H;rw[Od0];exact this
structure Qco (ks:List Krv) (cs:List (List V)) (n:Nat) (g:Nat->Nat):Prop where
 arr:Arr 0 n (fun x=>x) g
 srt:Srt (fun i j=>Ks5 ks (Kry cs i) (Kry cs j)) 0 n g
def Qah (w w':World)(hs:List (Option Addr×Nat))(k:Nat):Prop:=∀ j,j<k->∀ b o,(Yo hs j).1=some ⟨b,o,none⟩->w.heap.size<=b/\b<w'.heap.size
theorem Kv9 sb kb ko kc ks H cp hs cs n w(hK:Kxj w sb kb ko kc ks)(hC:Qd w H hs cs)(I:Qa9 ks cs n)(ho:Ksg fun i j=>Ks5 ks (Kry cs i) (Kry cs j)):
  Calls prog 155 #[.pointer (some ⟨sb,0,none⟩),.slice (some ⟨H,0,none⟩) cs.length cp] w fun e w'=>Below w.heap.size w w'/\∃ br g M,e=.returned (.slice (some ⟨br,0,none⟩) cs.length cs.length)/\w.heap.size<=br/\Qco ks cs n g/\Qd w' br M (cs.map (Yq (Ktu n g)))/\Qah w w' M cs.length:=by
 have cj:∀ W,(Instr.makeSlice 22 (.int .i64 (n:Int)) (.int .i64 (n:Int))).run prog W=.ok (.slice (some ⟨W.heap.size,0,none⟩) n n) (W.alloc (.cells (madeCells #[.int .i64 0] n) 3)):=
  fun W=>run_make_row' 22 3 (.int .i64 0) 8 zK Zw rfl .i64 .i64 n (by have:=I.many;omega) (by have:=I.many;omega) W
 have h0:=hC.row.cell (i:=0) I.some_;rw[I.len 0 I.some_]at h0;have cb:=I.some_;have bN:∀ X,Below w.heap.size w X->Calls prog 56 #[.slice (some ⟨H,0,none⟩) cs.length cp] X fun e w'=>e=.returned (.int .i64 (n:Int))/\w'=X:=fun X bJ=>Jlg H cs.length cp _ n _ X cb (Ja bJ h0);have bS:=zh bN;have ca:=I.many;clear bN h0;go_enter func155,ntmps155
 go_wp2_with (go_at_call 56;refine(bS.out _ (Jc (Jc (Oa5 _ _) _) _)).mono ?_;rintro e X ⟨rfl,bJ⟩;subst X)
 have bh:Below w.heap.size w (((w.alloc (.cells #[.pointer (some ⟨sb,0,none⟩)] 302)).alloc (.cells #[.slice (some ⟨H,0,none⟩) cs.length cp] 78))):=Jc (Jc (Oa5 _ _) _) _;have bC:(((w.alloc (.cells #[.pointer (some ⟨sb,0,none⟩)] 302)).alloc (.cells #[.slice (some ⟨H,0,none⟩) cs.length cp] 78))).cell? ⟨w.heap.size,0,none⟩=some (.pointer (some ⟨sb,0,none⟩)):=zS;have bk:(((w.alloc (.cells #[.pointer (some ⟨sb,0,none⟩)] 302)).alloc (.cells #[.slice (some ⟨H,0,none⟩) cs.length cp] 78))).cell? ⟨w.heap.size+1,0,none⟩=some (.slice (some ⟨H,0,none⟩) cs.length cp):=zS;have bB:(((w.alloc (.cells #[.pointer (some ⟨sb,0,none⟩)] 302)).alloc (.cells #[.slice (some ⟨H,0,none⟩) cs.length cp] 78))).heap.size=w.heap.size+1+1:=zS;generalize (w.alloc (.cells #[.pointer (some ⟨sb,0,none⟩)] 302)).alloc (.cells #[.slice (some ⟨H,0,none⟩) cs.length cp] 78)=O at *;obtain⟨b,hb⟩:∃ b,b=w.heap.size+1+1:=⟨_,rfl⟩;rw[<-hb]at bB |-;have cc:=zh hb;have bf:=zh bB;obtain⟨Z,bP⟩:∃ Z,Z=w.heap.size+1:=⟨_,rfl⟩;rw[<-bP]at bk |-;obtain⟨bj,bO⟩:∃ bj,bj=w.heap.size:=⟨_,rfl⟩;rw[<-bO]at bC |-;clear hb bB bO bP;go_loopw [12] (fun iv wr=>∃ t:Nat,iv=.int .i64 t/\t<=n/\Kr9 wr b n (fun k=>if k<t then k else 0)/\Below O.heap.size O wr) (fun iv _=>n-(intOf iv).toNat)
 case atStart=>
  refine⟨0,rfl,Ob7 _,?_,(Oa5 _ _).alloc (Oa2 _) _⟩;have K:=Ol3 O (.int .i64 0) n 3;rw[bf.out]at K;exact⟨K.lt,fun i hi=>by rw[K.cell hi];simp,fun i hi=>K.frozen i⟩
 case round=>
  rename_i iv
  obtain⟨t,rfl,ht,hR,Y⟩:=hrel;by_cases bA:t<n
  ·have bZ:(t:Int)<(n:Int):=zo;have ct:=hR.cell t bA;have ci:=hR.froz t bA;have bR:=(hR.set bA t).congr (g:=fun k=>if k<t+1 then k else 0) (by
    funext k
    by_cases e:k=t
    ·rw[if_pos e,if_pos zo];omega
    rw[if_neg e];by_cases bD:k<t
    ·rw[if_pos bD,if_pos zo]
    rw[if_neg bD,if_neg zo])
   have bU:Hid _:=bR;clear bR;go_wp2;go_roundw
   case rel=>exact⟨t+1,zn,zo,bU.out,Y.setCell (by have:=bf.out;simp;omega) _⟩
   case measure=>simp[intOf];omega
  have bZ:¬ (t:Int)<(n:Int):=zo;obtain rfl:t=n:=zo;have bH:Kr9 wr b t (fun k=>k):=⟨hR.lt,fun i hi=>by have:=hR.cell i hi;simpa [hi] using this,hR.froz⟩;have bL:=Qbb O wr b bj Z sb kb ko kc ks H cp hs cs t (by have:=bf.out;omega) Y bC bk (hK.below bh) (hC.below bh) I;have bQ:=Kyp b t t t ⟨bj,0,none⟩ ⟨Z,0,none⟩ _ ho (fun k=>k) wr zo bH (fun i hi=>hi) bL (fun i j _ h _ _=>h);unfold Kti at bQ;have bT:Hid (∀ y g,Kr9 y b t g->Ju (Ks4 b) wr y->Qco ks cs t g->Below w.heap.size w y/\y.cell? ⟨Z,0,none⟩=some (.slice (some ⟨H,0,none⟩) cs.length cp)/\Calls prog 109 #[.slice (some ⟨H,0,none⟩) cs.length cp,.slice (some ⟨b,0,none⟩) t t] y fun e w'=>Below y.heap.size y w'/\e=.returned (.slice (some ⟨y.heap.size,0,none⟩) cs.length cs.length)/\∃ M,Qd w' y.heap.size M (cs.map (Yq (Ktu t g)))/\Qah y w' M cs.length):=by
   intro y g bz bx bW;have bK:Below O.heap.size O y:=Y.trans (bx.below (fun k I bY=>by simp only[Ks4]at bY;have:=bf.out;omega) Y.size);have U:=Jb bh bK;have bi:=Jzq H cp hs cs t (some ⟨b,0,none⟩) t (Ktu t g) y (hC.below U) I.len bz.ints (fun m K=>by
    simp only[Ktu,Of0,Oj4]at K;obtain⟨i,hi,rfl⟩:=K;obtain⟨x,_,cn,e⟩:=bW.arr.at (k:=i) ⟨Ob7 _,hi⟩;right;omega) I.few (by rw[Kwl];exact ca)
   rw[Kwl]at bi;exact⟨U,Ja bK bk,bi⟩
  clear bL hR bH Y bk bC bh;go_wp2_with (first|(go_at_call 203;refine bQ.mono ?_;rintro e y ⟨rfl,g,bz,bx,bE,bI⟩;obtain⟨U,q1,bi⟩:=bT.out y g bz bx ⟨bE,bI⟩)|(go_at_call 109;refine bi.mono ?_;rintro e cf ⟨bX,rfl,M,bV,bG⟩))
  go_ret
  exact⟨Jb U bX,y.heap.size,g,M,rfl,U.size,⟨bE,bI⟩,bV,fun j bM b o e=>⟨Ob2 U.size (bG j bM b o e).1,(bG j bM b o e).2⟩⟩
def Kst (ts:List Int)(cs:List (List V))(c:Nat):List UInt8:=Jav (ts.getD c 0) 0 (cs.getD c [])
def Kr6 (ts:List Int)(cs:List (List V))(k:Nat):List UInt8:=(List.range k).flatMap (Kst ts cs)
def Ktd (ts:List Int)(cs:List (List V))(k:Nat):List Nat:=(List.range k).map fun c=>(Kst ts cs c).length
theorem Kso ts cs k:Kr6 ts cs (k+1)=Kr6 ts cs k++Kst ts cs k:=by simp[Kr6,List.range_succ]
theorem Qaj ts cs k:Ktd ts cs (k+1)=Ktd ts cs k++[(Kst ts cs k).length]:=by simp[Ktd,List.range_succ]
theorem Kwt ts cs k d:(Kr6 ts cs k).length<=(Kr6 ts cs (k+d)).length:=by
 induction d with
 |zero=>exact Oa2 _
 |succ d y=>rw[<-On5,Kso,Oa8];omega
theorem Ktl ts cs k:(Ktd ts cs k).length=k:=by simp[Ktd]
structure Kyv (ts:List Int) (cs:List (List V)) (n:Nat):Prop where
 len:cs.length=ts.length
 vals:∀ c,c<ts.length->(cs.getD c []).length=n
 ok:∀ c,c<ts.length->way (ts.getD c 0) 0=true/\Jdq (ts.getD c 0) (cs.getD c [])
 few:1<=ts.length/\ts.length<=1000
 text:(Kr6 ts cs ts.length).length<=1000000
def Qb0 (w:World)(F:Nat->Prop)(d:Nat)(q wr:Addr)(n:Nat)(lens:List Nat)(r:DS×List Nat×Option Bool)(e:Ending)(w':World):Prop:=
 Ju F w w'/\∃ FD:Nat->Prop,Zb w' FD d (match r.2.2 with|none=>r.1|some _=>Jf4 r.1 r.2.1)/\(∀ k,FD k->F k\/w.heap.size<=k)/\(∀ k,FD k->k<w'.heap.size) /\
  match r.2.2 with
  |none=>∃ y H,e=.returned (.tuple #[.agg #[.int .i64 (n:Nat),y,H],.nilIface])/\(Jo w' w.heap.size 3 y (lens.map nv)/\∀ g,y.ownBlock=some g->¬ FD g)/\Jo w' w.heap.size 3 H (r.2.1.map nv)/\∀ g,H.ownBlock=some g->¬ FD g
  |some x=>∃ b,e=.returned (.tuple #[.agg #[.int .i64 0,.slice none 0 0,.slice none 0 0],.iface 158 (.pointer (some ⟨b,0,none⟩))])/\w.heap.size<=b/\Yu w' (.iface 158 (.pointer (some ⟨b,0,none⟩))) (if x then q else wr) none (some (-1))/\¬ FD b
theorem Ksp {w:World}{b:Nat}{x y z:Value}{t:TypeId}(h:w.heap[b]?=some (.cells #[x,y,z] t (0,0))):w.cell? ⟨b,0,none⟩=some x/\w.cell? ⟨b,1,none⟩=some y/\w.cell? ⟨b,2,none⟩=some z/\∀ i,w.frozen? ⟨b,i,none⟩=false:=
 ⟨by simp[World.cell?,h],by simp[World.cell?,h],by simp[World.cell?,h],fun i=>by simp[World.frozen?,h]⟩
theorem zaK {p:Prop}(h:p:=by
 rcases br k H with h|h
 ·rcases hh with rfl|rfl
  ·exact Y.out.1 h
  exact Y.out.2 h
 omega):p:=h
theorem Kz4 sb tb to_ tc ts bG cp hs cs n w F d D q qw(h0:w.cell? ⟨sb,0,none⟩=some (.slice (some ⟨tb,to_,none⟩) ts.length tc))(Z:w.cell? ⟨sb,3,none⟩=some (.pointer (some ⟨d,0,none⟩)))(cN:Kc w (some ⟨tb,to_,none⟩) ts)(hC:Qd w bG hs cs)(bf:Kyv ts cs n)(ci:Zb w F d D)(hF:∀ k,F k->k<w.heap.size)(hq:w.cell? ⟨6,0,none⟩=some (.iface 434 (.pointer (some q))))(db:w.cell? ⟨7,0,none⟩=some (.iface 434 (.pointer (some qw))))(cK:¬ F 6)(cL:¬ F 7)(da:D.pages.length+(Qu (Kr6 ts cs ts.length)).length<=950000):
  Calls prog 281 #[.pointer (some ⟨sb,0,none⟩),.slice (some ⟨bG,0,none⟩) cs.length cp] w (Qb0 w F d q qw n (Ktd ts cs ts.length) (Uy D (Qu (Kr6 ts cs ts.length)))):=by
 have cy:1<=cs.length:=by rw[bf.len];exact bf.few.1
 have c0:=hC.row.cell (i:=0) cy;rw[bf.vals 0 (by have:=bf.few;omega)]at c0;have cE:Hid (∀ X,Below w.heap.size w X->Calls prog 56 #[.slice (some ⟨bG,0,none⟩) cs.length cp] X fun e w'=>e=.returned (.int .i64 (n:Int))/\w'=X):=fun X cj=>Jlg bG cs.length cp _ n _ X cy (Ja cj c0);have bZ:Hid (Zb w F d D/\∀ k,F k->k<w.heap.size):=⟨ci,hF⟩;have bi:=zh bf;have dw:=bf.few;clear c0 bf ci hF;go_enter func281,ntmps281
 go_upto_region 2 with(go_at_call 56;refine(cE.out _ (Jc (Oa5 _ _) _)).mono ?_;rintro e X ⟨rfl,cj⟩;subst X)
 have bK:Below w.heap.size w ((w.alloc (.cells #[.int .i64 0,.slice none 0 0,.slice none 0 0] 361)).alloc (.cells #[.int .i64 (n:Nat),.slice none 0 0,.slice none 0 0] 361)):=Jc (Jc (Oa5 _ _) _) _;have z1:((w.alloc (.cells #[.int .i64 0,.slice none 0 0,.slice none 0 0] 361)).alloc (.cells #[.int .i64 (n:Nat),.slice none 0 0,.slice none 0 0] 361)).heap[w.heap.size]?=some (.cells #[.int .i64 0,.slice none 0 0,.slice none 0 0] 361 (0,0)):=by rw[Oa9 _ _ _ zS];exact heap_alloc_new _ _
 have z2:((w.alloc (.cells #[.int .i64 0,.slice none 0 0,.slice none 0 0] 361)).alloc (.cells #[.int .i64 (n:Nat),.slice none 0 0,.slice none 0 0] 361)).heap[w.heap.size+1]?=some (.cells #[.int .i64 (n:Nat),.slice none 0 0,.slice none 0 0] 361 (0,0)):=by have h:=heap_alloc_new (w.alloc (.cells #[.int .i64 0,.slice none 0 0,.slice none 0 0] 361)) (.cells #[.int .i64 (n:Nat),.slice none 0 0,.slice none 0 0] 361);rwa [show (w.alloc (.cells #[.int .i64 0,.slice none 0 0,.slice none 0 0] 361)).heap.size=w.heap.size+1 by simp]at h
 generalize (w.alloc (.cells #[.int .i64 0,.slice none 0 0,.slice none 0 0] 361)).alloc (.cells #[.int .i64 (n:Nat),.slice none 0 0,.slice none 0 0] 361)=dj at *;obtain⟨y,bM⟩:∃ y,y=w.heap.size+1:=⟨_,rfl⟩;rw[<-bM]at z2 |-;obtain⟨rb,bQ⟩:∃ rb,rb=w.heap.size:=⟨_,rfl⟩;rw[<-bQ]at z1 |-;have U:Hid (y=w.heap.size+1/\rb=w.heap.size):=⟨bM,bQ⟩;clear bM bQ;have cI:=Ja bK h0;go_wp2;go_loopw [7,22] (fun cB iv wr=>∃ (k:Nat) (bB:Value),cB=.string (Qw (Kr6 ts cs k))/\iv=.int .i64 k/\k<=ts.length/\wr.heap[rb]?=some (.cells #[.int .i64 0,.slice none 0 0,.slice none 0 0] 361 (0,0))/\wr.heap[y]?=some (.cells #[.int .i64 (n:Nat),bB,.slice none 0 0] 361 (0,0))/\Jo wr w.heap.size 3 bB ((Ktd ts cs k).map nv)/\Hid (∀ g,bB.ownBlock=some g->g≠rb/\g≠y)/\Below w.heap.size w wr) (fun _ iv _=>ts.length-(intOf iv).toNat)
 case atStart=>exact⟨0,.slice none 0 0,rfl,rfl,Ob7 _,z1,z2,Jo.nil _ _ _,(fun g I=>by simp[Value.ownBlock]at I),bK⟩
 case round=>
  rename_i cB iv
  clear z1 z2 bK cI;obtain⟨k,bB,rfl,rfl,H,z1,z2,bA,bE,M⟩:=hrel;by_cases bz:k<ts.length
  ·have cT:(k:Int)<(ts.length:Int):=zo;obtain⟨dB,dC,cb,dy,ct⟩:=Kc.at (Uh.below cN M) bz;simp at cb;obtain⟨rfl,rfl⟩:=cb;have cn:k<cs.length:=by rw[bi.out.len];exact bz
   have dx:(k:Int)<(cs.length:Int):=zo;have dl:=(hC.below M).row.cell cn;have cA:=(hC.below M).vals k cn;have cc:ts[k]=ts.getD k 0:=by rw[Oa0,Oa3 bz];rfl
   rw[cc]at ct;have cW:=Jtj (ts.getD k 0) (Yo hs k).1 (Yo hs k).2 (cs.getD k []) wr (by have:=(bi.out.ok k bz).2.1;unfold maxLen;omega) cA (bi.out.ok k bz).1 (bi.out.ok k bz).2;have dA:(Qw (Jav (ts.getD k 0) 0 (cs.getD k []))).size=(Kst ts cs k).length:=by rw[Jb2];rfl
   have cF:Hid (Jav (ts.getD k 0) 0 (cs.getD k [])=Kst ts cs k):=rfl;have cu:=Kwt ts cs (k+1) (ts.length-(k+1));rw[show k+1+(ts.length-(k+1))=ts.length by omega,Kso,Oa8]at cu;have cU:=bi.out.text;have dv:(Qw (Kr6 ts cs k)).size+(Kst ts cs k).length<=1000000:=by rw[Jb2];omega
   have cD:Hid (Qw (Kr6 ts cs k)++Qw (Kst ts cs k)=Qw (Kr6 ts cs (k+1))):=by show _=_;rw[Kso,Ky8]
   clear cc cA cu cU;generalize Jav (ts.getD k 0) 0 (cs.getD k [])=sg at *;generalize (Yo hs k).1=dD at *;generalize (Yo hs k).2=dE at *;generalize ts.getD k 0=ty at *;generalize (cs.getD k []).length=dG at *;obtain⟨_,g1,_,gf⟩:=Ksp z2;go_wp2_with (first|(go_at_call 66;refine cW.mono ?_;rintro e K ⟨rfl,bk⟩;have bI:=(bk.block rb (Jd z1)).trans z1;have bD:=(bk.block y (Jd z2)).trans z2;have bj:=Jaw bA bk;obtain⟨_,dp,_,dr⟩:=Ksp bD)|(at_builtin;go_must (refine Ks zR _ _ 22 3 _ 8 Zw zR zd zK zR w.heap.size _ _ zR (Jo.alloc bj _) ⟨K.heap.size,0,none⟩ 1 [nv (Kst ts cs k).length] zR (by exact Ua K _ _) (by intro u cz;simp at cz;subst cz;rfl) (by simp[Ktl];omega) (by simp;have:=M.size;have:=bk.size;omega) ?_);intro sv' bW cf bJ Z;obtain⟨a2,cG,rfl,_⟩:=cf.cells;have cC:bW.heap[y]?=some (.cells #[.int .i64 (n:Nat),bB,.slice none 0 0] 361 (0,0)):=(bJ.block y (by have:=Jd bD;simp;omega) (fun e=>(bE.out y e.symm).2 rfl)).trans ((Oa9 K _ y (Jd bD)).trans bD);obtain⟨_,dq,_,cH⟩:=Ksp cC;have dt:=cH 1))
   go_roundw
   case rel=>
    have cX:bW.heap[rb]?=some (.cells #[.int .i64 0,.slice none 0 0,.slice none 0 0] 361 (0,0)):=(bJ.block rb (by have:=Jd bI;simp;omega) (fun e=>(bE.out rb e.symm).1 rfl)).trans ((Oa9 K _ rb (Jd bI)).trans bI);have bN:y≠rb:=by have:=U.out;omega
    have cv:∀ g,(Value.slice a2 ((Ktd ts cs k).map nv++[nv (Kst ts cs k).length]).length cG).ownBlock=some g->g≠rb/\g≠y:=fun g I=>by
     rcases Z with Z|Z
     ·exact bE.out g (Z▸I)
     rw[Z]at I;have:=Jd bI;have:=Jd bD;simp at I;omega
    have cP:Below w.heap.size w bW:=Jy (Jc (Jb M bk) _) bJ fun k H=>(Je bA H).1;refine⟨k+1,_,by rw[<-cD.out,cF.out],zn,zo,?_,?_,?_,cv,cP.setCell (by have:=U.out;simp;omega) _⟩
    ·rw[Oa4 _ _ _ _ (fun e=>bN e.symm)];exact cX
    ·rw[Jk cC];simp
    rw[Qaj,Ob8];exact Yd cf fun g I=>Oa4 _ _ _ _ (cv g I).2
   case measure=>simp[intOf];omega
  obtain rfl:k=ts.length:=zo;have cT:¬ (ts.length:Int)<(ts.length:Int):=zo;have hF:=bZ.out.2;have bO:=Kkq d (Kr6 ts cs ts.length) wr F D (bZ.out.1.below M) (fun k H=>Oc2 (hF k H) M.size) q qw (Ja M hq) (Ja M db) cK cL da bi.out.text;have du:=Ja M Z;have Y:Hid (¬ F y/\¬ F rb):=⟨fun h=>by have:=hF y h;have:=U.out;omega,fun h=>by have:=hF rb h;have:=U.out;omega⟩;have cQ:=M.size;have bN:y≠rb:=by have:=U.out;omega
  have cY:rb≠y:=fun e=>bN e.symm;obtain⟨a1,c1,rfl,_⟩:=bA.cells;obtain⟨r,hr⟩:∃ r,Uy D (Qu (Kr6 ts cs ts.length))=r:=⟨_,rfl⟩;rw[hr]at bO;have ca:=zh hr;clear hr;obtain⟨E,l,x⟩:=r;cases x with
  |none=>
   go_wp2_with (go_at_call 68;refine bO.mono ?_;rintro e K ⟨bx,FD,bL,br,bP,sv,rfl,bj,cO⟩;obtain⟨a2,c2,rfl,_⟩:=bj.cells;have bC:=(bx.block rb (Jd z1) Y.out.2).trans z1;have di:=(bx.block y (Jd z2) Y.out.1).trans z2;obtain⟨dm,g1,g2,gf⟩:=Ksp di;have ds:=gf 2;obtain⟨dc,dd,r2,bh⟩:=Ksp bC;have de:=bh 0;have df:=bh 1;have dg:=bh 2)
   have O:=((((Ju.refl (fun k=>k=y\/k=rb) K).set (.inl rfl) 2 (.slice a2 l.length c2)).set (.inr rfl) 0 (.int .i64 (n:Nat))).set (.inr rfl) 1 (.slice a1 (Ktd ts cs ts.length).length c1)).set (.inr rfl) 2 (.slice a2 l.length c2);have bY:((((K.setCell ⟨y,2,none⟩ (.slice a2 l.length c2)).setCell ⟨rb,0,none⟩ (.int .i64 (n:Nat))).setCell ⟨rb,1,none⟩ (.slice a1 (Ktd ts cs ts.length).length c1)).setCell ⟨rb,2,none⟩ (.slice a2 l.length c2)).heap[rb]?=some (.cells #[.int .i64 (n:Nat),.slice a1 (Ktd ts cs ts.length).length c1,.slice a2 l.length c2] 361 (0,0)):=by
    have dh:(K.setCell ⟨y,2,none⟩ (.slice a2 l.length c2)).heap[rb]?=some (.cells #[.int .i64 0,.slice none 0 0,.slice none 0 0] 361 (0,0)):=by rw[Oa4 _ _ _ _ cY];exact bC
    have bT:=Jk dh 0 (.int .i64 (n:Nat));have bU:=Jk bT 1 (.slice a1 (Ktd ts cs ts.length).length c1);have bV:=Jk bU 2 (.slice a2 l.length c2);rw[bV];simp
   generalize (((K.setCell ⟨y,2,none⟩ (.slice a2 l.length c2)).setCell ⟨rb,0,none⟩ (.int .i64 (n:Nat))).setCell ⟨rb,1,none⟩ (.slice a1 (Ktd ts cs ts.length).length c1)).setCell ⟨rb,2,none⟩ (.slice a2 l.length c2)=X at *;obtain⟨bX,x1,x2,_⟩:=Ksp bY;refine bodyPost_ret (v:=.tuple #[.agg #[.int .i64 (n:Nat),.slice a1 (Ktd ts cs ts.length).length c1,.slice a2 l.length c2],.nilIface]) (by simp[results,results281,go_sem,bX,x1,x2]) rfl ?_;rw[ca.out];have cS:=Jd z2;have cZ:=Jd z1;have cM:=U.out;have bR:∀ k,FD k->¬ (k=y\/k=rb):=fun k H hh=>by
    exact zaK
   have bS:∀ g,(Value.slice a1 (Ktd ts cs ts.length).length c1).ownBlock=some g->w.heap.size<=g/\g<wr.heap.size:=fun g I=>by
    have:=Je bA (by simpa using I);exact this
   have bH:Ju (fun k=>F k\/k=y\/k=rb) wr X:=(bx.mono fun k _ h=>.inl h).trans (O.mono fun k _ h=>.inr h);refine⟨(Ju.of_below M).trans' bH fun k H hh=>hh.elim id (fun h=>zo),FD,bL.stands fun k H hl=>O.block k hl (bR k H),fun k H=>(br k H).imp id (fun h=>zo),fun k H=>Oc2 (bP k H) O.size,_,_,rfl,⟨?_,?_⟩,?_,?_⟩
   ·have:=Yd (w':=X) bA fun g I=>bH.block g (bS g (by simpa using I)).2 (fun hh=>by
     have cx:=bE.out g I;rcases hh with h|h|h
     ·have:=hF g h;have:=(bS g (by simpa using I)).1;omega
     ·exact cx.2 h
     ·exact cx.1 h)
    simpa using this
   ·intro g I cJ;have⟨o1,o2⟩:=bS g I;rcases br g cJ with h|h
    ·have:=hF g h;omega
    omega
   ·have:=Jgl (Yd (w':=X) bj fun g I=>O.block g (Qk bj I) (fun hh=>by
     have:=(Je bj I).1;omega)) cQ
    unfold Jo;simpa using this
   intro g I;exact cO g (by simpa using I)
  |some x=>
   go_wp2_with (go_at_call 68;refine bO.mono ?_;rintro e K ⟨bx,FD,bL,br,bP,b1,rfl,bk,cR,cV⟩;have bC:=(bx.block rb (Jd z1) Y.out.2).trans z1;obtain⟨dc,dd,r2,bh⟩:=Ksp bC;have de:=bh 0;have df:=bh 1;have dg:=bh 2)
   have O:=(((Ju.refl (fun k=>k=y\/k=rb) K).set (.inr rfl) 0 (.int .i64 0)).set (.inr rfl) 1 (.slice none 0 0)).set (.inr rfl) 2 (.slice none 0 0);have bY:(((K.setCell ⟨rb,0,none⟩ (.int .i64 0)).setCell ⟨rb,1,none⟩ (.slice none 0 0)).setCell ⟨rb,2,none⟩ (.slice none 0 0)).heap[rb]?=some (.cells #[.int .i64 0,.slice none 0 0,.slice none 0 0] 361 (0,0)):=by
    have bT:=Jk bC 0 (.int .i64 0);have bU:=Jk bT 1 (.slice none 0 0);have bV:=Jk bU 2 (.slice none 0 0);rw[bV];simp
   generalize ((K.setCell ⟨rb,0,none⟩ (.int .i64 0)).setCell ⟨rb,1,none⟩ (.slice none 0 0)).setCell ⟨rb,2,none⟩ (.slice none 0 0)=X at *;obtain⟨bX,x1,x2,_⟩:=Ksp bY;refine bodyPost_ret (v:=.tuple #[.agg #[.int .i64 0,.slice none 0 0,.slice none 0 0],.iface 158 (.pointer (some ⟨b1,0,none⟩))]) (by simp[results,results281,go_sem,bX,x1,x2]) rfl ?_;rw[ca.out];have cS:=Jd z2;have cZ:=Jd z1;have cM:=U.out;have bR:∀ k,FD k->¬ (k=y\/k=rb):=fun k H hh=>by
    exact zaK
   have bH:Ju (fun k=>F k\/k=y\/k=rb) wr X:=(bx.mono fun k _ h=>.inl h).trans (O.mono fun k _ h=>.inr h);exact⟨(Ju.of_below M).trans' bH fun k H hh=>hh.elim id (fun h=>zo),FD,bL.stands fun k H hl=>O.block k hl (bR k H),fun k H=>(br k H).imp id (fun h=>zo),fun k H=>Oc2 (bP k H) O.size,b1,rfl,zo,Ki6 cR O zo,cV⟩
theorem Kyv.seg {ts cs n c}(h:Kyv ts cs n)(y:c<ts.length)(hr:∀ v∈cs.getD c [],Jg v.n):Kje (Kst ts cs c)/\Jbf (Kst ts cs c)=some ((ts.getD c 0).toNat,0,cs.getD c [])/\(((ts.getD c 0).toNat:Nat):Int)=ts.getD c 0:=by
 have hp:Jev (ts.getD c 0) 0 (cs.getD c [])=(Kst ts cs c,0):=by
  unfold Jev Kst;rw[if_pos (by rw[Og5];exact⟨(h.ok c y).1,(Jfd _ _).2 (h.ok c y).2⟩),if_neg (fun x=>absurd x.1 zo)]
 obtain⟨_,_,_,ht,e,H⟩:=Kja hp;refine⟨fun t' I K M hh=>?_,Ki9 _ 0 Kj4 _ _ hp hr,ht⟩;rw[H]at hh;simp only[Oc9,Oj3]at hh;rw[<-hh.1.2.1,e];exact Ki5
def Kuv (ts:List Int)(cs:List (List V))(k:Nat):List UInt8:=(Kr6 ts cs ts.length).drop (Kr6 ts cs k).length
theorem Qbq ts cs k d:∃ r,Kr6 ts cs (k+d)=Kr6 ts cs k++r:=by
 induction d with
 |zero=>exact⟨[],zS⟩
 |succ d y=>obtain⟨r,hr⟩:=y;exact⟨r++Kst ts cs (k+d),by rw[<-On5,Kso,hr,Od8]⟩
theorem Kz9 ts cs k(h:k<ts.length):Kuv ts cs k=Kst ts cs k++Kuv ts cs (k+1):=by
 obtain⟨r,hr⟩:=Qbq ts cs (k+1) (ts.length-(k+1));rw[show k+1+(ts.length-(k+1))=ts.length by omega]at hr;unfold Kuv;rw[hr,List.drop_left,Kso,Od8,List.drop_left]
theorem Qag ts cs:Kuv ts cs 0=Kr6 ts cs ts.length:=by simp[Kuv,Kr6]
def Qcn (n:Nat)(la:Option Addr)(y lc:Nat)(pa:Option Addr)(pl pc:Nat):Value:=.agg #[.int .i64 (n:Nat),.slice la y lc,.slice pa pl pc]
structure Qdc (w wr:World) (g k:Nat) (ts:List Int) (cs:List (List V)) (n:Nat) (vb:Nat->Nat):Prop where
 row:wr.rowIs g 30 ts.length (fun j=>if j<k then .slice (some ⟨vb j,0,none⟩) n n else .slice none 0 0)
 low:w.heap.size<=g
 vals:∀ j,j<k->(w.heap.size<=vb j/\vb j<wr.heap.size/\vb j≠g)/\Jv wr (some ⟨vb j,0,none⟩) (cs.getD j [])
theorem Kyx sb tb to_ tc ts cs n la lc pa l pc w F d D pg a0 a1 a2(h0:w.cell? ⟨sb,0,none⟩=some (.slice (some ⟨tb,to_,none⟩) ts.length tc))(cu:w.cell? ⟨sb,3,none⟩=some (.pointer (some ⟨d,0,none⟩)))(cy:Kc w (some ⟨tb,to_,none⟩) ts)(M:Kyv ts cs n)(hr:∀ c∈cs,∀ v∈c,Jg v.n)(bR:Zb w F d D)(bU:Uh w la ((Ktd ts cs ts.length).map nv))(cD:Uh w pa (l.map nv))(bV:l.length<=1000000)(bM:Uf D l=.inl (Kr6 ts cs ts.length))(bW:Kr6 ts cs ts.length≠[])(cE:w.cell? ⟨8,0,none⟩=some (.iface 434 (.pointer (some pg))))(cv:Jf0 w a0 a1 a2):
  Calls prog 245 #[.pointer (some ⟨sb,0,none⟩),Qcn n la ts.length lc pa l.length pc] w fun e w'=>Below w.heap.size w w'/\∃ g hs,e=.returned (.tuple #[.slice (some ⟨g,0,none⟩) cs.length cs.length,.nilIface])/\w.heap.size<=g/\Qd w' g hs cs/\Qah w w' hs cs.length:=by
 have bG:Hid (Kyv ts cs n/\∀ c∈cs,∀ v∈c,Jg v.n):=⟨M,hr⟩;have cA:=M.few;have cf:Hid (∀ X,Below w.heap.size w X->Calls prog 115 #[.pointer (some ⟨d,0,none⟩),.slice pa l.length pc] X fun e w'=>e=.returned (.tuple #[.string (Qw (Kr6 ts cs ts.length)),.nilIface])/\Below X.heap.size X w'):=fun X bf=>by
  have:=Kag d pa pc l X F D (bR.below bf) (cD.below bf) bV pg (Ja bf cE) (fun t ht=>by rw[bM]at ht;injection ht with ht;rw[<-ht];exact bW);rw[bM]at this;exact this.mono fun e w' h=>⟨h.2,h.1⟩
 have cc:Hid (∀ X,Calls prog 80 #[.int .i64 (ts.length:Int)] X fun e w'=>e=.returned (.slice (some ⟨X.heap.size,0,none⟩) ts.length ts.length)/\w'.rowIs X.heap.size 30 ts.length (fun _=>.slice none 0 0)/\Below X.heap.size X w'):=fun X=>
  (Jiz ts.length X cA.2).mono fun e w' h=>⟨h.1,by
   have:=h.2.1.row;rw[Od6]at this;exact this.congr fun j y=>by unfold Uq;rw[Oa0,Of3];split<;>rfl,h.2.2⟩
 have ci:Hid (∀ k,k<ts.length->∀ X,Below w.heap.size w X->Calls prog 116 #[.string (Qw (Kst ts cs k)),.int .i64 (ts.getD k 0),.int .i64 (n:Int)] X fun e w'=>Below X.heap.size X w'/\∃ b,e=.returned (.tuple #[.slice (some ⟨b,0,none⟩) n n,.nilIface])/\X.heap.size<=b/\b<w'.heap.size/\Jv w' (some ⟨b,0,none⟩) (cs.getD k [])):=fun k bB X bf=>by
  have bT:k<cs.length:=by rw[M.len];exact bB
  obtain⟨q1,q2,cL⟩:=M.seg bB fun v hv=>hr (cs.getD k []) (by rw[Oa0,Oa3 bT];exact Ob3 bT) v hv;have hlen:(Kst ts cs k).length<=maxLen:=by
   have bk:=Kwt ts cs (k+1) (ts.length-(k+1));rw[show k+1+(ts.length-(k+1))=ts.length by omega,Kso,Oa8]at bk;have:=M.text;unfold maxLen;omega
  refine(Jqz (Kst ts cs k) q1 (ts.getD k 0) n X hlen a0 a1 a2 (cv.below bf)).mono fun e w' h=>⟨h.1,?_⟩;rcases h.2 with⟨ty,cZ,vs,b,Y,bH,bi,bj,cj,bQ⟩|⟨cn,_⟩
  ·rw[q2]at Y;simp only[Oc9,Oj3]at Y;obtain⟨_,_,rfl⟩:=Y;refine⟨b,by rw[bj,bi],cj,?_,bQ.vals⟩;obtain⟨C,hC,_⟩:=bQ;exact Jd hC
  exact absurd ⟨cL,M.vals k bB⟩ (cn _ _ _ q2)
 obtain⟨lb,lo,rfl,cX,_⟩:=bU.at (i:=0) (by rw[Oa6,Ktl];omega);clear M hr bM bW bV bR;unfold Qcn;go_enter func245,ntmps245
 go_upto_region 1 with fail
 have bx:=Jc (Oa5 w.heap.size w) (.cells #[.int .i64 (n:Nat),.slice (some ⟨lb,lo,none⟩) ts.length lc,.slice pa l.length pc] 361);have z1:=heap_alloc_new w (.cells #[.int .i64 (n:Nat),.slice (some ⟨lb,lo,none⟩) ts.length lc,.slice pa l.length pc] 361);generalize w.alloc (.cells #[.int .i64 (n:Nat),.slice (some ⟨lb,lo,none⟩) ts.length lc,.slice pa l.length pc] 361)=cR at *;obtain⟨H,bJ⟩:∃ H,H=w.heap.size:=⟨_,rfl⟩;rw[<-bJ]at z1 |-;have cQ:=zh bJ;clear bJ;have bO:=Ja bx cu;obtain⟨cP,x1,x2,_⟩:=Ksp z1;go_region_held3 (fun X=>X.cell? ⟨sb,3,none⟩=some (.pointer (some ⟨d,0,none⟩))/\X.cell? ⟨H,2,none⟩=some (.slice pa l.length pc))
  (first|(exact⟨bO,x2⟩)|(exact br)|(go_split_ands;constructor<;>assumption))
  (first|(go_at_call 115;refine(cf.out _ (Jp bx 1)).mono ?_;rintro e bP ⟨rfl,bh⟩;have br:=And.intro (Ja (Jw bh) bO) (Ja (Jw bh) x2)))
 have bz:=Jb bx (Jw bh);have z2:bP.heap[H]?=some (.cells #[.int .i64 (n:Nat),.slice (some ⟨lb,lo,none⟩) ts.length lc,.slice pa l.length pc] 361 (0,0)):=((Jw bh).block H (Jd z1)).trans z1;have bC:=Ja bz h0;clear bO cP x1 x2 br bh bx z1;go_wp2_with (go_at_call 80;refine(cc.out _).mono ?_;rintro e cS ⟨rfl,bN,bI⟩;have U:=(bI.block H (Jd z2)).trans z2;obtain⟨bE,bZ,ca,_⟩:=Ksp U)
 have bS:=Jb bz bI;have cB:=bz.size;obtain⟨g,bK⟩:∃ g,g=bP.heap.size:=⟨_,rfl⟩;rw[<-bK]at bN |-;have bA:w.heap.size<=g:=zo;have cb:Hid (H<g):=by show _<_;rw[bK];exact Jd z2
 clear bK bI bz z2 bC cB;go_loopw [6,35] (fun bX iv wr=>∃ (k:Nat) (bD:Nat->Nat),bX=.string (Qw (Kuv ts cs k))/\iv=.int .i64 k/\k<=ts.length/\wr.heap[H]?=some (.cells #[.int .i64 (n:Nat),.slice (some ⟨lb,lo,none⟩) ts.length lc,.slice pa l.length pc] 361 (0,0))/\Qdc w wr g k ts cs n bD/\Below w.heap.size w wr) (fun _ iv _=>ts.length-(intOf iv).toNat)
 case atStart=>exact⟨0,fun _=>0,by rw[Qag],rfl,Ob7 _,U,⟨bN.congr fun j y=>by rw[if_neg (Oe0 _)],bA,fun j y=>absurd y (Oe0 _)⟩,bS⟩
 case round=>
  rename_i bX iv
  clear U bE bZ ca bN bS;obtain⟨k,bD,rfl,rfl,bB,U,hI,O⟩:=hrel;by_cases K:k<ts.length
  ·have cC:(k:Int)<(ts.length:Int):=zo;obtain⟨dh,di,Y,cW,ct⟩:=Kc.at (Uh.below cy O) K;simp at Y;obtain⟨rfl,rfl⟩:=Y;obtain⟨df,dg,bH,_,cl⟩:=(bU.below O).at (i:=k) (by rw[Oa6,Ktl];exact K);simp at bH;obtain⟨rfl,rfl⟩:=bH;have bi:((Ktd ts cs ts.length).map nv)[k]'(by rw[Oa6,Ktl];exact K)=.int .i64 ((Kst ts cs k).length:Nat):=(by simp[Ktd,nv]);rw[bi]at cl;have bj:ts[k]=ts.getD k 0:=by rw[Oa0,Oa3 K];rfl
   rw[bj]at ct;have cH:=ci.out k K;have Z:=Kz9 ts cs k K;have x1:=Kkb (Kuv ts cs k) 0 (Kst ts cs k).length;have x2:=Kkb (Kuv ts cs k) (Kst ts cs k).length (Kuv ts cs k).length;rw[List.drop_zero,Z,List.take_left,<-Z]at x1;rw[Of2,Z,List.drop_left,<-Z]at x2;have dc:(Qw (Kuv ts cs k)).size=(Kuv ts cs k).length:=Jb2 _;have cY:((Kst ts cs k).length:Int)<=((Kuv ts cs k).length:Int):=by rw[Z,Oa8];omega
   have cV:¬ ((Kuv ts cs k).length:Int)<((Kst ts cs k).length:Int):=zo;have bC:=Ja O h0;obtain⟨bE,bZ,ca,_⟩:=Ksp U;have cF:=hI.row.cell K;have da:=hI.row.frozen k;rw[if_neg (Oe3 k)]at cF;clear bi bj Z;generalize Kst ts cs k=sg at *;generalize Kuv ts cs k=rs at *;generalize ts.getD k 0=ty at *;go_wp2_with fail
   go_region_held3 (fun X=>X.cell? ⟨sb,0,none⟩=some (.slice (some ⟨tb,to_,none⟩) ts.length tc)/\X.cell? ⟨tb,to_+k,none⟩=some (.int .i64 ty)/\X.cell? ⟨H,0,none⟩=some (.int .i64 (n:Nat)))
    (first|(exact⟨bC,ct,bE⟩)|(exact br)|(go_split_ands;refine⟨?_,?_,?_⟩<;>assumption))
    (first|(go_at_call 116;refine(cH _ (Jp O 1)).mono ?_;rintro e cT ⟨cz,bY,rfl,cI,cJ,cK⟩;have I:=Jw cz;have br:=And.intro (Ja I bC) (And.intro (Ja I ct) (Ja I bE));have bL:=hI.row.of_block (I.block g hI.row.lt);have cG:=bL.cell K;have db:=bL.frozen k;rw[if_neg (Oe3 k)]at cG))
   go_wp2;go_roundw
   case rel=>
    have cU:=hI.row.lt;have de:=I.size;have dd:wr.heap.size<=bY:=cI;refine⟨k+1,fun j=>if j=k then bY else bD j,rfl,zn,zo,?_,⟨(bL.set k _).congr fun j y=>?_,bA,fun j y=>?_⟩,(Jb O I).setCell (p:=⟨g,k,none⟩) bA _⟩
    ·rw[Oa4 _ _ _ _ (by have:=cb.out;simp;omega),I.block H (Jd U)];exact U
    ·by_cases e:j=k
     ·subst e;rw[if_pos (show j=j from rfl),if_pos (show j<j+1 from On2 _),if_pos rfl]
     rw[if_neg e];by_cases bk:j<k
     ·rw[if_pos bk,if_pos zo,if_neg e]
     rw[if_neg bk,if_neg zo]
    by_cases e:j=k
    ·subst e;simp only[if_true];exact⟨⟨by have:=O.size;omega,by simpa using cJ,zo⟩,cK.of_block zS fun b o e _=>by
      injection e with e;injection e with e;exact Oa4 _ _ _ _ (by simp only;omega)⟩
    rw[if_neg e];obtain⟨⟨cM,dj,cO⟩,cN⟩:=hI.vals j zo;exact⟨⟨cM,by simp;omega,cO⟩,(cN.below I).of_block zS fun b o e _=>by
     injection e with e;injection e with e;exact Oa4 _ _ _ _ (by simp only;omega)⟩
   case measure=>simp[intOf];omega
  obtain rfl:k=ts.length:=zo;have cC:¬ (ts.length:Int)<(ts.length:Int):=zo;go_wp2;go_ret2
  have hlen:=bG.out.1.len;have fin:∃ hs:List (Option Addr×Nat),Qd wr g hs cs/\Qah w wr hs cs.length:=by
   refine⟨(List.range cs.length).map fun j=>(some ⟨bD j,0,none⟩,n),⟨?_,fun j y=>?_,fun j y=>?_⟩,fun j y b o e=>?_⟩
   ·rw[hlen];refine(Kun hI.row).congr fun j y=>?_;rw[if_pos y,bG.out.1.vals j y];simp[Yo,y]
   ·rw[hlen]at y;have:=(hI.vals j y).2;simpa [Yo,hlen,y] using this
   ·rw[hlen]at y;rw[bG.out.1.vals j y];simp[Yo,hlen,y]
   rw[hlen]at y;have:=(hI.vals j y).1;simp[Yo,hlen,y]at e;obtain⟨rfl,rfl⟩:=e;exact⟨this.1,this.2.1⟩
  obtain⟨hs,hC,cx⟩:=fin;exact⟨O,g,by rw[hlen];rfl,bA,hs,hC,cx⟩
