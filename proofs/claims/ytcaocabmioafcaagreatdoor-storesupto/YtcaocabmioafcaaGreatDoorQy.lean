/- Two stores that agree: one call in both, and what it leaves. -/
import Derived.Test.YtcaocabmioafcaaGreatDoorQv
import Derived.Test.YtcaocabmioafcaaGreatDoorQt
namespace Go.Proofs.YtcaocabmioafcaaGreatDoor
open Go.RowKit Go.Shelf Tryz
attribute [local go_sem] Oc0
theorem Ksb.segs {D:DS}{H:List TS}{P:List RP}{Rs:List RTb}(h:Ksb D H P Rs):∀ T∈H,T.segs.length≤1000000∧∀ l∈T.segs,l.length≤1000000:=by
 obtain⟨C,U,hs,J,rfl,rfl,ba⟩:=h.ex
 intro T K
 obtain⟨x,M,rfl⟩:=Of0.1 K
 have A:=J.tab x M
 refine⟨?_,fun l L=>?_⟩
 ·have X:=Kg4 x.1.rows x.1.group A.group.1
  have Y:=A.rows
  have I:=A.cols.2
  have Z:ckN x.1.rows x.1.group*x.1.types.length≤200*6:=Ol5 (by omega) I
  rw[A.count]
  omega
 obtain⟨t,N,O,R,_⟩:=A.seg l L
 have:=(Jx9 R N O).2
 omega
theorem Kss.wide {H:Nat→Prop}{w:World}{wb pa K u v:Nat}{J:Int}{I:Ksl}{G:Nat→Prop}(h:Kss H w wb pa K u J I G)(_M:u≤v):Kss H w wb pa K v J I G:=
 ⟨h.law,h.c0,by have:=h.c1;omega,fun r A=>by have:=h.few r A;omega,fun r A e L=>by have:=h.num r A e L;omega,h.lens,h.rd,h.gb,h.all,h.lt⟩
def Kst (w:World)(wb pa R p U X:Nat)(K L J:Nat→Prop)(u:Nat)(k0:Int)(w':World):Prop:=
 Ju (fun k=>K k∨L k∨J k) w w'∧∃ (H I:Nat→Prop) (D:DS) (N:List TS) (P:List RP) (Rs:List RTb) (A:Nat→Prop) (O:Int) (M:Ksl) (G:Nat→Prop),Kso w' p U X H I D N P Rs∧Kss A w' wb pa R u O M G∧(∀ k,H k∨I k→K k∨L k∨w.heap.size≤k)∧(∀ k,A k→J k∨w.heap.size≤k)∧(∀ k,H k∨I k∨k=p→¬ A k)∧D.writes≤k0+132000
section
variable {w w':World} {wb pa pb p sx sy u v:Nat} {M N L:Nat→Prop} {D:DS} {Ts:List TS} {P:List RP} {Rs:List RTb} {cnt:Int} {R:Ksl} {G:Nat→Prop} {k0:Int}
theorem Kst.still (J:Kso w p sx sy M N D Ts P Rs)(I:Kss L w wb pa pb u cnt R G)(H:∀ k,M k∨N k∨k=p→¬ L k)(K:u≤v)(A:Below w.heap.size w w'):Kst w wb pa pb p sx sy M N L v D.writes w':=
 ⟨.of_below A,M,N,D,Ts,P,Rs,L,cnt,R,G,J.below A,(I.below A).wide K,fun k hk=>hk.elim .inl fun a=>.inr (.inl a),fun k hk=>.inl hk,H,by omega⟩
theorem Kst.of_pair (I:Kss L w wb pa pb u cnt R G)(H:∀ k,M k∨N k∨k=p→¬ L k)(bc:u≤v)(hs:Kuh w p sx sy M N k0 w'):Kst w wb pa pb p sx sy M N L v k0 w':=by
 obtain⟨hk,O,U,K,Z,X,Y,ba,J,bb⟩:=hs
 refine⟨hk.mono fun k _ h=>h.elim .inl fun a=>.inr (.inl a),O,U,K,Z,X,Y,L,cnt,R,G,ba,(I.stands hk.size fun k A=>hk.block k (I.lt k A) fun h=>H k (h.elim .inl fun a=>.inr (.inl a)) A).wide bc,J,fun k hk=>.inl hk,fun k hk A=>?_,bb⟩
 rcases hk with a|a|a
 ·rcases J k (.inl a)with b|b|b
  ·exact H k (.inl b) A
  ·exact H k (.inr (.inl b)) A
  have:=I.lt k A;omega
 ·rcases J k (.inr a)with b|b|b
  ·exact H k (.inl b) A
  ·exact H k (.inr (.inl b)) A
  have:=I.lt k A;omega
 exact H k (.inr (.inr a)) A
theorem Kst.of_took {W:World}{O:Nat→Prop}(K:Kso w p sx sy M N D Ts P Rs)(U:∀ k,M k∨N k∨k=p→¬ L k)(A:Below w.heap.size w W)(I:∀ k,O k→w.heap.size≤k)(bi:Kxh L W wb pa pb u O w')(bj:u≤v):Kst w wb pa pb p sx sy M N L v D.writes w':=by
 obtain⟨hk,R,c,Z,Y,ba,bk,bb⟩:=bi
 have bl:=A.size
 have X:∀ k,R k→L k∨w.heap.size≤k:=fun k J=>by
  rcases bb k J with a|a|a
  ·exact .inl a
  ·exact .inr (I k a)
  exact .inr (by omega)
 refine⟨⟨hk.os.trans A.os,hk.tape.trans A.tape,hk.output.trans A.output,by have:=hk.size;omega,fun k bf bh=>?_⟩,M,N,D,Ts,P,Rs,R,c,Z,Y,(K.below A).stands hk.size fun k H=>?_,ba.wide bj,fun k h=>h.elim .inl fun a=>.inr (.inl a),X,fun k H J=>?_,by omega⟩
 ·rw[hk.block k (by omega) fun e=>e.elim (fun a=>bh (.inr (.inr a))) fun a=>by have:=I k a;omega,A.block k bf]
 ·have bc:=K.lt k H
  exact hk.block k (by omega) fun e=>e.elim (U k H) fun a=>by have:=I k a;omega
 have bc:=K.lt k H
 rcases X k J with a|a
 ·exact U k H a
 omega
end
section
variable {w:World} {p sx sy:Nat} {M N:Nat→Prop} {D:DS} {Ts:List TS} {P:List RP} {Rs:List RTb}
theorem Kso.len (h:Kso w p sx sy M N D Ts P Rs):Rs.length≤6:=by rw[h.ag.len];exact h.ag.few
theorem Kso.drop (h:Kso w p sx sy M N D Ts P Rs)(n:ByteArray):∃ (c:Int) (U:DS) (bk:List TS) (bi:List RP) (bj:List RTb),U.writes=D.writes∧Ksb U bk bi bj ∧
  (∀ (H:World) (J K L R q wr pg pl ex O:Addr),Sto M H sx D Ts→Jax H J K L R q wr pg pl ex O→Calls prog 13 #[.pointer (some ⟨sx,0,none⟩),.string n] H fun e bc=>e=.returned (fault c)∧Ju M H bc∧Sto M bc sx U bk) ∧
  ∀ I:World,RSt N I sy D.quota D.fail D.writes P Rs→Calls prog 14 #[.pointer (some ⟨sy,0,none⟩),.string n] I fun e bf=>e=.returned (fault c)∧Ju N I bf∧∃ ba:Nat→Prop,RSt ba bf sy U.quota U.fail U.writes bi bj∧∀ k,ba k→N k∨I.heap.size≤k:=by
 have br:=h.ag.pages
 have bG:∀ T∈Ts,T.segs.length≤1000000∧∀ l∈T.segs,l.length≤1000000:=h.ag.segs
 have bn:=Ky7 h.ag n
 have bI:=h.len
 have bJ:=h.ag.small
 have bu:=fun (I:World) (Y:RSt N I sy D.quota D.fail D.writes P Rs)=>Qb2 Y n (by omega) (by omega) fun bb bh=>⟨(br bb bh).2.2.1,fun i hi=>((br bb bh).2.2.2 i hi).1⟩
 have bx:=fun (H:World) (J K L R q wr pg pl ex O:Addr) (X:Sto M H sx D Ts) (Z:Jax H J K L R q wr pg pl ex O)=>Qa1 M sx D Ts n H X bG J K L R q wr pg pl ex O Z
 cases hT:Ts[Ub Ts n]? with
 |none=>
  refine⟨4,D,Ts,P,Rs,rfl,h.ag,fun H J K L R q wr pg pl ex O X Z=>(bx H J K L R q wr pg pl ex O X Z).mono fun e bc A=>?_,fun I Y=>(bu I Y).mono fun e bf A=>?_⟩
  ·unfold Kuv at A
   rw[hT]at A
   exact⟨A.1,.of_below A.2,X.below A.2⟩
  unfold Kwm at A
  rw[bn,Ob4 (by have:=List.getElem?_eq_none_iff.1 hT;rw[h.ag.len];omega)]at A
  exact⟨A.1,.of_below A.2,N,Y.below A.2,fun k hk=>.inl hk⟩
 |some T=>
  obtain⟨bb,bh,bH,bC,bE,bD,hw⟩:=h.ag.drop hT
  refine⟨0,Jcg D T.segs,Ts.eraseIdx (Ub Ts n),Kr5 P bb.pages,Rs.eraseIdx (Ub Ts n),hw,bC,fun H J K L R q wr pg pl ex O X Z=>(bx H J K L R q wr pg pl ex O X Z).mono fun e bc A=>?_,fun I Y=>(bu I Y).mono fun e bf A=>?_⟩
  ·unfold Kuv at A
   rw[hT]at A
   exact A
  unfold Kwm at A
  rw[bn,bh]at A
  obtain⟨bz,bA,ba,bl,_,bB⟩:=A
  rw[←bE,←bD,←hw]at bl
  exact⟨bz,bA,ba,bl,bB⟩
theorem Kso.spoil (h:Kso w p sx sy M N D Ts P Rs)(page at_ H:Int):∃ (b:Bool) (I:DS) (J:List RP),I.writes=D.writes∧Ksb I Ts J Rs ∧
  (∀ A:World,Sto M A sx D Ts→Calls prog 22 #[.pointer (some ⟨sx,0,none⟩),.int .i64 page,.int .i64 at_,.int .i64 H] A fun e L=>e=.returned (.bool b)∧Ju M A L∧Sto M L sx I Ts) ∧
  ∀ K:World,RSt N K sy D.quota D.fail D.writes P Rs→Calls prog 23 #[.pointer (some ⟨sy,0,none⟩),.int .i64 page,.int .i64 at_,.int .i64 H] K fun e U=>e=.returned (.bool b)∧Ju N K U∧RSt N U sy I.quota I.fail I.writes J Rs:=by
 have bj:=h.ag.small
 obtain⟨ba,bb⟩:=h.ag.can page at_ H
 cases hs:Ks0 P page at_ H with
 |none=>
  refine⟨false,D,P,rfl,h.ag,fun A O=>(Qaa M sx D Ts page at_ H A O (ba hs)).mono ?_,fun K R=>(Kx0 R page at_ H (by omega) hs).mono ?_⟩
  ·rintro e L ⟨rfl,rfl⟩
   exact⟨rfl,Ju.refl _ _,O⟩
  rintro e L ⟨rfl,rfl⟩
  exact⟨rfl,Ju.refl _ _,R⟩
 |some J=>
  obtain⟨pg,k,m,q,X,Y,Z,bi,hk,bf,bh,bc⟩:=bb J hs
  exact⟨true,⟨D.quota,D.fail,D.writes,D.lowest,D.pages.set pg (some (Ksf q k m))⟩,J,rfl,bc,fun A O=>by rw[X,Y,Z];exact Kzn M sx D Ts pg k m A O q bi hk bf bh,fun K R=>Kw3 R page at_ H (by omega) hs⟩
theorem Kso.after {L Y w':World}{A:DS}{X:List TS}{R:List RP}{U:List RTb}{O:Nat→Prop}(h:Kso w p sx sy M N D Ts P Rs)(I:Ju M w L)(ba:Sto M L sx A X)(H:Below L.heap.size L Y)(hk:Ju N Y w')(bc:RSt O w' sy A.quota A.fail A.writes R U)(Z:∀ k,O k→N k∨Y.heap.size≤k)(bf:Ksb A X R U)(hw:A.writes=D.writes):Kuh w p sx sy M N D.writes w':=by
 have bk:=I.size
 have bl:=H.size
 have bn:=hk.size
 have bj:=Jd h.cells
 refine⟨⟨hk.os.trans (H.os.trans I.os),hk.tape.trans (H.tape.trans I.tape),hk.output.trans (H.output.trans I.output),by omega,fun k bi J=>?_⟩,M,O,A,X,R,U,⟨?_,ba.stands (by omega) fun k K=>?_,bc,fun k K J=>?_,⟨h.np.1,fun J=>?_⟩,bf,by rw[hw];exact h.pos⟩,fun k bh=>?_,by omega⟩
 ·rw[hk.block k (by omega) fun a=>J (.inr a),H.block k (by omega),I.block k bi fun a=>J (.inl a)]
 ·rw[hk.block p (by omega) h.np.2,H.block p (by omega),I.block p bj h.np.1]
  exact h.cells
 ·have bb:=ba.lt k K
  rw[hk.block k (by omega) (h.apart k K),H.block k bb]
 ·rcases Z k J with a|a
  ·exact h.apart k K a
  have:=ba.lt k K;omega
 ·rcases Z p J with a|a
  ·exact h.np.2 a
  omega
 rcases bh with a|a
 ·exact .inl a
 rcases Z k a with b|b
 ·exact .inr (.inl b)
 exact .inr (.inr (by omega))
end
end Go.Proofs.YtcaocabmioafcaaGreatDoor
