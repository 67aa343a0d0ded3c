/- Segments laid on the disk, and let go. -/
import Derived.Test.YtcaocabmioafcaaGreatDoorTc
import Derived.Test.YtcaocabmioafcaaGreatDoorDg
set_option maxHeartbeats 2000000
set_option maxRecDepth 100000
namespace Go.Proofs.YtcaocabmioafcaaGreatDoor
open Go.RowKit Tryz
def Jcg (D:DS)(A:List (List Nat)):DS:=A.foldl Jf4 D
theorem Kjz (D:DS)(A:List (List Nat))(l:List Nat):Jcg D (A++[l])=Jf4 (Jcg D A) l:=by simp[Jcg]
theorem Kjd (s d:Nat)(a:Option Addr)(cap:Nat)(hs:List (Option Addr×Nat))(A:List (List Nat))(w:World)(F G:Nat→Prop)(D:DS)(h:Zb w F d D)(Y:Jaf w G a hs A)(L:∀ k,G k→¬ F k)(bc:w.cell? ⟨s,0,none⟩=some (.pointer (some ⟨d,0,none⟩)))(bf:¬ F s)(br:A.length≤1000000)(M:∀ l∈A,l.length≤1000000) :
  Calls prog 74 #[.pointer (some ⟨s,0,none⟩),.slice a A.length cap] w fun e w'=>e=.returned (.tuple #[])∧Zb w' F d (Jcg D A)∧Ju F w w':=by
 have N:Hid (∀ l∈A,l.length≤1000000):=M
 clear M
 go_enter func74,ntmps74
 go_wp2
 go_loopw [8] (fun i wr=>∃ k:Nat,k≤A.length∧i=.int .i64 k∧Zb wr F d (Jcg D (A.take k))∧Ju F w wr) (fun i _=>A.length-(intOf i).toNat)
 case atStart=>exact⟨0,Ob7 _,rfl,by simpa [Jcg] using h,Ju.refl _ _⟩
 case round=>
  rename_i i
  obtain⟨k,hk,rfl,J,H⟩:=hrel
  by_cases I:k<A.length
  ·have O:Hid (Jcg D (A.take (k+1))=Jf4 (Jcg D (A.take k)) A[k]):=by
    show Jcg D (A.take (k+1))=_
    rw[Oc4 I,Kjz]
   have Z:=Y.stands H.size fun b K I=>H.block b I (L b K)
   obtain⟨b,o,bh,bi,rfl,bl,bn,bk,R,ba⟩:=Z.at I
   have c0:=H.cell bc bf
   have bb:=Ki0 d bh bi A[k] wr F _ J R (fun b o K=>L b (ba b o K)) (N.out _ (Ob3 I))
   go_wp2_with (go_at_call 104;refine bb.mono ?_;rintro e bj ⟨rfl,U,X⟩)
   go_roundw
   case rel=>exact⟨k+1,by omega,by go_num,by rw[O.out];exact U,H.trans X⟩
   case measure=>simp[intOf];omega
  obtain rfl:k=A.length:=by omega
  rw[Of2]at J
  go_wp2
  go_end0
  exact⟨rfl,J,H⟩
def Jq (D:DS):List (List UInt8)→DS×List (List Nat)×Option Bool
 |[]=>(D,[],none)
 |t::ts=>match Uy D (Qu t)with
  |(E,l,none)=>((Jq E ts).1,l::(Jq E ts).2.1,(Jq E ts).2.2)
  |(E,l,some x)=>(Jf4 E l,[],some x)
def Kit (A:List (List Nat))(r:DS×List (List Nat)×Option Bool):DS×List (List Nat)×Option Bool:=(r.1,A++r.2.1,r.2.2)
theorem Kjf {A:List (List Nat)}{D E:DS}{t:List UInt8}{ts:List (List UInt8)}{l:List Nat}(h:Uy D (Qu t)=(E,l,none)):Kit A (Jq D (t::ts))=Kit (A++[l]) (Jq E ts):=by
 simp[Kit,Jq,h]
theorem Kjv {A:List (List Nat)}{D E:DS}{t:List UInt8}{ts:List (List UInt8)}{l:List Nat}{x:Bool}(h:Uy D (Qu t)=(E,l,some x)):Kit A (Jq D (t::ts))=(Jf4 E l,A,some x):=by
 simp[Kit,Jq,h]
structure Kiu (w0:World) (F0:Nat→Prop) (w:World) (d:Nat) (E:DS) (sv:Value) (hs:List (Option Addr×Nat)) (ls:List (List Nat)) (FD:Nat→Prop):Prop where
 disk:Zb w FD d E
 from_:∀ k,FD k→F0 k∨w0.heap.size≤k
 lt:∀ k,FD k→k<w.heap.size
 own:Jo w w0.heap.size 27 sv (List.zipWith Kh8 hs ls)
 len:hs.length=ls.length
 segs:∀ (i:Nat) h l,hs[i]?=some h→ls[i]?=some l→Uh w h.1 (l.map nv)
 new:∀ (i:Nat) h,hs[i]?=some h→∀ b o,h.1=some ⟨b,o,none⟩→w0.heap.size≤b∧b<w.heap.size∧¬ FD b∧sv.ownBlock≠some b
 apart:∀ g,sv.ownBlock=some g→¬ FD g
 keep:Ju F0 w0 w
theorem Kiu.stand {H w w':World}{I FD:Nat→Prop}{d:Nat}{E:DS}{sv:Value}{hs:List (Option Addr×Nat)}{A:List (List Nat)}(h:Kiu H I w d E sv hs A FD)(hk:Ju FD w w') :
  Jo w' H.heap.size 27 sv (List.zipWith Kh8 hs A)∧Ju I H w'∧(∀ (i:Nat) x l,hs[i]?=some x→A[i]?=some l→Uh w' x.1 (l.map nv)):=
 ⟨Yd h.own fun g J=>hk.block g (Qk h.own J) (h.apart g J),h.keep.trans' hk fun k R M=>(h.from_ k M).resolve_right (by omega),
  fun i x l K N=>(h.segs i x l K N).of_block hk.size fun b o L O=>hk.block b O (h.new i x K b o L).2.2.1⟩
theorem Kjb (hs:List (Option Addr×Nat))(A:List (List Nat))(h:hs.length=A.length)(x:Option Addr×Nat)(l:List Nat):List.zipWith Kh8 (hs++[x]) (A++[l])=List.zipWith Kh8 hs A++[Kh8 x l]:=by
 rw[Oo5 h];rfl
theorem Kec {α:Type}{xs:List α}{x y:α}{i:Nat}(h:(xs++[x])[i]?=some y):(i<xs.length∧xs[i]?=some y)∨(i=xs.length∧x=y):=by
 rcases Oc1 i xs.length with A|A
 ·rw[Ob0 A]at h
  exact .inl ⟨A,h⟩
 rw[Ob6 A]at h
 rcases Oc1 (i-xs.length) 1 with H|H
 ·have:i-xs.length=0:=by omega
  rw[this]at h
  simp at h
  exact .inr ⟨by omega,h⟩
 rw[Ob4 (by simpa using H)]at h
 simp at h
theorem Kiu.more {bi wr H ba:World}{bk FD M:Nat→Prop}{d:Nat}{E bj:DS}{sv sv':Value}{hs:List (Option Addr×Nat)}{Z:List (List Nat)}(h:Kiu bi bk wr d E sv hs Z FD)(bx:Ju FD wr H)(bE:Zb H M d bj)(U:∀ k,M k→FD k∨wr.heap.size≤k)(bz:∀ k,M k→k<H.heap.size)
  (K:Option Addr) (c1:Nat) (l:List Nat) (bh:Jo H wr.heap.size 3 (.slice K l.length c1) (l.map nv)) (bD:∀ g,(Value.slice K l.length c1).ownBlock=some g→¬ M g) (o:Obj)
  (bI:Jo ba bi.heap.size 27 sv' (List.zipWith Kh8 hs Z++[.slice K l.length c1])) (I:(H.alloc o).grownBy ba sv.ownBlock) (bl:sv'.ownBlock=sv.ownBlock∨sv'.ownBlock=some (H.alloc o).heap.size) :
  Kiu bi bk ba d bj sv' (hs++[(K,c1)]) (Z++[l]) M:=by
 have bK:=I.size
 rw[Oa7]at bK
 have bP:=bx.size
 have bO:=h.keep.size
 have X:∀ g,sv.ownBlock=some g→g<wr.heap.size:=fun g I=>Qk h.own I
 have Y:∀ k,k<H.heap.size→sv.ownBlock≠some k→ba.heap[k]?=H.heap[k]?:=fun k hk bf=>(I.block k (by simp;omega) (Oc5 bf)).trans (Oa9 H o k hk)
 have bA:∀ b,b<H.heap.size→sv.ownBlock≠some b→sv'.ownBlock≠some b:=fun b R bf e=>by
  rcases bl with bb|bb
  ·exact bf (bb▸e)
  rw[bb]at e
  simp at e
  omega
 have bC:∀ g,(Value.slice K l.length c1).ownBlock=some g→wr.heap.size≤g∧g<H.heap.size:=fun g I=>Je bh I
 have bB:∀ b o,K=some ⟨b,o,none⟩→(Value.slice K l.length c1).ownBlock=some b:=(Jji bh).2
 obtain⟨_,L,bJ⟩:=h.stand bx
 refine⟨bE.stands fun k hk bG=>Y k bG fun e=>?_,fun k hk=>?_,fun k hk=>Oc2 (bz k hk) (by omega),?_,by simp[h.len],?_,?_,fun g N=>?_,?_⟩
 ·rcases U k hk with A|A
  ·exact h.apart k e A
  have:=X k e;omega
 ·rcases U k hk with A|A
  ·exact h.from_ k A
  exact .inr (by omega)
 ·rw[Kjb hs Z h.len];exact bI
 ·intro i x bL J O
  rcases Kec J with⟨hi,J⟩|⟨hi,rfl⟩
  ·rw[Ob0 (by rw[←h.len];exact hi)]at O
   exact(bJ i x bL J O).of_block (by omega) fun b o R bc=>Y b bc (h.new i x J b o R).2.2.2
  rw[hi,h.len,Ob6 (Oa2 _)]at O
  simp at O
  subst O
  exact(Jji bh).1.of_block (by omega) fun b o R bc=>Y b bc fun e=>by have:=X b e;have:=(bC b (bB b o R)).1;omega
 ·intro i x J b o bn
  rcases Kec J with⟨hi,J⟩|⟨hi,rfl⟩
  ·obtain⟨n1,bQ,bM,bN⟩:=h.new i x J b o bn
   refine⟨n1,by omega,fun A=>?_,bA b (by omega) bN⟩
   rcases U b A with A|A
   ·exact bM A
   omega
  have br:=bB b o bn
  obtain⟨g1,g2⟩:=bC b br
  exact⟨by omega,by omega,bD b br,bA b g2 fun e=>by have:=X b e;omega⟩
 ·intro A
  rcases bl with e|e
  ·rw[e]at N
   rcases U g A with A|A
   ·exact h.apart g N A
   have:=X g N;omega
  rw[e]at N
  simp at N
  have:=bz g A
  omega
 refine⟨I.os.trans L.os,I.tape.trans L.tape,I.output.trans L.output,Ob2 L.size (by omega),fun k bu bH=>?_⟩
 refine(Y k (Oc2 bu L.size) fun e=>?_).trans (L.block k bu bH)
 have:=(Je h.own e).1
 omega
def Jxo (w:World)(F:Nat→Prop)(d:Nat)(q wr:Addr)(r:DS×List (List Nat)×Option Bool)(e:Ending)(w':World):Prop:=
 Ju F w w'∧∃ FD:Nat→Prop,Zb w' FD d (match r.2.2 with|none=>r.1|some _=>Jcg r.1 r.2.1)∧(∀ k,FD k→F k∨w.heap.size≤k)∧(∀ k,FD k→k<w'.heap.size) ∧
  match r.2.2 with
  |none=>∃ A H hs,e=.returned (.tuple #[.slice A r.2.1.length H,.nilIface])∧Jaf w' (fun k=>w.heap.size≤k∧k<w'.heap.size∧¬ FD k) A hs r.2.1∧r.2.1.length≤H
  |some x=>∃ b,e=.returned (.tuple #[.slice none 0 0,.iface 211 (.pointer (some ⟨b,0,none⟩))])∧w.heap.size≤b∧Yu w' (.iface 211 (.pointer (some ⟨b,0,none⟩))) (if x then q else wr) none (some (-1))∧¬ FD b
theorem Kku {w:World}{B:Nat}{e:TypeId}{a:Option Addr}{n c:Nat}{xs:List Value}(h:Jo w B e (.slice a n c) xs):n≤c:=by
 rcases h.2 with⟨A,h0⟩|⟨g,cap,I,A,_,_,H,_⟩
 ·cases A;exact Oa2 _
 cases A;exact H
theorem Kiu.done {J w:World}{K FD:Nat→Prop}{d:Nat}{E:DS}{a:Option Addr}{n c:Nat}{hs:List (Option Addr×Nat)}{I:List (List Nat)}(h:Kiu J K w d E (.slice a n c) hs I FD):Jaf w (fun k=>J.heap.size≤k∧k<w.heap.size∧¬ FD k) a hs I:=
 ⟨h.len,(Jji h.own).1,h.segs,fun b o A=>⟨(Je h.own ((Jji h.own).2 b o A)).1,(Je h.own ((Jji h.own).2 b o A)).2,h.apart b ((Jji h.own).2 b o A)⟩,fun i x H b o A=>⟨(h.new i x H b o A).1,(h.new i x H b o A).2.1,(h.new i x H b o A).2.2.1⟩⟩
theorem Jzf:(prog.info? 27).map (fun i=>(i.zero,i.size,i.bytes))=some (some (.slice none 0 0),1,24):=by kernel_rfl
theorem Ul {w:World}{K:Array Oper}{rest:List Oper}{o:Oper}{a:Act}{Q:Exit→Act→World→Prop}(U:o.guard=none)(s x:Operand)(t e:TypeId)(z:Value)(H:Nat)
  (X:(prog.info? e).map (fun i=>(i.zero,i.size,i.bytes))=some (some z,1,H)) (bj:z.cells.size=1) (R:H≤64) (bc:prog.underlying t=some (.slice e))
  (Z:o.op=.call {callee:=.builtin .append,args:=#[s,x],argTypes:=#[t,t]})
  (B:Nat) (sv:Value) (xs:List Value) (hs:a.eval s=sv) (ba:Jo w B e sv xs)
  (I:Addr) (c:Nat) (A:List Value) (bh:a.eval x=.slice (some I) A.length c) (bf:∀ j u,A[j]?=some u→w.cell? (I.add j)=some u) (J:∀ u∈A,u.oneCell'=true) (Y:xs.length+A.length≤1000000) (N:B≤w.heap.size)
  (h:∀ sv' w',Jo w' B e sv' (xs++A)→w.grownBy w' sv.ownBlock→(sv'.ownBlock=sv.ownBlock∨sv'.ownBlock=some w.heap.size)→wpList prog K Q rest (a.put o.dst sv') w') :
  wpList prog K Q (o::rest) a w:=by
 obtain⟨i,hi,bi,bb,O⟩:=info_parts X
 refine wpList_append_own_at w U s x t Z B e i _ 1 H bc hi bi bb O bj (by decide) sv xs.length xs hs ba I A.length c A bh (by simp) bf J ?_ ?_ N ?_
 ·unfold maxLen;omega
 ·have:(xs.length+A.length)*H≤1000000*64:=Ol5 Y R
  omega
 intro bk w' J L _ M
 refine h bk w' ?_ L M
 unfold Jo
 simpa using J
theorem Juw (D:DS)(i:Nat):(Jae D i).pages.length=D.pages.length:=by unfold Jae;split<;>simp
theorem Jrz (l:List Nat):∀ D:DS,(Jf4 D l).pages.length=D.pages.length:=by
 induction l with
 |nil=>intro D;rfl
 |cons i l A=>intro D;show (Jf4 (Jae D i) l).pages.length=_;rw[A,Juw]
theorem Jt4 (A:List (List Nat)):∀ D:DS,(Jcg D A).pages.length=D.pages.length:=by
 induction A with
 |nil=>intro D;rfl
 |cons l A H=>intro D;show (Jcg (Jf4 D l) A).pages.length=_;rw[H,Jrz]
theorem Jrh:∀ (A:List (List UInt8))(D:DS),(Uy D A).1.pages.length≤D.pages.length+A.length∧(Uy D A).2.1.length≤A.length
 |[],D=>by simp[Uy]
 |p::A,D=>by
  unfold Uy
  split
  ·simp
  split
  ·simp[Jvn]
  have:=Jrh A (Zn D p)
  have H:=Jxm D p
  simp
  omega
def Jch (ts:List (List UInt8)):Nat:=(ts.map fun t=>(Qu t).length).sum
theorem Ja1 (t:List UInt8)(ts:List (List UInt8)):Jch (t::ts)=(Qu t).length+Jch ts:=by simp[Jch]
def tv (t:List UInt8):Value:=.string (Qw t)
theorem Kks (s d:Nat)(a:Option Addr)(cap:Nat)(ts:List (List UInt8))(w:World)(F:Nat→Prop)(D:DS)(h:Zb w F d D)(hF:∀ k,F k→k<w.heap.size)(O:Uh w a (ts.map tv))(bQ:∀ b o,a=some ⟨b,o,none⟩→¬ F b)(bn:w.cell? ⟨s,0,none⟩=some (.pointer (some ⟨d,0,none⟩)))(bu:¬ F s)(q bz:Addr)
  (X:w.cell? ⟨4,0,none⟩=some (.iface 528 (.pointer (some q)))) (hw:w.cell? ⟨5,0,none⟩=some (.iface 528 (.pointer (some bz)))) (bC:¬ F 4) (bD:¬ F 5) (ca:D.pages.length+Jch ts≤950000) (cn:ts.length≤100000) (bJ:∀ t∈ts,t.length≤1000000) :
  Calls prog 91 #[.pointer (some ⟨s,0,none⟩),.slice a ts.length cap] w fun e w'=>Jxo w F d q bz (Jq D ts) e w':=by
 have bM:Hid (∀ t∈ts,t.length≤1000000):=bJ
 clear bJ
 go_enter func91,ntmps91
 go_wp2
 go_loopw [6,13] (fun sv i wr=>∃ (k:Nat) (E:DS) (hs:List (Option Addr×Nat)) (H:List (List Nat)) (FD:Nat→Prop),k≤ts.length∧i=.int .i64 k∧H.length≤k∧E.pages.length+Jch (ts.drop k)≤950000∧Kiu w F wr d E sv hs H FD∧Hid ((∀ l∈H,l.length≤1000000)∧Jq D ts=Kit H (Jq E (ts.drop k)))) (fun _ i _=>ts.length-(intOf i).toNat)
 case atStart=>exact⟨0,D,[],[],F,Ob7 _,rfl,Oa2 _,by simpa using ca,⟨h,fun k hk=>.inl hk,hF,Jo.nil _ _ _,rfl,fun i h l hi=>by simp at hi,fun i h hi=>by simp at hi,fun g bV=>by simp[Value.ownBlock]at bV,Ju.refl _ _⟩,by show _∧_;exact⟨by simp,by simp[Kit]⟩⟩
 case round=>
  rename_i sv i
  obtain⟨k,E,hs,H,FD,hk,rfl,cl,bU,A,K⟩:=hrel
  by_cases bf:k<ts.length
  ·have R:Hid (ts.drop k=ts[k]::ts.drop (k+1)):=Oi1 bf
   rw[R.out,Ja1]at bU
   rcases O with O|⟨b,o,rfl,ck,O⟩
   ·simp at O;subst O;simp at bf
   have cj:wr.cell? ⟨b,o+k,none⟩=some (.string (Qw ts[k])):=A.keep.cell (O k _ (by simp[bf];rfl)) (bQ b o rfl)
   have c0:=A.keep.cell bn bu
   have bl:=Kkq d ts[k] wr FD E A.disk A.lt q bz (A.keep.cell X bC) (A.keep.cell hw bD) (fun I=>?_) (fun I=>?_) (by omega) (bM.out _ (Ob3 bf))
   ·obtain⟨bA,bB,Y,_⟩:=A.own.cells
    have Z:(List.zipWith Kh8 hs H).length=H.length:=by simp[A.len]
    rw[Z]at Y
    have HZ:Hid ((List.zipWith Kh8 hs H).length=H.length):=Z
    clear Z
    subst Y
    have bE:∀ (J:Nat→Prop),(∀ k,J k→FD k∨wr.heap.size≤k)→∀ k,k<w.heap.size→J k→F k:=fun J bc k hk I=>by
     have:=A.keep.size
     rcases bc k I with h|h
     ·exact(A.from_ k h).resolve_right (by omega)
     omega
    have ba:=bE
    replace ba:Hid (∀ (J:Nat→Prop),(∀ k,J k→FD k∨wr.heap.size≤k)→∀ k,k<w.heap.size→J k→F k):=ba
    clear bE
    have M:Hid (Kiu w F wr d E (.slice bA H.length bB) hs H FD):=A
    have cb:=A.keep.size
    clear A
    rcases hr:Uy E (Qu ts[k])with⟨E1,l,r⟩
    have bG:=Jrh (Qu ts[k]) E
    rw[hr]at bl bG
    simp only at bG
    cases r with
    |none=>
     have U:Hid ((∀ bx∈H++[l],bx.length≤1000000)∧Jq D ts=Kit (H++[l]) (Jq E1 (ts.drop (k+1)))):=by
      refine⟨fun bx bX=>?_,by rw[K.out.2,R.out,Kjf hr]⟩
      rcases Od2.1 bX with h|h
      ·exact K.out.1 bx h
      simp at h;subst h;omega
     clear K R hr
     generalize ts[k]=tk at *
     go_wp2_with (first|(go_at_call 130;refine bl.mono ?_;rintro e bb ⟨L,J,bi,N,bk,cu,rfl,bI,bP⟩;obtain⟨bh,c1,br,_⟩:=bI.cells;rw[Oa6]at br;subst br;have br:=L.size)|(at_builtin;go_must (refine Ul (by rfl) _ _ 125 27 _ 24 Jzf (by rfl) (by decide) (by kernel_rfl) (by rfl) w.heap.size _ _ (by rfl) (Jo.alloc (M.out.stand L).1 _) ⟨bb.heap.size,0,none⟩ 1 [.slice bh l.length c1] (by rfl) (by exact Ua bb _ _) (by intro u bK;simp at bK;subst bK;rfl) (by rw[HZ.out];simp only[List.length_cons,List.length_nil];omega) (by simp;omega) ?_);intro sv' cv bc bN bO;obtain⟨cf,ci,rfl,_⟩:=bc.cells))
     go_roundw
     case rel=>
      have X:=M.out.more L bi N bk bh c1 l bI bP _ bc bN bO
      simp only[Oa8,Oj8,List.length_cons,List.length_nil,Od0]at X
      exact⟨k+1,E1,_,_,_,by omega,by go_num,by simp;omega,by omega,X,U.out⟩
     case measure=>simp[intOf];omega
    |some x=>
     have U:Hid (Jq D ts=(Jf4 E1 l,H,some x)):=by show _=_;rw[K.out.2,R.out,Kjv hr]
     have bL:Hid (∀ l∈H,l.length≤1000000):=K.out.1
     clear K R hr
     generalize ts[k]=tk at *
     go_wp2_with (first|(go_at_call 130;refine bl.mono ?_;rintro e bb ⟨L,J,bi,N,bk,b1,rfl,bR,bS,bH⟩;have bZ:=M.out.done.stands L.size (fun k hk bW=>L.block k bW hk.2.2);have bY:=Kjd s d bA bB hs H bb J _ _ bi bZ (fun k hk I=>(N k I).elim hk.2.2 (fun h=>absurd hk.2.1 (by omega))) (L.cell c0 (fun I=>(M.out.from_ s I).elim bu (fun h=>by have:=Jm bn;simp at this;omega))) (fun I=>bu (ba.out J N s (Jm bn) I)) (by omega) bL.out)|(go_at_call 74;refine bY.mono ?_;rintro e cc ⟨rfl,bT,bj⟩))
     go_ret2
     rw[U.out]
     exact⟨(M.out.stand L).2.1.trans' bj (ba.out J N),J,bT,fun k I=>(N k I).elim (M.out.from_ k) fun h=>.inr (by omega),fun k I=>Oc2 (bk k I) bj.size,b1,rfl,Ob2 cb bR,Ki6 bS bj bH,bH⟩
   ·exact(A.from_ _ I).elim bC fun h=>by have:=Jm X;simp at this;omega
   exact(A.from_ _ I).elim bD fun h=>by have:=Jm hw;simp at this;omega
  obtain rfl:k=ts.length:=by omega
  obtain⟨bh,c1,Y,_⟩:=A.own.cells
  have Z:(List.zipWith Kh8 hs H).length=H.length:=by simp[A.len]
  rw[Z]at Y
  subst Y
  have U:Hid (Jq D ts=(E,H,none)):=by show _=_;rw[K.out.2,List.drop_length];simp[Kit,Jq]
  clear K
  go_wp2
  go_ret2
  rw[U.out]
  exact⟨A.keep,FD,A.disk,A.from_,A.lt,_,_,hs,rfl,A.done,Kku A.own⟩
end Go.Proofs.YtcaocabmioafcaaGreatDoor
