/- A store of the document on any disk: its pages, its tables with their rows. -/
import Derived.Test.YtcaocabmioafcaaGreatDoorQd
import Derived.Test.YtcaocabmioafcaaGreatDoorWg
namespace Go.Proofs.YtcaocabmioafcaaGreatDoor
open Go.RowKit Go.Shelf Tryz
attribute [local go_sem] Oc0
theorem Qaf {w:World}{B:Nat}{e:TypeId}{z:Nat}{v:Value}{n:Nat}{xs:List Value}(h:w.ownsRow B e z v n xs):w.ownsRow 0 e z v n xs:=
 ⟨h.1,h.2.imp id fun ⟨g,cap,A,H,_,I⟩=>⟨g,cap,A,H,Ob7 _,I⟩⟩
def RtS (F:Nat→Prop)(w:World)(A:RTb)(c:List Value):Prop:=
 ∃ I L J K hs pa pc,c=[.string A.name,.slice I A.types.length L,.slice J A.rows.length K,.slice pa A.pages.length pc]∧(∀ b o,pa=some ⟨b,o,none⟩→F b) ∧
  ∀ H:World,w.heap.size≤H.heap.size→(∀ k,F k→H.heap[k]?=w.heap[k]?)→Kc H I A.types∧TyI H I∧Zd H J hs A.rows∧Uh H pa (A.pages.map nv)
theorem RtS.stands {F G:Nat→Prop}{w w':World}{A:RTb}{c:List Value}(h:RtS F w A c)(hs:w.heap.size≤w'.heap.size)(hk:∀ k,F k→w'.heap[k]?=w.heap[k]?)(H:∀ k,F k→G k):RtS G w' A c:=by
 obtain⟨X,Y,R,U,O,pa,pc,M,N,L⟩:=h
 exact⟨X,Y,R,U,O,pa,pc,M,fun b o e=>H b (N b o e),fun I J K=>L I (Ob2 hs J) fun k hF=>(K k (H k hF)).trans (hk k hF)⟩
theorem RtS.len {F:Nat→Prop}{w:World}{A:RTb}{c:List Value}(h:RtS F w A c):c.length=4:=by
 obtain⟨M,N,K,L,J,pa,pc,H,_,I⟩:=h
 rw[H]
 rfl
structure Ksz (F:Nat→Prop) (w:World) (st:Nat) (q f k:Int) (P:List RP) (Rs:List RTb) (sv tv:Value) (cs:List (List Value)):Prop where
 store:w.heap[st]?=some (.cells #[.int .i64 q,.int .i64 f,.int .i64 k,sv,tv] 83 (0,0))
 pages:Krz w sv P
 own:w.ownsRow 0 113 4 tv Rs.length (cs.flatMap id)
 len:cs.length=Rs.length
 tabs:∀ (j:Nat) R c,Rs[j]?=some R→cs[j]?=some c→RtS F w R c
 st_:¬ F st∧sv.ownBlock≠some st∧tv.ownBlock≠some st
 sv_:∀ g,sv.ownBlock=some g→¬ F g∧tv.ownBlock≠some g
 tv_:∀ g,tv.ownBlock=some g→¬ F g
structure RSt (N:Nat→Prop) (w:World) (st:Nat) (q f k:Int) (P:List RP) (Rs:List RTb):Prop where
 ex:∃ F sv tv cs,Ksz F w st q f k P Rs sv tv cs∧∀ i,i=st∨sv.ownBlock=some i∨tv.ownBlock=some i∨F i→N i
 lt:∀ i,N i→i<w.heap.size
section
variable {F N:Nat→Prop} {w w':World} {st:Nat} {q f k:Int} {P:List RP} {Rs:List RTb} {sv tv:Value} {cs:List (List Value)}
theorem Ksz.lens (h:Ksz F w st q f k P Rs sv tv cs):∀ c∈cs,c.length=4:=fun c H=>by
 obtain⟨j,A,rfl⟩:=Od5 H
 exact(h.tabs j _ _ (Oa3 (by rw[←h.len];exact A)) (Oa3 A)).len
theorem Ksz.stands (h:Ksz F w st q f k P Rs sv tv cs)(hs:w.heap.size≤w'.heap.size)(hk:∀ i,i=st∨sv.ownBlock=some i∨tv.ownBlock=some i∨F i→w'.heap[i]?=w.heap[i]?):Ksz F w' st q f k P Rs sv tv cs:=
 ⟨(hk st (.inl rfl)).trans h.store,h.pages.of_block fun g A=>hk g (.inr (.inl A)),Jl h.own fun g A=>hk g (.inr (.inr (.inl A))),h.len,fun j H c I J=>(h.tabs j H c I J).stands hs (fun i hi=>hk i (.inr (.inr (.inr hi)))) fun _ a=>a,h.st_,h.sv_,h.tv_⟩
theorem RSt.stands (h:RSt N w st q f k P Rs)(hs:w.heap.size≤w'.heap.size)(hk:∀ i,N i→w'.heap[i]?=w.heap[i]?):RSt N w' st q f k P Rs:=by
 obtain⟨⟨F,sv,tv,cs,H,A⟩,I⟩:=h
 exact⟨⟨F,sv,tv,cs,H.stands hs fun i hi=>hk i (A i hi),A⟩,fun i hi=>Oc2 (I i hi) hs⟩
theorem RSt.below (h:RSt N w st q f k P Rs)(A:Below w.heap.size w w'):RSt N w' st q f k P Rs:=h.stands A.size fun i hi=>A.block i (h.lt i hi)
theorem Ksz.at (h:Ksz F w st q f k P Rs sv tv cs){j:Nat}{I:RTb}(J:Rs[j]?=some I):∃ g cap c,tv=.slice (some ⟨g,0,none⟩) Rs.length cap∧cs[j]?=some c∧RtS F w I c∧∀ i v,c[i]?=some v→w.cell? ⟨g,j*4+i,none⟩=some v:=by
 have R:j<Rs.length:=(Ob9.1 J).1
 have U:j<cs.length:=by rw[h.len];exact R
 have A:cs[j]?=some cs[j]:=Oa3 U
 obtain⟨bh,K⟩:=h.own
 rcases K with⟨_,h0⟩|⟨g,cap,Z,Y,bf,N,ba,bb,bc,M⟩
 ·omega
 refine⟨g,cap,cs[j],Y,A,h.tabs j I _ J A,fun i v hi=>?_⟩
 have L:=h.lens _ (Of6 A)
 have O:i<4:=by rw[←L];exact(Ob9.1 hi).1
 have H:=Ks7 id 4 cs h.lens j i O
 rw[A]at H
 simp only[Option.bind_some,id,hi]at H
 have bi:=Kci id 4 cs h.lens
 have X:j*4+i<Rs.length*4:=by omega
 rw[←M,Oh3 X,Oe6]at H
 simp[World.cell?,N,H]
theorem Ksz.slice (h:Ksz F w st q f k P Rs sv tv cs):∃ a c,tv=.slice a Rs.length c:=Jcz h.own
theorem Ksz.rtabs (h:Ksz F w st q f k P Rs sv tv cs):Ku4 w st (Rs.map nmT):=by
 obtain⟨a,c,J⟩:=h.slice
 refine⟨a,c,by rw[Oa6,←J];simp[World.cell?,h.store],fun j R A=>?_⟩
 rw[Ob1]at A
 cases hR:Rs[j]? with
 |none=>rw[hR]at A;cases A
 |some U=>
  rw[hR]at A
  cases A
  obtain⟨g,cap,X,H,_,⟨L,M,Y,Z,hs,pa,pc,rfl,_,K⟩,I⟩:=h.at hR
  rw[J]at H
  injection H with H
  have c0:=I 0 _ rfl
  have c1:=I 1 _ rfl
  obtain⟨N,O,_,_⟩:=K w (Oa2 _) fun _ _=>rfl
  exact⟨g,0,L,M,H,by rw[Od0];exact c0,by rw[Od0];exact c1,N,O⟩
theorem RSt.rtabs (h:RSt N w st q f k P Rs):Ku4 w st (Rs.map nmT):=by
 obtain⟨⟨F,sv,tv,cs,A,H⟩,I⟩:=h
 exact A.rtabs
theorem Qcl (q f:Int)(w:World) :
  Calls prog 11 #[.agg #[.int .i64 q,.int .i64 f]] w fun e w'=>Below w.heap.size w w'∧∃ st A,e=.returned (.pointer (some ⟨st,0,none⟩))∧RSt A w' st q f 0 [] []∧(∀ i,A i→w.heap.size≤i):=by
 refine(Qab q f w).mono fun e w' ⟨I,st,J,hs,H⟩=>⟨I,st,(·=st),J,⟨⟨fun _=>False,.slice none 0 0,.slice none 0 0,[],⟨H,⟨⟨rfl,.inl ⟨rfl,rfl⟩⟩,fun x K=>by simp at K⟩,⟨rfl,.inl ⟨rfl,rfl⟩⟩,rfl,fun j L c h=>by simp at h,by simp[Value.ownBlock],by simp[Value.ownBlock],by simp⟩,?_⟩,?_⟩,?_⟩
 ·rintro i (rfl|h|h|h)
  ·rfl
  ·simp[Value.ownBlock]at h
  ·simp[Value.ownBlock]at h
  exact h.elim
 ·rintro i rfl
  exact Jd H
 rintro i rfl
 exact hs
theorem Qb5 (h:RSt N w st q f k P Rs)(H:P.length≤1000000):Calls prog 20 #[.pointer (some ⟨st,0,none⟩)] w fun e w'=>e=.returned (.int .i64 ((Kr6 P:Nat):Int))∧w'=w:=by
 obtain⟨⟨F,sv,tv,cs,A,I⟩,J⟩:=h
 exact Qa2 st sv P w (by simp[World.cell?,A.store]) A.pages H
theorem Qcb (h:RSt N w st q f k P Rs)(H:P.length≤1000000):Calls prog 27 #[.pointer (some ⟨st,0,none⟩)] w fun e w'=>e=.returned (.bool (Ksm P))∧w'=w:=by
 obtain⟨⟨F,sv,tv,cs,A,I⟩,J⟩:=h
 exact Qcf st sv P w (by simp[World.cell?,A.store]) A.pages H
end
end Go.Proofs.YtcaocabmioafcaaGreatDoor
