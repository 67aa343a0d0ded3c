/- A script and disks as they are handed to the law: read off their reading, with their sizes. Nothing is run. -/
import Derived.Test.YtcaocabmioafcaaGreatDoorNp
import Derived.Test.YtcaocabmioafcaaGreatDoorWv
set_option maxHeartbeats 1000000
set_option maxRecDepth 100000
namespace Go.Proofs.YtcaocabmioafcaaGreatDoor
open Go.RowKit Go.Deep Go.ChangeShapes Go.WideShapes
theorem Qbu:Tryz.prog.cellsOf 40=16:=by kernel_rfl
theorem Jqg:Tryz.prog.cellsOf 38=4:=by kernel_rfl
theorem Qca {α:Type}{l:List α}(h:l.length=16):∃ c0 c1 c2 c3 c4 c5 M N O R A H I J K L,l=[c0,c1,c2,c3,c4,c5,M,N,O,R,A,H,I,J,K,L]:=by
 match l,h with
 |[c0,c1,c2,c3,c4,c5,M,N,O,R,A,H,I,J,K,L],_=>exact⟨c0,c1,c2,c3,c4,c5,M,N,O,R,A,H,I,J,K,L,rfl⟩
section
variable {H:Type} {enc:TypeId×Value→H} {W:World} {base:Nat} {spare:Nat→Bool} {held:Bool} {fuel:Nat} {cs:List Value} {x:DataW H×List MemPlace}
theorem Kza (h:DataW.trod enc Tryz.prog W base spare held fuel 36 cs=some x)(I:cs.length=1):∃ pa pl pc,cs=[.slice pa pl pc]:=by
 obtain⟨L,n,K,J,H⟩:=trod_struct1 Tryz.underlying36 h
 match cs,I with
 |[c0],_=>
  simp[Kx1]at H
  rcases open_slice Tryz.underlying34 H with⟨A,_⟩|⟨a,len,cap,m,n,D,Pl,A,_⟩
  ·exact⟨none,0,0,A⟩
  exact⟨some a,len,cap,A⟩
theorem Qam (h:DataW.trod enc Tryz.prog W base spare held fuel 38 cs=some x)(N:cs.length=4):∃ k0 k1 H I:Int,cs=[.int .i64 k0,.int .i64 k1,.int .i64 H,.int .i64 I]:=by
 obtain⟨xs,n,_,rfl,_,O,A⟩:=DataW.trod_struct Tryz.underlying38 h
 obtain⟨c0,c1,c2,c3,rfl⟩:=Khy N
 match xs,O with
 |[R,U,X,Y],_=>
  obtain⟨k0,J,_,_⟩:=Og3 Tryz.underlying3 (A 0 _ rfl)
  obtain⟨k1,K,_,_⟩:=Og3 Tryz.underlying3 (A 1 _ rfl)
  obtain⟨H,L,_,_⟩:=Og3 Tryz.underlying3 (A 2 _ rfl)
  obtain⟨I,M,_,_⟩:=Og3 Tryz.underlying3 (A 3 _ rfl)
  simp[Jf5]at J K L M
  subst J K L M
  exact⟨k0,k1,H,I,rfl⟩
theorem Qb7 {bh:Nat}{a:Addr}(bx:W.cells? bh a 16=some cs)(h:DataW.trod enc Tryz.prog W base spare held fuel 40 cs=some x)(hw:Ktm 40 x.1):a.spot=none∧∃ o:Opx,(Kte W o.d∧∀ r∈o.d.rs,∀ v∈r,Jg v.n)∧∀ j v,o.cells[j]?=some v→W.cell? ⟨a.block,a.off+j,none⟩=some v:=by
 obtain⟨xs,n,_,rfl,_,bC,A⟩:=DataW.trod_struct Tryz.underlying40 h
 obtain⟨_,bB,U⟩:=World.cells?_some bx
 obtain⟨c0,c1,c2,c3,c4,c5,bL,bM,bN,bO,bE,bG,bH,bI,bJ,bK,rfl⟩:=Qca bB
 match xs,bC with
 |[bQ,bR,bS,bT,bU,bV,bW,bX,bY],_=>
  obtain⟨k0,H,_,_⟩:=Og3 Tryz.underlying3 (A 0 _ rfl)
  obtain⟨k1,I,_,_⟩:=Og3 Tryz.underlying3 (A 1 _ rfl)
  obtain⟨Z,J,_,_⟩:=Og3 Tryz.underlying3 (A 2 _ rfl)
  obtain⟨ba,K,_,_⟩:=Og3 Tryz.underlying3 (A 3 _ rfl)
  obtain⟨bb,L,_,_⟩:=Og3 Tryz.underlying3 (A 4 _ rfl)
  obtain⟨bf,M,_,_⟩:=Op4 Tryz.underlying9 (A 5 _ rfl)
  obtain⟨d,bz,N⟩:=Kzm (by simp[Kvx]) (A 6 _ rfl) (Ktb Tryz.underlying40 hw 6 rfl rfl)
  obtain⟨pa,pl,pc,O⟩:=Kza (A 7 _ rfl) (by simp[Kwd])
  obtain⟨o0,o1,o2,o3,R⟩:=Qam (A 8 _ rfl) (by simp[Jqg])
  simp[Jf5]at H I J K L
  simp[Jh6]at M
  simp[Kvx]at N
  simp[Kwd]at O
  simp[Jqg]at R
  obtain⟨bj,bk,bl,bn,bi⟩:=N
  obtain⟨br,g1,g2,bu⟩:=R
  subst H I J K L M bj bk bl bn bi O br g1 g2 bu
  have Y:a.spot=none:=by simpa [Addr.add] using Oo3 (U 0 (by omega))
  obtain⟨b,bc,bP⟩:=a
  simp only at Y
  subst Y
  refine⟨rfl,⟨k0,k1,Z,ba,bb,bf,d,pa,pl,pc,o0,o1,o2,o3⟩,bz,fun j v X=>?_⟩
  have bA:j<16:=(Ob9.1 X).1
  have q:=U j bA
  have bD:[Value.int .i64 k0,Value.int .i64 k1,Value.int .i64 Z,Value.int .i64 ba,Value.int .i64 bb,Value.string bf,Value.string d.name,Value.slice d.at_ d.ts.length d.ct,Value.slice d.ar d.rs.length d.cr,Value.slice d.ah d.hs.length d.ch,Value.int .i64 d.g,Value.slice pa pl pc,Value.int .i64 o0,Value.int .i64 o1,Value.int .i64 o2,Value.int .i64 o3][j]?=some v:=X
  rw[bD]at q
  have e:(Addr.add ⟨b,bc,none⟩ j)=⟨b,bc+j,none⟩:=by cases j<;>simp[Addr.add]
  rw[e]at q
  exact q
theorem Qbs (h:DataW.trod enc Tryz.prog W base spare held fuel 24 cs=some x)(hw:Ktm 24 x.1):∃ a cap,∃ H:List Opx,cs=[.slice a H.length cap]∧Kub W a H∧∀ m,(∀ I U,x.1=.slice I U→I.length≤m)→H.length≤m:=by
 rcases open_slice Tryz.underlying24 h with⟨A,_⟩|⟨a,len,cap,m,n,D,Pl,A,_,Y,_,N,R,L⟩
 ·exact⟨none,0,[],A,fun k p hk=>by simp at hk,fun m _=>Ob7 _⟩
 have Z:len≤m:=by rw[N];split<;>omega
 rw[R]at hw ⊢
 haveI:Inhabited Opx:=⟨opD 0 Ktr ⟨#[]⟩ 0 0 0⟩
 rcases Kxg (fun b o (p:Opx)=>(Kte W p.d∧∀ r∈p.d.rs,∀ v∈r,Jg v.n)∧∀ j v,p.cells[j]?=some v→W.cell? ⟨b,o+j,none⟩=some v) (a:=a) (len:=len) (z:=16) (by decide) (fun i hi=>by
  obtain⟨X,J,O⟩:=L i (by omega)
  rw[Qbu]at J
  exact Qb7 J O (Kvi Tryz.underlying24 hw hi))with h0|⟨b,o,rfl,f,hf⟩
 ·subst h0
  exact⟨some a,cap,[],A,fun k p hk=>by simp at hk,fun m _=>Ob7 _⟩
 refine⟨some ⟨b,o,none⟩,cap,(List.range len).map f,by rw[A];simp,fun k d hk=>?_,fun m M=>?_⟩
 ·obtain⟨K,rfl⟩:=Ku2 hk
  obtain⟨q,r⟩:=hf k K
  exact⟨q,b,o,rfl,r⟩
 have:=M _ _ rfl
 simpa using this
theorem Kw8 (h:DataW.trod enc Tryz.prog W base spare held fuel 23 cs=some x)(J:cs.length=2):∃ q f:Int,cs=[.int .i64 q,.int .i64 f]:=by
 obtain⟨xs,n,_,rfl,_,K,I⟩:=DataW.trod_struct Tryz.underlying23 h
 match xs,K with
 |[L,M],_=>
  obtain⟨k0,A,_,_⟩:=Og3 Tryz.underlying3 (I 0 _ rfl)
  obtain⟨k1,H,_,_⟩:=Og3 Tryz.underlying3 (I 1 _ rfl)
  match cs,J with
  |[c0,c1],_=>
   simp[Jf5]at A H
   subst A H
   exact⟨k0,k1,rfl⟩
end
end Go.Proofs.YtcaocabmioafcaaGreatDoor
