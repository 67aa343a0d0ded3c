/- What package segments' Pack answers: for every type, way and list of values. -/
import Derived.Test.YtcaocabmioafcaaGreatDoorDb
import Derived.Test.YtcaocabmioafcaaGreatDoorEw
import Derived.Recover
import Derived.Defers
import Derived.Lib.ConvBytes
import Derived.Lib.Strings
import Derived.Lib.Walk
import Derived.Lib.BufferWrite
import Derived.Lib.UnsafeStr
import Derived.Laws.MakeOwn
import Derived.Test.YtcaocabmioafcaaGreatDoorKe
set_option maxHeartbeats 4000000
set_option maxRecDepth 100000
namespace Go.Proofs.YtcaocabmioafcaaGreatDoor
section
open Go.RowKit Tryz
theorem Jvw:(prog.info? 136).map (fun i=>i.size)=some 1:=by kernel_rfl
theorem Jbb (A H I J:Value)(w:World) :
  (Instr.index 294 (.agg #[A,H,I,J]) (.int .i64 0)).run prog w=.ok A w ∧
  (Instr.index 294 (.agg #[A,H,I,J]) (.int .i64 1)).run prog w=.ok H w ∧
  (Instr.index 294 (.agg #[A,H,I,J]) (.int .i64 2)).run prog w=.ok I w ∧
  (Instr.index 294 (.agg #[A,H,I,J]) (.int .i64 3)).run prog w=.ok J w:=by
 obtain⟨i,hi,hs⟩:=Oe9.1 Jvw
 refine⟨?_,?_,?_,?_⟩<;>simp[Instr.index,run_underlying underlying294,run_underlying underlying136,asIntOf,part,isAgg,sizeOf,typeInfo,hi,hs]
def Jdq (t:Int)(xs:List V):Prop:=xs.length≤64∧∀ j (A:j<xs.length),okB t xs[j].k xs[j].n xs[j].s=true
def Jdt (t A:Int)(l:List V):List UInt8:=
 if A=0 then Yv l else if A=1 then Jds l else if A=2 then Yc l else Zz t l
def Jav (t A:Int)(xs:List V):List UInt8:=Kz t A xs++Jdt t A (Jz xs)
theorem Jgz (t:Int)(xs:List V)(h:Jdq t xs):∀ v∈Jz xs,Ksq v.k v.s:=by
 intro v I
 obtain⟨H,hk⟩:=Om0.1 I
 obtain⟨j,A,rfl⟩:=Od5 H
 have:=h.2 j A
 unfold okB okK at this
 simp at this hk
 unfold Ksq
 omega
theorem Jkz (w:World)(B:Nat)(t:Int)(A:B≤w.heap.size):WAt (w.alloc (.cells #[.int .i64 t,.slice none 0 0] 292)) B w.heap.size t []:=
 ⟨A,.slice none 0 0,heap_alloc_new _ _,Jo.nil _ _ _,by simp[Value.ownBlock]⟩
theorem Jgw (w:World)(t:Int){k:Nat}(hk:k<w.heap.size):Ya (w.alloc (.cells #[.int .i64 t,.slice none 0 0] 292)) w.heap.size k:=by
 refine⟨by simp;omega,by omega,fun sv hs=>?_⟩
 have:sv=.slice none 0 0:=by simpa using hs.symm
 subst this
 simp[Value.ownBlock]
theorem Jdw {w w':World}{B g:Nat}{t:Int}{bs:List UInt8}(h:WAt w B g t bs)(hk:Ky w w' g)(A:World)(I:B=A.heap.size)(h0:Below A.heap.size A w):Below A.heap.size A w':=by
 refine⟨hk.os.trans h0.os,hk.tape.trans h0.tape,hk.output.trans h0.output,Ob2 h0.size hk.size,fun k H=>?_⟩
 have hs:=h0.size
 rw[(hk.block k (h.apart (by omega) (by omega))).1,h0.block k H]
theorem Jzl (t H:Int)(a:Option Addr)(cap:Nat)(xs:List V)(w:World)(O:xs.length≤maxLen)(U:Jv w a xs)(A:Value)(I:w.cell? ⟨15,0,none⟩=some A)(L:¬ (way t H=true∧Jdq t xs)) :
  Calls prog 128 #[.int .i64 t,.int .i64 H,.slice a xs.length cap] w fun e w'=>e=.returned (.tuple #[.string (Qw []),A])∧Below w.heap.size w w':=by
 cases hway:way t H
 ·go_enter func128,ntmps128
  go_wp2_with (go_at_call 126;refine(Ja3 _ _ _).mono ?_;rintro e w' ⟨rfl,R⟩;rw[hway];subst w')
  go_quiet (fail)
  go_wp2
  go_ret2
  exact⟨rfl,Jp (Oa5 _ _) _⟩
 have J:¬ Jdq t xs:=fun h=>L ⟨hway,h⟩
 have N:Hid (false=true↔xs.length≤64∧∀ j (Y:j<xs.length),okB t xs[j].k xs[j].n xs[j].s=true):=⟨fun h=>by simp at h,fun h=>absurd h J⟩
 clear L J
 have M:=Jm I
 simp only at M
 go_enter func128,ntmps128
 go_wp2_with (first
  |(go_at_call 126;refine(Ja3 _ _ _).mono ?_;rintro e w' ⟨rfl,R⟩;rw[hway];subst w')
  |(go_at_call 158;refine(Zl t a cap xs _ O U false N.out).mono ?_;rintro e w1 ⟨rfl,K⟩;have X:w1.cell? ⟨15,0,none⟩=some A:=(by rw[(Kx K).1 15 0 M];exact I)))
 go_quiet (fail)
 go_wp2
 go_ret2
 exact⟨rfl,Jp K _⟩
theorem Jvu (t:Int)(a:Option Addr)(cap:Nat)(xs:List V)(w:World)(Z:xs.length≤maxLen)(N:Jv w a xs)(A:Value)(I:w.cell? ⟨2,0,none⟩=some A)(bf:way t 1=true)(M:Jdq t xs)(bn:16<(Ym [] (Jz xs)).length) :
  Calls prog 128 #[.int .i64 t,.int .i64 1,.slice a xs.length cap] w fun e w'=>e=.returned (.tuple #[.string (Qw []),A])∧Below w.heap.size w w':=by
 have L:=Jm I
 simp only at L
 have U:=M.1
 have bu:=Zy xs
 go_enter func128,ntmps128
 go_wp2_with fail
 refine(Ja3 _ _ _).mono ?_
 rintro e w' ⟨rfl,bz⟩
 rw[bf]
 subst w'
 go_wp2_with fail
 refine(Zl t a cap xs _ Z N true ⟨fun _=>M,fun _=>rfl⟩).mono ?_
 rintro e w1 ⟨rfl,J⟩
 go_wp2_with fail
 refine(Yr a cap xs w1 U (N.below J)).mono ?_
 rintro e bh ⟨bA,rfl,ba,X⟩
 obtain⟨O,R,rfl,bc⟩:=ba.vals
 generalize Jz xs=H at *
 go_wp2_with fail
 refine(Jd8 O R H bh (by omega) bc).mono ?_
 rintro e bi ⟨bB,rfl,bb,Y⟩
 obtain⟨bj,bk,rfl,bx⟩:=bb.vals
 have K:=Jb J (Jb X Y)
 have bl:bi.cell? ⟨2,0,none⟩=some A:=by rw[(Kx K).1 2 0 L];exact I
 have br:(16:Int)<((Ym [] H).length:Int):=by omega
 generalize Ym [] H=d at *
 go_wp2
 go_quiet (fail)
 go_wp2
 go_ret2
 exact⟨rfl,Jp K _⟩
theorem Jiv {w:World}{B g:Nat}{t:Int}{bs:List UInt8}(h:WAt w B g t bs)(K:bs≠[]){sv:Value}(I:w.cell? ⟨g,1,none⟩=some sv):(convert 137 9 sv).run prog w=.ok (.string (Qw bs)) w:=by
 obtain⟨sv',_,H,_,L,_⟩:=h.cells
 rw[I]at H
 cases H
 obtain⟨a,cap,rfl,A⟩:=L.cells
 rw[Oa6]
 rcases A with A|⟨b,o,rfl,_,A⟩
 ·exact absurd (List.map_eq_nil_iff.1 A) K
 refine Jc6 w ⟨b,o,none⟩ cap bs fun j u J=>?_
 rw[Addr.add_mid]
 exact A j u J
theorem Yt.cap {w:World}{B:Nat}{a:Option Addr}{n c:Nat}{vs:List V}(h:Yt w B (.slice a n c) vs):vs.length≤c:=by
 rcases h.2 with⟨_,h0⟩|⟨g,cap,H,A,_,_,I,_⟩
 ·omega
 injection A with _ _ h3
 omega
theorem Jtj (t:Int)(a:Option Addr)(cap:Nat)(xs:List V)(w:World)(bK:xs.length≤maxLen)(O:Jv w a xs)(bQ:way t 0=true)(M:Jdq t xs) :
  Calls prog 128 #[.int .i64 t,.int .i64 0,.slice a xs.length cap] w fun e w'=>e=.returned (.tuple #[.string (Qw (Jav t 0 xs)),.nilIface])∧Below w.heap.size w w':=by
 have U:=M.1
 have bX:=Zy xs
 have bE:=Jgz t xs M
 have bk:Hid (Jav t 0 xs=Kz t 0 xs++Yv (Jz xs)):=rfl
 have bW:(Kz t 0 xs).length≤1000:=by unfold Kz;rw[Oa8,Qb,Oa6];simp only[List.length_cons,List.length_nil];omega
 have bG:Kz t 0 xs≠[]:=by simp[Kz]
 go_enter func128,ntmps128
 go_wp2_with fail
 refine(Ja3 _ _ _).mono ?_
 rintro e w' ⟨rfl,ca⟩
 rw[bQ]
 subst w'
 go_wp2_with fail
 refine(Zl t a cap xs _ bK O true ⟨fun _=>M,fun _=>rfl⟩).mono ?_
 rintro e w1 ⟨rfl,Y⟩
 go_wp2_with fail
 refine(Yr a cap xs w1 U (O.below Y)).mono ?_
 rintro e A ⟨cc,rfl,N,bx⟩
 have bA:=fun b J=>Je N (g:=b) J
 obtain⟨R,bl,rfl,bM⟩:=N.vals
 clear N
 generalize Jz xs=bJ at *
 have Z:=Jb Y bx
 have bi:=O.below Z
 have bZ:A.heap.size≤A.heap.size:=Oa2 _
 have ba:=Z
 go_wp2_with fail
 have bc:=Jkz A w.heap.size t ba.size
 have I:∀ k,k<A.heap.size→Ya (A.alloc (.cells #[.int .i64 t,.slice none 0 0] 292)) A.heap.size k:=fun k hk=>Jgw A t hk
 have H:Below A.heap.size A (A.alloc (.cells #[.int .i64 t,.slice none 0 0] 292)):=(Oa5 _ _).alloc (Oa2 _) _
 have bR:=bi.below H
 have bN:=bM.below H
 have bz:=Jb ba H
 have X:∀ b o,R=some ⟨b,o,none⟩→Ya (A.alloc (.cells #[.int .i64 t,.slice none 0 0] 292)) A.heap.size b:=by
  intro b o K
  subst K
  have:=bA b rfl
  exact I b (by omega)
 have bu:xs≠[]→∀ b o,a=some ⟨b,o,none⟩→Ya (A.alloc (.cells #[.int .i64 t,.slice none 0 0] 292)) A.heap.size b:=by
  intro bL b o K
  rcases bi with h|⟨bU,cb,e,J,_⟩
  ·exact absurd h bL
  rw[K]at e;cases e;exact I b J
 generalize bn:A.alloc (.cells #[.int .i64 t,.slice none 0 0] 292)=bS at *
 generalize bD:A.heap.size=g at *
 clear bn I H bD
 refine(Jg0 w.heap.size g t 0 a cap xs bS bc U bR bu).mono ?_
 rintro e bT ⟨rfl,bf,bH⟩
 go_wp2_with fail
 refine(Jgs g bT).mono ?_
 rintro e bj ⟨rfl,bb⟩
 have bP:=bf.below bb
 have L:=bH.trans (Ky.of_below bb bf.lt)
 have bO:=Zk bN L X
 have br:=Jde L X
 have bY:=(Jbb (.func (.func 190) #[.pointer (some ⟨g,0,none⟩)] #[]) (.func (.func 191) #[.pointer (some ⟨g,0,none⟩)] #[]) (.func (.func 192) #[.pointer (some ⟨g,0,none⟩)] #[]) (.func (.func 193) #[.pointer (some ⟨g,0,none⟩)] #[]) bj).1
 generalize Kz t 0 xs=bV at *
 go_wp2_with fail
 refine(Jk4 w.heap.size g t R bl bJ _ bj bP (by omega) (by omega) bE bO br).mono ?_
 rintro e ci ⟨rfl,bh,bI⟩
 obtain⟨cf,c0,c1,_,_,_⟩:=bh.cells
 have bB:=Jiv bh (by simp[bG]) c1
 have bC:=Jdw bc (L.trans bI) w rfl bz
 rw[←bk.out]at bB
 go_wp2
 go_ret2
 exact⟨rfl,bC⟩
theorem Jja (t:Int)(a:Option Addr)(cap:Nat)(xs:List V)(w:World)(bN:xs.length≤maxLen)(Z:Jv w a xs)(bT:way t 1=true)(X:Jdq t xs)(cb:(Ym [] (Jz xs)).length≤16) :
  Calls prog 128 #[.int .i64 t,.int .i64 1,.slice a xs.length cap] w fun e w'=>e=.returned (.tuple #[.string (Qw (Jav t 1 xs)),.nilIface])∧Below w.heap.size w w':=by
 have bb:=X.1
 have ci:=Zy xs
 have bI:=Jgz t xs X
 have bu:Hid (Jav t 1 xs=Kz t 1 xs++Jds (Jz xs)):=rfl
 have bJ:(Kz t 1 xs).length≤1000:=by unfold Kz;rw[Oa8,Qb,Oa6];simp only[List.length_cons,List.length_nil];omega
 have bK:Kz t 1 xs≠[]:=by simp[Kz]
 go_enter func128,ntmps128
 go_wp2_with fail
 refine(Ja3 _ _ _).mono ?_
 rintro e w' ⟨rfl,cl⟩
 rw[bT]
 subst w'
 go_wp2_with fail
 refine(Zl t a cap xs _ bN Z true ⟨fun _=>X,fun _=>rfl⟩).mono ?_
 rintro e w1 ⟨rfl,bf⟩
 go_wp2_with fail
 refine(Yr a cap xs w1 bb (Z.below bf)).mono ?_
 rintro e bV ⟨cu,rfl,Y,bB⟩
 have bD:=fun b N=>Je Y (g:=b) N
 obtain⟨L,ba,rfl,J⟩:=Y.vals
 clear Y
 generalize Jz xs=U at *
 have bh:=Jb bf bB
 have K:=Z.below bh
 go_wp2_with fail
 refine(Jd8 L ba U bV (by omega) J).mono ?_
 rintro e A ⟨cv,rfl,bP,H⟩
 obtain⟨bY,ca,rfl,_⟩:=bP.vals
 have cc:((Ym [] U).length:Int)≤(16:Int):=by omega
 have ck:=H.size
 have bi:=Jb bh H
 replace K:=K.below H
 replace J:=J.below H
 go_wp2_with fail
 have bk:=Jkz A w.heap.size t bi.size
 have M:∀ k,k<A.heap.size→Ya (A.alloc (.cells #[.int .i64 t,.slice none 0 0] 292)) A.heap.size k:=fun k hk=>Jgw A t hk
 have I:Below A.heap.size A (A.alloc (.cells #[.int .i64 t,.slice none 0 0] 292)):=(Oa5 _ _).alloc (Oa2 _) _
 have bU:=K.below I
 have bQ:=J.below I
 have bC:=Jb bi I
 have bc:∀ b o,L=some ⟨b,o,none⟩→Ya (A.alloc (.cells #[.int .i64 t,.slice none 0 0] 292)) A.heap.size b:=by
  intro b o O
  subst O
  have:=bD b rfl
  exact M b (by omega)
 have bA:xs≠[]→∀ b o,a=some ⟨b,o,none⟩→Ya (A.alloc (.cells #[.int .i64 t,.slice none 0 0] 292)) A.heap.size b:=by
  intro bO b o O
  rcases K with h|⟨bZ,cn,e,N,_⟩
  ·exact absurd h bO
  rw[O]at e;cases e;exact M b N
 generalize bx:A.alloc (.cells #[.int .i64 t,.slice none 0 0] 292)=bW at *
 generalize bH:A.heap.size=g at *
 clear bx M I bH
 refine(Jg0 w.heap.size g t 1 a cap xs bW bk bb bU bA).mono ?_
 rintro e bX ⟨rfl,bl,bL⟩
 go_wp2_with fail
 refine(Jgs g bX).mono ?_
 rintro e br ⟨rfl,bj⟩
 have bS:=bl.below bj
 have R:=bL.trans (Ky.of_below bj bl.lt)
 have bR:=Zk bQ R bc
 have bz:=Jde R bc
 have cj:=(Jbb (.func (.func 190) #[.pointer (some ⟨g,0,none⟩)] #[]) (.func (.func 191) #[.pointer (some ⟨g,0,none⟩)] #[]) (.func (.func 192) #[.pointer (some ⟨g,0,none⟩)] #[]) (.func (.func 193) #[.pointer (some ⟨g,0,none⟩)] #[]) br).2.1
 generalize Kz t 1 xs=cf at *
 go_wp2_with fail
 refine(Jki w.heap.size g t L ba U _ br bS bJ (by omega) bI bR bz).mono ?_
 rintro e cy ⟨rfl,bn,bM⟩
 obtain⟨cx,c0,c1,_,_,_⟩:=bn.cells
 have bE:=Jiv bn (by simp[bK]) c1
 have bG:=Jdw bk (R.trans bM) w rfl bC
 rw[←bu.out]at bE
 go_wp2
 go_ret2
 exact⟨rfl,bG⟩
theorem Jtt (t:Int)(a:Option Addr)(cap:Nat)(xs:List V)(w:World)(bL:xs.length≤maxLen)(O:Jv w a xs)(bR:way t 2=true)(N:Jdq t xs) :
  Calls prog 128 #[.int .i64 t,.int .i64 2,.slice a xs.length cap] w fun e w'=>e=.returned (.tuple #[.string (Qw (Jav t 2 xs)),.nilIface])∧Below w.heap.size w w':=by
 have U:=N.1
 have bY:=Zy xs
 have bG:=Jgz t xs N
 have bk:Hid (Jav t 2 xs=Kz t 2 xs++Yc (Jz xs)):=rfl
 have bX:(Kz t 2 xs).length≤1000:=by unfold Kz;rw[Oa8,Qb,Oa6];simp only[List.length_cons,List.length_nil];omega
 have bH:Kz t 2 xs≠[]:=by simp[Kz]
 go_enter func128,ntmps128
 go_wp2_with fail
 refine(Ja3 _ _ _).mono ?_
 rintro e w' ⟨rfl,cb⟩
 rw[bR]
 subst w'
 go_wp2_with fail
 refine(Zl t a cap xs _ bL O true ⟨fun _=>N,fun _=>rfl⟩).mono ?_
 rintro e w1 ⟨rfl,Y⟩
 go_wp2_with fail
 refine(Yr a cap xs w1 U (O.below Y)).mono ?_
 rintro e A ⟨cf,rfl,I,bx⟩
 have bA:=fun b K=>Je I (g:=b) K
 obtain⟨R,bl,rfl,bN⟩:=I.vals
 have bB:=I.cap
 clear I
 generalize Jz xs=bK at *
 have Z:=Jb Y bx
 have bi:=O.below Z
 have ca:A.heap.size≤A.heap.size:=Oa2 _
 have ba:=Z
 go_wp2_with fail
 have bc:=Jkz A w.heap.size t ba.size
 have J:∀ k,k<A.heap.size→Ya (A.alloc (.cells #[.int .i64 t,.slice none 0 0] 292)) A.heap.size k:=fun k hk=>Jgw A t hk
 have H:Below A.heap.size A (A.alloc (.cells #[.int .i64 t,.slice none 0 0] 292)):=(Oa5 _ _).alloc (Oa2 _) _
 have bS:=bi.below H
 have bO:=bN.below H
 have bz:=Jb ba H
 have X:∀ b o,R=some ⟨b,o,none⟩→Ya (A.alloc (.cells #[.int .i64 t,.slice none 0 0] 292)) A.heap.size b:=by
  intro b o L
  subst L
  have:=bA b rfl
  exact J b (by omega)
 have bu:xs≠[]→∀ b o,a=some ⟨b,o,none⟩→Ya (A.alloc (.cells #[.int .i64 t,.slice none 0 0] 292)) A.heap.size b:=by
  intro bM b o L
  rcases bi with h|⟨bV,cc,e,K,_⟩
  ·exact absurd h bM
  rw[L]at e;cases e;exact J b K
 generalize bn:A.alloc (.cells #[.int .i64 t,.slice none 0 0] 292)=bT at *
 generalize bE:A.heap.size=g at *
 clear bn J H bE
 refine(Jg0 w.heap.size g t 2 a cap xs bT bc U bS bu).mono ?_
 rintro e bU ⟨rfl,bf,bI⟩
 go_wp2_with fail
 refine(Jgs g bU).mono ?_
 rintro e bj ⟨rfl,bb⟩
 have bQ:=bf.below bb
 have M:=bI.trans (Ky.of_below bb bf.lt)
 have bP:=Zk bO M X
 have br:=Jde M X
 have bZ:=(Jbb (.func (.func 190) #[.pointer (some ⟨g,0,none⟩)] #[]) (.func (.func 191) #[.pointer (some ⟨g,0,none⟩)] #[]) (.func (.func 192) #[.pointer (some ⟨g,0,none⟩)] #[]) (.func (.func 193) #[.pointer (some ⟨g,0,none⟩)] #[]) bj).2.2.1
 generalize Kz t 2 xs=bW at *
 go_wp2_with fail
 refine(Jz0 w.heap.size g t R bl bK _ bj bQ (by omega) (by omega) bB bG bP br).mono ?_
 rintro e cj ⟨rfl,bh,bJ⟩
 obtain⟨ci,c0,c1,_,_,_⟩:=bh.cells
 have bC:=Jiv bh (by simp[bH]) c1
 have bD:=Jdw bc (M.trans bJ) w rfl bz
 rw[←bk.out]at bC
 go_wp2
 go_ret2
 exact⟨rfl,bD⟩
theorem Jp7 (t:Int)(a:Option Addr)(cap:Nat)(xs:List V)(w:World)(bJ:xs.length≤maxLen)(M:Jv w a xs)(bP:way t 3=true)(ba:Jdq t xs) :
  Calls prog 128 #[.int .i64 t,.int .i64 3,.slice a xs.length cap] w fun e w'=>e=.returned (.tuple #[.string (Qw (Jav t 3 xs)),.nilIface])∧Below w.heap.size w w':=by
 have O:=ba.1
 have bV:=Zy xs
 have bj:Hid (Jav t 3 xs=Kz t 3 xs++Zz t (Jz xs)):=rfl
 have bD:(Kz t 3 xs).length≤1000:=by unfold Kz;rw[Oa8,Qb,Oa6];simp only[List.length_cons,List.length_nil];omega
 have bE:Kz t 3 xs≠[]:=by simp[Kz]
 go_enter func128,ntmps128
 go_wp2_with fail
 refine(Ja3 _ _ _).mono ?_
 rintro e w' ⟨rfl,bY⟩
 rw[bP]
 subst w'
 go_wp2_with fail
 refine(Zl t a cap xs _ bJ M true ⟨fun _=>ba,fun _=>rfl⟩).mono ?_
 rintro e w1 ⟨rfl,R⟩
 go_wp2_with fail
 refine(Yr a cap xs w1 O (M.below R)).mono ?_
 rintro e A ⟨ca,rfl,L,bu⟩
 have bz:=fun b J=>Je L (g:=b) J
 obtain⟨N,bk,rfl,bL⟩:=L.vals
 clear L
 generalize Jz xs=bI at *
 have U:=Jb R bu
 have bh:=M.below U
 have bX:A.heap.size≤A.heap.size:=Oa2 _
 have X:=U
 go_wp2_with fail
 have bb:=Jkz A w.heap.size t X.size
 have I:∀ k,k<A.heap.size→Ya (A.alloc (.cells #[.int .i64 t,.slice none 0 0] 292)) A.heap.size k:=fun k hk=>Jgw A t hk
 have H:Below A.heap.size A (A.alloc (.cells #[.int .i64 t,.slice none 0 0] 292)):=(Oa5 _ _).alloc (Oa2 _) _
 have bQ:=bh.below H
 have bM:=bL.below H
 have bx:=Jb X H
 have bn:∀ b o,N=some ⟨b,o,none⟩→Ya (A.alloc (.cells #[.int .i64 t,.slice none 0 0] 292)) A.heap.size b:=by
  intro b o K
  subst K
  have:=bz b rfl
  exact I b (by omega)
 have br:xs≠[]→∀ b o,a=some ⟨b,o,none⟩→Ya (A.alloc (.cells #[.int .i64 t,.slice none 0 0] 292)) A.heap.size b:=by
  intro bK b o K
  rcases bh with h|⟨bT,bZ,e,J,_⟩
  ·exact absurd h bK
  rw[K]at e;cases e;exact I b J
 generalize bl:A.alloc (.cells #[.int .i64 t,.slice none 0 0] 292)=bR at *
 generalize bC:A.heap.size=g at *
 clear bl I H bC
 refine(Jg0 w.heap.size g t 3 a cap xs bR bb O bQ br).mono ?_
 rintro e bS ⟨rfl,bc,bG⟩
 go_wp2_with fail
 refine(Jgs g bS).mono ?_
 rintro e bi ⟨rfl,Y⟩
 have bO:=bc.below Y
 have Z:=bG.trans (Ky.of_below Y bc.lt)
 have bN:=Zk bM Z bn
 have bW:=(Jbb (.func (.func 190) #[.pointer (some ⟨g,0,none⟩)] #[]) (.func (.func 191) #[.pointer (some ⟨g,0,none⟩)] #[]) (.func (.func 192) #[.pointer (some ⟨g,0,none⟩)] #[]) (.func (.func 193) #[.pointer (some ⟨g,0,none⟩)] #[]) bi).2.2.2
 generalize Kz t 3 xs=bU at *
 go_wp2_with fail
 refine(Jq7 w.heap.size g t N bk bI _ bi bO bD (by omega) bN).mono ?_
 rintro e cc ⟨rfl,bf,bH⟩
 obtain⟨cb,c0,c1,_,_,_⟩:=bf.cells
 have bA:=Jiv bf (by simp[bE]) c1
 have bB:=Jdw bb (Z.trans bH) w rfl bx
 rw[←bj.out]at bA
 go_wp2
 go_ret2
 exact⟨rfl,bB⟩
end
section
open Go.RowKit Tryz
def Jfr (t:Int)(xs:List V):Bool:=decide (xs.length≤64)&&xs.all fun v=>okB t v.k v.n v.s
theorem Jfd (t:Int)(xs:List V):Jfr t xs=true↔Jdq t xs:=by
 unfold Jfr Jdq
 rw[Og5,decide_eq_true_eq,List.all_eq_true]
 constructor
 ·intro h;exact⟨h.1,fun j A=>h.2 _ (Ob3 A)⟩
 intro h
 refine⟨h.1,fun v H=>?_⟩
 obtain⟨j,A,rfl⟩:=Od5 H
 exact h.2 j A
def Jev (t A:Int)(xs:List V):List UInt8×Int:=
 if (way t A&&Jfr t xs)=true then (if A=1∧16<(Ym [] (Jz xs)).length then ([],2)else (Jav t A xs,0))else ([],1)
theorem Jo7 (t A:Int)(h:way t A=true):A=0∨A=1∨A=2∨A=3:=by
 unfold way at h
 simp at h
 omega
structure RAt (w:World) (g:Nat) (t:Int) (bs:List UInt8) (a2:Addr):Prop where
 far:3<g
 cells:w.heap[g]?=some (.cells #[.int .i64 t,.string (Qw bs)] 366 (0,0))
 form:w.cell? ⟨3,0,none⟩=some (.iface 528 (.pointer (some a2)))
 len:bs.length≤maxLen
structure Jt (w w':World) (g:Nat):Prop where
 os:w'.os=w.os
 tape:w'.tape=w.tape
 output:w'.output=w.output
 size:w.heap.size≤w'.heap.size
 block:∀ k,k<w.heap.size→k≠g→w'.heap[k]?=w.heap[k]?
theorem Jt.refl (w:World)(g:Nat):Jt w w g:=⟨rfl,rfl,rfl,Oa2 _,fun _ _ _=>rfl⟩
theorem Jt.trans {a b c:World}{g:Nat}(h:Jt a b g)(k:Jt b c g):Jt a c g:=
 ⟨k.os.trans h.os,k.tape.trans h.tape,k.output.trans h.output,Ob2 h.size k.size,fun i hi A=>(k.block i (Oc2 hi h.size) A).trans (h.block i hi A)⟩
theorem Jt.of_below {w w':World}(A:Below w.heap.size w w')(g:Nat):Jt w w' g:=⟨A.os,A.tape,A.output,A.size,fun k hk _=>A.block k hk⟩
theorem Jt.below {w w':World}{g B:Nat}(h:Jt w w' g)(A:B≤g)(hs:B≤w.heap.size):Below B w w':=
 ⟨h.os,h.tape,h.output,h.size,fun k hk=>h.block k (by omega) (by omega)⟩
theorem RAt.lt {w:World}{g:Nat}{t:Int}{bs:List UInt8}{A:Addr}(h:RAt w g t bs A):g<w.heap.size:=Jd h.cells
theorem RAt.below {w w':World}{g:Nat}{t:Int}{bs:List UInt8}{A:Addr}(h:RAt w g t bs A)(H:Below w.heap.size w w'):RAt w' g t bs A:=
 ⟨h.far,by rw[H.block g h.lt];exact h.cells,by rw[Oc3 (w:=w) (H.block 3 (by have:=h.lt;have:=h.far;omega))];exact h.form,h.len⟩
theorem RAt.typ {w:World}{g:Nat}{t:Int}{bs:List UInt8}{A:Addr}(h:RAt w g t bs A):w.cell? ⟨g,0,none⟩=some (.int .i64 t):=by simp[World.cell?,h.cells]
theorem RAt.left {w:World}{g:Nat}{t:Int}{bs:List UInt8}{A:Addr}(h:RAt w g t bs A):w.cell? ⟨g,1,none⟩=some (.string (Qw bs)):=by simp[World.cell?,h.cells]
theorem RAt.thaw {w:World}{g:Nat}{t:Int}{bs:List UInt8}{A:Addr}(h:RAt w g t bs A)(i:Nat):w.frozen? ⟨g,i,none⟩=false:=by simp[World.frozen?,h.cells]
theorem RAt.setLeft {w:World}{g:Nat}{t:Int}{bs bs':List UInt8}{A:Addr}(h:RAt w g t bs A)(H:bs'.length≤maxLen):RAt (w.setCell ⟨g,1,none⟩ (.string (Qw bs'))) g t bs' A:=by
 refine⟨h.far,?_,?_,H⟩
 ·simp[World.setCell,Array.getElem?_modify,h.cells]
 rw[Oc3 (w:=w) (Oa4 _ _ _ _ (by have:=h.far;show 3≠g;omega))];exact h.form
theorem RAt.setTyp {w:World}{g:Nat}{t t':Int}{bs:List UInt8}{A:Addr}(h:RAt w g t bs A):RAt (w.setCell ⟨g,0,none⟩ (.int .i64 t')) g t' bs A:=by
 refine⟨h.far,?_,?_,h.len⟩
 ·simp[World.setCell,Array.getElem?_modify,h.cells]
 rw[Oc3 (w:=w) (Oa4 _ _ _ _ (by have:=h.far;show 3≠g;omega))];exact h.form
theorem Jt.set (w:World)(g i:Nat)(v:Value):Jt w (w.setCell ⟨g,i,none⟩ v) g:=
 ⟨rfl,rfl,rfl,by simp[World.setCell],fun k _ A=>Oa4 _ _ _ _ A⟩
abbrev Jpu (A:Addr):Ending:=.panicked [{v:=.iface 528 (.pointer (some A)),recovered:=false}]
def Qg {α:Type}(w:World)(g:Nat)(t:Int)(A:Addr)(r:Option (α×List UInt8))(H:α→Value→World→Prop)(e:Ending)(w':World):Prop:=
 Jt w w' g∧((r=none∧e=Jpu A)∨∃ x rest v,r=some (x,rest)∧e=.returned v∧H x v w'∧RAt w' g t rest A)
theorem Qg.up {α:Type}{w w':World}{g:Nat}{t:Int}{A:Addr}{r:Option (α×List UInt8)}{H:α→Value→World→Prop}(hk:Jt w w' g)(I:r=none):Qg w g t A r H (Jpu A) w':=⟨hk,.inl ⟨I,rfl⟩⟩
theorem Qg.ok {α:Type}{w w':World}{g:Nat}{t:Int}{H:Addr}{r:Option (α×List UInt8)}{A:α→Value→World→Prop}{x:α}{rest:List UInt8}{v:Value}(hk:Jt w w' g)(K:r=some (x,rest))(J:A x v w')(I:RAt w' g t rest H) :
  Qg w g t H r A (.returned v) w':=⟨hk,.inr ⟨x,rest,v,K,rfl,J,I⟩⟩
theorem Jep (w:World):Calls prog 262 #[.bool true] w fun e w'=>e=.returned (.tuple #[])∧w'=w:=by
 have A:∀ (x:Bool) (w:World),(Op.unary .not (.bool x)).run prog w=.ok (.bool (!x)) w:=fun _ _=>rfl
 go_enter func262,ntmps262
 go_wp2
 go_end0
 exact⟨rfl,rfl⟩
theorem Jap (A:Addr)(w:World)(h:w.cell? ⟨3,0,none⟩=some (.iface 528 (.pointer (some A)))):Calls prog 262 #[.bool false] w fun e w'=>e=Jpu A∧w'=w:=by
 have H:∀ (x:Bool) (w:World),(Op.unary .not (.bool x)).run prog w=.ok (.bool (!x)) w:=fun _ _=>rfl
 go_enter func262,ntmps262
 go_wp2
 exact⟨rfl,rfl,rfl⟩
theorem Jj8 (bs:List UInt8)(i j:Nat):(Qw bs).extract i j=Qw ((bs.take j).drop i):=by
 unfold Qw
 rw[Om5]
 simp[List.extract_eq_take_drop,List.drop_take]
theorem Jud (n:Nat)(h:n<9223372036854775808):wrap64 (n:Int)=n:=by unfold wrap64;omega
def Jat (n:Nat)(bs:List UInt8):Option (List UInt8×List UInt8):=if n≤bs.length then some (bs.take n,bs.drop n)else none
theorem Jia (g:Nat)(t:Int)(bs:List UInt8)(A:Addr)(n:Nat)(w:World)(h:RAt w g t bs A) :
  Calls prog 305 #[.pointer (some ⟨g,0,none⟩),.int .i64 n] w (Qg w g t A (Jat n bs) fun x v _=>v=.string (Qw x)):=by
 have c0:=h.typ
 have c1:=h.left
 have c2:=h.thaw 1
 have L:=h.len
 have M:=Jb2 bs
 by_cases J:n≤bs.length
 ·have K:((n:Int)≤((bs.length:Nat):Int)):=by omega
  go_enter func305,ntmps305
  go_wp2_with fail
  refine(Jep _).mono ?_
  rintro e w' ⟨rfl,rfl⟩
  go_wp2_with fail
  go_ret
  have H:=Jj8 bs 0 n
  have I:=Jj8 bs n bs.length
  rw[List.drop_zero]at H
  rw[Of2]at I
  rw[H,I]
  exact Qg.ok (Jt.set _ _ _ _) (by unfold Jat;rw[if_pos J]) rfl (h.setLeft (by simp;omega))
 have K:¬ ((n:Int)≤((bs.length:Nat):Int)):=by omega
 go_enter func305,ntmps305
 go_wp2_with fail
 refine(Jap A _ h.form).mono ?_
 rintro e w' ⟨rfl,rfl⟩
 go_wp2_with fail
 exact⟨rfl,Qg.up (Jt.refl _ _) (by unfold Jat;rw[if_neg J])⟩
def Ur:List UInt8→Option (Nat×List UInt8)
 |[]=>none
 |b::r=>some (b.toNat,r)
theorem Jgx {bs rest:List UInt8}{n:Nat}(h:Ur bs=some (n,rest)):n<256:=by
 cases bs with
 |nil=>simp[Ur]at h
 |cons b r=>
  simp[Ur]at h
  rw[←h.1]
  exact b.toNat_lt
theorem Ja2 (g:Nat)(t:Int)(bs:List UInt8)(H:Addr)(w:World)(h:RAt w g t bs H) :
  Calls prog 261 #[.pointer (some ⟨g,0,none⟩)] w (Qg w g t H (Ur bs) fun n v _=>v=.int .i64 (n:Int)):=by
 have I:=Jia g t bs H 1 w h
 simp only[Int.natCast_one]at I
 go_enter func261,ntmps261
 go_wp2_with fail
 refine I.mono ?_
 rintro e w1 ⟨hk,⟨A,rfl⟩|⟨x,rest,v,A,rfl,rfl,J⟩⟩
 ·go_wp2_with fail
  refine⟨rfl,Qg.up hk ?_⟩
  cases bs with
  |nil=>rfl
  |cons b r=>simp[Jat]at A
 cases bs with
 |nil=>simp[Jat]at A
 |cons b r=>
  simp[Jat]at A
  obtain⟨rfl,rfl⟩:=A
  have K:(Qw [b]).size=1:=rfl
  have M:(0:Int)≤0∧(0:Int)<(((Qw [b]).size:Nat):Int):=by rw[K];omega
  go_wp2_with fail
  go_ret
  refine Qg.ok hk rfl ?_ J
  show Value.int .i64 (wrap64 (((Qw [b])[0]).toNat:Int))=.int .i64 (b.toNat:Int)
  have L:=b.toNat_lt
  have e:(Qw [b])[0]=b:=rfl
  rw[e,Jud _ (by omega)]
end
section
open Go.RowKit Tryz
def Jeh:List UInt8→Nat
 |[]=>0
 |b::r=>b.toNat+256*Jeh r
theorem Kbv (l:List UInt8):Jeh l<256 ^ l.length:=by
 induction l with
 |nil=>simp[Jeh]
 |cons b r H=>
  have A:=b.toNat_lt
  simp only[Jeh,List.length_cons,Nat.pow_succ]
  omega
theorem Jlf (l:List UInt8)(b:UInt8):Jeh (l++[b])=Jeh l+b.toNat*256 ^ l.length:=by
 induction l with
 |nil=>simp[Jeh]
 |cons c r A=>
  simp only[List.cons_append,Jeh,A,List.length_cons,Nat.pow_succ,Nat.mul_add]
  have:256*(b.toNat*256 ^ r.length)=b.toNat*(256 ^ r.length*256):=by rw[Nat.mul_comm 256,Nat.mul_assoc]
  omega
def Jc7 (bs:List UInt8):Option (Int×List UInt8):=
 match Jat 8 bs with
 |none=>none
 |some (x,rest)=>some (wrap64 (Jeh x:Int),rest)
theorem Jcr (q:Nat)(h:q<18446744073709551616):IntKind.u64.wrap (q:Int)=q:=by rw[Oh5];omega
theorem Jr4 (n b k:Nat)(A:n<2 ^ k):n ||| (b <<< k)=n+b*2 ^ k:=by
 rw[Nat.or_comm,←Nat.shiftLeft_add_eq_or_of_lt A,Oo2];omega
theorem Jve (k:Nat):256 ^ k=2 ^ (8*k):=by rw[Nat.pow_mul]
theorem Kf7 (n b k:Nat)(hk:k<8)(J:n<256 ^ k)(K:b<256) :
  bits BinOp.or IntKind.u64 (n:Int) (IntKind.u64.wrap ((b:Int)*2 ^ (8*k)))=((n+b*256 ^ k:Nat):Int):=by
 have H:((b:Int)*2 ^ (8*k))=((b <<< (8*k):Nat):Int):=by rw[Oo2];simp
 have L:256 ^ k≤256 ^ 7:=Nat.pow_le_pow_right (by decide) (by omega)
 have M:256 ^ 7=72057594037927936:=by decide
 have A:b <<< (8*k)<18446744073709551616:=by
  rw[Oo2,←Jve]
  have:b*256 ^ k≤255*256 ^ k:=Om8 _ (by omega)
  omega
 have I:=Jcr _ A
 rw[H,I,u64_or_nat n _ (by omega) A]
 congr 1
 rw[Jr4 n b (8*k) (by rw[←Jve];exact J),←Jve]
theorem Jt3 (x:List UInt8)(w:World):∃ cap I,(convert 9 137 (.string (Qw x))).run prog w=.ok (.slice (some ⟨w.heap.size,0,none⟩) x.length cap) I ∧
  Uh I (some ⟨w.heap.size,0,none⟩) (x.map bv)∧Below w.heap.size w I:=by
 have h:=Lib.run_convert_string_bytes (P:=prog) w 9 137 5 (Qw x) underlying9 underlying137 underlying5
 rw[Jb2]at h
 refine⟨_,_,h,.inr ⟨_,_,rfl,by rw[Lib.bytesWorld_size];omega,?_⟩,rfl,rfl,rfl,by rw[Lib.bytesWorld_size];omega,fun k hk=>Lib.bytesWorld_at_old _ _ _ _ hk⟩
 intro i v hi
 have H:i<x.length:=by
  rcases Oc1 i x.length with A|A
  ·exact A
  rw[Ob4 (by simpa using A)]at hi;simp at hi
 have J:=Lib.bytesWorld_cell w 5 (Qw x) i (by rw[Jb2];exact H)
 rw[Ob1,Oa3 H]at hi
 simp at hi
 subst hi
 rw[Od0,J]
 simp[Qw,bv,H]
theorem Jmh (g:Nat)(t:Int)(bs:List UInt8)(H:Addr)(w:World)(h:RAt w g t bs H) :
  Calls prog 344 #[.pointer (some ⟨g,0,none⟩)] w (Qg w g t H (Jc7 bs) fun n v _=>v=.int .i64 n):=by
 have N:=Jia g t bs H 8 w h
 go_enter func344,ntmps344
 go_wp2_with fail
 refine N.mono ?_
 rintro e w1 ⟨hk,⟨A,rfl⟩|⟨x,rest,v,A,rfl,rfl,O⟩⟩
 ·go_wp2_with fail
  exact⟨rfl,Qg.up hk (by unfold Jc7;rw[A])⟩
 have ba:x.length=8:=by
  unfold Jat at A
  split at A
  ·simp at A;rw[←A.1];simp;omega
  ·simp at A
 obtain⟨cap,bb,X,U,K⟩:=Jt3 x w1
 rw[ba]at X
 go_wp2_with fail
 go_loopw [3,10] (fun n i wr=>∃ k:Nat,k≤8∧i=.int .i64 k∧n=.int .u64 (Jeh (x.take k):Int)∧wr=bb) (fun _ i _=>8-(intOf i).toNat)
 case atStart=>exact⟨0,by omega,rfl,rfl,rfl⟩
 case round=>
  obtain⟨k,bi,rfl,rfl,rfl⟩:=hrel
  by_cases Z:k<8
  ·have M:k<x.length:=by omega
   obtain⟨b1,o1,bc,bf,c1⟩:=U.at (i:=k) (by simpa using M)
   have L:=Kbv (x.take k)
   have I:=Jlf (x.take k) x[k]
   rw[←Oc4 M]at I
   have Y:(x.take k).length=k:=by simp;omega
   rw[Y]at L I
   have R:=x[k].toNat_lt
   simp only[Od9,bv]at c1
   obtain⟨c,bh⟩:∃ c:Nat,c=8*k:=⟨_,rfl⟩
   have bj:IntKind.i64.wrap (8*(k:Int))=(c:Int):=by rw[Od4];omega
   generalize x[k].toNat=J at *
   have bk:IntKind.u64.wrap (J:Int)=J:=by rw[Oh5];omega
   go_wp2
   go_roundw
   case rel=>
    refine⟨k+1,by omega,by go_num,?_,trivial⟩
    rw[I,Kf7 _ _ _ Z L R]
   case measure=>simp[intOf];omega
  go_wp2
  go_ret
  have e:x.take k=x:=Oc8 (by omega)
  rw[e]
  refine Qg.ok (hk.trans (Jt.of_below K g)) (by unfold Jc7;rw[A]) ?_ (O.below K)
  rfl
def Jn6 (x:List UInt8)(i:Nat):Bool:=(x.getD (i / 8) 0).toNat.testBit (i % 8)
def Zc (x:List UInt8)(i:Nat):Nat→Nat
 |0=>0
 |b+1=>Zc x i b+(if Jn6 x (i+b)then 1 else 0)*2 ^ b
theorem Jok (x:List UInt8)(i:Nat):∀ b,Zc x i b<2 ^ b:=by
 intro b
 induction b with
 |zero=>simp[Zc]
 |succ b A=>
  simp only[Zc,Nat.pow_succ]
  split<;>omega
def Yj (A count:Nat)(bs:List UInt8):Option (List Nat×List UInt8):=
 match Jat ((A*count+7) / 8) bs with
 |none=>none
 |some (x,rest)=>some ((List.range count).map fun i=>Zc x (A*i) A,rest)
theorem Jg9 {n:Nat}{bs x rest:List UInt8}(h:Jat n bs=some (x,rest)):x.length=n:=by
 unfold Jat at h
 split at h
 ·simp at h;rw[←h.1];simp;omega
 simp at h
def Khl (w w':World)(A:List Nat)(v:Value):Prop:=∃ b,v=.slice (some ⟨b,0,none⟩) A.length A.length∧w.heap.size≤b∧Uh w' (some ⟨b,0,none⟩) (A.map uv)
theorem Kcx (A y c b:Nat)(R:b<64)(M:A<2 ^ b)(O:y<256) :
  bits BinOp.or IntKind.u64 (A:Int) (IntKind.u64.wrap (IntKind.u64.wrap (bits BinOp.and IntKind.u8 ((y:Int) / 2 ^ c) 1)*2 ^ b))=((A+(if y.testBit c then 1 else 0)*2 ^ b:Nat):Int):=by
 have I:((y:Int) / 2 ^ c)=((y / 2 ^ c:Nat):Int):=by simp
 have N:y / 2 ^ c<256:=Nat.lt_of_le_of_lt (Oo6 _ _) O
 have J:bits BinOp.and IntKind.u8 ((y / 2 ^ c:Nat):Int) 1=((y / 2 ^ c % 2:Nat):Int):=by
  have:=u8_and_nat (y / 2 ^ c) 1 N (by decide)
  rw[Nat.and_one_is_mod]at this
  exact this
 have K:y.testBit c=decide (y / 2 ^ c % 2=1):=On1
 rw[I,J,K]
 have U:y / 2 ^ c % 2<2:=Ol0 _ (by decide)
 generalize y / 2 ^ c % 2=m at *
 have X:2 ^ b≤2 ^ 63:=Nat.pow_le_pow_right (by decide) (by omega)
 have Y:2 ^ 63=9223372036854775808:=by decide
 rw[Jcr m (by omega)]
 have L:((m:Int)*2 ^ b)=((m <<< b:Nat):Int):=by rw[Oo2];simp
 have H:m <<< b<18446744073709551616:=by
  rw[Oo2]
  have:m*2 ^ b≤1*2 ^ b:=Om8 _ (by omega)
  omega
 rw[L,Jcr _ H,u64_or_nat A _ (by omega) H,Jr4 A m b M]
 have:m=0∨m=1:=by omega
 rcases this with rfl|rfl<;>simp
theorem Jnp (x:List UInt8)(q:Nat)(h:q<x.length)(W:World):(Instr.index 9 (.string (Qw x)) (.int .i64 (q:Int))).run prog W=.ok (.int .u8 ((x.getD q 0).toNat:Int)) W:=by
 have e:(Qw x).size=x.length:=Jb2 x
 have A:q<(Qw x).size:=by omega
 simp[go_sem,h,A]
 rfl
theorem Jnu (x:List UInt8)(A:Nat)(h:A / 8<x.length)(W:World):(Instr.index 9 (.string (Qw x)) (.int .i64 ((A:Int) / 8))).run prog W=.ok (.int .u8 ((x.getD (A / 8) 0).toNat:Int)) W:=by
 have e:((A:Int) / 8)=((A / 8:Nat):Int):=by omega
 rw[e]
 exact Jnp x _ h W
theorem Jas (g:Nat)(t:Int)(bs:List UInt8)(R:Addr)(A count:Nat)(w:World)(h:RAt w g t bs R)(bN:A≤64)(bJ:count≤64) :
  Calls prog 263 #[.pointer (some ⟨g,0,none⟩),.int .i64 A,.int .i64 count] w (Qg w g t R (Yj A count bs) fun bO v w'=>Khl w w' bO v):=by
 have bL:A*count≤64*64:=Ol5 bN bJ
 obtain⟨W,hW⟩:∃ W:Nat,W=A*count:=⟨_,rfl⟩
 have bB:(A:Int)*(count:Int)=(W:Int):=by rw[hW];simp
 obtain⟨K,Y⟩:∃ K:Nat,K=(W+7) / 8:=⟨_,rfl⟩
 have bK:((W:Int)+7) / 8=(K:Int):=by omega
 have bI:∀ W,(Instr.makeSlice 332 (.int .i64 (count:Int)) (.int .i64 (count:Int))).run prog W=.ok (.slice (some ⟨W.heap.size,0,none⟩) count count) (W.alloc (.cells (madeCells #[.int .u64 0] count) 300)):=
  fun W=>run_make_row' 332 300 (.int .u64 0) 8 (by kernel_rfl) Jiq rfl .i64 .i64 count (by omega) (by omega) W
 have bi:=Jia g t bs R K w h
 have O:Hid (Yj A count bs=match Jat K bs with|none=>none|some (x,rest)=>some ((List.range count).map fun i=>Zc x (A*i) A,rest)):=by
  show _=_
  unfold Yj;rw[←hW,←Y]
 have bu:Hid (W=A*count):=hW
 have br:Hid (K=(W+7) / 8):=Y
 have bQ:W≤4096:=by omega
 have bV:K≤600:=by omega
 clear hW Y bL
 go_enter func263,ntmps263
 go_wp2_with (go_at_call 218;refine(Jif _ _ (by omega) (by omega)).mono ?_;rintro e w' ⟨rfl,bX⟩;subst w')
 refine bi.mono ?_
 rintro e w1 ⟨hk,⟨M,rfl⟩|⟨x,rest,v,M,rfl,rfl,N⟩⟩
 ·go_wp2_with fail
  exact⟨rfl,Qg.up hk (by rw[O.out,M])⟩
 have bx:Hid (Yj A count bs=some ((List.range count).map fun i=>Zc x (A*i) A,rest)):=by
  show _=_
  rw[O.out,M]
 have bY:=Jg9 M
 clear O M bi
 go_wp2_with fail
 clear bI bB bK
 go_loopw [9,22] (fun at_ i wr=>∃ k:Nat,k≤count∧i=.int .i64 k∧at_=.int .i64 ((A*k:Nat):Int)∧wr.rowIs w1.heap.size 300 count (fun j=>uv (if j<k then Zc x (A*j) A else 0))∧Below w1.heap.size w1 wr) (fun _ i _=>count-(intOf i).toNat)
 case atStart=>exact⟨0,by omega,rfl,rfl,(Ol3 _ _ _ _).congr fun j _=>by simp[uv],(Oa5 _ _).alloc (Oa2 _) _⟩
 case round=>
  obtain⟨k,bS,rfl,rfl,J,L⟩:=hrel
  by_cases bl:k<count
  ·have bT:A*k+A≤W:=by
    rw[bu.out,←Nat.mul_succ];exact Nat.mul_le_mul_left _ bl
   generalize bj:A*k=I at *
   have ba:Hid (A*k=I):=bj
   clear bj
   go_wp2
   go_loopw [9,26] (fun at_ i bn=>∃ b:Nat,b≤A∧i=.int .i64 b∧at_=.int .i64 ((I+b:Nat):Int)∧bn.rowIs w1.heap.size 300 count (fun j=>uv (if j<k then Zc x (A*j) A else if j=k then Zc x I b else 0))∧Below w1.heap.size w1 bn) (fun _ i _=>A-(intOf i).toNat)
   case atStart=>
    refine⟨0,by omega,rfl,rfl,J.congr fun j _=>?_,L⟩
    by_cases e:j<k
    ·simp[e]
    simp[e,Zc]
   case round=>
    clear J L
    obtain⟨b,bR,rfl,rfl,J,L⟩:=hrel
    by_cases bU:b<A
    ·generalize N:I+b=H at *
     have bP:H<W:=by omega
     have Z:Hid (I+b=H):=N
     clear N
     have bW:H / 8<K:=by rw[br.out];omega
     have c1:=J.cell bl
     have c2:=J.frozen k
     have bk:=Jok x I b
     have bf:Hid (Zc x I b<2 ^ b):=bk
     have bh:Hid (Zc x I (b+1)=Zc x I b+(if Jn6 x H then 1 else 0)*2 ^ b):=by
      show _=_
      rw[←Z.out];rfl
     clear bk
     simp only[Oe3,if_false,if_true,uv]at c1
     generalize Zc x I b=bz at c1 bf bh
     have bD:=Jnu x H (by omega)
     have bb:Hid (Jn6 x H=(x.getD (H / 8) 0).toNat.testBit (H % 8)):=rfl
     have bc:Hid ((x.getD (H / 8) 0).toNat<256):=(x.getD (H / 8) 0).toNat_lt
     generalize (x.getD (H / 8) 0).toNat=y at bD bb bc
     go_wp2
     go_region
     go_wp2
     go_roundw
     case rel=>
      refine⟨b+1,by omega,by go_num,?_,(J.set k _).congr fun j bE=>?_,(L.setCell (p:=⟨w1.heap.size,k,none⟩) (Oa2 _) _).drew⟩
      ·have:=Z.out
       rw[←this];go_num
      by_cases e:j=k
      ·subst e
       simp only[if_true,Oe3,if_false]
       rw[Kcx bz y (H % 8) b (by omega) bf.out bc.out,bh.out,bb.out]
       rfl
      simp only[e,if_false]
     case measure=>simp[intOf];omega
    have bC:b=A:=by omega
    subst bC
    go_wp2
    go_roundw
    case rel=>
     refine⟨k+1,by omega,by go_num,?_,J.congr fun j bE=>?_,L⟩
     ·have:=ba.out
      rw[Nat.mul_succ,this]
     rw[←ba.out]
     by_cases e:j=k
     ·subst e
      simp
     have bA:(j<k+1)=(j<k):=by rw[eq_iff_iff];omega
     simp only[bA,e,if_false]
    case measure=>simp[intOf];omega
  have bG:k=count:=by omega
  subst bG
  go_wp2
  go_ret
  refine Qg.ok (hk.trans (Jt.of_below L g)) bx.out ?_ (N.below L)
  have bM:=hk.size
  have bH:=J.lt
  refine⟨w1.heap.size,?_,bM,.inr ⟨_,_,rfl,bH,fun i v hi=>?_⟩⟩
  ·simp only[Oa6,List.length_range]
   rfl
  have X:i<k:=by
   rcases Oc1 i k with U|U
   ·exact U
   ·rw[Ob4 (by simpa using U)]at hi;simp at hi
  have:=J.cell X
  rw[Ob1,Ob1,Oh6 X]at hi
  simp at hi
  rw[Od0,this,←hi]
  simp[X]
end
section
open Go.RowKit Tryz
theorem Kcu:prog.cellsOf 5=1:=by kernel_rfl
theorem Jws (x:List UInt8)(w:World)(bc:x.length≤255) :
  Calls prog 131 #[.string (Qw x)] w fun e w'=>e=.returned (.string (Qw x))∧Below w.heap.size w w':=by
 have hs:=Jb2 x
 by_cases h0:x=[]
 ·subst h0
  go_enter func131,ntmps131
  go_wp2
  go_ret
  exact⟨rfl,Oa5 _ _⟩
 have X:=Oi9.2 h0
 have U:∀ W,(Instr.makeSlice 137 (.int .i64 (x.length:Int)) (.int .i64 (x.length:Int))).run prog W=.ok (.slice (some ⟨W.heap.size,0,none⟩) x.length x.length) (W.alloc (.cells (madeCells #[.int .u8 0] x.length) 5)):=
  fun W=>run_make_row' 137 5 (.int .u8 0) 1 (by kernel_rfl) Jfa rfl .i64 .i64 x.length (by omega) (by omega) W
 obtain⟨A,I⟩:∃ A,A=madeCells #[Value.int .u8 0] x.length:=⟨_,rfl⟩
 have Y:A.size=x.length:=by rw[I,size_madeCells]
 rw[←I]at U
 clear I
 have L:=Lib.run_copy_row_string (P:=prog) (w.alloc (.cells A 5)) 137 9 3 5 w.heap.size 0 x.length x.length (Qw x) A 5 underlying137 (by kernel_rfl) (Oh1 w _).1 (by omega) (by omega)
 obtain⟨H,J⟩:∃ H,H=(A.toList.take 0++Lib.byteCells (Qw x).data.toList++A.toList.drop (0+(Qw x).size)).toArray:=⟨_,rfl⟩
 rw[←J]at L
 have K:H.toList=Lib.byteCells x:=by
  rw[J,List.toList_toArray,List.take_zero,List.nil_append,Ol8 (by rw[Array.length_toList];omega),Od7]
  simp[Qw]
 have ba:H.size=x.length:=by rw[←Array.length_toList,K,Lib.byteCells_length]
 have M:((w.alloc (.cells A 5)).setRow w.heap.size H).heap[w.heap.size]?=some (.cells H 5 (0,0)):=setRow_heap _ _ A _ 5 (0,0) (Oh1 w _).1
 have Z:=Lib.run_unsafeString_row (P:=prog) (w:=(w.alloc (.cells A 5)).setRow w.heap.size H) 298 3 9 5 underlying298 Kcu w.heap.size H.size (by unfold World.shape?;rw[M]) x h0 (by omega) (by omega)
  (fun j b N=>Lib.cells_of_row M H.size j _ (by rw[Oc8 (by rw[Array.length_toList];exact Oa2 _),K];simp[Lib.byteCells,N]))
 rw[hs]at L
 clear J
 have bf:((x.length:Int)==0)=false:=by rw[beq_eq_false_iff_ne];omega
 have bb:(0:Int)≤0∧(0:Int)<(x.length:Int):=by omega
 clear X
 go_enter func131,ntmps131
 go_wp2
 go_ret
 have O:Below w.heap.size w (w.alloc (.cells A 5)):=(Oa5 _ w).alloc (Oa2 _) _
 have R:Below w.heap.size (w.alloc (.cells A 5)) ((w.alloc (.cells A 5)).setRow w.heap.size H):=⟨rfl,rfl,rfl,by simp,fun k hk=>setRow_other _ _ _ _ (by omega)⟩
 exact⟨rfl,Lib.below_freeze (O.trans R) (p:=⟨w.heap.size,0,none⟩) (Oa2 _) _⟩
theorem Jhm (x:List UInt8)(w:World)(H:x.length≤255) :
  Calls prog 92 #[.string (Qw x)] w fun e w'=>e=.returned (.string (Qw x))∧Below w.heap.size w w':=by
 go_enter func92,ntmps92
 go_wp2_with (go_at_call 131;refine(Jws x _ H).mono ?_;rintro e w' ⟨rfl,A⟩)
 go_ret
 exact⟨rfl,A⟩
def Jne (bs:List UInt8):Option (List UInt8×List UInt8):=
 match Ur bs with
 |none=>none
 |some (n,r)=>Jat n r
def Qz (t:Int)(bs:List UInt8):Option (V×List UInt8):=
 if t=1 then (Jc7 bs).map fun x=>(⟨1,x.1,Qw []⟩,x.2)
 else if t=2 then (Ur bs).map fun x=>(⟨2,(x.1:Int),Qw []⟩,x.2)
 else (Jne bs).map fun x=>(⟨3,0,Qw x.1⟩,x.2)
theorem Jt.alloc {w w':World}{g:Nat}(h:Jt w w' g)(o:Obj):Jt w (w'.alloc o) g:=h.trans (Jt.of_below ((Oa5 _ _).alloc (Oa2 _) _) g)
theorem RAt.alloc {w:World}{g:Nat}{t:Int}{bs:List UInt8}{A:Addr}(h:RAt w g t bs A)(o:Obj):RAt (w.alloc o) g t bs A:=h.below ((Oa5 _ _).alloc (Oa2 _) _)
theorem Jt.setNew {w w':World}{g k:Nat}(h:Jt w w' g)(hk:w.heap.size≤k)(i:Nat)(v:Value):Jt w (w'.setCell ⟨k,i,none⟩ v) g:=
 ⟨h.os,h.tape,h.output,by simpa [World.setCell] using h.size,fun j A H=>(Oa4 _ _ _ _ (by show j≠k;omega)).trans (h.block j A H)⟩
theorem RAt.setOther {w:World}{g k:Nat}{t:Int}{bs:List UInt8}{A:Addr}(h:RAt w g t bs A)(hk:k≠g)(H:k≠3)(i:Nat)(v:Value):RAt (w.setCell ⟨k,i,none⟩ v) g t bs A:=
 ⟨h.far,by rw[Oa4 _ _ _ _ (by show g≠k;omega)];exact h.cells,by rw[Oc3 (w:=w) (Oa4 _ _ _ _ (by show 3≠k;omega))];exact h.form,h.len⟩
theorem Ji3 {w w1:World}{g:Nat}{t:Int}{rest:List UInt8}{A:Addr}{o:Obj}(J:g<w.heap.size)(hk:Jt (w.alloc o) w1 g)(H:RAt w1 g t rest A)(x y z:Value) :
  Jt w (((w1.setCell ⟨w.heap.size,0,none⟩ x).setCell ⟨w.heap.size,1,none⟩ y).setCell ⟨w.heap.size,2,none⟩ z) g∧RAt (((w1.setCell ⟨w.heap.size,0,none⟩ x).setCell ⟨w.heap.size,1,none⟩ y).setCell ⟨w.heap.size,2,none⟩ z) g t rest A:=by
 have I:=H.far
 exact⟨(((((Jt.refl w g).alloc o).trans hk).setNew (Oa2 _) _ _).setNew (Oa2 _) _ _).setNew (Oa2 _) _ _,((H.setOther (by omega) (by omega) _ _).setOther (by omega) (by omega) _ _).setOther (by omega) (by omega) _ _⟩
theorem Jjm {w w1:World}{g:Nat}(I:g<w.heap.size)(hk:Jt (w.alloc (.cells #[.int .i64 0,.int .i64 0,.string ⟨#[]⟩] 55)) w1 g)(x y z:Value) :
  (w1.setCell ⟨w.heap.size,0,none⟩ x).cell? ⟨w.heap.size,0,none⟩=some x ∧
  ((w1.setCell ⟨w.heap.size,0,none⟩ x).setCell ⟨w.heap.size,1,none⟩ y).cell? ⟨w.heap.size,1,none⟩=some y ∧
  (((w1.setCell ⟨w.heap.size,0,none⟩ x).setCell ⟨w.heap.size,1,none⟩ y).setCell ⟨w.heap.size,2,none⟩ z).cell? ⟨w.heap.size,2,none⟩=some z:=by
 have A:=hk.block w.heap.size (by simp) (by omega)
 have H:w1.heap[w.heap.size]?=some (.cells #[.int .i64 0,.int .i64 0,.string ⟨#[]⟩] 55 (0,0)):=by rw[A];exact(Oh1 w _).1
 refine⟨?_,?_,?_⟩<;>simp[World.cell?,World.setCell,Array.getElem?_modify,H]
theorem Jjt {w w1:World}{g:Nat}(I:g<w.heap.size)(hk:Jt (w.alloc (.cells #[.int .i64 0,.int .i64 0,.string ⟨#[]⟩] 55)) w1 g) :
  w1.cell? ⟨w.heap.size,0,none⟩=some (.int .i64 0)∧w1.cell? ⟨w.heap.size,1,none⟩=some (.int .i64 0)∧w1.cell? ⟨w.heap.size,2,none⟩=some (.string ⟨#[]⟩)∧∀ i,w1.frozen? ⟨w.heap.size,i,none⟩=false:=by
 have H:=hk.block w.heap.size (by simp) (by omega)
 have A:w1.heap[w.heap.size]?=some (.cells #[.int .i64 0,.int .i64 0,.string ⟨#[]⟩] 55 (0,0)):=by rw[H];exact(Oh1 w _).1
 exact⟨by simp[World.cell?,A],by simp[World.cell?,A],by simp[World.cell?,A],fun i=>by simp[World.frozen?,A]⟩
theorem Kal (g:Nat)(bs:List UInt8)(A:Addr)(w:World)(h:RAt w g 1 bs A) :
  Calls prog 342 #[.pointer (some ⟨g,0,none⟩)] w (Qg w g 1 A (Qz 1 bs) fun v x _=>x=v.val):=by
 have H:=h.lt
 have R:=Jmh g 1 bs A _ (h.alloc (.cells #[.int .i64 0,.int .i64 0,.string ⟨#[]⟩] 55))
 have c0:=h.typ
 go_enter func342,ntmps342
 go_wp2_with fail
 refine R.mono ?_
 rintro e w1 ⟨hk,⟨I,rfl⟩|⟨x,rest,v,I,rfl,rfl,M⟩⟩
 ·go_wp2_with fail
  exact⟨rfl,Qg.up ((Jt.refl w g).alloc _ |>.trans hk) (by simp[Qz,I])⟩
 obtain⟨U,X,Y,Z⟩:=Jjt H hk
 go_wp2
 obtain⟨J,K,L⟩:=Jjm H hk (.int .i64 1) (.int .i64 x) (.string ⟨#[]⟩)
 obtain⟨O,N⟩:=Ji3 H hk M (.int .i64 1) (.int .i64 x) (.string ⟨#[]⟩)
 refine bodyPost_ret (v:=.agg #[.int .i64 1,.int .i64 x,.string ⟨#[]⟩]) (by simp[results,results342,go_sem,J,K,L]) rfl ?_
 exact Qg.ok (x:=⟨1,x,Qw []⟩) O (by simp[Qz,I]) rfl N
theorem Juc (g:Nat)(bs:List UInt8)(A:Addr)(w:World)(h:RAt w g 2 bs A) :
  Calls prog 342 #[.pointer (some ⟨g,0,none⟩)] w (Qg w g 2 A (Qz 2 bs) fun v x _=>x=v.val):=by
 have H:=h.lt
 have R:=Ja2 g 2 bs A _ (h.alloc (.cells #[.int .i64 0,.int .i64 0,.string ⟨#[]⟩] 55))
 have c0:=h.typ
 go_enter func342,ntmps342
 go_wp2_with fail
 refine R.mono ?_
 rintro e w1 ⟨hk,⟨I,rfl⟩|⟨x,rest,v,I,rfl,rfl,M⟩⟩
 ·go_wp2_with fail
  exact⟨rfl,Qg.up ((Jt.refl w g).alloc _ |>.trans hk) (by simp[Qz,I])⟩
 obtain⟨U,X,Y,Z⟩:=Jjt H hk
 go_wp2
 obtain⟨J,K,L⟩:=Jjm H hk (.int .i64 2) (.int .i64 (x:Int)) (.string ⟨#[]⟩)
 obtain⟨O,N⟩:=Ji3 H hk M (.int .i64 2) (.int .i64 (x:Int)) (.string ⟨#[]⟩)
 refine bodyPost_ret (v:=.agg #[.int .i64 2,.int .i64 (x:Int),.string ⟨#[]⟩]) (by simp[results,results342,go_sem,J,K,L]) rfl ?_
 exact Qg.ok (x:=⟨2,(x:Int),Qw []⟩) O (by simp[Qz,I]) rfl N
theorem Jwx (g:Nat)(bs:List UInt8)(H:Addr)(w:World)(h:RAt w g 3 bs H) :
  Calls prog 342 #[.pointer (some ⟨g,0,none⟩)] w (Qg w g 3 H (Qz 3 bs) fun v x _=>x=v.val):=by
 have J:=h.lt
 have N:=Ja2 g 3 bs H _ (h.alloc (.cells #[.int .i64 0,.int .i64 0,.string ⟨#[]⟩] 55))
 have c0:=h.typ
 go_enter func342,ntmps342
 go_wp2_with fail
 refine N.mono ?_
 rintro e w1 ⟨hk,⟨A,rfl⟩|⟨n,rest,v,A,rfl,rfl,Y⟩⟩
 ·go_wp2_with fail
  exact⟨rfl,Qg.up ((Jt.refl w g).alloc _ |>.trans hk) (by simp[Qz,Jne,A])⟩
 have bc:=Jgx A
 have O:=Jia g 3 rest H n w1 Y
 clear N
 go_wp2_with fail
 refine O.mono ?_
 rintro e bn ⟨M,⟨I,rfl⟩|⟨x,bl,v,I,rfl,rfl,Z⟩⟩
 ·go_wp2_with fail
  exact⟨rfl,Qg.up (((Jt.refl w g).alloc _ |>.trans hk).trans M) (by simp[Qz,Jne,A,I])⟩
 have bf:=Jg9 I
 clear O
 go_wp2_with fail
 refine(Jhm x _ (by omega)).mono ?_
 rintro e br ⟨rfl,L⟩
 have K:=(hk.trans M).trans (Jt.of_below L g)
 obtain⟨bh,bi,bj,bk⟩:=Jjt J K
 obtain⟨bb,ba⟩:=Ji3 J K (Z.below L) (.int .i64 3) (.int .i64 0) (.string (Qw x))
 clear bf bc
 go_wp2
 obtain⟨R,U,X⟩:=Jjm J K (.int .i64 3) (.int .i64 0) (.string (Qw x))
 refine bodyPost_ret (v:=.agg #[.int .i64 3,.int .i64 0,.string (Qw x)]) (by simp[results,results342,go_sem,R,U,X]) rfl ?_
 exact Qg.ok (x:=⟨3,0,Qw x⟩) bb (by simp[Qz,Jne,A,I]) rfl ba
theorem Jn7 (g:Nat)(t:Int)(bs:List UInt8)(A:Addr)(w:World)(h:RAt w g t bs A)(H:t=1∨t=2∨t=3) :
  Calls prog 342 #[.pointer (some ⟨g,0,none⟩)] w (Qg w g t A (Qz t bs) fun v x _=>x=v.val):=by
 rcases H with rfl|rfl|rfl
 ·exact Kal g bs A w h
 ·exact Juc g bs A w h
 exact Jwx g bs A w h
def Jf:V:=⟨0,0,⟨#[]⟩⟩
theorem Jt9 (n:Nat):(madeCells #[.int .i64 0,.int .i64 0,.string ⟨#[]⟩] (n*3)).toList=(List.replicate n Jf).flatMap V.cells:=by
 have J:∀ n,(List.range (n*3)).map (fun j=>(#[Value.int .i64 0,.int .i64 0,.string ⟨#[]⟩]:Array Value)[j % 3]!)=(List.replicate n Jf).flatMap V.cells:=by
  intro n
  induction n with
  |zero=>rfl
  |succ n I=>
   have e:(n+1)*3=n*3+1+1+1:=by omega
   rw[e,Oj7,Oj7,Oj7,List.replicate_succ',Oe8,Ob8,Ob8,Ob8,I]
   have h0:(n*3) % 3=0:=by omega
   have A:(n*3+1) % 3=1:=by omega
   have H:(n*3+1+1) % 3=2:=by omega
   simp[h0,A,H,V.cells,Jf]
 have:=J n
 unfold madeCells
 rw[Array.toList_map,Array.toList_range]
 exact this
theorem Jl9 (n:Nat)(K:n≤1000)(W:World):∃ C,(Instr.makeSlice 56 (.int .i64 (n:Int)) (.int .i64 (n:Int))).run prog W=.ok (.slice (some ⟨W.heap.size,0,none⟩) n n) (W.alloc (.cells C 55))∧Kv (W.alloc (.cells C 55)) W.heap.size (List.replicate n Jf) []:=by
 obtain⟨i,hi,J,I,H⟩:=info_parts Jow
 have A:=run_make (P:=prog) W 56 55 i _ (by kernel_rfl) hi J .i64 .i64 (n:Int) (n:Int) (by omega) (Int.le_refl _) (by rw[H];omega) (by omega)
 rw[Int.toNat_natCast,I]at A
 exact⟨_,A,_,(Oh1 W _).1,by rw[Od7];exact Jt9 n⟩
def Yl (t:Int):Nat→List UInt8→Option (List V×List UInt8)
 |0,bs=>some ([],bs)
 |m+1,bs=>match Yl t m bs with
  |none=>none
  |some (vs,r)=>(Qz t r).map fun x=>(vs++[x.1],x.2)
theorem Jeb (t:Int):∀ (m:Nat) (bs rest:List UInt8) (vs:List V),Yl t m bs=some (vs,rest)→vs.length=m:=by
 intro m
 induction m with
 |zero=>intro bs rest vs h;simp[Yl]at h;simp[h.1.symm]
 |succ m A=>
  intro bs rest vs h
  unfold Yl at h
  cases hm:Yl t m bs with
  |none=>rw[hm]at h;simp at h
  |some x=>
   obtain⟨H,r⟩:=x
   rw[hm]at h
   obtain⟨x,_,e⟩:=Oe9.1 h
   simp only[Oj3]at e
   rw[←e.1,Oa8,A bs r H hm]
   rfl
theorem Jry (t:Int)(bs:List UInt8)(k:Nat)(h:Yl t k bs=none):∀ m,k≤m→Yl t m bs=none:=by
 intro m H
 induction m with
 |zero=>
      have:k=0:=by omega
      subst this;exact h
 |succ m A=>
  by_cases e:k=m+1
  ·subst e;exact h
  unfold Yl;rw[A (by omega)]
theorem Jjw (t:Int)(bs r:List UInt8)(k:Nat)(vs:List V)(h:Yl t k bs=some (vs,r)):Yl t (k+1) bs=(Qz t r).map fun x=>(vs++[x.1],x.2):=by
 rw[Yl,h]
def Jc9 (w w':World)(vs:List V)(v:Value):Prop:=∃ b,v=.slice (some ⟨b,0,none⟩) vs.length vs.length∧w.heap.size≤b∧Kv w' b vs []
theorem Jna (A:List V)(k m:Nat)(v:V)(hk:A.length=k)(I:k<m):(A++List.replicate (m-k) Jf).set k v=(A++[v])++List.replicate (m-(k+1)) Jf:=by
 obtain⟨d,H⟩:∃ d,m-k=d+1:=⟨m-k-1,by omega⟩
 have e:m-(k+1)=d:=by omega
 rw[H,e,List.replicate_succ,Ok4 _ _ (by omega),hk,Oe1]
 simp
theorem Kv.put {w:World}{g:Nat}{A:List V}(h:Kv w g A [])(v:V)(k:Nat)(hk:k<A.length):∃ u:V,
  (w.cell? ⟨g,k*3,none⟩=some (.int .i64 u.k)∧w.frozen? ⟨g,k*3,none⟩=false)∧(w.cell? ⟨g,k*3+1,none⟩=some (.int .i64 u.n)∧w.frozen? ⟨g,k*3+1,none⟩=false)∧(w.cell? ⟨g,k*3+2,none⟩=some (.string u.s)∧w.frozen? ⟨g,k*3+2,none⟩=false) ∧
  Kv (((w.setCell ⟨g,k*3,none⟩ (.int .i64 v.k)).setCell ⟨g,k*3+1,none⟩ (.int .i64 v.n)).setCell ⟨g,k*3+2,none⟩ (.string v.s)) g (A.set k v) []:=by
 obtain⟨⟨h0,H,I⟩,J⟩:=h.at3 v k hk
 exact⟨_,h0,H,I,J⟩
theorem Jom (g:Nat)(t:Int)(bs:List UInt8)(H:Addr)(m:Nat)(w:World)(h:RAt w g t bs H)(bk:t=1∨t=2∨t=3)(bz:m≤255) :
  Calls prog 306 #[.pointer (some ⟨g,0,none⟩),.int .i64 m] w (Qg w g t H (Yl t m bs) fun vs v w'=>Jc9 w w' vs v):=by
 obtain⟨C,bh,bi⟩:=Jl9 m (by omega) w
 have bx:=h.lt
 have bu:=h.far
 go_enter func306,ntmps306
 go_wp2_with fail
 clear bh
 go_loopw [11] (fun i wr=>∃ (k:Nat) (A:List V) (r:List UInt8),k≤m∧i=.int .i64 k∧Yl t k bs=some (A,r)∧Kv wr w.heap.size (A++List.replicate (m-k) Jf) []∧RAt wr g t r H∧Jt w wr g) (fun i _=>m-(intOf i).toNat)
 case atStart=>exact⟨0,[],bs,by omega,rfl,rfl,by simpa using bi,h.alloc _,(Jt.refl w g).alloc _⟩
 case round=>
  obtain⟨k,A,r,hk,rfl,R,J,U,N⟩:=hrel
  have L:Hid (Yl t k bs=some (A,r)):=R
  have K:Hid (A.length=k):=Jeb t k bs r A R
  clear R
  by_cases Y:k<m
  ·have Z:=Jn7 g t r H wr U bk
   go_wp2_with fail
   refine Z.mono ?_
   rintro e w1 ⟨M,⟨I,rfl⟩|⟨x,rest,v,I,rfl,rfl,bc⟩⟩
   ·go_wp2_with fail
    refine⟨rfl,Qg.up (N.trans M) (Jry t bs (k+1) ?_ m (by omega))⟩
    rw[Jjw t bs r k A L.out,I];rfl
   clear Z
   have bj:Kv w1 w.heap.size (A++List.replicate (m-k) Jf) []:=J.of_block (M.block _ J.lt (by omega))
   have X:(A++List.replicate (m-k) Jf).length=m:=by rw[Oa8,K.out,Od6];omega
   obtain⟨old,⟨c0,bl⟩,⟨c1,bn⟩,⟨c2,br⟩,O⟩:=bj.put x k (by rw[X];exact Y)
   rw[Jna A k m x K.out Y]at O
   have bb:Hid _:=O
   have ba:Hid (Yl t (k+1) bs=some (A++[x],rest)):=by
    show _=_
    rw[Jjw t bs r k A L.out,I];rfl
   clear O X I
   go_wp2
   go_roundw
   case rel=>
    refine⟨k+1,A++[x],rest,by omega,by go_num,ba.out,bb.out,?_,?_⟩
    ·exact((bc.setOther (by omega) (by omega) _ _).setOther (by omega) (by omega) _ _).setOther (by omega) (by omega) _ _
    exact(((N.trans M).setNew (Oa2 _) _ _).setNew (Oa2 _) _ _).setNew (Oa2 _) _ _
   case measure=>simp[intOf];omega
  have bf:k=m:=by omega
  subst bf
  go_wp2
  go_ret
  rw[Oe1,List.replicate_zero,Od7]at J
  refine Qg.ok N L.out ⟨w.heap.size,?_,Oa2 _,J⟩ U
  rw[K.out]
  rfl
end
section
open Go.RowKit Tryz
def Jbq (t A:Int)(d:Nat):V:=⟨t,wrap64 (IntKind.u64.wrap (IntKind.u64.wrap A+(d:Int))),⟨#[]⟩⟩
theorem RAt.of_block {w w':World}{g:Nat}{t:Int}{bs:List UInt8}{A:Addr}(h:RAt w g t bs A)(e:w'.heap[g]?=w.heap[g]?)(H:w'.heap[3]?=w.heap[3]?):RAt w' g t bs A:=
 ⟨h.far,by rw[e];exact h.cells,by rw[Oc3 (w:=w) H];exact h.form,h.len⟩
theorem Jon (g:Nat)(t:Int)(bs:List UInt8)(X:Addr)(H:Int)(a:Option Addr)(cap:Nat)(A:List Nat)(w:World)(h:RAt w g t bs X)(bn:A.length≤64)(bb:Uh w a (A.map uv)) :
  Calls prog 343 #[.pointer (some ⟨g,0,none⟩),.int .i64 H,.slice a A.length cap] w fun e w'=>(∃ v,e=.returned v∧Jc9 w w' (A.map (Jbq t H)) v)∧Below w.heap.size w w':=by
 obtain⟨C,Z,ba⟩:=Jl9 A.length (by omega) w
 have bl:=h.lt
 have bk:=h.far
 go_enter func343,ntmps343
 go_wp2_with fail
 clear Z
 go_loopw [15] (fun i wr=>∃ k:Nat,k≤A.length∧i=.int .i64 k∧Kv wr w.heap.size ((A.take k).map (Jbq t H)++List.replicate (A.length-k) Jf) []∧Below w.heap.size w wr) (fun i _=>A.length-(intOf i).toNat)
 case atStart=>exact⟨0,by omega,rfl,by simpa using ba,(Oa5 _ _).alloc (Oa2 _) _⟩
 case round=>
  obtain⟨k,hk,rfl,L,I⟩:=hrel
  by_cases J:k<A.length
  ·obtain⟨b1,o1,rfl,bj,R⟩:=(bb.below I).at (i:=k) (by simpa using J)
   rw[Od9]at R
   unfold uv at R
   have bc:wr.cell? ⟨g,0,none⟩=some (.int .i64 t):=(h.below I).typ
   have M:((A.take k).map (Jbq t H)).length=k:=by simp;omega
   have N:((A.take k).map (Jbq t H)++List.replicate (A.length-k) Jf).length=A.length:=by rw[Oa8,M,Od6];omega
   obtain⟨old,⟨c0,bf⟩,⟨c1,bh⟩,⟨c2,bi⟩,K⟩:=L.put (Jbq t H A[k]) k (by rw[N];exact J)
   rw[Jna _ k A.length _ M J]at K
   have O:(A.take k).map (Jbq t H)++[Jbq t H A[k]]=(A.take (k+1)).map (Jbq t H):=by
    rw[Oc4 J,Ob8];rfl
   rw[O]at K
   have U:Hid _:=K
   clear K O N M
   go_wp2
   go_roundw
   case rel=>
    refine⟨k+1,by omega,by go_num,?_,((I.setCell (p:=⟨w.heap.size,k*3,none⟩) (Oa2 _) _).setCell (p:=⟨w.heap.size,k*3+1,none⟩) (Oa2 _) _).setCell (p:=⟨w.heap.size,k*3+2,none⟩) (Oa2 _) _⟩
    exact U.out
   case measure=>simp[intOf];omega
  have Y:k=A.length:=by omega
  subst Y
  go_wp2
  go_ret
  rw[Oe1,List.replicate_zero,Od7,Of2]at L
  refine⟨⟨_,rfl,w.heap.size,?_,Oa2 _,L⟩,I⟩
  rw[Oa6]
  rfl
def Jof (w w':World)(vs:List V)(v:Value):Prop:=∃ a cap,v=.slice a vs.length cap∧Jv w' a vs∧∀ b o,a=some ⟨b,o,none⟩→w.heap.size≤b
theorem Jc9.toR {w w':World}{vs:List V}{v:Value}(h:Jc9 w w' vs v):Jof w w' vs v:=by
 obtain⟨b,rfl,I,A⟩:=h
 refine⟨_,_,rfl,A.vals,fun H o e=>?_⟩
 simp at e
 omega
theorem Jof.mono {w w1 w':World}{vs:List V}{v:Value}(h:Jof w1 w' vs v)(hs:w.heap.size≤w1.heap.size):Jof w w' vs v:=by
 obtain⟨a,cap,rfl,H,A⟩:=h
 exact⟨_,_,rfl,H,fun b o e=>Ob2 hs (A b o e)⟩
def Ux (t:Int)(m:Nat)(bs:List UInt8):Option (List V×List UInt8):=
 if t=2 then (Yj 1 m bs).map fun x=>(x.1.map (Jbq t 0),x.2)
 else if m=0 then some ([],bs)
 else match Jc7 bs with
  |none=>none
  |some (H,r)=>match Ur r with
   |none=>none
   |some (A,I)=>if A≤64 then (Yj A m I).map fun x=>(x.1.map (Jbq t H),x.2)else none
theorem Kt {H count:Nat}{bs rest:List UInt8}{A:List Nat}(h:Yj H count bs=some (A,rest)):A.length=count:=by
 unfold Yj at h
 split at h
 ·simp at h
 simp at h;rw[←h.1];simp
theorem Jwz (g:Nat)(t:Int)(bs:List UInt8)(H:Addr)(m:Nat)(w:World)(h:RAt w g t bs H)(bi:m≤64) :
  Calls prog 309 #[.pointer (some ⟨g,0,none⟩),.int .i64 m] w (Qg w g t H (Ux t m bs) fun vs v w'=>Jof w w' vs v):=by
 have bC:=h.lt
 have c0:=h.typ
 by_cases I:t=2
 ·subst I
  have J:=Jas g 2 bs H 1 m w h (by omega) bi
  simp only[Int.natCast_one]at J
  go_enter func309,ntmps309
  go_wp2_with fail
  refine J.mono ?_
  rintro e w1 ⟨hk,⟨A,rfl⟩|⟨M,rest,v,A,rfl,⟨b,rfl,bn,ba⟩,O⟩⟩
  ·go_wp2_with fail
   exact⟨rfl,Qg.up hk (by simp[Ux,A])⟩
  have Y:=Kt A
  clear J
  have U:=Jon g 2 rest H 0 (some ⟨b,0,none⟩) M.length M w1 O (by omega) ba
  clear Y
  go_wp2_with fail
  refine U.mono ?_
  rintro e bl ⟨⟨v,rfl,Z⟩,bf⟩
  go_wp2_with fail
  go_ret
  exact Qg.ok (hk.trans (Jt.of_below bf g)) (by simp[Ux,A]) (Z.toR.mono hk.size) (O.below bf)
 have bB:(t==2)=false:=by simpa using I
 by_cases h0:m=0
 ·subst h0
  go_enter func309,ntmps309
  go_wp2_with fail
  go_ret
  exact Qg.ok (Jt.refl _ _) (by simp[Ux,I]) ⟨none,0,rfl,.inl rfl,fun b o e=>by simp at e⟩ h
 have bA:((m:Int)==0)=false:=by rw[beq_eq_false_iff_ne];omega
 have bj:=Jmh g t bs H w h
 go_enter func309,ntmps309
 go_wp2_with fail
 refine bj.mono ?_
 rintro e w1 ⟨hk,⟨A,rfl⟩|⟨bu,r,v,A,rfl,rfl,O⟩⟩
 ·go_wp2_with fail
  exact⟨rfl,Qg.up hk (by simp[Ux,I,h0,A])⟩
 have bk:=Ja2 g t r H w1 O
 clear bj
 go_wp2_with fail
 refine bk.mono ?_
 rintro e bl ⟨L,⟨K,rfl⟩|⟨N,bx,v,K,rfl,rfl,bb⟩⟩
 ·go_wp2_with fail
  exact⟨rfl,Qg.up (hk.trans L) (by simp[Ux,I,h0,A,K])⟩
 have bD:=Jgx K
 clear bk
 by_cases hw:N≤64
 ·have br:((N:Int)≤64):=by omega
  have J:=Jas g t bx H N m bl bb hw bi
  go_wp2_with fail
  refine(Jep _).mono ?_
  rintro e w' ⟨rfl,rfl⟩
  go_wp2_with fail
  refine J.mono ?_
  rintro e bz ⟨X,⟨R,rfl⟩|⟨M,rest,v,R,rfl,⟨b,rfl,bn,ba⟩,bc⟩⟩
  ·go_wp2_with fail
   exact⟨rfl,Qg.up ((hk.trans L).trans X) (by simp[Ux,I,h0,A,K,R])⟩
  have Y:=Kt R
  clear J
  have U:=Jon g t rest H bu (some ⟨b,0,none⟩) M.length M bz bc (by omega) ba
  clear Y
  go_wp2_with fail
  refine U.mono ?_
  rintro e w4 ⟨⟨v,rfl,Z⟩,bh⟩
  go_wp2_with fail
  go_ret
  exact Qg.ok (((hk.trans L).trans X).trans (Jt.of_below bh g)) (by simp[Ux,I,h0,A,K,R,hw]) (Z.toR.mono ((hk.trans L).trans X).size) (bc.below bh)
 have br:¬ ((N:Int)≤64):=by omega
 go_wp2_with fail
 rw[show decide ((N:Int)≤64)=false from decide_eq_false (by omega)]
 refine(Jap H _ bb.form).mono ?_
 rintro e w' ⟨rfl,rfl⟩
 go_wp2_with fail
 exact⟨rfl,Qg.up (hk.trans L) (by simp[Ux,I,h0,A,K,hw])⟩
end
section
open Go.RowKit Tryz
def Jdd (t:Int)(m:Nat)(bs:List UInt8):Option (List V×List UInt8):=
 match Ur bs with
 |none=>none
 |some (n,r)=>match Yl t n r with
  |none=>none
  |some (ws,H)=>match Yj 4 m H with
   |none=>none
   |some (A,I)=>if ∀ k∈A,k<ws.length then some (A.map fun k=>ws.getD k Jf,I)else none
theorem Jgi {I count:Nat}{bs rest:List UInt8}{H:List Nat}(h:Yj I count bs=some (H,rest)):∀ n∈H,n<2 ^ I:=by
 unfold Yj at h
 split at h
 ·simp at h
 simp at h
 intro n A
 rw[←h.1]at A
 obtain⟨i,_,rfl⟩:=Of0.1 A
 exact Jok _ _ _
theorem Jb7 {w w':World}{g:Nat}{b:Nat}{xs:List Value}(h:Uh w (some ⟨b,0,none⟩) xs)(hk:Jt w w' g)(I:b≠g):Uh w' (some ⟨b,0,none⟩) xs:=
 h.of_block hk.size fun A o e H=>by
  simp at e
  exact hk.block A H (by rw[←e.1];exact I)
theorem Jt.over {w w1 H:World}{g G:Nat}(h:Jt w w1 g)(k:Jt w1 H G)(J:w.heap.size≤G):Jt w H g:=
 ⟨k.os.trans h.os,k.tape.trans h.tape,k.output.trans h.output,Ob2 h.size k.size,fun j A I=>(k.block j (Oc2 A h.size) (by omega)).trans (h.block j A I)⟩
theorem Jt.more {w w1:World}{G:Nat}(h:Jt w w1 G)(i:Nat)(v:Value):Jt w (w1.setCell ⟨G,i,none⟩ v) G:=h.trans (Jt.set _ _ _ _)
theorem Jll (g:Nat)(t:Int)(bs:List UInt8)(H:Addr)(m:Nat)(w:World)(h:RAt w g t bs H)(cB:t=1∨t=2∨t=3)(cv:m≤64) :
  Calls prog 307 #[.pointer (some ⟨g,0,none⟩),.int .i64 m] w (Qg w g t H (Jdd t m bs) fun vs v w'=>Jc9 w w' vs v):=by
 have cL:=h.lt
 have cK:=h.far
 have bK:=Ja2 g t bs H w h
 go_enter func307,ntmps307
 go_wp2_with fail
 refine bK.mono ?_
 rintro e w1 ⟨K,⟨I,rfl⟩|⟨n,r,v,I,rfl,rfl,bx⟩⟩
 ·go_wp2_with fail
  exact⟨rfl,Qg.up K (by simp[Jdd,I])⟩
 have bL:=Jgx I
 have bM:=Jom g t r H n w1 bx cB (by omega)
 clear bK
 go_wp2_with fail
 refine bM.mono ?_
 rintro e X ⟨N,⟨M,rfl⟩|⟨ws,bT,v,M,rfl,⟨bw,rfl,cf,bh⟩,bz⟩⟩
 ·go_wp2_with fail
  exact⟨rfl,Qg.up (K.trans N) (by simp[Jdd,I,M])⟩
 have cM:ws.length<256:=by rw[Jeb t n r bT ws M];exact bL
 obtain⟨C,cx,bN⟩:=Jl9 m (by omega) X
 have bH:=Jas g t bT H 4 m _ (bz.alloc (.cells C 55)) (by omega) cv
 clear bM
 go_wp2_with fail
 refine bH.mono ?_
 rintro e bj ⟨O,⟨R,rfl⟩|⟨A,bU,v,R,rfl,⟨bY,rfl,bG,ci⟩,ba⟩⟩
 ·go_wp2_with fail
  exact⟨rfl,Qg.up (((K.trans N).alloc _).trans O) (by simp[Jdd,I,M,R])⟩
 have cu:=Kt R
 have bR:Jdd t m bs=if ∀ k∈A,k<ws.length then some (A.map fun k=>ws.getD k Jf,bU)else none:=by simp only[Jdd,I,M,R]
 have bl:Hid _:=bR
 have cn:=((K.trans N).alloc (.cells C 55)).trans O
 have cz:=K.size
 have cA:=N.size
 have bQ:=bh.lt
 have bO:Kv bj X.heap.size (List.replicate m Jf) []:=bN.of_block (O.block _ (by simp) (by omega))
 have bP:Kv bj bw ws []:=(bh.of_block ((Oa5 X.heap.size X).alloc (Oa2 _) (.cells C 55) |>.block bw bQ)).of_block (O.block _ (by simp;omega) (by omega))
 simp at bG
 clear bR bH cx bN I M R K N O bx bz bh bL
 go_wp2_with fail
 obtain⟨G,bb⟩:∃ G,G=X.heap.size:=⟨_,rfl⟩
 rw[←bb]
 rw[←bb]at bO
 have bB:w.heap.size≤G:=by omega
 have cb:G≠g:=by omega
 have bZ:G≠3:=by omega
 have ca:G≠bw:=by omega
 have cc:G≠bY:=by omega
 clear bb bG bQ cz cA cf
 go_loopw [19] (fun i wr=>∃ k:Nat,k≤m∧i=.int .i64 k∧(∀ x∈A.take k,x<ws.length)∧Kv wr G ((A.take k).map (fun k=>ws.getD k Jf)++List.replicate (m-k) Jf) []∧Jt bj wr G) (fun i _=>m-(intOf i).toNat)
 case atStart=>exact⟨0,by omega,rfl,by simp,by simpa using bO,Jt.refl _ _⟩
 case round=>
  obtain⟨k,hk,rfl,bE,bf,L⟩:=hrel
  have bk:Hid _:=bE
  clear bE
  have bA:RAt wr g t bU H:=ba.of_block (L.block _ ba.lt (Oc5 cb)) (L.block _ (by have:=ba.lt;omega) (Oc5 bZ))
  have bC:Jt w wr g:=cn.over L bB
  by_cases bJ:k<m
  ·have bc:k<A.length:=by omega
   obtain⟨b1,o1,br,cI,bV⟩:=(Jb7 ci L (Oc5 cc)).at (i:=k) (by simpa using bc)
   simp only[Oc9,Oh2]at br
   obtain⟨rfl,rfl,_⟩:=br
   rw[Od9,Od0]at bV
   unfold uv at bV
   have U:A.take (k+1)=A.take k++[A[k]]:=Oc4 bc
   have bn:Hid _:=U
   have bW:Hid (A[k]∈A):=Ob3 bc
   clear U
   generalize A[k]=q at *
   have cN:IntKind.u64.wrap (ws.length:Int)=(ws.length:Int):=Jcr _ (by omega)
   by_cases Y:q<ws.length
   ·have ck:((q:Int)<(ws.length:Int)):=by omega
    have bi:((A.take k).map (fun k=>ws.getD k Jf)).length=k:=by simp;omega
    have bI:((A.take k).map (fun k=>ws.getD k Jf)++List.replicate (m-k) Jf).length=m:=by rw[Oa8,bi,Od6];omega
    have cy:Kv wr bw ws []:=bP.of_block (L.block _ bP.lt (Oc5 ca))
    obtain⟨b2,o2,bu,cJ,cC,cD,cE⟩:=cy.vals.at Y
    simp only[Oc9,Oh2]at bu
    obtain⟨rfl,rfl,_⟩:=bu
    rw[Od0]at cC cD cE
    obtain⟨old,⟨c0,cF⟩,⟨c1,cG⟩,⟨c2,cH⟩,Z⟩:=bf.put ws[q] k (by rw[bI];exact bJ)
    rw[Jna _ k m _ bi bJ]at Z
    have U:(A.take k).map (fun k=>ws.getD k Jf)++[ws[q]]=(A.take (k+1)).map (fun k=>ws.getD k Jf):=by
     rw[bn.out,Ob8];simp[Y]
    rw[U]at Z
    have bX:Hid _:=Z
    clear Z U bI bi
    go_wp2_with fail
    refine(Jep _).mono ?_
    rintro e w' ⟨rfl,rfl⟩
    go_wp2
    go_roundw
    case rel=>
     refine⟨k+1,by omega,by go_num,?_,bX.out,((L.more _ _).more _ _).more _ _⟩
     intro x J
     rw[bn.out,Od2]at J
     rcases J with J|J
     ·exact bk.out x J
     simp at J;rw[J];exact Y
    case measure=>simp[intOf];omega
   have ck:¬ ((q:Int)<(ws.length:Int)):=by omega
   go_wp2_with fail
   refine(Jap H _ bA.form).mono ?_
   rintro e w' ⟨rfl,rfl⟩
   go_wp2_with fail
   exact⟨rfl,Qg.up bC (by rw[bl.out,if_neg (fun cj=>Y (cj _ bW.out))])⟩
  have cl:k=m:=by omega
  subst cl
  go_wp2
  go_ret
  have bS:A.take k=A:=Oc8 (by omega)
  rw[Oe1,List.replicate_zero,Od7,bS]at bf
  have bD:=bk.out
  rw[bS]at bD
  refine Qg.ok bC (by rw[bl.out,if_pos bD]) ⟨G,?_,bB,bf⟩ bA
  rw[Oa6,cu]
  rfl
def Ys:List Nat→List V→List V
 |[],_=>[]
 |h::hs,vs=>if h=1 then (vs.headD Jf)::Ys hs vs.tail else Jf::Ys hs vs
def Qs:List Nat→Nat
 |[]=>0
 |h::hs=>(if h=1 then 1 else 0)+Qs hs
theorem Jeq (l:List Nat)(h:Nat):Qs (l++[h])=Qs l+(if h=1 then 1 else 0):=by
 induction l with
 |nil=>simp[Qs]
 |cons x l A=>simp only[List.cons_append,Qs,A];omega
theorem Ja9 (l:List Nat)(k:Nat):Qs (l.take k)≤Qs l:=by
 induction l generalizing k with
 |nil=>simp[Qs]
 |cons x l A=>
  cases k with
  |zero=>simp[Qs]
  |succ k=>simp only[List.take_succ_cons,Qs];have:=A k;omega
theorem Jez (hs:List Nat):∀ vs,(Ys hs vs).length=hs.length:=by
 induction hs with
 |nil=>intro vs;rfl
 |cons h hs A=>intro vs;simp only[Ys];split<;>simp[A]
theorem Jxq (l:List Nat)(h:Nat):∀ vs:List V,Ys (l++[h]) vs=Ys l vs++[if h=1 then vs.getD (Qs l) Jf else Jf]:=by
 induction l with
 |nil=>intro vs;simp only[List.nil_append,Ys,Qs];cases vs<;>split<;>simp
 |cons x l H=>
  intro vs
  simp only[List.cons_append,Ys,Qs,H]
  by_cases A:x=1
  ·simp only[A,if_true]
   cases vs with
   |nil=>simp
   |cons v vs=>simp[Nat.add_comm 1]
  simp[A]
theorem Jgo (b:Nat)(hs:List Nat)(a:Option Addr)(cap bk:Nat)(vs:List V)(w:World)(bH:hs.length≤64)(bl:∀ h∈hs,h<2)(bL:Qs hs≤vs.length)(bM:vs.length≤64)(bj:Uh w (some ⟨b,0,none⟩) (hs.map uv))(bz:Jv w a vs) :
  Calls prog 264 #[.slice (some ⟨b,0,none⟩) hs.length bk,.slice a vs.length cap] w fun e w'=>(∃ v,e=.returned v∧Jc9 w w' (Ys hs vs) v)∧Below w.heap.size w w':=by
 obtain⟨C,br,bx⟩:=Jl9 hs.length (by omega) w
 go_enter func264,ntmps264
 go_wp2_with fail
 clear br
 go_loopw [6,14] (fun bA i wr=>∃ k:Nat,k≤hs.length∧i=.int .i64 k∧bA=.int .i64 (Qs (hs.take k):Nat)∧Kv wr w.heap.size (Ys (hs.take k) vs++List.replicate (hs.length-k) Jf) []∧Below w.heap.size w wr) (fun _ i _=>hs.length-(intOf i).toNat)
 case atStart=>exact⟨0,by omega,rfl,rfl,by simpa [Ys] using bx,(Oa5 _ _).alloc (Oa2 _) _⟩
 case round=>
  obtain⟨k,hk,rfl,rfl,J,H⟩:=hrel
  by_cases I:k<hs.length
  ·obtain⟨b1,o1,ba,bE,bf⟩:=(bj.below H).at (i:=k) (by simpa using I)
   simp only[Oc9,Oh2]at ba
   obtain⟨rfl,rfl,_⟩:=ba
   rw[Od9,Od0]at bf
   unfold uv at bf
   have K:hs.take (k+1)=hs.take k++[hs[k]]:=Oc4 I
   have bb:=Ja9 hs (k+1)
   have bK:=bl _ (Ob3 I)
   have U:=Jeq (hs.take k) hs[k]
   have O:=Jxq (hs.take k) hs[k] vs
   rw[←K]at U O
   have L:=Jez (hs.take k) vs
   have Y:(hs.take k).length=k:=by simp;omega
   rw[Y]at L
   have R:(Ys (hs.take k) vs++List.replicate (hs.length-k) Jf).length=hs.length:=by rw[Oa8,L,Od6];omega
   have A:Hid _:=U
   have Z:Hid _:=O
   clear U O K
   generalize hs[k]=q at *
   by_cases X:q=1
   ·subst X
    have bc:Qs (hs.take k)<vs.length:=by have:=A.out;simp at this;omega
    have bh:Hid (vs.getD (Qs (hs.take k)) Jf=vs[Qs (hs.take k)]):=by show _=_;simp[bc]
    have N:Hid (Qs (hs.take (k+1))=Qs (hs.take k)+1):=by show _=_;rw[A.out];rfl
    obtain⟨b2,o2,rfl,bG,bN,bO,bP⟩:=(bz.below H).at bc
    obtain⟨old,⟨c0,bB⟩,⟨c1,bC⟩,⟨c2,bD⟩,M⟩:=J.put vs[Qs (hs.take k)] k (by rw[R];exact I)
    rw[Jna _ k hs.length _ L I]at M
    have K:Ys (hs.take k) vs++[vs[Qs (hs.take k)]]=Ys (hs.take (k+1)) vs:=by
     rw[Z.out,if_pos rfl,bh.out]
    rw[K]at M
    have bi:Hid _:=M
    have bI:(0:Int)≤(Qs (hs.take k):Nat)∧((Qs (hs.take k):Nat):Int)<(vs.length:Int):=by omega
    clear M K R L Y bb A
    generalize Qs (hs.take k)=p at *
    go_wp2
    go_roundw
    case rel=>
     refine⟨k+1,by omega,by go_num,?_,bi.out,((H.setCell (p:=⟨w.heap.size,k*3,none⟩) (Oa2 _) _).setCell (p:=⟨w.heap.size,k*3+1,none⟩) (Oa2 _) _).setCell (p:=⟨w.heap.size,k*3+2,none⟩) (Oa2 _) _⟩
     rw[N.out];go_num
    case measure=>simp[intOf];omega
   have bJ:((q:Int)==1)=false:=by rw[beq_eq_false_iff_ne];omega
   have N:Hid (Qs (hs.take (k+1))=Qs (hs.take k)):=by show _=_;rw[A.out,if_neg X];rfl
   have bu:Kv wr w.heap.size (Ys (hs.take (k+1)) vs++List.replicate (hs.length-(k+1)) Jf) []:=by
    have e:hs.length-k=hs.length-(k+1)+1:=by omega
    rw[Z.out,if_neg X,Od8]
    rw[e,List.replicate_succ]at J
    exact J
   clear R L Y bb A
   go_wp2
   go_roundw
   case rel=>
    refine⟨k+1,by omega,by go_num,?_,bu,H⟩
    rw[N.out]
   case measure=>simp[intOf];omega
  have bn:k=hs.length:=by omega
  subst bn
  go_wp2
  go_ret
  rw[Oe1,List.replicate_zero,Od7,Of2]at J
  refine⟨⟨_,rfl,w.heap.size,?_,Oa2 _,J⟩,H⟩
  rw[Jez]
  rfl
end
section
open Go.RowKit
def Jdr (t:Int):Nat→Nat→List UInt8→Option (List V×List UInt8)
 |_,0,bs=>some ([],bs)
 |0,_+1,_=>none
 |f+1,m+1,bs=>match Ur bs with
  |none=>none
  |some (n,r)=>if 1≤n∧n≤m+1 then match Qz t r with
    |none=>none
    |some (v,A)=>(Jdr t f (m+1-n) A).map fun x=>(List.replicate n v++x.1,x.2)
   else none
def Jbh (t:Int)(m:Nat)(bs:List UInt8):Option (List V×List UInt8):=Jdr t m m bs
theorem Jcn (t:Int)(f:Nat)(bs:List UInt8):Jdr t f 0 bs=some ([],bs):=by cases f<;>rfl
theorem Jxj (t:Int):∀ (A m f g:Nat) (bs:List UInt8),m≤A→m≤f→m≤g→Jdr t f m bs=Jdr t g m bs:=by
 intro A
 induction A with
 |zero=>
  intro m f g bs I _ _
  have:m=0:=by omega
  subst this
  rw[Jcn,Jcn]
 |succ A J=>
  intro m f g bs I K L
  cases m with
  |zero=>rw[Jcn,Jcn]
  |succ m=>
   obtain⟨f,rfl⟩:∃ d,f=d+1:=⟨f-1,by omega⟩
   obtain⟨g,rfl⟩:∃ d,g=d+1:=⟨g-1,by omega⟩
   rw[Jdr,Jdr]
   cases Ur bs with
   |none=>rfl
   |some x=>
    obtain⟨n,r⟩:=x
    simp only
    by_cases H:1≤n∧n≤m+1
    ·rw[if_pos H,if_pos H]
     cases Qz t r with
     |none=>rfl
     |some y=>simp only;rw[J (m+1-n) f g y.2 (by omega) (by omega) (by omega)]
    rw[if_neg H,if_neg H]
theorem Jb9 (t:Int)(bs:List UInt8):Jbh t 0 bs=some ([],bs):=rfl
theorem Jay (t:Int)(m:Nat)(bs:List UInt8):Jbh t (m+1) bs=match Ur bs with
  |none=>none
  |some (n,r)=>if _h:1≤n∧n≤m+1 then match Qz t r with
    |none=>none
    |some (v,H)=>(Jbh t (m+1-n) H).map fun x=>(List.replicate n v++x.1,x.2)
   else none:=by
 unfold Jbh
 rw[Jdr]
 cases Ur bs with
 |none=>rfl
 |some x=>
  obtain⟨n,r⟩:=x
  simp only
  by_cases A:1≤n∧n≤m+1
  ·rw[if_pos A,dif_pos A]
   cases Qz t r with
   |none=>rfl
   |some y=>simp only;rw[Jxj t m (m+1-n) m (m+1-n) y.2 (by omega) (by omega) (Oa2 _)]
  rw[if_neg A,dif_neg A]
theorem Jn9 {w w':World}{B g:Nat}{sv:Value}{A:List V}(h:Yt w B sv A)(hk:Jt w w' g)(K:g<B):Yt w' B sv A:=
 Jl h fun k I=>by
  obtain⟨J,H⟩:=Je h I
  exact hk.block k H (by omega)
theorem Jrb {w w1 I:World}{g:Nat}{sv:Value}{L:List V}{B:Nat}(h:Jt w w1 g)(M:w.heap.size≤B)(K:Yt w1 B sv L)(A:w1.grownBy I sv.ownBlock):Jt w I g:=
 ⟨A.os.trans h.os,A.tape.trans h.tape,A.output.trans h.output,Ob2 h.size A.size,fun j H J=>(A.block j (Oc2 H h.size) (fun e=>by have:=(Je K e.symm).1;omega)).trans (h.block j H J)⟩
theorem Ka8 {w1 J:World}{g:Nat}{t:Int}{bs:List UInt8}{A:Addr}{sv:Value}{K:List V}{B:Nat}(h:RAt w1 g t bs A)(L:g<B)(I:Yt w1 B sv K)(H:w1.grownBy J sv.ownBlock):RAt J g t bs A:=
 h.of_block (H.block _ h.lt (fun e=>by have:=(Je I e.symm).1;omega)) (H.block _ (by have:=h.lt;have:=h.far;omega) (fun e=>by have:=(Je I e.symm).1;have:=h.far;omega))
theorem Kdl (g:Nat)(t:Int)(bs:List UInt8)(K:Addr)(m:Nat)(w:World)(h:RAt w g t bs K)(bT:t=1∨t=2∨t=3)(ck:m≤64) :
  Calls Tryz.prog 308 #[.pointer (some ⟨g,0,none⟩),.int .i64 m] w (Qg w g t K (Jbh t m bs) fun vs v w'=>Jof w w' vs v):=by
 have bk:=h.lt
 have cf:=h.far
 go_enter Tryz.func308,Tryz.ntmps308
 go_wp2_with fail
 go_loopw [5] (fun sv wr=>∃ (A:List V) (r:List UInt8),A.length≤m∧Yt wr w.heap.size sv A∧Jbh t m bs=(Jbh t (m-A.length) r).map (fun x=>(A++x.1,x.2))∧RAt wr g t r K∧Jt w wr g) (fun sv _=>m-Kgl sv)
 case atStart=>exact⟨[],bs,by simp,Yt.nil _ _,by simp,h,Jt.refl _ _⟩
 case round=>
  obtain⟨A,r,cy,I,bJ,N,M⟩:=hrel
  obtain⟨a,cap,rfl,bL⟩:=I.vals
  have R:Hid _:=bJ
  clear bJ
  by_cases cj:A.length<m
  ·obtain⟨d,bE⟩:∃ d,m-A.length=d+1:=⟨m-A.length-1,by omega⟩
   have J:Hid (m-A.length=d+1):=bE
   clear bE
   have hs:=Ja2 g t r K wr N
   go_wp2_with fail
   refine hs.mono ?_
   rintro e w1 ⟨L,⟨X,rfl⟩|⟨n,bV,v,X,rfl,rfl,ba⟩⟩
   ·go_wp2_with fail
    refine⟨rfl,Qg.up (M.trans L) ?_⟩
    rw[R.out,J.out,Jay,X]
    rfl
   clear hs
   have cu:=Jgx X
   have bi:Hid _:=X
   clear X
   by_cases bu:1≤n∧n≤d+1
   ·have cl:((1:Int)≤(n:Int)):=by omega
    have cn:((n:Int)≤(m:Int)-(A.length:Int)):=by have:=J.out;omega
    go_wp2_with fail
    refine(Jep _).mono ?_
    rintro e w' ⟨rfl,rfl⟩
    have bM:=Jn7 g t bV K w' ba bT
    go_wp2_with fail
    refine bM.mono ?_
    rintro e Y ⟨bc,⟨bf,rfl⟩|⟨x,bz,v,bf,rfl,rfl,bC⟩⟩
    ·go_wp2_with fail
     refine⟨rfl,Qg.up ((M.trans L).trans bc) ?_⟩
     rw[R.out,J.out,Jay,bi.out]
     simp only[bf,bu,and_self,dite_true,Option.map_none]
    clear bM
    have bO:Hid (Jbh t m bs=(Jbh t (d+1-n) bz).map (fun y=>(A++(List.replicate n x++y.1),y.2))):=by
     show _=_
     rw[R.out,J.out,Jay,bi.out]
     simp only[bf,bu,and_self,dite_true,Option.map_map]
     rfl
    have bx:=(Jn9 (Jn9 I L bk) bc bk)
    have bn:=(M.trans L).trans bc
    have bS:=bn.size
    have O:(Value.slice a A.length cap).ownBlock≠some Y.heap.size:=fun e=>by have:=(Je bx e).2;omega
    clear bL I L bc ba N M bf
    go_wp2_with fail
    obtain⟨H,bb⟩:∃ H,H=Y.heap.size:=⟨_,rfl⟩
    have bh:VAt (Y.alloc (.cells #[.int .i64 x.k,.int .i64 x.n,.string x.s] 55)) H 0 x:=by
     rw[bb]
     refine⟨?_,?_,?_⟩<;>simp
    have cA:w.heap.size≤H:=by omega
    have bN:H<(Y.alloc (.cells #[.int .i64 x.k,.int .i64 x.n,.string x.s] 55)).heap.size:=by simp;omega
    have bI:=bx.alloc (.cells #[.int .i64 x.k,.int .i64 x.n,.string x.s] 55)
    have bD:=bC.alloc (.cells #[.int .i64 x.k,.int .i64 x.n,.string x.s] 55)
    have bG:=bn.alloc (.cells #[.int .i64 x.k,.int .i64 x.n,.string x.s] 55)
    rw[←bb]
    rw[←bb]at O
    generalize Y.alloc (.cells #[.int .i64 x.k,.int .i64 x.n,.string x.s] 55)=cB at *
    clear bb bx bC bn bS
    go_loopw [5,28] (fun sv i Z=>∃ k:Nat,k≤n∧i=.int .i64 k∧Yt Z w.heap.size sv (A++List.replicate k x)∧RAt Z g t bz K∧Jt w Z g∧VAt Z H 0 x∧H<Z.heap.size∧sv.ownBlock≠some H) (fun _ i _=>n-(intOf i).toNat)
    case atStart=>exact⟨0,by omega,rfl,by simpa using bI,bD,bG,bh,bN,O⟩
    case round=>
     clear bI bD bG bh bN O
     obtain⟨k,hk,rfl,I,N,br,bh,bR,O⟩:=hrel
     by_cases ci:k<n
     ·obtain⟨bX,bY,bZ⟩:=bh
      have cx:(A++List.replicate k x).length≤64+256:=by rw[Oa8,Od6];omega
      have bK:A++List.replicate (k+1) x=(A++List.replicate k x)++[x]:=by rw[List.replicate_succ',Od8]
      have bP:Hid _:=bK
      clear bK
      generalize A++List.replicate k x=bW at *
      have cv:=br.size
      go_wp2_with (at_builtin;refine Jcj (by rfl) _ _ (by rfl) w.heap.size _ bW (by rfl) (I.alloc _) _ _ x (by rfl) (by refine⟨?_,?_,?_⟩<;>simp) (by omega) (by simp;omega) ?_;intro sv' w4 bB U bQ)
      go_roundw
      case rel=>
       have bU:VAt w4 H 0 x:=by
        refine VAt.of_block (w:=_) (VAt.of_block (w:=_) ⟨bX,bY,bZ⟩ (Oa9 _ _ H bR)) (U.block H (by simp;omega) (Oc5 O))
       refine⟨k+1,by omega,by go_num,by rw[bP.out];exact bB,Ka8 (N.alloc _) bk (I.alloc _) U,Jrb (br.alloc _) (Oa2 _) (I.alloc _) U,bU,?_,?_⟩
       ·have:=U.size
        simp at this
        omega
       rcases bQ with e|e
       ·rw[e];exact O
       rw[e]
       intro bj
       simp at bj
       omega
      case measure=>simp[intOf];omega
     have bl:k=n:=by omega
     subst bl
     obtain⟨ca,cb,rfl,cz⟩:=I.vals
     have bH:(A++List.replicate k x).length=A.length+k:=by simp
     go_wp2
     go_roundw
     case rel=>
      refine⟨A++List.replicate k x,bz,by rw[bH];have:=J.out;omega,I,?_,N,br⟩
      have e:m-(A++List.replicate k x).length=d+1-k:=by rw[bH];have:=J.out;omega
      rw[bO.out,e]
      simp only[Od8]
     case measure=>
      have:=J.out
      simp[Kgl]
      omega
   have cc:¬ (((1:Int)≤(n:Int))∧((n:Int)≤(m:Int)-(A.length:Int))):=by have:=J.out;omega
   have bA:Hid (Jbh t m bs=none):=by
    show _=_
    rw[R.out,J.out,Jay,bi.out]
    simp only[bu,dite_false,Option.map_none]
   by_cases bB:(1:Int)≤(n:Int)
   ·have U:¬ ((n:Int)≤(m:Int)-(A.length:Int)):=by omega
    go_wp2_with fail
    rw[show decide ((n:Int)≤(m:Int)-(A.length:Int))=false from decide_eq_false (by omega)]
    refine(Jap K _ ba.form).mono ?_
    rintro e w' ⟨rfl,rfl⟩
    go_wp2_with fail
    exact⟨rfl,Qg.up (M.trans L) bA.out⟩
   go_wp2_with fail
   refine(Jap K _ ba.form).mono ?_
   rintro e w' ⟨rfl,rfl⟩
   go_wp2_with fail
   exact⟨rfl,Qg.up (M.trans L) bA.out⟩
  have bl:A.length=m:=by omega
  go_wp2_with fail
  go_ret
  refine Qg.ok (x:=A) (rest:=r) M ?_ ⟨a,cap,rfl,bL,fun b o e=>?_⟩ N
  ·rw[R.out,bl,Oe1,Jb9]
   simp
  have bj:(Value.slice a A.length cap).ownBlock=some b:=by rw[e];rfl
  exact(Je I bj).1
end
section
open Go.RowKit
theorem Jgk (g:Nat)(w:World) :
  Calls Tryz.prog 265 #[.pointer (some ⟨g,0,none⟩)] w fun e w'=>e=.returned (.agg #[.func (.func 306) #[.pointer (some ⟨g,0,none⟩)] #[],.func (.func 307) #[.pointer (some ⟨g,0,none⟩)] #[],.func (.func 308) #[.pointer (some ⟨g,0,none⟩)] #[],.func (.func 309) #[.pointer (some ⟨g,0,none⟩)] #[]])∧Below w.heap.size w w':=by
 have hone:∀ (W:World) (a:Addr) f x c,(store a (.func f x c)).run Tryz.prog W=match W.cell? a with
   | some _ => if W.frozen? a then .halt (.unsupported (.unsafePointer "a write to bytes that a string shares")) W else .ok () (W.setCell a (.func f x c))
   |none=>match W.farStore Tryz.prog a (.func f x c) (Mode.plain==.atomic)with
    |.ok (w',_)=>.ok () w'
    |.error h=>.halt h W:=fun W a f x c=>run_store Tryz.prog W a (.func f x c) .plain rfl
 go_enter Tryz.func265,Tryz.ntmps265
 go_wp2
 exact bodyPost_ret (v:=.agg #[.func (.func 306) #[.pointer (some ⟨g,0,none⟩)] #[],.func (.func 307) #[.pointer (some ⟨g,0,none⟩)] #[],.func (.func 308) #[.pointer (some ⟨g,0,none⟩)] #[],.func (.func 309) #[.pointer (some ⟨g,0,none⟩)] #[]]) (by simp[results,Tryz.results265,go_sem]) rfl ⟨rfl,(Oa5 _ _).alloc (Oa2 _) _⟩
theorem Js4:(Tryz.prog.info? 436).map (fun i=>i.size)=some 1:=by kernel_rfl
theorem Jao (A H I J:Value)(w:World) :
  (Instr.index 437 (.agg #[A,H,I,J]) (.int .i64 0)).run Tryz.prog w=.ok A w ∧
  (Instr.index 437 (.agg #[A,H,I,J]) (.int .i64 1)).run Tryz.prog w=.ok H w ∧
  (Instr.index 437 (.agg #[A,H,I,J]) (.int .i64 2)).run Tryz.prog w=.ok I w ∧
  (Instr.index 437 (.agg #[A,H,I,J]) (.int .i64 3)).run Tryz.prog w=.ok J w:=by
 obtain⟨i,hi,hs⟩:=Oe9.1 Js4
 refine⟨?_,?_,?_,?_⟩<;>simp[Instr.index,run_underlying Tryz.underlying437,run_underlying Tryz.underlying436,asIntOf,part,isAgg,sizeOf,typeInfo,hi,hs]
def Jf2:List UInt8→Option ((Nat×Nat×Nat)×List UInt8)
 |b0::b1::b2::r=>if way (b0.toNat:Int) (b1.toNat:Int)=true∧b2.toNat≤64 then some ((b0.toNat,b1.toNat,b2.toNat),r)else none
 |_=>none
theorem Kbu (g:Nat)(bj:Int)(bs:List UInt8)(H:Addr)(w:World)(h:RAt w g bj bs H) :
  Calls Tryz.prog 229 #[.pointer (some ⟨g,0,none⟩)] w fun e w'=>Jt w w' g∧((Jf2 bs=none∧e=Jpu H)∨∃ t I n rest,Jf2 bs=some ((t,I,n),rest)∧e=.returned (.tuple #[.int .i64 (I:Nat),.int .i64 (n:Nat)])∧RAt w' g (t:Nat) rest H):=by
 have bf:=Ja2 g bj bs H w h
 go_enter Tryz.func229,Tryz.ntmps229
 go_wp2_with fail
 refine bf.mono ?_
 rintro e w1 ⟨R,⟨J,rfl⟩|⟨n0,bl,v,J,rfl,rfl,M⟩⟩
 ·go_wp2_with fail
  refine⟨rfl,R,.inl ⟨?_,rfl⟩⟩
  cases bs with
  |nil=>rfl
  |cons b r=>simp[Ur]at J
 cases bs with
 |nil=>simp[Ur]at J
 |cons b0 A=>
  simp[Ur]at J
  obtain⟨rfl,rfl⟩:=J
  clear bf
  have c0:=M.typ
  have c1:=M.thaw 0
  have ba:=M.setTyp (t':=(b0.toNat:Int))
  have U:=R.trans (Jt.set w1 g 0 (.int .i64 (b0.toNat:Int)))
  have bn:=b0.toNat_lt
  have bh:=Ja2 g _ A H _ ba
  go_wp2_with fail
  refine bh.mono ?_
  rintro e bC ⟨Y,⟨K,rfl⟩|⟨n1,bl,v,K,rfl,rfl,bb⟩⟩
  ·go_wp2_with fail
   refine⟨rfl,U.trans Y,.inl ⟨?_,rfl⟩⟩
   cases A with
   |nil=>rfl
   |cons b r=>simp[Ur]at K
  cases A with
  |nil=>simp[Ur]at K
  |cons b1 A=>
   simp[Ur]at K
   obtain⟨rfl,rfl⟩:=K
   clear bh
   have X:=U.trans Y
   clear R U M ba c0 c1 Y
   have br:=b1.toNat_lt
   have bi:=Ja2 g _ A H _ bb
   go_wp2_with fail
   refine bi.mono ?_
   rintro e bD ⟨Z,⟨L,rfl⟩|⟨bA,bB,v,L,rfl,rfl,N⟩⟩
   ·go_wp2_with fail
    refine⟨rfl,X.trans Z,.inl ⟨?_,rfl⟩⟩
    cases A with
    |nil=>rfl
    |cons b r=>simp[Ur]at L
   cases A with
   |nil=>simp[Ur]at L
   |cons b2 A=>
    simp[Ur]at L
    obtain⟨rfl,rfl⟩:=L
    clear bi
    have hk:=X.trans Z
    clear X Z bb
    have c0:=N.typ
    have O:Hid (Jf2 (b0::b1::b2::A)=if way (b0.toNat:Int) (b1.toNat:Int)=true∧b2.toNat≤64 then some ((b0.toNat,b1.toNat,b2.toNat),A)else none):=rfl
    have bu:=b2.toNat_lt
    generalize b0.toNat=t at *
    generalize b1.toNat=I at *
    generalize b2.toNat=n at *
    go_wp2_with fail
    refine(Ja3 _ _ _).mono ?_
    rintro e w' ⟨rfl,bz⟩
    subst w'
    cases hway:way (t:Int) (I:Int)with
    |false=>
     go_wp2_with fail
     refine(Jap H _ N.form).mono ?_
     rintro e w' ⟨rfl,rfl⟩
     go_wp2_with fail
     refine⟨rfl,hk,.inl ⟨?_,rfl⟩⟩
     rw[O.out,hway];simp
    |true=>
     by_cases bc:n≤64
     ·have bx:((n:Int)≤64):=by omega
      go_wp2_with fail
      refine(Jep _).mono ?_
      rintro e w' ⟨rfl,rfl⟩
      go_wp2_with fail
      go_ret2
      refine⟨hk,.inr ⟨t,I,n,A,?_,rfl,N⟩⟩
      rw[O.out,hway,if_pos ⟨rfl,bc⟩]
     go_wp2_with fail
     rw[show decide ((n:Int)≤64)=false from decide_eq_false (by omega)]
     refine(Jap H _ N.form).mono ?_
     rintro e w' ⟨rfl,rfl⟩
     go_wp2_with fail
     refine⟨rfl,hk,.inl ⟨?_,rfl⟩⟩
     rw[O.out,if_neg (fun bk=>bc bk.2)]
def Jce (t A:Int)(m:Nat)(bs:List UInt8):Option (List V×List UInt8):=
 if A=0 then Yl t m bs else if A=1 then Jdd t m bs else if A=2 then Jbh t m bs else Ux t m bs
def Ug (t A:Int)(n:Nat)(bs:List UInt8):Option (List V×List UInt8):=
 match Yj 1 n bs with
 |none=>none
 |some (hs,r)=>(Jce t A (Qs hs) r).map fun x=>(Ys hs x.1,x.2)
theorem Jno (t:Int):∀ (A m:Nat) (bs rest:List UInt8) (vs:List V),m≤A→Jbh t m bs=some (vs,rest)→vs.length=m:=by
 intro A
 induction A with
 |zero=>
  intro m bs rest vs H h
  have:m=0:=by omega
  subst this
  rw[Jb9]at h
  simp at h
  simp[h.1.symm]
 |succ A J=>
  intro m bs rest vs H h
  cases m with
  |zero=>rw[Jb9]at h;simp at h;simp[h.1.symm]
  |succ m=>
   rw[Jay]at h
   cases hb:Ur bs with
   |none=>rw[hb]at h;simp at h
   |some x=>
    obtain⟨n,r⟩:=x
    rw[hb]at h
    simp only at h
    split at h
    ·rename_i L
     cases hv:Qz t r with
     |none=>rw[hv]at h;simp at h
     |some y=>
      obtain⟨v,K⟩:=y
      rw[hv]at h
      obtain⟨z,I,e⟩:=Oe9.1 h
      simp only[Oj3]at e
      have:=J (m+1-n) K z.2 z.1 (by omega) I
      rw[←e.1,Oa8,Od6,this]
      omega
    simp at h
theorem Jb1 {t I:Int}{m:Nat}{bs rest:List UInt8}{vs:List V}(h:Jce t I m bs=some (vs,rest)):vs.length=m:=by
 unfold Jce at h
 split at h
 ·exact Jeb t m bs rest vs h
 split at h
 ·unfold Jdd at h
  split at h
  ·simp at h
  split at h
  ·simp at h
  split at h
  ·simp at h
  rename_i J K H
  split at h
  ·simp at h
   rw[←h.1,Oa6]
   exact Kt H
  simp at h
 split at h
 ·exact Jno t m m bs rest vs (Oa2 _) h
 unfold Ux at h
 split at h
 ·obtain⟨z,A,e⟩:=Oe9.1 h
  simp only[Oj3]at e
  rw[←e.1,Oa6]
  exact Kt A
 split at h
 ·rename_i h0
  simp at h
  rw[h.1,h0]
  rfl
 split at h
 ·simp at h
 split at h
 ·simp at h
 split at h
 ·obtain⟨z,A,e⟩:=Oe9.1 h
  simp only[Oj3]at e
  rw[←e.1,Oa6]
  exact Kt A
 simp at h
theorem Jky (l:List Nat):Qs l≤l.length:=by
 induction l with
 |nil=>simp[Qs]
 |cons x l A=>simp only[Qs,List.length_cons];split<;>omega
end
section
open Go.RowKit
theorem Jp9 (q:Nat)(h:q<2):(if q=1 then 1 else 0)=q:=by split<;>omega
theorem Jqf (g:Nat)(t:Int)(n:Nat)(bs:List UInt8)(I:Addr)(w:World)(h:RAt w g t bs I)(bQ:t=1∨t=2∨t=3)(bK:n≤64) :
  Calls Tryz.prog 230 #[.pointer (some ⟨g,0,none⟩),.int .i64 0,.int .i64 n] w (Qg w g t I (Ug t 0 n bs) fun vs v w'=>Jc9 w w' vs v):=by
 have cb:=h.lt
 have ca:=h.far
 have bf:=Jas g t bs I 1 n w h (by omega) bK
 go_enter Tryz.func230,Tryz.ntmps230
 go_wp2_with fail
 refine bf.mono ?_
 rintro e w1 ⟨bj,⟨A,rfl⟩|⟨hs,L,v,A,rfl,⟨b,rfl,bY,bc⟩,bA⟩⟩
 ·go_wp2_with fail
  exact⟨rfl,Qg.up bj (by simp[Ug,A])⟩
 have bi:=Kt A
 have bh:=Jgi A
 have bL:=Jky hs
 have Y:Hid (Ug t 0 n bs=(Jce t 0 (Qs hs) L).map fun x=>(Ys hs x.1,x.2)):=by show _=_;simp only[Ug,A]
 have bW:Hid (hs.length=n):=bi
 have X:Hid (hs.length≤64):=by show _≤_;omega
 clear bf A bi
 go_wp2_with fail
 go_loopw [8,16] (fun bV i wr=>∃ k:Nat,k≤hs.length∧i=.int .i64 k∧bV=.int .i64 (Qs (hs.take k):Nat)∧wr=w1) (fun _ i _=>hs.length-(intOf i).toNat)
 case atStart=>exact⟨0,by omega,rfl,rfl,rfl⟩
 case round=>
  obtain⟨k,hk,rfl,rfl,rfl⟩:=hrel
  by_cases U:k<hs.length
  ·have R:=X.out
   obtain⟨b1,o1,Z,bZ,br⟩:=bc.at (i:=k) (by simpa using U)
   simp only[Oc9,Oh2]at Z
   obtain⟨rfl,rfl,_⟩:=Z
   rw[Od9,Od0]at br
   unfold uv at br
   have K:=Jeq (hs.take k) hs[k]
   rw[←Oc4 U]at K
   have bk:=bh _ (Ob3 U)
   have bM:=Ja9 hs k
   generalize hs[k]=q at *
   have bN:q<2:=bk
   have bl:=Jp9 q bN
   have cc:Qs (hs.take k)≤64:=Ob2 bM (Ob2 bL R)
   clear bk
   rw[bl]at K
   have bx:Hid _:=K
   clear K bl
   generalize Qs (hs.take k)=p at *
   go_wp2
   go_roundw
   case rel=>
    refine⟨k+1,by omega,by go_num,?_,trivial⟩
    rw[bx.out]
    go_num
   case measure=>simp[intOf];omega
  have bJ:k=hs.length:=by omega
  subst bJ
  rw[Of2]
  have R:=X.out
  go_wp2_with fail
  refine(Jgk g wr).mono ?_
  rintro e bn ⟨rfl,N⟩
  have bB:=bA.below N
  have bG:=bc.below N
  have O:=bj.trans (Jt.of_below N g)
  have bI:=(Jao (.func (.func 306) #[.pointer (some ⟨g,0,none⟩)] #[]) (.func (.func 307) #[.pointer (some ⟨g,0,none⟩)] #[]) (.func (.func 308) #[.pointer (some ⟨g,0,none⟩)] #[]) (.func (.func 309) #[.pointer (some ⟨g,0,none⟩)] #[]) bn).1
  have bb:=Jom g t L I (Qs hs) bn bB bQ (by omega)
  have M:Hid (Jce t 0 (Qs hs) L=Yl t (Qs hs) L):=rfl
  go_wp2_with fail
  refine bb.mono ?_
  rintro e w4 ⟨J,⟨H,rfl⟩|⟨vs,rest,v,H,rfl,bR,bC⟩⟩
  ·go_wp2_with fail
   exact⟨rfl,Qg.up (O.trans J) (by rw[Y.out,M.out,H];rfl)⟩
  have bU:=Jb1 (M.out.trans H)
  obtain⟨a,cap,rfl,bT,bX⟩:=bR.toR
  have bH:=Jb7 bG J (by omega)
  clear bb bI
  have bD:=Jgo b hs a cap hs.length vs w4 R bh (by omega) (by omega) bH bT
  have bu:Hid (Ug t 0 n bs=some (Ys hs vs,rest)):=by show _=_;rw[Y.out,M.out,H];rfl
  clear H bU
  go_wp2_with fail
  refine bD.mono ?_
  rintro e cf ⟨⟨v,rfl,bS⟩,ba⟩
  have bP:=(O.trans J).size
  go_wp2_with fail
  go_ret
  obtain⟨bz,rfl,bE,bO⟩:=bS
  exact Qg.ok ((O.trans J).trans (Jt.of_below ba g)) bu.out ⟨bz,rfl,Ob2 bP bE,bO⟩ (bC.below ba)
theorem Jq2 (g:Nat)(t:Int)(n:Nat)(bs:List UInt8)(I:Addr)(w:World)(h:RAt w g t bs I)(bQ:t=1∨t=2∨t=3)(bK:n≤64) :
  Calls Tryz.prog 230 #[.pointer (some ⟨g,0,none⟩),.int .i64 1,.int .i64 n] w (Qg w g t I (Ug t 1 n bs) fun vs v w'=>Jc9 w w' vs v):=by
 have cb:=h.lt
 have ca:=h.far
 have bf:=Jas g t bs I 1 n w h (by omega) bK
 go_enter Tryz.func230,Tryz.ntmps230
 go_wp2_with fail
 refine bf.mono ?_
 rintro e w1 ⟨bj,⟨A,rfl⟩|⟨hs,L,v,A,rfl,⟨b,rfl,bY,bc⟩,bA⟩⟩
 ·go_wp2_with fail
  exact⟨rfl,Qg.up bj (by simp[Ug,A])⟩
 have bi:=Kt A
 have bh:=Jgi A
 have bL:=Jky hs
 have Y:Hid (Ug t 1 n bs=(Jce t 1 (Qs hs) L).map fun x=>(Ys hs x.1,x.2)):=by show _=_;simp only[Ug,A]
 have bW:Hid (hs.length=n):=bi
 have X:Hid (hs.length≤64):=by show _≤_;omega
 clear bf A bi
 go_wp2_with fail
 go_loopw [8,16] (fun bV i wr=>∃ k:Nat,k≤hs.length∧i=.int .i64 k∧bV=.int .i64 (Qs (hs.take k):Nat)∧wr=w1) (fun _ i _=>hs.length-(intOf i).toNat)
 case atStart=>exact⟨0,by omega,rfl,rfl,rfl⟩
 case round=>
  obtain⟨k,hk,rfl,rfl,rfl⟩:=hrel
  by_cases U:k<hs.length
  ·have R:=X.out
   obtain⟨b1,o1,Z,bZ,br⟩:=bc.at (i:=k) (by simpa using U)
   simp only[Oc9,Oh2]at Z
   obtain⟨rfl,rfl,_⟩:=Z
   rw[Od9,Od0]at br
   unfold uv at br
   have K:=Jeq (hs.take k) hs[k]
   rw[←Oc4 U]at K
   have bk:=bh _ (Ob3 U)
   have bM:=Ja9 hs k
   generalize hs[k]=q at *
   have bN:q<2:=bk
   have bl:=Jp9 q bN
   have cc:Qs (hs.take k)≤64:=Ob2 bM (Ob2 bL R)
   clear bk
   rw[bl]at K
   have bx:Hid _:=K
   clear K bl
   generalize Qs (hs.take k)=p at *
   go_wp2
   go_roundw
   case rel=>
    refine⟨k+1,by omega,by go_num,?_,trivial⟩
    rw[bx.out]
    go_num
   case measure=>simp[intOf];omega
  have bJ:k=hs.length:=by omega
  subst bJ
  rw[Of2]
  have R:=X.out
  go_wp2_with fail
  refine(Jgk g wr).mono ?_
  rintro e bn ⟨rfl,N⟩
  have bB:=bA.below N
  have bG:=bc.below N
  have O:=bj.trans (Jt.of_below N g)
  have bI:=(Jao (.func (.func 306) #[.pointer (some ⟨g,0,none⟩)] #[]) (.func (.func 307) #[.pointer (some ⟨g,0,none⟩)] #[]) (.func (.func 308) #[.pointer (some ⟨g,0,none⟩)] #[]) (.func (.func 309) #[.pointer (some ⟨g,0,none⟩)] #[]) bn).2.1
  have bb:=Jll g t L I (Qs hs) bn bB bQ (by omega)
  have M:Hid (Jce t 1 (Qs hs) L=Jdd t (Qs hs) L):=rfl
  go_wp2_with fail
  refine bb.mono ?_
  rintro e w4 ⟨J,⟨H,rfl⟩|⟨vs,rest,v,H,rfl,bR,bC⟩⟩
  ·go_wp2_with fail
   exact⟨rfl,Qg.up (O.trans J) (by rw[Y.out,M.out,H];rfl)⟩
  have bU:=Jb1 (M.out.trans H)
  obtain⟨a,cap,rfl,bT,bX⟩:=bR.toR
  have bH:=Jb7 bG J (by omega)
  clear bb bI
  have bD:=Jgo b hs a cap hs.length vs w4 R bh (by omega) (by omega) bH bT
  have bu:Hid (Ug t 1 n bs=some (Ys hs vs,rest)):=by show _=_;rw[Y.out,M.out,H];rfl
  clear H bU
  go_wp2_with fail
  refine bD.mono ?_
  rintro e cf ⟨⟨v,rfl,bS⟩,ba⟩
  have bP:=(O.trans J).size
  go_wp2_with fail
  go_ret
  obtain⟨bz,rfl,bE,bO⟩:=bS
  exact Qg.ok ((O.trans J).trans (Jt.of_below ba g)) bu.out ⟨bz,rfl,Ob2 bP bE,bO⟩ (bC.below ba)
theorem Jq6 (g:Nat)(t:Int)(n:Nat)(bs:List UInt8)(I:Addr)(w:World)(h:RAt w g t bs I)(bQ:t=1∨t=2∨t=3)(bK:n≤64) :
  Calls Tryz.prog 230 #[.pointer (some ⟨g,0,none⟩),.int .i64 2,.int .i64 n] w (Qg w g t I (Ug t 2 n bs) fun vs v w'=>Jc9 w w' vs v):=by
 have cb:=h.lt
 have ca:=h.far
 have bf:=Jas g t bs I 1 n w h (by omega) bK
 go_enter Tryz.func230,Tryz.ntmps230
 go_wp2_with fail
 refine bf.mono ?_
 rintro e w1 ⟨bj,⟨A,rfl⟩|⟨hs,L,v,A,rfl,⟨b,rfl,bY,bc⟩,bA⟩⟩
 ·go_wp2_with fail
  exact⟨rfl,Qg.up bj (by simp[Ug,A])⟩
 have bi:=Kt A
 have bh:=Jgi A
 have bL:=Jky hs
 have Y:Hid (Ug t 2 n bs=(Jce t 2 (Qs hs) L).map fun x=>(Ys hs x.1,x.2)):=by show _=_;simp only[Ug,A]
 have bW:Hid (hs.length=n):=bi
 have X:Hid (hs.length≤64):=by show _≤_;omega
 clear bf A bi
 go_wp2_with fail
 go_loopw [8,16] (fun bV i wr=>∃ k:Nat,k≤hs.length∧i=.int .i64 k∧bV=.int .i64 (Qs (hs.take k):Nat)∧wr=w1) (fun _ i _=>hs.length-(intOf i).toNat)
 case atStart=>exact⟨0,by omega,rfl,rfl,rfl⟩
 case round=>
  obtain⟨k,hk,rfl,rfl,rfl⟩:=hrel
  by_cases U:k<hs.length
  ·have R:=X.out
   obtain⟨b1,o1,Z,bZ,br⟩:=bc.at (i:=k) (by simpa using U)
   simp only[Oc9,Oh2]at Z
   obtain⟨rfl,rfl,_⟩:=Z
   rw[Od9,Od0]at br
   unfold uv at br
   have K:=Jeq (hs.take k) hs[k]
   rw[←Oc4 U]at K
   have bk:=bh _ (Ob3 U)
   have bM:=Ja9 hs k
   generalize hs[k]=q at *
   have bN:q<2:=bk
   have bl:=Jp9 q bN
   have cc:Qs (hs.take k)≤64:=Ob2 bM (Ob2 bL R)
   clear bk
   rw[bl]at K
   have bx:Hid _:=K
   clear K bl
   generalize Qs (hs.take k)=p at *
   go_wp2
   go_roundw
   case rel=>
    refine⟨k+1,by omega,by go_num,?_,trivial⟩
    rw[bx.out]
    go_num
   case measure=>simp[intOf];omega
  have bJ:k=hs.length:=by omega
  subst bJ
  rw[Of2]
  have R:=X.out
  go_wp2_with fail
  refine(Jgk g wr).mono ?_
  rintro e bn ⟨rfl,N⟩
  have bB:=bA.below N
  have bG:=bc.below N
  have O:=bj.trans (Jt.of_below N g)
  have bI:=(Jao (.func (.func 306) #[.pointer (some ⟨g,0,none⟩)] #[]) (.func (.func 307) #[.pointer (some ⟨g,0,none⟩)] #[]) (.func (.func 308) #[.pointer (some ⟨g,0,none⟩)] #[]) (.func (.func 309) #[.pointer (some ⟨g,0,none⟩)] #[]) bn).2.2.1
  have bb:=Kdl g t L I (Qs hs) bn bB bQ (by omega)
  have M:Hid (Jce t 2 (Qs hs) L=Jbh t (Qs hs) L):=rfl
  go_wp2_with fail
  refine bb.mono ?_
  rintro e w4 ⟨J,⟨H,rfl⟩|⟨vs,rest,v,H,rfl,bR,bC⟩⟩
  ·go_wp2_with fail
   exact⟨rfl,Qg.up (O.trans J) (by rw[Y.out,M.out,H];rfl)⟩
  have bU:=Jb1 (M.out.trans H)
  obtain⟨a,cap,rfl,bT,bX⟩:=bR
  have bH:=Jb7 bG J (by omega)
  clear bb bI
  have bD:=Jgo b hs a cap hs.length vs w4 R bh (by omega) (by omega) bH bT
  have bu:Hid (Ug t 2 n bs=some (Ys hs vs,rest)):=by show _=_;rw[Y.out,M.out,H];rfl
  clear H bU
  go_wp2_with fail
  refine bD.mono ?_
  rintro e cf ⟨⟨v,rfl,bS⟩,ba⟩
  have bP:=(O.trans J).size
  go_wp2_with fail
  go_ret
  obtain⟨bz,rfl,bE,bO⟩:=bS
  exact Qg.ok ((O.trans J).trans (Jt.of_below ba g)) bu.out ⟨bz,rfl,Ob2 bP bE,bO⟩ (bC.below ba)
theorem Jnz (g:Nat)(t:Int)(n:Nat)(bs:List UInt8)(I:Addr)(w:World)(h:RAt w g t bs I)(bK:n≤64) :
  Calls Tryz.prog 230 #[.pointer (some ⟨g,0,none⟩),.int .i64 3,.int .i64 n] w (Qg w g t I (Ug t 3 n bs) fun vs v w'=>Jc9 w w' vs v):=by
 have ca:=h.lt
 have bZ:=h.far
 have bf:=Jas g t bs I 1 n w h (by omega) bK
 go_enter Tryz.func230,Tryz.ntmps230
 go_wp2_with fail
 refine bf.mono ?_
 rintro e w1 ⟨bj,⟨A,rfl⟩|⟨hs,L,v,A,rfl,⟨b,rfl,bX,bc⟩,bA⟩⟩
 ·go_wp2_with fail
  exact⟨rfl,Qg.up bj (by simp[Ug,A])⟩
 have bi:=Kt A
 have bh:=Jgi A
 have bL:=Jky hs
 have Y:Hid (Ug t 3 n bs=(Jce t 3 (Qs hs) L).map fun x=>(Ys hs x.1,x.2)):=by show _=_;simp only[Ug,A]
 have bV:Hid (hs.length=n):=bi
 have X:Hid (hs.length≤64):=by show _≤_;omega
 clear bf A bi
 go_wp2_with fail
 go_loopw [8,16] (fun bU i wr=>∃ k:Nat,k≤hs.length∧i=.int .i64 k∧bU=.int .i64 (Qs (hs.take k):Nat)∧wr=w1) (fun _ i _=>hs.length-(intOf i).toNat)
 case atStart=>exact⟨0,by omega,rfl,rfl,rfl⟩
 case round=>
  obtain⟨k,hk,rfl,rfl,rfl⟩:=hrel
  by_cases U:k<hs.length
  ·have R:=X.out
   obtain⟨b1,o1,Z,bY,br⟩:=bc.at (i:=k) (by simpa using U)
   simp only[Oc9,Oh2]at Z
   obtain⟨rfl,rfl,_⟩:=Z
   rw[Od9,Od0]at br
   unfold uv at br
   have K:=Jeq (hs.take k) hs[k]
   rw[←Oc4 U]at K
   have bk:=bh _ (Ob3 U)
   have bM:=Ja9 hs k
   generalize hs[k]=q at *
   have bN:q<2:=bk
   have bl:=Jp9 q bN
   have cb:Qs (hs.take k)≤64:=Ob2 bM (Ob2 bL R)
   clear bk
   rw[bl]at K
   have bx:Hid _:=K
   clear K bl
   generalize Qs (hs.take k)=p at *
   go_wp2
   go_roundw
   case rel=>
    refine⟨k+1,by omega,by go_num,?_,trivial⟩
    rw[bx.out]
    go_num
   case measure=>simp[intOf];omega
  have bJ:k=hs.length:=by omega
  subst bJ
  rw[Of2]
  have R:=X.out
  go_wp2_with fail
  refine(Jgk g wr).mono ?_
  rintro e bn ⟨rfl,N⟩
  have bB:=bA.below N
  have bG:=bc.below N
  have O:=bj.trans (Jt.of_below N g)
  have bI:=(Jao (.func (.func 306) #[.pointer (some ⟨g,0,none⟩)] #[]) (.func (.func 307) #[.pointer (some ⟨g,0,none⟩)] #[]) (.func (.func 308) #[.pointer (some ⟨g,0,none⟩)] #[]) (.func (.func 309) #[.pointer (some ⟨g,0,none⟩)] #[]) bn).2.2.2
  have bb:=Jwz g t L I (Qs hs) bn bB (by omega)
  have M:Hid (Jce t 3 (Qs hs) L=Ux t (Qs hs) L):=rfl
  go_wp2_with fail
  refine bb.mono ?_
  rintro e w4 ⟨J,⟨H,rfl⟩|⟨vs,rest,v,H,rfl,bQ,bC⟩⟩
  ·go_wp2_with fail
   exact⟨rfl,Qg.up (O.trans J) (by rw[Y.out,M.out,H];rfl)⟩
  have bT:=Jb1 (M.out.trans H)
  obtain⟨a,cap,rfl,bS,bW⟩:=bQ
  have bH:=Jb7 bG J (by omega)
  clear bb bI
  have bD:=Jgo b hs a cap hs.length vs w4 R bh (by omega) (by omega) bH bS
  have bu:Hid (Ug t 3 n bs=some (Ys hs vs,rest)):=by show _=_;rw[Y.out,M.out,H];rfl
  clear H bT
  go_wp2_with fail
  refine bD.mono ?_
  rintro e cc ⟨⟨v,rfl,bR⟩,ba⟩
  have bP:=(O.trans J).size
  go_wp2_with fail
  go_ret
  obtain⟨bz,rfl,bE,bO⟩:=bR
  exact Qg.ok ((O.trans J).trans (Jt.of_below ba g)) bu.out ⟨bz,rfl,Ob2 bP bE,bO⟩ (bC.below ba)
theorem Jvo (g:Nat)(t H:Int)(n:Nat)(bs:List UInt8)(A:Addr)(w:World)(h:RAt w g t bs A)(J:t=1∨t=2∨t=3)(K:H=0∨H=1∨H=2∨H=3)(I:n≤64) :
  Calls Tryz.prog 230 #[.pointer (some ⟨g,0,none⟩),.int .i64 H,.int .i64 n] w (Qg w g t A (Ug t H n bs) fun vs v w'=>Jc9 w w' vs v):=by
 rcases K with rfl|rfl|rfl|rfl
 ·exact Jqf g t n bs A w h J I
 ·exact Jq2 g t n bs A w h J I
 ·exact Jq6 g t n bs A w h J I
 exact Jnz g t n bs A w h I
end
section
open Go.RowKit Tryz
def Jk9 (A H:Addr)(c:Int):Value:=if c=0 then .nilIface else if c=2 then .iface 528 (.pointer (some H))else .iface 528 (.pointer (some A))
theorem Jzm (t H:Int)(a:Option Addr)(cap:Nat)(xs:List V)(w:World)(I:xs.length≤maxLen)(J:Jv w a xs)(M N R:Addr)(O:Jf0 w M N R) :
  Calls prog 128 #[.int .i64 t,.int .i64 H,.slice a xs.length cap] w fun e w'=>e=.returned (.tuple #[.string (Qw (Jev t H xs).1),Jk9 M N (Jev t H xs).2])∧Below w.heap.size w w':=by
 by_cases A:way t H=true∧Jdq t xs
 ·have L:(way t H&&Jfr t xs)=true:=by rw[Og5];exact⟨A.1,(Jfd t xs).2 A.2⟩
  by_cases K:H=1∧16<(Ym [] (Jz xs)).length
  ·have e:Jev t H xs=([],2):=by unfold Jev;rw[if_pos L,if_pos K]
   rw[e]
   obtain⟨rfl,K⟩:=K
   exact Jvu t a cap xs w I J _ O.c1 A.1 A.2 K
  have e:Jev t H xs=(Jav t H xs,0):=by unfold Jev;rw[if_pos L,if_neg K]
  rw[e]
  rcases Jo7 t H A.1 with rfl|rfl|rfl|rfl
  ·exact Jtj t a cap xs w I J A.1 A.2
  ·exact Jja t a cap xs w I J A.1 A.2 (by omega)
  ·exact Jtt t a cap xs w I J A.1 A.2
  exact Jp7 t a cap xs w I J A.1 A.2
 have L:¬ (way t H&&Jfr t xs)=true:=by rw[Og5];exact fun h=>A ⟨h.1,(Jfd t xs).1 h.2⟩
 have e:Jev t H xs=([],1):=by unfold Jev;rw[if_neg L]
 rw[e]
 exact Jzl t H a cap xs w I J _ O.c0 A
structure Qba (how:Int):Prop where
 pack:∀ (t:Int) (a:Option Addr) (cap:Nat) (xs:List V) (w:World),xs.length≤maxLen→Jv w a xs→∀ (a0 a1 a2:Addr),Jf0 w a0 a1 a2 →
  Calls prog 128 #[.int .i64 t,.int .i64 how,.slice a xs.length cap] w fun e w'=>e=.returned (.tuple #[.string (Qw (Jev t how xs).1),Jk9 a0 a1 (Jev t how xs).2])∧Below w.heap.size w w'
theorem Ku8 (A:Int):Qba A:=⟨fun t a cap xs w L M H I J K=>Jzm t A a cap xs w L M H I J K⟩
structure Kjk (how:Int):Prop where
 p:Qba how
 vals:∀ (g:Nat) (t:Int) (n:Nat) (bs:List UInt8) (a2:Addr) (w:World),RAt w g t bs a2→(t=1∨t=2∨t=3)→(how=0∨how=1∨how=2∨how=3)→n≤64 →
  Calls prog 230 #[.pointer (some ⟨g,0,none⟩),.int .i64 how,.int .i64 n] w (Qg w g t a2 (Ug t how n bs) fun vs v w'=>Jc9 w w' vs v)
theorem Kjm (A:Int):Kjk A:=
 ⟨Ku8 A,fun g t n bs H w h K I J=>Jvo g t A n bs H w h K I J⟩
def Kje (bs:List UInt8):Prop:=∀ t A n r,Jf2 bs=some ((t,A,n),r)→Kjk (A:Nat)
structure Qh (w:World) (p q r:Nat) (t:Int) (sl ev:Value):Prop where
 c0:w.heap[p]?=some (.cells #[.int .i64 t] 3 (0,0))
 c1:w.heap[q]?=some (.cells #[sl] 56 (0,0))
 c2:w.heap[r]?=some (.cells #[ev] 108 (0,0))
 pq:¬ p=q
 pr:¬ p=r
 qr:¬ q=r
theorem Qh.facts {w:World}{p q r:Nat}{t:Int}{sl ev:Value}(h:Qh w p q r t sl ev) :
  w.cell? ⟨p,0,none⟩=some (.int .i64 t)∧w.cell? ⟨q,0,none⟩=some sl∧w.cell? ⟨r,0,none⟩=some ev∧w.frozen? ⟨p,0,none⟩=false∧w.frozen? ⟨q,0,none⟩=false∧w.frozen? ⟨r,0,none⟩=false:=
 ⟨by simp[World.cell?,h.c0],by simp[World.cell?,h.c1],by simp[World.cell?,h.c2],by simp[World.frozen?,h.c0],by simp[World.frozen?,h.c1],by simp[World.frozen?,h.c2]⟩
theorem Qh.of_block {w w':World}{p q r:Nat}{t:Int}{sl ev:Value}(h:Qh w p q r t sl ev)(A:w'.heap[p]?=w.heap[p]?)(H:w'.heap[q]?=w.heap[q]?)(I:w'.heap[r]?=w.heap[r]?):Qh w' p q r t sl ev:=
 ⟨by rw[A];exact h.c0,by rw[H];exact h.c1,by rw[I];exact h.c2,h.pq,h.pr,h.qr⟩
theorem Qh.lt {w:World}{p q r:Nat}{t:Int}{sl ev:Value}(h:Qh w p q r t sl ev):p<w.heap.size∧q<w.heap.size∧r<w.heap.size:=⟨Jd h.c0,Jd h.c1,Jd h.c2⟩
theorem Jbv {w:World}{p:Nat}{x v:Value}{ty:TypeId}(h:w.heap[p]?=some (.cells #[x] ty (0,0))):(w.setCell ⟨p,0,none⟩ v).heap[p]?=some (.cells #[v] ty (0,0)):=by
 simp[World.setCell,Array.getElem?_modify,h]
theorem Qh.set {w:World}{p q r:Nat}{t t':Int}{sl ev sl' ev':Value}(h:Qh w p q r t sl ev) :
  Qh (((w.setCell ⟨p,0,none⟩ (.int .i64 t')).setCell ⟨q,0,none⟩ sl').setCell ⟨r,0,none⟩ ev') p q r t' sl' ev':=by
 refine⟨?_,?_,?_,h.pq,h.pr,h.qr⟩
 ·rw[Oa4 _ _ _ _ (show p≠r from h.pr),Oa4 _ _ _ _ (show p≠q from h.pq)]
  exact Jbv h.c0
 ·rw[Oa4 _ _ _ _ (show q≠r from h.qr)]
  refine Jbv (x:=sl) ?_
  rw[Oa4 _ _ _ _ (show q≠p from Oc5 h.pq)]
  exact h.c1
 refine Jbv (x:=ev) ?_
 rw[Oa4 _ _ _ _ (show r≠q from Oc5 h.qr),Oa4 _ _ _ _ (show r≠p from Oc5 h.pr)]
 exact h.c2
theorem Qh.s0 {w:World}{p q r:Nat}{t t':Int}{sl ev:Value}(h:Qh w p q r t sl ev):Qh (w.setCell ⟨p,0,none⟩ (.int .i64 t')) p q r t' sl ev:=
 ⟨Jbv h.c0,by rw[Oa4 _ _ _ _ (show q≠p from Oc5 h.pq)];exact h.c1,by rw[Oa4 _ _ _ _ (show r≠p from Oc5 h.pr)];exact h.c2,h.pq,h.pr,h.qr⟩
theorem Qh.s1 {w:World}{p q r:Nat}{t:Int}{sl sl' ev:Value}(h:Qh w p q r t sl ev):Qh (w.setCell ⟨q,0,none⟩ sl') p q r t sl' ev:=
 ⟨by rw[Oa4 _ _ _ _ (show p≠q from h.pq)];exact h.c0,Jbv h.c1,by rw[Oa4 _ _ _ _ (show r≠q from Oc5 h.qr)];exact h.c2,h.pq,h.pr,h.qr⟩
theorem Qh.s2 {w:World}{p q r:Nat}{t:Int}{sl ev ev':Value}(h:Qh w p q r t sl ev):Qh (w.setCell ⟨r,0,none⟩ ev') p q r t sl ev':=
 ⟨by rw[Oa4 _ _ _ _ (show p≠r from h.pr)];exact h.c0,by rw[Oa4 _ _ _ _ (show q≠r from h.qr)];exact h.c1,Jbv h.c2,h.pq,h.pr,h.qr⟩
theorem Qh.drew {w:World}{p q r:Nat}{t:Int}{sl ev:Value}(h:Qh w p q r t sl ev):Qh w.drew p q r t sl ev:=⟨h.c0,h.c1,h.c2,h.pq,h.pr,h.qr⟩
theorem Jkv (p q r:Nat)(t:Int)(sl ev:Value)(L:∃ a l c,sl=.slice a l c)(H:Addr)(J:Value)(u:TypeId)(I:List PanicEntry)(w:World)(A:Qh w p q r t sl ev)
  (K:w.cell? ⟨3,0,none⟩=some (.iface 528 (.pointer (some H)))) :
  CallsD prog 228 #[.pointer (some ⟨p,0,none⟩),.pointer (some ⟨q,0,none⟩),.pointer (some ⟨r,0,none⟩)] (.panicking ({v:=.iface u J,recovered:=false}::I)) w fun e N w'=>
   e=.returned (.tuple #[])∧N=.panicking ({v:=.iface u J,recovered:=true}::I)∧w'=((w.setCell ⟨p,0,none⟩ (.int .i64 0)).setCell ⟨q,0,none⟩ (.slice none 0 0)).setCell ⟨r,0,none⟩ (.iface 528 (.pointer (some H))):=by
 obtain⟨a,l,c,rfl⟩:=L
 obtain⟨k0,k1,M,O,R,U⟩:=A.facts
 have X:=A.pq
 have Y:=A.pr
 have Z:=A.qr
 refine callsD_of_wpS func228 rfl fun c₀ cs hu=>?_
 apply wpS_seq
 apply wpS_region
 simp[wpOpsS,go_sem,recoverD,hu,ntmps228,Exit.thenS]
 refine wpS_cond (t:=true) (by simp[Act.eval,Array.replicate]) ?_
 simp only[if_true]
 apply wpS_region
 simp[wpOpsS,go_sem,K,k0,k1,M,O,R,U,bodyPostS,results,results228]
theorem Jvs (p q r:Addr)(w:World) :
  CallsD prog 228 #[.pointer (some p),.pointer (some q),.pointer (some r)] .returning w fun e A w'=>e=.returned (.tuple #[])∧A=.returning∧w'=w:=by
 refine callsD_of_wpS func228 rfl fun c₀ cs hu=>?_
 apply wpS_seq
 apply wpS_region
 simp[wpOpsS,go_sem,recoverD,hu,ntmps228,Exit.thenS]
 refine wpS_cond (t:=false) (by simp[Act.eval,Array.replicate]) ?_
 simp only[Ol9,if_false]
 refine wpS_of_wp (wp_skip ?_)
 cases c₀
 simp_all [bodyPostS,results,results228]
end
section
open Go.RowKit Tryz
def Jbf (bs:List UInt8):Option (Nat×Nat×List V):=
 match Jf2 bs with
 |none=>none
 |some ((t,A,n),r)=>match Ug t A n r with
  |none=>none
  |some (vs,_)=>if Jev t A vs=(bs,0)then some (t,A,vs)else none
theorem Jum {bs r:List UInt8}{t H n:Nat}(h:Jf2 bs=some ((t,H,n),r)):way t H=true∧n≤64:=by
 match bs,h with
 |b0::b1::b2::rest,h=>
  simp only[Jf2]at h
  by_cases A:way (b0.toNat:Int) (b1.toNat:Int)=true∧b2.toNat≤64
  ·rw[if_pos A]at h
   simp at h
   obtain⟨⟨rfl,rfl,rfl⟩,_⟩:=h
   exact A
  rw[if_neg A]at h
  simp at h
theorem Kfn (t A:Int)(h:way t A=true):t=1∨t=2∨t=3:=by
 unfold way at h
 simp at h
 omega
def Kd5 (w:World)(bs:List UInt8):World:=(((w.alloc (.cells #[.int .i64 0] 3)).alloc (.cells #[.slice none 0 0] 56)).alloc (.cells #[.nilIface] 108)).alloc (.cells #[.int .i64 0,.string (Qw bs)] 366)
theorem Jn0 {t H:Int}{n:Nat}{bs rest:List UInt8}{vs:List V}(h:Ug t H n bs=some (vs,rest)):vs.length=n:=by
 unfold Ug at h
 split at h
 ·simp at h
 rename_i hs r A
 obtain⟨x,_,e⟩:=Oe9.1 h
 simp only[Oj3]at e
 rw[←e.1,Jez]
 exact Kt A
theorem Joh {w:World}{b:Nat}{vs:List V}{A:List Value}(h:Kv w b vs A):Kv w.drew b vs A:=h
theorem Jgy {P:Program}{c:Code}{Q:Exit→Act→World→Prop}{a:Act}{w:World}(h:c.wp P (Exit.then (Q .normal) (fun _ _ _=>False)) a w):c.wp P Q a w:=
 Code.wp_mono (fun e a w h=>by cases e<;>first|exact h|exact False.elim h) h
theorem Jhw (w:World)(o:Obj):(w.alloc o).heap.size=w.heap.size+1:=by simp
theorem Khm (w:World)(o0 o1 o2 o3:Obj) :
  ((((w.alloc o0).alloc o1).alloc o2).alloc o3).heap[w.heap.size]?=some o0∧((((w.alloc o0).alloc o1).alloc o2).alloc o3).heap[w.heap.size+1]?=some o1 ∧
  ((((w.alloc o0).alloc o1).alloc o2).alloc o3).heap[w.heap.size+1+1]?=some o2∧((((w.alloc o0).alloc o1).alloc o2).alloc o3).heap[w.heap.size+1+1+1]?=some o3:=by
 have K:=Jhw w o0
 have I:=Jhw (w.alloc o0) o1
 have J:=Jhw ((w.alloc o0).alloc o1) o2
 have n0:=(Oh1 w o0).1
 have n1:=(Oh1 (w.alloc o0) o1).1
 have A:=(Oh1 ((w.alloc o0).alloc o1) o2).1
 have H:=(Oh1 (((w.alloc o0).alloc o1).alloc o2) o3).1
 rw[K]at n1 I
 rw[I]at A J
 rw[J]at H
 refine⟨?_,?_,?_,H⟩
 ·rw[Oa9 _ _ _ (by omega),Oa9 _ _ _ (by omega),Oa9 _ _ _ (by omega)];exact n0
 ·rw[Oa9 _ _ _ (by omega),Oa9 _ _ _ (by omega)];exact n1
 rw[Oa9 _ _ _ (by omega)];exact A
theorem Jmv {Q:Ending→World→Prop}{p q r:Nat}(H:Array Value)(w1:World)(A:Addr)(I:Qh w1 p q r 0 (.slice none 0 0) .nilIface)(K:w1.cell? ⟨3,0,none⟩=some (.iface 528 (.pointer (some A))))
  (M:H[2]?.getD undef=.pointer (some ⟨p,0,none⟩)) (N:H[3]?.getD undef=.pointer (some ⟨q,0,none⟩)) (O:H[4]?.getD undef=.pointer (some ⟨r,0,none⟩))
  (J:Q (.returned (.tuple #[.int .i64 0,.slice none 0 0,.iface 528 (.pointer (some A))])) (((w1.setCell ⟨p,0,none⟩ (.int .i64 0)).setCell ⟨q,0,none⟩ (.slice none 0 0)).setCell ⟨r,0,none⟩ (.iface 528 (.pointer (some A))))) :
  bodyPostD prog Tryz.f199 Q (Exit.panic [{v:=.iface 528 (.pointer (some A)),recovered:=false}])
   {tmps:=H,defers:=[{target:=Target.fn (Fn.func 228) #[.pointer (some ⟨p,0,none⟩),.pointer (some ⟨q,0,none⟩),.pointer (some ⟨r,0,none⟩)],args:=#[]}]} w1:=by
 refine leaves_cons (f:=228) (args:=#[.pointer (some ⟨p,0,none⟩),.pointer (some ⟨q,0,none⟩),.pointer (some ⟨r,0,none⟩)]) (by simp) (by simp[go_sem]) ?_
 refine(Jkv p q r 0 _ _ ⟨_,_,_,rfl⟩ A _ _ [] w1 I K).mono ?_
 rintro e R U ⟨rfl,rfl,rfl⟩
 obtain⟨k0,k1,L,X,Y,Z⟩:=(I.set (t':=0) (sl':=.slice none 0 0) (ev':=.iface 528 (.pointer (some A)))).facts
 generalize ((w1.setCell ⟨p,0,none⟩ (.int .i64 0)).setCell ⟨q,0,none⟩ (.slice none 0 0)).setCell ⟨r,0,none⟩ (.iface 528 (.pointer (some A)))=W at *
 simp[Leaves,settle,results,results199,go_sem,M,N,O,k0,k1,L]
 exact J
theorem Jl4 {Q:Ending→World→Prop}{p q r:Nat}{t:Int}{sl ev:Value}(A:Array Value)(w1:World)(H:Qh w1 p q r t sl ev)
  (K:A[2]?.getD undef=.pointer (some ⟨p,0,none⟩)) (L:A[3]?.getD undef=.pointer (some ⟨q,0,none⟩)) (M:A[4]?.getD undef=.pointer (some ⟨r,0,none⟩))
  (I:Q (.returned (.tuple #[.int .i64 t,sl,ev])) w1) :
  bodyPostD prog Tryz.f199 Q Exit.ret
   {tmps:=A,defers:=[{target:=Target.fn (Fn.func 228) #[.pointer (some ⟨p,0,none⟩),.pointer (some ⟨q,0,none⟩),.pointer (some ⟨r,0,none⟩)],args:=#[]}]} w1:=by
 refine leaves_cons (f:=228) (args:=#[.pointer (some ⟨p,0,none⟩),.pointer (some ⟨q,0,none⟩),.pointer (some ⟨r,0,none⟩)]) (by simp) (by simp[go_sem]) ?_
 refine(Jvs _ _ _ w1).mono ?_
 rintro e N O ⟨rfl,rfl,rfl⟩
 obtain⟨k0,k1,J,R,U,X⟩:=H.facts
 simp[Leaves,settle,results,results199,go_sem,K,L,M,k0,k1,J]
 exact I
theorem Ki3 (bs:List UInt8)(hW:Kje bs)(w:World)(cH:bs.length≤maxLen)(bk bl J:Addr)(bb:Jf0 w bk bl J) :
  Calls prog 199 #[.string (Qw bs)] w fun e w'=>Below w.heap.size w w'∧((Jbf bs=none∧e=.returned (.tuple #[.int .i64 0,.slice none 0 0,.iface 528 (.pointer (some J))])) ∨
   ∃ t M vs b,Jbf bs=some (t,M,vs)∧e=.returned (.tuple #[.int .i64 (t:Nat),.slice (some ⟨b,0,none⟩) vs.length vs.length,.nilIface])∧w.heap.size≤b∧Kv w' b vs []):=by
 have cW:∀ (bW:Fn) (first cap:Array Value) (w:World),(Instr.makeFunc bW first cap).run prog w=.ok (.func bW first cap) w:=fun _ _ _ _=>rfl
 have cC:=Jm bb.c2
 simp only at cC
 obtain⟨bh,bf⟩:∃ bh,bh=Kd5 w bs:=⟨_,rfl⟩
 have br:Below w.heap.size w bh:=by
  rw[bf]
  exact((((Oa5 _ _).alloc (Oa2 _) _).alloc (by simp) _).alloc (by simp;omega) _).alloc (by simp;omega) _
 have cM:bh.heap.size=w.heap.size+1+1+1+1:=by rw[bf];simp[Kd5]
 obtain⟨cu,cv,cx,cy⟩:=Khm w (.cells #[.int .i64 0] 3) (.cells #[.slice none 0 0] 56) (.cells #[.nilIface] 108) (.cells #[.int .i64 0,.string (Qw bs)] 366)
 have bE:Qh bh w.heap.size (w.heap.size+1) (w.heap.size+1+1) 0 (.slice none 0 0) .nilIface:=by
  rw[bf]
  exact⟨cu,cv,cx,by omega,by omega,by omega⟩
 have bZ:RAt bh (w.heap.size+1+1+1) 0 bs J:=by
  refine⟨by omega,?_,(bb.below br).c2,cH⟩
  rw[bf]
  exact cy
 clear cu cv cx cy
 have bK:=Kbu _ _ bs J bh bZ
 go_enter_defers func199,ntmps199
 go_wp2_with fail
 rw[bf]at bK
 refine bK.mono ?_
 rw[←bf]
 clear bK
 rintro e w1 ⟨Z,⟨bc,rfl⟩|⟨t,M,n,r,bc,rfl,bX⟩⟩
 ·go_wp2_with fail
  have bI:Qh w1 w.heap.size (w.heap.size+1) (w.heap.size+1+1) 0 (.slice none 0 0) .nilIface:=bE.of_block (Z.block _ (by omega) (by omega)) (Z.block _ (by omega) (by omega)) (Z.block _ (by omega) (by omega))
  have Y:=br.trans (Z.below (B:=w.heap.size) (by omega) (by omega))
  refine Jmv _ w1 J bI (bb.below Y).c2 rfl rfl rfl ⟨?_,.inl ⟨?_,rfl⟩⟩
  ·exact((Y.setCell (p:=⟨w.heap.size,0,none⟩) (Oa2 _) _).setCell (p:=⟨w.heap.size+1,0,none⟩) (by show w.heap.size≤w.heap.size+1;omega) _).setCell (p:=⟨w.heap.size+1+1,0,none⟩) (by show w.heap.size≤w.heap.size+1+1;omega) _
  unfold Jbf;rw[bc]
 obtain⟨cn,cJ⟩:=Jum bc
 have ca:=hW _ _ _ _ bc
 have cl:=ca.vals _ _ n r J w1 bX (Kfn _ _ cn) (Jo7 _ _ cn) cJ
 go_wp2_with fail
 refine cl.mono ?_
 clear cl
 rintro e O ⟨bL,⟨bu,rfl⟩|⟨vs,rest,v,bu,rfl,⟨b,rfl,cE,cj⟩,bY⟩⟩
 ·go_wp2_with fail
  have L:=Z.trans bL
  have bI:Qh O w.heap.size (w.heap.size+1) (w.heap.size+1+1) 0 (.slice none 0 0) .nilIface:=bE.of_block (L.block _ (by omega) (by omega)) (L.block _ (by omega) (by omega)) (L.block _ (by omega) (by omega))
  have Y:=br.trans (L.below (B:=w.heap.size) (by omega) (by omega))
  refine Jmv _ O J bI (bb.below Y).c2 rfl rfl rfl ⟨?_,.inl ⟨?_,rfl⟩⟩
  ·exact((Y.setCell (p:=⟨w.heap.size,0,none⟩) (Oa2 _) _).setCell (p:=⟨w.heap.size+1,0,none⟩) (by show w.heap.size≤w.heap.size+1;omega) _).setCell (p:=⟨w.heap.size+1+1,0,none⟩) (by show w.heap.size≤w.heap.size+1+1;omega) _
  unfold Jbf
  rw[bc]
  simp only[bu]
 have L:=Z.trans bL
 have R:Qh O w.heap.size (w.heap.size+1) (w.heap.size+1+1) 0 (.slice none 0 0) .nilIface:=bE.of_block (L.block _ (by omega) (by omega)) (L.block _ (by omega) (by omega)) (L.block _ (by omega) (by omega))
 have Y:=br.trans (L.below (B:=w.heap.size) (by omega) (by omega))
 obtain⟨k0,k1,bx,bB,bC,bD⟩:=R.facts
 have c0:=bY.typ
 have cL:=Z.size
 have cD:w.heap.size+1+1+1<b:=by omega
 have cI:vs.length≤maxLen:=by
  rw[Jn0 bu]
  unfold maxLen
  omega
 have bi:Hid (Jbf bs=if Jev t M vs=(bs,0)then some (t,M,vs)else none):=by
  show _=_
  unfold Jbf
  rw[bc]
  simp only[bu]
 clear Z bL L bc bu bX bZ bE cL bf cM br cE
 go_wp2_with fail
 obtain⟨p,bM⟩:∃ p,p=w.heap.size:=⟨_,rfl⟩
 obtain⟨q,bO⟩:∃ q,q=w.heap.size+1:=⟨_,rfl⟩
 obtain⟨H,bS⟩:∃ H,H=w.heap.size+1+1:=⟨_,rfl⟩
 obtain⟨g,bJ⟩:∃ g,g=w.heap.size+1+1+1:=⟨_,rfl⟩
 have U:Qh (O.setCell ⟨q,0,none⟩ (.slice (some ⟨b,0,none⟩) vs.length vs.length)) p q H 0 (.slice (some ⟨b,0,none⟩) vs.length vs.length) .nilIface:=by
  rw[bM,bO,bS]
  refine⟨?_,Jbv R.c1,?_,R.pq,R.pr,R.qr⟩
  ·rw[Oa4 _ _ _ _ (show w.heap.size≠w.heap.size+1 by omega)];exact R.c0
  rw[Oa4 _ _ _ _ (show w.heap.size+1+1≠w.heap.size+1 by omega)];exact R.c2
 have ba:Below w.heap.size w (O.setCell ⟨q,0,none⟩ (.slice (some ⟨b,0,none⟩) vs.length vs.length)):=Y.setCell (p:=⟨q,0,none⟩) (by show w.heap.size≤q;omega) _
 have bR:Kv (O.setCell ⟨q,0,none⟩ (.slice (some ⟨b,0,none⟩) vs.length vs.length)) b vs []:=cj.of_block (Oa4 _ _ _ _ (show b≠q by omega))
 have cc:(O.setCell ⟨q,0,none⟩ (.slice (some ⟨b,0,none⟩) vs.length vs.length)).cell? ⟨g,0,none⟩=some (.int .i64 (t:Int)):=by
  rw[Oc3 (w:=O) (Oa4 _ _ _ _ (show g≠q by omega)),bJ];exact c0
 have db:w.heap.size≤p:=by omega
 have dc:w.heap.size≤q:=by omega
 have bT:w.heap.size≤H:=by omega
 have cO:¬ g=p∧¬ g=q∧¬ g=H∧¬ b=p∧¬ b=q∧¬ b=H:=by omega
 have cN:w.heap.size≤b:=by omega
 rw[←bJ,←bS,←bO,←bM]
 generalize O.setCell ⟨q,0,none⟩ (.slice (some ⟨b,0,none⟩) vs.length vs.length)=bG at *
 clear bM bO bS bJ k0 k1 bx bB bC bD c0 R Y cj bY cD
 obtain⟨k0,k1,bx,bB,bC,bD⟩:=U.facts
 have ci:=Jm cc
 simp only at ci
 obtain⟨bN,bP,bQ⟩:=U.lt
 have N:Calls prog 128 #[.int .i64 (t:Int),.int .i64 (M:Int),.slice (some ⟨b,0,none⟩) vs.length vs.length] bG.drew fun e w'=>e=.returned (.tuple #[.string (Qw (Jev t M vs).1),Jk9 bk bl (Jev t M vs).2])∧Below bG.heap.size bG w':=
  (ca.p.pack t _ _ vs _ cI (bR.vals.below ((Oa5 _ _).drew)) bk bl J (bb.below ba.drew)).mono fun e w' h=>⟨h.1,Jw h.2⟩
 generalize Jev t M vs=cP at *
 obtain⟨bU,bV⟩:=cP
 simp only at N
 have cY:=U.pq
 have cZ:=U.pr
 have da:=U.qr
 by_cases h0:bV=0
 ·subst h0
  have cf:Jk9 bk bl 0=.nilIface:=rfl
  rw[cf]at N
  clear cf
  by_cases bj:bU=bs
  ·have cT:((Qw bU).toList==(Qw bs).toList)=true:=by rw[bj];simp
   have cA:Hid (Jbf bs=some (t,M,vs)):=by
    show _=_
    rw[bi.out,bj,if_pos rfl]
   clear bi bj
   obtain⟨cU,cV,cG,cQ,cR,cF⟩:=cO
   have cK:=bR.lt
   refine Jgy ?_
   go_region_with (first|(go_at_call 128;refine N.mono ?_;rintro e w4 ⟨rfl,A⟩;obtain⟨bA,bz⟩:=Kx A))
   all_goals
    have X:Qh w4 p q H 0 (.slice (some ⟨b,0,none⟩) vs.length vs.length) .nilIface:=U.of_block (A.block _ bN) (A.block _ bP) (A.block _ bQ)
    have I:=X.s2 (ev':=.nilIface)
    have K:Below w.heap.size w (w4.setCell ⟨H,0,none⟩ .nilIface):=(ba.trans (A.mono ba.size)).setCell (p:=⟨H,0,none⟩) bT _
    have ck:Kv (w4.setCell ⟨H,0,none⟩ .nilIface) b vs []:=(bR.of_block (A.block _ cK)).of_block (Oa4 _ _ _ _ cF)
    have cS:(w4.setCell ⟨H,0,none⟩ .nilIface).cell? ⟨g,0,none⟩=some (.int .i64 (t:Int)):=by
     rw[Oc3 (w:=w4) (Oa4 _ _ _ _ cG),Oc3 (w:=bG) (A.block _ ci)];exact cc
    clear bA bz N A X
    obtain⟨k0,k1,bx,bB,bC,bD⟩:=I.facts
    go_wp2_with fail
    generalize w4.setCell ⟨H,0,none⟩ .nilIface=cz at *
    refine Jgy ?_
    go_region
    all_goals
     go_wp2_with fail
     refine Jl4 _ _ (t:=(t:Int)) (sl:=.slice (some ⟨b,0,none⟩) vs.length vs.length) (ev:=.nilIface) (by repeat (first|exact I|exact I.drew|apply Qh.s0|apply Qh.s1|apply Qh.s2|apply Qh.drew)) rfl rfl rfl ⟨?_,.inr ⟨t,M,vs,b,cA.out,rfl,cN,?_⟩⟩
     ·repeat (first|exact K|exact K.drew|refine Below.setCell ?_ (by assumption) _|refine Below.drew ?_)
     repeat (first|exact ck|exact Joh ck|refine Kv.of_block ?_ (Oa4 _ _ _ _ (by assumption))|refine Joh ?_)
  have cX:((Qw bU).toList==(Qw bs).toList)=false:=by
   rw[beq_eq_false_iff_ne,Og4,Og4]
   simpa [Qw] using bj
  have bH:Hid (Jbf bs=none):=by
   show _=_
   rw[bi.out,if_neg (by simp[bj])]
  clear bi bj
  refine Jgy ?_
  go_region_with (first|(go_at_call 128;refine N.mono ?_;rintro e w4 ⟨rfl,A⟩;obtain⟨bA,bz⟩:=Kx A))
  all_goals
   have X:Qh w4 p q H 0 (.slice (some ⟨b,0,none⟩) vs.length vs.length) .nilIface:=U.of_block (A.block _ bN) (A.block _ bP) (A.block _ bQ)
   have I:=X.s2 (ev':=.nilIface)
   have K:Below w.heap.size w (w4.setCell ⟨H,0,none⟩ .nilIface):=(ba.trans (A.mono ba.size)).setCell (p:=⟨H,0,none⟩) bT _
   clear bA bz N A X
   obtain⟨k0,k1,bx,bB,bC,bD⟩:=I.facts
   have cB:=(bb.below K).c2
   go_wp2_with fail
   generalize w4.setCell ⟨H,0,none⟩ .nilIface=cz at *
   refine Jgy ?_
   go_region
   all_goals
    go_wp2_with fail
    refine Jl4 _ _ (t:=0) (sl:=.slice none 0 0) (ev:=.iface 528 (.pointer (some J))) (by repeat (first|exact I|exact I.drew|apply Qh.s0|apply Qh.s1|apply Qh.s2|apply Qh.drew)) rfl rfl rfl ⟨?_,.inl ⟨bH.out,rfl⟩⟩
    repeat (first|exact K|exact K.drew|refine Below.setCell ?_ (by assumption) _|refine Below.drew ?_)
 obtain⟨bn,cb⟩:∃ bn,Jk9 bk bl bV=.iface 528 (.pointer (some bn)):=by
  unfold Jk9
  rw[if_neg h0]
  split
  ·exact⟨_,rfl⟩
  ·exact⟨_,rfl⟩
 rw[cb]at N
 clear cb
 have bH:Hid (Jbf bs=none):=by
  show _=_
  rw[bi.out,if_neg (by simp[h0])]
 clear bi h0
 refine Jgy ?_
 go_region_with (first|(go_at_call 128;refine N.mono ?_;rintro e w4 ⟨rfl,A⟩;obtain⟨bA,bz⟩:=Kx A))
 all_goals
  have X:Qh w4 p q H 0 (.slice (some ⟨b,0,none⟩) vs.length vs.length) .nilIface:=U.of_block (A.block _ bN) (A.block _ bP) (A.block _ bQ)
  have I:=X.s2 (ev':=(.iface 528 (.pointer (some bn))))
  have K:Below w.heap.size w (w4.setCell ⟨H,0,none⟩ (.iface 528 (.pointer (some bn)))):=(ba.trans (A.mono ba.size)).setCell (p:=⟨H,0,none⟩) bT _
  clear bA bz N A X
  obtain⟨k0,k1,bx,bB,bC,bD⟩:=I.facts
  have cB:=(bb.below K).c2
  go_wp2_with fail
  generalize w4.setCell ⟨H,0,none⟩ (.iface 528 (.pointer (some bn)))=cz at *
  refine Jgy ?_
  go_region
  all_goals
   go_wp2_with fail
   refine Jl4 _ _ (t:=0) (sl:=.slice none 0 0) (ev:=.iface 528 (.pointer (some J))) (by repeat (first|exact I|exact I.drew|apply Qh.s0|apply Qh.s1|apply Qh.s2|apply Qh.drew)) rfl rfl rfl ⟨?_,.inl ⟨bH.out,rfl⟩⟩
   repeat (first|exact K|exact K.drew|refine Below.setCell ?_ (by assumption) _|refine Below.drew ?_)
end
section
open Go.RowKit Tryz
end
end Go.Proofs.YtcaocabmioafcaaGreatDoor
