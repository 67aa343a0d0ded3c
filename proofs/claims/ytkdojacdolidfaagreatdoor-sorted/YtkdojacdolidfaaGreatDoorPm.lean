/- The law Sorted, walked. -/
import Derived.Test.YtkdojacdolidfaaGreatDoorPv
import Derived.Test.YtkdojacdolidfaaGreatDoorZg
set_option maxHeartbeats 40000000
set_option maxRecDepth 100000
namespace Go.Proofs.YtkdojacdolidfaaGreatDoor
open Go.RowKit Go.Shelf Tryz
attribute [local go_sem] Oc0
theorem Qbw {w b B vs}(h:Kv w b vs [])(y:B<=b)(I:vs.length<=maxLen):w.ownsRow B 33 3 (.slice (some ⟨b,0,none⟩) vs.length vs.length) vs.length (vs.flatMap V.cells):=by
 obtain⟨C,H,hC⟩:=h;rw[Od7]at hC;have hl:=Ja5 vs;have hs:C.size=vs.length*3:=by rw[<-Array.length_toList,hC];exact hl
 exact⟨hl,.inr ⟨b,vs.length,C,rfl,y,H,Oa2 _,I,hs,by rw[hC,Oc8 (by rw[hl];exact Oa2 _)]⟩⟩
theorem Zd.far {w w' a xs rs}(h:Zd w a xs rs)(H:w.heap.size<=w'.heap.size)(I:∀ b o,a=some ⟨b,o,none⟩->b<w.heap.size->w'.heap[b]?=w.heap[b]?)(K:∀ x∈xs,∀ b o,x.1=some ⟨b,o,none⟩->b<w.heap.size->w'.heap[b]?=w.heap[b]?):Zd w' a xs rs:=
 ⟨h.len,h.cells.of_block H I,fun i x r y hr=>(h.rows i x r y hr).of_block H (K x (Of6 y))⟩
theorem zar {p:Prop}(h:p:=by
 have bf:some a.block=some bH:=e;cases bf
 obtain⟨_,⟨y,_⟩|⟨g2,_,_,y,_⟩⟩:=Z.out.2.1
 ·cases y
 injection y with y;injection y with y;subst y;exact fc.2.1 _ _ rfl):p:=h
theorem sorted_any bQ at_ ar ct cr ns xs bD di dj dn bK ob bJ os w(cx:ns.length<=maxLen)(gb:∀ r∈bD,r.length<=maxLen)(fM:∀ r∈bD,∀ v∈r,Jg v.k/\Jg v.n)(bh:Kc w at_ ns)(hy:Zd w ar xs bD)(gm:Jg di)(gn:Jg dj)(fW:Jg bK)(cJ:Jg ob)(fT:Jg bJ)(fV:Jg os)a0 a1 a2 dh q dl pg pl ex df(fz:Jax w a0 a1 a2 dh q dl pg pl ex df):
  Calls prog 3 #[.agg #[.string bQ,.slice at_ ns.length ct,.slice ar bD.length cr],.int .i64 di,.bool dn,.int .i64 dj,.agg #[.int .i64 bK,.int .i64 ob,.int .i64 bJ,.int .i64 os]] w fun e w'=>e=.returned (.bool true)/\Below w.heap.size w w':=by
 have fo:=zh fz;have cC:Hid (∀ W,Below w.heap.size w W->Calls prog 5 #[.agg #[.string bQ,.slice at_ ns.length ct,.slice ar bD.length cr],.string ⟨#[116]⟩,.int .i64 ((200:Nat):Int)] W fun e w'=>∃ ts rs K O I rc bs tb,e=.returned (.agg #[.string ⟨#[116]⟩,.slice K ts.length O,.slice I rs.length rc])/\((1<=ts.length/\ts.length<=6)/\(∀ t∈ts,tOk t)/\(∀ r∈rs,Kgs ts r)/\rs.length<=rc/\rs.length<=200)/\Kvl W w' ⟨#[116]⟩ ts rs K O (.slice I rs.length rc) bs tb/\Below W.heap.size W w'):=fun W hb=>(Qay (fun _=>True) bQ Ksd at_ ar ct cr 200 ns xs bD W zo (fun gH fC=>(Jvl at_ ct ns gH cx (bh.below (Jb hb fC))).mono fun _ _ ⟨ts,sv,y,bS,bA,ds,gL⟩=>⟨ts,sv,y,bS,bA,ds,trivial,gL⟩) gb fM (hy.below hb)).mono fun e w' ⟨ts,rs,v,dU,ht,⟨K,O,I,rc,bs,tb,hv,ho⟩,hl,_,dv⟩=>by
  obtain⟨_,_,_,jI,_,jd,_,_,gW,_⟩:=ht.val;subst hv;cases jd
  exact⟨ts,rs,K,O,I,rc,bs,tb,dU,⟨ht.types.1,ht.types.2,ht.rows,gW,hl⟩,ho,dv⟩
 have cB:Hid (Jg di/\Jg dj/\Jg bK/\Jg ob/\Jg bJ/\Jg os):=⟨gm,gn,fW,cJ,fT,fV⟩;clear fz cx gb fM bh hy gm gn fW cJ fT fV;go_enter func3,ntmps3
 go_upto_region 1 with fail
 have dt:Below w.heap.size w ((w.alloc (.cells #[.string bQ,.slice at_ ns.length ct,.slice ar bD.length cr] 25)).alloc (.cells #[.int .i64 bK,.int .i64 ob,.int .i64 bJ,.int .i64 os] 27)):=Jc (Jc (Oa5 _ _) _) _;have cy:((w.alloc (.cells #[.string bQ,.slice at_ ns.length ct,.slice ar bD.length cr] 25)).alloc (.cells #[.int .i64 bK,.int .i64 ob,.int .i64 bJ,.int .i64 os] 27)).heap[w.heap.size]?=some (.cells #[.string bQ,.slice at_ ns.length ct,.slice ar bD.length cr] 25 (0,0)):=(Oa9 _ _ _ zS).trans (heap_alloc_new w _);have ff:((w.alloc (.cells #[.string bQ,.slice at_ ns.length ct,.slice ar bD.length cr] 25)).alloc (.cells #[.int .i64 bK,.int .i64 ob,.int .i64 bJ,.int .i64 os] 27)).heap[w.heap.size+1]?=some (.cells #[.int .i64 bK,.int .i64 ob,.int .i64 bJ,.int .i64 os] 27 (0,0)):=by
  have:=heap_alloc_new (w.alloc (.cells #[.string bQ,.slice at_ ns.length ct,.slice ar bD.length cr] 25)) (.cells #[.int .i64 bK,.int .i64 ob,.int .i64 bJ,.int .i64 os] 27);rw[Oa7]at this;exact this
 have dy:((w.alloc (.cells #[.string bQ,.slice at_ ns.length ct,.slice ar bD.length cr] 25)).alloc (.cells #[.int .i64 bK,.int .i64 ob,.int .i64 bJ,.int .i64 os] 27)).heap.size=w.heap.size+2:=by rw[Oa7,Oa7]
 generalize (w.alloc (.cells #[.string bQ,.slice at_ ns.length ct,.slice ar bD.length cr] 25)).alloc (.cells #[.int .i64 bK,.int .i64 ob,.int .i64 bJ,.int .i64 os] 27)=cV at dt cy ff dy |-;have cD:Hid (Below w.heap.size w cV/\cV.heap[w.heap.size]?=some (.cells #[.string bQ,.slice at_ ns.length ct,.slice ar bD.length cr] 25 (0,0))/\cV.heap[w.heap.size+1]?=some (.cells #[.int .i64 bK,.int .i64 ob,.int .i64 bJ,.int .i64 os] 27 (0,0))/\cV.heap.size=w.heap.size+2):=⟨dt,cy,ff,dy⟩;have gd:=Jy2 cV a0 a1 a2 dh q dl pg pl ex df (fo.out.below dt);clear dt cy ff dy;go_upto_region 2 with(go_at_call 4;refine gd.mono ?_;rintro bf H ⟨rfl,bT⟩)
 have cy:=(bT.block _ (Jd cD.out.2.1)).trans cD.out.2.1;have jl:=zc 0 cy;have Y:=zc 1 cy;have jm:=zc 2 cy;have cT:Hid (Below w.heap.size w H/\H.heap[w.heap.size+1]?=some (.cells #[.int .i64 bK,.int .i64 ob,.int .i64 bJ,.int .i64 os] 27 (0,0))/\w.heap.size+2<=H.heap.size):=⟨Jb cD.out.1 bT,(bT.block _ (Jd cD.out.2.2.1)).trans cD.out.2.2.1,by have:=bT.size;have:=cD.out.2.2.2;omega⟩;have gg:=cC.out H cT.out.1;clear cy bT gd cD cC;go_upto_region 3 with(go_at_call 5;refine gg.mono ?_;rintro bf bR ⟨ts,rs,K,O,I,rc,bs,tb,rfl,hR,bj,cY⟩)
 have da:Below bR.heap.size bR (bR.alloc (.cells #[.string ⟨#[116]⟩,.slice K ts.length O,.slice I rs.length rc] 25)):=Jc (Oa5 _ _) _;have cz:=heap_alloc_new bR (.cells #[.string ⟨#[116]⟩,.slice K ts.length O,.slice I rs.length rc] 25);obtain⟨tbk,gh⟩:∃ tbk,tbk=bR.heap.size:=⟨_,rfl⟩;rw[<-gh]at cz |-;have fQ:tbk∉bs:=fun cf=>by
  obtain⟨i,hi,e⟩:=Od5 cf;have:=(bj.rows i _ (rs[i]'(by rw[<-bj.len];exact hi)) (Oa3 hi) (Oa3 (by rw[<-bj.len];exact hi))).lt;omega
 have dN:Kvl H (bR.alloc (.cells #[.string ⟨#[116]⟩,.slice K ts.length O,.slice I rs.length rc] 25)) ⟨#[116]⟩ ts rs K O (.slice I rs.length rc) bs tb:=⟨bj.tys.below da,bj.tyl,bj.own.below da,bj.len,fun i b r hi hr=>(bj.rows i b r hi hr).of_block (da.block b (bj.rows i b r hi hr).lt),bj.new,bj.nd,bj.low⟩;have bI:=IdW.start (tbk:=tbk) dN cz (fun e=>by have:=(Je bj.own e).2;omega) fQ;have fk:Hid (IdW ts rs bs tbk tb ⟨#[116]⟩ (.slice K ts.length O) (.slice I rs.length rc) 0 (List.zipWith (fun b (r:List V)=>((some ⟨b,0,none⟩:Option Addr),r.length)) bs rs) (bR.alloc (.cells #[.string ⟨#[116]⟩,.slice K ts.length O,.slice I rs.length rc] 25))/\Jo (bR.alloc (.cells #[.string ⟨#[116]⟩,.slice K ts.length O,.slice I rs.length rc] 25)) H.heap.size 3 (.slice K ts.length O) (ts.map iv)/\Below H.heap.size H (bR.alloc (.cells #[.string ⟨#[116]⟩,.slice K ts.length O,.slice I rs.length rc] 25))):=⟨bI,dN.tys,Jb cY da⟩;have bk:Hid (((1<=ts.length/\ts.length<=6)/\(∀ t∈ts,tOk t)/\(∀ r∈rs,Kgs ts r)/\rs.length<=rc/\rs.length<=200)/\(∀ b o,K=some ⟨b,o,none⟩->b<tb)/\H.heap.size<=tb/\H.heap.size<=tbk/\∀ g,(Value.slice K ts.length O).ownBlock=some g->g≠tbk):=⟨hR,bj.tyl,bj.low,by have:=cY.size;omega,fun g e=>by have:=(Je bj.tys e).2;omega⟩;clear hR bj cY da cz gh gg jl Y jm fQ dN bI;generalize bR.alloc (.cells #[.string ⟨#[116]⟩,.slice K ts.length O,.slice I rs.length rc] 25)=jx at fk |-;go_wp2_with fail
 go_loopw [13] (fun fj wr=>∃ i:Nat,i<=rs.length/\fj=.int .i64 (i:Int)/\Hid (∃ xs,IdW ts rs bs tbk tb ⟨#[116]⟩ (.slice K ts.length O) (.slice I rs.length rc) i xs wr/\Jo wr H.heap.size 3 (.slice K ts.length O) (ts.map iv)/\Below H.heap.size H wr)) (fun fj _=>rs.length-(intOf fj).toNat)
 case atStart=>exact⟨0,Ob7 _,rfl,_,fk.out⟩
 case round=>
  obtain⟨i,hi,rfl,hI⟩:=hrel;obtain⟨xs,Z⟩:∃ xs,Hid (IdW ts rs bs tbk tb ⟨#[116]⟩ (.slice K ts.length O) (.slice I rs.length rc) i xs wr/\Jo wr H.heap.size 3 (.slice K ts.length O) (ts.map iv)/\Below H.heap.size H wr):=hI.out;clear hI;have fg:=Z.out.1.cells;have c1:=zc 1 fg;have c2:=zc 2 fg;clear fg;by_cases cv:i<rs.length
  ·have fL:i<bs.length:=by rw[Z.out.1.bl];exact cv
   obtain⟨b,hb⟩:∃ b,bs[i]?=some b:=⟨_,Oa3 fL⟩;obtain⟨bW,r2,bL,cM,cS⟩:=Z.out.1.rest i b (Oa2 _) hb;obtain⟨r,hr⟩:∃ r,r=rs.getD i []:=⟨_,rfl⟩;rw[<-hr]at bW r2;obtain⟨rg,gX⟩:∃ rg,I=some ⟨rg,0,none⟩:=by
    rcases Z.out.1.own with⟨_,⟨y,bS⟩|⟨g,cap,dK,y,_⟩⟩
    ·rw[Oj8,Z.out.1.len,Kr2,Nat.min_self]at bS;omega
    injection y with y;exact⟨g,y⟩
   subst gX;have c3:wr.cell? ⟨rg,i,none⟩=some (.slice (some ⟨b,0,none⟩) r.length r.length):=by
    obtain⟨fs,jz,bG,dT⟩:=Z.out.1.own.cells;injection bG with bG;subst bG;have dC:(List.zipWith Je1 xs (Kr4 ts.length i rs))[i]?=some (Je1 (some ⟨b,0,none⟩,r.length) r):=by
     rw[Ok5,bW,Ktg cv,if_neg (Oe3 _),<-hr]
    obtain⟨gI,jp,du,_,fE⟩:=dT.at (i:=i) (by rw[Oj8,Z.out.1.len,Kr2,Nat.min_self];exact cv);cases du
    have cL:=(Ob9.1 dC).2;rw[cL,Od0]at fE;exact fE
   have bE:Hid (i<rs.length/\i<=200/\bs[i]?=some b/\r=rs.getD i []/\Kv wr b r []/\r.length=ts.length):=⟨cv,by have:=bk.out.1.2.2.2.2;omega,hb,hr,r2,by
    have cf:r∈rs:=by rw[hr,Oa0,Oa3 cv];exact Ob3 cv
    exact(bk.out.1.2.2.1 r cf).1⟩
   have j1:(0:Int)<=(i:Int):=zo;have j2:(i:Int)<(rs.length:Int):=zo;have dq:Hid (wrap64 ((i:Int)+1)=((i+1:Nat):Int)):=by show _=_;have:=bE.out.2.1;unfold wrap64;omega
   clear fL hb bW r2 bL cM cS hr cv hi;by_cases cb:ts.length<6
   ·have dM:((ts.length:Int)<6):=zo;have bY:=Krx cb;clear cb;go_upto_region 7 with fail
    refine Kt3 13 (S:=fun X=>X.cell? ⟨tbk,2,none⟩=some (.slice (some ⟨rg,0,none⟩) rs.length rc)/\X.cell? ⟨rg,i,none⟩=some (.slice (some ⟨b,0,none⟩) r.length r.length)) zK ⟨Jh c2,Jh c3⟩ (fun M=>?_);refine tkm 0 rfl M ?_;refine tkm 1 rfl M ?_;refine tkm 2 rfl M ?_;refine tkm 3 rfl M ?_;refine tkm 4 rfl M ?_;refine tkm 5 rfl M ?_;refine tkm 6 rfl M ?_;refine tkm 7 rfl M ?_;refine tkm 8 rfl M ?_;refine tkm 9 rfl M ?_;refine tkn ?_;refine Ksc 10 rfl (fun br hK=>?_);go_simp;have cG:Below wr.heap.size wr (wr.alloc (.cells #[.int .i64 1,.int .i64 (i:Int),.string ⟨#[]⟩] 33)).drew:=Jj (Jc (Oa5 _ _) _);have dX:(wr.alloc (.cells #[.int .i64 1,.int .i64 (i:Int),.string ⟨#[]⟩] 33)).drew.heap[wr.heap.size]?=some (.cells #[.int .i64 1,.int .i64 (i:Int),.string ⟨#[]⟩] 33 (0,0)):=heap_alloc_new wr (.cells #[.int .i64 1,.int .i64 (i:Int),.string ⟨#[]⟩] 33);have fd:(wr.alloc (.cells #[.int .i64 1,.int .i64 (i:Int),.string ⟨#[]⟩] 33)).drew.heap.size=wr.heap.size+1:=Oa7 _ _;generalize (wr.alloc (.cells #[.int .i64 1,.int .i64 (i:Int),.string ⟨#[]⟩] 33)).drew=dI at cG dX fd |-;refine hK.out _ _ ⟨Ja cG c2,Ja cG c3⟩ (fun M=>?_);clear hK br;have hI:=Z.out.1;obtain⟨bW,r2,bL,cM,cS⟩:=hI.rest i b (Oa2 _) bE.out.2.2.1;rw[<-bE.out.2.2.2.1]at bW r2;have gY:r.length<=6:=by have:=bE.out.2.2.2.2.2;have:=bk.out.1.1.2;omega
    have ga:Kv dI b r []:=r2.of_block (cG.block b r2.lt);have db:=Qbw (B:=0) ga (Ob7 _) (by unfold maxLen;omega);obtain⟨gr,fK,gq,dd,cL⟩:=info_parts Jow;refine Ksc 11 rfl (fun br hK=>?_);refine step_append_lies dI rfl (.tmp 52) (.tmp 55) 31 rfl 0 33 gr _ 3 32 zK fK gq dd cL rfl zd (.slice (some ⟨b,0,none⟩) r.length r.length) r.length (r.flatMap V.cells) rfl db ⟨wr.heap.size,0,none⟩ 1 1 [.int .i64 1,.int .i64 (i:Int),.string ⟨#[]⟩] rfl rfl (fun j u cK=>World.news_of_block (w:=dI) dX j u (by simpa using cK)) (fun u cK=>by simp at cK;rcases cK with rfl|rfl|rfl<;>rfl) zd (by unfold maxLen;omega) zo (Ob7 _) (wr.heap.size+1) fd (fun g cap bM y bS bA ds=>?_);have fB:Yt bM 0 (.slice (some ⟨g,0,none⟩) (r.length+1) cap) (r++[idV i]):=by
     unfold Yt;rw[Oa8,List.length_singleton];simpa [idV,V.cells] using y
    have cH:b≠rg:=fun e=>cM (by rw[e];rfl);have dx:rg<wr.heap.size:=(Je hI.own (g:=rg) rfl).2;have far:∀ k,k<wr.heap.size->k≠b->bM.heap[k]?=wr.heap[k]?:=fun k bN cx=>(bS.block k zo fun e=>cx (by cases e;rfl)).trans (cG.block k bN);have ft:bM.cell? ⟨tbk,2,none⟩=some (.slice (some ⟨rg,0,none⟩) rs.length rc):=(Oc3 (far tbk (Jb0 c2) fun e=>cS e.symm)).trans c2;have fu:bM.cell? ⟨rg,i,none⟩=some (.slice (some ⟨b,0,none⟩) r.length r.length):=(Oc3 (far rg dx fun e=>cH e.symm)).trans c3;have gK:bM.frozen? ⟨rg,i,none⟩=false:=by
     rcases hI.own with⟨_,⟨y,_⟩|⟨bH,jy,dK,dL,_,dV,_⟩⟩
     ·cases y
     injection dL with dL;cases dL
     have:=(far rg dx fun e=>cH e.symm).trans dV;simp[World.frozen?,this]
    have dm:Hid (∃ xs,IdW ts rs bs tbk tb ⟨#[116]⟩ (.slice K ts.length O) (.slice (some ⟨rg,0,none⟩) rs.length rc) (i+1) xs (bM.setCell ⟨rg,i,none⟩ (.slice (some ⟨g,0,none⟩) (r.length+1) cap))/\Jo (bM.setCell ⟨rg,i,none⟩ (.slice (some ⟨g,0,none⟩) (r.length+1) cap)) H.heap.size 3 (.slice K ts.length O) (ts.map iv)/\Below H.heap.size H (bM.setCell ⟨rg,i,none⟩ (.slice (some ⟨g,0,none⟩) (r.length+1) cap))):=by
     have hl:=bE.out;have fc:=bk.out;have cn:Ks6 ts.length i (rs.getD i [])=r++[idV i]:=by unfold Ks6;rw[if_pos bY.out,<-hl.2.2.2.1]
     have dZ:Jo bM (tb+1) 31 (.slice (some ⟨rg,0,none⟩) rs.length rc) (List.zipWith Je1 xs (Kr4 ts.length i rs)):=Yd hI.own fun bH e=>by cases e;exact far rg dx fun e=>cH e.symm
     have gO:g≠rg:=fun e=>by
      rcases bA with bA|bA
      ·have bA:some b=some g:=bA;cases bA
       exact cH e
      omega
     have dy:=bS.size;refine⟨xs.set i (some ⟨g,0,none⟩,cap),hI.next hl.1 hl.2.2.1 (x':=(some ⟨g,0,none⟩,cap)) (by simp[World.setCell];omega) (fun k bN cx dW=>(Oa4 _ _ _ _ (fun e=>cx (by rw[show k=rg from e];rfl))).trans (far k bN dW)) ?_ ?_ (fun bx o e=>?_),?_,?_⟩
     ·rw[cn];have:=Kka dZ (g:=rg) rfl i (by rw[Oj8,hI.len,Kr2,Nat.min_self];exact hl.1) (.slice (some ⟨g,0,none⟩) (r.length+1) cap);simpa [Je1] using this
     ·rw[cn];obtain⟨fs,gJ,bG,dB⟩:=fB.vals;injection bG with bG;subst bG;exact dB.of_block (by simp[World.setCell]) fun bx o e fC=>Oa4 _ _ _ _ (by cases e;exact gO)
     ·cases e
      refine⟨?_,by simp[World.setCell];exact ds⟩;rcases bA with bA|bA
      ·have bA:some b=some g:=bA;cases bA
       exact .inl rfl
      exact .inr zo
     ·refine Yd Z.out.2.1 fun bH e=>?_;have dV:bH<tb:=by
       cases K with
       |none=>cases e
       |some a=>
        exact zar
      have dc:tb+1<=rg:=(Je hI.own (g:=rg) rfl).1;exact(Oa4 _ _ _ _ (show bH≠rg by omega)).trans (far bH (Je Z.out.2.1 e).2 zo)
     have dc:tb+1<=rg:=(Je hI.own (g:=rg) rfl).1;refine(Jy (Jb Z.out.2.2 (cG.mono (Oa2 _))) bS fun bH e=>?_).setCell (p:=⟨rg,i,none⟩) (show H.heap.size<=rg by omega) _;have e:some b=some bH:=e;cases e
     omega
    refine hK.out _ _ ⟨ft,fu⟩ (fun M=>?_);clear hK br y bS bA ds fB far db ga gY bW r2 bL cM cS cG dX fd hI fK gq dd cL gr cH dx c2 c3;simp only[Act.put,List.getElem_toArray,List.getElem_cons_zero,List.getElem_cons_succ,Oa1,List.set_cons_zero,List.set_cons_succ];refine tkm 12 rfl M ?_;refine tkn ?_;refine Ktx rfl (fun br hK=>?_);go_simp;refine hK.out _ _ ?_;clear hK br M ft fu gK;generalize bM.setCell ⟨rg,i,none⟩ (.slice (some ⟨g,0,none⟩) (r.length+1) cap)=jw at dm |-;go_wp2;go_roundw
    case rel=>exact⟨i+1,bE.out.1,by rw[dq.out],dm.out⟩
    case measure=>have:=bE.out.1;rw[dq.out];simp[intOf];omega
   have dM:¬ ((ts.length:Int)<6):=zo;have bY:=Krx cb;clear cb;have hI:=Z.out.1;obtain⟨bW,r2,bL,cM,cS⟩:=hI.rest i b (Oa2 _) bE.out.2.2.1;rw[<-bE.out.2.2.2.1]at bW r2;have gV:r.length=6:=by have:=bE.out.2.2.2.2.2;have:=bk.out.1.1.2;have:=bY.out;omega
   obtain⟨u,⟨gs,fw⟩,⟨gt,fx⟩,⟨gu,fy⟩,cR⟩:=r2.put (idV i) 5 zo;have gs:wr.cell? ⟨b,15,none⟩=some (.int .i64 u.k):=gs;have gt:wr.cell? ⟨b,16,none⟩=some (.int .i64 u.n):=gt;have gu:wr.cell? ⟨b,17,none⟩=some (.string u.s):=gu;have fw:wr.frozen? ⟨b,15,none⟩=false:=fw;have fx:wr.frozen? ⟨b,16,none⟩=false:=fx;have fy:wr.frozen? ⟨b,17,none⟩=false:=fy;have dm:Hid (∃ xs,IdW ts rs bs tbk tb ⟨#[116]⟩ (.slice K ts.length O) (.slice (some ⟨rg,0,none⟩) rs.length rc) (i+1) xs (((wr.setCell ⟨b,15,none⟩ (.int .i64 1)).setCell ⟨b,16,none⟩ (.int .i64 (i:Int))).setCell ⟨b,17,none⟩ (.string ⟨#[]⟩))/\Jo (((wr.setCell ⟨b,15,none⟩ (.int .i64 1)).setCell ⟨b,16,none⟩ (.int .i64 (i:Int))).setCell ⟨b,17,none⟩ (.string ⟨#[]⟩)) H.heap.size 3 (.slice K ts.length O) (ts.map iv)/\Below H.heap.size H (((wr.setCell ⟨b,15,none⟩ (.int .i64 1)).setCell ⟨b,16,none⟩ (.int .i64 (i:Int))).setCell ⟨b,17,none⟩ (.string ⟨#[]⟩))):=by
    have hl:=bE.out;have fc:=bk.out;have cn:Ks6 ts.length i (rs.getD i [])=r.set 5 (idV i):=by unfold Ks6;rw[if_neg bY.out,<-hl.2.2.2.1]
    have cR:Kv (((wr.setCell ⟨b,15,none⟩ (.int .i64 1)).setCell ⟨b,16,none⟩ (.int .i64 (i:Int))).setCell ⟨b,17,none⟩ (.string ⟨#[]⟩)) b (r.set 5 (idV i)) []:=cR;have far:∀ k,k≠b->(((wr.setCell ⟨b,15,none⟩ (.int .i64 1)).setCell ⟨b,16,none⟩ (.int .i64 (i:Int))).setCell ⟨b,17,none⟩ (.string ⟨#[]⟩)).heap[k]?=wr.heap[k]?:=fun k bN=>by rw[Oa4 _ _ _ _ bN,Oa4 _ _ _ _ bN,Oa4 _ _ _ _ bN]
    have cH:b≠rg:=fun e=>cM (by rw[e];rfl);have bT:Below H.heap.size H (((wr.setCell ⟨b,15,none⟩ (.int .i64 1)).setCell ⟨b,16,none⟩ (.int .i64 (i:Int))).setCell ⟨b,17,none⟩ (.string ⟨#[]⟩)):=((Z.out.2.2.setCell (p:=⟨b,15,none⟩) (show H.heap.size<=b by omega) _).setCell (p:=⟨b,16,none⟩) (show H.heap.size<=b by omega) _).setCell (p:=⟨b,17,none⟩) (show H.heap.size<=b by omega) _;have dC:wr.heap.size<=(((wr.setCell ⟨b,15,none⟩ (.int .i64 1)).setCell ⟨b,16,none⟩ (.int .i64 (i:Int))).setCell ⟨b,17,none⟩ (.string ⟨#[]⟩)).heap.size:=by simp[World.setCell]
    generalize ((wr.setCell ⟨b,15,none⟩ (.int .i64 1)).setCell ⟨b,16,none⟩ (.int .i64 (i:Int))).setCell ⟨b,17,none⟩ (.string ⟨#[]⟩)=bM at cR far bT dC |-;have gZ:(r.set 5 (idV i)).length=r.length:=Of8;refine⟨xs.set i (some ⟨b,0,none⟩,r.length),hI.next hl.1 hl.2.2.1 (x':=(some ⟨b,0,none⟩,r.length)) dC (fun k _ _ dW=>far k dW) ?_ ?_ (fun bx o e=>?_),?_,bT⟩
    ·rw[cn];have dZ:Jo bM (tb+1) 31 (.slice (some ⟨rg,0,none⟩) rs.length rc) (List.zipWith Je1 xs (Kr4 ts.length i rs)):=Yd hI.own fun bH e=>by cases e;exact far rg fun e=>cH e.symm
     have e:(List.zipWith Je1 xs (Kr4 ts.length i rs)).set i (Je1 (some ⟨b,0,none⟩,r.length) (r.set 5 (idV i)))=List.zipWith Je1 xs (Kr4 ts.length i rs):=by
      apply Oi8;intro j;rw[Op2];by_cases fv:i=j
      ·subst fv;rw[if_pos rfl,if_pos (by rw[Oj8,hI.len,Kr2,Nat.min_self];exact hl.1),Ok5,bW,Ktg hl.1,if_neg (Oe3 _),<-hl.2.2.2.1];simp[Je1,gZ]
      rw[if_neg fv]
     rw[e];exact dZ
    ·rw[cn];exact cR.vals
    ·cases e
     exact⟨.inl rfl,cR.lt⟩
    refine Yd Z.out.2.1 fun bH e=>?_;have dV:bH<tb:=by
     cases K with
     |none=>cases e
     |some a=>
      exact zar
    exact far bH zo
   have jG:(5:Int)<(r.length:Int):=zo;clear hI bW r2 bL cM cS cR gV;go_wp2;go_roundw
   case rel=>exact⟨i+1,bE.out.1,by rw[dq.out],dm.out⟩
   case measure=>have:=bE.out.1;rw[dq.out];simp[intOf];omega
  have e:i=rs.length:=zo;subst e;have gz:=Krx hi;clear hi cv;have bZ:Hid (Zd wr I xs (Kr4 ts.length rs.length rs)/\(∀ x∈xs,∀ b o,x.1=some ⟨b,o,none⟩->tb<b/\b<wr.heap.size/\b≠tbk)/\(∀ b o,I=some ⟨b,o,none⟩->tb<b/\b<wr.heap.size/\b≠tbk)/\Jo wr H.heap.size 3 (.slice K ts.length O) (ts.map iv)/\Below H.heap.size H wr/\wr.heap[tbk]?=some (.cells #[.string ⟨#[116]⟩,.slice K ts.length O,.slice I rs.length rc] 25 (0,0))):=by
   have hI:=Z.out.1;have jf:∀ x∈xs,∃ j,j<rs.length/\xs[j]?=some x:=fun x bh=>by
    obtain⟨j,cu⟩:=Ok2.1 bh;exact⟨j,by rw[<-hI.len];exact(Ob9.1 cu).1,cu⟩
   refine⟨⟨by rw[hI.len,Kr2],?_,fun j x r bh hr=>?_⟩,fun x bh b o e=>?_,fun b o e=>?_,Z.out.2.1,Z.out.2.2,hI.cells⟩
   ·obtain⟨fs,gJ,bG,dT⟩:=hI.own.cells;injection bG with bG;rw[bG];exact dT
   ·have cu:j<rs.length:=by rw[<-hI.len];exact(Ob9.1 bh).1
    rw[Ktg cu,if_pos cu]at hr;cases hr
    exact(hI.done j x cu bh).1
   ·obtain⟨j,cu,bh⟩:=jf x bh;have:=(hI.done j x cu bh).2 b o e;exact⟨this.1,this.2.1,this.2.2.2.1⟩
   subst e;have:=Je hI.own (g:=b) rfl;exact⟨zo,this.2,fun e=>hI.rvk (by rw[<-e];rfl)⟩
  clear Z gz;go_upto_if 69 with fail
  go_cut [] from 66 to 74 (fun bX=>∃ (dg:Option Addr) (bB:Nat) (bO:List Int),Hid (bO=(if ts.length<6 then ts++[1]else ts)/\bX.heap[tbk]?=some (.cells #[.string ⟨#[116]⟩,.slice dg bO.length bB,.slice I rs.length rc] 25 (0,0))/\Jo bX H.heap.size 3 (.slice dg bO.length bB) (bO.map iv)/\(∀ b o,dg=some ⟨b,o,none⟩->b≠tbk/\(∀ x∈xs,∀ bx bP,x.1=some ⟨bx,bP,none⟩->bx≠b)/\∀ bx bP,I=some ⟨bx,bP,none⟩->bx≠b)/\Zd bX I xs (Kr4 ts.length rs.length rs)/\Below H.heap.size H bX))
  case first=>
   have gi:=bZ.out.2.2.2.1;have dA:∀ g,(Value.slice K ts.length O).ownBlock=some g->g<tb/\g<wr.heap.size:=fun g e=>by
    refine⟨?_,(Je gi e).2⟩;cases K with
    |none=>cases e
    |some a=>
     have bf:some a.block=some g:=e;cases bf
     obtain⟨_,⟨y,_⟩|⟨g2,_,_,y,_⟩⟩:=gi
     ·cases y
     injection y with y;injection y with y;subst y;exact bk.out.2.1 _ _ rfl
   have jE:=bk.out.2.2;have jc:=Jd bZ.out.2.2.2.2.2;by_cases cb:ts.length<6
   ·have dM:((ts.length:Int)<6):=zo;have bY:=Krx cb;have cC:=Krx dA;have jC:wr.frozen? ⟨tbk,1,none⟩=false:=Lib.frozen_of_heap bZ.out.2.2.2.2.2 1;have jF:(ts.map iv).length=ts.length:=Oa6 _;clear cb dA;have fR:=bk.out.2.2.2.2;have mk:=bZ.out.2.2.2.2.2;have fS:∀ cN:World,(wr.alloc (.cells #[.int .i64 1] 3)).grownBy cN (Value.slice K ts.length O).ownBlock->cN.heap[tbk]?=some (.cells #[.string ⟨#[116]⟩,.slice K ts.length O,.slice I rs.length rc] 25 (0,0)):=fun cN q2=>((q2.block tbk (by rw[Oa7];omega) fun e=>fR tbk e.symm rfl).trans (Oa9 _ _ _ jc)).trans mk;have fp:=Krx fS;clear fR fS mk;go_wp2_with (at_builtin;go_must (refine Ul zR _ _ 22 3 _ 8 Zw zR zd zK zR H.heap.size _ (ts.map iv) zR (Jo.alloc bZ.out.2.2.2.1 _) ⟨wr.heap.size,0,none⟩ 1 [.int .i64 1] zR (by exact Ua wr _ _) (by intro u cK;simp at cK;subst cK;rfl) (by rw[Oa6];simp only[List.length_cons,List.length_nil];have:=bY.out;omega) (by have:=bZ.out.2.2.2.2.1.size;simp;omega) ?_);intro sv' cN q1 q2 bV;have dp:=Krx (And.intro q1 (And.intro q2 bV));obtain⟨a2,cX,ja,_⟩:=q1.cells;subst ja;have m3:=fp.out cN q2;have jA:=zc 1 m3;have jB:=Lib.frozen_of_heap m3 1;clear q1 q2 bV)
    go_meet
    case rel=>
     obtain⟨q1,q2,bV⟩:=dp.out;have gQ:(ts.map iv++[Value.int .i64 1]).length=ts.length+1:=zS;rw[gQ]at q1 bV;have bC:=bZ.out;have jh:=q2.size;rw[Oa7]at jh bV;have dc:=bC.2.2.1;have fI:∀ k,k<wr.heap.size->tb<k->k≠tbk->(cN.setCell ⟨tbk,1,none⟩ (.slice a2 (ts.length+1) cX)).heap[k]?=wr.heap[k]?:=fun k bN ht cx=>(Oa4 _ _ _ _ cx).trans ((q2.block k (by rw[Oa7];omega) fun e=>by have:=(cC.out k e.symm).1;omega).trans (Oa9 _ _ _ bN));have fJ:∀ g,(Value.slice a2 (ts.length+1) cX).ownBlock=some g->(g<tb/\g≠tbk)\/g=wr.heap.size+1:=fun g e=>by
      rcases bV with bV|bV
      ·rw[bV]at e;exact .inl ⟨(cC.out g e).1,bk.out.2.2.2.2 g e⟩
      rw[bV]at e;cases e
      exact .inr rfl
     have fP:(ts.length+1)=(ts++[1]).length:=zS;have gS:(ts++[1]).map iv=ts.map iv++[Value.int .i64 1]:=(by simp[iv]);refine⟨a2,cX,ts++[1],(by rw[if_pos bY.out]),?_,?_,fun b o e=>?_,bC.1.far (by simp[World.setCell];omega) (fun b o e hb=>fI b hb (dc b o e).1 (dc b o e).2.2) (fun x bh b o e hb=>fI b hb (bC.2.1 x bh b o e).1 (bC.2.1 x bh b o e).2.2),?_⟩
     ·have:=Jk (fp.out cN q2) 1 (.slice a2 (ts.length+1) cX);rw[<-fP];simpa using this
     ·rw[gS,<-fP];exact Yd q1 fun g e=>Oa4 _ _ _ _ (show g≠tbk from (by rcases fJ g e with h|h;exact h.2;omega))
     ·have cJ:(Value.slice a2 (ts.length+1) cX).ownBlock=some b:=by rw[e];rfl
      have cI:=fJ b cJ;exact⟨zo,fun x bh bx bP bf=>by have:=bC.2.1 x bh bx bP bf;omega,fun bx bP bf=>by have:=dc bx bP bf;omega⟩
     exact(Jy (Jb bC.2.2.2.2.1 (Jc (Oa5 _ _) _)) q2 fun g e=>(Je bC.2.2.2.1 e).1).setCell (p:=⟨tbk,1,none⟩) (show H.heap.size<=tbk from bk.out.2.2.2.1) _
   have dM:¬ ((ts.length:Int)<6):=zo;have bY:=Krx cb;have cC:=Krx dA;clear cb dA;go_wp2_with fail
   go_meet
   case rel=>
    have bC:=bZ.out;refine⟨K,O,ts,(by rw[if_neg bY.out]),bC.2.2.2.2.2,bC.2.2.2.1,fun b o e=>?_,bC.1,bC.2.2.2.2.1⟩;have cJ:(Value.slice K ts.length O).ownBlock=some b:=by rw[e];rfl
    have y:=cC.out b cJ;exact⟨bk.out.2.2.2.2 b cJ,fun x bh bx bP bf=>by have:=bC.2.1 x bh bx bP bf;omega,fun bx bP bf=>by have:=bC.2.2.1 bx bP bf;omega⟩
  case rest=>
   obtain⟨dg,bB,bO,cP⟩:=hcut;have gT:1<=bO.length/\bO.length<=6:=by
    have:=bk.out.1.1;rw[cP.out.1];split
    ·rw[Oa8,List.length_singleton];omega
    exact this
   obtain⟨U,gP⟩:∃ U,dg=some ⟨U,0,none⟩:=by
    rcases cP.out.2.2.1 with⟨_,⟨y,bS⟩|⟨g,cap,dK,y,_⟩⟩
    ·rw[Oa6]at bS;omega
    injection y with y;exact⟨g,y⟩
   subst gP;obtain⟨Y,dY⟩:∃ Y,bO.length=Y+1:=⟨bO.length-1,zo⟩;have mk:=cP.out.2.1;have c1:wc.cell? ⟨tbk,1,none⟩=some (.slice (some ⟨U,0,none⟩) (Y+1) bB):=by rw[<-dY];simp[World.cell?,mk]
   obtain⟨fh,jo⟩:(∃ v,wc.cell? ⟨U,Y,none⟩=some (.int .i64 v))/\wc.frozen? ⟨U,Y,none⟩=false:=by
    have fG:=cP.out.2.2.1;obtain⟨gI,jp,bG,_,dB⟩:=Uh.at (i:=Y) (by obtain⟨a,cp,e,cI⟩:=fG.cells;injection e with e;subst e;exact cI) (by rw[Oa6];omega);cases bG
    rw[Od0,Od9]at dB;refine⟨⟨_,dB⟩,?_⟩;rcases fG with⟨_,⟨y,_⟩|⟨g,cap,dK,y,_,gN,_⟩⟩
    ·cases y
    injection y with y;cases y
    simp[World.frozen?,gN]
   obtain⟨jH,fh⟩:=fh;have je:wrap64 (Y:Int)=(Y:Int):=by unfold wrap64;omega
   have ji:(0:Int)<=(Y:Int):=zo;have jj:(Y:Int)<(Y:Int)+1:=zo;have ca:Hid (Uw (wc.setCell ⟨U,Y,none⟩ (.int .i64 1)) Ksd (some ⟨U,0,none⟩) I rc (Kr3 ts) xs (Kr4 ts.length rs.length rs)/\(wc.setCell ⟨U,Y,none⟩ (.int .i64 1)).heap[tbk]?=some (.cells #[.string ⟨#[116]⟩,.slice (some ⟨U,0,none⟩) (Kr3 ts).length bB,.slice I rs.length rc] 25 (0,0))/\Below H.heap.size H (wc.setCell ⟨U,Y,none⟩ (.int .i64 1))):=by
    have cF:=cP.out;have cQ:=cF.2.2.2.1 U 0 rfl;have hR:=bk.out.1;have cn:bO.set Y 1=Kr3 ts:=by
     have:=Qaw hR.1;rw[<-cF.1,dY,Nat.add_sub_cancel]at this;exact this
    have hlen:(Kr3 ts).length=bO.length:=by rw[<-cn,Of8]
    have db:=Kka cF.2.2.1 (g:=U) rfl Y (by rw[Oa6];omega) (.int .i64 1);have gR:(bO.map iv).set Y (.int .i64 1)=(Kr3 ts).map iv:=by rw[<-cn,Op0];rfl
    rw[gR]at db;refine⟨Qa7 hR.1 hR.2.1 hR.2.2.1 hR.2.2.2.2 hR.2.2.2.1 ?_ (cF.2.2.2.2.1.far (by simp[World.setCell]) (fun b o e hb=>Oa4 _ _ _ _ (cQ.2.2 b o e)) (fun x bh b o e hb=>Oa4 _ _ _ _ (cQ.2.1 x bh b o e))),?_,cF.2.2.2.2.2.setCell (p:=⟨U,Y,none⟩) (Je cF.2.2.1 (g:=U) rfl).1 _⟩
    ·obtain⟨a,cp,e,cI⟩:=db.cells;injection e with e;rw[e];exact cI
    rw[hlen];exact(Oa4 _ _ _ _ (Oc5 cQ.1)).trans cF.2.1
   have fq:=zh bk.out.1;clear mk cP bZ bk gT;go_upto_region 12 with fail
   generalize wc.setCell ⟨U,Y,none⟩ (.int .i64 1)=W at ca |-;try clear je
   try clear ji jj
   try clear fh jo
   try clear c1
   try clear dY
   have cz:=ca.out.2.1;have fi:=zc 0 cz;have q1:=zc 1 cz;have q2:=zc 2 cz;have dE:Hid (Jax W a0 a1 a2 dh q dl pg pl ex df/\Below w.heap.size w W):=⟨fo.out.below (Jb cT.out.1 ca.out.2.2),Jb cT.out.1 ca.out.2.2⟩;clear cz;have dD:Hid (∀ X b,Below W.heap.size W X->X.heap[b]?=some (.cells #[.string ⟨#[116]⟩,.slice (some ⟨U,0,none⟩) (Kr3 ts).length bB,.slice I rs.length rc] 25 (0,0))->Calls prog 6 #[.agg #[.int .i64 1048576,.int .i64 0],.slice (some ⟨b,0,none⟩) 1 1] X fun e dH=>∃ st,e=.returned (.pointer (some ⟨st,0,none⟩))/\Qc2 W dH st (Kr3 ts) (Kr4 ts.length rs.length rs)/\Below X.heap.size X dH):=fun X b dP hb=>
    (Jl3 b Ksd (some ⟨U,0,none⟩) I bB rc (Kr3 ts) xs (Kr4 ts.length rs.length rs) X (ca.out.1.below dP) (by simp[World.cell?,hb]) (by simp[World.cell?,hb]) (by rw[Kr2];simp[World.cell?,hb]) a0 a1 a2 dh q dl pg pl ex df (dE.out.1.below dP)).mono fun e dH ⟨dv,st,dU,hl⟩=>⟨st,dU,Kzd hl dP dv ca.out.1.tab ca.out.1.vals,dv⟩
   go_cut [14] from 82 to 85 (fun s bX=>∃ st:Nat,s=.pointer (some ⟨st,0,none⟩)/\Qc2 W bX st (Kr3 ts) (Kr4 ts.length rs.length rs))
   case first=>
    refine wp_region_held_drew (S:=fun X=>X.cell? ⟨tbk,0,none⟩=some (.string ⟨#[116]⟩)/\X.cell? ⟨tbk,1,none⟩=some (.slice (some ⟨U,0,none⟩) (Kr3 ts).length bB)/\X.cell? ⟨tbk,2,none⟩=some (.slice I rs.length rc)) zK ⟨fi,q1,q2⟩ (fun M=>?_);refine tkj 1 rfl M ?_;refine tkn ?_;have fF:Below W.heap.size W W.drew:=⟨rfl,rfl,rfl,Oa2 _,fun _ _=>rfl⟩;refine wpAnyH_ready (rs:=[0,2]) zK zS (AllReadyH.cons rfl (fun br hK=>?_) (AllReadyH.cons rfl (fun br hK=>?_) AllReadyH.nil));focus
     go_simp;refine(Jen _).mono ?_;rintro e ci ⟨rfl,bU⟩;have dS:Below W.heap.size W ci:=Jb fF bU;go_simp;refine hK.out _ _ ⟨Ja bU M.1,Ja bU M.2.1,Ja bU M.2.2⟩ (fun M=>?_);clear hK br;refine tkr 2 rfl fun br hK=>?_;go_simp;have cc:Below ci.heap.size ci (ci.alloc (.cells #[.string ⟨#[116]⟩,.slice (some ⟨U,0,none⟩) (Kr3 ts).length bB,.slice I rs.length rc] 25)):=(Oa5 _ _).alloc (Oa2 _) _;have dw:=heap_alloc_new ci (.cells #[.string ⟨#[116]⟩,.slice (some ⟨U,0,none⟩) (Kr3 ts).length bB,.slice I rs.length rc] 25);refine hK.out _ _ ⟨Ja cc M.1,Ja cc M.2.1,Ja cc M.2.2⟩ (fun M=>?_);clear hK br;refine tkr 3 rfl fun br hK=>?_;go_simp;refine(dD.out _ _ (Jb dS cc) dw).mono ?_
    rotate_left 1;focus
     go_simp;have cc:Below W.heap.size W ((W.alloc (.cells #[.string ⟨#[116]⟩,.slice (some ⟨U,0,none⟩) (Kr3 ts).length bB,.slice I rs.length rc] 25)).drew):=Jb fF ((Oa5 _ W.drew).alloc (Oa2 _) (.cells #[.string ⟨#[116]⟩,.slice (some ⟨U,0,none⟩) (Kr3 ts).length bB,.slice I rs.length rc] 25));have dw:((W.alloc (.cells #[.string ⟨#[116]⟩,.slice (some ⟨U,0,none⟩) (Kr3 ts).length bB,.slice I rs.length rc] 25)).drew).heap[W.heap.size]?=_:=heap_alloc_new W (.cells #[.string ⟨#[116]⟩,.slice (some ⟨U,0,none⟩) (Kr3 ts).length bB,.slice I rs.length rc] 25);refine hK.out _ _ ⟨Ja cc fi,Ja cc q1,Ja cc q2⟩ (fun M=>?_);clear hK br;refine tkr 0 rfl fun br hK=>?_;go_simp;refine(Jen _).mono ?_;rintro e ci ⟨rfl,bU⟩;have dS:Below W.heap.size W ci:=Jb cc bU;have gM:ci.heap[W.heap.size]?=_:=(bU.block _ (Jd dw)).trans dw;go_simp;refine hK.out _ _ ⟨Ja bU M.1,Ja bU M.2.1,Ja bU M.2.2⟩ (fun M=>?_);clear hK br;refine tkr 3 rfl fun br hK=>?_;go_simp;refine(dD.out _ _ dS gM).mono ?_
    all_goals
     rintro e jv ⟨st,rfl,ge,fe⟩;have gE:=zh ge;clear ge;go_simp;refine hK.out _ _ ⟨Ja fe M.1,Ja fe M.2.1,Ja fe M.2.2⟩ (fun M=>?_);clear hK br;refine tkj 4 rfl M ?_;refine tkn ?_;refine wpAnyH_done zK ?_ _;go_wp2_with fail
     go_meet
     case rel=>exact⟨st,rfl,gE.out⟩
   case rest=>
    obtain⟨st,rfl,dR,dG,E,T,cs,dO,fA,hq,fH,cQ,hM⟩:=hcut;have fr:Hid (Below W.heap.size W wc/\Sto dG wc st E [T]/\Kd3 E T Ksd (Kr3 ts) (Kr4 ts.length rs.length rs) cs/\E.quota=1048576/\E.fail=0/\dz E<=132000/\∀ k,dG k->W.heap.size<=k):=⟨dR,dO,fA,hq,fH,cQ,hM⟩;have u1:=Ja dR q1;have dp:Hid (W.cell? ⟨tbk,1,none⟩=some (.slice (some ⟨U,0,none⟩) (Kr3 ts).length bB)/\W.cell? ⟨tbk,2,none⟩=some (.slice I rs.length rc)):=⟨q1,q2⟩;have fl:Hid (1<=(Kr3 ts).length/\(Kr3 ts).length<=6/\ts.length<=(Kr3 ts).length):=Kt4 fq.out.1;have fX:Calls prog 8 #[.int .i64 di,.int .i64 ((Kr3 ts).length:Nat)] wc fun e w'=>(∃ r:Nat,e=.returned (.int .i64 (r:Nat))/\r<(Kr3 ts).length)/\w'=wc:=Jfw di (Kr3 ts).length wc cB.out.1 fl.out.1 (by have:=fl.out.2.1;omega);have fY:Calls prog 8 #[.int .i64 dj,.int .i64 ((201:Nat):Int)] wc fun e w'=>(∃ r:Nat,e=.returned (.int .i64 (r:Nat))/\r<201)/\w'=wc:=Jfw dj 201 wc cB.out.2.1 zo zo;have gj:=Kxx dG st E [T] wc dO;clear dO fA hq fH cQ hM dR fi q1 q2 dD;go_upto_region 16 with(go_at_call 8;refine fX.mono ?_;rintro bf cW ⟨⟨c,rfl,cI⟩,de⟩;subst de)
    have gy:=zh cI;clear cI fX;go_upto_region 17 with(go_at_call 8;refine fY.mono ?_;rintro bf cW ⟨⟨k,rfl,bN⟩,de⟩;subst de)
    have gA:=zh bN;clear bN fY;go_upto_region 18 with(go_at_call 9;refine gj.mono ?_;rintro bf cE ⟨rfl,jg⟩;subst jg)
    clear gj;have bz:=((Jb ca.out.2.2 fr.out.1).block _ (Jd cT.out.2.1)).trans cT.out.2.1;have jq:=zc 0 bz;have gw:=zc 1 bz;have js:=zc 2 bz;have jt:=zc 3 bz;have fU:=Jqk bK ob bJ os cE cB.out.2.2.1 cB.out.2.2.2.1 cB.out.2.2.2.2.1;clear bz;go_upto_region 19 with(go_at_call 10;refine fU.mono ?_;rintro bf cj ⟨⟨z,dr,bl,rfl,dd,cL,bT,cY,fN,fO⟩,dQ⟩)
    have gB:Hid (1<=z/\z<=1000/\0<=bl/\bl<=4096):=⟨dd,cL,fN,fO⟩;have du:Below cj.heap.size cj (cj.alloc (.cells #[.int .i64 (z:Int),.int .i64 dr,.int .i64 bl,.int .i64 os] 27)):=Jc (Oa5 _ _) _;have bz:=heap_alloc_new cj (.cells #[.int .i64 (z:Int),.int .i64 dr,.int .i64 bl,.int .i64 os] 27);have cA:Hid (Below cE.heap.size cE (cj.alloc (.cells #[.int .i64 (z:Int),.int .i64 dr,.int .i64 bl,.int .i64 os] 27))/\cE.heap.size<=cj.heap.size):=⟨Jb dQ du,dQ.size⟩;obtain⟨cO,gp⟩:∃ cO,cO=cj.heap.size:=⟨_,rfl⟩;rw[<-gp]at bz cA |-;clear gp du dQ dd cL bT cY fN fO fU;generalize cj.alloc (.cells #[.int .i64 (z:Int),.int .i64 dr,.int .i64 bl,.int .i64 os] 27)=dJ at bz cA |-;have fm:=zh bz;have x1:=zc 1 bz;have ju:=Lib.frozen_of_heap bz 1;have jr:=Ja cA.out.1 gw;have fZ:Calls prog 8 #[.int .i64 ob,.int .i64 ((30:Nat):Int)] dJ fun e w'=>(∃ r:Nat,e=.returned (.int .i64 (r:Nat))/\r<30)/\w'=dJ:=Jfw ob 30 dJ cB.out.2.2.2.1 zo zo;clear jq gw js jt bz;go_upto_region 20 with(go_at_call 8;refine fZ.mono ?_;rintro bf cW ⟨⟨bL,rfl,gU⟩,de⟩;subst de)
    have gD:Hid (2+bL<=31/\2<=2+bL):=⟨zo,zo⟩;have gG:=zh cA.out.2;have bz:=Jk fm.out 1 (.int .i64 (2+(bL:Int)));simp only[Oa1,List.set_cons_zero,List.set_cons_succ]at bz;have cU:Hid ((cW.setCell ⟨cO,1,none⟩ (.int .i64 (2+(bL:Int)))).heap[cO]?=some (.cells #[.int .i64 (z:Int),.int .i64 (2+(bL:Int)),.int .i64 bl,.int .i64 os] 27 (0,0))/\Below cE.heap.size cE (cW.setCell ⟨cO,1,none⟩ (.int .i64 (2+(bL:Int))))):=⟨bz,cA.out.1.setCell (p:=⟨cO,1,none⟩) cA.out.2 _⟩;clear bz gU fZ x1 ju jr fm cA;generalize cW.setCell ⟨cO,1,none⟩ (.int .i64 (2+(bL:Int)))=bi at cU |-;go_cut [19] from 108 to 112 (fun s bX=>∃ kb:Nat,s=.pointer (some ⟨kb+1,0,none⟩)/\bX.heap[kb]?=some (.cells #[.int .i64 (c:Int),.int .i64 0,.bool dn,.int .i64 0] 44 (0,0))/\bX.heap[kb+1]?=some (.cells #[.int .i64 5,.int .i64 0,.int .i64 0,.string ⟨#[]⟩,.slice none 0 0,.slice (some ⟨kb,0,none⟩) 1 1,.int .i64 0] 48 (0,0))/\cE.heap.size<=kb/\Below bi.heap.size bi bX)
    case first=>
     have cZ:Below bi.heap.size bi ((bi.alloc (.cells #[.int .i64 (c:Int),.int .i64 0,.bool dn,.int .i64 0] 44)).alloc (.cells #[.int .i64 5,.int .i64 0,.int .i64 0,.string ⟨#[]⟩,.slice none 0 0,.slice (some ⟨bi.heap.size,0,none⟩) 1 1,.int .i64 0] 48)):=Jc (Jc (Oa5 _ _) _) _;have mk:((bi.alloc (.cells #[.int .i64 (c:Int),.int .i64 0,.bool dn,.int .i64 0] 44)).alloc (.cells #[.int .i64 5,.int .i64 0,.int .i64 0,.string ⟨#[]⟩,.slice none 0 0,.slice (some ⟨bi.heap.size,0,none⟩) 1 1,.int .i64 0] 48)).heap[bi.heap.size]?=some (.cells #[.int .i64 (c:Int),.int .i64 0,.bool dn,.int .i64 0] 44 (0,0)):=(Oa9 _ _ _ zS).trans (heap_alloc_new bi _);have mn:((bi.alloc (.cells #[.int .i64 (c:Int),.int .i64 0,.bool dn,.int .i64 0] 44)).alloc (.cells #[.int .i64 5,.int .i64 0,.int .i64 0,.string ⟨#[]⟩,.slice none 0 0,.slice (some ⟨bi.heap.size,0,none⟩) 1 1,.int .i64 0] 48)).heap[bi.heap.size+1]?=some (.cells #[.int .i64 5,.int .i64 0,.int .i64 0,.string ⟨#[]⟩,.slice none 0 0,.slice (some ⟨bi.heap.size,0,none⟩) 1 1,.int .i64 0] 48 (0,0)):=by
      have:=heap_alloc_new (bi.alloc (.cells #[.int .i64 (c:Int),.int .i64 0,.bool dn,.int .i64 0] 44)) (.cells #[.int .i64 5,.int .i64 0,.int .i64 0,.string ⟨#[]⟩,.slice none 0 0,.slice (some ⟨bi.heap.size,0,none⟩) 1 1,.int .i64 0] 48);rw[Oa7]at this;exact this
     have gC:=Krx (And.intro mk (And.intro mn (And.intro cU.out.2.size cZ)));clear mk mn cZ;go_wp2_with fail
     go_meet
     case rel=>exact⟨bi.heap.size,rfl,gC.out⟩
    case rest=>
     obtain⟨kb,rfl,mk,mn,jD,cZ⟩:=hcut;have jk:=(cZ.block _ (Jd cU.out.1)).trans cU.out.1;have fD:=Jb cU.out.2 cZ;have bI:=fr.out;refine Qbz ?_ zM;exact Qcl ⟨dE.out.2,ca.out.1,dp.out.1,dp.out.2,gy.out,gA.out,fq.out,bI.2.2.1⟩ ⟨mn,jk⟩ mk (bI.2.1.below fD) bI.2.2.2.2.2.2 (Jb bI.1 fD) ⟨⟨fun cf=>by have:=bI.2.1.lt _ cf;omega,fun cf=>by have:=bI.2.1.lt _ cf;have:=gG.out;omega⟩,fun cf=>by have:=bI.2.1.lt _ cf;omega⟩ bI.2.2.2.1 bI.2.2.2.2.1 bI.2.2.2.2.2.1 gB.out gD.out.1 cB.out.2.2.2.2.2 a0 a1 a2 dh q dl pg pl ex df dE.out.1
