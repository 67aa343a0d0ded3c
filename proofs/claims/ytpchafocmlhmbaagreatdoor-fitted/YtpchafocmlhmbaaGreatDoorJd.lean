/- A Join: what a row's key is found by. -/
import Derived.Test.YtpchafocmlhmbaaGreatDoorGf
set_option maxHeartbeats 4000000
set_option maxRecDepth 100000
namespace Go.Proofs.YtpchafocmlhmbaaGreatDoor
open Go.RowKit Go.Shelf Tryz
def Kyr (h n:Int):Int:=IntKind.u64.wrap (IntKind.u64.wrap (IntKind.u64.wrap (h*31)+n)+11400714819323198485)
def Kyl (x s f:Int):Int:=IntKind.u64.wrap (bits .xor .u64 x (x / s)*f)
def Kxz (h n:Int):Int:=Kyl (Kyl (Kyr h n) 1073741824 13787848793156543929) 134217728 10723151780598845931
def Kuf (h n:Int):Int:=bits .xor .u64 (Kxz h n) (Kxz h n / 2147483648)
def Kr3 (n:Int):Prop:=0≤n∧n<18446744073709551616
theorem Kud (h n:Int):Kr3 (Kuf h n):=⟨bits_lo_u64 ..,by have:=bits_hi_u64 .xor (Kxz h n) (Kxz h n / 2147483648);unfold Kuf;omega⟩
theorem Kux (b o:Nat)(h n:Int)(w:World)(y:Kr3 h)(hn:Kr3 n)(H:w.cell? ⟨b,o,none⟩=some (.int .u64 h))(hf:w.frozen? ⟨b,o,none⟩=false) :
  Calls prog 266 #[.pointer (some ⟨b,o,none⟩),.int .u64 n] w fun e w'=>e=.returned (.tuple #[])∧w'=w.setCell ⟨b,o,none⟩ (.int .u64 (Kuf h n)):=by
 obtain⟨D,E⟩:=y;obtain⟨K,O⟩:=hn;go_enter func266,ntmps266
 go_wp2;go_end0
 exact⟨rfl,rfl⟩
def hxL (h:Int)(l:List UInt8):Int:=l.foldl (fun h c=>Kuf h ((c.toNat:Int)+1)) h
def hC (x:Int×Bool):List Value:=[.int .u64 x.1,.bool x.2]
def hxA (x:Int×Bool)(v:V):Int×Bool:=if v.k=0 then (x.1,true)else (hxL (Kuf x.1 (v.n % 18446744073709551616)) v.s.toList,x.2)
theorem Kwe (l:List UInt8):∀ {h:Int},Kr3 h→Kr3 (hxL h l):=by
 induction l with
 |nil=>exact fun h=>h
 |cons c l y=>exact fun _=>y (Kud _ _)
theorem Kx5 {x:Int×Bool}(v:V)(h:Kr3 x.1):Kr3 (hxA x v).1:=by
 unfold hxA;split
 ·exact h
 exact Kwe _ (Kud _ _)
theorem Kxe (b o:Nat)(D R:List Value)(h:Int)(nl:Bool)(v:V)(w:World)(bj:w.heap[b]?=some (.cells (D++hC (h,nl)++R).toArray 285 (0,0)))(bh:D.length=o)(cb:Kr3 h)(bO:Jg v.n)(hs:v.s.size≤maxLen) :
  Calls prog 231 #[.pointer (some ⟨b,o,none⟩),v.val] w fun e w'=>e=.returned (.tuple #[])∧Ju (·=b) w w'∧w'.heap[b]?=some (.cells (D++hC (hxA (h,nl) v)++R).toArray 285 (0,0)):=by
 have bZ:=Jd bj;have ba:Below w.heap.size w (w.alloc (.cells #[.int .i64 v.k,.int .i64 v.n,.string v.s] 39)):=Jc (Oa5 _ _) _;have O:=heap_alloc_new w (.cells #[.int .i64 v.k,.int .i64 v.n,.string v.s] 39);have K:=(ba.block _ bZ).trans bj;unfold Jg at bO;obtain⟨ci,cj⟩:=bO;go_enter func231,ntmps231
 go_upto_region 1 with fail
 obtain⟨E,bP⟩:∃ E,E=w.heap.size:=⟨_,rfl⟩;rw[←bP]at O ⊢;have bT:Hid (E≠b):=by show _≠_;omega
 clear bP;generalize w.alloc (.cells #[.int .i64 v.k,.int .i64 v.n,.string v.s] 39)=W at ba O K ⊢;have c0:W.cell? ⟨E,0,none⟩=some (.int .i64 v.k):=by simp[World.cell?,O]
 have c1:W.cell? ⟨E,1,none⟩=some (.int .i64 v.n):=by simp[World.cell?,O]
 have c2:W.cell? ⟨E,2,none⟩=some (.string v.s):=by simp[World.cell?,O]
 have bB:W.cell? ⟨b,o,none⟩=some (.int .u64 h):=Klb (i:=0) K bh rfl;have bX:W.cell? ⟨b,o+1,none⟩=some (.bool nl):=Klb (i:=1) K bh rfl;have bC:=Km8 K o;have bY:=Km8 K (o+1);have y:Hid (W.heap[b]?=some (.cells (D++hC (h,nl)++R).toArray 285 (0,0))∧Ju (·=b) w W∧D.length=o∧W.heap[E]?=some (.cells #[.int .i64 v.k,.int .i64 v.n,.string v.s] 39 (0,0))):=⟨K,.of_below ba,bh,O⟩;clear bj K ba O bh;by_cases bI:v.k=0
 ·have U:Hid (hxA (h,nl) v=(h,true)):=by show _=_;unfold hxA;rw[if_pos bI]
  go_wp2;exact bodyPost_ret (v:=.tuple #[]) (by simp[results,results231,go_sem]) rfl ⟨rfl,y.out.2.1.set rfl _ _,by rw[U.out];exact Kli (i:=1) (.bool true) y.out.1 y.out.2.2.1 (by simp[hC])⟩
 have U:Hid (hxA (h,nl) v=(hxL (Kuf h (v.n % 18446744073709551616)) v.s.toList,nl)):=by show _=_;unfold hxA;rw[if_neg bI]
 have bL:=Kux b o h (v.n % 18446744073709551616) W cb ⟨by omega,by omega⟩ bB bC;go_upto_region 4 with(go_at_call 266;refine bL.mono ?_;rintro bW H ⟨rfl,bD⟩;have Y:Hid _:=bD;clear bD)
 have bJ:Ju (·=b) w H:=by rw[Y.out];exact y.out.2.1.set rfl _ _
 have Z:H.heap[b]?=some (.cells (D++hC (Kuf h (v.n % 18446744073709551616),nl)++R).toArray 285 (0,0)):=by
  rw[Y.out];exact Kli (i:=0) (.int .u64 (Kuf h (v.n % 18446744073709551616))) y.out.1 y.out.2.2.1 (by simp[hC])
 have bQ:H.heap[E]?=some (.cells #[.int .i64 v.k,.int .i64 v.n,.string v.s] 39 (0,0)):=by
  rw[Y.out];exact(Oa4 _ _ _ _ bT.out).trans y.out.2.2.2
 have bV:H.cell? ⟨E,2,none⟩=some (.string v.s):=by simp[World.cell?,bQ]
 obtain⟨cap,bR,bx,bc,bn⟩:=Jt3 v.s.toList H;rw[Zf]at bx;have X:Hid (Ju (·=b) w bR∧bR.heap[b]?=some (.cells (D++hC (Kuf h (v.n % 18446744073709551616),nl)++R).toArray 285 (0,0))):=⟨bJ.trans (.of_below bn),(bn.block _ (Jd Z)).trans Z⟩;have bG:H.heap.size≠b:=by have:=Jd Z;omega
 clear Y bJ Z bQ c0 c1 c2 bB bX bC bY bL;obtain⟨l,hl⟩:∃ l,l=v.s.toList:=⟨_,rfl⟩;obtain⟨h0,bf⟩:∃ h0,h0=Kuf h (v.n % 18446744073709551616):=⟨_,rfl⟩;have bS:Hid (Kr3 h0):=by show Kr3 _;rw[bf];exact Kud _ _
 have cc:l.length≤maxLen:=by rw[hl,←Jb2,Zf];exact hs
 rw[←hl,←bf]at U;rw[←bf]at X;rw[←hl]at bx bc;unfold maxLen at cc;clear hl bf;go_upto_region 5 with fail
 obtain⟨bb,bH⟩:∃ bb,bb=H.heap.size:=⟨_,rfl⟩;rw[←bH]at bc bG ⊢;clear bH bx bV bn;go_loopw [21] (fun s wr=>∃ i:Nat,i≤l.length∧s=.int .i64 (i:Nat)∧Hid (Ju (·=b) w wr∧wr.heap[b]?=some (.cells (D++hC (hxL h0 (l.take i),nl)++R).toArray 285 (0,0))∧Uh wr (some ⟨bb,0,none⟩) (l.map bv))) (fun s _=>l.length-(intOf s).toNat)
 case atStart=>exact⟨0,Ob7 _,rfl,X.out.1,X.out.2,bc⟩
 case round=>
  obtain⟨i,hi,rfl,hI⟩:=hrel;clear X bc;by_cases bK:i<l.length
  ·obtain⟨_,_,ca,_,br⟩:=hI.out.2.2.at (i:=i) (by simpa using bK);cases ca
   rw[Od9,Od0]at br;have bz:Hid (hxL h0 (l.take (i+1))=Kuf (hxL h0 (l.take i)) ((l[i].toNat:Int)+1)):=by
    show _=_;unfold hxL;rw[Oi7,Oa3 bK,Ol1];rfl
   have bN:Kr3 (hxL h0 (l.take i)):=Kwe _ bS.out;have cf:=l[i].toNat_lt;generalize l[i]=c at br bz cf;unfold bv at br;have bM:=Kux b o (hxL h0 (l.take i)) ((c.toNat:Int)+1) wr bN ⟨by omega,by omega⟩ (Klb (i:=0) hI.out.2.1 y.out.2.2.1 rfl) (Km8 hI.out.2.1 o);have j1:(i:Int)<(l.length:Int):=(by omega);clear bN;go_upto_region 8 with(go_at_call 266;refine bM.mono ?_;rintro bW bi ⟨rfl,bE⟩;have bA:Hid _:=bE;clear bE)
   have bU:Hid (Ju (·=b) w bi∧bi.heap[b]?=some (.cells (D++hC (hxL h0 (l.take (i+1)),nl)++R).toArray 285 (0,0))∧Uh bi (some ⟨bb,0,none⟩) (l.map bv)):=by
    show _∧_∧_;rw[bz.out,bA.out];exact⟨hI.out.1.set rfl _ _,Kli (i:=0) (.int .u64 _) hI.out.2.1 y.out.2.2.1 (by simp[hC]),hI.out.2.2.of_block (by simp[World.setCell]) fun x _ ch _=>by
     cases ch
     exact Oa4 _ _ _ _ bG⟩
   clear bM bA;go_wp2;exact⟨⟨i+1,by omega,by go_num,bU.out⟩,by simp[intOf];omega⟩
  obtain rfl:i=l.length:=by omega
  go_wp2;go_end0
  refine⟨rfl,hI.out.1,?_⟩;rw[U.out];have:=hI.out.2.1;rw[Of2]at this;exact this
def HsF (w:World)(b n:Nat)(f:Nat→Int×Bool):Prop:=w.heap[b]?=some (.cells (((List.range n).map f).flatMap hC).toArray 285 (0,0))
theorem HsF.congr {w:World}{b n:Nat}{f g:Nat→Int×Bool}(h:HsF w b n f)(e:∀ r,r<n→f r=g r):HsF w b n g:=by
 unfold HsF at *;rw[h,Oj9 fun r hr=>e r (Oj4.1 hr)]
theorem HsF.block {w w':World}{b n:Nat}{f:Nat→Int×Bool}(h:HsF w b n f)(e:w'.heap[b]?=w.heap[b]?):HsF w' b n f:=e.trans h
def Ktg (f:Nat→Int×Bool)(i:Nat):List Value:=((List.range i).map f).flatMap hC
def Ktn (n:Nat)(f:Nat→Int×Bool)(i:Nat):List Value:=(((List.range n).map f).drop (i+1)).flatMap hC
theorem Ksu (f:Nat→Int×Bool):∀ i,(Ktg f i).length=i*2
 |0=>rfl
 |i+1=>by
  unfold Ktg;rw[Oj7,Ob8,Oe8,Oa8];have:=Ksu f i;unfold Ktg at this;rw[this];simp[hC];omega
theorem Ku7 {n:Nat}{f:Nat→Int×Bool}{i:Nat}(hi:i<n):((List.range n).map f).flatMap hC=Ktg f i++hC (f i)++Ktn n f i:=by
 unfold Ktg Ktn;have y:i<((List.range n).map f).length:=by simpa using hi
 have D:(List.range i).map f=((List.range n).map f).take i:=by
  rw[←List.map_take,List.take_range,Oj1 (by omega)]
 have E:((List.range n).map f)[i]=f i:=by simp
 conv=>lhs;rw[←Ok3 i ((List.range n).map f),Oi1 y,E]
 rw[D];simp[List.flatMap_append]
theorem HsF.at {w:World}{b n:Nat}{f:Nat→Int×Bool}(h:HsF w b n f){i:Nat}(hi:i<n):w.heap[b]?=some (.cells (Ktg f i++hC (f i)++Ktn n f i).toArray 285 (0,0)):=by
 rw[←Ku7 hi];exact h
theorem HsF.put {w:World}{b n:Nat}{f:Nat→Int×Bool}{i:Nat}(hi:i<n){x:Int×Bool}(h:w.heap[b]?=some (.cells (Ktg f i++hC x++Ktn n f i).toArray 285 (0,0))):HsF w b n (fun r=>if r=i then x else f r):=by
 unfold HsF;rw[h,Ku7 hi];have y:Ktg (fun r=>if r=i then x else f r) i=Ktg f i:=by
  unfold Ktg;rw[Oj9 fun r hr=>if_neg (Nat.ne_of_lt (Oj4.1 hr))]
 have D:Ktn n (fun r=>if r=i then x else f r) i=Ktn n f i:=by
  unfold Ktn;rw[←List.map_drop,←List.map_drop];congr 1
  refine Oj9 fun r hr=>if_neg fun e=>?_;obtain⟨k,H,E⟩:=Od5 hr;rw[List.getElem_drop,Oo7]at E;omega
 rw[y,D,if_pos rfl]
theorem Kvc:(prog.info? 285).map (fun i=>(i.zero,i.size,i.bytes))=some (some (.agg #[.int .u64 0,.bool false]),2,16):=by kernel_rfl
theorem Kxy (n:Nat):(List.range (n*2)).map (fun j=>(#[Value.int .u64 0,.bool false]:Array Value)[j % 2]!)=((List.range n).map fun _=>((0,false):Int×Bool)).flatMap hC:=by
 induction n with
 |zero=>rfl
 |succ n E=>
  rw[show (n+1)*2=n*2+1+1 by omega,Oj7,Oj7,Ob8,Ob8,E,Oj7,Ob8,Oe8,Od8];congr 1
  have y:n*2 % 2=0:=by omega
  have D:(n*2+1) % 2=1:=by omega
  simp[y,D,hC]
theorem Kyd (n:Nat)(hn:n≤100000)(W:World):∃ C,(Instr.makeSlice 337 (.int .i64 (n:Int)) (.int .i64 (n:Int))).run prog W=.ok (.slice (some ⟨W.heap.size,0,none⟩) n n) (W.alloc (.cells C 285))∧HsF (W.alloc (.cells C 285)) W.heap.size n (fun _=>(0,false)):=by
 obtain⟨i,hi,E,D,y⟩:=info_parts Kvc;have hr:=run_make (P:=prog) W 337 285 i _ (by kernel_rfl) hi E .i64 .i64 (n:Int) (n:Int) (by omega) (Int.le_refl _) (by rw[y];omega) (by omega);rw[Int.toNat_natCast,D]at hr;refine⟨_,hr,(Oh1 W _).1.trans ?_⟩;show some (Obj.cells (madeCells #[.int .u64 0,.bool false] (n*2)) 285 (0,0))=_;rw[←Kxy];refine congrArg (fun a=>some (Obj.cells a 285 (0,0))) (Array.toList_inj.1 ?_);simp[madeCells]
def hxR (cols:List (List V))(ns:List Nat)(sd:Int)(r:Nat):Int×Bool:=ns.foldl (fun x c=>hxA x ((cols.getD c []).getD r Jf)) (sd,false)
theorem Kxg {cols:List (List V)}{ns:List Nat}{sd:Int}{r k:Nat}(y:k<ns.length):hxR cols (ns.take (k+1)) sd r=hxA (hxR cols (ns.take k) sd r) ((cols.getD ns[k] []).getD r Jf):=by
 unfold hxR;rw[Oi7,Oa3 y,Ol1];rfl
theorem Kuv (cols:List (List V)){sd:Int}(h:Kr3 sd)(r:Nat):∀ ns:List Nat,Kr3 (hxR cols ns sd r).1:=fun ns=>by
 unfold hxR;have:∀ (l:List Nat) (x:Int×Bool),Kr3 x.1→Kr3 (l.foldl (fun x c=>hxA x ((cols.getD c []).getD r Jf)) x).1:=by
  intro l;induction l with
  |nil=>exact fun x y=>y
  |cons c l D=>exact fun x y=>D _ (Kx5 _ y)
 exact this ns _ h
theorem Kvg (ba cap n:Nat)(hs:List (Option Addr×Nat))(cols:List (List V))(bQ:Option Addr)(cC:Nat)(ns:List Nat)(sd:Int)(w:World)(hC:Qd w ba hs cols)(bO:1≤cols.length)(bL:∀ j,j<cols.length→(cols.getD j []).length=n)(hn:n≤100000)(hI:Kc w bQ (ns.map fun (x:Nat)=>(x:Int)))(bZ:∀ c∈ns,c<cols.length)(cI:ns.length≤1000)(cc:Kr3 sd)(R:∀ c∈ns,∀ v∈cols.getD c [],Jg v.n∧v.s.size≤maxLen) :
  Calls prog 191 #[.slice (some ⟨ba,0,none⟩) cols.length cap,.slice bQ ns.length cC,.int .u64 sd] w fun e w'=>Below w.heap.size w w'∧∃ b,e=.returned (.slice (some ⟨b,0,none⟩) n n)∧w.heap.size≤b∧HsF w' b n (hxR cols ns sd):=by
 have bC:=hC.row.cell bO;rw[bL 0 bO]at bC;have bX:=Jlg ba cols.length cap (Yo hs 0).1 n (Yo hs 0).2 w bO bC;clear bC;obtain⟨C,cA,bn⟩:=Kyd n hn w;have E:Hid (Qd w ba hs cols∧(∀ j,j<cols.length→(cols.getD j []).length=n)∧(∀ c∈ns,c<cols.length)∧Kc w bQ (ns.map fun (x:Nat)=>(x:Int))∧Kr3 sd∧∀ c∈ns,∀ v∈cols.getD c [],Jg v.n∧v.s.size≤maxLen):=⟨hC,bL,bZ,hI,cc,R⟩;clear hC bL hI bZ cc R;go_enter func191,ntmps191
 go_upto_region 2 with(go_at_call 53;refine bX.mono ?_;rintro e cD ⟨rfl,cx⟩;rw[cx])
 have bG:Below w.heap.size w (w.alloc (.cells C 285)):=Jc (Oa5 _ _) _;clear bX cA;generalize w.alloc (.cells C 285)=cE at bn bG ⊢;obtain⟨B,bD⟩:∃ B,B=w.heap.size:=⟨_,rfl⟩;rw[←bD]at bn ⊢;have bz:Hid (B=w.heap.size):=bD;clear bD;go_upto_region 3 with fail
 go_loopw [18] (fun s wr=>∃ i:Nat,i≤n∧s=.int .i64 (i:Nat)∧HsF wr B n (fun r=>if r<i then (sd,false)else (0,false))∧Below w.heap.size w wr) (fun s _=>n-(intOf s).toNat)
 case atStart=>exact⟨0,Ob7 _,rfl,bn.congr fun r _=>(if_neg (Oe0 r)).symm,bG⟩
 case round=>
  obtain⟨i,hi,rfl,bM,bH⟩:=hrel;clear bn bG;by_cases bY:i<n
  ·have y:=bM.at bY;have c0:wr.cell? ⟨B,i*2,none⟩=some (.int .u64 0):=by
    have:=Klb (i:=0) (v:=.int .u64 0) y (Ksu _ i) (by rw[if_neg (Oe3 i)];rfl);exact this
   have cT:=Km8 y (i*2);have bA:Hid (HsF (wr.setCell ⟨B,i*2,none⟩ (.int .u64 sd)) B n (fun r=>if r<i+1 then (sd,false)else (0,false))):=by
    have:=Kli (i:=0) (.int .u64 sd) y (Ksu _ i) (by simp[hC]);rw[if_neg (Oe3 i)]at this;refine(HsF.put (x:=(sd,false)) bY this).congr fun r hr=>?_;by_cases e:r=i
    ·rw[if_pos e,if_pos (by omega)]
    rw[if_neg e];by_cases H:r<i
    ·rw[if_pos H,if_pos (by omega)]
    rw[if_neg H,if_neg (by omega)]
   have cz:Below w.heap.size w (wr.setCell ⟨B,i*2,none⟩ (.int .u64 sd)):=bH.setCell (p:=⟨B,i*2,none⟩) (by show w.heap.size≤B;have:=bz.out;omega) _;have j1:(i:Int)<(n:Int):=(by omega);clear y;go_wp2;exact⟨⟨i+1,by omega,by go_num,bA.out,cz⟩,by simp[intOf];omega⟩
  obtain rfl:i=n:=by omega
  have cb:HsF wr B i (hxR cols (ns.take 0) sd):=bM.congr fun r hr=>by rw[if_pos hr];rfl
  clear bM;go_upto_region 8 with fail
  go_loopw [29] (fun s wr=>∃ k:Nat,k≤ns.length∧s=.int .i64 (k:Nat)∧HsF wr B i (hxR cols (ns.take k) sd)∧Below w.heap.size w wr) (fun s _=>ns.length-(intOf s).toNat)
  case atStart=>exact⟨0,Ob7 _,rfl,cb,bH⟩
  case round=>
   obtain⟨k,cH,rfl,bj,X⟩:=hrel;clear cb bH;by_cases bi:k<ns.length
   ·obtain⟨cM,cN,cB,_,bK⟩:=Kc.at (E.out.2.2.2.1.below X) (i:=k) (by simpa using bi);rw[Od9]at bK;have bR:Hid (∀ r,hxR cols (ns.take (k+1)) sd r=hxA (hxR cols (ns.take k) sd r) ((cols.getD ns[k] []).getD r Jf)):=fun r=>Kxg bi;have Y:=E.out.2.2.1 ns[k] (Ob3 bi);have bS:Hid (∀ v∈cols.getD ns[k] [],Jg v.n∧v.s.size≤maxLen):=E.out.2.2.2.2.2 ns[k] (Ob3 bi);generalize ns[k]=c at bK bR Y bS;have bh:=(E.out.1.below X).row.cell Y;rw[E.out.2.1 c Y]at bh;have bB:Hid (Jv w (Yo hs c).1 (cols.getD c [])∧(cols.getD c []).length=i):=⟨E.out.1.vals c Y,E.out.2.1 c Y⟩;generalize (Yo hs c).1=cQ at bh bB;generalize (Yo hs c).2=cS at bh;have ca:HsF wr B i (fun r=>hxR cols (ns.take (if r<0 then k+1 else k)) sd r):=bj.congr fun r _=>by rw[if_neg (Oe0 r)]
    have j1:(k:Int)<(ns.length:Int):=(by omega);have j2:(c:Int)<(cols.length:Int):=(by omega);clear bj;subst cB;go_upto_region 11 with fail
    go_loopw [38] (fun s cf=>∃ x:Nat,x≤i∧s=.int .i64 (x:Nat)∧HsF cf B i (fun r=>hxR cols (ns.take (if r<x then k+1 else k)) sd r)∧Below w.heap.size w cf) (fun s _=>i-(intOf s).toNat)
    case atStart=>exact⟨0,Ob7 _,rfl,ca,X⟩
    case round=>
     obtain⟨x,cK,rfl,bN,bJ⟩:=hrel;clear ca X bh bK;by_cases bP:x<i
     ·have bx:x<(cols.getD c []).length:=by rw[bB.out.2];exact bP
      obtain⟨b2,cP,rfl,cG,ch,ci,cj⟩:=(bB.out.1.below bJ).at bx;have br:=bS.out _ (Ob3 bx);rw[Kn2 bx]at ch ci cj br;clear bx;obtain⟨v,R⟩:∃ v,v=(cols.getD c []).getD x Jf:=⟨_,rfl⟩;rw[←R]at ch ci cj br;have cn:Hid (hxR cols (ns.take (k+1)) sd x=hxA (hxR cols (ns.take k) sd x) v):=by show _=_;rw[bR.out,R]
      clear R;have bf:Below wr.heap.size wr (wr.alloc (.cells #[.int .i64 v.k,.int .i64 v.n,.string v.s] 39)):=Jc (Oa5 _ _) _;have U:=heap_alloc_new wr (.cells #[.int .i64 v.k,.int .i64 v.n,.string v.s] 39);have cv:=Jd bN;have y:=(bN.block (bf.block B cv)).at bP;rw[if_neg (Oe3 x)]at y;have bE:=Kxe B (x*2) _ _ (hxR cols (ns.take k) sd x).1 (hxR cols (ns.take k) sd x).2 v ((wr.alloc (.cells #[.int .i64 v.k,.int .i64 v.n,.string v.s] 39)).drew) y (Ksu _ x) (Kuv cols E.out.2.2.2.2.1 x _) br.1 br.2;have cO:(x:Int)<(i:Int):=(by omega);go_upto_region 13 with fail
      have bI:=Jb bJ bf;have bc:wr.heap.size≠B:=(by omega);generalize wr.alloc (.cells #[.int .i64 v.k,.int .i64 v.n,.string v.s] 39)=Z at bf U y bE bI ⊢;generalize wr.heap.size=bv at U bc ⊢;have bT:Z.cell? ⟨bv,0,none⟩=some (.int .i64 v.k):=by simp[World.cell?,U]
      have bU:Z.cell? ⟨bv,1,none⟩=some (.int .i64 v.n):=by simp[World.cell?,U]
      have H:Z.cell? ⟨bv,2,none⟩=some (.string v.s):=by simp[World.cell?,U]
      refine wp_region_held_drew (S:=fun O=>O.cell? ⟨bv,0,none⟩=some (.int .i64 v.k)∧O.cell? ⟨bv,1,none⟩=some (.int .i64 v.n)∧O.cell? ⟨bv,2,none⟩=some (.string v.s)) (by kernel_rfl) ⟨bT,bU,H⟩ (fun K=>?_);refine tkj 0 rfl K ?_;refine tkj 1 rfl K ?_;refine tkj 2 rfl K ?_;refine tkj 3 rfl K ?_;refine tkn ?_;refine tkr 4 rfl fun cu bV=>?_;go_simp;refine bE.mono ?_;rintro cF O ⟨rfl,D,bW⟩;go_simp;refine bV.out _ _ ⟨D.cell K.1 bc,D.cell K.2.1 bc,D.cell K.2.2 bc⟩ (fun _=>?_);clear bV cu K;refine wpAnyH_done (by kernel_rfl) ?_ _;have bA:Hid (HsF O B i (fun r=>hxR cols (ns.take (if r<x+1 then k+1 else k)) sd r)):=(HsF.put bP bW).congr fun r _=>by
       by_cases e:r=x
       ·rw[if_pos e,if_pos (by omega),e,cn.out]
       rw[if_neg e];by_cases H:r<x
       ·rw[if_pos H,if_pos (by omega)]
       rw[if_neg H,if_neg (by omega)]
      have cy:Below w.heap.size w O:=bI.trans ((show Ju (·=B) Z O from ⟨D.os,D.tape,D.output,D.size,D.block⟩).below (fun q cJ e=>by have:=bz.out;have e:q=B:=e;omega) bI.size);clear D bW bE y U bf bT bU H;go_wp2;exact⟨⟨x+1,by omega,by go_num,bA.out,cy⟩,by simp[intOf];omega⟩
     obtain rfl:x=i:=by omega
     go_wp2;exact⟨⟨k+1,by omega,by go_num,bN.congr fun r hr=>by rw[if_pos hr],bJ⟩,by simp[intOf];omega⟩
   obtain rfl:k=ns.length:=by omega
   rw[Of2]at bj;go_wp2;go_ret
   exact⟨X,B,rfl,by have:=bz.out;omega,bj⟩
def plA (s h:Nat):Nat:=h / 4294967296 % s
def plB (s h:Nat):Nat:=h % 4294967296 % s
theorem Kt0 (fb s h:Nat)(w:World)(hs:0<s)(bA:s≤100000)(bx:h<18446744073709551616)(O:w.cell? ⟨fb,0,none⟩=some (.int .u64 (s:Nat))) :
  Calls prog 229 #[.pointer (some ⟨fb,0,none⟩),.int .u64 (h:Nat)] w fun e w'=>e=.returned (.agg #[.int .u64 (plA s h:Nat),.int .u64 (plB s h:Nat)])∧Below w.heap.size w w':=by
 have K:Below w.heap.size w (w.alloc (.cells #[.int .u64 0,.int .u64 0] 382)):=Jc (Oa5 _ _) _;have D:=heap_alloc_new w (.cells #[.int .u64 0,.int .u64 0] 382);have R:=Ja K O;have bz:¬ s=0:=by omega
 have bj:((h:Int) / 4294967296).tmod (s:Int)=(plA s h:Nat):=by
  rw[Om2 (by omega)];unfold plA;rw[Int.natCast_emod,Int.natCast_ediv];rfl
 have bn:(IntKind.u64.wrap (IntKind.u32.wrap (h:Int))).tmod (s:Int)=(plB s h:Nat):=by
  have e:IntKind.u64.wrap (IntKind.u32.wrap (h:Int))=((h % 4294967296:Nat):Int):=by
   simp[IntKind.wrap_u64,IntKind.wrap_u32];omega
  rw[e,Om2 (by omega)];exact(Int.natCast_emod _ _).symm
 go_enter func229,ntmps229
 go_upto_region 1 with fail
 obtain⟨B,X⟩:∃ B,B=w.heap.size:=⟨_,rfl⟩;rw[←X]at D ⊢;have E:Hid (w.heap.size≤B∧fb≠B):=⟨by omega,by have:=Jm O;have br:fb<w.heap.size:=this;omega⟩;clear X O;generalize w.alloc (.cells #[.int .u64 0,.int .u64 0] 382)=W at K D R ⊢;have bB:W.cell? ⟨B,0,none⟩=some (.int .u64 0):=by simp[World.cell?,D]
 have bC:W.cell? ⟨B,1,none⟩=some (.int .u64 0):=by simp[World.cell?,D]
 have bD:W.frozen? ⟨B,0,none⟩=false:=by simp[World.frozen?,D]
 have z1:W.frozen? ⟨B,1,none⟩=false:=by simp[World.frozen?,D]
 have H:=Jk (Jk D 0 (.int .u64 (plA s h:Nat))) 1 (.int .u64 (plB s h:Nat));simp only[Oa1,List.set_cons_zero,List.set_cons_succ]at H;refine wp_region_held_drew (S:=fun bf=>bf.cell? ⟨fb,0,none⟩=some (.int .u64 (s:Nat))) (by kernel_rfl) R (fun y=>?_);refine tkj 0 rfl y ?_;refine tkj 1 rfl y ?_;refine tkj 2 rfl y ?_;refine tkj 3 rfl y ?_;refine tkj 4 rfl y ?_;refine tkj 5 rfl y ?_;refine tkj 6 rfl y ?_;refine tkn ?_;refine tkj 7 rfl y ?_;refine tkj 8 rfl y ?_;refine tkj 9 rfl y ?_;refine tkj 10 rfl y ?_;refine tkj 11 rfl y ?_;refine tkj 12 rfl y ?_;refine tkj 13 rfl y ?_;refine tkn ?_;refine tkj 14 rfl y ?_;refine tkj 15 rfl y ?_;refine tkn ?_;refine tkr 16 rfl fun bc Y=>?_;go_simp;have ba:((W.setCell ⟨B,0,none⟩ (.int .u64 (plA s h:Nat))).setCell ⟨B,1,none⟩ (.int .u64 (plB s h:Nat))).heap[fb]?=W.heap[fb]?:=(Oa4 _ _ _ _ E.out.2).trans (Oa4 _ _ _ _ E.out.2);refine Y.out _ _ (Jh ((Oc3 ba).trans R)) (fun _=>?_);clear Y bc y ba;refine wpAnyH_done (by kernel_rfl) ?_ _;go_wp2;have Z:Below w.heap.size w ((W.setCell ⟨B,0,none⟩ (.int .u64 (plA s h:Nat))).setCell ⟨B,1,none⟩ (.int .u64 (plB s h:Nat))).drew:=Jj ((K.setCell (p:=⟨B,0,none⟩) E.out.1 _).setCell (p:=⟨B,1,none⟩) E.out.1 _);generalize (W.setCell ⟨B,0,none⟩ (.int .u64 (plA s h:Nat))).setCell ⟨B,1,none⟩ (.int .u64 (plB s h:Nat))=U at H Z ⊢;have bh:U.drew.cell? ⟨B,0,none⟩=some (.int .u64 (plA s h:Nat)):=Jh (by simp[World.cell?,H]);have bi:U.drew.cell? ⟨B,1,none⟩=some (.int .u64 (plB s h:Nat)):=Jh (by simp[World.cell?,H]);exact bodyPost_ret (v:=.agg #[.int .u64 (plA s h:Nat),.int .u64 (plB s h:Nat)]) (by simp[results,results229,go_sem,bh,bi]) rfl ⟨rfl,Z⟩
def Ktc (bs:List Nat)(p:Nat):Bool:=(bs.getD (p / 64) 0).testBit (p % 64)
def Ksc (bs:List Nat)(p:Nat):List Nat:=bs.set (p / 64) (bs.getD (p / 64) 0 ||| 2 ^ (p % 64))
theorem Kso (bs:List Nat)(p:Nat):(Ksc bs p).length=bs.length:=by simp[Ksc]
theorem Ktz (bs:List Nat)(p k:Nat)(hp:p / 64<bs.length):(Ksc bs p).getD k 0=if k=p / 64 then bs.getD k 0 ||| 2 ^ (p % 64)else bs.getD k 0:=by
 unfold Ksc;rw[Oa0,Op2];by_cases e:p / 64=k
 ·rw[if_pos e,if_pos (by omega),if_pos e.symm,e];rfl
 rw[if_neg e,if_neg (Oc5 e),Oa0]
theorem Kt6 {bs:List Nat}{p:Nat}(hp:p / 64<bs.length):Ktc (Ksc bs p) p=true:=by
 unfold Ktc;rw[Ktz bs p _ hp,if_pos rfl,Nat.testBit_or,Nat.testBit_two_pow_self,Bool.or_true]
theorem Ksw {bs:List Nat}{p q:Nat}(hp:p / 64<bs.length)(h:Ktc bs q=true):Ktc (Ksc bs p) q=true:=by
 unfold Ktc at *;rw[Ktz bs p _ hp];split
 ·rw[Nat.testBit_or,h,Bool.true_or]
 exact h
theorem Kwk {bs:List Nat}(h:∀ x∈bs,x<18446744073709551616)(p:Nat):∀ x∈Ksc bs p,x<18446744073709551616:=fun x y=>by
 unfold Ksc at y;rcases List.mem_or_eq_of_mem_set y with y|rfl
 ·exact h x y
 have D:bs.getD (p / 64) 0<2 ^ 64:=by
  rw[Oa0];cases e:bs[p / 64]? with
  |none=>exact Nat.two_pow_pos 64
  |some H=>exact h H (Of6 e)
 have E:2 ^ (p % 64)<2 ^ 64:=Nat.pow_lt_pow_right (by omega) (Ol0 _ (by omega));exact Nat.or_lt_two_pow D E
def Ksv (s:Nat)(bs:List Nat)(h:Nat):Bool:=decide (s=0)||(Ktc bs (plA s h)&&Ktc bs (plB s h))
def Ks8 (s:Nat)(bs:List Nat)(h:Nat):List Nat:=if s=0 then bs else Ksc (Ksc bs (plA s h)) (plB s h)
theorem Kv8 {s:Nat}(hs:0<s)(h:Nat){n:Nat}(hn:n=(s+63) / 64):plA s h / 64<n∧plB s h / 64<n:=by
 have y:plA s h<s:=Ol0 _ hs;have D:plB s h<s:=Ol0 _ hs;omega
theorem Kvo {s:Nat}{bs:List Nat}(hl:bs.length=(s+63) / 64)(h:Nat):Ksv s (Ks8 s bs h) h=true:=by
 unfold Ksv Ks8;by_cases e:s=0
 ·simp[e]
 obtain⟨D,y⟩:=Kv8 (s:=s) (by omega) h hl;rw[if_neg e,Kt6 (by rw[Kso];exact y),Ksw (by rw[Kso];exact y) (Kt6 D)];simp
theorem Kvs {s:Nat}{bs:List Nat}(hl:bs.length=(s+63) / 64)(h:Nat){k:Nat}(y:Ksv s bs k=true):Ksv s (Ks8 s bs h) k=true:=by
 unfold Ksv Ks8 at *;by_cases e:s=0
 ·simp[e]
 obtain⟨D,E⟩:=Kv8 (s:=s) (by omega) h hl;simp only[e,decide_false,Bool.false_or,Og5]at y;rw[if_neg e,Ksw (by rw[Kso];exact E) (Ksw D y.1),Ksw (by rw[Kso];exact E) (Ksw D y.2)];simp
structure Ksj (w:World) (fb bb s:Nat) (bs:List Nat):Prop where
 cells:w.heap[fb]?=some (.cells #[.int .u64 (s:Nat),.slice (some ⟨bb,0,none⟩) bs.length bs.length] 334 (0,0))
 bits:w.heap[bb]?=some (.cells (bs.map fun (x:Nat)=>Value.int .u64 (x:Nat)).toArray 244 (0,0))
 len:bs.length=(s+63) / 64
 lt:∀ x∈bs,x<18446744073709551616
 few:s≤100000
theorem Ksj.apart {w:World}{fb bb s:Nat}{bs:List Nat}(h:Ksj w fb bb s bs):fb≠bb:=fun e=>by
 have y:=h.cells;rw[e,h.bits]at y;simp only[Oc9,Obj.cells.injEq]at y;exact absurd y.2.1 (by decide)
theorem Ksj.keep {w w':World}{fb bb s:Nat}{bs:List Nat}(h:Ksj w fb bb s bs)(y:w'.heap[fb]?=w.heap[fb]?)(D:w'.heap[bb]?=w.heap[bb]?):Ksj w' fb bb s bs:=⟨y.trans h.cells,D.trans h.bits,h.len,h.lt,h.few⟩
theorem Ksj.cell {w:World}{fb bb s:Nat}{bs:List Nat}(h:Ksj w fb bb s bs){k:Nat}(y:k<bs.length):w.cell? ⟨bb,k,none⟩=some (.int .u64 ((bs.getD k 0:Nat):Int)):=by
 simp[World.cell?,h.bits,y]
theorem Ksj.set {w:World}{fb bb s:Nat}{bs:List Nat}(h:Ksj w fb bb s bs)(p:Nat):Ksj (w.setCell ⟨bb,p / 64,none⟩ (.int .u64 ((bs.getD (p / 64) 0 ||| 2 ^ (p % 64):Nat):Int))) fb bb s (Ksc bs p):=by
 refine⟨(Oa4 _ _ _ _ h.apart).trans (by rw[Kso];exact h.cells),?_,by rw[Kso];exact h.len,Kwk h.lt p,h.few⟩;rw[Jk h.bits];simp only[Oa1];unfold Ksc;rw[Op0]
theorem Kyh {x k:Nat}(D:x<18446744073709551616)(y:k<64):bits .or .u64 (x:Nat) ((2 ^ k:Nat):Int)=((x ||| 2 ^ k:Nat):Int):=bits_or_u64_nat x (2 ^ k) D (Nat.pow_lt_pow_right (m:=k) (n:=64) (a:=2) (by omega) y)
theorem Kw9 {k:Nat}(y:k<64):IntKind.u64.wrap ((2:Int) ^ k)=((2 ^ k:Nat):Int):=by
 have h:2 ^ k<2 ^ 64:=Nat.pow_lt_pow_right (by omega) y;have e:(2:Int) ^ k=((2 ^ k:Nat):Int):=by rw[Int.natCast_pow];rfl
 rw[e,Oh5];generalize 2 ^ k=D at h ⊢;omega
theorem Kw3 (a b i:Nat)(hi:i<2)(w:World):(Instr.index 382 (.agg #[.int .u64 (a:Nat),.int .u64 (b:Nat)]) (.int .i64 (i:Nat))).run prog w=.ok (.int .u64 ((if i=0 then a else b:Nat):Int)) w:=by
 rcases(show i=0∨i=1 by omega)with rfl|rfl<;>kernel_rfl
def flI (bs:List Nat)(y pb i:Nat):List Nat:=if i=0 then bs else if i=1 then Ksc bs y else Ksc (Ksc bs y) pb
theorem Kxs (fb bb s h:Nat)(bs:List Nat)(w:World)(hF:Ksj w fb bb s bs)(bA:h<18446744073709551616) :
  Calls prog 185 #[.pointer (some ⟨fb,0,none⟩),.int .u64 (h:Nat)] w fun e w'=>e=.returned (.tuple #[])∧Ju (·=bb) w w'∧Ksj w' fb bb s (Ks8 s bs h):=by
 have c0:w.cell? ⟨fb,0,none⟩=some (.int .u64 (s:Nat)):=by simp[World.cell?,hF.cells]
 by_cases hs:s=0
 ·have K:Hid (Ks8 s bs h=bs):=by show _=_;unfold Ks8;rw[if_pos hs]
  go_enter func185,ntmps185
  go_wp2;exact bodyPost_ret (v:=.tuple #[]) (by simp[results,results185,go_sem]) rfl ⟨rfl,Ju.refl _ _,by rw[K.out];exact hF⟩
 have E:=Kt0 fb s h w (by omega) hF.few bA c0;obtain⟨bE,bG⟩:=Kv8 (s:=s) (by omega) h hF.len;have K:Hid (Ks8 s bs h=Ksc (Ksc bs (plA s h)) (plB s h)):=by show _=_;unfold Ks8;rw[if_neg hs]
 have H:Hid (Ksj w fb bb s bs):=hF;generalize plA s h=y at E bE K;generalize plB s h=pb at E bG K;have bL:¬ ((s:Int)=0):=by omega
 clear hF;go_enter func185,ntmps185
 go_upto_region 2 with(go_at_call 229;refine E.mono ?_;rintro bJ bI ⟨rfl,O⟩)
 go_loopw [14] (fun v wr=>∃ i:Nat,i≤2∧v=.int .i64 (i:Nat)∧Hid (Ksj wr fb bb s (flI bs y pb i)∧Ju (·=bb) w wr)) (fun v _=>2-(intOf v).toNat)
 case atStart=>exact⟨0,by omega,rfl,H.out.keep (O.block _ (Jd H.out.cells)) (O.block _ (Jd H.out.bits)),.of_below O⟩
 case round=>
  obtain⟨i,hi,rfl,hI⟩:=hrel;by_cases bC:i<2
  ·have D:=hI.out.1;have R:(flI bs y pb i).length=bs.length:=by rw[D.len,H.out.len]
   have bx:wr.cell? ⟨fb,1,none⟩=some (.slice (some ⟨bb,0,none⟩) bs.length bs.length):=by simp[World.cell?,D.cells,R]
   have bB:=Kw3 y pb i bC;have bc:Hid (Ksc (flI bs y pb i) (if i=0 then y else pb)=flI bs y pb (i+1)):=by
    show _=_;rcases(show i=0∨i=1 by omega)with rfl|rfl<;>rfl
   have E:(if i=0 then y else pb) / 64<bs.length:=by split<;>assumption
   generalize (if i=0 then y else pb)=p at bB bc E;have bf:=D.cell (k:=p / 64) (by rw[R];exact E);have bz:=Km8 D.bits (p / 64);have X:=D.set p;have bD:=D.lt;have bi:(flI bs y pb i).getD (p / 64) 0<18446744073709551616:=by
    have bh:p / 64<(flI bs y pb i).length:=by rw[R];exact E
    rw[Oa0,Oa3 bh];exact D.lt _ (Ob3 bh)
   have U:=Kyh bi (show p % 64<64 from Ol0 _ (by omega));generalize (flI bs y pb i).getD (p / 64) 0=x at bf X bi U;have Z:Hid _:=X;have br:Hid _:=U;clear X U bD D;have j1:(i:Int)<2:=(by omega);have bn:=H.out.len;have bj:=H.out.few;have bK:IntKind.u64.wrap ((p:Int) / 64)=((p / 64:Nat):Int):=by
    rw[Oh5];omega
   have j2:((p / 64:Nat):Int)<(bs.length:Int):=(by omega);have bM:(0:Int)≤((p / 64:Nat):Int):=(by omega);clear bn bj;go_upto_region 5 with fail
   rw[show bits .or .u64 (x:Int) (IntKind.u64.wrap (2 ^ (p % 64)))=((x ||| 2 ^ (p % 64):Nat):Int) by rw[Kw9 (Ol0 _ (by omega))];exact br.out];have Y:Hid (Ju (·=bb) w (wr.setCell ⟨bb,p / 64,none⟩ (.int .u64 ((x ||| 2 ^ (p % 64):Nat):Int)))):=hI.out.2.set rfl _ _;have ba:Hid (Ksj (wr.setCell ⟨bb,p / 64,none⟩ (.int .u64 ((x ||| 2 ^ (p % 64):Nat):Int))) fb bb s (flI bs y pb (i+1))):=by
    show Ksj _ _ _ _ _;rw[←bc.out];exact Z.out
   generalize wr.setCell ⟨bb,p / 64,none⟩ (.int .u64 ((x ||| 2 ^ (p % 64):Nat):Int))=bH at Y ba ⊢;clear Z bx bf bz;go_wp2;exact⟨⟨i+1,by omega,by go_num,ba.out,Y.out⟩,by simp[intOf];omega⟩
  obtain rfl:i=2:=by omega
  go_wp2;go_end0
  exact⟨rfl,hI.out.2,by rw[K.out];exact hI.out.1⟩
theorem Kyb {x k:Nat}(y:x<18446744073709551616):bits .and .u64 ((x:Int) / 2 ^ k) 1=((if x.testBit k then 1 else 0:Nat):Int):=by
 have e:(x:Int) / 2 ^ k=((x / 2 ^ k:Nat):Int):=by rw[Int.natCast_ediv,Int.natCast_pow];rfl
 have hl:x / 2 ^ k<18446744073709551616:=Nat.lt_of_le_of_lt (Oo6 _ _) y;rw[e,show (1:Int)=((1:Nat):Int) from rfl,bits_and_u64_nat _ 1 hl (by omega),Nat.and_one_is_mod,On1];have:x / 2 ^ k % 2=0∨x / 2 ^ k % 2=1:=by omega
 rcases this with h|h<;>simp[h]
theorem Kw7 (fb bb s h:Nat)(bs:List Nat)(w:World)(hF:Ksj w fb bb s bs)(bi:h<18446744073709551616) :
  Calls prog 193 #[.pointer (some ⟨fb,0,none⟩),.int .u64 (h:Nat)] w fun e w'=>e=.returned (.bool (Ksv s bs h))∧Below w.heap.size w w':=by
 have c0:w.cell? ⟨fb,0,none⟩=some (.int .u64 (s:Nat)):=by simp[World.cell?,hF.cells]
 by_cases hs:s=0
 ·have D:Hid (Ksv s bs h=true):=by show _=_;simp[Ksv,hs]
  go_enter func193,ntmps193
  go_wp2;go_ret
  exact⟨Qr (a:=true) D.out.symm,Oa5 _ _⟩
 have y:=Kt0 fb s h w (by omega) hF.few bi c0;obtain⟨br,bx⟩:=Kv8 (s:=s) (by omega) h hF.len;have D:Hid (Ksv s bs h=(Ktc bs (plA s h)&&Ktc bs (plB s h))):=by show _=_;simp[Ksv,hs]
 have H:Hid (Ksj w fb bb s bs):=hF;generalize plA s h=O at y br D;generalize plB s h=pb at y bx D;have bD:¬ ((s:Int)=0):=by omega
 clear hF;go_enter func193,ntmps193
 go_upto_region 4 with(go_at_call 229;refine y.mono ?_;rintro bB bz ⟨rfl,bh⟩)
 go_loopw [15] (fun v wr=>∃ i:Nat,i≤2∧v=.int .i64 (i:Nat)∧Hid (Below w.heap.size w wr∧∀ j,j<i→Ktc bs (if j=0 then O else pb)=true)) (fun v _=>2-(intOf v).toNat)
 case atStart=>exact⟨0,by omega,rfl,bh,fun j K=>absurd K (Oe0 _)⟩
 case round=>
  obtain⟨i,hi,rfl,hI⟩:=hrel;by_cases bn:i<2
  ·have R:Ksj wr fb bb s bs:=H.out.keep (hI.out.1.block _ (Jd H.out.cells)) (hI.out.1.block _ (Jd H.out.bits));have bA:wr.cell? ⟨fb,1,none⟩=some (.slice (some ⟨bb,0,none⟩) bs.length bs.length):=by simp[World.cell?,R.cells]
   have bj:=Kw3 O pb i bn;have y:(if i=0 then O else pb) / 64<bs.length:=by split<;>assumption
   obtain⟨p,hp⟩:∃ p,p=(if i=0 then O else pb):=⟨_,rfl⟩;rw[←hp]at bj y;have X:Hid (p=(if i=0 then O else pb)):=hp;clear hp;have bf:=R.cell y;have Z:bs.getD (p / 64) 0<18446744073709551616:=by
    rw[Oa0,Oa3 y];exact R.lt _ (Ob3 y)
   have U:=Kyb (k:=p % 64) Z;have E:Hid (Ktc bs p=(bs.getD (p / 64) 0).testBit (p % 64)):=rfl;generalize bs.getD (p / 64) 0=x at bf Z U E;have j1:(i:Int)<2:=(by omega);have bc:=H.out.len;have ba:=H.out.few;have bC:IntKind.u64.wrap ((p:Int) / 64)=((p / 64:Nat):Int):=by
    rw[Oh5];omega
   have j2:((p / 64:Nat):Int)<(bs.length:Int):=(by omega);have bE:(0:Int)≤((p / 64:Nat):Int):=(by omega);clear bc ba R;cases hb:x.testBit (p % 64)
   ·rw[hb]at U E;go_wp2;go_ret
    refine⟨Qr (a:=false) ?_,hI.out.1⟩;have:=E.out;rw[X.out]at this;rw[D.out];split at this
    ·rw[this,Bool.false_and]
    rw[this,Bool.and_false]
   rw[hb]at U E;go_wp2;exact⟨⟨i+1,by omega,by go_num,hI.out.1,fun j K=>by
    rcases Nat.lt_succ_iff_lt_or_eq.1 K with K|rfl
    ·exact hI.out.2 j K
    rw[←X.out];exact E.out⟩,by simp[intOf];omega⟩
  obtain rfl:i=2:=by omega
  go_wp2;go_ret
  have h0:=hI.out.2 0 (by omega);have Y:=hI.out.2 1 (by omega);rw[if_pos rfl]at h0;rw[if_neg (by omega)]at Y;exact⟨Qr (a:=true) (by rw[D.out,h0,Y];rfl),hI.out.1⟩
theorem Kxm (n:Nat):madeCells #[.int .u64 0] n=((List.replicate n 0).map fun (x:Nat)=>Value.int .u64 (x:Nat)).toArray:=by
 apply Array.ext
 ·simp[madeCells]
 intro i y D;simp[madeCells,Nat.mod_one]
theorem Kue (s:Nat)(w:World)(hs:s≤100000) :
  Calls prog 140 #[.int .i64 (s:Nat)] w fun e w'=>Below w.heap.size w w'∧∃ fb bb,e=.returned (.pointer (some ⟨fb,0,none⟩))∧w.heap.size≤fb∧w.heap.size≤bb∧Ksj w' fb bb s (List.replicate ((s+63) / 64) 0):=by
 have O:∀ W,(Instr.makeSlice 243 (.int .i64 (((s:Int)+63) / 64)) (.int .i64 (((s:Int)+63) / 64))).run prog W=.ok (.slice (some ⟨W.heap.size,0,none⟩) ((s+63) / 64) ((s+63) / 64)) (W.alloc (.cells (madeCells #[.int .u64 0] ((s+63) / 64)) 244)):=fun W=>by
  rw[show ((s:Int)+63) / 64=(((s+63) / 64:Nat):Int) by omega];exact run_make_row' 243 244 (.int .u64 0) 8 (by kernel_rfl) (by kernel_rfl) rfl .i64 .i64 ((s+63) / 64) (by omega) (by omega) W
 go_enter func140,ntmps140
 go_wp2;go_ret
 have D:Below w.heap.size w (w.alloc (.cells (madeCells #[.int .u64 0] ((s+63) / 64)) 244)):=Jc (Oa5 _ _) _;have y:=heap_alloc_new w (.cells (madeCells #[.int .u64 0] ((s+63) / 64)) 244);have E:=Oa7 w (.cells (madeCells #[.int .u64 0] ((s+63) / 64)) 244);rw[Kxm]at D y E ⊢;generalize w.alloc (.cells ((List.replicate ((s+63) / 64) 0).map fun (x:Nat)=>Value.int .u64 (x:Nat)).toArray 244)=W at D y E ⊢;have m2:=heap_alloc_new W (.cells #[.int .u64 (s:Nat),.slice (some ⟨w.heap.size,0,none⟩) ((s+63) / 64) ((s+63) / 64)] 334);have H:Below W.heap.size W (W.alloc (.cells #[.int .u64 (s:Nat),.slice (some ⟨w.heap.size,0,none⟩) ((s+63) / 64) ((s+63) / 64)] 334)):=Jc (Oa5 _ _) _;rw[E]at m2;refine⟨Jb D H,w.heap.size+1,w.heap.size,rfl,by omega,Oa2 _,?_,(H.block _ (Jd y)).trans y,by simp,fun x K=>?_,hs⟩
 ·rw[Od6];exact m2
 have:=List.eq_of_mem_replicate K;omega
theorem Jcv {w w':World}{g:Nat}{o:Obj}(h:w.heap[g]?=some o)(y:Below w.heap.size w w'):w'.heap[g]?=some o:=(y.block g (Jd h)).trans h
def jnC (lv rv kv:Value)(z bu bl sd:Int)(y E D H:Value):List Value:=[lv,rv,kv,.int .i64 z,.int .i64 bu,.int .i64 bl,.int .i64 sd,y,E,D,H]
def Kv0 (lc rc:List (List V))(row other:Nat)(k:Krv):Bool:=((lc.getD k.c []).getD row Jf).beq ((rc.getD k.o.toNat []).getD other Jf)
def Kss (ks:List Krv)(lc rc:List (List V))(row other:Nat):Bool:=ks.all (Kv0 lc rc row other)
theorem Kxk (jb lb rb kb ko kc cl cr:Nat)(hl hr:List (Option Addr×Nat))(lc rc:List (List V))(ks:List Krv)(row other nl nr:Nat)(z bu bl sd:Int)(bB bV bU bW:Value)(w:World)
  (bf:w.heap[jb]?=some (.cells (jnC (.slice (some ⟨lb,0,none⟩) lc.length cl) (.slice (some ⟨rb,0,none⟩) rc.length cr) (.slice (some ⟨kb,ko,none⟩) ks.length kc) z bu bl sd bB bV bU bW).toArray 275 (0,0)))
  (hL:Qd w lb hl lc) (hR:Qd w rb hr rc) (bD:Klj w kb ko ks) (bI:ks.length≤4) (bK:∀ k∈ks,k.c<lc.length∧0≤k.o∧k.o.toNat<rc.length) (bL:∀ j,j<lc.length→(lc.getD j []).length=nl) (bM:∀ j,j<rc.length→(rc.getD j []).length=nr) (ci:row<nl) (cf:other<nr) :
  Calls prog 194 #[.pointer (some ⟨jb,0,none⟩),.int .i64 (row:Nat),.int .i64 (other:Nat)] w fun e w'=>e=.returned (.bool (Kss ks lc rc row other))∧Below w.heap.size w w':=by
 have bA:Hid (w.heap[jb]?=some (.cells (jnC (.slice (some ⟨lb,0,none⟩) lc.length cl) (.slice (some ⟨rb,0,none⟩) rc.length cr) (.slice (some ⟨kb,ko,none⟩) ks.length kc) z bu bl sd bB bV bU bW).toArray 275 (0,0))):=bf;have c2:w.cell? ⟨jb,2,none⟩=some (.slice (some ⟨kb,ko,none⟩) ks.length kc):=by simp[World.cell?,bf,jnC]
 have D:Hid (Klj w kb ko ks∧Qd w lb hl lc∧Qd w rb hr rc∧(∀ k∈ks,k.c<lc.length∧0≤k.o∧k.o.toNat<rc.length)∧(∀ j,j<lc.length→(lc.getD j []).length=nl)∧∀ j,j<rc.length→(rc.getD j []).length=nr):=⟨bD,hL,hR,bK,bL,bM⟩;clear bD hL hR bK bL bM bf;go_enter func194,ntmps194
 go_upto_region 2 with fail
 go_loopw [14] (fun s wr=>∃ i:Nat,i≤ks.length∧s=.int .i64 (i:Nat)∧Hid (Below w.heap.size w wr∧∀ k∈ks.take i,Kv0 lc rc row other k=true)) (fun s _=>ks.length-(intOf s).toNat)
 case atStart=>exact⟨0,Ob7 _,rfl,Oa5 _ _,fun k bI=>by simp at bI⟩
 case round=>
  obtain⟨i,hi,rfl,hI⟩:=hrel;clear c2;by_cases bj:i<ks.length
  ·obtain⟨bQ,bR,bS,bT⟩:=D.out.1.below hI.out.1 i ks[i] (Oa3 bj);have bc:Hid (ks[i]?=some ks[i]):=Oa3 bj;obtain⟨U,bN,X⟩:=D.out.2.2.2.1 ks[i] (Ob3 bj);generalize ks[i]=k at bQ bR bS bT bc U bN X;have bE:Below wr.heap.size wr (wr.alloc (.cells #[.int .i64 (k.c:Nat),.int .i64 k.o,.bool k.d,.int .i64 (k.f:Nat)] 54)):=Jc (Oa5 _ _) _;have K:=heap_alloc_new wr (.cells #[.int .i64 (k.c:Nat),.int .i64 k.o,.bool k.d,.int .i64 (k.f:Nat)] 54);have j1:(i:Int)<(ks.length:Int):=(by omega);go_upto_region 4 with fail
   have E:=Jb hI.out.1 bE;have Z:Hid (Below w.heap.size w (wr.alloc (.cells #[.int .i64 (k.c:Nat),.int .i64 k.o,.bool k.d,.int .i64 (k.f:Nat)] 54))):=E;obtain⟨B,bC⟩:∃ B,B=wr.heap.size:=⟨_,rfl⟩;rw[←bC]at K ⊢;clear bC bE bQ bR bS bT;generalize wr.alloc (.cells #[.int .i64 (k.c:Nat),.int .i64 k.o,.bool k.d,.int .i64 (k.f:Nat)] 54)=R at K E Z ⊢;have cA:R.cell? ⟨B,0,none⟩=some (.int .i64 (k.c:Nat)):=by simp[World.cell?,K]
   have cn:R.cell? ⟨B,1,none⟩=some (.int .i64 k.o):=by simp[World.cell?,K]
   have bz:=(E.block _ (Jd bA.out)).trans bA.out;have cu:R.cell? ⟨jb,0,none⟩=some (.slice (some ⟨lb,0,none⟩) lc.length cl):=by simp[World.cell?,bz,jnC]
   have cv:R.cell? ⟨jb,1,none⟩=some (.slice (some ⟨rb,0,none⟩) rc.length cr):=by simp[World.cell?,bz,jnC]
   obtain⟨y,Y⟩:∃ y:Nat,k.o=(y:Int):=⟨k.o.toNat,by omega⟩;rw[Y]at cn;have bn:y<rc.length:=by rw[Y]at X;simpa using X
   have bG:=(D.out.2.1.below E).row.cell U;have bH:=(D.out.2.2.1.below E).row.cell bn;have bh:=D.out.2.2.2.2.1 k.c U;have bi:=D.out.2.2.2.2.2 y bn;rw[bh]at bG;rw[bi]at bH;have br:row<(lc.getD k.c []).length:=by rw[bh];exact ci
   have bx:other<(rc.getD y []).length:=by rw[bi];exact cf
   obtain⟨b2,cy,bO,_,bX,bY,bZ⟩:=((D.out.2.1.below E).vals k.c U).at br;obtain⟨b3,cz,bP,_,ca,cb,cc⟩:=((D.out.2.2.1.below E).vals y bn).at bx;rw[Kn2 br]at bX bY bZ;rw[Kn2 bx]at ca cb cc;rw[bO]at bG;rw[bP]at bH;have O:Hid (Kv0 lc rc row other k=((lc.getD k.c []).getD row Jf).beq ((rc.getD y []).getD other Jf)):=by show _=_;unfold Kv0;rw[Y];rfl
   generalize (lc.getD k.c []).getD row Jf=u at bX bY bZ O;generalize (rc.getD y []).getD other Jf=v at ca cb cc O;have j2:(k.c:Int)<(lc.length:Int):=(by omega);have cx:(y:Int)<(rc.length:Int):=(by omega);have j4:(row:Int)<(nl:Int):=(by omega);have j5:(other:Int)<(nr:Int):=(by omega);clear K bz E bh bi br bx bO bP Y bN X;by_cases H:u=v
   ·have ch:=Jql u v H;have ba:Hid (Kv0 lc rc row other k=true):=by show _=_;rw[O.out];exact(V.beq_iff u v).2 H
    clear H;go_quiet (fail)
    go_wp2;refine⟨⟨i+1,by omega,by go_num,Jp Z.out _,fun cj bJ=>?_⟩,by simp[intOf];omega⟩;rw[Oi7,bc.out]at bJ;rcases Od2.1 bJ with h|h
    ·exact hI.out.2 cj h
    rw[Oc6.1 h];exact ba.out
   have ch:=Jqe u v H;have ba:Hid (Kv0 lc rc row other k=false):=by show _=_;rw[O.out];exact(V.beq_false u v).2 H
   clear H;go_quiet (fail)
   go_wp2;go_ret
   refine⟨Qr (a:=false) ?_,Jp Z.out _⟩;unfold Kss;rw[eq_comm,List.all_eq_false];exact⟨k,Of6 bc.out,by rw[ba.out];simp⟩
  obtain rfl:i=ks.length:=by omega
  go_wp2;go_ret
  refine⟨Qr (a:=true) ?_,hI.out.1⟩;have:=hI.out.2;rw[Of2]at this;unfold Kss;rw[List.all_eq_true.2 this]
end Go.Proofs.YtpchafocmlhmbaaGreatDoor
