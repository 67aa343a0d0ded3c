/- The reader of a segment in memory, and its smallest steps: the next bytes are taken, or it gives up by a panic. -/
import Derived.Test.YtnlnlamdilifcaaGreatDoorKd
import Derived.Lib.ConvBytes
import Derived.Lib.Walk
import Derived.Test.YtnlnlamdilifcaaGreatDoorOf
set_option maxHeartbeats 4000000
set_option maxRecDepth 100000
namespace Go.Proofs.YtnlnlamdilifcaaGreatDoor
section
open Go.RowKit Tryz
structure RAt (w:World) (g:Nat) (t:Int) (bs:List UInt8) (a2:Addr):Prop where
 far:4<g
 cells:w.heap[g]?=some (.cells #[Iq t,.string (Qw bs)] 332 (0,0))
 form:w.cell? (Aq 4)=some (Ie 435 a2)
 len:bs.length<=maxLen
structure Jt (w w':World) (g:Nat):Prop where
 os:w'.os=w.os
 tape:w'.tape=w.tape
 output:w'.output=w.output
 size:w.heap.size<=w'.heap.size
 block:∀ k,k<w.heap.size->k≠g->w'.heap[k]?=w.heap[k]?
theorem Jt.refl w g:Jt w w g:=⟨rfl,rfl,rfl,Oa2 _,fun _ _ _=>rfl⟩
theorem Jt.trans {a b c g}(h:Jt a b g)(k:Jt b c g):Jt a c g:=
 ⟨k.os.trans h.os,k.tape.trans h.tape,k.output.trans h.output,Ob2 h.size k.size,fun i hi y=>(k.block i (Oc2 hi h.size) y).trans (h.block i hi y)⟩
theorem Jt.of_below {w w'}(hb:Bq w w')g:Jt w w' g:=⟨hb.os,hb.tape,hb.output,hb.size,fun k y _=>hb.block k y⟩
theorem Jt.below {w w' g B}(h:Jt w w' g)(y:B<=g)(hs:B<=w.heap.size):Below B w w':=
 ⟨h.os,h.tape,h.output,h.size,fun k H=>h.block k zo zo⟩
theorem RAt.lt {w g t bs a2}(h:RAt w g t bs a2):g<w.heap.size:=Jd h.cells
theorem RAt.below {w w' g t bs a2}(h:RAt w g t bs a2)(hb:Bq w w'):RAt w' g t bs a2:=
 ⟨h.far,by rw[hb.block g h.lt];exact h.cells,by rw[Oc3 (w:=w) (hb.block 4 (by have:=h.lt;have:=h.far;omega))];exact h.form,h.len⟩
theorem RAt.typ {w g t bs a2}(h:RAt w g t bs a2):w.cell? (Aq g)=some (Iq t):=by simp[World.cell?,h.cells]
theorem RAt.left {w g t bs a2}(h:RAt w g t bs a2):w.cell? (Ar g 1)=some (.string (Qw bs)):=by simp[World.cell?,h.cells]
theorem RAt.thaw {w g t bs a2}(h:RAt w g t bs a2)i:w.frozen? ⟨g,i,none⟩=false:=by simp[World.frozen?,h.cells]
theorem zaW {p:Prop}(h:p:=by rw[Oc3 (w:=w) (Oa4 _ _ _ _ (by have:=h.far;show 4≠g;omega))];exact h.form):p:=h
theorem RAt.setLeft {w g t bs bs' a2}(h:RAt w g t bs a2)(hl:bs'.length<=maxLen):RAt (w.setCell (Ar g 1) (.string (Qw bs'))) g t bs' a2:=by
 refine⟨h.far,?_,?_,hl⟩
 ·simp[World.setCell,Array.getElem?_modify,h.cells]
 exact zaW
theorem RAt.setTyp {w g t t' bs a2}(h:RAt w g t bs a2):RAt (w.setCell (Aq g) (Iq t')) g t' bs a2:=by
 refine⟨h.far,?_,?_,h.len⟩
 ·simp[World.setCell,Array.getElem?_modify,h.cells]
 exact zaW
theorem Jt.set w g i v:Jt w (w.setCell (Ar g i) v) g:=
 ⟨rfl,rfl,rfl,by simp[World.setCell],fun k _ y=>Oa4 _ _ _ _ y⟩
abbrev Jpu (a2:Addr):Ending:=.panicked [{v:=Ie 435 a2,recovered:=false}]
def Qg {α:Type}(w:World)(g:Nat)(t:Int)(a2:Addr)(r:Option (α×List UInt8))(R:α->Value->World->Prop)(e:Ending)(w':World):Prop:=
 Jt w w' g/\((r=none/\e=Jpu a2)\/∃ x rest v,r=some (x,rest)/\e=.returned v/\R x v w'/\RAt w' g t rest a2)
theorem Qg.up {α w w' g t a2}{r:Option (α×List UInt8)}{R:α->Value->World->Prop}(y:Jt w w' g)(hr:r=none):Qg w g t a2 r R (Jpu a2) w':=⟨y,.inl ⟨hr,rfl⟩⟩
theorem Qg.ok {α w w' g t a2}{r:Option (α×List UInt8)}{R:α->Value->World->Prop}{x:α}{rest v}(H:Jt w w' g)(hr:r=some (x,rest))(hR:R x v w')(y:RAt w' g t rest a2):
  Qg w g t a2 r R (.returned v) w':=⟨H,.inr ⟨x,rest,v,hr,rfl,hR,y⟩⟩
theorem Jep w:Cq 219 #[.bool true] w fun e w'=>e=.returned (.tuple #[])/\w'=w:=by
 have y:∀ (x:Bool) (w:World),(Op.unary .not (.bool x)).run prog w=.ok (.bool (!x)) w:=fun _ _=>rfl;go_enter func219,ntmps219
 go_wp2;go_end0
 exact⟨rfl,rfl⟩
theorem Jap a2 w(h:w.cell? (Aq 4)=some (Ie 435 a2)):Cq 219 #[.bool false] w fun e w'=>e=Jpu a2/\w'=w:=by
 have y:∀ (x:Bool) (w:World),(Op.unary .not (.bool x)).run prog w=.ok (.bool (!x)) w:=fun _ _=>rfl;go_enter func219,ntmps219
 go_wp2;exact⟨rfl,rfl,rfl⟩
theorem Jj8 bs i j:(Qw bs).extract i j=Qw ((bs.take j).drop i):=by
 unfold Qw;rw[Om5];simp[List.extract_eq_take_drop,List.drop_take]
theorem Jud (n:Nat)(h:n<9223372036854775808):wrap64 (n:Int)=n:=by unfold wrap64;omega
def Jat (n:Nat)(bs:List UInt8):Option (List UInt8×List UInt8):=if n<=bs.length then some (bs.take n,bs.drop n)else none
theorem Jia (g:Nat)(t:Int)bs a2(n:Nat)w(h:RAt w g t bs a2):
  Cq 255 #[Pq g,Iq n] w (Qg w g t a2 (Jat n bs) fun x v _=>v=.string (Qw x)):=by
 have c0:=h.typ;have c1:=h.left;have c2:=h.thaw 1;have hl:=h.len;have M:=Jb2 bs;by_cases I:n<=bs.length
 ·have K:((n:Int)<=((bs.length:Nat):Int)):=zo;go_enter func255,ntmps255
  go_wp2_with fail
  refine(Jep _).mono ?_;rintro e w' ⟨rfl,rfl⟩;go_wp2_with fail
  go_ret
  have y:=Jj8 bs 0 n;have H:=Jj8 bs n bs.length;rw[List.drop_zero]at y;rw[Of2]at H;rw[y,H];exact Qg.ok (Jt.set _ _ _ _) (by unfold Jat;rw[if_pos I]) rfl (h.setLeft zt)
 have K:¬ ((n:Int)<=((bs.length:Nat):Int)):=zo;go_enter func255,ntmps255
 go_wp2_with fail
 refine(Jap a2 _ h.form).mono ?_;rintro e w' ⟨rfl,rfl⟩;go_wp2_with fail
 exact⟨rfl,Qg.up (Jt.refl _ _) (by unfold Jat;rw[if_neg I])⟩
def Ur:List UInt8->Option (Nat×List UInt8)
 |[]=>none
 |b::r=>some (b.toNat,r)
theorem Jgx {bs rest n}(h:Ur bs=some (n,rest)):n<256:=by
 cases bs with
 |nil=>simp[Ur]at h
 |cons b r=>
  simp[Ur]at h;rw[<-h.1];exact b.toNat_lt
theorem Ja2 g t bs a2 w(h:RAt w g t bs a2):
  Cq 218 #[Pq g] w (Qg w g t a2 (Ur bs) fun n v _=>v=Iq (n:Int)):=by
 have y:=Jia g t bs a2 1 w h;simp only[Int.natCast_one]at y;go_enter func218,ntmps218
 go_wp2_with fail
 refine y.mono ?_;rintro e w1 ⟨H,⟨hr,rfl⟩|⟨x,rest,v,hr,rfl,rfl,I⟩⟩
 ·go_wp2_with fail
  refine⟨rfl,Qg.up H ?_⟩;cases bs with
  |nil=>rfl
  |cons b r=>simp[Jat]at hr
 cases bs with
 |nil=>simp[Jat]at hr
 |cons b r=>
  simp[Jat]at hr;obtain⟨rfl,rfl⟩:=hr;have K:(Qw [b]).size=1:=rfl;have M:(0:Int)<=0/\(0:Int)<(((Qw [b]).size:Nat):Int):=by rw[K];omega
  go_wp2_with fail
  go_ret
  refine Qg.ok H rfl ?_ I;show Value.int .i64 (wrap64 (((Qw [b])[0]).toNat:Int))=Iq (b.toNat:Int);have hb:=b.toNat_lt;have e:(Qw [b])[0]=b:=rfl;rw[e,Jud _ zo]
def Jeh:List UInt8->Nat
 |[]=>0
 |b::r=>b.toNat+256*Jeh r
theorem Kbv l:Jeh l<256 ^ l.length:=by
 induction l with
 |nil=>simp[Jeh]
 |cons b r y=>
  have hb:=b.toNat_lt;simp only[Jeh,List.length_cons,Nat.pow_succ];omega
theorem Jlf l(b:UInt8):Jeh (l++[b])=Jeh l+b.toNat*256 ^ l.length:=by
 induction l with
 |nil=>simp[Jeh]
 |cons c r y=>
  simp only[List.cons_append,Jeh,y,List.length_cons,Nat.pow_succ,Nat.mul_add];have:256*(b.toNat*256 ^ r.length)=b.toNat*(256 ^ r.length*256):=by rw[Nat.mul_comm 256,Nat.mul_assoc]
  omega
def Jc7 (bs:List UInt8):Option (Int×List UInt8):=
 match Jat 8 bs with
 |none=>none
 |some (x,rest)=>some (wrap64 (Jeh x:Int),rest)
theorem Jcr (q:Nat)(h:q<18446744073709551616):IntKind.u64.wrap (q:Int)=q:=by rw[Oh5];omega
theorem Jr4 n b k(y:n<2 ^ k):n ||| (b <<< k)=n+b*2 ^ k:=by
 rw[Nat.or_comm,<-Nat.shiftLeft_add_eq_or_of_lt y,Oo2];omega
theorem Jve k:256 ^ k=2 ^ (8*k):=by rw[Nat.pow_mul]
theorem Kf7 (n b k:Nat)(M:k<8)(K:n<256 ^ k)(hb:b<256):
  bits BinOp.or IntKind.u64 (n:Int) (IntKind.u64.wrap ((b:Int)*2 ^ (8*k)))=((n+b*256 ^ k:Nat):Int):=by
 have H:((b:Int)*2 ^ (8*k))=((b <<< (8*k):Nat):Int):=by rw[Oo2];simp
 have hp:256 ^ k<=256 ^ 7:=Nat.pow_le_pow_right zd zo;have O:256 ^ 7=72057594037927936:=zd;have y:b <<< (8*k)<18446744073709551616:=by
  rw[Oo2,<-Jve];have:b*256 ^ k<=255*256 ^ k:=Om8 _ zo;omega
 have I:=Jcr _ y;rw[H,I,u64_or_nat n _ zo y];congr 1
 rw[Jr4 n b (8*k) (by rw[<-Jve];exact K),<-Jve]
theorem Jt3 x w:∃ cap I,(convert 9 199 (.string (Qw x))).run prog w=.ok (Sq w.heap.size x.length cap) I /\
  Uh I (some (Aq w.heap.size)) (x.map bv)/\Bq w I:=by
 have h:=Lib.run_convert_string_bytes (P:=prog) w 9 199 5 (Qw x) underlying9 underlying199 underlying5;rw[Jb2]at h;refine⟨_,_,h,.inr ⟨_,_,rfl,by rw[Lib.bytesWorld_size];omega,?_⟩,rfl,rfl,rfl,by rw[Lib.bytesWorld_size];omega,fun k M=>Lib.bytesWorld_at_old _ _ _ _ M⟩;intro i v hi;have H:i<x.length:=by
  rcases Oc1 i x.length with y|y
  ·exact y
  rw[Ob4 (by simpa using y)]at hi;simp at hi
 have K:=Lib.bytesWorld_cell w 5 (Qw x) i (by rw[Jb2];exact H);rw[Ob1,Oa3 H]at hi;simp at hi;subst hi;rw[Od0,K];simp[Qw,bv,H]
theorem Jmh g t bs a2 w(h:RAt w g t bs a2):
  Calls prog 290 #[.pointer (some ⟨g,0,none⟩)] w (Qg w g t a2 (Jc7 bs) fun n v _=>v=.int .i64 n):=by
 have O:=Jia g t bs a2 8 w h;go_enter func290,ntmps290
 go_wp2_with fail
 refine O.mono ?_;rintro e w1 ⟨I,⟨hr,rfl⟩|⟨x,rest,v,hr,rfl,rfl,U⟩⟩
 ·go_wp2_with fail
  exact⟨rfl,Qg.up I (by unfold Jc7;rw[hr])⟩
 have bj:x.length=8:=by
  unfold Jat at hr;split at hr
  ·simp at hr;rw[<-hr.1];simp;omega
  ·simp at hr
 obtain⟨cap,bk,bf,Z,H⟩:=Jt3 x w1;rw[bj]at bf;go_wp2_with fail
 go_loopw [3,10] (fun n i wr=>∃ k:Nat,k<=8/\i=.int .i64 k/\n=.int .u64 (Jeh (x.take k):Int)/\wr=bk) (fun _ i _=>8-(intOf i).toNat)
 case atStart=>exact⟨0,zo,rfl,rfl,rfl⟩
 case round=>
  obtain⟨k,bA,rfl,rfl,rfl⟩:=hrel;by_cases bi:k<8
  ·have M:k<x.length:=zo;obtain⟨b1,bD,br,bx,c1⟩:=Z.at (i:=k) (by simpa using M);cases br;have K:=Kbv (x.take k);have y:=Jlf (x.take k) x[k];rw[<-Oc4 M]at y;have bh:(x.take k).length=k:=by simp;omega
   rw[bh]at K y;have Y:=x[k].toNat_lt;simp only[Od9,bv,Nat.zero_add]at c1;obtain⟨c,bz⟩:∃ c:Nat,c=8*k:=⟨_,rfl⟩;have bB:IntKind.i64.wrap (8*(k:Int))=(c:Int):=by rw[Od4];omega
   generalize x[k].toNat=bn at *;have bC:IntKind.u64.wrap (bn:Int)=bn:=by rw[Oh5];omega
   go_wp2;go_roundw
   case rel=>
    refine⟨k+1,zo,zn,?_,trivial⟩;rw[y,Kf7 _ _ _ bi K Y]
   case measure=>simp[intOf];omega
  go_wp2;go_ret
  have e:x.take k=x:=Oc8 zo;rw[e];refine Qg.ok (I.trans (Jt.of_below H g)) (by unfold Jc7;rw[hr]) ?_ (U.below H);rfl
def Jn6 (x:List UInt8)(i:Nat):Bool:=(x.getD (i / 8) 0).toNat.testBit (i % 8)
def Zc (x:List UInt8)(i:Nat):Nat->Nat
 |0=>0
 |b+1=>Zc x i b+(if Jn6 x (i+b)then 1 else 0)*2 ^ b
theorem Jok x i:∀ b,Zc x i b<2 ^ b:=by
 intro b;induction b with
 |zero=>simp[Zc]
 |succ b y=>
  simp only[Zc,Nat.pow_succ];split<;>omega
def Yj (y count:Nat)(bs:List UInt8):Option (List Nat×List UInt8):=
 match Jat ((y*count+7) / 8) bs with
 |none=>none
 |some (x,rest)=>some ((List.range count).map fun i=>Zc x (y*i) y,rest)
theorem Jg9 {n bs x rest}(h:Jat n bs=some (x,rest)):x.length=n:=by
 unfold Jat at h;split at h
 ·simp at h;rw[<-h.1];simp;omega
 simp at h
def Khl (w w':World)(ns:List Nat)(v:Value):Prop:=∃ b,v=Sq b ns.length ns.length/\w.heap.size<=b/\Uh w' (some (Aq b)) (ns.map uv)
theorem Kcx (H y c b:Nat)(hb:b<64)(Y:H<2 ^ b)(hy:y<256):
  bits BinOp.or IntKind.u64 (H:Int) (IntKind.u64.wrap (IntKind.u64.wrap (bits BinOp.and IntKind.u8 ((y:Int) / 2 ^ c) 1)*2 ^ b))=((H+(if y.testBit c then 1 else 0)*2 ^ b:Nat):Int):=by
 have K:((y:Int) / 2 ^ c)=((y / 2 ^ c:Nat):Int):=zS;have Z:y / 2 ^ c<256:=Nat.lt_of_le_of_lt (Oo6 _ _) hy;have M:bits BinOp.and IntKind.u8 ((y / 2 ^ c:Nat):Int) 1=((y / 2 ^ c % 2:Nat):Int):=by
  have:=u8_and_nat (y / 2 ^ c) 1 Z zd;rw[Nat.and_one_is_mod]at this;exact this
 have O:y.testBit c=decide (y / 2 ^ c % 2=1):=On1;rw[K,M,O];have bf:y / 2 ^ c % 2<2:=Ol0 _ zd;generalize y / 2 ^ c % 2=m at *;have hp:2 ^ b<=2 ^ 63:=Nat.pow_le_pow_right zd zo;have bh:2 ^ 63=9223372036854775808:=zd;rw[Jcr m zo];have U:((m:Int)*2 ^ b)=((m <<< b:Nat):Int):=by rw[Oo2];simp
 have I:m <<< b<18446744073709551616:=by
  rw[Oo2];have:m*2 ^ b<=1*2 ^ b:=Om8 _ zo;omega
 rw[U,Jcr _ I,u64_or_nat H _ zo I,Jr4 H m b Y];have:m=0\/m=1:=zo;rcases this with rfl|rfl<;>simp
theorem Jnp x(q:Nat)(h:q<x.length)W:(Instr.index 9 (.string (Qw x)) (Iq (q:Int))).run prog W=.ok (.int .u8 ((x.getD q 0).toNat:Int)) W:=by
 have e:(Qw x).size=x.length:=Jb2 x;have y:q<(Qw x).size:=zo;simp[go_sem,h,y];rfl
theorem Jnu x(A:Nat)(h:A / 8<x.length)W:(Instr.index 9 (.string (Qw x)) (Iq ((A:Int) / 8))).run prog W=.ok (.int .u8 ((x.getD (A / 8) 0).toNat:Int)) W:=by
 have e:((A:Int) / 8)=((A / 8:Nat):Int):=zo;rw[e];exact Jnp x _ h W
theorem Jas (g:Nat)(t:Int)bs a2(y count:Nat)w(h:RAt w g t bs a2)(bV:y<=64)(bR:count<=64):
  Cq 220 #[Pq g,Iq y,Iq count] w (Qg w g t a2 (Yj y count bs) fun ns v w'=>Khl w w' ns v):=by
 have bT:y*count<=64*64:=Ol5 bV bR;obtain⟨W,hW⟩:∃ W:Nat,W=y*count:=⟨_,rfl⟩;have bK:(y:Int)*(count:Int)=(W:Int):=by rw[hW];simp
 obtain⟨nb,bf⟩:∃ nb:Nat,nb=(W+7) / 8:=⟨_,rfl⟩;have bS:((W:Int)+7) / 8=(nb:Int):=zo;have bQ:∀ W,(Instr.makeSlice 234 (Iq (count:Int)) (Iq (count:Int))).run prog W=.ok (Sq W.heap.size count count) (W.alloc (.cells (madeCells #[.int .u64 0] count) 235)):=
  fun W=>run_make_row' 234 235 (.int .u64 0) 8 zK Jiq rfl .i64 .i64 count zo zo W
 have bz:=Jia g t bs a2 nb w h;have O:Hid (Yj y count bs=match Jat nb bs with|none=>none|some (x,rest)=>some ((List.range count).map fun i=>Zc x (y*i) y,rest)):=by
  show _=_;unfold Yj;rw[<-hW,<-bf]
 have bG:=zh hW;have bE:=zh bf;have bY:W<=4096:=zo;have cc:nb<=600:=zo;clear hW bf bT;go_enter func220,ntmps220
 go_wp2_with (go_at_call 136;refine(Jif _ _ zo zo).mono ?_;rintro e w' ⟨rfl,cf⟩;subst w')
 refine bz.mono ?_;rintro e w1 ⟨Z,⟨hr,rfl⟩|⟨x,rest,v,hr,rfl,rfl,M⟩⟩
 ·go_wp2_with fail
  exact⟨rfl,Qg.up Z (by rw[O.out,hr])⟩
 have bH:Hid (Yj y count bs=some ((List.range count).map fun i=>Zc x (y*i) y,rest)):=by
  show _=_;rw[O.out,hr]
 have ci:=Jg9 hr;clear O hr bz;go_wp2_with fail
 clear bQ bK bS;go_loopw [9,22] (fun at_ i wr=>∃ k:Nat,k<=count/\i=Iq k/\at_=Iq ((y*k:Nat):Int)/\wr.rowIs w1.heap.size 235 count (fun j=>uv (if j<k then Zc x (y*j) y else 0))/\Bq w1 wr) (fun _ i _=>count-(intOf i).toNat)
 case atStart=>exact⟨0,zo,rfl,rfl,(Ol3 _ _ _ _).congr fun j _=>by simp[uv],(Oa5 _ _).alloc (Oa2 _) _⟩
 case round=>
  obtain⟨k,bZ,rfl,rfl,H,K⟩:=hrel;by_cases bC:k<count
  ·have ca:y*k+y<=W:=by
    rw[bG.out,<-Nat.mul_succ];exact Nat.mul_le_mul_left _ bC
   generalize bA:y*k=I at *;have bi:=zh bA;clear bA;go_wp2;go_loopw [9,26] (fun at_ i bD=>∃ b:Nat,b<=y/\i=Iq b/\at_=Iq ((I+b:Nat):Int)/\bD.rowIs w1.heap.size 235 count (fun j=>uv (if j<k then Zc x (y*j) y else if j=k then Zc x I b else 0))/\Bq w1 bD) (fun _ i _=>y-(intOf i).toNat)
   case atStart=>
    refine⟨0,zo,rfl,rfl,H.congr fun j _=>?_,K⟩;by_cases e:j<k
    ·simp[e]
    simp[e,Zc]
   case round=>
    clear H K;obtain⟨b,hb,rfl,rfl,H,K⟩:=hrel;by_cases cb:b<y
    ·generalize M:I+b=A at *;have bX:A<W:=zo;have bh:=zh M;clear M;have hq:A / 8<nb:=by rw[bE.out];omega
     have c1:=H.cell bC;have c2:=H.frozen k;have bB:=Jok x I b;have br:=zh bB;have bx:Hid (Zc x I (b+1)=Zc x I b+(if Jn6 x A then 1 else 0)*2 ^ b):=by
      show _=_;rw[<-bh.out];rfl
     clear bB;simp only[Oe3,if_false,if_true,uv]at c1;generalize Zc x I b=bI at c1 br bx;have bM:=Jnu x A zo;have bj:Hid (Jn6 x A=(x.getD (A / 8) 0).toNat.testBit (A % 8)):=rfl;have bk:Hid ((x.getD (A / 8) 0).toNat<256):=(x.getD (A / 8) 0).toNat_lt;generalize (x.getD (A / 8) 0).toNat=bW at bM bj bk;go_wp2;go_region
     go_wp2;go_roundw
     case rel=>
      refine⟨b+1,zo,zn,?_,(H.set k _).congr fun j bN=>?_,(K.setCell (p:=Ar w1.heap.size k) (Oa2 _) _).drew⟩
      ·have:=bh.out;rw[<-this];go_num
      by_cases e:j=k
      ·subst e;simp only[if_true,Oe3,if_false];rw[Kcx bI bW (A % 8) b zo br.out bk.out,bx.out,bj.out];rfl
      simp only[e,if_false]
     case measure=>simp[intOf];omega
    have bL:b=y:=zo;subst bL;go_wp2;go_roundw
    case rel=>
     refine⟨k+1,zo,zn,?_,H.congr fun j bN=>?_,K⟩
     ·have:=bi.out;rw[Nat.mul_succ,this]
     rw[<-bi.out];by_cases e:j=k
     ·subst e;simp
     have bJ:(j<k+1)=(j<k):=by rw[eq_iff_iff];omega
     simp only[bJ,e,if_false]
    case measure=>simp[intOf];omega
  have bO:k=count:=zo;subst bO;go_wp2;go_ret
  refine Qg.ok (Z.trans (Jt.of_below K g)) bH.out ?_ (M.below K);have bU:=Z.size;have bP:=H.lt;refine⟨w1.heap.size,?_,bU,.inr ⟨_,_,rfl,bP,fun i v hi=>?_⟩⟩
  ·simp only[Oa6,Op1];rfl
  have Y:i<k:=by
   rcases Oc1 i k with U|U
   ·exact U
   ·rw[Ob4 (by simpa using U)]at hi;simp at hi
  have:=H.cell Y;rw[Ob1,Ob1,Oh6 Y]at hi;simp at hi;rw[Od0,this,<-hi];simp[Y]
theorem Kcu:prog.cellsOf 5=1:=zK
theorem Jws x w(bx:x.length<=255):
  Cq 66 #[.string (Qw x)] w fun e w'=>e=.returned (.string (Qw x))/\Bq w w':=by
 have hs:=Jb2 x;by_cases h0:x=[]
 ·subst h0;go_enter func66,ntmps66
  go_wp2;go_ret
  exact⟨rfl,Oa5 _ _⟩
 have bf:=Oi9.2 h0;have Z:∀ W,(Instr.makeSlice 199 (Iq (x.length:Int)) (Iq (x.length:Int))).run prog W=.ok (Sq W.heap.size x.length x.length) (W.alloc (.cells (madeCells #[.int .u8 0] x.length) 5)):=
  fun W=>run_make_row' 199 5 (.int .u8 0) 1 zK Jfa rfl .i64 .i64 x.length zo zo W
 obtain⟨y,hM⟩:∃ y,y=madeCells #[Value.int .u8 0] x.length:=⟨_,rfl⟩;have bh:y.size=x.length:=by rw[hM,size_madeCells]
 rw[<-hM]at Z;clear hM;have M:=Lib.run_copy_row_string (P:=prog) (w.alloc (.cells y 5)) 199 9 3 5 w.heap.size 0 x.length x.length (Qw x) y 5 underlying199 zK (Oh1 w _).1 zo zo;obtain⟨H,I⟩:∃ H,H=(y.toList.take 0++Lib.byteCells (Qw x).data.toList++y.toList.drop (0+(Qw x).size)).toArray:=⟨_,rfl⟩;rw[<-I]at M;have K:H.toList=Lib.byteCells x:=by
  rw[I,List.toList_toArray,List.take_zero,List.nil_append,Ol8 (by rw[Array.length_toList];omega),Od7];simp[Qw]
 have bj:H.size=x.length:=by rw[<-Array.length_toList,K,Lib.byteCells_length]
 have O:((w.alloc (.cells y 5)).setRow w.heap.size H).heap[w.heap.size]?=some (.cells H 5 (0,0)):=setRow_heap _ _ y _ 5 (0,0) (Oh1 w _).1;have bi:=Lib.run_unsafeString_row (P:=prog) (w:=(w.alloc (.cells y 5)).setRow w.heap.size H) 209 3 9 5 underlying209 Kcu w.heap.size H.size (by unfold World.shape?;rw[O]) x h0 zo zo
  (fun j b hb=>Lib.cells_of_row O H.size j _ (by rw[Oc8 (by rw[Array.length_toList];exact Oa2 _),K];simp[Lib.byteCells,hb]))
 rw[hs]at M;clear I;have bz:((x.length:Int)==0)=false:=by rw[beq_eq_false_iff_ne];omega
 have bk:(0:Int)<=0/\(0:Int)<(x.length:Int):=zo;clear bf;go_enter func66,ntmps66
 go_wp2;go_ret
 have U:Bq w (w.alloc (.cells y 5)):=(Oa5 _ w).alloc (Oa2 _) _;have Y:Below w.heap.size (w.alloc (.cells y 5)) ((w.alloc (.cells y 5)).setRow w.heap.size H):=⟨rfl,rfl,rfl,zS,fun k br=>setRow_other _ _ _ _ zo⟩;exact⟨rfl,Lib.below_freeze (U.trans Y) (p:=Aq w.heap.size) (Oa2 _) _⟩
theorem Jhm x w(y:x.length<=255):
  Cq 44 #[.string (Qw x)] w fun e w'=>e=.returned (.string (Qw x))/\Bq w w':=by
 go_enter func44,ntmps44
 go_wp2_with (go_at_call 66;refine(Jws x _ y).mono ?_;rintro e w' ⟨rfl,hb⟩)
 go_ret
 exact⟨rfl,hb⟩
def Jne (bs:List UInt8):Option (List UInt8×List UInt8):=
 match Ur bs with
 |none=>none
 |some (n,r)=>Jat n r
def Qz (t:Int)(bs:List UInt8):Option (V×List UInt8):=
 if t=1 then (Jc7 bs).map fun x=>(⟨1,x.1,Qw []⟩,x.2)
 else if t=2 then (Ur bs).map fun x=>(⟨2,(x.1:Int),Qw []⟩,x.2)
 else (Jne bs).map fun x=>(⟨3,0,Qw x.1⟩,x.2)
theorem Jt.alloc {w w' g}(h:Jt w w' g)o:Jt w (w'.alloc o) g:=h.trans (Jt.of_below ((Oa5 _ _).alloc (Oa2 _) _) g)
theorem RAt.alloc {w g t bs a2}(h:RAt w g t bs a2)o:RAt (w.alloc o) g t bs a2:=h.below ((Oa5 _ _).alloc (Oa2 _) _)
theorem Jt.setNew {w w' g k}(h:Jt w w' g)(I:w.heap.size<=k)i v:Jt w (w'.setCell (Ar k i) v) g:=
 ⟨h.os,h.tape,h.output,by simpa [World.setCell] using h.size,fun j y H=>(Oa4 _ _ _ _ (by show j≠k;omega)).trans (h.block j y H)⟩
theorem RAt.setOther {w g k t bs a2}(h:RAt w g t bs a2)(H:k≠g)(y:k≠4)i v:RAt (w.setCell (Ar k i) v) g t bs a2:=
 ⟨h.far,by rw[Oa4 _ _ _ _ (by show g≠k;omega)];exact h.cells,by rw[Oc3 (w:=w) (Oa4 _ _ _ _ (by show 4≠k;omega))];exact h.form,h.len⟩
theorem Ji3 {w w1 g t rest a2 o}(M:g<w.heap.size)(I:Jt (w.alloc o) w1 g)(y:RAt w1 g t rest a2)x H z:
  Jt w (((w1.setCell (Aq w.heap.size) x).setCell (Ar w.heap.size 1) H).setCell (Ar w.heap.size 2) z) g/\RAt (((w1.setCell (Aq w.heap.size) x).setCell (Ar w.heap.size 1) H).setCell (Ar w.heap.size 2) z) g t rest a2:=by
 have K:=y.far;exact⟨(((((Jt.refl w g).alloc o).trans I).setNew (Oa2 _) _ _).setNew (Oa2 _) _ _).setNew (Oa2 _) _ _,((y.setOther zo zo _ _).setOther zo zo _ _).setOther zo zo _ _⟩
theorem Jjm {w w1:World}{g:Nat}(M:g<w.heap.size)(I:Jt (w.alloc (.cells #[iZ,iZ,.string ⟨#[]⟩] 65)) w1 g)(x y z:Value) :
  (w1.setCell (Aq w.heap.size) x).cell? (Aq w.heap.size)=some x /\
  ((w1.setCell (Aq w.heap.size) x).setCell (Ar w.heap.size 1) y).cell? (Ar w.heap.size 1)=some y /\
  (((w1.setCell (Aq w.heap.size) x).setCell (Ar w.heap.size 1) y).setCell (Ar w.heap.size 2) z).cell? (Ar w.heap.size 2)=some z:=by
 have H:=I.block w.heap.size zS zo;have K:w1.heap[w.heap.size]?=some (.cells #[iZ,iZ,.string ⟨#[]⟩] 65 (0,0)):=by rw[H];exact(Oh1 w _).1
 refine⟨?_,?_,?_⟩<;>simp[World.cell?,World.setCell,Array.getElem?_modify,K]
theorem Jjt {w w1:World}{g:Nat}(K:g<w.heap.size)(I:Jt (w.alloc (.cells #[iZ,iZ,.string ⟨#[]⟩] 65)) w1 g) :
  w1.cell? (Aq w.heap.size)=some iZ /\w1.cell? (Ar w.heap.size 1)=some iZ /\w1.cell? (Ar w.heap.size 2)=some (.string ⟨#[]⟩)/\∀ i,w1.frozen? ⟨w.heap.size,i,none⟩=false:=by
 have H:=I.block w.heap.size zS zo;have y:w1.heap[w.heap.size]?=some (.cells #[iZ,iZ,.string ⟨#[]⟩] 65 (0,0)):=by rw[H];exact(Oh1 w _).1
 exact⟨by simp[World.cell?,y],by simp[World.cell?,y],by simp[World.cell?,y],fun i=>by simp[World.frozen?,y]⟩
theorem zaP {p:Prop}(h:p:=by
 go_wp2_with fail
 exact⟨rfl,Qg.up ((Jt.refl w g).alloc _ |>.trans y) (by simp[Qz,hr])⟩):p:=h
theorem Kal g bs a2 w(h:RAt w g 1 bs a2):
  Cq 288 #[Pq g] w (Qg w g 1 a2 (Qz 1 bs) fun v x _=>x=v.val):=by
 have H:=h.lt;have Z:=Jmh g 1 bs a2 _ (h.alloc (.cells #[iZ,iZ,.string ⟨#[]⟩] 65));have c0:=h.typ;go_enter func288,ntmps288
 go_wp2_with fail
 refine Z.mono ?_;rintro e w1 ⟨y,⟨hr,rfl⟩|⟨x,rest,v,hr,rfl,rfl,O⟩⟩
 ·exact zaP
 obtain⟨bf,bh,bi,bj⟩:=Jjt H y;go_wp2;obtain⟨I,K,M⟩:=Jjm H y (Iq 1) (Iq x) (.string ⟨#[]⟩);obtain⟨Y,U⟩:=Ji3 H y O (Iq 1) (Iq x) (.string ⟨#[]⟩);refine bodyPost_ret (v:=.agg #[Iq 1,Iq x,.string ⟨#[]⟩]) (by simp[results,results288,go_sem,I,K,M]) rfl ?_;exact Qg.ok (x:=⟨1,x,Qw []⟩) Y (by simp[Qz,hr]) rfl U
theorem Juc g bs a2 w(h:RAt w g 2 bs a2):
  Cq 288 #[Pq g] w (Qg w g 2 a2 (Qz 2 bs) fun v x _=>x=v.val):=by
 have H:=h.lt;have Z:=Ja2 g 2 bs a2 _ (h.alloc (.cells #[iZ,iZ,.string ⟨#[]⟩] 65));have c0:=h.typ;go_enter func288,ntmps288
 go_wp2_with fail
 refine Z.mono ?_;rintro e w1 ⟨y,⟨hr,rfl⟩|⟨x,rest,v,hr,rfl,rfl,O⟩⟩
 ·exact zaP
 obtain⟨bf,bh,bi,bj⟩:=Jjt H y;go_wp2;obtain⟨I,K,M⟩:=Jjm H y (Iq 2) (Iq (x:Int)) (.string ⟨#[]⟩);obtain⟨Y,U⟩:=Ji3 H y O (Iq 2) (Iq (x:Int)) (.string ⟨#[]⟩);refine bodyPost_ret (v:=.agg #[Iq 2,Iq (x:Int),.string ⟨#[]⟩]) (by simp[results,results288,go_sem,I,K,M]) rfl ?_;exact Qg.ok (x:=⟨2,(x:Int),Qw []⟩) Y (by simp[Qz,hr]) rfl U
theorem Jwx g bs a2 w(h:RAt w g 3 bs a2):
  Cq 288 #[Pq g] w (Qg w g 3 a2 (Qz 3 bs) fun v x _=>x=v.val):=by
 have H:=h.lt;have U:=Ja2 g 3 bs a2 _ (h.alloc (.cells #[iZ,iZ,.string ⟨#[]⟩] 65));have c0:=h.typ;go_enter func288,ntmps288
 go_wp2_with fail
 refine U.mono ?_;rintro e w1 ⟨I,⟨hr,rfl⟩|⟨n,rest,v,hr,rfl,rfl,bh⟩⟩
 ·go_wp2_with fail
  exact⟨rfl,Qg.up ((Jt.refl w g).alloc _ |>.trans I) (by simp[Qz,Jne,hr])⟩
 have br:=Jgx hr;have ht:=Jia g 3 rest a2 n w1 bh;clear U;go_wp2_with fail
 refine ht.mono ?_;rintro e bE ⟨O,⟨y,rfl⟩|⟨x,bD,v,y,rfl,rfl,bi⟩⟩
 ·go_wp2_with fail
  exact⟨rfl,Qg.up (((Jt.refl w g).alloc _ |>.trans I).trans O) (by simp[Qz,Jne,hr,y])⟩
 have bx:=Jg9 y;clear ht;go_wp2_with fail
 refine(Jhm x _ zo).mono ?_;rintro e bG ⟨rfl,M⟩;have K:=(I.trans O).trans (Jt.of_below M g);obtain⟨bz,bA,bB,bC⟩:=Jjt H K;obtain⟨bk,bj⟩:=Ji3 H K (bi.below M) (Iq 3) iZ (.string (Qw x));clear bx br;go_wp2;obtain⟨Y,Z,bf⟩:=Jjm H K (Iq 3) iZ (.string (Qw x));refine bodyPost_ret (v:=.agg #[Iq 3,iZ,.string (Qw x)]) (by simp[results,results288,go_sem,Y,Z,bf]) rfl ?_;exact Qg.ok (x:=⟨3,0,Qw x⟩) bk (by simp[Qz,Jne,hr,y]) rfl bj
theorem Jn7 g t bs a2 w(h:RAt w g t bs a2)(ht:t=1\/t=2\/t=3):
  Cq 288 #[Pq g] w (Qg w g t a2 (Qz t bs) fun v x _=>x=v.val):=by
 rcases ht with rfl|rfl|rfl
 ·exact Kal g bs a2 w h
 ·exact Juc g bs a2 w h
 exact Jwx g bs a2 w h
def Jf:V:=⟨0,0,⟨#[]⟩⟩
theorem Jt9 n:(madeCells #[iZ,iZ,.string ⟨#[]⟩] (n*3)).toList=(List.replicate n Jf).flatMap V.cells:=by
 have key:∀ n,(List.range (n*3)).map (fun j=>(#[Value.int .i64 0,iZ,.string ⟨#[]⟩]:Array Value)[j % 3]!)=(List.replicate n Jf).flatMap V.cells:=by
  intro n;induction n with
  |zero=>rfl
  |succ n I=>
   have e:(n+1)*3=n*3+1+1+1:=zo;rw[e,Oj7,Oj7,Oj7,List.replicate_succ',Oe8,Ob8,Ob8,Ob8,I];have h0:(n*3) % 3=0:=zo;have y:(n*3+1) % 3=1:=zo;have H:(n*3+1+1) % 3=2:=zo;simp[h0,y,H,V.cells,Jf]
 have:=key n;unfold madeCells;rw[Array.toList_map,Array.toList_range];exact this
theorem zak {p:Prop}(h:p:=by obtain⟨i,hi,I,H,y⟩:=info_parts Jow;have hr:=run_make (P:=prog) W 62 65 i _ zK hi I .i64 .i64 (n:Int) (n:Int) zo (Int.le_refl _) (by rw[y];omega) zo;rw[Int.toNat_natCast,H]at hr;exact⟨_,hr,_,(Oh1 W _).1,by rw[Od7];exact Jt9 n⟩):p:=h
theorem Jl9 (n:Nat)(K:n<=1000)W:∃ C,(Instr.makeSlice 62 (Iq (n:Int)) (Iq (n:Int))).run prog W=.ok (Sq W.heap.size n n) (W.alloc (.cells C 65))/\Kv (W.alloc (.cells C 65)) W.heap.size (List.replicate n Jf) []:=by
 exact zak
def Yl (t:Int):Nat->List UInt8->Option (List V×List UInt8)
 |0,bs=>some ([],bs)
 |m+1,bs=>match Yl t m bs with
  |none=>none
  |some (vs,r)=>(Qz t r).map fun x=>(vs++[x.1],x.2)
theorem Jeb t:∀ (m:Nat) (bs rest:List UInt8) (vs:List V),Yl t m bs=some (vs,rest)->vs.length=m:=by
 intro m;induction m with
 |zero=>intro bs rest vs h;simp[Yl]at h;simp[h.1.symm]
 |succ m y=>
  intro bs rest vs h;unfold Yl at h;cases hm:Yl t m bs with
  |none=>rw[hm]at h;simp at h
  |some x=>
   obtain⟨H,r⟩:=x;rw[hm]at h;obtain⟨x,_,e⟩:=Oe9.1 h;simp only[Oj3]at e;rw[<-e.1,Oa8,y bs r H hm];rfl
theorem Jry t bs k(h:Yl t k bs=none):∀ m,k<=m->Yl t m bs=none:=by
 intro m H;induction m with
 |zero=>
      have:k=0:=zo;subst this;exact h
 |succ m y=>
  by_cases e:k=m+1
  ·subst e;exact h
  unfold Yl;rw[y zo]
theorem Jjw t bs r k vs(h:Yl t k bs=some (vs,r)):Yl t (k+1) bs=(Qz t r).map fun x=>(vs++[x.1],x.2):=by
 rw[Yl,h]
def Jc9 (w w':World)(vs:List V)(v:Value):Prop:=∃ b,v=Sq b vs.length vs.length/\w.heap.size<=b/\Kv w' b vs []
theorem Jna y k m v(I:y.length=k)(K:k<m):(y++List.replicate (m-k) Jf).set k v=(y++[v])++List.replicate (m-(k+1)) Jf:=by
 obtain⟨d,H⟩:∃ d,m-k=d+1:=⟨m-k-1,zo⟩;have e:m-(k+1)=d:=zo;rw[H,e,List.replicate_succ,Ok4 _ _ zo,I,Oe1];simp
theorem Kv.put {w g y}(h:Kv w g y [])v k(M:k<y.length):∃ u:V,
  (w.cell? (Ar g (k*3))=some (Iq u.k)/\w.frozen? ⟨g,k*3,none⟩=false)/\(w.cell? (Ar g (k*3+1))=some (Iq u.n)/\w.frozen? ⟨g,k*3+1,none⟩=false)/\(w.cell? (Ar g (k*3+2))=some (.string u.s)/\w.frozen? ⟨g,k*3+2,none⟩=false) /\
  Kv (((w.setCell (Ar g (k*3)) (Iq v.k)).setCell (Ar g (k*3+1)) (Iq v.n)).setCell (Ar g (k*3+2)) (.string v.s)) g (y.set k v) []:=by
 obtain⟨⟨h0,H,I⟩,K⟩:=h.at3 v k M;exact⟨_,h0,H,I,K⟩
theorem Jom (g:Nat)(t:Int)bs a2(m:Nat)w(h:RAt w g t bs a2)(ht:t=1\/t=2\/t=3)(bH:m<=255):
  Cq 256 #[Pq g,Iq m] w (Qg w g t a2 (Yl t m bs) fun vs v w'=>Jc9 w w' vs v):=by
 obtain⟨C,br,bx⟩:=Jl9 m zo w;have bE:=h.lt;have bD:=h.far;go_enter func256,ntmps256
 go_wp2_with fail
 clear br;go_loopw [11] (fun i wr=>∃ (k:Nat) (y:List V) (r:List UInt8),k<=m/\i=Iq k/\Yl t k bs=some (y,r)/\Kv wr w.heap.size (y++List.replicate (m-k) Jf) []/\RAt wr g t r a2/\Jt w wr g) (fun i _=>m-(intOf i).toNat)
 case atStart=>exact⟨0,[],bs,zo,rfl,rfl,by simpa using bx,h.alloc _,(Jt.refl w g).alloc _⟩
 case round=>
  obtain⟨k,y,r,bG,rfl,Y,H,Z,O⟩:=hrel;have K:=zh Y;have I:Hid (y.length=k):=Jeb t k bs r y Y;clear Y;by_cases bf:k<m
  ·have hv:=Jn7 g t r a2 wr Z ht;go_wp2_with fail
   refine hv.mono ?_;rintro e w1 ⟨M,⟨hr,rfl⟩|⟨x,rest,v,hr,rfl,rfl,bj⟩⟩
   ·go_wp2_with fail
    refine⟨rfl,Qg.up (O.trans M) (Jry t bs (k+1) ?_ m zo)⟩;rw[Jjw t bs r k y K.out,hr];rfl
   clear hv;have bz:Kv w1 w.heap.size (y++List.replicate (m-k) Jf) []:=H.of_block (M.block _ H.lt zo);have hlen:(y++List.replicate (m-k) Jf).length=m:=by rw[Oa8,I.out,Od6];omega
   obtain⟨old,⟨c0,bA⟩,⟨c1,bB⟩,⟨c2,bC⟩,U⟩:=bz.put x k (by rw[hlen];exact bf);rw[Jna y k m x I.out bf]at U;have bi:Hid _:=U;have bh:Hid (Yl t (k+1) bs=some (y++[x],rest)):=by
    show _=_;rw[Jjw t bs r k y K.out,hr];rfl
   clear U hlen hr;go_wp2;go_roundw
   case rel=>
    refine⟨k+1,y++[x],rest,zo,zn,bh.out,bi.out,?_,?_⟩
    ·exact((bj.setOther zo zo _ _).setOther zo zo _ _).setOther zo zo _ _
    exact(((O.trans M).setNew (Oa2 _) _ _).setNew (Oa2 _) _ _).setNew (Oa2 _) _ _
   case measure=>simp[intOf];omega
  have bk:k=m:=zo;subst bk;go_wp2;go_ret
  rw[Oe1,List.replicate_zero,Od7]at H;refine Qg.ok O K.out ⟨w.heap.size,?_,Oa2 _,H⟩ Z;rw[I.out];rfl
def Jbq (t least:Int)(d:Nat):V:=⟨t,wrap64 (IntKind.u64.wrap (IntKind.u64.wrap least+(d:Int))),⟨#[]⟩⟩
theorem RAt.of_block {w w' g t bs a2}(h:RAt w g t bs a2)(e:w'.heap[g]?=w.heap[g]?)(y:w'.heap[4]?=w.heap[4]?):RAt w' g t bs a2:=
 ⟨h.far,by rw[e];exact h.cells,by rw[Oc3 (w:=w) y];exact h.form,h.len⟩
theorem Jon (g:Nat)(t:Int)(bs:List UInt8)a2(least:Int)a(cap:Nat)(ns:List Nat)w(h:RAt w g t bs a2)(bC:ns.length<=64)(bh:Uh w a (ns.map uv)):
  Cq 289 #[Pq g,Iq least,.slice a ns.length cap] w fun e w'=>(∃ v,e=.returned v/\Jc9 w w' (ns.map (Jbq t least)) v)/\Bq w w':=by
 obtain⟨C,Z,bf⟩:=Jl9 ns.length zo w;have bA:=h.lt;have bz:=h.far;go_enter func289,ntmps289
 go_wp2_with fail
 clear Z;go_loopw [15] (fun i wr=>∃ k:Nat,k<=ns.length/\i=Iq k/\Kv wr w.heap.size ((ns.take k).map (Jbq t least)++List.replicate (ns.length-k) Jf) []/\Bq w wr) (fun i _=>ns.length-(intOf i).toNat)
 case atStart=>exact⟨0,zo,rfl,by simpa using bf,(Oa5 _ _).alloc (Oa2 _) _⟩
 case round=>
  obtain⟨k,bB,rfl,K,y⟩:=hrel;by_cases H:k<ns.length
  ·obtain⟨b1,bD,rfl,bx,x1⟩:=(bh.below y).at (i:=k) (by simpa using H);rw[Od9]at x1;unfold uv at x1;have bi:wr.cell? (Aq g)=some (Iq t):=(h.below y).typ;have M:((ns.take k).map (Jbq t least)).length=k:=by simp;omega
   have hlen:((ns.take k).map (Jbq t least)++List.replicate (ns.length-k) Jf).length=ns.length:=by rw[Oa8,M,Od6];omega
   obtain⟨old,⟨c0,bj⟩,⟨c1,bk⟩,⟨c2,br⟩,I⟩:=K.put (Jbq t least ns[k]) k (by rw[hlen];exact H);rw[Jna _ k ns.length _ M H]at I;have O:(ns.take k).map (Jbq t least)++[Jbq t least ns[k]]=(ns.take (k+1)).map (Jbq t least):=by
    rw[Oc4 H,Ob8];rfl
   rw[O]at I;have U:Hid _:=I;clear I O hlen M;go_wp2;go_roundw
   case rel=>
    refine⟨k+1,zo,zn,?_,((y.setCell (p:=Ar w.heap.size (k*3)) (Oa2 _) _).setCell (p:=Ar w.heap.size (k*3+1)) (Oa2 _) _).setCell (p:=Ar w.heap.size (k*3+2)) (Oa2 _) _⟩;exact U.out
   case measure=>simp[intOf];omega
  have Y:k=ns.length:=zo;subst Y;go_wp2;go_ret
  rw[Oe1,List.replicate_zero,Od7,Of2]at K;refine⟨⟨_,rfl,w.heap.size,?_,Oa2 _,K⟩,y⟩;rw[Oa6];rfl
def Jof (w w':World)(vs:List V)(v:Value):Prop:=∃ a cap,v=.slice a vs.length cap/\Jv w' a vs/\∀ b o,a=some (Ar b o)->w.heap.size<=b
theorem Jc9.toR {w w' vs v}(h:Jc9 w w' vs v):Jof w w' vs v:=by
 obtain⟨b,rfl,hb,hr⟩:=h;refine⟨_,_,rfl,hr.vals,fun y o e=>?_⟩;simp at e;omega
theorem Jof.mono {w w1 w' vs v}(h:Jof w1 w' vs v)(hs:w.heap.size<=w1.heap.size):Jof w w' vs v:=by
 obtain⟨a,cap,rfl,hv,hb⟩:=h;exact⟨_,_,rfl,hv,fun b o e=>Ob2 hs (hb b o e)⟩
def Ux (t:Int)(m:Nat)(bs:List UInt8):Option (List V×List UInt8):=
 if t=2 then (Yj 1 m bs).map fun x=>(x.1.map (Jbq t 0),x.2)
 else if m=0 then some ([],bs)
 else match Jc7 bs with
  |none=>none
  |some (least,r)=>match Ur r with
   |none=>none
   |some (y,H)=>if y<=64 then (Yj y m H).map fun x=>(x.1.map (Jbq t least),x.2)else none
theorem Kt {y count bs rest ns}(h:Yj y count bs=some (ns,rest)):ns.length=count:=by
 unfold Yj at h;split at h
 ·simp at h
 simp at h;rw[<-h.1];simp
theorem Jwz (g:Nat)(t:Int)bs a2(m:Nat)w(h:RAt w g t bs a2)(bA:m<=64):
  Cq 259 #[Pq g,Iq m] w (Qg w g t a2 (Ux t m bs) fun vs v w'=>Jof w w' vs v):=by
 have bK:=h.lt;have c0:=h.typ;by_cases H:t=2
 ·subst H;have I:=Jas g 2 bs a2 1 m w h zo bA;simp only[Int.natCast_one]at I;go_enter func259,ntmps259
  go_wp2_with fail
  refine I.mono ?_;rintro e w1 ⟨y,⟨hr,rfl⟩|⟨ns,rest,v,hr,rfl,⟨b,rfl,hb,bj⟩,U⟩⟩
  ·go_wp2_with fail
   exact⟨rfl,Qg.up y (by simp[Ux,hr])⟩
  have bh:=Kt hr;clear I;have Z:=Jon g 2 rest a2 0 (some (Aq b)) ns.length ns w1 U zo bj;clear bh;go_wp2_with fail
  refine Z.mono ?_;rintro e bD ⟨⟨v,rfl,hv⟩,bx⟩;go_wp2_with fail
  go_ret
  exact Qg.ok (y.trans (Jt.of_below bx g)) (by simp[Ux,hr]) (hv.toR.mono y.size) (U.below bx)
 have bJ:(t==2)=false:=by simpa using H
 by_cases h0:m=0
 ·subst h0;go_enter func259,ntmps259
  go_wp2_with fail
  go_ret
  exact Qg.ok (Jt.refl _ _) (by simp[Ux,H]) ⟨none,0,rfl,.inl rfl,fun b o e=>by simp at e⟩ h
 have bI:((m:Int)==0)=false:=by rw[beq_eq_false_iff_ne];omega
 have bB:=Jmh g t bs a2 w h;go_enter func259,ntmps259
 go_wp2_with fail
 refine bB.mono ?_;rintro e w1 ⟨y,⟨hr,rfl⟩|⟨least,r,v,hr,rfl,rfl,U⟩⟩
 ·go_wp2_with fail
  exact⟨rfl,Qg.up y (by simp[Ux,H,h0,hr])⟩
 have bC:=Ja2 g t r a2 w1 U;clear bB;go_wp2_with fail
 refine bC.mono ?_;rintro e bD ⟨M,⟨K,rfl⟩|⟨O,bG,v,K,rfl,rfl,bk⟩⟩
 ·go_wp2_with fail
  exact⟨rfl,Qg.up (y.trans M) (by simp[Ux,H,h0,hr,K])⟩
 have bL:=Jgx K;clear bC;by_cases bi:O<=64
 ·have bE:((O:Int)<=64):=zo;have I:=Jas g t bG a2 O m bD bk bi bA;go_wp2_with fail
  refine(Jep _).mono ?_;rintro e w' ⟨rfl,rfl⟩;go_wp2_with fail
  refine I.mono ?_;rintro e bH ⟨bf,⟨Y,rfl⟩|⟨ns,rest,v,Y,rfl,⟨b,rfl,hb,bj⟩,br⟩⟩
  ·go_wp2_with fail
   exact⟨rfl,Qg.up ((y.trans M).trans bf) (by simp[Ux,H,h0,hr,K,Y])⟩
  have bh:=Kt Y;clear I;have Z:=Jon g t rest a2 least (some (Aq b)) ns.length ns bH br zo bj;clear bh;go_wp2_with fail
  refine Z.mono ?_;rintro e w4 ⟨⟨v,rfl,hv⟩,bz⟩;go_wp2_with fail
  go_ret
  exact Qg.ok (((y.trans M).trans bf).trans (Jt.of_below bz g)) (by simp[Ux,H,h0,hr,K,Y,bi]) (hv.toR.mono ((y.trans M).trans bf).size) (br.below bz)
 have bE:¬ ((O:Int)<=64):=zo;go_wp2_with fail
 rw[show decide ((O:Int)<=64)=false from decide_eq_false zo];refine(Jap a2 _ bk.form).mono ?_;rintro e w' ⟨rfl,rfl⟩;go_wp2_with fail
 exact⟨rfl,Qg.up (y.trans M) (by simp[Ux,H,h0,hr,K,bi])⟩
def Jdd (t:Int)(m:Nat)(bs:List UInt8):Option (List V×List UInt8):=
 match Ur bs with
 |none=>none
 |some (n,r)=>match Yl t n r with
  |none=>none
  |some (ws,y)=>match Yj 4 m y with
   |none=>none
   |some (ks,H)=>if ∀ k∈ks,k<ws.length then some (ks.map fun k=>ws.getD k Jf,H)else none
theorem Jgi {H count bs rest ns}(h:Yj H count bs=some (ns,rest)):∀ n∈ns,n<2 ^ H:=by
 unfold Yj at h;split at h
 ·simp at h
 simp at h;intro n y;rw[<-h.1]at y;obtain⟨i,_,rfl⟩:=Of0.1 y;exact Jok _ _ _
theorem Jb7 {w w' g b xs}(h:Uh w (some (Aq b)) xs)(y:Jt w w' g)(I:b≠g):Uh w' (some (Aq b)) xs:=
 h.of_block y.size fun H o e hb=>by
  simp at e;exact y.block H hb (by rw[<-e.1];exact I)
theorem Jt.over {w w1 H g G}(h:Jt w w1 g)(k:Jt w1 H G)(K:w.heap.size<=G):Jt w H g:=
 ⟨k.os.trans h.os,k.tape.trans h.tape,k.output.trans h.output,Ob2 h.size k.size,fun j y I=>(k.block j (Oc2 y h.size) zo).trans (h.block j y I)⟩
theorem Jt.more {w w1 G}(h:Jt w w1 G)i v:Jt w (w1.setCell (Ar G i) v) G:=h.trans (Jt.set _ _ _ _)
theorem Jll (g:Nat)(t:Int)bs a2(m:Nat)w(h:RAt w g t bs a2)(ht:t=1\/t=2\/t=3)(cC:m<=64):
  Cq 257 #[Pq g,Iq m] w (Qg w g t a2 (Jdd t m bs) fun vs v w'=>Jc9 w w' vs v):=by
 have cQ:=h.lt;have cP:=h.far;have bR:=Ja2 g t bs a2 w h;go_enter func257,ntmps257
 go_wp2_with fail
 refine bR.mono ?_;rintro e w1 ⟨H,⟨hr,rfl⟩|⟨n,r,v,hr,rfl,rfl,bH⟩⟩
 ·go_wp2_with fail
  exact⟨rfl,Qg.up H (by simp[Jdd,hr])⟩
 have bS:=Jgx hr;have hp:=Jom g t r a2 n w1 bH ht zo;clear bR;go_wp2_with fail
 refine hp.mono ?_;rintro e Z ⟨M,⟨K,rfl⟩|⟨ws,bZ,v,K,rfl,⟨bw,rfl,cv,bx⟩,bI⟩⟩
 ·go_wp2_with fail
  exact⟨rfl,Qg.up (H.trans M) (by simp[Jdd,hr,K])⟩
 have cS:ws.length<256:=by rw[Jeb t n r bZ ws K];exact bS
 obtain⟨C,cD,bT⟩:=Jl9 m zo Z;have bP:=Jas g t bZ a2 4 m _ (bI.alloc (.cells C 65)) zo cC;clear hp;go_wp2_with fail
 refine bP.mono ?_;rintro e bA ⟨O,⟨U,rfl⟩|⟨ks,ca,v,U,rfl,⟨cf,rfl,bO,cx⟩,bi⟩⟩
 ·go_wp2_with fail
  exact⟨rfl,Qg.up (((H.trans M).alloc _).trans O) (by simp[Jdd,hr,K,U])⟩
 have cB:=Kt U;have bX:Jdd t m bs=if ∀ k∈ks,k<ws.length then some (ks.map fun k=>ws.getD k Jf,ca)else none:=by simp only[Jdd,hr,K,U]
 have bC:Hid _:=bX;have cA:=((H.trans M).alloc (.cells C 65)).trans O;have cF:=H.size;have cG:=M.size;have bW:=bx.lt;have bU:Kv bA Z.heap.size (List.replicate m Jf) []:=bT.of_block (O.block _ zS zo);have bV:Kv bA bw ws []:=(bx.of_block ((Oa5 Z.heap.size Z).alloc (Oa2 _) (.cells C 65) |>.block bw bW)).of_block (O.block _ zt zo);simp at bO;clear bX bP cD bT hr K U H M O bH bI bx bS;go_wp2_with fail
 obtain⟨G,bj⟩:∃ G,G=Z.heap.size:=⟨_,rfl⟩;rw[<-bj];rw[<-bj]at bU;have bK:w.heap.size<=G:=zo;have cn:G≠g:=zo;have ci:G≠4:=zo;have cj:G≠bw:=zo;have cu:G≠cf:=zo;clear bj bO bW cF cG cv;go_loopw [19] (fun i wr=>∃ k:Nat,k<=m/\i=Iq k/\(∀ x∈ks.take k,x<ws.length)/\Kv wr G ((ks.take k).map (fun k=>ws.getD k Jf)++List.replicate (m-k) Jf) []/\Jt bA wr G) (fun i _=>m-(intOf i).toNat)
 case atStart=>exact⟨0,zo,rfl,zS,by simpa using bU,Jt.refl _ _⟩
 case round=>
  obtain⟨k,cR,rfl,bN,br,I⟩:=hrel;have bB:Hid _:=bN;clear bN;have bJ:RAt wr g t ca a2:=bi.of_block (I.block _ bi.lt (Oc5 cn)) (I.block _ (by have:=bi.lt;omega) (Oc5 ci));have bL:Jt w wr g:=cA.over I bK;by_cases bQ:k<m
  ·have bk:k<ks.length:=zo;obtain⟨b1,cU,bE,cN,x1⟩:=(Jb7 cx I (Oc5 cu)).at (i:=k) (by simpa using bk);simp only[Oc9,Oh2]at bE;obtain⟨rfl,rfl,_⟩:=bE;rw[Od9,Od0]at x1;unfold uv at x1;have Y:ks.take (k+1)=ks.take k++[ks[k]]:=Oc4 bk;have bD:Hid _:=Y;have cb:Hid (ks[k]∈ks):=Ob3 bk;clear Y;generalize ks[k]=q at *;have cT:IntKind.u64.wrap (ws.length:Int)=(ws.length:Int):=Jcr _ zo;by_cases bf:q<ws.length
   ·have cy:((q:Int)<(ws.length:Int)):=zo;have bz:((ks.take k).map (fun k=>ws.getD k Jf)).length=k:=by simp;omega
    have hlen:((ks.take k).map (fun k=>ws.getD k Jf)++List.replicate (m-k) Jf).length=m:=by rw[Oa8,bz,Od6];omega
    have cE:Kv wr bw ws []:=bV.of_block (I.block _ bV.lt (Oc5 cj));obtain⟨b2,cV,bG,cO,cH,cI,cJ⟩:=cE.vals.at bf;simp only[Oc9,Oh2]at bG;obtain⟨rfl,rfl,_⟩:=bG;rw[Od0]at cH cI cJ;obtain⟨old,⟨c0,cK⟩,⟨c1,cL⟩,⟨c2,cM⟩,bh⟩:=br.put ws[q] k (by rw[hlen];exact bQ);rw[Jna _ k m _ bz bQ]at bh;have Y:(ks.take k).map (fun k=>ws.getD k Jf)++[ws[q]]=(ks.take (k+1)).map (fun k=>ws.getD k Jf):=by
     rw[bD.out,Ob8];simp[bf]
    rw[Y]at bh;have cc:Hid _:=bh;clear bh Y hlen bz;go_wp2_with fail
    refine(Jep _).mono ?_;rintro e w' ⟨rfl,rfl⟩;go_wp2;go_roundw
    case rel=>
     refine⟨k+1,zo,zn,?_,cc.out,((I.more _ _).more _ _).more _ _⟩;intro x y;rw[bD.out,Od2]at y;rcases y with y|y
     ·exact bB.out x y
     simp at y;rw[y];exact bf
    case measure=>simp[intOf];omega
   have cy:¬ ((q:Int)<(ws.length:Int)):=zo;go_wp2_with fail
   refine(Jap a2 _ bJ.form).mono ?_;rintro e w' ⟨rfl,rfl⟩;go_wp2_with fail
   exact⟨rfl,Qg.up bL (by rw[bC.out,if_neg (fun hh=>bf (hh _ cb.out))])⟩
  have cz:k=m:=zo;subst cz;go_wp2;go_ret
  have bY:ks.take k=ks:=Oc8 zo;rw[Oe1,List.replicate_zero,Od7,bY]at br;have bM:=bB.out;rw[bY]at bM;refine Qg.ok bL (by rw[bC.out,if_pos bM]) ⟨G,?_,bK,br⟩ bJ;rw[Oa6,cB];rfl
def Ys:List Nat->List V->List V
 |[],_=>[]
 |h::hs,vs=>if h=1 then (vs.headD Jf)::Ys hs vs.tail else Jf::Ys hs vs
def Qs:List Nat->Nat
 |[]=>0
 |h::hs=>(if h=1 then 1 else 0)+Qs hs
theorem Jeq l h:Qs (l++[h])=Qs l+(if h=1 then 1 else 0):=by
 induction l with
 |nil=>simp[Qs]
 |cons x l y=>simp only[List.cons_append,Qs,y];omega
theorem Ja9 l k:Qs (l.take k)<=Qs l:=by
 induction l generalizing k with
 |nil=>simp[Qs]
 |cons x l y=>
  cases k with
  |zero=>simp[Qs]
  |succ k=>simp only[List.take_succ_cons,Qs];have:=y k;omega
theorem Jez hs:∀ vs,(Ys hs vs).length=hs.length:=by
 induction hs with
 |nil=>intro vs;rfl
 |cons h hs y=>intro vs;simp only[Ys];split<;>simp[y]
theorem Jxq l h:∀ vs:List V,Ys (l++[h]) vs=Ys l vs++[if h=1 then vs.getD (Qs l) Jf else Jf]:=by
 induction l with
 |nil=>intro vs;simp only[List.nil_append,Ys,Qs];cases vs<;>split<;>simp
 |cons x l H=>
  intro vs;simp only[List.cons_append,Ys,Qs,H];by_cases y:x=1
  ·simp only[y,if_true];cases vs with
   |nil=>simp
   |cons v vs=>simp[Nat.add_comm 1]
  simp[y]
theorem Jgo b hs a cap bB vs w(bO:hs.length<=64)(hh:∀ h∈hs,h<2)(hv:Qs hs<=vs.length)(bS:vs.length<=64)(bA:Uh w (some (Aq b)) (hs.map uv))(bH:Jv w a vs):
  Cq 221 #[Sq b hs.length bB,.slice a vs.length cap] w fun e w'=>(∃ v,e=.returned v/\Jc9 w w' (Ys hs vs) v)/\Bq w w':=by
 obtain⟨C,bD,bG⟩:=Jl9 hs.length zo w;go_enter func221,ntmps221
 go_wp2_with fail
 clear bD;go_loopw [6,14] (fun nx i wr=>∃ k:Nat,k<=hs.length/\i=Iq k/\nx=Iq (Qs (hs.take k):Nat)/\Kv wr w.heap.size (Ys (hs.take k) vs++List.replicate (hs.length-k) Jf) []/\Bq w wr) (fun _ i _=>hs.length-(intOf i).toNat)
 case atStart=>exact⟨0,zo,rfl,rfl,by simpa [Ys] using bG,(Oa5 _ _).alloc (Oa2 _) _⟩
 case round=>
  obtain⟨k,bN,rfl,rfl,K,H⟩:=hrel;by_cases I:k<hs.length
  ·obtain⟨b1,bT,bj,bL,x1⟩:=(bA.below H).at (i:=k) (by simpa using I);simp only[Oc9,Oh2]at bj;obtain⟨rfl,rfl,_⟩:=bj;rw[Od9,Od0]at x1;unfold uv at x1;have M:hs.take (k+1)=hs.take k++[hs[k]]:=Oc4 I;have bk:=Ja9 hs (k+1);have bR:=hh _ (Ob3 I);have bf:=Jeq (hs.take k) hs[k];have Z:=Jxq (hs.take k) hs[k] vs;rw[<-M]at bf Z;have O:=Jez (hs.take k) vs;have bh:(hs.take k).length=k:=by simp;omega
   rw[bh]at O;have hlen:(Ys (hs.take k) vs++List.replicate (hs.length-k) Jf).length=hs.length:=by rw[Oa8,O,Od6];omega
   have y:Hid _:=bf;have bi:Hid _:=Z;clear bf Z M;generalize hs[k]=q at *;by_cases hq:q=1
   ·subst hq;have br:Qs (hs.take k)<vs.length:=by have:=y.out;simp at this;omega
    have bx:Hid (vs.getD (Qs (hs.take k)) Jf=vs[Qs (hs.take k)]):=by show _=_;simp[br]
    have Y:Hid (Qs (hs.take (k+1))=Qs (hs.take k)+1):=by show _=_;rw[y.out];rfl
    obtain⟨b2,bU,rfl,bM,bV,bW,bX⟩:=(bH.below H).at br;obtain⟨old,⟨c0,bI⟩,⟨c1,bJ⟩,⟨c2,bK⟩,U⟩:=K.put vs[Qs (hs.take k)] k (by rw[hlen];exact I);rw[Jna _ k hs.length _ O I]at U;have M:Ys (hs.take k) vs++[vs[Qs (hs.take k)]]=Ys (hs.take (k+1)) vs:=by
     rw[bi.out,if_pos rfl,bx.out]
    rw[M]at U;have bz:Hid _:=U;have bP:(0:Int)<=(Qs (hs.take k):Nat)/\((Qs (hs.take k):Nat):Int)<(vs.length:Int):=zo;clear U M hlen O bh bk y;generalize Qs (hs.take k)=p at *;go_wp2;go_roundw
    case rel=>
     refine⟨k+1,zo,zn,?_,bz.out,((H.setCell (p:=Ar w.heap.size (k*3)) (Oa2 _) _).setCell (p:=Ar w.heap.size (k*3+1)) (Oa2 _) _).setCell (p:=Ar w.heap.size (k*3+2)) (Oa2 _) _⟩;rw[Y.out];go_num
    case measure=>simp[intOf];omega
   have bQ:((q:Int)==1)=false:=by rw[beq_eq_false_iff_ne];omega
   have Y:Hid (Qs (hs.take (k+1))=Qs (hs.take k)):=by show _=_;rw[y.out,if_neg hq];rfl
   have bE:Kv wr w.heap.size (Ys (hs.take (k+1)) vs++List.replicate (hs.length-(k+1)) Jf) []:=by
    have e:hs.length-k=hs.length-(k+1)+1:=zo;rw[bi.out,if_neg hq,Od8];rw[e,List.replicate_succ]at K;exact K
   clear hlen O bh bk y;go_wp2;go_roundw
   case rel=>
    refine⟨k+1,zo,zn,?_,bE,H⟩;rw[Y.out]
   case measure=>simp[intOf];omega
  have bC:k=hs.length:=zo;subst bC;go_wp2;go_ret
  rw[Oe1,List.replicate_zero,Od7,Of2]at K;refine⟨⟨_,rfl,w.heap.size,?_,Oa2 _,K⟩,H⟩;rw[Jez];rfl
end
section
open Go.RowKit
def Jdr (t:Int):Nat->Nat->List UInt8->Option (List V×List UInt8)
 |_,0,bs=>some ([],bs)
 |0,_+1,_=>none
 |f+1,m+1,bs=>match Ur bs with
  |none=>none
  |some (n,r)=>if 1<=n/\n<=m+1 then match Qz t r with
    |none=>none
    |some (v,y)=>(Jdr t f (m+1-n) y).map fun x=>(List.replicate n v++x.1,x.2)
   else none
def Jbh (t:Int)(m:Nat)(bs:List UInt8):Option (List V×List UInt8):=Jdr t m m bs
theorem Jcn t f bs:Jdr t f 0 bs=some ([],bs):=by cases f<;>rfl
theorem Jxj t:∀ (N m f g:Nat) (bs:List UInt8),m<=N->m<=f->m<=g->Jdr t f m bs=Jdr t g m bs:=by
 intro N;induction N with
 |zero=>
  intro m f g bs H _ _;have:m=0:=zo;subst this;rw[Jcn,Jcn]
 |succ N I=>
  intro m f g bs H M O;cases m with
  |zero=>rw[Jcn,Jcn]
  |succ m=>
   obtain⟨f,rfl⟩:∃ d,f=d+1:=⟨f-1,zo⟩;obtain⟨g,rfl⟩:∃ d,g=d+1:=⟨g-1,zo⟩;rw[Jdr,Jdr];cases Ur bs with
   |none=>rfl
   |some x=>
    obtain⟨n,r⟩:=x;simp only;by_cases y:1<=n/\n<=m+1
    ·rw[if_pos y,if_pos y];cases Qz t r with
     |none=>rfl
     |some K=>simp only;rw[I (m+1-n) f g K.2 zo zo zo]
    rw[if_neg y,if_neg y]
theorem Jb9 t bs:Jbh t 0 bs=some ([],bs):=rfl
theorem Jay t m bs:Jbh t (m+1) bs=match Ur bs with
  |none=>none
  |some (n,r)=>if _h:1<=n/\n<=m+1 then match Qz t r with
    |none=>none
    |some (v,H)=>(Jbh t (m+1-n) H).map fun x=>(List.replicate n v++x.1,x.2)
   else none:=by
 unfold Jbh;rw[Jdr];cases Ur bs with
 |none=>rfl
 |some x=>
  obtain⟨n,r⟩:=x;simp only;by_cases y:1<=n/\n<=m+1
  ·rw[if_pos y,dif_pos y];cases Qz t r with
   |none=>rfl
   |some I=>simp only;rw[Jxj t m (m+1-n) m (m+1-n) I.2 zo zo (Oa2 _)]
  rw[if_neg y,dif_neg y]
theorem Jn9 {w w' B g sv y}(h:Yt w B sv y)(I:Jt w w' g)(O:g<B):Yt w' B sv y:=
 Jl h fun k K=>by
  obtain⟨M,H⟩:=Je h K;exact I.block k H zo
theorem Jrb {w w1 I g sv M B}(h:Jt w w1 g)(O:w.heap.size<=B)(ho:Yt w1 B sv M)(y:w1.grownBy I sv.ownBlock):Jt w I g:=
 ⟨y.os.trans h.os,y.tape.trans h.tape,y.output.trans h.output,Ob2 h.size y.size,fun j H K=>(y.block j (Oc2 H h.size) (fun e=>by have:=(Je ho e.symm).1;omega)).trans (h.block j H K)⟩
theorem Ka8 {w1 H g t bs a2 sv I B}(h:RAt w1 g t bs a2)(K:g<B)(ho:Yt w1 B sv I)(y:w1.grownBy H sv.ownBlock):RAt H g t bs a2:=
 h.of_block (y.block _ h.lt (fun e=>by have:=(Je ho e.symm).1;omega)) (y.block _ (by have:=h.lt;have:=h.far;omega) (fun e=>by have:=(Je ho e.symm).1;have:=h.far;omega))
theorem zaE {p:Prop}(h:p:=by
 refine(Jap a2 _ bj.form).mono ?_;rintro e w' ⟨rfl,rfl⟩;go_wp2_with fail
 exact⟨rfl,Qg.up (O.trans M) bK.out⟩):p:=h
theorem Kdl (g:Nat)(t:Int)bs a2(m:Nat)w(h:RAt w g t bs a2)(ht:t=1\/t=2\/t=3)(cD:m<=64):
  Cq 258 #[Pq g,Iq m] w (Qg w g t a2 (Jbh t m bs) fun vs v w'=>Jof w w' vs v):=by
 have bC:=h.lt;have cz:=h.far;go_enter Tryz.func258,Tryz.ntmps258
 go_wp2_with fail
 go_loopw [5] (fun sv wr=>∃ (y:List V) (r:List UInt8),y.length<=m/\Yt wr w.heap.size sv y/\Jbh t m bs=(Jbh t (m-y.length) r).map (fun x=>(y++x.1,x.2))/\RAt wr g t r a2/\Jt w wr g) (fun sv _=>m-Kgl sv)
 case atStart=>exact⟨[],bs,zS,Yt.nil _ _,zS,h,Jt.refl _ _⟩
 case round=>
  obtain⟨y,r,cJ,I,bS,U,O⟩:=hrel;obtain⟨a,cap,rfl,bU⟩:=I.vals;have Z:Hid _:=bS;clear bS;by_cases cC:y.length<m
  ·obtain⟨d,bO⟩:∃ d,m-y.length=d+1:=⟨m-y.length-1,zo⟩;have K:=zh bO;clear bO;have hs:=Ja2 g t r a2 wr U;go_wp2_with fail
   refine hs.mono ?_;rintro e w1 ⟨M,⟨hr,rfl⟩|⟨n,ci,v,hr,rfl,rfl,bj⟩⟩
   ·go_wp2_with fail
    refine⟨rfl,Qg.up (O.trans M) ?_⟩;rw[Z.out,K.out,Jay,hr];rfl
   clear hs;have cG:=Jgx hr;have bA:Hid _:=hr;clear hr;by_cases bH:1<=n/\n<=d+1
   ·have cE:((1:Int)<=(n:Int)):=zo;have cF:((n:Int)<=(m:Int)-(y.length:Int)):=by have:=K.out;omega
    go_wp2_with fail
    refine(Jep _).mono ?_;rintro e w' ⟨rfl,rfl⟩;have bV:=Jn7 g t ci a2 w' bj ht;go_wp2_with fail
    refine bV.mono ?_;rintro e bh ⟨br,⟨bx,rfl⟩|⟨x,bJ,v,bx,rfl,rfl,bM⟩⟩
    ·go_wp2_with fail
     refine⟨rfl,Qg.up ((O.trans M).trans br) ?_⟩;rw[Z.out,K.out,Jay,bA.out];simp only[bx,bH,and_self,dite_true,Option.map_none]
    clear bV;have bY:Hid (Jbh t m bs=(Jbh t (d+1-n) bJ).map (fun bX=>(y++(List.replicate n x++bX.1),bX.2))):=by
     show _=_;rw[Z.out,K.out,Jay,bA.out];simp only[bx,bH,and_self,dite_true,Option.map_map];rfl
    have bI:=(Jn9 (Jn9 I M bC) br bC);have bE:=(O.trans M).trans br;have cc:=bE.size;have Y:(Value.slice a y.length cap).ownBlock≠some bh.heap.size:=fun e=>by have:=(Je bI e).2;omega
    clear bU I M br bj U O bx;go_wp2_with fail
    obtain⟨H,bk⟩:∃ H,H=bh.heap.size:=⟨_,rfl⟩;have bz:VAt (bh.alloc (.cells #[Iq x.k,Iq x.n,.string x.s] 65)) H 0 x:=by
     rw[bk];refine⟨?_,?_,?_⟩<;>simp
    have cL:w.heap.size<=H:=zo;have bW:H<(bh.alloc (.cells #[Iq x.k,Iq x.n,.string x.s] 65)).heap.size:=by simp;omega
    have bR:=bI.alloc (.cells #[Iq x.k,Iq x.n,.string x.s] 65);have bN:=bM.alloc (.cells #[Iq x.k,Iq x.n,.string x.s] 65);have bP:=bE.alloc (.cells #[Iq x.k,Iq x.n,.string x.s] 65);rw[<-bk];rw[<-bk]at Y;generalize bh.alloc (.cells #[Iq x.k,Iq x.n,.string x.s] 65)=cM at *;clear bk bI bM bE cc;go_loopw [5,28] (fun sv i bi=>∃ k:Nat,k<=n/\i=Iq k/\Yt bi w.heap.size sv (y++List.replicate k x)/\RAt bi g t bJ a2/\Jt w bi g/\VAt bi H 0 x/\H<bi.heap.size/\sv.ownBlock≠some H) (fun _ i _=>n-(intOf i).toNat)
    case atStart=>exact⟨0,zo,rfl,by simpa using bR,bN,bP,bz,bW,Y⟩
    case round=>
     clear bR bN bP bz bW Y;obtain⟨k,cA,rfl,I,U,bG,bz,cb,Y⟩:=hrel;by_cases cB:k<n
     ·obtain⟨cn,cu,cv⟩:=bz;have cI:(y++List.replicate k x).length<=64+256:=by rw[Oa8,Od6];omega
      have bT:y++List.replicate (k+1) x=(y++List.replicate k x)++[x]:=by rw[List.replicate_succ',Od8]
      have bZ:Hid _:=bT;clear bT;generalize y++List.replicate k x=cj at *;have cH:=bG.size;go_wp2_with (at_builtin;refine Jcj zR _ _ zR w.heap.size _ cj zR (I.alloc _) _ _ x zR (by refine⟨?_,?_,?_⟩<;>simp) zo zt ?_;intro sv' w4 bL bf ca)
      go_roundw
      case rel=>
       have cf:VAt w4 H 0 x:=by
        refine VAt.of_block (w:=_) (VAt.of_block (w:=_) ⟨cn,cu,cv⟩ (Oa9 _ _ H cb)) (bf.block H zt (Oc5 Y))
       refine⟨k+1,zo,zn,by rw[bZ.out];exact bL,Ka8 (U.alloc _) bC (I.alloc _) bf,Jrb (bG.alloc _) (Oa2 _) (I.alloc _) bf,cf,?_,?_⟩
       ·have:=bf.size;simp at this;omega
       rcases ca with e|e
       ·rw[e];exact Y
       rw[e];intro bB;simp at bB;omega
      case measure=>simp[intOf];omega
     have bD:k=n:=zo;subst bD;obtain⟨a',cx,rfl,cK⟩:=I.vals;have bQ:(y++List.replicate k x).length=y.length+k:=zS;go_wp2;go_roundw
     case rel=>
      refine⟨y++List.replicate k x,bJ,by rw[bQ];have:=K.out;omega,I,?_,U,bG⟩;have e:m-(y++List.replicate k x).length=d+1-k:=by rw[bQ];have:=K.out;omega
      rw[bY.out,e];simp only[Od8]
     case measure=>
      have:=K.out;simp[Kgl];omega
   have cy:¬ (((1:Int)<=(n:Int))/\((n:Int)<=(m:Int)-(y.length:Int))):=by have:=K.out;omega
   have bK:Hid (Jbh t m bs=none):=by
    show _=_;rw[Z.out,K.out,Jay,bA.out];simp only[bH,dite_false,Option.map_none]
   by_cases bL:(1:Int)<=(n:Int)
   ·have bf:¬ ((n:Int)<=(m:Int)-(y.length:Int)):=zo;go_wp2_with fail
    rw[show decide ((n:Int)<=(m:Int)-(y.length:Int))=false from decide_eq_false zo];exact zaE
   go_wp2_with fail
   exact zaE
  have bD:y.length=m:=zo;go_wp2_with fail
  go_ret
  refine Qg.ok (x:=y) (rest:=r) O ?_ ⟨a,cap,rfl,bU,fun b o e=>?_⟩ U
  ·rw[Z.out,bD,Oe1,Jb9];simp
  have bB:(Value.slice a y.length cap).ownBlock=some b:=by rw[e];rfl
  exact(Je I bB).1
theorem Jgk g w:
  Cq 222 #[Pq g] w fun e w'=>e=.returned (.agg #[.func (.func 256) #[Pq g] #[],.func (.func 257) #[Pq g] #[],.func (.func 258) #[Pq g] #[],.func (.func 259) #[Pq g] #[]])/\Bq w w':=by
 have hone:∀ (W:World) (a:Addr) f x c,(store a (.func f x c)).run Tryz.prog W=match W.cell? a with
   | some _ => if W.frozen? a then .halt (.unsupported (.unsafePointer "a write to bytes that a string shares")) W else .ok () (W.setCell a (.func f x c))
   |none=>match W.farStore Tryz.prog a (.func f x c) (Mode.plain==.atomic)with
    |.ok (w',_)=>.ok () w'
    |.error h=>.halt h W:=fun W a f x c=>run_store Tryz.prog W a (.func f x c) .plain rfl
 go_enter Tryz.func222,Tryz.ntmps222
 go_wp2;exact bodyPost_ret (v:=.agg #[.func (.func 256) #[Pq g] #[],.func (.func 257) #[Pq g] #[],.func (.func 258) #[Pq g] #[],.func (.func 259) #[Pq g] #[]]) (by simp[results,Tryz.results222,go_sem]) rfl ⟨rfl,(Oa5 _ _).alloc (Oa2 _) _⟩
theorem Js4:(Tryz.prog.info? 383).map (fun i=>i.size)=some 1:=zK
theorem Jao y x1 x2 H w:
  (Instr.index 384 (.agg #[y,x1,x2,H]) iZ).run Tryz.prog w=.ok y w /\
  (Instr.index 384 (.agg #[y,x1,x2,H]) (Iq 1)).run Tryz.prog w=.ok x1 w /\
  (Instr.index 384 (.agg #[y,x1,x2,H]) (Iq 2)).run Tryz.prog w=.ok x2 w /\
  (Instr.index 384 (.agg #[y,x1,x2,H]) (Iq 3)).run Tryz.prog w=.ok H w:=by
 obtain⟨i,hi,hs⟩:=Oe9.1 Js4;refine⟨?_,?_,?_,?_⟩<;>simp[Instr.index,run_underlying Tryz.underlying384,run_underlying Tryz.underlying383,asIntOf,part,isAgg,sizeOf,typeInfo,hi,hs]
def Jf2:List UInt8->Option ((Nat×Nat×Nat)×List UInt8)
 |b0::b1::b2::r=>if way (b0.toNat:Int) (b1.toNat:Int)=true/\b2.toNat<=64 then some ((b0.toNat,b1.toNat,b2.toNat),r)else none
 |_=>none
theorem Kbu g bD bs a2 w(h:RAt w g bD bs a2):
  Cq 176 #[Pq g] w fun e w'=>Jt w w' g/\((Jf2 bs=none/\e=Jpu a2)\/∃ t H n rest,Jf2 bs=some ((t,H,n),rest)/\e=.returned (.tuple #[Iq (H:Nat),Iq (n:Nat)])/\RAt w' g (t:Nat) rest a2):=by
 have bA:=Ja2 g bD bs a2 w h;go_enter Tryz.func176,Tryz.ntmps176
 go_wp2_with fail
 refine bA.mono ?_;rintro e w1 ⟨bf,⟨I,rfl⟩|⟨bL,bE,v,I,rfl,rfl,O⟩⟩
 ·go_wp2_with fail
  refine⟨rfl,bf,.inl ⟨?_,rfl⟩⟩;cases bs with
  |nil=>rfl
  |cons b r=>simp[Ur]at I
 cases bs with
 |nil=>simp[Ur]at I
 |cons b0 y=>
  simp[Ur]at I;obtain⟨rfl,rfl⟩:=I;clear bA;have c0:=O.typ;have c1:=O.thaw 0;have br:=O.setTyp (t':=(b0.toNat:Int));have bh:=bf.trans (Jt.set w1 g 0 (Iq (b0.toNat:Int)));have bG:=b0.toNat_lt;have bB:=Ja2 g _ y a2 _ br;go_wp2_with fail
  refine bB.mono ?_;rintro e bP ⟨bj,⟨K,rfl⟩|⟨bM,bE,v,K,rfl,rfl,bx⟩⟩
  ·go_wp2_with fail
   refine⟨rfl,bh.trans bj,.inl ⟨?_,rfl⟩⟩;cases y with
   |nil=>rfl
   |cons b r=>simp[Ur]at K
  cases y with
  |nil=>simp[Ur]at K
  |cons b1 y=>
   simp[Ur]at K;obtain⟨rfl,rfl⟩:=K;clear bB;have bi:=bh.trans bj;clear bf bh O br c0 c1 bj;have bH:=b1.toNat_lt;have bC:=Ja2 g _ y a2 _ bx;go_wp2_with fail
   refine bC.mono ?_;rintro e bQ ⟨bk,⟨M,rfl⟩|⟨bN,bO,v,M,rfl,rfl,U⟩⟩
   ·go_wp2_with fail
    refine⟨rfl,bi.trans bk,.inl ⟨?_,rfl⟩⟩;cases y with
    |nil=>rfl
    |cons b r=>simp[Ur]at M
   cases y with
   |nil=>simp[Ur]at M
   |cons b2 y=>
    simp[Ur]at M;obtain⟨rfl,rfl⟩:=M;clear bC;have Z:=bi.trans bk;clear bi bk bx;have c0:=U.typ;have Y:Hid (Jf2 (b0::b1::b2::y)=if way (b0.toNat:Int) (b1.toNat:Int)=true/\b2.toNat<=64 then some ((b0.toNat,b1.toNat,b2.toNat),y)else none):=rfl;have bI:=b2.toNat_lt;generalize b0.toNat=t at *;generalize b1.toNat=H at *;generalize b2.toNat=n at *;go_wp2_with fail
    refine(Ja3 _ _ _).mono ?_;rintro e w' ⟨rfl,bK⟩;subst w';cases hway:way (t:Int) (H:Int)with
    |false=>
     go_wp2_with fail
     refine(Jap a2 _ U.form).mono ?_;rintro e w' ⟨rfl,rfl⟩;go_wp2_with fail
     refine⟨rfl,Z,.inl ⟨?_,rfl⟩⟩;rw[Y.out,hway];simp
    |true=>
     by_cases bz:n<=64
     ·have bJ:((n:Int)<=64):=zo;go_wp2_with fail
      refine(Jep _).mono ?_;rintro e w' ⟨rfl,rfl⟩;go_wp2_with fail
      go_ret2
      refine⟨Z,.inr ⟨t,H,n,y,?_,rfl,U⟩⟩;rw[Y.out,hway,if_pos ⟨rfl,bz⟩]
     go_wp2_with fail
     rw[show decide ((n:Int)<=64)=false from decide_eq_false zo];refine(Jap a2 _ U.form).mono ?_;rintro e w' ⟨rfl,rfl⟩;go_wp2_with fail
     refine⟨rfl,Z,.inl ⟨?_,rfl⟩⟩;rw[Y.out,if_neg (fun hh=>bz hh.2)]
def Jce (t y:Int)(m:Nat)(bs:List UInt8):Option (List V×List UInt8):=
 if y=0 then Yl t m bs else if y=1 then Jdd t m bs else if y=2 then Jbh t m bs else Ux t m bs
def Ug (t y:Int)(n:Nat)(bs:List UInt8):Option (List V×List UInt8):=
 match Yj 1 n bs with
 |none=>none
 |some (hs,r)=>(Jce t y (Qs hs) r).map fun x=>(Ys hs x.1,x.2)
theorem Jno t:∀ (N m:Nat) (bs rest:List UInt8) (vs:List V),m<=N->Jbh t m bs=some (vs,rest)->vs.length=m:=by
 intro N;induction N with
 |zero=>
  intro m bs rest vs y h;have:m=0:=zo;subst this;rw[Jb9]at h;simp at h;simp[h.1.symm]
 |succ N I=>
  intro m bs rest vs y h;cases m with
  |zero=>rw[Jb9]at h;simp at h;simp[h.1.symm]
  |succ m=>
   rw[Jay]at h;cases hb:Ur bs with
   |none=>rw[hb]at h;simp at h
   |some x=>
    obtain⟨n,r⟩:=x;rw[hb]at h;simp only at h;split at h
    ·rename_i O
     cases hv:Qz t r with
     |none=>rw[hv]at h;simp at h
     |some M=>
      obtain⟨v,K⟩:=M;rw[hv]at h;obtain⟨z,H,e⟩:=Oe9.1 h;simp only[Oj3]at e;have:=I (m+1-n) K z.2 z.1 zo H;rw[<-e.1,Oa8,Od6,this];omega
    simp at h
theorem zbb {p:Prop}(h:p:=by obtain⟨z,y,e⟩:=Oe9.1 h;simp only[Oj3]at e;rw[<-e.1,Oa6];exact Kt y):p:=h
theorem Jb1 {t I m bs rest vs}(h:Jce t I m bs=some (vs,rest)):vs.length=m:=by
 unfold Jce at h;split at h
 ·exact Jeb t m bs rest vs h
 split at h
 ·unfold Jdd at h;split at h
  ·simp at h
  split at h
  ·simp at h
  split at h
  ·simp at h
  rename_i ks K H
  split at h
  ·simp at h;rw[<-h.1,Oa6];exact Kt H
  simp at h
 split at h
 ·exact Jno t m m bs rest vs (Oa2 _) h
 unfold Ux at h;split at h
 ·exact zbb
 split at h
 ·rename_i h0
  simp at h;rw[h.1,h0];rfl
 split at h
 ·simp at h
 split at h
 ·simp at h
 split at h
 ·exact zbb
 simp at h
theorem Jky l:Qs l<=l.length:=by
 induction l with
 |nil=>simp[Qs]
 |cons x l y=>simp only[Qs,List.length_cons];split<;>omega
theorem Jp9 q(h:q<2):(if q=1 then 1 else 0)=q:=by split<;>omega
theorem zab {p:Prop}(h:p:=by
 clear H ca;go_wp2_with fail
 refine bL.mono ?_;rintro e cy ⟨⟨v,rfl,bY⟩,bk⟩;have bW:=(Y.trans I).size;go_wp2_with fail
 go_ret
 obtain⟨bb,rfl,bM,bV⟩:=bY;exact Qg.ok ((Y.trans I).trans (Jt.of_below bk g)) bG.out ⟨bb,rfl,Ob2 bW bM,bV⟩ (bK.below bk)):p:=h
theorem zao {p:Prop}(h:p:=by
 go_wp2_with fail
 exact⟨rfl,Qg.up (Y.trans I) (by rw[bi.out,O.out,H];rfl)⟩):p:=h
theorem zaz {p:Prop}(h:p:=by
 go_wp2_with fail
 exact⟨rfl,Qg.up bC (by simp[Ug,y])⟩):p:=h
theorem zaC {p:Prop}(h:p:=by refine⟨k+1,zo,zn,?_,trivial⟩;rw[bH.out];go_num):p:=h
theorem Jqf (g:Nat)(t:Int)(n:Nat)bs a2 w(h:RAt w g t bs a2)(ht:t=1\/t=2\/t=3)(bR:n<=64):
  Cq 177 #[Pq g,iZ,Iq n] w (Qg w g t a2 (Ug t 0 n bs) fun vs v w'=>Jc9 w w' vs v):=by
 have cn:=h.lt;have cj:=h.far;have bz:=Jas g t bs a2 1 n w h zo bR;go_enter Tryz.func177,Tryz.ntmps177
 go_wp2_with fail
 refine bz.mono ?_;rintro e w1 ⟨bC,⟨y,rfl⟩|⟨hs,M,v,y,rfl,⟨b,rfl,hb,bx⟩,bI⟩⟩
 ·exact zaz
 have bB:=Kt y;have bA:=Jgi y;have bS:=Jky hs;have bi:Hid (Ug t 0 n bs=(Jce t 0 (Qs hs) M).map fun x=>(Ys hs x.1,x.2)):=by show _=_;simp only[Ug,y]
 have cc:=zh bB;have bh:Hid (hs.length<=64):=by show _<=_;omega
 clear bz y bB;go_wp2_with fail
 go_loopw [8,16] (fun cb i wr=>∃ k:Nat,k<=hs.length/\i=Iq k/\cb=Iq (Qs (hs.take k):Nat)/\wr=w1) (fun _ i _=>hs.length-(intOf i).toNat)
 case atStart=>exact⟨0,zo,rfl,rfl,rfl⟩
 case round=>
  obtain⟨k,cu,rfl,rfl,rfl⟩:=hrel;by_cases bf:k<hs.length
  ·have Z:=bh.out;obtain⟨b1,cx,bj,ci,x1⟩:=bx.at (i:=k) (by simpa using bf);simp only[Oc9,Oh2]at bj;obtain⟨rfl,rfl,_⟩:=bj;rw[Od9,Od0]at x1;unfold uv at x1;have K:=Jeq (hs.take k) hs[k];rw[<-Oc4 bf]at K;have hq:=bA _ (Ob3 bf);have bT:=Ja9 hs k;generalize hs[k]=q at *;have bU:q<2:=hq;have bD:=Jp9 q bU;have cv:Qs (hs.take k)<=64:=Ob2 bT (Ob2 bS Z);clear hq;rw[bD]at K;have bH:Hid _:=K;clear K bD;generalize Qs (hs.take k)=p at *;go_wp2;go_roundw
   case rel=>
    exact zaC
   case measure=>simp[intOf];omega
  have bQ:k=hs.length:=zo;subst bQ;rw[Of2];have Z:=bh.out;go_wp2_with fail
  refine(Jgk g wr).mono ?_;rintro e bE ⟨rfl,U⟩;have bJ:=bI.below U;have bN:=bx.below U;have Y:=bC.trans (Jt.of_below U g);have bP:=(Jao (.func (.func 256) #[Pq g] #[]) (.func (.func 257) #[Pq g] #[]) (.func (.func 258) #[Pq g] #[]) (.func (.func 259) #[Pq g] #[]) bE).1;have br:=Jom g t M a2 (Qs hs) bE bJ ht zo;have O:Hid (Jce t 0 (Qs hs) M=Yl t (Qs hs) M):=rfl;go_wp2_with fail
  refine br.mono ?_;rintro e w4 ⟨I,⟨H,rfl⟩|⟨vs,rest,v,H,rfl,bX,bK⟩⟩
  ·exact zao
  have ca:=Jb1 (O.out.trans H);obtain⟨a,cap,rfl,bZ,cf⟩:=bX.toR;have bO:=Jb7 bN I zo;clear br bP;have bL:=Jgo b hs a cap hs.length vs w4 Z bA zo zo bO bZ;have bG:Hid (Ug t 0 n bs=some (Ys hs vs,rest)):=by show _=_;rw[bi.out,O.out,H];rfl
  exact zab
theorem Jq2 (g:Nat)(t:Int)(n:Nat)bs a2 w(h:RAt w g t bs a2)(ht:t=1\/t=2\/t=3)(bR:n<=64):
  Cq 177 #[Pq g,Iq 1,Iq n] w (Qg w g t a2 (Ug t 1 n bs) fun vs v w'=>Jc9 w w' vs v):=by
 have cn:=h.lt;have cj:=h.far;have bz:=Jas g t bs a2 1 n w h zo bR;go_enter Tryz.func177,Tryz.ntmps177
 go_wp2_with fail
 refine bz.mono ?_;rintro e w1 ⟨bC,⟨y,rfl⟩|⟨hs,M,v,y,rfl,⟨b,rfl,hb,bx⟩,bI⟩⟩
 ·exact zaz
 have bB:=Kt y;have bA:=Jgi y;have bS:=Jky hs;have bi:Hid (Ug t 1 n bs=(Jce t 1 (Qs hs) M).map fun x=>(Ys hs x.1,x.2)):=by show _=_;simp only[Ug,y]
 have cc:=zh bB;have bh:Hid (hs.length<=64):=by show _<=_;omega
 clear bz y bB;go_wp2_with fail
 go_loopw [8,16] (fun cb i wr=>∃ k:Nat,k<=hs.length/\i=Iq k/\cb=Iq (Qs (hs.take k):Nat)/\wr=w1) (fun _ i _=>hs.length-(intOf i).toNat)
 case atStart=>exact⟨0,zo,rfl,rfl,rfl⟩
 case round=>
  obtain⟨k,cu,rfl,rfl,rfl⟩:=hrel;by_cases bf:k<hs.length
  ·have Z:=bh.out;obtain⟨b1,cx,bj,ci,x1⟩:=bx.at (i:=k) (by simpa using bf);simp only[Oc9,Oh2]at bj;obtain⟨rfl,rfl,_⟩:=bj;rw[Od9,Od0]at x1;unfold uv at x1;have K:=Jeq (hs.take k) hs[k];rw[<-Oc4 bf]at K;have hq:=bA _ (Ob3 bf);have bT:=Ja9 hs k;generalize hs[k]=q at *;have bU:q<2:=hq;have bD:=Jp9 q bU;have cv:Qs (hs.take k)<=64:=Ob2 bT (Ob2 bS Z);clear hq;rw[bD]at K;have bH:Hid _:=K;clear K bD;generalize Qs (hs.take k)=p at *;go_wp2;go_roundw
   case rel=>
    exact zaC
   case measure=>simp[intOf];omega
  have bQ:k=hs.length:=zo;subst bQ;rw[Of2];have Z:=bh.out;go_wp2_with fail
  refine(Jgk g wr).mono ?_;rintro e bE ⟨rfl,U⟩;have bJ:=bI.below U;have bN:=bx.below U;have Y:=bC.trans (Jt.of_below U g);have bP:=(Jao (.func (.func 256) #[Pq g] #[]) (.func (.func 257) #[Pq g] #[]) (.func (.func 258) #[Pq g] #[]) (.func (.func 259) #[Pq g] #[]) bE).2.1;have br:=Jll g t M a2 (Qs hs) bE bJ ht zo;have O:Hid (Jce t 1 (Qs hs) M=Jdd t (Qs hs) M):=rfl;go_wp2_with fail
  refine br.mono ?_;rintro e w4 ⟨I,⟨H,rfl⟩|⟨vs,rest,v,H,rfl,bX,bK⟩⟩
  ·exact zao
  have ca:=Jb1 (O.out.trans H);obtain⟨a,cap,rfl,bZ,cf⟩:=bX.toR;have bO:=Jb7 bN I zo;clear br bP;have bL:=Jgo b hs a cap hs.length vs w4 Z bA zo zo bO bZ;have bG:Hid (Ug t 1 n bs=some (Ys hs vs,rest)):=by show _=_;rw[bi.out,O.out,H];rfl
  exact zab
theorem Jq6 (g:Nat)(t:Int)(n:Nat)bs a2 w(h:RAt w g t bs a2)(ht:t=1\/t=2\/t=3)(bR:n<=64):
  Cq 177 #[Pq g,Iq 2,Iq n] w (Qg w g t a2 (Ug t 2 n bs) fun vs v w'=>Jc9 w w' vs v):=by
 have cn:=h.lt;have cj:=h.far;have bz:=Jas g t bs a2 1 n w h zo bR;go_enter Tryz.func177,Tryz.ntmps177
 go_wp2_with fail
 refine bz.mono ?_;rintro e w1 ⟨bC,⟨y,rfl⟩|⟨hs,M,v,y,rfl,⟨b,rfl,hb,bx⟩,bI⟩⟩
 ·exact zaz
 have bB:=Kt y;have bA:=Jgi y;have bS:=Jky hs;have bi:Hid (Ug t 2 n bs=(Jce t 2 (Qs hs) M).map fun x=>(Ys hs x.1,x.2)):=by show _=_;simp only[Ug,y]
 have cc:=zh bB;have bh:Hid (hs.length<=64):=by show _<=_;omega
 clear bz y bB;go_wp2_with fail
 go_loopw [8,16] (fun cb i wr=>∃ k:Nat,k<=hs.length/\i=Iq k/\cb=Iq (Qs (hs.take k):Nat)/\wr=w1) (fun _ i _=>hs.length-(intOf i).toNat)
 case atStart=>exact⟨0,zo,rfl,rfl,rfl⟩
 case round=>
  obtain⟨k,cu,rfl,rfl,rfl⟩:=hrel;by_cases bf:k<hs.length
  ·have Z:=bh.out;obtain⟨b1,cx,bj,ci,x1⟩:=bx.at (i:=k) (by simpa using bf);simp only[Oc9,Oh2]at bj;obtain⟨rfl,rfl,_⟩:=bj;rw[Od9,Od0]at x1;unfold uv at x1;have K:=Jeq (hs.take k) hs[k];rw[<-Oc4 bf]at K;have hq:=bA _ (Ob3 bf);have bT:=Ja9 hs k;generalize hs[k]=q at *;have bU:q<2:=hq;have bD:=Jp9 q bU;have cv:Qs (hs.take k)<=64:=Ob2 bT (Ob2 bS Z);clear hq;rw[bD]at K;have bH:Hid _:=K;clear K bD;generalize Qs (hs.take k)=p at *;go_wp2;go_roundw
   case rel=>
    exact zaC
   case measure=>simp[intOf];omega
  have bQ:k=hs.length:=zo;subst bQ;rw[Of2];have Z:=bh.out;go_wp2_with fail
  refine(Jgk g wr).mono ?_;rintro e bE ⟨rfl,U⟩;have bJ:=bI.below U;have bN:=bx.below U;have Y:=bC.trans (Jt.of_below U g);have bP:=(Jao (.func (.func 256) #[Pq g] #[]) (.func (.func 257) #[Pq g] #[]) (.func (.func 258) #[Pq g] #[]) (.func (.func 259) #[Pq g] #[]) bE).2.2.1;have br:=Kdl g t M a2 (Qs hs) bE bJ ht zo;have O:Hid (Jce t 2 (Qs hs) M=Jbh t (Qs hs) M):=rfl;go_wp2_with fail
  refine br.mono ?_;rintro e w4 ⟨I,⟨H,rfl⟩|⟨vs,rest,v,H,rfl,bX,bK⟩⟩
  ·exact zao
  have ca:=Jb1 (O.out.trans H);obtain⟨a,cap,rfl,bZ,cf⟩:=bX;have bO:=Jb7 bN I zo;clear br bP;have bL:=Jgo b hs a cap hs.length vs w4 Z bA zo zo bO bZ;have bG:Hid (Ug t 2 n bs=some (Ys hs vs,rest)):=by show _=_;rw[bi.out,O.out,H];rfl
  exact zab
theorem Jnz (g:Nat)(t:Int)(n:Nat)bs a2 w(h:RAt w g t bs a2)(bR:n<=64):
  Cq 177 #[Pq g,Iq 3,Iq n] w (Qg w g t a2 (Ug t 3 n bs) fun vs v w'=>Jc9 w w' vs v):=by
 have cn:=h.lt;have cj:=h.far;have bz:=Jas g t bs a2 1 n w h zo bR;go_enter Tryz.func177,Tryz.ntmps177
 go_wp2_with fail
 refine bz.mono ?_;rintro e w1 ⟨bC,⟨y,rfl⟩|⟨hs,M,v,y,rfl,⟨b,rfl,hb,bx⟩,bI⟩⟩
 ·exact zaz
 have bB:=Kt y;have bA:=Jgi y;have bS:=Jky hs;have bi:Hid (Ug t 3 n bs=(Jce t 3 (Qs hs) M).map fun x=>(Ys hs x.1,x.2)):=by show _=_;simp only[Ug,y]
 have cc:=zh bB;have bh:Hid (hs.length<=64):=by show _<=_;omega
 clear bz y bB;go_wp2_with fail
 go_loopw [8,16] (fun cb i wr=>∃ k:Nat,k<=hs.length/\i=Iq k/\cb=Iq (Qs (hs.take k):Nat)/\wr=w1) (fun _ i _=>hs.length-(intOf i).toNat)
 case atStart=>exact⟨0,zo,rfl,rfl,rfl⟩
 case round=>
  obtain⟨k,cu,rfl,rfl,rfl⟩:=hrel;by_cases bf:k<hs.length
  ·have Z:=bh.out;obtain⟨b1,cx,bj,ci,x1⟩:=bx.at (i:=k) (by simpa using bf);simp only[Oc9,Oh2]at bj;obtain⟨rfl,rfl,_⟩:=bj;rw[Od9,Od0]at x1;unfold uv at x1;have K:=Jeq (hs.take k) hs[k];rw[<-Oc4 bf]at K;have hq:=bA _ (Ob3 bf);have bT:=Ja9 hs k;generalize hs[k]=q at *;have bU:q<2:=hq;have bD:=Jp9 q bU;have cv:Qs (hs.take k)<=64:=Ob2 bT (Ob2 bS Z);clear hq;rw[bD]at K;have bH:Hid _:=K;clear K bD;generalize Qs (hs.take k)=p at *;go_wp2;go_roundw
   case rel=>
    exact zaC
   case measure=>simp[intOf];omega
  have bQ:k=hs.length:=zo;subst bQ;rw[Of2];have Z:=bh.out;go_wp2_with fail
  refine(Jgk g wr).mono ?_;rintro e bE ⟨rfl,U⟩;have bJ:=bI.below U;have bN:=bx.below U;have Y:=bC.trans (Jt.of_below U g);have bP:=(Jao (.func (.func 256) #[Pq g] #[]) (.func (.func 257) #[Pq g] #[]) (.func (.func 258) #[Pq g] #[]) (.func (.func 259) #[Pq g] #[]) bE).2.2.2;have br:=Jwz g t M a2 (Qs hs) bE bJ zo;have O:Hid (Jce t 3 (Qs hs) M=Ux t (Qs hs) M):=rfl;go_wp2_with fail
  refine br.mono ?_;rintro e w4 ⟨I,⟨H,rfl⟩|⟨vs,rest,v,H,rfl,bX,bK⟩⟩
  ·exact zao
  have ca:=Jb1 (O.out.trans H);obtain⟨a,cap,rfl,bZ,cf⟩:=bX;have bO:=Jb7 bN I zo;clear br bP;have bL:=Jgo b hs a cap hs.length vs w4 Z bA zo zo bO bZ;have bG:Hid (Ug t 3 n bs=some (Ys hs vs,rest)):=by show _=_;rw[bi.out,O.out,H];rfl
  exact zab
theorem Jvo (g:Nat)(t y:Int)(n:Nat)bs a2 w(h:RAt w g t bs a2)(ht:t=1\/t=2\/t=3)(I:y=0\/y=1\/y=2\/y=3)(H:n<=64):
  Cq 177 #[Pq g,Iq y,Iq n] w (Qg w g t a2 (Ug t y n bs) fun vs v w'=>Jc9 w w' vs v):=by
 rcases I with rfl|rfl|rfl|rfl
 ·exact Jqf g t n bs a2 w h ht H
 ·exact Jq2 g t n bs a2 w h ht H
 ·exact Jq6 g t n bs a2 w h ht H
 exact Jnz g t n bs a2 w h H
end
open Go.RowKit Tryz
def Jk9 (a0 a1:Addr)(c:Int):Value:=if c=0 then .nilIface else if c=2 then (Ie 435 a1)else (Ie 435 a0)
theorem Jzm t H a cap xs w(I:xs.length<=maxLen)(K:Jv w a xs)a0 a1 a2(O:Jf0 w a0 a1 a2):
  Cq 62 #[Iq t,Iq H,.slice a xs.length cap] w fun e w'=>e=.returned (.tuple #[.string (Qw (Jev t H xs).1),Jk9 a0 a1 (Jev t H xs).2])/\Bq w w':=by
 by_cases y:way t H=true/\Jdq t xs
 ·have hb:(way t H&&Jfr t xs)=true:=by rw[Og5];exact⟨y.1,(Jfd t xs).2 y.2⟩
  by_cases M:H=1/\16<(Ym [] (Jz xs)).length
  ·have e:Jev t H xs=([],2):=by unfold Jev;rw[if_pos hb,if_pos M]
   rw[e];obtain⟨rfl,M⟩:=M;exact Jvu t a cap xs w I K _ O.c1 y.1 y.2 M
  have e:Jev t H xs=(Jav t H xs,0):=by unfold Jev;rw[if_pos hb,if_neg M]
  rw[e];rcases Jo7 t H y.1 with rfl|rfl|rfl|rfl
  ·exact Jtj t a cap xs w I K y.1 y.2
  ·exact Jja t a cap xs w I K y.1 y.2 zo
  ·exact Jtt t a cap xs w I K y.1 y.2
  exact Jp7 t a cap xs w I K y.1 y.2
 have hb:¬ (way t H&&Jfr t xs)=true:=by rw[Og5];exact fun h=>y ⟨h.1,(Jfd t xs).1 h.2⟩
 have e:Jev t H xs=([],1):=by unfold Jev;rw[if_neg hb]
 rw[e];exact Jzl t H a cap xs w I K _ O.c0 y
structure Qaq (how:Int):Prop where
 pack:∀ (t:Int) (a:Option Addr) (cap:Nat) (xs:List V) (w:World),xs.length<=maxLen->Jv w a xs->∀ (a0 a1 a2:Addr),Jf0 w a0 a1 a2 ->
  Cq 62 #[Iq t,Iq how,.slice a xs.length cap] w fun e w'=>e=.returned (.tuple #[.string (Qw (Jev t how xs).1),Jk9 a0 a1 (Jev t how xs).2])/\Bq w w'
theorem Kvf y:Qaq y:=⟨fun t a cap xs w I K a0 a1 a2 H=>Jzm t y a cap xs w I K a0 a1 a2 H⟩
theorem Kvv:Qaq 0:=by
 refine⟨fun t a cap xs w H I a0 a1 a2 K=>?_⟩;by_cases y:way t 0=true/\Jdq t xs
 ·have e:Jev t 0 xs=(Jav t 0 xs,0):=by
   unfold Jev;rw[if_pos (by rw[Og5];exact⟨y.1,(Jfd t xs).2 y.2⟩),if_neg zS]
  rw[e];exact Jtj t a cap xs w H I y.1 y.2
 have e:Jev t 0 xs=([],1):=by
  unfold Jev;rw[if_neg (by rw[Og5];exact fun h=>y ⟨h.1,(Jfd t xs).1 h.2⟩)]
 rw[e];exact Jzl t 0 a cap xs w H I _ K.c0 y
structure Kjk (how:Int):Prop where
 p:Qaq how
 vals:∀ (g:Nat) (t:Int) (n:Nat) (bs:List UInt8) (a2:Addr) (w:World),RAt w g t bs a2->(t=1\/t=2\/t=3)->(how=0\/how=1\/how=2\/how=3)->n<=64 ->
  Cq 177 #[Pq g,Iq how,Iq n] w (Qg w g t a2 (Ug t how n bs) fun vs v w'=>Jc9 w w' vs v)
theorem Kjm y:Kjk y:=
 ⟨Kvf y,fun g t n bs a2 w h ht hh H=>Jvo g t y n bs a2 w h ht hh H⟩
theorem Ki5:Kjk 0:=⟨Kvv,fun g t n bs a2 w h ht _ y=>Jqf g t n bs a2 w h ht y⟩
def Kje (bs:List UInt8):Prop:=∀ t y n r,Jf2 bs=some ((t,y,n),r)->Kjk (y:Nat)
structure Qh (w:World) (p q r:Nat) (t:Int) (sl ev:Value):Prop where
 c0:w.heap[p]?=some (.cells #[Iq t] 3 (0,0))
 c1:w.heap[q]?=some (.cells #[sl] 62 (0,0))
 c2:w.heap[r]?=some (.cells #[ev] 77 (0,0))
 pq:¬ p=q
 pr:¬ p=r
 qr:¬ q=r
theorem Qh.facts {w p q r t sl ev}(h:Qh w p q r t sl ev):
  w.cell? (Aq p)=some (Iq t)/\w.cell? (Aq q)=some sl/\w.cell? (Aq r)=some ev/\w.frozen? ⟨p,0,none⟩=false/\w.frozen? ⟨q,0,none⟩=false/\w.frozen? ⟨r,0,none⟩=false:=
 ⟨by simp[World.cell?,h.c0],by simp[World.cell?,h.c1],by simp[World.cell?,h.c2],by simp[World.frozen?,h.c0],by simp[World.frozen?,h.c1],by simp[World.frozen?,h.c2]⟩
theorem Qh.of_block {w w' p q r t sl ev}(h:Qh w p q r t sl ev)(y:w'.heap[p]?=w.heap[p]?)(H:w'.heap[q]?=w.heap[q]?)(I:w'.heap[r]?=w.heap[r]?):Qh w' p q r t sl ev:=
 ⟨by rw[y];exact h.c0,by rw[H];exact h.c1,by rw[I];exact h.c2,h.pq,h.pr,h.qr⟩
theorem Qh.lt {w p q r t sl ev}(h:Qh w p q r t sl ev):p<w.heap.size/\q<w.heap.size/\r<w.heap.size:=⟨Jd h.c0,Jd h.c1,Jd h.c2⟩
theorem Jbv {w:World}{p:Nat}{x v:Value}{ty:TypeId}(h:w.heap[p]?=some (.cells #[x] ty (0,0))):(w.setCell (Aq p) v).heap[p]?=some (.cells #[v] ty (0,0)):=by
 simp[World.setCell,Array.getElem?_modify,h]
theorem Qh.set {w p q r t t' sl ev sl' ev'}(h:Qh w p q r t sl ev):
  Qh (((w.setCell (Aq p) (Iq t')).setCell (Aq q) sl').setCell (Aq r) ev') p q r t' sl' ev':=by
 refine⟨?_,?_,?_,h.pq,h.pr,h.qr⟩
 ·rw[Oa4 _ _ _ _ (show p≠r from h.pr),Oa4 _ _ _ _ (show p≠q from h.pq)];exact Jbv h.c0
 ·rw[Oa4 _ _ _ _ (show q≠r from h.qr)];refine Jbv (x:=sl) ?_;rw[Oa4 _ _ _ _ (show q≠p from Oc5 h.pq)];exact h.c1
 refine Jbv (x:=ev) ?_;rw[Oa4 _ _ _ _ (show r≠q from Oc5 h.qr),Oa4 _ _ _ _ (show r≠p from Oc5 h.pr)];exact h.c2
theorem Qh.s0 {w p q r t t' sl ev}(h:Qh w p q r t sl ev):Qh (w.setCell (Aq p) (Iq t')) p q r t' sl ev:=
 ⟨Jbv h.c0,by rw[Oa4 _ _ _ _ (show q≠p from Oc5 h.pq)];exact h.c1,by rw[Oa4 _ _ _ _ (show r≠p from Oc5 h.pr)];exact h.c2,h.pq,h.pr,h.qr⟩
theorem Qh.s1 {w p q r t sl sl' ev}(h:Qh w p q r t sl ev):Qh (w.setCell (Aq q) sl') p q r t sl' ev:=
 ⟨by rw[Oa4 _ _ _ _ (show p≠q from h.pq)];exact h.c0,Jbv h.c1,by rw[Oa4 _ _ _ _ (show r≠q from Oc5 h.qr)];exact h.c2,h.pq,h.pr,h.qr⟩
theorem Qh.s2 {w p q r t sl ev ev'}(h:Qh w p q r t sl ev):Qh (w.setCell (Aq r) ev') p q r t sl ev':=
 ⟨by rw[Oa4 _ _ _ _ (show p≠r from h.pr)];exact h.c0,by rw[Oa4 _ _ _ _ (show q≠r from h.qr)];exact h.c1,Jbv h.c2,h.pq,h.pr,h.qr⟩
theorem Qh.drew {w p q r t sl ev}(h:Qh w p q r t sl ev):Qh w.drew p q r t sl ev:=⟨h.c0,h.c1,h.c2,h.pq,h.pr,h.qr⟩
theorem Jkv p q r t sl ev(M:∃ a l c,sl=.slice a l c)a2 I u(H:List PanicEntry)w(y:Qh w p q r t sl ev)(K:w.cell? (Aq 4)=some (Ie 435 a2)):
  CallsD prog 175 #[Pq p,Pq q,Pq r] (.panicking ({v:=.iface u I,recovered:=false}::H)) w fun e Z w'=>
   e=.returned (.tuple #[])/\Z=.panicking ({v:=.iface u I,recovered:=true}::H)/\w'=((w.setCell (Aq p) iZ).setCell (Aq q) Sz).setCell (Aq r) (Ie 435 a2):=by
 obtain⟨a,l,c,rfl⟩:=M;obtain⟨O,U,Y,bf,z1,z2⟩:=y.facts;have bh:=y.pq;have bi:=y.pr;have bj:=y.qr;refine callsD_of_wpS func175 rfl fun c₀ cs hu=>?_;apply wpS_seq;apply wpS_region;simp[wpOpsS,go_sem,recoverD,hu,ntmps175,Exit.thenS];refine wpS_cond (t:=true) (by simp[Act.eval,Array.replicate]) ?_;simp only[if_true];apply wpS_region;simp[wpOpsS,go_sem,K,O,U,Y,bf,z1,z2,bodyPostS,results,results175]
theorem Jvs p q r w:
  CallsD prog 175 #[Po p,Po q,Po r] .returning w fun e y w'=>e=.returned (.tuple #[])/\y=.returning/\w'=w:=by
 refine callsD_of_wpS func175 rfl fun c₀ cs hu=>?_;apply wpS_seq;apply wpS_region;simp[wpOpsS,go_sem,recoverD,hu,ntmps175,Exit.thenS];refine wpS_cond (t:=false) (by simp[Act.eval,Array.replicate]) ?_;simp only[Ol9,if_false];refine wpS_of_wp (wp_skip ?_);cases c₀
 simp_all [bodyPostS,results,results175]
def Jbf (bs:List UInt8):Option (Nat×Nat×List V):=
 match Jf2 bs with
 |none=>none
 |some ((t,y,n),r)=>match Ug t y n r with
  |none=>none
  |some (vs,_)=>if Jev t y vs=(bs,0)then some (t,y,vs)else none
theorem Jum {bs r t H n}(h:Jf2 bs=some ((t,H,n),r)):way t H=true/\n<=64:=by
 match bs,h with
 |b0::b1::b2::rest,h=>
  simp only[Jf2]at h;by_cases y:way (b0.toNat:Int) (b1.toNat:Int)=true/\b2.toNat<=64
  ·rw[if_pos y]at h;simp at h;obtain⟨⟨rfl,rfl,rfl⟩,_⟩:=h;exact y
  rw[if_neg y]at h;simp at h
theorem Kfn t y(h:way t y=true):t=1\/t=2\/t=3:=by
 unfold way at h;simp at h;omega
def Kd5 (w:World)(bs:List UInt8):World:=(((w.alloc (.cells #[iZ] 3)).alloc (.cells #[Sz] 62)).alloc (.cells #[.nilIface] 77)).alloc (.cells #[iZ,.string (Qw bs)] 332)
theorem Jn0 {t H n bs rest vs}(h:Ug t H n bs=some (vs,rest)):vs.length=n:=by
 unfold Ug at h;split at h
 ·simp at h
 rename_i hs r y
 obtain⟨x,_,e⟩:=Oe9.1 h;simp only[Oj3]at e;rw[<-e.1,Jez];exact Kt y
theorem Joh {w b vs y}(h:Kv w b vs y):Kv w.drew b vs y:=h
theorem Jgy {P}{c:Code}{Q a w}(h:c.wp P (Exit.then (Q .normal) (fun _ _ _=>False)) a w):c.wp P Q a w:=
 Code.wp_mono (fun e a w h=>by cases e<;>first|exact h|exact False.elim h) h
theorem Jhw (w:World)(o:Obj):(w.alloc o).heap.size=w.heap.size+1:=zS
theorem Khm (w:World)(y H I K:Obj) :
  ((((w.alloc y).alloc H).alloc I).alloc K).heap[w.heap.size]?=some y/\((((w.alloc y).alloc H).alloc I).alloc K).heap[w.heap.size+1]?=some H /\
  ((((w.alloc y).alloc H).alloc I).alloc K).heap[w.heap.size+1+1]?=some I/\((((w.alloc y).alloc H).alloc I).alloc K).heap[w.heap.size+1+1+1]?=some K:=by
 have s1:=Jhw w y;have s2:=Jhw (w.alloc y) H;have s3:=Jhw ((w.alloc y).alloc H) I;have U:=(Oh1 w y).1;have M:=(Oh1 (w.alloc y) H).1;have O:=(Oh1 ((w.alloc y).alloc H) I).1;have n3:=(Oh1 (((w.alloc y).alloc H).alloc I) K).1;rw[s1]at M s2;rw[s2]at O s3;rw[s3]at n3;refine⟨?_,?_,?_,n3⟩
 ·rw[Oa9 _ _ _ zo,Oa9 _ _ _ zo,Oa9 _ _ _ zo];exact U
 ·rw[Oa9 _ _ _ zo,Oa9 _ _ _ zo];exact M
 rw[Oa9 _ _ _ zo];exact O
theorem Jmv {Q:Ending->World->Prop}{p q r}y w1 a2(H:Qh w1 p q r 0 Sz .nilIface)(I:w1.cell? (Aq 4)=some (Ie 435 a2))(U:y[2]?.getD undef=Pq p)(Y:y[3]?.getD undef=Pq q)(Z:y[4]?.getD undef=Pq r)(hQ:Q (.returned (.tuple #[iZ,Sz,Ie 435 a2])) (((w1.setCell (Aq p) iZ).setCell (Aq q) Sz).setCell (Aq r) (Ie 435 a2))):
  bodyPostD prog Tryz.f134 Q (Exit.panic [{v:=Ie 435 a2,recovered:=false}])
   {tmps:=y,defers:=[{target:=Target.fn (Fn.func 175) #[Pq p,Pq q,Pq r],args:=#[]}]} w1:=by
 refine leaves_cons (f:=175) (args:=#[Pq p,Pq q,Pq r]) zS (by simp[go_sem]) ?_;refine(Jkv p q r 0 _ _ ⟨_,_,_,rfl⟩ a2 _ _ [] w1 H I).mono ?_;rintro e bf bh ⟨rfl,rfl,rfl⟩;obtain⟨K,M,O,bi,z1,z2⟩:=(H.set (t':=0) (sl':=Sz) (ev':=Ie 435 a2)).facts;generalize ((w1.setCell (Aq p) iZ).setCell (Aq q) Sz).setCell (Aq r) (Ie 435 a2)=W at *;simp[Leaves,settle,results,results134,go_sem,U,Y,Z,K,M,O];exact hQ
theorem Jl4 {Q:Ending->World->Prop}{p q r t sl ev}y w1(H:Qh w1 p q r t sl ev)(O:y[2]?.getD undef=Pq p)(U:y[3]?.getD undef=Pq q)(Y:y[4]?.getD undef=Pq r)(hQ:Q (.returned (.tuple #[Iq t,sl,ev])) w1):
  bodyPostD prog Tryz.f134 Q Exit.ret
   {tmps:=y,defers:=[{target:=Target.fn (Fn.func 175) #[Pq p,Pq q,Pq r],args:=#[]}]} w1:=by
 refine leaves_cons (f:=175) (args:=#[Pq p,Pq q,Pq r]) zS (by simp[go_sem]) ?_;refine(Jvs _ _ _ w1).mono ?_;rintro e Z bf ⟨rfl,rfl,rfl⟩;obtain⟨I,K,M,bh,z1,z2⟩:=H.facts;simp[Leaves,settle,results,results134,go_sem,O,U,Y,I,K,M];exact hQ
theorem zag {p:Prop}(h:p:=by
 refine Jgy ?_;go_region
 all_goals
  go_wp2_with fail
  refine Jl4 _ _ (t:=0) (sl:=Sz) (ev:=Ie 435 a2) (by repeat (first|exact I|exact I.drew|apply Qh.s0|apply Qh.s1|apply Qh.s2|apply Qh.drew)) rfl rfl rfl ⟨?_,.inl ⟨bN.out,rfl⟩⟩;repeat (first|exact K|exact K.drew|refine Below.setCell ?_ zM _|refine Below.drew ?_)):p:=h
theorem zar {p:Prop}(h:p:=by exact((bi.setCell (p:=Aq w.heap.size) (Oa2 _) _).setCell (p:=Aq (w.heap.size+1)) (by show w.heap.size<=w.heap.size+1;omega) _).setCell (p:=Aq (w.heap.size+1+1)) (by show w.heap.size<=w.heap.size+1+1;omega) _):p:=h
theorem Ki3 bs(hW:Kje bs)w(hl:bs.length<=maxLen)a0 a1 a2(br:Jf0 w a0 a1 a2):
  Cq 134 #[.string (Qw bs)] w fun e w'=>Bq w w'/\((Jbf bs=none/\e=.returned (.tuple #[iZ,Sz,Ie 435 a2])) \/
   ∃ t O vs b,Jbf bs=some (t,O,vs)/\e=.returned (.tuple #[Iq (t:Nat),Sq b vs.length vs.length,.nilIface])/\w.heap.size<=b/\Kv w' b vs []):=by
 have cY:∀ (fn:Fn) (first cap:Array Value) (w:World),(Instr.makeFunc fn first cap).run prog w=.ok (.func fn first cap) w:=fun _ _ _ _=>rfl;have cG:=Jm br.c2;simp only at cG;obtain⟨w0,bz⟩:∃ w0,w0=Kd5 w bs:=⟨_,rfl⟩;have bD:Bq w w0:=by
  rw[bz];exact((((Oa5 _ _).alloc (Oa2 _) _).alloc zS _).alloc zt _).alloc zt _
 have cO:w0.heap.size=w.heap.size+1+1+1+1:=by rw[bz];simp[Kd5]
 obtain⟨cz,cA,cB,cC⟩:=Khm w (.cells #[iZ] 3) (.cells #[Sz] 62) (.cells #[.nilIface] 77) (.cells #[iZ,.string (Qw bs)] 332);have bL:Qh w0 w.heap.size (w.heap.size+1) (w.heap.size+1+1) 0 Sz .nilIface:=by
  rw[bz];exact⟨cz,cA,cB,zo,zo,zo⟩
 have cb:RAt w0 (w.heap.size+1+1+1) 0 bs a2:=by
  refine⟨zo,?_,(br.below bD).c2,hl⟩;rw[bz];exact cC
 clear cz cA cB cC;have bQ:=Kbu _ _ bs a2 w0 cb;go_enter_defers func134,ntmps134
 go_wp2_with fail
 rw[bz]at bQ;refine bQ.mono ?_;rw[<-bz];clear bQ;rintro e w1 ⟨bj,⟨bx,rfl⟩|⟨t,O,n,r,bx,rfl,bZ⟩⟩
 ·go_wp2_with fail
  have bO:Qh w1 w.heap.size (w.heap.size+1) (w.heap.size+1+1) 0 Sz .nilIface:=bL.of_block (bj.block _ zo zo) (bj.block _ zo zo) (bj.block _ zo zo);have bi:=bD.trans (bj.below (B:=w.heap.size) zo zo);refine Jmv _ w1 a2 bO (br.below bi).c2 rfl rfl rfl ⟨?_,.inl ⟨?_,rfl⟩⟩
  ·exact zar
  unfold Jbf;rw[bx]
 obtain⟨cy,cL⟩:=Jum bx;have cc:=hW _ _ _ _ bx;have cx:=cc.vals _ _ n r a2 w1 bZ (Kfn _ _ cy) (Jo7 _ _ cy) cL;go_wp2_with fail
 refine cx.mono ?_;clear cx;rintro e Y ⟨bR,⟨bE,rfl⟩|⟨vs,rest,v,bE,rfl,⟨b,rfl,hb,cu⟩,ca⟩⟩
 ·go_wp2_with fail
  have M:=bj.trans bR;have bO:Qh Y w.heap.size (w.heap.size+1) (w.heap.size+1+1) 0 Sz .nilIface:=bL.of_block (M.block _ zo zo) (M.block _ zo zo) (M.block _ zo zo);have bi:=bD.trans (M.below (B:=w.heap.size) zo zo);refine Jmv _ Y a2 bO (br.below bi).c2 rfl rfl rfl ⟨?_,.inl ⟨?_,rfl⟩⟩
  ·exact zar
  unfold Jbf;rw[bx];simp only[bE]
 have M:=bj.trans bR;have Z:Qh Y w.heap.size (w.heap.size+1) (w.heap.size+1+1) 0 Sz .nilIface:=bL.of_block (M.block _ zo zo) (M.block _ zo zo) (M.block _ zo zo);have bi:=bD.trans (M.below (B:=w.heap.size) zo zo);obtain⟨bG,bH,bI,bK,z1,z2⟩:=Z.facts;have c0:=ca.typ;have cN:=bj.size;have cH:w.heap.size+1+1+1<b:=zo;have cK:vs.length<=maxLen:=by
  rw[Jn0 bE];unfold maxLen;omega
 have bA:Hid (Jbf bs=if Jev t O vs=(bs,0)then some (t,O,vs)else none):=by
  show _=_;unfold Jbf;rw[bx];simp only[bE]
 clear bj bR M bx bE bZ cb bL cN bz cO bD hb;go_wp2_with fail
 obtain⟨p,hp⟩:∃ p,p=w.heap.size:=⟨_,rfl⟩;obtain⟨q,hq⟩:∃ q,q=w.heap.size+1:=⟨_,rfl⟩;obtain⟨H,bW⟩:∃ H,H=w.heap.size+1+1:=⟨_,rfl⟩;obtain⟨g,bP⟩:∃ g,g=w.heap.size+1+1+1:=⟨_,rfl⟩;have bf:Qh (Y.setCell (Aq q) (Sq b vs.length vs.length)) p q H 0 (Sq b vs.length vs.length) .nilIface:=by
  rw[hp,hq,bW];refine⟨?_,Jbv Z.c1,?_,Z.pq,Z.pr,Z.qr⟩
  ·rw[Oa4 _ _ _ _ (show w.heap.size≠w.heap.size+1 by omega)];exact Z.c0
  rw[Oa4 _ _ _ _ (show w.heap.size+1+1≠w.heap.size+1 by omega)];exact Z.c2
 have bk:Bq w (Y.setCell (Aq q) (Sq b vs.length vs.length)):=bi.setCell (p:=Aq q) (by show w.heap.size<=q;omega) _;have bV:Kv (Y.setCell (Aq q) (Sq b vs.length vs.length)) b vs []:=cu.of_block (Oa4 _ _ _ _ (show b≠q by omega));have ci:(Y.setCell (Aq q) (Sq b vs.length vs.length)).cell? (Aq g)=some (Iq (t:Int)):=by
  rw[Oc3 (w:=Y) (Oa4 _ _ _ _ (show g≠q by omega)),bP];exact c0
 have dd:w.heap.size<=p:=zo;have de:w.heap.size<=q:=zo;have bX:w.heap.size<=H:=zo;have cQ:¬ g=p/\¬ g=q/\¬ g=H/\¬ b=p/\¬ b=q/\¬ b=H:=zo;have cP:w.heap.size<=b:=zo;rw[<-bP,<-bW,<-hq,<-hp];generalize Y.setCell (Aq q) (Sq b vs.length vs.length)=bM at *;clear hp hq bW bP bG bH bI bK z1 z2 c0 Z bi cu ca cH;obtain⟨bG,bH,bI,bK,z1,z2⟩:=bf.facts;have cn:=Jm ci;simp only at cn;obtain⟨bS,bT,bU⟩:=bf.lt;have U:Cq 62 #[Iq (t:Int),Iq (O:Int),Sq b vs.length vs.length] bM.drew fun e w'=>e=.returned (.tuple #[.string (Qw (Jev t O vs).1),Jk9 a0 a1 (Jev t O vs).2])/\Bq bM w':=
  (cc.p.pack t _ _ vs _ cK (bV.vals.below ((Oa5 _ _).drew)) a0 a1 a2 (br.below bk.drew)).mono fun e w' h=>⟨h.1,Jw h.2⟩
 generalize Jev t O vs=cR at *;obtain⟨out,bY⟩:=cR;simp only at U;have da:=bf.pq;have db:=bf.pr;have dc:=bf.qr;by_cases h0:bY=0
 ·subst h0;have cj:Jk9 a0 a1 0=.nilIface:=rfl;rw[cj]at U;clear cj;by_cases bB:out=bs
  ·have cV:((Qw out).toList==(Qw bs).toList)=true:=by rw[bB];simp
   have cE:Hid (Jbf bs=some (t,O,vs)):=by
    show _=_;rw[bA.out,bB,if_pos rfl]
   clear bA bB;obtain⟨cW,cX,cJ,cS,cT,cI⟩:=cQ;have cM:=bV.lt;refine Jgy ?_;go_region_with (first|(go_at_call 62;refine U.mono ?_;rintro e w4 ⟨rfl,y⟩;obtain⟨kk,bJ⟩:=Kx y))
   all_goals
    have bh:Qh w4 p q H 0 (Sq b vs.length vs.length) .nilIface:=bf.of_block (y.block _ bS) (y.block _ bT) (y.block _ bU);have I:=bh.s2 (ev':=.nilIface);have K:Bq w (w4.setCell (Aq H) .nilIface):=(bk.trans (y.mono bk.size)).setCell (p:=Aq H) bX _;have cv:Kv (w4.setCell (Aq H) .nilIface) b vs []:=(bV.of_block (y.block _ cM)).of_block (Oa4 _ _ _ _ cI);have cU:(w4.setCell (Aq H) .nilIface).cell? (Aq g)=some (Iq (t:Int)):=by
     rw[Oc3 (w:=w4) (Oa4 _ _ _ _ cJ),Oc3 (w:=bM) (y.block _ cn)];exact ci
    clear kk bJ U y bh;obtain⟨bG,bH,bI,bK,z1,z2⟩:=I.facts;go_wp2_with fail
    generalize w4.setCell (Aq H) .nilIface=cD at *;refine Jgy ?_;go_region
    all_goals
     go_wp2_with fail
     refine Jl4 _ _ (t:=(t:Int)) (sl:=Sq b vs.length vs.length) (ev:=.nilIface) (by repeat (first|exact I|exact I.drew|apply Qh.s0|apply Qh.s1|apply Qh.s2|apply Qh.drew)) rfl rfl rfl ⟨?_,.inr ⟨t,O,vs,b,cE.out,rfl,cP,?_⟩⟩
     ·repeat (first|exact K|exact K.drew|refine Below.setCell ?_ zM _|refine Below.drew ?_)
     repeat (first|exact cv|exact Joh cv|refine Kv.of_block ?_ (Oa4 _ _ _ _ zM)|refine Joh ?_)
  have cZ:((Qw out).toList==(Qw bs).toList)=false:=by
   rw[beq_eq_false_iff_ne,Og4,Og4];simpa [Qw] using bB
  have bN:Hid (Jbf bs=none):=by
   show _=_;rw[bA.out,if_neg (by simp[bB])]
  clear bA bB;refine Jgy ?_;go_region_with (first|(go_at_call 62;refine U.mono ?_;rintro e w4 ⟨rfl,y⟩;obtain⟨kk,bJ⟩:=Kx y))
  all_goals
   have bh:Qh w4 p q H 0 (Sq b vs.length vs.length) .nilIface:=bf.of_block (y.block _ bS) (y.block _ bT) (y.block _ bU);have I:=bh.s2 (ev':=.nilIface);have K:Bq w (w4.setCell (Aq H) .nilIface):=(bk.trans (y.mono bk.size)).setCell (p:=Aq H) bX _;clear kk bJ U y bh;obtain⟨bG,bH,bI,bK,z1,z2⟩:=I.facts;have cF:=(br.below K).c2;go_wp2_with fail
   generalize w4.setCell (Aq H) .nilIface=cD at *;exact zag
 obtain⟨bC,cf⟩:∃ bC,Jk9 a0 a1 bY=Ie 435 bC:=by
  unfold Jk9;rw[if_neg h0];split
  ·exact⟨_,rfl⟩
  ·exact⟨_,rfl⟩
 rw[cf]at U;clear cf;have bN:Hid (Jbf bs=none):=by
  show _=_;rw[bA.out,if_neg (by simp[h0])]
 clear bA h0;refine Jgy ?_;go_region_with (first|(go_at_call 62;refine U.mono ?_;rintro e w4 ⟨rfl,y⟩;obtain⟨kk,bJ⟩:=Kx y))
 all_goals
  have bh:Qh w4 p q H 0 (Sq b vs.length vs.length) .nilIface:=bf.of_block (y.block _ bS) (y.block _ bT) (y.block _ bU);have I:=bh.s2 (ev':=(Ie 435 bC));have K:Bq w (w4.setCell (Aq H) (Ie 435 bC)):=(bk.trans (y.mono bk.size)).setCell (p:=Aq H) bX _;clear kk bJ U y bh;obtain⟨bG,bH,bI,bK,z1,z2⟩:=I.facts;have cF:=(br.below K).c2;go_wp2_with fail
  generalize w4.setCell (Aq H) (Ie 435 bC)=cD at *;exact zag
