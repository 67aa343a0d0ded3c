/- The reader of a segment in memory, and its smallest steps: the next bytes are taken, or it gives up by a panic. -/
import Derived.Test.YtpchafocmlhmbaaGreatDoorKd
import Derived.Lib.ConvBytes
import Derived.Lib.Walk
import Derived.Lib.BufferWrite
set_option maxHeartbeats 1000000
set_option maxRecDepth 100000
namespace Go.Proofs.YtpchafocmlhmbaaGreatDoor
section
open Go.RowKit Tryz
structure RAt (w:World) (g:Nat) (t:Int) (bs:List UInt8) (a2:Addr):Prop where
 far:5<g
 cells:w.heap[g]?=some (.cells #[.int .i64 t,.string (Qw bs)] 371 (0,0))
 form:w.cell? ⟨5,0,none⟩=some (.iface 433 (.pointer (some a2)))
 len:bs.length≤maxLen
structure Jt (w w':World) (g:Nat):Prop where
 os:w'.os=w.os
 tape:w'.tape=w.tape
 output:w'.output=w.output
 size:w.heap.size≤w'.heap.size
 block:∀ k,k<w.heap.size→k≠g→w'.heap[k]?=w.heap[k]?
theorem Jt.refl (w:World)(g:Nat):Jt w w g:=⟨rfl,rfl,rfl,Oa2 _,fun _ _ _=>rfl⟩
theorem Jt.trans {a b c:World}{g:Nat}(h:Jt a b g)(k:Jt b c g):Jt a c g:=
 ⟨k.os.trans h.os,k.tape.trans h.tape,k.output.trans h.output,Ob2 h.size k.size,fun i hi hn=>(k.block i (Oc2 hi h.size) hn).trans (h.block i hi hn)⟩
theorem Jt.of_below {w w':World}(y:Below w.heap.size w w')(g:Nat):Jt w w' g:=⟨y.os,y.tape,y.output,y.size,fun k D _=>y.block k D⟩
theorem Jt.below {w w':World}{g B:Nat}(h:Jt w w' g)(y:B≤g)(hs:B≤w.heap.size):Below B w w':=
 ⟨h.os,h.tape,h.output,h.size,fun k D=>h.block k (by omega) (by omega)⟩
theorem RAt.lt {w:World}{g:Nat}{t:Int}{bs:List UInt8}{y:Addr}(h:RAt w g t bs y):g<w.heap.size:=Jd h.cells
theorem RAt.below {w w':World}{g:Nat}{t:Int}{bs:List UInt8}{y:Addr}(h:RAt w g t bs y)(D:Below w.heap.size w w'):RAt w' g t bs y:=
 ⟨h.far,by rw[D.block g h.lt];exact h.cells,by rw[Oc3 (w:=w) (D.block 5 (by have:=h.lt;have:=h.far;omega))];exact h.form,h.len⟩
theorem RAt.typ {w:World}{g:Nat}{t:Int}{bs:List UInt8}{y:Addr}(h:RAt w g t bs y):w.cell? ⟨g,0,none⟩=some (.int .i64 t):=by simp[World.cell?,h.cells]
theorem RAt.left {w:World}{g:Nat}{t:Int}{bs:List UInt8}{y:Addr}(h:RAt w g t bs y):w.cell? ⟨g,1,none⟩=some (.string (Qw bs)):=by simp[World.cell?,h.cells]
theorem RAt.thaw {w:World}{g:Nat}{t:Int}{bs:List UInt8}{y:Addr}(h:RAt w g t bs y)(i:Nat):w.frozen? ⟨g,i,none⟩=false:=by simp[World.frozen?,h.cells]
theorem RAt.setLeft {w:World}{g:Nat}{t:Int}{bs bs':List UInt8}{y:Addr}(h:RAt w g t bs y)(hl:bs'.length≤maxLen):RAt (w.setCell ⟨g,1,none⟩ (.string (Qw bs'))) g t bs' y:=by
 refine⟨h.far,?_,?_,hl⟩
 ·simp[World.setCell,Array.getElem?_modify,h.cells]
 rw[Oc3 (w:=w) (Oa4 _ _ _ _ (by have:=h.far;show 5≠g;omega))];exact h.form
theorem RAt.setTyp {w:World}{g:Nat}{t t':Int}{bs:List UInt8}{y:Addr}(h:RAt w g t bs y):RAt (w.setCell ⟨g,0,none⟩ (.int .i64 t')) g t' bs y:=by
 refine⟨h.far,?_,?_,h.len⟩
 ·simp[World.setCell,Array.getElem?_modify,h.cells]
 rw[Oc3 (w:=w) (Oa4 _ _ _ _ (by have:=h.far;show 5≠g;omega))];exact h.form
theorem Jt.set (w:World)(g i:Nat)(v:Value):Jt w (w.setCell ⟨g,i,none⟩ v) g:=
 ⟨rfl,rfl,rfl,by simp[World.setCell],fun k _ hn=>Oa4 _ _ _ _ hn⟩
abbrev Jpu (y:Addr):Ending:=.panicked [{v:=.iface 433 (.pointer (some y)),recovered:=false}]
def Qg {α:Type}(w:World)(g:Nat)(t:Int)(y:Addr)(r:Option (α×List UInt8))(D:α→Value→World→Prop)(e:Ending)(w':World):Prop:=
 Jt w w' g∧((r=none∧e=Jpu y)∨∃ x rest v,r=some (x,rest)∧e=.returned v∧D x v w'∧RAt w' g t rest y)
theorem Qg.up {α:Type}{w w':World}{g:Nat}{t:Int}{y:Addr}{r:Option (α×List UInt8)}{D:α→Value→World→Prop}(E:Jt w w' g)(hr:r=none):Qg w g t y r D (Jpu y) w':=⟨E,.inl ⟨hr,rfl⟩⟩
theorem Qg.ok {α:Type}{w w':World}{g:Nat}{t:Int}{D:Addr}{r:Option (α×List UInt8)}{y:α→Value→World→Prop}{x:α}{rest:List UInt8}{v:Value}(H:Jt w w' g)(hr:r=some (x,rest))(hR:y x v w')(E:RAt w' g t rest D) :
  Qg w g t D r y (.returned v) w':=⟨H,.inr ⟨x,rest,v,hr,rfl,hR,E⟩⟩
theorem Jep (w:World):Calls prog 248 #[.bool true] w fun e w'=>e=.returned (.tuple #[])∧w'=w:=by
 have y:∀ (x:Bool) (w:World),(Op.unary .not (.bool x)).run prog w=.ok (.bool (!x)) w:=fun _ _=>rfl;go_enter func248,ntmps248
 go_wp2;go_end0
 exact⟨rfl,rfl⟩
theorem Jap (y:Addr)(w:World)(h:w.cell? ⟨5,0,none⟩=some (.iface 433 (.pointer (some y)))):Calls prog 248 #[.bool false] w fun e w'=>e=Jpu y∧w'=w:=by
 have D:∀ (x:Bool) (w:World),(Op.unary .not (.bool x)).run prog w=.ok (.bool (!x)) w:=fun _ _=>rfl;go_enter func248,ntmps248
 go_wp2;exact⟨rfl,rfl,rfl⟩
theorem Jj8 (bs:List UInt8)(i j:Nat):(Qw bs).extract i j=Qw ((bs.take j).drop i):=by
 unfold Qw;rw[Om5];simp[List.extract_eq_take_drop,List.drop_take]
theorem Jud (n:Nat)(h:n<9223372036854775808):wrap64 (n:Int)=n:=by unfold wrap64;omega
def Jat (n:Nat)(bs:List UInt8):Option (List UInt8×List UInt8):=if n≤bs.length then some (bs.take n,bs.drop n)else none
theorem Jia (g:Nat)(t:Int)(bs:List UInt8)(y:Addr)(n:Nat)(w:World)(h:RAt w g t bs y) :
  Calls prog 280 #[.pointer (some ⟨g,0,none⟩),.int .i64 n] w (Qg w g t y (Jat n bs) fun x v _=>v=.string (Qw x)):=by
 have c0:=h.typ;have c1:=h.left;have c2:=h.thaw 1;have hl:=h.len;have O:=Jb2 bs;by_cases H:n≤bs.length
 ·have K:((n:Int)≤((bs.length:Nat):Int)):=by omega
  go_enter func280,ntmps280
  go_wp2_with fail
  refine(Jep _).mono ?_;rintro e w' ⟨rfl,rfl⟩;go_wp2_with fail
  go_ret
  have D:=Jj8 bs 0 n;have E:=Jj8 bs n bs.length;rw[List.drop_zero]at D;rw[Of2]at E;rw[D,E];exact Qg.ok (Jt.set _ _ _ _) (by unfold Jat;rw[if_pos H]) rfl (h.setLeft (by simp;omega))
 have K:¬ ((n:Int)≤((bs.length:Nat):Int)):=by omega
 go_enter func280,ntmps280
 go_wp2_with fail
 refine(Jap y _ h.form).mono ?_;rintro e w' ⟨rfl,rfl⟩;go_wp2_with fail
 exact⟨rfl,Qg.up (Jt.refl _ _) (by unfold Jat;rw[if_neg H])⟩
def Ur:List UInt8→Option (Nat×List UInt8)
 |[]=>none
 |b::r=>some (b.toNat,r)
theorem Jgx {bs rest:List UInt8}{n:Nat}(h:Ur bs=some (n,rest)):n<256:=by
 cases bs with
 |nil=>simp[Ur]at h
 |cons b r=>
  simp[Ur]at h;rw[←h.1];exact b.toNat_lt
theorem Ja2 (g:Nat)(t:Int)(bs:List UInt8)(y:Addr)(w:World)(h:RAt w g t bs y) :
  Calls prog 247 #[.pointer (some ⟨g,0,none⟩)] w (Qg w g t y (Ur bs) fun n v _=>v=.int .i64 (n:Int)):=by
 have D:=Jia g t bs y 1 w h;simp only[Int.natCast_one]at D;go_enter func247,ntmps247
 go_wp2_with fail
 refine D.mono ?_;rintro e w1 ⟨E,⟨hr,rfl⟩|⟨x,rest,v,hr,rfl,rfl,H⟩⟩
 ·go_wp2_with fail
  refine⟨rfl,Qg.up E ?_⟩;cases bs with
  |nil=>rfl
  |cons b r=>simp[Jat]at hr
 cases bs with
 |nil=>simp[Jat]at hr
 |cons b r=>
  simp[Jat]at hr;obtain⟨rfl,rfl⟩:=hr;have K:(Qw [b]).size=1:=rfl;have R:(0:Int)≤0∧(0:Int)<(((Qw [b]).size:Nat):Int):=by rw[K];omega
  go_wp2_with fail
  go_ret
  refine Qg.ok E rfl ?_ H;show Value.int .i64 (wrap64 (((Qw [b])[0]).toNat:Int))=.int .i64 (b.toNat:Int);have O:=b.toNat_lt;have e:(Qw [b])[0]=b:=rfl;rw[e,Jud _ (by omega)]
end
section
open Go.RowKit Tryz
def Jeh:List UInt8→Nat
 |[]=>0
 |b::r=>b.toNat+256*Jeh r
theorem Kbv (l:List UInt8):Jeh l<256 ^ l.length:=by
 induction l with
 |nil=>simp[Jeh]
 |cons b r D=>
  have y:=b.toNat_lt;simp only[Jeh,List.length_cons,Nat.pow_succ];omega
theorem Jlf (l:List UInt8)(b:UInt8):Jeh (l++[b])=Jeh l+b.toNat*256 ^ l.length:=by
 induction l with
 |nil=>simp[Jeh]
 |cons c r y=>
  simp only[List.cons_append,Jeh,y,List.length_cons,Nat.pow_succ,Nat.mul_add];have:256*(b.toNat*256 ^ r.length)=b.toNat*(256 ^ r.length*256):=by rw[Nat.mul_comm 256,Nat.mul_assoc]
  omega
def Jc7 (bs:List UInt8):Option (Int×List UInt8):=
 match Jat 8 bs with
 |none=>none
 |some (x,rest)=>some (wrap64 (Jeh x:Int),rest)
theorem Jcr (q:Nat)(h:q<18446744073709551616):IntKind.u64.wrap (q:Int)=q:=by rw[Oh5];omega
theorem Jr4 (n b k:Nat)(hn:n<2 ^ k):n ||| (b <<< k)=n+b*2 ^ k:=by
 rw[Nat.or_comm,←Nat.shiftLeft_add_eq_or_of_lt hn,Oo2];omega
theorem Jve (k:Nat):256 ^ k=2 ^ (8*k):=by rw[Nat.pow_mul]
theorem Kf7 (n b k:Nat)(K:k<8)(hn:n<256 ^ k)(H:b<256) :
  bits BinOp.or IntKind.u64 (n:Int) (IntKind.u64.wrap ((b:Int)*2 ^ (8*k)))=((n+b*256 ^ k:Nat):Int):=by
 have D:((b:Int)*2 ^ (8*k))=((b <<< (8*k):Nat):Int):=by rw[Oo2];simp
 have hp:256 ^ k≤256 ^ 7:=Nat.pow_le_pow_right (by decide) (by omega);have O:256 ^ 7=72057594037927936:=by decide
 have y:b <<< (8*k)<18446744073709551616:=by
  rw[Oo2,←Jve];have:b*256 ^ k≤255*256 ^ k:=Om8 _ (by omega);omega
 have E:=Jcr _ y;rw[D,E,u64_or_nat n _ (by omega) y];congr 1
 rw[Jr4 n b (8*k) (by rw[←Jve];exact hn),←Jve]
theorem Jt3 (x:List UInt8)(w:World):∃ cap E,(convert 9 198 (.string (Qw x))).run prog w=.ok (.slice (some ⟨w.heap.size,0,none⟩) x.length cap) E ∧
  Uh E (some ⟨w.heap.size,0,none⟩) (x.map bv)∧Below w.heap.size w E:=by
 have h:=Lib.run_convert_string_bytes (P:=prog) w 9 198 5 (Qw x) underlying9 underlying198 underlying5;rw[Jb2]at h;refine⟨_,_,h,.inr ⟨_,_,rfl,by rw[Lib.bytesWorld_size];omega,?_⟩,rfl,rfl,rfl,by rw[Lib.bytesWorld_size];omega,fun k K=>Lib.bytesWorld_at_old _ _ _ _ K⟩;intro i v hi;have D:i<x.length:=by
  rcases Oc1 i x.length with y|y
  ·exact y
  rw[Ob4 (by simpa using y)]at hi;simp at hi
 have H:=Lib.bytesWorld_cell w 5 (Qw x) i (by rw[Jb2];exact D);rw[Ob1,Oa3 D]at hi;simp at hi;subst hi;rw[Od0,H];simp[Qw,bv,D]
theorem Jmh (g:Nat)(t:Int)(bs:List UInt8)(y:Addr)(w:World)(h:RAt w g t bs y) :
  Calls prog 293 #[.pointer (some ⟨g,0,none⟩)] w (Qg w g t y (Jc7 bs) fun n v _=>v=.int .i64 n):=by
 have U:=Jia g t bs y 8 w h;go_enter func293,ntmps293
 go_wp2_with fail
 refine U.mono ?_;rintro e w1 ⟨K,⟨hr,rfl⟩|⟨x,rest,v,hr,rfl,rfl,X⟩⟩
 ·go_wp2_with fail
  exact⟨rfl,Qg.up K (by unfold Jc7;rw[hr])⟩
 have bh:x.length=8:=by
  unfold Jat at hr;split at hr
  ·simp at hr;rw[←hr.1];simp;omega
  ·simp at hr
 obtain⟨cap,bi,ba,Z,H⟩:=Jt3 x w1;rw[bh]at ba;go_wp2_with fail
 go_loopw [3,10] (fun n i wr=>∃ k:Nat,k≤8∧i=.int .i64 k∧n=.int .u64 (Jeh (x.take k):Int)∧wr=bi) (fun _ i _=>8-(intOf i).toNat)
 case atStart=>exact⟨0,by omega,rfl,rfl,rfl⟩
 case round=>
  obtain⟨k,bx,rfl,rfl,rfl⟩:=hrel;by_cases bf:k<8
  ·have R:k<x.length:=(by omega);obtain⟨b1,bB,bj,bn,c1⟩:=Z.at (i:=k) (by simpa using R);have O:=Kbv (x.take k);have D:=Jlf (x.take k) x[k];rw[←Oc4 R]at D;have bc:(x.take k).length=k:=by simp;omega
   rw[bc]at O D;have Y:=x[k].toNat_lt;simp only[Od9,bv]at c1;obtain⟨c,br⟩:∃ c:Nat,c=8*k:=⟨_,rfl⟩;have bz:IntKind.i64.wrap (8*(k:Int))=(c:Int):=by rw[Od4];omega
   generalize x[k].toNat=E at *;have bA:IntKind.u64.wrap (E:Int)=E:=by rw[Oh5];omega
   go_wp2;go_roundw
   case rel=>
    refine⟨k+1,by omega,by go_num,?_,trivial⟩;rw[D,Kf7 _ _ _ bf O Y]
   case measure=>simp[intOf];omega
  go_wp2;go_ret
  have e:x.take k=x:=Oc8 (by omega);rw[e];refine Qg.ok (K.trans (Jt.of_below H g)) (by unfold Jc7;rw[hr]) ?_ (X.below H);rfl
def Jn6 (x:List UInt8)(i:Nat):Bool:=(x.getD (i / 8) 0).toNat.testBit (i % 8)
def Zc (x:List UInt8)(i:Nat):Nat→Nat
 |0=>0
 |b+1=>Zc x i b+(if Jn6 x (i+b)then 1 else 0)*2 ^ b
theorem Jok (x:List UInt8)(i:Nat):∀ b,Zc x i b<2 ^ b:=by
 intro b;induction b with
 |zero=>simp[Zc]
 |succ b y=>
  simp only[Zc,Nat.pow_succ];split<;>omega
def Yj (y count:Nat)(bs:List UInt8):Option (List Nat×List UInt8):=
 match Jat ((y*count+7) / 8) bs with
 |none=>none
 |some (x,rest)=>some ((List.range count).map fun i=>Zc x (y*i) y,rest)
theorem Jg9 {n:Nat}{bs x rest:List UInt8}(h:Jat n bs=some (x,rest)):x.length=n:=by
 unfold Jat at h;split at h
 ·simp at h;rw[←h.1];simp;omega
 simp at h
def Khl (w w':World)(ns:List Nat)(v:Value):Prop:=∃ b,v=.slice (some ⟨b,0,none⟩) ns.length ns.length∧w.heap.size≤b∧Uh w' (some ⟨b,0,none⟩) (ns.map uv)
theorem Kcx (D y c b:Nat)(Z:b<64)(U:D<2 ^ b)(Y:y<256) :
  bits BinOp.or IntKind.u64 (D:Int) (IntKind.u64.wrap (IntKind.u64.wrap (bits BinOp.and IntKind.u8 ((y:Int) / 2 ^ c) 1)*2 ^ b))=((D+(if y.testBit c then 1 else 0)*2 ^ b:Nat):Int):=by
 have H:((y:Int) / 2 ^ c)=((y / 2 ^ c:Nat):Int):=by simp
 have X:y / 2 ^ c<256:=Nat.lt_of_le_of_lt (Oo6 _ _) Y;have K:bits BinOp.and IntKind.u8 ((y / 2 ^ c:Nat):Int) 1=((y / 2 ^ c % 2:Nat):Int):=by
  have:=u8_and_nat (y / 2 ^ c) 1 X (by decide);rw[Nat.and_one_is_mod]at this;exact this
 have O:y.testBit c=decide (y / 2 ^ c % 2=1):=On1;rw[H,K,O];have ba:y / 2 ^ c % 2<2:=Ol0 _ (by decide);generalize y / 2 ^ c % 2=m at *;have hp:2 ^ b≤2 ^ 63:=Nat.pow_le_pow_right (by decide) (by omega);have bc:2 ^ 63=9223372036854775808:=by decide
 rw[Jcr m (by omega)];have R:((m:Int)*2 ^ b)=((m <<< b:Nat):Int):=by rw[Oo2];simp
 have E:m <<< b<18446744073709551616:=by
  rw[Oo2];have:m*2 ^ b≤1*2 ^ b:=Om8 _ (by omega);omega
 rw[R,Jcr _ E,u64_or_nat D _ (by omega) E,Jr4 D m b U];have:m=0∨m=1:=by omega
 rcases this with rfl|rfl<;>simp
theorem Jnp (x:List UInt8)(q:Nat)(h:q<x.length)(W:World):(Instr.index 9 (.string (Qw x)) (.int .i64 (q:Int))).run prog W=.ok (.int .u8 ((x.getD q 0).toNat:Int)) W:=by
 have e:(Qw x).size=x.length:=Jb2 x;have y:q<(Qw x).size:=by omega
 simp[go_sem,h,y];rfl
theorem Jnu (x:List UInt8)(A:Nat)(h:A / 8<x.length)(W:World):(Instr.index 9 (.string (Qw x)) (.int .i64 ((A:Int) / 8))).run prog W=.ok (.int .u8 ((x.getD (A / 8) 0).toNat:Int)) W:=by
 have e:((A:Int) / 8)=((A / 8:Nat):Int):=by omega
 rw[e];exact Jnp x _ h W
theorem Jas (g:Nat)(t:Int)(bs:List UInt8)(X:Addr)(y count:Nat)(w:World)(h:RAt w g t bs X)(bT:y≤64)(hn:count≤64) :
  Calls prog 249 #[.pointer (some ⟨g,0,none⟩),.int .i64 y,.int .i64 count] w (Qg w g t X (Yj y count bs) fun ns v w'=>Khl w w' ns v):=by
 have bR:y*count≤64*64:=Ol5 bT hn;obtain⟨W,R⟩:∃ W:Nat,W=y*count:=⟨_,rfl⟩;have bJ:(y:Int)*(count:Int)=(W:Int):=by rw[R];simp
 obtain⟨H,bc⟩:∃ H:Nat,H=(W+7) / 8:=⟨_,rfl⟩;have bQ:((W:Int)+7) / 8=(H:Int):=by omega
 have bP:∀ W,(Instr.makeSlice 243 (.int .i64 (count:Int)) (.int .i64 (count:Int))).run prog W=.ok (.slice (some ⟨W.heap.size,0,none⟩) count count) (W.alloc (.cells (madeCells #[.int .u64 0] count) 244)):=
  fun W=>run_make_row' 243 244 (.int .u64 0) 8 (by kernel_rfl) Jiq rfl .i64 .i64 count (by omega) (by omega) W
 have bx:=Jia g t bs X H w h;have U:Hid (Yj y count bs=match Jat H bs with|none=>none|some (x,rest)=>some ((List.range count).map fun i=>Zc x (y*i) y,rest)):=by
  show _=_;unfold Yj;rw[←R,←bc]
 have bE:Hid (W=y*count):=R;have bD:Hid (H=(W+7) / 8):=bc;have bW:W≤4096:=by omega
 have cb:H≤600:=by omega
 clear R bc bR;go_enter func249,ntmps249
 go_wp2_with (go_at_call 162;refine(Jif _ _ (by omega) (by omega)).mono ?_;rintro e w' ⟨rfl,cf⟩;subst w')
 refine bx.mono ?_;rintro e w1 ⟨ba,⟨hr,rfl⟩|⟨x,rest,v,hr,rfl,rfl,O⟩⟩
 ·go_wp2_with fail
  exact⟨rfl,Qg.up ba (by rw[U.out,hr])⟩
 have bG:Hid (Yj y count bs=some ((List.range count).map fun i=>Zc x (y*i) y,rest)):=by
  show _=_;rw[U.out,hr]
 have ch:=Jg9 hr;clear U hr bx;go_wp2_with fail
 clear bP bJ bQ;go_loopw [9,22] (fun at_ i wr=>∃ k:Nat,k≤count∧i=.int .i64 k∧at_=.int .i64 ((y*k:Nat):Int)∧wr.rowIs w1.heap.size 244 count (fun j=>uv (if j<k then Zc x (y*j) y else 0))∧Below w1.heap.size w1 wr) (fun _ i _=>count-(intOf i).toNat)
 case atStart=>exact⟨0,by omega,rfl,rfl,(Ol3 _ _ _ _).congr fun j _=>by simp[uv],(Oa5 _ _).alloc (Oa2 _) _⟩
 case round=>
  obtain⟨k,bY,rfl,rfl,E,K⟩:=hrel;by_cases bB:k<count
  ·have bZ:y*k+y≤W:=by
    rw[bE.out,←Nat.mul_succ];exact Nat.mul_le_mul_left _ bB
   generalize bz:y*k=D at *;have bh:Hid (y*k=D):=bz;clear bz;go_wp2;go_loopw [9,26] (fun at_ i bC=>∃ b:Nat,b≤y∧i=.int .i64 b∧at_=.int .i64 ((D+b:Nat):Int)∧bC.rowIs w1.heap.size 244 count (fun j=>uv (if j<k then Zc x (y*j) y else if j=k then Zc x D b else 0))∧Below w1.heap.size w1 bC) (fun _ i _=>y-(intOf i).toNat)
   case atStart=>
    refine⟨0,by omega,rfl,rfl,E.congr fun j _=>?_,K⟩;by_cases e:j<k
    ·simp[e]
    simp[e,Zc]
   case round=>
    clear E K;obtain⟨b,bX,rfl,rfl,E,K⟩:=hrel;by_cases ca:b<y
    ·generalize O:D+b=A at *;have bV:A<W:=(by omega);have bf:Hid (D+b=A):=O;clear O;have cc:A / 8<H:=by rw[bD.out];omega
     have c1:=E.cell bB;have c2:=E.frozen k;have bA:=Jok x D b;have bn:Hid (Zc x D b<2 ^ b):=bA;have br:Hid (Zc x D (b+1)=Zc x D b+(if Jn6 x A then 1 else 0)*2 ^ b):=by
      show _=_;rw[←bf.out];rfl
     clear bA;simp only[Oe3,if_false,if_true,uv]at c1;generalize Zc x D b=bH at c1 bn br;have bL:=Jnu x A (by omega);have bi:Hid (Jn6 x A=(x.getD (A / 8) 0).toNat.testBit (A % 8)):=rfl;have bj:Hid ((x.getD (A / 8) 0).toNat<256):=(x.getD (A / 8) 0).toNat_lt;generalize (x.getD (A / 8) 0).toNat=bU at bL bi bj;go_wp2;go_region
     go_wp2;go_roundw
     case rel=>
      refine⟨b+1,by omega,by go_num,?_,(E.set k _).congr fun j bM=>?_,(K.setCell (p:=⟨w1.heap.size,k,none⟩) (Oa2 _) _).drew⟩
      ·have:=bf.out;rw[←this];go_num
      by_cases e:j=k
      ·subst e;simp only[if_true,Oe3,if_false];rw[Kcx bH bU (A % 8) b (by omega) bn.out bj.out,br.out,bi.out];rfl
      simp only[e,if_false]
     case measure=>simp[intOf];omega
    have bK:b=y:=(by omega);subst bK;go_wp2;go_roundw
    case rel=>
     refine⟨k+1,by omega,by go_num,?_,E.congr fun j bM=>?_,K⟩
     ·have:=bh.out;rw[Nat.mul_succ,this]
     rw[←bh.out];by_cases e:j=k
     ·subst e;simp
     have bI:(j<k+1)=(j<k):=by rw[eq_iff_iff];omega
     simp only[bI,e,if_false]
    case measure=>simp[intOf];omega
  have bN:k=count:=by omega
  subst bN;go_wp2;go_ret
  refine Qg.ok (ba.trans (Jt.of_below K g)) bG.out ?_ (O.below K);have bS:=ba.size;have bO:=E.lt;refine⟨w1.heap.size,?_,bS,.inr ⟨_,_,rfl,bO,fun i v hi=>?_⟩⟩
  ·simp only[Oa6,Op1];rfl
  have Z:i<k:=by
   rcases Oc1 i k with Y|Y
   ·exact Y
   ·rw[Ob4 (by simpa using Y)]at hi;simp at hi
  have:=E.cell Z;rw[Ob1,Ob1,Oh6 Z]at hi;simp at hi;rw[Od0,this,←hi];simp[Z]
end
section
open Go.RowKit Tryz
theorem Kcu:prog.cellsOf 5=1:=by kernel_rfl
theorem Jws (x:List UInt8)(w:World)(bj:x.length≤255) :
  Calls prog 67 #[.string (Qw x)] w fun e w'=>e=.returned (.string (Qw x))∧Below w.heap.size w w':=by
 have hs:=Jb2 x;by_cases h0:x=[]
 ·subst h0;go_enter func67,ntmps67
  go_wp2;go_ret
  exact⟨rfl,Oa5 _ _⟩
 have Z:=Oi9.2 h0;have Y:∀ W,(Instr.makeSlice 198 (.int .i64 (x.length:Int)) (.int .i64 (x.length:Int))).run prog W=.ok (.slice (some ⟨W.heap.size,0,none⟩) x.length x.length) (W.alloc (.cells (madeCells #[.int .u8 0] x.length) 5)):=
  fun W=>run_make_row' 198 5 (.int .u8 0) 1 (by kernel_rfl) Jfa rfl .i64 .i64 x.length (by omega) (by omega) W
 obtain⟨M,D⟩:∃ M,M=madeCells #[Value.int .u8 0] x.length:=⟨_,rfl⟩;have ba:M.size=x.length:=by rw[D,size_madeCells]
 rw[←D]at Y;clear D;have K:=Lib.run_copy_row_string (P:=prog) (w.alloc (.cells M 5)) 198 9 3 5 w.heap.size 0 x.length x.length (Qw x) M 5 underlying198 (by kernel_rfl) (Oh1 w _).1 (by omega) (by omega);obtain⟨y,E⟩:∃ y,y=(M.toList.take 0++Lib.byteCells (Qw x).data.toList++M.toList.drop (0+(Qw x).size)).toArray:=⟨_,rfl⟩;rw[←E]at K;have H:y.toList=Lib.byteCells x:=by
  rw[E,List.toList_toArray,List.take_zero,List.nil_append,Ol8 (by rw[Array.length_toList];omega),Od7];simp[Qw]
 have bf:y.size=x.length:=by rw[←Array.length_toList,H,Lib.byteCells_length]
 have O:((w.alloc (.cells M 5)).setRow w.heap.size y).heap[w.heap.size]?=some (.cells y 5 (0,0)):=setRow_heap _ _ M _ 5 (0,0) (Oh1 w _).1;have bc:=Lib.run_unsafeString_row (P:=prog) (w:=(w.alloc (.cells M 5)).setRow w.heap.size y) 208 3 9 5 underlying208 Kcu w.heap.size y.size (by unfold World.shape?;rw[O]) x h0 (by omega) (by omega)
  (fun j b R=>Lib.cells_of_row O y.size j _ (by rw[Oc8 (by rw[Array.length_toList];exact Oa2 _),H];simp[Lib.byteCells,R]))
 rw[hs]at K;clear E;have bn:((x.length:Int)==0)=false:=by rw[beq_eq_false_iff_ne];omega
 have bh:(0:Int)≤0∧(0:Int)<(x.length:Int):=by omega
 clear Z;go_enter func67,ntmps67
 go_wp2;go_ret
 have U:Below w.heap.size w (w.alloc (.cells M 5)):=(Oa5 _ w).alloc (Oa2 _) _;have X:Below w.heap.size (w.alloc (.cells M 5)) ((w.alloc (.cells M 5)).setRow w.heap.size y):=⟨rfl,rfl,rfl,by simp,fun k bi=>setRow_other _ _ _ _ (by omega)⟩;exact⟨rfl,Lib.below_freeze (U.trans X) (p:=⟨w.heap.size,0,none⟩) (Oa2 _) _⟩
theorem Jhm (x:List UInt8)(w:World)(D:x.length≤255) :
  Calls prog 47 #[.string (Qw x)] w fun e w'=>e=.returned (.string (Qw x))∧Below w.heap.size w w':=by
 go_enter func47,ntmps47
 go_wp2_with (go_at_call 67;refine(Jws x _ D).mono ?_;rintro e w' ⟨rfl,y⟩)
 go_ret
 exact⟨rfl,y⟩
def Jne (bs:List UInt8):Option (List UInt8×List UInt8):=
 match Ur bs with
 |none=>none
 |some (n,r)=>Jat n r
def Qz (t:Int)(bs:List UInt8):Option (V×List UInt8):=
 if t=1 then (Jc7 bs).map fun x=>(⟨1,x.1,Qw []⟩,x.2)
 else if t=2 then (Ur bs).map fun x=>(⟨2,(x.1:Int),Qw []⟩,x.2)
 else (Jne bs).map fun x=>(⟨3,0,Qw x.1⟩,x.2)
theorem Jt.alloc {w w':World}{g:Nat}(h:Jt w w' g)(o:Obj):Jt w (w'.alloc o) g:=h.trans (Jt.of_below ((Oa5 _ _).alloc (Oa2 _) _) g)
theorem RAt.alloc {w:World}{g:Nat}{t:Int}{bs:List UInt8}{y:Addr}(h:RAt w g t bs y)(o:Obj):RAt (w.alloc o) g t bs y:=h.below ((Oa5 _ _).alloc (Oa2 _) _)
theorem Jt.setNew {w w':World}{g k:Nat}(h:Jt w w' g)(D:w.heap.size≤k)(i:Nat)(v:Value):Jt w (w'.setCell ⟨k,i,none⟩ v) g:=
 ⟨h.os,h.tape,h.output,by simpa [World.setCell] using h.size,fun j y hn=>(Oa4 _ _ _ _ (by show j≠k;omega)).trans (h.block j y hn)⟩
theorem RAt.setOther {w:World}{g k:Nat}{t:Int}{bs:List UInt8}{y:Addr}(h:RAt w g t bs y)(E:k≠g)(D:k≠5)(i:Nat)(v:Value):RAt (w.setCell ⟨k,i,none⟩ v) g t bs y:=
 ⟨h.far,by rw[Oa4 _ _ _ _ (by show g≠k;omega)];exact h.cells,by rw[Oc3 (w:=w) (Oa4 _ _ _ _ (by show 5≠k;omega))];exact h.form,h.len⟩
theorem Ji3 {w w1:World}{g:Nat}{t:Int}{rest:List UInt8}{y:Addr}{o:Obj}(K:g<w.heap.size)(H:Jt (w.alloc o) w1 g)(D:RAt w1 g t rest y)(x E z:Value) :
  Jt w (((w1.setCell ⟨w.heap.size,0,none⟩ x).setCell ⟨w.heap.size,1,none⟩ E).setCell ⟨w.heap.size,2,none⟩ z) g∧RAt (((w1.setCell ⟨w.heap.size,0,none⟩ x).setCell ⟨w.heap.size,1,none⟩ E).setCell ⟨w.heap.size,2,none⟩ z) g t rest y:=by
 have hf:=D.far;exact⟨(((((Jt.refl w g).alloc o).trans H).setNew (Oa2 _) _ _).setNew (Oa2 _) _ _).setNew (Oa2 _) _ _,((D.setOther (by omega) (by omega) _ _).setOther (by omega) (by omega) _ _).setOther (by omega) (by omega) _ _⟩
theorem Jjm {w w1:World}{g:Nat}(K:g<w.heap.size)(E:Jt (w.alloc (.cells #[.int .i64 0,.int .i64 0,.string ⟨#[]⟩] 39)) w1 g)(x y z:Value) :
  (w1.setCell ⟨w.heap.size,0,none⟩ x).cell? ⟨w.heap.size,0,none⟩=some x ∧
  ((w1.setCell ⟨w.heap.size,0,none⟩ x).setCell ⟨w.heap.size,1,none⟩ y).cell? ⟨w.heap.size,1,none⟩=some y ∧
  (((w1.setCell ⟨w.heap.size,0,none⟩ x).setCell ⟨w.heap.size,1,none⟩ y).setCell ⟨w.heap.size,2,none⟩ z).cell? ⟨w.heap.size,2,none⟩=some z:=by
 have D:=E.block w.heap.size (by simp) (by omega);have H:w1.heap[w.heap.size]?=some (.cells #[.int .i64 0,.int .i64 0,.string ⟨#[]⟩] 39 (0,0)):=by rw[D];exact(Oh1 w _).1
 refine⟨?_,?_,?_⟩<;>simp[World.cell?,World.setCell,Array.getElem?_modify,H]
theorem Jjt {w w1:World}{g:Nat}(H:g<w.heap.size)(E:Jt (w.alloc (.cells #[.int .i64 0,.int .i64 0,.string ⟨#[]⟩] 39)) w1 g) :
  w1.cell? ⟨w.heap.size,0,none⟩=some (.int .i64 0)∧w1.cell? ⟨w.heap.size,1,none⟩=some (.int .i64 0)∧w1.cell? ⟨w.heap.size,2,none⟩=some (.string ⟨#[]⟩)∧∀ i,w1.frozen? ⟨w.heap.size,i,none⟩=false:=by
 have D:=E.block w.heap.size (by simp) (by omega);have y:w1.heap[w.heap.size]?=some (.cells #[.int .i64 0,.int .i64 0,.string ⟨#[]⟩] 39 (0,0)):=by rw[D];exact(Oh1 w _).1
 exact⟨by simp[World.cell?,y],by simp[World.cell?,y],by simp[World.cell?,y],fun i=>by simp[World.frozen?,y]⟩
theorem Kal (g:Nat)(bs:List UInt8)(D:Addr)(w:World)(h:RAt w g 1 bs D) :
  Calls prog 291 #[.pointer (some ⟨g,0,none⟩)] w (Qg w g 1 D (Qz 1 bs) fun v x _=>x=v.val):=by
 have E:=h.lt;have hn:=Jmh g 1 bs D _ (h.alloc (.cells #[.int .i64 0,.int .i64 0,.string ⟨#[]⟩] 39));have c0:=h.typ;go_enter func291,ntmps291
 go_wp2_with fail
 refine hn.mono ?_;rintro e w1 ⟨y,⟨hr,rfl⟩|⟨x,rest,v,hr,rfl,rfl,R⟩⟩
 ·go_wp2_with fail
  exact⟨rfl,Qg.up ((Jt.refl w g).alloc _ |>.trans y) (by simp[Qz,hr])⟩
 obtain⟨Y,Z,ba,bc⟩:=Jjt E y;go_wp2;obtain⟨H,K,O⟩:=Jjm E y (.int .i64 1) (.int .i64 x) (.string ⟨#[]⟩);obtain⟨X,U⟩:=Ji3 E y R (.int .i64 1) (.int .i64 x) (.string ⟨#[]⟩);refine bodyPost_ret (v:=.agg #[.int .i64 1,.int .i64 x,.string ⟨#[]⟩]) (by simp[results,results291,go_sem,H,K,O]) rfl ?_;exact Qg.ok (x:=⟨1,x,Qw []⟩) X (by simp[Qz,hr]) rfl U
theorem Juc (g:Nat)(bs:List UInt8)(D:Addr)(w:World)(h:RAt w g 2 bs D) :
  Calls prog 291 #[.pointer (some ⟨g,0,none⟩)] w (Qg w g 2 D (Qz 2 bs) fun v x _=>x=v.val):=by
 have E:=h.lt;have hn:=Ja2 g 2 bs D _ (h.alloc (.cells #[.int .i64 0,.int .i64 0,.string ⟨#[]⟩] 39));have c0:=h.typ;go_enter func291,ntmps291
 go_wp2_with fail
 refine hn.mono ?_;rintro e w1 ⟨y,⟨hr,rfl⟩|⟨x,rest,v,hr,rfl,rfl,R⟩⟩
 ·go_wp2_with fail
  exact⟨rfl,Qg.up ((Jt.refl w g).alloc _ |>.trans y) (by simp[Qz,hr])⟩
 obtain⟨Y,Z,ba,bc⟩:=Jjt E y;go_wp2;obtain⟨H,K,O⟩:=Jjm E y (.int .i64 2) (.int .i64 (x:Int)) (.string ⟨#[]⟩);obtain⟨X,U⟩:=Ji3 E y R (.int .i64 2) (.int .i64 (x:Int)) (.string ⟨#[]⟩);refine bodyPost_ret (v:=.agg #[.int .i64 2,.int .i64 (x:Int),.string ⟨#[]⟩]) (by simp[results,results291,go_sem,H,K,O]) rfl ?_;exact Qg.ok (x:=⟨2,(x:Int),Qw []⟩) X (by simp[Qz,hr]) rfl U
theorem Jwx (g:Nat)(bs:List UInt8)(y:Addr)(w:World)(h:RAt w g 3 bs y) :
  Calls prog 291 #[.pointer (some ⟨g,0,none⟩)] w (Qg w g 3 y (Qz 3 bs) fun v x _=>x=v.val):=by
 have E:=h.lt;have hn:=Ja2 g 3 bs y _ (h.alloc (.cells #[.int .i64 0,.int .i64 0,.string ⟨#[]⟩] 39));have c0:=h.typ;go_enter func291,ntmps291
 go_wp2_with fail
 refine hn.mono ?_;rintro e w1 ⟨H,⟨hr,rfl⟩|⟨n,rest,v,hr,rfl,rfl,ba⟩⟩
 ·go_wp2_with fail
  exact⟨rfl,Qg.up ((Jt.refl w g).alloc _ |>.trans H) (by simp[Qz,Jne,hr])⟩
 have bi:=Jgx hr;have U:=Jia g 3 rest y n w1 ba;clear hn;go_wp2_with fail
 refine U.mono ?_;rintro e bB ⟨R,⟨D,rfl⟩|⟨x,bA,v,D,rfl,rfl,bc⟩⟩
 ·go_wp2_with fail
  exact⟨rfl,Qg.up (((Jt.refl w g).alloc _ |>.trans H).trans R) (by simp[Qz,Jne,hr,D])⟩
 have bj:=Jg9 D;clear U;go_wp2_with fail
 refine(Jhm x _ (by omega)).mono ?_;rintro e bC ⟨rfl,O⟩;have K:=(H.trans R).trans (Jt.of_below O g);obtain⟨bn,br,bx,bz⟩:=Jjt E K;obtain⟨bh,bf⟩:=Ji3 E K (bc.below O) (.int .i64 3) (.int .i64 0) (.string (Qw x));clear bj bi;go_wp2;obtain⟨X,Y,Z⟩:=Jjm E K (.int .i64 3) (.int .i64 0) (.string (Qw x));refine bodyPost_ret (v:=.agg #[.int .i64 3,.int .i64 0,.string (Qw x)]) (by simp[results,results291,go_sem,X,Y,Z]) rfl ?_;exact Qg.ok (x:=⟨3,0,Qw x⟩) bh (by simp[Qz,Jne,hr,D]) rfl bf
theorem Jn7 (g:Nat)(t:Int)(bs:List UInt8)(y:Addr)(w:World)(h:RAt w g t bs y)(D:t=1∨t=2∨t=3) :
  Calls prog 291 #[.pointer (some ⟨g,0,none⟩)] w (Qg w g t y (Qz t bs) fun v x _=>x=v.val):=by
 rcases D with rfl|rfl|rfl
 ·exact Kal g bs y w h
 ·exact Juc g bs y w h
 exact Jwx g bs y w h
end
end Go.Proofs.YtpchafocmlhmbaaGreatDoor
