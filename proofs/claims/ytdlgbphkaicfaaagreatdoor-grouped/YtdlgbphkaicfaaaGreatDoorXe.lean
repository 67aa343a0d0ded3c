/- The twelve methods of Work. -/
import Derived.Test.YtdlgbphkaicfaaaGreatDoorXd
set_option maxHeartbeats 1000000
set_option maxRecDepth 100000
namespace Go.Proofs.YtdlgbphkaicfaaaGreatDoor
open Go.RowKit Go.Shelf Tryz
attribute [local go_sem] Oc0
structure Jg5 (w:World) (b:Nat) (ex ba:Value) (first n pb po k cp:Nat) (er:Value) (L Rr:Nat) (lv rv:List V) (dv ov:Addr):Prop where
 wk:Uz w b ex ba first n (.slice (some ⟨pb,po,none⟩) k cp) er
 hL:L<k
 hR:Rr<k
 hn:n≤100000
 hf:first+n≤10000000
 cL:∃ al cl,w.cell? ⟨pb,po+L,none⟩=some (.slice al lv.length cl)∧Jv w al lv
 cR:∃ ar cr,w.cell? ⟨pb,po+Rr,none⟩=some (.slice ar rv.length cr)∧Jv w ar rv
 nl:n≤lv.length
 nr:n≤rv.length
 gl:∀ i (hi:i<lv.length),i<n→Jg lv[i].n
 gr:∀ i (hi:i<rv.length),i<n→Jg rv[i].n
 err:Jdo w dv ov
theorem Jg5.below {w w':World}{b:Nat}{ex D:Value}{first n O R k cp:Nat}{H:Value}{L A:Nat}{K U:List V}{E M:Addr}(h:Jg5 w b ex D first n O R k cp H L A K U E M)(y:Below w.heap.size w w'):Jg5 w' b ex D first n O R k cp H L A K U E M:=
 ⟨h.wk.below y,h.hL,h.hR,h.hn,h.hf,by obtain⟨a,c,h1,h2⟩:=h.cL;exact⟨a,c,Ja y h1,h2.below y⟩,by obtain⟨a,c,h1,h2⟩:=h.cR;exact⟨a,c,Ja y h1,h2.below y⟩,h.nl,h.nr,h.gl,h.gr,h.err.below y⟩
def Jku (D E:Addr)(f:Nat)(H:V→V→V×Nat):Prop:=(∀ (args:Array Value) (W:World),(callFunc f args).run prog W=.ok (.enter f args) W)∧∀ x A y,Jg x.n→Jg A.n→Jdo y D E→Calls prog f #[x.val,A.val] y (Jah D E y (H x A))
theorem Jpk {w:World}{b:Nat}{ex H:Value}{first n O R k cp:Nat}{K:Value}{L E:Nat}{M U:List V}{y A:Addr}(h:Jg5 w b ex H first n O R k cp K L E M U y A)(p:Pt)(bk:p.l=L)(bl:p.r=E){f:Nat}{D:V→V→V×Nat}(X:Jku y A f D) :
  Calls prog 224 #[.pointer (some ⟨b,0,none⟩),p.val,.func (.func f) #[] #[]] w (Qa y A b ex H first n (.slice (some ⟨O,R,none⟩) k cp) K k w D M U):=by
 obtain⟨ba,bc,h1,h2⟩:=h.cL
 obtain⟨bb,bf,bh,bi⟩:=h.cR
 exact Jpe b p f #[] D (fun v=>Jg v.n) y A ex H first n O R k cp K L E ba bb bc bf M U w h.wk bk bl h.hL h.hR h.hn h.hf h1 bh h2 bi h.nl h.nr h.gl h.gr X.1 fun x bu Z bn br bj=>X.2 x bu Z bn br (h.err.below bj)
theorem Jdf {w:World}{b:Nat}{ex K:Value}{first n U X k cp:Nat}{M:Value}{L ba:Nat}{R Z:List V}{A D:Addr}(h:Jg5 w b ex K first n U X k cp M L ba R Z A D)(p:Pt)(bj:p.l=L)(bk:p.r=ba){f:Nat}{H:V→V→V×Nat}(bc:Jku A D f H) :
  Calls prog 217 #[.pointer (some ⟨b,0,none⟩),p.val,.func (.func f) #[] #[]] w (Qa A D b ex K first n (.slice (some ⟨U,X,none⟩) k cp) M k w (Kd H) R Z):=by
 obtain⟨E,O⟩:∃ E,E=(w.alloc (.cells #[.int .i64 p.op,.int .i64 p.l,.int .i64 p.r,.int .i64 p.c,.int .i64 p.v.k,.int .i64 p.v.n,.string p.v.s] 65)).alloc (.cells #[.func (.func f) #[] #[]] 382):=⟨_,rfl⟩
 have bb:Below w.heap.size w E:=by rw[O];exact Jc (Jc (Oa5 _ _) _) _
 have bh:E.cell? ⟨w.heap.size+1,0,none⟩=some (.func (.func f) #[] #[]):=by
  have:=heap_alloc_new (w.alloc (.cells #[.int .i64 p.op,.int .i64 p.l,.int .i64 p.r,.int .i64 p.c,.int .i64 p.v.k,.int .i64 p.v.n,.string p.v.s] 65)) (.cells #[.func (.func f) #[] #[]] 382)
  rw[←O,Oa7]at this
  simp[World.cell?,this]
 have bi:Calls prog 224 #[.pointer (some ⟨b,0,none⟩),p.val,.func (.func 260) #[] #[.pointer (some ⟨w.heap.size+1,0,none⟩)]] E (Qa A D b ex K first n (.slice (some ⟨U,X,none⟩) k cp) M k w (Kd H) R Z):=by
  have y:=h.below bb
  obtain⟨bu,bz,h1,h2⟩:=y.cL
  obtain⟨bx,bA,bB,bC⟩:=y.cR
  refine(Jpe b p 260 #[.pointer (some ⟨w.heap.size+1,0,none⟩)] (Kd H) (fun v=>Jg v.n) A D ex K first n U X k cp M L ba bu bx bz bA R Z E y.wk bj bk y.hL y.hR y.hn y.hf h1 bB h2 bC y.nl y.nr y.gl y.gr (fun args W=>by kernel_rfl) fun x bl bn bH bI bf=>?_).mono fun e w' bE=>bE.back bb
  exact Js9 x bl (w.heap.size+1) f H bn A D bc.1 (Ja bf bh) fun br bD=>bc.2 x bl br bH bI (y.err.below (Jb bf bD))
 rw[O]at bi
 clear bh bb O h bc bj bk
 go_enter func217,ntmps217
 go_wp2_with (go_at_call 224;refine bi.mono ?_;rintro e bJ ⟨g,m,vs,rfl,bG⟩)
 go_ret
 exact⟨g,m,vs,rfl,bG⟩
theorem Kf4 (y A:Addr):Jku y A 218 Jik:=⟨fun args W=>by kernel_rfl,fun x M D H K E=>Kdj x M D y A E H K⟩
theorem Kds (y A:Addr):Jku y A 219 Jiw:=⟨fun args W=>by kernel_rfl,fun x M D H K E=>Ka9 x M D y A E H K⟩
theorem Kc1 (y A:Addr):Jku y A 220 Jkj:=⟨fun args W=>by kernel_rfl,fun x M D H K E=>Jyn x M D y A E H K⟩
theorem Kgf (y A:Addr):Jku y A 221 Jg4:=⟨fun args W=>by kernel_rfl,fun x M D H K E=>Kce x M D y A E H K⟩
theorem Kc9 (y A:Addr):Jku y A 222 Jsg:=⟨fun args W=>by kernel_rfl,fun x E D _ _ _=>Jzy x E D y A⟩
theorem Kbj (y A:Addr):Jku y A 223 Jkc:=⟨fun args W=>by kernel_rfl,fun x E D _ _ _=>Jxr x E D y A⟩
theorem Key (y A:Addr):Jku y A 225 Jse:=⟨fun args W=>by kernel_rfl,fun x E D _ _ _=>Kay x E D y A⟩
theorem Jv9 (y A:Addr):Jku y A 226 orR:=⟨fun args W=>by kernel_rfl,fun x E D _ _ _=>Js1 x E D y A⟩
theorem Kf2 (y A:Addr):Jku y A 228 Ju0:=⟨fun args W=>by kernel_rfl,fun x E D _ _ _=>Ke4 x E D y A⟩
theorem Kd6 (y A:Addr):Jku y A 229 Jle:=⟨fun args W=>by kernel_rfl,fun x E D _ _ _=>Jyo x E D y A⟩
theorem Jmc (p:Pt)(w:World):Calls prog 227 #[p.val] w fun e w'=>e=.returned (Pt.mk p.op p.l p.l p.c p.v).val∧Below w.heap.size w w':=by
 go_enter func227,ntmps227
 go_wp2
 exact bodyPost_ret (v:=(Pt.mk p.op p.l p.l p.c p.v).val) (by simp[results,results227,go_sem]) rfl ⟨rfl,(by repeat (first|exact Oa5 _ _|refine Jc ?_ _|refine Jj ?_))⟩
theorem Kdq {w:World}{b:Nat}{ex E:Value}{first n U X k cp:Nat}{H:Value}{L D:Nat}{R Z:List V}{y A:Addr}(h:Jg5 w b ex E first n U X k cp H L D R Z y A)(p:Pt)(M:p.l=L)(O:p.r=D) :
  Calls prog 176 #[.pointer (some ⟨b,0,none⟩),p.val] w (Qa y A b ex E first n (.slice (some ⟨U,X,none⟩) k cp) H k w (Kd Jik) R Z):=by
 have K:Below w.heap.size w (w.alloc (.cells #[.int .i64 p.op,.int .i64 p.l,.int .i64 p.r,.int .i64 p.c,.int .i64 p.v.k,.int .i64 p.v.n,.string p.v.s] 65)):=Jc (Oa5 _ _) _
 have ba:=(Jdf (h.below K) p M O (Kf4 y A)).mono fun e w' bb=>bb.back K
 clear h M O
 go_enter func176,ntmps176
 go_wp2_with (go_at_call 217;refine ba.mono ?_;rintro e bf ⟨g,m,vs,rfl,bc⟩)
 go_ret
 exact⟨g,m,vs,rfl,bc⟩
theorem Kdv {w:World}{b:Nat}{ex E:Value}{first n U X k cp:Nat}{H:Value}{L D:Nat}{R Z:List V}{y A:Addr}(h:Jg5 w b ex E first n U X k cp H L D R Z y A)(p:Pt)(M:p.l=L)(O:p.r=D) :
  Calls prog 177 #[.pointer (some ⟨b,0,none⟩),p.val] w (Qa y A b ex E first n (.slice (some ⟨U,X,none⟩) k cp) H k w (Kd Jiw) R Z):=by
 have K:Below w.heap.size w (w.alloc (.cells #[.int .i64 p.op,.int .i64 p.l,.int .i64 p.r,.int .i64 p.c,.int .i64 p.v.k,.int .i64 p.v.n,.string p.v.s] 65)):=Jc (Oa5 _ _) _
 have ba:=(Jdf (h.below K) p M O (Kds y A)).mono fun e w' bb=>bb.back K
 clear h M O
 go_enter func177,ntmps177
 go_wp2_with (go_at_call 217;refine ba.mono ?_;rintro e bf ⟨g,m,vs,rfl,bc⟩)
 go_ret
 exact⟨g,m,vs,rfl,bc⟩
theorem Kcp {w:World}{b:Nat}{ex E:Value}{first n U X k cp:Nat}{H:Value}{L D:Nat}{R Z:List V}{y A:Addr}(h:Jg5 w b ex E first n U X k cp H L D R Z y A)(p:Pt)(M:p.l=L)(O:p.r=D) :
  Calls prog 178 #[.pointer (some ⟨b,0,none⟩),p.val] w (Qa y A b ex E first n (.slice (some ⟨U,X,none⟩) k cp) H k w (Kd Jkj) R Z):=by
 have K:Below w.heap.size w (w.alloc (.cells #[.int .i64 p.op,.int .i64 p.l,.int .i64 p.r,.int .i64 p.c,.int .i64 p.v.k,.int .i64 p.v.n,.string p.v.s] 65)):=Jc (Oa5 _ _) _
 have ba:=(Jdf (h.below K) p M O (Kc1 y A)).mono fun e w' bb=>bb.back K
 clear h M O
 go_enter func178,ntmps178
 go_wp2_with (go_at_call 217;refine ba.mono ?_;rintro e bf ⟨g,m,vs,rfl,bc⟩)
 go_ret
 exact⟨g,m,vs,rfl,bc⟩
theorem Ke0 {w:World}{b:Nat}{ex E:Value}{first n U X k cp:Nat}{H:Value}{L D:Nat}{R Z:List V}{y A:Addr}(h:Jg5 w b ex E first n U X k cp H L D R Z y A)(p:Pt)(M:p.l=L)(O:p.r=D) :
  Calls prog 179 #[.pointer (some ⟨b,0,none⟩),p.val] w (Qa y A b ex E first n (.slice (some ⟨U,X,none⟩) k cp) H k w (Kd Jg4) R Z):=by
 have K:Below w.heap.size w (w.alloc (.cells #[.int .i64 p.op,.int .i64 p.l,.int .i64 p.r,.int .i64 p.c,.int .i64 p.v.k,.int .i64 p.v.n,.string p.v.s] 65)):=Jc (Oa5 _ _) _
 have ba:=(Jdf (h.below K) p M O (Kgf y A)).mono fun e w' bb=>bb.back K
 clear h M O
 go_enter func179,ntmps179
 go_wp2_with (go_at_call 217;refine ba.mono ?_;rintro e bf ⟨g,m,vs,rfl,bc⟩)
 go_ret
 exact⟨g,m,vs,rfl,bc⟩
theorem Kfa {w:World}{b:Nat}{ex E:Value}{first n U X k cp:Nat}{H:Value}{L D:Nat}{R Z:List V}{y A:Addr}(h:Jg5 w b ex E first n U X k cp H L D R Z y A)(p:Pt)(M:p.l=L)(O:p.r=D) :
  Calls prog 180 #[.pointer (some ⟨b,0,none⟩),p.val] w (Qa y A b ex E first n (.slice (some ⟨U,X,none⟩) k cp) H k w (Kd Jsg) R Z):=by
 have K:Below w.heap.size w (w.alloc (.cells #[.int .i64 p.op,.int .i64 p.l,.int .i64 p.r,.int .i64 p.c,.int .i64 p.v.k,.int .i64 p.v.n,.string p.v.s] 65)):=Jc (Oa5 _ _) _
 have ba:=(Jdf (h.below K) p M O (Kc9 y A)).mono fun e w' bb=>bb.back K
 clear h M O
 go_enter func180,ntmps180
 go_wp2_with (go_at_call 217;refine ba.mono ?_;rintro e bf ⟨g,m,vs,rfl,bc⟩)
 go_ret
 exact⟨g,m,vs,rfl,bc⟩
theorem Kbh {w:World}{b:Nat}{ex E:Value}{first n U X k cp:Nat}{H:Value}{L D:Nat}{R Z:List V}{y A:Addr}(h:Jg5 w b ex E first n U X k cp H L D R Z y A)(p:Pt)(M:p.l=L)(O:p.r=D) :
  Calls prog 181 #[.pointer (some ⟨b,0,none⟩),p.val] w (Qa y A b ex E first n (.slice (some ⟨U,X,none⟩) k cp) H k w (Kd Jkc) R Z):=by
 have K:Below w.heap.size w (w.alloc (.cells #[.int .i64 p.op,.int .i64 p.l,.int .i64 p.r,.int .i64 p.c,.int .i64 p.v.k,.int .i64 p.v.n,.string p.v.s] 65)):=Jc (Oa5 _ _) _
 have ba:=(Jdf (h.below K) p M O (Kbj y A)).mono fun e w' bb=>bb.back K
 clear h M O
 go_enter func181,ntmps181
 go_wp2_with (go_at_call 217;refine ba.mono ?_;rintro e bf ⟨g,m,vs,rfl,bc⟩)
 go_ret
 exact⟨g,m,vs,rfl,bc⟩
theorem Ke3 {w:World}{b:Nat}{ex E:Value}{first n U X k cp:Nat}{H:Value}{L D:Nat}{R Z:List V}{y A:Addr}(h:Jg5 w b ex E first n U X k cp H L D R Z y A)(p:Pt)(M:p.l=L)(O:p.r=D) :
  Calls prog 182 #[.pointer (some ⟨b,0,none⟩),p.val] w (Qa y A b ex E first n (.slice (some ⟨U,X,none⟩) k cp) H k w Jse R Z):=by
 have K:Below w.heap.size w (w.alloc (.cells #[.int .i64 p.op,.int .i64 p.l,.int .i64 p.r,.int .i64 p.c,.int .i64 p.v.k,.int .i64 p.v.n,.string p.v.s] 65)):=Jc (Oa5 _ _) _
 have ba:=(Jpk (h.below K) p M O (Key y A)).mono fun e w' bb=>bb.back K
 clear h M O
 go_enter func182,ntmps182
 go_wp2_with (go_at_call 224;refine ba.mono ?_;rintro e bf ⟨g,m,vs,rfl,bc⟩)
 go_ret
 exact⟨g,m,vs,rfl,bc⟩
theorem Kgj {w:World}{b:Nat}{ex E:Value}{first n U X k cp:Nat}{H:Value}{L D:Nat}{R Z:List V}{y A:Addr}(h:Jg5 w b ex E first n U X k cp H L D R Z y A)(p:Pt)(M:p.l=L)(O:p.r=D) :
  Calls prog 183 #[.pointer (some ⟨b,0,none⟩),p.val] w (Qa y A b ex E first n (.slice (some ⟨U,X,none⟩) k cp) H k w orR R Z):=by
 have K:Below w.heap.size w (w.alloc (.cells #[.int .i64 p.op,.int .i64 p.l,.int .i64 p.r,.int .i64 p.c,.int .i64 p.v.k,.int .i64 p.v.n,.string p.v.s] 65)):=Jc (Oa5 _ _) _
 have ba:=(Jpk (h.below K) p M O (Jv9 y A)).mono fun e w' bb=>bb.back K
 clear h M O
 go_enter func183,ntmps183
 go_wp2_with (go_at_call 224;refine ba.mono ?_;rintro e bf ⟨g,m,vs,rfl,bc⟩)
 go_ret
 exact⟨g,m,vs,rfl,bc⟩
theorem Ke6 {w:World}{b:Nat}{ex H:Value}{first n M O k cp:Nat}{K:Value}{L:Nat}{y:List V}{D E:Addr}(h:Jg5 w b ex H first n M O k cp K L L y y D E)(p:Pt)(R:p.l=L) :
  Calls prog 184 #[.pointer (some ⟨b,0,none⟩),p.val] w (Qa D E b ex H first n (.slice (some ⟨M,O,none⟩) k cp) K k w (Kd Ju0) y y):=by
 have bb:Below w.heap.size w (w.alloc (.cells #[.int .i64 p.op,.int .i64 p.l,.int .i64 p.r,.int .i64 p.c,.int .i64 p.v.k,.int .i64 p.v.n,.string p.v.s] 65)):=Jc (Oa5 _ _) _
 have X:∀ A,Below w.heap.size w A→Calls prog 217 #[.pointer (some ⟨b,0,none⟩),(Pt.mk p.op p.l p.l p.c p.v).val,.func (.func 228) #[] #[]] A (Qa D E b ex H first n (.slice (some ⟨M,O,none⟩) k cp) K k w (Kd Ju0) y y):=fun A U=>(Jdf (h.below U) (Pt.mk p.op p.l p.l p.c p.v) R R (Kf2 D E)).mono fun e w' bf=>bf.back U
 have Z:Hid (∀ A,Below w.heap.size w A→Calls prog 217 #[.pointer (some ⟨b,0,none⟩),(Pt.mk p.op p.l p.l p.c p.v).val,.func (.func 228) #[] #[]] A (Qa D E b ex H first n (.slice (some ⟨M,O,none⟩) k cp) K k w (Kd Ju0) y y)):=X
 clear X h R
 go_enter func184,ntmps184
 go_wp2_with (first|(go_at_call 227;refine(Jmc p _).mono ?_;rintro e ba ⟨rfl,bc⟩)|(go_at_call 217;refine(Z.out ba (Jb bb bc)).mono ?_;rintro e bi ⟨g,m,vs,rfl,bh⟩))
 go_ret
 exact⟨g,m,vs,rfl,bh⟩
theorem Jtq {w:World}{b:Nat}{ex H:Value}{first n M O k cp:Nat}{K:Value}{L:Nat}{y:List V}{D E:Addr}(h:Jg5 w b ex H first n M O k cp K L L y y D E)(p:Pt)(R:p.l=L) :
  Calls prog 185 #[.pointer (some ⟨b,0,none⟩),p.val] w (Qa D E b ex H first n (.slice (some ⟨M,O,none⟩) k cp) K k w Jle y y):=by
 have bb:Below w.heap.size w (w.alloc (.cells #[.int .i64 p.op,.int .i64 p.l,.int .i64 p.r,.int .i64 p.c,.int .i64 p.v.k,.int .i64 p.v.n,.string p.v.s] 65)):=Jc (Oa5 _ _) _
 have X:∀ A,Below w.heap.size w A→Calls prog 224 #[.pointer (some ⟨b,0,none⟩),(Pt.mk p.op p.l p.l p.c p.v).val,.func (.func 229) #[] #[]] A (Qa D E b ex H first n (.slice (some ⟨M,O,none⟩) k cp) K k w Jle y y):=fun A U=>(Jpk (h.below U) (Pt.mk p.op p.l p.l p.c p.v) R R (Kd6 D E)).mono fun e w' bf=>bf.back U
 have Z:Hid (∀ A,Below w.heap.size w A→Calls prog 224 #[.pointer (some ⟨b,0,none⟩),(Pt.mk p.op p.l p.l p.c p.v).val,.func (.func 229) #[] #[]] A (Qa D E b ex H first n (.slice (some ⟨M,O,none⟩) k cp) K k w Jle y y)):=X
 clear X h R
 go_enter func185,ntmps185
 go_wp2_with (first|(go_at_call 227;refine(Jmc p _).mono ?_;rintro e ba ⟨rfl,bc⟩)|(go_at_call 224;refine(Z.out ba (Jb bb bc)).mono ?_;rintro e bi ⟨g,m,vs,rfl,bh⟩))
 go_ret
 exact⟨g,m,vs,rfl,bh⟩
def Jbi (B y:Nat)(D H:Addr)(b:Nat)(ex A:Value)(first n:Nat)(K E:Value)(k:Nat)(w:World)(val:Nat→V×Nat):Ending→World→Prop:=fun e w'=>
 ∃ (a:Option Addr) (m c:Nat) (vs:List V),e=.returned (.slice a vs.length c)∧(∀ g o,a=some ⟨g,o,none⟩→g≠b∧g<w'.heap.size∧(g<B∨w.heap.size≤g))∧(n≤vs.length∧vs.length≤y)∧Jv w' a vs∧(∀ i,i<m→vs.getD i Jf=(val i).1)∧Je5 D H b ex A first n K E k w (fun i=>(val i).2) m w'
theorem Qa.meth (B y:Nat){E O:Addr}{b:Nat}{ex D:Value}{first n:Nat}{R H:Value}{k:Nat}{w w':World}{A:V→V→V×Nat}{M U:List V}{e:Ending}(h:Qa E O b ex D first n R H k w A M U e w')(ba:n≤y):Jbi B y E O b ex D first n R H k w (fun i=>A (M.getD i Jf) (U.getD i Jf)) e w':=by
 obtain⟨g,m,vs,rfl,h2,bc,rfl,K,X,Z⟩:=h
 exact⟨some ⟨g,0,none⟩,m,vs.length,vs,rfl,fun bb o e=>by simp at e;have:=K.lt;omega,⟨Oa2 _,ba⟩,K.vals,X,Z⟩
theorem Kdu (B R b:Nat)(p:Pt)(ex:Value)(A D W cap C:Nat)(a:Option Addr)(c:Nat)(vs:List V)(first n:Nat)(O M:Value)(k:Nat)(w:World)(bc bk:Addr)(h:Uz w b ex (.slice (some ⟨A,D,none⟩) W cap) first n O M)(X:p.c=C)(bn:C<W)(bi:w.cell? ⟨A,D+C,none⟩=some (.slice a vs.length c))(ba:Jv w a vs)(hn:n≤vs.length)(U:∀ g o,a=some ⟨g,o,none⟩→g≠b∧g<B)(bl:B≤w.heap.size)(bf:vs.length≤R) :
  Calls prog 174 #[.pointer (some ⟨b,0,none⟩),p.val] w (Jbi B R bc bk b ex (.slice (some ⟨A,D,none⟩) W cap) first n O M k w fun i=>(vs.getD i Jf,0)):=by
 obtain⟨c0,c1,c2,c3,c4,c5⟩:=h.cells
 have bb:Hid (Uz w b ex (.slice (some ⟨A,D,none⟩) W cap) first n O M):=h
 have H:Hid (Jv w a vs∧n≤vs.length∧∀ g o,a=some ⟨g,o,none⟩→g≠b∧g<B):=⟨ba,hn,U⟩
 rw[Pt.val,X]
 have Z:=heap_alloc_new w (.cells #[.int .i64 p.op,.int .i64 p.l,.int .i64 p.r,.int .i64 (C:Int),.int .i64 p.v.k,.int .i64 p.v.n,.string p.v.s] 65)
 have bj:(w.alloc (.cells #[.int .i64 p.op,.int .i64 p.l,.int .i64 p.r,.int .i64 (C:Int),.int .i64 p.v.k,.int .i64 p.v.n,.string p.v.s] 65)).cell? ⟨w.heap.size,3,none⟩=some (.int .i64 (C:Int)):=by unfold World.cell?;rw[Z];rfl
 have br:(0:Int)≤(C:Int):=by omega
 have bu:(C:Int)<(W:Int):=by omega
 clear h ba hn U X Z
 go_enter func174,ntmps174
 go_wp2
 refine wp_region_held_drew (S:=fun K=>K.cell? ⟨b,1,none⟩=some (.slice (some ⟨A,D,none⟩) W cap)∧K.cell? ⟨A,D+C,none⟩=some (.slice a vs.length c)∧K.cell? ⟨w.heap.size,3,none⟩=some (.int .i64 (C:Int))) (by kernel_rfl) ⟨Jh (Kf c1),Jh (Kf bi),Jh bj⟩ (fun y=>?_)
 refine tk 0 ?_ rfl y ?_ (tk 1 ?_ rfl y ?_ (tk 2 ?_ rfl y ?_ (tk 3 ?_ rfl y ?_ (tk 4 ?_ rfl y ?_ (tk 5 ?_ rfl y ?_ (tk 6 ?_ rfl y ?_ (tk 7 ?_ rfl y ?_ (tk 8 ?_ rfl y ?_ ?_))))))))
 iterate 9
  rotate_left 1
  ·intro w bh;(try dsimp only at bh);go_simp;try rfl
 simp only[Act.put,List.getElem_toArray,List.getElem_cons_zero,List.getElem_cons_succ,Oa1,List.set_cons_zero,List.set_cons_succ]
 refine wpAnyH_done (by kernel_rfl) ?_ _
 go_wp2
 go_ret
 have E:Below w.heap.size w (w.alloc (.cells #[.int .i64 p.op,.int .i64 p.l,.int .i64 p.r,.int .i64 (C:Int),.int .i64 p.v.k,.int .i64 p.v.n,.string p.v.s] 65)).drew:=Jj (Jc (Oa5 _ _) _)
 exact⟨a,n,c,vs,rfl,fun g o e=>by have h1:=H.out.2.2 g o e;have h2:=E.size;exact⟨h1.1,by omega,.inl h1.2⟩,⟨H.out.2.1,bf⟩,H.out.1.below E,fun _ _=>rfl,Ju.of_below E,Oa2 _,fun _ _=>rfl,.inl ⟨rfl,bb.out.below E⟩⟩
theorem Jtv (B bA b:Nat)(p:Pt)(ex bc:Value)(first n:Nat)(bu bf:Value)(k:Nat)(w:World)(bU bZ:Addr)(h:Uz w b ex bc first n bu bf)(hn:n≤100000)(hs:p.v.s.size≤255)(bV:n≤bA) :
  Calls prog 175 #[.pointer (some ⟨b,0,none⟩),p.val] w (Jbi B bA bU bZ b ex bc first n bu bf k w fun _=>(p.v,0)):=by
 obtain⟨u,br⟩:∃ u,u=p.v:=⟨_,rfl⟩
 unfold Pt.val
 rw[←br]
 rw[←br]at hs
 clear br
 obtain⟨A,D,bx⟩:=u
 obtain⟨t,rfl⟩:∃ t,bx=Qw t:=⟨bx.toList,(Zf bx).symm⟩
 have bX:t.length≤255:=by rw[Jb2]at hs;exact hs
 obtain⟨E,R⟩:∃ E,E=(w.alloc (.cells #[.int .i64 p.op,.int .i64 p.l,.int .i64 p.r,.int .i64 p.c,.int .i64 A,.int .i64 D,.string (Qw t)] 65)).alloc (.cells #[.int .i64 A,.int .i64 D,.string (Qw t)] 63):=⟨_,rfl⟩
 have bB:Below w.heap.size w E:=by rw[R];exact Jc (Jc (Oa5 _ _) _) _
 have bH:E.heap[w.heap.size+1]?=some (.cells #[.int .i64 A,.int .i64 D,.string (Qw t)] 63 (0,0)):=by
  have:=heap_alloc_new (w.alloc (.cells #[.int .i64 p.op,.int .i64 p.l,.int .i64 p.r,.int .i64 p.c,.int .i64 A,.int .i64 D,.string (Qw t)] 65)) (.cells #[.int .i64 A,.int .i64 D,.string (Qw t)] 63)
  rw[Oa7]at this
  rw[R]
  exact this
 have bi:=Jhm t E bX
 rw[R]at bi
 have bb:Hid (Uz w b ex bc first n bu bf):=h
 have bz:Hid (E.heap[w.heap.size+1]?=some (.cells #[.int .i64 A,.int .i64 D,.string (Qw t)] 63 (0,0))):=bH
 have bI:Hid (Below w.heap.size w E):=bB
 have bN:Hid (E=(w.alloc (.cells #[.int .i64 p.op,.int .i64 p.l,.int .i64 p.r,.int .i64 p.c,.int .i64 A,.int .i64 D,.string (Qw t)] 65)).alloc (.cells #[.int .i64 A,.int .i64 D,.string (Qw t)] 63)):=R
 clear h bH bB R hs
 go_enter func175,ntmps175
 go_upto_region 3 with(go_at_call 48;refine bi.mono ?_;rintro e H ⟨rfl,U⟩;rw[←bN.out]at U;have Z:=(U.block _ (Jd bz.out)).trans bz.out;have m2:H.cell? ⟨w.heap.size+1,2,none⟩=some (.string (Qw t)):=(by simp[World.cell?,Z]);have ca:H.frozen? ⟨w.heap.size+1,2,none⟩=false:=(by simp[World.frozen?,Z]);have bL:Hid (H.heap[w.heap.size+1]?=some (.cells #[.int .i64 A,.int .i64 D,.string (Qw t)] 63 (0,0))):=Z;clear Z)
 have M:=Jk bL.out 2 (.string (Qw t))
 simp only[Oa1,List.set_cons_zero,List.set_cons_succ]at M
 have K:Below w.heap.size w (H.setCell ⟨w.heap.size+1,2,none⟩ (.string (Qw t))):=(Jb bI.out U).setCell (p:=⟨w.heap.size+1,2,none⟩) (by show w.heap.size≤w.heap.size+1;omega) _
 clear m2 ca bi U
 generalize H.setCell ⟨w.heap.size+1,2,none⟩ (.string (Qw t))=y at M K ⊢
 obtain⟨bO,bP,bQ,bR,bS,bT⟩:=(bb.out.below K).cells
 obtain⟨C,bG,bj⟩:=Jqo n hn y
 have bY:=Jd M
 go_wp2
 have bC:Below y.heap.size y (y.alloc (.cells C 63)):=Jc (Oa5 _ _) _
 go_loopw [21] (fun i wr=>∃ c:Nat,c≤n∧i=.int .i64 (c:Int)∧Kv wr y.heap.size ((List.replicate n (V.mk A D (Qw t))).take c++List.replicate (n-c) Jf) []∧wr.heap[w.heap.size+1]?=some (.cells #[.int .i64 A,.int .i64 D,.string (Qw t)] 63 (0,0))∧Below w.heap.size w wr) (fun i _=>n-(intOf i).toNat)
 case atStart=>exact⟨0,Ob7 _,rfl,by simpa using bj,(bC.block _ bY).trans M,Jb K bC⟩
 case round=>
  obtain⟨c,ci,rfl,X,O,bh⟩:=hrel
  by_cases bE:c<n
  ·have cl:wr.cell? ⟨w.heap.size+1,0,none⟩=some (.int .i64 A):=by simp[World.cell?,O]
   have cn:wr.cell? ⟨w.heap.size+1,1,none⟩=some (.int .i64 D):=by simp[World.cell?,O]
   have cr:wr.cell? ⟨w.heap.size+1,2,none⟩=some (.string (Qw t)):=by simp[World.cell?,O]
   have bD:((List.replicate n (V.mk A D (Qw t))).take c++List.replicate (n-c) Jf).length=n:=by rw[Oa8,Oc7,Od6,Od6];omega
   obtain⟨cj,⟨c0,cb⟩,⟨c1,cc⟩,⟨c2,cf⟩,bn⟩:=X.put (V.mk A D (Qw t)) c (by rw[bD];exact bE)
   have bl:=Jk1 (List.replicate n (V.mk A D (Qw t))) c n (by simp) bE
   rw[List.getElem_replicate]at bl
   rw[bl]at bn
   have bK:Hid (Kv (((wr.setCell ⟨y.heap.size,c*3,none⟩ (.int .i64 A)).setCell ⟨y.heap.size,c*3+1,none⟩ (.int .i64 D)).setCell ⟨y.heap.size,c*3+2,none⟩ (.string (Qw t))) y.heap.size ((List.replicate n (V.mk A D (Qw t))).take (c+1)++List.replicate (n-(c+1)) Jf) []):=bn
   have ba:w.heap.size≤y.heap.size:=K.size
   have bW:Below w.heap.size w (((wr.setCell ⟨y.heap.size,c*3,none⟩ (.int .i64 A)).setCell ⟨y.heap.size,c*3+1,none⟩ (.int .i64 D)).setCell ⟨y.heap.size,c*3+2,none⟩ (.string (Qw t))):=
    ((bh.setCell (p:=⟨y.heap.size,c*3,none⟩) ba _).setCell (p:=⟨y.heap.size,c*3+1,none⟩) ba _).setCell (p:=⟨y.heap.size,c*3+2,none⟩) ba _
   have bM:Hid ((((wr.setCell ⟨y.heap.size,c*3,none⟩ (.int .i64 A)).setCell ⟨y.heap.size,c*3+1,none⟩ (.int .i64 D)).setCell ⟨y.heap.size,c*3+2,none⟩ (.string (Qw t))).heap[w.heap.size+1]?=some (.cells #[.int .i64 A,.int .i64 D,.string (Qw t)] 63 (0,0))):=by
    show _=_
    rw[Oa4 _ _ _ _ (by show w.heap.size+1≠y.heap.size;omega),Oa4 _ _ _ _ (by show w.heap.size+1≠y.heap.size;omega),Oa4 _ _ _ _ (by show w.heap.size+1≠y.heap.size;omega)]
    exact O
   have j4:(c:Int)<(n:Int):=by omega
   clear bn bl bD X O bG bj bO bP bQ bR bS bT M
   go_wp2
   go_roundw
   case rel=>exact⟨c+1,by omega,by go_num,bK.out,bM.out,bW⟩
   case measure=>simp[intOf];omega
  obtain rfl:c=n:=by omega
  have bJ:Hid (Kv wr y.heap.size ((List.replicate c (V.mk A D (Qw t))).take c++List.replicate (c-c) Jf) []):=X
  have ba:w.heap.size≤y.heap.size:=K.size
  have ch:=Jd bb.out
  clear X bG bj
  go_wp2
  go_ret
  have bk:=bJ.out
  rw[Oe1,List.replicate_zero,Od7,Oc8 (by simp)]at bk
  refine⟨some ⟨y.heap.size,0,none⟩,c,c,List.replicate c (V.mk A D (Qw t)),by simp,fun g o e=>by simp at e;have h1:=bk.lt;omega,⟨by simp,by simpa using bV⟩,bk.vals,fun i hi=>?_,Ju.of_below bh,Oa2 _,fun _ _=>rfl,.inl ⟨rfl,bb.out.below bh⟩⟩
  rw[Oa0,Of3,if_pos hi]
  rfl
end Go.Proofs.YtdlgbphkaicfaaaGreatDoor
