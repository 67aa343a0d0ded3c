/- The document's schema of a node, whatever it is. -/
import Derived.Test.YtkgibdjakgmmcaaGreatDoorVs
import Derived.Test.YtkgibdjakgmmcaaGreatDoorLawP
import Derived.Test.YtkgibdjakgmmcaaGreatDoorVu
namespace Go.Proofs.YtkgibdjakgmmcaaGreatDoor
open Go.RowKit Go.Shelf
attribute [local go_sem] Oper.semAt_some
theorem rSchema_any (st:Nat)(Rs:List (ByteArray×List Int))(a ka:Option Addr)(nc kc:Nat)(nds:List Nd)(ns:List QN)(scs:List (List Int))(n:QN)(w:World)(h:ScIn w st Rs a ka nds ns scs)(hn:ns[scs.length]?=some n)(hks:n.ks.length≤4400000000000) :
  Calls Tryz.prog 25 #[.pointer (some ⟨st,0,none⟩),.agg #[.slice a ns.length nc],.int .i64 (scs.length:Int),.slice ka scs.length kc] w (RS w (nodeQ (tysR Rs) scs (flQ ns scs.length) n)):=by
 by_cases h1:(freeQ scs (flQ ns scs.length) n.l=none∨n.op≤0)∨7<n.op
 ·exact rSchema_a st Rs a ka nc kc nds ns scs n w h hn hks h1
 have h2:freeQ scs (flQ ns scs.length) n.l≠none:=fun e=>h1 (.inl (.inl e))
 by_cases h3:n.op=3∨n.op=7
 ·exact rSchema_c st Rs a ka nc kc nds ns scs n w h hn hks ⟨h3,h2⟩
 exact rSchema_b st Rs a ka nc kc nds ns scs n w h hn hks ⟨by omega,h2⟩
end Go.Proofs.YtkgibdjakgmmcaaGreatDoor
