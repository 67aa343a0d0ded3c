/- The law Broken, walked: regions 30 to 35. -/
import Derived.Test.YtnlnlamdilifcaaGreatDoorIn
import Derived.Test.YtnlnlamdilifcaaGreatDoorPx
set_option maxHeartbeats 40000000
set_option maxRecDepth 100000
namespace Go.Proofs.YtnlnlamdilifcaaGreatDoor
section
open Tryz
theorem Ksu {r}(h:r.length=213):∃ f:Nat->Value,r=[f 0,f 1,f 2,f 3,f 4,f 5,f 6,f 7,f 8,f 9,f 10,f 11,f 12,f 13,f 14,f 15,f 16,f 17,f 18,f 19,f 20,f 21,f 22,f 23,f 24,f 25,f 26,f 27,f 28,f 29,f 30,f 31,f 32,f 33,f 34,f 35,f 36,f 37,f 38,f 39,f 40,f 41,f 42,f 43,f 44,f 45,f 46,f 47,f 48,f 49,f 50,f 51,f 52,f 53,f 54,f 55,f 56,f 57,f 58,f 59,f 60,f 61,f 62,f 63,f 64,f 65,f 66,f 67,f 68,f 69,f 70,f 71,f 72,f 73,f 74,f 75,f 76,f 77,f 78,f 79,f 80,f 81,f 82,f 83,f 84,f 85,f 86,f 87,f 88,f 89,f 90,f 91,f 92,f 93,f 94,f 95,f 96,f 97,f 98,f 99,f 100,f 101,f 102,f 103,f 104,f 105,f 106,f 107,f 108,f 109,f 110,f 111,f 112,f 113,f 114,f 115,f 116,f 117,f 118,f 119,f 120,f 121,f 122,f 123,f 124,f 125,f 126,f 127,f 128,f 129,f 130,f 131,f 132,f 133,f 134,f 135,f 136,f 137,f 138,f 139,f 140,f 141,f 142,f 143,f 144,f 145,f 146,f 147,f 148,f 149,f 150,f 151,f 152,f 153,f 154,f 155,f 156,f 157,f 158,f 159,f 160,f 161,f 162,f 163,f 164,f 165,f 166,f 167,f 168,f 169,f 170,f 171,f 172,f 173,f 174,f 175,f 176,f 177,f 178,f 179,f 180,f 181,f 182,f 183,f 184,f 185,f 186,f 187,f 188,f 189,f 190,f 191,f 192,f 193,f 194,f 195,f 196,f 197,f 198,f 199,f 200,f 201,f 202,f 203,f 204,f 205,f 206,f 207,f 208,f 209,f 210,f 211,f 212]:=by
 refine⟨fun i=>r.getD i undef,?_⟩;have e:r=(List.range 213).map fun i=>r.getD i undef:=by
  refine Oh4 (by simp[h]) fun i y H=>?_;simp[List.getD_eq_getElem?_getD,y]
 exact e.trans rfl
end
open Go.RowKit Go.Shelf Tryz
attribute [local go_sem] Oc0
theorem Qc1 {u0 u1 u2 u3 u4 u5 u6 u7 u8 u9 u10 u12 u14 u15 u17 u22 u23 u24 u25 u26 Y w X D Ts I la bz ln lc mn bA st ga U gc K bf gl M H bj hr hl hp}(hb:Bq w X)(O:Sto I X st D Ts)(y:X.heap[ga]?=some (.cells #[Iq gc,Iq K,Iq bf,Iq gl,Iq M] 39 (0,0)))(hh:X.heap[U]?=some (.cells #[Iq H,Iq bj,Iq hr,Iq hl,Iq hp] 39 (0,0)))(bh:gc=0\/gc=7/\K=0/\(∃ p:Nat,M=(p:Int))/\ln=0)(bi:H=0\/H=7/\(∃ p:Nat,hp=(p:Int))/\mn=0)(bk:Y.length=213:=by rfl):
  Code.wp prog (Kr7 15 (Tryz.f3.body.getD .skip)) (bodyPost prog Tryz.f3 fun e w'=>e=.returned (.bool true)/\Bq w w') ⟨(u0::u1::u2::u3::u4::u5::u6::u7::u8::u9::u10::Pq st::u12::.bool true::u14::u15::Iq ((Js D.pages:Nat):Int)::u17::.slice la ln lc::Pq ga::.slice bz mn bA::Pq U::u22::u23::u24::u25::u26::Y).toArray,[]⟩ X:=by
 obtain⟨bM,rfl⟩:=Ksu bk;have br:=Kvj I st D Ts X O;have bD:=zc 0 y;have g1:=zc 1 y;have g2:=zc 2 y;have bE:=zc 3 y;have bG:=zc 4 y;have h0:=zc 0 hh;have bH:=zc 1 hh;have bI:=zc 2 hh;have bJ:=zc 3 hh;have bK:=zc 4 hh;have Z:=Krx hb;clear y hh O hb;rcases bh with rfl|⟨rfl,rfl,⟨p,rfl⟩,rfl⟩<;>rcases bi with rfl|⟨rfl,⟨bL,rfl⟩,rfl⟩;all_goals
  dsimp only[Kr7,Ku3,Tryz.f3,Option.getD];go_wp2_with (go_at_call 12;refine br.mono ?_;rintro bC bB ⟨rfl,bx⟩;subst bx)
  go_ret
  exact⟨rfl,Z.out⟩
theorem Qcz {u0 u1 u2 u3 u4 u5 u6 u7 u8 u9 u12 u14 u15 u17 u18 u22 u23 u24 u25 u26 bI w X D Ts br bj bk bH rc st tb ga bf rs xs bJ}(hb:Bq w X)(bx:Sto br X st D Ts)(bC:X.heap[ga]?=some (.cells #[iZ,iM,iM,iM,iM] 39 (0,0)))(hh:X.heap[bf]?=some (.cells #[iZ,iM,iM,iM,iM] 39 (0,0)))(ht:X.cell? (Ar tb 2)=some (.slice bk rs.length rc))(bD:Zd X bj xs rs)(hr:Zd X bk bJ rs)(hl:rs.length<=60)(bE:∀ r∈rs,r.length<=maxLen)(bV:bI.length=213:=by rfl):
  Code.wp prog (Kr7 15 (Tryz.f3.body.getD .skip)) (bodyPost prog Tryz.f3 fun e w'=>e=.returned (.bool true)/\Bq w w') ⟨(u0::u1::u2::u3::u4::u5::u6::u7::u8::u9::Pq tb::Pq st::u12::.bool false::u14::u15::Iq ((Js D.pages:Nat):Int)::u17::u18::Pq ga::.slice bj rs.length bH::Pq bf::u22::u23::u24::u25::u26::bI).toArray,[]⟩ X:=by
 obtain⟨bZ,rfl⟩:=Ksu bV;have bG:=Jn2 bj bk bH rc xs bJ rs rs X (by unfold maxLen;omega) bE bD hr true zS;have bN:=Krx bx;have bK:=Krx hb;have Y:=Krx (And.intro bC hh);clear bC hh bx hb bD hr hl bE;dsimp only[Kr7,Ku3,Tryz.f3,Option.getD];go_upto_region 32 with(go_at_call 19;refine bG.mono ?_;rintro bY H ⟨rfl,U⟩)
 have bA:=(U.block _ (Jd Y.out.1)).trans Y.out.1;have bB:=(U.block _ (Jd Y.out.2)).trans Y.out.2;have bL:Hid (Bq w H):=Jb bK.out U;have bO:Hid (∀ V,Bq H V->Cq 12 #[Pq st] V fun e bS=>e=.returned (Iq ((Js D.pages:Nat):Int))/\bS=V):=fun V bT=>Kvj br st D Ts V (bN.out.below (Jb U bT));clear bG U ht;have bU:=Jjl 0;refine wp_region_held_drew (S:=fun X=>X.heap[ga]?=some (.cells #[iZ,iM,iM,iM,iM] 39 (0,0))/\X.heap[bf]?=some (.cells #[iZ,iM,iM,iM,iM] 39 (0,0))) zK ⟨bA,bB⟩ (fun y=>?_);have bh:Bq H H.drew:=⟨rfl,rfl,rfl,Oa2 _,fun _ _=>rfl⟩;generalize H.drew=bX at bh y |-;refine tkg 0 rfl y ?_ (hy:=by intro X Z;obtain⟨K,M⟩:=Z;have c0:=zc 0 K;have c1:=zc 1 K;have c2:=zc 2 K;have c3:=zc 3 K;have c4:=zc 4 K;clear K M;go_simp;try rfl);refine tkn ?_;refine tkr 1 rfl fun O hK=>?_;go_simp;refine(Jfu _).mono ?_;rintro e bP ⟨rfl,I⟩;have bz:Bq H bP:=Jb bh I;go_simp;refine hK.out _ _ ⟨(I.block _ (Jd y.1)).trans y.1,(I.block _ (Jd y.2)).trans y.2⟩ (fun y=>?_);clear hK O I;refine tkg 2 rfl y ?_;refine tkg 3 rfl y ?_;refine tkn ?_;refine tkg 4 rfl y ?_ (hy:=by intro X Z;obtain⟨K,M⟩:=Z;have c0:=zc 0 M;have c1:=zc 1 M;have c2:=zc 2 M;have c3:=zc 3 M;have c4:=zc 4 M;clear K M;go_simp;try rfl);refine tkn ?_;refine tkr 5 rfl fun O hK=>?_;go_simp;refine(Jfu _).mono ?_;rintro e bQ ⟨rfl,I⟩;have bi:Bq H bQ:=Jb bz I;go_simp;refine hK.out _ _ ⟨(I.block _ (Jd y.1)).trans y.1,(I.block _ (Jd y.2)).trans y.2⟩ (fun y=>?_);clear hK O I;refine tkg 6 rfl y ?_;refine tkg 7 rfl y ?_;refine tkg 8 rfl y ?_;refine tkn ?_;refine tkg 9 rfl y ?_;refine tkg 10 rfl y ?_;refine tkg 11 rfl y ?_;refine tkn ?_;refine tkg 12 rfl y ?_;refine tkg 14 rfl y ?_;refine tkn ?_;refine tkr 13 rfl fun O hK=>?_;go_simp;refine(bO.out _ bi).mono ?_;rintro e bR ⟨rfl,bW⟩;subst bW;go_simp;refine hK.out _ _ y (fun y=>?_);clear hK O;refine tkg 15 rfl y ?_;refine tkg 16 rfl y ?_;refine tkg 17 rfl y ?_;refine tkn ?_;refine wpAnyH_done zK ?_ _;have bM:Hid (Bq w bR):=Jb bL.out bi;clear bh bz bi y bU bA bB;go_wp2_with fail
 go_ret
 exact⟨rfl,bM.out⟩
structure BkE (w X:World) (D:DS) (Ts:List TS) (M:Nat->Prop) (st ga ha tb:Nat) (sm:Bool) (ln:Nat) (ma:Option Addr) (mn:Nat):Prop where
 low:Bq w X
 sto:Sto M X st D Ts
 flt:∃ gc gn gr gl gp hc hn hr hl hp,X.heap[ga]?=some (.cells #[Iq gc,Iq gn,Iq gr,Iq gl,Iq gp] 39 (0,0))/\X.heap[ha]?=some (.cells #[Iq hc,Iq hn,Iq hr,Iq hl,Iq hp] 39 (0,0))/\(gc=0\/gc=7/\gn=0/\(∃ p:Nat,gp=(p:Int))/\ln=0)/\(hc=0\/hc=7/\(∃ p:Nat,hp=(p:Int))/\mn=0)
 fin:sm=false->X.heap[ga]?=some (.cells #[iZ,iM,iM,iM,iM] 39 (0,0))/\X.heap[ha]?=some (.cells #[iZ,iM,iM,iM,iM] 39 (0,0))/\∃ ra rc xs ys,∃ rs:List (List V),X.cell? (Ar tb 2)=some (.slice ra rs.length rc)/\mn=rs.length/\Zd X ma xs rs/\Zd X ra ys rs/\rs.length<=60/\∀ r∈rs,r.length<=maxLen
theorem BkE.below {w X H D Ts O st ga U tb sm ln Y mn}(h:BkE w X D Ts O st ga U tb sm ln Y mn)(hb:Bq X H):BkE w H D Ts O st ga U tb sm ln Y mn:=by
 have y:∀ {k:Nat} {cs:Array Value},X.heap[k]?=some (.cells cs 39 (0,0))->H.heap[k]?=some (.cells cs 39 (0,0)):=fun hh=>(hb.block _ (Jd hh)).trans hh;refine⟨Jb h.low hb,h.sto.below hb,?_,fun hs=>?_⟩
 ·obtain⟨gc,Z,bh,gl,bf,bx,bz,hr,hl,hp,I,K,M⟩:=h.flt;exact⟨gc,Z,bh,gl,bf,bx,bz,hr,hl,hp,y I,y K,M⟩
 obtain⟨I,K,bA,rc,xs,bB,rs,M,bi,bj,bk,br⟩:=h.fin hs;exact⟨y I,y K,bA,rc,xs,bB,rs,Ja hb M,bi,bj.below hb,bk.below hb,br⟩
theorem Qdg {u0 u1 u2 u3 u4 u5 u6 u7 u8 u9 u12 u14 u15 u17 u22 u23 u24 u25 u26:Value}{O:List Value}{w X:World}{D:DS}{Ts:List TS}{U:Nat->Prop}{sm:Bool}{la M:Option Addr}{lc mn bk st ga K tb:Nat}{R:List (List V)}(h:BkE w X D Ts U st ga K tb sm R.length M mn)(bj:O.length=213:=by rfl) :
  Code.wp prog (Kr7 15 (Tryz.f3.body.getD .skip)) (bodyPost prog Tryz.f3 fun e w'=>e=.returned (.bool true)/\Bq w w') ⟨(u0::u1::u2::u3::u4::u5::u6::u7::u8::u9::Pq tb::Pq st::u12::.bool sm::u14::u15::Iq ((Js D.pages:Nat):Int)::u17::.slice la R.length lc::Pq ga::.slice M mn bk::Pq K::u22::u23::u24::u25::u26::O).toArray,[]⟩ X:=by
 obtain⟨bD,rfl⟩:=Ksu bj;cases sm with
 |true=>
  obtain⟨gc,br,bz,gl,bx,bA,bB,hr,hl,hp,y,H,I,Y⟩:=h.flt;exact Qc1 h.low h.sto y H I Y
 |false=>
  obtain⟨y,H,bC,rc,xs,bE,rs,I,rfl,Z,bf,bh,bi⟩:=h.fin rfl;exact Qcz h.low h.sto y H I Z bf bh bi
theorem Qdu {u0 u1 u2 u3 u4 u5 u6 u7 u8 u9 u12 u14 u15 u17 u22 u23 u24 u25 u26 cf w X D Ts cC sm la cb lc mn cL st ga bU tb R xs Z bB ts}(h:BkE w X D Ts cC st ga bU tb sm R.length cb mn)(ca:Zd X la xs R)(hR:∀ r∈R,Jee ts r)(hl:R.length<=200)(bW:X.cell? (Ar tb 1)=some (.slice Z ts.length bB))(bX:Kc X Z ts)(bY:∀ t∈ts,tOk t)(bT:ts.length<=6)(cK:cf.length=213:=by rfl):
  Code.wp prog (Kr7 14 (Tryz.f3.body.getD .skip)) (bodyPost prog Tryz.f3 fun e w'=>e=.returned (.bool true)/\Bq w w') ⟨(u0::u1::u2::u3::u4::u5::u6::u7::u8::u9::Pq tb::Pq st::u12::.bool sm::u14::u15::Iq ((Js D.pages:Nat):Int)::u17::.slice la R.length lc::Pq ga::.slice cb mn cL::Pq bU::u22::u23::u24::u25::u26::cf).toArray,[]⟩ X:=by
 obtain⟨cR,rfl⟩:=Ksu cK;have cy:=Krx h;have bQ:=Krx (And.intro ca hR);have bP:Hid (R.length<=200/\ts.length<=6):=⟨hl,bT⟩;have bi:Hid (X.cell? (Ar tb 1)=some (.slice Z ts.length bB)/\Kc X Z ts/\∀ t∈ts,tOk t):=⟨bW,bX,bY⟩;clear h ca hR hl bW bX bY bT;show Code.wp prog (.seq (Kv1 (Kr7 14 (Tryz.f3.body.getD .skip))) (Kr7 15 (Tryz.f3.body.getD .skip))) _ _ _;refine wp_seq_k fun bR bS=>?_;obtain⟨bC,bE⟩:∃ bC,bC=Exit.then bR (bodyPost prog Tryz.f3 fun e w'=>e=.returned (.bool true)/\Bq w w'):=⟨_,rfl⟩
 have cA:Hid (∀ a w,bR a w->bC .normal a w):=fun a w h=>by rw[bE];exact h
 rw[<-bE];have cv:=Krx bS;clear bE bS;dsimp only[Kr7,Kv1,Ku3,Tryz.f3,Option.getD];go_wp2_with fail
 go_loopw [22] (fun bN wr=>∃ i:Nat,i<=R.length/\bN=Iq (i:Int)/\Hid (Bq X wr)) (fun bN _=>R.length-(intOf bN).toNat)
 case atStart=>exact⟨0,Ob7 _,rfl,Oa5 _ _⟩
 case round=>
  obtain⟨i,hi,rfl,hb⟩:=hrel;have O:=Krx hb.out;clear hb;by_cases U:i<R.length
  ·obtain⟨b1,bH,bI,bJ,rfl,cG,x1,bL⟩:=bQ.out.1.at U;have bz:=bQ.out.2 _ (Ob3 U);rw[bz.1]at x1;obtain⟨r,hr⟩:∃ r,r=R[i]:=⟨_,rfl⟩;rw[<-hr]at bL bz;have bj:Hid (X.cell? (Ar b1 (bH+i))=some (.slice bI ts.length bJ)/\Jv X bI r/\Jee ts r):=⟨x1,bL,bz⟩;have j1:(0:Int)<=(i:Int):=zo;have j2:(i:Int)<(R.length:Int):=zo;have br:Hid (wrap64 ((i:Int)+1)=((i+1:Nat):Int)/\i+1<=R.length):=⟨by have:=bP.out;unfold wrap64;omega,U⟩;have bh:=Ja O.out x1;have ci:=Ja O.out bi.out.1;clear bz hr x1 bL cG hi U;go_upto_region 23 with fail
   refine wp_region_noPanic (wp_region_held_drew (S:=fun X=>X.cell? (Ar b1 (bH+i))=some (.slice bI ts.length bJ)/\X.cell? (Ar tb 1)=some (.slice Z ts.length bB)) zK ⟨bh,ci⟩ (fun y=>?_));have K:Bq wr wr.drew:=⟨rfl,rfl,rfl,Oa2 _,fun _ _=>rfl⟩;generalize wr.drew=cD at K y |-;have bO:Hid (Bq X cD):=Jb O.out K;refine tkg 0 rfl y ?_;refine tkg 1 rfl y ?_;refine tkg 2 rfl y ?_;refine tkg 3 rfl y ?_;refine tkn ?_;refine tkg 4 rfl y ?_;refine tkg 5 rfl y ?_;refine tkg 6 rfl y ?_;refine tkn ?_;refine tkg 7 rfl y ?_;refine tkg 8 rfl y ?_;refine tkn ?_;refine wpAnyH_done zK (NoPanic.normal ?_) _;clear y K bh ci O;go_wp2_with fail
   go_loopw [23] (fun bM wr=>∃ c:Nat,c<=ts.length/\bM=Iq (c:Int)/\Hid (Bq X wr)) (fun bM _=>ts.length-(intOf bM).toNat)
   case atStart=>exact⟨0,Ob7 _,rfl,bO.out⟩
   case round=>
    obtain⟨c,bV,rfl,hb⟩:=hrel;have H:=Krx hb.out;clear hb bO;have bh:=Ja H.out bj.out.1;by_cases M:c<ts.length
    ·have bx:c<r.length:=by have:=bj.out.2.2.1;omega
     obtain⟨b2,bA,rfl,cH,bf⟩:=bj.out.2.1.at bx;obtain⟨b3,cc,rfl,cI,bK⟩:=bi.out.2.1.at M;have Y:=bj.out.2.2.2.1 c bx;rw[Oa0,Oa3 M,Option.getD_some,Oa0,Oa3 bx,Option.getD_some]at Y;have bG:=bi.out.2.2 _ (Ob3 M);obtain⟨v,hv⟩:∃ v,v=r[c]:=⟨_,rfl⟩;obtain⟨t,bZ⟩:∃ t,t=ts[c]:=⟨_,rfl⟩;rw[<-hv]at bf Y;rw[<-bZ]at bK Y bG;have cz:Hid (∀ V,Cq 18 #[v.val,Iq t] V fun e w'=>e=.returned v.val/\Bq V w'):=fun V=>Kxn v t V bG Y;have cJ:=Jql v v rfl;have cO:(0:Int)<=(c:Int):=zo;have cP:(c:Int)<(ts.length:Int):=zo;have bk:Hid (wrap64 ((c:Int)+1)=((c+1:Nat):Int)/\c+1<=ts.length):=⟨by have:=bP.out;unfold wrap64;omega,M⟩;have z1:=Ja H.out bf.1;have z2:=Ja H.out bf.2.1;have cj:=Ja H.out bf.2.2;have cn:=Ja H.out bi.out.1;have cu:=Ja H.out bK;clear bf bK Y bG hv bZ cH cI bx M bV;go_upto_region 28 with fail
     refine wp_region_noPanic (wp_region_held_drew (S:=fun X=>X.cell? (Ar b1 (bH+i))=some (Sr b2 bA ts.length bJ)/\X.cell? (Ar b2 (bA+c*3))=some (Iq v.k)/\X.cell? (Ar b2 (bA+c*3+1))=some (Iq v.n)/\X.cell? (Ar b2 (bA+c*3+2))=some (.string v.s)/\X.cell? (Ar tb 1)=some (Sr b3 cc ts.length bB)/\X.cell? (Ar b3 (cc+c))=some (Iq t)) zK ⟨bh,z1,z2,cj,cn,cu⟩ (fun y=>?_));have K:Bq wr wr.drew:=⟨rfl,rfl,rfl,Oa2 _,fun _ _=>rfl⟩;generalize wr.drew=cM at K y |-;refine tkg 0 rfl y ?_;refine tkg 1 rfl y ?_;refine tkg 2 rfl y ?_;refine tkg 3 rfl y ?_;refine tkn ?_;refine tkg 4 rfl y ?_;refine tkg 5 rfl y ?_;refine tkg 6 rfl y ?_;refine tkn ?_;refine tkg 7 rfl y ?_;refine tkg 8 rfl y ?_;refine tkg 9 rfl y ?_;refine tkg 10 rfl y ?_;refine tkn ?_;refine tkg 11 rfl y ?_;refine tkg 12 rfl y ?_;refine tkg 13 rfl y ?_;refine tkn ?_;refine tkg 14 rfl y ?_;refine tkg 15 rfl y ?_;refine tkg 16 rfl y ?_;refine tkn ?_;refine tkg 17 rfl y ?_;refine tkg 18 rfl y ?_;refine tkn ?_;refine tkr 19 rfl fun cB hK=>?_;go_simp;refine(cz.out _).mono ?_;rintro e cE ⟨rfl,I⟩;go_simp;refine hK.out _ _ ⟨Ja I y.1,Ja I y.2.1,Ja I y.2.2.1,Ja I y.2.2.2.1,Ja I y.2.2.2.2.1,Ja I y.2.2.2.2.2⟩ (fun y=>?_);clear hK cB;have cx:Hid (Bq X cE):=Jb H.out (Jb K I);refine tkg 20 rfl y ?_;refine tkn ?_;refine wpAnyH_done zK (NoPanic.normal ?_) _;clear y K I bh z1 z2 cj cn cu cJ;go_wp2_with fail
     go_roundw
     case rel=>exact⟨c+1,bk.out.2,by first|(rw[Int.natCast_add,Int.natCast_one];done)|rw[bk.out.1],cx.out⟩
     case measure=>
      have cF:=bk.out.2;have bD:=bk.out.1;first|(rw[bD];show ts.length-(((c+1:Nat):Int)).toNat<ts.length-((c:Nat):Int).toNat;omega)|(show ts.length-((c:Int)+1).toNat<ts.length-((c:Nat):Int).toNat;omega)
    have cQ:¬ ((c:Int)<(ts.length:Int)):=zo;clear M bV;go_wp2_with fail
    go_roundw
    case rel=>exact⟨i+1,br.out.2,by first|(rw[Int.natCast_add,Int.natCast_one];done)|rw[br.out.1],H.out⟩
    case measure=>
     have cF:=br.out.2;have bD:=br.out.1;first|(rw[bD];show R.length-(((i+1:Nat):Int)).toNat<R.length-((i:Nat):Int).toNat;omega)|(show R.length-((i:Int)+1).toNat<R.length-((i:Nat):Int).toNat;omega)
  have cN:¬ ((i:Int)<(R.length:Int)):=zo;clear U hi;go_wp2_with fail
  refine cA.out _ _ (cv.out _ _ ?_);exact Qdg (cy.out.below O.out)
structure BkR (X:World) (M:Nat->Prop) (st:Nat) (D:DS) (Ts:List TS) (ts:List Int) (la:Option Addr) (R:List (List V)) (gc gn gp:Int) (M':Nat->Prop) (E':DS) (Y:World):Prop where
 rows:(∃ g bs,la=some (Aq g)/\Jcu Y X.heap.size g bs R)\/la=none/\R=[]
 ty:∀ r∈R,Jee ts r
 len:R.length<=200
 sto:Sto M' Y st E' Ts
 same:Kft D E'
 new:∀ k,M' k->M k\/X.heap.size<=k
 out:(gc=0/\gn=-1/\gp=-1/\∃ cs,Ye D Ts Kr1=.inl cs)\/(gc=7/\gn=0/\R=[]/\∃ p:Nat,gp=(p:Int)/\Ye D Ts Kr1=.inr p)
section
variable {w X Y wx:World} {M M':Nat->Prop} {st:Nat} {D E':DS} {Ts:List TS} {ts:List Int} {la:Option Addr} {R:List (List V)} {gc gn gp:Int}
theorem BkR.rowsAt (h:BkR X M st D Ts ts la R gc gn gp M' E' Y):∃ xs,Zd Y la xs R:=by
 rcases h.rows with⟨g,bs,rfl,y⟩|⟨rfl,rfl⟩
 ·exact⟨_,y.rowsAt⟩
 exact⟨[],rfl,.inl rfl,fun i h r hh=>by simp at hh⟩
theorem BkR.move {fa}(h:BkR X M st D Ts ts la R gc gn gp M' E' Y)(Z:w.heap.size<=X.heap.size)(hs:Y.heap.size<=wx.heap.size)(O:∀ k,k<Y.heap.size->k≠fa->wx.heap[k]?=Y.heap[k]?)(bh:¬ M fa)(bi:fa<X.heap.size\/Y.heap.size<=fa):BkR w M st D Ts ts la R gc gn gp M' E' wx:=by
 refine⟨?_,h.ty,h.len,h.sto.stands hs fun k y=>O k (h.sto.lt k y) fun e=>?_,h.same,fun k y=>(h.new k y).imp_right fun a=>zo,h.out⟩
 ·rcases h.rows with⟨g,bs,e,K⟩|e
  ·have bf:=K.outer.lt;have U:=K.lts;have I:=K.from_;have H:=K.of_blocks (O g bf zo) (fun b hb=>O b (U b hb) (by have:=(I.2 b hb).1;have:=U b hb;omega));exact .inl ⟨g,bs,e,H.len,H.outer,H.rows,⟨Ob2 Z I.1,fun b hb=>⟨Ob2 Z (I.2 b hb).1,(I.2 b hb).2⟩⟩,H.nodup⟩
  exact .inr e
 subst e;have:=h.sto.lt k y;rcases h.new k y with a|a
 ·exact bh a
 omega
theorem BkR.not {fa}(h:BkR X M st D Ts ts la R gc gn gp M' E' Y)(H:¬ M fa)(I:fa<X.heap.size\/Y.heap.size<=fa):¬ M' fa:=fun y=>by
 have:=h.sto.lt _ y;rcases h.new _ y with a|a
 ·exact H a
 omega
theorem BkS.run {W}{n:Nat}{T Us}(h:BkS W X st ts n M D T Us)(bG:n<=60)(bf:1<=ts.length/\ts.length<=6)(bD:∀ x,x<ts.length->1<=ts.getD x 0/\ts.getD x 0<=3)(O:∃ a0 a1 a2 U q wr pg pl ex ta,Jax W a0 a1 a2 U q wr pg pl ex ta)(nb kb:Nat)(bA:X.heap[nb]?=some (.cells ((Kus kb).flatMap ndC).toArray 54 (0,0)))(bz:X.heap[kb]?=some (.cells #[iZ,iZ,.bool false,iZ] 57 (0,0)))(bx:¬ M kb)(z bu:Nat)(bl sd:Int)(bj:1<=z/\z<=1000)(hb:2<=bu/\bu<=31)(hl:0<=bl/\bl<=4096)(bC:Jg sd):
  Cq 15 #[Pq st,.agg #[Sq nb 2 2],.agg #[Iq (z:Int),Iq (bu:Int),Iq bl,Iq sd]] X fun e w'=>Ju M X w'/\∃ la R gc Y Z K I,e=.returned (.tuple #[.slice la R.length R.length,Ko gc Y (-1) (-1) Z])/\BkR X M st D (T::Us) ts la R gc Y Z K I w':=by
 obtain⟨a0,a1,a2,U,q,wr,pg,pl,ex,ta,O⟩:=O;refine(Qcd M st D (T::Us) ts X h.sto h.ok h.tys (by rw[h.find];simp) (fun cs H=>⟨(h.good cs H).1,by have:=(h.good cs H).2;omega⟩) bf.2 bD h.quota h.fail a0 a1 a2 U q wr pg pl ex ta W O h.low h.above 0 false bf.1 nb kb bA bz bx z bu bl sd bj.1 bj.2 hb.1 hb.2 hl.1 hl.2 bC 400000 zo h.few).mono fun e w' hp=>?_;obtain⟨bi,bE,K,I,bh,br,s1,s2,_,_,bk,bH⟩:=hp;rcases br with⟨cs,g,bs,R,H,rfl,y,hR,bB⟩|⟨p,hp,rfl⟩
 ·exact⟨bi,_,R,0,-1,-1,K,I,rfl,.inl ⟨g,bs,rfl,y.len,y.outer,y.rows,⟨Ob2 bh y.from_.1,fun b hb=>⟨Ob2 bh (y.from_.2 b hb).1,(y.from_.2 b hb).2⟩⟩,y.nodup⟩,bB,by have:=(h.good cs H).2;omega,s1,s2,bk,.inl ⟨rfl,rfl,rfl,cs,H⟩⟩
 exact⟨bi,none,[],7,0,p,K,I,rfl,.inr ⟨rfl,rfl⟩,fun r hr=>by simp at hr,zS,s1,s2,bk,.inr ⟨rfl,rfl,rfl,p,rfl,hp⟩⟩
theorem Qam {E}(M:∀ T∈Ts,Jid D T)(hs:Kft D E)n:Jf8 E Ts n=Jf8 D Ts n:=by
 have Z:∀ T∈Ts,Jid E T:=fun T U=>Kwo hs (M T U);have Y:=Kvh hs Ts n;rcases Keq D Ts n M with⟨K,H⟩|⟨bj,K,H⟩|⟨bh,br,K,H,_,bk,_,bf⟩<;>rcases Keq E Ts n Z with⟨I,y⟩|⟨j,I,y⟩|⟨cs,m,I,y,_,bi,_,O⟩<;>rw[Y,K]at I<;>cases I
 ·rw[y,H]
 ·rw[y,H]
 rw[y,H,<-O 0 zo,<-bf 0 zo]
end
theorem Qcm {I st D E Ts y}(h:Sto I y st E Ts)(K:∀ T∈Ts,Jid D T)(hs:Kft D E)(bf:Ub Ts Kr1<Ts.length){a0 a1 a2 O q wr pg pl ex ta}(U:Jax y a0 a1 a2 O q wr pg pl ex ta):
  Cq 17 #[Pq st,.string ⟨#[116]⟩] y fun e w'=>Bq y w'/\∃ (M:Option Addr) (mn:Nat) (H hp:Int),e=.returned (.tuple #[.slice M mn mn,Ko H (-1) (-1) (-1) hp])/\((H=0/\hp=-1/\∃ xs Q,Zd w' M xs Q/\mn=Q.length/\Jf8 D Ts Kr1=some (.inl Q))\/(H=7/\mn=0/\∃ j:Nat,hp=(j:Int)/\Jf8 D Ts Kr1=some (.inr j))):=by
 refine(Kcc I st E Ts Kr1 y h (fun T Y=>Kwo hs (K T Y)) a0 a1 a2 O q wr pg pl ex ta U).mono fun e w' hp=>?_;rw[Qam K hs]at hp;obtain⟨hb,hp⟩:=hp;refine⟨hb,?_⟩;rcases hr:Jf8 D Ts Kr1 with _|Q|j
 ·exfalso;unfold Jf8 at hr;rw[Oa3 bf]at hr;simp at hr
 ·rw[hr]at hp;obtain⟨g,bs,Z,bh⟩:=hp;exact⟨_,Q.length,0,-1,Z,.inl ⟨rfl,rfl,_,Q,bh.rowsAt,rfl,rfl⟩⟩
 rw[hr]at hp;exact⟨none,0,7,j,hp,.inr ⟨rfl,rfl,j,rfl,rfl⟩⟩
theorem Qdv {u0 u1 u2 u3 u4 u5 u6 u7 u8 u9 u12 u14 u15 u17 u20 u21 u22 u23 u24 u25 u26 bT w W X y D bz T Us bI bA sm st tb ga n la R gc bB bC ts bH bL bV rc bX rs}(bP:Bq w W)(bj:BkS W X st ts n bI D T Us)(hR:Uw W Kr1 bH bL rc ts bX rs)(bD:∃ a0 a1 a2 bU q wr pg pl ex ta,Jax W a0 a1 a2 bU q wr pg pl ex ta)(htb:W.heap[tb]?=some (.cells #[.string ⟨#[116]⟩,.slice bH ts.length bV,.slice bL rs.length rc] 25 (0,0)))(bQ:sm=false->Jf8 D (T::Us) Kr1=some (.inl rs))(hrs:rs.length<=60)(bO:Ju bI X y)(bK:y.heap[ga]?=some (.cells #[Iq gc,Iq bB,iM,iM,Iq bC] 39 (0,0)))(M:BkR X bI st D (T::Us) ts la R gc bB bC bA bz y)(cc:bT.length=213:=by rfl):
  Code.wp prog (Kr7 13 (Tryz.f3.body.getD .skip)) (bodyPost prog Tryz.f3 fun e w'=>e=.returned (.bool true)/\Bq w w') ⟨(u0::u1::u2::u3::u4::u5::u6::u7::u8::u9::Pq tb::Pq st::u12::.bool sm::u14::u15::Iq ((Js D.pages:Nat):Int)::u17::.slice la R.length R.length::Pq ga::u20::u21::u22::u23::u24::u25::u26::bT).toArray,[]⟩ y:=by
 obtain⟨cu,rfl⟩:=Ksu cc;have bh:Bq W y:=Ksn bj.low bj.above bO;obtain⟨a0,a1,a2,bU,q,wr,pg,pl,ex,ta,bD⟩:=bD;have cf:=Qcm M.sto bj.ok M.same (by rw[bj.find];simp) (bD.below bh);have bZ:Hid (∀ bk K mn bi (O hp:Int),Bq y bk->bk.heap[bi]?=some (.cells #[Iq O,iM,iM,iM,Iq hp] 39 (0,0))->((O=0/\hp=-1/\∃ xs Q,Zd bk K xs Q/\mn=Q.length/\Jf8 D (T::Us) Kr1=some (.inl Q))\/(O=7/\mn=0/\∃ j:Nat,hp=(j:Int)/\Jf8 D (T::Us) Kr1=some (.inr j)))->BkE w bk bz (T::Us) bA st ga bi tb sm R.length K mn):=fun bk K mn bi O hp br bN ho=>by
  have bM:=(br.block _ (Jd bK)).trans bK;refine⟨Jb bP (Jb bh br),M.sto.below br,⟨gc,bB,-1,-1,bC,O,-1,-1,-1,hp,bM,bN,?_,?_⟩,fun hs=>?_⟩
  ·rcases M.out with⟨H,_⟩|⟨H,U,I,p,bf,_⟩
   ·exact .inl H
   exact .inr ⟨H,U,⟨p,bf⟩,by rw[I];rfl⟩
  ·rcases ho with⟨H,_⟩|⟨H,U,j,I,_⟩
   ·exact .inl H
   exact .inr ⟨H,⟨j,I⟩,U⟩
  have bG:=bQ hs;rcases ho with⟨rfl,rfl,xs,Q,H,U,I⟩|⟨_,_,j,_,I⟩
  ·have e:Q=rs:=by rw[bG]at I;cases I;rfl
   subst e;have ca:gc=0/\bB=-1/\bC=-1:=by
    rcases M.out with⟨H,U,I,_⟩|⟨_,_,_,p,_,bf⟩
    ·exact⟨H,U,I⟩
    exfalso;rcases Keq D (T::Us) Kr1 bj.ok with⟨_,bx⟩|⟨j,_,bx⟩|⟨cs,m,cj,_⟩
    ·rw[bG]at bx;cases bx
    ·rw[bG]at bx;cases bx
    unfold Ye at bf;rw[cj]at bf;cases bf
   obtain⟨rfl,rfl,rfl⟩:=ca;have ci:=((Jb bh br).block _ (Jd htb)).trans htb;exact⟨bM,bN,bL,rc,xs,bX,Q,by simp[World.cell?,ci],U,H,hR.rows.below (Jb bh br),hrs,fun r hr=>by
    obtain⟨j,cb,rfl⟩:=Od5 hr;have:=(hR.tab.2.2.2 j cb).1;have:=hR.tab.2.1.1.2;unfold maxLen;omega⟩
  rw[bG]at I;cases I
 obtain⟨xs,bS⟩:=M.rowsAt;have bR:=(bh.block _ (Jd htb)).trans htb;have Y:Hid (Zd y la xs R/\(∀ r∈R,Jee ts r)/\R.length<=200/\y.cell? (Ar tb 1)=some (.slice bH ts.length bV)/\Kc y bH ts/\(∀ t∈ts,tOk t)/\ts.length<=6):=⟨bS,M.ty,M.len,by simp[World.cell?,bR],hR.types.below bh,hR.tok,hR.tab.2.1.1.2⟩;rw[<-M.same.used];clear bP bj hR bD htb bQ hrs bO bK M bh bS bR;dsimp only[Kr7,Ku3,Tryz.f3,Option.getD];go_upto_region 19 with fail
 go_cut [20,21] from 106 to 110 (fun m f bW=>∃ (K:Option Addr) (mn bi:Nat),m=.slice K mn mn/\f=Pq bi/\Hid (Bq y bW/\BkE w bW bz (T::Us) bA st ga bi tb sm R.length K mn))
 case first=>
  go_wp2_with (go_at_call 17;refine cf.mono ?_;rintro cn Z ⟨bJ,K,mn,O,hp,rfl,ho⟩)
  have bE:Bq Z (Z.alloc (.cells #[Iq O,iM,iM,iM,Iq hp] 39)):=Jc (Oa5 _ _) _;have bY:Hid (Bq y (Z.alloc (.cells #[Iq O,iM,iM,iM,Iq hp] 39))/\BkE w (Z.alloc (.cells #[Iq O,iM,iM,iM,Iq hp] 39)) bz (T::Us) bA st ga Z.heap.size tb sm R.length K mn):=⟨Jb bJ bE,bZ.out _ K mn _ O hp (Jb bJ bE) (heap_alloc_new Z _) (ho.imp_left fun ⟨H,U,xs,Q,I,bf⟩=>⟨H,U,xs,Q,I.below bE,bf⟩)⟩;clear bJ ho bE;go_meet
  case rel=>exact⟨K,mn,_,rfl,rfl,bY.out⟩
 case rest=>
  obtain⟨K,mn,bi,rfl,rfl,hcut⟩:=hcut;refine Qa3 ?_ zM;have hb:=hcut.out.1;exact Qdu hcut.out.2 (Y.out.1.below hb) Y.out.2.1 Y.out.2.2.1 (Ja hb Y.out.2.2.2.1) (Y.out.2.2.2.2.1.below hb) Y.out.2.2.2.2.2.1 Y.out.2.2.2.2.2.2
attribute [local go_sem] Oc0
theorem Qde {u0 u1 u2 u3 u4 u5 u6 u7 u8 u9 u12 u14 u15 u18 u19 u20 u21 u22 u23 u24 u25 u26 de w W X D T Us bA sm}{st tb bN n z bu:Nat}{bl os:Int}{ts cG cF}{df rc:Nat}{dg rs}(cX:Bq w W)(cy:BkS W X st ts n bA D T Us)(cV:n<=60)(hR:Uw W Kr1 cG cF rc ts dg rs)(cM:∃ a0 a1 a2 cP q wr pg pl ex ta,Jax W a0 a1 a2 cP q wr pg pl ex ta)(htb:W.heap[tb]?=some (.cells #[.string ⟨#[116]⟩,.slice cG ts.length df,.slice cF rs.length rc] 25 (0,0)))(dc:X.heap[bN]?=some (.cells #[Iq (z:Int),Iq (bu:Int),Iq bl,Iq os] 28 (0,0)))(db:¬ bA bN)(bf:1<=z/\z<=1000)(cT:2<=bu/\bu<=31)(cS:0<=bl/\bl<=4096)(cY:Jg os)(cZ:sm=false->Jf8 D (T::Us) Kr1=some (.inl rs))(hrs:rs.length<=60)(dt:de.length=213:=by rfl):
  Code.wp prog (Kr7 12 (Tryz.f3.body.getD .skip)) (bodyPost prog Tryz.f3 fun e w'=>e=.returned (.bool true)/\Bq w w') ⟨(u0::u1::u2::u3::u4::u5::u6::u7::u8::u9::Pq tb::Pq st::u12::.bool sm::u14::u15::Iq ((Js D.pages:Nat):Int)::Pq bN::u18::u19::u20::u21::u22::u23::u24::u25::u26::de).toArray,[]⟩ X:=by
 obtain⟨dP,rfl⟩:=Ksu dt;have bO:Hid (Bq w W/\BkS W X st ts n bA D T Us/\Uw W Kr1 cG cF rc ts dg rs/\(∃ a0 a1 a2 cP q wr pg pl ex ta,Jax W a0 a1 a2 cP q wr pg pl ex ta)/\W.heap[tb]?=some (.cells #[.string ⟨#[116]⟩,.slice cG ts.length df,.slice cF rs.length rc] 25 (0,0))/\(sm=false->Jf8 D (T::Us) Kr1=some (.inl rs))/\rs.length<=60):=⟨cX,cy,hR,cM,htb,cZ,hrs⟩;have da:∀ x,x<ts.length->1<=ts.getD x 0/\ts.getD x 0<=3:=fun x dd=>by
  have:=hR.tab.2.1.2 x dd;rw[Oa0,Oa3 dd,Option.getD_some];unfold Jnd at this;simp at this;omega
 have cx:Hid (∀ k,X.heap.size<=k->¬ bA k):=fun k bR ds=>by have:=cy.sto.lt k ds;omega
 have cJ:Hid (∀ bP nb kb,Bq X bP->bP.heap[nb]?=some (.cells ((Kus kb).flatMap ndC).toArray 54 (0,0))->bP.heap[kb]?=some (.cells #[iZ,iZ,.bool false,iZ] 57 (0,0))->X.heap.size<=kb->Cq 15 #[Pq st,.agg #[Sq nb 2 2],.agg #[Iq (z:Int),Iq (bu:Int),Iq bl,Iq os]] bP fun e w'=>Ju bA bP w'/\∃ la R gc Y Z br bx,e=.returned (.tuple #[.slice la R.length R.length,Ko gc Y (-1) (-1) Z])/\BkR bP bA st D (T::Us) ts la R gc Y Z br bx w'):=fun bP nb kb dr bB I bQ=>(cy.below dr).run cV hR.tab.2.1.1 da cM nb kb bB I (cx.out kb bQ) z bu bl os bf cT cS cY;have cL:=Krx db;clear cX cy cV hR cM htb db bf cT cS cY cZ hrs da;dsimp only[Kr7,Ku3,Tryz.f3,Option.getD];go_upto_region 18 with fail
 go_cut [18,19] from 94 to 105 (fun l f bV=>∃ (la:Option Addr) (R:List (List V)) (gc Y Z:Int) (fa:Nat) (br:Nat->Prop) (bx:DS),l=.slice la R.length R.length/\f=Pq fa/\Hid (bV.heap[fa]?=some (.cells #[Iq gc,Iq Y,iM,iM,Iq Z] 39 (0,0))/\Ju bA X bV/\BkR X bA st D (T::Us) ts la R gc Y Z br bx bV/\¬ br fa/\X.heap.size<=fa))
 case first=>
  refine wp_region_held_drew (S:=fun X=>X.heap[bN]?=some (.cells #[Iq (z:Int),Iq (bu:Int),Iq bl,Iq os] 28 (0,0))) zK dc (fun y=>?_);have H:Bq X X.drew:=⟨rfl,rfl,rfl,Oa2 _,fun _ _=>rfl⟩;generalize X.drew=bi at H y |-;refine tkg 0 rfl y ?_;refine tkg 2 rfl y ?_;refine tkg 7 rfl y ?_ (hy:=by intro X bZ;have c0:=zc 0 bZ;have c1:=zc 1 bZ;have c2:=zc 2 bZ;have c3:=zc 3 bZ;clear bZ;go_simp;try rfl);refine tkn ?_;refine Ks2 (n:=2) (fun a l a' bC=>l=#[true,true,true,true,true,true,true,true,true,true,true,true,true,false,false]/\∃ (la:Option Addr) (R:List (List V)) (gc Y Z:Int) (fa kb nb:Nat) (br:Nat->Prop) (bx:DS),a'=((((((((((a.put (some 96) (Nd.val ⟨0,0,0,Kr1,(none,0,0),(none,0,0),0⟩)).put (some 98) (Sq kb 1 1)).put (some 99) (.agg #[Iq 5,iZ,iZ,.string ⟨#[]⟩,Sz,Sq kb 1 1,iZ])).put (some 100) (Sq nb 2 2)).put (some 101) (.agg #[Sq nb 2 2])).put (some 103) (.tuple #[.slice la R.length R.length,Ko gc Y (-1) (-1) Z])).put (some 19) (Pq fa)).put (some 94) (.tuple #[.slice la R.length R.length,Ko gc Y (-1) (-1) Z])).put (some 104) (.slice la R.length R.length)).put (some 105) (Ko gc Y (-1) (-1) Z))/\Qca bA X fa (BkR X bA st D (T::Us) ts la R gc Y Z br bx) bC/\¬ br fa/\bC.heap[bN]?=some (.cells #[Iq (z:Int),Iq (bu:Int),Iq bl,Iq os] 28 (0,0))) ?tail (fun cK=>?go)
  case tail=>
   rintro l a' V ⟨rfl,la,R,gc,Y,Z,fa,kb,nb,br,bx,rfl,bY,cW,y⟩;simp only[Act.put,Oa1,List.set_cons_zero,List.set_cons_succ];have bf:=bY.z;have du:=zc 0 bf;have dv:=zc 1 bf;have dw:=zc 2 bf;have dx:=zc 3 bf;have dy:=zc 4 bf;have di:=Lib.frozen_of_heap bf 0;have dj:=Lib.frozen_of_heap bf 1;have dl:=Lib.frozen_of_heap bf 2;have dm:=Lib.frozen_of_heap bf 3;have dp:=Lib.frozen_of_heap bf 4;have cI:Hid _:=bY.store gc Y (-1) (-1) Z;have cQ:Hid (¬ br fa/\X.heap.size<=fa):=⟨cW,bY.new⟩;have bX:bN≠fa:=by have:=bY.new;have:=Jd dc;omega
   have dh:Hid _:=(Zh V fa (Iq gc) (Iq Y) iM iM  (Iq Z) _ bX).trans y;clear bf bY bX cW;refine tkg 13 rfl y ?_;refine tkn ?_;refine tkr 14 rfl fun M hK=>?_;go_simp;refine hK.out _ _ dh.out (fun _=>?_);clear hK M du dv dw dx dy di dj dl dm dp y;refine wpAnyH_done zK ?_ _;go_wp2_with fail
   go_meet
   case rel=>exact⟨la,R,gc,Y,Z,fa,br,bx,rfl,rfl,cI.out.1,cI.out.2.1,cI.out.2.2,cQ.out.1,cQ.out.2⟩
  case go=>
   refine Ks2 (n:=8) (fun a l a' bC=>l=#[true,true,true,true,true,false,false,true,false,false,false,false,true,false,false]/\∃ (kb fa:Nat),a'=((((a.put (some 96) (Nd.val ⟨0,0,0,Kr1,(none,0,0),(none,0,0),0⟩)).put (some 98) (Sq kb 1 1)).put (some 99) (.agg #[Iq 5,iZ,iZ,.string ⟨#[]⟩,Sz,Sq kb 1 1,iZ])).put (some 19) (Pq fa))/\bC.heap[kb]?=some (.cells #[iZ,iZ,.bool false,iZ] 57 (0,0))/\bC.heap[fa]?=some (.cells #[iZ,iZ,iZ,iZ,iZ] 39 (0,0))/\Bq X bC/\X.heap.size<=kb/\X.heap.size<=fa/\bC.heap[bN]?=some (.cells #[Iq (z:Int),Iq (bu:Int),Iq bl,Iq os] 28 (0,0))) ?tb (fun bW=>?ga)
   case tb=>
    rintro l a' bM ⟨rfl,kb,fa,rfl,I,K,H,bQ,cU,y⟩;have U:=Krx bQ;have bh:=Krx cU;clear bQ cU;refine tkn ?_;refine tkr 5 rfl fun M hK=>?_;go_simp;have bS:Bq bM (bM.alloc (.cells #[iZ,iZ,iZ,.string ⟨#[116]⟩,Sz,Sz,iZ,Iq 5,iZ,iZ,.string ⟨#[]⟩,Sz,Sq kb 1 1,iZ] 54)):=(Oa5 _ _).alloc (Oa2 _) _;have bB:(bM.alloc (.cells #[iZ,iZ,iZ,.string ⟨#[116]⟩,Sz,Sz,iZ,Iq 5,iZ,iZ,.string ⟨#[]⟩,Sz,Sq kb 1 1,iZ] 54)).heap[bM.heap.size]?=some (.cells ((Kus kb).flatMap ndC).toArray 54 (0,0)):=heap_alloc_new bM (.cells #[iZ,iZ,iZ,.string ⟨#[116]⟩,Sz,Sz,iZ,Iq 5,iZ,iZ,.string ⟨#[]⟩,Sz,Sq kb 1 1,iZ] 54);refine hK.out _ _ ((bS.block _ (Jd y)).trans y) (fun y=>?_);clear hK M;have cH:Hid (X.heap.size<=bM.heap.size):=H.size;obtain⟨nb,O⟩:∃ nb,nb=bM.heap.size:=⟨_,rfl⟩;rw[<-O]at bB cH |-;clear O;generalize bM.alloc (.cells #[iZ,iZ,iZ,.string ⟨#[116]⟩,Sz,Sz,iZ,Iq 5,iZ,iZ,.string ⟨#[]⟩,Sz,Sq kb 1 1,iZ] 54)=dH at bS bB y |-;replace H:=Jb H bS;replace I:=(bS.block _ (Jd I)).trans I;replace K:=(bS.block _ (Jd K)).trans K;clear bS;refine tkg 6 rfl y ?_;refine tkn ?_;refine tkr 8 rfl fun M hK=>?_;go_simp;refine(cJ.out _ _ _ H bB I U.out).mono ?_;rintro e dK ⟨bD,la,R,gc,Y,Z,br,bx,rfl,hR⟩;have bz:=Krx (And.intro hR bD);clear hR;go_simp;refine hK.out _ _ ((bD.block _ (Jd y) cL.out).trans y) (fun y=>?_);clear hK M bD;refine tkg 9 rfl y ?_;refine tkg 10 rfl y ?_;refine tkg 11 rfl y ?_;refine tkn ?_;have bE:¬ bA fa:=cx.out _ bh.out;exact cK _ _ _ ⟨zK,la,R,gc,Y,Z,fa,kb,nb,br,bx,zK,⟨(bz.out.2.block _ (Jd K) bE).trans K,(Ju.of_below H).trans bz.out.2,bh.out,fun bV bf bR=>bz.out.1.move (fa:=fa) H.size bf bR bE (.inl (Jd K))⟩,bz.out.1.not bE (.inl (Jd K)),y⟩
   case ga=>
    refine Ks2 (n:=9) (fun a l a' bC=>l=#[true,true,true,true,true,false,false,true,false,false,false,false,false,false,false]/\∃ (kb:Nat),a'=(((a.put (some 96) (Nd.val ⟨0,0,0,Kr1,(none,0,0),(none,0,0),0⟩)).put (some 98) (Sq kb 1 1)).put (some 99) (.agg #[Iq 5,iZ,iZ,.string ⟨#[]⟩,Sz,Sq kb 1 1,iZ]))/\bC.heap[kb]?=some (.cells #[iZ,iZ,.bool false,iZ] 57 (0,0))/\Bq X bC/\X.heap.size<=kb/\bC.heap[bN]?=some (.cells #[Iq (z:Int),Iq (bu:Int),Iq bl,Iq os] 28 (0,0))) ?ta (fun cR=>?gb)
    case ta=>
     rintro l a' bj ⟨rfl,kb,rfl,I,H,bQ,y⟩;have U:=Krx bQ;clear bQ;refine tkn ?_;refine wpAnyH_ready (rs:=[5,12]) zK zS (AllReadyH.cons rfl (fun M hK=>?_) (AllReadyH.cons rfl (fun M hK=>?_) AllReadyH.nil))
     ·go_simp;have cn:Bq bj (bj.alloc (.cells #[iZ,iZ,iZ,.string ⟨#[116]⟩,Sz,Sz,iZ,Iq 5,iZ,iZ,.string ⟨#[]⟩,Sz,Sq kb 1 1,iZ] 54)):=(Oa5 _ _).alloc (Oa2 _) _;have bB:(bj.alloc (.cells #[iZ,iZ,iZ,.string ⟨#[116]⟩,Sz,Sz,iZ,Iq 5,iZ,iZ,.string ⟨#[]⟩,Sz,Sq kb 1 1,iZ] 54)).heap[bj.heap.size]?=some (.cells ((Kus kb).flatMap ndC).toArray 54 (0,0)):=heap_alloc_new bj (.cells #[iZ,iZ,iZ,.string ⟨#[116]⟩,Sz,Sz,iZ,Iq 5,iZ,iZ,.string ⟨#[]⟩,Sz,Sq kb 1 1,iZ] 54);refine hK.out _ _ ((cn.block _ (Jd y)).trans y) (fun y=>?_);clear hK M;have cH:Hid (X.heap.size<=bj.heap.size):=H.size;obtain⟨nb,O⟩:∃ nb,nb=bj.heap.size:=⟨_,rfl⟩;rw[<-O]at bB cH |-;clear O;generalize bj.alloc (.cells #[iZ,iZ,iZ,.string ⟨#[116]⟩,Sz,Sz,iZ,Iq 5,iZ,iZ,.string ⟨#[]⟩,Sz,Sq kb 1 1,iZ] 54)=bK at cn bB y |-;replace H:=Jb H cn;replace I:=(cn.block _ (Jd I)).trans I;clear cn;refine tkg 6 rfl y ?_;refine tkn ?_;refine wpAnyH_ready (rs:=[8,12]) zK zS (AllReadyH.cons rfl (fun M hK=>?_) (AllReadyH.cons rfl (fun M hK=>?_) AllReadyH.nil))
      ·go_simp;refine(cJ.out _ _ _ H bB I U.out).mono ?_;rintro e bL ⟨bD,la,R,gc,Y,Z,br,bx,rfl,hR⟩;have bz:=Krx (And.intro hR bD);clear hR;go_simp;refine hK.out _ _ ((bD.block _ (Jd y) cL.out).trans y) (fun y=>?_);clear hK M bD;refine tkg 9 rfl y ?_;refine tkg 10 rfl y ?_;refine tkg 11 rfl y ?_;refine tkn ?_;refine tkr 12 rfl fun M hK=>?_;go_simp;have bU:Bq bL (bL.alloc Ka):=(Oa5 _ _).alloc (Oa2 _) Ka;have cN:(bL.alloc Ka).heap[bL.heap.size]?=some (.cells #[iZ,iZ,iZ,iZ,iZ] 39 (0,0)):=heap_alloc_new bL Ka;refine hK.out _ _ ((bU.block _ (Jd y)).trans y) (fun y=>?_);clear hK M;obtain⟨fa,O⟩:∃ fa,fa=bL.heap.size:=⟨_,rfl⟩;rw[<-O]at cN |-;have cv:Hid (X.heap.size<=fa/\bL.heap.size<=fa):=by have:=H.size;have:=bz.out.2.size;show _/\_;omega
       have bE:¬ bA fa:=cx.out _ cv.out.1;clear O;generalize bL.alloc Ka=dO at bU cN y |-;exact cK _ _ _ ⟨zK,la,R,gc,Y,Z,fa,kb,nb,br,bx,zK,⟨cN,((Ju.of_below H).trans bz.out.2).trans (Ju.of_below bU),cv.out.1,fun bV bf bR=>bz.out.1.move (fa:=fa) H.size (Ob2 bU.size bf) (fun k bX dq=>(bR k (Oc2 bX bU.size) dq).trans (bU.block k bX)) bE (.inr cv.out.2)⟩,bz.out.1.not bE (.inr cv.out.2),y⟩
      go_simp;have bT:Bq bK (bK.alloc Ka):=(Oa5 _ _).alloc (Oa2 _) _;have K:(bK.alloc Ka).heap[bK.heap.size]?=some (.cells #[iZ,iZ,iZ,iZ,iZ] 39 (0,0)):=heap_alloc_new bK Ka;refine hK.out _ _ ((bT.block _ (Jd y)).trans y) (fun y=>?_);clear hK M;have bh:Hid (X.heap.size<=bK.heap.size):=H.size;obtain⟨fa,O⟩:∃ fa,fa=bK.heap.size:=⟨_,rfl⟩;rw[<-O]at K bh |-;clear O;generalize bK.alloc Ka=dL at bT K y |-;replace H:=Jb H bT;replace I:=(bT.block _ (Jd I)).trans I;replace bB:=(bT.block _ (Jd bB)).trans bB;clear bT;refine tkr 8 rfl fun M hK=>?_;go_simp;refine(cJ.out _ _ _ H bB I U.out).mono ?_;rintro e dM ⟨bD,la,R,gc,Y,Z,br,bx,rfl,hR⟩;have bz:=Krx (And.intro hR bD);clear hR;go_simp;refine hK.out _ _ ((bD.block _ (Jd y) cL.out).trans y) (fun y=>?_);clear hK M bD;refine tkg 9 rfl y ?_;refine tkg 10 rfl y ?_;refine tkg 11 rfl y ?_;refine tkn ?_;have bE:¬ bA fa:=cx.out _ bh.out;exact cK _ _ _ ⟨zK,la,R,gc,Y,Z,fa,kb,nb,br,bx,zK,⟨(bz.out.2.block _ (Jd K) bE).trans K,(Ju.of_below H).trans bz.out.2,bh.out,fun bV bf bR=>bz.out.1.move (fa:=fa) H.size bf bR bE (.inl (Jd K))⟩,bz.out.1.not bE (.inl (Jd K)),y⟩
     go_simp;have cu:Bq bj (bj.alloc Ka):=(Oa5 _ _).alloc (Oa2 _) _;have K:(bj.alloc Ka).heap[bj.heap.size]?=some (.cells #[iZ,iZ,iZ,iZ,iZ] 39 (0,0)):=heap_alloc_new bj Ka;refine hK.out _ _ ((cu.block _ (Jd y)).trans y) (fun y=>?_);clear hK M;have bh:Hid (X.heap.size<=bj.heap.size):=H.size;obtain⟨fa,O⟩:∃ fa,fa=bj.heap.size:=⟨_,rfl⟩;rw[<-O]at K bh |-;clear O;generalize bj.alloc Ka=dN at cu K y |-;replace H:=Jb H cu;replace I:=(cu.block _ (Jd I)).trans I;clear cu;exact bW _ _ _ ⟨zK,kb,fa,zK,I,K,H,U.out,bh.out,y⟩
    case gb=>
     refine wpAnyH_ready (rs:=[1,3,12]) zK zS (AllReadyH.cons rfl (fun M hK=>?_) (AllReadyH.cons rfl (fun M hK=>?_) (AllReadyH.cons rfl (fun M hK=>?_) AllReadyH.nil)))
     ·go_simp;refine(Jor _ _).mono ?_;rintro e bk ⟨rfl,cO⟩;go_simp;refine hK.out _ _ ((cO.block _ (Jd y)).trans y) (fun y=>?_);clear hK M;replace H:=Jb H cO;clear cO;refine wpAnyH_ready (rs:=[3,12]) zK zS (AllReadyH.cons rfl (fun M hK=>?_) (AllReadyH.cons rfl (fun M hK=>?_) AllReadyH.nil))
      ·go_simp;have cz:Bq bk (bk.alloc (.cells #[iZ,iZ,.bool false,iZ] 57)):=(Oa5 _ _).alloc (Oa2 _) _;have I:(bk.alloc (.cells #[iZ,iZ,.bool false,iZ] 57)).heap[bk.heap.size]?=some (.cells #[iZ,iZ,.bool false,iZ] 57 (0,0)):=heap_alloc_new bk (.cells #[iZ,iZ,.bool false,iZ] 57);refine hK.out _ _ ((cz.block _ (Jd y)).trans y) (fun y=>?_);clear hK M;have U:Hid (X.heap.size<=bk.heap.size):=H.size;obtain⟨kb,O⟩:∃ kb,kb=bk.heap.size:=⟨_,rfl⟩;rw[<-O]at I U |-;clear O;generalize bk.alloc (.cells #[iZ,iZ,.bool false,iZ] 57)=dA at cz I y |-;replace H:=Jb H cz;clear cz;refine tkg 4 rfl y ?_;refine tkn ?_;exact cR _ _ _ ⟨zK,kb,zK,I,H,U.out,y⟩
      go_simp;have cA:Bq bk (bk.alloc Ka):=(Oa5 _ _).alloc (Oa2 _) _;have K:(bk.alloc Ka).heap[bk.heap.size]?=some (.cells #[iZ,iZ,iZ,iZ,iZ] 39 (0,0)):=heap_alloc_new bk Ka;refine hK.out _ _ ((cA.block _ (Jd y)).trans y) (fun y=>?_);clear hK M;have bh:Hid (X.heap.size<=bk.heap.size):=H.size;obtain⟨fa,O⟩:∃ fa,fa=bk.heap.size:=⟨_,rfl⟩;rw[<-O]at K bh |-;clear O;generalize bk.alloc Ka=bG at cA K y |-;replace H:=Jb H cA;clear cA;refine tkr 3 rfl fun M hK=>?_;go_simp;have ca:Bq bG (bG.alloc (.cells #[iZ,iZ,.bool false,iZ] 57)):=(Oa5 _ _).alloc (Oa2 _) _;have I:(bG.alloc (.cells #[iZ,iZ,.bool false,iZ] 57)).heap[bG.heap.size]?=some (.cells #[iZ,iZ,.bool false,iZ] 57 (0,0)):=heap_alloc_new bG (.cells #[iZ,iZ,.bool false,iZ] 57);refine hK.out _ _ ((ca.block _ (Jd y)).trans y) (fun y=>?_);clear hK M;have U:Hid (X.heap.size<=bG.heap.size):=H.size;obtain⟨kb,O⟩:∃ kb,kb=bG.heap.size:=⟨_,rfl⟩;rw[<-O]at I U |-;clear O;generalize bG.alloc (.cells #[iZ,iZ,.bool false,iZ] 57)=dB at ca I y |-;replace H:=Jb H ca;replace K:=(ca.block _ (Jd K)).trans K;clear ca;refine tkg 4 rfl y ?_;refine tkn ?_;exact bW _ _ _ ⟨zK,kb,fa,zK,I,K,H,U.out,bh.out,y⟩
     ·go_simp;have cB:Bq bi (bi.alloc (.cells #[iZ,iZ,.bool false,iZ] 57)):=(Oa5 _ _).alloc (Oa2 _) _;have I:(bi.alloc (.cells #[iZ,iZ,.bool false,iZ] 57)).heap[bi.heap.size]?=some (.cells #[iZ,iZ,.bool false,iZ] 57 (0,0)):=heap_alloc_new bi (.cells #[iZ,iZ,.bool false,iZ] 57);refine hK.out _ _ ((cB.block _ (Jd y)).trans y) (fun y=>?_);clear hK M;have U:Hid (X.heap.size<=bi.heap.size):=H.size;obtain⟨kb,O⟩:∃ kb,kb=bi.heap.size:=⟨_,rfl⟩;rw[<-O]at I U |-;clear O;generalize bi.alloc (.cells #[iZ,iZ,.bool false,iZ] 57)=bH at cB I y |-;replace H:=Jb H cB;clear cB;refine tkg 4 rfl y ?_;refine tkn ?_;refine wpAnyH_ready (rs:=[1,12]) zK zS (AllReadyH.cons rfl (fun M hK=>?_) (AllReadyH.cons rfl (fun M hK=>?_) AllReadyH.nil))
      ·go_simp;refine(Jor _ _).mono ?_;rintro e dC ⟨rfl,cC⟩;go_simp;refine hK.out _ _ ((cC.block _ (Jd y)).trans y) (fun y=>?_);clear hK M;replace H:=Jb H cC;replace I:=(cC.block _ (Jd I)).trans I;clear cC;exact cR _ _ _ ⟨zK,kb,zK,I,H,U.out,y⟩
      go_simp;have cb:Bq bH (bH.alloc Ka):=(Oa5 _ _).alloc (Oa2 _) _;have K:(bH.alloc Ka).heap[bH.heap.size]?=some (.cells #[iZ,iZ,iZ,iZ,iZ] 39 (0,0)):=heap_alloc_new bH Ka;refine hK.out _ _ ((cb.block _ (Jd y)).trans y) (fun y=>?_);clear hK M;have bh:Hid (X.heap.size<=bH.heap.size):=H.size;obtain⟨fa,O⟩:∃ fa,fa=bH.heap.size:=⟨_,rfl⟩;rw[<-O]at K bh |-;clear O;generalize bH.alloc Ka=dD at cb K y |-;replace H:=Jb H cb;replace I:=(cb.block _ (Jd I)).trans I;clear cb;refine tkr 1 rfl fun M hK=>?_;go_simp;refine(Jor _ _).mono ?_;rintro e dE ⟨rfl,cc⟩;go_simp;refine hK.out _ _ ((cc.block _ (Jd y)).trans y) (fun y=>?_);clear hK M;replace H:=Jb H cc;replace I:=(cc.block _ (Jd I)).trans I;replace K:=(cc.block _ (Jd K)).trans K;clear cc;exact bW _ _ _ ⟨zK,kb,fa,zK,I,K,H,U.out,bh.out,y⟩
     go_simp;have cD:Bq bi (bi.alloc Ka):=(Oa5 _ _).alloc (Oa2 _) _;have K:(bi.alloc Ka).heap[bi.heap.size]?=some (.cells #[iZ,iZ,iZ,iZ,iZ] 39 (0,0)):=heap_alloc_new bi Ka;refine hK.out _ _ ((cD.block _ (Jd y)).trans y) (fun y=>?_);clear hK M;have bh:Hid (X.heap.size<=bi.heap.size):=H.size;obtain⟨fa,O⟩:∃ fa,fa=bi.heap.size:=⟨_,rfl⟩;rw[<-O]at K bh |-;clear O;generalize bi.alloc Ka=bI at cD K y |-;replace H:=Jb H cD;clear cD;refine wpAnyH_ready (rs:=[1,3]) zK zS (AllReadyH.cons rfl (fun M hK=>?_) (AllReadyH.cons rfl (fun M hK=>?_) AllReadyH.nil))
     ·go_simp;refine(Jor _ _).mono ?_;rintro e bJ ⟨rfl,cE⟩;go_simp;refine hK.out _ _ ((cE.block _ (Jd y)).trans y) (fun y=>?_);clear hK M;replace H:=Jb H cE;replace K:=(cE.block _ (Jd K)).trans K;clear cE;refine tkr 3 rfl fun M hK=>?_;go_simp;have cf:Bq bJ (bJ.alloc (.cells #[iZ,iZ,.bool false,iZ] 57)):=(Oa5 _ _).alloc (Oa2 _) _;have I:(bJ.alloc (.cells #[iZ,iZ,.bool false,iZ] 57)).heap[bJ.heap.size]?=some (.cells #[iZ,iZ,.bool false,iZ] 57 (0,0)):=heap_alloc_new bJ (.cells #[iZ,iZ,.bool false,iZ] 57);refine hK.out _ _ ((cf.block _ (Jd y)).trans y) (fun y=>?_);clear hK M;have U:Hid (X.heap.size<=bJ.heap.size):=H.size;obtain⟨kb,O⟩:∃ kb,kb=bJ.heap.size:=⟨_,rfl⟩;rw[<-O]at I U |-;clear O;generalize bJ.alloc (.cells #[iZ,iZ,.bool false,iZ] 57)=dG at cf I y |-;replace H:=Jb H cf;replace K:=(cf.block _ (Jd K)).trans K;clear cf;refine tkg 4 rfl y ?_;refine tkn ?_;exact bW _ _ _ ⟨zK,kb,fa,zK,I,K,H,U.out,bh.out,y⟩
     go_simp;have ci:Bq bI (bI.alloc (.cells #[iZ,iZ,.bool false,iZ] 57)):=(Oa5 _ _).alloc (Oa2 _) _;have I:(bI.alloc (.cells #[iZ,iZ,.bool false,iZ] 57)).heap[bI.heap.size]?=some (.cells #[iZ,iZ,.bool false,iZ] 57 (0,0)):=heap_alloc_new bI (.cells #[iZ,iZ,.bool false,iZ] 57);refine hK.out _ _ ((ci.block _ (Jd y)).trans y) (fun y=>?_);clear hK M;have U:Hid (X.heap.size<=bI.heap.size):=H.size;obtain⟨kb,O⟩:∃ kb,kb=bI.heap.size:=⟨_,rfl⟩;rw[<-O]at I U |-;clear O;generalize bI.alloc (.cells #[iZ,iZ,.bool false,iZ] 57)=dI at ci I y |-;replace H:=Jb H ci;replace K:=(ci.block _ (Jd K)).trans K;clear ci;refine tkg 4 rfl y ?_;refine tkn ?_;refine tkr 1 rfl fun M hK=>?_;go_simp;refine(Jor _ _).mono ?_;rintro e dJ ⟨rfl,cj⟩;go_simp;refine hK.out _ _ ((cj.block _ (Jd y)).trans y) (fun y=>?_);clear hK M;replace H:=Jb H cj;replace I:=(cj.block _ (Jd I)).trans I;replace K:=(cj.block _ (Jd K)).trans K;clear cj;exact bW _ _ _ ⟨zK,kb,fa,zK,I,K,H,U.out,bh.out,y⟩
 case rest=>
  obtain⟨la,R,gc,Y,Z,fa,br,bx,rfl,rfl,hcut⟩:=hcut;refine Qa3 ?_ zM;exact Qdv bO.out.1 bO.out.2.1 bO.out.2.2.1 bO.out.2.2.2.1 bO.out.2.2.2.2.1 bO.out.2.2.2.2.2.1 bO.out.2.2.2.2.2.2 hcut.out.2.1 hcut.out.1 hcut.out.2.2.1
attribute [local go_sem] Oc0
structure BkG (w W:World) (tb ob:Nat) (oz oy ol os:Int) (ts:List Int) (tya ra:Option Addr) (tyc rc:Nat) (ys:List (Option Addr×Nat)) (rs:List (List V)):Prop where
 nw:Bq w W
 tr:Uw W Kr1 tya ra rc ts ys rs
 nm:∃ a0 a1 a2 tt q wr pg pl ex ta,Jax W a0 a1 a2 tt q wr pg pl ex ta
 htb:W.heap[tb]?=some (.cells #[.string ⟨#[116]⟩,.slice tya ts.length tyc,.slice ra rs.length rc] 25 (0,0))
 hob:W.heap[ob]?=some (.cells #[Iq oz,Iq oy,Iq ol,Iq os] 28 (0,0))
 hrs:rs.length<=60
 int:Jg oz/\Jg oy/\Jg ol/\Jg os
theorem Qdq {u0 u1 u2 u3 u4 u5 u6 u8 u9 u12 u14 u15 u16 u17 u18 u19 u20 u21 u22 u23 u24 u25 u26 bT w W X D T Us bz sm st tb ob n bR bf bQ os ts cj ci cn rc cA rs}(O:BkG w W tb ob bR bf bQ os ts cj ci cn rc cA rs)(Z:BkS W X st ts n bz D T Us)(bI:n<=60)(bL:sm=false->Jf8 D (T::Us) Kr1=some (.inl rs))(cb:bT.length=213:=by rfl):
  Code.wp prog (Kr7 9 (Tryz.f3.body.getD .skip)) (bodyPost prog Tryz.f3 fun e w'=>e=.returned (.bool true)/\Bq w w') ⟨(u0::u1::u2::u3::u4::u5::u6::Pq ob::u8::u9::Pq tb::Pq st::u12::.bool sm::u14::u15::u16::u17::u18::u19::u20::u21::u22::u23::u24::u25::u26::bT).toArray,[]⟩ X:=by
 obtain⟨cB,rfl⟩:=Ksu cb;have bM:=Kvj bz st D (T::Us) X Z.sto;have K:=Krx O;have bx:=Krx Z;have bk:=Krx (And.intro bI bL);have y:=(Z.low.block _ (Jd O.hob)).trans O.hob;have cu:=zc 0 y;have bU:=zc 1 y;have cx:=zc 2 y;have cy:=zc 3 y;have bJ:=Jqk bR bf bQ os X O.int.1 O.int.2.1 O.int.2.2.1;clear O Z bI bL y;dsimp only[Kr7,Ku3,Tryz.f3,Option.getD];go_upto_region 16 with(go_at_call 12;refine bM.mono ?_;rintro bB M ⟨rfl,cf⟩;subst cf)
 clear bM;go_upto_region 17 with(go_at_call 13;refine bJ.mono ?_;rintro bB H ⟨⟨z,Y,bl,rfl,bO,bP,bX,bY,bG,bH⟩,bi⟩)
 have br:Hid ((1<=z/\z<=1000)/\0<=bl/\bl<=4096):=⟨⟨bO,bP⟩,bG,bH⟩;have bC:Bq H (H.alloc (.cells #[Iq (z:Int),Iq Y,Iq bl,Iq os] 28)):=Jc (Oa5 _ _) _;have y:=heap_alloc_new H (.cells #[Iq (z:Int),Iq Y,Iq bl,Iq os] 28);have I:Hid (Bq M (H.alloc (.cells #[Iq (z:Int),Iq Y,Iq bl,Iq os] 28))/\M.heap.size<=H.heap.size):=⟨Jb bi bC,bi.size⟩;obtain⟨U,bN⟩:∃ U,U=H.heap.size:=⟨_,rfl⟩;rw[<-bN]at y I |-;clear bN bC bi bO bP bX bY bG bH bJ;generalize H.alloc (.cells #[Iq (z:Int),Iq Y,Iq bl,Iq os] 28)=bh at y I |-;have bj:=Krx y;have x1:=zc 1 y;have cz:=Lib.frozen_of_heap y 1;have cv:=Ja I.out.1 bU;have bK:Cq 14 #[Iq bf,Iq ((20:Nat):Int)] bh fun e w'=>(∃ r:Nat,e=.returned (Iq (r:Nat))/\r<20)/\w'=bh:=Jfw bf 20 bh K.out.int.2.1 zo zo;clear cu bU cx cy y;go_cut [] from 89 to 93 (fun bV=>∃ bu:Nat,Hid ((2<=bu/\bu<=31)/\bV.heap[U]?=some (.cells #[Iq (z:Int),Iq (bu:Int),Iq bl,Iq os] 28 (0,0))/\Bq M bV))
 case first=>
  go_wp2_with (go_at_call 14;refine bK.mono ?_;rintro bB bA ⟨⟨bS,rfl,ca⟩,cc⟩;subst cc)
  obtain⟨bu,bD,bE⟩:∃ bu:Nat,(bu:Int)=2+(bS:Int)/\(2<=bu/\bu<=31):=⟨2+bS,zo,zo⟩;rw[<-bD];have y:=Jk bj.out 1 (Iq (bu:Int));simp only[Oa1,List.set_cons_zero,List.set_cons_succ]at y;have bW:Hid ((2<=bu/\bu<=31)/\(bA.setCell (Ar U 1) (Iq (bu:Int))).heap[U]?=some (.cells #[Iq (z:Int),Iq (bu:Int),Iq bl,Iq os] 28 (0,0))/\Bq M (bA.setCell (Ar U 1) (Iq (bu:Int)))):=⟨bE,y,I.out.1.setCell (p:=Ar U 1) I.out.2 _⟩;clear ca bK x1 cz cv bj I bD bE y;go_meet
  case rel=>exact⟨bu,bW.out⟩
 case rest=>
  obtain⟨bu,hcut⟩:=hcut;refine Qa3 ?_ zM;have hb:=hcut.out.2.2;exact Qde K.out.nw (bx.out.below hb) bk.out.1 K.out.tr K.out.nm K.out.htb hcut.out.2.1 (fun bZ=>by have:=bx.out.sto.lt _ bZ;have:=I.out.2;omega) br.out.1 hcut.out.1 br.out.2 K.out.int.2.2.2 bk.out.2 K.out.hrs
attribute [local go_sem] Oc0
def Kw1 (w:World)(a:Option Addr)(ps:List (Int×Int×Int)):Prop:=
 ps=[]\/∃ b o,a=some (Ar b o)/\b<w.heap.size/\∀ i p,ps[i]?=some p->w.cell? (Ar b (o+i*3))=some (Iq p.1)/\w.cell? (Ar b (o+i*3+1))=some (Iq p.2.1)/\w.cell? (Ar b (o+i*3+2))=some (Iq p.2.2)
theorem zat {p:Prop}(h:p:=by have ci:=K.out.2;have bk:=K.out.1;first|(rw[bk];show ps.length-(((i+1:Nat):Int)).toNat<ps.length-((i:Nat):Int).toNat;omega)|(show ps.length-((i:Int)+1).toNat<ps.length-((i:Nat):Int).toNat;omega)):p:=h
theorem Qc9 {u0 u2 u3 u4 u5 u6 u8 u9 u12 u13 u14 u15 u16 u17 u18 u19 u20 u21 u22 u23 u24 u25 u26 bU w W X D0 T Us M st tb ob n cz cy cx os ts cB cA cC rc cD rs bA sc ps}(bN:BkG w W tb ob cz cy cx os ts cB cA cC rc cD rs)(bO:BkS W X st ts n M D0 T Us)(bR:n<=60)(bT:Jf8 D0 (T::Us) Kr1=some (.inl rs))(bS:Kw1 W bA ps)(U:ps.length<=maxLen)(cv:bU.length=213:=by rfl):
  Code.wp prog (Kr7 7 (Tryz.f3.body.getD .skip)) (bodyPost prog Tryz.f3 fun e w'=>e=.returned (.bool true)/\Bq w w') ⟨(u0::.slice bA ps.length sc::u2::u3::u4::u5::u6::Pq ob::u8::u9::Pq tb::Pq st::u12::u13::u14::u15::u16::u17::u18::u19::u20::u21::u22::u23::u24::u25::u26::bU).toArray,[]⟩ X:=by
 obtain⟨cG,rfl⟩:=Ksu cv;have ca:=Krx bN;have bH:=Krx bO;have bD:=Krx (And.intro bR bT);have bE:=Krx (And.intro bS U);clear bN bO bR bT bS U;show Code.wp prog (.seq (Kv1 (Kr7 7 (Tryz.f3.body.getD .skip))) (.seq (Kv1 (Kr7 8 (Tryz.f3.body.getD .skip))) (Kr7 9 (Tryz.f3.body.getD .skip)))) _ _ _;refine wp_seq_k fun bJ h0=>?_;obtain⟨bi,br⟩:∃ bi,bi=Exit.then bJ (bodyPost prog Tryz.f3 fun e w'=>e=.returned (.bool true)/\Bq w w'):=⟨_,rfl⟩
 have bG:Hid (∀ a w,bJ a w->bi .normal a w):=fun a w h=>by rw[br];exact h
 rw[<-br];have bC:=Krx h0;clear br h0;dsimp only[Kr7,Kv1,Ku3,Tryz.f3,Option.getD];go_wp2_with fail
 refine bG.out _ _ (bC.out _ _ ?_);clear bG bC;refine wp_seq_k fun bK bL=>?_;obtain⟨bj,bx⟩:∃ bj,bj=Exit.then bK (bodyPost prog Tryz.f3 fun e w'=>e=.returned (.bool true)/\Bq w w'):=⟨_,rfl⟩
 have cb:Hid (∀ a w,bK a w->bj .normal a w):=fun a w h=>by rw[bx];exact h
 rw[<-bx];have bZ:=Krx bL;clear bx bL;dsimp only[Kr7,Kv1,Ku3,Tryz.f3,Option.getD];go_wp2_with fail
 go_loopw [13,14] (fun vs bB wr=>∃ (sm:Bool) (i:Nat) (D:DS),i<=ps.length/\vs=.bool sm/\bB=Iq (i:Int)/\Hid (BkS W wr st ts n M D T Us/\(sm=false->D=D0))) (fun _ bB _=>ps.length-(intOf bB).toNat)
 case atStart=>exact⟨false,0,D0,Ob7 _,rfl,rfl,bH.out,fun _=>rfl⟩
 case round=>
  clear bH;obtain⟨sm,i,D,hi,rfl,rfl,bM⟩:=hrel;have H:=Krx bM.out;clear bM;have U:=bE.out.2;unfold maxLen at U;by_cases O:i<ps.length
  ·obtain⟨b1,bz,rfl,cn,bP⟩:∃ b o,bA=some (Ar b o)/\b<W.heap.size/\∀ i p,ps[i]?=some p->W.cell? (Ar b (o+i*3))=some (Iq p.1)/\W.cell? (Ar b (o+i*3+1))=some (Iq p.2.1)/\W.cell? (Ar b (o+i*3+2))=some (Iq p.2.2):=by
    rcases bE.out.1 with h|h
    ·rw[h]at O;simp at O
    ·exact h
   obtain⟨p,hp⟩:∃ p,ps[i]?=some p:=⟨_,Oa3 O⟩;obtain⟨z1,z2,bY⟩:=bP i p hp;have bV:=Ja H.out.1.low z1;have bW:=Ja H.out.1.low z2;have bX:=Ja H.out.1.low bY;have bh:Hid (¬ M b1):=fun cu=>by have:=H.out.1.above _ cu;omega
   have j1:(0:Int)<=(i:Int):=zo;have j2:(i:Int)<(ps.length:Int):=zo;have K:Hid (wrap64 ((i:Int)+1)=((i+1:Nat):Int)/\i+1<=ps.length):=⟨by unfold wrap64;omega,O⟩;have bI:Hid (∀ V,Bq wr V->Cq 11 #[Pq st,Iq p.1,Iq p.2.1,Iq p.2.2] V fun e w'=>∃ b I,e=.returned (.bool b)/\Ju M V w'/\Sto M w' st I (T::Us)/\Ktw D I/\(b=false->I=D)):=fun V cj=>Qak M st D (T::Us) p.1 p.2.1 p.2.2 V (H.out.1.sto.below cj);clear bP hp z1 z2 bY cn hi O U;go_upto_region 13 with fail
   refine wp_region_noPanic (wp_region_held_drew (S:=fun X=>X.cell? (Ar b1 (bz+i*3))=some (Iq p.1)/\X.cell? (Ar b1 (bz+i*3+1))=some (Iq p.2.1)/\X.cell? (Ar b1 (bz+i*3+2))=some (Iq p.2.2)) zK ⟨bV,bW,bX⟩ (fun y=>?_));have Z:Bq wr wr.drew:=⟨rfl,rfl,rfl,Oa2 _,fun _ _=>rfl⟩;generalize wr.drew=cE at Z y |-;refine tkg 0 rfl y ?_;refine tkg 1 rfl y ?_;refine tkg 2 rfl y ?_;refine tkg 3 rfl y ?_;refine tkn ?_;refine tkg 4 rfl y ?_;refine tkg 5 rfl y ?_;refine tkg 6 rfl y ?_;refine tkg 7 rfl y ?_;refine tkn ?_;refine tkg 8 rfl y ?_;refine tkg 9 rfl y ?_;refine tkg 10 rfl y ?_;refine tkg 11 rfl y ?_;refine tkn ?_;refine tkg 12 rfl y ?_;refine tkg 13 rfl y ?_;refine tkg 14 rfl y ?_;refine tkg 15 rfl y ?_;refine tkn ?_;refine tkr 16 rfl fun cc hK=>?_;go_simp;refine(bI.out _ Z).mono ?_;rintro e cf ⟨b,I,rfl,Y,hs,ht,bQ⟩;have bf:Hid (BkS W cf st ts n M I T Us/\(b=false->I=D)):=⟨(H.out.1.below Z).turn Y hs ht,bQ⟩;go_simp;refine hK.out _ _ ⟨Y.cell y.1 bh.out,Y.cell y.2.1 bh.out,Y.cell y.2.2 bh.out⟩ (fun y=>?_);clear hK cc;refine tkg 17 rfl y ?_;refine tkn ?_;refine wpAnyH_done zK (NoPanic.normal ?_) _;clear y Z bV bW bX bI Y hs ht bQ;cases sm with
   |true=>
    go_wp2_with fail
    go_roundw
    case rel=>exact⟨true,i+1,I,K.out.2,rfl,by first|(rw[Int.natCast_add,Int.natCast_one];done)|rw[K.out.1],bf.out.1,fun e=>by cases e⟩
    case measure=>
     exact zat
   |false=>
    go_wp2_with fail
    go_roundw
    case rel=>exact⟨b,i+1,I,K.out.2,rfl,by first|(rw[Int.natCast_add,Int.natCast_one];done)|rw[K.out.1],bf.out.1,fun e=>(bf.out.2 e).trans (H.out.2 rfl)⟩
    case measure=>
     exact zat
  have cF:¬ ((i:Int)<(ps.length:Int)):=zo;clear O hi U;go_wp2_with fail
  refine cb.out _ _ (bZ.out _ _ ?_);exact Qdq ca.out H.out.1 bD.out.1 (fun e=>by rw[H.out.2 e];exact bD.out.2)
attribute [local go_sem] Oc0
structure LdB (X:World) (M:Nat->Prop) (st:Nat) (T:TS) (rs:List (List V)) (fc:Int) (M':Nat->Prop) (D':DS) (Us:List TS) (Y:World):Prop where
 sto:Sto M' Y st D' (T::Us)
 ok:∀ T'∈T::Us,Jid D' T'
 room:D'.quota=1048576/\D'.fail=0/\dz D'<=400000
 ro:Jf8 D' (T::Us) Kr1=some (.inl rs)
 new:∀ k,M' k->M k\/X.heap.size<=k
theorem LdB.move {w X y K I O st fa T rs U M Us}(h:LdB X I st T rs U O M Us y)(bh:w.heap.size<=X.heap.size)(hs:y.heap.size<=K.heap.size)(Y:∀ k,k<y.heap.size->k≠fa->K.heap[k]?=y.heap[k]?)(Z:¬ I fa)(bf:fa<X.heap.size\/y.heap.size<=fa):LdB w I st T rs U O M Us K:=by
 refine⟨h.sto.stands hs fun k H=>Y k (h.sto.lt k H) fun e=>?_,h.ok,h.room,h.ro,fun k H=>(h.new k H).imp_right fun a=>zo⟩;subst e;have:=h.sto.lt k H;rcases h.new k H with a|a
 ·exact Z a
 omega
theorem Jer.num {D T rs}(h:Jer D T rs):T.rows=rs.length:=by
 have y:=(Jmq D T h.group.1).1;rw[h.read]at y;cases hc:Zo D T with
 |inl cs=>
  rw[hc]at y;rw[Sum.inl.inj y];exact(Uu _ _).symm
 |inr j=>rw[hc]at y;cases y
structure BkO (W X:World) (st:Nat) (ts:List Int) (rs:List (List V)) (M:Nat->Prop) (D:DS) (T:TS):Prop where
 low:Bq W X
 above:∀ k,M k->W.heap.size<=k
 sto:Sto M X st D [T]
 stand:Jbc D [(T,rs)]
 nm:T.name=Kr1
 ty:T.types=ts
 room:D.quota=1048576/\D.fail=0
 few:D.pages.length<=660*rs.length/\D.writes<=660*rs.length
theorem Qa1 {D:DS}{n:Nat}(h0:0<=D.writes)(y:D.pages.length<=n)(H:D.writes<=n):dz D<=n:=by
 unfold dz;rw[if_pos h0];omega
theorem Qc2 {w W X H st ts rs I D T tb ob bT bS bR os K U bi rc bj}(y:BkG w W tb ob bT bS bR os ts K U bi rc bj rs)(h:BkO W X st ts rs I D T)(br:Bq X H){Z ch hs ws}(hh:Kc H Z hs)(hI:Jfz ts ws hs ts.length):
  Cq 8 #[Pq st,.agg #[.string ⟨#[117]⟩,.slice K ts.length bi,.slice U rs.length rc],.slice Z hs.length ch,Iq 5] H fun e Y=>Ju I H Y/\∃ bf col M bL Us,e=.returned (Ko bf (-1) (-1) col (-1))/\(bf=0/\col=-1\/bf=2)/\LdB H I st T rs bf M bL Us Y:=by
 have bh:=Jb h.low br;have hrs:=y.hrs;have hR:Uw H ⟨#[117]⟩ K U rc ts bj rs:=⟨⟨zd,y.tr.tab.2⟩,y.tr.tok,y.tr.vals,y.tr.types.below bh,y.tr.rows.below bh,y.tr.cap⟩;obtain⟨a0,a1,a2,bK,q,wr,pg,pl,ex,ta,bE⟩:=y.nm;have bJ:hs.length<=6:=by rw[hI.len];exact y.tr.tab.2.1.1.2
 have bO:=h.few;have bD:∀ b o,K=some (Ar b o)->¬ I b:=fun b o hb bN=>by
  have bX:=h.above b bN;rcases y.tr.types with h0|⟨b2,cc,bI,bY,_⟩
  ·have:=y.tr.tab.2.1.1.1;simp at h0;rw[h0]at this;simp at this
  rw[hb]at bI;simp at bI;try omega
 rcases Kck h.stand hR.tab ⟨hI.len,hI.ok⟩ (by omega:(1:Int)<=5/\(5:Int)<=64) (Ts:=[T]) (by unfold Ub;rw[if_neg (by rw[h.nm];decide)];rfl) zS h.room.1 h.room.2 (Ob2 (Kad _) zo) zo with⟨c,O⟩|⟨E,bk,O⟩
 ·refine(Kz5 I st D [T] ⟨#[117]⟩ K U Z bi rc ch ts hs bj rs 5 H (h.sto.below br) (hR.arg hh bJ) bD zo a0 a1 a2 bK q wr pg pl ex ta W bE bh O).mono fun e Y hp=>?_;obtain⟨bx,bz,M,bB,_,bA⟩:=hp;obtain⟨bU,bV⟩:=Jrp h.stand h.nm;exact⟨bz,2,c,M,D,[],bx,.inr rfl,bB,bV,⟨h.room.1,h.room.2,Ob2 (Qa1 (n:=660*rs.length) h.stand.writes bO.1 zo) zo⟩,bU,bA⟩
 refine(Jyt I st D [T] ⟨#[117]⟩ K U Z bi rc ch ts hs bj rs 5 H (h.sto.below br) (hR.arg hh bJ) bD zo a0 a1 a2 bK q wr pg pl ex ta W bE bh h.above (fun x _=>Kvf x) ⟨E,bk,O⟩).mono fun e Y hp=>?_;rw[O]at hp;obtain⟨bx,bz,M,bB,_,bA⟩:=hp;obtain⟨bC,bZ,_,_,bP,bQ,ca,cb,_⟩:=Kge h.stand y.tr.vals zo O;have bG:=bC.tab (T,rs) zS;have bM:=bC.tab (bk,rs) zS;refine⟨bz,0,-1,M,E,[bk],bx,.inl ⟨rfl,rfl⟩,bB,fun bW bH=>?_,⟨bP.trans h.room.1,bQ.trans h.room.2,Ob2 (Qa1 (n:=1320*rs.length) bC.writes zo zo) zo⟩,?_,bA⟩
 ·simp at bH;rcases bH with rfl|rfl
  ·exact bG.ok
  exact bM.ok
 unfold Jf8;simp[Ub,h.nm,bG.read]
