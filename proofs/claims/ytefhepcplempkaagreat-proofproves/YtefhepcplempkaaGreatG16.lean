/- The document's Put, Delete on a list of keys and values. -/
import Derived.Test.YtefhepcplempkaaGreatAK
import Derived.Test.YtefhepcplempkaaGreatG15
import Derived.Test.YtefhepcplempkaaGreatG01
import Derived.Test.YtefhepcplempkaaGreatG14
import Derived.Test.YtefhepcplempkaaGreatG11
import Derived.Test.YtefhepcplempkaaGreatG00
set_option linter.unusedVariables false
set_option maxRecDepth 100000
set_option maxHeartbeats 4000000
open Go.Proofs.Tryz Go.RowKit
namespace Go.Proofs.YtefhepcplempkaaGreat
open Tr
variable {w : World} {K K' K2 : Nat → Prop} {a ak av : Option Addr} {n c nv cv : Nat} {vs : List (Value × Value)} {k x : List Int}
theorem IA{w':World}{g base:Nat}(h:New w w' g #[] 5)(hb:base<=w.heap.size):OwnB w' base (.slice (some ⟨g,0,none⟩) 0 0) []:=⟨rfl, .inr ⟨g,0,#[],rfl,by rw[h.hg];exact hb,h.row,Aa _,by unfold maxLen;omega,rfl,rfl⟩⟩
theorem IB{w w':World}{v u r:Value}{ρ:Operand->Value}{o:Oper}(hr:∀ty,(Builtin.append_ #[22,22] ty #[v,u]).run prog w= .ok r w')(x y:Operand)(ho:o.op= .call {callee:= .builtin .append,args:=#[x,y],argTypes:=#[22,22]})(hx:ρ x=v)(hy:ρ y=u):(execOp ρ o).run prog w= .ok (.value r) w':=by
 unfold execOp;simp only[ho,resolve,invoke,builtin,B9,BA,Ba,CU,BX,DB,hx,hy,hr]
theorem TI{l:PList}(hl:PAt K w a n c vs l){nk ck:Nat}(hk:Sk K' w ak nk ck k)(hb:n<=2932031007390)(hx:Sk K2 w av nv cv x)(hlen:∀(j:Nat) k x,l[j]?=some (k,x)->k.length<=1000000)(hn:32<nk):
 Calls prog 25 #[.slice a n c, .slice ak nk ck, .slice av nv cv] w λe w'=>∃u,e= .returned u/\(λu w'=>(∃a n c vs,u= .tuple #[.slice a n c, .int .i64 (putE k x)]/\PAt (λb=>K b∨w.heap.size<=b) w' a n c vs (putL l k x))/\Bl w w') u w':=by
 have hB:=Bl.refl w;have lk:=hk.len;have lx:=hx.len;have ll:=hl.ll;refine EO func25 53<|Ht 11 ((nk:Int)>(32:Int)) ?_;exact Hr 12 (.tuple #[.slice a n c, .int .i64 70]) ⟨_,rfl,⟨a,n,c,vs,by rw[show putE k x=70 from by unfold putE;rw[Ae (by omega)]],by unfold putL;rw[Ae (by omega)];exact(hl.go hB).mono (λ_ h=> .inl h)⟩,hB⟩
theorem XA{l:PList}(hl:PAt K w a n c vs l){nk ck:Nat}(hk:Sk K' w ak nk ck k)(hb:n<=2932031007390)(hx:Sk K2 w av nv cv x)(hlen:∀(j:Nat) k x,l[j]?=some (k,x)->k.length<=1000000)(hn:nk<=32)(hv:nv<1):
 Calls prog 25 #[.slice a n c, .slice ak nk ck, .slice av nv cv] w λe w'=>∃u,e= .returned u/\(λu w'=>(∃a n c vs,u= .tuple #[.slice a n c, .int .i64 (putE k x)]/\PAt (λb=>K b∨w.heap.size<=b) w' a n c vs (putL l k x))/\Bl w w') u w':=by
 have hB:=Bl.refl w;have lk:=hk.len;have lx:=hx.len;have ll:=hl.ll;refine EO func25 53<|Hf 11 ((nk:Int)>(32:Int))<|Ht 10 ((nv:Int)<(1:Int)) ?_;exact Hr 17 (.tuple #[.slice a n c, .int .i64 71]) ⟨_,rfl,⟨a,n,c,vs,by rw[show putE k x=71 from by unfold putE;rw[Ai (by omega),Ae (by omega)]],by unfold putL;rw[Ae (by omega)];exact(hl.go hB).mono (λ_ h=> .inl h)⟩,hB⟩
theorem XB{l:PList}(hl:PAt K w a n c vs l){nk ck:Nat}(hk:Sk K' w ak nk ck k)(hb:n<=2932031007390)(hx:Sk K2 w av nv cv x)(hlen:∀(j:Nat) k x,l[j]?=some (k,x)->k.length<=1000000)(hn:nk<=32)(hv:256<nv):
 Calls prog 25 #[.slice a n c, .slice ak nk ck, .slice av nv cv] w λe w'=>∃u,e= .returned u/\(λu w'=>(∃a n c vs,u= .tuple #[.slice a n c, .int .i64 (putE k x)]/\PAt (λb=>K b∨w.heap.size<=b) w' a n c vs (putL l k x))/\Bl w w') u w':=by
 have hB:=Bl.refl w;have lk:=hk.len;have lx:=hx.len;have ll:=hl.ll;refine EO func25 53<|Hf 11 ((nk:Int)>(32:Int))<|Hf 10 ((nv:Int)<(1:Int))<|Ht 3 ((nv:Int)>(256:Int)) ?_;exact Hr 13 (.tuple #[.slice a n c, .int .i64 71]) ⟨_,rfl,⟨a,n,c,vs,by rw[show putE k x=71 from by unfold putE;rw[Ai (by omega),Ae (by omega)]],by unfold putL;rw[Ae (by omega)];exact(hl.go hB).mono (λ_ h=> .inl h)⟩,hB⟩
theorem XC{l:PList}(hl:PAt K w a n c vs l){nk ck:Nat}(hk:Sk K' w ak nk ck k)(hb:n<=2932031007390)(hx:Sk K2 w av nv cv x)(hlen:∀(j:Nat) k x,l[j]?=some (k,x)->k.length<=1000000)(hn:nk<=32)(hv1:0<nv)(hv2:nv<=256)(hat:isAt k l=true):
 Calls prog 25 #[.slice a n c, .slice ak nk ck, .slice av nv cv] w λe w'=>∃u,e= .returned u/\(λu w'=>(∃a n c vs,u= .tuple #[.slice a n c, .int .i64 (putE k x)]/\PAt (λb=>K b∨w.heap.size<=b) w' a n c vs (putL l k x))/\Bl w w') u w':=by
 have hB:=Bl.refl w;have lk:=hk.len;have lx:=hx.len;have ll:=hl.ll;refine EO func25 53<|Hf 11 ((nk:Int)>(32:Int))<|Hf 10 ((nv:Int)<(1:Int))<|Hf 3 ((nv:Int)>(256:Int))<|Hc 10 (R:=λu w'=>u= .tuple #[.int .i64 ((atN k l:Nat):Int), .bool (isAt k l)]/\Bl (w) w') ((VS (hl.go hB) (hk.go hB) hb hlen)) ?_;rintro _ u1⟨rfl,hb2⟩;rw[hat];have hle:=Qw k l;have hl0:=hl.old;have hlt:atN k l<n:=by by_cases h:atN k l<n;exact h;rw[Pv (by omega)]at hat;cases hat
 refine WD 9 #[] 51 0 ?_;intro w0 g0 hn0 _;replace hB:=hB.go hb2;have hO:OwnL (λb=>K b∨w.heap.size<=b) w0 w.heap.size (.slice (some ⟨g0,0,none⟩) 0 0) []:=OwnL.new hn0 hB.size (λb hb=> .inr hb);replace hB:=hB.go hn0.below;obtain⟨a1,n1,c1,hc1,hP1⟩:=(hl0.go hB).cutTo (atN k l) (by omega);refine Hx 2 (og f25 6 3) (.slice a1 n1 c1) (λ_=>hc1 _ _ _ _ _ rfl (by kernel_rfl) (by kernel_rfl)) ?_;have ht1:=hP1.ll;obtain⟨VA,wA,hrA,hOA,hbA⟩:=Tz hO hP1 (λb hb=>⟨λe=>by have:=(hO.own b e).1;have:=hb.2;omega, .inl hb.1⟩) (by rw[Am]at ht1;simp;omega) hB.size;refine Hx 0 (og f25 6 4) VA (λ_=>IB hrA _ _ rfl (by kernel_rfl) (by kernel_rfl)) ?_;replace hB:Bl w wA:=Ce hB hbA;replace hO:=hOA;rw[AL]at hO;have hOown:=hO.own;have hwA:=hB.size;have hzk:=Aa (World.heap wA).size;refine WD 6 #[] 5 0 ?_;intro wk gk hnk _;have hqk:=IA hnk (Aa _);obtain⟨Vk,wkb,hrk,hok,hbk⟩:=GN hqk (hk.go (hB.go hnk.below)).ag (by simp;omega) (by have:=hnk.below.size;omega);rw[AL]at hok;refine Hx 1 (og f25 7 3) Vk (λ_=>IL hrk _ _ rfl (by kernel_rfl) (by kernel_rfl)) ?_;have hfk:Below wA.heap.size wA wkb:=hnk.below.trans hbk;obtain⟨bk,dk,rfl,hsk⟩:=hok.sk (K:=λb=>wA.heap.size<=b) hk.ag.b (λb hb=>hb);have hzx:=Aa (World.heap wkb).size;refine WD 0 #[] 5 0 ?_;intro wx gx hnx _;have hqx:=IA hnx (Aa _);replace hB:=hB.go hfk;obtain⟨Vx,wxb,hrx,hox,hbx⟩:=GN hqx (hx.go (hB.go hnx.below)).ag (by simp;omega) (by have:=hnx.below.size;omega);rw[AL]at hox;refine Hx 1 (og f25 7 6) Vx (λ_=>IL hrx _ _ rfl (by kernel_rfl) (by kernel_rfl)) ?_;have hfx:Below wkb.heap.size wkb wxb:=hnx.below.trans hbx;obtain⟨bx,dx,rfl,hsx⟩:=hox.sk (K:=λb=>wkb.heap.size<=b) hx.ag.b (λb hb=>hb);replace hO:=(hO.far hfk).far hfx;have hown:=hO.own;have hsx2:=hfx.size;have hsk2:=hfk.size;refine WD 1 #[.slice bk k.length dk, .slice bx x.length dx] 51 1 ?_;intro wL gL hnL _;replace hsk:=hsk.go hfx;have hP2:=PAt.one hnL (hsk.mono (K':=λb=>wA.heap.size<=b) (λb hb=>hb)) (hsx.mono (K':=λb=>wA.heap.size<=b) (λb hb=>by omega)) (by have:=hnL.hg;omega);have hOA:=hO;have hoA:=hOown;replace hB:=(hB.go hfx).go hnL.below;replace hO:=hO.far hnL.below;obtain⟨VC,wC,hrC,hOC,hbC⟩:=Tz hO hP2 (λb hb=>⟨λe=>by have:=(hoA b e).2;omega, .inr (by omega)⟩) (by simp;omega) hB.size;refine Hx 0 (og f25 7 9) VC (λ_=>IB hrC _ _ rfl (by kernel_rfl) (by kernel_rfl)) ?_;replace hB:Bl w wC:=Ce hB hbC;replace hO:=hOC;refine Hw 12 (.int .i64 (IntKind.i64.wrap (((atN k l:Nat):Int)+1))) (.int .i64 ((atN k l+1:Nat):Int)) (Au (Value.int .i64) (by rw[Ec (by omega) (by omega)];omega)) ?_;obtain⟨a3,n3,c3,hc3,hP3⟩:=(hl0.go hB).cutFrom (atN k l+1) (by omega);refine Hx 8 (og f25 10 3) (.slice a3 n3 c3) (λ_=>hc3 _ _ _ _ _ rfl (by kernel_rfl) (by kernel_rfl)) ?_;have ht3:=hP3.ll;obtain⟨VE,wE,hrE,hOE,hbE⟩:=Tz hO hP3 (λb hb=>⟨λe=>by have:=(hO.own b e).1;have:=hb.2;omega, .inl hb.1⟩) (by rw[AQ]at ht3;simp;omega) hB.size;refine Hx 0 (og f25 10 4) VE (λ_=>IB hrE _ _ rfl (by kernel_rfl) (by kernel_rfl)) ?_;replace hB:Bl w wE:=Ce hB hbE;replace hO:=hOE;have hpl:putL l k x=l.take (atN k l)++[(k,x)]++l.drop (atN k l+1):=by unfold putL;rw[Ai (by omega),LS,hat];rfl
 rw[<-hpl]at hO;obtain⟨aF,cF,vsF,eF,hF⟩:=hO.pat
 subst eF;exact Hr 5 (.tuple #[.slice aF (putL l k x).length cF, .int .i64 0]) ⟨_,rfl,⟨aF,_,cF,vsF,by rw[show putE k x=0 from by unfold putE;rw[Ai (by omega),Ai (by omega)]],hF⟩,hB⟩
theorem VT{l:PList}(hl:PAt K w a n c vs l){nk ck:Nat}(hk:Sk K' w ak nk ck k)(hb:n<=2932031007390)(hx:Sk K2 w av nv cv x)(hlen:∀(j:Nat) k x,l[j]?=some (k,x)->k.length<=1000000)(hn:nk<=32)(hv1:0<nv)(hv2:nv<=256)(hat:isAt k l=false):
 Calls prog 25 #[.slice a n c, .slice ak nk ck, .slice av nv cv] w λe w'=>∃u,e= .returned u/\(λu w'=>(∃a n c vs,u= .tuple #[.slice a n c, .int .i64 (putE k x)]/\PAt (λb=>K b∨w.heap.size<=b) w' a n c vs (putL l k x))/\Bl w w') u w':=by
 have hB:=Bl.refl w;have lk:=hk.len;have lx:=hx.len;have ll:=hl.ll;refine EO func25 53<|Hf 11 ((nk:Int)>(32:Int))<|Hf 10 ((nv:Int)<(1:Int))<|Hf 3 ((nv:Int)>(256:Int))<|Hc 10 (R:=λu w'=>u= .tuple #[.int .i64 ((atN k l:Nat):Int), .bool (isAt k l)]/\Bl (w) w') ((VS (hl.go hB) (hk.go hB) hb hlen)) ?_;rintro _ u1⟨rfl,hb2⟩;rw[hat];have hle:=Qw k l;have hl0:=hl.old;refine WD 9 #[] 51 0 ?_;intro w0 g0 hn0 _;replace hB:=hB.go hb2;have hO:OwnL (λb=>K b∨w.heap.size<=b) w0 w.heap.size (.slice (some ⟨g0,0,none⟩) 0 0) []:=OwnL.new hn0 hB.size (λb hb=> .inr hb);replace hB:=hB.go hn0.below;obtain⟨a1,n1,c1,hc1,hP1⟩:=(hl0.go hB).cutTo (atN k l) (by omega);refine Hx 2 (og f25 6 3) (.slice a1 n1 c1) (λ_=>hc1 _ _ _ _ _ rfl (by kernel_rfl) (by kernel_rfl)) ?_;have ht1:=hP1.ll;obtain⟨VA,wA,hrA,hOA,hbA⟩:=Tz hO hP1 (λb hb=>⟨λe=>by have:=(hO.own b e).1;have:=hb.2;omega, .inl hb.1⟩) (by rw[Am]at ht1;simp;omega) hB.size;refine Hx 0 (og f25 6 4) VA (λ_=>IB hrA _ _ rfl (by kernel_rfl) (by kernel_rfl)) ?_;replace hB:Bl w wA:=Ce hB hbA;replace hO:=hOA;rw[AL]at hO;have hOown:=hO.own;have hwA:=hB.size;have hzk:=Aa (World.heap wA).size;refine WD 6 #[] 5 0 ?_;intro wk gk hnk _;have hqk:=IA hnk (Aa _);obtain⟨Vk,wkb,hrk,hok,hbk⟩:=GN hqk (hk.go (hB.go hnk.below)).ag (by simp;omega) (by have:=hnk.below.size;omega);rw[AL]at hok;refine Hx 1 (og f25 7 3) Vk (λ_=>IL hrk _ _ rfl (by kernel_rfl) (by kernel_rfl)) ?_;have hfk:Below wA.heap.size wA wkb:=hnk.below.trans hbk;obtain⟨bk,dk,rfl,hsk⟩:=hok.sk (K:=λb=>wA.heap.size<=b) hk.ag.b (λb hb=>hb);have hzx:=Aa (World.heap wkb).size;refine WD 0 #[] 5 0 ?_;intro wx gx hnx _;have hqx:=IA hnx (Aa _);replace hB:=hB.go hfk;obtain⟨Vx,wxb,hrx,hox,hbx⟩:=GN hqx (hx.go (hB.go hnx.below)).ag (by simp;omega) (by have:=hnx.below.size;omega);rw[AL]at hox;refine Hx 1 (og f25 7 6) Vx (λ_=>IL hrx _ _ rfl (by kernel_rfl) (by kernel_rfl)) ?_;have hfx:Below wkb.heap.size wkb wxb:=hnx.below.trans hbx;obtain⟨bx,dx,rfl,hsx⟩:=hox.sk (K:=λb=>wkb.heap.size<=b) hx.ag.b (λb hb=>hb);replace hO:=(hO.far hfk).far hfx;have hown:=hO.own;have hsx2:=hfx.size;have hsk2:=hfk.size;refine WD 1 #[.slice bk k.length dk, .slice bx x.length dx] 51 1 ?_;intro wL gL hnL _;replace hsk:=hsk.go hfx;have hP2:=PAt.one hnL (hsk.mono (K':=λb=>wA.heap.size<=b) (λb hb=>hb)) (hsx.mono (K':=λb=>wA.heap.size<=b) (λb hb=>by omega)) (by have:=hnL.hg;omega);have hOA:=hO;have hoA:=hOown;replace hB:=(hB.go hfx).go hnL.below;replace hO:=hO.far hnL.below;obtain⟨VC,wC,hrC,hOC,hbC⟩:=Tz hO hP2 (λb hb=>⟨λe=>by have:=(hoA b e).2;omega, .inr (by omega)⟩) (by simp;omega) hB.size;refine Hx 0 (og f25 7 9) VC (λ_=>IB hrC _ _ rfl (by kernel_rfl) (by kernel_rfl)) ?_;replace hB:Bl w wC:=Ce hB hbC;replace hO:=hOC;obtain⟨a3,n3,c3,hc3,hP3⟩:=(hl0.go hB).cutFrom (atN k l) (by omega);refine Hx 17 (og f25 10 3) (.slice a3 n3 c3) (λ_=>hc3 _ _ _ _ _ rfl (by kernel_rfl) (by kernel_rfl)) ?_;have ht3:=hP3.ll;obtain⟨VE,wE,hrE,hOE,hbE⟩:=Tz hO hP3 (λb hb=>⟨λe=>by have:=(hO.own b e).1;have:=hb.2;omega, .inl hb.1⟩) (by rw[AQ]at ht3;simp;omega) hB.size;refine Hx 0 (og f25 10 4) VE (λ_=>IB hrE _ _ rfl (by kernel_rfl) (by kernel_rfl)) ?_;replace hB:Bl w wE:=Ce hB hbE;replace hO:=hOE;have hpl:putL l k x=l.take (atN k l)++[(k,x)]++l.drop (atN k l):=by unfold putL;rw[Ai (by omega),LS,hat];rfl
 rw[<-hpl]at hO;obtain⟨aF,cF,vsF,eF,hF⟩:=hO.pat
 subst eF;exact Hr 5 (.tuple #[.slice aF (putL l k x).length cF, .int .i64 0]) ⟨_,rfl,⟨aF,_,cF,vsF,by rw[show putE k x=0 from by unfold putE;rw[Ai (by omega),Ai (by omega)]],hF⟩,hB⟩
theorem VU{l:PList}(hl:PAt K w a n c vs l){nk ck:Nat}(hk:Sk K' w ak nk ck k)(hb:n<=2932031007390)(hx:Sk K2 w av nv cv x)(hlen:∀(j:Nat) k x,l[j]?=some (k,x)->k.length<=1000000):
 Calls prog 25 #[.slice a n c, .slice ak nk ck, .slice av nv cv] w λe w'=>∃u,e= .returned u/\(λu w'=>(∃a n c vs,u= .tuple #[.slice a n c, .int .i64 (putE k x)]/\PAt (λb=>K b∨w.heap.size<=b) w' a n c vs (putL l k x))/\Bl w w') u w':=by
 by_cases hn:nk<=32
 ·by_cases h1:nv<1
  ·exact XA hl hk hb hx hlen hn h1
  ·by_cases h2:nv<=256
   ·cases hat:isAt k l with
    |true=>exact XC hl hk hb hx hlen hn (by omega) h2 hat
    |false=>exact VT hl hk hb hx hlen hn (by omega) h2 hat
   ·exact XB hl hk hb hx hlen hn (by omega)
 ·exact TI hl hk hb hx hlen (by omega)
end Go.Proofs.YtefhepcplempkaaGreat
namespace Go.Proofs.YtefhepcplempkaaGreat
open Tr
open Di (dref)
theorem Rel.k32{t:Tr}{l:PList}(h:Rel t l):∀(j:Nat)(k x:List Int),l[j]?=some (k,x)->k.length<=1000000:=λj k x hj=>by
 have:=((h.m k x).1 (A6 hj)).2.1;omega
def StR(w:World)(n:Nat):Value->World->Prop:=λu w'=>(∃g a m c vs t l,u= .tuple #[.pointer (some ⟨g,0,none⟩), .slice a m c]/\w.heap.size<=g/\Tri (λ_=>True) w' g t/\PAt (λ_=>True) w' a m c vs l/\Rel t l/\l.length<=n/\Tr.sz t<=3*n)/\Bl w w'
theorem QH{K:Nat->Prop}{w:World}{a:Option Addr}{n c:Nat}{vs:List (Value×Value)}{l:PList}(hl:PAt K w a n c vs l)(hn:n<=2932031007317):
 Calls prog 10 #[.slice a n c] w λe w'=>∃u,e= .returned u/\StR w n u w':=by
 have hB:=Bl.refl w;have hlo:=hl.old;refine EO func10 43<|Hc 8 (R:=λu w'=>(∃g,u= .pointer (some ⟨g,0,none⟩)/\w.heap.size<=g/\Tri (λ_=>True) w' g no)/\Bl w w') (RG) ?_;rintro _ u2⟨⟨g,rfl,hgT,hT⟩,hb2⟩;replace hB:=hB.go hb2;refine Ho (X:=Nat×Tr×PList×Option Addr×Nat×Nat) 17 (λq=>[(10, .int .i64 ((q.1:Nat):Int)),(0, .slice a n c),(9, .int .i64 n),(4, .pointer (some ⟨g,0,none⟩)),(5, .slice q.2.2.2.1 q.2.2.2.2.1 q.2.2.2.2.2)]) (λq v=>Bl w v/\Tri (λ_=>True) v g q.2.1/\(∃vs,PAt (λ_=>True) v q.2.2.2.1 q.2.2.2.2.1 q.2.2.2.2.2 vs q.2.2.1)/\Rel q.2.1 q.2.2.1/\q.2.2.1.length<=q.1/\q.1<=n/\Tr.sz q.2.1<=3*q.1) (λq=>n-q.1) (0,no,[],none,0,0) ⟨hB,hT,⟨_,PAt.empty _ _⟩,Rel.nil,Aa _,AD _,by simp[Tr.sz]⟩ ?_;clear hB hT;rintro⟨j,t,lt,aL,nL,cL⟩ v⟨hB,hT,⟨vsL,hP⟩,hRel,hlm,hj,hz⟩ I1 hN1;simp only at hB hT hP hRel hlm hj hz;by_cases hlt:j<n
 ·skip
  obtain⟨gE,oE,a1,n1,c1,a2,n2,c2,k,x,ea,hej,hc1,hc2,hs1,hs2⟩:=hlo.at hlt;subst ea;have hkB:isB k:=hs1.ag.b;have hlP:=hP.ll;refine Ht 2 ((j:Int)<(n:Int))<|Hj 15 (λv=>Bl w v) (hB.drew) ?_;replace hB:=hB.drew;refine Dx [0,1,2] 3 (og f10 6 3) (.pointer (some ⟨gE,oE+j*2,none⟩)) (λv hv _=>Bh 22 _ _ gE oE j n c 2 51 rfl (by kernel_rfl) (by kernel_rfl) hlt underlying22 (by kernel_rfl)) hB<|Dx [4] 5 (og f10 6 5) (.slice a1 n1 c1) (λv hv _=>AA 23 _ _ _ _ rfl (by kernel_rfl) ((Br hv (Af hc1)).trans hc1) underlying23 rfl) hB<|Dx [6,7] 8 (og f10 6 8) (.pointer (some ⟨gE,oE+j*2,none⟩)) (λv hv _=>Bh 22 _ _ gE oE j n c 2 51 rfl (by kernel_rfl) (by kernel_rfl) hlt underlying22 (by kernel_rfl)) hB<|Dx [9] 10 (og f10 6 10) (.slice a2 n2 c2) (λv hv _=>AA 23 _ _ _ _ rfl (by kernel_rfl) ((Br hv (Af hc2)).trans hc2) underlying23 rfl) hB<|Dz [11] ?_;replace hT:=hT.drew;refine Yc 11 (R:=λu w'=>u= .int .i64 (putE k x)/\Tri (λ_=>True) w' g (putT t k x)/\Touch g (v.drew) w') ((OZ hT (hs1.go hB) (hs2.go hB) (λ_ _=>trivial))) (λu w' h=>h.2.2.below hB hgT hB.size) ?_ yn;rintro _ u5⟨rfl,hTn,hto⟩;replace hP:=hP.drew;replace hP:=hP.touch hto hT;replace hB:Bl w u5:=hto.below hB hgT hB.size;replace hT:=hTn;refine Do<|Hj 1 (λv=>Bl w v) (hB.drew) ?_;replace hB:=hB.drew;refine Dx [0,1,2] 3 (og f10 7 3) (.pointer (some ⟨gE,oE+j*2,none⟩)) (λv hv _=>Bh 22 _ _ gE oE j n c 2 51 rfl (by kernel_rfl) (by kernel_rfl) hlt underlying22 (by kernel_rfl)) hB<|Dx [4] 5 (og f10 7 5) (.slice a1 n1 c1) (λv hv _=>AA 23 _ _ _ _ rfl (by kernel_rfl) ((Br hv (Af hc1)).trans hc1) underlying23 rfl) hB<|Dx [6,7] 8 (og f10 7 8) (.pointer (some ⟨gE,oE+j*2,none⟩)) (λv hv _=>Bh 22 _ _ gE oE j n c 2 51 rfl (by kernel_rfl) (by kernel_rfl) hlt underlying22 (by kernel_rfl)) hB<|Dx [9] 10 (og f10 7 10) (.slice a2 n2 c2) (λv hv _=>AA 23 _ _ _ _ rfl (by kernel_rfl) ((Br hv (Af hc2)).trans hc2) underlying23 rfl) hB<|Dz [11] ?_;replace hP:=hP.drew;refine Yc 11 (R:=λu w'=>(∃a n c vs,u= .tuple #[.slice a n c, .int .i64 (putE k x)]/\PAt (λb=>True∨(u5.drew).heap.size<=b) w' a n c vs (putL lt k x))/\Bl (u5.drew) w') ((VU hP (hs1.go hB) (by omega) (hs2.go hB) hRel.k32)) (λu w' h=>hB.go h.2) ?_ yn;rintro _ u6⟨⟨aM,nM,cM,vsM,rfl,hPn⟩,hb6⟩;replace hP:=hP.go hb6;replace hP:=hPn.mono (λ_ _=>trivial);replace hB:=hB.go hb6;refine Dq [12,13,14,15] hB<|Hi 3 ((j:Int)+1) ((j:Int)+1) ?_;replace hT:=hT.drew.go hb6;exact hN1 2 (j+1,putT t k x,putL lt k x,aM,nM,cM) ⟨hB,hT,⟨_,hP⟩,hRel.put hkB,by have:=V3 lt k x;show(putL lt k x).length<=j+1;omega,by simp only;omega,by show Tr.sz (putT t k x)<=3*(j+1);have:=X8 t k x;omega⟩ (by show n-(j+1)<n-j;omega) (λ_=>by kernel_rfl)
 obtain rfl:j=n:=by omega
 refine Hf 2 ((j:Int)<(j:Int)) ?_;exact Hr 18 (.tuple #[.pointer (some ⟨g,0,none⟩), .slice aL nL cL]) ⟨_,rfl,⟨g,aL,nL,cL,vsL,t,lt,rfl,hgT,hT,hP,hRel,hlm,hz⟩,hB⟩
end Go.Proofs.YtefhepcplempkaaGreat
namespace Go.Proofs.YtefhepcplempkaaGreat
open Tr
variable {w w' : World} {a : Option Addr} {n gW base g c : Nat} {PV vN vN' : Value} {X : Nat → Prop}
theorem Wq.drew(h:Wq w a n):Wq w.drew a n:=λx hx hn o=>h x hx hn o
structure Wp(w:World)(gW:Nat)(PV:Value)(base:Nat)(vN:Value)(X:Nat->Prop)(ns:List (List Int)):Prop where
 r:Rw gW w #[PV,vN] 59
 o:∃vals,w.ownsRow base 23 1 vN ns.length vals/\RowS (KW gW vN X) w vals ns
 b:base<=gW
theorem Wg.rowp{ns:List (List Int)}(h:Wg w w' gW vN vN')(hw:Wp w gW PV base vN X ns){cells:Array Value}{T:TypeId}{fr:Nat×Nat}(hr:w.heap[g]?=some (.cells cells T fr))(h1:T≠23)(h2:T≠59):w'.heap[g]?=some (.cells cells T fr):=by
 refine(h.block g (lt_of_get hr) ?_ ?_).trans hr
 ·rintro rfl;have:=hw.r;rw[Rw,hr]at this;simp at this;exact h2 this.2.1
 ·intro e;obtain⟨vals,⟨_,ho⟩,_⟩:=hw.o;rcases ho with⟨rfl,_⟩|⟨g',cap,cur,rfl,_,hg,_⟩
  ·cases e
  ·have e:g'=g:=(by simpa[Value.ownBlock]using e);subst e;rw[hr]at hg;simp at hg;exact h1 hg.2.1
theorem Rw.wgp{ns:List (List Int)}{cells:Array Value}{T:TypeId}(h:Rw g w cells T)(hg:Wg w w' gW vN vN')(hw:Wp w gW PV base vN X ns)(h1:T≠23)(h2:T≠59):Rw g w' cells T:=hg.rowp hw h h1 h2
theorem Wp.go{ns:List (List Int)}(h:Wp w gW PV base vN X ns)(hb:Below w.heap.size w w'):Wp w' gW PV base vN X ns:=by
 obtain⟨vals,h1,h2,h3⟩:=h.o
 refine⟨h.r.go hb,⟨vals,⟨h1.1,by
  rcases h1.2 with q|⟨g,cap,cur,e1,e2,e3,e4⟩
  ·exact .inl q
  ·exact .inr ⟨g,cap,cur,e1,e2,(hb.block g (lt_of_get e3)).trans e3,e4⟩⟩,h2,λj v hj=>?_⟩,h.b⟩
 obtain⟨a,n,c,e,hs,hw⟩:=h3 j v hj;exact⟨a,n,c,e,hs.go hb,hw.go hs hb⟩
theorem Wp.lt{ns:List (List Int)}(h:Wp w gW PV base vN X ns):gW<w.heap.size/\∀k,vN.ownBlock=some k->k<w.heap.size:=by
 refine⟨lt_of_get h.r,λk hk=>?_⟩;obtain⟨vals,⟨_,ho⟩,_⟩:=h.o;rcases ho with⟨rfl,_⟩|⟨g',cap,cur,rfl,_,hg,_⟩
 ·cases hk
 ·have e:g'=k:=by simpa[Value.ownBlock]using hk
  subst e;exact lt_of_get hg
theorem Wp.apart{ns:List (List Int)}(h:Wp w gW PV base vN X ns):vN.ownBlock≠some gW:=by
 intro e;obtain⟨vals,⟨_,ho⟩,_⟩:=h.o;rcases ho with⟨rfl,_⟩|⟨g',cap,cur,rfl,_,hg,_⟩
 ·cases e
 ·have e:g'=gW:=by simpa[Value.ownBlock]using e
  subst e;have:=h.r;rw[Rw,hg]at this;simp at this
theorem QI{ns:List (List Int)}(hW:Wp w gW PV base vN X ns){gL:Nat}{b:List Int}(hs:Sk (KW gW vN X) w a n c b)(hwq:Wq w a n)(hL:Rw gL w #[.slice a n c] 23)(hlen:ns.length+1<=8800000000000):
 ∃v' w',(∀ty,(Builtin.append_ #[28,28] ty #[vN, .slice (some ⟨gL,0,none⟩) 1 1]).run prog w= .ok v' w')/\(∀w2,Set1 w' w2 gW 1 v'->Wp w2 gW PV base v' X (ns++[b])/\Wg w w2 gW vN v')/\Rw gW w' #[PV,vN] 59/\v'.cells=#[v']/\v'.oneCell'=true:=by
 obtain⟨i,hi,hz,hsz,hby⟩:=VI;have hap:=hW.apart;have hlt:=hW.lt;have hbw:=hW.b;have hr:=hW.r;obtain⟨vals,hown,hvl,hvs⟩:=hW.o
 obtain⟨v',w',h1,h2,h3,_,h5⟩:=KA w base 28 0 23 i (.slice none 0 0) 1 24 underlying28 hi hz hsz hby rfl (by decide) vN ns.length vals hown ⟨gL,0,none⟩ 1 1 [.slice a n c] rfl (λj u hu=>by
  cases j with
  |zero=>rw[BO,Ad _ _ _ _ _ _ hL];exact hu
  |succ j=>simp at hu) (λu hu=>by rw[DK.1 hu];rfl) (by decide) (by unfold maxLen;omega) (by omega) (by omega)
 have hrW:Rw gW w' #[PV,vN] 59:=(h3.block gW hlt.1 (λe=>hap e.symm)).trans hr;have hva:v'.ownBlock≠some gW:=by
  rcases h5 with e|e
  ·rw[e];exact hap
  ·rw[e];intro q;simp at q;omega
 refine⟨v',w',λty=>h1,λw2 hp=>?_,hrW,?_,?_⟩
 ·have hg:Wg w w2 gW vN v':=by
   have ht:=hp.touch;refine⟨ht.os.trans h3.os,ht.tape.trans h3.tape,ht.output.trans h3.output,Ar h3.size ht.size,λk hk hg hv=>(hp.other hg).trans (h3.block k hk (λe=>hv e.symm)),?_⟩;rcases h5 with e|e
   ·exact .inl e
   ·exact .inr (λk hk=>by rw[e]at hk;simp at hk;omega)
  refine⟨⟨hrW.set hp rfl,⟨vals++[.slice a n c],?_,?_,?_⟩,hbw⟩,hg⟩
  ·rw[Ab,Cp];refine⟨h2.1,?_⟩;rcases h2.2 with q|⟨g,cap,cur,e1,e2,e3,e4⟩
   ·exact .inl q
   ·refine .inr ⟨g,cap,cur,e1,e2,(hp.other ?_).trans e3,e4⟩;rintro rfl;exact hva (by rw[e1];rfl)
  ·rw[Ab,Ab,hvl];rfl
  ·intro j u hu;by_cases hj:j<vals.length
   ·rw[AV hj]at hu;obtain⟨a1,n1,c1,e1,hs1,hw1⟩:=hvs j u hu;refine⟨a1,n1,c1,e1,?_,hw1.at hs1 (λb hK hb=>hg.block b hb hK.1 hK.2.1)⟩;have e:(ns++[b]).getD j []=ns.getD j []:=(by rw[List.getD,List.getD,AV (by omega)]);rw[e];exact hs1.wg hg
   ·have hj2:j=vals.length:=by
     have:=(Aw.1 hu).1;rw[Ab,Cp]at this;omega
    subst hj2;rw[AS (Aa _),Cc]at hu;simp at hu;refine⟨a,n,c,hu.symm,?_,hwq.at hs (λb hK hb=>hg.block b hb hK.1 hK.2.1)⟩;have e:(ns++[b]).getD vals.length []=b:=(by rw[List.getD,hvl,AS (Aa _),Cc];rfl);rw[e];exact hs.wg hg
 ·rcases h2.2 with⟨rfl,_⟩|⟨g,cap,cur,rfl,_⟩<;>rfl
 ·rcases h2.2 with⟨rfl,_⟩|⟨g,cap,cur,rfl,_⟩<;>rfl
theorem Wp.mono{Y:Nat->Prop}{ns:List (List Int)}(h:Wp w gW PV base vN X ns)(hX:∀b,b<w.heap.size->X b->Y b):Wp w gW PV base vN Y ns:=by
 obtain⟨vals,h1,h2,h3⟩:=h.o;refine⟨h.r,⟨vals,h1,h2,λj v hj=>?_⟩,h.b⟩;obtain⟨a,n,c,e,hs,hw⟩:=h3 j v hj;exact⟨a,n,c,e,⟨hs.ag,λx hx hn=>by have hk:=hs.k x hx hn;exact⟨hk.1,hk.2.1,hX _ (hs.old hx hn) hk.2.2⟩⟩,hw⟩
theorem Sk.freshp{K:Nat->Prop}{v:World}{ns:List (List Int)}{bs:List Int}(h:Sk (λb=>v.heap.size<=b) w' a n c bs)(hw:Wp v gW PV base vN X ns)(hs:w.heap.size<=v.heap.size):Sk (KW gW vN (λb=>w.heap.size<=b)) w' a n c bs:=
 h.mono (λb hb=>⟨λe=>by have:=hw.lt.1;omega,λe=>by have:=hw.lt.2 b e;omega,Ar hs hb⟩)
theorem Wp.drew{ns:List (List Int)}(h:Wp w gW PV base vN X ns):Wp w.drew gW PV base vN X ns:=h.go (Ak _ _).drew
theorem Wp.put{ns:List (List Int)}{cells old:Array Value}{T:TypeId}(h:Wp w gW PV base vN X ns)(hr:Rw g w old T)(h1:T≠23)(h2:T≠59)(hX:∀b,X b->b≠g)(hp:Put w w' g cells):Wp w' gW PV base vN X ns:=by
 obtain⟨vals,⟨q1,ho⟩,hv⟩:=h.o;have hne:gW≠g:=by
  rintro rfl;have:=h.r;rw[Rw,hr]at this;simp at this;exact h2 this.2
 refine⟨(hp.other hne).trans h.r,⟨vals,⟨q1,?_⟩,hv.1,λj u hu=>?_⟩,h.b⟩
 case refine_2=>
  obtain⟨a,n,c,e,hs,hw⟩:=hv.2 j u hu;exact⟨a,n,c,e,hs.put hp (λb hb=>hX b hb.2.2),hw.at hs (λb hK _=>hp.other (hX b hK.2.2))⟩
 rcases ho with q|⟨g',cap,cur,e1,e2,e3,e4⟩
 ·exact .inl q
 ·refine .inr ⟨g',cap,cur,e1,e2,(hp.other ?_).trans e3,e4⟩;rintro rfl;rw[hr]at e3;simp at e3;exact h1 e3.2
end Go.Proofs.YtefhepcplempkaaGreat
namespace Go.Proofs.YtefhepcplempkaaGreat
open Tr
variable {k : Nat → Tr} {x p : List Int} {B i : Nat} {c : Tr}
def onesP(l:PList):PList:=l.map λe=>(Ni.nib e.1,e.2)
def alikeP:PList->Nat
 |[]=>0
 |e::r=>r.foldl (λn f=>min n (Ni.com e.1 f.1)) e.1.length
def under1(i:Int)(e:List Int×List Int):PList:=match e.1 with
 |[]=>[]
 |c::p=>if c=i then[(p,e.2)]else[]
def underP(i:Int)(l:PList):PList:=l.flatMap (under1 i)
def withoutP(n:Nat)(l:PList):PList:=l.map λe=>(e.1.drop n,e.2)
def valP(v:List Int)(l:PList):List Int:=l.foldl (λv e=>if e.1=[]then e.2 else v) v
theorem Rel.ones{t:Tr}{l:PList}(h:Rel t l):onesP l=entsR t:=by
 have he:=h.ents;rcases h.ok with rfl|hO
 ·rw[show entsF [] no=[]from rfl]at he;subst he;rfl
 ·rw[<-he,Pc];unfold onesP;rw[List.map_map];have:(entsR t).map ((λe:List Int×List Int=>(Ni.nib e.1,e.2))∘λe=>((Ni.keyP ([]++e.1)).1,e.2))=(entsR t).map id:=by
   refine List.map_congr_left ?_;rintro⟨p,x⟩ hm;obtain⟨h1,h2,h3⟩:=(JB t hO p x).1 hm;obtain⟨k,k1,k2,k3⟩:=h.e p h1 (by rw[h2];exact h3);show(Ni.nib (Ni.keyP ([]++p)).1,x)=(p,x);rw[AL,k3,Ni.key_nib k1]
  rw[this,List.map_id]
theorem FQ:∀(t:Tr){B:Nat},Tr.Ok B t->entsR t≠[]:=by
 intro t
 induction t with
 |no=>intro B h;exact h.elim
 |leaf p x=>intro B h;simp[entsR]
 |ext p c ih=>intro B h;simp only[entsR,ne_eq,List.map_eq_nil_iff];exact ih h.2.2.2.2
 |br k x ih=>
  intro B h;obtain⟨h1,h2⟩:=h;have key:∀i,k i≠no->entsR (br k x)≠[]:=by
   intro i hi;rcases h1 i with e|⟨e1,e2,e3⟩
   ·exact absurd e hi
   ·have:=ih i e3;intro he;obtain⟨y,hy⟩:=List.exists_mem_of_ne_nil _ this;have hm:((i:Int)::y.1,y.2)∈entsR (br k x):=by
     simp only[entsR,Bc,BG,EB,BD];exact .inr ⟨i,e1,y,hy,rfl⟩
    rw[he]at hm;cases hm
  rcases h2 with⟨i,j,_,hi,_⟩|⟨_,i,hi⟩
  ·exact key i hi
  ·exact key i hi
theorem JI(h:Tr.Ok B (br k x))(hi:k i≠no):∃p v,((i:Int)::p,v)∈entsR (br k x):=by
 rcases h.1 i with e|⟨e1,e2,e3⟩
 ·exact absurd e hi
 ·obtain⟨y,hy⟩:=List.exists_mem_of_ne_nil _ (FQ _ e3);refine⟨y.1,y.2,?_⟩;simp only[entsR,Bc,BG,EB,BD];exact .inr ⟨i,e1,y,hy,rfl⟩
theorem Il{α:Type}(f:α->Nat):∀(r:List α)(n:Nat),r.foldl (λn e=>min n (f e)) n<=n
 |[],n=>Aa _
 |a::r,n=>Ar (Il f r _) (Nat.min_le_left _ _)
theorem JJ{α:Type}(f:α->Nat):∀(r:List α)(n:Nat)(a:α),a∈r->r.foldl (λn e=>min n (f e)) n<=f a
 |b::r,n,a,h=>by
  rcases AP.1 h with rfl|h
  ·exact Ar (Il f r _) (Nat.min_le_right _ _)
  ·exact JJ f r _ a h
theorem TJ(l:PList)(h:0<alikeP l):∃c:Int,∀e∈l,∃p,e.1=c::p:=by
 cases l with
 |nil=>simp[alikeP]at h
 |cons e r=>
  have h0:0<e.1.length:=B7 h (Il _ r _);obtain⟨c,p,hc⟩:∃c p,e.1=c::p:=by
   cases he:e.1 with
   |nil=>rw[he]at h0;simp at h0
   |cons c p=>exact⟨c,p,rfl⟩
  refine⟨c,λf hf=>?_⟩;rcases AP.1 hf with rfl|hf
  ·exact⟨p,hc⟩
  ·have h1:0<Ni.com e.1 f.1:=B7 h (JJ (λf:List Int×List Int=>Ni.com e.1 f.1) r _ f hf);cases hq:f.1 with
   |nil=>rw[hc,hq]at h1;simp[Ni.com]at h1
   |cons d q=>
    rw[hc,hq]at h1;simp only[Ni.com]at h1;by_cases hcd:c=d
    ·subst hcd;exact⟨q,rfl⟩
    ·rw[Ae hcd]at h1;omega
theorem Pw(h:Tr.Ok B (br k x)):alikeP (entsR (br k x))=0:=by
 refine Nat.eq_zero_of_not_pos λh0=>?_;obtain⟨c,hc⟩:=TJ _ h0;have kk:∀i,k i≠no->c=(i:Int):=by
  intro i hi;obtain⟨p,v,hm⟩:=JI h hi;obtain⟨q,hq⟩:=hc _ hm;injection hq with e _;exact e.symm
 rcases h.2 with⟨i,j,hij,hi,hj⟩|⟨hx,i,hi⟩
 ·have:=kk i hi;have:=kk j hj;omega
 ·obtain⟨p,hp⟩:=hc ([],x) (by simp only[entsR];rw[Ae hx];simp);cases hp
theorem Ss{α:Type}{l:List α}{a b:α}(ha:a∈l)(hb:b∈l)(h:a≠b):2<=l.length:=by
 match l with
 |[]=>cases ha
 |[c]=>
  have h1:a=c:=by simpa using ha
  have h2:b=c:=by simpa using hb
  exact absurd (h1.trans h2.symm) h
 |_::_::_=>simp
theorem Om(h:Tr.Ok B (br k x)):2<=(entsR (br k x)).length:=by
 rcases h.2 with⟨i,j,hij,hi,hj⟩|⟨hx,i,hi⟩
 ·obtain⟨p,v,hm⟩:=JI h hi;obtain⟨q,u,hn⟩:=JI h hj;exact Ss hm hn (by intro e;injection e with e _;injection e with e _;omega)
 ·obtain⟨p,v,hm⟩:=JI h hi;have hn:(([],x):List Int×List Int)∈entsR (br k x):=by simp only[entsR];rw[Ae hx];simp
  exact Ss hm hn (by intro e;injection e with e _;cases e)
theorem On(p a b:List Int):Ni.com (p++a) (p++b)=p.length+Ni.com a b:=by
 induction p with
 |nil=>simp
 |cons c p ih=>simp only[Cq,Ni.com,Ai,ih,AU];omega
theorem JK{α:Type}(f:α->Nat)(d:Nat):∀(r:List α)(n:Nat),r.foldl (λn e=>min n (d+f e)) (d+n)=d+r.foldl (λn e=>min n (f e)) n
 |[],n=>rfl
 |a::r,n=>by
  simp only[List.foldl_cons];rw[show min (d+n) (d+f a)=d+min n (f a)from by omega];exact JK f d r _
theorem TL(p:List Int)(l:PList)(h:l≠[]):alikeP (l.map λe=>(p++e.1,e.2))=p.length+alikeP l:=by
 cases l with
 |nil=>exact absurd rfl h
 |cons e r=>
  simp only[BX,alikeP,List.foldl_map,Ab,On];exact JK (λf:List Int×List Int=>Ni.com e.1 f.1) p.length r e.1.length
theorem TM(h:Tr.Ok B (ext p c)):alikeP (entsR (ext p c))=p.length:=by
 obtain⟨h1,h2,h3,h4,h5⟩:=h;cases c with
 |br k x=>
  show alikeP ((entsR (br k x)).map λe=>(p++e.1,e.2))=_;rw[TL p _ (FQ _ h5),Pw h5];omega
 |_=>cases h4
theorem XD(h:Tr.Ok B (ext p c)):2<=(entsR (ext p c)).length:=by
 obtain⟨h1,h2,h3,h4,h5⟩:=h;cases c with
 |br k x=>
  show 2<=((entsR (br k x)).map λe=>(p++e.1,e.2)).length;rw[AZ];exact Om h5
 |_=>cases h4
theorem KG(p:List Int)(c:Tr):withoutP p.length (entsR (ext p c))=entsR c:=by
 show((entsR c).map λe=>(p++e.1,e.2)).map (λe=>(e.1.drop p.length,e.2))=_;rw[List.map_map];have:(entsR c).map ((λe:List Int×List Int=>(e.1.drop p.length,e.2))∘λe=>(p++e.1,e.2))=(entsR c).map id:=by
  refine List.map_congr_left ?_;rintro⟨q,x⟩ _;show((p++q).drop p.length,x)=(q,x);rw[Cl]
 rw[this,List.map_id]
theorem Mb{α:Type}(X:List α)(i:Nat):∀n:Nat,(List.range n).flatMap (λj=>if j=i then X else[])=if i<n then X else[]
 |0=>by simp
 |n+1=>by
  rw[CR,Ca,Mb X i n,List.flatMap_singleton];by_cases h1:i<n
  ·rw[Ai h1,Ae (by omega),Ai (by omega),A4]
  ·rw[Ae h1,AL];by_cases h2:n=i
   ·rw[Ai h2,Ai (by omega)]
   ·rw[Ae h2,Ae (by omega)]
theorem TN(i j:Nat)(l:PList):(l.map λe=>((j:Int)::e.1,e.2)).flatMap (under1 (i:Int))=if j=i then l else[]:=by
 induction l with
 |nil=>simp
 |cons e r ih=>
  rw[BX,Cm,ih];simp only[under1];by_cases h:j=i
  ·subst h;simp
  ·rw[Ae (show¬(j:Int)=(i:Int)from by omega),Ae h,Ae h];rfl
theorem Gk(k:Nat->Tr)(x:List Int)(hi:i<16):underP (i:Int) (entsR (br k x))=entsR (k i):=by
 unfold underP;simp only[entsR];rw[Ca,List.flatMap_assoc]
 rw[Gi (λj=>((entsR (k j)).map λe=>((j:Int)::e.1,e.2)).flatMap (under1 (i:Int))) (λj=>if j=i then entsR (k i)else[]) (List.range 16) (λj _=>by
  show _=_;rw[TN];by_cases h:j=i
  ·subst h;rfl
  ·rw[Ae h,Ae h]),Mb,Ai hi]
 by_cases hx:x=[]
 ·rw[Ai hx];rfl
 ·rw[Ae hx];rfl
theorem Mc:∀(l:PList)(v:List Int),(∀e∈l,e.1≠[])->valP v l=v
 |[],v,_=>rfl
 |e::r,v,h=>by
  unfold valP;rw[List.foldl_cons,Ae (h e (by simp))];exact Mc r v (λf hf=>h f (AN _ hf))
theorem YZ(k:Nat->Tr)(x:List Int):valP [] (entsR (br k x))=x:=by
 have h2:∀e∈(List.range 16).flatMap λi=>(entsR (k i)).map λe=>((i:Int)::e.1,e.2),e.1≠[]:=by
  intro e he;obtain⟨i,_,h⟩:=BG.1 he;obtain⟨f,_,rfl⟩:=BD.1 h;simp
 simp only[entsR];by_cases hx:x=[]
 ·rw[Ai hx,AL,Mc _ _ h2,hx]
 ·rw[Ae hx];show valP [] (([],x)::_)=x;unfold valP;rw[List.foldl_cons,Ai rfl];exact Mc _ _ h2
end Go.Proofs.YtefhepcplempkaaGreat
namespace Go.Proofs.YtefhepcplempkaaGreat
open Tr
variable {K L Z X : Nat → Prop} {w w' : World} {a : Option Addr} {n c gW base dp np cp : Nat} {vs : List (Value × Value)} {vN : Value}
def entN(pre:List Int)(t:Tr):PList:=(entsR t).map λe=>(pre++e.1,e.2)
def wy1(kp pre:List Int)(c:Tr):List (List Int):=if 32<=(encT c).length/\kp.take pre.length=pre then[encT c]else[]
def wyN(kp:List Int):Tr->List Int->List (List Int)
 |no,_=>[]
 |leaf _ _,_=>[]
 |ext q c,pre=>wyN kp c (pre++q)++wy1 kp (pre++q) c
 |br k _,pre=>(List.range 16).flatMap λi=>if(k i).isNo then[]else wyN kp (k i) (pre++[(i:Int)])++wy1 kp (pre++[(i:Int)]) (k i)
theorem Oo(r:List Int):∀pre kp:List Int,pre.length<=Ni.com kp (pre++r)↔kp.take pre.length=pre
 |[],kp=>by simp
 |x::pre,[]=>by simp[Ni.com]
 |x::pre,y::kp=>by
  simp only[Cq,Ni.com,AU,CG,List.cons.injEq];by_cases h:y=x
  ·rw[Ai h];have:=Oo r pre kp;constructor
   ·intro h2;exact⟨h,this.1 (by omega)⟩
   ·intro h2;have:=this.2 h2.2;omega
  ·rw[Ae h];constructor
   ·intro h2;omega
   ·intro h2;exact absurd h2.1 h
theorem Im(pre q:List Int)(c:Tr):entN pre (ext q c)=entN (pre++q) c:=by
 simp[entN,entsR,List.append_assoc]
theorem Gp2.keep{p:Value×Value}{e:List Int×List Int}(h:Gp2 K w p e)(hk:Keep K L w w'):Gp2 L w' p e:=by
 obtain⟨a,n,c,a',n',c',h1,h2,h3,h4⟩:=h;exact⟨a,n,c,a',n',c',h1,h2,h3.keep hk,h4.keep hk⟩
theorem PAt.keep{l:PList}(h:PAt K w a n c vs l)(hk:Keep K L w w'):PAt L w' a n c vs l:=by
 refine⟨h.vl,h.ll,h.nc,h.nil,λj u hj=>?_,λj p e h1 h2=>(h.gd j p e h1 h2).keep hk,λx hx hn=>?_⟩
 ·obtain⟨g,off,e1,e2⟩:=h.row j u hj;have hn:0<n:=by
   rcases Ej n with q|q
   ·have:vs=[]:=A3 (by rw[h.vl];exact q);subst this;simp[flatP]at hj
   ·exact q
  exact⟨g,off,e1,(Ay (hk g (h.rk _ e1 hn) (Af e2)).1).trans e2⟩
 ·have hn':=hn;obtain⟨g,off,_,_,_,_,_,_,_,_,e1,_,e2,_⟩:=h.at hn;rw[e1]at hx;cases hx;exact(hk g (h.rk _ e1 hn) (Af e2)).2
theorem PAt.wg{vN':Value}{l:PList}(h:PAt (KW gW vN Z) w a n c vs l)(g:Wg w w' gW vN vN'):PAt (KW gW vN' Z) w' a n c vs l:=h.keep g.keep
def RNp(w:World)(gW:Nat)(PV:Value)(base:Nat)(vN:Value)(X:Nat->Prop)(ns:List (List Int))(kp pre:List Int)(t:Tr):Value->World->Prop:=λu w'=>∃(y:NV)(vN':Value),u= .agg y.cells.toArray/\NodeAt (λ_=>True) w' y (nodeP t)/\Wp w' gW PV base vN' X (ns++wyN kp t pre)/\Wg w w' gW vN vN'
def REp(w:World)(gW:Nat)(PV:Value)(base:Nat)(vN:Value)(X:Nat->Prop)(ns:List (List Int))(kp pre:List Int)(t:Tr):Value->World->Prop:=λu w'=>∃(a:Option Addr)(n c:Nat)(vN':Value),u= .slice a n c/\Sk (KW gW vN' (λb=>w.heap.size<=b)) w' a n c (encT t)/\Wp w' gW PV base vN' X (ns++wyN kp t pre)/\Wg w w' gW vN vN'/\(encT t).length<=65540/\Wq w' a n
def RRp(w:World)(gW:Nat)(PV:Value)(base:Nat)(vN:Value)(X:Nat->Prop)(ns:List (List Int))(kp pre:List Int)(t:Tr):Value->World->Prop:=λu w'=>∃(y:RV)(vN':Value),u= .agg y.cells.toArray/\Rf (KW gW vN' (λb=>w.heap.size<b)) w' y (referP (encT t))/\Wp w' gW PV base vN' X (ns++(wyN kp t pre++wy1 kp pre t))/\Wg w w' gW vN vN'
theorem Lj{kp pre r:List Int}(h:¬kp.take pre.length=pre):¬kp.take (pre++r).length=pre++r:=λe=>h (by
 have:=Au (List.take pre.length) e;rw[E8,CX,CP (by rw[Ab];omega)]at this;exact this)
theorem Md{kp:List Int}:∀(t:Tr){pre:List Int},¬kp.take pre.length=pre->wyN kp t pre=[]:=by
 intro t
 induction t with
 |no=>intro pre _;rfl
 |leaf _ _=>intro pre _;rfl
 |ext q c ih=>intro pre h;rw[wyN,ih (Lj h),wy1,Ae (λe=>Lj h e.2)];rfl
 |br k x ih=>
  intro pre h;rw[wyN,Ef];intro i _;split
  ·rfl
  ·rw[ih i (Lj h),wy1,Ae (λe=>Lj h e.2)];rfl
theorem Lk{kp pre:List Int}{t:Tr}(h:¬kp.take pre.length=pre):wy1 kp pre t=[]:=by rw[wy1,Ae (λe=>h e.2)]
theorem Me(pre p q:List Int):(pre++p).take (pre++q).length=pre++q↔p.take q.length=q:=by
 rw[Ab,List.take_append,A8 (by omega:pre.length<=pre.length+q.length),show pre.length+q.length-pre.length=q.length from by omega];exact⟨λh=>List.append_cancel_left h,λh=>by rw[h]⟩
theorem Yq(pre p:List Int)(k:Nat->Tr)(x:List Int){i:Nat}(hi:i<16):wyN (pre++(i:Int)::p) (br k x) pre=if(k i).isNo then[]else wyN (pre++(i:Int)::p) (k i) (pre++[(i:Int)])++wy1 (pre++(i:Int)::p) (pre++[(i:Int)]) (k i):=by
 rw[wyN];have:(λj:Nat=>if(k j).isNo then[]else wyN (pre++(i:Int)::p) (k j) (pre++[(j:Int)])++wy1 (pre++(i:Int)::p) (pre++[(j:Int)]) (k j))=λj=>if j=i then(if(k i).isNo then[]else wyN (pre++(i:Int)::p) (k i) (pre++[(i:Int)])++wy1 (pre++(i:Int)::p) (pre++[(i:Int)]) (k i))else[]:=by
  funext j;by_cases e:j=i
  ·subst e;simp
  ·rw[Ae e];have hoff:¬(pre++(i:Int)::p).take (pre++[(j:Int)]).length=pre++[(j:Int)]:=by
    rw[Me];simp;omega
   split
   ·rfl
   ·rw[Md _ hoff,Lk hoff];rfl
 rw[this,Mb,Ai hi]
theorem VV(pre:List Int)(k:Nat->Tr)(x:List Int):wyN pre (br k x) pre=[]:=by
 rw[wyN,Ef];intro i _;have hoff:¬pre.take (pre++[(i:Int)]).length=pre++[(i:Int)]:=λe=>by
  have:=Au List.length e;simp at this
 split
 ·rfl
 ·rw[Md _ hoff,Lk hoff];rfl
theorem VW:∀(t:Tr){B:Nat},Tr.Ok B t->∀(kp pre:List Int),(wyN kp t pre).length<=B:=by
 intro t;have h1:∀(kp pre:List Int)(t:Tr),(wy1 kp pre t).length<=1:=λkp pre t=>by unfold wy1;split<;>simp
 induction t with
 |no=>intro B h;exact h.elim
 |leaf _ _=>intro B _ kp pre;simp[wyN]
 |ext q c ih=>
  intro B hO kp pre;have:=ih hO.2.2.2.2 kp (pre++q);have:=h1 kp (pre++q) c;have:=Bx.2 hO.2.1;have:=hO.2.2.1;rw[wyN,Ab];omega
 |br k x ih=>
  intro B hO kp pre;by_cases hon:kp.take pre.length=pre
  ·obtain⟨p,rfl⟩:∃p,kp=pre++p:=⟨kp.drop pre.length,by have h9:=Be pre.length kp;rw[hon]at h9;exact h9.symm⟩;cases p with
   |nil=>rw[A4,VV];simp
   |cons i p=>
    by_cases hi:0<=i/\i<16
    ·obtain⟨m,rfl⟩:∃m:Nat,i=(m:Int):=⟨i.toNat,by omega⟩;rw[Yq pre p k x (by omega)];split
     ·simp
     ·rename_i hno;obtain⟨_,o2,o3⟩:=(hO.1 m).resolve_left (λe=>hno (by rw[e];rfl));have:=ih m o3 (pre++(m:Int)::p) (pre++[(m:Int)]);have:=h1 (pre++(m:Int)::p) (pre++[(m:Int)]) (k m);rw[Ab];omega
    ·rw[wyN,show((List.range 16).flatMap λj=>if(k j).isNo then[]else wyN (pre++i::p) (k j) (pre++[(j:Int)])++wy1 (pre++i::p) (pre++[(j:Int)]) (k j))=[]from by
      rw[Ef];intro j hj;have hoff:¬(pre++i::p).take (pre++[(j:Int)]).length=pre++[(j:Int)]:=by
       rw[Me];rw[EB]at hj;simp;omega
      split
      ·rfl
      ·rw[Md _ hoff,Lk hoff];rfl]
     simp
  ·rw[Md _ hon];simp
theorem XE{PV:Value}{ns:List (List Int)}{kp pre:List Int}{t:Tr}(hne:t≠no)(hm:Calls prog 56 #[.pointer (some ⟨gW,0,none⟩), .slice a n c, .int .i64 (dp:Int)] w λe w'=>∃u,e= .returned u/\RNp w gW PV base vN X ns kp pre t u w'):
 Calls prog 29 #[.pointer (some ⟨gW,0,none⟩), .slice a n c, .int .i64 (dp:Int)] w λe w'=>∃u,e= .returned u/\REp w gW PV base vN X ns kp pre t u w':=by
 have hB:=Bl.refl w;refine EO func29 18<|Hc 10 (R:=RNp w gW PV base vN X ns kp pre t) (hm) ?_;rintro _ u1⟨y,vM,rfl,hN,hW1,hG⟩;refine Hc 0 (R:=λu w'=>∃a m c,u= .tuple #[.slice a m c, .int .i64 ((NEP (nodeP t)).2:Nat)]/\Sk (λb=>u1.heap.size<=b) w' a m c (NEP (nodeP t)).1/\Wq w' a m/\Bl u1 w') ((KB (λ_=>True) y (nodeP t) u1 hN).mono (λe w' h=>by obtain⟨⟨a,m,c,e1,h1,h2⟩,h3⟩:=h;exact⟨_,e1,a,m,c,rfl,⟨h1,λq hq hn=>by rcases h1.i with⟨q1,q2⟩|⟨gb,off,q1,_⟩;omega;rw[hq]at q1;cases q1;exact(h2 gb off hq hn).1⟩,(λq hq hn o=>by rcases h1.i with⟨q1,q2⟩|⟨gb,off,q1,_⟩;omega;rw[hq]at q1;cases q1;exact(h2 gb off hq hn).2 o),h3⟩)) ?_;rintro _ u2⟨a2,n2,c2,rfl,hs2,hw2,hb2⟩;exact Hr 14 (.slice a2 n2 c2) ⟨_,rfl,a2,n2,c2,vM,rfl,(by rw[GG hne];exact hs2.freshp (K:=λ_=>True) hW1 hG.size),hW1.go hb2,hG.trans (Wg.of_below hb2),(by rw[GG hne];exact Oh hN.okN),hw2⟩
theorem Oq{ns:List (List Int)}{kp pre:List Int}{t:Tr}{ap:Option Addr}(hW:Wp w gW (.slice ap np cp) base vN X ns)(hl:PAt (KW gW vN Z) w a n c vs (entN pre t))(hkp:Sk (KW gW vN Z) w ap np cp kp)(hnp:np<=1000)(hpl:∀e∈entN pre t,e.1.length<=1000)(hn0:0<n)(hdp:dp=pre.length)(hX:∀b,w.heap.size<=b->X b)(hE:∀v,Bl w v->∀Y:Nat->Prop,Wp v gW (.slice ap np cp) base vN Y ns->(∀b,v.heap.size<=b->Y b)->Calls prog 29 #[.pointer (some ⟨gW,0,none⟩), .slice a n c, .int .i64 (dp:Int)] v λe w'=>∃u,e= .returned u/\REp v gW (.slice ap np cp) base vN Y ns kp pre t u w')(hM:(ns++wyN kp t pre).length+1<=8800000000000)(hsh:(encT t).length<32):
 Calls prog 82 #[.pointer (some ⟨gW,0,none⟩), .slice a n c, .int .i64 (dp:Int)] w λe w'=>∃u,e= .returned u/\RRp w gW (.slice ap np cp) base vN X ns kp pre t u w':=by
 have hB:=Bl.refl w;have hW0:=hW;have hl0:=hl;obtain⟨gE,oE,a1,n1,c1,a2,n2,c2,k1,x1,ea,hej,hc1,hc2,hs1,hs2e⟩:=hl.at (j:=0) hn0;subst ea;have hk1:∃r,k1=pre++r:=by
  unfold entN at hej;rw[C6]at hej;obtain⟨e,_,e2⟩:=DC.1 hej;cases e2;exact⟨_,rfl⟩
 obtain⟨r1,rfl⟩:=hk1;have ls1:=hs1.len;have lkp:=hkp.len;have hb1:(pre++r1).length<=1000:=hpl _ (A6 hej);refine CV func82 rfl 42 rfl ?_;show CW _ _ _ _ _ _ _ [(0, .pointer (some ⟨gW,0,none⟩)),(1, .slice (some ⟨gE,oE,none⟩) n c),(2, .int .i64 (dp:Int))] _;refine A5<|Ao<|E5 6 rz.cells.toArray 65 (λ_=>by kernel_rfl) (λ_=>by kernel_rfl) ?_;intro w1 gR hnR;replace hB:=hB.go hnR.below;replace hW:=hW.go hnR.below;have hrR:Rw gR w1 rz.cells.toArray 65:=hnR.row;have hgR:=hnR.hg;have hsR:=hnR.size;have hWX:Wp w1 gW (.slice ap np cp) base vN (λb=>X b/\b≠gR) ns:=(hW0.mono (Y:=λb=>X b/\b≠gR) (λb hb hx=>⟨hx,by omega⟩)).go hnR.below;refine AK<|Av<|A5<|Ao<|rp 9 (.pointer (some ⟨gW,0,none⟩))<|rp 10 (.slice (some ⟨gE,oE,none⟩) n c)<|rp 11 (.int .i64 (dp:Int))<|BH 12 29 #[.pointer (some ⟨gW,0,none⟩), .slice (some ⟨gE,oE,none⟩) n c, .int .i64 (dp:Int)] (λ_=>by kernel_rfl) (λ_=>by kernel_rfl) (R:=REp w1 gW (.slice ap np cp) base vN (λb=>X b/\b≠gR) ns kp pre t) (hE w1 hB (λb=>X b/\b≠gR) hWX (λb hb=>⟨hX b (by omega),by omega⟩)) ?_;rintro _ u1⟨a3,n3,c3,vM,rfl,hs3,hW1,hG,hen,hq3⟩;replace hrR:=hrR.wgp hG hW (by decide) (by decide);have hGt:=(Wg.of_below hB).trans hG;clear hW hB;have hz1:=hG.size;have ln3:=hs3.len;refine rp 7 (.slice a3 n3 c3)<|AK<|Av<|A5<|Ao<|rp 13 (.slice a3 n3 c3)<|BH 14 118 #[.slice a3 n3 c3] (λ_=>by kernel_rfl) (λ_=>by kernel_rfl) (R:=λu w'=>∃y:RV,u= .agg y.cells.toArray/\Rf (λb=>u1.heap.size<=b) w' y (referP (encT t))/\Bl u1 w') ((GF a3 n3 c3 (encT t) u1 hs3.ag (by omega)).mono (λe w' h=>by obtain⟨⟨y,e1,h1⟩,h2⟩:=h;exact⟨_,e1,y,rfl,⟨h1.go (λb hb _=>⟨rfl,hb.1⟩)⟩,h2⟩)) ?_;rintro _ u2⟨y,rfl,hRf,hb2⟩;have hltW:=hW1.lt;replace hrR:=hrR.go hb2;replace hGt:=hGt.go hb2;replace hW1:=hW1.go hb2;replace hq3:=hq3.go hs3 hb2;replace hs3:=hs3.go hb2;replace hRf:Rf (KW gW vM (λb=>w.heap.size<b)) u2 y (referP (encT t)):=hRf.mono (λb hb=>⟨λe=>by have:=hltW.1;omega,λe=>by have:=hltW.2 b e;omega,by omega⟩);have hyl:=hRf.at'.len;have hyk:y.k=1:=by rw[hRf.at'.1,Ik,Ai hsh]
 refine E5 8 rz.cells.toArray 65 (λ_=>by kernel_rfl) (λ_=>by kernel_rfl) ?_;intro wA g6 hnA;refine Fo g6 y.cells.toArray (λ_=>by kernel_rfl) (λ_=>BP 65 _ _ _ _ _ _ rfl (by kernel_rfl) (by kernel_rfl) hnA.row (by rw[DF,CJ hyl]) (by rw[CJ hyl];rfl) (Fj y)) ?_;intro wC hpC;have hnC:=hnA.put hpC;replace hrR:=hrR.go hnC.below;replace hGt:=hGt.go hnC.below;replace hW1:=hW1.go hnC.below;replace hq3:=hq3.go hs3 hnC.below;replace hs3:=hs3.go hnC.below;replace hRf:=hRf.go hnC.below;have hr6:Rw g6 wC y.cells.toArray 65:=hnC.row;refine AK<|Av<|A5<|A5 ?_;have hV:=Bl.refl wC;have hr6c:=hr6;have hW1c:=hW1;refine Gn (λv=>Bl wC v) (by kernel_rfl) (hV.drew) ?_;replace hrR:=hrR.drew;replace hGt:=hGt.drew;replace hW1:=hW1.drew;replace hq3:=hq3.drew;replace hs3:=hs3.drew;replace hRf:=hRf.drew;replace hr6:=hr6.drew;replace hV:=hV.drew;refine dt 0 15 (.pointer (some ⟨g6,0,none⟩)) (λv hv _=>by kernel_rfl) hV<|dt 1 16 (.int .i64 1) (λv hv _=>AA 3 _ ⟨g6,0,none⟩ _ _ rfl (by kernel_rfl) (by rw[Ad _ _ _ _ _ _ (hr6c.go hv),<-hyk];rfl) underlying3 rfl) hV<|dt 2 17 (.bool false) (λv hv _=>by kernel_rfl) hV<|dt 3 18 (.bool false) (λv hv _=>by kernel_rfl) hV<|df 4 19 hV<|df 5 20 hV<|df 6 21 hV<|df 7 22 hV<|df 8 23 hV<|df 9 24 hV<|df 10 25 hV<|df 11 26 hV ?_;refine df 12 27 hV<|df 13 28 hV<|df 14 29 hV<|dt 15 30 (.bool false) (λv hv _=>by kernel_rfl) hV<|Fg (by kernel_rfl)<|Av<|Cb (λ_=>by kernel_rfl)<|CN<|Av<|A5<|Ao<|rv 41 (.agg y.cells.toArray) (λ_=>Eb 65 _ _ _ _ _ _ rfl (by kernel_rfl) hr6 underlying65 rfl (by rw[DF,CJ hyl])) ?_;refine Fo gR y.cells.toArray (λ_=>by kernel_rfl) (λ_=>BP 65 _ _ _ _ _ _ rfl (by kernel_rfl) (by kernel_rfl) hrR (by rw[DF,CJ hyl]) (by rw[CJ hyl];rfl) (Fj y)) ?_;intro wE hpE;have hrE:Rw gR wE y.cells.toArray 65:=hpE.row hrR;have hRE:=hRf.put hpE (λb hb=>by have:=hb.2.2;omega);have hWE:=(hW1.put hrR (by decide) (by decide) (λb hb=>hb.2) hpE).mono (λb _ hb=>hb.1);have hGE:=hGt.put hpE (by omega);refine AK<|Av<|D7 ?_;exact BU (.agg y.cells.toArray) (λ_=>GI results82 _ gR y hyl (by kernel_rfl) hrE) ⟨_,rfl,y,vM,rfl,hRE,(by rw[show wy1 kp pre t=[]from by unfold wy1;rw[Ae (λh=>by omega)],A4];exact hWE),hGE⟩
theorem TO{ns:List (List Int)}{kp pre:List Int}{t:Tr}{ap:Option Addr}(hW:Wp w gW (.slice ap np cp) base vN X ns)(hl:PAt (KW gW vN Z) w a n c vs (entN pre t))(hkp:Sk (KW gW vN Z) w ap np cp kp)(hnp:np<=1000)(hpl:∀e∈entN pre t,e.1.length<=1000)(hn0:0<n)(hdp:dp=pre.length)(hX:∀b,w.heap.size<=b->X b)(hE:∀v,Bl w v->∀Y:Nat->Prop,Wp v gW (.slice ap np cp) base vN Y ns->(∀b,v.heap.size<=b->Y b)->Calls prog 29 #[.pointer (some ⟨gW,0,none⟩), .slice a n c, .int .i64 (dp:Int)] v λe w'=>∃u,e= .returned u/\REp v gW (.slice ap np cp) base vN Y ns kp pre t u w')(hM:(ns++wyN kp t pre).length+1<=8800000000000)(hsh:¬(encT t).length<32)(hon:kp.take pre.length=pre):
 Calls prog 82 #[.pointer (some ⟨gW,0,none⟩), .slice a n c, .int .i64 (dp:Int)] w λe w'=>∃u,e= .returned u/\RRp w gW (.slice ap np cp) base vN X ns kp pre t u w':=by
 have hB:=Bl.refl w;have hW0:=hW;have hl0:=hl;obtain⟨gE,oE,a1,n1,c1,a2,n2,c2,k1,x1,ea,hej,hc1,hc2,hs1,hs2e⟩:=hl.at (j:=0) hn0;subst ea;have hk1:∃r,k1=pre++r:=by
  unfold entN at hej;rw[C6]at hej;obtain⟨e,_,e2⟩:=DC.1 hej;cases e2;exact⟨_,rfl⟩
 obtain⟨r1,rfl⟩:=hk1;have ls1:=hs1.len;have lkp:=hkp.len;have hb1:(pre++r1).length<=1000:=hpl _ (A6 hej);refine CV func82 rfl 42 rfl ?_;show CW _ _ _ _ _ _ _ [(0, .pointer (some ⟨gW,0,none⟩)),(1, .slice (some ⟨gE,oE,none⟩) n c),(2, .int .i64 (dp:Int))] _;refine A5<|Ao<|E5 6 rz.cells.toArray 65 (λ_=>by kernel_rfl) (λ_=>by kernel_rfl) ?_;intro w1 gR hnR;replace hB:=hB.go hnR.below;replace hW:=hW.go hnR.below;have hrR:Rw gR w1 rz.cells.toArray 65:=hnR.row;have hgR:=hnR.hg;have hsR:=hnR.size;have hWX:Wp w1 gW (.slice ap np cp) base vN (λb=>X b/\b≠gR) ns:=(hW0.mono (Y:=λb=>X b/\b≠gR) (λb hb hx=>⟨hx,by omega⟩)).go hnR.below;refine AK<|Av<|A5<|Ao<|rp 9 (.pointer (some ⟨gW,0,none⟩))<|rp 10 (.slice (some ⟨gE,oE,none⟩) n c)<|rp 11 (.int .i64 (dp:Int))<|BH 12 29 #[.pointer (some ⟨gW,0,none⟩), .slice (some ⟨gE,oE,none⟩) n c, .int .i64 (dp:Int)] (λ_=>by kernel_rfl) (λ_=>by kernel_rfl) (R:=REp w1 gW (.slice ap np cp) base vN (λb=>X b/\b≠gR) ns kp pre t) (hE w1 hB (λb=>X b/\b≠gR) hWX (λb hb=>⟨hX b (by omega),by omega⟩)) ?_;rintro _ u1⟨a3,n3,c3,vM,rfl,hs3,hW1,hG,hen,hq3⟩;replace hrR:=hrR.wgp hG hW (by decide) (by decide);have hGt:=(Wg.of_below hB).trans hG;clear hW hB;have hz1:=hG.size;have ln3:=hs3.len;refine rp 7 (.slice a3 n3 c3)<|AK<|Av<|A5<|Ao<|rp 13 (.slice a3 n3 c3)<|BH 14 118 #[.slice a3 n3 c3] (λ_=>by kernel_rfl) (λ_=>by kernel_rfl) (R:=λu w'=>∃y:RV,u= .agg y.cells.toArray/\Rf (λb=>u1.heap.size<=b) w' y (referP (encT t))/\Bl u1 w') ((GF a3 n3 c3 (encT t) u1 hs3.ag (by omega)).mono (λe w' h=>by obtain⟨⟨y,e1,h1⟩,h2⟩:=h;exact⟨_,e1,y,rfl,⟨h1.go (λb hb _=>⟨rfl,hb.1⟩)⟩,h2⟩)) ?_;rintro _ u2⟨y,rfl,hRf,hb2⟩;have hltW:=hW1.lt;replace hrR:=hrR.go hb2;replace hGt:=hGt.go hb2;replace hW1:=hW1.go hb2;replace hq3:=hq3.go hs3 hb2;replace hs3:=hs3.go hb2;replace hRf:Rf (KW gW vM (λb=>w.heap.size<b)) u2 y (referP (encT t)):=hRf.mono (λb hb=>⟨λe=>by have:=hltW.1;omega,λe=>by have:=hltW.2 b e;omega,by omega⟩);have hyl:=hRf.at'.len;have hyk:y.k=2:=by rw[hRf.at'.1,Ik,Ae hsh]
 refine E5 8 rz.cells.toArray 65 (λ_=>by kernel_rfl) (λ_=>by kernel_rfl) ?_;intro wA g6 hnA;refine Fo g6 y.cells.toArray (λ_=>by kernel_rfl) (λ_=>BP 65 _ _ _ _ _ _ rfl (by kernel_rfl) (by kernel_rfl) hnA.row (by rw[DF,CJ hyl]) (by rw[CJ hyl];rfl) (Fj y)) ?_;intro wC hpC;have hnC:=hnA.put hpC;replace hrR:=hrR.go hnC.below;replace hGt:=hGt.go hnC.below;replace hW1:=hW1.go hnC.below;replace hq3:=hq3.go hs3 hnC.below;replace hs3:=hs3.go hnC.below;replace hRf:=hRf.go hnC.below;have hr6:Rw g6 wC y.cells.toArray 65:=hnC.row;refine AK<|Av<|A5<|A5 ?_;have hV:=Bl.refl wC;have hr6c:=hr6;have hW1c:=hW1;have hlw:=hl0.wg hGt;have hkw:=hkp.wg hGt;obtain⟨gE2,oE2,a5,n5,c5,_,_,_,k5,_,ea5,hej5,hc5,_,hs5,_⟩:=hlw.at (j:=0) hn0;cases ea5;rw[hej]at hej5;cases hej5;have ls5:=hs5.len;refine Gn (λv=>Bl wC v) (by kernel_rfl) (hV.drew) ?_;replace hrR:=hrR.drew;replace hGt:=hGt.drew;replace hW1:=hW1.drew;replace hq3:=hq3.drew;replace hs3:=hs3.drew;replace hRf:=hRf.drew;replace hr6:=hr6.drew;replace hV:=hV.drew;refine dt 0 15 (.pointer (some ⟨g6,0,none⟩)) (λv hv _=>by kernel_rfl) hV<|dt 1 16 (.int .i64 2) (λv hv _=>AA 3 _ ⟨g6,0,none⟩ _ _ rfl (by kernel_rfl) (by rw[Ad _ _ _ _ _ _ (hr6c.go hv),<-hyk];rfl) underlying3 rfl) hV<|dt 2 17 (.bool true) (λv hv _=>by kernel_rfl) hV<|dt 3 18 (.bool true) (λv hv _=>by kernel_rfl) hV<|dt 4 19 (.pointer (some ⟨gW,0,none⟩)) (λv hv _=>by kernel_rfl) hV<|dt 5 20 (.pointer (some ⟨gW,0,none⟩)) (λv hv=>(λ_=>by kernel_rfl)) hV<|dt 6 21 (.pointer (some ⟨gW,0,none⟩)) (λv hv _=>by kernel_rfl) hV<|dt 7 22 (.slice ap np cp) (λv hv _=>AA 23 _ ⟨gW,0,none⟩ _ _ rfl (by kernel_rfl) (by rw[Ad _ _ _ _ _ _ (hW1c.r.go hv)];rfl) underlying23 rfl) hV<|dt 8 23 (.slice (some ⟨gE,oE,none⟩) n c) (λv hv _=>by kernel_rfl) hV<|dt 9 24 (.pointer (some ⟨gE,oE+0*2,none⟩)) (λv hv _=>Bh 55 _ _ gE oE 0 n c 2 95 rfl (by kernel_rfl) (by kernel_rfl) hn0 underlying55 (by kernel_rfl)) hV<|dt 10 25 (.pointer (some ⟨gE,oE+0*2,none⟩)) (λv hv _=>by kernel_rfl) hV<|dt 11 26 (.slice a5 n5 c5) (λv hv _=>AA 23 _ _ _ _ rfl (by kernel_rfl) ((Br hv (Af hc5)).trans hc5) underlying23 rfl) hV ?_;refine dt 13 28 (.int .i64 (dp:Int)) (λv hv _=>by kernel_rfl) hV<|CI [12] (by kernel_rfl) (by simp) ?_;refine Gp 12 27 81 #[.slice ap np cp, .slice a5 n5 c5] rfl (λ_=>by kernel_rfl) (λ_=>by kernel_rfl) (R:=λu w'=>u= .int .i64 (Ni.com kp (pre++r1):Nat)/\Bl (wC.drew) w') (((Ni.common_any _ _ _ _ _ _ kp (pre++r1) _ (hkw.go hV).ag (hs5.go hV).ag (by omega) (by omega)).mono (λe w' h=>⟨_,h.1,rfl,h.2⟩))) (λu w' h=>hV.go h.2) ?_ DR;rintro _ u5⟨rfl,hb5⟩;replace hrR:=hrR.go hb5;replace hGt:=hGt.go hb5;replace hW1:=hW1.go hb5;replace hq3:=hq3.go hs3 hb5;replace hs3:=hs3.go hb5;replace hRf:=hRf.go hb5;replace hr6:=hr6.go hb5;replace hV:=hV.go hb5;refine dt 14 29 (.bool true) (λv hv=>(λ_=>Bu (v:= .bool (decide (((Ni.com kp (pre++r1):Nat):Int)>=(dp:Int)))) (by kernel_rfl) (Au Value.bool (AT (by have:=(Oo r1 pre kp).2 hon;omega))))) hV<|dt 15 30 (.bool true) (λv hv _=>by kernel_rfl) hV<|Fg (by kernel_rfl)<|Av<|CY (λ_=>by kernel_rfl)<|Ao<|rp 31 (.pointer (some ⟨gW,0,none⟩))<|rp 32 (.pointer (some ⟨gW,0,none⟩))<|rp 33 (.pointer (some ⟨gW,0,none⟩))<|rp 34 (.pointer (some ⟨gW,1,none⟩))<|rv 35 (vM) (λ_=>AA 28 _ ⟨gW,1,none⟩ _ _ rfl (by kernel_rfl) (by rw[Ad _ _ _ _ _ _ hW1.r];rfl) underlying28 rfl)<|rp 36 (.slice a3 n3 c3) ?_;refine Fz 37 #[.slice a3 n3 c3] 23 1 (λ_=>by kernel_rfl) (λ_=>by kernel_rfl) ?_;intro wL gL hnL;replace hrR:=hrR.go hnL.below;replace hGt:=hGt.go hnL.below;replace hW1:=hW1.go hnL.below;replace hq3:=hq3.go hs3 hnL.below;replace hs3:=hs3.go hnL.below;replace hRf:=hRf.go hnL.below;replace hr6:=hr6.go hnL.below;replace hV:=hV.go hnL.below;have hLr:Rw gL wL #[.slice a3 n3 c3] 23:=hnL.row;obtain⟨vP,wP,hrP,hNA,hrW,hvc,hv1⟩:=QI hW1 (hs3.mono (K':=KW gW vM (λb=>X b/\b≠gR)) (λb hb=>⟨hb.1,hb.2.1,hX b (by have:=hb.2.2;omega),by have:=hb.2.2;omega⟩)) hq3 hLr (by simp only[Ab]at hM⊢;omega);refine Ln 38 vP (λ_=>by kernel_rfl) (λ_=>Gr hrP _ _ rfl (by kernel_rfl) (by kernel_rfl))<|rp 39 (.pointer (some ⟨gW,0,none⟩))<|rp 40 (.pointer (some ⟨gW,1,none⟩))<|Rt gW 1 vP (λ_=>by kernel_rfl) (λ_=>D8 28 _ _ gW 1 _ 59 _ hrW rfl (by kernel_rfl) (by kernel_rfl) (by show 1<2;omega) hvc hv1 (by kernel_rfl)) ?_;intro wD hpD;obtain⟨hW2,hG2⟩:=hNA wD hpD;replace hrR:=hrR.wgp hG2 hW1 (by decide) (by decide);replace hr6:=hr6.wgp hG2 hW1 (by decide) (by decide);replace hRf:=hRf.wg hG2;replace hGt:=hGt.trans hG2;clear hW1 hs3;have hW1:=hW2;refine AK<|Av<|A5<|Ao<|rv 41 (.agg y.cells.toArray) (λ_=>Eb 65 _ _ _ _ _ _ rfl (by kernel_rfl) hr6 underlying65 rfl (by rw[DF,CJ hyl]))<|Fo gR y.cells.toArray (λ_=>by kernel_rfl) (λ_=>BP 65 _ _ _ _ _ _ rfl (by kernel_rfl) (by kernel_rfl) hrR (by rw[DF,CJ hyl]) (by rw[CJ hyl];rfl) (Fj y)) ?_;intro wE hpE;have hrE:Rw gR wE y.cells.toArray 65:=hpE.row hrR;have hRE:=hRf.put hpE (λb hb=>by have:=hb.2.2;omega);have hWE:=(hW1.put hrR (by decide) (by decide) (λb hb=>hb.2) hpE).mono (λb _ hb=>hb.1);have hGE:=hGt.put hpE (by omega);refine AK<|Av<|D7 ?_;exact BU (.agg y.cells.toArray) (λ_=>GI results82 _ gR y hyl (by kernel_rfl) hrE) ⟨_,rfl,y,vP,rfl,hRE,(by rw[show wy1 kp pre t=[encT t]from by unfold wy1;rw[Ai ⟨by omega,hon⟩],<-A9];exact hWE),hGE⟩
theorem QJ{ns:List (List Int)}{kp pre:List Int}{t:Tr}{ap:Option Addr}(hW:Wp w gW (.slice ap np cp) base vN X ns)(hl:PAt (KW gW vN Z) w a n c vs (entN pre t))(hkp:Sk (KW gW vN Z) w ap np cp kp)(hnp:np<=1000)(hpl:∀e∈entN pre t,e.1.length<=1000)(hn0:0<n)(hdp:dp=pre.length)(hX:∀b,w.heap.size<=b->X b)(hE:∀v,Bl w v->∀Y:Nat->Prop,Wp v gW (.slice ap np cp) base vN Y ns->(∀b,v.heap.size<=b->Y b)->Calls prog 29 #[.pointer (some ⟨gW,0,none⟩), .slice a n c, .int .i64 (dp:Int)] v λe w'=>∃u,e= .returned u/\REp v gW (.slice ap np cp) base vN Y ns kp pre t u w')(hM:(ns++wyN kp t pre).length+1<=8800000000000)(hsh:¬(encT t).length<32)(hon:¬kp.take pre.length=pre):
 Calls prog 82 #[.pointer (some ⟨gW,0,none⟩), .slice a n c, .int .i64 (dp:Int)] w λe w'=>∃u,e= .returned u/\RRp w gW (.slice ap np cp) base vN X ns kp pre t u w':=by
 have hB:=Bl.refl w;have hW0:=hW;have hl0:=hl;obtain⟨gE,oE,a1,n1,c1,a2,n2,c2,k1,x1,ea,hej,hc1,hc2,hs1,hs2e⟩:=hl.at (j:=0) hn0;subst ea;have hk1:∃r,k1=pre++r:=by
  unfold entN at hej;rw[C6]at hej;obtain⟨e,_,e2⟩:=DC.1 hej;cases e2;exact⟨_,rfl⟩
 obtain⟨r1,rfl⟩:=hk1;have ls1:=hs1.len;have lkp:=hkp.len;have hb1:(pre++r1).length<=1000:=hpl _ (A6 hej);refine CV func82 rfl 42 rfl ?_;show CW _ _ _ _ _ _ _ [(0, .pointer (some ⟨gW,0,none⟩)),(1, .slice (some ⟨gE,oE,none⟩) n c),(2, .int .i64 (dp:Int))] _;refine A5<|Ao<|E5 6 rz.cells.toArray 65 (λ_=>by kernel_rfl) (λ_=>by kernel_rfl) ?_;intro w1 gR hnR;replace hB:=hB.go hnR.below;replace hW:=hW.go hnR.below;have hrR:Rw gR w1 rz.cells.toArray 65:=hnR.row;have hgR:=hnR.hg;have hsR:=hnR.size;have hWX:Wp w1 gW (.slice ap np cp) base vN (λb=>X b/\b≠gR) ns:=(hW0.mono (Y:=λb=>X b/\b≠gR) (λb hb hx=>⟨hx,by omega⟩)).go hnR.below;refine AK<|Av<|A5<|Ao<|rp 9 (.pointer (some ⟨gW,0,none⟩))<|rp 10 (.slice (some ⟨gE,oE,none⟩) n c)<|rp 11 (.int .i64 (dp:Int))<|BH 12 29 #[.pointer (some ⟨gW,0,none⟩), .slice (some ⟨gE,oE,none⟩) n c, .int .i64 (dp:Int)] (λ_=>by kernel_rfl) (λ_=>by kernel_rfl) (R:=REp w1 gW (.slice ap np cp) base vN (λb=>X b/\b≠gR) ns kp pre t) (hE w1 hB (λb=>X b/\b≠gR) hWX (λb hb=>⟨hX b (by omega),by omega⟩)) ?_;rintro _ u1⟨a3,n3,c3,vM,rfl,hs3,hW1,hG,hen,hq3⟩;replace hrR:=hrR.wgp hG hW (by decide) (by decide);have hGt:=(Wg.of_below hB).trans hG;clear hW hB;have hz1:=hG.size;have ln3:=hs3.len;refine rp 7 (.slice a3 n3 c3)<|AK<|Av<|A5<|Ao<|rp 13 (.slice a3 n3 c3)<|BH 14 118 #[.slice a3 n3 c3] (λ_=>by kernel_rfl) (λ_=>by kernel_rfl) (R:=λu w'=>∃y:RV,u= .agg y.cells.toArray/\Rf (λb=>u1.heap.size<=b) w' y (referP (encT t))/\Bl u1 w') ((GF a3 n3 c3 (encT t) u1 hs3.ag (by omega)).mono (λe w' h=>by obtain⟨⟨y,e1,h1⟩,h2⟩:=h;exact⟨_,e1,y,rfl,⟨h1.go (λb hb _=>⟨rfl,hb.1⟩)⟩,h2⟩)) ?_;rintro _ u2⟨y,rfl,hRf,hb2⟩;have hltW:=hW1.lt;replace hrR:=hrR.go hb2;replace hGt:=hGt.go hb2;replace hW1:=hW1.go hb2;replace hq3:=hq3.go hs3 hb2;replace hs3:=hs3.go hb2;replace hRf:Rf (KW gW vM (λb=>w.heap.size<b)) u2 y (referP (encT t)):=hRf.mono (λb hb=>⟨λe=>by have:=hltW.1;omega,λe=>by have:=hltW.2 b e;omega,by omega⟩);have hyl:=hRf.at'.len;have hyk:y.k=2:=by rw[hRf.at'.1,Ik,Ae hsh]
 refine E5 8 rz.cells.toArray 65 (λ_=>by kernel_rfl) (λ_=>by kernel_rfl) ?_;intro wA g6 hnA;refine Fo g6 y.cells.toArray (λ_=>by kernel_rfl) (λ_=>BP 65 _ _ _ _ _ _ rfl (by kernel_rfl) (by kernel_rfl) hnA.row (by rw[DF,CJ hyl]) (by rw[CJ hyl];rfl) (Fj y)) ?_;intro wC hpC;have hnC:=hnA.put hpC;replace hrR:=hrR.go hnC.below;replace hGt:=hGt.go hnC.below;replace hW1:=hW1.go hnC.below;replace hq3:=hq3.go hs3 hnC.below;replace hs3:=hs3.go hnC.below;replace hRf:=hRf.go hnC.below;have hr6:Rw g6 wC y.cells.toArray 65:=hnC.row;refine AK<|Av<|A5<|A5 ?_;have hV:=Bl.refl wC;have hr6c:=hr6;have hW1c:=hW1;have hlw:=hl0.wg hGt;have hkw:=hkp.wg hGt;obtain⟨gE2,oE2,a5,n5,c5,_,_,_,k5,_,ea5,hej5,hc5,_,hs5,_⟩:=hlw.at (j:=0) hn0;cases ea5;rw[hej]at hej5;cases hej5;have ls5:=hs5.len;refine Gn (λv=>Bl wC v) (by kernel_rfl) (hV.drew) ?_;replace hrR:=hrR.drew;replace hGt:=hGt.drew;replace hW1:=hW1.drew;replace hq3:=hq3.drew;replace hs3:=hs3.drew;replace hRf:=hRf.drew;replace hr6:=hr6.drew;replace hV:=hV.drew;refine dt 0 15 (.pointer (some ⟨g6,0,none⟩)) (λv hv _=>by kernel_rfl) hV<|dt 1 16 (.int .i64 2) (λv hv _=>AA 3 _ ⟨g6,0,none⟩ _ _ rfl (by kernel_rfl) (by rw[Ad _ _ _ _ _ _ (hr6c.go hv),<-hyk];rfl) underlying3 rfl) hV<|dt 2 17 (.bool true) (λv hv _=>by kernel_rfl) hV<|dt 3 18 (.bool true) (λv hv _=>by kernel_rfl) hV<|dt 4 19 (.pointer (some ⟨gW,0,none⟩)) (λv hv _=>by kernel_rfl) hV<|dt 5 20 (.pointer (some ⟨gW,0,none⟩)) (λv hv=>(λ_=>by kernel_rfl)) hV<|dt 6 21 (.pointer (some ⟨gW,0,none⟩)) (λv hv _=>by kernel_rfl) hV<|dt 7 22 (.slice ap np cp) (λv hv _=>AA 23 _ ⟨gW,0,none⟩ _ _ rfl (by kernel_rfl) (by rw[Ad _ _ _ _ _ _ (hW1c.r.go hv)];rfl) underlying23 rfl) hV<|dt 8 23 (.slice (some ⟨gE,oE,none⟩) n c) (λv hv _=>by kernel_rfl) hV<|dt 9 24 (.pointer (some ⟨gE,oE+0*2,none⟩)) (λv hv _=>Bh 55 _ _ gE oE 0 n c 2 95 rfl (by kernel_rfl) (by kernel_rfl) hn0 underlying55 (by kernel_rfl)) hV<|dt 10 25 (.pointer (some ⟨gE,oE+0*2,none⟩)) (λv hv _=>by kernel_rfl) hV<|dt 11 26 (.slice a5 n5 c5) (λv hv _=>AA 23 _ _ _ _ rfl (by kernel_rfl) ((Br hv (Af hc5)).trans hc5) underlying23 rfl) hV ?_;refine dt 13 28 (.int .i64 (dp:Int)) (λv hv _=>by kernel_rfl) hV<|CI [12] (by kernel_rfl) (by simp) ?_;refine Gp 12 27 81 #[.slice ap np cp, .slice a5 n5 c5] rfl (λ_=>by kernel_rfl) (λ_=>by kernel_rfl) (R:=λu w'=>u= .int .i64 (Ni.com kp (pre++r1):Nat)/\Bl (wC.drew) w') (((Ni.common_any _ _ _ _ _ _ kp (pre++r1) _ (hkw.go hV).ag (hs5.go hV).ag (by omega) (by omega)).mono (λe w' h=>⟨_,h.1,rfl,h.2⟩))) (λu w' h=>hV.go h.2) ?_ DR;rintro _ u5⟨rfl,hb5⟩;replace hrR:=hrR.go hb5;replace hGt:=hGt.go hb5;replace hW1:=hW1.go hb5;replace hq3:=hq3.go hs3 hb5;replace hs3:=hs3.go hb5;replace hRf:=hRf.go hb5;replace hr6:=hr6.go hb5;replace hV:=hV.go hb5;refine dt 14 29 (.bool false) (λv hv=>(λ_=>Bu (v:= .bool (decide (((Ni.com kp (pre++r1):Nat):Int)>=(dp:Int)))) (by kernel_rfl) (Au Value.bool (Bb (λh=>hon ((Oo r1 pre kp).1 (by omega))))))) hV<|dt 15 30 (.bool false) (λv hv _=>by kernel_rfl) hV<|Fg (by kernel_rfl)<|Av<|Cb (λ_=>by kernel_rfl)<|CN<|Av<|A5<|Ao<|rv 41 (.agg y.cells.toArray) (λ_=>Eb 65 _ _ _ _ _ _ rfl (by kernel_rfl) hr6 underlying65 rfl (by rw[DF,CJ hyl]))<|Fo gR y.cells.toArray (λ_=>by kernel_rfl) (λ_=>BP 65 _ _ _ _ _ _ rfl (by kernel_rfl) (by kernel_rfl) hrR (by rw[DF,CJ hyl]) (by rw[CJ hyl];rfl) (Fj y)) ?_;intro wE hpE;have hrE:Rw gR wE y.cells.toArray 65:=hpE.row hrR;have hRE:=hRf.put hpE (λb hb=>by have:=hb.2.2;omega);have hWE:=(hW1.put hrR (by decide) (by decide) (λb hb=>hb.2) hpE).mono (λb _ hb=>hb.1);have hGE:=hGt.put hpE (by omega);refine AK<|Av<|D7 ?_;exact BU (.agg y.cells.toArray) (λ_=>GI results82 _ gR y hyl (by kernel_rfl) hrE) ⟨_,rfl,y,vM,rfl,hRE,(by rw[show wy1 kp pre t=[]from by unfold wy1;rw[Ae (λh=>hon h.2)],A4];exact hWE),hGE⟩
end Go.Proofs.YtefhepcplempkaaGreat
