/- The document's Put on a list of byte strings. -/
import Derived.Test.YtalhnnjpjaeakaaGreatAK
import Derived.Test.YtalhnnjpjaeakaaGreatG15
import Derived.Test.YtalhnnjpjaeakaaGreatG01
import Derived.Test.YtalhnnjpjaeakaaGreatG12
import Derived.Test.YtalhnnjpjaeakaaGreatG16
set_option linter.unusedVariables false
set_option maxRecDepth 100000
set_option maxHeartbeats 4000000
open Go.Proofs.Tryz Go.RowKit
namespace Go.Proofs.YtalhnnjpjaeakaaGreat
open Tr
open Ni (lessP)
variable {w : World} {K K' : Nat → Prop} {a ak : Option Addr} {n c : Nat} {M : List (List Int)} {b : List Int}
theorem OG{w w':World}{v u r:Value}{ρ:Operand->Value}{o:Oper}(hr:∀ty,(Builtin.append_ #[41,41] ty #[v,u]).run prog w= .ok r w')(x y:Operand)(ho:o.op= .call {callee:= .builtin .append,args:=#[x,y],argTypes:=#[41,41]})(hx:ρ x=v)(hy:ρ y=u):(execOp ρ o).run prog w= .ok (.value r) w':=by
 unfold execOp;simp only[ho,resolve,invoke,builtin,Bm,Bp,AH,Ck,B9,C6,hx,hy,hr]
theorem Ur{w':World}{g base:Nat}(h:New w w' g #[] 5)(hb:base<=w.heap.size):OwnB w' base (.slice (some ⟨g,0,none⟩) 0 0) []:=⟨rfl, .inr ⟨g,0,#[],rfl,by rw[h.hg];exact hb,h.row,Aa _,by unfold maxLen;omega,rfl,rfl⟩⟩
theorem YD(hl:Bc K w a n c M){nk ck:Nat}(hk:Sk K' w ak nk ck b)(hlen:∀x,x∈M->x.length<=1000000)(hn:n<=7600000000000)(hbl:nk<=1000000)(hit:M[atB b M]?=some b):
 Calls prog 76 #[.slice a n c, .slice ak nk ck] w λe w'=>∃u,e= .returned u/\(λu w'=>(∃a n c,u= .slice a n c/\Bc (λ_=>True) w' a n c (insT M b))/\Bl w w') u w':=by
 have hB:=Bl.refl w;have ll:=hl.bt.len;have lnc:=hl.nc;have hle:=OF b M;have lk:=hk.len;refine Dp func76 53 ?_;refine Hk 11 (λe v=>e=[(5, .int .i64 ((atB b M:Nat):Int)),(0, .slice a n c),(1, .slice ak nk ck)]/\Bl w v) ?_ ?_
 ·intro I1 hJ1
  skip
  refine Ho (X:=Nat) 1 (λj=>[(5, .int .i64 (j:Int)),(0, .slice a n c),(1, .slice ak nk ck)]) (λj v=>Bl w v/\j<=n/\atB b (M.drop j)+j=atB b M) (λj=>n-j) 0 ⟨hB,Ay _,by simp⟩ ?_;clear hB;rintro j v⟨hB,hj1,hA⟩ I2 hN2;by_cases hlt:j<n
  ·skip
   obtain⟨g,off,a1,n1,c1,ea,hc1,hs1⟩:=(hl.bt.go hB).row j (by omega);subst ea;obtain⟨k1,hej⟩:∃k1,M[j]?=some k1:=⟨_,Ac (by omega)⟩;rw[show M.getD (j) []=k1 from by simp[List.getD,hej]]at hs1;have hmem:k1∈M:=AK hej;have hst:=PL (b:=b) hej;refine Ht 6 ((j:Int)<(n:Int))<|Hx 10 (og f76 3 2) (.pointer (some ⟨g,off+j*1,none⟩)) (λ_=>AV 41 _ _ g off j n c 1 27 rfl (by kernel_rfl) (by kernel_rfl) hlt underlying41 (by kernel_rfl))<|Hx 0 (og f76 3 3) (.slice a1 n1 c1) (λ_=>AF 27 _ ⟨g,off+j*1,none⟩ _ _ rfl (by kernel_rfl) hc1 underlying27 rfl)<|Hc 1 (R:=λu w'=>u= .bool (lessP k1 b)/\Bl (v) w') ((JV hs1 (hk.go hB) (by have:=hlen k1 hmem;have:=hs1.len;omega))) ?_;rintro _ u1⟨rfl,hb2⟩;refine Hp 0 (.bool (lessP k1 b))<|Hp 5 (.bool (lessP k1 b))<|Hp 0 (.bool (!(lessP k1 b))) ?_;by_cases hah:lessP k1 b=true
   ·skip
    rw[show lessP k1 b=true from hah];refine Hi 7 ((j:Int)+1) ((j:Int)+1) ?_;replace hB:=hB.go hb2;exact hN2 3 (j+1) ⟨hB,by omega,by rw[Af hah]at hst;omega⟩ (by show n-(j+1)<n-j;omega) (λ_=>by kernel_rfl)
   ·skip
    rw[show lessP k1 b=false from by simpa using hah];have hjn:j=atB b M:=(by rw[Ad hah]at hst;omega);rw[hjn];replace hB:=hB.go hb2;exact hJ1 8 [(5, .int .i64 ((atB b M:Nat):Int)),(0, .slice (some ⟨g,off,none⟩) n c),(1, .slice ak nk ck)] ⟨rfl,hB⟩ (λ_=>by kernel_rfl)
  have hjn:j=atB b M:=by rw[B5 (by omega)]at hA;simp only[atB]at hA;omega
  rw[hjn];refine Hf 6 (((atB b M:Nat):Int)<(n:Int)) ?_;exact hJ1 7 [(5, .int .i64 ((atB b M:Nat):Int)),(0, .slice a n c),(1, .slice ak nk ck)] ⟨rfl,hB⟩ (λ_=>by kernel_rfl)
 rintro e v⟨rfl,hB⟩;have hlt:atB b M<n:=by have:=(Aw.1 hit).1;omega
 obtain⟨g,off,a1,n1,c1,ea,hc1,hs1⟩:=(hl.bt.go hB).row (atB b M) (by omega);subst ea;obtain⟨k1,hej⟩:∃k1,M[atB b M]?=some k1:=⟨_,Ac (by omega)⟩;rw[show M.getD (atB b M) []=k1 from by simp[List.getD,hej]]at hs1;have e1:k1=b:=by rw[hit]at hej;exact(CD hej).symm
 subst e1;have hS:True:=trivial;refine GK 3 (λu=>u=v.drew) (rfl)<|Dx [0,1,2] 3 (og f76 6 3) (.bool true) (λv hv=>(λ_=>CP (v:= .bool (decide (((atB k1 M:Nat):Int)<(n:Int)))) (by kernel_rfl) (Av Value.bool (AT (by omega))))) rfl<|Dx [4,5,6] 7 (og f76 6 7) (.pointer (some ⟨g,off+atB k1 M*1,none⟩)) (λv hv _=>AV 41 _ _ g off (atB k1 M) n c 1 27 rfl (by kernel_rfl) (by kernel_rfl) hlt underlying41 (by kernel_rfl)) rfl<|Dx [] 8 (og f76 6 8) (.slice a1 n1 c1) (λv hv _=>by subst hv;exact AF 27 _ ⟨g,off+atB k1 M*1,none⟩ _ _ rfl (by kernel_rfl) hc1 underlying27 rfl) rfl<|Dx [] 9 (og f76 6 9) (.string (strOfNums k1)) (λv hv _=>by subst hv;exact hs1.drew.run_str _ _ _ rfl (by kernel_rfl)) rfl ?_;replace hB:=hB.drew;refine Dx [10] 11 (og f76 6 11) (.string (strOfNums k1)) (λv hv _=>by subst hv;exact(hk.go hB).run_str _ _ _ rfl (by kernel_rfl)) rfl<|Dx [] 12 (og f76 6 12) (.bool true) (λv hv _=>Gf 9 _ _ _ _ _ rfl (by kernel_rfl) (by kernel_rfl) ((IW hs1.ag.b hk.ag.b).trans (AT rfl))) rfl<|Dq [13] rfl ?_;exact Hr 10 (.slice (some ⟨g,off,none⟩) n c) ⟨_,rfl,⟨_,_,_,rfl,by unfold insT;rw[Af hit];exact(hl.go hB).tt⟩,hB⟩
theorem YE(hl:Bc K w a n c M){nk ck:Nat}(hk:Sk K' w ak nk ck b)(hlen:∀x,x∈M->x.length<=1000000)(hn:n<=7600000000000)(hbl:nk<=1000000)(hit:¬M[atB b M]?=some b):
 Calls prog 76 #[.slice a n c, .slice ak nk ck] w λe w'=>∃u,e= .returned u/\(λu w'=>(∃a n c,u= .slice a n c/\Bc (λ_=>True) w' a n c (insT M b))/\Bl w w') u w':=by
 have hB:=Bl.refl w;have ll:=hl.bt.len;have lnc:=hl.nc;have hle:=OF b M;have lk:=hk.len;refine Dp func76 53 ?_;refine Hk 11 (λe v=>e=[(5, .int .i64 ((atB b M:Nat):Int)),(0, .slice a n c),(1, .slice ak nk ck)]/\Bl w v) ?_ ?_
 ·intro I1 hJ1
  skip
  refine Ho (X:=Nat) 1 (λj=>[(5, .int .i64 (j:Int)),(0, .slice a n c),(1, .slice ak nk ck)]) (λj v=>Bl w v/\j<=n/\atB b (M.drop j)+j=atB b M) (λj=>n-j) 0 ⟨hB,Ay _,by simp⟩ ?_;clear hB;rintro j v⟨hB,hj1,hA⟩ I2 hN2;by_cases hlt:j<n
  ·skip
   obtain⟨g,off,a1,n1,c1,ea,hc1,hs1⟩:=(hl.bt.go hB).row j (by omega);subst ea;obtain⟨k1,hej⟩:∃k1,M[j]?=some k1:=⟨_,Ac (by omega)⟩;rw[show M.getD (j) []=k1 from by simp[List.getD,hej]]at hs1;have hmem:k1∈M:=AK hej;have hst:=PL (b:=b) hej;refine Ht 6 ((j:Int)<(n:Int))<|Hx 10 (og f76 3 2) (.pointer (some ⟨g,off+j*1,none⟩)) (λ_=>AV 41 _ _ g off j n c 1 27 rfl (by kernel_rfl) (by kernel_rfl) hlt underlying41 (by kernel_rfl))<|Hx 0 (og f76 3 3) (.slice a1 n1 c1) (λ_=>AF 27 _ ⟨g,off+j*1,none⟩ _ _ rfl (by kernel_rfl) hc1 underlying27 rfl)<|Hc 1 (R:=λu w'=>u= .bool (lessP k1 b)/\Bl (v) w') ((JV hs1 (hk.go hB) (by have:=hlen k1 hmem;have:=hs1.len;omega))) ?_;rintro _ u1⟨rfl,hb2⟩;refine Hp 0 (.bool (lessP k1 b))<|Hp 5 (.bool (lessP k1 b))<|Hp 0 (.bool (!(lessP k1 b))) ?_;by_cases hah:lessP k1 b=true
   ·skip
    rw[show lessP k1 b=true from hah];refine Hi 7 ((j:Int)+1) ((j:Int)+1) ?_;replace hB:=hB.go hb2;exact hN2 3 (j+1) ⟨hB,by omega,by rw[Af hah]at hst;omega⟩ (by show n-(j+1)<n-j;omega) (λ_=>by kernel_rfl)
   ·skip
    rw[show lessP k1 b=false from by simpa using hah];have hjn:j=atB b M:=(by rw[Ad hah]at hst;omega);rw[hjn];replace hB:=hB.go hb2;exact hJ1 8 [(5, .int .i64 ((atB b M:Nat):Int)),(0, .slice (some ⟨g,off,none⟩) n c),(1, .slice ak nk ck)] ⟨rfl,hB⟩ (λ_=>by kernel_rfl)
  have hjn:j=atB b M:=by rw[B5 (by omega)]at hA;simp only[atB]at hA;omega
  rw[hjn];refine Hf 6 (((atB b M:Nat):Int)<(n:Int)) ?_;exact hJ1 7 [(5, .int .i64 ((atB b M:Nat):Int)),(0, .slice a n c),(1, .slice ak nk ck)] ⟨rfl,hB⟩ (λ_=>by kernel_rfl)
 rintro e v⟨rfl,hB⟩;have hS:True:=trivial;refine Hk 3 (λe u=>e=[(35, .bool false),(5, .int .i64 ((atB b M:Nat):Int)),(0, .slice a n c),(1, .slice ak nk ck)]/\Bl w u) ?_ ?_
 ·intro I3 hJ3
  skip
  by_cases hlt:atB b M<n
  ·skip
   obtain⟨g,off,a1,n1,c1,ea,hc1,hs1⟩:=(hl.bt.go hB).row (atB b M) (by omega);subst ea;obtain⟨k1,hej⟩:∃k1,M[atB b M]?=some k1:=⟨_,Ac (by omega)⟩;rw[show M.getD (atB b M) []=k1 from by simp[List.getD,hej]]at hs1;have hne:¬k1=b:=λe=>hit (by rw[hej,e]);refine GK 0 (λu=>u=v.drew) (rfl)<|Dx [0,1,2] 3 (og f76 6 3) (.bool true) (λv hv=>(λ_=>CP (v:= .bool (decide (((atB b M:Nat):Int)<(n:Int)))) (by kernel_rfl) (Av Value.bool (AT (by omega))))) rfl<|Dx [4,5,6] 7 (og f76 6 7) (.pointer (some ⟨g,off+atB b M*1,none⟩)) (λv hv _=>AV 41 _ _ g off (atB b M) n c 1 27 rfl (by kernel_rfl) (by kernel_rfl) hlt underlying41 (by kernel_rfl)) rfl<|Dx [] 8 (og f76 6 8) (.slice a1 n1 c1) (λv hv _=>by subst hv;exact AF 27 _ ⟨g,off+atB b M*1,none⟩ _ _ rfl (by kernel_rfl) hc1 underlying27 rfl) rfl<|Dx [] 9 (og f76 6 9) (.string (strOfNums k1)) (λv hv _=>by subst hv;exact hs1.drew.run_str _ _ _ rfl (by kernel_rfl)) rfl ?_;replace hB:=hB.drew;refine Dx [10] 11 (og f76 6 11) (.string (strOfNums b)) (λv hv _=>by subst hv;exact(hk.go hB).run_str _ _ _ rfl (by kernel_rfl)) rfl<|Dx [] 12 (og f76 6 12) (.bool false) (λv hv _=>Gf 9 _ _ _ _ _ rfl (by kernel_rfl) (by kernel_rfl) ((IW hs1.ag.b hk.ag.b).trans (AU hne))) rfl<|Dq [13] rfl ?_;exact hJ3 0 [(35, .bool false),(5, .int .i64 ((atB b M:Nat):Int)),(0, .slice (some ⟨g,off,none⟩) n c),(1, .slice ak nk ck)] ⟨rfl,hB⟩ (λ_=>by kernel_rfl)
  ·skip
   refine GK 0 (λu=>u=v.drew) (rfl)<|Dx [0,1,2] 3 (og f76 6 3) (.bool false) (λv hv=>(λ_=>CP (v:= .bool (decide (((atB b M:Nat):Int)<(n:Int)))) (by kernel_rfl) (Av Value.bool (AU (by omega))))) rfl<|Dq [4,5,6,7,8,9,10,11,12,13] rfl ?_;replace hB:=hB.drew;exact hJ3 0 [(35, .bool false),(5, .int .i64 ((atB b M:Nat):Int)),(0, .slice a n c),(1, .slice ak nk ck)] ⟨rfl,hB⟩ (λ_=>by kernel_rfl)
 rintro e u⟨rfl,hB⟩;have hl0:Bc (λg=>g<w.heap.size) w a n c M:=⟨hl.bt.old,hl.nc,hl.nil⟩;refine Ko 6 #[] 27 0 ?_;intro w0 g0 hn0 _;have hO:OwnS w0 w.heap.size (.slice (some ⟨g0,0,none⟩) 0 0) []:=OwnS.new hn0 hB.size;replace hB:=hB.go hn0.below;obtain⟨a1,n1,c1,en1,hc1,hP1⟩:=(hl0.go hB).cutTo (atB b M) (by omega);refine Hx 2 (og f76 8 3) (.slice a1 n1 c1) (λ_=>hc1 _ _ _ _ _ rfl (by kernel_rfl) (by kernel_rfl)) ?_;obtain⟨VA,wA,hrA,hOA,hbA⟩:=Xaa hO hP1 (λg hg e=>by have:=(hO.own g e).1;omega) (by simp;omega) hB.size;refine Hx 0 (og f76 8 4) VA (λ_=>OG hrA _ _ rfl (by kernel_rfl) (by kernel_rfl)) ?_;replace hB:Bl w wA:=BY hB hbA;replace hO:=hOA;rw[A6]at hO;have hoA:=hO.own;have hwA:=hB.size;refine Ko 6 #[] 5 0 ?_;intro wk gk hnk _;have hqk:=Ur hnk (Aa _);obtain⟨Vk,wkb,hrk,hok,hbk⟩:=Ew hqk (hk.go (hB.go hnk.below)).ag (by simp;omega) (by have:=hnk.below.size;omega);rw[A6]at hok;refine Hx 1 (og f76 9 3) Vk (λ_=>Cu hrk _ _ rfl (by kernel_rfl) (by kernel_rfl)) ?_;have hfk:Below wA.heap.size wA wkb:=hnk.below.trans hbk;obtain⟨bk,dk,rfl,hsk⟩:=hok.sk (K:=λg=>wA.heap.size<=g) hk.ag.b (λg hg=>hg);refine Ko 0 #[.slice bk b.length dk] 27 1 ?_;intro wL gL hnL _;have hP2:=Bc.one hnL hsk;replace hB:=(hB.go hfk).go hnL.below;replace hO:=(hO.far hfk).far hnL.below;obtain⟨VC,wC,hrC,hOC,hbC⟩:=Xaa hO hP2 (λg hg e=>by have:=(hoA g e).2;omega) (by simp;omega) hB.size;refine Hx 0 (og f76 9 5) VC (λ_=>OG hrC _ _ rfl (by kernel_rfl) (by kernel_rfl)) ?_;replace hB:Bl w wC:=BY hB hbC;replace hO:=hOC;obtain⟨a3,n3,c3,en3,hc3,hP3⟩:=(hl0.go hB).cutFrom (atB b M) (by omega);refine Hx 8 (og f76 10 3) (.slice a3 n3 c3) (λ_=>hc3 _ _ _ _ _ rfl (by kernel_rfl) (by kernel_rfl)) ?_;obtain⟨VE,wE,hrE,hOE,hbE⟩:=Xaa hO hP3 (λg hg e=>by have:=(hO.own g e).1;omega) (by simp;omega) hB.size;refine Hx 0 (og f76 10 4) VE (λ_=>OG hrE _ _ rfl (by kernel_rfl) (by kernel_rfl)) ?_;replace hB:Bl w wE:=BY hB hbE;replace hO:=hOE;rw[show M.take (atB b M)++[b]++M.drop (atB b M)=insT M b from by unfold insT;rw[Ad hit]]at hO;obtain⟨aF,cF,eF,hF⟩:=hO.bc;subst eF;exact Hr 4 (.slice aF (insT M b).length cF) ⟨_,rfl,⟨_,_,_,rfl,hF⟩,hB⟩
theorem SQ(hl:Bc K w a n c M){nk ck:Nat}(hk:Sk K' w ak nk ck b)(hlen:∀x,x∈M->x.length<=1000000)(hn:n<=7600000000000)(hbl:nk<=1000000):
 Calls prog 76 #[.slice a n c, .slice ak nk ck] w λe w'=>∃u,e= .returned u/\(λu w'=>(∃a n c,u= .slice a n c/\Bc (λ_=>True) w' a n c (insT M b))/\Bl w w') u w':=by
 by_cases hit:M[atB b M]?=some b
 ·exact YD hl hk hlen hn hbl hit
 ·exact YE hl hk hlen hn hbl hit
end Go.Proofs.YtalhnnjpjaeakaaGreat
namespace Go.Proofs.YtalhnnjpjaeakaaGreat
open Tr
variable {k : Nat → Tr} {x p : List Int} {B i : Nat} {c : Tr}
def onesP(l:PList):PList:=l.map λe=>(Ni.nib e.1,e.2)
def alikeP:PList->Nat
 |[]=>0
 |e::r=>r.foldl (λn f=>min n (Ni.com e.1 f.1)) e.1.length
def under1(i:Int)(e:List Int×List Int):PList:=match e.1 with
 |[]=>[]
 |c::p=>if c=i then[(p,e.2)]else[]
def underP(i:Int)(l:PList):PList:=l.flatMap (under1 i)
def withoutP(n:Nat)(l:PList):PList:=l.map λe=>(e.1.drop n,e.2)
def valP(v:List Int)(l:PList):List Int:=l.foldl (λv e=>if e.1=[]then e.2 else v) v
theorem Rel.ones{t:Tr}{l:PList}(h:Rel t l):onesP l=entsR t:=by
 have he:=h.ents;rcases h.ok with rfl|hO
 ·rw[show entsF [] no=[]from rfl]at he;subst he;rfl
 ·rw[<-he,P7];unfold onesP;rw[List.map_map];have:(entsR t).map ((λe:List Int×List Int=>(Ni.nib e.1,e.2))∘λe=>((Ni.keyP ([]++e.1)).1,e.2))=(entsR t).map id:=by
   refine List.map_congr_left ?_;rintro⟨p,x⟩ hm;obtain⟨h1,h2,h3⟩:=(J1 t hO p x).1 hm;obtain⟨k,k1,k2,k3⟩:=h.e p h1 (by rw[h2];exact h3);show(Ni.nib (Ni.keyP ([]++p)).1,x)=(p,x);rw[A6,k3,Ni.key_nib k1]
  rw[this,List.map_id]
theorem It:∀(t:Tr){B:Nat},Tr.Ok B t->entsR t≠[]:=by
 intro t
 induction t with
 |no=>intro B h;exact h.elim
 |leaf p x=>intro B h;simp[entsR]
 |ext p c ih=>intro B h;simp only[entsR,ne_eq,List.map_eq_nil_iff];exact ih h.2.2.2.2
 |br k x ih=>
  intro B h;obtain⟨h1,h2⟩:=h;have key:∀i,k i≠no->entsR (br k x)≠[]:=by
   intro i hi;rcases h1 i with e|⟨e1,e2,e3⟩
   ·exact absurd e hi
   ·have:=ih i e3;intro he;obtain⟨y,hy⟩:=List.exists_mem_of_ne_nil _ this;have hm:((i:Int)::y.1,y.2)∈entsR (br k x):=by
     simp only[entsR,AM,Cd,DT,BE];exact .inr ⟨i,e1,y,hy,rfl⟩
    rw[he]at hm;cases hm
  rcases h2 with⟨i,j,_,hi,_⟩|⟨_,i,hi⟩
  ·exact key i hi
  ·exact key i hi
theorem Lf(h:Tr.Ok B (br k x))(hi:k i≠no):∃p v,((i:Int)::p,v)∈entsR (br k x):=by
 rcases h.1 i with e|⟨e1,e2,e3⟩
 ·exact absurd e hi
 ·obtain⟨y,hy⟩:=List.exists_mem_of_ne_nil _ (It _ e3);refine⟨y.1,y.2,?_⟩;simp only[entsR,AM,Cd,DT,BE];exact .inr ⟨i,e1,y,hy,rfl⟩
theorem He{α:Type}(f:α->Nat):∀(r:List α)(n:Nat),r.foldl (λn e=>min n (f e)) n<=n
 |[],n=>Aa _
 |a::r,n=>Al (He f r _) (Nat.min_le_left _ _)
theorem J9{α:Type}(f:α->Nat):∀(r:List α)(n:Nat)(a:α),a∈r->r.foldl (λn e=>min n (f e)) n<=f a
 |b::r,n,a,h=>by
  rcases Az.1 h with rfl|h
  ·exact Al (He f r _) (Nat.min_le_right _ _)
  ·exact J9 f r _ a h
theorem Us(l:PList)(h:0<alikeP l):∃c:Int,∀e∈l,∃p,e.1=c::p:=by
 cases l with
 |nil=>simp[alikeP]at h
 |cons e r=>
  have h0:0<e.1.length:=Bw h (He _ r _);obtain⟨c,p,hc⟩:∃c p,e.1=c::p:=by
   cases he:e.1 with
   |nil=>rw[he]at h0;simp at h0
   |cons c p=>exact⟨c,p,rfl⟩
  refine⟨c,λf hf=>?_⟩;rcases Az.1 hf with rfl|hf
  ·exact⟨p,hc⟩
  ·have h1:0<Ni.com e.1 f.1:=Bw h (J9 (λf:List Int×List Int=>Ni.com e.1 f.1) r _ f hf);cases hq:f.1 with
   |nil=>rw[hc,hq]at h1;simp[Ni.com]at h1
   |cons d q=>
    rw[hc,hq]at h1;simp only[Ni.com]at h1;by_cases hcd:c=d
    ·subst hcd;exact⟨q,rfl⟩
    ·rw[Ad hcd]at h1;omega
theorem Mj(h:Tr.Ok B (br k x)):alikeP (entsR (br k x))=0:=by
 refine Nat.eq_zero_of_not_pos λh0=>?_;obtain⟨c,hc⟩:=Us _ h0;have kk:∀i,k i≠no->c=(i:Int):=by
  intro i hi;obtain⟨p,v,hm⟩:=Lf h hi;obtain⟨q,hq⟩:=hc _ hm;injection hq with e _;exact e.symm
 rcases h.2 with⟨i,j,hij,hi,hj⟩|⟨hx,i,hi⟩
 ·have:=kk i hi;have:=kk j hj;omega
 ·obtain⟨p,hp⟩:=hc ([],x) (by simp only[entsR];rw[Ad hx];simp);cases hp
theorem SR{α:Type}{l:List α}{a b:α}(ha:a∈l)(hb:b∈l)(h:a≠b):2<=l.length:=by
 match l with
 |[]=>cases ha
 |[c]=>
  have h1:a=c:=by simpa using ha
  have h2:b=c:=by simpa using hb
  exact absurd (h1.trans h2.symm) h
 |_::_::_=>simp
theorem QW(h:Tr.Ok B (br k x)):2<=(entsR (br k x)).length:=by
 rcases h.2 with⟨i,j,hij,hi,hj⟩|⟨hx,i,hi⟩
 ·obtain⟨p,v,hm⟩:=Lf h hi;obtain⟨q,u,hn⟩:=Lf h hj;exact SR hm hn (by intro e;injection e with e _;injection e with e _;omega)
 ·obtain⟨p,v,hm⟩:=Lf h hi;have hn:(([],x):List Int×List Int)∈entsR (br k x):=by simp only[entsR];rw[Ad hx];simp
  exact SR hm hn (by intro e;injection e with e _;cases e)
theorem YF(p a b:List Int):Ni.com (p++a) (p++b)=p.length+Ni.com a b:=by
 induction p with
 |nil=>simp
 |cons c p ih=>simp only[Cb,Ni.com,Af,ih,AS];omega
theorem JA{α:Type}(f:α->Nat)(d:Nat):∀(r:List α)(n:Nat),r.foldl (λn e=>min n (d+f e)) (d+n)=d+r.foldl (λn e=>min n (f e)) n
 |[],n=>rfl
 |a::r,n=>by
  simp only[List.foldl_cons];rw[show min (d+n) (d+f a)=d+min n (f a)from by omega];exact JA f d r _
theorem Ut(p:List Int)(l:PList)(h:l≠[]):alikeP (l.map λe=>(p++e.1,e.2))=p.length+alikeP l:=by
 cases l with
 |nil=>exact absurd rfl h
 |cons e r=>
  simp only[B9,alikeP,List.foldl_map,Ab,YF];exact JA (λf:List Int×List Int=>Ni.com e.1 f.1) p.length r e.1.length
theorem N8(h:Tr.Ok B (ext p c)):alikeP (entsR (ext p c))=p.length:=by
 obtain⟨h1,h2,h3,h4,h5⟩:=h;cases c with
 |br k x=>
  show alikeP ((entsR (br k x)).map λe=>(p++e.1,e.2))=_;rw[Ut p _ (It _ h5),Mj h5];omega
 |_=>cases h4
theorem SS(h:Tr.Ok B (ext p c)):2<=(entsR (ext p c)).length:=by
 obtain⟨h1,h2,h3,h4,h5⟩:=h;cases c with
 |br k x=>
  show 2<=((entsR (br k x)).map λe=>(p++e.1,e.2)).length;rw[AY];exact QW h5
 |_=>cases h4
theorem KA(p:List Int)(c:Tr):withoutP p.length (entsR (ext p c))=entsR c:=by
 show((entsR c).map λe=>(p++e.1,e.2)).map (λe=>(e.1.drop p.length,e.2))=_;rw[List.map_map];have:(entsR c).map ((λe:List Int×List Int=>(e.1.drop p.length,e.2))∘λe=>(p++e.1,e.2))=(entsR c).map id:=by
  refine List.map_congr_left ?_;rintro⟨q,x⟩ _;show((p++q).drop p.length,x)=(q,x);rw[Cm]
 rw[this,List.map_id]
theorem PO{α:Type}(X:List α)(i:Nat):∀n:Nat,(List.range n).flatMap (λj=>if j=i then X else[])=if i<n then X else[]
 |0=>by simp
 |n+1=>by
  rw[CF,BX,PO X i n,List.flatMap_singleton];by_cases h1:i<n
  ·rw[Af h1,Ad (by omega),Af (by omega),A3]
  ·rw[Ad h1,A6];by_cases h2:n=i
   ·rw[Af h2,Af (by omega)]
   ·rw[Ad h2,Ad (by omega)]
theorem Uu(i j:Nat)(l:PList):(l.map λe=>((j:Int)::e.1,e.2)).flatMap (under1 (i:Int))=if j=i then l else[]:=by
 induction l with
 |nil=>simp
 |cons e r ih=>
  rw[B9,Cn,ih];simp only[under1];by_cases h:j=i
  ·subst h;simp
  ·rw[Ad (show¬(j:Int)=(i:Int)from by omega),Ad h,Ad h];rfl
theorem G0(k:Nat->Tr)(x:List Int)(hi:i<16):underP (i:Int) (entsR (br k x))=entsR (k i):=by
 unfold underP;simp only[entsR];rw[BX,List.flatMap_assoc]
 rw[FT (λj=>((entsR (k j)).map λe=>((j:Int)::e.1,e.2)).flatMap (under1 (i:Int))) (λj=>if j=i then entsR (k i)else[]) (List.range 16) (λj _=>by
  show _=_;rw[Uu];by_cases h:j=i
  ·subst h;rfl
  ·rw[Ad h,Ad h]),PO,Af hi]
 by_cases hx:x=[]
 ·rw[Af hx];rfl
 ·rw[Ad hx];rfl
theorem Mk:∀(l:PList)(v:List Int),(∀e∈l,e.1≠[])->valP v l=v
 |[],v,_=>rfl
 |e::r,v,h=>by
  unfold valP;rw[List.foldl_cons,Ad (h e (by simp))];exact Mk r v (λf hf=>h f (A9 _ hf))
theorem Xab(k:Nat->Tr)(x:List Int):valP [] (entsR (br k x))=x:=by
 have h2:∀e∈(List.range 16).flatMap λi=>(entsR (k i)).map λe=>((i:Int)::e.1,e.2),e.1≠[]:=by
  intro e he;obtain⟨i,_,h⟩:=Cd.1 he;obtain⟨f,_,rfl⟩:=BE.1 h;simp
 simp only[entsR];by_cases hx:x=[]
 ·rw[Af hx,A6,Mk _ _ h2,hx]
 ·rw[Ad hx];show valP [] (([],x)::_)=x;unfold valP;rw[List.foldl_cons,Af rfl];exact Mk _ _ h2
end Go.Proofs.YtalhnnjpjaeakaaGreat
namespace Go.Proofs.YtalhnnjpjaeakaaGreat.Ni
theorem Uv(b:List Int)(j:Nat)(hj:j<b.length):nib (b.take (j+1))=(nib (b.take j)++[b.getD j 0/16])++[b.getD j 0%16]:=by
 rw[OV hj,AE];rfl
theorem rof_any(a:Option Addr)(n c:Nat)(b:List Int)(w:World)(h:Ag w a n c b)(hn:2*n<=140737488355328):
 Calls prog 75 #[.slice a n c] w λe w'=>(∃a' c',e= .returned (.slice a' (2*n) c')/\2*n<=c'/\c'<=maxLen/\Ag w' a' (2*n) c' (nib b)/\(0<2*n->∀g off,a'=some ⟨g,off,none⟩->w.heap.size<=g))/\Below w.heap.size w w':=by
 have HL:=Xba h.l;have HC:=Xba (λh0=>ag_head h h0);have HB:=Xba h.b;clear h;go_enter func75,ntmps75;go_wp2_with fail
 go_loopw [3,4] (λv i w'=>∃j:Nat,j<=n/\i= .int .i64 j/\OwnB w' w.heap.size v (nib (b.take j))/\Below w.heap.size w w') (λ_ i _=>n-(intOf i).toNat)
 case atStart=>exact⟨0,by omega,rfl,ownB_nil _ _,Ak _ _⟩
 case round=>
  obtain⟨j,hj,rfl,hown,hb⟩:=hrel;have HO:=Xba hown;have HBW:=Xba hb;clear hown hb;by_cases hlt:j<n
  ·obtain⟨g,off,rfl,hnc,hcm,hcs⟩:=HC.out (by omega);unfold maxLen at hcm;have hcell0:=hcs j hlt;have hcell:=(HBW.out.cell (p:=⟨g,off+j,none⟩) (Aj hcell0)).trans hcell0;have hjb:j<b.length:=(by have:=HL.out;omega);have hx:=HB.out _ (getD_mem hjb);have HN:=Xba (Uv b j hjb);have HNL:Hid ((nib (b.take j)).length=2*j):=Xba (by rw[nib_len,Ao];omega);generalize b.getD j 0=x at hcell hcell0 hx HN;obtain⟨hx0,hx1⟩:=hx;have hji:(j:Int)<n:=(by omega);have HO2:Hid (∀o:Obj,OwnB (wr.alloc o) w.heap.size u3 (nib (b.take j))):=Xba λo=>OwnB.alloc HO.out o;have HSZ:=Xba HBW.out.size;have HC0:=Xba hcell0;clear HO hcs hjb hcell0
   go_wp2_with (first
    |(at_builtin;refine DB rfl (.tmp 11) (.tmp 17) rfl w.heap.size _ (nib (b.take j)) rfl (HO2.out _) (some ⟨wr.heap.size,0,none⟩) 1 1 [x/16] rfl (in0_one wr _) (λh=>by cases h) rfl (by rw[HNL.out];omega) (by have:=HSZ.out;simp;omega) ?_;intro v1 w1 o1 hb1;have HO1:=Xba o1;have HB1:=Xba ((HBW.out.alloc HSZ.out _).trans hb1);clear o1 hb1;have hcell1:=(HB1.out.cell (p:=⟨g,off+j,none⟩) (Aj HC0.out)).trans HC0.out)
    |(at_builtin;refine DB rfl (.tmp 19) (.tmp 25) rfl w.heap.size _ (nib (b.take j)++[x/16]) rfl (OwnB.alloc HO1.out _) (some ⟨w1.heap.size,0,none⟩) 1 1 [x%16] rfl (in0_one w1 _) (λh=>by cases h) rfl (by rw[Ab,HNL.out];simp;omega) (by have:=HB1.out.size;simp;omega) ?_;intro v2 w2 o2 hb2;rw[<-HN.out]at o2;have HO3:=Xba o2;have HB2:=Xba ((HB1.out.alloc HB1.out.size _).trans hb2);clear o2 hb2))
   exact⟨⟨j+1,by omega,by simp,HO3.out,HB2.out⟩,by simp[intOf];omega⟩
  ·have hji:¬(j:Int)<n:=(by omega);have hbt:b.take j=b:=A5 (by have:=HL.out;omega);rw[hbt]at HO;obtain⟨a',c',rfl,h1,h2,h3,h4⟩:=HO.out.cutable (RQ HB.out);have hln:(nib b).length=2*n:=(by rw[nib_len,HL.out]);rw[hln]at h1 h3 h4⊢;have H4:=Xba (show 0<2*n->∀g off,a'=some ⟨g,off,none⟩->w.heap.size<=g from λh0 g off e=>by obtain⟨g',off',cur,e',hg,_⟩:=h4 h0;rw[e]at e';cases e';exact hg);have H1:=Xba h1;have H2:=Xba h2;have H3:=Xba h3;clear hbt h1 h2 h3 h4 hln;go_wp2_with fail;go_ret;exact⟨⟨a',c',rfl,H1.out,H2.out,H3.out,by first|exact H4.out|(intro h0;exact H4.out (by omega))⟩,HBW.out⟩
end Go.Proofs.YtalhnnjpjaeakaaGreat.Ni
namespace Go.Proofs.YtalhnnjpjaeakaaGreat
open Tr
variable {X K : Nat → Prop} {w w' : World} {base c n : Nat} {a : Option Addr} {k : List Int}
def OwnN(X:Nat->Prop)(w:World)(base:Nat)(v:Value)(l:PList):Prop:=(∀b,base<=b->X b)/\∃vs:List (Value×Value),vs.length=l.length/\w.ownsRow base 133 2 v l.length (flatP vs)/\∀(j:Nat)(p:Value×Value)(e:List Int×List Int),vs[j]?=some p->l[j]?=some e->Gp2 (λb=>v.ownBlock≠some b/\X b) w p e
theorem OwnN.pat{v:Value}{l:PList}(h:OwnN X w base v l):∃a c vs,v= .slice a l.length c/\PAt X w a l.length c vs l:=by
 obtain⟨hX,vs,h1,⟨h2,h3⟩,h4⟩:=h;rcases h3 with⟨rfl,h5⟩|⟨g,cap,cur,rfl,hbg,hg,hc1,hc2,hc3,hc4⟩
 ·refine⟨none,0,vs,by rw[h5],h1,rfl,by omega,λ_=>⟨h5,rfl⟩,λj u hj=>?_,λj p e q1 q2=>(h4 j p e q1 q2).mono (λ_ h=>h.2),λx hx=>by cases hx⟩;have:vs=[]:=Ar (by omega);subst this;simp[flatP]at hj
 ·refine⟨some ⟨g,0,none⟩,cap,vs,rfl,h1,rfl,hc1,(λe=>by cases e),λj u hj=>⟨g,0,rfl,?_⟩,λj p e q1 q2=>(h4 j p e q1 q2).mono (λ_ h=>h.2),λx hx _=>by cases hx;exact hX _ hbg⟩;rw[Ae _ _ _ _ _ _ hg,AD];have hlt:j<(flatP vs).length:=(Aw.1 hj).1;rw[DP,h1]at hlt;rw[<-hc4,AP (by omega)]at hj;rw[<-BS];exact hj
theorem Xac:∃i,prog.info? 133=some i/\i.zero=some (.agg #[.slice none 0 0, .slice none 0 0])/\i.size=2/\i.bytes=48:=by
 have h:(prog.info? 133).map (λi=>(i.zero,i.size,i.bytes))=some (some (.agg #[.slice none 0 0, .slice none 0 0]),2,48):=by kernel_rfl
 cases hq:prog.info? 133 with
 |none=>rw[hq]at h;simp at h
 |some i=>rw[hq]at h;simp at h;exact⟨i,rfl,h.1,h.2.1,h.2.2⟩
theorem OwnN.far{v:Value}{l:PList}(h:OwnN X w base v l)(hb:Below w.heap.size w w'):OwnN X w' base v l:=by
 obtain⟨hX,vs,h1,⟨h2,h3⟩,h4⟩:=h;refine⟨hX,vs,h1,⟨h2,?_⟩,λj p e q1 q2=>(h4 j p e q1 q2).go hb⟩;rcases h3 with q|⟨g,cap,cur,e1,e2,e3,e4⟩
 ·exact .inl q
 ·exact .inr ⟨g,cap,cur,e1,e2,(hb.block g (lt_of_get e3)).trans e3,e4⟩
theorem OwnN.own{v:Value}{l:PList}(h:OwnN X w base v l):∀k,v.ownBlock=some k->base<=k/\k<w.heap.size:=by
 obtain⟨hX,vs,h1,⟨h2,h3⟩,h4⟩:=h;intro k hk;rcases h3 with⟨rfl,_⟩|⟨g,cap,cur,rfl,hbg,hg,_⟩
 ·cases hk
 ·have e:g=k:=by simpa[Value.ownBlock]using hk
  subst e;exact⟨hbg,lt_of_get hg⟩
theorem Xad{v:Value}{l:PList}(hown:OwnN X w base v l){m:Nat}{vs':List (Value×Value)}{l':PList}(h:PAt K w a m c vs' l')(hK:∀b,K b->v.ownBlock≠some b/\X b)(hlen:l.length+m<=2900000000000)(hbase:base<=w.heap.size):
 ∃v' w',(∀ty,(Builtin.append_ #[103,103] ty #[v, .slice a m c]).run prog w= .ok v' w')/\OwnN X w' base v' (l++l')/\Below base w w':=by
 obtain⟨i,hi,hz,hsz,hby⟩:=Xac;have hOw:=hown.own;obtain⟨hX,vs,h1,h2,h4⟩:=id hown;cases a with
 |none=>
  obtain⟨rfl,rfl⟩:=h.nil rfl;have hn0:l'=[]:=Ar h.ll;subst hn0;exact⟨v,w,λty=>Eg w base 103 ty 133 i 2 underlying103 hi v _ _ h2,by rw[A3];exact hown,Ak _ _⟩
 |some ad=>
  have hc:∀j u,(flatP vs')[j]?=some u->w.cell? (ad.add j)=some u:=by
   intro j u hj;obtain⟨g,off,e1,e2⟩:=h.row j u hj;cases e1;rw[BM];exact e2
  have hone:∀u∈flatP vs',u.oneCell'=true:=by
   intro u hu;obtain⟨p,hp,hup⟩:=Cd.1 hu;obtain⟨j,hj,e⟩:=DJ.1 hp;have hjl:j<l'.length:=(by rw[h.ll,<-h.vl];exact hj);obtain⟨a1,n1,c1,a2,n2,c2,q1,q2,_,_⟩:=h.gd j p l'[j] (by rw[Ac hj,e]) (Ac hjl);simp at hup;rcases hup with q|q
   ·rw[q,q1];rfl
   ·rw[q,q2];rfl
  obtain⟨v',w',r1,r2,r3,_,r5⟩:=run_append_own_at w base 103 0 133 i _ 2 48 underlying103 hi hz hsz hby rfl (by decide) v l.length (flatP vs) h2 ad m c (flatP vs') (by rw[DP,h.vl]) hc hone (by unfold maxLen;omega) (by omega) hbase;have hkeep:∀{K':Nat->Prop}{p:Value×Value}{e:List Int×List Int},(∀b,K' b->v.ownBlock≠some b/\X b)->Gp2 K' w p e->Gp2 (λb=>v'.ownBlock≠some b/\X b) w' p e:=by
   intro K' p e hK' hg;obtain⟨a1,n1,c1,a2,n2,c2,q1,q2,q3,q4⟩:=hg;have hsk:∀{a:Option Addr}{n c:Nat}{bs:List Int},Sk K' w a n c bs->Sk (λb=>v'.ownBlock≠some b/\X b) w' a n c bs:=by
    intro a n c bs hs;refine⟨⟨?_,hs.ag.nil,hs.ag.l,hs.ag.b⟩,λx hx hn=>?_⟩
    ·rcases hs.ag.i with q|⟨gb,off,q1,q2,q3,q4,q5,q7⟩
     ·exact .inl q
     ·refine .inr ⟨gb,off,q1,q2,q3,q4,q5,λj hj=>?_⟩;rw[<-q7 j hj];exact Aq (r3.block gb (Aj (q7 j hj)) (λe=>(hK' _ (hs.k _ q1 q3)).1 e.symm))
    ·refine⟨?_,(hK' _ (hs.k x hx hn)).2⟩;rcases r5 with q|q
     ·rw[q];exact(hK' _ (hs.k x hx hn)).1
     ·rw[q];intro e;have:=hs.old hx hn;simp at e;omega
   exact⟨a1,n1,c1,a2,n2,c2,q1,q2,hsk q3,hsk q4⟩
  refine⟨v',w',λty=>r1,⟨hX,vs++vs',by simp[h1,h.vl,h.ll],?_,?_⟩,?_⟩
  ·rw[Ab,h.ll,JT];exact r2
  ·intro j p e q1 q2;by_cases hj:j<vs.length
   ·rw[AW hj]at q1;rw[AW (by omega)]at q2;exact hkeep (λb hb=>hb) (h4 j p e q1 q2)
   ·rw[AZ (by omega)]at q1;rw[AZ (by omega),<-h1]at q2;exact hkeep hK (h.gd _ p e q1 q2)
  ·exact(Ak _ _).grown r3 hbase (λk hk=>(hOw k hk).1)
theorem PAt.oneN{g:Nat}{a':Option Addr}{n' c':Nat}{x:List Int}(h:New w w' g #[.slice a n c, .slice a' n' c'] 133)(h1:Sk K w a n c k)(h2:Sk K w a' n' c' x)(hKg:K g):PAt K w' (some ⟨g,0,none⟩) 1 1 [(.slice a n c, .slice a' n' c')] [(k,x)]:=by
 refine⟨rfl,rfl,Aa _,(λe=>by cases e),λj u hj=>⟨g,0,rfl,?_⟩,(λj p e q1 q2=>?_),λx hx _=>by cases hx;exact hKg⟩
 ·rw[Ae _ _ _ _ _ _ h.row,AD]
  match j,hj with
  |0,hj=>exact hj
  |1,hj=>exact hj
  |j+2,hj=>simp[flatP]at hj
 ·match j,q1,q2 with
  |0,q1,q2=>
   simp at q1 q2;subst q1 q2;exact⟨a,n,c,a',n',c',rfl,rfl,h1.go h.below,h2.go h.below⟩
  |j+1,q1,_=>simp at q1
theorem OwnN.nil(hX:∀b,w.heap.size<=b->X b):OwnN X w w.heap.size (.slice none 0 0) []:=⟨hX,[],rfl,⟨rfl, .inl ⟨rfl,rfl⟩⟩,λj p e h=>by simp at h⟩
theorem Ml{w w':World}{v u r:Value}{ρ:Operand->Value}{o:Oper}(hr:∀ty,(Builtin.append_ #[103,103] ty #[v,u]).run prog w= .ok r w')(x y:Operand)(ho:o.op= .call {callee:= .builtin .append,args:=#[x,y],argTypes:=#[103,103]})(hx:ρ x=v)(hy:ρ y=u):(execOp ρ o).run prog w= .ok (.value r) w':=by
 unfold execOp;simp only[ho,resolve,invoke,builtin,Bm,Bp,AH,Ck,B9,C6,hx,hy,hr]
theorem YG(h:Sk K w a n c k)(hn:n<=1000000):
 Calls prog 75 #[.slice a n c] w λe w'=>∃u,e= .returned u/\(∃a' m' c',u= .slice a' m' c'/\Sk (λb=>w.heap.size<=b) w' a' m' c' (Ni.nib k))/\Bl w w':=
 (Ni.rof_any a n c k w h.ag (by omega)).mono (λe w'⟨⟨a',c',e1,h1,h2,h3,h4⟩,hb⟩=>⟨_,e1,⟨a',_,c',rfl,⟨h3,λx hx hn=>by
   rcases h3.i with⟨q,_⟩|⟨g,off,q,_⟩
   ·omega
   ·rw[q]at hx;cases hx;exact h4 (by omega) g off q⟩⟩,hb⟩)
end Go.Proofs.YtalhnnjpjaeakaaGreat
namespace Go.Proofs.YtalhnnjpjaeakaaGreat
open Tr
variable {K : Nat → Prop} {w : World} {a : Option Addr} {n c : Nat} {vs : List (Value × Value)}
theorem I9{α β:Type}(f:α->β)(l:List α)(j:Nat)(e:α)(h:l[j]?=some e):(l.take (j+1)).map f=(l.take j).map f++[f e]:=by
 rw[BQ,h,BA];rfl
theorem PP{l:PList}(hl:PAt K w a n c vs l)(hb:n<=2600000000000)(hlen:∀(j:Nat) k x,l[j]?=some (k,x)->k.length<=1000000):
 Calls prog 51 #[.slice a n c] w λe w'=>∃u,e= .returned u/\(λu w'=>(∃a' m' c' vs',u= .slice a' m' c'/\PAt (λb=>K b∨w.heap.size<=b) w' a' m' c' vs' (onesP l))/\Bl w w') u w':=by
 have hB:=Bl.refl w;have ll:=hl.ll;have hl0:=hl.old;refine Dp func51 27<|Ho (X:=Nat×Value) 17 (λz=>[(4, .int .i64 ((z.1:Nat):Int)),(3,z.2),(0, .slice a n c)]) (λz v=>Bl w v/\OwnN (λb=>K b∨w.heap.size<=b) v w.heap.size z.2 ((l.take z.1).map (λe:List Int×List Int=>(Ni.nib e.1,e.2)))/\z.1<=n) (λz=>n-z.1) (0, .slice none 0 0) ⟨hB,by rw[BD];exact OwnN.nil (λb hb=> .inr hb),Ay _⟩ ?_;clear hB;rintro⟨j,V⟩ v⟨hB,hO,hj⟩ I1 hN1;simp only at hB hO hj;by_cases hlt:j<n
 ·skip
  obtain⟨gE,oE,a1,n1,c1,a2,n2,c2,k,x,ea,hej,hc1,hc2,hs1,hs2⟩:=hl0.at hlt;subst ea;have lk:=hs1.len;have hkl:=hlen j k x hej;refine Ht 6 ((j:Int)<(n:Int))<|GK 7 (λv=>Bl w v) (hB.drew) ?_;replace hB:=hB.drew;refine Dx [0,1,2] 3 (og f51 5 3) (.pointer (some ⟨gE,oE+j*2,none⟩)) (λv hv _=>AV 26 _ _ gE oE j n c 2 45 rfl (by kernel_rfl) (by kernel_rfl) hlt underlying26 (by kernel_rfl)) hB<|Dx [4] 5 (og f51 5 5) (.slice a1 n1 c1) (λv hv _=>AF 27 _ _ _ _ rfl (by kernel_rfl) ((BV hv (Aj hc1)).trans hc1) underlying27 rfl) hB<|Dx [7,8] 9 (og f51 5 9) (.pointer (some ⟨gE,oE+j*2,none⟩)) (λv hv _=>AV 26 _ _ gE oE j n c 2 45 rfl (by kernel_rfl) (by kernel_rfl) hlt underlying26 (by kernel_rfl)) hB<|Dx [10] 11 (og f51 5 11) (.slice a2 n2 c2) (λv hv _=>AF 27 _ _ _ _ rfl (by kernel_rfl) ((BV hv (Aj hc2)).trans hc2) underlying27 rfl) hB<|Dz [6] ?_;refine Yc 6 (R:=λu w'=>(∃a' m' c',u= .slice a' m' c'/\Sk (λb=>(v.drew).heap.size<=b) w' a' m' c' (Ni.nib k))/\Bl (v.drew) w') (YG (hs1.go hB) (by omega)) (λu w' h=>hB.go h.2) ?_ yn;rintro _ u1⟨⟨a6,n6,c6,rfl,hs6⟩,hb6⟩;have hz6:=hb6.size;replace hO:=hO.far (Ak _ _).drew;have hOw:=hO.own;have hwz:=hB.size;replace hB:=hB.go hb6;refine Dx [] 12 (og f51 5 12) (.agg #[.slice a6 n6 c6, .slice a2 n2 c2]) (λv hv=>(λ_=>by kernel_rfl)) hB<|Dz [13] ?_;refine FL 13 #[.slice a6 n6 c6, .slice a2 n2 c2] 133 1 (λw' g h=>hB.go h.below) ?_ yn;intro wN gN hnN _;replace hs6:=hs6.mono (K':=λb=>(K b/\b<w.heap.size)∨v.drew.heap.size<=b) (λb hb=> .inr hb);have hP1:=PAt.oneN hnN hs6 ((hs2.go hB).mono (K':=λb=>(K b/\b<w.heap.size)∨v.drew.heap.size<=b) (λb hb=> .inl hb)) (by have:=hnN.hg;exact .inr (by omega));refine Dz [14] ?_;replace hO:=(hO.far hb6).far hnN.below;replace hB:=hB.go hnN.below;obtain⟨V2,wQ,hrQ,hOQ,hbQ⟩:=Xad hO hP1 (λb hb=>⟨λe=>by have:=hOw b e;rcases hb with h|h<;>omega,by rcases hb with h|h;exact .inl h.1;exact .inr (by omega)⟩) (by rw[AY,Ao];omega) hB.size;refine Yx 14 (og f51 5 14) V2 (λ_=>Ml hrQ _ _ rfl (by kernel_rfl) (by kernel_rfl)) (BY hB hbQ) ?_ yn;replace hB:Bl w wQ:=BY hB hbQ;replace hO:=hOQ;refine Dq [15] hB<|Hi 4 ((j:Int)+1) ((j:Int)+1) ?_;exact hN1 2 (j+1,V2) ⟨hB,by show OwnN _ _ _ _ ((l.take (j+1)).map _);rw[I9 _ l j _ hej];exact hO,by show j+1<=n;omega⟩ (by show n-(j+1)<n-j;omega) (λ_=>by kernel_rfl)
 obtain rfl:j=n:=by omega
 rw[A5 (by omega)]at hO;refine Hf 6 ((j:Int)<(j:Int)) ?_;obtain⟨aF,cF,vsF,eF,hF⟩:=hO.pat
 subst eF;exact Hr 15 (.slice aF (l.map (λe:List Int×List Int=>(Ni.nib e.1,e.2))).length cF) ⟨_,rfl,⟨aF,_,cF,vsF,rfl,hF⟩,hB⟩
theorem KB{l:PList}(hl:PAt K w a n c vs l)(hb:n<=2600000000000){d:Nat}(hd:∀(j:Nat) k x,l[j]?=some (k,x)->d<=k.length):
 Calls prog 78 #[.slice a n c, .int .i64 (d:Int)] w λe w'=>∃u,e= .returned u/\(λu w'=>(∃a' m' c' vs',u= .slice a' m' c'/\PAt (λb=>K b∨w.heap.size<=b) w' a' m' c' vs' (withoutP d l))/\Bl w w') u w':=by
 have hB:=Bl.refl w;have ll:=hl.ll;have hl0:=hl.old;refine Dp func78 30<|Ho (X:=Nat×Value) 17 (λz=>[(6, .int .i64 ((z.1:Nat):Int)),(5,z.2),(0, .slice a n c),(1, .int .i64 (d:Int))]) (λz v=>Bl w v/\OwnN (λb=>K b∨w.heap.size<=b) v w.heap.size z.2 ((l.take z.1).map (λe:List Int×List Int=>(e.1.drop d,e.2)))/\z.1<=n) (λz=>n-z.1) (0, .slice none 0 0) ⟨hB,by rw[BD];exact OwnN.nil (λb hb=> .inr hb),Ay _⟩ ?_;clear hB;rintro⟨j,V⟩ v⟨hB,hO,hj⟩ I1 hN1;simp only at hB hO hj;by_cases hlt:j<n
 ·skip
  obtain⟨gE,oE,a1,n1,c1,a2,n2,c2,k,x,ea,hej,hc1,hc2,hs1,hs2⟩:=hl0.at hlt;subst ea;have lk:=hs1.len;have hdl:=hd j k x hej;refine Ht 6 ((j:Int)<(n:Int)) ?_;obtain⟨a6,n6,c6,hr7,hs7⟩:=hs1.cutFrom d (by omega);refine GK 7 (λv=>Bl w v) (hB.drew) ?_;replace hB:=hB.drew;refine Dx [0,1,2] 3 (og f78 5 3) (.pointer (some ⟨gE,oE+j*2,none⟩)) (λv hv _=>AV 103 _ _ gE oE j n c 2 133 rfl (by kernel_rfl) (by kernel_rfl) hlt underlying103 (by kernel_rfl)) hB<|Dx [4] 5 (og f78 5 5) (.slice a1 n1 c1) (λv hv _=>AF 27 _ _ _ _ rfl (by kernel_rfl) ((BV hv (Aj hc1)).trans hc1) underlying27 rfl) hB<|Dx [6] 7 (og f78 5 7) (.slice a6 n6 c6) (λv hv _=>hr7 _ _ _ _ _ _ rfl (by kernel_rfl) (by kernel_rfl) rfl) hB<|Dx [8,9] 10 (og f78 5 10) (.pointer (some ⟨gE,oE+j*2,none⟩)) (λv hv _=>AV 103 _ _ gE oE j n c 2 133 rfl (by kernel_rfl) (by kernel_rfl) hlt underlying103 (by kernel_rfl)) hB<|Dx [11] 12 (og f78 5 12) (.slice a2 n2 c2) (λv hv _=>AF 27 _ _ _ _ rfl (by kernel_rfl) ((BV hv (Aj hc2)).trans hc2) underlying27 rfl) hB<|Dx [] 13 (og f78 5 13) (.agg #[.slice a6 n6 c6, .slice a2 n2 c2]) (λv hv=>(λ_=>by kernel_rfl)) hB<|Dz [14] ?_;replace hO:=hO.far (Ak _ _).drew;have hOw:=hO.own;have hwz:=hB.size;have hz6:=Aa v.drew.heap.size;have hs6:=(hs7.go hB).mono (K':=λb=>(K b/\b<w.heap.size)∨v.drew.heap.size<=b) (λb hb=> .inl hb);refine FL 14 #[.slice a6 n6 c6, .slice a2 n2 c2] 133 1 (λw' g h=>hB.go h.below) ?_ yn;intro wN gN hnN _;have hP1:=PAt.oneN hnN hs6 ((hs2.go hB).mono (K':=λb=>(K b/\b<w.heap.size)∨v.drew.heap.size<=b) (λb hb=> .inl hb)) (by have:=hnN.hg;exact .inr (by omega));refine Dz [15] ?_;replace hB:=hB.go hnN.below;replace hO:=hO.far hnN.below;obtain⟨V2,wQ,hrQ,hOQ,hbQ⟩:=Xad hO hP1 (λb hb=>⟨λe=>by have:=hOw b e;rcases hb with h|h<;>omega,by rcases hb with h|h;exact .inl h.1;exact .inr (by omega)⟩) (by rw[AY,Ao];omega) hB.size;refine Yx 15 (og f78 5 15) V2 (λ_=>Ml hrQ _ _ rfl (by kernel_rfl) (by kernel_rfl)) (BY hB hbQ) ?_ yn;replace hB:Bl w wQ:=BY hB hbQ;replace hO:=hOQ;refine Dq [16] hB<|Hi 4 ((j:Int)+1) ((j:Int)+1) ?_;exact hN1 2 (j+1,V2) ⟨hB,by show OwnN _ _ _ _ ((l.take (j+1)).map _);rw[I9 _ l j _ hej];exact hO,by show j+1<=n;omega⟩ (by show n-(j+1)<n-j;omega) (λ_=>by kernel_rfl)
 obtain rfl:j=n:=by omega
 rw[A5 (by omega)]at hO;refine Hf 6 ((j:Int)<(j:Int)) ?_;obtain⟨aF,cF,vsF,eF,hF⟩:=hO.pat
 subst eF;exact Hr 15 (.slice aF (l.map (λe:List Int×List Int=>(e.1.drop d,e.2))).length cF) ⟨_,rfl,⟨aF,_,cF,vsF,rfl,hF⟩,hB⟩
end Go.Proofs.YtalhnnjpjaeakaaGreat
namespace Go.Proofs.YtalhnnjpjaeakaaGreat.Ni
theorem rcommon_any(a1 a2:Option Addr)(n1 c1 n2 c2:Nat)(p q:List Int)(w:World)(h1:Ag w a1 n1 c1 p)(h2:Ag w a2 n2 c2 q)(hn1:n1<=140737488355328)(hn2:n2<=140737488355328):
 Calls prog 109 #[.slice a1 n1 c1, .slice a2 n2 c2] w λe w'=>e= .returned (.int .i64 (com p q:Nat))/\Below w.heap.size w w':=by
 have HL1:=Xba h1.l;have HL2:=Xba h2.l;have HC1:=Xba (λh=>ag_head h1 h);have HC2:=Xba (λh=>ag_head h2 h);clear h1 h2;obtain⟨res,hres⟩:∃r,com p q=r:=⟨_,rfl⟩;rw[hres];have HRES:=Xba hres;clear hres;go_enter func109,ntmps109;go_wp2_with fail
 go_loopw [5] (λi v=>∃j:Nat,j<=n1/\j<=n2/\i= .int .i64 j/\p.take j=q.take j/\Below w.heap.size w v) (λi _=>n1-(intOf i).toNat)
 case atStart=>exact⟨0,by omega,by omega,rfl,rfl,Ak _ _⟩
 case round=>
  obtain⟨j,hj1,hj2,rfl,htk,hb⟩:=hrel;have HTK:=Xba htk;have HBW:=Xba hb;clear htk hb;have HD:Hid ((j=p.length∨j=q.length∨p.getD j 0≠q.getD j 0)->res=j):=Xba (λh=>HRES.out.symm.trans (Lq p q j (by have:=HL1.out;omega) (by have:=HL2.out;omega) HTK.out h));by_cases hlt1:j<n1
  case neg=>
   have hji:¬(j:Int)<n1:=(by omega);have e:=HD.out (.inl (by have:=HL1.out;omega));subst e;go_wp2_with fail
   go_region
   all_goals
    go_wp2_with fail;go_ret;exact⟨rfl,HBW.out.drew⟩
  have hji1:(j:Int)<n1:=by omega
  by_cases hlt2:j<n2
  case neg=>
   have hji:¬(j:Int)<n2:=(by omega);have e:=HD.out (.inr (.inl (by have:=HL2.out;omega)));subst e;go_wp2_with fail
   go_region
   all_goals
    go_wp2_with fail;go_ret;exact⟨rfl,HBW.out.drew⟩
  have hji2:(j:Int)<n2:=by omega
  obtain⟨g1,o1,rfl,hnc1,hcm1,hcs1⟩:=HC1.out (by omega);obtain⟨g2,o2,rfl,hnc2,hcm2,hcs2⟩:=HC2.out (by omega);unfold maxLen at hcm1 hcm2;have hcell1:=(HBW.out.cell (p:=⟨g1,o1+j,none⟩) (Aj (hcs1 j hlt1))).trans (hcs1 j hlt1);have hcell2:=(HBW.out.cell (p:=⟨g2,o2+j,none⟩) (Aj (hcs2 j hlt2))).trans (hcs2 j hlt2);have HT1:=Xba (take_snoc (b:=p) (i:=j) (by have:=HL1.out;omega));have HT2:=Xba (take_snoc (b:=q) (i:=j) (by have:=HL2.out;omega));generalize p.getD j 0=x at*;generalize q.getD j 0=y at*;clear hcs1 hcs2;by_cases hxy:x=y
  ·subst hxy;have hq:(x==x)=true:=(by simp);go_wp2_with fail
   go_region
   all_goals
    go_wp2_with fail;exact⟨⟨j+1,by omega,by omega,by simp,by rw[HT1.out,HT2.out,HTK.out],HBW.out.drew⟩,by simp[intOf];omega⟩
  ·have e:=HD.out (.inr (.inr hxy));subst e;have hq:(x==y)=false:=(by simpa using hxy);clear hxy;go_wp2_with fail
   go_region
   all_goals
    go_wp2_with fail;go_ret;exact⟨rfl,HBW.out.drew⟩
end Go.Proofs.YtalhnnjpjaeakaaGreat.Ni
namespace Go.Proofs.YtalhnnjpjaeakaaGreat
open Tr
variable {j n c c' g gW base : Nat} {K X : Nat → Prop} {w : World} {a a' : Option Addr} {vs : List (Value × Value)} {T0 : TypeId} {v0 vN : Value}
theorem PQ{l:PList}{e:List Int×List Int}(h:l[0]?=some e):alikeP (l.take 1)=e.1.length:=by
 cases l with
 |nil=>simp at h
 |cons f r=>
  have:f=e:=by simpa using h
  subst this;rfl
theorem QX{l:PList}{e f:List Int×List Int}(h0:l[0]?=some e)(hj:l[j]?=some f)(h1:1<=j):alikeP (l.take (j+1))=min (alikeP (l.take j)) (Ni.com e.1 f.1):=by
 cases l with
 |nil=>simp at h0
 |cons g r=>
  have:g=e:=by simpa using h0
  subst this;obtain⟨i,rfl⟩:∃i,j=i+1:=⟨j-1,by omega⟩;have hi:r[i]?=some f:=by simpa using hj
  rw[C1,C1,BQ,hi];simp only[alikeP,Option.toList_some,List.foldl_append,List.foldl_cons,List.foldl_nil]
theorem QY{l:PList}{e:List Int×List Int}(i:Int)(hj:l[j]?=some e):underP i (l.take (j+1))=underP i (l.take j)++under1 i e:=by
 unfold underP;rw[BQ,hj,BX];simp
theorem Iu(i:Int):∀l:PList,(underP i l).length<=l.length
 |[]=>Aa _
 |e::r=>by
  have:=Iu i r;have h1:(under1 i e).length<=1:=by unfold under1;split;simp;split<;>simp
  unfold underP at this⊢;rw[Cn,Ab,AS];omega
theorem Iw{l:PList}(hl:PAt K w a n c vs l)(hb:n<=2600000000000)(h1:0<n)(hlen:∀(j:Nat) k x,l[j]?=some (k,x)->k.length<=1000000):
 Calls prog 77 #[.slice a n c] w λe w'=>∃u,e= .returned u/\(λu w'=>u= .int .i64 ((alikeP l:Nat):Int)/\Bl w w') u w':=by
 have hB:=Bl.refl w;have ll:=hl.ll;have hl0:=hl.old;obtain⟨gE,oE,a0,n0,c0,b0,m0,d0,k0,x0,ea,he0,hc0,_,hs0,_⟩:=hl0.at h1;subst ea;have lk0:=hs0.len;have hk0:=hlen 0 k0 x0 he0;refine Dp func77 31<|Hx 8 (og f77 1 1) (.pointer (some ⟨gE,oE+0*2,none⟩)) (λ_=>AV 103 _ _ gE oE 0 n c 2 133 rfl (by kernel_rfl) (by kernel_rfl) h1 underlying103 (by kernel_rfl))<|Hx 1 (og f77 1 3) (.slice a0 n0 c0) (λ_=>AF 27 _ _ _ _ rfl (by kernel_rfl) ((BV hB (Aj hc0)).trans hc0) underlying27 rfl)<|Ho (X:=Nat×Nat) 11 (λz=>[(4, .int .i64 ((z.1:Nat):Int)),(3, .int .i64 ((z.2:Nat):Int)),(0, .slice (some ⟨gE,oE,none⟩) n c)]) (λz v=>Bl w v/\z.2=alikeP (l.take z.1)/\1<=z.1/\z.1<=n) (λz=>n-z.1) (1,n0) ⟨hB,by rw[PQ he0];exact lk0.symm,Aa _,h1⟩ ?_;clear hB;rintro⟨j,m⟩ v⟨hB,hm,hj0,hj⟩ I1 hN1;simp only at hB hm hj0 hj;by_cases hlt:j<n
 ·skip
  obtain⟨gJ,oJ,a1,n1,c1,b1,m1,d1,k1,x1,ea,hej,hc1,_,hs1,_⟩:=hl0.at hlt;cases ea;have lk1:=hs1.len;have hk1:=hlen j k1 x1 hej;refine Ht 6 ((j:Int)<(n:Int))<|GK 8 (λv=>Bl w v) (hB.drew) ?_;replace hB:=hB.drew;refine Dx [0] 1 (og f77 5 1) (.pointer (some ⟨gE,oE+0*2,none⟩)) (λv hv _=>AV 103 _ _ gE oE 0 n c 2 133 rfl (by kernel_rfl) (by kernel_rfl) h1 underlying103 (by kernel_rfl)) hB<|Dx [2] 3 (og f77 5 3) (.slice a0 n0 c0) (λv hv _=>AF 27 _ _ _ _ rfl (by kernel_rfl) ((BV hv (Aj hc0)).trans hc0) underlying27 rfl) hB<|Dx [4,5] 6 (og f77 5 6) (.pointer (some ⟨gE,oE+j*2,none⟩)) (λv hv _=>AV 103 _ _ gE oE j n c 2 133 rfl (by kernel_rfl) (by kernel_rfl) hlt underlying103 (by kernel_rfl)) hB<|Dx [7] 8 (og f77 5 8) (.slice a1 n1 c1) (λv hv _=>AF 27 _ _ _ _ rfl (by kernel_rfl) ((BV hv (Aj hc1)).trans hc1) underlying27 rfl) hB<|Dz [9] ?_;refine Yc 9 (R:=λu w'=>u= .int .i64 ((Ni.com k0 k1:Nat):Int)/\Bl (v.drew) w') ((Ni.rcommon_any _ _ _ _ _ _ k0 k1 _ (hs0.go hB).ag (hs1.go hB).ag (by omega) (by omega)).mono (λe w'⟨h1,h2⟩=>⟨_,h1,rfl,h2⟩)) (λu w' h=>hB.go h.2) ?_ yn;rintro _ u1⟨rfl,hb6⟩;replace hB:=hB.go hb6;refine Dq [10] hB<|Hw 4 (.int .i64 (if((Ni.com k0 k1:Nat):Int)<(m:Int)then((Ni.com k0 k1:Nat):Int)else(m:Int))) (.int .i64 ((min m (Ni.com k0 k1):Nat):Int)) (Av (Value.int .i64) (by split<;>omega))<|Hi 6 ((j:Int)+1) ((j:Int)+1) ?_;exact hN1 2 (j+1,min m (Ni.com k0 k1)) ⟨hB,by show min m (Ni.com k0 k1)=_;rw[QX he0 hej hj0,hm],by show 1<=j+1;omega,by show j+1<=n;omega⟩ (by show n-(j+1)<n-j;omega) (λ_=>by kernel_rfl)
 obtain rfl:j=n:=by omega
 rw[A5 (by omega)]at hm;refine Hf 6 ((j:Int)<(j:Int)) ?_;exact Hr 15 (.int .i64 (m:Int)) ⟨_,rfl,by rw[hm],hB⟩
theorem Kc{l:PList}(hl:PAt K w a n c vs l)(hb:n<=2600000000000)(i:Nat)(hi:i<16):
 Calls prog 79 #[.slice a n c, .int .i64 (i:Int)] w λe w'=>∃u,e= .returned u/\(λu w'=>(∃a' m' c' vs',u= .slice a' m' c'/\PAt (λb=>K b∨w.heap.size<=b) w' a' m' c' vs' (underP (i:Int) l))/\Bl w w') u w':=by
 have hB:=Bl.refl w;have ll:=hl.ll;have hl0:=hl.old;refine Dp func79 48<|Ho (X:=Nat×Value) 17 (λz=>[(6, .int .i64 ((z.1:Nat):Int)),(5,z.2),(0, .slice a n c),(1, .int .i64 (i:Int))]) (λz v=>Bl w v/\OwnN (λb=>K b∨w.heap.size<=b) v w.heap.size z.2 (underP (i:Int) (l.take z.1))/\z.1<=n) (λz=>n-z.1) (0, .slice none 0 0) ⟨hB,by rw[BD];exact OwnN.nil (λb hb=> .inr hb),Ay _⟩ ?_;clear hB;rintro⟨j,V⟩ v⟨hB,hO,hj⟩ I1 hN1;simp only at hB hO hj;by_cases hlt:j<n
 ·skip
  obtain⟨gE,oE,a1,n1,c1,a2,n2,c2,k,x,ea,hej,hc1,hc2,hs1,hs2⟩:=hl0.at hlt;subst ea;have lk:=hs1.len;have hst:=QY (i:Int) hej;have hln:=Iu (i:Int) (l.take j);rw[Ao]at hln;cases k with
  |nil=>
   rw[show under1 (i:Int) ([],x)=[]from rfl,A3]at hst;refine Ht 6 ((j:Int)<(n:Int))<|Hx 11 (og f79 5 2) (.pointer (some ⟨gE,oE+j*2,none⟩)) (λ_=>AV 103 _ _ gE oE j n c 2 133 rfl (by kernel_rfl) (by kernel_rfl) hlt underlying103 (by kernel_rfl))<|Hx 1 (og f79 5 4) (.slice a1 n1 c1) (λ_=>AF 27 _ _ _ _ rfl (by kernel_rfl) ((BV hB (Aj hc1)).trans hc1) underlying27 rfl)<|Hb 1 (decide ((n1:Int)>(0:Int))) false (AU (by simp at lk;omega))<|Hi 20 ((j:Int)+1) ((j:Int)+1) ?_;exact hN1 2 (j+1,V) ⟨hB,by show OwnN _ _ _ _ (underP (i:Int) (l.take (j+1)));rw[hst];exact hO,by show j+1<=n;omega⟩ (by show n-(j+1)<n-j;omega) (λ_=>by kernel_rfl)
  |cons y p=>
   obtain⟨g1,o1,ea1,hcb,hn1⟩:=hs1.head;subst ea1;have hyb:=hs1.ag.b y (by simp);by_cases hyi:y=(i:Int)
   ·skip
    rw[show under1 (i:Int) (y::p,x)=[(p,x)]from Af hyi]at hst;refine Ht 6 ((j:Int)<(n:Int))<|Hx 11 (og f79 5 2) (.pointer (some ⟨gE,oE+j*2,none⟩)) (λ_=>AV 103 _ _ gE oE j n c 2 133 rfl (by kernel_rfl) (by kernel_rfl) hlt underlying103 (by kernel_rfl))<|Hx 1 (og f79 5 4) (.slice (some ⟨g1,o1,none⟩) n1 c1) (λ_=>AF 27 _ _ _ _ rfl (by kernel_rfl) ((BV hB (Aj hc1)).trans hc1) underlying27 rfl)<|Ht 1 ((n1:Int)>(0:Int))<|Hx 3 (og f79 5 10) (.pointer (some ⟨gE,oE+j*2,none⟩)) (λ_=>AV 103 _ _ gE oE j n c 2 133 rfl (by kernel_rfl) (by kernel_rfl) hlt underlying103 (by kernel_rfl))<|Hx 1 (og f79 5 12) (.slice (some ⟨g1,o1,none⟩) n1 c1) (λ_=>AF 27 _ _ _ _ rfl (by kernel_rfl) ((BV hB (Aj hc1)).trans hc1) underlying27 rfl)<|Hx 0 (og f79 5 13) (.pointer (some ⟨g1,o1+0*1,none⟩)) (λ_=>AV 27 _ _ g1 o1 0 n1 c1 1 5 rfl (by kernel_rfl) (by kernel_rfl) hn1 underlying27 (by kernel_rfl))<|Hx 0 (og f79 5 14) (.int .u8 y) (λ_=>AF 5 _ _ _ _ rfl (by kernel_rfl) ((BV hB (Aj hcb)).trans hcb) underlying5 rfl)<|Hw 0 (.int .i64 (IntKind.i64.wrap y)) (.int .i64 y) (Av (Value.int .i64) (Ee (by omega) (by omega)))<|Hb 1 ((y:Int)==(i:Int)) true (C9.2 hyi) ?_;obtain⟨a6,n6,c6,hr7,hs7⟩:=hs1.cutFrom 1 (by omega);refine GK 4 (λv=>Bl w v) (hB.drew) ?_;replace hB:=hB.drew;refine Dx [0,1,2] 3 (og f79 6 3) (.pointer (some ⟨gE,oE+j*2,none⟩)) (λv hv _=>AV 103 _ _ gE oE j n c 2 133 rfl (by kernel_rfl) (by kernel_rfl) hlt underlying103 (by kernel_rfl)) hB<|Dx [4] 5 (og f79 6 5) (.slice (some ⟨g1,o1,none⟩) n1 c1) (λv hv _=>AF 27 _ _ _ _ rfl (by kernel_rfl) ((BV hv (Aj hc1)).trans hc1) underlying27 rfl) hB<|Dx [] 6 (og f79 6 6) (.slice a6 n6 c6) (λv hv _=>hr7 _ _ _ _ _ _ rfl (by kernel_rfl) (by kernel_rfl) rfl) hB<|Dx [7,8] 9 (og f79 6 9) (.pointer (some ⟨gE,oE+j*2,none⟩)) (λv hv _=>AV 103 _ _ gE oE j n c 2 133 rfl (by kernel_rfl) (by kernel_rfl) hlt underlying103 (by kernel_rfl)) hB<|Dx [10] 11 (og f79 6 11) (.slice a2 n2 c2) (λv hv _=>AF 27 _ _ _ _ rfl (by kernel_rfl) ((BV hv (Aj hc2)).trans hc2) underlying27 rfl) hB<|Dx [] 12 (og f79 6 12) (.agg #[.slice a6 n6 c6, .slice a2 n2 c2]) (λv hv=>(λ_=>by kernel_rfl)) hB<|Dz [13] ?_;replace hO:=hO.far (Ak _ _).drew;have hOw:=hO.own;have hwz:=hB.size;have hz6:=Aa v.drew.heap.size;have hs6:=(hs7.go hB).mono (K':=λb=>(K b/\b<w.heap.size)∨v.drew.heap.size<=b) (λb hb=> .inl hb);refine FL 13 #[.slice a6 n6 c6, .slice a2 n2 c2] 133 1 (λw' g h=>hB.go h.below) ?_ yn;intro wN gN hnN _;have hP1:=PAt.oneN hnN hs6 ((hs2.go hB).mono (K':=λb=>(K b/\b<w.heap.size)∨v.drew.heap.size<=b) (λb hb=> .inl hb)) (by have:=hnN.hg;exact .inr (by omega));refine Dz [14] ?_;replace hB:=hB.go hnN.below;replace hO:=hO.far hnN.below;obtain⟨V2,wQ,hrQ,hOQ,hbQ⟩:=Xad hO hP1 (λb hb=>⟨λe=>by have:=hOw b e;rcases hb with h|h<;>omega,by rcases hb with h|h;exact .inl h.1;exact .inr (by omega)⟩) (by omega) hB.size;refine Yx 14 (og f79 6 14) V2 (λ_=>Ml hrQ _ _ rfl (by kernel_rfl) (by kernel_rfl)) (BY hB hbQ) ?_ yn;replace hB:Bl w wQ:=BY hB hbQ;replace hO:=hOQ;refine Dq [15] hB<|Hi 4 ((j:Int)+1) ((j:Int)+1) ?_;exact hN1 2 (j+1,V2) ⟨hB,by show OwnN _ _ _ _ (underP (i:Int) (l.take (j+1)));rw[hst];exact hO,by show j+1<=n;omega⟩ (by show n-(j+1)<n-j;omega) (λ_=>by kernel_rfl)
   ·skip
    rw[show under1 (i:Int) (y::p,x)=[]from Ad hyi,A3]at hst;refine Ht 6 ((j:Int)<(n:Int))<|Hx 11 (og f79 5 2) (.pointer (some ⟨gE,oE+j*2,none⟩)) (λ_=>AV 103 _ _ gE oE j n c 2 133 rfl (by kernel_rfl) (by kernel_rfl) hlt underlying103 (by kernel_rfl))<|Hx 1 (og f79 5 4) (.slice (some ⟨g1,o1,none⟩) n1 c1) (λ_=>AF 27 _ _ _ _ rfl (by kernel_rfl) ((BV hB (Aj hc1)).trans hc1) underlying27 rfl)<|Ht 1 ((n1:Int)>(0:Int))<|Hx 3 (og f79 5 10) (.pointer (some ⟨gE,oE+j*2,none⟩)) (λ_=>AV 103 _ _ gE oE j n c 2 133 rfl (by kernel_rfl) (by kernel_rfl) hlt underlying103 (by kernel_rfl))<|Hx 1 (og f79 5 12) (.slice (some ⟨g1,o1,none⟩) n1 c1) (λ_=>AF 27 _ _ _ _ rfl (by kernel_rfl) ((BV hB (Aj hc1)).trans hc1) underlying27 rfl)<|Hx 0 (og f79 5 13) (.pointer (some ⟨g1,o1+0*1,none⟩)) (λ_=>AV 27 _ _ g1 o1 0 n1 c1 1 5 rfl (by kernel_rfl) (by kernel_rfl) hn1 underlying27 (by kernel_rfl))<|Hx 0 (og f79 5 14) (.int .u8 y) (λ_=>AF 5 _ _ _ _ rfl (by kernel_rfl) ((BV hB (Aj hcb)).trans hcb) underlying5 rfl)<|Hw 0 (.int .i64 (IntKind.i64.wrap y)) (.int .i64 y) (Av (Value.int .i64) (Ee (by omega) (by omega)))<|Hb 1 ((y:Int)==(i:Int)) false (BB.2 hyi)<|Hi 9 ((j:Int)+1) ((j:Int)+1) ?_;exact hN1 2 (j+1,V) ⟨hB,by show OwnN _ _ _ _ (underP (i:Int) (l.take (j+1)));rw[hst];exact hO,by show j+1<=n;omega⟩ (by show n-(j+1)<n-j;omega) (λ_=>by kernel_rfl)
 obtain rfl:j=n:=by omega
 rw[A5 (by omega)]at hO;refine Hf 6 ((j:Int)<(j:Int)) ?_;obtain⟨aF,cF,vsF,eF,hF⟩:=hO.pat
 subst eF;exact Hr 15 (.slice aF (underP (i:Int) l).length cF) ⟨_,rfl,⟨aF,_,cF,vsF,rfl,hF⟩,hB⟩
theorem IN{K':Nat->Prop}{vs':List (Value×Value)}{l:PList}(hl:PAt K w a n c vs l)(hm:PAt K' w a' n c' vs' l)(hb:n<=2600000000000):
 Calls prog 27 #[.slice a n c, .slice a' n c'] w λe w'=>∃u,e= .returned u/\(λu w'=>u= .bool true/\Bl w w') u w':=by
 have hB:=Bl.refl w;have ll:=hl.ll;refine Dp func27 45<|Hb 12 (!((n:Int)==(n:Int))) false (by simp)<|Ho (X:=Nat) 12 (λj=>[(5, .int .i64 (j:Int)),(0, .slice a n c),(1, .slice a' n c')]) (λj v=>Bl w v/\j<=n) (λj=>n-j) 0 ⟨hB,Ay _⟩ ?_;clear hB;rintro j v⟨hB,hj⟩ I1 hN1;by_cases hlt:j<n
 ·skip
  obtain⟨gE,oE,a1,n1,c1,a2,n2,c2,k,x,ea,hej,hc1,hc2,hs1,hs2⟩:=hl.at hlt;subst ea;obtain⟨gF,oF,a3,n3,c3,a4,n4,c4,k2,x2,ea,hek,hc3,hc4,hs3,hs4⟩:=hm.at hlt;subst ea;rw[hej]at hek;cases hek;refine Ht 6 ((j:Int)<(n:Int))<|GK 8 (λv=>Bl w v) (hB.drew) ?_;replace hB:=hB.drew;refine Dx [0,1] 2 (og f27 6 2) (.pointer (some ⟨gE,oE+j*2,none⟩)) (λv hv _=>AV 26 _ _ gE oE j n c 2 45 rfl (by kernel_rfl) (by kernel_rfl) hlt underlying26 (by kernel_rfl)) hB<|Dx [3] 4 (og f27 6 4) (.slice a1 n1 c1) (λv hv _=>AF 27 _ _ _ _ rfl (by kernel_rfl) ((BV hv (Aj hc1)).trans hc1) underlying27 rfl) hB<|Dx [] 5 (og f27 6 5) (.string (strOfNums k)) (λv hv _=>(hs1.go hv).run_str _ _ _ rfl (by kernel_rfl)) hB<|Dx [6,7] 8 (og f27 6 8) (.pointer (some ⟨gF,oF+j*2,none⟩)) (λv hv _=>AV 26 _ _ gF oF j n c' 2 45 rfl (by kernel_rfl) (by kernel_rfl) hlt underlying26 (by kernel_rfl)) hB<|Dx [9] 10 (og f27 6 10) (.slice a3 n3 c3) (λv hv _=>AF 27 _ _ _ _ rfl (by kernel_rfl) ((BV hv (Aj hc3)).trans hc3) underlying27 rfl) hB<|Dx [] 11 (og f27 6 11) (.string (strOfNums k)) (λv hv _=>(hs3.go hv).run_str _ _ _ rfl (by kernel_rfl)) hB<|Dx [] 12 (og f27 6 12) (.bool false) (λv hv _=>Qt 9 _ _ _ (strOfNums k) (strOfNums k) rfl (by kernel_rfl) (by kernel_rfl) (by simp)) hB<|Dx [13,14,15] 16 (og f27 6 16) (.pointer (some ⟨gE,oE+j*2,none⟩)) (λv hv _=>AV 26 _ _ gE oE j n c 2 45 rfl (by kernel_rfl) (by kernel_rfl) hlt underlying26 (by kernel_rfl)) hB<|Dx [17] 18 (og f27 6 18) (.slice a2 n2 c2) (λv hv _=>AF 27 _ _ _ _ rfl (by kernel_rfl) ((BV hv (Aj hc2)).trans hc2) underlying27 rfl) hB<|Dx [] 19 (og f27 6 19) (.string (strOfNums x)) (λv hv _=>(hs2.go hv).run_str _ _ _ rfl (by kernel_rfl)) hB<|Dx [20,21] 22 (og f27 6 22) (.pointer (some ⟨gF,oF+j*2,none⟩)) (λv hv _=>AV 26 _ _ gF oF j n c' 2 45 rfl (by kernel_rfl) (by kernel_rfl) hlt underlying26 (by kernel_rfl)) hB<|Dx [23] 24 (og f27 6 24) (.slice a4 n4 c4) (λv hv _=>AF 27 _ _ _ _ rfl (by kernel_rfl) ((BV hv (Aj hc4)).trans hc4) underlying27 rfl) hB ?_;refine Dx [] 25 (og f27 6 25) (.string (strOfNums x)) (λv hv _=>(hs4.go hv).run_str _ _ _ rfl (by kernel_rfl)) hB<|Dx [] 26 (og f27 6 26) (.bool false) (λv hv _=>Qt 9 _ _ _ (strOfNums x) (strOfNums x) rfl (by kernel_rfl) (by kernel_rfl) (by simp)) hB<|Dq [27] hB<|Hi 7 ((j:Int)+1) ((j:Int)+1) ?_;exact hN1 2 (j+1) ⟨hB,by omega⟩ (by show n-(j+1)<n-j;omega) (λ_=>by kernel_rfl)
 obtain rfl:j=n:=by omega
 refine Hf 6 ((j:Int)<(j:Int)) ?_;exact Hr 14 (.bool true) ⟨_,rfl,rfl,hB⟩
theorem Uw{t:Tr}(hr:Rw g w #[.nilIface] 67)(ht:TA K w t (.nilIface))(hok:t=no∨Tr.Ok 64 t):
 Calls prog 10 #[.pointer (some ⟨g,0,none⟩)] w λe w'=>∃u,e= .returned u/\(λu w'=>(∃g',u= .pointer (some ⟨g',0,none⟩)/\w.heap.size<=g'/\Tri K w' g' t)/\Bl w w') u w':=by
 have hB:=Bl.refl w;refine Dp func10 9<|Hl 10 hr 0 65 (.nilIface)<|Hn 1 #[.nilIface] 67 ?_;intro w1 g2 hn3 hr4;replace hB:=hB.go hn3.below;replace ht:=ht.go hn3.below;exact Hr 4 (.pointer (some ⟨g2,0,none⟩)) ⟨_,rfl,⟨_,rfl,(by rw[hn3.hg];exact Aa _),⟨⟨_,hr4,ht⟩,hok⟩⟩,hB⟩
theorem QZ{t:Tr}(hr:Rw g w #[.iface T0 v0] 67)(ht:TA K w t (.iface T0 v0))(hok:t=no∨Tr.Ok 64 t):
 Calls prog 10 #[.pointer (some ⟨g,0,none⟩)] w λe w'=>∃u,e= .returned u/\(λu w'=>(∃g',u= .pointer (some ⟨g',0,none⟩)/\w.heap.size<=g'/\Tri K w' g' t)/\Bl w w') u w':=by
 have hB:=Bl.refl w;refine Dp func10 9<|Hl 10 hr 0 65 (.iface T0 v0)<|Hn 1 (#[.iface T0 v0]) 67 ?_;intro w1 g2 hn3 hr4;replace hB:=hB.go hn3.below;replace ht:=ht.go hn3.below;exact Hr 4 (.pointer (some ⟨g2,0,none⟩)) ⟨_,rfl,⟨_,rfl,(by rw[hn3.hg];exact Aa _),⟨⟨_,hr4,ht⟩,hok⟩⟩,hB⟩
theorem Ra{t:Tr}(h:Tri K w g t):
 Calls prog 10 #[.pointer (some ⟨g,0,none⟩)] w λe w'=>∃u,e= .returned u/\(∃g',u= .pointer (some ⟨g',0,none⟩)/\w.heap.size<=g'/\Tri K w' g' t)/\Bl w w':=by
 obtain⟨⟨v,h1,h2⟩,h3⟩:=h;rcases id h3 with rfl|hO
 ·have hv:v= .nilIface:=h2;subst hv;exact Uw h1 h2 h3
 ·obtain⟨T0,v0,rfl⟩:=h2.iface hO.ne;exact QZ h1 h2 h3
theorem ST{n:PN}(ho:okN n):(NEP n).1.length<=65540:=by
 unfold NEP;split
 ·rename_i h;exact(EZ ho h).2.2
 ·simp
theorem Hg(w:World):RefAt (λ_=>True) w rz r0:=⟨rfl,rfl,λx hx=>by rw[CY.1 hx|>.2];omega,rfl,⟨.inl ⟨rfl,rfl⟩,λ_=>⟨rfl,rfl⟩,rfl,λx hx=>by cases hx⟩,Ay _,λ_ _ _ _=>trivial⟩
theorem Ux{ns:List (List Int)}(hW:Wt w gW base vN X ns){Z:Nat->Prop}{n':Nat}{p x:List Int}(hp:Sk (KW gW vN Z) w a n c p)(hx:Sk (KW gW vN Z) w a' n' c' x)(hl1:n<=1000)(hl2:n'<=256):
 Calls prog 170 #[.agg #[.slice a n c, .slice a' n' c'], .pointer (some ⟨gW,0,none⟩)] w λe w'=>∃u,e= .returned u/\RNd w gW base vN X ns (leaf p x) u w':=by
 have hB:=Bl.refl w;refine Dp func170 10<|Hn 2 (#[.slice a n c, .slice a' n' c']) 98 ?_;intro w1 g2 hn3 hr4;refine Hn 0 nz.cells.toArray 92 ?_;intro wN gN hnN _;refine Hx 5 (og f170 1 1) (.slice a n c) (λ_=>AF 27 _ ⟨g2,0,none⟩ _ _ rfl (by kernel_rfl) (by rw[Ae _ _ _ _ _ _ (hr4.go hnN.below)];rfl) underlying27 rfl)<|Hx 1 (og f170 1 3) (.slice a' n' c') (λ_=>AF 27 _ ⟨g2,1,none⟩ _ _ rfl (by kernel_rfl) (by rw[Ae _ _ _ _ _ _ (hr4.go hnN.below)];rfl) underlying27 rfl)<|Hx 0 (og f170 1 4) (.agg (NV.cells ⟨1,a,n,c,a',n',c',rz,none,0,0⟩).toArray) (λ_=>Fs 92 _ [(0, .int .i64 1),(1, .slice a n c),(2, .slice a' n' c')] _ rfl (by kernel_rfl) (Ju _ _ _ _ _ _))<|Hy 0 (og f170 1 5) gN (NV.cells ⟨1,a,n,c,a',n',c',rz,none,0,0⟩).toArray (λ_=>CH 92 _ _ _ _ _ _ rfl (by kernel_rfl) (by kernel_rfl) hnN.row (by kernel_rfl) (by kernel_rfl) (by kernel_rfl)) ?_;intro wC hpC;have hnC:=hnN.put hpC;have hrC:Rw gN wC (NV.cells ⟨1,a,n,c,a',n',c',rz,none,0,0⟩).toArray 92:=hnC.row;replace hp:=(hp.go hn3.below).go hnC.below;have lp:=hp.len;replace hx:=(hx.go hn3.below).go hnC.below;have lx:=hx.len;replace hB:=(hB.go hn3.below).go hnC.below;replace hW:=(hW.go hn3.below).go hnC.below;exact UX 3 (.agg (NV.cells ⟨1,a,n,c,a',n',c',rz,none,0,0⟩).toArray) (λ_=>FE results170 _ gN ⟨1,a,n,c,a',n',c',rz,none,0,0⟩ rfl (by kernel_rfl) hrC) ⟨_,rfl,⟨1,a,n,c,a',n',c',rz,none,0,0⟩,vN,rfl,⟨rfl,hp.agk (by omega),hx.agk (by omega),Hg _,⟨rfl,Aa _,Ay _,Ay _,λ_=>⟨rfl,rfl⟩⟩,λj r hr=>by simp[nodeP]at hr⟩,(by rw[show nmd (leaf p x)=[]from rfl,A3];exact hW),Wg.of_below hB⟩
theorem Rc{ns:List (List Int)}{t:Tr}(hne:t≠no)(hm:MC "pergola/trie.node" (.iface T0 v0) #[.pointer (some ⟨gW,0,none⟩)] w (RNd w gW base vN X ns t)):
 Calls prog 40 #[.pointer (some ⟨gW,0,none⟩), .iface T0 v0] w λe w'=>∃u,e= .returned u/\REn w gW base vN X ns t u w':=by
 have hB:=Bl.refl w;refine Dp func40 15 ?_;obtain⟨T3,x4,f5,he6,hi1,hc2⟩:=hm;refine Hm 9 (og f40 1 2) f5 (#[x4]++#[.pointer (some ⟨gW,0,none⟩)]) (λ_=>hi1 _ _ _ _ _ _ _ rfl (by kernel_rfl) (by kernel_rfl)) (R:=RNd w gW base vN X ns t) ?_ ?_
 ·exact hc2
 rintro _ u1⟨y,vM,rfl,hN,hW1,hG⟩;refine Hc 0 (R:=λu w'=>∃a m c,u= .tuple #[.slice a m c, .int .i64 ((NEP (nodeP t)).2:Nat)]/\Sk (λb=>u1.heap.size<=b) w' a m c (NEP (nodeP t)).1/\Wq w' a m/\Bl u1 w') ((PI (λ_=>True) y (nodeP t) u1 hN).mono (λe w' h=>by obtain⟨⟨a,m,c,e1,h1,h2⟩,h3⟩:=h;exact⟨_,e1,a,m,c,rfl,⟨h1,λq hq hn=>by rcases h1.i with⟨q1,q2⟩|⟨gb,off,q1,_⟩;omega;rw[hq]at q1;cases q1;exact(h2 gb off hq hn).1⟩,(λq hq hn o=>by rcases h1.i with⟨q1,q2⟩|⟨gb,off,q1,_⟩;omega;rw[hq]at q1;cases q1;exact(h2 gb off hq hn).2 o),h3⟩)) ?_;rintro _ u2⟨a2,n2,c2,rfl,hs2,hw2,hb2⟩;exact Hr 14 (.slice a2 n2 c2) ⟨_,rfl,a2,n2,c2,vM,rfl,(by rw[Kb hne];exact hs2.fresh (K:=λ_=>True) hW1 hG.size),hW1.go hb2,hG.trans (Wg.of_below hb2),(by rw[Kb hne];exact ST hN.okN),hw2⟩
end Go.Proofs.YtalhnnjpjaeakaaGreat
