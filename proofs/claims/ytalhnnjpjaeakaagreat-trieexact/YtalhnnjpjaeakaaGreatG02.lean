/- Slices of bytes joined. -/
import Derived.Test.YtalhnnjpjaeakaaGreatAK
import Derived.Test.YtalhnnjpjaeakaaGreatG01
set_option linter.unusedVariables false
set_option maxRecDepth 100000
set_option maxHeartbeats 1000000
open Go.Proofs.Tryz Go.RowKit
namespace Go.Proofs.YtalhnnjpjaeakaaGreat
variable {K : Nat → Prop} {w w' : World} {a : Option Addr} {n c B g : Nat}
theorem Sf{w w':World}{v u r:Value}{t1 t2:TypeId}{ρ:Operand->Value}{o:Oper}(hr:∀ty,(Builtin.append_ #[t1,t2] ty #[v,u]).run prog w= .ok r w')(x y:Operand)(ho:o.op= .call {callee:= .builtin .append,args:=#[x,y],argTypes:=#[t1,t2]})(hx:ρ x=v)(hy:ρ y=u):(execOp ρ o).run prog w= .ok (.value r) w':=by
 unfold execOp;simp only[ho,resolve,invoke,builtin,Bm,Bp,AH,Ck,B9,C6,hx,hy,hr]
theorem Lu(n:Nat):(Builtin.zeroCells #[Value.int .u8 0] n).size=n:=by simp[Builtin.zeroCells]
theorem Q2(w:World)(k:Nat)(h0:0<k)(hk:k<=1000000):∃cap w9,(∀ty,(Builtin.append_ #[27,3] ty #[.slice none 0 0, .int .i64 (k:Int)]).run prog w= .ok (.slice (some ⟨w.heap.size,0,none⟩) k cap) w9)/\OwnB w9 w.heap.size (.slice (some ⟨w.heap.size,0,none⟩) 0 cap) []/\Bl w w9:=by
 obtain⟨i,hi,hz,hsz,hby⟩:=info5;have hr:=λty=>Lib.run_append_nil_zeros (P:=prog) w 27 3 ty 5 i (.int .u8 0) .i64 .i64 underlying27 underlying3 hi hz k h0 (by omega) (by omega) (by rw[hby];omega);refine⟨_,_,hr,⟨rfl, .inr ⟨w.heap.size,_,_,rfl,Aa _,Ai _ _,Ay _,grownCap_le_maxLen _ _ _ _ (by unfold maxLen;omega),?_,rfl⟩⟩,?_⟩
 ·rw[Array.size_append,show(Value.int IntKind.u8 0).cells=#[.int .u8 0]from rfl,Lu,Lu];have:=grownCap_ge w k 0 5;omega
 ·exact(Ak _ _).drew.alloc (Aa _) _
theorem XH{w:World}{g n cap:Nat}{ρ:Operand->Value}{o:Oper}(x y:Operand)(ho:o.op= .slice 27 x none (some y) none)(hx:ρ x= .slice (some ⟨g,0,none⟩) n cap)(hy:ρ y= .int .i64 0):
 (execOp ρ o).run prog w= .ok (.value (.slice (some ⟨g,0,none⟩) 0 cap)) w:=by
 unfold execOp;rw[ho];simp[hx,hy,Instr.sliceAt,B7 underlying27,Instr.slice,Instr.sliceBounds,Instr.sliceBound,asIntOf,BM,Result.andThen]
theorem Sk.old{bs:List Int}(h:Sk K w a n c bs){x:Addr}(hx:a=some x)(hn:0<n):x.block<w.heap.size:=by
 rcases h.ag.i with⟨h1,h2⟩|⟨gb,off,h1,h2,h3,h4,h5,h7⟩
 ·omega
 ·rw[hx]at h1;cases h1;have:=Aj (h7 0 (by omega));exact this
theorem Sk.under{bs:List Int}(h:Sk K w a n c bs)(hx:∀x,a=some x->0<n->x.block<B)(hb:Below B w w'):Sk K w' a n c bs:=by
 refine⟨⟨?_,h.ag.nil,h.ag.l,h.ag.b⟩,h.k⟩;rcases h.ag.i with h1|⟨gb,off,h1,h2,h3,h4,h5,h7⟩
 ·exact .inl h1
 ·exact .inr ⟨gb,off,h1,h2,h3,h4,h5,λj hj=>(hb.cell (p:=⟨gb,off+j,none⟩) (show gb<B from hx ⟨gb,off,none⟩ h1 h3)).trans (h7 j hj)⟩
theorem Rw.under{cells:Array Value}{T:TypeId}(h:Rw g w cells T)(hg:g<B)(hb:Below B w w'):Rw g w' cells T:=(hb.block g hg).trans h
theorem Vi(k:Nat)(hk:k<=1000000):
 Calls prog 177 #[.slice none 0 0, .int .i64 (k:Int)] w λe w'=>∃u,e= .returned u/\OwnB w' w.heap.size u []/\Bl w w':=by
 have hB:=Bl.refl w;refine Dp func177 27<|Hf 9 ((k:Int)<(0:Int))<|Hw 14 (.int .i64 (IntKind.i64.wrap ((k:Int)-0))) (.int .i64 (k:Int)) (Av (Value.int .i64) (by rw[Ee (by omega) (by omega)];omega))<|Hp 6 (.bool (decide ((k:Int)>(0:Int)))) ?_;cases hq1:(decide ((k:Int)>(0:Int)))with
 |true=>
  obtain⟨cap9,w9,hr9,ho9,hb9⟩:=Q2 w k (by simp only[CQ]at*;omega) hk;refine Hx 9 (og f177 5 5) (.slice (some ⟨w.heap.size,0,none⟩) k cap9) (λ_=>Sf hr9 _ _ rfl (by kernel_rfl) (by kernel_rfl))<|Hx 2 (og f177 5 8) (.slice (some ⟨w.heap.size,0,none⟩) 0 cap9) (λ_=>XH (n:=k) _ _ rfl (by kernel_rfl) (by kernel_rfl)) ?_;exact Hr 10 (.slice (some ⟨w.heap.size,0,none⟩) 0 cap9) ⟨_,rfl,ho9,hb9⟩
 |false=>
  exact Hr 12 (.slice none 0 0) ⟨_,rfl,⟨rfl, .inl ⟨rfl,rfl⟩⟩,hB⟩
theorem Dr{K':Nat->Prop}{a':Option Addr}{n' c':Nat}{p q:List Int}(h1:Sk K w a n c p)(h2:Sk K' w a' n' c' q)(hL:Rw g w #[.slice a n c, .slice a' n' c'] 27)(hn:n<=100000)(hn':n'<=100000):
 Calls prog 174 #[.slice (some ⟨g,0,none⟩) 2 2] w λe w'=>∃u,e= .returned u/\∃a2 n2 c2,u= .slice a2 n2 c2/\Sk (λb=>w.heap.size<=b) w' a2 n2 c2 (p++q)/\Bl w w':=by
 have hw1:∀x,a=some x->0<n->x.block<w.heap.size:=λx hx hn=>h1.old hx hn;have hw2:∀x,a'=some x->0<n'->x.block<w.heap.size:=λx hx hn=>h2.old hx hn;have hgw:g<w.heap.size:=lt_of_get hL;have hB:=Bl.refl w;have l1:=h1.len;have l2:=h2.len;refine Dp func174 36<|Ho (X:=Nat×Nat) 19 (λx=>[(11, .int .i64 ((x.1:Nat):Int)),(3, .int .i64 ((x.2:Nat):Int)),(9, .slice (some ⟨g,0,none⟩) 2 2),(10, .int .i64 2),(0, .slice (some ⟨g,0,none⟩) 2 2),(2, .slice none 0 0)]) (λx v=>(Sk K v a n c p/\Sk K' v a' n' c' q/\Rw g v #[.slice a n c, .slice a' n' c'] 27/\Bl w v)/\(x=(0,0)∨x=(1,n)∨x=(2,n+n'))) (λx=>2-x.1) (0,0) ⟨⟨h1,h2,hL,hB⟩, .inl rfl⟩ ?_;clear h1 h2 hL hB;rintro x v⟨⟨h1,h2,hL,hB⟩,hx⟩ I1 hN1;rcases hx with rfl|rfl|rfl
 ·skip
  refine Hl 14 hL 0 27 (.slice a n c)<|Hw 8 (.int .i64 (IntKind.i64.wrap ((0:Int)+(n:Int)))) (.int .i64 (n:Int)) (Av (Value.int .i64) (by rw[Ee (by omega) (by omega)];omega))<|Hf 6 ((n:Int)<(0:Int)) ?_;exact hN1 10 (1,n) ⟨⟨h1,h2,hL,hB⟩, .inr (.inl rfl)⟩ (by show 2-1<2-0;omega) (λ_=>by kernel_rfl)
 ·skip
  refine Hl 14 hL 1 27 (.slice a' n' c')<|Hw 8 (.int .i64 (IntKind.i64.wrap ((n:Int)+(n':Int)))) (.int .i64 ((n+n':Nat):Int)) (Av (Value.int .i64) (by rw[Ee (by omega) (by omega)];omega))<|Hf 6 (((n+n':Nat):Int)<(0:Int)) ?_;exact hN1 10 (2,n+n') ⟨⟨h1,h2,hL,hB⟩, .inr (.inr rfl)⟩ (by show 2-2<2-1;omega) (λ_=>by kernel_rfl)
 ·skip
  have hB0:=hB;refine Hc 15 (R:=λu w'=>OwnB w' v.heap.size u []/\Bl v w') (Vi (n+n') (by omega)) ?_;rintro vO u1⟨hO,hb1⟩;replace hB:=hB.go hb1;have hsz:=hB.size;have hbv:=hb1.size;replace h1:=h1.go hb1;replace h2:=h2.go hb1;replace hL:=hL.go hb1;refine Ho (X:=Nat×Value) 12 (λx=>[(27, .int .i64 ((x.1:Nat):Int)),(6,x.2),(25, .slice (some ⟨g,0,none⟩) 2 2),(26, .int .i64 2)]) (λx v'=>(Sk K v' a n c p/\Sk K' v' a' n' c' q/\Rw g v' #[.slice a n c, .slice a' n' c'] 27/\Bl w v')/\v.heap.size<=v'.heap.size/\((x.1=0/\OwnB v' v.heap.size x.2 [])∨(x.1=1/\OwnB v' v.heap.size x.2 p)∨(x.1=2/\OwnB v' v.heap.size x.2 (p++q)))) (λx=>2-x.1) (0,vO) ⟨⟨h1,h2,hL,hB⟩,hbv, .inl ⟨rfl,hO⟩⟩ ?_;have hwv:=hB0.size;clear h1 h2 hL hB hO hbv;rintro⟨j,vP⟩ v'⟨⟨h1,h2,hL,hB⟩,hbv,hx⟩ I2 hN2;rcases hx with⟨hj,hO⟩|⟨hj,hO⟩|⟨hj,hO⟩<;>simp only at hj hO<;>subst hj
  ·skip
   refine Hl 14 hL 0 27 (.slice a n c) ?_;obtain⟨v1,w9,hr9,ho9,hb9⟩:=Ew hO h1.ag (by simp;omega) hbv;rw[A6]at ho9;refine Hx 6 (og f174 13 2) v1 (λ_=>Cu hr9 _ _ rfl (by kernel_rfl) (by kernel_rfl)) ?_;have hb9':Below w.heap.size v' w9:=hb9.mono hwv;replace hB:Bl w w9:=BY hB hb9';replace h1:=h1.under hw1 hb9';replace h2:=h2.under hw2 hb9';replace hL:=hL.under hgw hb9';exact hN2 8 (1,v1) ⟨⟨h1,h2,hL,hB⟩,by have:=hb9.size;omega, .inr (.inl ⟨rfl,ho9⟩)⟩ (by show 2-1<2-0;omega) (λ_=>by kernel_rfl)
  ·skip
   refine Hl 14 hL 1 27 (.slice a' n' c') ?_;obtain⟨v1,w9,hr9,ho9,hb9⟩:=Ew hO h2.ag (by omega) hbv;refine Hx 6 (og f174 13 2) v1 (λ_=>Cu hr9 _ _ rfl (by kernel_rfl) (by kernel_rfl)) ?_;have hb9':Below w.heap.size v' w9:=hb9.mono hwv;replace hB:Bl w w9:=BY hB hb9';replace h1:=h1.under hw1 hb9';replace h2:=h2.under hw2 hb9';replace hL:=hL.under hgw hb9';exact hN2 8 (2,v1) ⟨⟨h1,h2,hL,hB⟩,by have:=hb9.size;omega, .inr (.inr ⟨rfl,ho9⟩)⟩ (by show 2-2<2-1;omega) (λ_=>by kernel_rfl)
  ·skip
   obtain⟨a9,c9,rfl,hs9⟩:=hO.sk (K:=λb=>w.heap.size<=b) (KO h1.ag.b h2.ag.b) (λb hb=>by omega);exact Hr 19 (.slice a9 (p++q).length c9) ⟨_,rfl,_,_,_,rfl,hs9,hB⟩
end Go.Proofs.YtalhnnjpjaeakaaGreat
namespace Go.Proofs.YtalhnnjpjaeakaaGreat.Ni
theorem common_any(a1 a2:Option Addr)(n1 c1 n2 c2:Nat)(p q:List Int)(w:World)(h1:Ag w a1 n1 c1 p)(h2:Ag w a2 n2 c2 q)(hn1:n1<=140737488355328)(hn2:n2<=140737488355328):
 Calls prog 175 #[.slice a1 n1 c1, .slice a2 n2 c2] w λe w'=>e= .returned (.int .i64 (com p q:Nat))/\Below w.heap.size w w':=by
 have HL1:=Xba h1.l;have HL2:=Xba h2.l;have HC1:=Xba (λh=>ag_head h1 h);have HC2:=Xba (λh=>ag_head h2 h);clear h1 h2;obtain⟨res,hres⟩:∃r,com p q=r:=⟨_,rfl⟩;rw[hres];have HRES:=Xba hres;clear hres;go_enter func175,ntmps175;go_wp2_with fail
 go_loopw [5] (λi v=>∃j:Nat,j<=n1/\j<=n2/\i= .int .i64 j/\p.take j=q.take j/\Below w.heap.size w v) (λi _=>n1-(intOf i).toNat)
 case atStart=>exact⟨0,by omega,by omega,rfl,rfl,Ak _ _⟩
 case round=>
  obtain⟨j,hj1,hj2,rfl,htk,hb⟩:=hrel;have HTK:=Xba htk;have HBW:=Xba hb;clear htk hb;have HD:Hid ((j=p.length∨j=q.length∨p.getD j 0≠q.getD j 0)->res=j):=Xba (λh=>HRES.out.symm.trans (Lq p q j (by have:=HL1.out;omega) (by have:=HL2.out;omega) HTK.out h));by_cases hlt1:j<n1
  case neg=>
   have hji:¬(j:Int)<n1:=(by omega);have e:=HD.out (.inl (by have:=HL1.out;omega));subst e;go_wp2_with fail
   go_region
   all_goals
    go_wp2_with fail;go_ret;exact⟨rfl,HBW.out.drew⟩
  have hji1:(j:Int)<n1:=by omega
  by_cases hlt2:j<n2
  case neg=>
   have hji:¬(j:Int)<n2:=(by omega);have e:=HD.out (.inr (.inl (by have:=HL2.out;omega)));subst e;go_wp2_with fail
   go_region
   all_goals
    go_wp2_with fail;go_ret;exact⟨rfl,HBW.out.drew⟩
  have hji2:(j:Int)<n2:=by omega
  obtain⟨g1,o1,rfl,hnc1,hcm1,hcs1⟩:=HC1.out (by omega);obtain⟨g2,o2,rfl,hnc2,hcm2,hcs2⟩:=HC2.out (by omega);unfold maxLen at hcm1 hcm2;have hcell1:=(HBW.out.cell (p:=⟨g1,o1+j,none⟩) (Aj (hcs1 j hlt1))).trans (hcs1 j hlt1);have hcell2:=(HBW.out.cell (p:=⟨g2,o2+j,none⟩) (Aj (hcs2 j hlt2))).trans (hcs2 j hlt2);have HT1:=Xba (take_snoc (b:=p) (i:=j) (by have:=HL1.out;omega));have HT2:=Xba (take_snoc (b:=q) (i:=j) (by have:=HL2.out;omega));generalize p.getD j 0=x at*;generalize q.getD j 0=y at*;clear hcs1 hcs2;by_cases hxy:x=y
  ·subst hxy;have hq:(x==x)=true:=(by simp);go_wp2_with fail
   go_region
   all_goals
    go_wp2_with fail;exact⟨⟨j+1,by omega,by omega,by simp,by rw[HT1.out,HT2.out,HTK.out],HBW.out.drew⟩,by simp[intOf];omega⟩
  ·have e:=HD.out (.inr (.inr hxy));subst e;have hq:(x==y)=false:=(by simpa using hxy);clear hxy;go_wp2_with fail
   go_region
   all_goals
    go_wp2_with fail;go_ret;exact⟨rfl,HBW.out.drew⟩
end Go.Proofs.YtalhnnjpjaeakaaGreat.Ni
namespace Go.Proofs.YtalhnnjpjaeakaaGreat
open Tr
variable {K : Nat → Prop} {w w' : World} {a aq : Option Addr} {n c g nq cq : Nat} {r x q : List Int} {k : Nat → Tr} {vs : Nat → Value} {p : Addr}
theorem EV{P:Program}{ρ:Operand->Value}{w:World}{o:Oper}{kd:IntKind}(T:TypeId)(x y:Operand)(g off j len sz:Nat)(E:TypeId)(ho:o.op= .indexAddr T x y)(hx:ρ x= .pointer (some ⟨g,off,none⟩))(hy:ρ y= .int kd j)(hj:j<len)(h2:1<len)(hu:P.underlying T=some (.array len E))(hi:(P.info? E).map (·.size)=some sz):
 (execOp ρ o).run P w= .ok (.value (.pointer (some ⟨g,off+j*sz,none⟩))) w:=by
 have hs:(sizeOf E).run P w= .ok sz w:=by
  cases hq:P.info? E with
  |none=>simp[hq]at hi
  |some z=>simp[hq]at hi;simp[sizeOf,typeInfo,hq,hi]
 unfold execOp;rw[ho];simp only[hx,hy];have he:(if j*sz=0 then(⟨g,off,none⟩:Addr)else⟨g,off+j*sz,none⟩)=⟨g,off+j*sz,none⟩:=by split<;>simp_all
 simp[Instr.indexAt,Instr.sureAddr,asIntOf,B7 hu,hs,hj,Result.andThen,Addr.add,he]
theorem Sk.head{i:Int}(h:Sk K w a n c (i::r)):∃g o,a=some ⟨g,o,none⟩/\w.cell? ⟨g,o+0*1,none⟩=some (.int .u8 i)/\0<n:=by
 have hl:=h.len;rw[AS]at hl;rcases h.ag.i with⟨h1,h2⟩|⟨gb,off,h1,h2,h3,h4,h5,h7⟩
 ·omega
 ·exact⟨gb,off,h1,by rw[show off+0*1=off+0 from by omega,h7 0 (by simp)];rfl,h3⟩
def TK(K:Nat->Prop)(w:World)(k:Nat->Tr)(vs:Nat->Value):Prop:=∀i,i<16->TA K w (k i) (vs i)
theorem TK.go(h:TK K w k vs)(hb:Below w.heap.size w w'):TK K w' k vs:=λi hi=>(h i hi).go hb
theorem TK.drew(h:TK K w k vs):TK K w.drew k vs:=λi hi=>(h i hi).drew
structure Sx(g:Nat)(cells:Array Value)(T:TypeId)(p:Addr)(x:Value)(w:World):Prop where
 r:Rw g w cells T
 c:w.cell? p=some x
theorem Sx.go{cells:Array Value}{T:TypeId}{x:Value}(h:Sx g cells T p x w)(hb:Below w.heap.size w w'):Sx g cells T p x w':=⟨h.r.go hb,(hb.cell (p:=p) (Aj h.c)).trans h.c⟩
theorem Sx.drew{cells:Array Value}{T:TypeId}{x:Value}(h:Sx g cells T p x w):Sx g cells T p x w.drew:=h.go (Ak _ _).drew
def RS(K:Nat->Prop)(w:World)(x:List Int):Value->World->Prop:=λu w'=>(∃a n c,u= .slice a n c/\Sk K w' a n c x)/\Bl w w'
def TRs(K:Nat->Prop)(w:World)(t:Tr):Value->World->Prop:=λu w'=>TA K w' t u/\Bl w w'
def FS(t:Tr):Prop:=∀{K:Nat->Prop}{w:World}{v:Value}{a:Option Addr}{n c:Nat}{q:List Int}{B:Nat},Ok B t->TA K w t v->Sk K w a n c q->Nb q->MC "pergola/trie.find" v #[.slice a n c] w (RS K w (Tr.get t q))
theorem Tt{a':Option Addr}{n' c':Nat}{p:List Int}(hp:Sk K w a n c p)(hx:Sk K w a' n' c' x)(hq:Sk K w aq nq cq q):
 Calls prog 169 #[.agg #[.slice a n c, .slice a' n' c'], .slice aq nq cq] w λe w'=>∃u,e= .returned u/\RS K w (Tr.get (leaf p x) q) u w':=by
 have hB:=Bl.refl w;refine Dp func169 12<|Hn 2 (#[.slice a n c, .slice a' n' c']) 98 ?_;intro w1 g2 hn3 hr4;refine Hl 8 hr4 0 27 (.slice a n c) ?_;replace hp:=hp.go hn3.below;replace hq:=hq.go hn3.below;refine Hc 0 (R:=λu w'=>u= .bool (decide (q=p))/\Bl (w1) w') ((Gm hq hp)) ?_;rintro _ u5⟨rfl,hb6⟩;refine Hp 0 (.bool (!(decide (q=p)))) ?_;by_cases hqp:q=p
 ·skip
  rw[show decide (q=p)=true from AT hqp];replace hr4:=hr4.go hb6;refine Hl 8 hr4 1 27 (.slice a' n' c') ?_;replace hB:=(hB.go hn3.below).go hb6;replace hx:=(hx.go hn3.below).go hb6;exact Hr 4 (.slice a' n' c') ⟨_,rfl,⟨_,_,_,rfl,by simp only[Tr.get];rw[Af hqp];exact hx⟩,hB⟩
 ·skip
  rw[show decide (q=p)=false from AU hqp];replace hB:=(hB.go hn3.below).go hb6;exact Hr 10 (.slice none 0 0) ⟨_,rfl,⟨_,_,_,rfl,by simp only[Tr.get];rw[Ad hqp];exact Sk.nil _ _⟩,hB⟩
theorem Tv{B:Nat}{p:List Int}{t:Tr}{u0:Value}(hp:Sk K w a n c p)(ht:TA K w t u0)(hO:Ok B t)(hF:FS t)(hq:Sk K w aq nq cq q)(hnb:Nb q):
 Calls prog 189 #[.agg #[.slice a n c,u0], .slice aq nq cq] w λe w'=>∃u,e= .returned u/\RS K w (Tr.get (ext p t) q) u w':=by
 have hB:=Bl.refl w;refine Dp func189 20<|Hn 2 (#[.slice a n c,u0]) 220 ?_;intro w1 g2 hn3 hr4;refine Hl 7 hr4 0 27 (.slice a n c) ?_;replace hp:=hp.go hn3.below;replace hq:=hq.go hn3.below;refine Hc 0 (R:=λu w'=>∃a2 n2 c2 b,u= .tuple #[.slice a2 n2 c2, .bool b]/\b=decide (q.take p.length=p)/\(q.take p.length=p->Sk K w' a2 n2 c2 (q.drop p.length))/\Bl (w1) w') ((MG hq hp)) ?_;rintro _ u5⟨a2,n2,c2,b,rfl,eb,hs2,hb6⟩;refine Hp 0 (.tuple #[.slice a2 n2 c2, .bool b])<|Hp 1 (.bool b)<|Hp 1 (.bool b) ?_;by_cases hqp:q.take p.length=p
 ·skip
  obtain rfl:b=true:=by rw[eb];exact AT hqp
  replace hs2:=hs2 hqp;replace hr4:=hr4.go hb6;refine Hl 15 hr4 1 65 (u0) ?_;replace ht:=(ht.go hn3.below).go hb6;obtain⟨T11,x12,f13,he14,hi9,hc10⟩:=hF hO ht hs2 (hnb.drop _);refine Hm 1 (og f189 4 3) f13 (#[x12]++#[.slice a2 n2 c2]) (λ_=>hi9 _ _ _ _ _ _ _ rfl (by kernel_rfl) (by kernel_rfl)) (R:=RS K (u5) (Tr.get t (q.drop p.length))) ?_ ?_
  ·exact hc10
  rintro _ u7⟨⟨a3,n3,c3,rfl,hs3⟩,hb8⟩;replace hB:=((hB.go hn3.below).go hb6).go hb8;exact Hr 4 (.slice a3 n3 c3) ⟨_,rfl,⟨_,_,_,rfl,by simp only[Tr.get];rw[Af hqp];exact hs3⟩,hB⟩
 ·skip
  obtain rfl:b=false:=by rw[eb];exact AU hqp
  replace hB:=(hB.go hn3.below).go hb6;exact Hr 17 (.slice none 0 0) ⟨_,rfl,⟨_,_,_,rfl,by simp only[Tr.get];rw[Ad hqp];exact Sk.nil _ _⟩,hB⟩
theorem XI(hq:Sk K w aq nq cq q):
 Calls prog 33 #[.nilIface, .slice aq nq cq] w λe w'=>∃u,e= .returned u/\RS K w (Tr.get no q) u w':=by
 have hB:=Bl.refl w;refine Dp func33 10 ?_;exact Hr 20 (.slice none 0 0) ⟨_,rfl,⟨_,_,_,rfl,by simp only[Tr.get];exact Sk.nil _ _⟩,hB⟩
theorem Vj{T0:TypeId}{v0:Value}(hm:MC "pergola/trie.find" (.iface T0 v0) #[.slice aq nq cq] w (RS K w x)):
 Calls prog 33 #[.iface T0 v0, .slice aq nq cq] w λe w'=>∃u,e= .returned u/\RS K w x u w':=by
 have hB:=Bl.refl w;refine Dp func33 10 ?_;obtain⟨T3,x4,f5,he6,hi1,hc2⟩:=hm;refine Hm 19 (og f33 3 2) f5 (#[x4]++#[.slice aq nq cq]) (λ_=>hi1 _ _ _ _ _ _ _ rfl (by kernel_rfl) (by kernel_rfl)) (R:=RS K w x) ?_ ?_
 ·exact hc2
 rintro _ u1⟨⟨a3,n3,c3,rfl,hs3⟩,hb⟩;replace hB:=hB.go hb;exact Hr 4 (.slice a3 n3 c3) ⟨_,rfl,⟨_,_,_,rfl,hs3⟩,hB⟩
theorem GO{t:Tr}{v:Value}(hF:t=no∨∃B,Ok B t/\FS t)(ht:TA K w t v)(hq:Sk K w aq nq cq q)(hnb:Nb q):
 Calls prog 33 #[v, .slice aq nq cq] w λe w'=>∃u,e= .returned u/\RS K w (Tr.get t q) u w':=by
 rcases hF with rfl|⟨B,hO,hF⟩
 ·rw[show v= .nilIface from ht];exact XI hq
 ·have hm:=hF hO ht hq hnb;obtain⟨T,x,f,rfl,_⟩:=id hm;exact Vj hm
theorem Tw(hk:TK K w k vs)(hx:Sk K w a n c x):
 Calls prog 181 #[.agg (brc vs (.slice a n c)), .slice aq 0 cq] w λe w'=>∃u,e= .returned u/\RS K w (Tr.get (br k x) []) u w':=by
 have hB:=Bl.refl w;refine Dp func181 19<|Hn 2 (brc vs (.slice a n c)) 215 ?_;intro w1 g2 hn3 hr4;refine Hl 15 hr4 16 27 (.slice a n c) ?_;replace hB:=hB.go hn3.below;replace hx:=hx.go hn3.below;exact Hr 5 (.slice a n c) ⟨_,rfl,⟨_,_,_,rfl,by simp only[Tr.get];exact hx⟩,hB⟩
theorem Q3(hk:TK K w k vs)(hx:Sk K w a n c x){gq oq i:Nat}(hi:i<16)(hq:Sk K w (some ⟨gq,oq,none⟩) nq cq ((i:Int)::r))(hnq:0<nq)(hc0:w.cell? ⟨gq,oq+0*1,none⟩=some (.int .u8 (i:Int)))(hF:k i=no∨∃B,Ok B (k i)/\FS (k i))(hnb:Nb r):
 Calls prog 181 #[.agg (brc vs (.slice a n c)), .slice (some ⟨gq,oq,none⟩) nq cq] w λe w'=>∃u,e= .returned u/\RS K w (Tr.get (k i) r) u w':=by
 have hB:=Bl.refl w;refine Dp func181 19<|Hn 2 (brc vs (.slice a n c)) 215 ?_;intro w1 g2 hn3 hr4;refine Hz 8 (nq:Int) (0:Int) ?_;replace hB:=hB.go hn3.below;have hS:Sx g2 (brc vs (.slice a n c)) 215 ⟨gq,oq+0*1,none⟩ (.int .u8 (i:Int)) w1:=⟨hr4,(hB.cell (p:=⟨gq,oq+0*1,none⟩) (Aj hc0)).trans hc0⟩;refine GK 6 (λv=>Sx g2 (brc vs (.slice a n c)) 215 ⟨gq,oq+0*1,none⟩ (.int .u8 (i:Int)) v) (hS.drew) ?_;replace hS:=hS.drew;refine Dx [0] 1 (og f181 3 1) (.pointer (some ⟨gq,oq+0*1,none⟩)) (λv hv _=>AV 27 _ _ gq oq 0 nq cq 1 5 rfl (by kernel_rfl) (by kernel_rfl) (by omega) underlying27 (by kernel_rfl)) hS<|Dx [] 2 (og f181 3 2) (.int .u8 (i:Int)) (λv hv _=>AF 5 _ _ _ _ rfl (by kernel_rfl) hv.c underlying5 rfl) hS<|Dx [3] 4 (og f181 3 4) (.pointer (some ⟨g2,0+i*1,none⟩)) (λv hv _=>EV (kd:= .u8) 213 _ _ g2 0 i 16 1 65 rfl (by kernel_rfl) (by kernel_rfl) hi (by omega) underlying213 (by kernel_rfl)) hS<|Dx [] 5 (og f181 3 5) (vs i) (λv hv _=>AF 65 _ ⟨g2,0+i*1,none⟩ _ _ rfl (by kernel_rfl) (by rw[AD,Ce,Ae _ _ _ _ _ _ hv.r,Ie _ _ _ hi]) underlying65 rfl) hS ?_;replace hq:=(hq.go hn3.below).drew;obtain⟨a5,n6,c7,hr8,hs9⟩:=hq.cutFrom 1 (by have:=hq.len;omega);refine Dx [6] 7 (og f181 3 7) (.slice a5 n6 c7) (λv hv=>(λ_=>hr8 _ _ _ _ _ _ rfl (by kernel_rfl) (by kernel_rfl) rfl)) hS<|Dz [8] ?_;replace hk:=(hk.go hn3.below).drew;refine Yc 8 (R:=RS K (w1.drew) (Tr.get (k i) r)) ((GO hF (hk i hi) hs9 hnb)) (λu w' h=>hS.go h.2) ?_ yn;rintro _ u10⟨⟨a3,n3,c3,rfl,hs3⟩,hb11⟩;replace hS:=hS.go hb11;refine Dq [9] hS ?_;replace hB:=hB.drew.go hb11;exact Hr 2 (.slice a3 n3 c3) ⟨_,rfl,⟨_,_,_,rfl,hs3⟩,hB⟩
theorem Oc(t:Tr):FS t:=by
 induction t with
 |no=>intro K w v a n c q B hO;exact hO.elim
 |leaf p x=>
  intro K w v a n c q B hO ht hq hnb;obtain⟨a1,n1,c1,a2,n2,c2,rfl,h1,h2,h3⟩:=ht;exact⟨_,_,_,rfl,Tk _,Tt h1 h2 hq⟩
 |ext p t ih=>
  intro K w v a n c q B hO ht hq hnb;obtain⟨a1,n1,c1,u,rfl,h1,h2⟩:=ht;exact⟨_,_,_,rfl,Tl _,Tv h1 h2 hO.2.2.2.2 ih hq hnb⟩
 |br k x ih=>
  intro K w v a n c q B hO ht hq hnb;obtain⟨vs,a1,n1,c1,rfl,h1,h2,h3⟩:=ht;refine⟨_,_,_,rfl,Tn _,?_⟩;cases q with
  |nil=>
   obtain rfl:n=0:=hq.len.symm;exact Tw h1 h2
  |cons i r=>
   obtain⟨g,o,rfl,hc,hn⟩:=hq.head;have hi:=hnb.head;obtain⟨j,rfl⟩:=Dm hi.1;have hF:k j=no∨∃B,Ok B (k j)/\FS (k j):=by
    rcases hO.1 j with h|⟨_,_,h⟩
    ·exact .inl h
    ·exact .inr ⟨_,h,ih j⟩
   exact Q3 h1 h2 (by omega) hq hn hc hF hnb.tail
end Go.Proofs.YtalhnnjpjaeakaaGreat
namespace Go.Proofs.YtalhnnjpjaeakaaGreat
open Tr
variable {K : Nat → Prop} {w : World} {a aq : Option Addr} {n c nq cq : Nat} {p x q : List Int} {k : Nat → Tr} {vs : Nat → Value}
theorem Sk.mono{K':Nat->Prop}{bs:List Int}(h:Sk K w a n c bs)(hK:∀b,K b->K' b):Sk K' w a n c bs:=⟨h.ag,λx hx hn=>hK _ (h.k x hx hn)⟩
theorem TA.iface{t:Tr}{v:Value}(h:TA K w t v)(hne:t≠no):∃T x,v= .iface T x:=by
 cases t with
 |no=>exact absurd rfl hne
 |leaf p x=>obtain⟨_,_,_,_,_,_,rfl,_⟩:=h;exact⟨_,_,rfl⟩
 |ext p t=>obtain⟨_,_,_,_,rfl,_⟩:=h;exact⟨_,_,rfl⟩
 |br k x=>obtain⟨_,_,_,_,rfl,_⟩:=h;exact⟨_,_,rfl⟩
def US(t:Tr):Prop:=∀{K:Nat->Prop}{w:World}{v:Value}{a:Option Addr}{n c:Nat}{q:List Int}{B:Nat},Ok B t->TA K w t v->Sk K w a n c q->q.length<=64->B<=64->(∀b,w.heap.size<=b->K b)->MC "pergola/trie.under" v #[.slice a n c] w (TRs K w (und q t))
theorem Q4{a':Option Addr}{n' c':Nat}(hp:Sk K w a n c p)(hx:Sk K w a' n' c' x)(hn2:n'<=256)(hq:Sk K w aq nq cq q)(hK:∀b,w.heap.size<=b->K b)(hl1:p.length<=64)(hl2:q.length<=64):
 Calls prog 171 #[.agg #[.slice a n c, .slice a' n' c'], .slice aq nq cq] w λe w'=>∃u,e= .returned u/\TRs K w (und q (leaf p x)) u w':=by
 have hB:=Bl.refl w;refine Dp func171 14<|Hn 2 (#[.slice a n c, .slice a' n' c']) 98 ?_;intro w1 g2 hn3 hr4;replace hp:=hp.go hn3.below;have lp:=hp.len;replace hq:=hq.go hn3.below;have lq:=hq.len;refine GK 4 (λv=>Rw g2 v (#[.slice a n c, .slice a' n' c']) 98) (hr4.drew) ?_;replace hr4:=hr4.drew;refine Dl [0,1] 2 (λv hv=>hv) 0 27 (.slice a n c) hr4<|Dl [5] 6 (λv hv=>hv) 1 27 (.slice a' n' c') hr4<|Dz [3] ?_;refine FL 3 #[.slice aq nq cq, .slice a n c] 27 2 (λw' g h=>hr4.go h.below) ?_ yn;intro w5 g6 hn7 hL;refine Dz [4] ?_;replace hp:=hp.drew.go hn7.below;replace hq:=hq.drew.go hn7.below;replace hr4:=hr4.go hn7.below;refine Yc 4 (R:=λu w'=>∃a2 n2 c2,u= .slice a2 n2 c2/\Sk (λb=>(w5).heap.size<=b) w' a2 n2 c2 (q++p)/\Bl (w5) w') ((Dr hq hp hL (by omega) (by omega))) (λu w' h=>hr4.go (by obtain⟨_,_,_,_,_,h⟩:=h;exact h)) ?_ yn;rintro _ u8⟨a3,n3,c3,rfl,hs3,hb9⟩;replace hB:=((hB.go hn3.below).drew).go hn7.below;have hsB:=hB.size;replace hs3:Sk K u8 a3 n3 c3 (q++p):=hs3.mono (λb hb=>hK b (Al hsB hb));replace hr4:=hr4.go hb9;refine Dx [] 7 (og f171 1 7) (.agg #[.slice a3 n3 c3, .slice a' n' c']) (λv hv=>(λ_=>by kernel_rfl)) hr4<|Dq [8,9] hr4 ?_;replace hx:=(((hx.go hn3.below).drew).go hn7.below).go hb9;replace hB:=hB.go hb9;exact Hr 2 (.iface 98 (.agg #[.slice a3 n3 c3, .slice a' n' c'])) ⟨_,rfl,⟨_,_,_,_,_,_,rfl,hs3,hx,hn2⟩,hB⟩
theorem Q5{t:Tr}{Tu:TypeId}{xu:Value}(hp:Sk K w a n c p)(ht:TA K w t (.iface Tu xu))(hq:Sk K w aq nq cq q)(hK:∀b,w.heap.size<=b->K b)(hl1:p.length<=64)(hl2:q.length<=64):
 Calls prog 191 #[.agg #[.slice a n c, .iface Tu xu], .slice aq nq cq] w λe w'=>∃u,e= .returned u/\TRs K w (und q (ext p t)) u w':=by
 have hB:=Bl.refl w;refine Dp func191 14<|Hn 2 (#[.slice a n c, .iface Tu xu]) 220 ?_;intro w1 g2 hn3 hr4;replace hp:=hp.go hn3.below;have lp:=hp.len;replace hq:=hq.go hn3.below;have lq:=hq.len;refine GK 4 (λv=>Rw g2 v (#[.slice a n c, .iface Tu xu]) 220) (hr4.drew) ?_;replace hr4:=hr4.drew;refine Dl [0,1] 2 (λv hv=>hv) 0 27 (.slice a n c) hr4<|Dl [5] 6 (λv hv=>hv) 1 65 (.iface Tu xu) hr4<|Dz [3] ?_;refine FL 3 #[.slice aq nq cq, .slice a n c] 27 2 (λw' g h=>hr4.go h.below) ?_ yn;intro w5 g6 hn7 hL;refine Dz [4] ?_;replace hp:=hp.drew.go hn7.below;replace hq:=hq.drew.go hn7.below;replace hr4:=hr4.go hn7.below;refine Yc 4 (R:=λu w'=>∃a2 n2 c2,u= .slice a2 n2 c2/\Sk (λb=>(w5).heap.size<=b) w' a2 n2 c2 (q++p)/\Bl (w5) w') ((Dr hq hp hL (by omega) (by omega))) (λu w' h=>hr4.go (by obtain⟨_,_,_,_,_,h⟩:=h;exact h)) ?_ yn;rintro _ u8⟨a3,n3,c3,rfl,hs3,hb9⟩;replace hB:=((hB.go hn3.below).drew).go hn7.below;have hsB:=hB.size;replace hs3:Sk K u8 a3 n3 c3 (q++p):=hs3.mono (λb hb=>hK b (Al hsB hb));replace hr4:=hr4.go hb9;refine Dx [] 7 (og f191 1 7) (.agg #[.slice a3 n3 c3, .iface Tu xu]) (λv hv=>(λ_=>by kernel_rfl)) hr4<|Dq [8,9] hr4 ?_;replace ht:=(((ht.go hn3.below).drew).go hn7.below).go hb9;replace hB:=hB.go hb9;exact Hr 2 (.iface 220 (.agg #[.slice a3 n3 c3, .iface Tu xu])) ⟨_,rfl,⟨_,_,_,_,rfl,hs3,ht⟩,hB⟩
theorem Vl(hk:TK K w k vs)(hx:Sk K w a n c x)(hn2:n<=256)(hq:Sk K w aq nq cq q)(hnq:nq=0):
 Calls prog 184 #[.agg (brc vs (.slice a n c)), .slice aq nq cq] w λe w'=>∃u,e= .returned u/\TRs K w (und q (br k x)) u w':=by
 have hB:=Bl.refl w;refine Dp func184 15<|Hn 2 (brc vs (.slice a n c)) 215 ?_;intro w1 g2 hn3 hr4;refine Hq 8 (nq:Int) (0:Int)<|Hx 5 (og f184 2 0) (.agg (brc vs (.slice a n c))) (λ_=>Ep 215 _ _ _ _ _ _ rfl (by kernel_rfl) hr4 underlying215 rfl (by kernel_rfl)) ?_;replace hB:=hB.go hn3.below;replace hx:=hx.go hn3.below;replace hq:=hq.go hn3.below;replace hk:=hk.go hn3.below;exact Hr 6 (.iface 215 (.agg (brc vs (.slice a n c)))) ⟨_,rfl,(by have e:q=[]:=Ar (by have:=hq.len;omega);subst e;exact⟨vs,_,_,_,rfl,hk,hx,hn2⟩),hB⟩
theorem Vm(hk:TK K w k vs)(hx:Sk K w a n c x)(hn2:n<=256)(hq:Sk K w aq nq cq q)(hnq:0<nq):
 Calls prog 184 #[.agg (brc vs (.slice a n c)), .slice aq nq cq] w λe w'=>∃u,e= .returned u/\TRs K w (und q (br k x)) u w':=by
 have hB:=Bl.refl w;refine Dp func184 15<|Hn 2 (brc vs (.slice a n c)) 215 ?_;intro w1 g2 hn3 hr4;refine Hz 8 (nq:Int) (0:Int)<|Hx 8 (og f184 3 1) (.agg (brc vs (.slice a n c))) (λ_=>Ep 215 _ _ _ _ _ _ rfl (by kernel_rfl) hr4 underlying215 rfl (by kernel_rfl)) ?_;replace hq:=hq.go hn3.below;have e:q≠[]:=by intro e;have:=hq.len;rw[e,Cj]at this;omega
 replace hB:=hB.go hn3.below;replace hx:=hx.go hn3.below;replace hk:=hk.go hn3.below;exact Hr 7 (.iface 220 (.agg #[.slice aq nq cq, .iface 215 (.agg (brc vs (.slice a n c)))])) ⟨_,rfl,(by simp only[und];rw[Ad e];exact⟨_,_,_,_,rfl,hq,vs,_,_,_,rfl,hk,hx,hn2⟩),hB⟩
theorem Vn{v:Value}(ht:TA K w (br k x) v)(hq:Sk K w a n c q):MC "pergola/trie.under" v #[.slice a n c] w (TRs K w (und q (br k x))):=by
 obtain⟨vs,a1,n1,c1,rfl,h1,h2,h3⟩:=ht;refine⟨_,_,_,rfl,Qy _,?_⟩;rcases EG n with h|h
 ·exact Vl h1 h2 h3 hq h
 ·exact Vm h1 h2 h3 hq h
theorem Q6(t:Tr):US t:=by
 cases t with
 |no=>intro K w v a n c q B hO;exact hO.elim
 |leaf p x=>
  intro K w v a n c q B hO ht hq hl hB hK;obtain⟨a1,n1,c1,a2,n2,c2,rfl,h1,h2,h3⟩:=ht;exact⟨_,_,_,rfl,Qw _,Q4 h1 h2 h3 hq hK (Al hO.2.1 hB) hl⟩
 |ext p t=>
  intro K w v a n c q B hO ht hq hl hB hK;obtain⟨a1,n1,c1,u,rfl,h1,h2⟩:=ht;obtain⟨Tu,xu,rfl⟩:=h2.iface (λe=>by rw[e]at hO;exact absurd hO.2.2.2.1 (by simp[isBr]));exact⟨_,_,_,rfl,Qx _,Q5 h1 h2 hq hK (Al hO.2.2.1 hB) hl⟩
 |br k x=>
  intro K w v a n c q B hO ht hq hl hB hK;exact Vn ht hq
end Go.Proofs.YtalhnnjpjaeakaaGreat
