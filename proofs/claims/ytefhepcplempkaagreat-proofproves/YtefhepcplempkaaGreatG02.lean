/- Slices of bytes joined. -/
import Derived.Test.YtefhepcplempkaaGreatAK
import Derived.Test.YtefhepcplempkaaGreatG01
set_option linter.unusedVariables false
set_option maxRecDepth 100000
set_option maxHeartbeats 1000000
open Go.Proofs.Tryz Go.RowKit
namespace Go.Proofs.YtefhepcplempkaaGreat
variable {K : Nat → Prop} {w w' : World} {a : Option Addr} {n c B g : Nat}
theorem Gr{w w':World}{v u r:Value}{t1 t2:TypeId}{ρ:Operand->Value}{o:Oper}(hr:∀ty,(Builtin.append_ #[t1,t2] ty #[v,u]).run prog w= .ok r w')(x y:Operand)(ho:o.op= .call {callee:= .builtin .append,args:=#[x,y],argTypes:=#[t1,t2]})(hx:ρ x=v)(hy:ρ y=u):(execOp ρ o).run prog w= .ok (.value r) w':=by
 unfold execOp;simp only[ho,resolve,invoke,builtin,B9,BA,Ba,CU,BX,DB,hx,hy,hr]
theorem Lu(n:Nat):(Builtin.zeroCells #[Value.int .u8 0] n).size=n:=by simp[Builtin.zeroCells]
theorem Qd(w:World)(k:Nat)(h0:0<k)(hk:k<=1000000):∃cap w9,(∀ty,(Builtin.append_ #[23,3] ty #[.slice none 0 0, .int .i64 (k:Int)]).run prog w= .ok (.slice (some ⟨w.heap.size,0,none⟩) k cap) w9)/\OwnB w9 w.heap.size (.slice (some ⟨w.heap.size,0,none⟩) 0 cap) []/\Bl w w9:=by
 obtain⟨i,hi,hz,hsz,hby⟩:=info5;have hr:=λty=>Lib.run_append_nil_zeros (P:=prog) w 23 3 ty 5 i (.int .u8 0) .i64 .i64 underlying23 underlying3 hi hz k h0 (by omega) (by omega) (by rw[hby];omega);refine⟨_,_,hr,⟨rfl, .inr ⟨w.heap.size,_,_,rfl,Aa _,Aj _ _,AD _,grownCap_le_maxLen _ _ _ _ (by unfold maxLen;omega),?_,rfl⟩⟩,?_⟩
 ·rw[Array.size_append,show(Value.int IntKind.u8 0).cells=#[.int .u8 0]from rfl,Lu,Lu];have:=grownCap_ge w k 0 5;omega
 ·exact(Ak _ _).drew.alloc (Aa _) _
theorem WM{w:World}{g n cap:Nat}{ρ:Operand->Value}{o:Oper}(x y:Operand)(ho:o.op= .slice 23 x none (some y) none)(hx:ρ x= .slice (some ⟨g,0,none⟩) n cap)(hy:ρ y= .int .i64 0):
 (execOp ρ o).run prog w= .ok (.value (.slice (some ⟨g,0,none⟩) 0 cap)) w:=by
 unfold execOp;rw[ho];simp[hx,hy,Instr.sliceAt,BE underlying23,Instr.slice,Instr.sliceBounds,Instr.sliceBound,asIntOf,BO,Result.andThen]
theorem Sk.old{bs:List Int}(h:Sk K w a n c bs){x:Addr}(hx:a=some x)(hn:0<n):x.block<w.heap.size:=by
 rcases h.ag.i with⟨h1,h2⟩|⟨gb,off,h1,h2,h3,h4,h5,h7⟩
 ·omega
 ·rw[hx]at h1;cases h1;have:=Af (h7 0 (by omega));exact this
theorem Sk.under{bs:List Int}(h:Sk K w a n c bs)(hx:∀x,a=some x->0<n->x.block<B)(hb:Below B w w'):Sk K w' a n c bs:=by
 refine⟨⟨?_,h.ag.nil,h.ag.l,h.ag.b⟩,h.k⟩;rcases h.ag.i with h1|⟨gb,off,h1,h2,h3,h4,h5,h7⟩
 ·exact .inl h1
 ·exact .inr ⟨gb,off,h1,h2,h3,h4,h5,λj hj=>(hb.cell (p:=⟨gb,off+j,none⟩) (show gb<B from hx ⟨gb,off,none⟩ h1 h3)).trans (h7 j hj)⟩
theorem Rw.under{cells:Array Value}{T:TypeId}(h:Rw g w cells T)(hg:g<B)(hb:Below B w w'):Rw g w' cells T:=(hb.block g hg).trans h
theorem Uv(k:Nat)(hk:k<=1000000):
 Calls prog 185 #[.slice none 0 0, .int .i64 (k:Int)] w λe w'=>∃u,e= .returned u/\OwnB w' w.heap.size u []/\Bl w w':=by
 have hB:=Bl.refl w;refine EO func185 27<|Hf 9 ((k:Int)<(0:Int))<|Hw 14 (.int .i64 (IntKind.i64.wrap ((k:Int)-0))) (.int .i64 (k:Int)) (Au (Value.int .i64) (by rw[Ec (by omega) (by omega)];omega))<|Hp 6 (.bool (decide ((k:Int)>(0:Int)))) ?_;cases hq1:(decide ((k:Int)>(0:Int)))with
 |true=>
  obtain⟨cap9,w9,hr9,ho9,hb9⟩:=Qd w k (by simp only[Dv]at*;omega) hk;refine Hx 9 (og f185 5 5) (.slice (some ⟨w.heap.size,0,none⟩) k cap9) (λ_=>Gr hr9 _ _ rfl (by kernel_rfl) (by kernel_rfl))<|Hx 2 (og f185 5 8) (.slice (some ⟨w.heap.size,0,none⟩) 0 cap9) (λ_=>WM (n:=k) _ _ rfl (by kernel_rfl) (by kernel_rfl)) ?_;exact Hr 10 (.slice (some ⟨w.heap.size,0,none⟩) 0 cap9) ⟨_,rfl,ho9,hb9⟩
 |false=>
  exact Hr 12 (.slice none 0 0) ⟨_,rfl,⟨rfl, .inl ⟨rfl,rfl⟩⟩,hB⟩
theorem D1{K':Nat->Prop}{a':Option Addr}{n' c':Nat}{p q:List Int}(h1:Sk K w a n c p)(h2:Sk K' w a' n' c' q)(hL:Rw g w #[.slice a n c, .slice a' n' c'] 23)(hn:n<=100000)(hn':n'<=100000):
 Calls prog 183 #[.slice (some ⟨g,0,none⟩) 2 2] w λe w'=>∃u,e= .returned u/\∃a2 n2 c2,u= .slice a2 n2 c2/\Sk (λb=>w.heap.size<=b) w' a2 n2 c2 (p++q)/\Bl w w':=by
 have hw1:∀x,a=some x->0<n->x.block<w.heap.size:=λx hx hn=>h1.old hx hn;have hw2:∀x,a'=some x->0<n'->x.block<w.heap.size:=λx hx hn=>h2.old hx hn;have hgw:g<w.heap.size:=lt_of_get hL;have hB:=Bl.refl w;have l1:=h1.len;have l2:=h2.len;refine EO func183 36<|Ho (X:=Nat×Nat) 19 (λx=>[(11, .int .i64 ((x.1:Nat):Int)),(3, .int .i64 ((x.2:Nat):Int)),(9, .slice (some ⟨g,0,none⟩) 2 2),(10, .int .i64 2),(0, .slice (some ⟨g,0,none⟩) 2 2),(2, .slice none 0 0)]) (λx v=>(Sk K v a n c p/\Sk K' v a' n' c' q/\Rw g v #[.slice a n c, .slice a' n' c'] 23/\Bl w v)/\(x=(0,0)∨x=(1,n)∨x=(2,n+n'))) (λx=>2-x.1) (0,0) ⟨⟨h1,h2,hL,hB⟩, .inl rfl⟩ ?_;clear h1 h2 hL hB;rintro x v⟨⟨h1,h2,hL,hB⟩,hx⟩ I1 hN1;rcases hx with rfl|rfl|rfl
 ·skip
  refine Hl 14 hL 0 23 (.slice a n c)<|Hw 8 (.int .i64 (IntKind.i64.wrap ((0:Int)+(n:Int)))) (.int .i64 (n:Int)) (Au (Value.int .i64) (by rw[Ec (by omega) (by omega)];omega))<|Hf 6 ((n:Int)<(0:Int)) ?_;exact hN1 10 (1,n) ⟨⟨h1,h2,hL,hB⟩, .inr (.inl rfl)⟩ (by show 2-1<2-0;omega) (λ_=>by kernel_rfl)
 ·skip
  refine Hl 14 hL 1 23 (.slice a' n' c')<|Hw 8 (.int .i64 (IntKind.i64.wrap ((n:Int)+(n':Int)))) (.int .i64 ((n+n':Nat):Int)) (Au (Value.int .i64) (by rw[Ec (by omega) (by omega)];omega))<|Hf 6 (((n+n':Nat):Int)<(0:Int)) ?_;exact hN1 10 (2,n+n') ⟨⟨h1,h2,hL,hB⟩, .inr (.inr rfl)⟩ (by show 2-2<2-1;omega) (λ_=>by kernel_rfl)
 ·skip
  have hB0:=hB;refine Hc 15 (R:=λu w'=>OwnB w' v.heap.size u []/\Bl v w') (Uv (n+n') (by omega)) ?_;rintro vO u1⟨hO,hb1⟩;replace hB:=hB.go hb1;have hsz:=hB.size;have hbv:=hb1.size;replace h1:=h1.go hb1;replace h2:=h2.go hb1;replace hL:=hL.go hb1;refine Ho (X:=Nat×Value) 12 (λx=>[(27, .int .i64 ((x.1:Nat):Int)),(6,x.2),(25, .slice (some ⟨g,0,none⟩) 2 2),(26, .int .i64 2)]) (λx v'=>(Sk K v' a n c p/\Sk K' v' a' n' c' q/\Rw g v' #[.slice a n c, .slice a' n' c'] 23/\Bl w v')/\v.heap.size<=v'.heap.size/\((x.1=0/\OwnB v' v.heap.size x.2 [])∨(x.1=1/\OwnB v' v.heap.size x.2 p)∨(x.1=2/\OwnB v' v.heap.size x.2 (p++q)))) (λx=>2-x.1) (0,vO) ⟨⟨h1,h2,hL,hB⟩,hbv, .inl ⟨rfl,hO⟩⟩ ?_;have hwv:=hB0.size;clear h1 h2 hL hB hO hbv;rintro⟨j,vP⟩ v'⟨⟨h1,h2,hL,hB⟩,hbv,hx⟩ I2 hN2;rcases hx with⟨hj,hO⟩|⟨hj,hO⟩|⟨hj,hO⟩<;>simp only at hj hO<;>subst hj
  ·skip
   refine Hl 14 hL 0 23 (.slice a n c) ?_;obtain⟨v1,w9,hr9,ho9,hb9⟩:=GN hO h1.ag (by simp;omega) hbv;rw[AL]at ho9;refine Hx 6 (og f183 13 2) v1 (λ_=>IL hr9 _ _ rfl (by kernel_rfl) (by kernel_rfl)) ?_;have hb9':Below w.heap.size v' w9:=hb9.mono hwv;replace hB:Bl w w9:=Ce hB hb9';replace h1:=h1.under hw1 hb9';replace h2:=h2.under hw2 hb9';replace hL:=hL.under hgw hb9';exact hN2 8 (1,v1) ⟨⟨h1,h2,hL,hB⟩,by have:=hb9.size;omega, .inr (.inl ⟨rfl,ho9⟩)⟩ (by show 2-1<2-0;omega) (λ_=>by kernel_rfl)
  ·skip
   refine Hl 14 hL 1 23 (.slice a' n' c') ?_;obtain⟨v1,w9,hr9,ho9,hb9⟩:=GN hO h2.ag (by omega) hbv;refine Hx 6 (og f183 13 2) v1 (λ_=>IL hr9 _ _ rfl (by kernel_rfl) (by kernel_rfl)) ?_;have hb9':Below w.heap.size v' w9:=hb9.mono hwv;replace hB:Bl w w9:=Ce hB hb9';replace h1:=h1.under hw1 hb9';replace h2:=h2.under hw2 hb9';replace hL:=hL.under hgw hb9';exact hN2 8 (2,v1) ⟨⟨h1,h2,hL,hB⟩,by have:=hb9.size;omega, .inr (.inr ⟨rfl,ho9⟩)⟩ (by show 2-2<2-1;omega) (λ_=>by kernel_rfl)
  ·skip
   obtain⟨a9,c9,rfl,hs9⟩:=hO.sk (K:=λb=>w.heap.size<=b) (KR h1.ag.b h2.ag.b) (λb hb=>by omega);exact Hr 19 (.slice a9 (p++q).length c9) ⟨_,rfl,_,_,_,rfl,hs9,hB⟩
end Go.Proofs.YtefhepcplempkaaGreat
namespace Go.Proofs.YtefhepcplempkaaGreat.Ni
theorem common_any(a1 a2:Option Addr)(n1 c1 n2 c2:Nat)(p q:List Int)(w:World)(h1:Ag w a1 n1 c1 p)(h2:Ag w a2 n2 c2 q)(hn1:n1<=140737488355328)(hn2:n2<=140737488355328):
 Calls prog 81 #[.slice a1 n1 c1, .slice a2 n2 c2] w λe w'=>e= .returned (.int .i64 (com p q:Nat))/\Below w.heap.size w w':=by
 have HL1:=ZQ h1.l;have HL2:=ZQ h2.l;have HC1:=ZQ (λh=>ag_head h1 h);have HC2:=ZQ (λh=>ag_head h2 h);clear h1 h2;obtain⟨res,hres⟩:∃r,com p q=r:=⟨_,rfl⟩;rw[hres];have HRES:=ZQ hres;clear hres;go_enter func81,ntmps81;go_wp2_with fail
 go_loopw [5] (λi v=>∃j:Nat,j<=n1/\j<=n2/\i= .int .i64 j/\p.take j=q.take j/\Below w.heap.size w v) (λi _=>n1-(intOf i).toNat)
 case atStart=>exact⟨0,by omega,by omega,rfl,rfl,Ak _ _⟩
 case round=>
  obtain⟨j,hj1,hj2,rfl,htk,hb⟩:=hrel;have HTK:=ZQ htk;have HBW:=ZQ hb;clear htk hb;have HD:Hid ((j=p.length∨j=q.length∨p.getD j 0≠q.getD j 0)->res=j):=ZQ (λh=>HRES.out.symm.trans (Lr p q j (by have:=HL1.out;omega) (by have:=HL2.out;omega) HTK.out h));by_cases hlt1:j<n1
  case neg=>
   have hji:¬(j:Int)<n1:=(by omega);have e:=HD.out (.inl (by have:=HL1.out;omega));subst e;go_wp2_with fail
   go_region
   all_goals
    go_wp2_with fail;go_ret;exact⟨rfl,HBW.out.drew⟩
  have hji1:(j:Int)<n1:=by omega
  by_cases hlt2:j<n2
  case neg=>
   have hji:¬(j:Int)<n2:=(by omega);have e:=HD.out (.inr (.inl (by have:=HL2.out;omega)));subst e;go_wp2_with fail
   go_region
   all_goals
    go_wp2_with fail;go_ret;exact⟨rfl,HBW.out.drew⟩
  have hji2:(j:Int)<n2:=by omega
  obtain⟨g1,o1,rfl,hnc1,hcm1,hcs1⟩:=HC1.out (by omega);obtain⟨g2,o2,rfl,hnc2,hcm2,hcs2⟩:=HC2.out (by omega);unfold maxLen at hcm1 hcm2;have hcell1:=(HBW.out.cell (p:=⟨g1,o1+j,none⟩) (Af (hcs1 j hlt1))).trans (hcs1 j hlt1);have hcell2:=(HBW.out.cell (p:=⟨g2,o2+j,none⟩) (Af (hcs2 j hlt2))).trans (hcs2 j hlt2);have HT1:=ZQ (take_snoc (b:=p) (i:=j) (by have:=HL1.out;omega));have HT2:=ZQ (take_snoc (b:=q) (i:=j) (by have:=HL2.out;omega));generalize p.getD j 0=x at*;generalize q.getD j 0=y at*;clear hcs1 hcs2;by_cases hxy:x=y
  ·subst hxy;have hq:(x==x)=true:=(by simp);go_wp2_with fail
   go_region
   all_goals
    go_wp2_with fail;exact⟨⟨j+1,by omega,by omega,by simp,by rw[HT1.out,HT2.out,HTK.out],HBW.out.drew⟩,by simp[intOf];omega⟩
  ·have e:=HD.out (.inr (.inr hxy));subst e;have hq:(x==y)=false:=(by simpa using hxy);clear hxy;go_wp2_with fail
   go_region
   all_goals
    go_wp2_with fail;go_ret;exact⟨rfl,HBW.out.drew⟩
end Go.Proofs.YtefhepcplempkaaGreat.Ni
namespace Go.Proofs.YtefhepcplempkaaGreat
open Tr
variable {K : Nat → Prop} {w w' : World} {k : Nat → Tr} {vs : Nat → Value} {g : Nat} {p : Addr} {x : Value}
theorem JR{P:Program}{ρ:Operand->Value}{w:World}{o:Oper}{kd:IntKind}(T:TypeId)(x y:Operand)(g off j len sz:Nat)(E:TypeId)(ho:o.op= .indexAddr T x y)(hx:ρ x= .pointer (some ⟨g,off,none⟩))(hy:ρ y= .int kd j)(hj:j<len)(h2:1<len)(hu:P.underlying T=some (.array len E))(hi:(P.info? E).map (·.size)=some sz):
 (execOp ρ o).run P w= .ok (.value (.pointer (some ⟨g,off+j*sz,none⟩))) w:=by
 have hs:(sizeOf E).run P w= .ok sz w:=by
  cases hq:P.info? E with
  |none=>simp[hq]at hi
  |some z=>simp[hq]at hi;simp[sizeOf,typeInfo,hq,hi]
 unfold execOp;rw[ho];simp only[hx,hy];have he:(if j*sz=0 then(⟨g,off,none⟩:Addr)else⟨g,off+j*sz,none⟩)=⟨g,off+j*sz,none⟩:=by split<;>simp_all
 simp[Instr.indexAt,Instr.sureAddr,asIntOf,BE hu,hs,hj,Result.andThen,Addr.add,he]
theorem Sk.head{a:Option Addr}{n c:Nat}{i:Int}{r:List Int}(h:Sk K w a n c (i::r)):∃g o,a=some ⟨g,o,none⟩/\w.cell? ⟨g,o+0*1,none⟩=some (.int .u8 i)/\0<n:=by
 have hl:=h.len;rw[AU]at hl;rcases h.ag.i with⟨h1,h2⟩|⟨gb,off,h1,h2,h3,h4,h5,h7⟩
 ·omega
 ·exact⟨gb,off,h1,by rw[show off+0*1=off+0 from by omega,h7 0 (by simp)];rfl,h3⟩
def TK(K:Nat->Prop)(w:World)(k:Nat->Tr)(vs:Nat->Value):Prop:=∀i,i<16->TA K w (k i) (vs i)
theorem TK.go(h:TK K w k vs)(hb:Below w.heap.size w w'):TK K w' k vs:=λi hi=>(h i hi).go hb
theorem TK.drew(h:TK K w k vs):TK K w.drew k vs:=λi hi=>(h i hi).drew
structure Sx(g:Nat)(cells:Array Value)(T:TypeId)(p:Addr)(x:Value)(w:World):Prop where
 r:Rw g w cells T
 c:w.cell? p=some x
theorem Sx.go{cells:Array Value}{T:TypeId}(h:Sx g cells T p x w)(hb:Below w.heap.size w w'):Sx g cells T p x w':=⟨h.r.go hb,(hb.cell (p:=p) (Af h.c)).trans h.c⟩
theorem Sx.drew{cells:Array Value}{T:TypeId}(h:Sx g cells T p x w):Sx g cells T p x w.drew:=h.go (Ak _ _).drew
def RS(K:Nat->Prop)(w:World)(x:List Int):Value->World->Prop:=λu w'=>(∃a n c,u= .slice a n c/\Sk K w' a n c x)/\Bl w w'
def TRs(K:Nat->Prop)(w:World)(t:Tr):Value->World->Prop:=λu w'=>TA K w' t u/\Bl w w'
def FS(t:Tr):Prop:=∀{K:Nat->Prop}{w:World}{v:Value}{a:Option Addr}{n c:Nat}{q:List Int}{B:Nat},Ok B t->TA K w t v->Sk K w a n c q->Nb q->MC "pergola/trie.find" v #[.slice a n c] w (RS K w (Tr.get t q))
end Go.Proofs.YtefhepcplempkaaGreat
namespace Go.Proofs.YtefhepcplempkaaGreat
open Tr
variable {K : Nat → Prop} {w w' : World} {a aq ax : Option Addr} {n c nq cq g o i cx : Nat} {p x q y : List Int} {k : Nat → Tr} {vs : Nat → Value}
theorem Sk.mono{K':Nat->Prop}{bs:List Int}(h:Sk K w a n c bs)(hK:∀b,K b->K' b):Sk K' w a n c bs:=⟨h.ag,λx hx hn=>hK _ (h.k x hx hn)⟩
theorem TA.iface{t:Tr}{v:Value}(h:TA K w t v)(hne:t≠no):∃T x,v= .iface T x:=by
 cases t with
 |no=>exact absurd rfl hne
 |leaf p x=>obtain⟨_,_,_,_,_,_,rfl,_⟩:=h;exact⟨_,_,rfl⟩
 |ext p t=>obtain⟨_,_,_,_,rfl,_⟩:=h;exact⟨_,_,rfl⟩
 |br k x=>obtain⟨_,_,_,_,rfl,_⟩:=h;exact⟨_,_,rfl⟩
def US(t:Tr):Prop:=∀{K:Nat->Prop}{w:World}{v:Value}{a:Option Addr}{n c:Nat}{q:List Int}{B:Nat},Ok B t->TA K w t v->Sk K w a n c q->q.length<=64->B<=64->(∀b,w.heap.size<=b->K b)->MC "pergola/trie.under" v #[.slice a n c] w (TRs K w (und q t))
theorem Qe{a':Option Addr}{n' c':Nat}(hp:Sk K w a n c p)(hx:Sk K w a' n' c' x)(hn2:n'<=256)(hq:Sk K w aq nq cq q)(hK:∀b,w.heap.size<=b->K b)(hl1:p.length<=64)(hl2:q.length<=64):
 Calls prog 180 #[.agg #[.slice a n c, .slice a' n' c'], .slice aq nq cq] w λe w'=>∃u,e= .returned u/\TRs K w (und q (leaf p x)) u w':=by
 have hB:=Bl.refl w;refine EO func180 14<|Hn 2 (#[.slice a n c, .slice a' n' c']) 131 ?_;intro w1 g2 hn3 hr4;replace hp:=hp.go hn3.below;have lp:=hp.len;replace hq:=hq.go hn3.below;have lq:=hq.len;refine Hj 4 (λv=>Rw g2 v (#[.slice a n c, .slice a' n' c']) 131) (hr4.drew) ?_;replace hr4:=hr4.drew;refine Dl [0,1] 2 (λv hv=>hv) 0 23 (.slice a n c) hr4<|Dl [5] 6 (λv hv=>hv) 1 23 (.slice a' n' c') hr4<|Dz [3] ?_;refine Qc 3 #[.slice aq nq cq, .slice a n c] 23 2 (λw' g h=>hr4.go h.below) ?_ yn;intro w5 g6 hn7 hL;refine Dz [4] ?_;replace hp:=hp.drew.go hn7.below;replace hq:=hq.drew.go hn7.below;replace hr4:=hr4.go hn7.below;refine Yc 4 (R:=λu w'=>∃a2 n2 c2,u= .slice a2 n2 c2/\Sk (λb=>(w5).heap.size<=b) w' a2 n2 c2 (q++p)/\Bl (w5) w') ((D1 hq hp hL (by omega) (by omega))) (λu w' h=>hr4.go (by obtain⟨_,_,_,_,_,h⟩:=h;exact h)) ?_ yn;rintro _ u8⟨a3,n3,c3,rfl,hs3,hb9⟩;replace hB:=((hB.go hn3.below).drew).go hn7.below;have hsB:=hB.size;replace hs3:Sk K u8 a3 n3 c3 (q++p):=hs3.mono (λb hb=>hK b (Ar hsB hb));replace hr4:=hr4.go hb9;refine Dx [] 7 (og f180 1 7) (.agg #[.slice a3 n3 c3, .slice a' n' c']) (λv hv=>(λ_=>by kernel_rfl)) hr4<|Dq [8,9] hr4 ?_;replace hx:=(((hx.go hn3.below).drew).go hn7.below).go hb9;replace hB:=hB.go hb9;exact Hr 2 (.iface 131 (.agg #[.slice a3 n3 c3, .slice a' n' c'])) ⟨_,rfl,⟨_,_,_,_,_,_,rfl,hs3,hx,hn2⟩,hB⟩
theorem Qf{t:Tr}{Tu:TypeId}{xu:Value}(hp:Sk K w a n c p)(ht:TA K w t (.iface Tu xu))(hq:Sk K w aq nq cq q)(hK:∀b,w.heap.size<=b->K b)(hl1:p.length<=64)(hl2:q.length<=64):
 Calls prog 198 #[.agg #[.slice a n c, .iface Tu xu], .slice aq nq cq] w λe w'=>∃u,e= .returned u/\TRs K w (und q (ext p t)) u w':=by
 have hB:=Bl.refl w;refine EO func198 14<|Hn 2 (#[.slice a n c, .iface Tu xu]) 226 ?_;intro w1 g2 hn3 hr4;replace hp:=hp.go hn3.below;have lp:=hp.len;replace hq:=hq.go hn3.below;have lq:=hq.len;refine Hj 4 (λv=>Rw g2 v (#[.slice a n c, .iface Tu xu]) 226) (hr4.drew) ?_;replace hr4:=hr4.drew;refine Dl [0,1] 2 (λv hv=>hv) 0 23 (.slice a n c) hr4<|Dl [5] 6 (λv hv=>hv) 1 74 (.iface Tu xu) hr4<|Dz [3] ?_;refine Qc 3 #[.slice aq nq cq, .slice a n c] 23 2 (λw' g h=>hr4.go h.below) ?_ yn;intro w5 g6 hn7 hL;refine Dz [4] ?_;replace hp:=hp.drew.go hn7.below;replace hq:=hq.drew.go hn7.below;replace hr4:=hr4.go hn7.below;refine Yc 4 (R:=λu w'=>∃a2 n2 c2,u= .slice a2 n2 c2/\Sk (λb=>(w5).heap.size<=b) w' a2 n2 c2 (q++p)/\Bl (w5) w') ((D1 hq hp hL (by omega) (by omega))) (λu w' h=>hr4.go (by obtain⟨_,_,_,_,_,h⟩:=h;exact h)) ?_ yn;rintro _ u8⟨a3,n3,c3,rfl,hs3,hb9⟩;replace hB:=((hB.go hn3.below).drew).go hn7.below;have hsB:=hB.size;replace hs3:Sk K u8 a3 n3 c3 (q++p):=hs3.mono (λb hb=>hK b (Ar hsB hb));replace hr4:=hr4.go hb9;refine Dx [] 7 (og f198 1 7) (.agg #[.slice a3 n3 c3, .iface Tu xu]) (λv hv=>(λ_=>by kernel_rfl)) hr4<|Dq [8,9] hr4 ?_;replace ht:=(((ht.go hn3.below).drew).go hn7.below).go hb9;replace hB:=hB.go hb9;exact Hr 2 (.iface 226 (.agg #[.slice a3 n3 c3, .iface Tu xu])) ⟨_,rfl,⟨_,_,_,_,rfl,hs3,ht⟩,hB⟩
theorem Uw(hk:TK K w k vs)(hx:Sk K w a n c x)(hn2:n<=256)(hq:Sk K w aq nq cq q)(hnq:nq=0):
 Calls prog 192 #[.agg (brc vs (.slice a n c)), .slice aq nq cq] w λe w'=>∃u,e= .returned u/\TRs K w (und q (br k x)) u w':=by
 have hB:=Bl.refl w;refine EO func192 15<|Hn 2 (brc vs (.slice a n c)) 221 ?_;intro w1 g2 hn3 hr4;refine Hq 8 (nq:Int) (0:Int)<|Hx 5 (og f192 2 0) (.agg (brc vs (.slice a n c))) (λ_=>Eb 221 _ _ _ _ _ _ rfl (by kernel_rfl) hr4 underlying221 rfl (by kernel_rfl)) ?_;replace hB:=hB.go hn3.below;replace hx:=hx.go hn3.below;replace hq:=hq.go hn3.below;replace hk:=hk.go hn3.below;exact Hr 6 (.iface 221 (.agg (brc vs (.slice a n c)))) ⟨_,rfl,(by have e:q=[]:=A3 (by have:=hq.len;omega);subst e;exact⟨vs,_,_,_,rfl,hk,hx,hn2⟩),hB⟩
theorem Ux(hk:TK K w k vs)(hx:Sk K w a n c x)(hn2:n<=256)(hq:Sk K w aq nq cq q)(hnq:0<nq):
 Calls prog 192 #[.agg (brc vs (.slice a n c)), .slice aq nq cq] w λe w'=>∃u,e= .returned u/\TRs K w (und q (br k x)) u w':=by
 have hB:=Bl.refl w;refine EO func192 15<|Hn 2 (brc vs (.slice a n c)) 221 ?_;intro w1 g2 hn3 hr4;refine Hz 8 (nq:Int) (0:Int)<|Hx 8 (og f192 3 1) (.agg (brc vs (.slice a n c))) (λ_=>Eb 221 _ _ _ _ _ _ rfl (by kernel_rfl) hr4 underlying221 rfl (by kernel_rfl)) ?_;replace hq:=hq.go hn3.below;have e:q≠[]:=by intro e;have:=hq.len;rw[e,CB]at this;omega
 replace hB:=hB.go hn3.below;replace hx:=hx.go hn3.below;replace hk:=hk.go hn3.below;exact Hr 7 (.iface 226 (.agg #[.slice aq nq cq, .iface 221 (.agg (brc vs (.slice a n c)))])) ⟨_,rfl,(by simp only[und];rw[Ae e];exact⟨_,_,_,_,rfl,hq,vs,_,_,_,rfl,hk,hx,hn2⟩),hB⟩
theorem Uy{v:Value}(ht:TA K w (br k x) v)(hq:Sk K w a n c q):MC "pergola/trie.under" v #[.slice a n c] w (TRs K w (und q (br k x))):=by
 obtain⟨vs,a1,n1,c1,rfl,h1,h2,h3⟩:=ht;refine⟨_,_,_,rfl,PX _,?_⟩;rcases Ej n with h|h
 ·exact Uw h1 h2 h3 hq h
 ·exact Ux h1 h2 h3 hq h
theorem Y2(t:Tr):US t:=by
 cases t with
 |no=>intro K w v a n c q B hO;exact hO.elim
 |leaf p x=>
  intro K w v a n c q B hO ht hq hl hB hK;obtain⟨a1,n1,c1,a2,n2,c2,rfl,h1,h2,h3⟩:=ht;exact⟨_,_,_,rfl,PU _,Qe h1 h2 h3 hq hK (Ar hO.2.1 hB) hl⟩
 |ext p t=>
  intro K w v a n c q B hO ht hq hl hB hK;obtain⟨a1,n1,c1,u,rfl,h1,h2⟩:=ht;obtain⟨Tu,xu,rfl⟩:=h2.iface (λe=>by rw[e]at hO;exact absurd hO.2.2.2.1 (by simp[isBr]));exact⟨_,_,_,rfl,PW _,Qf h1 h2 hq hK (Ar hO.2.2.1 hB) hl⟩
 |br k x=>
  intro K w v a n c q B hO ht hq hl hB hK;exact Uy ht hq
def NoInt(cells:Array Value):Prop:=∀(j:Nat)(v:Value),cells[j]?=some v->∀kd z,v≠ .int kd z
structure Bs(w w':World)(g:Nat):Prop where
 other:∀k,k≠g->w'.heap[k]?=w.heap[k]?
 no:∀o kd z,w.cell? ⟨g,o,none⟩≠some (.int kd z)
theorem Bs.of{cells:Array Value}{T:TypeId}{v:Value}(h:Rw g w cells T)(hn:NoInt cells)(hs:Set1 w w' g o v):Bs w w' g:=
 ⟨λk hk=>hs.other hk,λo kd z e=>by rw[Ad _ _ _ _ _ _ h]at e;exact hn _ _ e kd z rfl⟩
theorem Sk.bs{bs:List Int}(h:Sk K w a n c bs)(hb:Bs w w' g):Sk K w' a n c bs:=by
 refine⟨⟨?_,h.ag.nil,h.ag.l,h.ag.b⟩,h.k⟩;rcases h.ag.i with h1|⟨gb,off,h1,h2,h3,h4,h5,h7⟩
 ·exact .inl h1
 ·refine .inr ⟨gb,off,h1,h2,h3,h4,h5,λj hj=>?_⟩;have hne:gb≠g:=λe=>by
   subst e;exact hb.no _ _ _ (h7 j hj)
  rw[<-h7 j hj];exact Ay (hb.other gb hne)
theorem TA.bs(hb:Bs w w' g):∀{t:Tr}{v:Value},TA K w t v->TA K w' t v:=by
 intro t
 induction t with
 |no=>intro v h;exact h
 |leaf p x=>rintro v⟨a,n,c,a',n',c',h1,h2,h3,h4⟩;exact⟨a,n,c,a',n',c',h1,h2.bs hb,h3.bs hb,h4⟩
 |ext p t ih=>rintro v⟨a,n,c,u,h1,h2,h3⟩;exact⟨a,n,c,u,h1,h2.bs hb,ih h3⟩
 |br k x ih=>rintro v⟨vs,a,n,c,h1,h2,h3,h4⟩;exact⟨vs,a,n,c,h1,λi hi=>ih i (h2 i hi),h3.bs hb,h4⟩
theorem TK.bs(h:TK K w k vs)(hb:Bs w w' g):TK K w' k vs:=λi hi=>(h i hi).bs hb
theorem Bl.set{w0:World}{v:Value}(h:Bl w0 w)(hs:Set1 w w' g o v)(hg:w0.heap.size<=g):Bl w0 w':=hs.touch.below h hg h.size
theorem Rw.set{cells cells':Array Value}{T:TypeId}{v:Value}(h:Rw g w cells T)(hs:Set1 w w' g o v)(e:cells.setIfInBounds o v=cells'):Rw g w' cells' T:=by
 rw[<-e,Rw,hs.hw];exact AX _ _ _ _ _ _ h
theorem Rw.apart{g':Nat}{cells:Array Value}{T:TypeId}{v:Value}(h:Rw g w cells T)(hs:Set1 w w' g' o v)(e:g≠g'):Rw g w' cells T:=(hs.other e).trans h
theorem TA.noint{t:Tr}{v:Value}(h:TA K w t v)(kd:IntKind)(z:Int):v≠ .int kd z:=by
 cases t with
 |no=>rw[show v= .nilIface from h];simp
 |leaf p x=>obtain⟨_,_,_,_,_,_,rfl,_⟩:=h;simp
 |ext p t=>obtain⟨_,_,_,_,rfl,_⟩:=h;simp
 |br k x=>obtain⟨_,_,_,_,rfl,_⟩:=h;simp
theorem TK.noint(h:TK K w k vs)(a:Option Addr)(n c:Nat):NoInt (brc vs (.slice a n c)):=by
 intro j v hj kd z;by_cases h16:j<16
 ·rw[N9 _ _ _ h16]at hj;cases hj;exact(h j h16).noint kd z
 ·have hl:j<(brc vs (.slice a n c)).size:=(BV.1 hj).1;have hl:j<17:=hl;obtain rfl:j=16:=by omega
  rw[show(brc vs (.slice a n c))[16]?=some (.slice a n c)from rfl]at hj;cases hj;simp
theorem TK.put(h:TK K w k vs){t:Tr}{v:Value}(ht:TA K w t v):TK K w (upd k i t) (updv vs i v):=λj hj=>by
 unfold Tr.upd updv;by_cases e:j=i
 ·rw[Ai e,Ai e];exact ht
 ·rw[Ae e,Ae e];exact h j hj
theorem TK.none(K:Nat->Prop)(w:World):TK K w nk (λ_=> .nilIface):=λ_ _=>rfl
theorem D8{ρ:Operand->Value}{w:World}{o:Oper}(T:TypeId)(x y:Operand)(g j:Nat)(cells:Array Value)(E:TypeId)(v:Value)(h:Rw g w cells E)(ho:o.op= .store T x y)(hx:ρ x= .pointer (some ⟨g,j,none⟩))(hy:ρ y=v)(hj:j<cells.size)(h1:v.cells=#[v])(h2:v.oneCell'=true)(hi:(prog.info? T).map (·.size)=some 1):
 (execOp ρ o).run prog w= .ok .skip (w.setCell ⟨g,j,none⟩ v):=by
 have hc:w.cell? ⟨g,j,none⟩=some cells[j]:=by rw[Ad _ _ _ _ _ _ h];exact EN hj
 have hf:w.frozen? ⟨g,j,none⟩=false:=AY _ _ _ _ _ h;have hs:(sizeOf T).run prog w= .ok 1 w:=by
  cases hq:prog.info? T with
  |none=>simp[hq]at hi
  |some z=>simp[hq]at hi;simp[sizeOf,typeInfo,hq,hi]
 unfold execOp;rw[ho];simp only[hx,hy,Instr.storeAt,Instr.sureAddr,storeVar,h1,B9,BA,Ba,hs];go_simp;rw[run_store _ _ _ _ _ h2];simp[hc,hf]
theorem TA.cells{t:Tr}{v:Value}(h:TA K w t v):v.cells=#[v]:=by
 cases t with
 |no=>rw[show v= .nilIface from h];rfl
 |leaf p x=>obtain⟨_,_,_,_,_,_,rfl,_⟩:=h;rfl
 |ext p t=>obtain⟨_,_,_,_,rfl,_⟩:=h;rfl
 |br k x=>obtain⟨_,_,_,_,rfl,_⟩:=h;rfl
def WS(t:Tr):Prop:=∀{K:Nat->Prop}{w:World}{v:Value}{a:Option Addr}{n c:Nat}{q:List Int}{a':Option Addr}{n' c':Nat}{x:List Int}{B:Nat},Ok B t->B<=64->q.length<=B->Nb q->TA K w t v->Sk K w a n c q->Sk K w a' n' c' x->n'<=256->(∀b,w.heap.size<=b->K b)->MC "pergola/trie.with" v #[.slice a n c, .slice a' n' c'] w (TRs K w (put t q x))
theorem Y3(hq:Sk K w aq nq cq q){nx:Nat}(hx:Sk K w ax nx cx x)(hx2:nx<=256):
 Calls prog 51 #[.nilIface, .slice aq nq cq, .slice ax nx cx] w λe w'=>∃u,e= .returned u/\TRs K w (put no q x) u w':=by
 have hB:=Bl.refl w;refine EO func51 17 ?_;exact Hr 24 (.iface 131 (.agg #[.slice aq nq cq, .slice ax nx cx])) ⟨_,rfl,⟨_,_,_,_,_,_,rfl,hq,hx,hx2⟩,hB⟩
theorem WN{nx:Nat}{t:Tr}{T0:TypeId}{v0:Value}(hm:MC "pergola/trie.with" (.iface T0 v0) #[.slice aq nq cq, .slice ax nx cx] w (TRs K w t)):
 Calls prog 51 #[.iface T0 v0, .slice aq nq cq, .slice ax nx cx] w λe w'=>∃u,e= .returned u/\TRs K w t u w':=by
 have hB:=Bl.refl w;refine EO func51 17 ?_;obtain⟨T3,x4,f5,he6,hi1,hc2⟩:=hm;refine Hm 20 (og f51 3 3) f5 (#[x4]++#[.slice aq nq cq, .slice ax nx cx]) (λ_=>hi1 _ _ _ _ _ _ _ rfl (by kernel_rfl) (by kernel_rfl)) (R:=TRs K w t) ?_ ?_
 ·exact hc2
 rintro vR u1⟨ht,hb⟩;replace hB:=hB.go hb;exact Hr 4 vR ⟨_,rfl,ht,hB⟩
theorem Gs{t:Tr}{v:Value}(hF:t=no∨∃B,Ok B t/\B<=64/\q.length<=B/\WS t)(ht:TA K w t v)(hq:Sk K w aq nq cq q)(hnb:Nb q){nx:Nat}(hx:Sk K w ax nx cx x)(hx2:nx<=256)(hK:∀b,w.heap.size<=b->K b):
 Calls prog 51 #[v, .slice aq nq cq, .slice ax nx cx] w λe w'=>∃u,e= .returned u/\TRs K w (put t q x) u w':=by
 rcases hF with rfl|⟨B,hO,h64,hl,hF⟩
 ·rw[show v= .nilIface from ht];exact Y3 hq hx hx2
 ·have hm:=hF hO h64 hl hnb ht hq hx hx2 hK;obtain⟨T,y,f,rfl,_⟩:=id hm;exact WN hm
theorem SO(hk:TK K w k vs)(hy:Sk K w a n c y)(hn2:n<=256){nx:Nat}(hx:Sk K w ax nx cx x)(hx2:nx<=256)(hK:∀b,w.heap.size<=b->K b)(hq:Sk K w aq nq cq q)(hnq:nq=0):
 Calls prog 184 #[.agg (brc vs (.slice a n c)), .slice aq nq cq, .slice ax nx cx] w λe w'=>∃u,e= .returned u/\TRs K w (put (br k y) q x) u w':=by
 have hB:=Bl.refl w;refine EO func184 31<|Hn 2 (brc vs (.slice a n c)) 221 ?_;intro w1 g2 hn3 hr4;have hgs:=hn3.hg;refine Hq 8 (nq:Int) (0:Int)<|Ha 7 (og f184 2 2) g2 16 (.slice ax nx cx) (λ_=>D8 23 _ _ g2 16 _ 221 _ hr4 rfl (by kernel_rfl) (by kernel_rfl) (by show 16<17;omega) rfl rfl (by kernel_rfl)) ?_;intro w5 hp6;replace hk:=hk.go hn3.below;have hbs:Bs w1 w5 g2:=Bs.of hr4 (hk.noint _ _ _) hp6;replace hr4:Rw g2 w5 (brc vs (.slice ax nx cx)) 221:=hr4.set hp6 (rfl);refine Hx 4 (og f184 3 0) (.agg (brc vs (.slice ax nx cx))) (λ_=>Eb 221 _ _ _ _ _ _ rfl (by kernel_rfl) hr4 underlying221 rfl (by kernel_rfl)) ?_;replace hB:=(hB.go hn3.below).set hp6 (by omega);replace hx:=(hx.go hn3.below).bs hbs;replace hq:=(hq.go hn3.below).bs hbs;replace hk:=hk.bs hbs;exact Hr 6 (.iface 221 (.agg (brc vs (.slice ax nx cx)))) ⟨_,rfl,(by have e:q=[]:=A3 (by have:=hq.len;omega);subst e;exact⟨vs,_,_,_,rfl,hk,hx,hx2⟩),hB⟩
theorem Qg(hk:TK K w k vs)(hy:Sk K w a n c y)(hn2:n<=256){nx:Nat}(hx:Sk K w ax nx cx x)(hx2:nx<=256)(hK:∀b,w.heap.size<=b->K b){gq oq:Nat}{r:List Int}(hi:i<16)(hq:Sk K w (some ⟨gq,oq,none⟩) nq cq ((i:Int)::r))(hnq:0<nq)(hc0:w.cell? ⟨gq,oq+0*1,none⟩=some (.int .u8 (i:Int)))(hF:k i=no∨∃B,Ok B (k i)/\B<=64/\r.length<=B/\WS (k i))(hnb:Nb r):
 Calls prog 184 #[.agg (brc vs (.slice a n c)), .slice (some ⟨gq,oq,none⟩) nq cq, .slice ax nx cx] w λe w'=>∃u,e= .returned u/\TRs K w (br (upd k i (put (k i) r x)) y) u w':=by
 have hB:=Bl.refl w;refine EO func184 31<|Hn 2 (brc vs (.slice a n c)) 221 ?_;intro w1 g2 hn3 hr4;have hgs:=hn3.hg;refine Hz 8 (nq:Int) (0:Int)<|Hx 8 (og f184 4 1) (.pointer (some ⟨gq,oq+0*1,none⟩)) (λ_=>Bh 23 _ _ gq oq 0 nq cq 1 5 rfl (by kernel_rfl) (by kernel_rfl) (by omega) underlying23 (by kernel_rfl)) ?_;replace hB:=hB.go hn3.below;refine Hx 0 (og f184 4 2) (.int .u8 (i:Int)) (λ_=>AA 5 _ ⟨gq,oq+0*1,none⟩ _ _ rfl (by kernel_rfl) ((hB.cell (p:=⟨gq,oq+0*1,none⟩) (Af hc0)).trans hc0) underlying5 rfl)<|Hj 4 (λ_=>True) (trivial)<|Dx [0,1,2] 3 (og f184 5 3) (.pointer (some ⟨g2,0+i*1,none⟩)) (λv hv _=>JR (kd:= .u8) 219 _ _ g2 0 i 16 1 74 rfl (by kernel_rfl) (by kernel_rfl) hi (by omega) underlying219 (by kernel_rfl)) trivial ?_;replace hq:=(hq.go hn3.below).drew;obtain⟨a5,n6,c7,hr8,hs9⟩:=hq.cutFrom 1 (by have:=hq.len;omega);refine Dx [5] 6 (og f184 5 6) (.slice a5 n6 c7) (λv hv=>(λ_=>hr8 _ _ _ _ _ _ rfl (by kernel_rfl) (by kernel_rfl) rfl)) trivial<|Dy [7,9] [4] trivial ?_;replace hr4:=hr4.drew;refine Yx 4 (og f184 5 4) (vs i) (λ_=>AA 74 _ ⟨g2,0+i*1,none⟩ _ _ rfl (by kernel_rfl) (by rw[AM,BS,Ad _ _ _ _ _ _ hr4,N9 _ _ _ hi]) underlying74 rfl) trivial ?_ yn;refine Dz [8] ?_;replace hx:=(hx.go hn3.below).drew;replace hk:=(hk.go hn3.below).drew;replace hB:=hB.drew;refine Yc 8 (R:=TRs K (w1.drew) (put (k i) r x)) ((Gs hF (hk i hi) hs9 hnb hx hx2 (λb hb=>hK b (Ar hB.size hb)))) (λu w' h=>trivial) ?_ yn;rintro vR u10⟨ht,hb11⟩;refine Dx [] 10 (og f184 5 10) (.pointer (some ⟨g2,0+i*1,none⟩)) (λv hv _=>JR (kd:= .u8) 219 _ _ g2 0 i 16 1 74 rfl (by kernel_rfl) (by kernel_rfl) hi (by omega) underlying219 (by kernel_rfl)) trivial<|Dz [11] ?_;replace hr4:=hr4.go hb11;refine Ya 11 (og f184 5 11) g2 (0+i*1) vR (λ_=>D8 74 _ _ g2 (0+i*1) _ 221 _ hr4 rfl (by kernel_rfl) (by kernel_rfl) (by show 0+i*1<17;omega) ht.cells ht.one (by kernel_rfl)) (λw' h=>trivial) ?_ yn;intro w12 hp13;replace hk:=hk.go hb11;have hbs:Bs u10 w12 g2:=Bs.of hr4 (hk.noint _ _ _) hp13;replace hr4:Rw g2 w12 (brc (updv vs i vR) (.slice a n c)) 221:=hr4.set hp13 (by rw[AM,BS];exact RD _ _ _ _ hi);refine Do<|Hx 3 (og f184 6 0) (.agg (brc (updv vs i vR) (.slice a n c))) (λ_=>Eb 221 _ _ _ _ _ _ rfl (by kernel_rfl) hr4 underlying221 rfl (by kernel_rfl)) ?_;replace hy:=(((hy.go hn3.below).drew).go hb11).bs hbs;replace hB:=(hB.go hb11).set hp13 (by omega);replace hk:=hk.bs hbs;replace ht:=ht.bs hbs;exact Hr 5 (.iface 221 (.agg (brc (updv vs i vR) (.slice a n c)))) ⟨_,rfl,⟨updv vs i vR,_,_,_,rfl,hk.put ht,hy,hn2⟩,hB⟩
theorem Iu(hk:TK K w k vs)(hy:Sk K w a n c y)(hn2:n<=256){nx:Nat}(hx:Sk K w ax nx cx x)(hx2:nx<=256)(hK:∀b,w.heap.size<=b->K b)(hq:Sk K w aq nq cq q)(hnb:Nb q)
 (hF:∀(i:Nat)(r:List Int),q=(i:Int)::r->k i=no∨∃B,Ok B (k i)/\B<=64/\r.length<=B/\WS (k i)):
 Calls prog 184 #[.agg (brc vs (.slice a n c)), .slice aq nq cq, .slice ax nx cx] w λe w'=>∃u,e= .returned u/\TRs K w (put (br k y) q x) u w':=by
 cases q with
 |nil=>exact SO hk hy hn2 hx hx2 hK hq hq.len.symm
 |cons i r=>
  obtain⟨g,o,rfl,hc,hn⟩:=hq.head;have hi:=hnb.head;obtain⟨j,rfl⟩:=Int.eq_ofNat_of_zero_le hi.1;exact Qg hk hy hn2 hx hx2 hK (by omega) hq hn hc (hF j r rfl) hnb.tail
end Go.Proofs.YtefhepcplempkaaGreat
