/- A question to a trie tells what the document's list tells. -/
import Derived.Test.YtalhnnjpjaeakaaGreatAK
import Derived.Test.YtalhnnjpjaeakaaGreatG17
import Derived.Test.YtalhnnjpjaeakaaGreatG24
import Derived.Test.YtalhnnjpjaeakaaGreatG18
import Derived.Test.YtalhnnjpjaeakaaGreatG01
import Derived.Test.YtalhnnjpjaeakaaGreatG15
import Derived.Test.YtalhnnjpjaeakaaGreatG00
import Derived.ProofKit
import Derived.OpenShut
import Derived.ShutString
import Derived.ChangeOld
import Derived.SizedLaws
import Derived.Test.YtalhnnjpjaeakaaGreatG12
import Derived.Test.YtalhnnjpjaeakaaGreatRows
import Derived.JoinedCond
set_option linter.unusedVariables false
set_option maxRecDepth 100000
set_option maxHeartbeats 8000000
open Go.Proofs.Tryz Go.RowKit
namespace Go.Proofs.YtalhnnjpjaeakaaGreat
open Tr
variable {w w' : World} {p : Addr} {g B0 n : Nat} {x : Int} {a : Option Addr}
theorem RC(t:Tr):(rootP t).length=32:=by unfold rootP;split<;>exact dref_len _
def getX(t:Tr)(k:List Int):List Int:=if k.length<=32 then Tr.get t (Ni.nib k)else[]
def getZ(k:List Int):Int:=if k.length<=32 then 0 else 70
theorem Rel.bd{t:Tr}{l:PList}(h:Rel t l):∀e∈l,e.1.length<=1000/\e.2.length<=1000:=λe he=>by
 have h1:=((h.m e.1 e.2).1 he).2.1;have h2:=h.v e.1 e.2 he;exact⟨by omega,by omega⟩
theorem Rel.klen3{t:Tr}{l:PList}(h:Rel t l)(j:Nat)(k x:List Int)(he:l[j]?=some (k,x)):k.length<=1000000:=by
 have:=((h.m k x).1 (AK he)).2.1;omega
theorem YS{ρ:Operand->Value}{w:World}{x y:Operand}{o:Oper}{ds:List Int}(ho:o.op= .binOp .neq 49 x y 49)(hx:ρ x= .agg (B8 ds))(hy:ρ y= .agg (B8 ds))(hl:ds.length=32):(execOp ρ o).run prog w= .ok (.value (.bool false)) w:=by
 have e:=Xay ds ds hl hl w;simp at e;unfold execOp;rw[ho];simp only[hx,hy];go_simp
theorem YT{ρ:Operand->Value}{w:World}{o:Oper}(T:TypeId)(x y:Operand)(g j:Nat)(old v:Value)(hc:w.cell? ⟨g,j,none⟩=some old)(hf:w.frozen? ⟨g,j,none⟩=false)(ho:o.op= .store T x y)(hx:ρ x= .pointer (some ⟨g,j,none⟩))(hy:ρ y=v)(h1:v.cells=#[v])(h2:v.oneCell'=true)(hi:(prog.info? T).map (·.size)=some 1):
 (execOp ρ o).run prog w= .ok .skip (w.setCell ⟨g,j,none⟩ v):=by
 have hs:(sizeOf T).run prog w= .ok 1 w:=by
  cases hq:prog.info? T with
  |none=>simp[hq]at hi
  |some z=>simp[hq]at hi;simp[sizeOf,typeInfo,hq,hi]
 unfold execOp;rw[ho];simp only[hx,hy,Instr.storeAt,Instr.sureAddr,storeVar,h1,Bm,Bp,AH,hs];go_simp;rw[run_store _ _ _ _ _ h2];simp[hc,hf]
def By(w:World)(p:Addr):Prop:=(∃x,w.cell? p=some (.int .u8 x))/\w.frozen? p=false
theorem By.go(h:By w p)(hb:Below w.heap.size w w'):By w' p:=by
 obtain⟨⟨x,h1⟩,h2⟩:=h;have hl:=Aj h1;exact⟨⟨x,(Aq (w:=w) (hb.block _ hl)).trans h1⟩,(B6 (w:=w) (hb.block _ hl)).trans h2⟩
theorem By.set{o:Nat}(h:By w p)(hs:Set1 w w' g o (.int .u8 x)):By w' p:=by
 obtain⟨⟨y,h1⟩,h2⟩:=h;rw[hs.hw];refine⟨?_,by rw[Ei];exact h2⟩;by_cases e:(⟨g,o,none⟩:Addr)=p
 ·subst e;exact⟨x,World.cell?_setCell_same (h:=h1) ..⟩
 ·exact⟨y,by rw[World.cell?_setCell_other (h:=e) ..];exact h1⟩
def Sp(B0:Nat)(w:World)(a:Option Addr)(n:Nat):Prop:=∀j,j<n->∃g off a' n' c',a=some ⟨g,off,none⟩/\w.cell? ⟨g,off+j*1,none⟩=some (.slice a' n' c')/\n'<=9223372036854775807/\(n'=0∨∃g2 o2,a'=some ⟨g2,o2,none⟩/\g2≠g/\B0<=g2/\∀i,i<n'->By w ⟨g2,o2+i*1,none⟩)
theorem Sp.go(h:Sp B0 w a n)(hb:Below w.heap.size w w'):Sp B0 w' a n:=λj hj=>by
 obtain⟨g,off,a',n',c',h1,h2,h3,h4⟩:=h j hj;exact⟨g,off,a',n',c',h1,(Aq (w:=w) (hb.block _ (Aj h2))).trans h2,h3,h4.imp id λ⟨g2,o2,q1,q2,q3,q4⟩=>⟨g2,o2,q1,q2,q3,λi hi=>(q4 i hi).go hb⟩⟩
theorem Sp.set(h:Sp B0 w a n){g1 o1:Nat}(hs:Set1 w w' g1 o1 (.int .u8 x)){off:Nat}(ha:a=some ⟨g,off,none⟩)(hne:g1≠g):Sp B0 w' a n:=λj hj=>by
 obtain⟨g',off',a',n',c',h1,h2,h3,h4⟩:=h j hj;rw[ha]at h1;cases h1;exact⟨g,off,a',n',c',ha,(Aq (w:=w) (hs.other (λe=>hne e.symm))).trans h2,h3,h4.imp id λ⟨g2,o2,q1,q2,q3,q4⟩=>⟨g2,o2,q1,q2,q3,λi hi=>(q4 i hi).set hs⟩⟩
theorem Xaw{B1:Nat}{M:List (List Int)}(hB:B0<=B1)(h:Bt (λb=>B1<=b/\(∀x,a=some x->b≠x.block)/\Nf w b) w a n M):Sp B0 w a n:=λj hj=>by
 obtain⟨g,off,a',n',c',h1,h2,h3⟩:=h.row j hj;refine⟨g,off,a',n',c',h1,h2,?_,?_⟩
 ·rcases h3.ag.i with⟨q1,_⟩|⟨gb,o2,q1,q2,q3,q4,q5,q7⟩
  ·omega
  ·unfold maxLen at q5;omega
 ·rcases h3.ag.i with⟨q1,_⟩|⟨gb,o2,q1,q2,q3,q4,q5,q7⟩
  ·exact .inl q1
  ·have hk:=h3.k _ q1 q3;exact .inr ⟨gb,o2,q1,hk.2.1 _ h1,Al hB hk.1,λi hi=>⟨⟨_,by rw[Cl];exact q7 i (by omega)⟩,hk.2.2.2 _⟩⟩
theorem Mt{K0:Nat->Prop}{t:Tr}(hT:Tri K0 w g t){c:Nat}{vs:List (Value×Value)}{l:PList}(hP:PAt K0 w a n c vs l)(hR:Rel t l)(hbn:n<=2600000000000)(hM:(nmd t).length+1<=7600000000000):
 Calls prog 14 #[.pointer (some ⟨g,0,none⟩), .slice a n c] w λe w'=>∃u,e= .returned u/\(λu w'=>u= .bool true/\Bl w w') u w':=by
 have hB:=Bl.refl w;have hT0:=hT;have hP0:=hP;have hdl:=RC t;have hne:=hR.ents;have hll:=hP.ll;obtain⟨ds,hds⟩:∃ds,rootP t=ds:=⟨_,rfl⟩;rw[hds]at hdl;refine DB func14 70<|Hc 9 (R:=λu w'=>u= .int .i64 (n:Int)/\Bl (w) w') (((Yo hT (by rw[hne];omega)).mono (λe w'⟨u,e1,e2,e3⟩=>⟨u,e1,by rw[e2,hne,hll],e3⟩))) ?_;rintro _ u1⟨rfl,hb2⟩;refine Hb 2 (!((n:Int)==(n:Int))) false (by simp) ?_;replace hT:=hT.go hb2;refine Hc 2 (R:=λu w'=>u= .agg (B8 ds)/\Bl (u1) w') (((Qa hT hM).mono (λe w'⟨u,e1,e2,e3⟩=>⟨u,e1,by rw[e2,hds],e3⟩))) ?_;rintro _ u3⟨rfl,hb4⟩;replace hP:=(hP.go hb2).go hb4;refine Hc 1 (R:=λu w'=>u= .agg (B8 ds)/\Bl (u3) w') (((N9 hR hP hbn).mono (λe w'⟨u,e1,e2,e3⟩=>⟨u,e1,by rw[e2,hds],e3⟩))) ?_;rintro _ u5⟨rfl,hb6⟩;refine Hx 0 (og f14 1 10) (.bool false) (λ_=>YS rfl (by kernel_rfl) (by kernel_rfl) hdl) ?_;replace hT:=(hT.go hb4).go hb6;refine Hc 3 (R:=λu w'=>(∃a c vs,u= .slice a n c/\PAt (λ_=>True) w' a n c vs l)/\Bl (u5) w') (((LY hT (by rw[hne];exact hR.bd) (by rw[hne,hll];exact hbn)).mono (λe w'⟨u,e1,⟨a,c,vs,e2,e3⟩,e4⟩=>⟨u,e1,⟨a,c,vs,by rw[e2,hne,hll],by rw[hne,hll]at e3;exact e3⟩,e4⟩))) ?_;rintro _ u7⟨⟨aL1,cL1,vsL1,rfl,hPl1⟩,hb8⟩;replace hP:=(hP.go hb6).go hb8;refine Hc 1 (R:=λu w'=>u= .bool true/\Bl (u7) w') ((Mc hPl1 hP hbn)) ?_;rintro _ u9⟨rfl,hb10⟩;replace hT:=(hT.go hb8).go hb10;refine Hc 4 (R:=λu w'=>(∃a c vs,u= .slice a n c/\PAt (λ_=>True) w' a n c vs l)/\Bl (u9) w') (((LY hT (by rw[hne];exact hR.bd) (by rw[hne,hll];exact hbn)).mono (λe w'⟨u,e1,⟨a,c,vs,e2,e3⟩,e4⟩=>⟨u,e1,⟨a,c,vs,by rw[e2,hne,hll],by rw[hne,hll]at e3;exact e3⟩,e4⟩))) ?_;rintro _ u11⟨⟨aL2,cL2,vsL2,rfl,hPl2⟩,hb12⟩;replace hP:=(hP.go hb10).go hb12;refine Hc 1 (R:=λu w'=>u= .bool true/\Bl (u11) w') ((Mc hPl2 hP hbn)) ?_;rintro _ u13⟨rfl,hb14⟩;replace hT:=(hT.go hb12).go hb14;refine Hc 10 (R:=RNoW (u13) t) ((R8 hT hM)) ?_;rintro _ u15⟨⟨aN,nN,cN,rfl,hbt,_,hnN⟩,hb16⟩;replace hB:=((((((hB.go hb2).go hb4).go hb6).go hb8).go hb10).go hb12).go hb14;have hsp:=Xaw hB.size hbt;replace hP:=(hP.go hb14).go hb16;refine Hc 7 (R:=RNs7 (u15) t) ((RA hR hP hbn hM)) ?_;rintro _ u17⟨⟨aM,nM,cM,rfl,hbu⟩,hb18⟩;replace hbt:=hbt.go hb18;refine Hc 0 (args:=#[.slice aN nN cN, .slice aM nM cM]) (R:=λu w'=>u= .bool true/\Bl (u17) w') (((P5 hbt hbu (by omega)).mono (λe w'⟨u,e1,e2,e3⟩=>⟨u,e1,by rw[e2,AU rfl],e3⟩))) ?_;rintro _ u19⟨rfl,hb20⟩;replace hB:=((hB.go hb16).go hb18).go hb20;replace hsp:=(hsp.go hb18).go hb20;refine Ho (X:=Nat) 12 (λj=>[(43, .int .i64 (j:Int)),(42, .int .i64 nN),(5, .slice aN nN cN),(6, .bool true),(0, .pointer (some ⟨g,0,none⟩)),(1, .slice a n c)]) (λj u=>Bl w u/\Sp w.heap.size u aN nN/\j<=nN) (λj=>nN-j) 0 ⟨hB,hsp,Ay _⟩ ?_;replace hPl1:=(((((hPl1.go hb10).go hb12).go hb14).go hb16).go hb18).go hb20;replace hPl2:=(((hPl2.go hb14).go hb16).go hb18).go hb20;replace hT:=((hT.go hb16).go hb18).go hb20;replace hP:=(hP.go hb18).go hb20;replace hbt:=hbt.go hb20;replace hbu:=hbu.go hb20;clear hB hsp hbt hbu hT hP hPl1 hPl2;rintro j v⟨hB,hsp,hj⟩ I1 hN1;by_cases hlt:j<nN
 ·skip
  obtain⟨gR,oR,a1,n1,c1,ea,hcR,hz1,hby⟩:=hsp j hlt;subst ea;refine Ht 2 ((j:Int)<(nN:Int))<|Hx 18 (og f14 8 2) (.pointer (some ⟨gR,oR+j*1,none⟩)) (λ_=>AX 41 _ _ gR oR j nN cN 1 27 rfl (by kernel_rfl) (by kernel_rfl) hlt underlying41 (by kernel_rfl))<|Hx 0 (og f14 8 3) (.slice a1 n1 c1) (λ_=>AF 27 _ _ _ _ rfl (by kernel_rfl) hcR underlying27 rfl)<|Ho (X:=Nat) 5 (λi=>[(51, .int .i64 (i:Int)),(50, .int .i64 n1),(43, .int .i64 (j:Int)),(42, .int .i64 nN),(5, .slice (some ⟨gR,oR,none⟩) nN cN),(7, .int .i64 (j:Int)),(6, .bool true),(0, .pointer (some ⟨g,0,none⟩)),(1, .slice a n c)]) (λi u=>Bl w u/\Sp w.heap.size u (some ⟨gR,oR,none⟩) nN/\u.cell? ⟨gR,oR+j*1,none⟩=some (.slice a1 n1 c1)/\(n1=0∨∃g3 o3,a1=some ⟨g3,o3,none⟩/\g3≠gR/\w.heap.size<=g3/\∀i,i<n1->By u ⟨g3,o3+i*1,none⟩)/\i<=n1) (λi=>n1-i) 0 ⟨hB,hsp,hcR,hby,Ay _⟩ ?_;clear hB hsp hcR hby
  rintro i x⟨hB,hsp,hcR,hby,hi⟩ I2 hN2;by_cases hlti:i<n1
  ·skip
   obtain⟨g2,o2,ea,hg2,hw2,hbz⟩:=hby.resolve_left (by omega);subst ea;obtain⟨⟨xo,hxo⟩,hfo⟩:=hbz i hlti;refine Ht 2 ((i:Int)<(n1:Int))<|Hx 17 (og f14 11 2) (.pointer (some ⟨gR,oR+j*1,none⟩)) (λ_=>AX 41 _ _ gR oR j nN cN 1 27 rfl (by kernel_rfl) (by kernel_rfl) hlt underlying41 (by kernel_rfl))<|Hx 0 (og f14 11 3) (.slice (some ⟨g2,o2,none⟩) n1 c1) (λ_=>AF 27 _ _ _ _ rfl (by kernel_rfl) hcR underlying27 rfl)<|Hx 1 (og f14 11 5) (.pointer (some ⟨g2,o2+i*1,none⟩)) (λ_=>AX 27 _ _ g2 o2 i n1 c1 1 5 rfl (by kernel_rfl) (by kernel_rfl) hlti underlying27 (by kernel_rfl))<|Ha 0 (og f14 11 6) g2 (o2+i*1) (.int .u8 99) (λ_=>YT 5 _ _ g2 (o2+i*1) _ _ hxo hfo rfl (by kernel_rfl) (by kernel_rfl) rfl rfl (by kernel_rfl)) ?_;intro vS hset;refine Hi 4 ((i:Int)+1) ((i:Int)+1) ?_;exact hN2 2 (i+1) ⟨hset.touch.below hB hw2 hB.size,hsp.set hset rfl hg2,(Aq (w:=x) (hset.other (λe=>hg2 e.symm))).trans hcR, .inr ⟨g2,o2,rfl,hg2,hw2,λi hi=>(hbz i hi).set hset⟩,by omega⟩ (by show n1-(i+1)<n1-i;omega) (λ_=>by kernel_rfl)
  have hin:i=n1:=by omega
  refine Hf 2 ((i:Int)<(n1:Int))<|Hi 11 ((j:Int)+1) ((j:Int)+1) ?_;exact hN1 2 (j+1) ⟨hB,hsp,by omega⟩ (by show nN-(j+1)<nN-j;omega) (λ_=>by kernel_rfl)
 have hjn:j=nN:=by omega
 have hT:=hT0.go hB;have hP:=hP0.go hB;refine Hf 2 ((j:Int)<(nN:Int))<|Hc 14 (R:=λu w'=>u= .agg (B8 ds)/\Bl (v) w') (((Qa hT hM).mono (λe w'⟨u,e1,e2,e3⟩=>⟨u,e1,by rw[e2,hds],e3⟩))) ?_;rintro _ u21⟨rfl,hb22⟩;replace hP:=hP.go hb22;refine Hc 1 (R:=λu w'=>u= .agg (B8 ds)/\Bl (u21) w') (((N9 hR hP hbn).mono (λe w'⟨u,e1,e2,e3⟩=>⟨u,e1,by rw[e2,hds],e3⟩))) ?_;rintro _ u23⟨rfl,hb24⟩;refine Hx 0 (og f14 14 6) (.bool true) (λ_=>Wk rfl (by kernel_rfl) (by kernel_rfl) hdl) ?_;replace hB:=(hB.go hb22).go hb24;exact Hr 5 (.bool true) ⟨_,rfl,rfl,hB⟩
end Go.Proofs.YtalhnnjpjaeakaaGreat
namespace Go.Proofs.YtalhnnjpjaeakaaGreat
namespace Tr
def sz:Tr->Nat
 |no=>0
 |leaf _ _=>1
 |ext _ c=>sz c+1
 |br k _=>((List.range 16).map λi=>sz (k i)).sum+1
theorem Xm(k:Nat->Tr)(i:Nat)(t:Tr)(m:Nat)(h:sz t<=sz (k i)+m):∀n,((List.range n).map λj=>sz (upd k i t j)).sum<=((List.range n).map λj=>sz (k j)).sum+(if i<n then m else 0)
 |0=>by simp
 |n+1=>by
  have ih:=Xm k i t m h n;rw[CE,BA,BA,List.sum_append,List.sum_append];simp only[B9,C6,List.sum_cons,List.sum_nil,C5];by_cases e:n=i
  ·subst e;rw[Co,Af (by omega)];rw[Ad (by omega)]at ih;omega
  ·rw[BZ k t e];by_cases h2:i<n
   ·rw[Af (by omega)];rw[Af h2]at ih;omega
   ·rw[Ad (by omega)];rw[Ad h2]at ih;omega
theorem KZ(k:Nat->Tr)(i:Nat)(t:Tr)(m:Nat)(x y:List Int)(h:sz t<=sz (k i)+m):sz (br (upd k i t) x)<=sz (br k y)+m:=by
 have:=Xm k i t m h 16;simp only[sz];split at this<;>omega
theorem Mu(p:List Int)(t:Tr):sz (und p t)<=sz t+1:=by
 cases t with
 |no=>simp[und,sz]
 |leaf q v=>simp[und,sz]
 |ext q c=>simp[und,sz]
 |br k v=>
  simp only[und];split
  ·omega
  ·simp only[sz];omega
theorem RD(k:Nat->Tr)(x q v:List Int):sz (add k x q v)<=sz (br k x)+1:=by
 cases q with
 |nil=>simp only[add,sz];omega
 |cons i r=>exact KZ k i.toNat (leaf r v) 1 x x (by simp only[sz];omega)
theorem YU(t:Tr)(q v:List Int):sz (addT t q v)<=sz t+1:=by
 cases t with
 |br k x=>exact RD k x q v
 |no=>simp[addT]
 |leaf p x=>simp[addT]
 |ext p c=>simp[addT]
theorem Zk(x:List Int):sz (br nk x)=1:=by
 simp only[sz];have:((List.range 16).map λi=>sz (nk i))=(List.range 16).map λ_=>0:=by simp[nk,sz]
 rw[this];rfl
theorem ZZ:∀(t:Tr)(q v:List Int),sz (put t q v)<=sz t+3:=by
 intro t
 induction t with
 |no=>intro q v;simp[put,sz]
 |leaf p x=>
  intro q v;simp only[put];split
  ·simp[sz]
  ·have h1:=Mu (q.take (Ni.com p q)) (addT (add nk [] (p.drop (Ni.com p q)) x) (q.drop (Ni.com p q)) v);have h2:=YU (add nk [] (p.drop (Ni.com p q)) x) (q.drop (Ni.com p q)) v;have h3:=RD nk [] (p.drop (Ni.com p q)) x;have h4:=Zk [];have h5:sz (leaf p x)=1:=rfl;omega
 |ext p c ih=>
  intro q v;simp only[put];split
  ·have:=ih (q.drop p.length) v;simp only[sz];omega
  ·have h1:=Mu (q.take (Ni.com p q)) (add (upd nk (p.getD (Ni.com p q) 0).toNat (und (p.drop (Ni.com p q+1)) c)) [] (q.drop (Ni.com p q)) v);have h2:=RD (upd nk (p.getD (Ni.com p q) 0).toNat (und (p.drop (Ni.com p q+1)) c)) [] (q.drop (Ni.com p q)) v;have h3:=KZ nk (p.getD (Ni.com p q) 0).toNat (und (p.drop (Ni.com p q+1)) c) (sz c+1) [] [] (by have:=Mu (p.drop (Ni.com p q+1)) c;omega);have h4:=Zk [];have h5:sz (ext p c)=sz c+1:=rfl;omega
 |br k x ih=>
  intro q v;cases q with
  |nil=>simp[put,sz]
  |cons i r=>exact KZ k i.toNat (put (k i.toNat) r v) 3 x x (ih i.toNat r v)
theorem Xn(f g:Nat->Nat)(h:∀i,f i<=g i):∀l:List Nat,(l.map f).sum<=(l.map g).sum
 |[]=>Aa _
 |a::l=>by simp only[B9,List.sum_cons];have:=h a;have:=Xn f g h l;omega
theorem Td(b:List Int):(nm1 b).length<=1:=by unfold nm1;split<;>simp
theorem YV:∀t:Tr,(nmd t).length+(if t.isNo then 0 else 1)<=sz t:=by
 intro t
 induction t with
 |no=>simp[nmd,isNo,sz]
 |leaf p x=>simp[nmd,isNo,sz]
 |ext p c ih=>
  simp only[nmd,isNo,sz,Ab,BT,DQ];have h1:=Td (encT c);by_cases hc:c.isNo=true
  ·rw[Af hc]at ih;cases c with
   |no=>simp[encT,nm1,nmd,sz]
   |leaf p x=>simp[isNo]at hc
   |ext p x=>simp[isNo]at hc
   |br p x=>simp[isNo]at hc
  ·rw[Ad hc]at ih;omega
 |br k x ih=>
  rw[show(br k x).isNo=false from rfl];simp only[nmd,sz,BT,DQ,List.length_flatMap]
  have:=Xn (λi=>(if(k i).isNo then[]else nmd (k i)++nm1 (encT (k i))).length) (λi=>sz (k i)) (λi=>by
   have h1:=Td (encT (k i));have h2:=ih i;by_cases hc:(k i).isNo=true
   ·simp[hc]
   ·rw[Ad hc]at h2;simp only[hc,BT,DQ,Ab];omega) (List.range 16)
  omega
theorem Xo(t:Tr):(nmd t).length<=sz t:=by have:=YV t;omega
end Tr
open Tr
theorem YW(t:Tr)(k x:List Int):Tr.sz (putT t k x)<=Tr.sz t+3:=by
 unfold putT;split
 ·exact ZZ _ _ _
 ·omega
end Go.Proofs.YtalhnnjpjaeakaaGreat
namespace Go.Proofs.YtalhnnjpjaeakaaGreat
open Tr
theorem Tri.touch{K K':Nat->Prop}{w w':World}{g g':Nat}{t t':Tr}(h:Tri K w g t)(ht:Touch g' w w')(hT:Tri K' w g' t')(hne:g≠g'):Tri K w' g t:=by
 obtain⟨⟨v,h1,h2⟩,h3⟩:=h;refine⟨⟨v,h1.touch ht hne,?_⟩,h3⟩;have hs:∀{a:Option Addr}{n c:Nat}{bs:List Int},Sk K w a n c bs->Sk K w' a n c bs:=λh=>h.touch ht hT;clear h1 h3
 revert v
 induction t with
 |no=>intro v h2;exact h2
 |leaf p x=>rintro v⟨a,n,c,a',n',c',h1,h2,h3,h4⟩;exact⟨a,n,c,a',n',c',h1,hs h2,hs h3,h4⟩
 |ext p t ih=>rintro v⟨a,n,c,u,h1,h2,h3⟩;exact⟨a,n,c,u,h1,hs h2,ih u h3⟩
 |br k x ih=>rintro v⟨vs,a,n,c,h1,h2,h3,h4⟩;exact⟨vs,a,n,c,h1,λi hi=>ih i _ (h2 i hi),hs h3,h4⟩
namespace Tr
theorem Qj(k:Nat->Tr):∀n,0<n->lastN k n<n
 |0,h=>by omega
 |n+1,_=>by
  simp only[lastN];split
  ·rcases EG n with e|e
   ·subst e;simp[lastN]
   ·have:=Qj k n e;omega
  ·omega
theorem Xp(k:Nat->Tr):∀n i,i<n->sz (k i)<=((List.range n).map λj=>sz (k j)).sum
 |0,i,h=>by omega
 |n+1,i,h=>by
  rw[CE,BA,List.sum_append];simp only[B9,C6,List.sum_cons,List.sum_nil,C5];by_cases e:i=n
  ·subst e;omega
  ·have:=Xp k n i (by omega);omega
theorem Xq(k:Nat->Tr)(x y:List Int):sz (nrm k x)<=sz (br k y):=by
 unfold nrm;split
 ·simp only[sz];omega
 ·split
  ·have h1:=Mu [(lastN k 16:Int)] (k (lastN k 16));have h2:=Xp k 16 _ (Qj k 16 (by omega));simp only[sz]at h1 h2⊢;omega
  ·simp only[sz];omega
theorem Xaa:∀(t:Tr)(q:List Int),sz (del t q)<=sz t:=by
 intro t
 induction t with
 |no=>intro q;simp[del,sz]
 |leaf p x=>intro q;simp[del,sz]
 |ext p c ih=>
  intro q;have h1:=Mu p (del c (q.drop p.length));have h2:=ih (q.drop p.length);simp only[del,sz]at h1⊢;omega
 |br k x ih=>
  intro q;cases q with
  |nil=>exact Xq k [] x
  |cons i r=>
   simp only[del];exact Al (Xq _ x x) (KZ k i.toNat _ 0 x x (ih i.toNat r))
end Tr
theorem YX(t:Tr)(k:List Int):Tr.sz (delT t k)<=Tr.sz t:=by
 unfold delT;split
 ·exact Xaa _ _
 ·omega
theorem Qk(k:List Int):∀l:PList,(delR k l).length<=l.length
 |[]=>by simp[delR]
 |e::r=>by
  have:=Qk k r;simp only[delR];split
  ·simp;omega
  ·split<;>simp
theorem Xr(l:PList)(k:List Int):(delL l k).length<=l.length:=by
 unfold delL;split
 ·exact Qk k l
 ·omega
theorem RF(t:Tr)(y:Opx):Tr.sz (chT t y)<=Tr.sz t+3:=by
 unfold chT;split
 ·exact YW t y.k y.x
 ·have:=YX t y.k;omega
theorem OH(l:PList)(y:Opx):(chL l y).length<=l.length+1:=by
 unfold chL;split
 ·exact Wx l y.k y.x
 ·have:=Xr l y.k;omega
theorem Te{ρ:Operand->Value}{w:World}{x y:Operand}{o:Oper}{i:Nat}(ho:o.op= .binOp .rem 3 x y 3)(hx:ρ x= .int .i64 (i:Int))(hy:ρ y= .int .i64 2):(execOp ρ o).run prog w= .ok (.value (.int .i64 ((i%2:Nat):Int))) w:=by
 have h:(i:Int).tmod 2=((i%2:Nat):Int):=rfl;unfold execOp;rw[ho];simp only[hx,hy];go_simp
theorem RG(a:Option Addr)(n c:Nat)(xs:List Opx)(b:Option Addr)(m d:Nat)(ys:List Opx)(w:World)(hO:OAt w a n xs)(hn:n<=1048576)(hsm:∀y∈xs,y.kn<=140737488355328/\y.vn<=140737488355328)(hO2:OAt w b m ys)(hm:m<=1048576)(hsm2:∀y∈ys,y.kn<=140737488355328/\y.vn<=140737488355328):
 Calls prog 4 #[.slice a n c, .slice b m d] w λe w'=>e= .returned (.bool true)/\Below w.heap.size w w':=by
 have hB:=Bl.refl w;refine DB func4 78<|Hc 7 (R:=λu w'=>(∃g,u= .tuple #[.pointer (some ⟨g,0,none⟩), .bool true]/\(w).heap.size<=g/\Tri An w' g no)/\Bl (w) w') (Ua (K:=An) (λ_ _=>trivial)) ?_;rintro _ u1⟨⟨g,rfl,hgw,hT⟩,hb2⟩;replace hB:=hB.go hb2;refine Ho (X:=Nat×Tr×PList×Option Addr×Nat×Nat) 35 (λz=>[(26, .int .i64 ((z.1:Nat):Int)),(24, .slice a n c),(25, .int .i64 n),(1, .slice b m d),(4, .bool false),(5, .pointer (some ⟨g,0,none⟩)),(6, .bool true),(7, .slice z.2.2.2.1 z.2.2.2.2.1 z.2.2.2.2.2)]) (λz v=>Bl w v/\Tri An v g z.2.1/\(∃vs,PAt An v z.2.2.2.1 z.2.2.2.2.1 z.2.2.2.2.2 vs z.2.2.1)/\Rel z.2.1 z.2.2.1/\z.1<=n/\Tr.sz z.2.1<=3*z.1/\z.2.2.1.length<=z.1) (λz=>n-z.1) (0,no,[],none,0,0) ⟨hB,hT,⟨_,PAt.empty _ _⟩,Rel.nil,Ay _,by simp[Tr.sz],Aa _⟩ ?_;clear hB hT;rintro⟨j,t,l,aL,nL,cL⟩ v⟨hB,hT,⟨vsL,hP⟩,hRel,hj,hz,hll⟩ I1 hN1;simp only at hB hT hP hRel hj hz hll;by_cases hlt:j<n
 ·skip
  have hjx:j<xs.length:=by rw[hO.len];exact hlt
  obtain⟨y,hy⟩:∃y,xs[j]?=some y:=⟨_,Ac hjx⟩;have hym:y∈xs:=AK hy;obtain⟨gS,oS,ea,hrow⟩:=hO.row j y hy;subst ea;have hk1:=(hO.k y hym).an;have hk2:=(hO.x y hym).an;refine Ht 2 ((j:Int)<(n:Int))<|Hx 10 (og f4 7 0) (.pointer (some ⟨gS,oS+j*3,none⟩)) (λ_=>AX 22 _ _ gS oS j n c 3 29 rfl (by kernel_rfl) (by kernel_rfl) hlt underlying22 (by kernel_rfl))<|Hx 0 (og f4 7 1) (.agg #[.int .i64 y.z, .slice y.ka y.kn y.kc, .slice y.va y.vn y.vc]) (λ_=>NG 29 _ gS (oS+j*3) y.cells.toList _ rfl (by kernel_rfl) (QH hrow hB) underlying29 rfl (by kernel_rfl))<|Hn 0 #[.int .i64 0, .slice none 0 0, .slice none 0 0] 29 ?_;intro wA gA hnA _;refine Hy 0 (og f4 7 3) gA #[.int .i64 y.z, .slice y.ka y.kn y.kc, .slice y.va y.vn y.vc] (λ_=>CL 29 _ _ _ _ _ _ rfl (by kernel_rfl) (by kernel_rfl) hnA.row (by kernel_rfl) rfl (by kernel_rfl)) ?_;intro wC hpC;have hnC:=hnA.put hpC;have hgA:=hnC.hg;have htl:=hT.lt;have hrA:Rw gA wC #[.int .i64 y.z, .slice y.ka y.kn y.kc, .slice y.va y.vn y.vc] 29:=hnC.row;refine Hx 5 (og f4 8 2) (.agg (#[.int .i64 y.z, .slice y.ka y.kn y.kc, .slice y.va y.vn y.vc])) (λ_=>Ep 29 _ _ _ _ _ _ rfl (by kernel_rfl) hrA underlying29 rfl (by kernel_rfl)) ?_;replace hB:=hB.go hnC.below;replace hT:=hT.go hnC.below;replace hP:=hP.go hnC.below;refine Hc 0 (R:=λu w'=>(∃a n c vs,u= .tuple #[.slice a n c, .bool true]/\PAt An w' a n c vs (chL l y))/\Tri An w' g (chT t y)/\Touch g (wC) w') (((Hj hT hP (hk1.go hB).ag (hk2.go hB).ag (by have:=hP.ll;omega) (hsm y hym).1 (hsm y hym).2 hRel.klen3).mono (λe w'⟨u,e1,⟨a,n,c,vs,b,e2,e3,e4⟩,e5,e6⟩=>⟨u,e1,⟨a,n,c,vs,by rw[e2,e4 hRel],e3.mono (λ_ _=>trivial)⟩,e5.mono (λ_ _=>trivial),e6⟩))) ?_;rintro _ u3⟨⟨aL2,nL2,cL2,vsL2,rfl,hP2⟩,hT2,hto⟩;replace hB:Bl w u3:=hto.below hB hgw hB.size;refine Hi 8 ((j:Int)+1) ((j:Int)+1) ?_;have hz2:=RF t y;have hl2:=OH l y;exact hN1 2 (j+1,chT t y,chL l y,aL2,nL2,cL2) ⟨hB,hT2,⟨_,hP2⟩,hRel.ch hk1.ag.b,by omega,by show Tr.sz (chT t y)<=3*(j+1);omega,by show(chL l y).length<=j+1;omega⟩ (by show n-(j+1)<n-j;omega) (λ_=>by kernel_rfl)
 obtain rfl:j=n:=by omega
 refine Hf 2 ((j:Int)<(j:Int))<|Hc 12 (R:=λu w'=>(∃g',u= .pointer (some ⟨g',0,none⟩)/\(v).heap.size<=g'/\Tri An w' g' t)/\Bl (v) w') ((QX hT)) ?_;rintro _ u4⟨⟨gU,rfl,hgU,hU⟩,hb5⟩;have hgU2:gU≠g:=by have:=hT.lt;omega
 have hgUw:w.heap.size<=gU:=Al hB.size hgU;replace hB:=hB.go hb5;replace hT:=hT.go hb5;replace hP:=hP.go hb5;refine Ho (X:=Nat×Tr×PList×(Option Addr×Nat×Nat)×Tr×PList×(Option Addr×Nat×Nat)) 28 (λz=>[(45, .int .i64 ((z.1:Nat):Int)),(43, .slice b m d),(44, .int .i64 m),(4, .bool false),(5, .pointer (some ⟨g,0,none⟩)),(6, .bool true),(7, .slice z.2.2.2.1.1 z.2.2.2.1.2.1 z.2.2.2.1.2.2),(10, .pointer (some ⟨gU,0,none⟩)),(11, .slice z.2.2.2.2.2.2.1 z.2.2.2.2.2.2.2.1 z.2.2.2.2.2.2.2.2)]) (λz v=>Bl w v/\Tri An v g z.2.1/\Tri An v gU z.2.2.2.2.1/\(∃vs,PAt An v z.2.2.2.1.1 z.2.2.2.1.2.1 z.2.2.2.1.2.2 vs z.2.2.1)/\(∃vs,PAt An v z.2.2.2.2.2.2.1 z.2.2.2.2.2.2.2.1 z.2.2.2.2.2.2.2.2 vs z.2.2.2.2.2.1)/\Rel z.2.1 z.2.2.1/\Rel z.2.2.2.2.1 z.2.2.2.2.2.1/\z.1<=m/\Tr.sz z.2.1<=3*j+3*((z.1+1)/2)/\z.2.2.1.length<=j+((z.1+1)/2)/\Tr.sz z.2.2.2.2.1<=3*j+3*(z.1/2)/\z.2.2.2.2.2.1.length<=j+z.1/2) (λz=>m-z.1) (0,t,l,(aL,nL,cL),t,l,(aL,nL,cL)) ⟨hB,hT,hU,⟨_,hP⟩,⟨_,hP⟩,hRel,hRel,Ay _,by simp only;omega,by simp only;omega,by simp only;omega,by simp only;omega⟩ ?_;clear hB hT hU hP hRel hz hll;rintro⟨i,t,l,⟨aL,nL,cL⟩,tu,m_,⟨aM,nM,cM⟩⟩ v⟨hB,hT,hU,⟨vsL,hP⟩,⟨vsM,hQ⟩,hRel,hRu,hi,hz,hll,hzu,hlu⟩ I2 hN2;simp only at hB hT hU hP hQ hRel hRu hi hz hll hzu hlu;by_cases hlt:i<m
 ·skip
  have hjx:i<ys.length:=by rw[hO2.len];exact hlt
  obtain⟨y,hy⟩:∃y,ys[i]?=some y:=⟨_,Ac hjx⟩;have hym:y∈ys:=AK hy;obtain⟨gS,oS,ea,hrow⟩:=hO2.row i y hy;subst ea;have hk1:=(hO2.k y hym).an;have hk2:=(hO2.x y hym).an;by_cases hpar:i%2=0
  ·skip
   refine Ht 2 ((i:Int)<(m:Int))<|Hx 11 (og f4 16 1) (.pointer (some ⟨gS,oS+i*3,none⟩)) (λ_=>AX 22 _ _ gS oS i m d 3 29 rfl (by kernel_rfl) (by kernel_rfl) hlt underlying22 (by kernel_rfl))<|Hx 0 (og f4 16 2) (.agg #[.int .i64 y.z, .slice y.ka y.kn y.kc, .slice y.va y.vn y.vc]) (λ_=>NG 29 _ gS (oS+i*3) y.cells.toList _ rfl (by kernel_rfl) (QH hrow hB) underlying29 rfl (by kernel_rfl))<|Hn 0 #[.int .i64 0, .slice none 0 0, .slice none 0 0] 29 ?_;intro wA gA hnA _;refine Hy 1 (og f4 16 5) gA #[.int .i64 y.z, .slice y.ka y.kn y.kc, .slice y.va y.vn y.vc] (λ_=>CL 29 _ _ _ _ _ _ rfl (by kernel_rfl) (by kernel_rfl) hnA.row (by kernel_rfl) rfl (by kernel_rfl)) ?_;intro wC hpC;have hnC:=hnA.put hpC;have hgA:=hnC.hg;have htl:=hT.lt;have hrA:Rw gA wC #[.int .i64 y.z, .slice y.ka y.kn y.kc, .slice y.va y.vn y.vc] 29:=hnC.row;refine Hx 6 (og f4 17 1) (.int .i64 (((i%2:Nat):Int))) (λ_=>Te rfl (by kernel_rfl) (by kernel_rfl))<|Hb 0 (((i%2:Nat):Int)==(0:Int)) true (by simp;omega)<|Hx 6 (og f4 18 2) (.agg (#[.int .i64 y.z, .slice y.ka y.kn y.kc, .slice y.va y.vn y.vc])) (λ_=>Ep 29 _ _ _ _ _ _ rfl (by kernel_rfl) hrA underlying29 rfl (by kernel_rfl)) ?_;replace hB:=hB.go hnC.below;replace hT:=hT.go hnC.below;replace hP:=hP.go hnC.below;refine Hc 0 (R:=λu w'=>(∃a n c vs,u= .tuple #[.slice a n c, .bool true]/\PAt An w' a n c vs (chL l y))/\Tri An w' g (chT t y)/\Touch g (wC) w') (((Hj hT hP (hk1.go hB).ag (hk2.go hB).ag (by have:=hP.ll;omega) (hsm2 y hym).1 (hsm2 y hym).2 hRel.klen3).mono (λe w'⟨u,e1,⟨a,n,c,vs,b,e2,e3,e4⟩,e5,e6⟩=>⟨u,e1,⟨a,n,c,vs,by rw[e2,e4 hRel],e3.mono (λ_ _=>trivial)⟩,e5.mono (λ_ _=>trivial),e6⟩))) ?_;rintro _ u6⟨⟨aL2,nL2,cL2,vsL2,rfl,hP2⟩,hT2,hto⟩;replace hU:=hU.go hnC.below;have hoT:=hU.touch hto hT (by omega);replace hQ:=hQ.go hnC.below;have hoP:=hQ.touch hto hT;replace hB:Bl w u6:=hto.below hB hgw hB.size;refine Hi 18 ((i:Int)+1) ((i:Int)+1) ?_;exact hN2 2 (i+1,chT t y,chL l y,(aL2,nL2,cL2),tu,m_,(aM,nM,cM)) ⟨hB,hT2,hoT,⟨_,hP2⟩,⟨_,hoP⟩,hRel.ch hk1.ag.b,hRu,by omega,by have:=RF t y;simp only;omega,by have:=OH l y;simp only;omega,by simp only;omega,by simp only;omega⟩ (by show m-(i+1)<m-i;omega) (λ_=>by kernel_rfl)
  refine Ht 2 ((i:Int)<(m:Int))<|Hx 11 (og f4 16 1) (.pointer (some ⟨gS,oS+i*3,none⟩)) (λ_=>AX 22 _ _ gS oS i m d 3 29 rfl (by kernel_rfl) (by kernel_rfl) hlt underlying22 (by kernel_rfl))<|Hx 0 (og f4 16 2) (.agg #[.int .i64 y.z, .slice y.ka y.kn y.kc, .slice y.va y.vn y.vc]) (λ_=>NG 29 _ gS (oS+i*3) y.cells.toList _ rfl (by kernel_rfl) (QH hrow hB) underlying29 rfl (by kernel_rfl))<|Hn 0 #[.int .i64 0, .slice none 0 0, .slice none 0 0] 29 ?_;intro wA gA hnA _;refine Hy 1 (og f4 16 5) gA #[.int .i64 y.z, .slice y.ka y.kn y.kc, .slice y.va y.vn y.vc] (λ_=>CL 29 _ _ _ _ _ _ rfl (by kernel_rfl) (by kernel_rfl) hnA.row (by kernel_rfl) rfl (by kernel_rfl)) ?_;intro wC hpC;have hnC:=hnA.put hpC;have hgA:=hnC.hg;have htl:=hT.lt;have hrA:Rw gA wC #[.int .i64 y.z, .slice y.ka y.kn y.kc, .slice y.va y.vn y.vc] 29:=hnC.row;refine Hx 6 (og f4 17 1) (.int .i64 (((i%2:Nat):Int))) (λ_=>Te rfl (by kernel_rfl) (by kernel_rfl))<|Hb 0 (((i%2:Nat):Int)==(0:Int)) false (by simp;omega)<|Hx 6 (og f4 19 2) (.agg (#[.int .i64 y.z, .slice y.ka y.kn y.kc, .slice y.va y.vn y.vc])) (λ_=>Ep 29 _ _ _ _ _ _ rfl (by kernel_rfl) hrA underlying29 rfl (by kernel_rfl)) ?_;replace hB:=hB.go hnC.below;replace hU:=hU.go hnC.below;replace hQ:=hQ.go hnC.below;refine Hc 0 (R:=λu w'=>(∃a n c vs,u= .tuple #[.slice a n c, .bool true]/\PAt An w' a n c vs (chL m_ y))/\Tri An w' gU (chT tu y)/\Touch gU (wC) w') (((Hj hU hQ (hk1.go hB).ag (hk2.go hB).ag (by have:=hQ.ll;omega) (hsm2 y hym).1 (hsm2 y hym).2 hRu.klen3).mono (λe w'⟨u,e1,⟨a,n,c,vs,b,e2,e3,e4⟩,e5,e6⟩=>⟨u,e1,⟨a,n,c,vs,by rw[e2,e4 hRu],e3.mono (λ_ _=>trivial)⟩,e5.mono (λ_ _=>trivial),e6⟩))) ?_;rintro _ u7⟨⟨aM2,nM2,cM2,vsM2,rfl,hP2⟩,hT2,hto⟩;replace hT:=hT.go hnC.below;have hoT:=hT.touch hto hU (by omega);replace hP:=hP.go hnC.below;have hoP:=hP.touch hto hU;replace hB:Bl w u7:=hto.below hB hgUw hB.size;refine Hi 18 ((i:Int)+1) ((i:Int)+1) ?_;exact hN2 2 (i+1,t,l,(aL,nL,cL),chT tu y,chL m_ y,(aM2,nM2,cM2)) ⟨hB,hoT,hT2,⟨_,hoP⟩,⟨_,hP2⟩,hRel,hRu.ch hk1.ag.b,by omega,by simp only;omega,by simp only;omega,by have:=RF tu y;simp only;omega,by have:=OH m_ y;simp only;omega⟩ (by show m-(i+1)<m-i;omega) (λ_=>by kernel_rfl)
 have him:i=m:=by omega
 refine Hf 2 ((i:Int)<(m:Int))<|Hc 13 (R:=λu w'=>u= .bool true/\Bl (v) w') ((Mt hT hP hRel (by have:=hP.ll;omega) (by have:=Xo t;omega))) ?_;rintro _ u8⟨rfl,hb9⟩;replace hU:=hU.go hb9;replace hQ:=hQ.go hb9;refine Hc 3 (R:=λu w'=>u= .bool true/\Bl (u8) w') ((Mt hU hQ hRu (by have:=hQ.ll;omega) (by have:=Xo tu;omega))) ?_;rintro _ u10⟨rfl,hb11⟩;replace hB:=(hB.go hb9).go hb11;exact Hr 5 (.bool true) ⟨rfl,hB⟩
end Go.Proofs.YtalhnnjpjaeakaaGreat
namespace Go.Proofs.YtalhnnjpjaeakaaGreat
open Go.ChangeShapes Go.WideShapes Go.ChangeAt Go.RowKit
open Go.ChangeMaps (open_string shut_string)
theorem own:ownKnob prog.godebug=none:=by kernel_rfl
theorem Tf:laidOutB prog=true:=by kernel_rfl
theorem Xab:prog.cellsOf 5=1:=by kernel_rfl
end Go.Proofs.YtalhnnjpjaeakaaGreat
namespace Go.Proofs.YtalhnnjpjaeakaaGreat
open Go.ChangeShapes Go.WideShapes Go.ChangeAt Go.RowKit
variable {H : Type}
theorem Tg:prog.cellsOf 29=3:=by kernel_rfl
theorem Xac:prog.cellsOf 3=1:=by kernel_rfl
theorem Xs:prog.cellsOf 27=1:=by kernel_rfl
theorem Xt(d:DataW H):1<=Rows.uptoBulk d:=by
 cases d with
 |lit l=>cases l<;>simp[Rows.uptoBulk]
 |_=>simp[Rows.uptoBulk]
theorem Mv{H:Type}:∀ds:List (DataW H),ds.length<=Rows.uptoBulkAll ds
 |[]=>by simp[Rows.uptoBulkAll]
 |d::r=>by
  have:=Mv r;have:=Xt d;simp only[Rows.uptoBulkAll,AP];omega
theorem Ql{H:Type}:∀{ds:List (DataW H)}{d:DataW H},d∈ds->Rows.uptoBulk d<=Rows.uptoBulkAll ds
 |[],d,h=>by cases h
 |e::r,d,h=>by
  simp only[Rows.uptoBulkAll];rcases A3.1 h with rfl|h
  ·omega
  ·have:=Ql h;omega
section
variable {H : Type} {enc : TypeId × Value → H} {w : World} {held : Bool}
theorem Qm{fuel:Nat}{cs:List Value}{x:DataW H×List MemPlace}(hf:DataW.trod enc prog w 0 (λ_=>true) held fuel 27 cs=some x)(hbk:Rows.uptoBulk x.1<=1048576):∃a len cap bs,cs=[.slice a len cap]/\Ag w a len cap bs/\len<=140737488355328:=by
 rcases open_ints underlying27 underlying5 Xab hf with⟨hcs,_⟩|⟨p,len,cap,zs,hcs,_,hl,hm,hz,hx,hcell,hwz⟩
 ·exact⟨none,0,0,[],hcs,⟨.inl ⟨rfl,rfl⟩,λ_=>⟨rfl,rfl⟩,rfl,λx hx=>by cases hx⟩,by omega⟩
 ·have hz2:zs.length=cap:=by simpa using hz
  have hlen:(zs.take len).length=len:=by rw[Ap];omega
  have hlb:len<=140737488355328:=by
   rw[hx]at hbk;simp only[Rows.uptoBulk]at hbk;have:=Mv (H:=H) (lits .u8 (zs.take len));simp only[lits,Ba]at this;simp only[lits]at hbk;omega
  have hbd:∀n∈zs.take len,0<=n/\n<256:=λn hn=>by
   have:=bounds_u8 (hwz n (Bi hn));omega
  refine⟨some p,len,cap,zs.take len,hcs,⟨?_,(λh=>by cases h),hlen,hbd⟩,hlb⟩;by_cases h0:len=0
  ·subst h0;exact .inl ⟨rfl,by simp⟩
  ·obtain⟨b,off,spot⟩:=p;have hc:=hcell 0 (by omega);have hspot:spot=none:=(by simpa[Addr.add]using World.cell?_spot hc);subst hspot;refine .inr ⟨b,off,rfl,hlen,by omega,hl,hm,λj hj=>?_⟩;rw[hlen]at hj;have:=hcell j (by omega);rw[BM]at this;rw[this,List.getD,List.getD,AO hj]
theorem Xu{cs:List Value}(h:cs.length=3):cs=(cs.drop 0).take 1++((cs.drop 1).take 1++(cs.drop 2).take 1):=by
 match cs,h with
 |[a,b,c],_=>rfl
theorem Xv{fuel:Nat}{cs:List Value}{x:DataW H×List MemPlace}(hf:DataW.trod enc prog w 0 (λ_=>true) held fuel 29 cs=some x)
 (hbk:Rows.uptoBulk x.1<=1048576):∃y:Opx,cs=y.cells.toList/\Ag w y.ka y.kn y.kc y.k/\Ag w y.va y.vn y.vc y.x/\y.kn<=140737488355328/\y.vn<=140737488355328:=by
 obtain⟨xs,n,hfu,hx,hcl,hxl,hel⟩:=DataW.trod_struct underlying29 hf;rw[Tg]at hcl;have e0:=hel 0 _ rfl;have e1:=hel 1 _ rfl;have e2:=hel 2 _ rfl;have hxl3:xs.length=3:=hxl;obtain⟨x0,x1,x2,rfl⟩:∃x0 x1 x2,xs=[x0,x1,x2]:=by
  match xs,hxl3 with
  |[a,b,c],_=>exact⟨a,b,c,rfl⟩
 subst hx;have hbk1:Rows.uptoBulk (DataW.agg [x0.1,x1.1,x2.1])<=1048576:=hbk;simp only[Rows.uptoBulk,Rows.uptoBulkAll]at hbk1;have f0:DataW.trod enc prog w 0 (λ_=>true) held n 3 ((cs.drop 0).take (prog.cellsOf 3))=some x0:=e0;have f1:DataW.trod enc prog w 0 (λ_=>true) held n 27 ((cs.drop 1).take (prog.cellsOf 27))=some x1:=e1;have f2:DataW.trod enc prog w 0 (λ_=>true) held n 27 ((cs.drop 2).take (prog.cellsOf 27))=some x2:=e2;rw[Xac]at f0;rw[Xs]at f1;rw[Xs]at f2;obtain⟨k,hk,_,_⟩:=DataW.trod_int underlying3 f0;obtain⟨a1,m1,c1,b1,hb1,hag1,hl1⟩:=Qm f1 (by omega);obtain⟨a2,m2,c2,b2,hb2,hag2,hl2⟩:=Qm f2 (by omega);refine⟨⟨k,a1,m1,c1,a2,m2,c2,b1,b2⟩,?_,hag1,hag2,hl1,hl2⟩;rw[Xu (cs:=cs) hcl,hk,hb1,hb2];rfl
theorem UR{fuel:Nat}{cs:List Value}{x:DataW H×List MemPlace}(hf:DataW.trod enc prog w 0 (λ_=>true) held fuel 22 cs=some x)
 (hbk:Rows.uptoBulk x.1<=1048576):∃a m c xs,cs=[.slice a m c]/\OAt w a m xs/\m<=1048576/\∀y∈xs,y.kn<=140737488355328/\y.vn<=140737488355328:=by
 rcases DataW.trod_slice underlying22 hf with⟨hcs,_⟩|⟨p,len,cap,elems,rest,n,hfu,hcs,hx,_,hl,hm,hlen,hel,_,_⟩
 ·exact⟨none,0,0,[],hcs,⟨rfl,λj r hr=>by simp at hr,(λx hx=>by cases hx),λx hx=>by cases hx⟩,by omega,λx hx=>by cases hx⟩
 ·subst hx;have hb:Rows.uptoBulk (DataW.slice (elems.map (·.1)) (rest.map (·.1)))<=1048576:=hbk;simp only[Rows.uptoBulk]at hb;have hlb:=Mv (elems.map (·.1));rw[Ba]at hlb;have hthing:∀i,i<len->∃y:Opx,(∀k,k<3->w.cell? ((p.add (i*3)).add k)=y.cells.toList[k]?)/\Ag w y.ka y.kn y.kc y.k/\Ag w y.va y.vn y.vc y.x/\y.kn<=140737488355328/\y.vn<=140737488355328:=by
   intro i hi;have he:=hel i hi;rw[Tg,Ac (by omega),Option.bind_eq_some_iff]at he;obtain⟨cs',hc1,hc2⟩:=he;obtain⟨_,hc3,hc4⟩:=World.cells?_some hc1
   obtain⟨y,hcs',hr⟩:=Xv hc2 (by
    have:=Ql (List.mem_map_of_mem (f:=(·.1)) (Bo (l:=elems) (n:=i) (by omega)));omega)
   refine⟨y,?_,hr⟩;rw[hcs']at hc4;exact hc4
  have hspot:0<len->p.spot=none:=by
   intro h;obtain⟨y,hc,hr⟩:=hthing 0 h;have c0:=hc 0 (by omega);rw[show y.cells.toList[0]?=some (.int .i64 y.z)from rfl]at c0;simpa[Addr.add]using World.cell?_spot c0
  have hall:∀d k,k+d=len->∃ks:List Opx,ks.length=d/\(∀j r,ks[j]?=some r->∃g off,(some p:Option Addr)=some ⟨g,off,none⟩/\w.rangeAt g (off+(k+j)*3) r.cells.toList)/\∀y∈ks,Ag w y.ka y.kn y.kc y.k/\Ag w y.va y.vn y.vc y.x/\y.kn<=140737488355328/\y.vn<=140737488355328:=by
   intro d
   induction d with
   |zero=>intro k _;exact⟨[],rfl,(λj r hr=>by simp at hr),λx hx=>by cases hx⟩
   |succ d ihd=>
    intro k hk;obtain⟨ks,h1,h2,h3⟩:=ihd (k+1) (by omega);obtain⟨y,hc,hr⟩:=hthing k (by omega);refine⟨y::ks,by rw[AP,h1],λj s hs=>?_,λx hx=>?_⟩
    ·cases j with
     |zero=>
      simp at hs;subst hs;obtain⟨g,off,spot⟩:=p;have hsp:spot=none:=hspot (by omega);subst hsp;refine⟨g,off,rfl,λi u hu=>?_⟩;have hi:i<3:=(Aw.1 hu).1;have:=hc i hi;rw[BM,BM,hu]at this;exact this
     |succ j=>
      obtain⟨g,off,e,h3⟩:=h2 j s (by simpa using hs);rw[show k+1+j=k+(j+1)from by omega]at h3;exact⟨g,off,e,h3⟩
    ·rcases A3.1 hx with rfl|hx
     ·exact hr
     ·exact h3 x hx
  obtain⟨ks,h1,h2,h3⟩:=hall len 0 (by omega);refine⟨some p,len,cap,ks,hcs,⟨h1,λj r hr=>?_,λy hy=>(h3 y hy).1,λy hy=>(h3 y hy).2.1⟩,by omega,λy hy=>(h3 y hy).2.2⟩;obtain⟨g,off,e,h3⟩:=h2 j r hr;rw[AD]at h3;exact⟨g,off,e,h3⟩
end
theorem NC{enc:TypeId×Value->H}{w:World}{b0:Nat}{r:Reach}{held:Bool}{v:Value}{d:DataW H}{p:List MemPlace}
 (hv:Value.okWide prog w r b0 22 v) (h:DataW.Trod enc prog w 0 (λ_=>true) held 22 v d p)
 (hbk:Rows.uptoBulk d<=1048576):∃a m c xs,v= .slice a m c/\OAt w a m xs/\m<=1048576/\∀y∈xs,y.kn<=140737488355328/\y.vn<=140737488355328:=by
 obtain⟨a,len,cap,rfl⟩:=okWide_slice underlying22 hv;obtain⟨fuel,hf⟩:=h;obtain⟨a',m,c,xs,hcs,hx⟩:=UR hf hbk;simp[Value.cells]at hcs;obtain⟨rfl,rfl,rfl⟩:=hcs;exact⟨_,_,_,xs,rfl,hx⟩
end Go.Proofs.YtalhnnjpjaeakaaGreat
