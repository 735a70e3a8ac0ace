/- What Right answers. -/
import Derived.Test.YtalhnnjpjaeakaaGreatAK
import Derived.Test.YtalhnnjpjaeakaaGreatG00
import Derived.Test.YtalhnnjpjaeakaaGreatG01
import Derived.Test.YtalhnnjpjaeakaaGreatG10
set_option linter.unusedVariables false
set_option maxRecDepth 100000
set_option maxHeartbeats 4000000
open Go.Proofs.Tryz Go.RowKit
namespace Go.Proofs.YtalhnnjpjaeakaaGreat.Ni
theorem right_any(a:Option Addr)(n c:Nat)(b:List Int)(w:World)(h:Ag w a n c b)(hn:n<=140737488355328):
 Calls prog 96 #[.slice a n c] w λe w'=>e= .returned (.bool (rightP b))/\w'=w:=by
 have HL:=Xba h.l;have HC:Hid (0<n->∃g off,a=some ⟨g,off,none⟩/\n<=c/\c<=maxLen/\∀j,j<n->w.cell? ⟨g,off+j,none⟩=some (.int .u8 (b.getD j 0))):=Xba (ag_head h);have HB:=Xba h.b;clear h;obtain⟨res,hres⟩:∃r,rightP b=r:=⟨_,rfl⟩;rw[hres];have HRES:=Xba hres;clear hres;go_enter func96,ntmps96;go_wp2_with fail
 go_loopw [7] (λi v=>∃j:Nat,j<=n/\i= .int .i64 j/\(∀i,i<j->b.getD i 0<=15)/\v=w) (λi _=>n-(intOf i).toNat)
 case atStart=>exact⟨0,by omega,rfl,λi hi=>by omega,rfl⟩
 case round=>
  obtain⟨j,hj,rfl,hle,rfl⟩:=hrel;have HLE:=Xba hle;clear hle;by_cases hlt:j<n
  ·obtain⟨g,off,rfl,hnc,hcm,hcs⟩:=HC.out (by omega);unfold maxLen at hcm;have hcell:=hcs j hlt;have hx:=HB.out _ (getD_mem (show j<b.length by have:=HL.out;omega));have HX:Hid (b.getD j 0>15->rightP b=false):=Xba (λh=>OW (by have:=HL.out;omega) h)
   have HY:Hid (b.getD j 0<=15->∀i,i<j+1->b.getD i 0<=15):=Xba (λh i hi=>by
    by_cases e:i=j
    ·rw[e];exact h
    ·exact HLE.out i (by omega))
   generalize b.getD j 0=x at hcell hx HX HY;obtain⟨hx0,hx1⟩:=hx;have hji:(j:Int)<n:=(by omega);clear hcs;by_cases h15:x>15
   ·have e:res=false:=HRES.out.symm.trans (HX.out h15);subst e;go_wp2_with fail;go_ret;exact⟨rfl,rfl⟩
   ·have h15':¬x>15:=h15;go_wp2_with fail;exact⟨⟨j+1,by omega,by simp,HY.out (by omega),trivial⟩,by simp[intOf];omega⟩
  ·have hji:¬(j:Int)<n:=(by omega);have e:res=true:=HRES.out.symm.trans (MR λi hi=>HLE.out i (by have:=HL.out;omega));subst e;go_wp2_with fail;go_ret;exact⟨rfl,rfl⟩
end Go.Proofs.YtalhnnjpjaeakaaGreat.Ni
namespace Go.Proofs.YtalhnnjpjaeakaaGreat.Ni
theorem Wn(p:List Int)(m i:Nat)(hm:(kk p).length=m)(hi:i<m):((kk p).take i++List.replicate (m-i) (0:Int)).set i ((kk p).getD i 0)=(kk p).take (i+1)++List.replicate (m-(i+1)) (0:Int):=by
 rw[take_snoc (by omega),AE];have e:((kk p).take i).length=i:=by rw[Ao];omega
 rw[DD _ _ (by omega),e,Cx,show m-i=(m-(i+1))+1 from by omega,List.replicate_succ];rfl
theorem Yq(a:Option Addr)(n c:Nat)(p:List Int)(w:World)(h:Ag w a n c p)(hn:n<=140737488355328):
 Calls prog 65 #[.slice a n c] w λe w'=>(∃a' m,e= .returned (.tuple #[.slice a' m m, .bool (keyP p).2])/\Ag w' a' m m (keyP p).1)/\Below w.heap.size w w':=by
 have hl:=h.l;by_cases he:n%2=0
 case neg=>
  rw[G3 (λhh=>he (by rw[<-hl];exact hh.2))];simp only;have hei:(n:Int)%2=1:=by omega
  clear h hl he;go_enter func65,ntmps65;go_wp2_with fail;go_ret2;exact⟨⟨none,0,rfl,ag_nil _⟩,Ak _ _⟩
 have hei:(n:Int)%2=0:=by omega
 have hr:=right_any a n c p w h hn;by_cases hrt:rightP p=true
 case neg=>
  rw[G3 (λhh=>hrt hh.1)];simp only;rw[show rightP p=false from by simpa using hrt]at hr;clear h hl he hrt;go_enter func65,ntmps65;go_wp2_with fail;refine hr.mono ?_;rintro e w1⟨rfl,rfl⟩;clear hr;go_wp2_with fail;go_ret2;exact⟨⟨none,0,rfl,ag_nil _⟩,Ak _ _⟩
 rw[GL hrt (by omega)];simp only;rw[hrt]at hr;obtain⟨m,hm⟩:∃m,n/2=m:=⟨_,rfl⟩;have hmn:n=2*m:=by omega
 subst hmn;clear hm he hei;have HKL:Hid ((kk p).length=m):=Xba (by rw[Ln];omega);have HKB:=Xba (NQ p h.b hrt);have HL:=Xba hl;have HB:=Xba h.b;have HRT:=Xba hrt;have HC:=Xba (λh0=>ag_head h h0);have hmk:=run_make_row' (P:=prog) 27 5 (.int .u8 0) 1 underlying27 info5b rfl .i64 .i64 m (by omega) (by omega);have hrow:Row w.heap.size (w.alloc (.cells (madeCells #[.int .u8 0] m) 5)) (List.replicate m 0):=by
  unfold Row;rw[Ai,made_bytes]
 have hbw:Below w.heap.size w (w.alloc (.cells (madeCells #[.int .u8 0] m) 5)):=(Ak _ _).alloc (Aa _) _;have HR:=Xba hrow;have HBW:=Xba hbw;have hm2:(2*m:Nat)%2=0:=by omega
 have hm3:((2*m:Nat):Int)%2=0:=by omega
 have hm4:((2*m:Nat):Int)/2=m:=by omega
 clear hrow hbw h hl hrt;go_enter func65,ntmps65;go_wp2_with fail;refine hr.mono ?_;rintro e w1⟨rfl,rfl⟩;clear hr;go_wp2_with fail
 go_loopw [21] (λi v=>∃k:Nat,k<=m/\i= .int .i64 k/\Row w1.heap.size v ((kk p).take k++List.replicate (m-k) 0)/\Below w1.heap.size w1 v) (λi _=>m-(intOf i).toNat)
 case atStart=>exact⟨0,by omega,rfl,by rw[BD,A6,Nat.sub_zero];exact HR.out,HBW.out⟩
 case round=>
  clear HR HBW;obtain⟨k,hk,rfl,hrow,hb⟩:=hrel;by_cases hlt:k<m
  ·have hki:(k:Int)<m:=(by omega);have hlen:((kk p).take k++List.replicate (m-k) (0:Int)).length=m:=(by rw[Ab,Bj,Ao,HKL.out];omega);have hcell:=hrow.cell (i:=k) (by omega);have hfz:=hrow.frozen k;have hset:=hrow.set k ((kk p).getD k 0);rw[Wn p m k HKL.out hlt]at hset;have hget:=NP p k (by have:=HL.out;omega);obtain⟨g,off,rfl,hnc,hcm,hcs⟩:=HC.out (by omega);unfold maxLen at hcm;have hc1:=(hb.cell (p:=⟨g,off+(2*k),none⟩) (Aj (hcs (2*k) (by omega)))).trans (hcs (2*k) (by omega));have hc2:=(hb.cell (p:=⟨g,off+(2*k+1),none⟩) (Aj (hcs (2*k+1) (by omega)))).trans (hcs (2*k+1) (by omega));have hx0:=(HB.out _ (getD_mem (l:=p) (i:=2*k) (by have:=HL.out;omega))).1;have hy0:=(HB.out _ (getD_mem (l:=p) (i:=2*k+1) (by have:=HL.out;omega))).1;have hx1:=Gk HRT.out (i:=2*k) (by have:=HL.out;omega);have hy1:=Gk HRT.out (i:=2*k+1) (by have:=HL.out;omega);generalize ((kk p).take k++List.replicate (m-k) (0:Int)).getD k 0=z at hcell;generalize p.getD (2*k) 0=x at*;generalize p.getD (2*k+1) 0=y at*;rw[hget]at hset;have hor:=Xaw hx0 hx1 hy0 hy1;have hkm:2*k+1<2*m:=(by omega);have hk1:(2*(k:Int))<((2*m:Nat):Int):=(by omega);have hk2:(2*(k:Int)+1)<((2*m:Nat):Int):=(by omega);have ht1:(2*(k:Int)).toNat=2*k:=(by omega);have ht2:(2*(k:Int)+1).toNat=2*k+1:=(by omega);have HS:=Xba hset;have HBB:=Xba hb;clear hset hb hrow hlen hget hcs;go_wp2_with fail
   go_region
   all_goals
    go_wp2_with fail;exact⟨⟨k+1,by omega,by simp,HS.out,(HBB.out.setCell (Aa _) _).drew⟩,by simp[intOf];omega⟩
  ·have hki:¬(k:Int)<m:=(by omega);have e:k=m:=(by omega);subst e;rw[Cx,List.replicate_zero,A3,A5 (by rw[HKL.out];exact Aa _)]at hrow;have HS:=Xba hrow;have HBB:=Xba hb;clear hrow hb;go_wp2_with fail;go_ret2;exact⟨⟨_,_,rfl,row_ag HS.out HKL.out HKB.out (by omega)⟩,HBB.out⟩
end Go.Proofs.YtalhnnjpjaeakaaGreat.Ni
namespace Go.Proofs.YtalhnnjpjaeakaaGreat.Ni
theorem key_new(a:Option Addr)(n c:Nat)(p:List Int)(w:World)(h:Ag w a n c p)(hn:n<=140737488355328):
 Calls prog 65 #[.slice a n c] w λe w'=>(∃a' m,e= .returned (.tuple #[.slice a' m m, .bool (keyP p).2])/\Ag w' a' m m (keyP p).1/\∀x,a'=some x->x.block=w.heap.size/\Row w.heap.size w' (keyP p).1)/\Below w.heap.size w w':=by
 have hl:=h.l;by_cases he:n%2=0
 case neg=>
  rw[G3 (λhh=>he (by rw[<-hl];exact hh.2))];simp only;have hei:(n:Int)%2=1:=by omega
  clear h hl he;go_enter func65,ntmps65;go_wp2_with fail;go_ret2;exact⟨⟨none,0,rfl,ag_nil _,λx hx=>by cases hx⟩,Ak _ _⟩
 have hei:(n:Int)%2=0:=by omega
 have hr:=right_any a n c p w h hn;by_cases hrt:rightP p=true
 case neg=>
  rw[G3 (λhh=>hrt hh.1)];simp only;rw[show rightP p=false from by simpa using hrt]at hr;clear h hl he hrt;go_enter func65,ntmps65;go_wp2_with fail;refine hr.mono ?_;rintro e w1⟨rfl,rfl⟩;clear hr;go_wp2_with fail;go_ret2;exact⟨⟨none,0,rfl,ag_nil _,λx hx=>by cases hx⟩,Ak _ _⟩
 rw[GL hrt (by omega)];simp only;rw[hrt]at hr;obtain⟨m,hm⟩:∃m,n/2=m:=⟨_,rfl⟩;have hmn:n=2*m:=by omega
 subst hmn;clear hm he hei;have HKL:Hid ((kk p).length=m):=Xba (by rw[Ln];omega);have HKB:=Xba (NQ p h.b hrt);have HL:=Xba hl;have HB:=Xba h.b;have HRT:=Xba hrt;have HC:=Xba (λh0=>ag_head h h0);have hmk:=run_make_row' (P:=prog) 27 5 (.int .u8 0) 1 underlying27 info5b rfl .i64 .i64 m (by omega) (by omega);have hrow:Row w.heap.size (w.alloc (.cells (madeCells #[.int .u8 0] m) 5)) (List.replicate m 0):=by
  unfold Row;rw[Ai,made_bytes]
 have hbw:Below w.heap.size w (w.alloc (.cells (madeCells #[.int .u8 0] m) 5)):=(Ak _ _).alloc (Aa _) _;have HR:=Xba hrow;have HBW:=Xba hbw;have hm2:(2*m:Nat)%2=0:=by omega
 have hm3:((2*m:Nat):Int)%2=0:=by omega
 have hm4:((2*m:Nat):Int)/2=m:=by omega
 clear hrow hbw h hl hrt;go_enter func65,ntmps65;go_wp2_with fail;refine hr.mono ?_;rintro e w1⟨rfl,rfl⟩;clear hr;go_wp2_with fail
 go_loopw [21] (λi v=>∃k:Nat,k<=m/\i= .int .i64 k/\Row w1.heap.size v ((kk p).take k++List.replicate (m-k) 0)/\Below w1.heap.size w1 v) (λi _=>m-(intOf i).toNat)
 case atStart=>exact⟨0,by omega,rfl,by rw[BD,A6,Nat.sub_zero];exact HR.out,HBW.out⟩
 case round=>
  clear HR HBW;obtain⟨k,hk,rfl,hrow,hb⟩:=hrel;by_cases hlt:k<m
  ·have hki:(k:Int)<m:=(by omega);have hlen:((kk p).take k++List.replicate (m-k) (0:Int)).length=m:=(by rw[Ab,Bj,Ao,HKL.out];omega);have hcell:=hrow.cell (i:=k) (by omega);have hfz:=hrow.frozen k;have hset:=hrow.set k ((kk p).getD k 0);rw[Wn p m k HKL.out hlt]at hset;have hget:=NP p k (by have:=HL.out;omega);obtain⟨g,off,rfl,hnc,hcm,hcs⟩:=HC.out (by omega);unfold maxLen at hcm;have hc1:=(hb.cell (p:=⟨g,off+(2*k),none⟩) (Aj (hcs (2*k) (by omega)))).trans (hcs (2*k) (by omega));have hc2:=(hb.cell (p:=⟨g,off+(2*k+1),none⟩) (Aj (hcs (2*k+1) (by omega)))).trans (hcs (2*k+1) (by omega));have hx0:=(HB.out _ (getD_mem (l:=p) (i:=2*k) (by have:=HL.out;omega))).1;have hy0:=(HB.out _ (getD_mem (l:=p) (i:=2*k+1) (by have:=HL.out;omega))).1;have hx1:=Gk HRT.out (i:=2*k) (by have:=HL.out;omega);have hy1:=Gk HRT.out (i:=2*k+1) (by have:=HL.out;omega);generalize ((kk p).take k++List.replicate (m-k) (0:Int)).getD k 0=z at hcell;generalize p.getD (2*k) 0=x at*;generalize p.getD (2*k+1) 0=y at*;rw[hget]at hset;have hor:=Xaw hx0 hx1 hy0 hy1;have hkm:2*k+1<2*m:=(by omega);have hk1:(2*(k:Int))<((2*m:Nat):Int):=(by omega);have hk2:(2*(k:Int)+1)<((2*m:Nat):Int):=(by omega);have ht1:(2*(k:Int)).toNat=2*k:=(by omega);have ht2:(2*(k:Int)+1).toNat=2*k+1:=(by omega);have HS:=Xba hset;have HBB:=Xba hb;clear hset hb hrow hlen hget hcs;go_wp2_with fail
   go_region
   all_goals
    go_wp2_with fail;exact⟨⟨k+1,by omega,by simp,HS.out,(HBB.out.setCell (Aa _) _).drew⟩,by simp[intOf];omega⟩
  ·have hki:¬(k:Int)<m:=(by omega);have e:k=m:=(by omega);subst e;rw[Cx,List.replicate_zero,A3,A5 (by rw[HKL.out];exact Aa _)]at hrow;have HS:=Xba hrow;have HBB:=Xba hb;clear hrow hb;go_wp2_with fail;go_ret2;exact⟨⟨_,_,rfl,row_ag HS.out HKL.out HKB.out (by omega),λx hx=>by cases hx;exact⟨rfl,HS.out⟩⟩,HBB.out⟩
end Go.Proofs.YtalhnnjpjaeakaaGreat.Ni
namespace Go.Proofs.YtalhnnjpjaeakaaGreat
open Tr
variable {w w' A B : World} {a a' aq : Option Addr} {n c m M B0 n' c' gY j nq cq : Nat} {K U K' : Nat → Prop} {p x q : List Int} {Jx : World → Prop} {k : Nat → Tr} {vs : Nat → Value}
theorem I7{a:Addr}{v:Value}(h:w.cell? a=some v):∃cs T fr,w.heap[a.block]?=some (.cells cs T fr)/\cs[a.off]?=some v:=by
 unfold World.cell? at h;split at h
 ·rename_i cs T fr e;split at h
  ·cases h
  ·exact⟨cs,T,fr,e,h⟩
 ·cases h
def Wr(w:World)(a:Option Addr)(n:Nat):Prop:=n=0∨∃g off cur,a=some ⟨g,off,none⟩/\Rw g w cur 5/\off+n<=cur.size
theorem Wr.go(h:Wr w a n)(hb:Below w.heap.size w w'):Wr w' a n:=h.imp id λ⟨g,off,cur,e1,e2,e3⟩=>⟨g,off,cur,e1,e2.go hb,e3⟩
theorem Wr.drew(h:Wr w a n):Wr w.drew a n:=h.go (Ak _ _).drew
theorem Yr{base:Nat}{bs:List Int}(h:OwnB w base (.slice a n c) bs):Wr w a n:=by
 obtain⟨h1,h2⟩:=h;rcases h2 with⟨h2,h3⟩|⟨g,cap,cur,e,hb,hg,hc1,hc2,hc3,hc4⟩
 ·cases h2;exact .inl rfl
 ·cases e;exact .inr ⟨g,0,cur,rfl,hg,by omega⟩
theorem ZP{N:Nat}{bs:List Int}(h:Ag w a m m bs)(e:∀x,a=some x->x.block=N/\Ni.Row N w bs):Wr w a m:=by
 by_cases h0:m=0
 ·exact .inl h0
 ·rcases h.i with⟨h1,h2⟩|⟨gb,off,h1,h2,h3,h4,h5,h7⟩
  ·omega
  ·obtain⟨e1,e2⟩:=e _ h1;obtain⟨cs,T,fr,q1,q2⟩:=I7 (h7 (m-1) (by have:=h.l;omega));have e1':gb=N:=e1;subst e1';unfold Ni.Row at e2;rw[show(⟨gb,off+(m-1),none⟩:Addr).block=gb from rfl,e2]at q1;cases q1;have:=(BF.1 q2).1;exact .inr ⟨gb,off,_,h1,e2,by simp only at this⊢;omega⟩
theorem Ub(h1:Sk K w none 0 0 p):
 Calls prog 32 #[.slice none 0 0] w λe w'=>∃u,e= .returned u/\∃a2 n2 c2,u= .slice a2 n2 c2/\Sk (λb=>w.heap.size<=b) w' a2 n2 c2 p/\Wr w' a2 n2/\Bl w w':=by
 have hB:=Bl.refl w;refine Dp func32 8 ?_;exact Hr 20 (.slice none 0 0) ⟨_,rfl,none,0,0,rfl,by have e:p=[]:=Ar h1.len;subst e;exact Sk.nil _ _, .inl rfl,hB⟩
theorem Uc{ad:Addr}(h1:Sk K w (some ad) n c p)(hn:n<=1000000):
 Calls prog 32 #[.slice (some ad) n c] w λe w'=>∃u,e= .returned u/\∃a2 n2 c2,u= .slice a2 n2 c2/\Sk (λb=>w.heap.size<=b) w' a2 n2 c2 p/\Wr w' a2 n2/\Bl w w':=by
 have hB:=Bl.refl w;refine Dp func32 8<|Ko 17 #[] 5 0 ?_;intro w1 g2 hn3 _;have hzhn3:=hB.size;have hO:OwnB w1 g2 (.slice (some ⟨g2,0,none⟩) 0 0) []:=by rw[hn3.hw,hn3.hg];exact OwnB.new _
 have hsz:=hn3.size;have hgs:=hn3.hg;replace h1:=h1.go hn3.below;obtain⟨v1,w9,hr9,ho9,hb9⟩:=Ew hO h1.ag (by simp;omega) (by omega);refine Hx 1 (og f32 3 2) v1 (λ_=>Cu hr9 _ _ rfl (by kernel_rfl) (by kernel_rfl)) ?_;obtain⟨a9,c9,rfl,hs9⟩:=ho9.sk (K:=λb=>w.heap.size<=b) (by simpa using h1.ag.b) (λb hb=>by omega);replace hB:=hB.go hn3.below;exact Hr 4 (.slice a9 ([]++p).length c9) ⟨_,rfl,_,_,_,rfl,hs9,Yr ho9,hB.trans (hb9.mono (by omega))⟩
theorem LS(h1:Sk K w a n c p)(hn:n<=1000000):
 Calls prog 32 #[.slice a n c] w λe w'=>∃u,e= .returned u/\∃a2 n2 c2,u= .slice a2 n2 c2/\Sk (λb=>w.heap.size<=b) w' a2 n2 c2 p/\Wr w' a2 n2/\Bl w w':=by
 cases a with
 |none=>obtain⟨rfl,rfl⟩:=h1.ag.nil rfl;exact Ub h1
 |some ad=>exact Uc h1 hn
def Pr(cs:Array Value):Prop:=∃(j:Nat)(v:Value),cs[j]?=some v/\∀a n c,v≠ .slice a n c
structure KpU(U:Nat->Prop)(M:Nat)(A B:World):Prop where
 size:A.heap.size<=B.heap.size
 keep:∀k cs T fr,k<M->¬U k->Pr cs->A.heap[k]?=some (.cells cs T fr)->B.heap[k]?=some (.cells cs T fr)
theorem KpU.trans{M':Nat}{C:World}(h:KpU U M A B)(g:KpU U M' B C)(hM:M<=M'):KpU U M A C:=⟨Al h.size g.size,λk cs T fr hk hU hP hh=>g.keep k cs T fr (Bw hk hM) hU hP (h.keep k cs T fr hk hU hP hh)⟩
theorem KpU.of_below(M:Nat)(h:Below A.heap.size A B):KpU U M A B:=⟨h.size,λk cs T fr _ _ _ hh=>(h.block k (lt_of_get hh)).trans hh⟩
theorem Rw.kp{g:Nat}{cells:Array Value}{T:TypeId}(h:Rw g A cells T)(hk:KpU U M A B)(hg:g<M)(hU:¬U g)(hP:Pr cells):Rw g B cells T:=hk.keep g cells T (0,0) hg hU hP h
theorem Sk.kp{bs:List Int}(h:Sk K A a n c bs)(hk:KpU U M A B)(hM:A.heap.size<=M)(hK:∀b,K b->¬U b):Sk K B a n c bs:=by
 refine⟨⟨?_,h.ag.nil,h.ag.l,h.ag.b⟩,h.k⟩;rcases h.ag.i with h1|⟨gb,off,h1,h2,h3,h4,h5,h7⟩
 ·exact .inl h1
 ·refine .inr ⟨gb,off,h1,h2,h3,h4,h5,λj hj=>?_⟩;obtain⟨cs,T,fr,e,e'⟩:=I7 (h7 j hj);have:=hk.keep gb cs T fr (Bw (lt_of_get e) hM) (hK _ (h.k _ h1 h3)) ⟨_,_,e',λ_ _ _=>by simp⟩ e;rw[<-h7 j hj];exact Aq (this.trans e.symm)
theorem TA.kp(hk:KpU U M A B)(hM:A.heap.size<=M)(hK:∀b,K b->¬U b):∀{t:Tr}{v:Value},TA K A t v->TA K B t v:=by
 intro t
 induction t with
 |no=>intro v h;exact h
 |leaf p x=>rintro v⟨a,n,c,a',n',c',h1,h2,h3,h4⟩;exact⟨a,n,c,a',n',c',h1,h2.kp hk hM hK,h3.kp hk hM hK,h4⟩
 |ext p t ih=>rintro v⟨a,n,c,u,h1,h2,h3⟩;exact⟨a,n,c,u,h1,h2.kp hk hM hK,ih h3⟩
 |br k x ih=>rintro v⟨vs,a,n,c,h1,h2,h3,h4⟩;exact⟨vs,a,n,c,h1,λi hi=>ih i (h2 i hi),h3.kp hk hM hK,h4⟩
abbrev PList:=List (List Int×List Int)
structure Vis(l B0:Nat)(Z:PList)(U:Nat->Prop)(J:PList->World->Prop)(Jx:World->Prop):Prop where
 go:∀{pre:PList}{W W':World},J pre W->Below W.heap.size W W'->J pre W'
 gx:∀{W W':World},Jx W->Below W.heap.size W W'->Jx W'
 lo:∀b,U b->b<B0
 y:∀{pre:PList}{W:World}{M:Nat}{a a':Option Addr}{n c n' c':Nat}{k x:List Int},J pre W->(∃W0,J pre W0/\W0.heap.size<=M/\Below W0.heap.size W0 W)->(pre++[(k,x)])<+:Z->B0<=M->M<=W.heap.size->Sk (λb=>M<=b) W a n c k->Sk (λb=>M<=b) W a' n' c' x->Wr W a n->Wr W a' n'->
  YieldAt Fence.wide 0 prog l #[.slice a n c, .slice a' n' c'] W λe W'=>(e= .returned (.bool true)/\J (pre++[(k,x)]) W'/\KpU U M W W')∨(e= .returned (.bool false)/\Jx W')
def RE(U:Nat->Prop)(J:PList->World->Prop)(Jx:World->Prop)(w:World)(L:PList):Value->World->Prop:=λu w'=>(u= .bool true/\J L w'/\KpU U w.heap.size w w')∨(u= .bool false/\Jx w')
def entsF(p:List Int):Tr->PList
 |no=>[]
 |leaf q x=>[((Ni.keyP (p++q)).1,x)]
 |ext q c=>entsF (p++q) c
 |br k x=>(if x=[]then[]else[((Ni.keyP p).1,x)])++(List.range 16).flatMap λi=>if(k i).isNo then[]else entsF (p++[(i:Int)]) (k i)
def fvE(gY:Nat):Value:= .func (.func 64) #[] #[.pointer (some ⟨gY,0,none⟩)]
theorem ZQ{l:Nat}{Z:PList}{J:PList->World->Prop}(V:Vis l B0 Z U J Jx)(hp:Sk K w a n c p)(hx:Sk K' w a' n' c' x)(hn:n<=1000)(hn':n'<=1000)(hY:Rw gY w #[.func (.yield l) #[] #[]] 86){pre:PList}(hJ:J pre w)(hN:(pre++[((Ni.keyP p).1,x)])<+:Z)(hB0:B0<=w.heap.size):
 Calls prog 64 #[.slice a n c, .slice a' n' c', .pointer (some ⟨gY,0,none⟩)] w λe w'=>∃u,e= .returned u/\RE U J Jx w (pre++[((Ni.keyP p).1,x)]) u w':=by
 have hB:=Bl.refl w;have hJ0:=hJ;refine EP func64 rfl 18 rfl ?_;show CW _ _ _ _ _ _ _ [(0, .slice a n c),(1, .slice a' n' c'),(2, .pointer (some ⟨gY,0,none⟩))] _;refine BG<|Bn<|rp 5 (.bool false)<|BZ<|Bv<|BG<|Bn<|rp 9 (.slice a n c)<|Ia 10 65 #[.slice a n c] (λ_=>by kernel_rfl) (λ_=>by kernel_rfl) (R:=λu w'=>(∃a2 m2,u= .tuple #[.slice a2 m2 m2, .bool (Ni.keyP p).2]/\Sk (λb=>(w).heap.size<=b) w' a2 m2 m2 (Ni.keyP p).1/\Wr w' a2 m2)/\Bl (w) w') ((Ni.key_new a n c p _ hp.ag (by omega)).mono (λe w'⟨⟨a2,m2,e1,e2,e3⟩,e4⟩=>⟨_,e1,⟨a2,m2,rfl,⟨e2,λx hx _=>by rw[(e3 x hx).1];exact Aa _⟩,ZP e2 e3⟩,e4⟩)) ?_;rintro _ u1⟨⟨a2,m2,rfl,hk2,hwk⟩,hb1⟩;replace hB:=hB.go hb1;replace hp:=hp.go hb1;replace hx:=hx.go hb1;replace hY:=hY.go hb1;replace hJ:=V.go hJ hb1;refine rp 8 (.tuple #[.slice a2 m2 m2, .bool (Ni.keyP p).2])<|rp 11 (.slice a2 m2 m2)<|rp 12 (.bool (Ni.keyP p).2)<|rp 6 (.slice a2 m2 m2)<|rp 7 (.bool (Ni.keyP p).2)<|BZ<|Bv<|BG<|X8 (by kernel_rfl) ?_;replace hB:=hB.drew;replace hp:=hp.drew;replace hx:=hx.drew;replace hY:=hY.drew;replace hJ:=V.go hJ (Ak _ _).drew;replace hk2:=hk2.drew;replace hwk:=hwk.drew;refine RN 1 14 (.slice a2 m2 m2) rfl (by kernel_rfl) (λ_ _ _ h=>h) (λ_=>by kernel_rfl) (λ_ _=>by kernel_rfl) (λ_ _=>rfl)<|RN 2 15 (.slice a' n' c') rfl (by kernel_rfl) (λ_ _ _ h=>h) (λ_=>by kernel_rfl) (λ_ _=>by kernel_rfl) (λ_ _=>rfl)<|ER [0,3] (by kernel_rfl) (by simp) ?_;refine Th 0 13 (.func (.yield l) #[] #[]) rfl (λ_=>by kernel_rfl) (λ_=>AF 86 _ ⟨gY,0,none⟩ _ _ rfl (by kernel_rfl) (by rw[Ae _ _ _ _ _ _ hY];rfl) underlying86 rfl) ?_ ?_
 ·skip
  refine ER [3] (by kernel_rfl) (by simp) ?_;refine RO 3 16 32 #[.slice a' n' c'] rfl (λ_=>by kernel_rfl) (λ_=>by kernel_rfl) (R:=λu w'=>∃a3 n3 c3,u= .slice a3 n3 c3/\Sk (λb=>(u1.drew).heap.size<=b) w' a3 n3 c3 x/\Wr w' a3 n3/\Bl (u1.drew) w') (LS hx (by omega)) ?_ G2;rintro _ u2⟨a3,n3,c3,rfl,hs3,hw3,hb2⟩;have hsB:=hB.size;replace hB:=hB.go hb2;replace hp:=hp.go hb2;replace hx:=hx.go hb2;replace hY:=hY.go hb2;replace hJ:=V.go hJ hb2;replace hk2:=hk2.go hb2;replace hwk:=hwk.go hb2;refine ER [4] (by kernel_rfl) (by simp) ?_;refine OS 4 17 l #[.slice a2 m2 m2, .slice a3 n3 c3] rfl (λ_=>by kernel_rfl) (λ_=>by kernel_rfl) (V.y (M:=w.heap.size) hJ ⟨w,hJ0,Aa _,hB⟩ hN hB0 hB.size (hk2.mono (λb hb=>hb)) (hs3.mono (λb hb=>Al hsB hb)) hwk hw3) ?_ G2;rintro e w'(⟨rfl,hJ',hkp⟩|⟨rfl,hjx⟩)
  ·refine⟨_,rfl,?_⟩;refine ER [5] (by kernel_rfl) (by simp) ?_;refine Th (w':=w') 5 5 (.bool true) rfl (λ_=>by kernel_rfl) (λ_=>by kernel_rfl) ?_ G2;refine KP (by kernel_rfl)<|Bv<|EB ?_;exact CO (.bool true) (λ_=>by kernel_rfl) ⟨_,rfl, .inl ⟨rfl,hJ',(KpU.of_below _ hB).trans hkp (Aa _)⟩⟩
  ·refine⟨_,rfl,?_⟩;refine ER [5] (by kernel_rfl) (by simp) ?_;refine Th (w':=w') 5 5 (.bool false) rfl (λ_=>by kernel_rfl) (λ_=>by kernel_rfl) ?_ G2;refine KP (by kernel_rfl)<|Bv<|EB ?_;exact CO (.bool false) (λ_=>by kernel_rfl) ⟨_,rfl, .inr ⟨rfl,hjx⟩⟩
 refine RO 3 16 32 #[.slice a' n' c'] rfl (λ_=>by kernel_rfl) (λ_=>by kernel_rfl) (R:=λu w'=>∃a3 n3 c3,u= .slice a3 n3 c3/\Sk (λb=>(u1.drew).heap.size<=b) w' a3 n3 c3 x/\Wr w' a3 n3/\Bl (u1.drew) w') (LS hx (by omega)) ?_ G2;rintro _ u2⟨a3,n3,c3,rfl,hs3,hw3,hb2⟩;have hsB:=hB.size;replace hB:=hB.go hb2;replace hp:=hp.go hb2;replace hx:=hx.go hb2;replace hY:=hY.go hb2;replace hJ:=V.go hJ hb2;replace hk2:=hk2.go hb2;replace hwk:=hwk.go hb2;refine ER [0] (by kernel_rfl) (by simp) ?_;refine Th 0 13 (.func (.yield l) #[] #[]) rfl (λ_=>by kernel_rfl) (λ_=>AF 86 _ ⟨gY,0,none⟩ _ _ rfl (by kernel_rfl) (by rw[Ae _ _ _ _ _ _ hY];rfl) underlying86 rfl) ?_ G2;refine ER [4] (by kernel_rfl) (by simp) ?_;refine OS 4 17 l #[.slice a2 m2 m2, .slice a3 n3 c3] rfl (λ_=>by kernel_rfl) (λ_=>by kernel_rfl) (V.y (M:=w.heap.size) hJ ⟨w,hJ0,Aa _,hB⟩ hN hB0 hB.size (hk2.mono (λb hb=>hb)) (hs3.mono (λb hb=>Al hsB hb)) hwk hw3) ?_ G2;rintro e w'(⟨rfl,hJ',hkp⟩|⟨rfl,hjx⟩)
 ·refine⟨_,rfl,?_⟩;refine ER [5] (by kernel_rfl) (by simp) ?_;refine Th (w':=w') 5 5 (.bool true) rfl (λ_=>by kernel_rfl) (λ_=>by kernel_rfl) ?_ G2;refine KP (by kernel_rfl)<|Bv<|EB ?_;exact CO (.bool true) (λ_=>by kernel_rfl) ⟨_,rfl, .inl ⟨rfl,hJ',(KpU.of_below _ hB).trans hkp (Aa _)⟩⟩
 ·refine⟨_,rfl,?_⟩;refine ER [5] (by kernel_rfl) (by simp) ?_;refine Th (w':=w') 5 5 (.bool false) rfl (λ_=>by kernel_rfl) (λ_=>by kernel_rfl) ?_ G2;refine KP (by kernel_rfl)<|Bv<|EB ?_;exact CO (.bool false) (λ_=>by kernel_rfl) ⟨_,rfl, .inr ⟨rfl,hjx⟩⟩
def RB(U:Nat->Prop)(J:PList->World->Prop)(Jx:World->Prop)(w:World)(L:PList):Value->World->Prop:=λu w'=>∃b,u= .bool b/\(b=true->J L w'/\KpU U w.heap.size w w')/\(b=false->Jx w')
theorem RE.rb{J:PList->World->Prop}{L:PList}{u:Value}(h:RE U J Jx w L u w'):RB U J Jx w L u w':=by
 rcases h with⟨rfl,h1,h2⟩|⟨rfl,h⟩
 ·exact⟨true,rfl,λ_=>⟨h1,h2⟩,λe=>by cases e⟩
 ·exact⟨false,rfl,(λe=>by cases e),λ_=>h⟩
theorem J0{l:Nat}{Z:PList}{J:PList->World->Prop}(V:Vis l B0 Z U J Jx)(hp:Sk K w a n c p)(hx:Sk K' w a' n' c' x)(hn:n<=1000)(hn':n'<=1000)(hY:Rw gY w #[.func (.yield l) #[] #[]] 86){pre:PList}(hJ:J pre w)(hN:(pre++[((Ni.keyP p).1,x)])<+:Z)(hB0:B0<=w.heap.size):
 Calls prog 64 #[.slice a n c, .slice a' n' c', .pointer (some ⟨gY,0,none⟩)] w λe w'=>∃u,e= .returned u/\RB U J Jx w (pre++[((Ni.keyP p).1,x)]) u w':=
 (ZQ V hp hx hn hn' hY hJ hN hB0).mono (λe w'⟨u,e1,e2⟩=>⟨u,e1,e2.rb⟩)
def EC(l B0:Nat)(Z:PList)(U:Nat->Prop)(J:PList->World->Prop)(Jx:World->Prop)(t:Tr):Prop:=∀{K K':Nat->Prop}{w:World}{v:Value}{a:Option Addr}{n c B gY:Nat}{q:List Int}{pre:PList},Tr.Ok B t->n+B<=64->TA K w t v->(∀b,K b->¬U b)->Sk K' w a n c q->(∀b,K' b->¬U b)->Rw gY w #[.func (.yield l) #[] #[]] 86->¬U gY->J pre w->(pre++entsF q t)<+:Z->B0<=w.heap.size->
 MC "pergola/trie.each" v #[.slice a n c, .func (.func 64) #[] #[.pointer (some ⟨gY,0,none⟩)]] w (RB U J Jx w (pre++entsF q t))
theorem Ud(x:Value):Iv "pergola/trie.each" (.iface 98 x) 168 x:=ET λw vs=>by kernel_rfl
theorem Ue(x:Value):Iv "pergola/trie.each" (.iface 220 x) 188 x:=ET λw vs=>by kernel_rfl
theorem Uf(x:Value):Iv "pergola/trie.each" (.iface 215 x) 180 x:=ET λw vs=>by kernel_rfl
theorem SJ{K:Nat->Prop}{w0 w:World}{t:Tr}{v:Value}(h:TA K w0 t v)(hne:t≠no){ρ:Operand->Value}{o:Oper}(i:Nat)(ho:o.op= .nilCheck (.tmp i))(hx:ρ (.tmp i)= .func (.method "pergola/trie.each") #[v] #[]):(execOp ρ o).run prog w= .ok (.value (.func (.method "pergola/trie.each") #[v] #[])) w:=by
 unfold execOp;rw[ho];simp only[hx];cases t with
 |no=>exact absurd rfl hne
 |leaf p x=>obtain⟨_,_,_,_,_,_,rfl,_⟩:=h;kernel_rfl
 |ext p t=>obtain⟨_,_,_,_,rfl,_⟩:=h;kernel_rfl
 |br k x=>obtain⟨_,_,_,_,rfl,_⟩:=h;kernel_rfl
def flK(q:List Int)(k:Nat->Tr)(j:Nat):PList:=(List.range j).flatMap λi=>if(k i).isNo then[]else entsF (q++[(i:Int)]) (k i)
theorem Wp(h:k j=no):flK q k (j+1)=flK q k j:=by simp[flK,List.range_succ,List.flatMap_append,h,isNo]
theorem Ld(h:k j≠no):flK q k (j+1)=flK q k j++entsF (q++[((j:Nat):Int)]) (k j):=by
 have:(k j).isNo=false:=by cases hk:k j<;>simp_all [isNo]
 simp[flK,List.range_succ,List.flatMap_append,this]
theorem Wu(q:List Int)(k:Nat->Tr)(h:j<=m):flK q k j<+:flK q k m:=by
 induction m with
 |zero=>
  obtain rfl:j=0:=by omega
  exact List.prefix_rfl
 |succ m ih=>
  by_cases e:j=m+1
  ·rw[e];exact List.prefix_rfl
  ·refine(ih (by omega)).trans ?_;simp only[flK,CF,BX];exact List.prefix_append _ _
theorem TA.ns{t:Tr}{v:Value}(h:TA K w t v):∀a n c,v≠ .slice a n c:=by
 cases t with
 |no=>rw[show v= .nilIface from h];simp
 |leaf p x=>obtain⟨_,_,_,_,_,_,rfl,_⟩:=h;simp
 |ext p t=>obtain⟨_,_,_,_,rfl,_⟩:=h;simp
 |br k x=>obtain⟨_,_,_,_,rfl,_⟩:=h;simp
theorem TK.pr(h:TK K w k vs)(s:Value):Pr (brc vs s):=⟨0,vs 0,rfl,(h 0 (by omega)).ns⟩
theorem TK.kp(h:TK K A k vs)(hk:KpU U A.heap.size A B)(hK:∀b,K b->¬U b):TK K B k vs:=λi hi=>(h i hi).kp hk (Aa _) hK
theorem Ug{l:Nat}{Z:PList}{J:PList->World->Prop}(V:Vis l B0 Z U J Jx)(hp:Sk K w a n c p)(hx:Sk K w a' n' c' x)(hn2:n'<=256)(hq:Sk K' w aq nq cq q)(hY:Rw gY w #[.func (.yield l) #[] #[]] 86){pre:PList}(hJ:J pre w)(hN:(pre++[((Ni.keyP (q++p)).1,x)])<+:Z)(hB0:B0<=w.heap.size)(h64:nq+n<=64):
 Calls prog 168 #[.agg #[.slice a n c, .slice a' n' c'], .slice aq nq cq, .func (.func 64) #[] #[.pointer (some ⟨gY,0,none⟩)]] w λe w'=>∃u,e= .returned u/\RB U J Jx w (pre++entsF q (leaf p x)) u w':=by
 have hB:=Bl.refl w;have lp:=hp.len;have lq:=hq.len;refine Dp func168 16<|Hn 2 (#[.slice a n c, .slice a' n' c']) 98 ?_;intro w1 g2 hn3 hr4;replace hJ:=V.go hJ hn3.below;refine GK 4 (λ_=>True) (trivial) ?_;replace hJ:=V.go hJ (Ak _ _).drew;refine Dy [0,1,2,6] [3,7] trivial ?_;replace hr4:=hr4.drew;refine Yx 3 (og f168 1 3) (.slice a n c) (λ_=>AF 27 _ ⟨g2,0,none⟩ _ _ rfl (by kernel_rfl) (by rw[Ae _ _ _ _ _ _ hr4];rfl) underlying27 rfl) trivial ?_ ?_
 ·skip
  refine Dz [4,7] ?_;refine FL 4 #[.slice aq nq cq, .slice a n c] 27 2 (λw' g h=>trivial) ?_ ?_
  ·skip
   intro w5 g6 hn7 hL;replace hJ:=V.go hJ hn7.below;refine Dz [5,7] ?_;replace hp:=((hp.go hn3.below).drew).go hn7.below;replace hq:=((hq.go hn3.below).drew).go hn7.below;refine Yc 5 (R:=λu w'=>∃a2 n2 c2,u= .slice a2 n2 c2/\Sk (λb=>(w5).heap.size<=b) w' a2 n2 c2 (q++p)/\Bl (w5) w') (Dr hq hp hL (by omega) (by omega)) (λu w' h=>trivial) ?_ ?_
   ·skip
    rintro _ u8⟨a3,n3,c3,rfl,hs3,hb9⟩;replace hB:=((hB.go hn3.below).drew).go hn7.below;have hsB:=hB.size;replace hJ:=V.go hJ hb9;refine Dz [7] ?_;replace hr4:=(hr4.go hn7.below).go hb9;refine Yx 7 (og f168 1 7) (.slice a' n' c') (λ_=>AF 27 _ ⟨g2,1,none⟩ _ _ rfl (by kernel_rfl) (by rw[Ae _ _ _ _ _ _ hr4];rfl) underlying27 rfl) trivial ?_ yn;refine Dz [8] ?_;have l3:=hs3.len;rw[Ab]at l3;replace hx:=(((hx.go hn3.below).drew).go hn7.below).go hb9;replace hY:=(((hY.go hn3.below).drew).go hn7.below).go hb9;replace hB:=hB.go hb9;refine Yc 8 (R:=RB U J Jx (u8) (pre++[((Ni.keyP (q++p)).1,x)])) (J0 V hs3 hx (by omega) (by omega) hY hJ hN (Al hB0 hB.size)) (λu w' h=>trivial) ?_ yn;rintro _ u8⟨b8,rfl,hR8,hX8⟩;have hBk:=hB;refine Dx [] 9 (og f168 1 9) (.bool b8) (λv hv _=>by kernel_rfl) trivial<|Do ?_;exact Hr 2 (.bool b8) ⟨_,rfl,b8,rfl,λe=>⟨(hR8 e).1,(KpU.of_below _ hBk).trans (hR8 e).2 hBk.size⟩,hX8⟩
   replace hr4:=hr4.go hn7.below;refine Yx 7 (og f168 1 7) (.slice a' n' c') (λ_=>AF 27 _ ⟨g2,1,none⟩ _ _ rfl (by kernel_rfl) (by rw[Ae _ _ _ _ _ _ hr4];rfl) underlying27 rfl) trivial ?_ yn;refine Dz [5] ?_;refine Yc 5 (R:=λu w'=>∃a2 n2 c2,u= .slice a2 n2 c2/\Sk (λb=>(w5).heap.size<=b) w' a2 n2 c2 (q++p)/\Bl (w5) w') (Dr hq hp hL (by omega) (by omega)) (λu w' h=>trivial) ?_ yn;rintro _ u10⟨a3,n3,c3,rfl,hs3,hb11⟩;replace hB:=((hB.go hn3.below).drew).go hn7.below;have hsB:=hB.size;replace hJ:=V.go hJ hb11;refine Dz [8] ?_;have l3:=hs3.len;rw[Ab]at l3;replace hx:=(((hx.go hn3.below).drew).go hn7.below).go hb11;replace hY:=(((hY.go hn3.below).drew).go hn7.below).go hb11;replace hB:=hB.go hb11;refine Yc 8 (R:=RB U J Jx (u10) (pre++[((Ni.keyP (q++p)).1,x)])) (J0 V hs3 hx (by omega) (by omega) hY hJ hN (Al hB0 hB.size)) (λu w' h=>trivial) ?_ yn;rintro _ u8⟨b8,rfl,hR8,hX8⟩;have hBk:=hB;refine Dx [] 9 (og f168 1 9) (.bool b8) (λv hv _=>by kernel_rfl) trivial<|Do ?_;exact Hr 2 (.bool b8) ⟨_,rfl,b8,rfl,λe=>⟨(hR8 e).1,(KpU.of_below _ hBk).trans (hR8 e).2 hBk.size⟩,hX8⟩
  refine Yx 7 (og f168 1 7) (.slice a' n' c') (λ_=>AF 27 _ ⟨g2,1,none⟩ _ _ rfl (by kernel_rfl) (by rw[Ae _ _ _ _ _ _ hr4];rfl) underlying27 rfl) trivial ?_ yn;refine Dz [4] ?_;refine FL 4 #[.slice aq nq cq, .slice a n c] 27 2 (λw' g h=>trivial) ?_ yn;intro w12 g13 hn14 hL;replace hJ:=V.go hJ hn14.below;refine Dz [5] ?_;replace hp:=((hp.go hn3.below).drew).go hn14.below;replace hq:=((hq.go hn3.below).drew).go hn14.below;refine Yc 5 (R:=λu w'=>∃a2 n2 c2,u= .slice a2 n2 c2/\Sk (λb=>(w12).heap.size<=b) w' a2 n2 c2 (q++p)/\Bl (w12) w') (Dr hq hp hL (by omega) (by omega)) (λu w' h=>trivial) ?_ yn;rintro _ u15⟨a3,n3,c3,rfl,hs3,hb16⟩;replace hB:=((hB.go hn3.below).drew).go hn14.below;have hsB:=hB.size;replace hJ:=V.go hJ hb16;refine Dz [8] ?_;have l3:=hs3.len;rw[Ab]at l3;replace hx:=(((hx.go hn3.below).drew).go hn14.below).go hb16;replace hY:=(((hY.go hn3.below).drew).go hn14.below).go hb16;replace hB:=hB.go hb16;refine Yc 8 (R:=RB U J Jx (u15) (pre++[((Ni.keyP (q++p)).1,x)])) (J0 V hs3 hx (by omega) (by omega) hY hJ hN (Al hB0 hB.size)) (λu w' h=>trivial) ?_ yn;rintro _ u8⟨b8,rfl,hR8,hX8⟩;have hBk:=hB;refine Dx [] 9 (og f168 1 9) (.bool b8) (λv hv _=>by kernel_rfl) trivial<|Do ?_;exact Hr 2 (.bool b8) ⟨_,rfl,b8,rfl,λe=>⟨(hR8 e).1,(KpU.of_below _ hBk).trans (hR8 e).2 hBk.size⟩,hX8⟩
 refine Yx 7 (og f168 1 7) (.slice a' n' c') (λ_=>AF 27 _ ⟨g2,1,none⟩ _ _ rfl (by kernel_rfl) (by rw[Ae _ _ _ _ _ _ hr4];rfl) underlying27 rfl) trivial ?_ yn;refine Dz [3] ?_;refine Yx 3 (og f168 1 3) (.slice a n c) (λ_=>AF 27 _ ⟨g2,0,none⟩ _ _ rfl (by kernel_rfl) (by rw[Ae _ _ _ _ _ _ hr4];rfl) underlying27 rfl) trivial ?_ yn;refine Dz [4] ?_;refine FL 4 #[.slice aq nq cq, .slice a n c] 27 2 (λw' g h=>trivial) ?_ yn;intro w17 g18 hn19 hL;replace hJ:=V.go hJ hn19.below;refine Dz [5] ?_;replace hp:=((hp.go hn3.below).drew).go hn19.below;replace hq:=((hq.go hn3.below).drew).go hn19.below;refine Yc 5 (R:=λu w'=>∃a2 n2 c2,u= .slice a2 n2 c2/\Sk (λb=>(w17).heap.size<=b) w' a2 n2 c2 (q++p)/\Bl (w17) w') (Dr hq hp hL (by omega) (by omega)) (λu w' h=>trivial) ?_ yn;rintro _ u20⟨a3,n3,c3,rfl,hs3,hb21⟩;replace hB:=((hB.go hn3.below).drew).go hn19.below;have hsB:=hB.size;replace hJ:=V.go hJ hb21;refine Dz [8] ?_;have l3:=hs3.len;rw[Ab]at l3;replace hx:=(((hx.go hn3.below).drew).go hn19.below).go hb21;replace hY:=(((hY.go hn3.below).drew).go hn19.below).go hb21;replace hB:=hB.go hb21;refine Yc 8 (R:=RB U J Jx (u20) (pre++[((Ni.keyP (q++p)).1,x)])) (J0 V hs3 hx (by omega) (by omega) hY hJ hN (Al hB0 hB.size)) (λu w' h=>trivial) ?_ yn;rintro _ u8⟨b8,rfl,hR8,hX8⟩;have hBk:=hB;refine Dx [] 9 (og f168 1 9) (.bool b8) (λv hv _=>by kernel_rfl) trivial<|Do ?_;exact Hr 2 (.bool b8) ⟨_,rfl,b8,rfl,λe=>⟨(hR8 e).1,(KpU.of_below _ hBk).trans (hR8 e).2 hBk.size⟩,hX8⟩
theorem Uh{l:Nat}{Z:PList}{J:PList->World->Prop}(V:Vis l B0 Z U J Jx){B:Nat}{t:Tr}{Tu:TypeId}{xu:Value}(hp:Sk K w a n c p)(ht:TA K w t (.iface Tu xu))(hKU:∀b,K b->¬U b)(hF:EC l B0 Z U J Jx t)(hOc:Tr.Ok B t)(hq:Sk K' w aq nq cq q)(hY:Rw gY w #[.func (.yield l) #[] #[]] 86){pre:PList}(hJ:J pre w)(hN:(pre++entsF q (ext p t))<+:Z)(hB0:B0<=w.heap.size)(hUY:¬U gY)(h64:nq+n+B<=64):
 Calls prog 188 #[.agg #[.slice a n c, .iface Tu xu], .slice aq nq cq, .func (.func 64) #[] #[.pointer (some ⟨gY,0,none⟩)]] w λe w'=>∃u,e= .returned u/\RB U J Jx w (pre++entsF q (ext p t)) u w':=by
 have hB:=Bl.refl w;have lp:=hp.len;have lq:=hq.len;refine Dp func188 18<|Hn 2 (#[.slice a n c, .iface Tu xu]) 220 ?_;intro w1 g2 hn3 hr4;replace hJ:=V.go hJ hn3.below;refine GK 4 (λ_=>True) (trivial) ?_;replace hJ:=V.go hJ (Ak _ _).drew;refine Dy [0,2,3,7] [1,4] trivial ?_;replace hr4:=hr4.drew;refine Yx 1 (og f188 1 1) (.iface Tu xu) (λ_=>AF 65 _ ⟨g2,1,none⟩ _ _ rfl (by kernel_rfl) (by rw[Ae _ _ _ _ _ _ hr4];rfl) underlying65 rfl) trivial ?_ ?_
 ·skip
  refine Dx [] 8 (og f188 1 8) (.iface Tu xu) (λv hv=>(λ_=>by kernel_rfl)) trivial<|Dy [9] [4] trivial ?_;refine Yx 4 (og f188 1 4) (.slice a n c) (λ_=>AF 27 _ ⟨g2,0,none⟩ _ _ rfl (by kernel_rfl) (by rw[Ae _ _ _ _ _ _ hr4];rfl) underlying27 rfl) trivial ?_ yn;refine Dz [5] ?_;refine FL 5 #[.slice aq nq cq, .slice a n c] 27 2 (λw' g h=>trivial) ?_ yn;intro w5 g6 hn7 hL;replace hJ:=V.go hJ hn7.below;refine Dz [6] ?_;replace hp:=((hp.go hn3.below).drew).go hn7.below;replace hq:=((hq.go hn3.below).drew).go hn7.below;refine Yc 6 (R:=λu w'=>∃a2 n2 c2,u= .slice a2 n2 c2/\Sk (λb=>(w5).heap.size<=b) w' a2 n2 c2 (q++p)/\Bl (w5) w') (Dr hq hp hL (by omega) (by omega)) (λu w' h=>trivial) ?_ yn;rintro _ u8⟨a3,n3,c3,rfl,hs3,hb9⟩;replace hB:=((hB.go hn3.below).drew).go hn7.below;have hsB:=hB.size;replace hJ:=V.go hJ hb9;refine Dz [10] ?_;have l3:=hs3.len;rw[Ab]at l3;replace hY:=(((hY.go hn3.below).drew).go hn7.below).go hb9;replace ht:=(((ht.go hn3.below).drew).go hn7.below).go hb9;replace hB:=hB.go hb9;obtain⟨T12,x13,f14,he15,hi10,hc11⟩:=(hF hOc (by omega) ht hKU hs3 (λb hb hu=>by have:=V.lo b hu;have:=hB.size;omega) hY hUY hJ hN (Al hB0 hB.size));refine Ym 10 (og f188 1 10) f14 (#[x13]++#[.slice a3 n3 c3, .func (.func 64) #[] #[.pointer (some ⟨gY,0,none⟩)]]) (λ_=>hi10 _ _ _ _ _ _ _ rfl (by kernel_rfl) (by kernel_rfl)) (R:=RB U J Jx (u8) (pre++entsF (q++p) t)) ?_ (λu w' h=>trivial) ?_ yn
  ·exact hc11
  rintro _ u8⟨b8,rfl,hR8,hX8⟩;have hBk:=hB;refine Dx [] 11 (og f188 1 11) (.bool b8) (λv hv _=>by kernel_rfl) trivial<|Do ?_;exact Hr 2 (.bool b8) ⟨_,rfl,b8,rfl,λe=>⟨(hR8 e).1,(KpU.of_below _ hBk).trans (hR8 e).2 hBk.size⟩,hX8⟩
 refine Yx 4 (og f188 1 4) (.slice a n c) (λ_=>AF 27 _ ⟨g2,0,none⟩ _ _ rfl (by kernel_rfl) (by rw[Ae _ _ _ _ _ _ hr4];rfl) underlying27 rfl) trivial ?_ yn;refine Dz [1,5] ?_;refine Yx 1 (og f188 1 1) (.iface Tu xu) (λ_=>AF 65 _ ⟨g2,1,none⟩ _ _ rfl (by kernel_rfl) (by rw[Ae _ _ _ _ _ _ hr4];rfl) underlying65 rfl) trivial ?_ ?_
 ·skip
  refine Dx [] 8 (og f188 1 8) (.iface Tu xu) (λv hv=>(λ_=>by kernel_rfl)) trivial<|Dy [9] [5] trivial ?_;refine FL 5 #[.slice aq nq cq, .slice a n c] 27 2 (λw' g h=>trivial) ?_ yn;intro w16 g17 hn18 hL;replace hJ:=V.go hJ hn18.below;refine Dz [6] ?_;replace hp:=((hp.go hn3.below).drew).go hn18.below;replace hq:=((hq.go hn3.below).drew).go hn18.below;refine Yc 6 (R:=λu w'=>∃a2 n2 c2,u= .slice a2 n2 c2/\Sk (λb=>(w16).heap.size<=b) w' a2 n2 c2 (q++p)/\Bl (w16) w') (Dr hq hp hL (by omega) (by omega)) (λu w' h=>trivial) ?_ yn;rintro _ u19⟨a3,n3,c3,rfl,hs3,hb20⟩;replace hB:=((hB.go hn3.below).drew).go hn18.below;have hsB:=hB.size;replace hJ:=V.go hJ hb20;refine Dz [10] ?_;have l3:=hs3.len;rw[Ab]at l3;replace hY:=(((hY.go hn3.below).drew).go hn18.below).go hb20;replace ht:=(((ht.go hn3.below).drew).go hn18.below).go hb20;replace hB:=hB.go hb20;obtain⟨T23,x24,f25,he26,hi21,hc22⟩:=(hF hOc (by omega) ht hKU hs3 (λb hb hu=>by have:=V.lo b hu;have:=hB.size;omega) hY hUY hJ hN (Al hB0 hB.size));refine Ym 10 (og f188 1 10) f25 (#[x24]++#[.slice a3 n3 c3, .func (.func 64) #[] #[.pointer (some ⟨gY,0,none⟩)]]) (λ_=>hi21 _ _ _ _ _ _ _ rfl (by kernel_rfl) (by kernel_rfl)) (R:=RB U J Jx (u19) (pre++entsF (q++p) t)) ?_ (λu w' h=>trivial) ?_ yn
  ·exact hc22
  rintro _ u8⟨b8,rfl,hR8,hX8⟩;have hBk:=hB;refine Dx [] 11 (og f188 1 11) (.bool b8) (λv hv _=>by kernel_rfl) trivial<|Do ?_;exact Hr 2 (.bool b8) ⟨_,rfl,b8,rfl,λe=>⟨(hR8 e).1,(KpU.of_below _ hBk).trans (hR8 e).2 hBk.size⟩,hX8⟩
 refine FL 5 #[.slice aq nq cq, .slice a n c] 27 2 (λw' g h=>trivial) ?_ yn;intro w27 g28 hn29 hL;replace hJ:=V.go hJ hn29.below;refine Dz [1,6] ?_;replace hr4:=hr4.go hn29.below;refine Yx 1 (og f188 1 1) (.iface Tu xu) (λ_=>AF 65 _ ⟨g2,1,none⟩ _ _ rfl (by kernel_rfl) (by rw[Ae _ _ _ _ _ _ hr4];rfl) underlying65 rfl) trivial ?_ ?_
 ·skip
  refine Dx [] 8 (og f188 1 8) (.iface Tu xu) (λv hv=>(λ_=>by kernel_rfl)) trivial<|Dy [9] [6] trivial ?_;replace hp:=((hp.go hn3.below).drew).go hn29.below;replace hq:=((hq.go hn3.below).drew).go hn29.below;refine Yc 6 (R:=λu w'=>∃a2 n2 c2,u= .slice a2 n2 c2/\Sk (λb=>(w27).heap.size<=b) w' a2 n2 c2 (q++p)/\Bl (w27) w') (Dr hq hp hL (by omega) (by omega)) (λu w' h=>trivial) ?_ yn;rintro _ u30⟨a3,n3,c3,rfl,hs3,hb31⟩;replace hB:=((hB.go hn3.below).drew).go hn29.below;have hsB:=hB.size;replace hJ:=V.go hJ hb31;refine Dz [10] ?_;have l3:=hs3.len;rw[Ab]at l3;replace hY:=(((hY.go hn3.below).drew).go hn29.below).go hb31;replace ht:=(((ht.go hn3.below).drew).go hn29.below).go hb31;replace hB:=hB.go hb31;obtain⟨T34,x35,f36,he37,hi32,hc33⟩:=(hF hOc (by omega) ht hKU hs3 (λb hb hu=>by have:=V.lo b hu;have:=hB.size;omega) hY hUY hJ hN (Al hB0 hB.size));refine Ym 10 (og f188 1 10) f36 (#[x35]++#[.slice a3 n3 c3, .func (.func 64) #[] #[.pointer (some ⟨gY,0,none⟩)]]) (λ_=>hi32 _ _ _ _ _ _ _ rfl (by kernel_rfl) (by kernel_rfl)) (R:=RB U J Jx (u30) (pre++entsF (q++p) t)) ?_ (λu w' h=>trivial) ?_ yn
  ·exact hc33
  rintro _ u8⟨b8,rfl,hR8,hX8⟩;have hBk:=hB;refine Dx [] 11 (og f188 1 11) (.bool b8) (λv hv _=>by kernel_rfl) trivial<|Do ?_;exact Hr 2 (.bool b8) ⟨_,rfl,b8,rfl,λe=>⟨(hR8 e).1,(KpU.of_below _ hBk).trans (hR8 e).2 hBk.size⟩,hX8⟩
 replace hp:=((hp.go hn3.below).drew).go hn29.below;replace hq:=((hq.go hn3.below).drew).go hn29.below;refine Yc 6 (R:=λu w'=>∃a2 n2 c2,u= .slice a2 n2 c2/\Sk (λb=>(w27).heap.size<=b) w' a2 n2 c2 (q++p)/\Bl (w27) w') (Dr hq hp hL (by omega) (by omega)) (λu w' h=>trivial) ?_ yn;rintro _ u38⟨a3,n3,c3,rfl,hs3,hb39⟩;replace hB:=((hB.go hn3.below).drew).go hn29.below;have hsB:=hB.size;replace hJ:=V.go hJ hb39;refine Dz [1] ?_;replace hr4:=hr4.go hb39;refine Yx 1 (og f188 1 1) (.iface Tu xu) (λ_=>AF 65 _ ⟨g2,1,none⟩ _ _ rfl (by kernel_rfl) (by rw[Ae _ _ _ _ _ _ hr4];rfl) underlying65 rfl) trivial ?_ yn;refine Dx [] 8 (og f188 1 8) (.iface Tu xu) (λv hv=>(λ_=>by kernel_rfl)) trivial<|Dy [9] [10] trivial ?_;have l3:=hs3.len;rw[Ab]at l3;replace hY:=(((hY.go hn3.below).drew).go hn29.below).go hb39;replace ht:=(((ht.go hn3.below).drew).go hn29.below).go hb39;replace hB:=hB.go hb39;obtain⟨T42,x43,f44,he45,hi40,hc41⟩:=(hF hOc (by omega) ht hKU hs3 (λb hb hu=>by have:=V.lo b hu;have:=hB.size;omega) hY hUY hJ hN (Al hB0 hB.size));refine Ym 10 (og f188 1 10) f44 (#[x43]++#[.slice a3 n3 c3, .func (.func 64) #[] #[.pointer (some ⟨gY,0,none⟩)]]) (λ_=>hi40 _ _ _ _ _ _ _ rfl (by kernel_rfl) (by kernel_rfl)) (R:=RB U J Jx (u38) (pre++entsF (q++p) t)) ?_ (λu w' h=>trivial) ?_ yn
 ·exact hc41
 rintro _ u8⟨b8,rfl,hR8,hX8⟩;have hBk:=hB;refine Dx [] 11 (og f188 1 11) (.bool b8) (λv hv _=>by kernel_rfl) trivial<|Do ?_;exact Hr 2 (.bool b8) ⟨_,rfl,b8,rfl,λe=>⟨(hR8 e).1,(KpU.of_below _ hBk).trans (hR8 e).2 hBk.size⟩,hX8⟩
theorem Yt{l:Nat}{Z:PList}{J:PList->World->Prop}(V:Vis l B0 Z U J Jx){B:Nat}(hk0:TK K w k vs)(hx:Sk K w a n c x)(hn2:n<=256)(hKU:∀b,K b->¬U b)(hF:∀i,EC l B0 Z U J Jx (k i))(hO:∀j,k j=no∨(1<=B/\Tr.Ok (B-1) (k j)))(hq0:Sk K' w aq nq cq q)(hY0:Rw gY w #[.func (.yield l) #[] #[]] 86){pre:PList}(hJ:J pre w)(hN:True)(hB0:B0<=w.heap.size)(hKU':∀b,K' b->¬U b)(hUY:¬U gY)(h64:nq+B<=64)(hnz:n=0){L:PList}(hL0:L=pre++flK q k 16)(hLN:L<+:Z):
 Calls prog 180 #[.agg (brc vs (.slice a n c)), .slice aq nq cq, .func (.func 64) #[] #[.pointer (some ⟨gY,0,none⟩)]] w λe w'=>∃u,e= .returned u/\RB U J Jx w L u w':=by
 have hk:=hk0;have hq:=hq0;have hY:=hY0;have hB:=Bl.refl w;have lx:=hx.len;have lq:=hq.len;refine Dp func180 45<|Hn 2 (brc vs (.slice a n c)) 215 ?_;intro w1 g2 hn3 hr4;replace hJ:=V.go hJ hn3.below;have hgb:=hn3.hg;refine Hl 7 hr4 16 27 (.slice a n c)<|Hf 1 ((n:Int)>(0:Int))<|Hx 17 (og f180 3 1) (.agg (bra vs)) (λ_=>Oe hr4 _ rfl (by kernel_rfl)) ?_;replace hB:=hB.go hn3.below;have hKw:KpU U w.heap.size w w1:=KpU.of_below _ hB;replace hx:=hx.go hn3.below;replace hq:=hq.go hn3.below;replace hY:=hY.go hn3.below;replace hk:=hk.go hn3.below;clear hk hx hq hY hB;refine Ho (X:=Nat) 4 (λj=>[(23, .int .i64 (j:Int)),(22, .agg (bra vs)),(1, .slice aq nq cq),(2, .func (.func 64) #[] #[.pointer (some ⟨gY,0,none⟩)])]) (λj v=>J (pre++flK q k j) v/\KpU U w.heap.size w v/\j<=16) (λj=>16-j) 0 ⟨by rw[show flK q k 0=[]from rfl,A3];exact hJ,hKw,Ay _⟩ ?_;clear hJ hKw hr4;rintro j v⟨hJ,hKw,hj⟩ I1 hN1;have hk:=hk0.kp hKw hKU;have hq:=hq0.kp hKw (Aa _) hKU';have hY:=hY0.kp hKw (lt_of_get hY0) hUY ⟨0,_,rfl,λ_ _ _=>by simp⟩;by_cases hlt:j<16
 ·skip
  have hB:=Bl.refl v;rcases hO j with hno|⟨hB1,hOk⟩
  ·skip
   have e0:vs j= .nilIface:=(by have:=hk j hlt;rw[hno]at this;exact this);refine Ht 2 ((j:Int)<(16:Int))<|Hx 11 (og f180 5 1) (.nilIface) (λ_=>CP (JK _ _ vs j hlt rfl (by kernel_rfl) (by kernel_rfl)) e0)<|GK 5 (λ_=>True) (trivial) ?_;replace hJ:=V.go hJ (Ak _ _).drew;refine Dx [0] 1 (og f180 6 1) (.bool false) (λv hv=>(λ_=>by kernel_rfl)) trivial<|Dq [2,3,4,5,6,7,8,9,10,11,12,13,14,15,16] trivial<|Hi 6 ((j:Int)+1) ((j:Int)+1) ?_;replace hB:=hB.drew;exact hN1 2 (j+1) ⟨by rw[Wp hno];exact hJ,hKw.trans (KpU.of_below w.heap.size hB) (Aa _),by omega⟩ (by omega) (λ_=>by kernel_rfl)
  ·skip
   obtain⟨T0,v0,e0⟩:=(hk j hlt).iface hOk.ne;have hti:=hk j hlt;rw[e0]at hti;refine Ht 2 ((j:Int)<(16:Int))<|Hx 11 (og f180 5 1) (.iface T0 v0) (λ_=>CP (JK _ _ vs j hlt rfl (by kernel_rfl) (by kernel_rfl)) e0)<|GK 5 (λ_=>True) (trivial) ?_;replace hJ:=V.go hJ (Ak _ _).drew;refine Dx [0] 1 (og f180 6 1) (.bool true) (λv hv=>(λ_=>by kernel_rfl)) trivial<|Dx [2,3,4,5] 6 (og f180 6 6) (.int .u8 (j:Int)) (λv hv _=>CP (v:= .int .u8 (IntKind.u8.wrap (j:Int))) (by kernel_rfl) (Av (Value.int .u8) (Vt hlt))) trivial<|Dx [10] 11 (og f180 6 11) (.func (.method "pergola/trie.each") #[.iface T0 v0] #[]) (λv hv=>(λ_=>by kernel_rfl)) trivial ?_;replace hti:=hti.drew;refine Dx [] 12 (og f180 6 12) (.func (.method "pergola/trie.each") #[.iface T0 v0] #[]) (λv hv _=>SJ hti hOk.ne 38 rfl (by kernel_rfl)) trivial<|Dy [13] [7] trivial ?_;refine FL 7 #[.int .u8 (j:Int)] 5 1 (λw' g h=>trivial) ?_ yn;intro wI gI hnI _;have h1:Sk (λb=>True) wI (some ⟨gI,0,none⟩) 1 1 [(j:Int)]:=Oa (by omega) hnI (λ_ _=>trivial);replace hJ:=V.go hJ hnI.below;refine Dz [8] ?_;refine FL 8 #[.slice aq nq cq, .slice (some ⟨gI,0,none⟩) 1 1] 27 2 (λw' g h=>trivial) ?_ yn;intro w5 g6 hn7 hL;replace hJ:=V.go hJ hn7.below;refine Dz [9] ?_;replace hq:=(hq.drew.go hnI.below).go hn7.below;replace h1:=h1.go hn7.below;refine Yc 9 (R:=λu w'=>∃a2 n2 c2,u= .slice a2 n2 c2/\Sk (λb=>(w5).heap.size<=b) w' a2 n2 c2 (q++[(j:Int)])/\Bl (w5) w') (Dr hq h1 hL (by omega) (by omega)) (λu w' h=>trivial) ?_ yn;rintro _ u8⟨a3,n3,c3,rfl,hs3,hb9⟩;replace hB:=(hB.drew.go hnI.below).go hn7.below;have hsB:=hB.size;replace hJ:=V.go hJ hb9;refine Dz [14] ?_;have l3:=hs3.len;rw[Ab,C3]at l3;replace hY:=((hY.drew.go hnI.below).go hn7.below).go hb9;replace hti:=((hti.go hnI.below).go hn7.below).go hb9;replace hB:=hB.go hb9;obtain⟨T12,x13,f14,he15,hi10,hc11⟩:=(hF j hOk (by omega) hti hKU hs3 (λb hb hu=>by have:=V.lo b hu;have:=hB.size;have:=hKw.size;omega) hY hUY hJ (by rw[hL0]at hLN;rw[AE,<-Ld hOk.ne];exact((List.prefix_append_right_inj _).2 (Wu q k (show j+1<=16 by omega))).trans hLN) (Al hB0 (Al hKw.size hB.size)));refine Ym 14 (og f180 6 14) f14 (#[x13]++#[.slice a3 n3 c3, .func (.func 64) #[] #[.pointer (some ⟨gY,0,none⟩)]]) (λ_=>hi10 _ _ _ _ _ _ _ rfl (by kernel_rfl) (by kernel_rfl)) (R:=RB U J Jx (u8) (pre++flK q k j++entsF (q++[(j:Int)]) (k j))) ?_ (λu w' h=>trivial) ?_ yn
   ·exact hc11
   rintro _ u9⟨b9,rfl,hR9,hX9⟩;have hBk9:=hB;refine Dx [] 15 (og f180 6 15) (.bool (!b9)) (λv hv _=>by kernel_rfl) trivial<|Dx [] 16 (og f180 6 16) (.bool (!b9)) (λv hv _=>by kernel_rfl) trivial<|Do ?_;cases b9 with
   |true=>
    refine Hi 6 ((j:Int)+1) ((j:Int)+1) ?_;exact hN1 2 (j+1) ⟨by rw[Ld hOk.ne,<-AE];exact(hR9 rfl).1,(hKw.trans (KpU.of_below w.heap.size hBk9) (Aa _)).trans (hR9 rfl).2 (Al hKw.size hBk9.size),by omega⟩ (by omega) (λ_=>by kernel_rfl)
   |false=>
    exact Hr 13 (.bool false) ⟨_,rfl,false,rfl,(λe=>by cases e),λ_=>hX9 rfl⟩
 obtain rfl:j=16:=by omega
 exact Hr 18 (.bool true) ⟨_,rfl,true,rfl,(λ_=>⟨by rw[hL0];exact hJ,hKw⟩),λe=>by cases e⟩
theorem Yu{l:Nat}{Z:PList}{J:PList->World->Prop}(V:Vis l B0 Z U J Jx){B:Nat}(hk0:TK K w k vs)(hx:Sk K w a n c x)(hn2:n<=256)(hKU:∀b,K b->¬U b)(hF:∀i,EC l B0 Z U J Jx (k i))(hO:∀j,k j=no∨(1<=B/\Tr.Ok (B-1) (k j)))(hq0:Sk K' w aq nq cq q)(hY0:Rw gY w #[.func (.yield l) #[] #[]] 86){pre:PList}(hJ:J pre w)(hN:True)(hB0:B0<=w.heap.size)(hKU':∀b,K' b->¬U b)(hUY:¬U gY)(h64:nq+B<=64)(hnz:0<n){L:PList}(hL0:L=pre++[((Ni.keyP q).1,x)]++flK q k 16)(hLN:L<+:Z):
 Calls prog 180 #[.agg (brc vs (.slice a n c)), .slice aq nq cq, .func (.func 64) #[] #[.pointer (some ⟨gY,0,none⟩)]] w λe w'=>∃u,e= .returned u/\RB U J Jx w L u w':=by
 have hk:=hk0;have hq:=hq0;have hY:=hY0;have hB:=Bl.refl w;have lx:=hx.len;have lq:=hq.len;refine Dp func180 45<|Hn 2 (brc vs (.slice a n c)) 215 ?_;intro w1 g2 hn3 hr4;replace hJ:=V.go hJ hn3.below;have hgb:=hn3.hg;refine Hl 7 hr4 16 27 (.slice a n c)<|Ht 1 ((n:Int)>(0:Int))<|Hl 4 hr4 16 27 (.slice a n c) ?_;replace hB:=hB.go hn3.below;replace hx:=hx.go hn3.below;replace hq:=hq.go hn3.below;replace hY:=hY.go hn3.below;refine Hc 0 (R:=RB U J Jx (w1) (pre++[((Ni.keyP q).1,x)])) (J0 V hq hx (by omega) (by omega) hY hJ (by rw[hL0]at hLN;exact(List.prefix_append _ _).trans hLN) (Al hB0 hB.size)) ?_;rintro _ u8⟨b8,rfl,hR8,hX8⟩;have hBk:=hB;refine Hp 0 (.bool (!b8))<|Hp 0 (.bool (!b8)) ?_;cases b8 with
 |true=>
  obtain⟨hJ8,hk8⟩:=hR8 rfl;replace hr4:=hr4.kp hk8 (lt_of_get hr4) (λhu=>by have:=V.lo _ hu;omega) (hk0.pr _);have hKw:KpU U w.heap.size w u8:=(KpU.of_below _ hBk).trans hk8 hBk.size;replace hJ:=hJ8;replace hk:=hk.go hn3.below;clear hk hx hq hY hB;refine Hx 9 (og f180 3 1) (.agg (bra vs)) (λ_=>Oe hr4 _ rfl (by kernel_rfl))<|Ho (X:=Nat) 4 (λj=>[(23, .int .i64 (j:Int)),(22, .agg (bra vs)),(1, .slice aq nq cq),(2, .func (.func 64) #[] #[.pointer (some ⟨gY,0,none⟩)])]) (λj v=>J (pre++[((Ni.keyP q).1,x)]++flK q k j) v/\KpU U w.heap.size w v/\j<=16) (λj=>16-j) 0 ⟨by rw[show flK q k 0=[]from rfl,A3];exact hJ,hKw,Ay _⟩ ?_;clear hJ hKw hr4;rintro j v⟨hJ,hKw,hj⟩ I1 hN1;have hk:=hk0.kp hKw hKU;have hq:=hq0.kp hKw (Aa _) hKU';have hY:=hY0.kp hKw (lt_of_get hY0) hUY ⟨0,_,rfl,λ_ _ _=>by simp⟩;by_cases hlt:j<16
  ·skip
   have hB:=Bl.refl v;rcases hO j with hno|⟨hB1,hOk⟩
   ·skip
    have e0:vs j= .nilIface:=(by have:=hk j hlt;rw[hno]at this;exact this);refine Ht 2 ((j:Int)<(16:Int))<|Hx 11 (og f180 5 1) (.nilIface) (λ_=>CP (JK _ _ vs j hlt rfl (by kernel_rfl) (by kernel_rfl)) e0)<|GK 5 (λ_=>True) (trivial) ?_;replace hJ:=V.go hJ (Ak _ _).drew;refine Dx [0] 1 (og f180 6 1) (.bool false) (λv hv=>(λ_=>by kernel_rfl)) trivial<|Dq [2,3,4,5,6,7,8,9,10,11,12,13,14,15,16] trivial<|Hi 6 ((j:Int)+1) ((j:Int)+1) ?_;replace hB:=hB.drew;exact hN1 2 (j+1) ⟨by rw[Wp hno];exact hJ,hKw.trans (KpU.of_below w.heap.size hB) (Aa _),by omega⟩ (by omega) (λ_=>by kernel_rfl)
   ·skip
    obtain⟨T0,v0,e0⟩:=(hk j hlt).iface hOk.ne;have hti:=hk j hlt;rw[e0]at hti;refine Ht 2 ((j:Int)<(16:Int))<|Hx 11 (og f180 5 1) (.iface T0 v0) (λ_=>CP (JK _ _ vs j hlt rfl (by kernel_rfl) (by kernel_rfl)) e0)<|GK 5 (λ_=>True) (trivial) ?_;replace hJ:=V.go hJ (Ak _ _).drew;refine Dx [0] 1 (og f180 6 1) (.bool true) (λv hv=>(λ_=>by kernel_rfl)) trivial<|Dx [2,3,4,5] 6 (og f180 6 6) (.int .u8 (j:Int)) (λv hv _=>CP (v:= .int .u8 (IntKind.u8.wrap (j:Int))) (by kernel_rfl) (Av (Value.int .u8) (Vt hlt))) trivial<|Dx [10] 11 (og f180 6 11) (.func (.method "pergola/trie.each") #[.iface T0 v0] #[]) (λv hv=>(λ_=>by kernel_rfl)) trivial ?_;replace hti:=hti.drew;refine Dx [] 12 (og f180 6 12) (.func (.method "pergola/trie.each") #[.iface T0 v0] #[]) (λv hv _=>SJ hti hOk.ne 38 rfl (by kernel_rfl)) trivial<|Dy [13] [7] trivial ?_;refine FL 7 #[.int .u8 (j:Int)] 5 1 (λw' g h=>trivial) ?_ yn;intro wI gI hnI _;have h1:Sk (λb=>True) wI (some ⟨gI,0,none⟩) 1 1 [(j:Int)]:=Oa (by omega) hnI (λ_ _=>trivial);replace hJ:=V.go hJ hnI.below;refine Dz [8] ?_;refine FL 8 #[.slice aq nq cq, .slice (some ⟨gI,0,none⟩) 1 1] 27 2 (λw' g h=>trivial) ?_ yn;intro w5 g6 hn7 hL;replace hJ:=V.go hJ hn7.below;refine Dz [9] ?_;replace hq:=(hq.drew.go hnI.below).go hn7.below;replace h1:=h1.go hn7.below;refine Yc 9 (R:=λu w'=>∃a2 n2 c2,u= .slice a2 n2 c2/\Sk (λb=>(w5).heap.size<=b) w' a2 n2 c2 (q++[(j:Int)])/\Bl (w5) w') (Dr hq h1 hL (by omega) (by omega)) (λu w' h=>trivial) ?_ yn;rintro _ u8⟨a3,n3,c3,rfl,hs3,hb9⟩;replace hB:=(hB.drew.go hnI.below).go hn7.below;have hsB:=hB.size;replace hJ:=V.go hJ hb9;refine Dz [14] ?_;have l3:=hs3.len;rw[Ab,C3]at l3;replace hY:=((hY.drew.go hnI.below).go hn7.below).go hb9;replace hti:=((hti.go hnI.below).go hn7.below).go hb9;replace hB:=hB.go hb9;obtain⟨T12,x13,f14,he15,hi10,hc11⟩:=(hF j hOk (by omega) hti hKU hs3 (λb hb hu=>by have:=V.lo b hu;have:=hB.size;have:=hKw.size;omega) hY hUY hJ (by rw[hL0]at hLN;rw[AE,<-Ld hOk.ne];exact((List.prefix_append_right_inj _).2 (Wu q k (show j+1<=16 by omega))).trans hLN) (Al hB0 (Al hKw.size hB.size)));refine Ym 14 (og f180 6 14) f14 (#[x13]++#[.slice a3 n3 c3, .func (.func 64) #[] #[.pointer (some ⟨gY,0,none⟩)]]) (λ_=>hi10 _ _ _ _ _ _ _ rfl (by kernel_rfl) (by kernel_rfl)) (R:=RB U J Jx (u8) (pre++[((Ni.keyP q).1,x)]++flK q k j++entsF (q++[(j:Int)]) (k j))) ?_ (λu w' h=>trivial) ?_ yn
    ·exact hc11
    rintro _ u9⟨b9,rfl,hR9,hX9⟩;have hBk9:=hB;refine Dx [] 15 (og f180 6 15) (.bool (!b9)) (λv hv _=>by kernel_rfl) trivial<|Dx [] 16 (og f180 6 16) (.bool (!b9)) (λv hv _=>by kernel_rfl) trivial<|Do ?_;cases b9 with
    |true=>
     refine Hi 6 ((j:Int)+1) ((j:Int)+1) ?_;exact hN1 2 (j+1) ⟨by rw[Ld hOk.ne,<-AE];exact(hR9 rfl).1,(hKw.trans (KpU.of_below w.heap.size hBk9) (Aa _)).trans (hR9 rfl).2 (Al hKw.size hBk9.size),by omega⟩ (by omega) (λ_=>by kernel_rfl)
    |false=>
     exact Hr 13 (.bool false) ⟨_,rfl,false,rfl,(λe=>by cases e),λ_=>hX9 rfl⟩
  obtain rfl:j=16:=by omega
  exact Hr 18 (.bool true) ⟨_,rfl,true,rfl,(λ_=>⟨by rw[hL0];exact hJ,hKw⟩),λe=>by cases e⟩
 |false=>
  exact Hr 10 (.bool false) ⟨_,rfl,false,rfl,(λe=>by cases e),λ_=>hX8 rfl⟩
theorem ZR{l:Nat}{Z:PList}{J:PList->World->Prop}(V:Vis l B0 Z U J Jx):∀t:Tr,EC l B0 Z U J Jx t:=by
 intro t
 induction t with
 |no=>intro K K' w v a n c B gY q pre hO;exact hO.elim
 |leaf p x=>
  intro K K' w v a n c B gY q pre hO h64 ht hKU hq hKU' hY hUY hJ hN hB0;obtain⟨a1,n1,c1,a2,n2,c2,rfl,h1,h2,h3⟩:=ht;exact⟨_,_,_,rfl,Ud _,Ug V h1 h2 h3 hq hY hJ hN hB0 (by have:=h1.len;have:=hO.2.1;omega)⟩
 |ext p t ih=>
  intro K K' w v a n c B gY q pre hO h64 ht hKU hq hKU' hY hUY hJ hN hB0;obtain⟨a1,n1,c1,u,rfl,h1,h2⟩:=ht;obtain⟨o1,o2,o3,o4,o5⟩:=hO;obtain⟨Tu,xu,rfl⟩:=h2.iface (λe=>by rw[e]at o4;simp[isBr]at o4);exact⟨_,_,_,rfl,Ue _,Uh V h1 h2 hKU ih o5 hq hY hJ hN hB0 hUY (by have:=h1.len;omega)⟩
 |br k x ih=>
  intro K K' w v a n c B gY q pre hO h64 ht hKU hq hKU' hY hUY hJ hN hB0;obtain⟨vs,a1,n1,c1,rfl,h1,h2,h3⟩:=ht;refine⟨_,_,_,rfl,Uf _,?_⟩;have hO':∀j,k j=no∨(1<=B/\Tr.Ok (B-1) (k j)):=λj=>by
   rcases hO.1 j with h|⟨_,h1,h2⟩
   ·exact .inl h
   ·exact .inr ⟨h1,h2⟩
  have lx:=h2.len;rcases EG n1 with h|h
  ·have hx0:x=[]:=Ar (by omega);exact Yt V h1 h2 h3 hKU ih hO' hq hY hJ trivial hB0 hKU' hUY h64 h (by simp[entsF,flK,hx0]) hN
  ·have hx0:x≠[]:=λe=>by rw[e]at lx;simp at lx;omega
   exact Yu V h1 h2 h3 hKU ih hO' hq hY hJ trivial hB0 hKU' hUY h64 h (by simp[entsF,flK,hx0]) hN
end Go.Proofs.YtalhnnjpjaeakaaGreat
namespace Go.Proofs.YtalhnnjpjaeakaaGreat
open Go.ChangeMaps (setBlock)
section
variable {r : Option Nat} {m : Nat} {P : Program} {ds : List Deferred} {n : Nat} {Q : Exit → Act → World → Prop} {env : Env} {w w' : World} {ops : Array Oper} {l : List Oper} {o : Oper}
theorem Ui{α:Type}{g:Operand}{p q:Tmp}{assign body:Code}(gf:Nat)(lb:Array Value)(hg:∀fb,ev env fb g= .func (.func gf) #[] lb)(hm:1<=m)(hp:p<n)(hq:q<n)(eg:∀args w,(callFunc gf args).run P w= .ok (.enter gf args) w)
 {enc enc':α->Value} {Kp:World->World->Prop} {S Sp:List α->Prop} {N:Nat} {w0:World} (hseq:SeqStopsK Fence.wide (m-1) P gf lb (λx=>#[enc x,enc' x]) Kp S Sp N w0)
 (hKt:∀{A B C:World},Kp A B->Kp B C->Kp A C) (hKb:∀(W:World)(l:Nat)(o o':Obj),w.heap.size<=l->W.heap[l]?=some o->o.isCells=false->o.isWalk=false->Kp W (W.putObj l o')) (hb0:Below w0.heap.size w0 w)
 (I:List α->World->Prop) (hI:OwnFrom w.heap.size I) (h0:I [] w) (Ax:α->Env->World->Prop) (hAx:∀x e,OwnFrom w.heap.size (λ(_:Unit) W=>Ax x e W))
 (hassign:∀(l:Nat)(pre:List α)(x:α)(W:World),I pre W->CW (some l) (m-1-1) P [] n (Exit.then (λa' W'=>KeepsFrom w.heap.size W W'/\Kp W W'/\I pre W'/\∃e,Frm [] n e a'/\Ax x e W') (λ_ _ _=>False)) assign ((q,enc' x)::(p,enc x)::env) W)
 (hbody:∀(l:Nat)(pre:List α)(x:α)(e:Env)(W:World),w.heap.size<=l->I pre W->Ax x e W->pre.length<N->CW (some l) (m-1-1) P [] n (ownPostG w.heap.size Kp I (λ_ _ _=>False) (pre++[x]) W) body e W)
 (hdone:∀(D:Nat)(xs:List α)(W:World),w.heap.size<=D->S xs->I xs W->W.heap[D]?=some (.deferred (some []))->NW [{target:= .collected D,args:=#[]}] n Q .normal env W):
 CW none m P [] n Q (.rangeFunc g #[p,q] assign body) env w:=λa ha=>by
 refine wpIn_rangeFunc_ownH (F:=Fence.wide) rfl hm (by rw[ha.ev];exact hg _) trivial eg hseq hKt hKb hb0 (λx=>rfl) I (λ_ _ _=>False) hI (λ_ _ _ _ _ hs _ _=>hs) h0 (λx a' W=>∃e,Frm [] n e a'/\Ax x e W)
  (λx a'=>λ_ W W' row hs hgr hr=>by obtain⟨e,hF,hA⟩:=hs;exact⟨e,hF,hAx x e () W W' row hA hgr hr⟩) ?_ ?_ ?_ (λD c pre W _ _ hx _=>hx.elim)
 ·intro l pre x W K hi hK;have hfr:Frm [] n ((q,enc' x)::(p,enc x)::env) {tmps:=((#[p,q]:Array Tmp).zip #[enc x,enc' x]).foldl (λt(p,v)=>t.setIfInBounds p v) a.tmps,defers:=[]}:=by
   have:=EU (EU (⟨rfl,ha.sz,ha.get⟩:Frm [] n env {tmps:=a.tmps,defers:=[]}) hp (enc x)) hq (enc' x);have e:((#[p,q]:Array Tmp).zip #[enc x,enc' x]).foldl (λt(p,v)=>t.setIfInBounds p v) a.tmps=(a.tmps.setIfInBounds p (enc x)).setIfInBounds q (enc' x):=(by simp);rw[e];exact this
  refine wpIn_mono (hassign l pre x W hi _ hfr) ?_;intro e a' W' hq;cases e with
  |normal=>exact hK a' W' hq.1 hq.2.1 hq.2.2.1 hq.2.2.2
  |exit id=>exact hq
  |goto l=>exact hq
  |ret=>exact hq
  |panic ch=>exact hq
  |outgrown=>exact hq
 ·rintro l pre x a' W hl _ hi⟨e,hF,hA⟩ hlen;exact hbody l pre x e W hl hi hA hlen a' hF
 ·intro D xs W hD hs hi hd;refine hdone D xs W hD hs hi hd _ ⟨?_,ha.sz,ha.get⟩;show _::a.defers=_;rw[ha.df]
end
end Go.Proofs.YtalhnnjpjaeakaaGreat
