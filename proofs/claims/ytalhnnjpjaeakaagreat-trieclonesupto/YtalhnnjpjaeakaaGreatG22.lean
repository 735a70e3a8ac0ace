/- A row of references appended to one; how long the bytes of a branch are. -/
import Derived.Test.YtalhnnjpjaeakaaGreatAK
import Derived.Test.YtalhnnjpjaeakaaGreatG15
import Derived.Test.YtalhnnjpjaeakaaGreatG21
import Derived.Test.YtalhnnjpjaeakaaGreatG14
import Derived.Test.YtalhnnjpjaeakaaGreatG17
import Derived.Test.YtalhnnjpjaeakaaGreatG10
set_option linter.unusedVariables false
set_option maxRecDepth 100000
set_option maxHeartbeats 16000000
open Go.Proofs.Tryz Go.RowKit
namespace Go.Proofs.YtalhnnjpjaeakaaGreat
section
variable {w : World} {ops : Array Oper} {rest : List Oper} {o : Oper} {a : Act} {Q : Exit → Act → World → Prop}
end
end Go.Proofs.YtalhnnjpjaeakaaGreat
namespace Go.Proofs.YtalhnnjpjaeakaaGreat
open Ni (unpP)
variable {w v' : World} {base : Nat} {ys : List RV} {rs : List PR} {r : PR} {u : T} {b : List Int}
def OwnR(w:World)(base:Nat)(v:Value)(ys:List RV):Prop:=w.ownsRow base 62 34 v ys.length (flatR ys)
theorem OD{v:Value}(h:OwnR w base v ys){g:Nat}(hg:v.ownBlock=some g):base<=g/\g<w.heap.size:=by
 rcases h.2 with⟨rfl,_⟩|⟨g',cap,cur,rfl,hbg,hh,_⟩
 ·cases hg
 ·cases hg;exact⟨hbg,lt_of_get hh⟩
theorem N2{w':World}{v:Value}(h:OwnR w base v ys)(hk:∀g,v.ownBlock=some g->g<w.heap.size->w'.heap[g]?=w.heap[g]?):OwnR w' base v ys:=by
 refine⟨h.1,?_⟩;rcases h.2 with h2|⟨g,cap,cur,hv,hb,hh,r⟩
 ·exact .inl h2
 ·exact .inr ⟨g,cap,cur,hv,hb,(hk g (by rw[hv];rfl) (lt_of_get hh)).trans hh,r⟩
theorem YH{v:Value}(hl:∀y∈ys,y.d.length=32)(hown:OwnR w base v ys)(y:RV)(hy:y.d.length=32)(ad:Addr)(c:Nat)(hnews:∀j u,(RV.cells y)[j]?=some u->w.cell? (ad.add j)=some u)(hbase:base<=w.heap.size)(hlen:ys.length<=2199023255550)(ty:TypeId):
 ∃v' w',(Builtin.append_ #[90,90] ty #[v, .slice (some ad) 1 c]).run prog w= .ok v' w'/\OwnR w' base v' (ys++[y])/\w.grownBy w' v.ownBlock/\(v'.ownBlock=v.ownBlock∨v'.ownBlock=some w.heap.size):=by
 obtain⟨i,hi,hz,hsz,hby⟩:=QJ;have hc34:=RV.len hy;obtain⟨v',w',hrun,hown',hgr,_⟩:=run_append_own (P:=prog) w base 90 ty 62 i _ 34 64 underlying90 hi hz hsz hby rfl (by decide) v ys.length (flatR ys) hown ad 1 c (RV.cells y) (by rw[hc34]) hnews y.one (by unfold maxLen;omega) (by omega) hbase;refine⟨v',w',hrun,?_,hgr,?_⟩
 ·unfold OwnR;rw[Gw,JS,Ab];exact hown'
 ·rcases hown.2 with⟨rfl,hn0⟩|⟨g,cap,cur,rfl,hbg,hg,hnc,hcm,hcs,htake⟩
  ·have hr:=run_append_nil (P:=prog) w 90 ty 62 i _ underlying90 hi hz ad 1 c (RV.cells y) (by rw[hsz,hc34]) hnews (by decide) (by decide) (by rw[hby];decide);rw[hrun]at hr;injection hr with e1 e2;right;rw[e1];rfl
  ·by_cases hroom:ys.length+1<=cap
   ·have hr:=run_append_room (P:=prog) w 90 ty 62 i underlying90 hi g ys.length cap cur hg ad 1 c (RV.cells y) (by rw[hsz,hc34]) hnews y.one hroom (by rw[hcs,hsz,hc34];omega);rw[hrun]at hr;injection hr with e1 e2;left;rw[e1];rfl
   ·have hr:=run_append_grow (P:=prog) w 90 ty 62 i _ underlying90 hi hz ⟨g,0,none⟩ ys.length cap (flatR ys) (by rw[hsz,FC hl]) (DN hown (g:=g) rfl) ad 1 c (RV.cells y) (by rw[hsz,hc34]) hnews (by omega) (by omega) (growslice_fits (by omega) (by rw[hby];omega));rw[hrun]at hr;injection hr with e1 e2;right;rw[e1];rfl
def SoR(base:Nat)(v:World)(it:Value)(rs:List PR):Prop:=∃ys:List RV,OwnR v base it ys/\RefsAt (λb=>base<=b/\it.ownBlock≠some b) v ys rs
theorem SV(base:Nat)(v:World):SoR base v (.slice none 0 0) []:=⟨[],Dk _ _ _ _,rfl,(λy hy=>by cases hy),λi y r h=>by simp at h⟩
theorem SoR.keep{v:World}{it:Value}(h:SoR base v it rs)(hb:∀b,base<=b->b<v.heap.size->v'.heap[b]?=v.heap[b]?):SoR base v' it rs:=by
 obtain⟨ys,h1,h2⟩:=h;exact⟨ys,N2 h1 λg hg hlt=>hb g (OD h1 hg).1 hlt,h2.go λb hb' hlt=>⟨hb b hb'.1 hlt,hb'⟩⟩
theorem SoR.all{v:World}{it:Value}(h:SoR base v it rs)(hb:Below v.heap.size v v'):SoR base v' it rs:=h.keep λb _ hlt=>hb.block b hlt
theorem KV{wr w1:World}{it:Value}{y:RV}(hz:base<=wr.heap.size)(h:SoR base wr it rs)(hb1:Below wr.heap.size wr w1)(hy:RefAt (λb=>wr.heap.size<=b) w1 y r)(hlen:rs.length<=2199023255550)(ty:TypeId):
 ∃v' w3,(Builtin.append_ #[90,90] ty #[it, .slice (some ⟨w1.heap.size,0,none⟩) 1 1]).run prog (w1.alloc (.cells y.cells.toArray 62))= .ok v' w3/\SoR base w3 v' (rs++[r])/\Below base wr w3:=by
 obtain⟨ys,hown,hall⟩:=h;obtain⟨Y,hY⟩:∃Y:Obj,Obj.cells y.cells.toArray 62=Y:=⟨_,rfl⟩;rw[hY];have hs2:(w1.alloc Y).heap.size=w1.heap.size+1:=by simp
 have hb2:Below wr.heap.size wr (w1.alloc Y):=hb1.alloc hb1.size _;have hz1:=hb1.size;have hblk:(w1.alloc Y).heap[w1.heap.size]?=some Y:=Ai w1 Y;have hnews:∀j u,(RV.cells y)[j]?=some u->(w1.alloc Y).cell? ((⟨w1.heap.size,0,none⟩:Addr).add j)=some u:=by
  intro j u hu;rw[BM,AD];rw[<-hY]at hblk⊢;rw[Ae _ _ _ _ _ _ hblk];simpa using hu
 obtain⟨v',w3,hrun,hown3,hgr,hown4⟩:=YH hall.2.1 (N2 hown λg _ hg=>hb2.block g hg) y hy.len _ 1 hnews (by omega) (by rw[<-hall.1];exact hlen) ty;have hfar:∀b,b<w1.heap.size+1->it.ownBlock≠some b->w3.heap[b]?=(w1.alloc Y).heap[b]?:=λb hb hne=>hgr.block b (by rw[hs2];exact hb) (λh=>hne h.symm);have hit:∀g,it.ownBlock=some g->g<wr.heap.size:=λg hg=>(OD hown hg).2;have hv':∀b,b<w1.heap.size->it.ownBlock≠some b->v'.ownBlock≠some b:=λb hb hne h=>by
  rcases hown4 with h4|h4
  ·exact hne (h4.symm.trans h)
  ·rw[h4,hs2]at h;cases h;omega
 refine⟨v',w3,hrun,⟨_,hown3,RefsAt.snoc (hall.go λb hb hlt=>⟨?_,hb.1,hv' b (by omega) hb.2⟩) (hy.go λb hb hlt=>⟨?_,by omega,?_⟩)⟩,?_⟩
 ·rw[hfar b (by omega) hb.2];exact hb2.block b hlt
 ·have hne:it.ownBlock≠some b:=λh=>by have:=hit b h;omega
  rw[hfar b (by omega) hne,Au _ _ _ hlt]
 ·refine⟨hgr.os.trans hb2.os,hgr.tape.trans hb2.tape,hgr.output.trans hb2.output,Al hb2.size hgr.size,λb hb=>?_⟩;rw[hfar b (by omega) (λh=>by have:=(OD hown h).1;omega)];exact hb2.block b (by omega)
 ·exact hv' b hlt (λh=>by have:=hit b h;omega)
theorem SoR.kids{v:World}{it:Value}(h:SoR base v it rs):∃ka kc,it= .slice ka rs.length kc/\rs.length<=kc/\kc<=maxLen/\(ka=none->rs.length=0/\kc=0)/\KidsAt (λb=>base<=b) v ka rs:=by
 obtain⟨ys,hown,hall⟩:=h;have hl:=hall.1;rcases hown.2 with⟨rfl,hn0⟩|⟨g,cap,cur,rfl,hbg,hg,hnc,hcm,hcs,htake⟩
 ·have:rs=[]:=Ar (by omega);subst this;exact⟨none,0,rfl,Aa _,by unfold maxLen;omega,λ_=>⟨rfl,rfl⟩,λj r hr=>by simp at hr⟩
 ·refine⟨some ⟨g,0,none⟩,cap,by rw[hl],by omega,hcm,λh=>(by cases h),λj r hj=>?_⟩;have hjl:j<ys.length:=by rw[<-hl];exact(Aw.1 hj).1
  refine⟨g,0,ys[j],rfl,hbg,λk u hu=>?_,(hall.2.2 j _ r (Ac hjl) hj).go λb hb _=>⟨rfl,hb.1⟩⟩;have e:ys=ys.take j++ys[j]::ys.drop (j+1):=by rw[<-Bq hjl,Bf]
  have hl':(ys.take j).length=j:=by rw[Ap];omega
  have hf:=SN (pre:=ys.take j) (post:=ys.drop (j+1)) (λz hz=>hall.2.1 z (Bi hz)) hu;rw[hl',<-e]at hf;have:=DN hown (g:=g) rfl (j*34+k) u hf;rw[BM]at this;rw[show 0+j*34+k=0+(j*34+k)from by omega];exact this
def ddNode(t:T):PN:=
 if t.its.length=2 then
  (if(unpP (t.its.getD 0 t0).bs).2.1=true then⟨1,(unpP (t.its.getD 0 t0).bs).1,(t.its.getD 1 t0).bs,r0,[]⟩
   else⟨2,(unpP (t.its.getD 0 t0).bs).1,[],drefP (t.its.getD 1 t0),[]⟩)
 else⟨3,[],(t.its.getD 16 t0).bs,r0,(t.its.take 16).map drefP⟩
theorem SX(h:refOfP u=some r):r=drefP u:=by
 unfold refOfP at h;unfold drefP;by_cases hl:u.l=true
 ·rw[Af hl]at h⊢;by_cases hm:(mP u).2=0
  ·rw[Af hm]at h;cases h;rw[Gr hm]
  ·rw[Ad hm]at h;cases h
 ·rw[Ad hl]at h⊢;by_cases h0:u.bs.length=0
  ·rw[Af h0]at h;cases h;rw[Ad (by omega)]
  ·rw[Ad h0]at h;by_cases h32:u.bs.length=32
   ·rw[Af h32]at h⊢;cases h;rfl
   ·rw[Ad h32]at h;cases h
theorem SY:∀{ts:List T}{ks:List PR},kidsP ts=some ks->ks=ts.map drefP
 |[],ks,h=>by cases h;rfl
 |t::l,ks,h=>by
  rw[kidsP]at h;cases hr:refOfP t with
  |none=>rw[hr]at h;cases h
  |some a=>
   rw[hr]at h;dsimp only at h;cases hk:kidsP l with
   |none=>rw[hk]at h;cases h
   |some l'=>
    rw[hk]at h;cases h;rw[B9,<-SY hk,<-SX hr]
theorem N3{t:T}{n:PN}(h:nodeOfP t=some n):n=ddNode t/\(t.its.length=2∨t.its.length=17):=by
 unfold nodeOfP at h;unfold ddNode;by_cases h2:t.its.length=2
 ·rw[Af h2]at h⊢;refine⟨?_, .inl h2⟩;unfold pathP at h;split at h
  ·cases h
  ·split at h
   ·rename_i hlf;rw[Af hlf];split at h
    ·cases h
    ·cases h;rfl
   ·rename_i hlf;rw[Ad hlf];cases hq:refOfP (t.its.getD 1 t0)with
    |none=>rw[hq]at h;cases h
    |some c=>rw[hq]at h;cases h;rw[<-SX hq]
 ·rw[Ad h2]at h⊢;by_cases h17:t.its.length=17
  ·rw[Af h17]at h;refine⟨?_, .inr h17⟩;unfold branchP at h;cases hk:kidsP (t.its.take 16)with
   |none=>rw[hk]at h;cases h
   |some ks=>
    rw[hk]at h;dsimp only at h;split at h
    ·cases h
    ·cases h;rw[<-SY hk]
  ·rw[Ad h17]at h;cases h
theorem ZX{e:Nat}(hb:isB b)(hd:decP b= .bad e):ND b=none:=by rw[Sw hb,hd]
theorem Xas{t:T}(hb:isB b)(hd:decP b= .ok t)(h:¬(t.its.length=2∨t.its.length=17)):ND b=none:=by
 cases hn:ND b with
 |none=>rfl
 |some n=>
  obtain⟨t',h1,h2,_⟩:=FZ hb hn;rw[hd]at h1;cases h1;exact absurd (N3 h2).2 h
theorem Rt{t:T}(hb:isB b)(hd:decP b= .ok t)(ho:okN (ddNode t)):ND b=if NR (ddNode t)=true/\NE (ddNode t)=b then some (ddNode t)else none:=by
 by_cases h:NR (ddNode t)=true/\NE (ddNode t)=b
 ·rw[Af h];have:=Z3 ho h.1 (by rw[h.2];exact hb);rwa [h.2]at this
 ·rw[Ad h];cases hn:ND b with
  |none=>rfl
  |some n=>
   obtain⟨t',h1,h2,_⟩:=FZ hb hn;rw[hd]at h1;cases h1;obtain⟨h3,h4,_⟩:=MW hb hn;rw[(N3 h2).1]at h3 h4;exact absurd ⟨h3,h4⟩ h
theorem Mm{t:T}(hb:isB b)(h:decP b= .ok t)(hu:u∈t.its):(drefP u).i.length<b.length:=by
 have hs:=(Ji hb h hu).1;unfold drefP;split
 ·by_cases hm:(mP u).2=0
  ·rw[Gr hm];exact hs
  ·rw[Ol hm];simp;omega
 ·split
  ·simp;omega
  ·show(0:Nat)<_;omega
theorem Ru{t:T}(hb:isB b)(h:decP b= .ok t)(hl:t.its.length=2∨t.its.length=17):∀r,(r=(ddNode t).c∨r∈(ddNode t).ks)->r.i.length<b.length:=by
 have h0:r0.i.length<b.length:=by have:=(Ji hb h (FB (l:=t.its) (i:=0) (by omega))).1;show 0<_;omega
 intro r hr;unfold ddNode at hr;by_cases h2:t.its.length=2
 ·rw[Af h2]at hr;split at hr
  ·rcases hr with rfl|hr
   ·exact h0
   ·cases hr
  ·rcases hr with rfl|hr
   ·exact Mm hb h (FB (by omega))
   ·cases hr
 ·rw[Ad h2]at hr;rcases hr with rfl|hr
  ·exact h0
  ·obtain⟨u,hu,rfl⟩:=BE.1 hr;exact Mm hb h (Bi hu)
end Go.Proofs.YtalhnnjpjaeakaaGreat
namespace Go.Proofs.YtalhnnjpjaeakaaGreat.Ni
theorem UA{b:List Int}(h:0<b.length):(nib b).getD 0 0=b.getD 0 0/16/\(nib b).getD 1 0=b.getD 0 0%16:=by
 cases b with
 |nil=>simp at h
 |cons c r=>exact⟨rfl,rfl⟩
theorem ag_drop{w:World}{g off n c k:Nat}{bs:List Int}(h:Ag w (some ⟨g,off,none⟩) n c bs)(hk:k<n):Ag w (some ⟨g,off+k,none⟩) (n-k) (c-k) (bs.drop k):=by
 have hl:=h.l;rcases h.i with⟨h0,_⟩|⟨gb,off',h1,h2,h3,h4,h5,h7⟩
 ·omega
 ·injection h1 with h1;injection h1 with e1 e2;subst e1 e2;refine⟨.inr ⟨g,off+k,rfl,by rw[AQ];omega,by omega,by omega,by omega,λj hj=>?_⟩,(λh=>by cases h),by rw[AQ];omega,OM h.b k⟩;rw[AQ]at hj;rw[MK,CB];exact h7 (k+j) (by omega)
theorem JB(w:World)(a:Option Addr)(c:Nat)(h:a=none->c=0):Ag w a 0 c []:=⟨.inl ⟨rfl,rfl⟩,λe=>⟨rfl,h e⟩,rfl,λx hx=>by cases hx⟩
theorem runpack_any(a:Option Addr)(n c:Nat)(b:List Int)(w:World)(h:Ag w a n c b)(hn:2*n<=140737488355328):
 Calls prog 148 #[.slice a n c] w λe w'=>(∃a' m c',e= .returned (.tuple #[.slice a' m c', .bool (unpP b).2.1, .int .i64 ((unpP b).2.2:Nat)])/\Ag w' a' m c' (unpP b).1/\(∀g off,a'=some ⟨g,off,none⟩->0<m->w.heap.size<=g))/\Below w.heap.size w w':=by
 have hl:=h.l;have hof:=rof_any a n c b w h hn;by_cases h0:n=0
 ·subst h0;have e:b=[]:=Ar hl;subst e;rw[RX];simp only;have HOF:=XaI hof;clear h hl hof;go_enter func148,ntmps148;go_wp2_with fail;refine HOF.out.mono ?_;rintro e w1⟨⟨a1,c1,rfl,_,_,_,_⟩,hb⟩;rw[Nat.mul_zero];have HB:=XaI hb;clear hb;go_wp2_with fail;go_ret3;exact⟨⟨none,0,0,rfl,ag_nil _,λg off h=>by cases h⟩,HB.out⟩
 have hx:=h.b _ (getD_mem (l:=b) (i:=0) (by omega));have hbad:=RY (b:=b) (by omega);have hgood:=OR (b:=b) (by omega);obtain⟨e0,e1⟩:=UA (b:=b) (by omega);generalize b.getD 0 0=x at*;obtain⟨hx0,hx1⟩:=hx;obtain⟨f,hf⟩:∃f,x/16=f:=⟨_,rfl⟩;obtain⟨s,hs⟩:∃s,x%16=s:=⟨_,rfl⟩;have hxs:badU x↔(f>3∨(f%2=0/\s≠0)):=by unfold badU;rw[hf,hs]
 rw[hf]at e0 hgood;rw[hs]at e1;have hf0:0<=f:=by omega
 have hf1:f<=15:=by omega
 have hs0:0<=s:=by omega
 have hs1:s<=15:=by omega
 obtain⟨N,hN⟩:∃N,nib b=N:=⟨_,rfl⟩;rw[hN]at e0 e1 hof hgood;clear hf hs hx0 hx1 hN;obtain⟨M,hM⟩:∃M,2*n=M:=⟨_,rfl⟩;have hM2:2<=M:=by omega
 rw[hM]at hof hn;have HOF:=XaI hof;have hMi:((M:Int)==0)=false:=by rw[BB];omega
 have hMi0:(0:Int)<M:=by omega
 have hMi1:(1:Int)<M:=by omega
 clear h hl hof hM h0;have hstep:∀(g off c1:Nat)(w1:World),Ag w1 (some ⟨g,off,none⟩) M c1 N->w1.cell? ⟨g,off,none⟩=some (.int .u8 f)/\w1.cell? ⟨g,off+1,none⟩=some (.int .u8 s):=by
  intro g off c1 w1 hag;obtain⟨g',off',h1,h2,h3,h4⟩:=ag_head hag (by omega);injection h1 with h1;injection h1 with e2 e3;subst e2 e3;have h5:=h4 0 (by omega);have h6:=h4 1 (by omega);rw[e0,C5]at h5;rw[e1]at h6;exact⟨h5,h6⟩
 have HST:=XaI hstep;clear hstep e0 e1;have hsome:∀(a1:Option Addr)(c1:Nat)(w1:World),Ag w1 a1 M c1 N->∃g off,a1=some ⟨g,off,none⟩:=by
  intro a1 c1 w1 hag;obtain⟨g',off',h1,_⟩:=ag_head hag (by omega);exact⟨g',off',h1⟩
 have HSM:=XaI hsome;clear hsome;by_cases h3:f>3
 ·rw[hbad (hxs.2 (.inl h3))];simp only;clear hbad hgood hxs;go_enter func148,ntmps148;go_wp2_with fail;refine HOF.out.mono ?_;rintro e w1⟨⟨a1,c1,rfl,hc1,hc2,hag,hnw⟩,hb⟩;obtain⟨g,off,rfl⟩:=HSM.out _ _ _ hag;have HNW:=XaI (show w.heap.size<=g from hnw (by omega) g off rfl);clear hnw;obtain⟨z0,z1⟩:=HST.out _ _ _ _ hag;unfold maxLen at hc2;have HB:=XaI hb;clear hb hag;go_wp2_with fail;go_ret3;exact⟨⟨none,0,0,rfl,ag_nil _,λg off h=>by cases h⟩,HB.out⟩
 have hf4:f=0∨f=1∨f=2∨f=3:=by omega
 clear h3 hf0 hf1;rcases hf4 with rfl|rfl|rfl|rfl
 ·
  by_cases hs:s=0
  ·
   subst hs;rw[hgood (λhb=>by have:=hxs.1 hb;omega),Af (by omega)];simp only;rw[AT (by omega)];clear hbad hgood hxs;go_enter func148,ntmps148;go_wp2_with fail;refine HOF.out.mono ?_;rintro e w1⟨⟨a1,c1,rfl,hc1,hc2,hag,hnw⟩,hb⟩;obtain⟨g,off,rfl⟩:=HSM.out _ _ _ hag;have HNW:=XaI (show w.heap.size<=g from hnw (by omega) g off rfl);clear hnw;obtain⟨z0,z1⟩:=HST.out _ _ _ _ hag;unfold maxLen at hc2;have HB:=XaI hb;have HAG:=XaI hag;have hci:(2:Int)<=c1:=(by omega);have hcm:(M:Int)<=c1:=(by omega);have hmm:(2:Int)<=M:=(by omega);clear hb hag;by_cases hcf:c1=2
   ·have hM3:M=2:=(by omega);subst hM3;subst hcf;have HNN:Hid (N.drop 2=[]):=XaI (Br (by rw[HAG.out.l];exact Aa _));go_wp2_with fail
    go_region
    all_goals
     go_wp2_with fail;go_ret3;exact⟨⟨_,_,_,rfl,by rw[HNN.out];exact JB _ _ _ (λ_=>rfl),λg off h=>by first|(cases h;done)|(intro _;cases h;exact HNW.out)⟩,HB.out.drew⟩
   ·by_cases hM3:M=2
    ·subst hM3;have HNN:Hid (N.drop 2=[]):=XaI (Br (by rw[HAG.out.l];exact Aa _));go_wp2_with fail
     go_region
     all_goals
      go_wp2_with fail;go_ret3;exact⟨⟨_,_,_,rfl,by rw[HNN.out];exact JB _ _ _ (λh=>by cases h),λg off h _=>by cases h;exact HNW.out⟩,HB.out.drew⟩
    ·go_wp2_with fail
     go_region
     all_goals
      go_wp2_with fail;go_ret3;exact⟨⟨_,_,_,rfl,(ag_drop HAG.out (k:=2) (by omega)).drewN,λg off h _=>by cases h;exact HNW.out⟩,HB.out.drew⟩
  ·
   rw[hbad (hxs.2 (.inr ⟨by omega,hs⟩))];simp only;clear hbad hgood hxs;have hsb:(s !=0)=true:=(by rw[BL];exact hs);clear hs;go_enter func148,ntmps148;go_wp2_with fail;refine HOF.out.mono ?_;rintro e w1⟨⟨a1,c1,rfl,hc1,hc2,hag,hnw⟩,hb⟩;obtain⟨g,off,rfl⟩:=HSM.out _ _ _ hag;have HNW:=XaI (show w.heap.size<=g from hnw (by omega) g off rfl);clear hnw;obtain⟨z0,z1⟩:=HST.out _ _ _ _ hag;unfold maxLen at hc2;have HB:=XaI hb;clear hb hag;go_wp2_with fail;go_ret3;exact⟨⟨none,0,0,rfl,ag_nil _,λg off h=>by cases h⟩,HB.out⟩
 ·
  rw[hgood (λhb=>by have:=hxs.1 hb;omega),Ad (by omega)];simp only;rw[AT (by omega)];clear hbad hgood hxs;go_enter func148,ntmps148;go_wp2_with fail;refine HOF.out.mono ?_;rintro e w1⟨⟨a1,c1,rfl,hc1,hc2,hag,hnw⟩,hb⟩;obtain⟨g,off,rfl⟩:=HSM.out _ _ _ hag;have HNW:=XaI (show w.heap.size<=g from hnw (by omega) g off rfl);clear hnw;obtain⟨z0,z1⟩:=HST.out _ _ _ _ hag;unfold maxLen at hc2;have HB:=XaI hb;have HAG:=XaI hag;have hci:(1:Int)<=c1:=by omega
  have hcm:(M:Int)<=c1:=by omega
  have hmm:(1:Int)<=M:=by omega
  have hcf:¬c1=1:=by omega
  clear hb hag;go_wp2_with fail
  go_region
  all_goals
   go_wp2_with fail;go_ret3;exact⟨⟨_,_,_,rfl,(ag_drop HAG.out (k:=1) (by omega)).drewN,λg off h _=>by cases h;exact HNW.out⟩,HB.out.drew⟩
 ·
  by_cases hs:s=0
  ·
   subst hs;rw[hgood (λhb=>by have:=hxs.1 hb;omega),Af (by omega)];simp only;rw[AU (by omega)];clear hbad hgood hxs;go_enter func148,ntmps148;go_wp2_with fail;refine HOF.out.mono ?_;rintro e w1⟨⟨a1,c1,rfl,hc1,hc2,hag,hnw⟩,hb⟩;obtain⟨g,off,rfl⟩:=HSM.out _ _ _ hag;have HNW:=XaI (show w.heap.size<=g from hnw (by omega) g off rfl);clear hnw;obtain⟨z0,z1⟩:=HST.out _ _ _ _ hag;unfold maxLen at hc2;have HB:=XaI hb;have HAG:=XaI hag;have hci:(2:Int)<=c1:=(by omega);have hcm:(M:Int)<=c1:=(by omega);have hmm:(2:Int)<=M:=(by omega);clear hb hag;by_cases hcf:c1=2
   ·have hM3:M=2:=(by omega);subst hM3;subst hcf;have HNN:Hid (N.drop 2=[]):=XaI (Br (by rw[HAG.out.l];exact Aa _));go_wp2_with fail
    go_region
    all_goals
     go_wp2_with fail;go_ret3;exact⟨⟨_,_,_,rfl,by rw[HNN.out];exact JB _ _ _ (λ_=>rfl),λg off h=>by first|(cases h;done)|(intro _;cases h;exact HNW.out)⟩,HB.out.drew⟩
   ·by_cases hM3:M=2
    ·subst hM3;have HNN:Hid (N.drop 2=[]):=XaI (Br (by rw[HAG.out.l];exact Aa _));go_wp2_with fail
     go_region
     all_goals
      go_wp2_with fail;go_ret3;exact⟨⟨_,_,_,rfl,by rw[HNN.out];exact JB _ _ _ (λh=>by cases h),λg off h _=>by cases h;exact HNW.out⟩,HB.out.drew⟩
    ·go_wp2_with fail
     go_region
     all_goals
      go_wp2_with fail;go_ret3;exact⟨⟨_,_,_,rfl,(ag_drop HAG.out (k:=2) (by omega)).drewN,λg off h _=>by cases h;exact HNW.out⟩,HB.out.drew⟩
  ·
   rw[hbad (hxs.2 (.inr ⟨by omega,hs⟩))];simp only;clear hbad hgood hxs;have hsb:(s !=0)=true:=(by rw[BL];exact hs);clear hs;go_enter func148,ntmps148;go_wp2_with fail;refine HOF.out.mono ?_;rintro e w1⟨⟨a1,c1,rfl,hc1,hc2,hag,hnw⟩,hb⟩;obtain⟨g,off,rfl⟩:=HSM.out _ _ _ hag;have HNW:=XaI (show w.heap.size<=g from hnw (by omega) g off rfl);clear hnw;obtain⟨z0,z1⟩:=HST.out _ _ _ _ hag;unfold maxLen at hc2;have HB:=XaI hb;clear hb hag;go_wp2_with fail;go_ret3;exact⟨⟨none,0,0,rfl,ag_nil _,λg off h=>by cases h⟩,HB.out⟩
 ·
  rw[hgood (λhb=>by have:=hxs.1 hb;omega),Ad (by omega)];simp only;rw[AU (by omega)];clear hbad hgood hxs;go_enter func148,ntmps148;go_wp2_with fail;refine HOF.out.mono ?_;rintro e w1⟨⟨a1,c1,rfl,hc1,hc2,hag,hnw⟩,hb⟩;obtain⟨g,off,rfl⟩:=HSM.out _ _ _ hag;have HNW:=XaI (show w.heap.size<=g from hnw (by omega) g off rfl);clear hnw;obtain⟨z0,z1⟩:=HST.out _ _ _ _ hag;unfold maxLen at hc2;have HB:=XaI hb;have HAG:=XaI hag;have hci:(1:Int)<=c1:=by omega
  have hcm:(M:Int)<=c1:=by omega
  have hmm:(1:Int)<=M:=by omega
  have hcf:¬c1=1:=by omega
  clear hb hag;go_wp2_with fail
  go_region
  all_goals
   go_wp2_with fail;go_ret3;exact⟨⟨_,_,_,rfl,(ag_drop HAG.out (k:=1) (by omega)).drewN,λg off h _=>by cases h;exact HNW.out⟩,HB.out.drew⟩
end Go.Proofs.YtalhnnjpjaeakaaGreat.Ni
namespace Go.Proofs.YtalhnnjpjaeakaaGreat
open Ni (unpP)
variable {w1 v' : World} {y : V} {x : NV}
structure De(w1 v:World)(y:V)(x:NV):Prop where
 ib:B1 w1.heap.size v y
 nb:NBx (w1.heap.size+1) v x
 bel:Below w1.heap.size w1 v
 sz:w1.heap.size+2<=v.heap.size
theorem De.go{v:World}(h:De w1 v y x)(hb:Below v.heap.size v v'):De w1 v' y x:=⟨h.ib.go hb,h.nb.go hb,below_go h.bel hb,Al h.sz hb.size⟩
theorem De.setRow{v:World}(h:De w1 v y x)(x':NV)(hl:x'.c.d.length=32):De w1 (v.setRow (w1.heap.size+1) x'.cells.toArray) y x':=
 ⟨DO h.ib (by omega),⟨A9 _ _ _ _ _ _ h.nb.row,hl⟩,Below.setRow h.bel (by omega) _,by simpa using h.sz⟩
theorem De.drew{v:World}(h:De w1 v y x):De w1 v.drew y x:=h.go (Ak _ _).drew
theorem De.above{v:World}(h:De w1 v y x)(hb:Below (w1.heap.size+2) v v'):De w1 v' y x:=
 ⟨⟨(Aq (w:=v) (hb.block w1.heap.size (by omega))).trans h.ib.c0,(Aq (w:=v) (hb.block w1.heap.size (by omega))).trans h.ib.c1,(Aq (w:=v) (hb.block w1.heap.size (by omega))).trans h.ib.c2⟩,⟨(hb.block _ (by omega)).trans h.nb.row,h.nb.l⟩,
  h.bel.trans (hb.mono (by omega)),Al h.sz hb.size⟩
theorem Rv(hl:x.c.d.length=32)(ka:Option Addr)(kn kc:Nat):x.cells.toArray.setIfInBounds 37 (.slice ka kn kc)=(NV.cells {x with ka:=ka,kn:=kn,kc:=kc}).toArray:=by
 rw[D6];congr 1;rw[NV.cells,NV.cells,show(37:Nat)=34+1+1+1 from rfl,EH,EH,EH,DA _ _ (by rw[RV.len hl];omega),RV.len hl];rfl
theorem De.put{v:World}(h:De w1 v y x)(ka:Option Addr)(kn kc:Nat):De w1 (v.setCell ⟨w1.heap.size+1,37,none⟩ (.slice ka kn kc)) y {x with ka:=ka,kn:=kn,kc:=kc}:=by
 have ho:∀k,k≠w1.heap.size+1->(v.setCell ⟨w1.heap.size+1,37,none⟩ (.slice ka kn kc)).heap[k]?=v.heap[k]?:=λk hk=>A8 _ _ _ _ hk;refine⟨⟨(Aq (w:=v) (ho w1.heap.size (by omega))).trans h.ib.c0,(Aq (w:=v) (ho w1.heap.size (by omega))).trans h.ib.c1,(Aq (w:=v) (ho w1.heap.size (by omega))).trans h.ib.c2⟩,⟨?_,h.nb.l⟩,h.bel.setCell (by show w1.heap.size<=w1.heap.size+1;omega) _,by simpa using h.sz⟩;rw[AN v (w1.heap.size+1) 37 _ 92 (.slice ka kn kc) h.nb.row,Rv h.nb.l]
theorem Rx:(λ(va:Option Addr)(vn vc:Nat)=>prog.built 92 [(0, .int .i64 3),(2, .slice va vn vc)])=λva vn vc=>some (NV.cells ⟨3,none,0,0,va,vn,vc,rz,none,0,0⟩).toArray:=by kernel_rfl
theorem N5(va:Option Addr)(vn vc:Nat):prog.built 92 [(0, .int .i64 3),(2, .slice va vn vc)]=some (NV.cells ⟨3,none,0,0,va,vn,vc,rz,none,0,0⟩).toArray:=AC (AC (AC Rx va) vn) vc
theorem SZ{y:NV}(hx:x.c.d.length=32)(hy:y.c.d.length=32):x.cells.toArray.size=y.cells.toArray.size:=by rw[Bb,Bb,NV.len hx,NV.len hy]
section
variable {a : Act} {w : World}
theorem IN{x y:Operand}{o:Oper}(ho:o.op= .store 90 x y)(g:Nat)(ia:Option Addr)(m ic:Nat)(old:Value)(hx:a.eval x= .pointer (some ⟨g,37,none⟩))(hy:a.eval y= .slice ia m ic)(hc:w.cell? ⟨g,37,none⟩=some old)(hf:∀o,w.frozen? ⟨g,o,none⟩=false):
 (execOp a.eval o).run prog w= .ok .skip (w.setCell ⟨g,37,none⟩ (.slice ia m ic)):=by
 unfold execOp;rw[ho];simp only[hx,hy];go_simp
end
theorem N6{its:List T}{j:Nat}{t:T}(h:its[j]?=some t):(its.take (j+1)).map drefP=(its.take j).map drefP++[drefP t]:=by
 rw[DJ h,BA];rfl
theorem GG{w:World}{r:PR}{e:Ending}{w':World}(h:DRPost w r e w'):∃v,e= .returned v/\(Below w.heap.size w w'/\∃y:RV,v= .agg y.cells.toArray/\RefAt (λb=>w.heap.size<=b) w' y r):=by
 obtain⟨⟨y,e1,hy⟩,hb⟩:=h;exact⟨_,e1,hb,y,rfl,hy.go λg hg _=>⟨rfl,E4 hg⟩⟩
theorem OE(b:List Int)(hr:∀i,i.length<b.length->DDSaid i):DDSaid b:=by
 intro a n c w hag hn;have hbB:isB b:=hag.b;have HREC:=XaI hr;have HAG:=XaI hag;have HBB:=XaI hbB;obtain⟨res,hres⟩:∃res,ND b=res:=⟨_,rfl⟩;rw[hres];have HRES:=XaI hres;have HDD0:=XaI (WA w);clear hag hr hres hbB;go_enter func142,ntmps142;go_upto_region 1 with fail;refine gen_w (p:=λv=>Code.wp _ _ _ _ v) (q:=λv=>Dd w v) HDD0.out ?_;clear HDD0;intro v D0;have HD0:=XaI D0;have HCD:=XaI (K7 a n c b v (HAG.out.at D0.bel) hn);clear D0;go_wp2_with fail;refine HCD.out.mono ?_;intro e w1 hp;obtain⟨hb1,hp⟩:=hp;have HD1:=XaI (HD0.out.go hb1);have HV0:=XaI HD0.out.sz;cases hq:decP b with
 |bad er=>
  rw[hq]at hp;have hr:=HRES.out;rw[ZX HBB.out hq]at hr;subst hr;obtain⟨rfl,her⟩:=hp;have hee:((er:Int) !=0)=true:=by rw[BL];omega
  clear hb1 hq her;go_upto_region 2 with fail;refine gen_w (p:=λv=>Code.wp _ _ _ _ v) (q:=λv=>Dd w v) (HD1.out.go (below_new w1 _)) ?_;intro v2 D2;have HD2:=XaI D2;clear D2;go_upto_region 3 with fail;go_wp2_with (first|refine A4 rfl 92 _ _ rfl _ nz.cells.toArray rfl rfl 92 _ HD2.out.row (CJ rfl) (Cv rfl) (Am (NV.one _)) ?_);refine Ao (BP results142 _ _ w.heap.size nz rfl rfl (A9 _ _ _ _ _ _ HD2.out.row)) rfl ?_;exact⟨Below.setRow HD2.out.bel (Aa _) _,rfl⟩
 |ok t=>
  rw[hq]at hp;obtain⟨y,rfl,hy⟩:=hp;have HLY:=XaI (show LiesP (λb=>w.heap.size+1<=b) w1 t y from Bz (λb hb hlt=>⟨rfl,by have:=HV0.out;omega⟩) _ _ hy);have HQ:=XaI hq;have HSM:=XaI (Nm HBB.out hq);clear hb1 hq hy HV0 HD0 HCD;go_upto_region 2 with fail;refine gen_w (p:=λv=>Code.wp _ _ _ _ v) (q:=λv=>B1 w1.heap.size v y/\Below w1.heap.size w1 v/\v.heap.size=w1.heap.size+1) ⟨E5 w1 y,below_new w1 _,by simp⟩ ?_;rintro v2⟨B2,hb2,hs2⟩;have HB2:=XaI B2;have HBL:=XaI hb2;have HS2:=XaI hs2;clear B2 hb2 hs2;obtain⟨its,hits⟩:∃its,t.its=its:=⟨_,rfl⟩;have hpar:y.m=its.length/\y.m<=y.ic/\y.ic<=maxLen/\LiesPAll (λb=>w.heap.size+1<=b) w1 its y.ia 0:=by
   obtain⟨l,bs,its'⟩:=t;have e:its'=its:=hits;subst e;obtain⟨⟨hl,-,hm,hmc,hcm,-⟩,hall⟩:=liesP_eq.1 HLY.out;exact⟨hm,hmc,hcm,hall⟩
  obtain⟨hm,hmc,hcm,hall⟩:=hpar;unfold maxLen at hcm;rw[hits]at HSM;have HITS:=XaI hits;have HM:=XaI hm;have HALL:=XaI hall;clear hits hm hall;by_cases h2:y.m=2
  ·have hl2:its.length=2:=(by rw[<-HM.out,h2]);have c2:=HB2.out.c2;rw[h2]at c2;obtain⟨g,off,y0,A0⟩:=DF HALL.out 0 (its.getD 0 t0) (by rw[List.getD,Ac (by omega)];rfl);obtain⟨g1,off1,y1,A1⟩:=DF HALL.out 1 (its.getD 1 t0) (by rw[List.getD,Ac (by omega)];rfl);have ha:=A1.ha;rw[A0.ha]at ha;cases ha;have HX0:=XaI (HSM.out _ (FB (l:=its) (i:=0) (by omega)));rw[A0.ha]at c2;have HIA:=XaI A0.ha;have HA0:=XaI A0;have HA1:=XaI A1;have HND:=XaI (show ddNode t=(if(unpP (its.getD 0 t0).bs).2.1=true then⟨1,(unpP (its.getD 0 t0).bs).1,(its.getD 1 t0).bs,r0,[]⟩else⟨2,(unpP (its.getD 0 t0).bs).1,[],drefP (its.getD 1 t0),[]⟩)from by unfold ddNode;rw[HITS.out,Af hl2]);generalize its.getD 0 t0=tt0 at HA0 HX0 HND;generalize its.getD 1 t0=tt1 at HA1 HND;have H2:=XaI h2;clear hl2 A0 A1 h2 hmc;go_upto_region 4 with fail;rename_i KK hkk;refine CZ<|Bu 33 (.pointer (some ⟨w1.heap.size,2,none⟩)) rfl (by kernel_rfl) (by kernel_rfl)<|Bu 34 (.slice (some ⟨g,off,none⟩) 2 y.ic) rfl (by kernel_rfl) (CT rfl (by kernel_rfl) c2)<|Bu 35 (.pointer (some ⟨w1.heap.size,2,none⟩)) rfl (by kernel_rfl) (by kernel_rfl)<|Bu 36 (.slice (some ⟨g,off,none⟩) 2 y.ic) rfl (by kernel_rfl) (CT rfl (by kernel_rfl) c2)<|Bu 37 (.int .i64 2) rfl (by kernel_rfl) (by kernel_rfl)<|Bu 38 (.int .i64 1) rfl (by kernel_rfl) (by kernel_rfl)<|Bu 39 (.pointer (some ⟨g,off+(0+1)*3,none⟩)) rfl (by kernel_rfl) (ES (j:=0+1) (m:=2) (c:=y.ic) rfl (by kernel_rfl) (by kernel_rfl) (by omega))<|Bu 40 (.pointer (some ⟨g,off+(0+1)*3+1,none⟩)) rfl (by kernel_rfl) (by kernel_rfl)<|Bu 41 (.slice y1.ba y1.bn y1.bc) rfl (by kernel_rfl) (FN rfl (by kernel_rfl) (AM HBL.out HA1.out.c1))<|Bu 42 (.agg (NV.cells ⟨3,none,0,0,y1.ba,y1.bn,y1.bc,rz,none,0,0⟩).toArray) rfl (by kernel_rfl) (Ea 92 _ rfl [(0, .int .i64 3),(2, .slice y1.ba y1.bn y1.bc)] (by kernel_rfl) _ (N5 _ _ _))<|Om 6 (.pointer (some ⟨w1.heap.size+1,0,none⟩)) rfl (by kernel_rfl) ((Ip rfl).trans (by rw[HS2.out])) ?_;refine Fx rfl (by kernel_rfl) (Dv 92 _ _ rfl (w1.heap.size+1) (NV.cells ⟨3,none,0,0,y1.ba,y1.bn,y1.bc,rz,none,0,0⟩).toArray (by kernel_rfl) (by kernel_rfl) 92 nz.cells.toArray (by rw[<-HS2.out];exact Ai _ _) (CJ rfl) (Cv rfl) (Am (NV.one _)))<|hkk _ _ ?_
   go_frame
   refine gen_w (p:=λv=>Code.wp _ _ _ _ v) (q:=λv=>De w1 v y ⟨3,none,0,0,y1.ba,y1.bn,y1.bc,rz,none,0,0⟩) (by
    have e:=De.setRow (w1:=w1) (v:=v2.alloc (.cells nz.cells.toArray 92)) (y:=y) (x:=nz) ⟨HB2.out.alloc _,⟨by rw[<-HS2.out];exact Ai _ _,rfl⟩,below_go HBL.out (below_new _ _),by simp[HS2.out]⟩ ⟨3,none,0,0,y1.ba,y1.bn,y1.bc,rz,none,0,0⟩ rfl;exact e) ?_
   intro v4 D4;have HD4:=XaI D4;clear D4 hkk c2;have c2:=HD4.out.ib.c2;rw[HIA.out,H2.out]at c2;have hag0:Ag w1 y0.ba y0.bn y0.bc tt0.bs:=(by obtain⟨l,bs,its'⟩:=tt0;exact(lies_eq.1 (CX _ _ HA0.out.li)).2.1);have HU:=XaI (Ni.runpack_any y0.ba y0.bn y0.bc tt0.bs v4 (hag0.at HD4.out.bel) (by have:=hag0.l;have:=HX0.out;omega));have HPL:=XaI (Ni.unp_le tt0.bs);have hy0n:tt0.bs.length=y0.bn:=hag0.l;have HY0N:=XaI hy0n;clear hag0 hy0n;obtain⟨pp,hpp⟩:∃pp,(unpP tt0.bs).1=pp:=⟨_,rfl⟩;obtain⟨lf,hlf⟩:∃lf,(unpP tt0.bs).2.1=lf:=⟨_,rfl⟩;obtain⟨er,her⟩:∃er,(unpP tt0.bs).2.2=er:=⟨_,rfl⟩;rw[hpp,hlf,her]at HU;rw[hpp]at HPL;rw[hpp,hlf]at HND;clear hpp hlf her;go_upto_region 6 with fail;rename_i KK hkk;refine CZ<|Bu 48 (.pointer (some ⟨w1.heap.size,2,none⟩)) rfl (by kernel_rfl) (by kernel_rfl)<|Bu 49 (.slice (some ⟨g,off,none⟩) 2 y.ic) rfl (by kernel_rfl) (CT rfl (by kernel_rfl) c2)<|Bu 50 (.pointer (some ⟨g,off+(0+0)*3,none⟩)) rfl (by kernel_rfl) (ES (j:=0+0) (m:=2) (c:=y.ic) rfl (by kernel_rfl) (by kernel_rfl) (by omega))<|Bu 51 (.pointer (some ⟨g,off+(0+0)*3+1,none⟩)) rfl (by kernel_rfl) (by kernel_rfl)<|Bu 52 (.slice y0.ba y0.bn y0.bc) rfl (by kernel_rfl) (FN rfl (by kernel_rfl) (AM HD4.out.bel HA0.out.c1))<|KM 53 rfl (by kernel_rfl) 148 #[.slice y0.ba y0.bn y0.bc] (by kernel_rfl) (R:=λval w'=>Below v4.heap.size v4 w'/\∃a' m c',val= .tuple #[.slice a' m c', .bool lf, .int .i64 (er:Nat)]/\Ag w' a' m c' pp/\(∀g off,a'=some ⟨g,off,none⟩->0<m->v4.heap.size<=g)) (HU.out.mono (by rintro e w'⟨⟨a',m,c',rfl,h1,h2⟩,h3⟩;exact⟨_,rfl,h3,a',m,c',rfl,h1,h2⟩)) ?_;rintro val w6⟨hb6,a',m,c',rfl,hag6,hnw6⟩;refine Bu 47 (.tuple #[.slice a' m c', .bool lf, .int .i64 (er:Nat)]) rfl (by kernel_rfl) (by kernel_rfl)<|Bu 54 (.slice a' m c') rfl (by kernel_rfl) (by kernel_rfl)<|Bu 55 (.bool lf) rfl (by kernel_rfl) (by kernel_rfl)<|Bu 56 (.int .i64 (er:Nat)) rfl (by kernel_rfl) (by kernel_rfl)<|Bu 7 (.slice a' m c') rfl (by kernel_rfl) (by kernel_rfl)<|Bu 8 (.bool lf) rfl (by kernel_rfl) (by kernel_rfl)<|Bu 9 (.int .i64 (er:Nat)) rfl (by kernel_rfl) (by kernel_rfl)<|hkk _ _ ?_;have HD6:=XaI (HD4.out.go hb6);have HPA:=XaI (show AgK (λg=>w1.heap.size+2<=g) w6 a' m c' pp from⟨hag6,by have:=hag6.l;have:=HPL.out;have:=HX0.out;omega,λg off e h0=>by have:=hnw6 g off e h0;have:=HD4.out.sz;omega⟩);clear hkk hb6 hag6 hnw6 c2 HU HD4;have c2:=HD6.out.ib.c2;rw[HIA.out,H2.out]at c2;have HRF:=XaI (Mk tt1 y1 w6 (Cg HD6.out.bel _ _ (CX _ _ HA1.out.li)))
   go_frame
   go_upto_region 7 with fail;rename_i KK hkk;refine CZ<|Bu 57 (.slice a' m c') rfl (by kernel_rfl) (by kernel_rfl)<|Bu 58 (.pointer (some ⟨w1.heap.size,2,none⟩)) rfl (by kernel_rfl) (by kernel_rfl)<|Bu 59 (.slice (some ⟨g,off,none⟩) 2 y.ic) rfl (by kernel_rfl) (CT rfl (by kernel_rfl) c2)<|Bu 60 (.pointer (some ⟨g,off+(0+1)*3,none⟩)) rfl (by kernel_rfl) (ES (j:=0+1) (m:=2) (c:=y.ic) rfl (by kernel_rfl) (by kernel_rfl) (by omega))<|Bu 61 (.agg #[.bool y1.l, .slice y1.ba y1.bn y1.bc, .slice y1.ia y1.m y1.ic]) rfl (by kernel_rfl) (GO rfl (by kernel_rfl) (AM HD6.out.bel HA1.out.c0) (AM HD6.out.bel HA1.out.c1) (AM HD6.out.bel HA1.out.c2))<|KM 62 rfl (by kernel_rfl) 149 #[.agg #[.bool y1.l, .slice y1.ba y1.bn y1.bc, .slice y1.ia y1.m y1.ic]] (by kernel_rfl) (R:=λval w'=>Below w6.heap.size w6 w'/\∃z:RV,val= .agg z.cells.toArray/\RefAt (λb=>w6.heap.size<=b) w' z (drefP tt1)) (HRF.out.mono (λe w' h=>GG h)) ?_;rintro val w7⟨hb7,z,rfl,hz⟩;have HZL:=XaI hz.len;refine Bu 63 (.agg (NV.cells ⟨2,a',m,c',none,0,0,z,none,0,0⟩).toArray) rfl (by kernel_rfl) (Ea 92 _ rfl [(0, .int .i64 2),(1, .slice a' m c'),(3, .agg z.cells.toArray)] (by kernel_rfl) _ (GQ _ _ _ _ HZL.out))<|Fx rfl (by kernel_rfl) (Dv 92 _ _ rfl (w1.heap.size+1) (NV.cells ⟨2,a',m,c',none,0,0,z,none,0,0⟩).toArray (by kernel_rfl) (by kernel_rfl) 92 _ (HD6.out.go hb7).nb.row (CJ HZL.out) (SZ (HD6.out.go hb7).nb.l HZL.out) (Am (NV.one _)))<|hkk _ _ ?_;have HD7:=XaI ((HD6.out.go hb7).setRow ⟨2,a',m,c',none,0,0,z,none,0,0⟩ hz.len);have hkeep:Keep (λg=>w1.heap.size+2<=g) (λg=>w1.heap.size+2<=g) w7 (w7.setRow (w1.heap.size+1) (NV.cells ⟨2,a',m,c',none,0,0,z,none,0,0⟩).toArray):=λk hK hk=>⟨AW _ _ _ _ (by omega),hK⟩;have HP7:=XaI ((HPA.out.go (Keep.below hb7)).go hkeep);have HZ7:=XaI (RefAt.go hkeep (hz.go (λk hK hk=>⟨rfl,by have:=HD6.out.sz;have:w6.heap.size<=k:=hK;omega⟩)));generalize w7.setRow (w1.heap.size+1) (NV.cells ⟨2,a',m,c',none,0,0,z,none,0,0⟩).toArray=vT at HD7 HP7 HZ7⊢;clear hkk hb7 hz hkeep c2 HRF HD6 HPA
   go_frame
   have HSW:=XaI HD1.out.sz;cases lf with
   |false=>
    have hnd:=HND.out;rw[Ad (by simp)]at hnd;obtain⟨nn,hnn⟩:∃nn:PN,nn=⟨2,pp,[],drefP tt1,[]⟩:=⟨_,rfl⟩;rw[<-hnn]at hnd;clear HND;have HND:=XaI hnd
    have HNA:=XaI (show NodeAt (λg=>w.heap.size<g) vT ⟨2,a',m,c',none,0,0,z,none,0,0⟩ nn from by
     subst hnn;have hs:=HSW.out;exact⟨rfl,HP7.out.go (λk hK hk=>⟨rfl,by omega⟩),Fy _ _,HZ7.out.go (λk hK hk=>⟨rfl,by omega⟩),⟨rfl,Ay _,Ay _,Ay _,λ_=>⟨rfl,rfl⟩⟩,Jw _ _ _⟩)
    have HDE:=HD7;clear hnd hnn HD7;go_upto_region 14 with fail;have HEN:=XaI (GF _ ⟨2,a',m,c',none,0,0,z,none,0,0⟩ nn vT HNA.out (λr hrr _=>HREC.out r.i (Ru HBB.out HQ.out (by rw[HITS.out,<-HM.out];first|exact .inl H2.out|exact .inr H17.out) r (by rw[HND.out];exact hrr))));have HOK:=XaI HNA.out.okN;have HXL:=XaI HNA.out.c.len;go_wp2_with (first|refine CF rfl _ rfl (w1.heap.size+1) rfl ⟨2,a',m,c',none,0,0,z,none,0,0⟩ HDE.out.nb ?_);refine HEN.out.mono ?_;rintro e w5⟨⟨a5,m5,c5,rfl,hag5,-⟩,hb5⟩;have HE5:=XaI (HDE.out.go hb5);have HD5:=XaI (HD1.out.go HE5.out.bel);have HN5:=XaI (HNA.out.go (Keep.below hb5));have hr:=HRES.out;rw[Rt HBB.out HQ.out (by rw[HND.out];exact HOK.out),HND.out]at hr;obtain⟨q,hqq⟩:∃q,NR nn=q:=⟨_,rfl⟩;rw[hqq]at hag5 hr⊢;have HQQ:=XaI hqq;clear hb5 hqq HEN;cases q with
    |false=>
     rw[Ad (by simp)]at hr;subst hr;rw[Ad (by simp)]at hag5⊢;clear hag5;go_upto_region 16 with fail;go_wp2_with (first|refine A4 rfl 92 _ _ rfl _ nz.cells.toArray rfl rfl 92 _ HD5.out.row (CJ rfl) (Cv rfl) (Am (NV.one _)) ?_);refine Ao (BP results142 _ _ w.heap.size nz rfl rfl (A9 _ _ _ _ _ _ HD5.out.row)) rfl ?_;exact⟨Below.setRow HD5.out.bel (Aa _) _,rfl⟩
    |true=>
     rw[Af rfl]at hag5⊢;have k1:=FI hag5.i;have k2:=FI (HAG.out.at HD5.out.bel).i;have HS:=XaI (Ni.str_beq hag5.b HBB.out);generalize strOfNums (NE nn)=s1 at k1 HS;generalize strOfNums b=s2 at k2 HS;clear hag5;by_cases heq:NE nn=b
     ·rw[Af ⟨rfl,heq⟩]at hr;subst hr;have hss:(!s1.toList==s2.toList)=false:=(by rw[HS.out,AU heq];rfl);clear heq;go_upto_region 17 with fail;go_wp2_with (first|refine CF rfl _ rfl (w1.heap.size+1) rfl ⟨2,a',m,c',none,0,0,z,none,0,0⟩ HE5.out.nb ?_|refine A4 rfl 92 _ _ rfl _ (NV.cells ⟨2,a',m,c',none,0,0,z,none,0,0⟩).toArray rfl rfl 92 _ HD5.out.row (CJ HXL.out) (Cv HXL.out) (Am (NV.one _)) ?_);refine Ao (BP results142 _ _ w.heap.size ⟨2,a',m,c',none,0,0,z,none,0,0⟩ HXL.out rfl (A9 _ _ _ _ _ _ HD5.out.row)) rfl ?_;exact⟨Below.setRow HD5.out.bel (Aa _) _,⟨2,a',m,c',none,0,0,z,none,0,0⟩,rfl,HN5.out.go λk hK hk=>⟨AW _ _ _ _ (by omega),E4 hK⟩⟩
     ·rw[Ad (λh=>heq h.2)]at hr;subst hr;have hss:(!s1.toList==s2.toList)=true:=(by rw[HS.out,AT heq];rfl);clear heq;go_upto_region 16 with fail;go_wp2_with (first|refine A4 rfl 92 _ _ rfl _ nz.cells.toArray rfl rfl 92 _ HD5.out.row (CJ rfl) (Cv rfl) (Am (NV.one _)) ?_);refine Ao (BP results142 _ _ w.heap.size nz rfl rfl (A9 _ _ _ _ _ _ HD5.out.row)) rfl ?_;exact⟨Below.setRow HD5.out.bel (Aa _) _,rfl⟩
   |true=>
    have hnd:=HND.out;rw[Af rfl]at hnd;obtain⟨nn,hnn⟩:∃nn:PN,nn=⟨1,pp,tt1.bs,r0,[]⟩:=⟨_,rfl⟩;rw[<-hnn]at hnd;clear HND;have HND:=XaI hnd;have c2:=HD7.out.ib.c2;rw[HIA.out,H2.out]at c2;go_upto_region 9 with fail;rename_i K2 hkk KK2;refine CZ<|Bu 65 (.slice a' m c') rfl (by kernel_rfl) (by kernel_rfl)<|Bu 66 (.pointer (some ⟨w1.heap.size,2,none⟩)) rfl (by kernel_rfl) (by kernel_rfl)<|Bu 67 (.slice (some ⟨g,off,none⟩) 2 y.ic) rfl (by kernel_rfl) (CT rfl (by kernel_rfl) c2)<|Bu 68 (.pointer (some ⟨g,off+(0+1)*3,none⟩)) rfl (by kernel_rfl) (ES (j:=0+1) (m:=2) (c:=y.ic) rfl (by kernel_rfl) (by kernel_rfl) (by omega))<|Bu 69 (.pointer (some ⟨g,off+(0+1)*3+1,none⟩)) rfl (by kernel_rfl) (by kernel_rfl)<|Bu 70 (.slice y1.ba y1.bn y1.bc) rfl (by kernel_rfl) (FN rfl (by kernel_rfl) (AM HD7.out.bel HA1.out.c1))<|Bu 71 (.agg (NV.cells ⟨1,a',m,c',y1.ba,y1.bn,y1.bc,rz,none,0,0⟩).toArray) rfl (by kernel_rfl) (Ea 92 _ rfl [(0, .int .i64 1),(1, .slice a' m c'),(2, .slice y1.ba y1.bn y1.bc)] (by kernel_rfl) _ (Js _ _ _ _ _ _))<|Fx rfl (by kernel_rfl) (Dv 92 _ _ rfl (w1.heap.size+1) (NV.cells ⟨1,a',m,c',y1.ba,y1.bn,y1.bc,rz,none,0,0⟩).toArray (by kernel_rfl) (by kernel_rfl) 92 _ HD7.out.nb.row (CJ rfl) (SZ HD7.out.nb.l rfl) (Am (NV.one _)))<|hkk _ _ ?_;have HDE:=XaI (HD7.out.setRow ⟨1,a',m,c',y1.ba,y1.bn,y1.bc,rz,none,0,0⟩ rfl);have hkeep:Keep (λg=>w1.heap.size+2<=g) (λg=>w.heap.size<g) vT (vT.setRow (w1.heap.size+1) (NV.cells ⟨1,a',m,c',y1.ba,y1.bn,y1.bc,rz,none,0,0⟩).toArray):=λk hK hk=>⟨AW _ _ _ _ (by omega),by have:=HSW.out;omega⟩;have hv1:AgK (OwnP (λb=>w.heap.size+1<=b) w1) w1 y1.ba y1.bn y1.bc tt1.bs:=by obtain⟨l,bs,its'⟩:=tt1;exact Il HA1.out.li
    have HNA:=XaI (show NodeAt (λg=>w.heap.size<g) (vT.setRow (w1.heap.size+1) (NV.cells ⟨1,a',m,c',y1.ba,y1.bn,y1.bc,rz,none,0,0⟩).toArray) ⟨1,a',m,c',y1.ba,y1.bn,y1.bc,rz,none,0,0⟩ nn from by
     subst hnn;exact⟨rfl,HP7.out.go hkeep,hv1.go (λk hK hk=>⟨HDE.out.bel.block k hk,by have:=hK.1;omega⟩),Fc _ _,⟨rfl,Ay _,Ay _,Ay _,λ_=>⟨rfl,rfl⟩⟩,Jw _ _ _⟩)
    generalize vT.setRow (w1.heap.size+1) (NV.cells ⟨1,a',m,c',y1.ba,y1.bn,y1.bc,rz,none,0,0⟩).toArray=vT at HDE HNA⊢;clear hnd hnn HD7 hkeep hv1 hkk c2 HP7 HZ7
    go_frame
    go_upto_region 14 with fail;have HEN:=XaI (GF _ ⟨1,a',m,c',y1.ba,y1.bn,y1.bc,rz,none,0,0⟩ nn vT HNA.out (λr hrr _=>HREC.out r.i (Ru HBB.out HQ.out (by rw[HITS.out,<-HM.out];first|exact .inl H2.out|exact .inr H17.out) r (by rw[HND.out];exact hrr))));have HOK:=XaI HNA.out.okN;have HXL:=XaI HNA.out.c.len;go_wp2_with (first|refine CF rfl _ rfl (w1.heap.size+1) rfl ⟨1,a',m,c',y1.ba,y1.bn,y1.bc,rz,none,0,0⟩ HDE.out.nb ?_);refine HEN.out.mono ?_;rintro e w5⟨⟨a5,m5,c5,rfl,hag5,-⟩,hb5⟩;have HE5:=XaI (HDE.out.go hb5);have HD5:=XaI (HD1.out.go HE5.out.bel);have HN5:=XaI (HNA.out.go (Keep.below hb5));have hr:=HRES.out;rw[Rt HBB.out HQ.out (by rw[HND.out];exact HOK.out),HND.out]at hr;obtain⟨q,hqq⟩:∃q,NR nn=q:=⟨_,rfl⟩;rw[hqq]at hag5 hr⊢;have HQQ:=XaI hqq;clear hb5 hqq HEN;cases q with
    |false=>
     rw[Ad (by simp)]at hr;subst hr;rw[Ad (by simp)]at hag5⊢;clear hag5;go_upto_region 16 with fail;go_wp2_with (first|refine A4 rfl 92 _ _ rfl _ nz.cells.toArray rfl rfl 92 _ HD5.out.row (CJ rfl) (Cv rfl) (Am (NV.one _)) ?_);refine Ao (BP results142 _ _ w.heap.size nz rfl rfl (A9 _ _ _ _ _ _ HD5.out.row)) rfl ?_;exact⟨Below.setRow HD5.out.bel (Aa _) _,rfl⟩
    |true=>
     rw[Af rfl]at hag5⊢;have k1:=FI hag5.i;have k2:=FI (HAG.out.at HD5.out.bel).i;have HS:=XaI (Ni.str_beq hag5.b HBB.out);generalize strOfNums (NE nn)=s1 at k1 HS;generalize strOfNums b=s2 at k2 HS;clear hag5;by_cases heq:NE nn=b
     ·rw[Af ⟨rfl,heq⟩]at hr;subst hr;have hss:(!s1.toList==s2.toList)=false:=(by rw[HS.out,AU heq];rfl);clear heq;go_upto_region 17 with fail;go_wp2_with (first|refine CF rfl _ rfl (w1.heap.size+1) rfl ⟨1,a',m,c',y1.ba,y1.bn,y1.bc,rz,none,0,0⟩ HE5.out.nb ?_|refine A4 rfl 92 _ _ rfl _ (NV.cells ⟨1,a',m,c',y1.ba,y1.bn,y1.bc,rz,none,0,0⟩).toArray rfl rfl 92 _ HD5.out.row (CJ HXL.out) (Cv HXL.out) (Am (NV.one _)) ?_);refine Ao (BP results142 _ _ w.heap.size ⟨1,a',m,c',y1.ba,y1.bn,y1.bc,rz,none,0,0⟩ HXL.out rfl (A9 _ _ _ _ _ _ HD5.out.row)) rfl ?_;exact⟨Below.setRow HD5.out.bel (Aa _) _,⟨1,a',m,c',y1.ba,y1.bn,y1.bc,rz,none,0,0⟩,rfl,HN5.out.go λk hK hk=>⟨AW _ _ _ _ (by omega),E4 hK⟩⟩
     ·rw[Ad (λh=>heq h.2)]at hr;subst hr;have hss:(!s1.toList==s2.toList)=true:=(by rw[HS.out,AT heq];rfl);clear heq;go_upto_region 16 with fail;go_wp2_with (first|refine A4 rfl 92 _ _ rfl _ nz.cells.toArray rfl rfl 92 _ HD5.out.row (CJ rfl) (Cv rfl) (Am (NV.one _)) ?_);refine Ao (BP results142 _ _ w.heap.size nz rfl rfl (A9 _ _ _ _ _ _ HD5.out.row)) rfl ?_;exact⟨Below.setRow HD5.out.bel (Aa _) _,rfl⟩
  ·by_cases h17:y.m=17
   ·have hl17:its.length=17:=(by rw[<-HM.out,h17]);have c2:=HB2.out.c2;rw[h17]at c2;obtain⟨g,off,y1,A1⟩:=DF HALL.out 16 (its.getD 16 t0) (by rw[List.getD,Ac (by omega)];rfl);rw[A1.ha]at c2;have HIA:=XaI A1.ha;have HA1:=XaI A1;have HND:=XaI (show ddNode t=⟨3,[],(its.getD 16 t0).bs,r0,(its.take 16).map drefP⟩from by unfold ddNode;rw[HITS.out,Ad (by omega)]);generalize its.getD 16 t0=tt1 at HA1 HND;have H17:=XaI h17;have HL17:=XaI hl17;clear hl17 A1 h17 h2 hmc;go_upto_region 4 with fail;rename_i KK hkk;refine CZ<|Bu 33 (.pointer (some ⟨w1.heap.size,2,none⟩)) rfl (by kernel_rfl) (by kernel_rfl)<|Bu 34 (.slice (some ⟨g,off,none⟩) 17 y.ic) rfl (by kernel_rfl) (CT rfl (by kernel_rfl) c2)<|Bu 35 (.pointer (some ⟨w1.heap.size,2,none⟩)) rfl (by kernel_rfl) (by kernel_rfl)<|Bu 36 (.slice (some ⟨g,off,none⟩) 17 y.ic) rfl (by kernel_rfl) (CT rfl (by kernel_rfl) c2)<|Bu 37 (.int .i64 17) rfl (by kernel_rfl) (by kernel_rfl)<|Bu 38 (.int .i64 16) rfl (by kernel_rfl) (by kernel_rfl)<|Bu 39 (.pointer (some ⟨g,off+(0+16)*3,none⟩)) rfl (by kernel_rfl) (ES (j:=0+16) (m:=17) (c:=y.ic) rfl (by kernel_rfl) (by kernel_rfl) (by omega))<|Bu 40 (.pointer (some ⟨g,off+(0+16)*3+1,none⟩)) rfl (by kernel_rfl) (by kernel_rfl)<|Bu 41 (.slice y1.ba y1.bn y1.bc) rfl (by kernel_rfl) (FN rfl (by kernel_rfl) (AM HBL.out HA1.out.c1))<|Bu 42 (.agg (NV.cells ⟨3,none,0,0,y1.ba,y1.bn,y1.bc,rz,none,0,0⟩).toArray) rfl (by kernel_rfl) (Ea 92 _ rfl [(0, .int .i64 3),(2, .slice y1.ba y1.bn y1.bc)] (by kernel_rfl) _ (N5 _ _ _))<|Om 6 (.pointer (some ⟨w1.heap.size+1,0,none⟩)) rfl (by kernel_rfl) ((Ip rfl).trans (by rw[HS2.out])) ?_;refine Fx rfl (by kernel_rfl) (Dv 92 _ _ rfl (w1.heap.size+1) (NV.cells ⟨3,none,0,0,y1.ba,y1.bn,y1.bc,rz,none,0,0⟩).toArray (by kernel_rfl) (by kernel_rfl) 92 nz.cells.toArray (by rw[<-HS2.out];exact Ai _ _) (CJ rfl) (Cv rfl) (Am (NV.one _)))<|hkk _ _ ?_
    go_frame
    refine gen_w (p:=λv=>Code.wp _ _ _ _ v) (q:=λv=>De w1 v y ⟨3,none,0,0,y1.ba,y1.bn,y1.bc,rz,none,0,0⟩) (by
     have e:=De.setRow (w1:=w1) (v:=v2.alloc (.cells nz.cells.toArray 92)) (y:=y) (x:=nz) ⟨HB2.out.alloc _,⟨by rw[<-HS2.out];exact Ai _ _,rfl⟩,below_go HBL.out (below_new _ _),by simp[HS2.out]⟩ ⟨3,none,0,0,y1.ba,y1.bn,y1.bc,rz,none,0,0⟩ rfl;exact e) ?_
    intro v4 D4;have HD4:=XaI D4;clear D4 hkk c2;have c2:=HD4.out.ib.c2;rw[HIA.out,H17.out]at c2;go_wp2_with fail
    go_loopw [10] (λs10 u=>∃(j:Nat)(ka:Option Addr)(kn kc:Nat),j<=16/\s10= .int .i64 j/\De w1 u y ⟨3,none,0,0,y1.ba,y1.bn,y1.bc,rz,ka,kn,kc⟩/\SoR (w1.heap.size+2) u (.slice ka kn kc) ((its.take j).map drefP)) (λs10 _=>16-(intOf s10).toNat)
    case atStart=>exact⟨0,none,0,0,by omega,rfl,HD4.out,SV _ _⟩
    case round=>
     obtain⟨j,ka,kn,kc,hj,rfl,hE,hSO⟩:=hrel;have HE:=XaI hE;have HSO:=XaI hSO;clear hE hSO HD4 c2;by_cases hlt:j<16
     ·have hji:(j:Int)<16:=(by omega);obtain⟨tj,htj⟩:∃tj,its[j]?=some tj:=⟨_,Ac (by rw[HL17.out];omega)⟩;obtain⟨g',off',yj,AJ⟩:=DF HALL.out j tj htj;have ha:=AJ.ha;rw[HIA.out]at ha;cases ha;rw[AD]at AJ;have HAJ:=XaI AJ;clear AJ;have HTJ:=XaI htj;clear htj;go_upto_region 13 with fail;rename_i KK hkk;refine BV (S:=λv'=>B1 w1.heap.size v' y/\Below w1.heap.size w1 v') (by kernel_rfl) ⟨⟨HE.out.ib.c0,HE.out.ib.c1,HE.out.ib.c2⟩,HE.out.bel.drew⟩ (λhS=>?_);have hE0:=HE.out.drew;have hxia:∀v',B1 w1.heap.size v' y->v'.cell? ⟨w1.heap.size,2,none⟩=some (.slice (some ⟨g,off,none⟩) 17 y.ic):=λv' hv=>by have:=hv.c2;rwa [HIA.out,H17.out]at this
      refine Bh 0 76 (.pointer (some ⟨w1.heap.size+1,37,none⟩)) rfl rfl (by kernel_rfl) (by kernel_rfl) (by kernel_rfl) (λ_ _ _ h=>h) (by kernel_rfl) (λv _=>by kernel_rfl) hS<|Bh 2 78 (.pointer (some ⟨w1.heap.size,2,none⟩)) rfl rfl (by kernel_rfl) (by kernel_rfl) (by kernel_rfl) (λ_ _ _ h=>h) (by kernel_rfl) (λv _=>by kernel_rfl) hS<|Bh 3 79 (.slice (some ⟨g,off,none⟩) 17 y.ic) rfl rfl (by kernel_rfl) (by kernel_rfl) (by kernel_rfl) (λ_ _ _ h=>h) (by kernel_rfl) (λv' hv=>CT rfl (by kernel_rfl) (hxia v' hv.1)) hS<|Bh 4 80 (.int .i64 j) rfl rfl (by kernel_rfl) (by kernel_rfl) (by kernel_rfl) (λ_ _ _ h=>h) (by kernel_rfl) (λv _=>by kernel_rfl) hS<|Bh 5 81 (.pointer (some ⟨g,off+j*3,none⟩)) rfl rfl (by kernel_rfl) (by kernel_rfl) (by kernel_rfl) (λ_ _ _ h=>h) (by kernel_rfl) (λv' _=>ES (j:=j) (m:=17) (c:=y.ic) rfl (by kernel_rfl) (by kernel_rfl) (by omega)) hS<|Bh 6 82 (.agg #[.bool yj.l, .slice yj.ba yj.bn yj.bc, .slice yj.ia yj.m yj.ic]) rfl rfl (by kernel_rfl) (by kernel_rfl) (by kernel_rfl) (λ_ _ _ h=>h) (by kernel_rfl) (λv' hv=>GO rfl (by kernel_rfl) (AM hv.2 HAJ.out.c0) (AM hv.2 HAJ.out.c1) (AM hv.2 HAJ.out.c2)) hS<|AA (rs:=[1,7]) (by kernel_rfl) (by simp) ?_;refine CH 1 77 (.slice ka kn kc) rfl rfl (by kernel_rfl) (J9 rfl (by kernel_rfl) hE0.nb.c37) hS ?_ ?_
      ·refine AA (rs:=[7]) (by kernel_rfl) (by simp) ?_;refine Ek 7 83 rfl rfl (by kernel_rfl) 149 #[.agg #[.bool yj.l, .slice yj.ba yj.bn yj.bc, .slice yj.ia yj.m yj.ic]] (by kernel_rfl) (R:=λval w'=>Below wr.drew.heap.size wr.drew w'/\∃z:RV,val= .agg z.cells.toArray/\RefAt (λb=>wr.drew.heap.size<=b) w' z (drefP tj)) ((Mk tj yj wr.drew (Cg hS.2 _ _ (CX _ _ HAJ.out.li))).mono (λe w' h=>GG h)) (λval w' h=>⟨hS.1.go h.1,below_go hS.2 h.1⟩) ?_ A7;rintro val u1⟨hb1,z,rfl,hz⟩;have hS1:B1 w1.heap.size u1 y/\Below w1.heap.size w1 u1:=⟨hS.1.go hb1,below_go hS.2 hb1⟩;have hE1:=hE0.go hb1;obtain⟨v',w3,hrun,hso3,hb3⟩:=KV hE0.sz (HSO.out.all (Ak _ _).drew) hb1 hz (by rw[Ba,Ap];omega) 90;have hE2:De w1 (u1.alloc (.cells z.cells.toArray 62)) y ⟨3,none,0,0,y1.ba,y1.bn,y1.bc,rz,ka,kn,kc⟩:=hE1.go (below_new _ _);have hE3:=hE0.above hb3;obtain⟨ka',kc',hv',-⟩:=hso3.kids;obtain⟨kn',hkn⟩:∃kn',(((its.take j).map drefP)++[drefP tj]).length=kn':=⟨_,rfl⟩;rw[hkn]at hv';have hE4:=hE3.put ka' kn' kc';have hSO4:SoR (w1.heap.size+2) (w3.setCell ⟨w1.heap.size+1,37,none⟩ v') v' ((its.take (j+1)).map drefP):=(by rw[N6 HTJ.out];exact hso3.keep λb hb _=>A8 _ _ _ _ (by show b≠w1.heap.size+1;omega));subst hv';refine AA (rs:=[8]) (by kernel_rfl) (by simp) ?_;refine CH 8 84 (.slice (some ⟨u1.heap.size,0,none⟩) 1 1) rfl rfl (by kernel_rfl) (Kb rfl z hz.len (by kernel_rfl)) ⟨hE2.ib,hE2.bel⟩ ?_ A7;refine AA (rs:=[9]) (by kernel_rfl) (by simp) ?_;refine CH 9 85 (.slice ka' kn' kc') rfl rfl (by kernel_rfl) (Rs rfl (.slice ka kn kc) (.slice (some ⟨u1.heap.size,0,none⟩) 1 1) (by kernel_rfl) (by kernel_rfl) hrun) ⟨hE3.ib,hE3.bel⟩ ?_ A7;refine Bh 10 86 (.pointer (some ⟨w1.heap.size+1,37,none⟩)) rfl rfl (by kernel_rfl) (by kernel_rfl) (by kernel_rfl) (λ_ _ _ h=>h) (by kernel_rfl) (λv _=>by kernel_rfl) ⟨hE3.ib,hE3.bel⟩<|AA (rs:=[11]) (by kernel_rfl) (by simp) ?_;refine DE 11 rfl rfl (by kernel_rfl) (IN rfl (w1.heap.size+1) ka' kn' kc' _ (by kernel_rfl) (by kernel_rfl) hE3.nb.c37 hE3.nb.fz) ⟨hE4.ib,hE4.bel⟩ ?_ A7;refine Cj (by kernel_rfl) ?_ _;refine hkk _ _ ?_;have HE4:=XaI hE4;have HSO4:=XaI hSO4;clear hkn hE4 hSO4 hE3 hE2 hE1 hE0 hS hS1 hso3 hb3 hrun hz hb1 hkk
       go_frame
       go_wp2_with fail;exact⟨⟨j+1,ka',kn',kc',by omega,by simp,HE4.out,HSO4.out⟩,by simp[intOf];omega⟩
      refine Ek 7 83 rfl rfl (by kernel_rfl) 149 #[.agg #[.bool yj.l, .slice yj.ba yj.bn yj.bc, .slice yj.ia yj.m yj.ic]] (by kernel_rfl) (R:=λval w'=>Below wr.drew.heap.size wr.drew w'/\∃z:RV,val= .agg z.cells.toArray/\RefAt (λb=>wr.drew.heap.size<=b) w' z (drefP tj)) ((Mk tj yj wr.drew (Cg hS.2 _ _ (CX _ _ HAJ.out.li))).mono (λe w' h=>GG h)) (λval w' h=>⟨hS.1.go h.1,below_go hS.2 h.1⟩) ?_ A7;rintro val u1⟨hb1,z,rfl,hz⟩;have hS1:B1 w1.heap.size u1 y/\Below w1.heap.size w1 u1:=⟨hS.1.go hb1,below_go hS.2 hb1⟩;have hE1:=hE0.go hb1;obtain⟨v',w3,hrun,hso3,hb3⟩:=KV hE0.sz (HSO.out.all (Ak _ _).drew) hb1 hz (by rw[Ba,Ap];omega) 90;have hE2:De w1 (u1.alloc (.cells z.cells.toArray 62)) y ⟨3,none,0,0,y1.ba,y1.bn,y1.bc,rz,ka,kn,kc⟩:=hE1.go (below_new _ _);have hE3:=hE0.above hb3;obtain⟨ka',kc',hv',-⟩:=hso3.kids;obtain⟨kn',hkn⟩:∃kn',(((its.take j).map drefP)++[drefP tj]).length=kn':=⟨_,rfl⟩;rw[hkn]at hv';have hE4:=hE3.put ka' kn' kc';have hSO4:SoR (w1.heap.size+2) (w3.setCell ⟨w1.heap.size+1,37,none⟩ v') v' ((its.take (j+1)).map drefP):=(by rw[N6 HTJ.out];exact hso3.keep λb hb _=>A8 _ _ _ _ (by show b≠w1.heap.size+1;omega));subst hv';refine AA (rs:=[1,8]) (by kernel_rfl) (by simp) ?_;refine CH 1 77 (.slice ka kn kc) rfl rfl (by kernel_rfl) (J9 rfl (by kernel_rfl) hE1.nb.c37) hS1 ?_ ?_
      ·refine AA (rs:=[8]) (by kernel_rfl) (by simp) ?_;refine CH 8 84 (.slice (some ⟨u1.heap.size,0,none⟩) 1 1) rfl rfl (by kernel_rfl) (Kb rfl z hz.len (by kernel_rfl)) ⟨hE2.ib,hE2.bel⟩ ?_ A7;refine AA (rs:=[9]) (by kernel_rfl) (by simp) ?_;refine CH 9 85 (.slice ka' kn' kc') rfl rfl (by kernel_rfl) (Rs rfl (.slice ka kn kc) (.slice (some ⟨u1.heap.size,0,none⟩) 1 1) (by kernel_rfl) (by kernel_rfl) hrun) ⟨hE3.ib,hE3.bel⟩ ?_ A7;refine Bh 10 86 (.pointer (some ⟨w1.heap.size+1,37,none⟩)) rfl rfl (by kernel_rfl) (by kernel_rfl) (by kernel_rfl) (λ_ _ _ h=>h) (by kernel_rfl) (λv _=>by kernel_rfl) ⟨hE3.ib,hE3.bel⟩<|AA (rs:=[11]) (by kernel_rfl) (by simp) ?_;refine DE 11 rfl rfl (by kernel_rfl) (IN rfl (w1.heap.size+1) ka' kn' kc' _ (by kernel_rfl) (by kernel_rfl) hE3.nb.c37 hE3.nb.fz) ⟨hE4.ib,hE4.bel⟩ ?_ A7;refine Cj (by kernel_rfl) ?_ _;refine hkk _ _ ?_;have HE4:=XaI hE4;have HSO4:=XaI hSO4;clear hkn hE4 hSO4 hE3 hE2 hE1 hE0 hS hS1 hso3 hb3 hrun hz hb1 hkk
       go_frame
       go_wp2_with fail;exact⟨⟨j+1,ka',kn',kc',by omega,by simp,HE4.out,HSO4.out⟩,by simp[intOf];omega⟩
      refine CH 8 84 (.slice (some ⟨u1.heap.size,0,none⟩) 1 1) rfl rfl (by kernel_rfl) (Kb rfl z hz.len (by kernel_rfl)) ⟨hE2.ib,hE2.bel⟩ ?_ A7;refine AA (rs:=[1]) (by kernel_rfl) (by simp) ?_;refine CH 1 77 (.slice ka kn kc) rfl rfl (by kernel_rfl) (J9 rfl (by kernel_rfl) hE2.nb.c37) ⟨hE2.ib,hE2.bel⟩ ?_ A7;refine AA (rs:=[9]) (by kernel_rfl) (by simp) ?_;refine CH 9 85 (.slice ka' kn' kc') rfl rfl (by kernel_rfl) (Rs rfl (.slice ka kn kc) (.slice (some ⟨u1.heap.size,0,none⟩) 1 1) (by kernel_rfl) (by kernel_rfl) hrun) ⟨hE3.ib,hE3.bel⟩ ?_ A7;refine Bh 10 86 (.pointer (some ⟨w1.heap.size+1,37,none⟩)) rfl rfl (by kernel_rfl) (by kernel_rfl) (by kernel_rfl) (λ_ _ _ h=>h) (by kernel_rfl) (λv _=>by kernel_rfl) ⟨hE3.ib,hE3.bel⟩<|AA (rs:=[11]) (by kernel_rfl) (by simp) ?_;refine DE 11 rfl rfl (by kernel_rfl) (IN rfl (w1.heap.size+1) ka' kn' kc' _ (by kernel_rfl) (by kernel_rfl) hE3.nb.c37 hE3.nb.fz) ⟨hE4.ib,hE4.bel⟩ ?_ A7;refine Cj (by kernel_rfl) ?_ _;refine hkk _ _ ?_;have HE4:=XaI hE4;have HSO4:=XaI hSO4;clear hkn hE4 hSO4 hE3 hE2 hE1 hE0 hS hS1 hso3 hb3 hrun hz hb1 hkk
      go_frame
      go_wp2_with fail;exact⟨⟨j+1,ka',kn',kc',by omega,by simp,HE4.out,HSO4.out⟩,by simp[intOf];omega⟩
     ·have hji:¬(j:Int)<16:=(by omega);have hj16:j=16:=(by omega);subst hj16;obtain⟨ka',kc',hv',hk1,hk2,hk3,hk4⟩:=HSO.out.kids;have hkl:((its.take 16).map drefP).length=16:=(by rw[Ba,Ap,HL17.out];rfl);rw[hkl]at hv' hk1 hk3;cases hv';obtain⟨nn,hnn⟩:∃nn:PN,nn=⟨3,[],tt1.bs,r0,(its.take 16).map drefP⟩:=⟨_,rfl⟩;have hnd:=HND.out;rw[<-hnn]at hnd;clear HND;have HND:=XaI hnd;have HSW:=XaI HD1.out.sz;have hv1:AgK (OwnP (λb=>w.heap.size+1<=b) w1) w1 y1.ba y1.bn y1.bc tt1.bs:=by obtain⟨l,bs,its'⟩:=tt1;exact Il HA1.out.li
      have HNA:=XaI (show NodeAt (λg=>w.heap.size<g) wr ⟨3,none,0,0,y1.ba,y1.bn,y1.bc,rz,ka,16,kc⟩ nn from by
       subst hnn;exact⟨rfl,Fy _ _,hv1.go (λk hK hk=>⟨HE.out.bel.block k hk,by have:=hK.1;omega⟩),Fc _ _,⟨hkl.symm,hk1,hk2,(by show(16:Nat)<=_;omega),λh=>(by have:=(hk3 h).1;omega)⟩,hk4.go (λk hK hk=>⟨rfl,by have:=HSW.out;omega⟩)⟩)
      have HDE:=HE;have vT_:True:=trivial;clear hk1 hk2 hk3 hk4 hkl hnd hnn hv1 HE HSO;go_upto_region 14 with fail;have HEN:=XaI (GF _ ⟨3,none,0,0,y1.ba,y1.bn,y1.bc,rz,ka,16,kc⟩ nn wr HNA.out (λr hrr _=>HREC.out r.i (Ru HBB.out HQ.out (by rw[HITS.out,<-HM.out];first|exact .inl H2.out|exact .inr H17.out) r (by rw[HND.out];exact hrr))));have HOK:=XaI HNA.out.okN;have HXL:=XaI HNA.out.c.len;go_wp2_with (first|refine CF rfl _ rfl (w1.heap.size+1) rfl ⟨3,none,0,0,y1.ba,y1.bn,y1.bc,rz,ka,16,kc⟩ HDE.out.nb ?_);refine HEN.out.mono ?_;rintro e w5⟨⟨a5,m5,c5,rfl,hag5,-⟩,hb5⟩;have HE5:=XaI (HDE.out.go hb5);have HD5:=XaI (HD1.out.go HE5.out.bel);have HN5:=XaI (HNA.out.go (Keep.below hb5));have hr:=HRES.out;rw[Rt HBB.out HQ.out (by rw[HND.out];exact HOK.out),HND.out]at hr;obtain⟨q,hqq⟩:∃q,NR nn=q:=⟨_,rfl⟩;rw[hqq]at hag5 hr⊢;have HQQ:=XaI hqq;clear hb5 hqq HEN;cases q with
      |false=>
       rw[Ad (by simp)]at hr;subst hr;rw[Ad (by simp)]at hag5⊢;clear hag5;go_upto_region 16 with fail;go_wp2_with (first|refine A4 rfl 92 _ _ rfl _ nz.cells.toArray rfl rfl 92 _ HD5.out.row (CJ rfl) (Cv rfl) (Am (NV.one _)) ?_);refine Ao (BP results142 _ _ w.heap.size nz rfl rfl (A9 _ _ _ _ _ _ HD5.out.row)) rfl ?_;exact⟨Below.setRow HD5.out.bel (Aa _) _,rfl⟩
      |true=>
       rw[Af rfl]at hag5⊢;have k1:=FI hag5.i;have k2:=FI (HAG.out.at HD5.out.bel).i;have HS:=XaI (Ni.str_beq hag5.b HBB.out);generalize strOfNums (NE nn)=s1 at k1 HS;generalize strOfNums b=s2 at k2 HS;clear hag5;by_cases heq:NE nn=b
       ·rw[Af ⟨rfl,heq⟩]at hr;subst hr;have hss:(!s1.toList==s2.toList)=false:=(by rw[HS.out,AU heq];rfl);clear heq;go_upto_region 17 with fail;go_wp2_with (first|refine CF rfl _ rfl (w1.heap.size+1) rfl ⟨3,none,0,0,y1.ba,y1.bn,y1.bc,rz,ka,16,kc⟩ HE5.out.nb ?_|refine A4 rfl 92 _ _ rfl _ (NV.cells ⟨3,none,0,0,y1.ba,y1.bn,y1.bc,rz,ka,16,kc⟩).toArray rfl rfl 92 _ HD5.out.row (CJ HXL.out) (Cv HXL.out) (Am (NV.one _)) ?_);refine Ao (BP results142 _ _ w.heap.size ⟨3,none,0,0,y1.ba,y1.bn,y1.bc,rz,ka,16,kc⟩ HXL.out rfl (A9 _ _ _ _ _ _ HD5.out.row)) rfl ?_;exact⟨Below.setRow HD5.out.bel (Aa _) _,⟨3,none,0,0,y1.ba,y1.bn,y1.bc,rz,ka,16,kc⟩,rfl,HN5.out.go λk hK hk=>⟨AW _ _ _ _ (by omega),E4 hK⟩⟩
       ·rw[Ad (λh=>heq h.2)]at hr;subst hr;have hss:(!s1.toList==s2.toList)=true:=(by rw[HS.out,AT heq];rfl);clear heq;go_upto_region 16 with fail;go_wp2_with (first|refine A4 rfl 92 _ _ rfl _ nz.cells.toArray rfl rfl 92 _ HD5.out.row (CJ rfl) (Cv rfl) (Am (NV.one _)) ?_);refine Ao (BP results142 _ _ w.heap.size nz rfl rfl (A9 _ _ _ _ _ _ HD5.out.row)) rfl ?_;exact⟨Below.setRow HD5.out.bel (Aa _) _,rfl⟩
   ·have hr:=HRES.out;rw[Xas HBB.out HQ.out (by rw[HITS.out,<-HM.out];omega)]at hr;subst hr;have c2:=HB2.out.c2;have e2:((y.m:Int) !=2)=true:=(by rw[BL];omega);have e17:((y.m:Int) !=17)=true:=(by rw[BL];omega);have HD2:=XaI (HD1.out.go HBL.out);go_wp2_with (first|refine A4 rfl 92 _ _ rfl _ nz.cells.toArray rfl rfl 92 _ HD2.out.row (CJ rfl) (Cv rfl) (Am (NV.one _)) ?_);refine Ao (BP results142 _ _ w.heap.size nz rfl rfl (A9 _ _ _ _ _ _ HD2.out.row)) rfl ?_;exact⟨Below.setRow HD2.out.bel (Aa _) _,rfl⟩
theorem PY:∀(L:Nat)(b:List Int),b.length<=L->DDSaid b:=by
 intro L
 induction L using Nat.strongRecOn with
 |_ L ih=>
  intro b hL;exact OE b λi h1=>ih i.length (by omega) i (Aa _)
theorem K9(b:List Int):DDSaid b:=PY b.length b (Aa _)
theorem rright_any(K:Nat->Prop)(x:NV)(n:PN)(w:World)(h:NodeAt K w x n):Calls prog 104 #[.agg x.cells.toArray] w λe w'=>e= .returned (.bool (NR n))/\Below w.heap.size w w':=GY K x n w h λr _ _=>K9 r.i
theorem OF(K:Nat->Prop)(x:NV)(n:PN)(w:World)(h:NodeAt K w x n):Calls prog 73 #[.agg x.cells.toArray] w (EEPost w n):=GF K x n w h λr _ _=>K9 r.i
end Go.Proofs.YtalhnnjpjaeakaaGreat
