/- What the document's Key answers. -/
import Derived.Test.YtalhnnjpjaeakaaGreatAK
import Derived.Test.YtalhnnjpjaeakaaGreatG18
import Derived.Test.YtalhnnjpjaeakaaGreatG11
import Derived.Test.YtalhnnjpjaeakaaGreatG01
import Derived.Deep.RegionLaw
import Derived.Test.YtalhnnjpjaeakaaGreatG15
import Derived.Test.YtalhnnjpjaeakaaGreatG20
import Derived.Test.YtalhnnjpjaeakaaGreatG10
import Derived.Test.YtalhnnjpjaeakaaGreatG13
import Derived.Great.BuildSlice
import Derived.Great.FillDense
import Derived.Test.YtalhnnjpjaeakaaGreatG14
import Derived.Test.YtalhnnjpjaeakaaGreatG17
set_option linter.unusedVariables false
set_option maxRecDepth 100000
set_option maxHeartbeats 8000000
open Go.Proofs.Tryz Go.RowKit
namespace Go.Proofs.YtalhnnjpjaeakaaGreat.Ni
theorem WX{ops:Array Oper}{o:Oper}{a:Act}{w:World}{K:Act->World->Prop}{Q:Exit->Act->World->Prop}{E:Prop}(hgd:o.guard=none)(s x:Operand)
 (ho:o.op= .call {callee:= .builtin .append,args:=#[s,x],argTypes:=#[27,27]}) (base:Nat) (v:Value) (bs:List Int) (hs:a.eval s=v) (hown:OwnB w base v bs)
 (ad:Addr) (m c:Nat) (news:List Int) (hx:a.eval x= .slice (some ad) m c) (hl:news.length=m) (hnews:∀j u,(news.map (Value.int .u8))[j]?=some u->w.cell? (ad.add j)=some u)
 (hbytes:bs.length+m<=140737488355328) (hbase:base<=w.heap.size)
 (h:∀v' w',OwnB w' base v' (bs++news)->Below base w w'->K (a.put o.dst v') w'):if Region.wanted o (yielded ops a.tmps)=true then Oper.wp prog o a w K Q else E:=by
 have hw:Region.wanted o (yielded ops a.tmps)=true:=by simp[Region.wanted,hgd]
 rw[Af hw];obtain⟨i,hi,hz,hsz,hby⟩:=info5;refine wp_append_own w s x 27 ho base 5 i (.int .u8 0) 1 1 underlying27 hi hz hsz hby rfl (by decide) v bs.length (bs.map (Value.int .u8)) hs hown ad m c (news.map (Value.int .u8)) hx (by simpa using hl) hnews (B8_one2 _) (by unfold maxLen;omega) (by omega) hbase ?_;intro v' w' h1 h2 h3;refine h v' w' ?_ ((Ak _ _).grown h2 hbase hown.lt);unfold OwnB;rw[Ab,hl,BA];exact h1
theorem _root_.Go.Proofs.YtalhnnjpjaeakaaGreat.OwnB.drew{w:World}{base:Nat}{v:Value}{bs:List Int}(h:OwnB w base v bs):OwnB w.drew base v bs:=h.far λi _ _=>rfl
theorem WY(a:Option Addr)(n c:Nat)(p:List Int)(w:World)(h:Ag w a n c p)(hn:n<=140737488355328):
 Calls prog 48 #[.slice a n c] w λe w'=>(∃a' m' c',e= .returned (.tuple #[.slice a' m' c', .bool (keyP p).2])/\Ag w' a' m' c' (keyP p).1/\∀g off,a'=some ⟨g,off,none⟩->0<m'->w.heap.size<=g)/\Below w.heap.size w w':=by
 have hl:=h.l;have hr:=rright_any a n c p w h hn;by_cases hrt:rightP p=true
 case neg=>
  rw[G3 (λhh=>hrt hh.1)];simp only;rw[show rightP p=false from by simpa using hrt]at hr;clear h hl hrt;go_enter func48,ntmps48;go_wp2_with fail;refine hr.mono ?_;rintro e w1⟨rfl,rfl⟩;clear hr;go_wp2_with fail;go_ret2;exact⟨⟨none,0,0,rfl,ag_nil _,λ_ _ e=>by cases e⟩,Ak _ _⟩
 rw[hrt]at hr;by_cases he:n%2=0
 case neg=>
  rw[G3 (λhh=>he (by rw[<-hl];exact hh.2))];simp only;have hei:(n:Int)%2=1:=by omega
  clear h hl he;go_enter func48,ntmps48;go_wp2_with fail;refine hr.mono ?_;rintro e w1⟨rfl,rfl⟩;clear hr;go_wp2_with fail;go_ret2;exact⟨⟨none,0,0,rfl,ag_nil _,λ_ _ e=>by cases e⟩,Ak _ _⟩
 rw[GL hrt (by omega)];simp only;obtain⟨m,hm⟩:∃m,n/2=m:=⟨_,rfl⟩;have HM:Hid (n=2*m):=Xba (by omega);have HKL:Hid ((kk p).length=m):=Xba (by rw[Ln];omega);have HKB:=Xba (NQ p h.b hrt);have HL:=Xba hl;have HB:=Xba h.b;have HRT:=Xba hrt;have HC:=Xba (λh0=>ag_head h h0);have hm3:(n:Int)%2=0:=by omega
 clear h hl hrt hm he;go_enter func48,ntmps48;go_wp2_with fail;refine hr.mono ?_;rintro e w1⟨rfl,rfl⟩;clear hr;go_wp2_with fail;clear hm3
 go_loopw [4,5] (λq i v=>∃j k:Nat,j=2*k/\j<=n/\i= .int .i64 j/\OwnB v w1.heap.size q ((kk p).take k)/\Below w1.heap.size w1 v) (λ_ i _=>n-(intOf i).toNat)
 case atStart=>exact⟨0,0,rfl,by omega,rfl,ownB_nil _ _,Ak _ _⟩
 case round=>
  obtain⟨j,k,hjk,hjn,rfl,hown,hb⟩:=hrel;have HJ:=Xba hjk;by_cases hlt:j<n
  ·have hki:((j:Int)+1)<n:=(by have:=HM.out;omega);have hki0:(j:Int)<n:=(by omega);have hget:=NP p k (by have:=HL.out;have:=HM.out;omega);have hts:=take_snoc (b:=kk p) (i:=k) (by have:=HKL.out;have:=HM.out;omega);rw[hget]at hts;obtain⟨g,off,rfl,hnc,hcm,hcs⟩:=HC.out (by omega);unfold maxLen at hcm;have hc1:=(hb.cell (p:=⟨g,off+(2*k),none⟩) (Aj (hcs (2*k) (by omega)))).trans (hcs (2*k) (by omega));have hc2:=(hb.cell (p:=⟨g,off+(2*k+1),none⟩) (Aj (hcs (2*k+1) (by omega)))).trans (hcs (2*k+1) (by omega));have hx0:=(HB.out _ (getD_mem (l:=p) (i:=2*k) (by have:=HL.out;omega))).1;have hy0:=(HB.out _ (getD_mem (l:=p) (i:=2*k+1) (by have:=HL.out;omega))).1;have hx1:=Gk HRT.out (i:=2*k) (by have:=HL.out;omega);have hy1:=Gk HRT.out (i:=2*k+1) (by have:=HL.out;omega);generalize p.getD (2*k) 0=x at*;generalize p.getD (2*k+1) 0=y at*;rw[<-hjk]at hc1 hc2;have ht2:((j:Int)+1).toNat=j+1:=(by omega);have ht3:(0:Int)<=(j:Int)+1:=(by omega);have hw1:IntKind.i64.wrap ((j:Int)+1)=(j:Int)+1:=(by rw[IntKind.wrap_i64];omega);have hw2:IntKind.u8.wrap (16*x)=16*x:=(by rw[IntKind.wrap_u8];omega);have hw3:IntKind.u8.wrap (16*x+y)=16*x+y:=(by rw[IntKind.wrap_u8];omega);have HTS:=Xba hts;have HTL:Hid (((kk p).take k).length=k):=Xba (by rw[Ao,HKL.out];have:=HM.out;omega);have HO2:Hid (∀o:Obj,OwnB (wr.drew.alloc o) w1.heap.size u4 ((kk p).take k)):=Xba λo=>OwnB.alloc hown.drew o;have HBB:=Xba hb;have HSZ:=Xba hb.size;clear hts hown hb hget hcs hjk;go_wp2_with fail
   go_region_law (refine WX rfl (.tmp 22) (.tmp 34) rfl w1.heap.size _ ((kk p).take k) rfl (HO2.out _) ⟨wr.heap.size,0,none⟩ 1 1 [16*x+y] rfl rfl (one_new wr.drew _) (by have:=HTL.out;have:=HJ.out;omega) (by have:=HSZ.out;simp;omega) ?_;intro v1 w2 o1 hb1;rw[<-HTS.out]at o1;have HO3:=Xba o1;have HB3:=Xba hb1;clear o1 hb1)
   all_goals
    go_wp2_with fail;refine⟨⟨j+2,k+1,by have:=HJ.out;omega,by omega,by simp,HO3.out,?_⟩,by simp[intOf];omega⟩;exact(HBB.out.drew.alloc HSZ.out _).trans HB3.out
  ·have hki:¬((j:Int)+1)<n:=(by omega);have e:k=m:=(by have:=HM.out;omega);subst e;rw[A5 (by rw[HKL.out];exact Aa _)]at hown;obtain⟨a',c',rfl,hag⟩:=OwnB.ag hown HKB.out
   have HN:Hid (∀g off,a'=some ⟨g,off,none⟩->0<k->w1.heap.size<=g):=Xba (by
    rcases hown.2 with⟨e,_⟩|⟨g',cap',cur,e,hg',_⟩
    ·injection e with e1;rw[e1];intro _ _ q;cases q
    ·injection e with e1;rw[e1];intro _ _ q;cases q;exact λ_=>hg')
   have HA:=Xba hag;have HBB:=Xba hb;clear hown hag hb hjk;go_wp2_with fail;go_ret2;exact⟨⟨a',_,c',rfl,HA.out,λg off e h0=>HN.out g off e (by have:=HA.out.l;have:=HKL.out;omega)⟩,HBB.out⟩
theorem JD(a:Option Addr)(n c:Nat)(p:List Int)(w:World)(h:Ag w a n c p)(hn:n<=140737488355328):
 Calls prog 48 #[.slice a n c] w λe w'=>(∃a' m' c',e= .returned (.tuple #[.slice a' m' c', .bool (keyP p).2])/\Ag w' a' m' c' (keyP p).1)/\Below w.heap.size w w':=
 (WY a n c p w h hn).mono λe w' hq=>by obtain⟨⟨a',m',c',h1,h2,_⟩,h3⟩:=hq;exact⟨⟨a',m',c',h1,h2⟩,h3⟩
end Go.Proofs.YtalhnnjpjaeakaaGreat.Ni
namespace Go.Proofs.YtalhnnjpjaeakaaGreat.Ni
theorem Xa9(n:Nat)(leaf:Bool):hdP n leaf=if n%2=0 then[if leaf then 2 else 0]++[0]else[if leaf then 3 else 1]:=by
 unfold hdP;cases leaf<;>rfl
theorem rpack_any(a:Option Addr)(n c:Nat)(p:List Int)(leaf:Bool)(w:World)(h:Ag w a n c p)(hn:n+2<=140737488355328):
 Calls prog 106 #[.slice a n c, .bool leaf] w λe w'=>(∃a' m c',e= .returned (.tuple #[.slice a' m c', .int .i64 ((packP p leaf).2:Nat)])/\Ag w' a' m c' (packP p leaf).1)/\Below w.heap.size w w':=by
 have hl:=h.l;have hr:=rright_any a n c p w h (by omega);by_cases hrt:rightP p=true
 case neg=>
  rw[Vc hrt];simp only;rw[show rightP p=false from by simpa using hrt]at hr;clear h hl hrt;go_enter func106,ntmps106;go_wp2_with fail;refine hr.mono ?_;rintro e w1⟨rfl,rfl⟩;clear hr;go_wp2_with fail;go_ret2;exact⟨⟨none,0,0,rfl,ag_nil _⟩,Ak _ _⟩
 rw[packP_yes hrt];simp only;rw[hrt]at hr;have hpk:=OY (p:=p) (leaf:=leaf);rw[Af hrt]at hpk;have hfb:=Lp (p:=p) (leaf:=leaf) h.b;rw[hl]at hpk hfb⊢;have hho:=Xa9 n leaf;have hhl:=hd_len n leaf;have HHL:Hid ((hdP n leaf).length<=2):=Xba (by omega);have HPK:=Xba hpk;have HFB:=Xba hfb;have HAG:=Xba h;have HL:=Xba hl;have HR:=Xba hr;generalize hdP n leaf=hd at*;clear hpk hfb h hl hr hrt hhl;by_cases he:n%2=0
 ·rw[Af he]at hho;have hei:(n:Int)%2=0:=by omega
  have HHO:=Xba hho;clear hho he;cases leaf with
  |true=>
   simp only[if_true]at HHO;go_enter func106,ntmps106;go_wp2_with fail;refine HR.out.mono ?_;rintro e w1⟨rfl,rfl⟩;clear HR
   go_wp2_with (first
    |(at_builtin;refine DB rfl (.tmp 26) (.tmp 27) rfl w1.heap.size _ [2] rfl (OwnB.alloc (Gz w1 _) _) (some ⟨w1.heap.size+1,0,none⟩) 1 1 [0] rfl (by have:=in0_one (w1.alloc (.cells #[.int .u8 2] 5)) 0;simpa using this) (λh=>by cases h) rfl (by show 1+1<=140737488355328;omega) (by simp;omega) ?_;intro v1 w2 o1 hb1;rw[<-HHO.out]at o1;have HO1:=Xba o1;have HB1:=Xba ((((Ak w1.heap.size w1).alloc (Aa _) _).alloc (by simp) _).trans hb1);clear o1 hb1)
    |(at_builtin;refine DB rfl (.tmp 29) (.tmp 30) rfl w1.heap.size _ hd rfl HO1.out a n c p rfl (HAG.out.at HB1.out).i HAG.out.nil HAG.out.l (by have:=HHL.out;omega) HB1.out.size ?_;intro v2 w3 o2 hb2;obtain⟨a2,c2,rfl,hag2⟩:=OwnB.ag o2 HFB.out;have HB2:=Xba (HB1.out.trans hb2);have HA2:=Xba hag2;clear o2 hb2 hag2;generalize hgl:(hd++p).length=len2 at HA2⊢;have HGL:=Xba hgl;clear hgl))
   have hk:=JD a2 len2 c2 (hd++p) _ HA2.out (by have h1:=HGL.out;rw[Ab,HL.out]at h1;have:=HHL.out;omega);rw[HPK.out]at hk;simp only at hk;have HK:=Xba hk;clear hk;refine HK.out.mono ?_;rintro e w9⟨⟨a3,m3,c3,rfl,hag3⟩,hb3⟩;have HA3:=Xba hag3;have HB3:=Xba (HB2.out.trans (hb3.mono HB2.out.size));clear hag3 hb3;go_wp2_with fail;go_ret2;exact⟨⟨a3,m3,c3,rfl,HA3.out⟩,HB3.out⟩
  |false=>
   simp only[BT,DQ]at HHO;go_enter func106,ntmps106;go_wp2_with fail;refine HR.out.mono ?_;rintro e w1⟨rfl,rfl⟩;clear HR
   go_wp2_with (first
    |(at_builtin;refine DB rfl (.tmp 26) (.tmp 27) rfl w1.heap.size _ [0] rfl (OwnB.alloc (Gz w1 _) _) (some ⟨w1.heap.size+1,0,none⟩) 1 1 [0] rfl (by have:=in0_one (w1.alloc (.cells #[.int .u8 0] 5)) 0;simpa using this) (λh=>by cases h) rfl (by show 1+1<=140737488355328;omega) (by simp;omega) ?_;intro v1 w2 o1 hb1;rw[<-HHO.out]at o1;have HO1:=Xba o1;have HB1:=Xba ((((Ak w1.heap.size w1).alloc (Aa _) _).alloc (by simp) _).trans hb1);clear o1 hb1)
    |(at_builtin;refine DB rfl (.tmp 29) (.tmp 30) rfl w1.heap.size _ hd rfl HO1.out a n c p rfl (HAG.out.at HB1.out).i HAG.out.nil HAG.out.l (by have:=HHL.out;omega) HB1.out.size ?_;intro v2 w3 o2 hb2;obtain⟨a2,c2,rfl,hag2⟩:=OwnB.ag o2 HFB.out;have HB2:=Xba (HB1.out.trans hb2);have HA2:=Xba hag2;clear o2 hb2 hag2;generalize hgl:(hd++p).length=len2 at HA2⊢;have HGL:=Xba hgl;clear hgl))
   have hk:=JD a2 len2 c2 (hd++p) _ HA2.out (by have h1:=HGL.out;rw[Ab,HL.out]at h1;have:=HHL.out;omega);rw[HPK.out]at hk;simp only at hk;have HK:=Xba hk;clear hk;refine HK.out.mono ?_;rintro e w9⟨⟨a3,m3,c3,rfl,hag3⟩,hb3⟩;have HA3:=Xba hag3;have HB3:=Xba (HB2.out.trans (hb3.mono HB2.out.size));clear hag3 hb3;go_wp2_with fail;go_ret2;exact⟨⟨a3,m3,c3,rfl,HA3.out⟩,HB3.out⟩
 ·rw[Ad he]at hho;have hei:(n:Int)%2=1:=by omega
  have HHO:=Xba hho;clear hho he;cases leaf with
  |true=>
   simp only[if_true]at HHO;go_enter func106,ntmps106;go_wp2_with fail;refine HR.out.mono ?_;rintro e w1⟨rfl,rfl⟩;clear HR;have HO1:Hid (OwnB (w1.alloc (.cells #[.int .u8 3] 5)) w1.heap.size (.slice (some ⟨w1.heap.size,0,none⟩) 1 1) hd):=Xba (by rw[HHO.out];exact Gz w1 _);have HB1:Hid (Below w1.heap.size w1 (w1.alloc (.cells #[.int .u8 3] 5))):=Xba (below_new _ _)
   go_wp2_with (first
    |(at_builtin;refine DB rfl (.tmp 29) (.tmp 30) rfl w1.heap.size _ hd rfl HO1.out a n c p rfl (HAG.out.at HB1.out).i HAG.out.nil HAG.out.l (by have:=HHL.out;omega) HB1.out.size ?_;intro v2 w3 o2 hb2;obtain⟨a2,c2,rfl,hag2⟩:=OwnB.ag o2 HFB.out;have HB2:=Xba (HB1.out.trans hb2);have HA2:=Xba hag2;clear o2 hb2 hag2;generalize hgl:(hd++p).length=len2 at HA2⊢;have HGL:=Xba hgl;clear hgl))
   have hk:=JD a2 len2 c2 (hd++p) _ HA2.out (by have h1:=HGL.out;rw[Ab,HL.out]at h1;have:=HHL.out;omega);rw[HPK.out]at hk;simp only at hk;have HK:=Xba hk;clear hk;refine HK.out.mono ?_;rintro e w9⟨⟨a3,m3,c3,rfl,hag3⟩,hb3⟩;have HA3:=Xba hag3;have HB3:=Xba (HB2.out.trans (hb3.mono HB2.out.size));clear hag3 hb3;go_wp2_with fail;go_ret2;exact⟨⟨a3,m3,c3,rfl,HA3.out⟩,HB3.out⟩
  |false=>
   simp only[BT,DQ]at HHO;go_enter func106,ntmps106;go_wp2_with fail;refine HR.out.mono ?_;rintro e w1⟨rfl,rfl⟩;clear HR;have HO1:Hid (OwnB (w1.alloc (.cells #[.int .u8 1] 5)) w1.heap.size (.slice (some ⟨w1.heap.size,0,none⟩) 1 1) hd):=Xba (by rw[HHO.out];exact Gz w1 _);have HB1:Hid (Below w1.heap.size w1 (w1.alloc (.cells #[.int .u8 1] 5))):=Xba (below_new _ _)
   go_wp2_with (first
    |(at_builtin;refine DB rfl (.tmp 29) (.tmp 30) rfl w1.heap.size _ hd rfl HO1.out a n c p rfl (HAG.out.at HB1.out).i HAG.out.nil HAG.out.l (by have:=HHL.out;omega) HB1.out.size ?_;intro v2 w3 o2 hb2;obtain⟨a2,c2,rfl,hag2⟩:=OwnB.ag o2 HFB.out;have HB2:=Xba (HB1.out.trans hb2);have HA2:=Xba hag2;clear o2 hb2 hag2;generalize hgl:(hd++p).length=len2 at HA2⊢;have HGL:=Xba hgl;clear hgl))
   have hk:=JD a2 len2 c2 (hd++p) _ HA2.out (by have h1:=HGL.out;rw[Ab,HL.out]at h1;have:=HHL.out;omega);rw[HPK.out]at hk;simp only at hk;have HK:=Xba hk;clear hk;refine HK.out.mono ?_;rintro e w9⟨⟨a3,m3,c3,rfl,hag3⟩,hb3⟩;have HA3:=Xba hag3;have HB3:=Xba (HB2.out.trans (hb3.mono HB2.out.size));clear hag3 hb3;go_wp2_with fail;go_ret2;exact⟨⟨a3,m3,c3,rfl,HA3.out⟩,HB3.out⟩
end Go.Proofs.YtalhnnjpjaeakaaGreat.Ni
namespace Go.Proofs.YtalhnnjpjaeakaaGreat
variable {base gI m c : Nat} {w1 w u : World} {y : V} {x : NV} {a : Option Addr} {pk : List Int}
theorem round_any{wr:World}{it:Value}{ys:List V}(hz:base<=wr.heap.size)(hown:OwnI wr base it ys)(hb1:Below wr.heap.size wr w1)(hlen:ys.length<=1000000000)(ty:TypeId):
 ∃v' w3,(Builtin.append_ #[108,108] ty #[it, .slice (some ⟨w1.heap.size,0,none⟩) 1 1]).run prog (w1.alloc (.cells #[.bool y.l, .slice y.ba y.bn y.bc, .slice y.ia y.m y.ic] 110))= .ok v' w3/\
  OwnI w3 base v' (ys++[y])/\Below base wr w3/\(∀b,wr.heap.size<=b->b<w1.heap.size->w3.heap[b]?=w1.heap[b]?):=by
 obtain⟨Y,hY⟩:∃Y:Obj,Obj.cells #[.bool y.l, .slice y.ba y.bn y.bc, .slice y.ia y.m y.ic] 110=Y:=⟨_,rfl⟩;rw[hY];have hs2:(w1.alloc Y).heap.size=w1.heap.size+1:=by simp
 have hb2:Below wr.heap.size wr (w1.alloc Y):=hb1.alloc hb1.size _;have hz1:=hb1.size;have hblk:(w1.alloc Y).heap[w1.heap.size]?=some Y:=Ai w1 Y;have hnews:∀j u,(V.cells y)[j]?=some u->(w1.alloc Y).cell? ((⟨w1.heap.size,0,none⟩:Addr).add j)=some u:=by
  intro j u hu;rw[BM,AD];rw[<-hY]at hblk⊢;rw[Ae _ _ _ _ _ _ hblk];simpa[V.cells]using hu
 obtain⟨v',w3,hrun,hown3,hgr,hown4⟩:=Jg (DZ hown λg _ hg=>hb2.block g hg) y _ 1 hnews (by omega) hlen ty;have hfar:∀b,b<w1.heap.size+1->it.ownBlock≠some b->w3.heap[b]?=(w1.alloc Y).heap[b]?:=λb hb hne=>hgr.block b (by rw[hs2];exact hb) (λh=>hne h.symm);refine⟨v',w3,hrun,hown3,⟨hgr.os.trans hb2.os,hgr.tape.trans hb2.tape,hgr.output.trans hb2.output,Al hb2.size hgr.size,λb hb=>?_⟩,λb h1 h2=>?_⟩
 ·rw[hfar b (by omega) (λh=>by have:=(EX hown h).1;omega)];exact hb2.block b (by omega)
 ·rw[hfar b (by omega) (λh=>by have:=(EX hown h).2;omega),Au _ _ _ h2]
def Pkd(gI base:Nat)(u:World)(a:Option Addr)(m c:Nat)(pk:List Int):Prop:=AgK (λg=>g<base/\g≠gI) u a m c pk
theorem Xah{v:World}{it:Value}(h:En w v x gI it)(hl:∃ia m ic,it= .slice ia m ic)(ha:Ag v a m c pk)(hm:m<=140737488351232):Pkd gI v.heap.size v a m c pk:=by
 refine⟨ha,hm,λg off e h0=>?_⟩;obtain⟨g',off',e',_,_,hc⟩:=ag_head ha h0;rw[e]at e';cases e';have hc0:=hc 0 h0;refine⟨Aj hc0,λhg=>?_⟩;subst hg;rw[Ae _ _ _ _ _ _ h.row]at hc0;obtain⟨ia,m',ic,rfl⟩:=hl
 match off,hc0 with
 |0,h=>simp at h
 |1,h=>simp at h
 |2,h=>simp at h
 |k+3,h=>simp at h
theorem Pkd.lies(h:Pkd gI base u a m c pk):Lies u (.mk false pk []) ⟨false,a,m,c,none,0,0⟩:=
 lies_eq.2 ⟨rfl,h.1,rfl,Aa _,Ay _,⟨h.2.1,Ay _⟩,Dw⟩
theorem Pkd.go{u':World}(h:Pkd gI base u a m c pk)(hb:Below base u u')(it:Value):Pkd gI base (u'.setCell ⟨gI,2,none⟩ it) a m c pk:=
 AgK.go (λg hK hg=>⟨(A8 _ _ _ _ hK.2).trans (hb.block g hK.1),hK⟩) h
theorem Ms{wP:World}(hE:En w wP x gI (.slice none 0 0))(ha:Ag wP a m c pk)(hm:m<=140737488351232)(ty:TypeId):
 ∃v' w3,(Builtin.append_ #[108,108] ty #[.slice none 0 0, .slice (some ⟨wP.heap.size,0,none⟩) 1 1]).run prog (wP.alloc (.cells #[.bool false, .slice a m c, .slice none 0 0] 110))= .ok v' w3/\
  Below (gI+1) wP w3/\(∃ia m ic,v'= .slice ia m ic)/\wP.heap.size<=(w3.setCell ⟨gI,2,none⟩ v').heap.size/\OwnI (w3.setCell ⟨gI,2,none⟩ v') wP.heap.size v' [⟨false,a,m,c,none,0,0⟩]/\Pkd gI wP.heap.size (w3.setCell ⟨gI,2,none⟩ v') a m c pk:=by
 obtain⟨v',w3,h1,h2,h3,_⟩:=round_any (y:=⟨false,a,m,c,none,0,0⟩) (it:= .slice none 0 0) (ys:=[]) (Aa wP.heap.size) (Dn _ _ _ _) (Ak _ _) (by simp) ty;have hgz:=hE.sz;refine⟨v',w3,h1,⟨h3.os,h3.tape,h3.output,h3.size,λk hk=>h3.block k (by omega)⟩,?_,by simpa using h3.size,DZ h2 λg hg _=>A8 _ _ _ _ (by have:=(EX h2 hg).1;show g≠gI;omega),(Xah hE ⟨_,_,_,rfl⟩ ha hm).go h3 v'⟩;rcases h2.2 with⟨e,_⟩|⟨g,cap,cur,e,_⟩
 ·exact⟨_,_,_,e⟩
 ·exact⟨_,_,_,e⟩
theorem Kg{it:Value}(hE:En w u x gI it)(hgb:gI+1<=base)(hz:base<=u.heap.size)(hown:OwnI u base it [⟨false,a,m,c,none,0,0⟩])(hp:Pkd gI base u a m c pk)(hb1:Below u.heap.size u w1){t:T}
 (hy:∀w4,Below w.heap.size w w4->(∀b,u.heap.size<=b->b<w1.heap.size->w4.heap[b]?=w1.heap[b]?)->Lies w4 t y) (ty:TypeId):
 ∃v' w3,(Builtin.append_ #[108,108] ty #[it, .slice (some ⟨w1.heap.size,0,none⟩) 1 1]).run prog (w1.alloc (.cells #[.bool y.l, .slice y.ba y.bn y.bc, .slice y.ia y.m y.ic] 110))= .ok v' w3/\Below (gI+1) u w3/\Full gI w (w3.setCell ⟨gI,2,none⟩ v') v' [.mk false pk [],t]:=by
 obtain⟨v',w3,h1,h2,h3,h4⟩:=round_any (y:=y) hz hown hb1 (by simp) ty;have hB:Below (gI+1) u w3:=⟨h3.os,h3.tape,h3.output,h3.size,λk hk=>h3.block k (by omega)⟩;have hE3:=(hE.go hB).put v';refine⟨v',w3,h1,hB,Kd (base:=base) (DZ h2 λg hg _=>A8 _ _ _ _ (by have:=(EX h2 hg).1;show g≠gI;omega)) ⟨(hp.go h3 v').lies,hy _ hE3.bel λb hb hlt=>?_,trivial⟩⟩;exact(A8 _ _ _ _ (by show b≠gI;omega)).trans (h4 b hb hlt)
end Go.Proofs.YtalhnnjpjaeakaaGreat
namespace Go.Proofs.YtalhnnjpjaeakaaGreat
open Ni (packP)
theorem Pkd.drew{gI base:Nat}{u:World}{a:Option Addr}{m c:Nat}{pk:List Int}(h:Pkd gI base u a m c pk):Pkd gI base u.drew a m c pk:=AgK.go (w:=u) (w':=u.drew) (λg hK hg=>⟨rfl,hK⟩) h
theorem WZ(K:Nat->Prop)(x:NV)(n:PN)(w:World)(h:NodeAt K w x n)(h1:n.k=1)(hd:∀r,(r=n.c∨r∈n.ks)->r.i.length<32->DDSaid r.i):
 Calls prog 73 #[.agg x.cells.toArray] w (EEPost w n):=by
 have B:=E8 w x h.c.len;have HB:=Xba (below_new w (.cells x.cells.toArray 92));have HH:=Xba h;obtain⟨q,hq⟩:∃q,NR n=q:=⟨_,rfl⟩
 have HR1:=Xba (show∀v,Below w.heap.size w v->Calls prog 104 #[.agg x.cells.toArray] v λe w'=>e= .returned (.bool q)/\Below v.heap.size v w' from λv hv=>by
  rw[<-hq];exact Hh K x n v (h.go (Keep.below hv)) hd)
 have HQ:=Xba hq;have hk:x.k=1:=by rw[h.k];exact h1
 have hvn:=h.v.2.1;unfold EEPost;rw[hq];have H1:=Xba h1;clear h hq hd h1;go_enter func73,ntmps73;go_upto_region 1 with fail;refine gen_w (p:=λv=>Code.wp _ _ _ _ v) (q:=λv=>NBx w.heap.size v x/\Below w.heap.size w v) ⟨B,HB.out⟩ ?_;clear B HB;rintro v⟨B,hb⟩;have HB:=Xba hb;have HX:=Xba B;clear hb B;go_wp2_with (first|refine CG rfl _ rfl w.heap.size rfl x HX.out ?_);refine(HR1.out v HB.out).mono ?_;rintro e w1⟨rfl,hb1⟩;have HX1:=Xba (HX.out.go hb1);have HB1:=Xba (below_go HB.out hb1);clear hb1 HX HB;cases q with
 |false=>
  go_wp2_with fail;go_ret2;exact⟨⟨none,0,0,rfl,⟨.inl ⟨rfl,rfl⟩,λ_=>⟨rfl,rfl⟩,rfl,λx hx=>by cases hx⟩,λg off h=>by cases h⟩,HB1.out⟩
 |true=>
  obtain⟨b1,b2,b3⟩:=EZ HH.out.okN HQ.out;have HM:=Xba b1;have HPL:=Xba (Mi HQ.out).2;have hpn:x.pn<=1000:=by rw[<-HH.out.p.l];exact HPL.out
  have HLT:=Xba (show w.heap.size<w1.heap.size from(BF.1 HX1.out.row).1);clear b1 b2 b3;go_upto_region 5 with fail;obtain⟨gI,hgI⟩:∃gI,w1.heap.size=gI:=⟨_,rfl⟩;refine gen_w (p:=λv=>Code.wp _ _ _ _ v) (q:=λv=>En w v x gI (.slice none 0 0)) ⟨by rw[<-hgI];exact Ai _ _,HX1.out.go (below_new _ _),below_go HB1.out (below_new _ _),by rw[<-hgI];exact HLT.out,by simp[hgI]⟩ ?_;intro v2 E2;rw[hgI];have c0:=E2.bx.c0;have c1:=E2.bx.c1;rw[hk]at c0;have HE2:=Xba E2;clear E2 HX1 HB1 HLT hgI;have HPK:=Xba (Ni.rpack_any x.pa x.pn x.pc n.p true v2 (HH.out.p.1.at HE2.out.bel) (by omega));obtain⟨pk,hpk⟩:∃pk,(packP n.p true).1=pk:=⟨_,rfl⟩;rw[hpk]at HPK;have HPKE:=Xba hpk
  have HPKL:=Xba (show pk.length<=1000 from by
   rw[<-hpk];unfold packP;split
   ·dsimp only;rw[Ni.pack_len];have:=HPL.out;omega
   ·simp)
  obtain⟨per,hper⟩:∃per:Nat,(packP n.p true).2=per:=⟨_,rfl⟩;rw[hper]at HPK;clear hpk hper;go_wp2_with fail;refine HPK.out.mono ?_;rintro e wP⟨⟨a',m,c',rfl,hag⟩,hbP⟩;have hEP:=HE2.out.all hbP;have d2:=hEP.c2;have df:=hEP.fz;obtain⟨it,w3,hrun,hb3,hsl,hz4,how4,hpd4⟩:=Ms hEP hag (by have:=hag.l;have:=HPKL.out;omega) 108;have HGB:=Xba hEP.sz;have hE3:=hEP.go hb3;have f2:=hE3.c2;have ff:=hE3.fz;have HE4:=Xba (hE3.put it);obtain⟨ja,jm,jc,hit⟩:=hsl;have HIT:=Xba hit;have HZ4:=Xba hz4;have HOW4:=Xba how4;have HPD4:=Xba hpd4;rw[hit]at hrun;have HRUN:=Xba hrun;clear hag hbP hrun hb3 hz4 how4 hpd4 hE3 hEP hit c0 c1 HPK HE2;go_upto_region 13 with(first|refine Er rfl _ _ rfl _ _ rfl rfl HRUN.out ?_);rw[<-HIT.out];generalize w3.setCell ⟨gI,2,none⟩ it=u4 at HE4 HZ4 HOW4 HPD4⊢;have g0:=HE4.out.bx.c0;rw[hk]at g0;clear d2 df f2 ff HRUN;have d2:=HE4.out.c2;have e2:=HE4.out.bx.c2;have ef:=HE4.out.fz;obtain⟨v',w3,hrun,hb3,hfull⟩:=Kg (t:= .mk false n.v []) (y:=⟨false,x.va,x.vn,x.vc,none,0,0⟩) HE4.out HGB.out HZ4.out HOW4.out HPD4.out (Ak _ _) (λw4 h4 _=>Ci h4 _ _ (lies_eq.2 ⟨rfl,HH.out.v.1,rfl,Aa _,Ay _,⟨HH.out.v.2.1,Ay _⟩,Dw⟩)) 108;have hE5:=HE4.out.go hb3;have f2:=hE5.c2;have ff:=hE5.fz;have HE5:=Xba (hE5.put v');obtain⟨ia,m',ic,hv',hen⟩:=Hv (n:=n) hfull (by simp) (by unfold itemP;rw[H1.out,Ad (by decide),Af rfl,HPKE.out]) HM.out;subst hv';have HRUN:=Xba hrun;clear hrun hb3 hfull hE5;go_upto_region 16 with(first|refine Er rfl _ _ rfl _ _ rfl rfl HRUN.out ?_);generalize w3.setCell ⟨gI,2,none⟩ (.slice ia m' ic)=u5 at HE5 hen⊢;clear d2 e2 ef f2 ff;have HEN:=Xba hen;clear hen;have k0:=HE5.out.c0;have k1:=HE5.out.c1;have k2:=HE5.out.c2;go_wp2_with fail;refine HEN.out.mono ?_;rintro e w5⟨⟨a,m5,c5,rfl,hag,hnw⟩,hb5⟩;have HAG:=Xba hag;have HNW:=Xba (hnw.mono HE5.out.bel.size);have HB5:=Xba (below_go HE5.out.bel hb5);clear hag hb5 hnw;go_wp2_with fail;go_ret2;exact⟨⟨a,m5,c5,rfl,HAG.out,HNW.out⟩,HB5.out⟩
theorem Xa(K:Nat->Prop)(x:NV)(n:PN)(w:World)(h:NodeAt K w x n)(h2:n.k=2)(hd:∀r,(r=n.c∨r∈n.ks)->r.i.length<32->DDSaid r.i):
 Calls prog 73 #[.agg x.cells.toArray] w (EEPost w n):=by
 have B:=E8 w x h.c.len;have HB:=Xba (below_new w (.cells x.cells.toArray 92));have HH:=Xba h;obtain⟨q,hq⟩:∃q,NR n=q:=⟨_,rfl⟩
 have HR1:=Xba (show∀v,Below w.heap.size w v->Calls prog 104 #[.agg x.cells.toArray] v λe w'=>e= .returned (.bool q)/\Below v.heap.size v w' from λv hv=>by
  rw[<-hq];exact Hh K x n v (h.go (Keep.below hv)) hd)
 have HQ:=Xba hq;have hk:x.k=2:=by rw[h.k];exact h2
 have hvn:=h.v.2.1;unfold EEPost;rw[hq];have H2:=Xba h2;clear h hq hd h2;go_enter func73,ntmps73;go_upto_region 1 with fail;refine gen_w (p:=λv=>Code.wp _ _ _ _ v) (q:=λv=>NBx w.heap.size v x/\Below w.heap.size w v) ⟨B,HB.out⟩ ?_;clear B HB;rintro v⟨B,hb⟩;have HB:=Xba hb;have HX:=Xba B;clear hb B;go_wp2_with (first|refine CG rfl _ rfl w.heap.size rfl x HX.out ?_);refine(HR1.out v HB.out).mono ?_;rintro e w1⟨rfl,hb1⟩;have HX1:=Xba (HX.out.go hb1);have HB1:=Xba (below_go HB.out hb1);clear hb1 HX HB;cases q with
 |false=>
  go_wp2_with fail;go_ret2;exact⟨⟨none,0,0,rfl,⟨.inl ⟨rfl,rfl⟩,λ_=>⟨rfl,rfl⟩,rfl,λx hx=>by cases hx⟩,λg off h=>by cases h⟩,HB1.out⟩
 |true=>
  obtain⟨b1,b2,b3⟩:=EZ HH.out.okN HQ.out;have HM:=Xba b1;have HPL:=Xba (Mi HQ.out).2;have hpn:x.pn<=1000:=by rw[<-HH.out.p.l];exact HPL.out
  have HLT:=Xba (show w.heap.size<w1.heap.size from(BF.1 HX1.out.row).1);clear b1 b2 b3;go_upto_region 5 with fail;obtain⟨gI,hgI⟩:∃gI,w1.heap.size=gI:=⟨_,rfl⟩;refine gen_w (p:=λv=>Code.wp _ _ _ _ v) (q:=λv=>En w v x gI (.slice none 0 0)) ⟨by rw[<-hgI];exact Ai _ _,HX1.out.go (below_new _ _),below_go HB1.out (below_new _ _),by rw[<-hgI];exact HLT.out,by simp[hgI]⟩ ?_;intro v2 E2;rw[hgI];have c0:=E2.bx.c0;have c1:=E2.bx.c1;rw[hk]at c0;have HE2:=Xba E2;clear E2 HX1 HB1 HLT hgI;have HPK:=Xba (Ni.rpack_any x.pa x.pn x.pc n.p false v2 (HH.out.p.1.at HE2.out.bel) (by omega));obtain⟨pk,hpk⟩:∃pk,(packP n.p false).1=pk:=⟨_,rfl⟩;rw[hpk]at HPK;have HPKE:=Xba hpk
  have HPKL:=Xba (show pk.length<=1000 from by
   rw[<-hpk];unfold packP;split
   ·dsimp only;rw[Ni.pack_len];have:=HPL.out;omega
   ·simp)
  obtain⟨per,hper⟩:∃per:Nat,(packP n.p false).2=per:=⟨_,rfl⟩;rw[hper]at HPK;clear hpk hper;go_wp2_with fail;refine HPK.out.mono ?_;rintro e wP⟨⟨a',m,c',rfl,hag⟩,hbP⟩;have hEP:=HE2.out.all hbP;have d2:=hEP.c2;have df:=hEP.fz;obtain⟨it,w3,hrun,hb3,hsl,hz4,how4,hpd4⟩:=Ms hEP hag (by have:=hag.l;have:=HPKL.out;omega) 108;have HGB:=Xba hEP.sz;have hE3:=hEP.go hb3;have f2:=hE3.c2;have ff:=hE3.fz;have HE4:=Xba (hE3.put it);obtain⟨ja,jm,jc,hit⟩:=hsl;have HIT:=Xba hit;have HZ4:=Xba hz4;have HOW4:=Xba how4;have HPD4:=Xba hpd4;rw[hit]at hrun;have HRUN:=Xba hrun;clear hag hbP hrun hb3 hz4 how4 hpd4 hE3 hEP hit c0 c1 HPK HE2;go_upto_region 13 with(first|refine Er rfl _ _ rfl _ _ rfl rfl HRUN.out ?_);rw[<-HIT.out];generalize w3.setCell ⟨gI,2,none⟩ it=u4 at HE4 HZ4 HOW4 HPD4⊢;have g0:=HE4.out.bx.c0;rw[hk]at g0;clear d2 df f2 ff HRUN;go_upto_region 15 with fail;rename_i KK hkk;refine BW (S:=λv'=>NBx w.heap.size v' x/\Below w.heap.size w v') (by kernel_rfl) ⟨⟨HE4.out.bx.row,HE4.out.bx.l⟩,HE4.out.bel.drew⟩ (λhS=>?_);have hE0:=HE4.out.drew;refine Bh 0 69 (.pointer (some ⟨gI,2,none⟩)) rfl rfl (by kernel_rfl) (by kernel_rfl) (by kernel_rfl) (λ_ _ _ h=>h) (by kernel_rfl) (λv _=>by kernel_rfl) hS<|Bh 2 71 (.pointer (some ⟨w.heap.size,3,none⟩)) rfl rfl (by kernel_rfl) (by kernel_rfl) (by kernel_rfl) (λ_ _ _ h=>h) (by kernel_rfl) (λv _=>by kernel_rfl) hS<|Bh 3 72 (.agg x.c.cells.toArray) rfl rfl (by kernel_rfl) (by kernel_rfl) (by kernel_rfl) (λ_ _ _ h=>h) (by kernel_rfl) (λv' hv=>Gu rfl (by kernel_rfl) HH.out.c.len hv.1.child) hS<|AB (rs:=[1,4]) (by kernel_rfl) (by simp) ?_;refine CK 1 70 it rfl rfl (by kernel_rfl) (CT rfl (by kernel_rfl) hE0.c2) hS ?_ ?_
  ·refine AB (rs:=[4]) (by kernel_rfl) (by simp) ?_;refine Ek 4 73 rfl rfl (by kernel_rfl) 105 #[.agg x.c.cells.toArray] (by kernel_rfl) (R:=λval w'=>Below u4.drew.heap.size u4.drew w'/\∃z:V,val= .agg #[.bool z.l, .slice z.ba z.bn z.bc, .slice z.ia z.m z.ic]/\LiesP (λb=>u4.drew.heap.size<=b) w' (refItemP n.c) z) ((Iy K x.c n.c u4.drew (HH.out.c.go (Keep.below hS.2))).mono (λe w' h=>DU h (Aa _))) (λval w' h=>⟨hS.1.go h.1,below_go hS.2 h.1⟩) ?_ A7;rintro val u1⟨hb1,z,rfl,hz⟩;have hS1:NBx w.heap.size u1 x/\Below w.heap.size w u1:=⟨hS.1.go hb1,below_go hS.2 hb1⟩;have hE1:=hE0.all hb1;obtain⟨v',w3,hrun,hb3,hfull⟩:=Kg (t:=refItemP n.c) (y:=z) hE0 HGB.out HZ4.out (DZ HOW4.out λg _ hlt=>rfl) HPD4.out.drew hb1 (λw4 _ h4=>CX _ _ (Bz (Q:=λ_=>True) (λb hb hlt=>⟨h4 b hb hlt,trivial⟩) _ _ hz)) 108;have hE2:En w (u1.alloc (.cells #[.bool z.l, .slice z.ba z.bn z.bc, .slice z.ia z.m z.ic] 110)) x gI it:=hE1.all (below_new _ _);have hE3:=hE0.go hb3;have hE5:=hE3.put v';refine AB (rs:=[5]) (by kernel_rfl) (by simp) ?_;refine CK 5 74 (.slice (some ⟨u1.heap.size,0,none⟩) 1 1) rfl rfl (by kernel_rfl) (FG rfl z (by kernel_rfl)) ⟨hE2.bx,hE2.bel⟩ ?_ A7;refine AB (rs:=[6]) (by kernel_rfl) (by simp) ?_;refine CK 6 75 v' rfl rfl (by kernel_rfl) (I5 rfl it (.slice (some ⟨u1.heap.size,0,none⟩) 1 1) (by kernel_rfl) (by kernel_rfl) hrun) ⟨hE3.bx,hE3.bel⟩ ?_ A7;refine Bh 7 76 (.pointer (some ⟨gI,2,none⟩)) rfl rfl (by kernel_rfl) (by kernel_rfl) (by kernel_rfl) (λ_ _ _ h=>h) (by kernel_rfl) (λv _=>by kernel_rfl) ⟨hE3.bx,hE3.bel⟩<|AB (rs:=[8]) (by kernel_rfl) (by simp) ?_;refine DG 8 rfl rfl (by kernel_rfl) (FH rfl gI v' it (by obtain⟨ia,ic,e,_⟩:=hfull;exact⟨_,_,_,e⟩) (by kernel_rfl) (by kernel_rfl) hE3.c2 hE3.fz) ⟨hE5.bx,hE5.bel⟩ ?_ A7;refine Cl (by kernel_rfl) ?_ _;refine hkk _ _ ?_;have HE5:=Xba hE5;obtain⟨ia,m',ic,hv',hen⟩:=Hv (n:=n) hfull (by simp) (by unfold itemP;rw[H2.out,Ad (by decide),Ad (by decide),HPKE.out]) HM.out;subst hv';clear hE5 hE3 hE2 hE1 hE0 hS hS1 hfull hb3 hrun hz hb1 hkk;generalize w3.setCell ⟨gI,2,none⟩ (.slice ia m' ic)=u5 at HE5 hen⊢
   go_frame
   have HEN:=Xba hen;clear hen;have k0:=HE5.out.c0;have k1:=HE5.out.c1;have k2:=HE5.out.c2;go_wp2_with fail;refine HEN.out.mono ?_;rintro e w5⟨⟨a,m5,c5,rfl,hag,hnw⟩,hb5⟩;have HAG:=Xba hag;have HNW:=Xba (hnw.mono HE5.out.bel.size);have HB5:=Xba (below_go HE5.out.bel hb5);clear hag hb5 hnw;go_wp2_with fail;go_ret2;exact⟨⟨a,m5,c5,rfl,HAG.out,HNW.out⟩,HB5.out⟩
  refine Ek 4 73 rfl rfl (by kernel_rfl) 105 #[.agg x.c.cells.toArray] (by kernel_rfl) (R:=λval w'=>Below u4.drew.heap.size u4.drew w'/\∃z:V,val= .agg #[.bool z.l, .slice z.ba z.bn z.bc, .slice z.ia z.m z.ic]/\LiesP (λb=>u4.drew.heap.size<=b) w' (refItemP n.c) z) ((Iy K x.c n.c u4.drew (HH.out.c.go (Keep.below hS.2))).mono (λe w' h=>DU h (Aa _))) (λval w' h=>⟨hS.1.go h.1,below_go hS.2 h.1⟩) ?_ A7;rintro val u1⟨hb1,z,rfl,hz⟩;have hS1:NBx w.heap.size u1 x/\Below w.heap.size w u1:=⟨hS.1.go hb1,below_go hS.2 hb1⟩;have hE1:=hE0.all hb1;obtain⟨v',w3,hrun,hb3,hfull⟩:=Kg (t:=refItemP n.c) (y:=z) hE0 HGB.out HZ4.out (DZ HOW4.out λg _ hlt=>rfl) HPD4.out.drew hb1 (λw4 _ h4=>CX _ _ (Bz (Q:=λ_=>True) (λb hb hlt=>⟨h4 b hb hlt,trivial⟩) _ _ hz)) 108;have hE2:En w (u1.alloc (.cells #[.bool z.l, .slice z.ba z.bn z.bc, .slice z.ia z.m z.ic] 110)) x gI it:=hE1.all (below_new _ _);have hE3:=hE0.go hb3;have hE5:=hE3.put v';refine AB (rs:=[1,5]) (by kernel_rfl) (by simp) ?_;refine CK 1 70 it rfl rfl (by kernel_rfl) (CT rfl (by kernel_rfl) hE1.c2) hS1 ?_ ?_
  ·refine AB (rs:=[5]) (by kernel_rfl) (by simp) ?_;refine CK 5 74 (.slice (some ⟨u1.heap.size,0,none⟩) 1 1) rfl rfl (by kernel_rfl) (FG rfl z (by kernel_rfl)) ⟨hE2.bx,hE2.bel⟩ ?_ A7;refine AB (rs:=[6]) (by kernel_rfl) (by simp) ?_;refine CK 6 75 v' rfl rfl (by kernel_rfl) (I5 rfl it (.slice (some ⟨u1.heap.size,0,none⟩) 1 1) (by kernel_rfl) (by kernel_rfl) hrun) ⟨hE3.bx,hE3.bel⟩ ?_ A7;refine Bh 7 76 (.pointer (some ⟨gI,2,none⟩)) rfl rfl (by kernel_rfl) (by kernel_rfl) (by kernel_rfl) (λ_ _ _ h=>h) (by kernel_rfl) (λv _=>by kernel_rfl) ⟨hE3.bx,hE3.bel⟩<|AB (rs:=[8]) (by kernel_rfl) (by simp) ?_;refine DG 8 rfl rfl (by kernel_rfl) (FH rfl gI v' it (by obtain⟨ia,ic,e,_⟩:=hfull;exact⟨_,_,_,e⟩) (by kernel_rfl) (by kernel_rfl) hE3.c2 hE3.fz) ⟨hE5.bx,hE5.bel⟩ ?_ A7;refine Cl (by kernel_rfl) ?_ _;refine hkk _ _ ?_;have HE5:=Xba hE5;obtain⟨ia,m',ic,hv',hen⟩:=Hv (n:=n) hfull (by simp) (by unfold itemP;rw[H2.out,Ad (by decide),Ad (by decide),HPKE.out]) HM.out;subst hv';clear hE5 hE3 hE2 hE1 hE0 hS hS1 hfull hb3 hrun hz hb1 hkk;generalize w3.setCell ⟨gI,2,none⟩ (.slice ia m' ic)=u5 at HE5 hen⊢
   go_frame
   have HEN:=Xba hen;clear hen;have k0:=HE5.out.c0;have k1:=HE5.out.c1;have k2:=HE5.out.c2;go_wp2_with fail;refine HEN.out.mono ?_;rintro e w5⟨⟨a,m5,c5,rfl,hag,hnw⟩,hb5⟩;have HAG:=Xba hag;have HNW:=Xba (hnw.mono HE5.out.bel.size);have HB5:=Xba (below_go HE5.out.bel hb5);clear hag hb5 hnw;go_wp2_with fail;go_ret2;exact⟨⟨a,m5,c5,rfl,HAG.out,HNW.out⟩,HB5.out⟩
  refine CK 5 74 (.slice (some ⟨u1.heap.size,0,none⟩) 1 1) rfl rfl (by kernel_rfl) (FG rfl z (by kernel_rfl)) ⟨hE2.bx,hE2.bel⟩ ?_ A7;refine AB (rs:=[1]) (by kernel_rfl) (by simp) ?_;refine CK 1 70 it rfl rfl (by kernel_rfl) (CT rfl (by kernel_rfl) hE2.c2) ⟨hE2.bx,hE2.bel⟩ ?_ A7;refine AB (rs:=[6]) (by kernel_rfl) (by simp) ?_;refine CK 6 75 v' rfl rfl (by kernel_rfl) (I5 rfl it (.slice (some ⟨u1.heap.size,0,none⟩) 1 1) (by kernel_rfl) (by kernel_rfl) hrun) ⟨hE3.bx,hE3.bel⟩ ?_ A7;refine Bh 7 76 (.pointer (some ⟨gI,2,none⟩)) rfl rfl (by kernel_rfl) (by kernel_rfl) (by kernel_rfl) (λ_ _ _ h=>h) (by kernel_rfl) (λv _=>by kernel_rfl) ⟨hE3.bx,hE3.bel⟩<|AB (rs:=[8]) (by kernel_rfl) (by simp) ?_;refine DG 8 rfl rfl (by kernel_rfl) (FH rfl gI v' it (by obtain⟨ia,ic,e,_⟩:=hfull;exact⟨_,_,_,e⟩) (by kernel_rfl) (by kernel_rfl) hE3.c2 hE3.fz) ⟨hE5.bx,hE5.bel⟩ ?_ A7;refine Cl (by kernel_rfl) ?_ _;refine hkk _ _ ?_;have HE5:=Xba hE5;obtain⟨ia,m',ic,hv',hen⟩:=Hv (n:=n) hfull (by simp) (by unfold itemP;rw[H2.out,Ad (by decide),Ad (by decide),HPKE.out]) HM.out;subst hv';clear hE5 hE3 hE2 hE1 hE0 hS hS1 hfull hb3 hrun hz hb1 hkk;generalize w3.setCell ⟨gI,2,none⟩ (.slice ia m' ic)=u5 at HE5 hen⊢
  go_frame
  have HEN:=Xba hen;clear hen;have k0:=HE5.out.c0;have k1:=HE5.out.c1;have k2:=HE5.out.c2;go_wp2_with fail;refine HEN.out.mono ?_;rintro e w5⟨⟨a,m5,c5,rfl,hag,hnw⟩,hb5⟩;have HAG:=Xba hag;have HNW:=Xba (hnw.mono HE5.out.bel.size);have HB5:=Xba (below_go HE5.out.bel hb5);clear hag hb5 hnw;go_wp2_with fail;go_ret2;exact⟨⟨a,m5,c5,rfl,HAG.out,HNW.out⟩,HB5.out⟩
theorem U8(K:Nat->Prop)(x:NV)(n:PN)(w:World)(h:NodeAt K w x n)(hk:n.k=1∨n.k=2∨n.k=3)(hd:∀r,(r=n.c∨r∈n.ks)->r.i.length<32->DDSaid r.i):
 Calls prog 73 #[.agg x.cells.toArray] w (EEPost w n):=by
 rcases hk with hk|hk|hk
 ·exact WZ K x n w h hk hd
 ·exact Xa K x n w h hk hd
 ·exact WW K x n w h hk hd
end Go.Proofs.YtalhnnjpjaeakaaGreat
namespace Go.Proofs.YtalhnnjpjaeakaaGreat
variable {j : Nat}
theorem U9(K:Nat->Prop)(x:NV)(n:PN)(w:World)(h:NodeAt K w x n)(hq:NR n=false)(hd:∀r,(r=n.c∨r∈n.ks)->r.i.length<32->DDSaid r.i):
 Calls prog 73 #[.agg x.cells.toArray] w (EEPost w n):=by
 have B:=E8 w x h.c.len;have HB:=Xba (below_new w (.cells x.cells.toArray 92))
 have HR1:=Xba (show∀v,Below w.heap.size w v->Calls prog 104 #[.agg x.cells.toArray] v λe w'=>e= .returned (.bool false)/\Below v.heap.size v w' from λv hv=>by
  rw[<-hq];exact Hh K x n v (h.go (Keep.below hv)) hd)
 unfold EEPost;rw[hq];clear h hq hd;go_enter func73,ntmps73;go_upto_region 1 with fail;refine gen_w (p:=λv=>Code.wp _ _ _ _ v) (q:=λv=>NBx w.heap.size v x/\Below w.heap.size w v) ⟨B,HB.out⟩ ?_;clear B HB;rintro v⟨B,hb⟩;have HB:=Xba hb;have HX:=Xba B;clear hb B;go_wp2_with (first|refine CG rfl _ rfl w.heap.size rfl x HX.out ?_);refine(HR1.out v HB.out).mono ?_;rintro e w1⟨rfl,hb1⟩;have HB1:=Xba (below_go HB.out hb1);clear hb1 HX HB;go_wp2_with fail;go_ret2;exact⟨⟨none,0,0,rfl,⟨.inl ⟨rfl,rfl⟩,λ_=>⟨rfl,rfl⟩,rfl,λx hx=>by cases hx⟩,λg off h=>by cases h⟩,HB1.out⟩
theorem GH(K:Nat->Prop)(x:NV)(n:PN)(w:World)(h:NodeAt K w x n)(hd:∀r,(r=n.c∨r∈n.ks)->r.i.length<32->DDSaid r.i):
 Calls prog 73 #[.agg x.cells.toArray] w (EEPost w n):=by
 cases hq:NR n with
 |false=>exact U9 K x n w h hq hd
 |true=>exact U8 K x n w h (Ov hq) hd
def drefP(t:T):PR:=if t.l=true then⟨1,z32,(encP t).1⟩else if t.bs.length=32 then⟨2,t.bs,[]⟩else r0
def DRPost(w:World)(r:PR):Ending->World->Prop:=λe w'=>(∃y:RV,e= .returned (.agg y.cells.toArray)/\RefAt (λg=>w.heap.size<g) w' y r)/\Below w.heap.size w w'
theorem YO{bs:List Int}(hl:bs.length=32)(hj:j<32):(bs.take j++List.replicate (32-j) 0).set j (bs.getD j 0)=bs.take (j+1)++List.replicate (32-(j+1)) 0:=by
 have ht:(bs.take j).length=j:=by rw[Ao];omega
 rw[DD _ _ (by omega),ht,Cx,show 32-j=(32-(j+1))+1 from by omega,List.replicate_succ,List.set_cons_zero,BQ,Ac (by omega),AE];simp[List.getD,Ac (show j<bs.length by omega)]
theorem UA{k:Int}{d:List Int}{a:Option Addr}{n c:Nat}{b:Int}(hj:j<d.length):(RV.cells ⟨k,d,a,n,c⟩).toArray.setIfInBounds (1+j) (.int .u8 b)=(RV.cells ⟨k,d.set j b,a,n,c⟩).toArray:=by
 rw[D9];congr 1;rw[RV.cells,RV.cells,Nat.add_comm 1 j,EH,List.set_append_left _ _ (by simpa using hj),List.map_set]
theorem Mt(t:T)(x:V)(w:World)(h:Lies w t x):
 Calls prog 149 #[.agg #[.bool x.l, .slice x.ba x.bn x.bc, .slice x.ia x.m x.ic]] w (DRPost w (drefP t)):=by
 obtain⟨l,bs,its⟩:=t;obtain⟨hl,hag,-⟩:=lies_eq.1 h;have hbn:x.bn<=140737488351232:=(lies_eq.1 h).2.2.2.2.2.1.1;subst hl;have HX:=Xba h;have HAG:=Xba hag;obtain⟨res,hres⟩:∃res,drefP (.mk x.l bs its)=res:=⟨_,rfl⟩;rw[hres];have hres:(if x.l=true then(⟨1,z32,(encP (.mk x.l bs its)).1⟩:PR)else if bs.length=32 then⟨2,bs,[]⟩else r0)=res:=hres;rw[hag.l]at hres;have HRES:=Xba hres;have HRR:=Xba (Wj w x);clear h hag hres;go_enter func149,ntmps149;go_upto_region 1 with fail;refine gen_w (p:=λv=>Code.wp _ _ _ _ v) (q:=λv=>Rr w v x) HRR.out ?_;clear HRR;intro v RR;have c0:=RR.bx.c0;have c1:=RR.bx.c1;have c2:=RR.bx.c2;have HRR:=Xba RR;clear RR;by_cases hxl:x.l=true
 ·have hE:=KI (.mk x.l bs its) x v (Ci HRR.out.bel _ x HX.out);have hres:=HRES.out;rw[Af hxl]at hres
  have HF:=Xba (show(encP (.mk x.l bs its)).1.length<=16777220 from by
   by_cases hm:(mP (.mk x.l bs its)).2=0
   ·rw[Gt hm];exact VS hm
   ·rw[Oy hm];simp)
  obtain⟨en,hen⟩:∃en,(encP (.mk x.l bs its)).1=en:=⟨_,rfl⟩;rw[hen]at hE HF hres;subst hres;obtain⟨er,her⟩:∃er,(encP (.mk x.l bs its)).2=er:=⟨_,rfl⟩;rw[her]at hE;clear hen her;rw[hxl]at c0 hE;have HE2:=Xba hE;clear hE HRES;go_wp2_with fail;refine HE2.out.mono ?_;rintro e w1⟨⟨a,n,c,rfl,hag,hnw⟩,hb⟩;have R1:=HRR.out.go hb;have HAGK:=Xba (show AgK (λg=>w.heap.size+2<=g) w1 a n c en from⟨hag,by have:=hag.l;have:=HF.out;omega,λg off e _=>by have:=hnw (by first|exact trivial|rfl) g off e;have:=HRR.out.sz;omega⟩);have HR1:=Xba R1;have hl32:z32.length=32:=rfl;clear hag hb R1 hnw;go_wp2_with (first|refine A4 rfl 62 _ _ rfl _ (RV.cells ⟨1,z32,a,n,c⟩).toArray rfl rfl 62 _ HR1.out.row (Da rfl) (Dv rfl) (Am (RV.one _)) ?_);refine Ap (Ba results149 _ _ (w.heap.size+1) 62 _ (0,0) _ rfl (AA _ _ _ _ _ _ HR1.out.row) underlying62 rfl (Da (y:=⟨1,z32,a,n,c⟩) rfl)) rfl ?_;exact⟨⟨⟨1,z32,a,n,c⟩,rfl,rfl,rfl,Jy,rfl,HAGK.out.go (λg hK _=>⟨AX _ _ _ _ (by omega),by omega⟩)⟩,Below.setRow HR1.out.bel (by omega) _⟩
 ·have hres:=HRES.out;rw[Ad hxl]at hres;have hxf:x.l=false:=by simpa using hxl
  rw[hxf]at c0;clear hxf hxl HRES HX;by_cases h32:x.bn=32
  ·rw[Af h32]at hres;subst hres;have hz:=HAG.out;rw[h32]at hz c1;obtain⟨g,off,hba,hnc,hcm,hcs⟩:=ag_head hz (by omega);unfold maxLen at hcm;rw[hba]at c1;have HBL:=Xba hz.l;have HBB:=Xba hz.b;have HCS:=Xba (show∀u,Below w.heap.size w u->∀j,j<32->u.cell? ⟨g,off+j,none⟩=some (.int .u8 (bs.getD j 0))from λu hu j hj=>AN hu (hcs j hj));have HRB:=Xba hba;have HR32:=Xba h32;have HVS:=Xba HRR.out.sz;clear hz hcs h32 hba;go_upto_region 6 with(first|refine A4 rfl 62 _ _ rfl _ (RV.cells ⟨2,z32,none,0,0⟩).toArray rfl rfl 62 _ (Ai _ _) (Da rfl) (Dv rfl) (Am (RV.one _)) ?_);obtain⟨gB,hgB⟩:∃gB,v.heap.size=gB:=⟨_,rfl⟩;refine gen_w (p:=λv=>Code.wp _ _ _ _ v) (q:=λu=>RBx gB u ⟨2,z32,none,0,0⟩/\Rr w u x) ⟨⟨by rw[<-hgB];exact AA _ _ _ _ _ _ (Ai _ _),rfl⟩,HRR.out.go (Below.setRow (below_new v _) (Aa _) _)⟩ ?_;rintro u0⟨B2,R2⟩;rw[hgB]at HVS⊢;have HB0:=Xba B2;have HR0:=Xba R2;clear B2 R2 hgB c0 c1 c2 HRR;go_wp2_with fail
   go_loopw [6] (λs6 u=>∃j:Nat,j<=32/\s6= .int .i64 j/\RBx gB u ⟨2,bs.take j++List.replicate (32-j) 0,none,0,0⟩/\Rr w u x) (λs6 _=>32-(intOf s6).toNat)
   case atStart=>exact⟨0,by omega,rfl,HB0.out,HR0.out⟩
   case round=>
    obtain⟨j,hj,rfl,hB,hR⟩:=hrel;have HB:=Xba hB;have HR:=Xba hR;clear hB hR HB0 HR0;by_cases hlt:j<32
    ·have hji:(j:Int)<32:=(by omega);have d1:=HR.out.bx.c1;rw[HRB.out,HR32.out]at d1;have hc:=HCS.out _ HR.out.bel j hlt;have hf:=HB.out.fz;obtain⟨old,hold⟩:∃old,wr.cell? ⟨gB,1+j,none⟩=some old:=by
      rw[HB.out.at];exact⟨_,Ac (by rw[RV.len HB.out.l];omega)⟩
     have HPUT:=Xba (show RBx gB (wr.setCell ⟨gB,1+j,none⟩ (.int .u8 (bs.getD j 0))) ⟨2,bs.take (j+1)++List.replicate (32-(j+1)) 0,none,0,0⟩from by
      have hll:=HB.out.l;have e:=AO wr gB (1+j) _ 62 (.int .u8 (bs.getD j 0)) HB.out.row;rw[UA (d:=bs.take j++List.replicate (32-j) 0) (Nat.lt_of_lt_of_eq hlt hll.symm),YO HBL.out hlt]at e;exact⟨e,by show(bs.take (j+1)++List.replicate (32-(j+1)) 0).length=32;rw[Ab,Ao,Bj,HBL.out];omega⟩)
     have HRP:=Xba (show Rr w (wr.setCell ⟨gB,1+j,none⟩ (.int .u8 (bs.getD j 0))) x from by
      have hv:=HVS.out;have ho:∀k,k≠gB->(wr.setCell ⟨gB,1+j,none⟩ (.int .u8 (bs.getD j 0))).heap[k]?=wr.heap[k]?:=λk hk=>A8 _ _ _ _ hk;have hcl:∀o,(wr.setCell ⟨gB,1+j,none⟩ (.int .u8 (bs.getD j 0))).cell? ⟨w.heap.size,o,none⟩=wr.cell? ⟨w.heap.size,o,none⟩:=λo=>Aq (ho w.heap.size (by omega));exact⟨(ho _ (by omega)).trans HR.out.row,⟨(hcl _).trans HR.out.bx.c0,(hcl _).trans HR.out.bx.c1,(hcl _).trans HR.out.bx.c2⟩,HR.out.bel.setCell (by show w.heap.size<=gB;omega) _,by simpa using HR.out.sz⟩)
     have hjl:j<bs.length:=(by have:=HBL.out;omega);have hbb:=HBB.out (bs.getD j 0) (by simp[List.getD,Ac hjl]);clear hjl;generalize bs.getD j 0=bj at hc HPUT HRP hbb;go_wp2_with fail;exact⟨⟨j+1,by omega,by simp,HPUT.out,HRP.out⟩,by simp[intOf];omega⟩
    ·have hji:¬(j:Int)<32:=(by omega);have hB:=HB.out;have hj32:j=32:=(by omega);subst hj32;rw[show bs.take 32++List.replicate (32-32) 0=bs from by rw[A5 (by rw[HBL.out];omega)];simp]at hB;have HB3:=Xba hB;clear hB HB;go_wp2_with (first|refine Cz rfl _ rfl gB 0 rfl ⟨2,bs,none,0,0⟩ HBL.out HB3.out.all ?_|refine A4 rfl 62 _ _ rfl _ (RV.cells ⟨2,bs,none,0,0⟩).toArray rfl rfl 62 _ HR.out.row (Da HBL.out) (Dv HBL.out) (Am (RV.one _)) ?_);refine Ap (Ba results149 _ _ (w.heap.size+1) 62 _ (0,0) _ rfl (AA _ _ _ _ _ _ HR.out.row) underlying62 rfl (Da (y:=⟨2,bs,none,0,0⟩) HBL.out)) rfl ?_;exact⟨⟨⟨2,bs,none,0,0⟩,rfl,rfl,rfl,HBB.out,HBL.out,Fz _ _⟩,Below.setRow HR.out.bel (by omega) _⟩
  ·rw[Ad h32]at hres;subst hres;have h32i:¬(x.bn:Int)=32:=(by omega);go_wp2_with (first|refine A4 rfl 62 _ _ rfl _ rz.cells.toArray rfl rfl 62 _ HRR.out.row (Da rfl) (Dv rfl) (Am (RV.one _)) ?_);refine Ap (Ba results149 _ _ (w.heap.size+1) 62 _ (0,0) _ rfl (AA _ _ _ _ _ _ HRR.out.row) underlying62 rfl (Da (y:=rz) rfl)) rfl ?_;exact⟨⟨rz,rfl,Fc _ _⟩,Below.setRow HRR.out.bel (by omega) _⟩
theorem Mu(w:World)(r:RV)(hl:r.d.length=32):(Instr.buildSlice 90 1 #[(0, .agg r.cells.toArray)]).run prog w= .ok (.slice (some ⟨w.heap.size,0,none⟩) 1 1) (w.alloc (.cells r.cells.toArray 62)):=by
 obtain⟨i,hi,hz,hsz,hby⟩:=QM;refine run_buildSlice w 90 62 1 _ r.cells.toArray i _ underlying90 hi hz (by rw[hsz];omega) (by rw[hsz];omega) ?_;rw[hsz]
 have h:=Great.fill_whole (s:=34) (by omega) [.agg r.cells.toArray] ((Array.range (1*34)).map ((Value.agg rz.cells.toArray).cells[·%(Value.agg rz.cells.toArray).cells.size]!)) (λv hv=>by
  simp only[Az,Cc,Ec]at hv;subst hv;show r.cells.toArray.size=34;rw[Bb,RV.len hl]) (by simp)
 refine h.trans ?_;simp[Value.cells]
theorem Kh{a:Act}{w:World}{x:Operand}{o:Oper}(ho:o.op= .buildSlice 90 1 #[(0,x)])(r:RV)(hl:r.d.length=32)(hx:a.eval x= .agg r.cells.toArray):
 (execOp a.eval o).run prog w= .ok (.value (.slice (some ⟨w.heap.size,0,none⟩) 1 1)) (w.alloc (.cells r.cells.toArray 62)):=by
 unfold execOp;rw[ho];simp only[Ck,B9,C6,hx,Bm,Mu w r hl,AH,Bp]
theorem Rv{a:Act}{w w':World}{s x:Operand}{o:Oper}(ho:o.op= .call {callee:= .builtin .append,args:=#[s,x],argTypes:=#[90,90]})(v u:Value)(hd:a.eval s=v)(hx:a.eval x=u){v':Value}
 (hr:(Builtin.append_ #[90,90] o.type #[v,u]).run prog w= .ok v' w'):(execOp a.eval o).run prog w= .ok (.value v') w':=by
 simp[execOp,ho,resolve,invoke,builtin,hd,hx,hr,Result.andThen]
section
variable {w : World} {ops : Array Oper} {rest : List Oper} {o : Oper} {a : Act} {Q : Exit → Act → World → Prop}
end
end Go.Proofs.YtalhnnjpjaeakaaGreat
namespace Go.Proofs.YtalhnnjpjaeakaaGreat
open Ni (unpP)
variable {w v' : World} {base : Nat} {ys : List RV} {rs : List PR} {r : PR} {u : T} {b : List Int}
def OwnR(w:World)(base:Nat)(v:Value)(ys:List RV):Prop:=w.ownsRow base 62 34 v ys.length (flatR ys)
theorem OM{v:Value}(h:OwnR w base v ys){g:Nat}(hg:v.ownBlock=some g):base<=g/\g<w.heap.size:=by
 rcases h.2 with⟨rfl,_⟩|⟨g',cap,cur,rfl,hbg,hh,_⟩
 ·cases hg
 ·cases hg;exact⟨hbg,lt_of_get hh⟩
theorem NG{w':World}{v:Value}(h:OwnR w base v ys)(hk:∀g,v.ownBlock=some g->g<w.heap.size->w'.heap[g]?=w.heap[g]?):OwnR w' base v ys:=by
 refine⟨h.1,?_⟩;rcases h.2 with h2|⟨g,cap,cur,hv,hb,hh,r⟩
 ·exact .inl h2
 ·exact .inr ⟨g,cap,cur,hv,hb,(hk g (by rw[hv];rfl) (lt_of_get hh)).trans hh,r⟩
theorem YP{v:Value}(hl:∀y∈ys,y.d.length=32)(hown:OwnR w base v ys)(y:RV)(hy:y.d.length=32)(ad:Addr)(c:Nat)(hnews:∀j u,(RV.cells y)[j]?=some u->w.cell? (ad.add j)=some u)(hbase:base<=w.heap.size)(hlen:ys.length<=2199023255550)(ty:TypeId):
 ∃v' w',(Builtin.append_ #[90,90] ty #[v, .slice (some ad) 1 c]).run prog w= .ok v' w'/\OwnR w' base v' (ys++[y])/\w.grownBy w' v.ownBlock/\(v'.ownBlock=v.ownBlock∨v'.ownBlock=some w.heap.size):=by
 obtain⟨i,hi,hz,hsz,hby⟩:=QM;have hc34:=RV.len hy;obtain⟨v',w',hrun,hown',hgr,_⟩:=run_append_own (P:=prog) w base 90 ty 62 i _ 34 64 underlying90 hi hz hsz hby rfl (by decide) v ys.length (flatR ys) hown ad 1 c (RV.cells y) (by rw[hc34]) hnews y.one (by unfold maxLen;omega) (by omega) hbase;refine⟨v',w',hrun,?_,hgr,?_⟩
 ·unfold OwnR;rw[Gy,JX,Ab];exact hown'
 ·rcases hown.2 with⟨rfl,hn0⟩|⟨g,cap,cur,rfl,hbg,hg,hnc,hcm,hcs,htake⟩
  ·have hr:=run_append_nil (P:=prog) w 90 ty 62 i _ underlying90 hi hz ad 1 c (RV.cells y) (by rw[hsz,hc34]) hnews (by decide) (by decide) (by rw[hby];decide);rw[hrun]at hr;injection hr with e1 e2;right;rw[e1];rfl
  ·by_cases hroom:ys.length+1<=cap
   ·have hr:=run_append_room (P:=prog) w 90 ty 62 i underlying90 hi g ys.length cap cur hg ad 1 c (RV.cells y) (by rw[hsz,hc34]) hnews y.one hroom (by rw[hcs,hsz,hc34];omega);rw[hrun]at hr;injection hr with e1 e2;left;rw[e1];rfl
   ·have hr:=run_append_grow (P:=prog) w 90 ty 62 i _ underlying90 hi hz ⟨g,0,none⟩ ys.length cap (flatR ys) (by rw[hsz,FD hl]) (DN hown (g:=g) rfl) ad 1 c (RV.cells y) (by rw[hsz,hc34]) hnews (by omega) (by omega) (growslice_fits (by omega) (by rw[hby];omega));rw[hrun]at hr;injection hr with e1 e2;right;rw[e1];rfl
def SoR(base:Nat)(v:World)(it:Value)(rs:List PR):Prop:=∃ys:List RV,OwnR v base it ys/\RefsAt (λb=>base<=b/\it.ownBlock≠some b) v ys rs
theorem SX(base:Nat)(v:World):SoR base v (.slice none 0 0) []:=⟨[],Dn _ _ _ _,rfl,(λy hy=>by cases hy),λi y r h=>by simp at h⟩
theorem SoR.keep{v:World}{it:Value}(h:SoR base v it rs)(hb:∀b,base<=b->b<v.heap.size->v'.heap[b]?=v.heap[b]?):SoR base v' it rs:=by
 obtain⟨ys,h1,h2⟩:=h;exact⟨ys,NG h1 λg hg hlt=>hb g (OM h1 hg).1 hlt,h2.go λb hb' hlt=>⟨hb b hb'.1 hlt,hb'⟩⟩
theorem SoR.all{v:World}{it:Value}(h:SoR base v it rs)(hb:Below v.heap.size v v'):SoR base v' it rs:=h.keep λb _ hlt=>hb.block b hlt
theorem Lh{wr w1:World}{it:Value}{y:RV}(hz:base<=wr.heap.size)(h:SoR base wr it rs)(hb1:Below wr.heap.size wr w1)(hy:RefAt (λb=>wr.heap.size<=b) w1 y r)(hlen:rs.length<=2199023255550)(ty:TypeId):
 ∃v' w3,(Builtin.append_ #[90,90] ty #[it, .slice (some ⟨w1.heap.size,0,none⟩) 1 1]).run prog (w1.alloc (.cells y.cells.toArray 62))= .ok v' w3/\SoR base w3 v' (rs++[r])/\Below base wr w3:=by
 obtain⟨ys,hown,hall⟩:=h;obtain⟨Y,hY⟩:∃Y:Obj,Obj.cells y.cells.toArray 62=Y:=⟨_,rfl⟩;rw[hY];have hs2:(w1.alloc Y).heap.size=w1.heap.size+1:=by simp
 have hb2:Below wr.heap.size wr (w1.alloc Y):=hb1.alloc hb1.size _;have hz1:=hb1.size;have hblk:(w1.alloc Y).heap[w1.heap.size]?=some Y:=Ai w1 Y;have hnews:∀j u,(RV.cells y)[j]?=some u->(w1.alloc Y).cell? ((⟨w1.heap.size,0,none⟩:Addr).add j)=some u:=by
  intro j u hu;rw[BM,AD];rw[<-hY]at hblk⊢;rw[Ae _ _ _ _ _ _ hblk];simpa using hu
 obtain⟨v',w3,hrun,hown3,hgr,hown4⟩:=YP hall.2.1 (NG hown λg _ hg=>hb2.block g hg) y hy.len _ 1 hnews (by omega) (by rw[<-hall.1];exact hlen) ty;have hfar:∀b,b<w1.heap.size+1->it.ownBlock≠some b->w3.heap[b]?=(w1.alloc Y).heap[b]?:=λb hb hne=>hgr.block b (by rw[hs2];exact hb) (λh=>hne h.symm);have hit:∀g,it.ownBlock=some g->g<wr.heap.size:=λg hg=>(OM hown hg).2;have hv':∀b,b<w1.heap.size->it.ownBlock≠some b->v'.ownBlock≠some b:=λb hb hne h=>by
  rcases hown4 with h4|h4
  ·exact hne (h4.symm.trans h)
  ·rw[h4,hs2]at h;cases h;omega
 refine⟨v',w3,hrun,⟨_,hown3,RefsAt.snoc (hall.go λb hb hlt=>⟨?_,hb.1,hv' b (by omega) hb.2⟩) (hy.go λb hb hlt=>⟨?_,by omega,?_⟩)⟩,?_⟩
 ·rw[hfar b (by omega) hb.2];exact hb2.block b hlt
 ·have hne:it.ownBlock≠some b:=λh=>by have:=hit b h;omega
  rw[hfar b (by omega) hne,Au _ _ _ hlt]
 ·refine⟨hgr.os.trans hb2.os,hgr.tape.trans hb2.tape,hgr.output.trans hb2.output,Al hb2.size hgr.size,λb hb=>?_⟩;rw[hfar b (by omega) (λh=>by have:=(OM hown h).1;omega)];exact hb2.block b (by omega)
 ·exact hv' b hlt (λh=>by have:=hit b h;omega)
theorem SoR.kids{v:World}{it:Value}(h:SoR base v it rs):∃ka kc,it= .slice ka rs.length kc/\rs.length<=kc/\kc<=maxLen/\(ka=none->rs.length=0/\kc=0)/\KidsAt (λb=>base<=b) v ka rs:=by
 obtain⟨ys,hown,hall⟩:=h;have hl:=hall.1;rcases hown.2 with⟨rfl,hn0⟩|⟨g,cap,cur,rfl,hbg,hg,hnc,hcm,hcs,htake⟩
 ·have:rs=[]:=Ar (by omega);subst this;exact⟨none,0,rfl,Aa _,by unfold maxLen;omega,λ_=>⟨rfl,rfl⟩,λj r hr=>by simp at hr⟩
 ·refine⟨some ⟨g,0,none⟩,cap,by rw[hl],by omega,hcm,λh=>(by cases h),λj r hj=>?_⟩;have hjl:j<ys.length:=by rw[<-hl];exact(Aw.1 hj).1
  refine⟨g,0,ys[j],rfl,hbg,λk u hu=>?_,(hall.2.2 j _ r (Ac hjl) hj).go λb hb _=>⟨rfl,hb.1⟩⟩;have e:ys=ys.take j++ys[j]::ys.drop (j+1):=by rw[<-Bq hjl,Bf]
  have hl':(ys.take j).length=j:=by rw[Ao];omega
  have hf:=SO (pre:=ys.take j) (post:=ys.drop (j+1)) (λz hz=>hall.2.1 z (Bi hz)) hu;rw[hl',<-e]at hf;have:=DN hown (g:=g) rfl (j*34+k) u hf;rw[BM]at this;rw[show 0+j*34+k=0+(j*34+k)from by omega];exact this
def ddNode(t:T):PN:=
 if t.its.length=2 then
  (if(unpP (t.its.getD 0 t0).bs).2.1=true then⟨1,(unpP (t.its.getD 0 t0).bs).1,(t.its.getD 1 t0).bs,r0,[]⟩
   else⟨2,(unpP (t.its.getD 0 t0).bs).1,[],drefP (t.its.getD 1 t0),[]⟩)
 else⟨3,[],(t.its.getD 16 t0).bs,r0,(t.its.take 16).map drefP⟩
theorem SY(h:refOfP u=some r):r=drefP u:=by
 unfold refOfP at h;unfold drefP;by_cases hl:u.l=true
 ·rw[Af hl]at h⊢;by_cases hm:(mP u).2=0
  ·rw[Af hm]at h;cases h;rw[Gt hm]
  ·rw[Ad hm]at h;cases h
 ·rw[Ad hl]at h⊢;by_cases h0:u.bs.length=0
  ·rw[Af h0]at h;cases h;rw[Ad (by omega)]
  ·rw[Ad h0]at h;by_cases h32:u.bs.length=32
   ·rw[Af h32]at h⊢;cases h;rfl
   ·rw[Ad h32]at h;cases h
theorem SZ:∀{ts:List T}{ks:List PR},kidsP ts=some ks->ks=ts.map drefP
 |[],ks,h=>by cases h;rfl
 |t::l,ks,h=>by
  rw[kidsP]at h;cases hr:refOfP t with
  |none=>rw[hr]at h;cases h
  |some a=>
   rw[hr]at h;dsimp only at h;cases hk:kidsP l with
   |none=>rw[hk]at h;cases h
   |some l'=>
    rw[hk]at h;cases h;rw[B9,<-SZ hk,<-SY hr]
theorem NH{t:T}{n:PN}(h:nodeOfP t=some n):n=ddNode t/\(t.its.length=2∨t.its.length=17):=by
 unfold nodeOfP at h;unfold ddNode;by_cases h2:t.its.length=2
 ·rw[Af h2]at h⊢;refine⟨?_, .inl h2⟩;unfold pathP at h;split at h
  ·cases h
  ·split at h
   ·rename_i hlf;rw[Af hlf];split at h
    ·cases h
    ·cases h;rfl
   ·rename_i hlf;rw[Ad hlf];cases hq:refOfP (t.its.getD 1 t0)with
    |none=>rw[hq]at h;cases h
    |some c=>rw[hq]at h;cases h;rw[<-SY hq]
 ·rw[Ad h2]at h⊢;by_cases h17:t.its.length=17
  ·rw[Af h17]at h;refine⟨?_, .inr h17⟩;unfold branchP at h;cases hk:kidsP (t.its.take 16)with
   |none=>rw[hk]at h;cases h
   |some ks=>
    rw[hk]at h;dsimp only at h;split at h
    ·cases h
    ·cases h;rw[<-SZ hk]
  ·rw[Ad h17]at h;cases h
theorem Xai{e:Nat}(hb:isB b)(hd:decP b= .bad e):ND b=none:=by rw[Sv hb,hd]
theorem XaA{t:T}(hb:isB b)(hd:decP b= .ok t)(h:¬(t.its.length=2∨t.its.length=17)):ND b=none:=by
 cases hn:ND b with
 |none=>rfl
 |some n=>
  obtain⟨t',h1,h2,_⟩:=Ga hb hn;rw[hd]at h1;cases h1;exact absurd (NH h2).2 h
theorem Rx{t:T}(hb:isB b)(hd:decP b= .ok t)(ho:okN (ddNode t)):ND b=if NR (ddNode t)=true/\NE (ddNode t)=b then some (ddNode t)else none:=by
 by_cases h:NR (ddNode t)=true/\NE (ddNode t)=b
 ·rw[Af h];have:=ZE ho h.1 (by rw[h.2];exact hb);rwa [h.2]at this
 ·rw[Ad h];cases hn:ND b with
  |none=>rfl
  |some n=>
   obtain⟨t',h1,h2,_⟩:=Ga hb hn;rw[hd]at h1;cases h1;obtain⟨h3,h4,_⟩:=Nl hb hn;rw[(NH h2).1]at h3 h4;exact absurd ⟨h3,h4⟩ h
theorem Mv{t:T}(hb:isB b)(h:decP b= .ok t)(hu:u∈t.its):(drefP u).i.length<b.length:=by
 have hs:=(Jk hb h hu).1;unfold drefP;split
 ·by_cases hm:(mP u).2=0
  ·rw[Gt hm];exact hs
  ·rw[Oy hm];simp;omega
 ·split
  ·simp;omega
  ·show(0:Nat)<_;omega
theorem Ry{t:T}(hb:isB b)(h:decP b= .ok t)(hl:t.its.length=2∨t.its.length=17):∀r,(r=(ddNode t).c∨r∈(ddNode t).ks)->r.i.length<b.length:=by
 have h0:r0.i.length<b.length:=by have:=(Jk hb h (FC (l:=t.its) (i:=0) (by omega))).1;show 0<_;omega
 intro r hr;unfold ddNode at hr;by_cases h2:t.its.length=2
 ·rw[Af h2]at hr;split at hr
  ·rcases hr with rfl|hr
   ·exact h0
   ·cases hr
  ·rcases hr with rfl|hr
   ·exact Mv hb h (FC (by omega))
   ·cases hr
 ·rw[Ad h2]at hr;rcases hr with rfl|hr
  ·exact h0
  ·obtain⟨u,hu,rfl⟩:=BE.1 hr;exact Mv hb h (Bi hu)
end Go.Proofs.YtalhnnjpjaeakaaGreat
namespace Go.Proofs.YtalhnnjpjaeakaaGreat.Ni
theorem UB{b:List Int}(h:0<b.length):(nib b).getD 0 0=b.getD 0 0/16/\(nib b).getD 1 0=b.getD 0 0%16:=by
 cases b with
 |nil=>simp at h
 |cons c r=>exact⟨rfl,rfl⟩
theorem ag_drop{w:World}{g off n c k:Nat}{bs:List Int}(h:Ag w (some ⟨g,off,none⟩) n c bs)(hk:k<n):Ag w (some ⟨g,off+k,none⟩) (n-k) (c-k) (bs.drop k):=by
 have hl:=h.l;rcases h.i with⟨h0,_⟩|⟨gb,off',h1,h2,h3,h4,h5,h7⟩
 ·omega
 ·injection h1 with h1;injection h1 with e1 e2;subst e1 e2;refine⟨.inr ⟨g,off+k,rfl,by rw[AQ];omega,by omega,by omega,by omega,λj hj=>?_⟩,(λh=>by cases h),by rw[AQ];omega,OU h.b k⟩;rw[AQ]at hj;rw[MV,CC];exact h7 (k+j) (by omega)
theorem JE(w:World)(a:Option Addr)(c:Nat)(h:a=none->c=0):Ag w a 0 c []:=⟨.inl ⟨rfl,rfl⟩,λe=>⟨rfl,h e⟩,rfl,λx hx=>by cases hx⟩
theorem runpack_any(a:Option Addr)(n c:Nat)(b:List Int)(w:World)(h:Ag w a n c b)(hn:2*n<=140737488355328):
 Calls prog 148 #[.slice a n c] w λe w'=>(∃a' m c',e= .returned (.tuple #[.slice a' m c', .bool (unpP b).2.1, .int .i64 ((unpP b).2.2:Nat)])/\Ag w' a' m c' (unpP b).1/\(∀g off,a'=some ⟨g,off,none⟩->0<m->w.heap.size<=g))/\Below w.heap.size w w':=by
 have hl:=h.l;have hof:=rof_any a n c b w h hn;by_cases h0:n=0
 ·subst h0;have e:b=[]:=Ar hl;subst e;rw[RU];simp only;have HOF:=Xba hof;clear h hl hof;go_enter func148,ntmps148;go_wp2_with fail;refine HOF.out.mono ?_;rintro e w1⟨⟨a1,c1,rfl,_,_,_,_⟩,hb⟩;rw[Nat.mul_zero];have HB:=Xba hb;clear hb;go_wp2_with fail;go_ret3;exact⟨⟨none,0,0,rfl,ag_nil _,λg off h=>by cases h⟩,HB.out⟩
 have hx:=h.b _ (getD_mem (l:=b) (i:=0) (by omega));have hbad:=RX (b:=b) (by omega);have hgood:=OZ (b:=b) (by omega);obtain⟨e0,e1⟩:=UB (b:=b) (by omega);generalize b.getD 0 0=x at*;obtain⟨hx0,hx1⟩:=hx;obtain⟨f,hf⟩:∃f,x/16=f:=⟨_,rfl⟩;obtain⟨s,hs⟩:∃s,x%16=s:=⟨_,rfl⟩;have hxs:badU x↔(f>3∨(f%2=0/\s≠0)):=by unfold badU;rw[hf,hs]
 rw[hf]at e0 hgood;rw[hs]at e1;have hf0:0<=f:=by omega
 have hf1:f<=15:=by omega
 have hs0:0<=s:=by omega
 have hs1:s<=15:=by omega
 obtain⟨N,hN⟩:∃N,nib b=N:=⟨_,rfl⟩;rw[hN]at e0 e1 hof hgood;clear hf hs hx0 hx1 hN;obtain⟨M,hM⟩:∃M,2*n=M:=⟨_,rfl⟩;have hM2:2<=M:=by omega
 rw[hM]at hof hn;have HOF:=Xba hof;have hMi:((M:Int)==0)=false:=by rw[BB];omega
 have hMi0:(0:Int)<M:=by omega
 have hMi1:(1:Int)<M:=by omega
 clear h hl hof hM h0;have hstep:∀(g off c1:Nat)(w1:World),Ag w1 (some ⟨g,off,none⟩) M c1 N->w1.cell? ⟨g,off,none⟩=some (.int .u8 f)/\w1.cell? ⟨g,off+1,none⟩=some (.int .u8 s):=by
  intro g off c1 w1 hag;obtain⟨g',off',h1,h2,h3,h4⟩:=ag_head hag (by omega);injection h1 with h1;injection h1 with e2 e3;subst e2 e3;have h5:=h4 0 (by omega);have h6:=h4 1 (by omega);rw[e0,C5]at h5;rw[e1]at h6;exact⟨h5,h6⟩
 have HST:=Xba hstep;clear hstep e0 e1;have hsome:∀(a1:Option Addr)(c1:Nat)(w1:World),Ag w1 a1 M c1 N->∃g off,a1=some ⟨g,off,none⟩:=by
  intro a1 c1 w1 hag;obtain⟨g',off',h1,_⟩:=ag_head hag (by omega);exact⟨g',off',h1⟩
 have HSM:=Xba hsome;clear hsome;by_cases h3:f>3
 ·rw[hbad (hxs.2 (.inl h3))];simp only;clear hbad hgood hxs;go_enter func148,ntmps148;go_wp2_with fail;refine HOF.out.mono ?_;rintro e w1⟨⟨a1,c1,rfl,hc1,hc2,hag,hnw⟩,hb⟩;obtain⟨g,off,rfl⟩:=HSM.out _ _ _ hag;have HNW:=Xba (show w.heap.size<=g from hnw (by omega) g off rfl);clear hnw;obtain⟨z0,z1⟩:=HST.out _ _ _ _ hag;unfold maxLen at hc2;have HB:=Xba hb;clear hb hag;go_wp2_with fail;go_ret3;exact⟨⟨none,0,0,rfl,ag_nil _,λg off h=>by cases h⟩,HB.out⟩
 have hf4:f=0∨f=1∨f=2∨f=3:=by omega
 clear h3 hf0 hf1;rcases hf4 with rfl|rfl|rfl|rfl
 ·
  by_cases hs:s=0
  ·
   subst hs;rw[hgood (λhb=>by have:=hxs.1 hb;omega),Af (by omega)];simp only;rw[AU (by omega)];clear hbad hgood hxs;go_enter func148,ntmps148;go_wp2_with fail;refine HOF.out.mono ?_;rintro e w1⟨⟨a1,c1,rfl,hc1,hc2,hag,hnw⟩,hb⟩;obtain⟨g,off,rfl⟩:=HSM.out _ _ _ hag;have HNW:=Xba (show w.heap.size<=g from hnw (by omega) g off rfl);clear hnw;obtain⟨z0,z1⟩:=HST.out _ _ _ _ hag;unfold maxLen at hc2;have HB:=Xba hb;have HAG:=Xba hag;have hci:(2:Int)<=c1:=(by omega);have hcm:(M:Int)<=c1:=(by omega);have hmm:(2:Int)<=M:=(by omega);clear hb hag;by_cases hcf:c1=2
   ·have hM3:M=2:=(by omega);subst hM3;subst hcf;have HNN:Hid (N.drop 2=[]):=Xba (Br (by rw[HAG.out.l];exact Aa _));go_wp2_with fail
    go_region
    all_goals
     go_wp2_with fail;go_ret3;exact⟨⟨_,_,_,rfl,by rw[HNN.out];exact JE _ _ _ (λ_=>rfl),λg off h=>by first|(cases h;done)|(intro _;cases h;exact HNW.out)⟩,HB.out.drew⟩
   ·by_cases hM3:M=2
    ·subst hM3;have HNN:Hid (N.drop 2=[]):=Xba (Br (by rw[HAG.out.l];exact Aa _));go_wp2_with fail
     go_region
     all_goals
      go_wp2_with fail;go_ret3;exact⟨⟨_,_,_,rfl,by rw[HNN.out];exact JE _ _ _ (λh=>by cases h),λg off h _=>by cases h;exact HNW.out⟩,HB.out.drew⟩
    ·go_wp2_with fail
     go_region
     all_goals
      go_wp2_with fail;go_ret3;exact⟨⟨_,_,_,rfl,(ag_drop HAG.out (k:=2) (by omega)).drewN,λg off h _=>by cases h;exact HNW.out⟩,HB.out.drew⟩
  ·
   rw[hbad (hxs.2 (.inr ⟨by omega,hs⟩))];simp only;clear hbad hgood hxs;have hsb:(s !=0)=true:=(by rw[BL];exact hs);clear hs;go_enter func148,ntmps148;go_wp2_with fail;refine HOF.out.mono ?_;rintro e w1⟨⟨a1,c1,rfl,hc1,hc2,hag,hnw⟩,hb⟩;obtain⟨g,off,rfl⟩:=HSM.out _ _ _ hag;have HNW:=Xba (show w.heap.size<=g from hnw (by omega) g off rfl);clear hnw;obtain⟨z0,z1⟩:=HST.out _ _ _ _ hag;unfold maxLen at hc2;have HB:=Xba hb;clear hb hag;go_wp2_with fail;go_ret3;exact⟨⟨none,0,0,rfl,ag_nil _,λg off h=>by cases h⟩,HB.out⟩
 ·
  rw[hgood (λhb=>by have:=hxs.1 hb;omega),Ad (by omega)];simp only;rw[AU (by omega)];clear hbad hgood hxs;go_enter func148,ntmps148;go_wp2_with fail;refine HOF.out.mono ?_;rintro e w1⟨⟨a1,c1,rfl,hc1,hc2,hag,hnw⟩,hb⟩;obtain⟨g,off,rfl⟩:=HSM.out _ _ _ hag;have HNW:=Xba (show w.heap.size<=g from hnw (by omega) g off rfl);clear hnw;obtain⟨z0,z1⟩:=HST.out _ _ _ _ hag;unfold maxLen at hc2;have HB:=Xba hb;have HAG:=Xba hag;have hci:(1:Int)<=c1:=by omega
  have hcm:(M:Int)<=c1:=by omega
  have hmm:(1:Int)<=M:=by omega
  have hcf:¬c1=1:=by omega
  clear hb hag;go_wp2_with fail
  go_region
  all_goals
   go_wp2_with fail;go_ret3;exact⟨⟨_,_,_,rfl,(ag_drop HAG.out (k:=1) (by omega)).drewN,λg off h _=>by cases h;exact HNW.out⟩,HB.out.drew⟩
 ·
  by_cases hs:s=0
  ·
   subst hs;rw[hgood (λhb=>by have:=hxs.1 hb;omega),Af (by omega)];simp only;rw[AT (by omega)];clear hbad hgood hxs;go_enter func148,ntmps148;go_wp2_with fail;refine HOF.out.mono ?_;rintro e w1⟨⟨a1,c1,rfl,hc1,hc2,hag,hnw⟩,hb⟩;obtain⟨g,off,rfl⟩:=HSM.out _ _ _ hag;have HNW:=Xba (show w.heap.size<=g from hnw (by omega) g off rfl);clear hnw;obtain⟨z0,z1⟩:=HST.out _ _ _ _ hag;unfold maxLen at hc2;have HB:=Xba hb;have HAG:=Xba hag;have hci:(2:Int)<=c1:=(by omega);have hcm:(M:Int)<=c1:=(by omega);have hmm:(2:Int)<=M:=(by omega);clear hb hag;by_cases hcf:c1=2
   ·have hM3:M=2:=(by omega);subst hM3;subst hcf;have HNN:Hid (N.drop 2=[]):=Xba (Br (by rw[HAG.out.l];exact Aa _));go_wp2_with fail
    go_region
    all_goals
     go_wp2_with fail;go_ret3;exact⟨⟨_,_,_,rfl,by rw[HNN.out];exact JE _ _ _ (λ_=>rfl),λg off h=>by first|(cases h;done)|(intro _;cases h;exact HNW.out)⟩,HB.out.drew⟩
   ·by_cases hM3:M=2
    ·subst hM3;have HNN:Hid (N.drop 2=[]):=Xba (Br (by rw[HAG.out.l];exact Aa _));go_wp2_with fail
     go_region
     all_goals
      go_wp2_with fail;go_ret3;exact⟨⟨_,_,_,rfl,by rw[HNN.out];exact JE _ _ _ (λh=>by cases h),λg off h _=>by cases h;exact HNW.out⟩,HB.out.drew⟩
    ·go_wp2_with fail
     go_region
     all_goals
      go_wp2_with fail;go_ret3;exact⟨⟨_,_,_,rfl,(ag_drop HAG.out (k:=2) (by omega)).drewN,λg off h _=>by cases h;exact HNW.out⟩,HB.out.drew⟩
  ·
   rw[hbad (hxs.2 (.inr ⟨by omega,hs⟩))];simp only;clear hbad hgood hxs;have hsb:(s !=0)=true:=(by rw[BL];exact hs);clear hs;go_enter func148,ntmps148;go_wp2_with fail;refine HOF.out.mono ?_;rintro e w1⟨⟨a1,c1,rfl,hc1,hc2,hag,hnw⟩,hb⟩;obtain⟨g,off,rfl⟩:=HSM.out _ _ _ hag;have HNW:=Xba (show w.heap.size<=g from hnw (by omega) g off rfl);clear hnw;obtain⟨z0,z1⟩:=HST.out _ _ _ _ hag;unfold maxLen at hc2;have HB:=Xba hb;clear hb hag;go_wp2_with fail;go_ret3;exact⟨⟨none,0,0,rfl,ag_nil _,λg off h=>by cases h⟩,HB.out⟩
 ·
  rw[hgood (λhb=>by have:=hxs.1 hb;omega),Ad (by omega)];simp only;rw[AT (by omega)];clear hbad hgood hxs;go_enter func148,ntmps148;go_wp2_with fail;refine HOF.out.mono ?_;rintro e w1⟨⟨a1,c1,rfl,hc1,hc2,hag,hnw⟩,hb⟩;obtain⟨g,off,rfl⟩:=HSM.out _ _ _ hag;have HNW:=Xba (show w.heap.size<=g from hnw (by omega) g off rfl);clear hnw;obtain⟨z0,z1⟩:=HST.out _ _ _ _ hag;unfold maxLen at hc2;have HB:=Xba hb;have HAG:=Xba hag;have hci:(1:Int)<=c1:=by omega
  have hcm:(M:Int)<=c1:=by omega
  have hmm:(1:Int)<=M:=by omega
  have hcf:¬c1=1:=by omega
  clear hb hag;go_wp2_with fail
  go_region
  all_goals
   go_wp2_with fail;go_ret3;exact⟨⟨_,_,_,rfl,(ag_drop HAG.out (k:=1) (by omega)).drewN,λg off h _=>by cases h;exact HNW.out⟩,HB.out.drew⟩
end Go.Proofs.YtalhnnjpjaeakaaGreat.Ni
