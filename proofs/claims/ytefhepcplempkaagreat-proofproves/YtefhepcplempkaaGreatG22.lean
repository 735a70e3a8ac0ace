/- What the document's Key answers. -/
import Derived.Test.YtefhepcplempkaaGreatAK
import Derived.Test.YtefhepcplempkaaGreatG19
import Derived.Test.YtefhepcplempkaaGreatG10
import Derived.Test.YtefhepcplempkaaGreatG01
import Derived.Deep.RegionLaw
import Derived.Test.YtefhepcplempkaaGreatG13
import Derived.Test.YtefhepcplempkaaGreatG21
import Derived.Test.YtefhepcplempkaaGreatG09
import Derived.Test.YtefhepcplempkaaGreatG12
import Derived.Great.BuildSlice
import Derived.Great.FillDense
import Derived.Test.YtefhepcplempkaaGreatG14
set_option linter.unusedVariables false
set_option maxRecDepth 100000
set_option maxHeartbeats 8000000
open Go.Proofs.Tryz Go.RowKit
namespace Go.Proofs.YtefhepcplempkaaGreat.Ni
theorem Ww{ops:Array Oper}{o:Oper}{a:Act}{w:World}{K:Act->World->Prop}{Q:Exit->Act->World->Prop}{E:Prop}(hgd:o.guard=none)(s x:Operand)
 (ho:o.op= .call {callee:= .builtin .append,args:=#[s,x],argTypes:=#[23,23]}) (base:Nat) (v:Value) (bs:List Int) (hs:a.eval s=v) (hown:OwnB w base v bs)
 (ad:Addr) (m c:Nat) (news:List Int) (hx:a.eval x= .slice (some ad) m c) (hl:news.length=m) (hnews:∀j u,(news.map (Value.int .u8))[j]?=some u->w.cell? (ad.add j)=some u)
 (hbytes:bs.length+m<=140737488355328) (hbase:base<=w.heap.size)
 (h:∀v' w',OwnB w' base v' (bs++news)->Below base w w'->K (a.put o.dst v') w'):if Region.wanted o (yielded ops a.tmps)=true then Oper.wp prog o a w K Q else E:=by
 have hw:Region.wanted o (yielded ops a.tmps)=true:=by simp[Region.wanted,hgd]
 rw[Ai hw];obtain⟨i,hi,hz,hsz,hby⟩:=info5;refine wp_append_own w s x 23 ho base 5 i (.int .u8 0) 1 1 underlying23 hi hz hsz hby rfl (by decide) v bs.length (bs.map (Value.int .u8)) hs hown ad m c (news.map (Value.int .u8)) hx (by simpa using hl) hnews (B8_one2 _) (by unfold maxLen;omega) (by omega) hbase ?_;intro v' w' h1 h2 h3;refine h v' w' ?_ ((Ak _ _).grown h2 hbase hown.lt);unfold OwnB;rw[Ab,hl,BB];exact h1
theorem _root_.Go.Proofs.YtefhepcplempkaaGreat.OwnB.drew{w:World}{base:Nat}{v:Value}{bs:List Int}(h:OwnB w base v bs):OwnB w.drew base v bs:=h.far λi _ _=>rfl
theorem Wx(a:Option Addr)(n c:Nat)(p:List Int)(w:World)(h:Ag w a n c p)(hn:n<=140737488355328):
 Calls prog 122 #[.slice a n c] w λe w'=>(∃a' m' c',e= .returned (.tuple #[.slice a' m' c', .bool (keyP p).2])/\Ag w' a' m' c' (keyP p).1/\∀g off,a'=some ⟨g,off,none⟩->0<m'->w.heap.size<=g)/\Below w.heap.size w w':=by
 have hl:=h.l;have hr:=rright_any a n c p w h hn;by_cases hrt:rightP p=true
 case neg=>
  rw[GM (λhh=>hrt hh.1)];simp only;rw[show rightP p=false from by simpa using hrt]at hr;clear h hl hrt;go_enter func122,ntmps122;go_wp2_with fail;refine hr.mono ?_;rintro e w1⟨rfl,rfl⟩;clear hr;go_wp2_with fail;go_ret2;exact⟨⟨none,0,0,rfl,ag_nil _,λ_ _ e=>by cases e⟩,Ak _ _⟩
 rw[hrt]at hr;by_cases he:n%2=0
 case neg=>
  rw[GM (λhh=>he (by rw[<-hl];exact hh.2))];simp only;have hei:(n:Int)%2=1:=by omega
  clear h hl he;go_enter func122,ntmps122;go_wp2_with fail;refine hr.mono ?_;rintro e w1⟨rfl,rfl⟩;clear hr;go_wp2_with fail;go_ret2;exact⟨⟨none,0,0,rfl,ag_nil _,λ_ _ e=>by cases e⟩,Ak _ _⟩
 rw[Hk hrt (by omega)];simp only;obtain⟨m,hm⟩:∃m,n/2=m:=⟨_,rfl⟩;have HM:Hid (n=2*m):=ZQ (by omega);have HKL:Hid ((kk p).length=m):=ZQ (by rw[Lo];omega);have HKB:=ZQ (N5 p h.b hrt);have HL:=ZQ hl;have HB:=ZQ h.b;have HRT:=ZQ hrt;have HC:=ZQ (λh0=>ag_head h h0);have hm3:(n:Int)%2=0:=by omega
 clear h hl hrt hm he;go_enter func122,ntmps122;go_wp2_with fail;refine hr.mono ?_;rintro e w1⟨rfl,rfl⟩;clear hr;go_wp2_with fail;clear hm3
 go_loopw [4,5] (λq i v=>∃j k:Nat,j=2*k/\j<=n/\i= .int .i64 j/\OwnB v w1.heap.size q ((kk p).take k)/\Below w1.heap.size w1 v) (λ_ i _=>n-(intOf i).toNat)
 case atStart=>exact⟨0,0,rfl,by omega,rfl,ownB_nil _ _,Ak _ _⟩
 case round=>
  obtain⟨j,k,hjk,hjn,rfl,hown,hb⟩:=hrel;have HJ:=ZQ hjk;by_cases hlt:j<n
  ·have hki:((j:Int)+1)<n:=(by have:=HM.out;omega);have hki0:(j:Int)<n:=(by omega);have hget:=N3 p k (by have:=HL.out;have:=HM.out;omega);have hts:=take_snoc (b:=kk p) (i:=k) (by have:=HKL.out;have:=HM.out;omega);rw[hget]at hts;obtain⟨g,off,rfl,hnc,hcm,hcs⟩:=HC.out (by omega);unfold maxLen at hcm;have hc1:=(hb.cell (p:=⟨g,off+(2*k),none⟩) (Af (hcs (2*k) (by omega)))).trans (hcs (2*k) (by omega));have hc2:=(hb.cell (p:=⟨g,off+(2*k+1),none⟩) (Af (hcs (2*k+1) (by omega)))).trans (hcs (2*k+1) (by omega));have hx0:=(HB.out _ (getD_mem (l:=p) (i:=2*k) (by have:=HL.out;omega))).1;have hy0:=(HB.out _ (getD_mem (l:=p) (i:=2*k+1) (by have:=HL.out;omega))).1;have hx1:=Gz HRT.out (i:=2*k) (by have:=HL.out;omega);have hy1:=Gz HRT.out (i:=2*k+1) (by have:=HL.out;omega);generalize p.getD (2*k) 0=x at*;generalize p.getD (2*k+1) 0=y at*;rw[<-hjk]at hc1 hc2;have ht2:((j:Int)+1).toNat=j+1:=(by omega);have ht3:(0:Int)<=(j:Int)+1:=(by omega);have hw1:IntKind.i64.wrap ((j:Int)+1)=(j:Int)+1:=(by rw[IntKind.wrap_i64];omega);have hw2:IntKind.u8.wrap (16*x)=16*x:=(by rw[IntKind.wrap_u8];omega);have hw3:IntKind.u8.wrap (16*x+y)=16*x+y:=(by rw[IntKind.wrap_u8];omega);have HTS:=ZQ hts;have HTL:Hid (((kk p).take k).length=k):=ZQ (by rw[Am,HKL.out];have:=HM.out;omega);have HO2:Hid (∀o:Obj,OwnB (wr.drew.alloc o) w1.heap.size u4 ((kk p).take k)):=ZQ λo=>OwnB.alloc hown.drew o;have HBB:=ZQ hb;have HSZ:=ZQ hb.size;clear hts hown hb hget hcs hjk;go_wp2_with fail
   go_region_law (refine Ww rfl (.tmp 22) (.tmp 34) rfl w1.heap.size _ ((kk p).take k) rfl (HO2.out _) ⟨wr.heap.size,0,none⟩ 1 1 [16*x+y] rfl rfl (one_new wr.drew _) (by have:=HTL.out;have:=HJ.out;omega) (by have:=HSZ.out;simp;omega) ?_;intro v1 w2 o1 hb1;rw[<-HTS.out]at o1;have HO3:=ZQ o1;have HB3:=ZQ hb1;clear o1 hb1)
   all_goals
    go_wp2_with fail;refine⟨⟨j+2,k+1,by have:=HJ.out;omega,by omega,by simp,HO3.out,?_⟩,by simp[intOf];omega⟩;exact(HBB.out.drew.alloc HSZ.out _).trans HB3.out
  ·have hki:¬((j:Int)+1)<n:=(by omega);have e:k=m:=(by have:=HM.out;omega);subst e;rw[A8 (by rw[HKL.out];exact Aa _)]at hown;obtain⟨a',c',rfl,hag⟩:=OwnB.ag hown HKB.out
   have HN:Hid (∀g off,a'=some ⟨g,off,none⟩->0<k->w1.heap.size<=g):=ZQ (by
    rcases hown.2 with⟨e,_⟩|⟨g',cap',cur,e,hg',_⟩
    ·injection e with e1;rw[e1];intro _ _ q;cases q
    ·injection e with e1;rw[e1];intro _ _ q;cases q;exact λ_=>hg')
   have HA:=ZQ hag;have HBB:=ZQ hb;clear hown hag hb hjk;go_wp2_with fail;go_ret2;exact⟨⟨a',_,c',rfl,HA.out,λg off e h0=>HN.out g off e (by have:=HA.out.l;have:=HKL.out;omega)⟩,HBB.out⟩
theorem JN(a:Option Addr)(n c:Nat)(p:List Int)(w:World)(h:Ag w a n c p)(hn:n<=140737488355328):
 Calls prog 122 #[.slice a n c] w λe w'=>(∃a' m' c',e= .returned (.tuple #[.slice a' m' c', .bool (keyP p).2])/\Ag w' a' m' c' (keyP p).1)/\Below w.heap.size w w':=
 (Wx a n c p w h hn).mono λe w' hq=>by obtain⟨⟨a',m',c',h1,h2,_⟩,h3⟩:=hq;exact⟨⟨a',m',c',h1,h2⟩,h3⟩
end Go.Proofs.YtefhepcplempkaaGreat.Ni
namespace Go.Proofs.YtefhepcplempkaaGreat.Ni
theorem Z7(n:Nat)(leaf:Bool):hdP n leaf=if n%2=0 then[if leaf then 2 else 0]++[0]else[if leaf then 3 else 1]:=by
 unfold hdP;cases leaf<;>rfl
theorem rpack_any(a:Option Addr)(n c:Nat)(p:List Int)(leaf:Bool)(w:World)(h:Ag w a n c p)(hn:n+2<=140737488355328):
 Calls prog 87 #[.slice a n c, .bool leaf] w λe w'=>(∃a' m c',e= .returned (.tuple #[.slice a' m c', .int .i64 ((packP p leaf).2:Nat)])/\Ag w' a' m c' (packP p leaf).1)/\Below w.heap.size w w':=by
 have hl:=h.l;have hr:=rright_any a n c p w h (by omega);by_cases hrt:rightP p=true
 case neg=>
  rw[Uq hrt];simp only;rw[show rightP p=false from by simpa using hrt]at hr;clear h hl hrt;go_enter func87,ntmps87;go_wp2_with fail;refine hr.mono ?_;rintro e w1⟨rfl,rfl⟩;clear hr;go_wp2_with fail;go_ret2;exact⟨⟨none,0,0,rfl,ag_nil _⟩,Ak _ _⟩
 rw[packP_yes hrt];simp only;rw[hrt]at hr;have hpk:=O9 (p:=p) (leaf:=leaf);rw[Ai hrt]at hpk;have hfb:=Lq (p:=p) (leaf:=leaf) h.b;rw[hl]at hpk hfb⊢;have hho:=Z7 n leaf;have hhl:=hd_len n leaf;have HHL:Hid ((hdP n leaf).length<=2):=ZQ (by omega);have HPK:=ZQ hpk;have HFB:=ZQ hfb;have HAG:=ZQ h;have HL:=ZQ hl;have HR:=ZQ hr;generalize hdP n leaf=hd at*;clear hpk hfb h hl hr hrt hhl;by_cases he:n%2=0
 ·rw[Ai he]at hho;have hei:(n:Int)%2=0:=by omega
  have HHO:=ZQ hho;clear hho he;cases leaf with
  |true=>
   simp only[if_true]at HHO;go_enter func87,ntmps87;go_wp2_with fail;refine HR.out.mono ?_;rintro e w1⟨rfl,rfl⟩;clear HR
   go_wp2_with (first
    |(at_builtin;refine DL rfl (.tmp 26) (.tmp 27) rfl w1.heap.size _ [2] rfl (OwnB.alloc (GE w1 _) _) (some ⟨w1.heap.size+1,0,none⟩) 1 1 [0] rfl (by have:=in0_one (w1.alloc (.cells #[.int .u8 2] 5)) 0;simpa using this) (λh=>by cases h) rfl (by show 1+1<=140737488355328;omega) (by simp;omega) ?_;intro v1 w2 o1 hb1;rw[<-HHO.out]at o1;have HO1:=ZQ o1;have HB1:=ZQ ((((Ak w1.heap.size w1).alloc (Aa _) _).alloc (by simp) _).trans hb1);clear o1 hb1)
    |(at_builtin;refine DL rfl (.tmp 29) (.tmp 30) rfl w1.heap.size _ hd rfl HO1.out a n c p rfl (HAG.out.at HB1.out).i HAG.out.nil HAG.out.l (by have:=HHL.out;omega) HB1.out.size ?_;intro v2 w3 o2 hb2;obtain⟨a2,c2,rfl,hag2⟩:=OwnB.ag o2 HFB.out;have HB2:=ZQ (HB1.out.trans hb2);have HA2:=ZQ hag2;clear o2 hb2 hag2;generalize hgl:(hd++p).length=len2 at HA2⊢;have HGL:=ZQ hgl;clear hgl))
   have hk:=JN a2 len2 c2 (hd++p) _ HA2.out (by have h1:=HGL.out;rw[Ab,HL.out]at h1;have:=HHL.out;omega);rw[HPK.out]at hk;simp only at hk;have HK:=ZQ hk;clear hk;refine HK.out.mono ?_;rintro e w9⟨⟨a3,m3,c3,rfl,hag3⟩,hb3⟩;have HA3:=ZQ hag3;have HB3:=ZQ (HB2.out.trans (hb3.mono HB2.out.size));clear hag3 hb3;go_wp2_with fail;go_ret2;exact⟨⟨a3,m3,c3,rfl,HA3.out⟩,HB3.out⟩
  |false=>
   simp only[Cd,Er]at HHO;go_enter func87,ntmps87;go_wp2_with fail;refine HR.out.mono ?_;rintro e w1⟨rfl,rfl⟩;clear HR
   go_wp2_with (first
    |(at_builtin;refine DL rfl (.tmp 26) (.tmp 27) rfl w1.heap.size _ [0] rfl (OwnB.alloc (GE w1 _) _) (some ⟨w1.heap.size+1,0,none⟩) 1 1 [0] rfl (by have:=in0_one (w1.alloc (.cells #[.int .u8 0] 5)) 0;simpa using this) (λh=>by cases h) rfl (by show 1+1<=140737488355328;omega) (by simp;omega) ?_;intro v1 w2 o1 hb1;rw[<-HHO.out]at o1;have HO1:=ZQ o1;have HB1:=ZQ ((((Ak w1.heap.size w1).alloc (Aa _) _).alloc (by simp) _).trans hb1);clear o1 hb1)
    |(at_builtin;refine DL rfl (.tmp 29) (.tmp 30) rfl w1.heap.size _ hd rfl HO1.out a n c p rfl (HAG.out.at HB1.out).i HAG.out.nil HAG.out.l (by have:=HHL.out;omega) HB1.out.size ?_;intro v2 w3 o2 hb2;obtain⟨a2,c2,rfl,hag2⟩:=OwnB.ag o2 HFB.out;have HB2:=ZQ (HB1.out.trans hb2);have HA2:=ZQ hag2;clear o2 hb2 hag2;generalize hgl:(hd++p).length=len2 at HA2⊢;have HGL:=ZQ hgl;clear hgl))
   have hk:=JN a2 len2 c2 (hd++p) _ HA2.out (by have h1:=HGL.out;rw[Ab,HL.out]at h1;have:=HHL.out;omega);rw[HPK.out]at hk;simp only at hk;have HK:=ZQ hk;clear hk;refine HK.out.mono ?_;rintro e w9⟨⟨a3,m3,c3,rfl,hag3⟩,hb3⟩;have HA3:=ZQ hag3;have HB3:=ZQ (HB2.out.trans (hb3.mono HB2.out.size));clear hag3 hb3;go_wp2_with fail;go_ret2;exact⟨⟨a3,m3,c3,rfl,HA3.out⟩,HB3.out⟩
 ·rw[Ae he]at hho;have hei:(n:Int)%2=1:=by omega
  have HHO:=ZQ hho;clear hho he;cases leaf with
  |true=>
   simp only[if_true]at HHO;go_enter func87,ntmps87;go_wp2_with fail;refine HR.out.mono ?_;rintro e w1⟨rfl,rfl⟩;clear HR;have HO1:Hid (OwnB (w1.alloc (.cells #[.int .u8 3] 5)) w1.heap.size (.slice (some ⟨w1.heap.size,0,none⟩) 1 1) hd):=ZQ (by rw[HHO.out];exact GE w1 _);have HB1:Hid (Below w1.heap.size w1 (w1.alloc (.cells #[.int .u8 3] 5))):=ZQ (below_new _ _)
   go_wp2_with (first
    |(at_builtin;refine DL rfl (.tmp 29) (.tmp 30) rfl w1.heap.size _ hd rfl HO1.out a n c p rfl (HAG.out.at HB1.out).i HAG.out.nil HAG.out.l (by have:=HHL.out;omega) HB1.out.size ?_;intro v2 w3 o2 hb2;obtain⟨a2,c2,rfl,hag2⟩:=OwnB.ag o2 HFB.out;have HB2:=ZQ (HB1.out.trans hb2);have HA2:=ZQ hag2;clear o2 hb2 hag2;generalize hgl:(hd++p).length=len2 at HA2⊢;have HGL:=ZQ hgl;clear hgl))
   have hk:=JN a2 len2 c2 (hd++p) _ HA2.out (by have h1:=HGL.out;rw[Ab,HL.out]at h1;have:=HHL.out;omega);rw[HPK.out]at hk;simp only at hk;have HK:=ZQ hk;clear hk;refine HK.out.mono ?_;rintro e w9⟨⟨a3,m3,c3,rfl,hag3⟩,hb3⟩;have HA3:=ZQ hag3;have HB3:=ZQ (HB2.out.trans (hb3.mono HB2.out.size));clear hag3 hb3;go_wp2_with fail;go_ret2;exact⟨⟨a3,m3,c3,rfl,HA3.out⟩,HB3.out⟩
  |false=>
   simp only[Cd,Er]at HHO;go_enter func87,ntmps87;go_wp2_with fail;refine HR.out.mono ?_;rintro e w1⟨rfl,rfl⟩;clear HR;have HO1:Hid (OwnB (w1.alloc (.cells #[.int .u8 1] 5)) w1.heap.size (.slice (some ⟨w1.heap.size,0,none⟩) 1 1) hd):=ZQ (by rw[HHO.out];exact GE w1 _);have HB1:Hid (Below w1.heap.size w1 (w1.alloc (.cells #[.int .u8 1] 5))):=ZQ (below_new _ _)
   go_wp2_with (first
    |(at_builtin;refine DL rfl (.tmp 29) (.tmp 30) rfl w1.heap.size _ hd rfl HO1.out a n c p rfl (HAG.out.at HB1.out).i HAG.out.nil HAG.out.l (by have:=HHL.out;omega) HB1.out.size ?_;intro v2 w3 o2 hb2;obtain⟨a2,c2,rfl,hag2⟩:=OwnB.ag o2 HFB.out;have HB2:=ZQ (HB1.out.trans hb2);have HA2:=ZQ hag2;clear o2 hb2 hag2;generalize hgl:(hd++p).length=len2 at HA2⊢;have HGL:=ZQ hgl;clear hgl))
   have hk:=JN a2 len2 c2 (hd++p) _ HA2.out (by have h1:=HGL.out;rw[Ab,HL.out]at h1;have:=HHL.out;omega);rw[HPK.out]at hk;simp only at hk;have HK:=ZQ hk;clear hk;refine HK.out.mono ?_;rintro e w9⟨⟨a3,m3,c3,rfl,hag3⟩,hb3⟩;have HA3:=ZQ hag3;have HB3:=ZQ (HB2.out.trans (hb3.mono HB2.out.size));clear hag3 hb3;go_wp2_with fail;go_ret2;exact⟨⟨a3,m3,c3,rfl,HA3.out⟩,HB3.out⟩
end Go.Proofs.YtefhepcplempkaaGreat.Ni
namespace Go.Proofs.YtefhepcplempkaaGreat
variable {base gI m c : Nat} {w1 w u : World} {y : V} {x : NV} {a : Option Addr} {pk : List Int}
theorem round_any{wr:World}{it:Value}{ys:List V}(hz:base<=wr.heap.size)(hown:OwnI wr base it ys)(hb1:Below wr.heap.size wr w1)(hlen:ys.length<=1000000000)(ty:TypeId):
 ∃v' w3,(Builtin.append_ #[107,107] ty #[it, .slice (some ⟨w1.heap.size,0,none⟩) 1 1]).run prog (w1.alloc (.cells #[.bool y.l, .slice y.ba y.bn y.bc, .slice y.ia y.m y.ic] 109))= .ok v' w3/\
  OwnI w3 base v' (ys++[y])/\Below base wr w3/\(∀b,wr.heap.size<=b->b<w1.heap.size->w3.heap[b]?=w1.heap[b]?):=by
 obtain⟨Y,hY⟩:∃Y:Obj,Obj.cells #[.bool y.l, .slice y.ba y.bn y.bc, .slice y.ia y.m y.ic] 109=Y:=⟨_,rfl⟩;rw[hY];have hs2:(w1.alloc Y).heap.size=w1.heap.size+1:=by simp
 have hb2:Below wr.heap.size wr (w1.alloc Y):=hb1.alloc hb1.size _;have hz1:=hb1.size;have hblk:(w1.alloc Y).heap[w1.heap.size]?=some Y:=Aj w1 Y;have hnews:∀j u,(V.cells y)[j]?=some u->(w1.alloc Y).cell? ((⟨w1.heap.size,0,none⟩:Addr).add j)=some u:=by
  intro j u hu;rw[BO,AM];rw[<-hY]at hblk⊢;rw[Ad _ _ _ _ _ _ hblk];simpa[V.cells]using hu
 obtain⟨v',w3,hrun,hown3,hgr,hown4⟩:=Jq (Em hown λg _ hg=>hb2.block g hg) y _ 1 hnews (by omega) hlen ty;have hfar:∀b,b<w1.heap.size+1->it.ownBlock≠some b->w3.heap[b]?=(w1.alloc Y).heap[b]?:=λb hb hne=>hgr.block b (by rw[hs2];exact hb) (λh=>hne h.symm);refine⟨v',w3,hrun,hown3,⟨hgr.os.trans hb2.os,hgr.tape.trans hb2.tape,hgr.output.trans hb2.output,Ar hb2.size hgr.size,λb hb=>?_⟩,λb h1 h2=>?_⟩
 ·rw[hfar b (by omega) (λh=>by have:=(Fs hown h).1;omega)];exact hb2.block b (by omega)
 ·rw[hfar b (by omega) (λh=>by have:=(Fs hown h).2;omega),Az _ _ _ h2]
def Pkd(gI base:Nat)(u:World)(a:Option Addr)(m c:Nat)(pk:List Int):Prop:=AgK (λg=>g<base/\g≠gI) u a m c pk
theorem Zm{v:World}{it:Value}(h:En w v x gI it)(hl:∃ia m ic,it= .slice ia m ic)(ha:Ag v a m c pk)(hm:m<=140737488351232):Pkd gI v.heap.size v a m c pk:=by
 refine⟨ha,hm,λg off e h0=>?_⟩;obtain⟨g',off',e',_,_,hc⟩:=ag_head ha h0;rw[e]at e';cases e';have hc0:=hc 0 h0;refine⟨Af hc0,λhg=>?_⟩;subst hg;rw[Ad _ _ _ _ _ _ h.row]at hc0;obtain⟨ia,m',ic,rfl⟩:=hl
 match off,hc0 with
 |0,h=>simp at h
 |1,h=>simp at h
 |2,h=>simp at h
 |k+3,h=>simp at h
theorem Pkd.lies(h:Pkd gI base u a m c pk):Lies u (.mk false pk []) ⟨false,a,m,c,none,0,0⟩:=
 lies_eq.2 ⟨rfl,h.1,rfl,Aa _,AD _,⟨h.2.1,AD _⟩,DD⟩
theorem Pkd.go{u':World}(h:Pkd gI base u a m c pk)(hb:Below base u u')(it:Value):Pkd gI base (u'.setCell ⟨gI,2,none⟩ it) a m c pk:=
 AgK.go (λg hK hg=>⟨(AC _ _ _ _ hK.2).trans (hb.block g hK.1),hK⟩) h
theorem Mq{wP:World}(hE:En w wP x gI (.slice none 0 0))(ha:Ag wP a m c pk)(hm:m<=140737488351232)(ty:TypeId):
 ∃v' w3,(Builtin.append_ #[107,107] ty #[.slice none 0 0, .slice (some ⟨wP.heap.size,0,none⟩) 1 1]).run prog (wP.alloc (.cells #[.bool false, .slice a m c, .slice none 0 0] 109))= .ok v' w3/\
  Below (gI+1) wP w3/\(∃ia m ic,v'= .slice ia m ic)/\wP.heap.size<=(w3.setCell ⟨gI,2,none⟩ v').heap.size/\OwnI (w3.setCell ⟨gI,2,none⟩ v') wP.heap.size v' [⟨false,a,m,c,none,0,0⟩]/\Pkd gI wP.heap.size (w3.setCell ⟨gI,2,none⟩ v') a m c pk:=by
 obtain⟨v',w3,h1,h2,h3,_⟩:=round_any (y:=⟨false,a,m,c,none,0,0⟩) (it:= .slice none 0 0) (ys:=[]) (Aa wP.heap.size) (CH _ _ _ _) (Ak _ _) (by simp) ty;have hgz:=hE.sz;refine⟨v',w3,h1,⟨h3.os,h3.tape,h3.output,h3.size,λk hk=>h3.block k (by omega)⟩,?_,by simpa using h3.size,Em h2 λg hg _=>AC _ _ _ _ (by have:=(Fs h2 hg).1;show g≠gI;omega),(Zm hE ⟨_,_,_,rfl⟩ ha hm).go h3 v'⟩;rcases h2.2 with⟨e,_⟩|⟨g,cap,cur,e,_⟩
 ·exact⟨_,_,_,e⟩
 ·exact⟨_,_,_,e⟩
theorem Kl{it:Value}(hE:En w u x gI it)(hgb:gI+1<=base)(hz:base<=u.heap.size)(hown:OwnI u base it [⟨false,a,m,c,none,0,0⟩])(hp:Pkd gI base u a m c pk)(hb1:Below u.heap.size u w1){t:T}
 (hy:∀w4,Below w.heap.size w w4->(∀b,u.heap.size<=b->b<w1.heap.size->w4.heap[b]?=w1.heap[b]?)->Lies w4 t y) (ty:TypeId):
 ∃v' w3,(Builtin.append_ #[107,107] ty #[it, .slice (some ⟨w1.heap.size,0,none⟩) 1 1]).run prog (w1.alloc (.cells #[.bool y.l, .slice y.ba y.bn y.bc, .slice y.ia y.m y.ic] 109))= .ok v' w3/\Below (gI+1) u w3/\Full gI w (w3.setCell ⟨gI,2,none⟩ v') v' [.mk false pk [],t]:=by
 obtain⟨v',w3,h1,h2,h3,h4⟩:=round_any (y:=y) hz hown hb1 (by simp) ty;have hB:Below (gI+1) u w3:=⟨h3.os,h3.tape,h3.output,h3.size,λk hk=>h3.block k (by omega)⟩;have hE3:=(hE.go hB).put v';refine⟨v',w3,h1,hB,Kj (base:=base) (Em h2 λg hg _=>AC _ _ _ _ (by have:=(Fs h2 hg).1;show g≠gI;omega)) ⟨(hp.go h3 v').lies,hy _ hE3.bel λb hb hlt=>?_,trivial⟩⟩;exact(AC _ _ _ _ (by show b≠gI;omega)).trans (h4 b hb hlt)
end Go.Proofs.YtefhepcplempkaaGreat
namespace Go.Proofs.YtefhepcplempkaaGreat
open Ni (packP)
theorem Pkd.drew{gI base:Nat}{u:World}{a:Option Addr}{m c:Nat}{pk:List Int}(h:Pkd gI base u a m c pk):Pkd gI base u.drew a m c pk:=AgK.go (w:=u) (w':=u.drew) (λg hK hg=>⟨rfl,hK⟩) h
theorem Wy(K:Nat->Prop)(x:NV)(n:PN)(w:World)(h:NodeAt K w x n)(h1:n.k=1)(hd:∀r,(r=n.c∨r∈n.ks)->r.i.length<32->DDSaid r.i):
 Calls prog 59 #[.agg x.cells.toArray] w (EEPost w n):=by
 have B:=ER w x h.c.len;have HB:=ZQ (below_new w (.cells x.cells.toArray 68));have HH:=ZQ h;obtain⟨q,hq⟩:∃q,NR n=q:=⟨_,rfl⟩
 have HR1:=ZQ (show∀v,Below w.heap.size w v->Calls prog 85 #[.agg x.cells.toArray] v λe w'=>e= .returned (.bool q)/\Below v.heap.size v w' from λv hv=>by
  rw[<-hq];exact Ip K x n v (h.go (Keep.below hv)) hd)
 have HQ:=ZQ hq;have hk:x.k=1:=by rw[h.k];exact h1
 have hvn:=h.v.2.1;unfold EEPost;rw[hq];have H1:=ZQ h1;clear h hq hd h1;go_enter func59,ntmps59;go_upto_region 1 with fail;refine gen_w (p:=λv=>Code.wp _ _ _ _ v) (q:=λv=>NBx w.heap.size v x/\Below w.heap.size w v) ⟨B,HB.out⟩ ?_;clear B HB;rintro v⟨B,hb⟩;have HB:=ZQ hb;have HX:=ZQ B;clear hb B;go_wp2_with (first|refine CC rfl _ rfl w.heap.size rfl x HX.out ?_);refine(HR1.out v HB.out).mono ?_;rintro e w1⟨rfl,hb1⟩;have HX1:=ZQ (HX.out.go hb1);have HB1:=ZQ (below_go HB.out hb1);clear hb1 HX HB;cases q with
 |false=>
  go_wp2_with fail;go_ret2;exact⟨⟨none,0,0,rfl,⟨.inl ⟨rfl,rfl⟩,λ_=>⟨rfl,rfl⟩,rfl,λx hx=>by cases hx⟩,λg off h=>by cases h⟩,HB1.out⟩
 |true=>
  obtain⟨b1,b2,b3⟩:=Fu HH.out.okN HQ.out;have HM:=ZQ b1;have HPL:=ZQ (LY HQ.out).2;have hpn:x.pn<=1000:=by rw[<-HH.out.p.l];exact HPL.out
  have HLT:=ZQ (show w.heap.size<w1.heap.size from(BV.1 HX1.out.row).1);clear b1 b2 b3;go_upto_region 5 with fail;obtain⟨gI,hgI⟩:∃gI,w1.heap.size=gI:=⟨_,rfl⟩;refine gen_w (p:=λv=>Code.wp _ _ _ _ v) (q:=λv=>En w v x gI (.slice none 0 0)) ⟨by rw[<-hgI];exact Aj _ _,HX1.out.go (below_new _ _),below_go HB1.out (below_new _ _),by rw[<-hgI];exact HLT.out,by simp[hgI]⟩ ?_;intro v2 E2;rw[hgI];have c0:=E2.bx.c0;have c1:=E2.bx.c1;rw[hk]at c0;have HE2:=ZQ E2;clear E2 HX1 HB1 HLT hgI;have HPK:=ZQ (Ni.rpack_any x.pa x.pn x.pc n.p true v2 (HH.out.p.1.at HE2.out.bel) (by omega));obtain⟨pk,hpk⟩:∃pk,(packP n.p true).1=pk:=⟨_,rfl⟩;rw[hpk]at HPK;have HPKE:=ZQ hpk
  have HPKL:=ZQ (show pk.length<=1000 from by
   rw[<-hpk];unfold packP;split
   ·dsimp only;rw[Ni.pack_len];have:=HPL.out;omega
   ·simp)
  obtain⟨per,hper⟩:∃per:Nat,(packP n.p true).2=per:=⟨_,rfl⟩;rw[hper]at HPK;clear hpk hper;go_wp2_with fail;refine HPK.out.mono ?_;rintro e wP⟨⟨a',m,c',rfl,hag⟩,hbP⟩;have hEP:=HE2.out.all hbP;have d2:=hEP.c2;have df:=hEP.fz;obtain⟨it,w3,hrun,hb3,hsl,hz4,how4,hpd4⟩:=Mq hEP hag (by have:=hag.l;have:=HPKL.out;omega) 107;have HGB:=ZQ hEP.sz;have hE3:=hEP.go hb3;have f2:=hE3.c2;have ff:=hE3.fz;have HE4:=ZQ (hE3.put it);obtain⟨ja,jm,jc,hit⟩:=hsl;have HIT:=ZQ hit;have HZ4:=ZQ hz4;have HOW4:=ZQ how4;have HPD4:=ZQ hpd4;rw[hit]at hrun;have HRUN:=ZQ hrun;clear hag hbP hrun hb3 hz4 how4 hpd4 hE3 hEP hit c0 c1 HPK HE2;go_upto_region 13 with(first|refine E6 rfl _ _ rfl _ _ rfl rfl HRUN.out ?_);rw[<-HIT.out];generalize w3.setCell ⟨gI,2,none⟩ it=u4 at HE4 HZ4 HOW4 HPD4⊢;have g0:=HE4.out.bx.c0;rw[hk]at g0;clear d2 df f2 ff HRUN;have d2:=HE4.out.c2;have e2:=HE4.out.bx.c2;have ef:=HE4.out.fz;obtain⟨v',w3,hrun,hb3,hfull⟩:=Kl (t:= .mk false n.v []) (y:=⟨false,x.va,x.vn,x.vc,none,0,0⟩) HE4.out HGB.out HZ4.out HOW4.out HPD4.out (Ak _ _) (λw4 h4 _=>Ci h4 _ _ (lies_eq.2 ⟨rfl,HH.out.v.1,rfl,Aa _,AD _,⟨HH.out.v.2.1,AD _⟩,DD⟩)) 107;have hE5:=HE4.out.go hb3;have f2:=hE5.c2;have ff:=hE5.fz;have HE5:=ZQ (hE5.put v');obtain⟨ia,m',ic,hv',hen⟩:=Is (n:=n) hfull (by simp) (by unfold itemP;rw[H1.out,Ae (by decide),Ai rfl,HPKE.out]) HM.out;subst hv';have HRUN:=ZQ hrun;clear hrun hb3 hfull hE5;go_upto_region 16 with(first|refine E6 rfl _ _ rfl _ _ rfl rfl HRUN.out ?_);generalize w3.setCell ⟨gI,2,none⟩ (.slice ia m' ic)=u5 at HE5 hen⊢;clear d2 e2 ef f2 ff;have HEN:=ZQ hen;clear hen;have k0:=HE5.out.c0;have k1:=HE5.out.c1;have k2:=HE5.out.c2;go_wp2_with fail;refine HEN.out.mono ?_;rintro e w5⟨⟨a,m5,c5,rfl,hag,hnw⟩,hb5⟩;have HAG:=ZQ hag;have HNW:=ZQ (hnw.mono HE5.out.bel.size);have HB5:=ZQ (below_go HE5.out.bel hb5);clear hag hb5 hnw;go_wp2_with fail;go_ret2;exact⟨⟨a,m5,c5,rfl,HAG.out,HNW.out⟩,HB5.out⟩
theorem Wz(K:Nat->Prop)(x:NV)(n:PN)(w:World)(h:NodeAt K w x n)(h2:n.k=2)(hd:∀r,(r=n.c∨r∈n.ks)->r.i.length<32->DDSaid r.i):
 Calls prog 59 #[.agg x.cells.toArray] w (EEPost w n):=by
 have B:=ER w x h.c.len;have HB:=ZQ (below_new w (.cells x.cells.toArray 68));have HH:=ZQ h;obtain⟨q,hq⟩:∃q,NR n=q:=⟨_,rfl⟩
 have HR1:=ZQ (show∀v,Below w.heap.size w v->Calls prog 85 #[.agg x.cells.toArray] v λe w'=>e= .returned (.bool q)/\Below v.heap.size v w' from λv hv=>by
  rw[<-hq];exact Ip K x n v (h.go (Keep.below hv)) hd)
 have HQ:=ZQ hq;have hk:x.k=2:=by rw[h.k];exact h2
 have hvn:=h.v.2.1;unfold EEPost;rw[hq];have H2:=ZQ h2;clear h hq hd h2;go_enter func59,ntmps59;go_upto_region 1 with fail;refine gen_w (p:=λv=>Code.wp _ _ _ _ v) (q:=λv=>NBx w.heap.size v x/\Below w.heap.size w v) ⟨B,HB.out⟩ ?_;clear B HB;rintro v⟨B,hb⟩;have HB:=ZQ hb;have HX:=ZQ B;clear hb B;go_wp2_with (first|refine CC rfl _ rfl w.heap.size rfl x HX.out ?_);refine(HR1.out v HB.out).mono ?_;rintro e w1⟨rfl,hb1⟩;have HX1:=ZQ (HX.out.go hb1);have HB1:=ZQ (below_go HB.out hb1);clear hb1 HX HB;cases q with
 |false=>
  go_wp2_with fail;go_ret2;exact⟨⟨none,0,0,rfl,⟨.inl ⟨rfl,rfl⟩,λ_=>⟨rfl,rfl⟩,rfl,λx hx=>by cases hx⟩,λg off h=>by cases h⟩,HB1.out⟩
 |true=>
  obtain⟨b1,b2,b3⟩:=Fu HH.out.okN HQ.out;have HM:=ZQ b1;have HPL:=ZQ (LY HQ.out).2;have hpn:x.pn<=1000:=by rw[<-HH.out.p.l];exact HPL.out
  have HLT:=ZQ (show w.heap.size<w1.heap.size from(BV.1 HX1.out.row).1);clear b1 b2 b3;go_upto_region 5 with fail;obtain⟨gI,hgI⟩:∃gI,w1.heap.size=gI:=⟨_,rfl⟩;refine gen_w (p:=λv=>Code.wp _ _ _ _ v) (q:=λv=>En w v x gI (.slice none 0 0)) ⟨by rw[<-hgI];exact Aj _ _,HX1.out.go (below_new _ _),below_go HB1.out (below_new _ _),by rw[<-hgI];exact HLT.out,by simp[hgI]⟩ ?_;intro v2 E2;rw[hgI];have c0:=E2.bx.c0;have c1:=E2.bx.c1;rw[hk]at c0;have HE2:=ZQ E2;clear E2 HX1 HB1 HLT hgI;have HPK:=ZQ (Ni.rpack_any x.pa x.pn x.pc n.p false v2 (HH.out.p.1.at HE2.out.bel) (by omega));obtain⟨pk,hpk⟩:∃pk,(packP n.p false).1=pk:=⟨_,rfl⟩;rw[hpk]at HPK;have HPKE:=ZQ hpk
  have HPKL:=ZQ (show pk.length<=1000 from by
   rw[<-hpk];unfold packP;split
   ·dsimp only;rw[Ni.pack_len];have:=HPL.out;omega
   ·simp)
  obtain⟨per,hper⟩:∃per:Nat,(packP n.p false).2=per:=⟨_,rfl⟩;rw[hper]at HPK;clear hpk hper;go_wp2_with fail;refine HPK.out.mono ?_;rintro e wP⟨⟨a',m,c',rfl,hag⟩,hbP⟩;have hEP:=HE2.out.all hbP;have d2:=hEP.c2;have df:=hEP.fz;obtain⟨it,w3,hrun,hb3,hsl,hz4,how4,hpd4⟩:=Mq hEP hag (by have:=hag.l;have:=HPKL.out;omega) 107;have HGB:=ZQ hEP.sz;have hE3:=hEP.go hb3;have f2:=hE3.c2;have ff:=hE3.fz;have HE4:=ZQ (hE3.put it);obtain⟨ja,jm,jc,hit⟩:=hsl;have HIT:=ZQ hit;have HZ4:=ZQ hz4;have HOW4:=ZQ how4;have HPD4:=ZQ hpd4;rw[hit]at hrun;have HRUN:=ZQ hrun;clear hag hbP hrun hb3 hz4 how4 hpd4 hE3 hEP hit c0 c1 HPK HE2;go_upto_region 13 with(first|refine E6 rfl _ _ rfl _ _ rfl rfl HRUN.out ?_);rw[<-HIT.out];generalize w3.setCell ⟨gI,2,none⟩ it=u4 at HE4 HZ4 HOW4 HPD4⊢;have g0:=HE4.out.bx.c0;rw[hk]at g0;clear d2 df f2 ff HRUN;go_upto_region 15 with fail;rename_i KK hkk;refine BZ (S:=λv'=>NBx w.heap.size v' x/\Below w.heap.size w v') (by kernel_rfl) ⟨⟨HE4.out.bx.row,HE4.out.bx.l⟩,HE4.out.bel.drew⟩ (λhS=>?_);have hE0:=HE4.out.drew;refine Bm 0 69 (.pointer (some ⟨gI,2,none⟩)) rfl rfl (by kernel_rfl) (by kernel_rfl) (by kernel_rfl) (λ_ _ _ h=>h) (by kernel_rfl) (λv _=>by kernel_rfl) hS<|Bm 2 71 (.pointer (some ⟨w.heap.size,3,none⟩)) rfl rfl (by kernel_rfl) (by kernel_rfl) (by kernel_rfl) (λ_ _ _ h=>h) (by kernel_rfl) (λv _=>by kernel_rfl) hS<|Bm 3 72 (.agg x.c.cells.toArray) rfl rfl (by kernel_rfl) (by kernel_rfl) (by kernel_rfl) (λ_ _ _ h=>h) (by kernel_rfl) (λv' hv=>G9 rfl (by kernel_rfl) HH.out.c.len hv.1.child) hS<|AF (rs:=[1,4]) (by kernel_rfl) (by simp) ?_;refine CE 1 70 it rfl rfl (by kernel_rfl) (Dc rfl (by kernel_rfl) hE0.c2) hS ?_ ?_
  ·refine AF (rs:=[4]) (by kernel_rfl) (by simp) ?_;refine E3 4 73 rfl rfl (by kernel_rfl) 86 #[.agg x.c.cells.toArray] (by kernel_rfl) (R:=λval w'=>Below u4.drew.heap.size u4.drew w'/\∃z:V,val= .agg #[.bool z.l, .slice z.ba z.bn z.bc, .slice z.ia z.m z.ic]/\LiesP (λb=>u4.drew.heap.size<=b) w' (refItemP n.c) z) ((IC K x.c n.c u4.drew (HH.out.c.go (Keep.below hS.2))).mono (λe w' h=>Eg h (Aa _))) (λval w' h=>⟨hS.1.go h.1,below_go hS.2 h.1⟩) ?_ AB;rintro val u1⟨hb1,z,rfl,hz⟩;have hS1:NBx w.heap.size u1 x/\Below w.heap.size w u1:=⟨hS.1.go hb1,below_go hS.2 hb1⟩;have hE1:=hE0.all hb1;obtain⟨v',w3,hrun,hb3,hfull⟩:=Kl (t:=refItemP n.c) (y:=z) hE0 HGB.out HZ4.out (Em HOW4.out λg _ hlt=>rfl) HPD4.out.drew hb1 (λw4 _ h4=>Dj _ _ (B6 (Q:=λ_=>True) (λb hb hlt=>⟨h4 b hb hlt,trivial⟩) _ _ hz)) 107;have hE2:En w (u1.alloc (.cells #[.bool z.l, .slice z.ba z.bn z.bc, .slice z.ia z.m z.ic] 109)) x gI it:=hE1.all (below_new _ _);have hE3:=hE0.go hb3;have hE5:=hE3.put v';refine AF (rs:=[5]) (by kernel_rfl) (by simp) ?_;refine CE 5 74 (.slice (some ⟨u1.heap.size,0,none⟩) 1 1) rfl rfl (by kernel_rfl) (FW rfl z (by kernel_rfl)) ⟨hE2.bx,hE2.bel⟩ ?_ AB;refine AF (rs:=[6]) (by kernel_rfl) (by simp) ?_;refine CE 6 75 v' rfl rfl (by kernel_rfl) (IF rfl it (.slice (some ⟨u1.heap.size,0,none⟩) 1 1) (by kernel_rfl) (by kernel_rfl) hrun) ⟨hE3.bx,hE3.bel⟩ ?_ AB;refine Bm 7 76 (.pointer (some ⟨gI,2,none⟩)) rfl rfl (by kernel_rfl) (by kernel_rfl) (by kernel_rfl) (λ_ _ _ h=>h) (by kernel_rfl) (λv _=>by kernel_rfl) ⟨hE3.bx,hE3.bel⟩<|AF (rs:=[8]) (by kernel_rfl) (by simp) ?_;refine DO 8 rfl rfl (by kernel_rfl) (FX rfl gI v' it (by obtain⟨ia,ic,e,_⟩:=hfull;exact⟨_,_,_,e⟩) (by kernel_rfl) (by kernel_rfl) hE3.c2 hE3.fz) ⟨hE5.bx,hE5.bel⟩ ?_ AB;refine Ck (by kernel_rfl) ?_ _;refine hkk _ _ ?_;have HE5:=ZQ hE5;obtain⟨ia,m',ic,hv',hen⟩:=Is (n:=n) hfull (by simp) (by unfold itemP;rw[H2.out,Ae (by decide),Ae (by decide),HPKE.out]) HM.out;subst hv';clear hE5 hE3 hE2 hE1 hE0 hS hS1 hfull hb3 hrun hz hb1 hkk;generalize w3.setCell ⟨gI,2,none⟩ (.slice ia m' ic)=u5 at HE5 hen⊢
   go_frame
   have HEN:=ZQ hen;clear hen;have k0:=HE5.out.c0;have k1:=HE5.out.c1;have k2:=HE5.out.c2;go_wp2_with fail;refine HEN.out.mono ?_;rintro e w5⟨⟨a,m5,c5,rfl,hag,hnw⟩,hb5⟩;have HAG:=ZQ hag;have HNW:=ZQ (hnw.mono HE5.out.bel.size);have HB5:=ZQ (below_go HE5.out.bel hb5);clear hag hb5 hnw;go_wp2_with fail;go_ret2;exact⟨⟨a,m5,c5,rfl,HAG.out,HNW.out⟩,HB5.out⟩
  refine E3 4 73 rfl rfl (by kernel_rfl) 86 #[.agg x.c.cells.toArray] (by kernel_rfl) (R:=λval w'=>Below u4.drew.heap.size u4.drew w'/\∃z:V,val= .agg #[.bool z.l, .slice z.ba z.bn z.bc, .slice z.ia z.m z.ic]/\LiesP (λb=>u4.drew.heap.size<=b) w' (refItemP n.c) z) ((IC K x.c n.c u4.drew (HH.out.c.go (Keep.below hS.2))).mono (λe w' h=>Eg h (Aa _))) (λval w' h=>⟨hS.1.go h.1,below_go hS.2 h.1⟩) ?_ AB;rintro val u1⟨hb1,z,rfl,hz⟩;have hS1:NBx w.heap.size u1 x/\Below w.heap.size w u1:=⟨hS.1.go hb1,below_go hS.2 hb1⟩;have hE1:=hE0.all hb1;obtain⟨v',w3,hrun,hb3,hfull⟩:=Kl (t:=refItemP n.c) (y:=z) hE0 HGB.out HZ4.out (Em HOW4.out λg _ hlt=>rfl) HPD4.out.drew hb1 (λw4 _ h4=>Dj _ _ (B6 (Q:=λ_=>True) (λb hb hlt=>⟨h4 b hb hlt,trivial⟩) _ _ hz)) 107;have hE2:En w (u1.alloc (.cells #[.bool z.l, .slice z.ba z.bn z.bc, .slice z.ia z.m z.ic] 109)) x gI it:=hE1.all (below_new _ _);have hE3:=hE0.go hb3;have hE5:=hE3.put v';refine AF (rs:=[1,5]) (by kernel_rfl) (by simp) ?_;refine CE 1 70 it rfl rfl (by kernel_rfl) (Dc rfl (by kernel_rfl) hE1.c2) hS1 ?_ ?_
  ·refine AF (rs:=[5]) (by kernel_rfl) (by simp) ?_;refine CE 5 74 (.slice (some ⟨u1.heap.size,0,none⟩) 1 1) rfl rfl (by kernel_rfl) (FW rfl z (by kernel_rfl)) ⟨hE2.bx,hE2.bel⟩ ?_ AB;refine AF (rs:=[6]) (by kernel_rfl) (by simp) ?_;refine CE 6 75 v' rfl rfl (by kernel_rfl) (IF rfl it (.slice (some ⟨u1.heap.size,0,none⟩) 1 1) (by kernel_rfl) (by kernel_rfl) hrun) ⟨hE3.bx,hE3.bel⟩ ?_ AB;refine Bm 7 76 (.pointer (some ⟨gI,2,none⟩)) rfl rfl (by kernel_rfl) (by kernel_rfl) (by kernel_rfl) (λ_ _ _ h=>h) (by kernel_rfl) (λv _=>by kernel_rfl) ⟨hE3.bx,hE3.bel⟩<|AF (rs:=[8]) (by kernel_rfl) (by simp) ?_;refine DO 8 rfl rfl (by kernel_rfl) (FX rfl gI v' it (by obtain⟨ia,ic,e,_⟩:=hfull;exact⟨_,_,_,e⟩) (by kernel_rfl) (by kernel_rfl) hE3.c2 hE3.fz) ⟨hE5.bx,hE5.bel⟩ ?_ AB;refine Ck (by kernel_rfl) ?_ _;refine hkk _ _ ?_;have HE5:=ZQ hE5;obtain⟨ia,m',ic,hv',hen⟩:=Is (n:=n) hfull (by simp) (by unfold itemP;rw[H2.out,Ae (by decide),Ae (by decide),HPKE.out]) HM.out;subst hv';clear hE5 hE3 hE2 hE1 hE0 hS hS1 hfull hb3 hrun hz hb1 hkk;generalize w3.setCell ⟨gI,2,none⟩ (.slice ia m' ic)=u5 at HE5 hen⊢
   go_frame
   have HEN:=ZQ hen;clear hen;have k0:=HE5.out.c0;have k1:=HE5.out.c1;have k2:=HE5.out.c2;go_wp2_with fail;refine HEN.out.mono ?_;rintro e w5⟨⟨a,m5,c5,rfl,hag,hnw⟩,hb5⟩;have HAG:=ZQ hag;have HNW:=ZQ (hnw.mono HE5.out.bel.size);have HB5:=ZQ (below_go HE5.out.bel hb5);clear hag hb5 hnw;go_wp2_with fail;go_ret2;exact⟨⟨a,m5,c5,rfl,HAG.out,HNW.out⟩,HB5.out⟩
  refine CE 5 74 (.slice (some ⟨u1.heap.size,0,none⟩) 1 1) rfl rfl (by kernel_rfl) (FW rfl z (by kernel_rfl)) ⟨hE2.bx,hE2.bel⟩ ?_ AB;refine AF (rs:=[1]) (by kernel_rfl) (by simp) ?_;refine CE 1 70 it rfl rfl (by kernel_rfl) (Dc rfl (by kernel_rfl) hE2.c2) ⟨hE2.bx,hE2.bel⟩ ?_ AB;refine AF (rs:=[6]) (by kernel_rfl) (by simp) ?_;refine CE 6 75 v' rfl rfl (by kernel_rfl) (IF rfl it (.slice (some ⟨u1.heap.size,0,none⟩) 1 1) (by kernel_rfl) (by kernel_rfl) hrun) ⟨hE3.bx,hE3.bel⟩ ?_ AB;refine Bm 7 76 (.pointer (some ⟨gI,2,none⟩)) rfl rfl (by kernel_rfl) (by kernel_rfl) (by kernel_rfl) (λ_ _ _ h=>h) (by kernel_rfl) (λv _=>by kernel_rfl) ⟨hE3.bx,hE3.bel⟩<|AF (rs:=[8]) (by kernel_rfl) (by simp) ?_;refine DO 8 rfl rfl (by kernel_rfl) (FX rfl gI v' it (by obtain⟨ia,ic,e,_⟩:=hfull;exact⟨_,_,_,e⟩) (by kernel_rfl) (by kernel_rfl) hE3.c2 hE3.fz) ⟨hE5.bx,hE5.bel⟩ ?_ AB;refine Ck (by kernel_rfl) ?_ _;refine hkk _ _ ?_;have HE5:=ZQ hE5;obtain⟨ia,m',ic,hv',hen⟩:=Is (n:=n) hfull (by simp) (by unfold itemP;rw[H2.out,Ae (by decide),Ae (by decide),HPKE.out]) HM.out;subst hv';clear hE5 hE3 hE2 hE1 hE0 hS hS1 hfull hb3 hrun hz hb1 hkk;generalize w3.setCell ⟨gI,2,none⟩ (.slice ia m' ic)=u5 at HE5 hen⊢
  go_frame
  have HEN:=ZQ hen;clear hen;have k0:=HE5.out.c0;have k1:=HE5.out.c1;have k2:=HE5.out.c2;go_wp2_with fail;refine HEN.out.mono ?_;rintro e w5⟨⟨a,m5,c5,rfl,hag,hnw⟩,hb5⟩;have HAG:=ZQ hag;have HNW:=ZQ (hnw.mono HE5.out.bel.size);have HB5:=ZQ (below_go HE5.out.bel hb5);clear hag hb5 hnw;go_wp2_with fail;go_ret2;exact⟨⟨a,m5,c5,rfl,HAG.out,HNW.out⟩,HB5.out⟩
theorem Ub(K:Nat->Prop)(x:NV)(n:PN)(w:World)(h:NodeAt K w x n)(hk:n.k=1∨n.k=2∨n.k=3)(hd:∀r,(r=n.c∨r∈n.ks)->r.i.length<32->DDSaid r.i):
 Calls prog 59 #[.agg x.cells.toArray] w (EEPost w n):=by
 rcases hk with hk|hk|hk
 ·exact Wy K x n w h hk hd
 ·exact Wz K x n w h hk hd
 ·exact Wv K x n w h hk hd
end Go.Proofs.YtefhepcplempkaaGreat
namespace Go.Proofs.YtefhepcplempkaaGreat
variable {j : Nat}
theorem Uc(K:Nat->Prop)(x:NV)(n:PN)(w:World)(h:NodeAt K w x n)(hq:NR n=false)(hd:∀r,(r=n.c∨r∈n.ks)->r.i.length<32->DDSaid r.i):
 Calls prog 59 #[.agg x.cells.toArray] w (EEPost w n):=by
 have B:=ER w x h.c.len;have HB:=ZQ (below_new w (.cells x.cells.toArray 68))
 have HR1:=ZQ (show∀v,Below w.heap.size w v->Calls prog 85 #[.agg x.cells.toArray] v λe w'=>e= .returned (.bool false)/\Below v.heap.size v w' from λv hv=>by
  rw[<-hq];exact Ip K x n v (h.go (Keep.below hv)) hd)
 unfold EEPost;rw[hq];clear h hq hd;go_enter func59,ntmps59;go_upto_region 1 with fail;refine gen_w (p:=λv=>Code.wp _ _ _ _ v) (q:=λv=>NBx w.heap.size v x/\Below w.heap.size w v) ⟨B,HB.out⟩ ?_;clear B HB;rintro v⟨B,hb⟩;have HB:=ZQ hb;have HX:=ZQ B;clear hb B;go_wp2_with (first|refine CC rfl _ rfl w.heap.size rfl x HX.out ?_);refine(HR1.out v HB.out).mono ?_;rintro e w1⟨rfl,hb1⟩;have HB1:=ZQ (below_go HB.out hb1);clear hb1 HX HB;go_wp2_with fail;go_ret2;exact⟨⟨none,0,0,rfl,⟨.inl ⟨rfl,rfl⟩,λ_=>⟨rfl,rfl⟩,rfl,λx hx=>by cases hx⟩,λg off h=>by cases h⟩,HB1.out⟩
theorem GZ(K:Nat->Prop)(x:NV)(n:PN)(w:World)(h:NodeAt K w x n)(hd:∀r,(r=n.c∨r∈n.ks)->r.i.length<32->DDSaid r.i):
 Calls prog 59 #[.agg x.cells.toArray] w (EEPost w n):=by
 cases hq:NR n with
 |false=>exact Uc K x n w h hq hd
 |true=>exact Ub K x n w h (NM hq) hd
def drefP(t:T):PR:=if t.l=true then⟨1,z32,(encP t).1⟩else if t.bs.length=32 then⟨2,t.bs,[]⟩else r0
def DRPost(w:World)(r:PR):Ending->World->Prop:=λe w'=>(∃y:RV,e= .returned (.agg y.cells.toArray)/\RefAt (λg=>w.heap.size<g) w' y r)/\Below w.heap.size w w'
theorem XT{bs:List Int}(hl:bs.length=32)(hj:j<32):(bs.take j++List.replicate (32-j) 0).set j (bs.getD j 0)=bs.take (j+1)++List.replicate (32-(j+1)) 0:=by
 have ht:(bs.take j).length=j:=by rw[Am];omega
 rw[DM _ _ (by omega),ht,Cc,show 32-j=(32-(j+1))+1 from by omega,List.replicate_succ,List.set_cons_zero,C4,Ac (by omega),A9];simp[List.getD,Ac (show j<bs.length by omega)]
theorem Ud{k:Int}{d:List Int}{a:Option Addr}{n c:Nat}{b:Int}(hj:j<d.length):(RV.cells ⟨k,d,a,n,c⟩).toArray.setIfInBounds (1+j) (.int .u8 b)=(RV.cells ⟨k,d.set j b,a,n,c⟩).toArray:=by
 rw[DJ];congr 1;rw[RV.cells,RV.cells,Nat.add_comm 1 j,EY,List.set_append_left _ _ (by simpa using hj),List.map_set]
theorem Mr(t:T)(x:V)(w:World)(h:Lies w t x):
 Calls prog 98 #[.agg #[.bool x.l, .slice x.ba x.bn x.bc, .slice x.ia x.m x.ic]] w (DRPost w (drefP t)):=by
 obtain⟨l,bs,its⟩:=t;obtain⟨hl,hag,-⟩:=lies_eq.1 h;have hbn:x.bn<=140737488351232:=(lies_eq.1 h).2.2.2.2.2.1.1;subst hl;have HX:=ZQ h;have HAG:=ZQ hag;obtain⟨res,hres⟩:∃res,drefP (.mk x.l bs its)=res:=⟨_,rfl⟩;rw[hres];have hres:(if x.l=true then(⟨1,z32,(encP (.mk x.l bs its)).1⟩:PR)else if bs.length=32 then⟨2,bs,[]⟩else r0)=res:=hres;rw[hag.l]at hres;have HRES:=ZQ hres;have HRR:=ZQ (Vq w x);clear h hag hres;go_enter func98,ntmps98;go_upto_region 1 with fail;refine gen_w (p:=λv=>Code.wp _ _ _ _ v) (q:=λv=>Rr w v x) HRR.out ?_;clear HRR;intro v RR;have c0:=RR.bx.c0;have c1:=RR.bx.c1;have c2:=RR.bx.c2;have HRR:=ZQ RR;clear RR;by_cases hxl:x.l=true
 ·have hE:=KO (.mk x.l bs its) x v (Ci HRR.out.bel _ x HX.out);have hres:=HRES.out;rw[Ai hxl]at hres
  have HF:=ZQ (show(encP (.mk x.l bs its)).1.length<=16777220 from by
   by_cases hm:(mP (.mk x.l bs its)).2=0
   ·rw[G7 hm];exact UX hm
   ·rw[NP hm];simp)
  obtain⟨en,hen⟩:∃en,(encP (.mk x.l bs its)).1=en:=⟨_,rfl⟩;rw[hen]at hE HF hres;subst hres;obtain⟨er,her⟩:∃er,(encP (.mk x.l bs its)).2=er:=⟨_,rfl⟩;rw[her]at hE;clear hen her;rw[hxl]at c0 hE;have HE2:=ZQ hE;clear hE HRES;go_wp2_with fail;refine HE2.out.mono ?_;rintro e w1⟨⟨a,n,c,rfl,hag,hnw⟩,hb⟩;have R1:=HRR.out.go hb;have HAGK:=ZQ (show AgK (λg=>w.heap.size+2<=g) w1 a n c en from⟨hag,by have:=hag.l;have:=HF.out;omega,λg off e _=>by have:=hnw (by first|exact trivial|rfl) g off e;have:=HRR.out.sz;omega⟩);have HR1:=ZQ R1;have hl32:z32.length=32:=rfl;clear hag hb R1 hnw;go_wp2_with (first|refine A7 rfl 65 _ _ rfl _ (RV.cells ⟨1,z32,a,n,c⟩).toArray rfl rfl 65 _ HR1.out.row (Dn rfl) (DA rfl) (Al (RV.one _)) ?_);refine Aq (Bg results98 _ _ (w.heap.size+1) 65 _ (0,0) _ rfl (AE _ _ _ _ _ _ HR1.out.row) underlying65 rfl (Dn (y:=⟨1,z32,a,n,c⟩) rfl)) rfl ?_;exact⟨⟨⟨1,z32,a,n,c⟩,rfl,rfl,rfl,J8,rfl,HAGK.out.go (λg hK _=>⟨Bf _ _ _ _ (by omega),by omega⟩)⟩,Below.setRow HR1.out.bel (by omega) _⟩
 ·have hres:=HRES.out;rw[Ae hxl]at hres;have hxf:x.l=false:=by simpa using hxl
  rw[hxf]at c0;clear hxf hxl HRES HX;by_cases h32:x.bn=32
  ·rw[Ai h32]at hres;subst hres;have hz:=HAG.out;rw[h32]at hz c1;obtain⟨g,off,hba,hnc,hcm,hcs⟩:=ag_head hz (by omega);unfold maxLen at hcm;rw[hba]at c1;have HBL:=ZQ hz.l;have HBB:=ZQ hz.b;have HCS:=ZQ (show∀u,Below w.heap.size w u->∀j,j<32->u.cell? ⟨g,off+j,none⟩=some (.int .u8 (bs.getD j 0))from λu hu j hj=>AW hu (hcs j hj));have HRB:=ZQ hba;have HR32:=ZQ h32;have HVS:=ZQ HRR.out.sz;clear hz hcs h32 hba;go_upto_region 6 with(first|refine A7 rfl 65 _ _ rfl _ (RV.cells ⟨2,z32,none,0,0⟩).toArray rfl rfl 65 _ (Aj _ _) (Dn rfl) (DA rfl) (Al (RV.one _)) ?_);obtain⟨gB,hgB⟩:∃gB,v.heap.size=gB:=⟨_,rfl⟩;refine gen_w (p:=λv=>Code.wp _ _ _ _ v) (q:=λu=>RBx gB u ⟨2,z32,none,0,0⟩/\Rr w u x) ⟨⟨by rw[<-hgB];exact AE _ _ _ _ _ _ (Aj _ _),rfl⟩,HRR.out.go (Below.setRow (below_new v _) (Aa _) _)⟩ ?_;rintro u0⟨B2,R2⟩;rw[hgB]at HVS⊢;have HB0:=ZQ B2;have HR0:=ZQ R2;clear B2 R2 hgB c0 c1 c2 HRR;go_wp2_with fail
   go_loopw [6] (λs6 u=>∃j:Nat,j<=32/\s6= .int .i64 j/\RBx gB u ⟨2,bs.take j++List.replicate (32-j) 0,none,0,0⟩/\Rr w u x) (λs6 _=>32-(intOf s6).toNat)
   case atStart=>exact⟨0,by omega,rfl,HB0.out,HR0.out⟩
   case round=>
    obtain⟨j,hj,rfl,hB,hR⟩:=hrel;have HB:=ZQ hB;have HR:=ZQ hR;clear hB hR HB0 HR0;by_cases hlt:j<32
    ·have hji:(j:Int)<32:=(by omega);have d1:=HR.out.bx.c1;rw[HRB.out,HR32.out]at d1;have hc:=HCS.out _ HR.out.bel j hlt;have hf:=HB.out.fz;obtain⟨old,hold⟩:∃old,wr.cell? ⟨gB,1+j,none⟩=some old:=by
      rw[HB.out.at];exact⟨_,Ac (by rw[RV.len HB.out.l];omega)⟩
     have HPUT:=ZQ (show RBx gB (wr.setCell ⟨gB,1+j,none⟩ (.int .u8 (bs.getD j 0))) ⟨2,bs.take (j+1)++List.replicate (32-(j+1)) 0,none,0,0⟩from by
      have hll:=HB.out.l;have e:=AX wr gB (1+j) _ 65 (.int .u8 (bs.getD j 0)) HB.out.row;rw[Ud (d:=bs.take j++List.replicate (32-j) 0) (Nat.lt_of_lt_of_eq hlt hll.symm),XT HBL.out hlt]at e;exact⟨e,by show(bs.take (j+1)++List.replicate (32-(j+1)) 0).length=32;rw[Ab,Am,Bo,HBL.out];omega⟩)
     have HRP:=ZQ (show Rr w (wr.setCell ⟨gB,1+j,none⟩ (.int .u8 (bs.getD j 0))) x from by
      have hv:=HVS.out;have ho:∀k,k≠gB->(wr.setCell ⟨gB,1+j,none⟩ (.int .u8 (bs.getD j 0))).heap[k]?=wr.heap[k]?:=λk hk=>AC _ _ _ _ hk;have hcl:∀o,(wr.setCell ⟨gB,1+j,none⟩ (.int .u8 (bs.getD j 0))).cell? ⟨w.heap.size,o,none⟩=wr.cell? ⟨w.heap.size,o,none⟩:=λo=>Ay (ho w.heap.size (by omega));exact⟨(ho _ (by omega)).trans HR.out.row,⟨(hcl _).trans HR.out.bx.c0,(hcl _).trans HR.out.bx.c1,(hcl _).trans HR.out.bx.c2⟩,HR.out.bel.setCell (by show w.heap.size<=gB;omega) _,by simpa using HR.out.sz⟩)
     have hjl:j<bs.length:=(by have:=HBL.out;omega);have hbb:=HBB.out (bs.getD j 0) (by simp[List.getD,Ac hjl]);clear hjl;generalize bs.getD j 0=bj at hc HPUT HRP hbb;go_wp2_with fail;exact⟨⟨j+1,by omega,by simp,HPUT.out,HRP.out⟩,by simp[intOf];omega⟩
    ·have hji:¬(j:Int)<32:=(by omega);have hB:=HB.out;have hj32:j=32:=(by omega);subst hj32;rw[show bs.take 32++List.replicate (32-32) 0=bs from by rw[A8 (by rw[HBL.out];omega)];simp]at hB;have HB3:=ZQ hB;clear hB HB;go_wp2_with (first|refine Cy rfl _ rfl gB 0 rfl ⟨2,bs,none,0,0⟩ HBL.out HB3.out.all ?_|refine A7 rfl 65 _ _ rfl _ (RV.cells ⟨2,bs,none,0,0⟩).toArray rfl rfl 65 _ HR.out.row (Dn HBL.out) (DA HBL.out) (Al (RV.one _)) ?_);refine Aq (Bg results98 _ _ (w.heap.size+1) 65 _ (0,0) _ rfl (AE _ _ _ _ _ _ HR.out.row) underlying65 rfl (Dn (y:=⟨2,bs,none,0,0⟩) HBL.out)) rfl ?_;exact⟨⟨⟨2,bs,none,0,0⟩,rfl,rfl,rfl,HBB.out,HBL.out,FP _ _⟩,Below.setRow HR.out.bel (by omega) _⟩
  ·rw[Ae h32]at hres;subst hres;have h32i:¬(x.bn:Int)=32:=(by omega);go_wp2_with (first|refine A7 rfl 65 _ _ rfl _ rz.cells.toArray rfl rfl 65 _ HRR.out.row (Dn rfl) (DA rfl) (Al (RV.one _)) ?_);refine Aq (Bg results98 _ _ (w.heap.size+1) 65 _ (0,0) _ rfl (AE _ _ _ _ _ _ HRR.out.row) underlying65 rfl (Dn (y:=rz) rfl)) rfl ?_;exact⟨⟨rz,rfl,Fx _ _⟩,Below.setRow HRR.out.bel (by omega) _⟩
theorem Ms(w:World)(r:RV)(hl:r.d.length=32):(Instr.buildSlice 66 1 #[(0, .agg r.cells.toArray)]).run prog w= .ok (.slice (some ⟨w.heap.size,0,none⟩) 1 1) (w.alloc (.cells r.cells.toArray 65)):=by
 obtain⟨i,hi,hz,hsz,hby⟩:=Qx;refine run_buildSlice w 66 65 1 _ r.cells.toArray i _ underlying66 hi hz (by rw[hsz];omega) (by rw[hsz];omega) ?_;rw[hsz]
 have h:=Great.fill_whole (s:=34) (by omega) [.agg r.cells.toArray] ((Array.range (1*34)).map ((Value.agg rz.cells.toArray).cells[·%(Value.agg rz.cells.toArray).cells.size]!)) (λv hv=>by
  simp only[AP,Cj,Et]at hv;subst hv;show r.cells.toArray.size=34;rw[Bd,RV.len hl]) (by simp)
 refine h.trans ?_;simp[Value.cells]
theorem Km{a:Act}{w:World}{x:Operand}{o:Oper}(ho:o.op= .buildSlice 66 1 #[(0,x)])(r:RV)(hl:r.d.length=32)(hx:a.eval x= .agg r.cells.toArray):
 (execOp a.eval o).run prog w= .ok (.value (.slice (some ⟨w.heap.size,0,none⟩) 1 1)) (w.alloc (.cells r.cells.toArray 65)):=by
 unfold execOp;rw[ho];simp only[CU,BX,DB,hx,B9,Ms w r hl,Ba,BA]
theorem Re{a:Act}{w w':World}{s x:Operand}{o:Oper}(ho:o.op= .call {callee:= .builtin .append,args:=#[s,x],argTypes:=#[66,66]})(v u:Value)(hd:a.eval s=v)(hx:a.eval x=u){v':Value}
 (hr:(Builtin.append_ #[66,66] o.type #[v,u]).run prog w= .ok v' w'):(execOp a.eval o).run prog w= .ok (.value v') w':=by
 simp[execOp,ho,resolve,invoke,builtin,hd,hx,hr,Result.andThen]
section
variable {w : World} {ops : Array Oper} {rest : List Oper} {o : Oper} {a : Act} {Q : Exit → Act → World → Prop}
end
end Go.Proofs.YtefhepcplempkaaGreat
namespace Go.Proofs.YtefhepcplempkaaGreat
open Ni (unpP)
variable {w v' : World} {base : Nat} {ys : List RV} {rs : List PR} {r : PR} {u : T} {b : List Int}
def OwnR(w:World)(base:Nat)(v:Value)(ys:List RV):Prop:=w.ownsRow base 65 34 v ys.length (flatR ys)
theorem Oy{v:Value}(h:OwnR w base v ys){g:Nat}(hg:v.ownBlock=some g):base<=g/\g<w.heap.size:=by
 rcases h.2 with⟨rfl,_⟩|⟨g',cap,cur,rfl,hbg,hh,_⟩
 ·cases hg
 ·cases hg;exact⟨hbg,lt_of_get hh⟩
theorem Nr{w':World}{v:Value}(h:OwnR w base v ys)(hk:∀g,v.ownBlock=some g->g<w.heap.size->w'.heap[g]?=w.heap[g]?):OwnR w' base v ys:=by
 refine⟨h.1,?_⟩;rcases h.2 with h2|⟨g,cap,cur,hv,hb,hh,r⟩
 ·exact .inl h2
 ·exact .inr ⟨g,cap,cur,hv,hb,(hk g (by rw[hv];rfl) (lt_of_get hh)).trans hh,r⟩
theorem XU{v:Value}(hl:∀y∈ys,y.d.length=32)(hown:OwnR w base v ys)(y:RV)(hy:y.d.length=32)(ad:Addr)(c:Nat)(hnews:∀j u,(RV.cells y)[j]?=some u->w.cell? (ad.add j)=some u)(hbase:base<=w.heap.size)(hlen:ys.length<=2199023255550)(ty:TypeId):
 ∃v' w',(Builtin.append_ #[66,66] ty #[v, .slice (some ad) 1 c]).run prog w= .ok v' w'/\OwnR w' base v' (ys++[y])/\w.grownBy w' v.ownBlock/\(v'.ownBlock=v.ownBlock∨v'.ownBlock=some w.heap.size):=by
 obtain⟨i,hi,hz,hsz,hby⟩:=Qx;have hc34:=RV.len hy;obtain⟨v',w',hrun,hown',hgr,_⟩:=run_append_own (P:=prog) w base 66 ty 65 i _ 34 64 underlying66 hi hz hsz hby rfl (by decide) v ys.length (flatR ys) hown ad 1 c (RV.cells y) (by rw[hc34]) hnews y.one (by unfold maxLen;omega) (by omega) hbase;refine⟨v',w',hrun,?_,hgr,?_⟩
 ·unfold OwnR;rw[GD,JZ,Ab];exact hown'
 ·rcases hown.2 with⟨rfl,hn0⟩|⟨g,cap,cur,rfl,hbg,hg,hnc,hcm,hcs,htake⟩
  ·have hr:=run_append_nil (P:=prog) w 66 ty 65 i _ underlying66 hi hz ad 1 c (RV.cells y) (by rw[hsz,hc34]) hnews (by decide) (by decide) (by rw[hby];decide);rw[hrun]at hr;injection hr with e1 e2;right;rw[e1];rfl
  ·by_cases hroom:ys.length+1<=cap
   ·have hr:=run_append_room (P:=prog) w 66 ty 65 i underlying66 hi g ys.length cap cur hg ad 1 c (RV.cells y) (by rw[hsz,hc34]) hnews y.one hroom (by rw[hcs,hsz,hc34];omega);rw[hrun]at hr;injection hr with e1 e2;left;rw[e1];rfl
   ·have hr:=run_append_grow (P:=prog) w 66 ty 65 i _ underlying66 hi hz ⟨g,0,none⟩ ys.length cap (flatR ys) (by rw[hsz,FU hl]) (DZ hown (g:=g) rfl) ad 1 c (RV.cells y) (by rw[hsz,hc34]) hnews (by omega) (by omega) (growslice_fits (by omega) (by rw[hby];omega));rw[hrun]at hr;injection hr with e1 e2;right;rw[e1];rfl
def SoR(base:Nat)(v:World)(it:Value)(rs:List PR):Prop:=∃ys:List RV,OwnR v base it ys/\RefsAt (λb=>base<=b/\it.ownBlock≠some b) v ys rs
theorem SB(base:Nat)(v:World):SoR base v (.slice none 0 0) []:=⟨[],CH _ _ _ _,rfl,(λy hy=>by cases hy),λi y r h=>by simp at h⟩
theorem SoR.keep{v:World}{it:Value}(h:SoR base v it rs)(hb:∀b,base<=b->b<v.heap.size->v'.heap[b]?=v.heap[b]?):SoR base v' it rs:=by
 obtain⟨ys,h1,h2⟩:=h;exact⟨ys,Nr h1 λg hg hlt=>hb g (Oy h1 hg).1 hlt,h2.go λb hb' hlt=>⟨hb b hb'.1 hlt,hb'⟩⟩
theorem SoR.all{v:World}{it:Value}(h:SoR base v it rs)(hb:Below v.heap.size v v'):SoR base v' it rs:=h.keep λb _ hlt=>hb.block b hlt
theorem Lm{wr w1:World}{it:Value}{y:RV}(hz:base<=wr.heap.size)(h:SoR base wr it rs)(hb1:Below wr.heap.size wr w1)(hy:RefAt (λb=>wr.heap.size<=b) w1 y r)(hlen:rs.length<=2199023255550)(ty:TypeId):
 ∃v' w3,(Builtin.append_ #[66,66] ty #[it, .slice (some ⟨w1.heap.size,0,none⟩) 1 1]).run prog (w1.alloc (.cells y.cells.toArray 65))= .ok v' w3/\SoR base w3 v' (rs++[r])/\Below base wr w3:=by
 obtain⟨ys,hown,hall⟩:=h;obtain⟨Y,hY⟩:∃Y:Obj,Obj.cells y.cells.toArray 65=Y:=⟨_,rfl⟩;rw[hY];have hs2:(w1.alloc Y).heap.size=w1.heap.size+1:=by simp
 have hb2:Below wr.heap.size wr (w1.alloc Y):=hb1.alloc hb1.size _;have hz1:=hb1.size;have hblk:(w1.alloc Y).heap[w1.heap.size]?=some Y:=Aj w1 Y;have hnews:∀j u,(RV.cells y)[j]?=some u->(w1.alloc Y).cell? ((⟨w1.heap.size,0,none⟩:Addr).add j)=some u:=by
  intro j u hu;rw[BO,AM];rw[<-hY]at hblk⊢;rw[Ad _ _ _ _ _ _ hblk];simpa using hu
 obtain⟨v',w3,hrun,hown3,hgr,hown4⟩:=XU hall.2.1 (Nr hown λg _ hg=>hb2.block g hg) y hy.len _ 1 hnews (by omega) (by rw[<-hall.1];exact hlen) ty;have hfar:∀b,b<w1.heap.size+1->it.ownBlock≠some b->w3.heap[b]?=(w1.alloc Y).heap[b]?:=λb hb hne=>hgr.block b (by rw[hs2];exact hb) (λh=>hne h.symm);have hit:∀g,it.ownBlock=some g->g<wr.heap.size:=λg hg=>(Oy hown hg).2;have hv':∀b,b<w1.heap.size->it.ownBlock≠some b->v'.ownBlock≠some b:=λb hb hne h=>by
  rcases hown4 with h4|h4
  ·exact hne (h4.symm.trans h)
  ·rw[h4,hs2]at h;cases h;omega
 refine⟨v',w3,hrun,⟨_,hown3,RefsAt.snoc (hall.go λb hb hlt=>⟨?_,hb.1,hv' b (by omega) hb.2⟩) (hy.go λb hb hlt=>⟨?_,by omega,?_⟩)⟩,?_⟩
 ·rw[hfar b (by omega) hb.2];exact hb2.block b hlt
 ·have hne:it.ownBlock≠some b:=λh=>by have:=hit b h;omega
  rw[hfar b (by omega) hne,Az _ _ _ hlt]
 ·refine⟨hgr.os.trans hb2.os,hgr.tape.trans hb2.tape,hgr.output.trans hb2.output,Ar hb2.size hgr.size,λb hb=>?_⟩;rw[hfar b (by omega) (λh=>by have:=(Oy hown h).1;omega)];exact hb2.block b (by omega)
 ·exact hv' b hlt (λh=>by have:=hit b h;omega)
theorem SoR.kids{v:World}{it:Value}(h:SoR base v it rs):∃ka kc,it= .slice ka rs.length kc/\rs.length<=kc/\kc<=maxLen/\(ka=none->rs.length=0/\kc=0)/\KidsAt (λb=>base<=b) v ka rs:=by
 obtain⟨ys,hown,hall⟩:=h;have hl:=hall.1;rcases hown.2 with⟨rfl,hn0⟩|⟨g,cap,cur,rfl,hbg,hg,hnc,hcm,hcs,htake⟩
 ·have:rs=[]:=A3 (by omega);subst this;exact⟨none,0,rfl,Aa _,by unfold maxLen;omega,λ_=>⟨rfl,rfl⟩,λj r hr=>by simp at hr⟩
 ·refine⟨some ⟨g,0,none⟩,cap,by rw[hl],by omega,hcm,λh=>(by cases h),λj r hj=>?_⟩;have hjl:j<ys.length:=by rw[<-hl];exact(Aw.1 hj).1
  refine⟨g,0,ys[j],rfl,hbg,λk u hu=>?_,(hall.2.2 j _ r (Ac hjl) hj).go λb hb _=>⟨rfl,hb.1⟩⟩;have e:ys=ys.take j++ys[j]::ys.drop (j+1):=by rw[<-Bz hjl,Be]
  have hl':(ys.take j).length=j:=by rw[Am];omega
  have hf:=Sl (pre:=ys.take j) (post:=ys.drop (j+1)) (λz hz=>hall.2.1 z (Bn hz)) hu;rw[hl',<-e]at hf;have:=DZ hown (g:=g) rfl (j*34+k) u hf;rw[BO]at this;rw[show 0+j*34+k=0+(j*34+k)from by omega];exact this
def ddNode(t:T):PN:=
 if t.its.length=2 then
  (if(unpP (t.its.getD 0 t0).bs).2.1=true then⟨1,(unpP (t.its.getD 0 t0).bs).1,(t.its.getD 1 t0).bs,r0,[]⟩
   else⟨2,(unpP (t.its.getD 0 t0).bs).1,[],drefP (t.its.getD 1 t0),[]⟩)
 else⟨3,[],(t.its.getD 16 t0).bs,r0,(t.its.take 16).map drefP⟩
theorem SC(h:refOfP u=some r):r=drefP u:=by
 unfold refOfP at h;unfold drefP;by_cases hl:u.l=true
 ·rw[Ai hl]at h⊢;by_cases hm:(mP u).2=0
  ·rw[Ai hm]at h;cases h;rw[G7 hm]
  ·rw[Ae hm]at h;cases h
 ·rw[Ae hl]at h⊢;by_cases h0:u.bs.length=0
  ·rw[Ai h0]at h;cases h;rw[Ae (by omega)]
  ·rw[Ae h0]at h;by_cases h32:u.bs.length=32
   ·rw[Ai h32]at h⊢;cases h;rfl
   ·rw[Ae h32]at h;cases h
theorem SD:∀{ts:List T}{ks:List PR},kidsP ts=some ks->ks=ts.map drefP
 |[],ks,h=>by cases h;rfl
 |t::l,ks,h=>by
  rw[kidsP]at h;cases hr:refOfP t with
  |none=>rw[hr]at h;cases h
  |some a=>
   rw[hr]at h;dsimp only at h;cases hk:kidsP l with
   |none=>rw[hk]at h;cases h
   |some l'=>
    rw[hk]at h;cases h;rw[BX,<-SD hk,<-SC hr]
theorem Ns{t:T}{n:PN}(h:nodeOfP t=some n):n=ddNode t/\(t.its.length=2∨t.its.length=17):=by
 unfold nodeOfP at h;unfold ddNode;by_cases h2:t.its.length=2
 ·rw[Ai h2]at h⊢;refine⟨?_, .inl h2⟩;unfold pathP at h;split at h
  ·cases h
  ·split at h
   ·rename_i hlf;rw[Ai hlf];split at h
    ·cases h
    ·cases h;rfl
   ·rename_i hlf;rw[Ae hlf];cases hq:refOfP (t.its.getD 1 t0)with
    |none=>rw[hq]at h;cases h
    |some c=>rw[hq]at h;cases h;rw[<-SC hq]
 ·rw[Ae h2]at h⊢;by_cases h17:t.its.length=17
  ·rw[Ai h17]at h;refine⟨?_, .inr h17⟩;unfold branchP at h;cases hk:kidsP (t.its.take 16)with
   |none=>rw[hk]at h;cases h
   |some ks=>
    rw[hk]at h;dsimp only at h;split at h
    ·cases h
    ·cases h;rw[<-SD hk]
  ·rw[Ae h17]at h;cases h
theorem Zn{e:Nat}(hb:isB b)(hd:decP b= .bad e):ND b=none:=by rw[RQ hb,hd]
theorem Z8{t:T}(hb:isB b)(hd:decP b= .ok t)(h:¬(t.its.length=2∨t.its.length=17)):ND b=none:=by
 cases hn:ND b with
 |none=>rfl
 |some n=>
  obtain⟨t',h1,h2,_⟩:=Gv hb hn;rw[hd]at h1;cases h1;exact absurd (Ns h2).2 h
theorem Rg{t:T}(hb:isB b)(hd:decP b= .ok t)(ho:okN (ddNode t)):ND b=if NR (ddNode t)=true/\NE (ddNode t)=b then some (ddNode t)else none:=by
 by_cases h:NR (ddNode t)=true/\NE (ddNode t)=b
 ·rw[Ai h];have:=YG ho h.1 (by rw[h.2];exact hb);rwa [h.2]at this
 ·rw[Ae h];cases hn:ND b with
  |none=>rfl
  |some n=>
   obtain⟨t',h1,h2,_⟩:=Gv hb hn;rw[hd]at h1;cases h1;obtain⟨h3,h4,_⟩:=MP hb hn;rw[(Ns h2).1]at h3 h4;exact absurd ⟨h3,h4⟩ h
theorem Mt{t:T}(hb:isB b)(h:decP b= .ok t)(hu:u∈t.its):(drefP u).i.length<b.length:=by
 have hs:=(Ju hb h hu).1;unfold drefP;split
 ·by_cases hm:(mP u).2=0
  ·rw[G7 hm];exact hs
  ·rw[NP hm];simp;omega
 ·split
  ·simp;omega
  ·show(0:Nat)<_;omega
theorem Rh{t:T}(hb:isB b)(h:decP b= .ok t)(hl:t.its.length=2∨t.its.length=17):∀r,(r=(ddNode t).c∨r∈(ddNode t).ks)->r.i.length<b.length:=by
 have h0:r0.i.length<b.length:=by have:=(Ju hb h (FT (l:=t.its) (i:=0) (by omega))).1;show 0<_;omega
 intro r hr;unfold ddNode at hr;by_cases h2:t.its.length=2
 ·rw[Ai h2]at hr;split at hr
  ·rcases hr with rfl|hr
   ·exact h0
   ·cases hr
  ·rcases hr with rfl|hr
   ·exact Mt hb h (FT (by omega))
   ·cases hr
 ·rw[Ae h2]at hr;rcases hr with rfl|hr
  ·exact h0
  ·obtain⟨u,hu,rfl⟩:=BD.1 hr;exact Mt hb h (Bn hu)
end Go.Proofs.YtefhepcplempkaaGreat
