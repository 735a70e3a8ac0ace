/- What the document's digest (pergolaref01.Of) answers: the pieces of the padded text mixed in, one behind the other, for every text of at most 2^47 - 4096 bytes. -/
import Derived.Test.YtalhnnjpjaeakaaGreatAK
import Derived.Test.YtalhnnjpjaeakaaGreatG08
import Derived.Deep.RegionHeld3
import Derived.Deep.DrawnRows
import Derived.Deep.DeepCutAuto
set_option linter.unusedVariables false
set_option maxRecDepth 100000
set_option maxHeartbeats 4000000
open Go.Proofs.Tryz Go.RowKit
namespace Go.Proofs.YtalhnnjpjaeakaaGreat.Di
theorem Z7:∃i,prog.info? 112=some i/\i.zero=some (.int .u64 0)/\i.size=1/\i.bytes=8:=by
 have h:(prog.info? 112).map (λi=>(i.zero,i.size,i.bytes))=some (some (.int .u64 0),1,8):=by kernel_rfl
 cases hq:prog.info? 112 with
 |none=>rw[hq]at h;simp at h
 |some i=>rw[hq]at h;simp at h;exact⟨i,rfl,h.1,h.2.1,h.2.2⟩
theorem Wb{w:World}{ops:Array Oper}{rest:List Oper}{o:Oper}{a:Act}{Q:Exit->Act->World->Prop}(hgd:o.guard=none)(s x:Operand)
 (ho:o.op= .call {callee:= .builtin .append,args:=#[s,x],argTypes:=#[123,123]}) (hs:a.eval s= .slice (some ⟨w.heap.size,0,none⟩) 0 0)
 (g:Nat) (hx:a.eval x= .slice (some ⟨g,0,none⟩) 4 4) (xa xb xc xd:Int) (hg:w.heap[g]?=some (.cells #[.int .u64 xa, .int .u64 xb, .int .u64 xc, .int .u64 xd] 112))
 (h:∀gp cap w',w.heap.size<=gp->gp<w'.heap.size->w'.cell? ⟨gp,0,none⟩=some (.int .u64 xa)->w'.cell? ⟨gp,1,none⟩=some (.int .u64 xb)->w'.cell? ⟨gp,2,none⟩=some (.int .u64 xc)->w'.cell? ⟨gp,3,none⟩=some (.int .u64 xd)->Below w.heap.size w w'->wpList prog ops Q rest (a.put o.dst (.slice (some ⟨gp,0,none⟩) 4 cap)) w'):
 wpList prog ops Q (o::rest) a (w.alloc (.cells #[] 112)):=by
 obtain⟨i,hi,hz,hsz,hby⟩:=Z7;have hg':(w.alloc (.cells #[] 112)).heap[g]?=some (.cells #[.int .u64 xa, .int .u64 xb, .int .u64 xc, .int .u64 xd] 112):=(Au _ _ _ (lt_of_get hg)).trans hg;refine wpList_append_own _ hgd s x 123 ho w.heap.size 112 i (.int .u64 0) 1 8 underlying123 hi hz hsz hby rfl (by decide) _ 0 [] hs (World.ownsRow_made w #[] 0 (Aa _) (by unfold maxLen;omega) rfl) ⟨g,0,none⟩ 4 4 [.int .u64 xa, .int .u64 xb, .int .u64 xc, .int .u64 xd] hx rfl ?_ ?_ (by unfold maxLen;omega) (by omega) (by simp) ?_
 ·intro j u hu;have hadd:(⟨g,0,none⟩:Addr).add j=⟨g,j,none⟩:=by unfold Addr.add;split<;>simp_all
  rw[hadd,Ae _ _ _ _ _ _ hg',<-hu];rw[<-List.getElem?_toArray]
 ·intro u hu;simp at hu;rcases hu with rfl|rfl|rfl|rfl<;>rfl
 ·intro v' w' h1 h2 h3;obtain⟨h4,h5⟩:=h1;rcases h5 with⟨_,h5⟩|⟨gp,cap,cur,rfl,hb,hh,hn,hcap,hcs,ht⟩
  ·omega
  ·have hc:∀j,j<4->w'.cell? ⟨gp,j,none⟩=[Value.int .u64 xa, .int .u64 xb, .int .u64 xc, .int .u64 xd][j]?:=by
    intro j hj;rw[Ae _ _ _ _ _ _ hh];have e:(cur.toList.take 4)[j]?=[Value.int .u64 xa, .int .u64 xb, .int .u64 xc, .int .u64 xd][j]?:=by
     have:=ht;simp at this;rw[this]
    rw[AO hj]at e;simpa using e
   exact h gp cap w' hb (lt_of_get hh) (hc 0 (by omega)) (hc 1 (by omega)) (hc 2 (by omega)) (hc 3 (by omega)) (((Ak _ _).alloc (Aa _) _).grown h2 (by simp) (λk hk=>by simp[Value.ownBlock]at hk;omega))
def wordsAt(bs:List Int)(p:Nat):S4:=⟨wd bs p 8,wd bs (p+8) 8,wd bs (p+16) 8,wd bs (p+24) 8⟩
def s0:S4:=⟨kk,wr (2*kk),wr (3*kk),wr (4*kk)⟩
def stOf(bs:List Int):Nat->S4
 |0=>s0
 |i+1=>mix (stOf bs i) (wordsAt bs (32*i))
def mAt(m:S4)(k:Nat):Int:=if k%4=0 then m.a else if k%4=1 then m.b else if k%4=2 then m.c else m.d
def rk(s m:S4):Nat->S4
 |0=>xor4 s m
 |k+1=>rnd (rk s m k) (wr (mAt m k+wr ((k+1:Nat)*kk)))
theorem Z8(s m:S4):xor4 (rk s m 8) s=mix s m:=rfl
structure OfW(N gt gs:Nat)(w0 w:World)(ps:List Int)(S:S4):Prop where
 h0:w.heap[N]?=some (.cells (B8 (List.replicate 32 0)) 49)
 ht:∀j,j<ps.length->w.cell? ⟨gt,j,none⟩=some (.int .u8 (ps.getD j 0))
 hs:w.heap[gs]?=some (.cells (V4 S) 112)
 gtl:gt<w.heap.size
 gsl:N<gs
 bel:Below N w0 w
theorem OfW.call{N gt gs:Nat}{w0 w w':World}{ps:List Int}{S:S4}(h:OfW N gt gs w0 w ps S)(hb:Below w.heap.size w w'):OfW N gt gs w0 w' ps S:=by
 have l0:=lt_of_get h.h0;have l1:=lt_of_get h.hs;exact⟨(hb.block _ l0).trans h.h0,λj hj=>(hb.cell (p:=⟨gt,j,none⟩) h.gtl).trans (h.ht j hj),(hb.block _ l1).trans h.hs,Bw h.gtl hb.size,h.gsl,h.bel.trans (hb.mono (by omega))⟩
theorem OfW.drewN{N gt gs:Nat}{w0 w:World}{ps:List Int}{S:S4}(h:OfW N gt gs w0 w ps S)(n:Nat):OfW N gt gs w0 (w.drewN n) ps S:=⟨h.h0,h.ht,h.hs,h.gtl,h.gsl,below_drewN h.bel n⟩
theorem OfW.alloc{N gt gs:Nat}{w0 w:World}{ps:List Int}{S:S4}(h:OfW N gt gs w0 w ps S)(o:Obj):OfW N gt gs w0 (w.alloc o) ps S:=h.call ((Ak _ _).alloc (Aa _) _)
theorem OfW.state{N gt gs:Nat}{w0 w:World}{ps:List Int}{S:S4}(h:OfW N gt gs w0 w ps S)(S':S4):OfW N gt w.heap.size w0 (w.alloc (.cells (V4 S') 112)) ps S':=by
 have a:=h.alloc (.cells (V4 S') 112);have l0:=lt_of_get h.h0;exact⟨a.h0,a.ht,Ai _ _,a.gtl,l0,a.bel⟩
theorem InB.alloc{w:World}{a:Option Addr}{len cap:Nat}{bs:List Int}(h:InB w a len cap bs)(o:Obj):InB (w.alloc o) a len cap bs:=by
 rcases h with h|⟨ad,h1,h2,h3⟩
 ·exact .inl h
 ·exact .inr ⟨ad,h1,h2,λj u hu=>(Aq (w:=w) (Au w _ _ (Aj (h3 j u hu)))).trans (h3 j u hu)⟩
theorem Gf(bs:List Int):(padded bs).length=bs.length+1+zc bs.length+8:=by
 unfold padded;rw[Ab,Ab,Ab,Bj,GR];rfl
theorem QC(bs:List Int):(padded bs).length%32=0/\0<(padded bs).length:=by
 rw[Gf];unfold zc;omega
theorem M7(bs:List Int)(h:∀x∈bs,0<=x/\x<256):∀x∈padded bs,0<=x/\x<256:=by
 intro x hx;unfold padded at hx;simp only[AS]at hx;rcases hx with((hx|hx)|hx)|hx
 ·exact h x hx
 ·simp at hx;omega
 ·rw[(CY.1 hx).2];omega
 ·unfold len8 at hx;obtain⟨i,_,rfl⟩:=BE.1 hx;omega
structure OfM(N gt gs gp gm:Nat)(w0 w:World)(ps:List Int)(S M:S4):Prop where
 f:OfW N gt gs w0 w ps S
 hm:w.heap[gm]?=some (.cells (V4 M) 112)
 p0:w.cell? ⟨gp,0,none⟩=some (.int .u64 S.a)
 p1:w.cell? ⟨gp,1,none⟩=some (.int .u64 S.b)
 p2:w.cell? ⟨gp,2,none⟩=some (.int .u64 S.c)
 p3:w.cell? ⟨gp,3,none⟩=some (.int .u64 S.d)
theorem XV{N gt gs gp:Nat}{w0 w:World}{ps:List Int}{S:S4}(M:S4)(h:OfW N gt gs w0 w ps S)(hd:w.cell? ⟨gp,0,none⟩=some (.int .u64 S.a)/\w.cell? ⟨gp,1,none⟩=some (.int .u64 S.b)/\w.cell? ⟨gp,2,none⟩=some (.int .u64 S.c)/\w.cell? ⟨gp,3,none⟩=some (.int .u64 S.d)):
 OfM N gt gs gp w.heap.size w0 (w.alloc (.cells (V4 M) 112)) ps S M:=by
 obtain⟨d0,d1,d2,d3⟩:=hd;have l:=Aj d0;have e:∀j,(w.alloc (.cells (V4 M) 112)).cell? ⟨gp,j,none⟩=w.cell? ⟨gp,j,none⟩:=λj=>Aq (w:=w) (Au w _ _ l);exact⟨h.alloc _,Ai _ _,by rw[e,d0],by rw[e,d1],by rw[e,d2],by rw[e,d3]⟩
theorem OfM.drewN{N gt gs gp gm:Nat}{w0 w:World}{ps:List Int}{S M:S4}(h:OfM N gt gs gp gm w0 w ps S M)(n:Nat):OfM N gt gs gp gm w0 (w.drewN n) ps S M:=⟨h.f.drewN n,h.hm,h.p0,h.p1,h.p2,h.p3⟩
theorem gen_w{V:World}{p q:World->Prop}(F:q V)(h:∀v,q v->p v):p V:=h V F
def kx(k:Nat):Int:=wr ((k:Int)*kk)
theorem Fo(x:Int)(k:Nat)(h:x=kx k):IntKind.u64.wrap (x+11400714819323198485)=kx (k+1):=by
 subst h;unfold kx wr kk;simp only[C0];omega
theorem XW:Hid ((0:Int)=kx 0):=by
 unfold Hid kx wr;rw[C0];simp
theorem Ou(ra rb mm ad:Int):IntKind.u64.wrap (IntKind.u64.wrap (IntKind.u64.wrap (ra+rb)+mm)+ad)=wr (ra+wr (rb+wr (mm+ad))):=by
 unfold wr;simp only[C0];omega
theorem Ov(ra rb rc rd X A D C B A2 D2 C2 B2:Int)(hA:A=wr (ra+wr (rb+X)))(hD:D=rotl (bits BinOp.xor IntKind.u64 rd A) 32)(hC:C=IntKind.u64.wrap (rc+D))(hB:B=rotl (bits BinOp.xor IntKind.u64 rb C) 24)
 (hA2:A2=IntKind.u64.wrap (A+B)) (hD2:D2=rotl (bits BinOp.xor IntKind.u64 D A2) 16) (hC2:C2=IntKind.u64.wrap (C+D2)) (hB2:B2=rotl (bits BinOp.xor IntKind.u64 B C2) 63):S4.mk B2 C2 D2 A2=rnd ⟨ra,rb,rc,rd⟩ X:=by
 subst hB2 hC2 hD2 hA2 hB hC hD hA;rfl
theorem KO{S M:S4}{k:Nat}{r r':S4}{ad mm:Int}(h:r=rk S M k)(had:ad=kx (k+1))(hmm:mAt M k=mm)(h':r'=rnd r (wr (mm+ad))):r'=rk S M (k+1):=by
 rw[h',h,had,<-hmm];rfl
theorem OfW.drew{N gt gs:Nat}{w0 w:World}{ps:List Int}{S:S4}(h:OfW N gt gs w0 w ps S):OfW N gt gs w0 w.drew ps S:=⟨h.h0,h.ht,h.hs,h.gtl,h.gsl,h.bel.drew⟩
theorem OfM.drew{N gt gs gp gm:Nat}{w0 w:World}{ps:List Int}{S M:S4}(h:OfM N gt gs gp gm w0 w ps S M):OfM N gt gs gp gm w0 w.drew ps S M:=⟨h.f.drew,h.hm,h.p0,h.p1,h.p2,h.p3⟩
theorem OfM.alloc{N gt gs gp gm:Nat}{w0 w:World}{ps:List Int}{S M:S4}(h:OfM N gt gs gp gm w0 w ps S M)(o:Obj):OfM N gt gs gp gm w0 (w.alloc o) ps S M:=by
 have l:=Aj h.p0;have e:∀j,(w.alloc o).cell? ⟨gp,j,none⟩=w.cell? ⟨gp,j,none⟩:=λj=>Aq (w:=w) (Au w _ _ l);exact⟨h.f.alloc _,(Au _ _ _ (lt_of_get h.hm)).trans h.hm,by rw[e,h.p0],by rw[e,h.p1],by rw[e,h.p2],by rw[e,h.p3]⟩
theorem Wc{N gt gs gp gm:Nat}{w0 w:World}{ps:List Int}{sa sb sc sd:Int}{M:S4}(h:OfM N gt gs gp gm w0 w ps ⟨sa,sb,sc,sd⟩ M):(w.cell? ⟨gp,0,none⟩=some (.int .u64 sa)/\w.cell? ⟨gp,1,none⟩=some (.int .u64 sb)/\w.cell? ⟨gp,2,none⟩=some (.int .u64 sc)/\w.cell? ⟨gp,3,none⟩=some (.int .u64 sd))/\OfM N gt gs gp gm w0 w ps ⟨sa,sb,sc,sd⟩ M:=⟨⟨h.p0,h.p1,h.p2,h.p3⟩,h⟩
theorem XX{ps:List Int}{i:Nat}{S M r:S4}(hS:S=stOf ps i)(hM:M=wordsAt ps (32*i))(hr:r=rk S M 8):xor4 r S=stOf ps (i+1):=by
 rw[hr,Z8,hS,hM];rfl
structure Ex(N gs go:Nat)(w0 w:World)(sa sb sc sd:Int)(ds:List Int):Prop where
 h0:w.heap[N]?=some (.cells (B8 (List.replicate 32 0)) 49)
 hs:w.heap[gs]?=some (.cells (V4 ⟨sa,sb,sc,sd⟩) 112)
 ho:w.heap[go]?=some (.cells (B8 ds) 49)
 bel:Below N w0 w
theorem Ex.setO{N gs go:Nat}{w0 w:World}{sa sb sc sd:Int}{ds:List Int}(h:Ex N gs go w0 w sa sb sc sd ds)(hgs:¬gs=go)(hgo:N<go)(k:Nat)(x:Int):Ex N gs go w0 (w.setCell ⟨go,k,none⟩ (.int .u8 x)) sa sb sc sd (ds.set k x):=
 ⟨(A8 _ _ _ _ (by simp;omega)).trans h.h0,(A8 _ _ _ _ hgs).trans h.hs,by rw[AN w go k _ 49 _ h.ho,Q8],h.bel.setCell (by simp;omega) _⟩
theorem Z9:V4 s0=#[.int .u64 11400714819323198485, .int .u64 (IntKind.u64.wrap 22801429638646396970), .int .u64 (IntKind.u64.wrap (IntKind.u64.wrap 22801429638646396970+11400714819323198485)), .int .u64 (IntKind.u64.wrap (IntKind.u64.wrap (IntKind.u64.wrap 22801429638646396970+11400714819323198485)+11400714819323198485))]:=by
 have e2:wr (2*kk)=IntKind.u64.wrap 22801429638646396970:=rfl;have e3:wr (3*kk)=IntKind.u64.wrap (IntKind.u64.wrap 22801429638646396970+11400714819323198485):=by
  unfold wr kk;simp only[C0];omega
 have e4:wr (4*kk)=IntKind.u64.wrap (IntKind.u64.wrap (IntKind.u64.wrap 22801429638646396970+11400714819323198485)+11400714819323198485):=by
  unfold wr kk;simp only[C0];omega
 unfold V4 s0;simp only[e2,e3,e4];rfl
theorem KP(g len cap:Nat)(p:Int)(at_:Nat)(bs:List Int)(w:World)(hp:p=at_)(hlen:at_+8<=len)(hm:len<=maxLen)
 (hc:∀k,k<8->w.cell? ⟨g,at_+k,none⟩=some (.int .u8 (bs.getD (at_+k) 0))) (hb:∀k,k<8->0<=bs.getD (at_+k) 0/\bs.getD (at_+k) 0<256):
 Calls prog 67 #[.slice (some ⟨g,0,none⟩) len cap, .int .i64 p] w λe w'=>e= .returned (.int .u64 (wd bs at_ 8))/\w'=w:=by
 subst hp;exact Wa g len cap at_ bs w hlen hm hc hb
set_option maxRecDepth 100000 in
theorem rof_any(a:Option Addr)(len cap:Nat)(bs:List Int)(w:World)(hin:InB w a len cap bs)(hb:∀x∈bs,0<=x/\x<256)(hlen:bs.length<=140737488351232):
 Calls prog 46 #[.slice a len cap] w λe w'=>e= .returned (.agg (B8 (dig (stOf (padded bs) ((padded bs).length/32)))))/\Below w.heap.size w w':=by
 have hpad:=λv=>QB a len cap bs v;have HP:=XaI hpad;clear hpad;have hin':∀o,InB (w.alloc o) a len cap bs:=λo=>hin.alloc o;have HIN:=XaI hin';have HL:=XaI hlen;have HB:=XaI hb;clear hin' hin hlen hb;go_enter func46,ntmps46;go_wp2_with fail;refine(HP.out _ (HIN.out _) HL.out).mono ?_;rintro e w1⟨v1,rfl,ow,hb1⟩;have hlen32:=Gf bs;have hpb:=XaI (M7 bs HB.out);have hpm:(padded bs).length<=140737488352000:=by rw[hlen32];have:=HL.out;unfold zc;omega
 have hpm2:=XaI (QC bs);generalize hps:padded bs=ps at ow hpb hpm hpm2;have HPS:=XaI hps;clear hps;clear hlen32 HB HIN HL HP;obtain⟨q,hq⟩:∃q,ps.length=32*q:=⟨ps.length/32,by have:=hpm2.out;omega⟩;obtain⟨gt,ct,rfl,hg0,hg1,hg2,hg3,hct⟩:=ow.slice (by have:=hpm2.out;omega);have hct2:=XaI hct;clear hct ow hg0;have hN:w1.heap[w.heap.size]?=some (.cells (B8 (List.replicate 32 0)) 49):=Below.row hb1 (Ai w _);have F0:OfW w.heap.size gt w1.heap.size w (w1.alloc (.cells (V4 s0) 112)) ps s0:=by
  have l0:=lt_of_get hN;refine⟨(Au _ _ _ l0).trans hN,λj hj=>(Aq (w:=w1) (Au w1 _ _ hg1)).trans (hct2.out j hj),Ai _ _,by simp;omega,l0,?_⟩;exact(((Ak _ _).alloc (Aa _) _).trans (hb1.mono (by simp))).alloc (by omega) _
 clear hN hct2;have hq1:32*q<=140737488352000:=by omega
 have HQ:=XaI hq;go_wp2_with fail
 go_loopw [5,6] (λs t v=>∃(i gs:Nat)(S:S4),i<=q/\t= .int .i64 (32*(i:Int))/\s= .slice (some ⟨gs,0,none⟩) 4 4/\Hid (S=stOf ps i)/\OfW w.heap.size gt gs w v ps S) (λ_ t _=>32*q-(intOf t).toNat)
 case atStart=>
  refine⟨0,w1.heap.size,s0,by omega,rfl,rfl,rfl,?_⟩;rw[Z9]at F0;exact F0
 case round=>
  clear F0;obtain⟨i,gs,⟨sa,sb,sc,sd⟩,hi,rfl,rfl,HS,F⟩:=hrel;by_cases hlt:i<q
  ·have hg:=F.hs;have hg':wr.heap[gs]?=some (.cells #[.int .u64 sa, .int .u64 sb, .int .u64 sc, .int .u64 sd] 112):=hg;have HG:=XaI hg';clear hg hg';go_wp2_with (first|(at_builtin;refine Wb rfl (.tmp 43) (.tmp 44) rfl rfl gs rfl sa sb sc sd HG.out ?_;intro gp cp w2 hgp0 hgp1 d0 d1 d2 d3 hb2));have F2:=F.call hb2;have hsz2:=hb2.size;have HD:=XaI (And.intro d0 (And.intro d1 (And.intro d2 d3)));clear d0 d1 d2 d3 hb2;have hcb:∀p,p+8<=32*q->∀k,k<8->0<=ps.getD (p+k) 0/\ps.getD (p+k) 0<256:=λp hp k hk=>hpb.out _ (getD_mem ps _ (by rw[HQ.out];omega));have HCB:=XaI hcb;clear hcb;refine(KP gt (32*q) ct _ (32*i) ps _ (by omega) (by omega) (by unfold maxLen;omega) (λk hk=>F2.ht _ (by rw[HQ.out];omega)) (HCB.out (32*i) (by omega))).mono ?_;rintro e w3⟨rfl,rfl⟩;obtain⟨ma,hma⟩:∃x,wd ps (32*i) 8=x:=⟨_,rfl⟩;rw[hma];have Hma:=XaI hma;clear hma;go_wp2_with fail;refine(KP gt (32*q) ct _ (32*i+8) ps _ (by omega) (by omega) (by unfold maxLen;omega) (λk hk=>F2.ht _ (by rw[HQ.out];omega)) (HCB.out (32*i+8) (by omega))).mono ?_;rintro e w3⟨rfl,rfl⟩;obtain⟨mb,hmb⟩:∃x,wd ps (32*i+8) 8=x:=⟨_,rfl⟩;rw[hmb];have Hmb:=XaI hmb;clear hmb;go_wp2_with fail;refine(KP gt (32*q) ct _ (32*i+16) ps _ (by omega) (by omega) (by unfold maxLen;omega) (λk hk=>F2.ht _ (by rw[HQ.out];omega)) (HCB.out (32*i+16) (by omega))).mono ?_;rintro e w3⟨rfl,rfl⟩;obtain⟨mc,hmc⟩:∃x,wd ps (32*i+16) 8=x:=⟨_,rfl⟩;rw[hmc];have Hmc:=XaI hmc;clear hmc;go_wp2_with fail;refine(KP gt (32*q) ct _ (32*i+24) ps _ (by omega) (by omega) (by unfold maxLen;omega) (λk hk=>F2.ht _ (by rw[HQ.out];omega)) (HCB.out (32*i+24) (by omega))).mono ?_;rintro e w3⟨rfl,rfl⟩;obtain⟨md,hmd⟩:∃x,wd ps (32*i+24) 8=x:=⟨_,rfl⟩;rw[hmd];have Hmd:=XaI hmd;clear hmd;go_wp2_with fail;have G:=XV (S:=⟨sa,sb,sc,sd⟩) ⟨ma,mb,mc,md⟩ F2 HD.out;clear F F2 HD HCB HG;obtain⟨gm,hgm⟩:∃gm,w3.heap.size=gm:=⟨_,rfl⟩;rw[hgm]at G⊢;refine gen_w (p:=λv=>Code.wp _ _ _ _ v) (q:=λv=>OfM w.heap.size gt gs gp gm w v ps ⟨sa,sb,sc,sd⟩ ⟨ma,mb,mc,md⟩) G ?_;clear G hgm hsz2 hgp0 hgp1 w3;intro v G;obtain⟨c0,c1,c2,c3,cf⟩:=CS (show v.heap[gs]?=some (.cells #[.int .u64 sa, .int .u64 sb, .int .u64 sc, .int .u64 sd] 112)from G.f.hs);obtain⟨e0,e1,e2,e3,ef⟩:=CS (show v.heap[gm]?=some (.cells #[.int .u64 ma, .int .u64 mb, .int .u64 mc, .int .u64 md] 112)from G.hm);clear cf ef
   go_quiet (fail)
   go_wp2_with fail
   go_quiet (fail)
   go_wp2_with fail
   go_quiet (fail)
   go_wp2_with fail
   go_quiet (fail)
   go_wp2_with fail;clear c0 c1 c2 c3 e0 e1 e2 e3
   go_loopw [9,10,11,12,13,14] (λta tb tc td tx tk v=>∃(k:Nat)(ra rb rc rd x:Int),k<=8/\tk= .int .i64 k/\ta= .int .u64 ra/\tb= .int .u64 rb/\tc= .int .u64 rc/\td= .int .u64 rd/\tx= .int .u64 x/\Hid (S4.mk ra rb rc rd=rk ⟨sa,sb,sc,sd⟩ ⟨ma,mb,mc,md⟩ k)/\Hid (x=kx k)/\OfM w.heap.size gt gs gp gm w v ps ⟨sa,sb,sc,sd⟩ ⟨ma,mb,mc,md⟩) (λ_ _ _ _ _ tk _=>8-(intOf tk).toNat)
   case atStart=>exact⟨0,_,_,_,_,_,by omega,rfl,rfl,rfl,rfl,rfl,rfl,rfl,XW,(((G.drewN _).drewN _).drewN _).drewN _⟩
   case round=>
    clear G;obtain⟨k,ra,rb,rc,rd,x,hk,rfl,rfl,rfl,rfl,rfl,rfl,HR,HX,G⟩:=hrel;by_cases hk8:k<8
    ·obtain⟨e0,e1,e2,e3,ef⟩:=CS (show wr.heap[gm]?=some (.cells #[.int .u64 ma, .int .u64 mb, .int .u64 mc, .int .u64 md] 112)from G.hm);clear ef;have hc:k%4=0∨k%4=1∨k%4=2∨k%4=3:=(by omega);rcases hc with hc|hc|hc|hc
     ·have hq4:(k:Int)%4=0:=(by omega);have hmm:=XaI (show mAt ⟨ma,mb,mc,md⟩ k=ma from by simp[mAt,hc]);clear hc;go_wp2_with (first|(go_at_call 68;refine(XT _ _ _ (by omega) (by omega)).mono ?_;rintro e w'⟨rfl,nn,rfl⟩));refine⟨⟨k+1,_,_,_,_,_,by omega,by go_num,rfl,rfl,rfl,rfl,rfl,KO HR.out (Fo _ _ HX.out) hmm.out (Ov ra rb rc rd _ _ _ _ _ _ _ _ _ (Ou _ _ _ _) rfl rfl rfl rfl rfl rfl rfl),Fo _ _ HX.out,?_⟩,by simp[intOf];omega⟩
      repeat(first|exact G|refine OfM.drewN ?_ _)
     ·have hq4:(k:Int)%4=1:=(by omega);have hmm:=XaI (show mAt ⟨ma,mb,mc,md⟩ k=mb from by simp[mAt,hc]);clear hc;go_wp2_with (first|(go_at_call 68;refine(XT _ _ _ (by omega) (by omega)).mono ?_;rintro e w'⟨rfl,nn,rfl⟩));refine⟨⟨k+1,_,_,_,_,_,by omega,by go_num,rfl,rfl,rfl,rfl,rfl,KO HR.out (Fo _ _ HX.out) hmm.out (Ov ra rb rc rd _ _ _ _ _ _ _ _ _ (Ou _ _ _ _) rfl rfl rfl rfl rfl rfl rfl),Fo _ _ HX.out,?_⟩,by simp[intOf];omega⟩
      repeat(first|exact G|refine OfM.drewN ?_ _)
     ·have hq4:(k:Int)%4=2:=(by omega);have hmm:=XaI (show mAt ⟨ma,mb,mc,md⟩ k=mc from by simp[mAt,hc]);clear hc;go_wp2_with (first|(go_at_call 68;refine(XT _ _ _ (by omega) (by omega)).mono ?_;rintro e w'⟨rfl,nn,rfl⟩));refine⟨⟨k+1,_,_,_,_,_,by omega,by go_num,rfl,rfl,rfl,rfl,rfl,KO HR.out (Fo _ _ HX.out) hmm.out (Ov ra rb rc rd _ _ _ _ _ _ _ _ _ (Ou _ _ _ _) rfl rfl rfl rfl rfl rfl rfl),Fo _ _ HX.out,?_⟩,by simp[intOf];omega⟩
      repeat(first|exact G|refine OfM.drewN ?_ _)
     ·have hq4:(k:Int)%4=3:=(by omega);have hmm:=XaI (show mAt ⟨ma,mb,mc,md⟩ k=md from by simp[mAt,hc]);clear hc;go_wp2_with (first|(go_at_call 68;refine(XT _ _ _ (by omega) (by omega)).mono ?_;rintro e w'⟨rfl,nn,rfl⟩));refine⟨⟨k+1,_,_,_,_,_,by omega,by go_num,rfl,rfl,rfl,rfl,rfl,KO HR.out (Fo _ _ HX.out) hmm.out (Ov ra rb rc rd _ _ _ _ _ _ _ _ _ (Ou _ _ _ _) rfl rfl rfl rfl rfl rfl rfl),Fo _ _ HX.out,?_⟩,by simp[intOf];omega⟩
      repeat(first|exact G|refine OfM.drewN ?_ _)
    ·have hk2:k=8:=(by omega);subst hk2;clear hk hk8;obtain⟨p0,p1,p2,p3⟩:=And.intro G.p0 (And.intro G.p1 (And.intro G.p2 G.p3));have HM:Hid (S4.mk ma mb mc md=wordsAt ps (32*i)):=(by unfold Hid wordsAt;rw[Hma.out,Hmb.out,Hmc.out,Hmd.out]);have HN:=XaI (XX HS.out HM.out HR.out);clear HM HS HR HX Hma Hmb Hmc Hmd;go_wp2_with fail
     go_region_held3 (λv=>(v.cell? ⟨gp,0,none⟩=some (.int .u64 sa)/\v.cell? ⟨gp,1,none⟩=some (.int .u64 sb)/\v.cell? ⟨gp,2,none⟩=some (.int .u64 sc)/\v.cell? ⟨gp,3,none⟩=some (.int .u64 sd))/\OfM w.heap.size gt gs gp gm w v ps ⟨sa,sb,sc,sd⟩ ⟨ma,mb,mc,md⟩)
      ((first|exact Wc G.drew|exact Wc (G.alloc _).drew|exact Wc (G.drew.alloc _)))
      (fail)
     go_wp2_with fail;refine⟨⟨i+1,wr.heap.size,xor4 ⟨ra,rb,rc,rd⟩ ⟨sa,sb,sc,sd⟩,by omega,by go_num,rfl,HN.out,(G.f.state (xor4 ⟨ra,rb,rc,rd⟩ ⟨sa,sb,sc,sd⟩)).drew⟩,by simp[intOf];omega⟩
  ·have hiq:i=q:=(by omega);subst hiq;have hfin:Hid (dig ⟨sa,sb,sc,sd⟩=dig (stOf ps (ps.length/32))):=(by unfold Hid;rw[HS.out,HQ.out,Nat.mul_div_cancel_left i (by omega)]);clear HS HQ;have hN:=F.h0;have hgN:=F.gsl;have hbel:=F.bel;have l0:=lt_of_get hN;have l1:=lt_of_get F.hs;have K0:Ex w.heap.size gs wr.heap.size w (wr.alloc (.cells (B8 (List.replicate 32 0)) 49)) sa sb sc sd (List.replicate 32 0):=⟨(Au _ _ _ l0).trans hN,(Au _ _ _ l1).trans F.hs,Ai _ _,hbel.alloc (by omega) _⟩;have hNe:¬wr.heap.size=w.heap.size:=(by omega);clear hN hbel F;obtain⟨go,hgo⟩:∃go,wr.heap.size=go:=⟨_,rfl⟩;rw[hgo]at K0 hNe;have hgoN:w.heap.size<go:=(by omega);have hgs:¬gs=go:=(by omega);go_wp2_with fail;refine gen_w (p:=λv=>Code.wp _ _ _ _ v) (q:=λv=>Ex w.heap.size gs go w v sa sb sc sd (List.replicate 32 0)) K0 ?_;clear K0 hgo l0 l1 hgN hNe;intro v K0
   go_loopw [17] (λt v=>∃k:Nat,k<=32/\t= .int .i64 k/\Ex w.heap.size gs go w v sa sb sc sd (digk ⟨sa,sb,sc,sd⟩ k)) (λt _=>32-(intOf t).toNat)
   case atStart=>exact⟨0,by omega,rfl,K0⟩
   case round=>
    clear K0;obtain⟨k,hk,rfl,R⟩:=hrel;by_cases hlt:k<32
    ·obtain⟨p,q,r,s,f⟩:=CS (show wr.heap[gs]?=some (.cells #[.int .u64 sa, .int .u64 sb, .int .u64 sc, .int .u64 sd] 112)from R.hs);clear f;have hcell:=Oo R.ho k (by rw[Kn];omega);have hfr:=AL _ _ k _ _ R.ho;generalize (digk ⟨sa,sb,sc,sd⟩ k).getD k 0=y at hcell;have hc:k<8∨(8<=k/\k<16)∨(16<=k/\k<24)∨24<=k:=(by omega);rcases hc with hc|hc|hc|hc
     ·have hq:(k:Int)/8=0:=(by omega);have T:=R.setO hgs (by omega) k (bt (sel ⟨sa,sb,sc,sd⟩ k) k);have e:sel ⟨sa,sb,sc,sd⟩ k=sa:=(by simp[sel,hc]);rw[EM,e]at T;clear e;go_wp2_with fail;exact⟨⟨k+1,by omega,by go_num,T⟩,by simp[intOf];omega⟩
     ·have hq:(k:Int)/8=1:=(by omega);have T:=R.setO hgs (by omega) k (bt (sel ⟨sa,sb,sc,sd⟩ k) k);have e:sel ⟨sa,sb,sc,sd⟩ k=sb:=(by simp[sel,show¬k<8 from by omega,show k<16 from by omega]);rw[EM,e]at T;clear e;go_wp2_with fail;exact⟨⟨k+1,by omega,by go_num,T⟩,by simp[intOf];omega⟩
     ·have hq:(k:Int)/8=2:=(by omega);have T:=R.setO hgs (by omega) k (bt (sel ⟨sa,sb,sc,sd⟩ k) k);have e:sel ⟨sa,sb,sc,sd⟩ k=sc:=(by simp[sel,show¬k<8 from by omega,show¬k<16 from by omega,show k<24 from by omega]);rw[EM,e]at T;clear e;go_wp2_with fail;exact⟨⟨k+1,by omega,by go_num,T⟩,by simp[intOf];omega⟩
     ·have hq:(k:Int)/8=3:=(by omega);have T:=R.setO hgs (by omega) k (bt (sel ⟨sa,sb,sc,sd⟩ k) k);have e:sel ⟨sa,sb,sc,sd⟩ k=sd:=(by simp[sel,show¬k<8 from by omega,show¬k<16 from by omega,show¬k<24 from by omega]);rw[EM,e]at T;clear e;go_wp2_with fail;exact⟨⟨k+1,by omega,by go_num,T⟩,by simp[intOf];omega⟩
    ·have hk2:k=32:=(by omega);subst hk2;rw[Po,hfin.out]at R;generalize hds:dig (stOf ps (ps.length/32))=ds at R;have hdl:ds.length=32:=(by rw[<-hds];simp[dig]);have HD:=XaI hds;clear hds hfin;have HI2:Hid ((prog.info? 49).map (·.size)=some (B8 ds).size):=(by unfold Hid;rw[B8_size,hdl];kernel_rfl);have HO:=XaI R.ho;have HN:=XaI R.h0;go_wp2_with (first|refine EA rfl 49 _ rfl _ rfl 49 _ _ _ HO.out underlying49 rfl HI2.out ?_|refine A4 rfl 49 _ _ rfl _ (B8 ds) rfl rfl 49 _ HN.out HI2.out (by rw[B8_size,B8_size,hdl,Bj]) (B8_one _) ?_);refine Ao (AZ results46 _ _ w.heap.size 49 (B8 ds) (0,0) _ rfl (A9 _ _ _ _ _ _ HN.out) underlying49 rfl HI2.out) rfl ?_;exact⟨by rw[HPS.out,HD.out],Below.setRow R.bel (Aa _) _⟩
end Go.Proofs.YtalhnnjpjaeakaaGreat.Di
namespace Go.Proofs.YtalhnnjpjaeakaaGreat.Di
theorem TW(w:World):Calls prog 56 #[] w λe w'=>(∃a b c d,e= .returned (.agg #[.int .u64 a, .int .u64 b, .int .u64 c, .int .u64 d])/\Hid (S4.mk a b c d=s0))/\Below w.heap.size w w':=by
 go_enter func56,ntmps56;go_wp2
 go_returns
 refine⟨⟨_,_,_,_,rfl,rfl⟩,?_⟩
 repeat' (first|refine Below.setCell ?_ (by simp<;>omega) _|refine below_drewN ?_ _|refine Below.alloc ?_ (by simp<;>omega) _|exact Ak _ _)
theorem XY(a b c d:Int):HC ⟨a,b,c,d⟩ (List.replicate 32 0) 0=#[.int .u64 a, .int .u64 b, .int .u64 c, .int .u64 d, .int .u8 0, .int .u8 0, .int .u8 0, .int .u8 0, .int .u8 0, .int .u8 0, .int .u8 0, .int .u8 0, .int .u8 0, .int .u8 0, .int .u8 0, .int .u8 0, .int .u8 0, .int .u8 0, .int .u8 0, .int .u8 0, .int .u8 0, .int .u8 0, .int .u8 0, .int .u8 0, .int .u8 0, .int .u8 0, .int .u8 0, .int .u8 0, .int .u8 0, .int .u8 0, .int .u8 0, .int .u8 0, .int .u8 0, .int .u8 0, .int .u8 0, .int .u8 0, .int .i64 0]:=by kernel_rfl
theorem ZA(s:S4)(tl:List Int)(n:Nat):(HC s tl n).all (·.oneCell')=true:=by
 simp[HC,B8,Value.oneCell']
structure OfH(N g:Nat)(w0 w:World)(s:S4)(tl:List Int)(n:Nat):Prop where
 h0:w.heap[N]?=some (.cells (B8 (List.replicate 32 0)) 49)
 hg:w.heap[g]?=some (.cells (HC s tl n) 116)
 bel:Below N w0 w
 lt:N<g
end Go.Proofs.YtalhnnjpjaeakaaGreat.Di
namespace Go.Proofs.YtalhnnjpjaeakaaGreat.Di
structure Touch(g:Nat)(w w':World):Prop where
 os:w'.os=w.os
 tape:w'.tape=w.tape
 output:w'.output=w.output
 size:w.heap.size<=w'.heap.size
 block:∀k,k<w.heap.size->k≠g->w'.heap[k]?=w.heap[k]?
theorem Touch.refl(g:Nat)(w:World):Touch g w w:=⟨rfl,rfl,rfl,Aa _,λ_ _ _=>rfl⟩
theorem Touch.trans{g:Nat}{a b c:World}(h:Touch g a b)(k:Touch g b c):Touch g a c:=
 ⟨k.os.trans h.os,k.tape.trans h.tape,k.output.trans h.output,Al h.size k.size,λi hi hg=>(k.block i (Bw hi h.size) hg).trans (h.block i hi hg)⟩
theorem Touch.of_below{g:Nat}{a b:World}(h:Below a.heap.size a b):Touch g a b:=⟨h.os,h.tape,h.output,h.size,λi hi _=>h.block i hi⟩
theorem Touch.setCell(g:Nat)(w:World)(o:Nat)(v:Value):Touch g w (w.setCell ⟨g,o,none⟩ v):=⟨rfl,rfl,rfl,by simp,λk _ hk=>A8 _ _ _ _ hk⟩
theorem Touch.setRow(g:Nat)(w:World)(C:Array Value):Touch g w (w.setRow g C):=⟨rfl,rfl,rfl,by simp,λk _ hk=>AW _ _ _ _ hk⟩
theorem Touch.drew(g:Nat)(w:World):Touch g w w.drew:=⟨rfl,rfl,rfl,Aa _,λ_ _ _=>rfl⟩
theorem KQ(s:S4)(tl:List Int)(n:Nat):(HC s tl n).toList=[Value.int .u64 s.a,Value.int .u64 s.b,Value.int .u64 s.c,Value.int .u64 s.d]++tl.map (Value.int .u8)++[Value.int .i64 n]:=by
 simp[HC,B8]
theorem IG(s:S4)(tl:List Int)(n:Nat){C:Array Value}(h:C.toList=[Value.int .u64 s.a,Value.int .u64 s.b,Value.int .u64 s.c,Value.int .u64 s.d]++tl.map (Value.int .u8)++[Value.int .i64 n]):C=HC s tl n:=by
 apply Array.ext';rw[h,KQ]
theorem Ju(s:S4)(tl:List Int)(n m:Nat)(h:tl.length=32):(HC s tl n).setIfInBounds 36 (.int .i64 m)=HC s tl m:=by
 apply IG;rw[Eu,KQ,DA _ _ (by simp[h])];simp[h]
theorem Ow(s:S4)(tl:List Int)(n:Nat)(a b c d:Int):((((HC s tl n).setIfInBounds 0 (.int .u64 a)).setIfInBounds 1 (.int .u64 b)).setIfInBounds 2 (.int .u64 c)).setIfInBounds 3 (.int .u64 d)=HC ⟨a,b,c,d⟩ tl n:=by
 apply IG;simp only[Eu,KQ];simp
theorem Pq{α:Type}(pre T X:List α)(z:α)(o m:Nat)(hm:o+m<=T.length):(pre++T++[z]).take (pre.length+o)++X++(pre++T++[z]).drop (pre.length+o+m)=pre++(T.take o++X++T.drop (o+m))++[z]:=by
 rw[List.append_assoc pre T [z],List.take_length_add_append,Nat.add_assoc,List.drop_length_add_append,List.take_append_of_le_length (by omega),List.drop_append_of_le_length hm];simp[List.append_assoc]
theorem Ik{w:World}{g o dl dc sl sc:Nat}{ad:Addr}{s:S4}{tl xs:List Int}{n:Nat}(hg:w.heap[g]?=some (.cells (HC s tl n) 116))(hl:tl.length=32)(hn:xs.length=Nat.min sl dl)(hfit:o+xs.length<=32)
 (hsrc:∀j v,(xs.map (Value.int .u8))[j]?=some v->w.cell? (ad.add j)=some v) (ty:TypeId):
 (Builtin.copy_ #[27,27] ty #[.slice (some ⟨g,4+o,none⟩) dl dc, .slice (some ad) sl sc]).run prog w= .ok (.int .i64 xs.length) (w.setRow g (HC s (tl.take o++xs++tl.drop (o+xs.length)) n)):=by
 have h:=run_copy_row prog w 27 27 ty 5 g (4+o) dl dc ad sl sc (HC s tl n) 116 (xs.map (Value.int .u8)) underlying27 (by kernel_rfl) hg (by simpa using hn) hsrc (by rw[Oq];simp;omega) (Ot _);rw[h];have e:((HC s tl n).toList.take (4+o)++xs.map (Value.int .u8)++(HC s tl n).toList.drop (4+o+(xs.map (Value.int .u8)).length)).toArray=HC s (tl.take o++xs++tl.drop (o+xs.length)) n:=by
  apply IG;rw[KQ,List.toList_toArray,Ba];have h:=Pq [Value.int .u64 s.a,Value.int .u64 s.b,Value.int .u64 s.c,Value.int .u64 s.d] (tl.map (Value.int .u8)) (xs.map (Value.int .u8)) (Value.int .i64 n) o xs.length (by simp;omega);rw[BA,BA,List.map_take,List.map_drop];exact h
 rw[e];simp[goInt]
theorem Ks{w:World}{g:Nat}{s:S4}{tl:List Int}{n:Nat}(hg:w.heap[g]?=some (.cells (HC s tl n) 116))(hl:tl.length=32):(load23V (.pointer (some ⟨g,4,none⟩))).run prog w= .ok (.agg (B8 tl)) w:=by
 have hr:w.rangeAt g 4 (tl.map (Value.int .u8)):=by
  intro j v hv;have hj:j<tl.length:=by have:=(Aw.1 hv).1;simpa using this
  rw[Ae w g _ _ _ _ hg,SD s tl n j hj,<-hv];simp[Ac hj]
 have:=run_loadAt_mid (P:=prog) w g 4 48 (tl.map (Value.int .u8)) _ hr underlying48 rfl (by rw[Ba,hl];kernel_rfl);exact this
def stP(bs:List Int):Nat->S4
 |0=>s0
 |i+1=>mix (stP bs i) (words ((bs.drop (32*i)).take 32))
theorem Fa(xs ys:List Int):∀i,32*i<=xs.length->stP (xs++ys) i=stP xs i
 |0,_=>rfl
 |i+1,h=>by
  have ih:=Fa xs ys i (by omega);unfold stP;rw[ih,Ct (by omega),Cs (by rw[AQ];omega)]
structure Inv(all:List Int)(s:S4)(tl:List Int)(n:Nat):Prop where
 hn:n=all.length
 hs:s=stP all (n/32)
 hl:tl.length=32
 ht:tl.take (n%32)=all.drop (32*(n/32))
 hb:∀x∈tl,0<=x/\x<256
structure Mid(cur:List Int)(s:S4)(tl:List Int):Prop where
 hm:cur.length%32=0
 hs:s=stP cur (cur.length/32)
 hl:tl.length=32
 hb:∀x∈tl,0<=x/\x<256
theorem TX(cur p:List Int)(hm:cur.length%32=0)(hp:p.length=32):stP (cur++p) ((cur++p).length/32)=mix (stP cur (cur.length/32)) (words p):=by
 have e:(cur++p).length/32=cur.length/32+1:=by rw[Ab,hp];omega
 rw[e];show mix (stP (cur++p) (cur.length/32)) (words (((cur++p).drop (32*(cur.length/32))).take 32))=_;rw[Fa cur p _ (by omega),show 32*(cur.length/32)=cur.length from by omega,Ck,A5 (by omega)]
theorem Inv.start{all:List Int}{s:S4}{tl:List Int}{n:Nat}(h:Inv all s tl n)(h0:n%32=0):Mid all s tl:=
 ⟨by rw[<-h.hn];exact h0,by rw[h.hs,h.hn],h.hl,h.hb⟩
theorem Inv.short{all bs:List Int}{s:S4}{tl:List Int}{n f:Nat}(h:Inv all s tl n)(hf:n%32=f)(hs:f+bs.length<32)(hb:∀x∈bs,0<=x/\x<256):
 Inv (all++bs) s (tl.take f++bs++tl.drop (f+bs.length)) (n+bs.length):=by
 have hn:=h.hn;have hl:=h.hl;refine⟨by rw[Ab,<-hn],?_,?_,?_,?_⟩
 ·rw[show(n+bs.length)/32=n/32 from by omega,Fa _ _ _ (by omega),h.hs]
 ·simp only[Ab,Ap,AQ];omega
 ·rw[show(n+bs.length)%32=f+bs.length from by omega,show(n+bs.length)/32=n/32 from by omega];have e:(tl.take f++bs).length=f+bs.length:=by simp[hl];omega
  rw[<-e,D5,Ct (by omega),<-h.ht,hf]
 ·intro x hx;simp only[AS]at hx;rcases hx with(hx|hx)|hx
  ·exact h.hb x (Bi hx)
  ·exact hb x hx
  ·exact h.hb x (BH hx)
theorem Inv.full{all bs:List Int}{s:S4}{tl:List Int}{n f m:Nat}(h:Inv all s tl n)(hf:n%32=f)(hm:f+m=32)(hbl:m<=bs.length)(hb:∀x∈bs,0<=x/\x<256):
 Mid (all++bs.take m) (mix s (words (tl.take f++bs.take m++tl.drop (f+m)))) (tl.take f++bs.take m++tl.drop (f+m)):=by
 have hn:=h.hn;have hl:=h.hl;have hbm:(bs.take m).length=m:=by rw[Ap];omega
 have e0:tl.drop (f+m)=[]:=B5 (by omega);rw[e0,Az];have e1:(all++bs.take m).length=n+m:=by rw[Ab,hbm,hn]
 refine⟨by rw[e1];omega,?_,by rw[Ab,hbm,Ap];omega,?_⟩
 ·rw[e1,show(n+m)/32=n/32+1 from by omega];show _=mix (stP (all++bs.take m) (n/32)) (words (((all++bs.take m).drop (32*(n/32))).take 32));rw[Fa _ _ _ (by omega),<-h.hs,Ct (by omega),<-h.ht,hf,A5 (l:=tl.take f++bs.take m) (by rw[Ab,hbm,Ap];omega)]
 ·intro x hx;simp only[AS]at hx;rcases hx with hx|hx
  ·exact h.hb x (Bi hx)
  ·exact hb x (Bi hx)
theorem Mid.piece{cur p:List Int}{s:S4}{tl:List Int}(h:Mid cur s tl)(hp:p.length=32)(hb:∀x∈p,0<=x/\x<256):Mid (cur++p) (mix s (words p)) p:=
 ⟨by rw[Ab,hp];have:=h.hm;omega,by rw[TX cur p h.hm hp,h.hs],hp,hb⟩
theorem Mid.stop{cur rs:List Int}{s:S4}{tl:List Int}(h:Mid cur s tl)(hr:rs.length<32)(hb:∀x∈rs,0<=x/\x<256):Inv (cur++rs) s (rs++tl.drop rs.length) (cur.length+rs.length):=by
 have hm:=h.hm;refine⟨by rw[Ab],?_,by rw[Ab,AQ,h.hl];omega,?_,?_⟩
 ·rw[show(cur.length+rs.length)/32=cur.length/32 from by omega,Fa _ _ _ (by omega),h.hs]
 ·rw[show(cur.length+rs.length)%32=rs.length from by omega,show 32*((cur.length+rs.length)/32)=cur.length from by omega,D5,Ck]
 ·intro x hx;rcases AS.1 hx with hx|hx
  ·exact hb x hx
  ·exact h.hb x (BH hx)
attribute [local go_sem ↓] Ko Go.wp_at_zero Go.wp_at_succ
structure Ws(g gb off:Nat)(w0 w:World)(bs:List Int)(s:S4)(tl:List Int)(n:Nat):Prop where
 hg:w.heap[g]?=some (.cells (HC s tl n) 116)
 t:Touch g w0 w
 hc:∀j,j<bs.length->w.cell? ⟨gb,off+j,none⟩=some (.int .u8 (bs.getD j 0))
theorem wpl_copy{w:World}{ops:Array Oper}{rest:List Oper}{o:Oper}{a:Act}{Q:Exit->Act->World->Prop}(hgd:o.guard=none)(d x:Operand)
 (ho:o.op= .call {callee:= .builtin .copy,args:=#[d,x],argTypes:=#[27,27]}) (v u:Value) (hd:a.eval d=v) (hx:a.eval x=u) {v':Value} {w':World}
 (hr:(Builtin.copy_ #[27,27] o.type #[v,u]).run prog w= .ok v' w') (h:wpList prog ops Q rest (a.put o.dst v') w'):wpList prog ops Q (o::rest) a w:=by
 refine wpList_plain hgd λK hK=>?_;unfold Oper.wp;simp[execOp,ho,resolve,invoke,builtin,hd,hx,hr,Result.andThen];exact hK _ _ h
theorem Ws.tail{g gb off:Nat}{w0 w:World}{bs:List Int}{s:S4}{tl:List Int}{n:Nat}(h:Ws g gb off w0 w bs s tl n)(hgb:gb≠g)(tl':List Int):Ws g gb off w0 (w.setRow g (HC s tl' n)) bs s tl' n:=
 ⟨A9 _ _ _ _ _ _ h.hg,h.t.trans (Touch.setRow _ _ _),λj hj=>(Aq (w:=w) (AW _ _ _ _ hgb)).trans (h.hc j hj)⟩
theorem Ws.drew{g gb off:Nat}{w0 w:World}{bs:List Int}{s:S4}{tl:List Int}{n:Nat}(h:Ws g gb off w0 w bs s tl n):Ws g gb off w0 w.drew bs s tl n:=⟨h.hg,h.t.trans (Touch.drew _ _),h.hc⟩
theorem Ws.call{g gb off:Nat}{w0 w w1:World}{bs:List Int}{s:S4}{tl:List Int}{n:Nat}(h:Ws g gb off w0 w bs s tl n)(hb:Below w.heap.size w w1):Ws g gb off w0 w1 bs s tl n:=
 ⟨Below.row hb h.hg,h.t.trans (Touch.of_below hb),λj hj=>(hb.cell (p:=⟨gb,off+j,none⟩) (Aj (h.hc j hj))).trans (h.hc j hj)⟩
theorem Ws.state{g gb off:Nat}{w0 w:World}{bs:List Int}{s:S4}{tl:List Int}{n:Nat}(h:Ws g gb off w0 w bs s tl n)(hgb:gb≠g)(a b c d:Int):
 Ws g gb off w0 ((((w.setCell ⟨g,0,none⟩ (.int .u64 a)).setCell ⟨g,1,none⟩ (.int .u64 b)).setCell ⟨g,2,none⟩ (.int .u64 c)).setCell ⟨g,3,none⟩ (.int .u64 d)) bs ⟨a,b,c,d⟩ tl n:=by
 have h1:=AN w g 0 _ 116 (.int .u64 a) h.hg;have h2:=AN _ g 1 _ 116 (.int .u64 b) h1;have h3:=AN _ g 2 _ 116 (.int .u64 c) h2;have h4:=AN _ g 3 _ 116 (.int .u64 d) h3;rw[Ow]at h4
 exact⟨h4,(((h.t.trans (Touch.setCell _ _ _ _)).trans (Touch.setCell _ _ _ _)).trans (Touch.setCell _ _ _ _)).trans (Touch.setCell _ _ _ _),λj hj=>by
  have e:=G9 (w:=w) hgb (.int .u64 a) (.int .u64 b) (.int .u64 c) (.int .u64 d);have e2:((((w.setCell ⟨g,0,none⟩ (.int .u64 a)).setCell ⟨g,1,none⟩ (.int .u64 b)).setCell ⟨g,2,none⟩ (.int .u64 c)).setCell ⟨g,3,none⟩ (.int .u64 d)).cell? ⟨gb,off+j,none⟩=w.cell? ⟨gb,off+j,none⟩:=Aq e;rw[e2];exact h.hc j hj⟩
theorem Ws.first{g gb off:Nat}{w:World}{bs:List Int}{s:S4}{tl:List Int}{n m:Nat}(hg:w.heap[g]?=some (.cells (HC s tl n) 116))(hl:tl.length=32)(hc:∀j,j<bs.length->w.cell? ⟨gb,off+j,none⟩=some (.int .u8 (bs.getD j 0)))(hgb:gb≠g){p:Int}(hp:p=(m:Nat)):
 Ws g gb off w (w.setCell ⟨g,36,none⟩ (.int .i64 p)) bs s tl m:=by
 subst hp;have h1:=AN w g 36 _ 116 (.int .i64 (m:Nat)) hg;rw[Ju _ _ _ _ hl]at h1;exact⟨h1,Touch.setCell _ _ _ _,λj hj=>(Aq (w:=w) (A8 _ _ _ _ hgb)).trans (hc j hj)⟩
theorem Ox{w:World}{gb off k m:Nat}{bs:List Int}(hc:∀j,j<bs.length->w.cell? ⟨gb,off+j,none⟩=some (.int .u8 (bs.getD j 0))):∀j v,(((bs.drop k).take m).map (Value.int .u8))[j]?=some v->w.cell? ((⟨gb,off+k,none⟩:Addr).add j)=some v:=by
 intro j v hv;have hadd:(⟨gb,off+k,none⟩:Addr).add j=⟨gb,off+(k+j),none⟩:=by unfold Addr.add;split<;>simp_all [CB]
 have hj:=(Aw.1 hv).1;simp at hj;rw[hadd,hc (k+j) (by omega),<-hv];simp[hj,Ac (show k+j<bs.length by omega)]
theorem QD(g gb off len cap:Nat)(a b c d:Int)(tl:List Int)(n:Nat)(all bs:List Int)(w:World)(hinv:Inv all ⟨a,b,c,d⟩ tl n)(hbs:bs.length=len)(hpos:0<len)(hcap:len<=cap)(hm:cap<=maxLen)(hsum:n+len<9223372036854775808)
 (hb:∀x∈bs,0<=x/\x<256) (hgb:gb≠g) (hg:w.heap[g]?=some (.cells (HC ⟨a,b,c,d⟩ tl n) 116)) (hc:∀j,j<bs.length->w.cell? ⟨gb,off+j,none⟩=some (.int .u8 (bs.getD j 0))):
 Calls prog 57 #[.pointer (some ⟨g,0,none⟩), .slice (some ⟨gb,off,none⟩) len cap] w λe w'=>e= .returned (.tuple #[])/\(∃s' tl',Inv (all++bs) s' tl' (n+len)/\w'.heap[g]?=some (.cells (HC s' tl' (n+len)) 116))/\Touch g w w':=by
 unfold maxLen at hm;obtain⟨c0,c1,c2,c3,c36,cf⟩:=Fs hg hinv.hl;have HW:=XaI hc;have HG:=XaI hg;have HN:=XaI hinv.hn;clear hg hc;have F0:=Ws.first (m:=n+len) HG.out hinv.hl HW.out hgb (show(n:Int)+len=((n+len:Nat):Int)from by omega);have HF0:=XaI F0;have HIN:=XaI hinv;clear HG HW F0 hinv;obtain⟨f,hff⟩:∃f,n%32=f:=⟨_,rfl⟩;have hmod0:(n:Int)%32=(f:Int):=by omega
 have hmod:=XaI hmod0;clear hmod0;have hf2:f<32:=by omega
 have hff':=XaI hff;clear hff;go_enter func57,ntmps57
 go_upto_if 22 with fail
 rw[hmod.out]
 go_cut [1] (λt v=>∃(k:Nat)(ad:Option Addr)(s:S4)(tl:List Int),k<=len/\t= .slice ad (len-k) (cap-k)/\(k<len->ad=some ⟨gb,off+k,none⟩)/\Mid (all++bs.take k) s tl/\Ws g gb off w v bs s tl (n+len))
 case first=>
  by_cases hf:f=0
  ·subst hf;go_wp2_with fail
   go_meet
   case rel=>exact⟨0,some ⟨gb,off,none⟩,⟨a,b,c,d⟩,tl,by omega,rfl,λ_=>rfl,by have:=HIN.out.start hff'.out;simpa using this,HF0.out⟩
  ·have hf0:(0:Int)<(f:Int):=(by omega);have hf1:(f:Int)<=32:=(by omega);have hinv:=HIN.out;have hff:=hff'.out;by_cases hsh:f+len<32
   ·have hcp:=λty=>Ik (o:=f) (dl:=32-f) (dc:=32-f) (sl:=len) (sc:=cap) (ad:=⟨gb,off+0,none⟩) (xs:=(bs.drop 0).take len) HF0.out.hg hinv.hl (by rw[Ap,Cy,hbs,Nat.min_self];exact(CM (by omega)).symm) (by rw[Ap,Cy];omega) (Ox HF0.out.hc) ty;rw[Cy,A5 (by omega),hbs]at hcp;have I:=hinv.short hff (by omega) hb;rw[hbs]at I;have T:=HF0.out.tail hgb (tl.take f++bs++tl.drop (f+len));generalize tl.take f++bs++tl.drop (f+len)=ps at hcp I T;have HCP:=XaI hcp;have HI:=XaI (And.intro I T);have hlt:(f:Int)+(len:Int)<32:=(by omega);clear hcp I T hff hinv;go_wp2_with (first|refine wpl_copy rfl _ _ rfl _ _ rfl rfl (HCP.out _) ?_)
    go_returns
    exact⟨rfl,⟨_,_,HI.out.1,HI.out.2.hg⟩,HI.out.2.t⟩
   ·obtain⟨m,hmm⟩:∃m,f+m=32:=⟨32-f,by omega⟩;have hcp:=λty=>Ik (o:=f) (dl:=32-f) (dc:=32-f) (sl:=len) (sc:=cap) (ad:=⟨gb,off+0,none⟩) (xs:=(bs.drop 0).take m) HF0.out.hg hinv.hl (by rw[Ap,Cy,hbs,CM (by omega)];exact(by rw[show 32-f=m from by omega];exact(Nat.min_eq_right (by omega)).symm)) (by rw[Ap,Cy];omega) (Ox HF0.out.hc) ty;have hml:(bs.take m).length=m:=(by rw[Ap];omega);rw[Cy,hml]at hcp;have M1:=hinv.full hff hmm (by omega) hb;have T:=HF0.out.tail hgb (tl.take f++bs.take m++tl.drop (f+m));generalize tl.take f++bs.take m++tl.drop (f+m)=ps at hcp M1 T;have HCP:=XaI hcp;have HT:=XaI T;have HM1:=XaI M1;have hlt:¬(f:Int)+(m:Int)<32:=(by omega);have hm0:(m:Int)<=len:=(by omega);have hm1:(m:Int)<=cap:=(by omega);clear hcp T hff hinv M1 hml;go_wp2_with (first|refine wpl_copy rfl _ _ rfl _ _ rfl rfl (HCP.out _) ?_);refine gen_w (p:=λv=>Code.wp _ _ _ _ v) (q:=λv=>Ws g gb off w v bs ⟨a,b,c,d⟩ ps (n+len)) HT.out ?_;clear HCP HT HF0 c0 c1 c2 c3 c36 cf;intro v F;have HP:Hid (ps.length=32/\∀x∈ps,0<=x/\x<256):=⟨HM1.out.hl,HM1.out.hb⟩;obtain⟨c0,c1,c2,c3,c36,cf⟩:=Fs F.hg HP.out.1;have l4:=Ks (w:=v.drew) F.hg HP.out.1
    go_region_with (first
     |(go_at_call 83;refine(Gt ps HP.out.1 HP.out.2 _).mono ?_;rintro e w6⟨⟨ma,mb,mc,md,rfl,H6⟩,hb6⟩;have F3:=F.drew.call hb6;clear hb6;obtain⟨c0,c1,c2,c3,c36,cf⟩:=Fs F3.hg HP.out.1)
     |(go_at_call 82;refine(Jt _ _ _ _ _ _ _ _ _).mono ?_;rintro e w7⟨⟨a7,b7,c7,d7,rfl,H7⟩,hb7⟩;have F4:=F3.call hb7;clear hb7;obtain⟨c0,c1,c2,c3,c36,cf⟩:=Fs F4.hg HP.out.1))
    all_goals
     refine gen_w (p:=λv=>Exit.then _ _ _ _ v) (q:=λv=>Ws g gb off w v bs ⟨a7,b7,c7,d7⟩ ps (n+len)) (F4.state hgb _ _ _ _) ?_;have M0:Mid (all++bs.take m) ⟨a7,b7,c7,d7⟩ ps:=(by rw[H7.out,H6.out];exact HM1.out);clear l4 c0 c1 c2 c3 c36 cf F F3 F4 H6 H7 HM1 HP;intro v5 F0;have HM0:=XaI M0;have HF5:=XaI F0;clear M0 F0;go_wp2_with fail
     all_goals
      go_meet
      case rel=>
       first
        |exact⟨m,some ⟨gb,off+m,none⟩,⟨a7,b7,c7,d7⟩,ps,by omega,rfl,λ_=>rfl,HM0.out,HF5.out⟩
        |exact⟨m,some ⟨gb,off,none⟩,⟨a7,b7,c7,d7⟩,ps,by omega,by simp<;>omega,λh=>by exfalso;omega,HM0.out,HF5.out⟩
 case rest=>
  clear HF0 HIN c0 c1 c2 c3 c36 cf hmod hf2 hff';obtain⟨k0,ad0,s0',tl0,hk0,rfl,had0,M0,F0⟩:=hcut;have HM0:=XaI (And.intro M0 F0);have HA0:=XaI had0;clear M0 F0 had0;go_wp2_with fail
  go_loopw [1] (λt v=>∃(k:Nat)(ad:Option Addr)(s:S4)(tl:List Int),k<=len/\t= .slice ad (len-k) (cap-k)/\(k<len->ad=some ⟨gb,off+k,none⟩)/\Mid (all++bs.take k) s tl/\Ws g gb off w v bs s tl (n+len)) (λt _=>lenOf t)
  case atStart=>exact⟨k0,ad0,s0',tl0,hk0,rfl,HA0.out,HM0.out.1,HM0.out.2⟩
  case round=>
   clear HM0 HA0 hk0;obtain⟨k,ad,⟨a,b,c,d⟩,tl,hk,rfl,had,M,F⟩:=hrel;by_cases hlt:k+32<=len
   ·have had:=had (by omega);subst had;have hli:(32:Int)<=((len-k:Nat):Int):=(by omega);have hxl:((bs.drop k).take 32).length=32:=(by rw[Ap,AQ];omega);have hcp:=λty=>Ik (o:=0) (dl:=32) (dc:=32) (sl:=len-k) (sc:=cap-k) (ad:=⟨gb,off+k,none⟩) (xs:=(bs.drop k).take 32) F.hg M.hl (by rw[hxl];exact(Nat.min_eq_right (by omega)).symm) (by omega) (Ox F.hc) ty;have HCP:=XaI hcp;clear hcp;go_wp2_with (first|refine wpl_copy rfl _ _ rfl _ _ rfl rfl (HCP.out _) ?_);refine gen_w (p:=λv=>Code.wp _ _ _ _ v) (q:=λv=>Ws g gb off w v bs ⟨a,b,c,d⟩ ((bs.drop k).take 32) (n+len)) (by have T:=F.tail hgb ((bs.drop k).take 32);rw[show List.drop 32 tl=[]from B5 (by rw[M.hl];omega),Az];exact T) ?_;have hpb:∀x∈(bs.drop k).take 32,0<=x/\x<256:=λx hx=>hb x (BH (Bi hx));have M2:=M.piece hxl hpb;have etk:all++bs.take k++(bs.drop k).take 32=all++bs.take (k+32):=(by rw[AE,List.take_add]);rw[etk]at M2;have HP:=XaI (And.intro hxl hpb);generalize (bs.drop k).take 32=ps at HP M2;clear etk hxl hpb F M HCP;intro v F;obtain⟨c0,c1,c2,c3,c36,cf⟩:=Fs F.hg HP.out.1;have l4:=Ks (w:=v.drew) F.hg HP.out.1
    go_region_with (first
     |(go_at_call 83;refine(Gt ps HP.out.1 HP.out.2 _).mono ?_;rintro e w6⟨⟨ma,mb,mc,md,rfl,H6⟩,hb6⟩;have F3:=F.drew.call hb6;clear hb6;obtain⟨c0,c1,c2,c3,c36,cf⟩:=Fs F3.hg HP.out.1)
     |(go_at_call 82;refine(Jt _ _ _ _ _ _ _ _ _).mono ?_;rintro e w7⟨⟨a7,b7,c7,d7,rfl,H7⟩,hb7⟩;have F4:=F3.call hb7;clear hb7;obtain⟨c0,c1,c2,c3,c36,cf⟩:=Fs F4.hg HP.out.1))
    all_goals
     refine gen_w (p:=λv=>Exit.then _ _ _ _ v) (q:=λv=>Ws g gb off w v bs ⟨a7,b7,c7,d7⟩ ps (n+len)) (F4.state hgb _ _ _ _) ?_;have M3:Mid (all++bs.take (k+32)) ⟨a7,b7,c7,d7⟩ ps:=(by rw[H7.out,H6.out];exact M2);clear l4 c0 c1 c2 c3 c36 cf F F3 F4 H6 H7 M2 HP;intro v5 F5;have HM:=XaI (And.intro M3 F5);clear M3 F5;go_wp2_with fail
     all_goals
      first
       |exact⟨⟨k+32,(if cap-k=32 then some ⟨gb,off+k,none⟩else some ⟨gb,off+k+32,none⟩),_,_,by omega,by rw[Nat.sub_sub,Nat.sub_sub],λh=>by rw[Ad (by omega),CB],HM.out.1,HM.out.2⟩,by simp[lenOf];omega⟩
       |(refine⟨⟨k+32,by omega,_,⟨rfl,by omega,by omega⟩,λh=>?_,_,_,HM.out.1,HM.out.2⟩,by simp[lenOf];omega⟩
         first|(exfalso;omega)|(rw[CB]))
   ·have hrl:(bs.drop k).length=len-k:=(by rw[AQ];omega);have hli:¬(32:Int)<=((len-k:Nat):Int):=(by omega);have hrb:∀x∈bs.drop k,0<=x/\x<256:=λx hx=>hb x (BH hx);have I:=M.stop (rs:=bs.drop k) (by omega) hrb;have ecur:(all++bs.take k).length+(bs.drop k).length=n+len:=(by rw[Ab,Ap,AQ,<-HN.out];omega);rw[ecur,AE,Bf]at I;have T:=F.tail hgb (bs.drop k++tl.drop (bs.drop k).length);rw[hrl]at I T;have HF:=XaI (And.intro I T.hg);by_cases hke:k=len
    ·have hz:bs.drop k++tl.drop (len-k)=tl:=(by rw[B5 (by omega),show len-k=0 from by omega];simp);rw[hz]at I;have HF:=XaI (And.intro I F.hg);have ht:=F.t;clear I T F M had hrl hrb ecur hz;go_wp2_with (first|(refine wpList_copy_nothing rfl _ _ 27 27 rfl 5 underlying27 (by kernel_rfl) _ _ _ _ _ _ rfl rfl (by simp;omega) ?_))
     go_end0
     exact⟨rfl,⟨_,_,HF.out.1,HF.out.2⟩,ht⟩
    ·have had:=had (by omega);subst had;have hcp:=λty=>Ik (o:=0) (dl:=32) (dc:=32) (sl:=len-k) (sc:=cap-k) (ad:=⟨gb,off+k,none⟩) (xs:=(bs.drop k).take (len-k)) F.hg M.hl (by rw[Ap,hrl];exact(by rw[Nat.min_self];exact(CM (by omega)).symm)) (by rw[Ap,hrl];omega) (Ox F.hc) ty;rw[A5 (Nat.le_of_eq hrl)]at hcp;have HCP:=XaI hcp;have ht:=T.t;clear hcp I T F M hrl hrb ecur;go_wp2_with (first|refine wpl_copy rfl _ _ rfl _ _ rfl rfl (HCP.out _) ?_)
     go_end0
     exact⟨rfl,⟨_,_,HF.out.1,HF.out.2⟩,ht⟩
end Go.Proofs.YtalhnnjpjaeakaaGreat.Di
namespace Go.Proofs.YtalhnnjpjaeakaaGreat.Di
theorem Dw(xs ys:List Int)(p q:Nat):∀k,(∀j,j<k->xs.getD (p+j) 0=ys.getD (q+j) 0)->wd xs p k=wd ys q k
 |0,_=>rfl
 |k+1,h=>by
  unfold wd;rw[Dw xs ys p q k (λj hj=>h j (by omega)),h k (by omega)]
theorem SF(bs:List Int):∀k,k<=8->wfold bs k=⟨wd bs 0 k,0,0,0⟩
 |0,_=>rfl
 |k+1,h=>by
  show wstep (wfold bs k) k (bs.getD k 0)=_;rw[SF bs k (by omega)];unfold wstep;rw[Af (by omega)];show _=S4.mk (or8 (wd bs 0 k) (bs.getD (0+k) 0)) 0 0 0;rw[AD]
theorem SG(bs:List Int):∀k,k<=8->wfold bs (8+k)=⟨wd bs 0 8,wd bs 8 k,0,0⟩
 |0,_=>SF bs 8 (by omega)
 |k+1,h=>by
  show wstep (wfold bs (8+k)) (8+k) (bs.getD (8+k) 0)=_;rw[SG bs k (by omega)];unfold wstep;rw[Ad (by omega),Af (by omega)];rfl
theorem SH(bs:List Int):∀k,k<=8->wfold bs (16+k)=⟨wd bs 0 8,wd bs 8 8,wd bs 16 k,0⟩
 |0,_=>SG bs 8 (by omega)
 |k+1,h=>by
  show wstep (wfold bs (16+k)) (16+k) (bs.getD (16+k) 0)=_;rw[SH bs k (by omega)];unfold wstep;rw[Ad (by omega),Ad (by omega),Af (by omega)];rfl
theorem SI(bs:List Int):∀k,k<=8->wfold bs (24+k)=⟨wd bs 0 8,wd bs 8 8,wd bs 16 8,wd bs 24 k⟩
 |0,_=>SH bs 8 (by omega)
 |k+1,h=>by
  show wstep (wfold bs (24+k)) (24+k) (bs.getD (24+k) 0)=_;rw[SI bs k (by omega)];unfold wstep;rw[Ad (by omega),Ad (by omega),Ad (by omega)];rfl
theorem FP(bs:List Int):words bs=⟨wd bs 0 8,wd bs 8 8,wd bs 16 8,wd bs 24 8⟩:=SI bs 8 (by omega)
theorem DY(P:List Int)(p j:Nat)(hj:j<32):((P.drop p).take 32).getD j 0=P.getD (p+j) 0:=by
 simp[List.getD,hj]
theorem Wd(P:List Int)(p:Nat):wordsAt P p=words ((P.drop p).take 32):=by
 rw[FP];unfold wordsAt
 rw[Dw P ((P.drop p).take 32) p 0 8 (λj hj=>by rw[DY P p _ (by omega),AD]),Dw P ((P.drop p).take 32) (p+8) 8 8 (λj hj=>by rw[DY P p _ (by omega),CB]),
  Dw P ((P.drop p).take 32) (p+16) 16 8 (λj hj=>by rw[DY P p _ (by omega),CB]),Dw P ((P.drop p).take 32) (p+24) 24 8 (λj hj=>by rw[DY P p _ (by omega),CB])]
theorem We(n:Int)(c:Int)(h0:0<=n)(h1:n<18446744073709551616)(hc:0<c):(n/(c*256)*256+n/c%256)%18446744073709551616=n/c:=by
 have e:n/(c*256)=n/c/256:=(Int.ediv_ediv_of_nonneg (by omega)).symm;have h2:0<=n/c:=Int.ediv_nonneg h0 (by omega);have h3:n/c<=n:=Int.ediv_le_self _ h0;rw[e];omega
theorem Wf(L:List Int)(n:Nat)(hn:n<18446744073709551616)(h:∀k,k<8->L.getD (24+k) 0=(n:Int)/2^(56-8*k)%256):wd L 24 8=n:=by
 have hi0:(0:Int)<=n:=by omega
 have hi1:(n:Int)<18446744073709551616:=by omega
 have st:∀k(c:Int),k<8->(2:Int)^(56-8*k)=c->0<c->wd L 24 k=(n:Int)/(c*256)->wd L 24 (k+1)=(n:Int)/c:=by
  intro k c hk he hc hw;show or8 (wd L 24 k) (L.getD (24+k) 0)=_;rw[hw,h k hk,he];unfold or8 wr;rw[C0];exact We n c hi0 hi1 hc
 have w0:wd L 24 0=(n:Int)/(72057594037927936*256):=by
  show(0:Int)=_;omega
 have w1:=st 0 72057594037927936 (by omega) (by decide) (by omega) w0;have w2:=st 1 281474976710656 (by omega) (by decide) (by omega) w1;have w3:=st 2 1099511627776 (by omega) (by decide) (by omega) w2;have w4:=st 3 4294967296 (by omega) (by decide) (by omega) w3;have w5:=st 4 16777216 (by omega) (by decide) (by omega) w4;have w6:=st 5 65536 (by omega) (by decide) (by omega) w5;have w7:=st 6 256 (by omega) (by decide) (by omega) w6;have w8:=st 7 1 (by omega) (by decide) (by omega) w7;rw[w8];omega
theorem Fb(xs ys:List Int)(j:Nat)(h:j<xs.length):(xs++ys).getD j 0=xs.getD j 0:=by
 rw[List.getD,List.getD,AV h]
theorem GA(xs ys:List Int)(j:Nat)(h:xs.length<=j):(xs++ys).getD j 0=ys.getD (j-xs.length) 0:=by
 rw[List.getD,List.getD,AY h]
theorem IH(m j:Nat):(List.replicate m (0:Int)).getD j 0=0:=by
 rw[List.getD,List.getElem?_replicate];split<;>rfl
theorem TY(all:List Int)(j:Nat)(h:j<all.length):(padded all).getD j 0=all.getD j 0:=by
 unfold padded;rw[Fb _ _ _ (by simp;omega),Fb _ _ _ (by simp;omega),Fb _ _ _ h]
theorem Ps(all:List Int):(padded all).getD all.length 0=128:=by
 unfold padded;rw[Fb _ _ _ (by simp<;>omega),Fb _ _ _ (by simp),GA _ _ _ (Aa _),Cx];rfl
theorem GS(all:List Int)(j:Nat)(h1:all.length<j)(h2:j<all.length+1+zc all.length):(padded all).getD j 0=0:=by
 unfold padded;rw[Fb _ _ _ (by simp;omega),GA _ _ _ (by simp;omega),IH]
theorem Kt(all:List Int)(k:Nat)(hk:k<8):(padded all).getD (all.length+1+zc all.length+k) 0=(all.length:Int)/2^(56-8*k)%256:=by
 unfold padded;rw[GA _ _ _ (by simp;omega)];have e:all.length+1+zc all.length+k-(all++[128]++List.replicate (zc all.length) 0).length=k:=by
  rw[Ab,Ab,Bj];show all.length+1+zc all.length+k-(all.length+1+zc all.length)=k;omega
 rw[e];simp[len8,List.getD,hk]
theorem Na(f:Nat)(tl:List Int)(hl:tl.length=32)(hf:f<32)(j:Nat)(hj:j<32):(lastOf f tl).getD j 0=if j<f then tl.getD j 0 else if j=f then 128 else 0:=by
 unfold lastOf;rw[List.getD,List.getElem?_set];have e:(List.take f tl).length=f:=by rw[Ap];omega
 by_cases h1:f=j
 ·subst h1;rw[Af rfl,Af (by rw[Ab,e,Bj];omega),Ad (by omega),Af rfl];rfl
 ·rw[Ad h1,<-List.getD];by_cases h2:j<f
  ·rw[Af h2,Fb _ _ _ (by omega),List.getD,List.getD,AO h2]
  ·rw[Ad h2,Ad (λh=>h1 h.symm),GA _ _ _ (by omega),IH]
theorem Pt(P:List Int):∀i,stOf P i=stP P i
 |0=>rfl
 |i+1=>by
  show mix (stOf P i) (wordsAt P (32*i))=mix (stP P i) (words ((P.drop (32*i)).take 32));rw[Pt P i,Wd]
theorem XZ(all:List Int)(s:S4)(tl:List Int)(n:Nat)(h:Inv all s tl n)(hn:n<18446744073709551616):finS s tl n=stOf (padded all) ((padded all).length/32):=by
 have hnl:=h.hn;have hl:=h.hl;obtain⟨q,hq⟩:∃q,n/32=q:=⟨_,rfl⟩;obtain⟨f,hf⟩:∃f,n%32=f:=⟨_,rfl⟩;have hnq:n=32*q+f:=by omega
 have hf32:f<32:=by omega
 have hz:zc n=(55-f)%32:=by unfold zc;rw[hf]
 have htk:∀j,j<f->(padded all).getD (32*q+j) 0=tl.getD j 0:=by
  intro j hj;rw[TY all _ (by omega)];have e:=h.ht;rw[hf,hq]at e;have e2:(tl.take f).getD j 0=(all.drop (32*q)).getD j 0:=by rw[e]
  rw[List.getD,List.getD,AO hj,C9]at e2;rw[List.getD,List.getD];exact e2.symm
 have hmk:(padded all).getD (32*q+f) 0=128:=by rw[<-hnq,hnl];exact Ps all
 have hS:stP (padded all) q=s:=by
  rw[h.hs,hq];unfold padded;rw[AE,AE];exact Fa all _ q (by omega)
 have hpl:=Gf all;rw[<-hnl]at hpl;rw[Pt];unfold finS;rw[hf];by_cases h24:f<24
 ·rw[Af h24];have hzc:zc n=23-f:=by rw[hz];omega
  rw[show(padded all).length/32=q+1 from by rw[hpl,hzc];omega];show _=mix (stP (padded all) q) (words (((padded all).drop (32*q)).take 32));rw[hS];refine Av (mix s) ?_;have hp:∀j,j<24->(lastOf f tl).getD j 0=(((padded all).drop (32*q)).take 32).getD j 0:=by
   intro j hj;rw[DY _ _ _ (by omega),Na f tl hl hf32 j (by omega)];by_cases h1:j<f
   ·rw[Af h1,htk j h1]
   ·rw[Ad h1];by_cases h2:j=f
    ·rw[Af h2,h2,hmk]
    ·rw[Ad h2,GS all _ (by omega) (by rw[<-hnl,hzc];omega)]
  have hd:wd (((padded all).drop (32*q)).take 32) 24 8=n:=by
   refine Wf _ n hn λk hk=>?_;rw[DY _ _ _ (by omega)];have e:=Kt all k hk;rw[<-hnl,hzc]at e;rw[show 32*q+(24+k)=n+1+(23-f)+k from by omega];exact e
  rw[FP,FP (((padded all).drop (32*q)).take 32),hd];rw[Dw (lastOf f tl) _ 0 0 8 (λj hj=>hp (0+j) (by omega)),Dw (lastOf f tl) _ 8 8 8 (λj hj=>hp (8+j) (by omega)),Dw (lastOf f tl) _ 16 16 8 (λj hj=>hp (16+j) (by omega))]
 ·rw[Ad h24];have hzc:zc n=55-f:=by rw[hz];omega
  rw[show(padded all).length/32=q+1+1 from by rw[hpl,hzc];omega];show _=mix (mix (stP (padded all) q) (words (((padded all).drop (32*q)).take 32))) (words (((padded all).drop (32*(q+1))).take 32));rw[hS];have hp:∀j,j<32->(lastOf f tl).getD j 0=(((padded all).drop (32*q)).take 32).getD j 0:=by
   intro j hj;rw[DY _ _ _ hj,Na f tl hl hf32 j hj];by_cases h1:j<f
   ·rw[Af h1,htk j h1]
   ·rw[Ad h1];by_cases h2:j=f
    ·rw[Af h2,h2,hmk]
    ·rw[Ad h2,GS all _ (by omega) (by rw[<-hnl,hzc];omega)]
  have e1:words (lastOf f tl)=words (((padded all).drop (32*q)).take 32):=by
   rw[FP,FP (((padded all).drop (32*q)).take 32)];rw[Dw (lastOf f tl) _ 0 0 8 (λj hj=>hp (0+j) (by omega)),Dw (lastOf f tl) _ 8 8 8 (λj hj=>hp (8+j) (by omega)),Dw (lastOf f tl) _ 16 16 8 (λj hj=>hp (16+j) (by omega)),Dw (lastOf f tl) _ 24 24 8 (λj hj=>hp (24+j) (by omega))]
  rw[e1];refine Av (mix _) ?_;have hp2:∀j,j<24->(List.replicate 32 (0:Int)).getD j 0=(((padded all).drop (32*(q+1))).take 32).getD j 0:=by
   intro j hj;rw[DY _ _ _ (by omega),IH,GS all _ (by omega) (by rw[<-hnl,hzc];omega)]
  have hd:wd (((padded all).drop (32*(q+1))).take 32) 24 8=n:=by
   refine Wf _ n hn λk hk=>?_;rw[DY _ _ _ (by omega)];have e:=Kt all k hk;rw[<-hnl,hzc]at e;rw[show 32*(q+1)+(24+k)=n+1+(55-f)+k from by omega];exact e
  rw[FP,FP (((padded all).drop (32*(q+1))).take 32),hd];rw[Dw (List.replicate 32 0) _ 0 0 8 (λj hj=>hp2 (0+j) (by omega)),Dw (List.replicate 32 0) _ 8 8 8 (λj hj=>hp2 (8+j) (by omega)),Dw (List.replicate 32 0) _ 16 16 8 (λj hj=>hp2 (16+j) (by omega))]
end Go.Proofs.YtalhnnjpjaeakaaGreat.Di
