/- What digest.Of answers: the document's digest, for all bytes; and Write of whatever bytes, Sum of whatever Hash, in the document's words. -/
import Derived.Test.YtalhnnjpjaeakaaGreatAK
import Derived.Test.YtalhnnjpjaeakaaGreatG09
import Derived.Test.YtalhnnjpjaeakaaGreatG08
import Derived.Test.YtalhnnjpjaeakaaGreatG01
import Derived.Test.YtalhnnjpjaeakaaGreatG07
import Derived.Test.YtalhnnjpjaeakaaGreatG03
import Derived.Lib.SlBytesConst
set_option linter.unusedVariables false
set_option maxRecDepth 100000
set_option maxHeartbeats 4000000
open Go.Proofs.Tryz Go.RowKit
namespace Go.Proofs.YtalhnnjpjaeakaaGreat.Di
theorem QH(g:Nat)(a:Option Addr)(cap:Nat)(s:S4)(tl:List Int)(n:Nat)(w:World)(hl:tl.length=32)(hn:n<9223372036854775808)(hg:w.heap[g]?=some (.cells (HC s tl n) 116)):
 Calls prog 57 #[.pointer (some ⟨g,0,none⟩), .slice a 0 cap] w λe w'=>e= .returned (.tuple #[])/\w'=w.setCell ⟨g,36,none⟩ (.int .i64 n):=by
 obtain⟨xa,xb,xc,xd⟩:=s;obtain⟨c0,c1,c2,c3,c36,cf⟩:=Ft hg hl;clear hg;obtain⟨f,hff⟩:∃f,n%32=f:=⟨_,rfl⟩;have hmod:(n:Int)%32=(f:Int):=by omega
 have hf2:f<32:=by omega
 have hf3:(f:Int)<32:=by omega
 have hf4:(f:Int)<=32:=by omega
 clear hff;by_cases hf:f=0
 ·subst hf;go_enter func57,ntmps57;go_wp2_with fail;refine wp_loop_rounds 1 ?_;rw[Dg];go_wp2_with (first|(refine wpList_copy_nothing rfl _ _ 27 27 rfl 5 underlying27 (by kernel_rfl) _ _ _ _ _ _ rfl rfl (by simp) ?_))
  go_end0
  exact⟨rfl,rfl⟩
 ·have hf0:(0:Int)<(f:Int):=by omega
  go_enter func57,ntmps57;go_wp2_with (first|(refine wpList_copy_nothing rfl _ _ 27 27 rfl 5 underlying27 (by kernel_rfl) _ _ _ _ _ _ rfl rfl (by simp) ?_))
  go_returns
  exact⟨rfl,rfl⟩
def In2(g:Nat)(w:World)(a:Option Addr)(len cap:Nat)(bs:List Int):Prop:=
 (len=0/\bs=[])∨∃gb off,a=some ⟨gb,off,none⟩/\bs.length=len/\0<len/\len<=cap/\cap<=maxLen/\gb≠g/\∀j,j<bs.length->w.cell? ⟨gb,off+j,none⟩=some (.int .u8 (bs.getD j 0))
theorem TZ(g:Nat)(a:Option Addr)(len cap:Nat)(s:S4)(tl:List Int)(n:Nat)(all bs:List Int)(w:World)(hinv:Inv all s tl n)(hin:In2 g w a len cap bs)(hsum:n+len<9223372036854775808)
 (hb:∀x∈bs,0<=x/\x<256) (hg:w.heap[g]?=some (.cells (HC s tl n) 116)):
 Calls prog 57 #[.pointer (some ⟨g,0,none⟩), .slice a len cap] w λe w'=>e= .returned (.tuple #[])/\(∃s' tl',Inv (all++bs) s' tl' (n+len)/\w'.heap[g]?=some (.cells (HC s' tl' (n+len)) 116))/\Touch g w w':=by
 rcases hin with⟨rfl,rfl⟩|⟨gb,off,rfl,h1,h2,h3,h4,h5,h6⟩
 ·refine(QH g a cap s tl n w hinv.hl (by omega) hg).mono ?_;rintro e w'⟨rfl,rfl⟩;refine⟨rfl,⟨s,tl,by rw[A3];exact hinv,?_⟩,Touch.setCell _ _ _ _⟩;have:=AO w g 36 _ 116 (.int .i64 n) hg;rw[Jw _ _ _ _ hinv.hl]at this;exact this
 ·obtain⟨xa,xb,xc,xd⟩:=s;exact QG g gb off len cap xa xb xc xd tl n all bs w hinv h1 h2 h3 h4 hsum hb h5 hg h6
def dref(bs:List Int):List Int:=dig (stOf (padded bs) ((padded bs).length/32))
theorem dref_len(bs:List Int):(dref bs).length=32:=by simp[dref,dig]
theorem Yl:Inv [] s0 (List.replicate 32 0) 0:=⟨rfl,rfl,Bj,rfl,Kz⟩
theorem Yn(g:Nat)(s:S4)(tl:List Int)(n:Nat)(all:List Int)(w:World)(h:Inv all s tl n)(hn:n<9223372036854775808)(hg:w.heap[g]?=some (.cells (HC s tl n) 116)):
 Calls prog 58 #[.pointer (some ⟨g,0,none⟩)] w λe w'=>e= .returned (.agg (B8 (dref all)))/\Below w.heap.size w w':=by
 obtain⟨xa,xb,xc,xd⟩:=s;have:=Yd g xa xb xc xd tl n h.hl h.hb hn w hg;rw[Yk all _ tl n h (by omega)]at this;exact this
def In0(w:World)(a:Option Addr)(len cap:Nat)(bs:List Int):Prop:=
 (len=0/\bs=[])∨∃gb off,a=some ⟨gb,off,none⟩/\bs.length=len/\0<len/\len<=cap/\cap<=maxLen/\∀j,j<bs.length->w.cell? ⟨gb,off+j,none⟩=some (.int .u8 (bs.getD j 0))
theorem In0.at{w w':World}{a:Option Addr}{len cap:Nat}{bs:List Int}{B:Nat}(h:In0 w a len cap bs)(hB:w.heap.size<=B)(hb:Below w.heap.size w w')(g:Nat)(hg:B<=g):In2 g w' a len cap bs:=by
 rcases h with h|⟨gb,off,h1,h2,h3,h4,h5,h7⟩
 ·exact .inl h
 ·have l:gb<w.heap.size:=Aj (h7 0 (by omega));exact .inr ⟨gb,off,h1,h2,h3,h4,h5,by omega,λj hj=>(hb.cell (p:=⟨gb,off+j,none⟩) l).trans (h7 j hj)⟩
theorem Touch.below{g N:Nat}{w0 w w':World}(h:Below N w0 w)(t:Touch g w w')(hN:N<=g)(hs:N<=w.heap.size):Below N w0 w':=
 h.trans ⟨t.os,t.tape,t.output,t.size,λk hk=>t.block k (by omega) (by omega)⟩
theorem of_any(a:Option Addr)(len cap:Nat)(bs:List Int)(w:World)(hin:In0 w a len cap bs)(hlen:len=bs.length)(hb:∀x∈bs,0<=x/\x<256)(hmax:len<9223372036854775808):
 Calls prog 39 #[.slice a len cap] w λe w'=>e= .returned (.agg (B8 (dref bs)))/\Below w.heap.size w w':=by
 have HIN:=Xba hin;have HB:=Xba hb;have HL:=Xba hlen;clear hin hb hlen;go_enter func39,ntmps39;go_wp2_with fail;refine(TW _).mono ?_;rintro e w1⟨⟨xa,xb,xc,xd,rfl,H⟩,hb1⟩;have HI:Hid ((prog.info? 116).map (·.size)=some (HC ⟨xa,xb,xc,xd⟩ (List.replicate 32 0) 0).size):=by unfold Hid;rw[O2];kernel_rfl
 go_wp2_with (first|refine A4 rfl 116 _ _ rfl _ (HC ⟨xa,xb,xc,xd⟩ (List.replicate 32 0) 0) rfl (by rw[Yj];rfl) 116 _ (Ai w1 _) HI.out (by rw[O2];rfl) (ZL _ _ _) ?_);have hN:w1.heap[w.heap.size]?=some (.cells (B8 (List.replicate 32 0)) 49):=Below.row hb1 (Ai w _);have l0:=lt_of_get hN;have hb2:Below w.heap.size w w1:=((Ak _ _).alloc (Aa _) _).trans (hb1.mono (by simp));clear hb1;refine gen_w (p:=λv=>Calls _ _ _ v _) (q:=λv=>OfH w.heap.size w1.heap.size w v ⟨xa,xb,xc,xd⟩ (List.replicate 32 0) 0) ⟨?_,?_,?_,l0⟩ ?_
 ·rw[AX _ _ _ _ (by omega),Au _ _ _ l0];exact hN
 ·exact AA _ _ _ _ _ _ (Ai w1 _)
 ·exact Below.setRow (hb2.alloc (by omega) _) (by omega) _
 clear hN hb2;intro v F;have hinv:Inv [] ⟨xa,xb,xc,xd⟩ (List.replicate 32 0) 0:=by rw[H.out];exact Yl
 refine(TZ _ a len cap _ _ 0 [] bs v hinv (HIN.out.at (Aa _) F.bel _ (E4 l0)) (by omega) HB.out F.hg).mono ?_;rintro e v2⟨rfl,⟨s2,tl2,hinv2,hg2⟩,t2⟩;rw[A6,AD]at hinv2;rw[AD]at hg2;have h02:v2.heap[w.heap.size]?=some (.cells (B8 (List.replicate 32 0)) 49):=(t2.block _ (lt_of_get F.h0) (by omega)).trans F.h0;have hb3:=Touch.below F.bel t2 (E4 l0) (E4 (lt_of_get F.h0));clear F t2 HI hinv;have HV:=Xba (And.intro hinv2 hg2);have H02:=Xba h02;clear hinv2 hg2 h02 H;go_wp2_with fail;refine(Yn _ s2 tl2 len bs v2 HV.out.1 hmax HV.out.2).mono ?_;rintro e v3⟨rfl,hb4⟩;have h0:=Below.row hb4 H02.out;have hbel:=hb3.trans (hb4.mono (by have:=lt_of_get H02.out;omega));have HI2:Hid ((prog.info? 49).map (·.size)=some (B8 (dref bs)).size):=by unfold Hid;rw[B8_size,dref_len];kernel_rfl
 have hdl:=dref_len bs;have HH:=Xba h0;clear h0 hb4 HV H02;generalize hds:dref bs=ds at HI2 hdl⊢;have HD:=Xba hds;clear hds;go_wp2_with (first|refine A4 rfl 49 _ _ rfl _ (B8 ds) rfl rfl 49 _ HH.out HI2.out (by rw[B8_size,B8_size,hdl,Bj]) (B8_one _) ?_);refine Ap (Ba results39 _ _ w.heap.size 49 (B8 ds) (0,0) _ rfl (AA _ _ _ _ _ _ HH.out) underlying49 rfl HI2.out) rfl ?_;exact⟨by rw[HD.out],Below.setRow hbel (Aa _) _⟩
end Go.Proofs.YtalhnnjpjaeakaaGreat.Di
namespace Go.Proofs.YtalhnnjpjaeakaaGreat
open Di (dref)
theorem XaN{w v:World}{a:Option Addr}{n c:Nat}{b:List Int}(h:Ag w a n c b)(hb:Below w.heap.size w v):Ag v a n c b:=h.at hb
theorem O8(a:Option Addr)(n c:Nat)(b:List Int)(w:World)(h:Ag w a n c b)(hn:n<=140737488351232):Calls prog 39 #[.slice a n c] w λe w'=>e= .returned (.agg (B8 (dref b)))/\Below w.heap.size w w':=
 Di.of_any a n c b w h.i h.l.symm h.b (by omega)
theorem LQ(a:Option Addr)(n c:Nat)(b:List Int)(w:World)(h:Ag w a n c b)(hn:n<=140737488351232):Calls prog 46 #[.slice a n c] w λe w'=>e= .returned (.agg (B8 (dref b)))/\Below w.heap.size w w':=
 Di.rof_any a n c b w (h.i.inB h.nil) h.b (by rw[h.l];exact hn)
theorem dref_len(b:List Int):(dref b).length=32:=Di.dref_len b
theorem P5(b:List Int):isB (dref b):=λx hx=>by
 unfold dref Di.dig at hx;obtain⟨i,_,rfl⟩:=BE.1 hx;unfold Di.bt;omega
end Go.Proofs.YtalhnnjpjaeakaaGreat
namespace Go.Proofs.YtalhnnjpjaeakaaGreat
variable {y : RV} {w : World}
theorem Fq{fn:Func}{p u:Tmp}(h:fn.results=#[.cell p 62, .tmp u])(tmps:Array Value)(w:World)(g:Nat)(y:RV)(hl:y.d.length=32)(hp:tmps.getD p undef= .pointer (some ⟨g,0,none⟩))(hg:w.heap[g]?=some (.cells y.cells.toArray 62)):
 (results fn tmps).run prog w= .ok (.tuple #[.agg y.cells.toArray,tmps.getD u undef]) w:=by
 have hp':tmps[p]?.getD undef= .pointer (some ⟨g,0,none⟩):=by simpa using hp
 have hr:=CR (P:=prog) w g 62 62 y.cells.toArray (0,0) _ hg underlying62 rfl (by rw[FP,Bb,RV.len hl]);simp[results,h,hp',asAddr,hr]
def RPost(w:World)(o:Option PR):Ending->World->Prop:=λe w'=>Below w.heap.size w w'/\
 match o with
 |none=>∃y:RV,y.d.length=32/\e= .returned (.tuple #[.agg y.cells.toArray, .bool false])
 |some r=>∃y:RV,e= .returned (.tuple #[.agg y.cells.toArray, .bool true])/\RefAt (Own w.heap.size w') w' y r
theorem Fz(K:Nat->Prop)(w:World):AgK K w none 0 0 []:=⟨⟨.inl ⟨rfl,rfl⟩,λ_=>⟨rfl,rfl⟩,rfl,λx hx=>by cases hx⟩,by omega,λg off e=>by cases e⟩
theorem Jy:isB z32:=λx hx=>by rw[z32,CY]at hx;omega
theorem Fc(K:Nat->Prop)(w:World):RefAt K w rz r0:=⟨rfl,rfl,Jy,rfl,Fz K w⟩
theorem Dv(h:y.d.length=32):(rz.cells.toArray:Array Value).size=y.cells.toArray.size:=by rw[Bb,Bb,RV.len h];rfl
theorem Da(h:y.d.length=32):(prog.info? 62).map (·.size)=some y.cells.toArray.size:=by rw[FP,Bb,RV.len h]
structure Rr(w v:World)(x:V):Prop where
 row:v.heap[w.heap.size+1]?=some (.cells rz.cells.toArray 62)
 bx:B1 w.heap.size v x
 bel:Below w.heap.size w v
 sz:w.heap.size+2<=v.heap.size
theorem Rr.go{v v':World}{x:V}(h:Rr w v x)(hb:Below v.heap.size v v'):Rr w v' x:=⟨Below.row hb h.row,h.bx.go hb,below_go h.bel hb,Al h.sz hb.size⟩
theorem Wj(w:World)(x:V):Rr w ((w.alloc (.cells #[.bool x.l, .slice x.ba x.bn x.bc, .slice x.ia x.m x.ic] 110)).alloc (.cells rz.cells.toArray 62)) x:=by
 have s1:(w.alloc (.cells #[.bool x.l, .slice x.ba x.bn x.bc, .slice x.ia x.m x.ic] 110)).heap.size=w.heap.size+1:=by simp
 refine⟨?_,(E5 w x).alloc _,below_go (below_new w _) (below_new _ _),by simp⟩;have:=Ai (w.alloc (.cells #[.bool x.l, .slice x.ba x.bn x.bc, .slice x.ia x.m x.ic] 110)) (.cells rz.cells.toArray 62);rwa [s1]at this
theorem Keep.setRow{base base' g:Nat}{v:World}{C:Array Value}(hg:g<base)(hb:base'<=base):Keep (Own base v) (Own base' (v.setRow g C)) v (v.setRow g C):=λk hK hk=>by
 have e:(v.setRow g C).heap[k]?=v.heap[k]?:=AX _ _ _ _ (by have:=hK.1;omega);exact⟨e,Al hb hK.1,λo=>(B6 (w:=v) e).trans (hK.2 o)⟩
theorem Wk{N sc:Nat}{ad:Addr}{bs:List Int}(hN:w.heap[N]?=some (.cells (RV.cells ⟨2,z32,none,0,0⟩).toArray 62))(hl:bs.length=32)(hsrc:∀j v,(bs.map (Value.int .u8))[j]?=some v->w.cell? (ad.add j)=some v)(ty:TypeId):
 (Builtin.copy_ #[27,27] ty #[.slice (some ⟨N,1,none⟩) 32 32, .slice (some ad) 32 sc]).run prog w= .ok (.int .i64 32) (w.setRow N (RV.cells ⟨2,bs,none,0,0⟩).toArray):=by
 have h:=run_copy_row prog w 27 27 ty 5 N 1 32 32 ad 32 sc (RV.cells ⟨2,z32,none,0,0⟩).toArray 62 (bs.map (Value.int .u8)) underlying27 (by kernel_rfl) hN (by rw[AY,hl];rfl) hsrc (by rw[AY,hl];decide) (B8_one2 _);rw[h,AY,hl];rfl
theorem Nr(t:T)(x:V)(w:World)(h:Lies w t x):
 Calls prog 127 #[.agg #[.bool x.l, .slice x.ba x.bn x.bc, .slice x.ia x.m x.ic]] w (RPost w (refOfP t)):=by
 obtain⟨l,bs,its⟩:=t;obtain⟨hl,hag,-⟩:=lies_eq.1 h;have hbn:x.bn<=140737488351232:=(lies_eq.1 h).2.2.2.2.2.1.1;subst hl;have HX:=Xba h;have HAG:=Xba hag;obtain⟨res,hres⟩:∃res,refOfP (.mk x.l bs its)=res:=⟨_,rfl⟩;rw[hres];have hres:(if x.l=true then(if(mP (.mk x.l bs its)).2=0 then some (⟨1,z32,enc (.mk x.l bs its)⟩:PR)else none)else if bs.length=0 then some r0 else if bs.length=32 then some ⟨2,bs,[]⟩else none)=res:=hres;rw[hag.l]at hres;have HRES:=Xba hres;have HRR:=Xba (Wj w x);clear h hag hres;go_enter func127,ntmps127;go_upto_region 1 with fail;refine gen_w (p:=λv=>Code.wp _ _ _ _ v) (q:=λv=>Rr w v x) HRR.out ?_;clear HRR;intro v RR;have c0:=RR.bx.c0;have c1:=RR.bx.c1;have c2:=RR.bx.c2;have HRR:=Xba RR;clear RR;by_cases hxl:x.l=true
 ·have HE:=Xba (IG (.mk x.l bs its) x v (Ci HRR.out.bel _ x HX.out));have HXL:=Xba hxl;obtain⟨xl,exl⟩:∃xl,x.l=xl:=⟨_,rfl⟩;have hres:=HRES.out;rw[Af hxl]at hres;rw[hxl]at c0;by_cases hm:(mP (.mk x.l bs its)).2=0
  ·rw[Af hm]at hres;subst hres;have hp:=Gt hm;have hle:=VS hm;rw[hp]at HE;have HHLE:=Xba hle;rw[show(((enc (T.mk x.l bs its),0):List Int×Nat).2:Int)=0 from rfl]at HE;rw[show((enc (T.mk x.l bs its),0):List Int×Nat).1=enc (T.mk x.l bs its)from rfl]at HE;generalize hen:enc (T.mk x.l bs its)=en at HE HHLE⊢;have hEx:=HE.out;rw[hxl]at hEx;have HE2:=Xba hEx;have HEN:=Xba hen;clear hp hle hm hen HE HRES hEx exl;go_wp2_with fail;refine HE2.out.mono ?_;rintro e w1⟨⟨a,n,c,rfl,hag,hfr⟩,hb⟩;have R1:=HRR.out.go hb
   have HAGK:=Xba (show AgK (Own (w.heap.size+2) w1) w1 a n c en from⟨hag,by have:=hag.l;have:=HHLE.out;omega,λg off e h0=>by
    have:=hfr g off e h0;exact⟨by have:=HRR.out.sz;omega,this.2⟩⟩)
   have HR1:=Xba R1;have hl32:z32.length=32:=rfl;clear hag hfr hb R1;go_wp2_with (first|refine A4 rfl 62 _ _ rfl _ (RV.cells ⟨1,z32,a,n,c⟩).toArray rfl rfl 62 _ HR1.out.row (Da rfl) (Dv rfl) (Am (RV.one _)) ?_);refine Ap (Fq results127 _ _ (w.heap.size+1) ⟨1,z32,a,n,c⟩ rfl rfl (AA _ _ _ _ _ _ HR1.out.row)) rfl ?_;exact⟨Below.setRow HR1.out.bel (by omega) _,⟨1,z32,a,n,c⟩,rfl,rfl,rfl,Jy,rfl,by rw[HEN.out];exact HAGK.out.go (Keep.setRow (base:=w.heap.size+2) (base':=w.heap.size) (g:=w.heap.size+1) (by omega) (by omega))⟩
  ·rw[Ad hm]at hres;subst hres;have hp:=Oy hm;rw[hp]at HE;obtain⟨er,her⟩:∃er,(mP (.mk x.l bs its)).2=er:=⟨_,rfl⟩;rw[her]at HE hm;have hee:((er:Int)==0)=false:=(by rw[BB];omega);have hEx:=HE.out;rw[hxl]at hEx;have HE2:=Xba hEx;clear hp hm her HE HRES hEx exl;go_wp2_with fail;refine HE2.out.mono ?_;rintro e w1⟨⟨a,n,c,rfl,hag,hfr⟩,hb⟩;have HR1:=Xba (HRR.out.go hb);clear hag hfr hb;go_wp2_with (first|refine A4 rfl 62 _ _ rfl _ (RV.cells ⟨1,z32,a,n,c⟩).toArray rfl rfl 62 _ HR1.out.row (Da rfl) (Dv rfl) (Am (RV.one _)) ?_);refine Ap (Fq results127 _ _ (w.heap.size+1) ⟨1,z32,a,n,c⟩ rfl rfl (AA _ _ _ _ _ _ HR1.out.row)) rfl ?_;exact⟨Below.setRow HR1.out.bel (by omega) _,⟨1,z32,a,n,c⟩,rfl,rfl⟩
 ·have hres:=HRES.out;rw[Ad hxl]at hres;have hxf:x.l=false:=by simpa using hxl
  rw[hxf]at c0;clear hxf hxl HRES HX;by_cases h0:x.bn=0
  ·rw[Af h0]at hres;subst hres;go_wp2_with (first|refine A4 rfl 62 _ _ rfl _ rz.cells.toArray rfl rfl 62 _ HRR.out.row (Da rfl) (Dv rfl) (Am (RV.one _)) ?_);refine Ap (Fq results127 _ _ (w.heap.size+1) rz rfl rfl (AA _ _ _ _ _ _ HRR.out.row)) rfl ?_;exact⟨Below.setRow HRR.out.bel (by omega) _,rz,rfl,Fc _ _⟩
  ·rw[Ad h0]at hres;by_cases h32:x.bn=32
   ·rw[Af h32]at hres;subst hres;have hz:=HAG.out;rw[h32]at hz c1;obtain⟨g,off,hba,_,_,hcs⟩:=ag_head hz (by omega);rw[hba]at c1;have HBL:=Xba hz.l;have HBB:=Xba hz.b
    have HCS:=Xba (show∀u,Below w.heap.size w u->∀j z,(bs.map (Value.int .u8))[j]?=some z->u.cell? ((⟨g,off,none⟩:Addr).add j)=some z from λu hu j z hz'=>by
     have hj:j<32:=(by have:=(Aw.1 hz').1;rw[AY,HBL.out]at this;exact this);rw[BM,AN hu (hcs j hj),<-hz',Bx,List.getD,Ac (by rw[HBL.out];exact hj)];rfl)
    have HRB:=Xba hba;have HR32:=Xba h32;clear hz hcs h0 h32 hba;go_upto_region 9 with(first|refine A4 rfl 62 _ _ rfl _ (RV.cells ⟨2,z32,none,0,0⟩).toArray rfl rfl 62 _ (Ai _ _) (Da rfl) (Dv rfl) (Am (RV.one _)) ?_);refine gen_w (p:=λv=>Code.wp _ _ _ _ v) (q:=λu=>RBx v.heap.size u ⟨2,z32,none,0,0⟩/\Rr w u x) ⟨⟨AA _ _ _ _ _ _ (Ai _ _),rfl⟩,?_⟩ ?_
    ·refine HRR.out.go (Below.setRow (below_new v _) (Aa _) _)
    rintro u⟨B2,R2⟩;have d1:=R2.bx.c1;rw[show x.ba=some ⟨g,off,none⟩from HRB.out]at d1;rw[HR32.out]at d1;have HCP:=Xba (Wk (w:=u.drew) (N:=v.heap.size) (sc:=x.bc) B2.row HBL.out (HCS.out _ (R2.bel.drew)));have HB2:=Xba B2;have HR2:=Xba R2;have HVS:=Xba HRR.out.sz;clear B2 R2 c0 c1 c2
    go_frame
    go_cut [] (λu2=>RBx v.heap.size u2 ⟨2,bs,none,0,0⟩/\u2.heap[w.heap.size+1]?=some (.cells rz.cells.toArray 62)/\Below w.heap.size w u2)
    case first=>
     go_region_law (refine step_copy rfl _ _ 27 27 rfl _ _ rfl rfl (HCP.out _) ?_)
     all_goals
      go_wp2_with fail
      go_meet
      exact⟨⟨AA _ _ _ _ _ _ HB2.out.row,HBL.out⟩,(AX _ _ _ _ (by have:=HVS.out;omega)).trans HR2.out.row,Below.setRow HR2.out.bel.drew (by have:=HVS.out;omega) _⟩
    case rest=>
     obtain⟨B3,r3,b3⟩:=hcut;have HB3:=Xba B3;have HR3:=Xba r3;have HL3:=Xba b3;clear B3 r3 b3;go_wp2_with (first|refine Cz rfl _ rfl v.heap.size 0 rfl ⟨2,bs,none,0,0⟩ HBL.out HB3.out.all ?_|refine A4 rfl 62 _ _ rfl _ (RV.cells ⟨2,bs,none,0,0⟩).toArray rfl rfl 62 _ HR3.out (Da HBL.out) (Dv HBL.out) (Am (RV.one _)) ?_);refine Ap (Fq results127 _ _ (w.heap.size+1) ⟨2,bs,none,0,0⟩ HBL.out rfl (AA _ _ _ _ _ _ HR3.out)) rfl ?_;exact⟨Below.setRow HL3.out (by omega) _,⟨2,bs,none,0,0⟩,rfl,rfl,rfl,HBB.out,HBL.out,Fz _ _⟩
   ·rw[Ad h32]at hres;subst hres;go_wp2_with (first|refine A4 rfl 62 _ _ rfl _ rz.cells.toArray rfl rfl 62 _ HRR.out.row (Da rfl) (Dv rfl) (Am (RV.one _)) ?_);refine Ap (Fq results127 _ _ (w.heap.size+1) rz rfl rfl (AA _ _ _ _ _ _ HRR.out.row)) rfl ?_;exact⟨Below.setRow HRR.out.bel (by omega) _,rz,rfl,rfl⟩
end Go.Proofs.YtalhnnjpjaeakaaGreat
namespace Go.Proofs.YtalhnnjpjaeakaaGreat.Ni
theorem unpack_any(a:Option Addr)(n c:Nat)(b:List Int)(w:World)(h:Ag w a n c b)(hn:2*n<=140737488355328):
 Calls prog 126 #[.slice a n c] w λe w'=>(∃a' m,e= .returned (.tuple #[.slice a' m m, .bool (unpP b).2.1, .int .i64 ((unpP b).2.2:Nat)])/\Cut w' w.heap.size a' m (unpP b).1)/\Below w.heap.size w w':=by
 have hl:=h.l;by_cases h0:n=0
 ·subst h0;have e:b=[]:=Ar hl;subst e;rw[RU];simp only;clear h hl;go_enter func126,ntmps126;go_wp2_with fail;go_ret3;exact⟨⟨none,0,rfl,ag_nil _,λh=>by omega⟩,Ak _ _⟩
 have hni:((n:Int)==0)=false:=by rw[BB];omega
 have hnp:(0:Int)<n:=by omega
 obtain⟨g,off,rfl,hnc,hcm,hcs⟩:=ag_head h (by omega);unfold maxLen at hcm;have hcell:=hcs 0 (by omega);rw[C5]at hcell;have hx:=h.b _ (getD_mem (l:=b) (i:=0) (by omega));have hbad:=RX (b:=b) (by omega);have hgood:=OZ (b:=b) (by omega);have hof:=λv(hb:Below w.heap.size w v)=>of_any _ n c b v (h.at hb) hn;have hnl:(nib b).length=2*n:=by rw[nib_len,hl]
 generalize b.getD 0 0=x at*;obtain⟨hx0,hx1⟩:=hx;have hand:=Zj hx0 hx1;have hq0:0<=x/16:=by omega
 have hq1:x/16<256:=by omega
 have HOF:=Xba hof;have HNL:=Xba hnl;have hn2:2<=2*n:=by omega
 clear h hl hcs hof hnl;by_cases h3:x/16>3
 ·rw[hbad (.inl h3)];simp only;clear hbad hgood;go_enter func126,ntmps126;go_wp2_with fail
  go_region
  all_goals
   go_wp2_with fail;go_ret3;exact⟨⟨none,0,rfl,ag_nil _,λh=>by omega⟩,(Ak _ _).drew⟩
 have hf:x/16=0∨x/16=1∨x/16=2∨x/16=3:=by omega
 clear h3 hq0 hq1;rcases hf with hf|hf|hf|hf
 ·
  have c1:bits BinOp.and IntKind.u8 0 1=0:=by decide+kernel
  have c2:bits BinOp.and IntKind.u8 0 2=0:=by decide+kernel
  by_cases hs:x%16=0
  ·
   rw[hgood (by unfold badU;omega),Af (by omega)];simp only;rw[AU (by omega)];clear hbad hgood;go_enter func126,ntmps126;go_wp2_with fail
   go_region
   all_goals
    go_wp2_with fail;refine(HOF.out _ (Ak _ _).drew).mono ?_;rintro e w1⟨⟨a1,rfl,hcut⟩,hb⟩;have hcal:=FK a1 (2*n) (2*n) 2 w.heap.size (nib b) w1 (by omega) (Aa _) (by unfold maxLen;omega) (by omega) hcut.ag hcut.own;rw[show((2:Nat):Int)=2 from rfl]at hcal;have HCAL:=Xba hcal;have HB:=Xba (((Ak w.heap.size w).drew).trans hb);clear hcal hcut hb;go_wp2_with fail;refine HCAL.out.mono ?_;rintro e w2⟨⟨a2,rfl,hcut⟩,rfl⟩;have HCUT:=Xba hcut;clear hcut;go_wp2_with fail;go_ret3;exact⟨⟨a2,_,rfl,HCUT.out⟩,HB.out⟩
  ·
   rw[hbad (.inr ⟨by omega,hs⟩)];simp only;clear hbad hgood;have hsb:(x%16 !=0)=true:=(by rw[BL];exact hs);clear hs;go_enter func126,ntmps126;go_wp2_with fail
   go_region
   all_goals
    go_wp2_with fail;go_ret3;exact⟨⟨none,0,rfl,ag_nil _,λh=>by omega⟩,(Ak _ _).drew⟩
 ·
  have c1:bits BinOp.and IntKind.u8 1 1=1:=by decide+kernel
  have c2:bits BinOp.and IntKind.u8 1 2=0:=by decide+kernel
  rw[hgood (by unfold badU;omega),Ad (by omega)];simp only;rw[AU (by omega)];clear hbad hgood;go_enter func126,ntmps126;go_wp2_with fail
  go_region
  all_goals
   go_wp2_with fail;refine(HOF.out _ (Ak _ _).drew).mono ?_;rintro e w1⟨⟨a1,rfl,hcut⟩,hb⟩;have hcal:=FK a1 (2*n) (2*n) 1 w.heap.size (nib b) w1 (by omega) (Aa _) (by unfold maxLen;omega) (by omega) hcut.ag hcut.own;rw[show((1:Nat):Int)=1 from rfl]at hcal;have HCAL:=Xba hcal;have HB:=Xba (((Ak w.heap.size w).drew).trans hb);clear hcal hcut hb;go_wp2_with fail;refine HCAL.out.mono ?_;rintro e w2⟨⟨a2,rfl,hcut⟩,rfl⟩;have HCUT:=Xba hcut;clear hcut;go_wp2_with fail;go_ret3;exact⟨⟨a2,_,rfl,HCUT.out⟩,HB.out⟩
 ·
  have c1:bits BinOp.and IntKind.u8 2 1=0:=by decide+kernel
  have c2:bits BinOp.and IntKind.u8 2 2=2:=by decide+kernel
  by_cases hs:x%16=0
  ·
   rw[hgood (by unfold badU;omega),Af (by omega)];simp only;rw[AT (by omega)];clear hbad hgood;go_enter func126,ntmps126;go_wp2_with fail
   go_region
   all_goals
    go_wp2_with fail;refine(HOF.out _ (Ak _ _).drew).mono ?_;rintro e w1⟨⟨a1,rfl,hcut⟩,hb⟩;have hcal:=FK a1 (2*n) (2*n) 2 w.heap.size (nib b) w1 (by omega) (Aa _) (by unfold maxLen;omega) (by omega) hcut.ag hcut.own;rw[show((2:Nat):Int)=2 from rfl]at hcal;have HCAL:=Xba hcal;have HB:=Xba (((Ak w.heap.size w).drew).trans hb);clear hcal hcut hb;go_wp2_with fail;refine HCAL.out.mono ?_;rintro e w2⟨⟨a2,rfl,hcut⟩,rfl⟩;have HCUT:=Xba hcut;clear hcut;go_wp2_with fail;go_ret3;exact⟨⟨a2,_,rfl,HCUT.out⟩,HB.out⟩
  ·
   rw[hbad (.inr ⟨by omega,hs⟩)];simp only;clear hbad hgood;have hsb:(x%16 !=0)=true:=(by rw[BL];exact hs);clear hs;go_enter func126,ntmps126;go_wp2_with fail
   go_region
   all_goals
    go_wp2_with fail;go_ret3;exact⟨⟨none,0,rfl,ag_nil _,λh=>by omega⟩,(Ak _ _).drew⟩
 ·
  have c1:bits BinOp.and IntKind.u8 3 1=1:=by decide+kernel
  have c2:bits BinOp.and IntKind.u8 3 2=2:=by decide+kernel
  rw[hgood (by unfold badU;omega),Ad (by omega)];simp only;rw[AT (by omega)];clear hbad hgood;go_enter func126,ntmps126;go_wp2_with fail
  go_region
  all_goals
   go_wp2_with fail;refine(HOF.out _ (Ak _ _).drew).mono ?_;rintro e w1⟨⟨a1,rfl,hcut⟩,hb⟩;have hcal:=FK a1 (2*n) (2*n) 1 w.heap.size (nib b) w1 (by omega) (Aa _) (by unfold maxLen;omega) (by omega) hcut.ag hcut.own;rw[show((1:Nat):Int)=1 from rfl]at hcal;have HCAL:=Xba hcal;have HB:=Xba (((Ak w.heap.size w).drew).trans hb);clear hcal hcut hb;go_wp2_with fail;refine HCAL.out.mono ?_;rintro e w2⟨⟨a2,rfl,hcut⟩,rfl⟩;have HCUT:=Xba hcut;clear hcut;go_wp2_with fail;go_ret3;exact⟨⟨a2,_,rfl,HCUT.out⟩,HB.out⟩
end Go.Proofs.YtalhnnjpjaeakaaGreat.Ni
namespace Go.Proofs.YtalhnnjpjaeakaaGreat
open Ni (unpP)
variable {fn : Func} {p u : Tmp} {w v' : World} {P : Nat → Prop} {base g : Nat} {C : Array Value} {y : V} {b : List Int} {x : RV}
theorem BP(h:fn.results=#[.cell p 92, .tmp u])(tmps:Array Value)(w:World)(g:Nat)(y:NV)(hl:y.c.d.length=32)(hp:tmps.getD p undef= .pointer (some ⟨g,0,none⟩))(hg:w.heap[g]?=some (.cells y.cells.toArray 92)):
 (results fn tmps).run prog w= .ok (.tuple #[.agg y.cells.toArray,tmps.getD u undef]) w:=by
 have hp':tmps[p]?.getD undef= .pointer (some ⟨g,0,none⟩):=by simpa using hp
 have hr:=CR (P:=prog) w g 92 92 y.cells.toArray (0,0) _ hg underlying92 rfl (by rw[I6,Bb,NV.len hl]);simp[results,h,hp',asAddr,hr]
theorem Gw(h:fn.results=#[.cell p 92, .tmp u]){post:Ending->World->Prop}{Q:Exit->Act->World->Prop}{a:Act}(hQ:bodyPost prog fn post .ret a w->Q .ret a w)(g:Nat)(y:NV)(vv:Value)(hl:y.c.d.length=32)
 (hp:a.tmps.getD p undef= .pointer (some ⟨g,0,none⟩)) (hu:a.tmps.getD u undef=vv) (hd:a.defers=[]) (hg:w.heap[g]?=some (.cells y.cells.toArray 92)) (hpost:post (.returned (.tuple #[.agg y.cells.toArray,vv])) w):
 Code.wp prog .ret Q a w:=by
 subst hu;exact wp_ret (hQ<|Ap (BP h a.tmps w g y hl hp hg) hd hpost)
def OwnP(P:Nat->Prop)(w:World)(g:Nat):Prop:=P g/\∀o,w.frozen? ⟨g,o,none⟩=false
theorem Keep.setRowP{v:World}(hg:g<base)(hP:∀k,base<=k->P k):Keep (Own base v) (OwnP P (v.setRow g C)) v (v.setRow g C):=λk hK hk=>by
 have e:(v.setRow g C).heap[k]?=v.heap[k]?:=AX _ _ _ _ (by have:=hK.1;omega);exact⟨e,hP k hK.1,λo=>(B6 (w:=v) e).trans (hK.2 o)⟩
def NPost(P:Nat->Prop)(w:World)(o:Option PN):Ending->World->Prop:=λe w'=>Below w.heap.size w w'/\
 match o with
 |none=>∃y:NV,y.c.d.length=32/\e= .returned (.tuple #[.agg y.cells.toArray, .bool false])
 |some n=>∃y:NV,e= .returned (.tuple #[.agg y.cells.toArray, .bool true])/\NodeAt (OwnP P w') w' y n
theorem Cv{y:NV}(h:y.c.d.length=32):(nz.cells.toArray:Array Value).size=y.cells.toArray.size:=by rw[Bb,Bb,NV.len h];rfl
theorem CL{y:NV}(h:y.c.d.length=32):(prog.info? 92).map (·.size)=some y.cells.toArray.size:=by rw[I6,Bb,NV.len h]
structure Pn(w v:World)(x y:V):Prop where
 row:v.heap[w.heap.size+1+1]?=some (.cells nz.cells.toArray 92)
 bx:B1 w.heap.size v x
 by':B1 (w.heap.size+1) v y
 bel:Below w.heap.size w v
 sz:w.heap.size+3<=v.heap.size
theorem Pn.go{v:World}{x:V}(h:Pn w v x y)(hb:Below v.heap.size v v'):Pn w v' x y:=⟨Below.row hb h.row,h.bx.go hb,h.by'.go hb,below_go h.bel hb,Al h.sz hb.size⟩
theorem ZM(w:World)(x y:V):Pn w (((w.alloc (.cells #[.bool x.l, .slice x.ba x.bn x.bc, .slice x.ia x.m x.ic] 110)).alloc (.cells #[.bool y.l, .slice y.ba y.bn y.bc, .slice y.ia y.m y.ic] 110)).alloc (.cells nz.cells.toArray 92)) x y:=by
 generalize hw1:w.alloc (.cells #[.bool x.l, .slice x.ba x.bn x.bc, .slice x.ia x.m x.ic] 110)=w1;have s1:w1.heap.size=w.heap.size+1:=by rw[<-hw1];simp
 have b1:B1 w.heap.size w1 x:=by rw[<-hw1];exact E5 w x
 have l1:Below w.heap.size w w1:=by rw[<-hw1];exact below_new w _
 have b2:=E5 w1 y;rw[s1]at b2;generalize hw2:w1.alloc (.cells #[.bool y.l, .slice y.ba y.bn y.bc, .slice y.ia y.m y.ic] 110)=w2 at b2⊢;have s2:w2.heap.size=w.heap.size+1+1:=by rw[<-hw2];simp[s1]
 have l2:Below w1.heap.size w1 w2:=by rw[<-hw2];exact below_new w1 _
 refine⟨?_,(b1.go l2).alloc _,b2.alloc _,below_go (below_go l1 l2) (below_new _ _),by simp[s2]⟩;rw[<-s2];exact Ai _ _
theorem Yo{m:Nat}{w0:World}{a:Option Addr}{bs:List Int}(h:Ni.Cut w base a m bs)(hm:m<=140737488351232):AgK (Own base w) w a m m bs:=⟨h.ag,hm,λg off e h0=>by
 obtain⟨g',off',cur,e',hb,hr⟩:=h.own h0;rw[e]at e';cases e';exact⟨hb,λo=>AL _ _ _ _ _ hr⟩⟩
theorem Io{l:Bool}{bs:List Int}{its:List T}(h:LiesP P w (.mk l bs its) y):AgK (OwnP P w) w y.ba y.bn y.bc bs:=by
 obtain⟨⟨_,h2,_,_,_,h6,h8⟩,_⟩:=liesP_eq.1 h;exact⟨h2,h6.1,λg off e h0=>h8 g off e h0⟩
theorem DO{h:Nat}{v:World}(b:B1 g v y)(hne:g≠h):B1 g (v.setRow h C) y:=by
 have e:(v.setRow h C).heap[g]?=v.heap[g]?:=AX _ _ _ _ hne;exact⟨(Aq (w:=v) e).trans b.c0,(Aq (w:=v) e).trans b.c1,(Aq (w:=v) e).trans b.c2⟩
theorem Jz(K:Nat->Prop)(w:World)(a:Option Addr):KidsAt K w a []:=λj r hr=>by simp at hr
theorem O9(P:Nat->Prop)(t u:T)(x y:V)(w:World)(hx:Lies w t x)(hy:LiesP P w u y)(hb:∀g,w.heap.size<=g->P g)(hxn:t.bs.length<=16777216):
 Calls prog 98 #[.agg #[.bool x.l, .slice x.ba x.bn x.bc, .slice x.ia x.m x.ic], .agg #[.bool y.l, .slice y.ba y.bn y.bc, .slice y.ia y.m y.ic]] w (NPost P w (pathP t u)):=by
 obtain⟨l,bs,its⟩:=t;obtain⟨l2,bs2,its2⟩:=u;obtain⟨hl,hag,-⟩:=lies_eq.1 hx;obtain⟨⟨hl2,-⟩,-⟩:=liesP_eq.1 hy;subst hl hl2;have hxn:bs.length<=16777216:=hxn;have HAG:=Xba hag;have HY:=Xba hy;have HBASE:=Xba hb;have HU:=Xba (show∀v,Below w.heap.size w v->Calls prog 126 #[.slice x.ba x.bn x.bc] v λe w'=>(∃a' m,e= .returned (.tuple #[.slice a' m m, .bool (unpP bs).2.1, .int .i64 ((unpP bs).2.2:Nat)])/\Ni.Cut w' v.heap.size a' m (unpP bs).1)/\Below v.heap.size v w' from λv hv=>Ni.unpack_any _ _ _ _ v (hag.at hv) (by have:=hag.l;omega));have HPL:=Xba (Ni.unp_le bs);have HXN:=Xba hxn;obtain⟨res,hres⟩:∃res,pathP (.mk x.l bs its) (.mk y.l bs2 its2)=res:=⟨_,rfl⟩;rw[hres]
 have hres:(if x.l=true∨(unpP bs).2.2≠0 then none
  else if(unpP bs).2.1=true then(if y.l=true then none else some (⟨1,(unpP bs).1,bs2,r0,[]⟩:PN))
  else match refOfP (.mk y.l bs2 its2)with
   |none=>none
   |some c=>some ⟨2,(unpP bs).1,[],c,[]⟩)=res:=hres
 obtain⟨pp,hpp⟩:∃pp,(unpP bs).1=pp:=⟨_,rfl⟩;obtain⟨lf,hlf⟩:∃lf,(unpP bs).2.1=lf:=⟨_,rfl⟩;obtain⟨er,her⟩:∃er,(unpP bs).2.2=er:=⟨_,rfl⟩;rw[hpp,hlf,her]at hres;rw[hpp,hlf,her]at HU;rw[hpp]at HPL;have HRES:=Xba hres;have HPN:=Xba (ZM w x y);clear hx hy hag hb hxn hres hpp hlf her;go_enter func98,ntmps98;go_upto_region 1 with fail;refine gen_w (p:=λv=>Code.wp _ _ _ _ v) (q:=λv=>Pn w v x y) HPN.out ?_;clear HPN;intro v P0;have c1:=P0.bx.c1;have HP0:=Xba P0;clear P0;go_wp2_with fail;refine(HU.out v HP0.out.bel).mono ?_;rintro e w1⟨⟨a',m,rfl,hcut⟩,hb1⟩;have P1:=HP0.out.go hb1;have HM:=Xba (show m<=140737488351232 from by have:=hcut.ag.l;have:=HPL.out;have:=HXN.out;omega);have HPA:=Xba (Yo (w0:=w) hcut HM.out);have HVS:=Xba HP0.out.sz;have c0:=P1.bx.c0;have d0:=P1.by'.c0;have d1:=P1.by'.c1;have d2:=P1.by'.c2;have HP1:=Xba P1;clear hcut hb1 P1 c1 HP0 HU;by_cases hbad:x.l=true∨er≠0
 ·have hr:=HRES.out;rw[Af hbad]at hr;subst hr;by_cases hxl:x.l=true
  ·rw[hxl]at c0;go_wp2_with (first|refine A4 rfl 92 _ _ rfl _ nz.cells.toArray rfl rfl 92 _ HP1.out.row (CL rfl) (Cv rfl) (Am (NV.one _)) ?_);refine Ap (BP results98 _ _ (w.heap.size+1+1) nz rfl rfl (AA _ _ _ _ _ _ HP1.out.row)) rfl ?_;exact⟨Below.setRow HP1.out.bel (by omega) _,nz,rfl,rfl⟩
  ·have hxf:x.l=false:=(by simpa using hxl);have hee:((er:Int) !=0)=true:=(by rw[BL];have:=hbad.resolve_left hxl;omega);rw[hxf]at c0;clear hxl hbad hxf;go_wp2_with (first|refine A4 rfl 92 _ _ rfl _ nz.cells.toArray rfl rfl 92 _ HP1.out.row (CL rfl) (Cv rfl) (Am (NV.one _)) ?_);refine Ap (BP results98 _ _ (w.heap.size+1+1) nz rfl rfl (AA _ _ _ _ _ _ HP1.out.row)) rfl ?_;exact⟨Below.setRow HP1.out.bel (by omega) _,nz,rfl,rfl⟩
 ·have hr:=HRES.out;rw[Ad hbad]at hr;have hxf:x.l=false:=by cases hq:x.l with
   |false=>rfl
   |true=>exact absurd (.inl hq) hbad
  have he0:er=0:=Decidable.byContradiction λh=>hbad (.inr h);subst he0;rw[hxf]at c0;rw[show((0:Nat):Int)=0 from rfl];clear hxf hbad HRES;cases lf with
  |true=>
   rw[Af rfl]at hr;have HR:=Xba hr;clear hr;go_upto_region 5 with fail;rename_i KK hkk;refine BW (S:=λv=>B1 (w.heap.size+1) v y) (by kernel_rfl) ⟨HP1.out.by'.c0,HP1.out.by'.c1,HP1.out.by'.c2⟩ (λhS=>?_);refine Bh 0 26 (.slice a' m m) rfl rfl (by kernel_rfl) (by kernel_rfl) (by kernel_rfl) (λ_ _ _ h=>h) (by kernel_rfl) (λv _=>by kernel_rfl) hS<|Bh 1 27 (.pointer (some ⟨w.heap.size+1,1,none⟩)) rfl rfl (by kernel_rfl) (by kernel_rfl) (by kernel_rfl) (λ_ _ _ h=>h) (by kernel_rfl) (λv _=>by kernel_rfl) hS<|Bh 2 28 (.slice y.ba y.bn y.bc) rfl rfl (by kernel_rfl) (by kernel_rfl) (by kernel_rfl) (λ_ _ _ h=>h) (by kernel_rfl) (λv hv=>FO rfl (by kernel_rfl) hv.c1) hS<|Bh 3 29 (.agg (NV.cells ⟨1,a',m,m,y.ba,y.bn,y.bc,rz,none,0,0⟩).toArray) rfl rfl (by kernel_rfl) (by kernel_rfl) (by kernel_rfl) (λ_ _ _ h=>h) (by kernel_rfl) (λv _=>Ea 92 _ rfl [(0, .int .i64 1),(1, .slice a' m m),(2, .slice y.ba y.bn y.bc)] (by kernel_rfl) _ (Ju _ _ _ _ _ _)) hS<|Bh 4 30 (.pointer (some ⟨w.heap.size+1,0,none⟩)) rfl rfl (by kernel_rfl) (by kernel_rfl) (by kernel_rfl) (λ_ _ _ h=>h) (by kernel_rfl) (λv _=>by kernel_rfl) hS<|Bh 5 31 (.bool y.l) rfl rfl (by kernel_rfl) (by kernel_rfl) (by kernel_rfl) (λ_ _ _ h=>h) (by kernel_rfl) (λv hv=>Pv rfl (by kernel_rfl) hv.c0) hS<|Bh 6 32 (.bool (!y.l)) rfl rfl (by kernel_rfl) (by kernel_rfl) (by kernel_rfl) (λ_ _ _ h=>h) (by kernel_rfl) (λv _=>by kernel_rfl) hS<|AB (rs:=[7]) (by kernel_rfl) (by simp) ?_;refine DG 7 rfl rfl (by kernel_rfl) (D3 92 _ _ rfl (w.heap.size+1+1) (NV.cells ⟨1,a',m,m,y.ba,y.bn,y.bc,rz,none,0,0⟩).toArray (by kernel_rfl) (by kernel_rfl) 92 nz.cells.toArray HP1.out.row (CL rfl) (Cv rfl) (Am (NV.one _))) ?_ ?_ A7
   ·exact DO hS (by omega)
   refine Bh 8 5 (.bool (!y.l)) rfl rfl (by kernel_rfl) (by kernel_rfl) (by kernel_rfl) (λ_ _ _ h=>h) (by kernel_rfl) (λv _=>by kernel_rfl) (DO hS (by omega)) ?_;refine Cl (by kernel_rfl) ?_ _;refine hkk _ _<|Gw results98 (λh=>h) (w.heap.size+1+1) ⟨1,a',m,m,y.ba,y.bn,y.bc,rz,none,0,0⟩ (.bool (!y.l)) rfl (by kernel_rfl) (by kernel_rfl) (by kernel_rfl) (AA _ _ _ _ _ _ HP1.out.row) ?_;have hr:=HR.out;refine⟨Below.setRow HP1.out.bel.drew (by omega) _,?_⟩;cases hyl:y.l with
   |true=>
    rw[hyl,Af rfl]at hr;subst hr;exact⟨⟨1,a',m,m,y.ba,y.bn,y.bc,rz,none,0,0⟩,rfl,rfl⟩
   |false=>
    rw[hyl,Ad (by simp)]at hr;subst hr
    have hk1:Keep (Own v.heap.size w1) (OwnP P (w1.drew.setRow (w.heap.size+1+1) (NV.cells ⟨1,a',m,m,y.ba,y.bn,y.bc,rz,none,0,0⟩).toArray)) w1 (w1.drew.setRow (w.heap.size+1+1) (NV.cells ⟨1,a',m,m,y.ba,y.bn,y.bc,rz,none,0,0⟩).toArray):=
     Keep.setRowP (v:=w1.drew) (base:=v.heap.size) (by have:=HVS.out;omega) (λk hk=>HBASE.out k (by have:=HVS.out;omega))
    have hk2:Keep (OwnP P w) (OwnP P (w1.drew.setRow (w.heap.size+1+1) (NV.cells ⟨1,a',m,m,y.ba,y.bn,y.bc,rz,none,0,0⟩).toArray)) w (w1.drew.setRow (w.heap.size+1+1) (NV.cells ⟨1,a',m,m,y.ba,y.bn,y.bc,rz,none,0,0⟩).toArray):=λk hK hk=>by
     have e:((w1.drew.setRow (w.heap.size+1+1) (NV.cells ⟨1,a',m,m,y.ba,y.bn,y.bc,rz,none,0,0⟩).toArray)).heap[k]?=w.heap[k]?:=(AX _ _ _ _ (by omega)).trans (HP1.out.bel.block k hk);exact⟨e,hK.1,λo=>(B6 (w:=w) e).trans (hK.2 o)⟩
    exact⟨⟨1,a',m,m,y.ba,y.bn,y.bc,rz,none,0,0⟩,rfl,rfl,HPA.out.go hk1,(Io HY.out).go hk2,Fc _ _,⟨rfl,Ay _,Ay _,Ay _,λ_=>⟨rfl,rfl⟩⟩,Jz _ _ _⟩
  |false=>
   rw[Ad (by simp)]at hr;have HR:=Xba hr;have HRO:=Xba (Nr (.mk y.l bs2 its2) y w1 (Ci HP1.out.bel _ y (CX _ _ HY.out)));clear hr;go_wp2_with fail;refine HRO.out.mono ?_;intro e w2 hp;obtain⟨hb2,hp⟩:=hp;have HP2:=Xba (HP1.out.go hb2);have HW1:=Xba HP1.out.sz;have hr:=HR.out;cases hq:refOfP (.mk y.l bs2 its2)with
   |none=>
    rw[hq]at hp hr;subst hr;obtain⟨y',hyl',rfl⟩:=hp;have HYL:=Xba hyl';clear hb2 hq hyl';go_upto_region 7 with(first|refine A4 rfl 62 _ _ rfl _ y'.cells.toArray rfl rfl 62 _ (Ai _ _) (Da HYL.out) (Dv HYL.out) (Am (RV.one _)) ?_);refine gen_w (p:=λv=>Code.wp _ _ _ _ v) (q:=λu=>RBx w2.heap.size u y'/\Pn w u x y) ⟨⟨AA _ _ _ _ _ _ (Ai _ _),HYL.out⟩,HP2.out.go (Below.setRow (below_new w2 _) (Aa _) _)⟩ ?_;rintro v3⟨B3,P3⟩;have HB3:=Xba B3;have HP3:=Xba P3;clear B3 P3;rename_i KK hkk;refine CZ<|Bu 38 (.slice a' m m) rfl (by kernel_rfl) (by kernel_rfl)<|Bu 39 (.agg y'.cells.toArray) rfl (by kernel_rfl) (Gu rfl (by kernel_rfl) HYL.out HB3.out.all)<|Bu 40 (.agg (NV.cells ⟨2,a',m,m,none,0,0,y',none,0,0⟩).toArray) rfl (by kernel_rfl) (Ea 92 _ rfl [(0, .int .i64 2),(1, .slice a' m m),(3, .agg y'.cells.toArray)] (by kernel_rfl) _ (GU _ _ _ _ HYL.out))<|Bu 41 (.bool false) rfl (by kernel_rfl) (by kernel_rfl)<|Fy rfl (by kernel_rfl) (D3 92 _ _ rfl (w.heap.size+1+1) (NV.cells ⟨2,a',m,m,none,0,0,y',none,0,0⟩).toArray (by kernel_rfl) (by kernel_rfl) 92 nz.cells.toArray HP3.out.row (CL HYL.out) (Cv HYL.out) (Am (NV.one _)))<|Bu 5 (.bool false) rfl (by kernel_rfl) (by kernel_rfl)<|hkk _ _<|Gw results98 (λh=>h) (w.heap.size+1+1) ⟨2,a',m,m,none,0,0,y',none,0,0⟩ (.bool false) HYL.out (by kernel_rfl) (by kernel_rfl) (by kernel_rfl) (AA _ _ _ _ _ _ HP3.out.row) ?_;exact⟨Below.setRow HP3.out.bel (by omega) _,⟨2,a',m,m,none,0,0,y',none,0,0⟩,HYL.out,rfl⟩
   |some c=>
    rw[hq]at hp hr;subst hr;obtain⟨y',rfl,hy'⟩:=hp;have HYL:=Xba hy'.len;have HYR:=Xba hy';have HB2:=Xba hb2;clear hb2 hq hy';go_upto_region 7 with(first|refine A4 rfl 62 _ _ rfl _ y'.cells.toArray rfl rfl 62 _ (Ai _ _) (Da HYL.out) (Dv HYL.out) (Am (RV.one _)) ?_);refine gen_w (p:=λv=>Code.wp _ _ _ _ v) (q:=λu=>RBx w2.heap.size u y'/\Pn w u x y/\Below w2.heap.size w2 u) ⟨⟨AA _ _ _ _ _ _ (Ai _ _),HYL.out⟩,HP2.out.go (Below.setRow (below_new w2 _) (Aa _) _),Below.setRow (below_new w2 _) (Aa _) _⟩ ?_;rintro v3⟨B3,P3,b3⟩;have HB3:=Xba B3;have HP3:=Xba P3;have HBB:=Xba b3;clear b3;clear B3 P3;rename_i KK hkk;refine CZ<|Bu 38 (.slice a' m m) rfl (by kernel_rfl) (by kernel_rfl)<|Bu 39 (.agg y'.cells.toArray) rfl (by kernel_rfl) (Gu rfl (by kernel_rfl) HYL.out HB3.out.all)<|Bu 40 (.agg (NV.cells ⟨2,a',m,m,none,0,0,y',none,0,0⟩).toArray) rfl (by kernel_rfl) (Ea 92 _ rfl [(0, .int .i64 2),(1, .slice a' m m),(3, .agg y'.cells.toArray)] (by kernel_rfl) _ (GU _ _ _ _ HYL.out))<|Bu 41 (.bool true) rfl (by kernel_rfl) (by kernel_rfl)<|Fy rfl (by kernel_rfl) (D3 92 _ _ rfl (w.heap.size+1+1) (NV.cells ⟨2,a',m,m,none,0,0,y',none,0,0⟩).toArray (by kernel_rfl) (by kernel_rfl) 92 nz.cells.toArray HP3.out.row (CL HYL.out) (Cv HYL.out) (Am (NV.one _)))<|Bu 5 (.bool true) rfl (by kernel_rfl) (by kernel_rfl)<|hkk _ _<|Gw results98 (λh=>h) (w.heap.size+1+1) ⟨2,a',m,m,none,0,0,y',none,0,0⟩ (.bool true) HYL.out (by kernel_rfl) (by kernel_rfl) (by kernel_rfl) (AA _ _ _ _ _ _ HP3.out.row) ?_;have hk1:Keep (Own v.heap.size w1) (OwnP P (v3.setRow (w.heap.size+1+1) (NV.cells ⟨2,a',m,m,none,0,0,y',none,0,0⟩).toArray)) w1 (v3.setRow (w.heap.size+1+1) (NV.cells ⟨2,a',m,m,none,0,0,y',none,0,0⟩).toArray):=λk hK hk=>by
     have e:((v3.setRow (w.heap.size+1+1) (NV.cells ⟨2,a',m,m,none,0,0,y',none,0,0⟩).toArray)).heap[k]?=w1.heap[k]?:=(AX _ _ _ _ (by have:=hK.1;have:=HVS.out;omega)).trans ((HBB.out.block k (Bw hk HB2.out.size)).trans (HB2.out.block k hk));exact⟨e,HBASE.out k (by have:=hK.1;have:=HVS.out;omega),λo=>(B6 (w:=w1) e).trans (hK.2 o)⟩
    have hk2:Keep (Own w1.heap.size w2) (OwnP P (v3.setRow (w.heap.size+1+1) (NV.cells ⟨2,a',m,m,none,0,0,y',none,0,0⟩).toArray)) w2 (v3.setRow (w.heap.size+1+1) (NV.cells ⟨2,a',m,m,none,0,0,y',none,0,0⟩).toArray):=λk hK hk=>by
     have e:((v3.setRow (w.heap.size+1+1) (NV.cells ⟨2,a',m,m,none,0,0,y',none,0,0⟩).toArray)).heap[k]?=w2.heap[k]?:=(AX _ _ _ _ (by have:=hK.1;have:=HW1.out;omega)).trans (HBB.out.block k hk);exact⟨e,HBASE.out k (by have:=hK.1;have:=HW1.out;omega),λo=>(B6 (w:=w2) e).trans (hK.2 o)⟩
    exact⟨Below.setRow HP3.out.bel (by omega) _,⟨2,a',m,m,none,0,0,y',none,0,0⟩,rfl,rfl,HPA.out.go hk1,Fz _ _,HYR.out.go hk2,⟨rfl,Ay _,Ay _,Ay _,λ_=>⟨rfl,rfl⟩⟩,Jz _ _ _⟩
theorem QI(h:Row g w b)(o:Nat):w.frozen? ⟨g,o,none⟩=false:=AL _ _ _ _ _ h
theorem Gx{n:Nat}(h:Row g w b)(hl:b.length=n)(hb:isB b)(hn:n<=140737488351232)(hP:P g):LiesP P w (.mk false b []) ⟨false,some ⟨g,0,none⟩,n,n,none,0,0⟩:=
 liesP_eq.2 ⟨⟨rfl,row_ag (n:=n) h hl hb (Al hn (by omega)),rfl,Aa _,Ay _,⟨hn,Ay _⟩,λg' off e _=>by cases e;exact⟨hP,QI h⟩⟩,Du⟩
theorem IJ(P:Nat->Prop)(w:World):LiesP P w t0 ⟨false,none,0,0,none,0,0⟩:=
 liesP_eq.2 ⟨⟨rfl,⟨.inl ⟨rfl,rfl⟩,λ_=>⟨rfl,rfl⟩,rfl,λx hx=>by cases hx⟩,rfl,Aa _,Ay _,⟨Ay _,Ay _⟩,λg off e=>by cases e⟩,Du⟩
structure Ri(w v:World)(x:RV):Prop where
 row:v.heap[w.heap.size+1]?=some (.cells #[.bool false, .slice none 0 0, .slice none 0 0] 110)
 bx:RBx w.heap.size v x
 bel:Below w.heap.size w v
 sz:w.heap.size+2<=v.heap.size
theorem Ri.go{v:World}(h:Ri w v x)(hb:Below v.heap.size v v'):Ri w v' x:=⟨Below.row hb h.row,h.bx.go hb,below_go h.bel hb,Al h.sz hb.size⟩
theorem Wl(w:World)(x:RV)(hl:x.d.length=32):Ri w ((w.alloc (.cells x.cells.toArray 62)).alloc (.cells #[.bool false, .slice none 0 0, .slice none 0 0] 110)) x:=by
 have s1:(w.alloc (.cells x.cells.toArray 62)).heap.size=w.heap.size+1:=by simp
 refine⟨?_,(Jt w x hl).go (below_new _ _),below_go (below_new w _) (below_new _ _),by simp⟩;have:=Ai (w.alloc (.cells x.cells.toArray 62)) (.cells #[.bool false, .slice none 0 0, .slice none 0 0] 110);rwa [s1]at this
theorem Ri.x0{v:World}(h:Ri w v x):v.cell? ⟨w.heap.size+1,0,none⟩=some (.bool false):=by rw[Ae _ _ _ _ _ _ h.row];rfl
theorem Ri.x1{v:World}(h:Ri w v x):v.cell? ⟨w.heap.size+1,1,none⟩=some (.slice none 0 0):=by rw[Ae _ _ _ _ _ _ h.row];rfl
theorem Ri.x2{v:World}(h:Ri w v x):v.cell? ⟨w.heap.size+1,2,none⟩=some (.slice none 0 0):=by rw[Ae _ _ _ _ _ _ h.row];rfl
theorem Ri.xf{v:World}(h:Ri w v x):∀o,v.frozen? ⟨w.heap.size+1,o,none⟩=false:=λo=>AL _ _ _ _ _ h.row
def IPost(w:World)(t:T):Ending->World->Prop:=λe w'=>(∃y:V,e= .returned (.agg #[.bool y.l, .slice y.ba y.bn y.bc, .slice y.ia y.m y.ic])/\LiesP (λb=>w.heap.size<=b) w' t y)/\Below w.heap.size w w'
theorem EN{v:World}{t:T}(h:Ri w v x)(hy:LiesP (λb=>w.heap.size+2<=b) v t y):
 IPost w t (.returned (.agg #[.bool y.l, .slice y.ba y.bn y.bc, .slice y.ia y.m y.ic])) (((v.setCell ⟨w.heap.size+1,0,none⟩ (.bool y.l)).setCell ⟨w.heap.size+1,1,none⟩ (.slice y.ba y.bn y.bc)).setCell ⟨w.heap.size+1,2,none⟩ (.slice y.ia y.m y.ic)):=
 ⟨⟨y,rfl,Bz (λb hb hlt=>⟨Ds (by omega) _ _ _,by omega⟩) _ _ hy⟩,Ch h.bel (by omega) _ _ _⟩
theorem K5(K:Nat->Prop)(x:RV)(r:PR)(w:World)(h:RefAt K w x r):
 Calls prog 119 #[.agg x.cells.toArray] w (IPost w (refItemP r)):=by
 have HRI:=Xba (Wl w x h.len);have HH:=Xba h;have HLX:=Xba h.len;obtain⟨res,hres⟩:∃res,refItemP r=res:=⟨_,rfl⟩;rw[hres];unfold refItemP at hres;rw[<-h.1]at hres;have HRES:=Xba hres;clear h hres;go_enter func119,ntmps119;go_upto_region 1 with fail;refine gen_w (p:=λv=>Code.wp _ _ _ _ v) (q:=λv=>Ri w v x) HRI.out ?_;clear HRI;intro v R0;have c0:=R0.bx.c0;have c33:=R0.bx.c33;have HR0:=Xba R0;clear R0;by_cases h1:x.k=1
 ·have hr:=HRES.out;rw[if_pos h1]at hr;have HCD:=Xba (LF x.a x.n x.c r.i v (HH.out.2.2.2.2.1.at HR0.out.bel) HH.out.2.2.2.2.2.1);have HR:=Xba hr;clear hr HRES;go_wp2_with fail;refine HCD.out.mono ?_;intro e w1 hp;obtain⟨hb1,hp⟩:=hp;have HR1:=Xba (HR0.out.go hb1);have HS0:=Xba HR0.out.sz;have hr:=HR.out;cases hq:decP r.i with
  |bad er=>
   rw[hq]at hp hr;have hr:t0=res:=hr;subst hr;obtain⟨rfl,her⟩:=hp;clear hb1 hq her;go_upto_region 4 with fail;refine gen_w (p:=λv=>Code.wp _ _ _ _ v) (q:=λv=>Ri w v x/\B1 w1.heap.size v ⟨false,none,0,0,none,0,0⟩) ⟨HR1.out.go (below_new w1 _),E5 w1 ⟨false,none,0,0,none,0,0⟩⟩ ?_;rintro v2⟨R2,B2⟩;have x0:=R2.x0;have x1:=R2.x1;have x2:=R2.x2;have xf:=R2.xf;have d0:=B2.c0;have d1:=B2.c1;have d2:=B2.c2;have HR2:=Xba R2;clear R2 B2 c0 c33;go_wp2_with fail;have hr:=put3 HR2.out.row (.bool false) (.slice none 0 0) (.slice none 0 0);refine bodyPost_ret (results_cell_row results119 _ _ (w.heap.size+1) 110 _ (0,0) _ rfl hr underlying110 rfl (by kernel_rfl)) rfl ?_;exact EN (y:=⟨false,none,0,0,none,0,0⟩) HR2.out (IJ _ _)
  |ok t=>
   rw[hq]at hp hr;have hr:t=res:=hr;subst hr;obtain⟨y,rfl,hy⟩:=hp;have HY:=Xba (show LiesP (λb=>w.heap.size+2<=b) w1 t y from Bz (λb hb hlt=>⟨rfl,by have:=HS0.out;omega⟩) _ _ hy);clear hb1 hq hy;go_upto_region 4 with fail;refine gen_w (p:=λv=>Code.wp _ _ _ _ v) (q:=λv=>Ri w v x/\B1 w1.heap.size v y/\LiesP (λb=>w.heap.size+2<=b) v t y) ⟨HR1.out.go (below_new w1 _),E5 w1 _,Bz (λb hb hlt=>⟨heap_alloc_old _ _ hlt,hb⟩) _ _ HY.out⟩ ?_;rintro v2⟨R2,B2,L2⟩;have x0:=R2.x0;have x1:=R2.x1;have x2:=R2.x2;have xf:=R2.xf;have d0:=B2.c0;have d1:=B2.c1;have d2:=B2.c2;have HR2:=Xba R2;have HL2:=Xba L2;clear R2 B2 L2 c0 c33;go_wp2_with fail;have hr:=put3 HR2.out.row (.bool y.l) (.slice y.ba y.bn y.bc) (.slice y.ia y.m y.ic);refine bodyPost_ret (results_cell_row results119 _ _ (w.heap.size+1) 110 _ (0,0) _ rfl hr underlying110 rfl (by kernel_rfl)) rfl ?_;exact EN HR2.out HL2.out
 ·by_cases h2:x.k=2
  ·have hr:=HRES.out;rw[if_neg h1,if_pos h2]at hr;subst hr;have hag:Ag v (some ⟨w.heap.size,1,none⟩) 32 32 r.d:=by
    have hd:=HR0.out.bx.digest;rw[HH.out.2.1]at hd;refine⟨.inr ⟨w.heap.size,1,rfl,HH.out.2.2.2.1,by omega,by omega,by unfold maxLen;omega,λj hj=>?_⟩,(λe=>by cases e),HH.out.2.2.2.1,HH.out.2.2.1⟩;exact hd j _ (by rw[List.getElem?_map,List.getD,List.getElem?_eq_getElem hj];rfl)
   have HTX:=Xba (Fl (some ⟨w.heap.size,1,none⟩) 32 32 r.d v hag (by omega));have HS0:=Xba HR0.out.sz;have e1:(x.k==1)=false:=(by simp[h1]);clear hag;go_wp2_with fail;refine HTX.out.mono ?_;rintro e w1⟨rfl,hrow,hb1⟩;have R1:=HR0.out.go hb1;have x0:=R1.x0;have x1:=R1.x1;have x2:=R1.x2;have xf:=R1.xf;have HR1:=Xba R1;have HY:=Xba (Gx (P:=λb=>w.heap.size+2<=b) hrow HH.out.2.2.2.1 HH.out.2.2.1 (by omega) (by have:=HS0.out;omega));clear hrow hb1 R1;go_wp2_with fail;have hr:=put3 HR1.out.row (.bool false) (.slice (some ⟨v.heap.size+1,0,none⟩) 32 32) (.slice none 0 0);refine bodyPost_ret (results_cell_row results119 _ _ (w.heap.size+1) 110 _ (0,0) _ rfl hr underlying110 rfl (by kernel_rfl)) rfl ?_;exact EN (y:=⟨false,some ⟨v.heap.size+1,0,none⟩,32,32,none,0,0⟩) HR1.out HY.out
  ·have hr:=HRES.out;rw[if_neg h1,if_neg h2]at hr;subst hr;have hag:Ag v none 0 0 []:=⟨.inl ⟨rfl,rfl⟩,λ_=>⟨rfl,rfl⟩,rfl,λx hx=>by cases hx⟩;have HTX:=Xba (Fl none 0 0 [] v hag (by omega));have HS0:=Xba HR0.out.sz;have e1:(x.k==1)=false:=(by simp[h1]);have e2:(x.k==2)=false:=(by simp[h2]);clear hag;go_wp2_with fail;refine HTX.out.mono ?_;rintro e w1⟨rfl,hrow,hb1⟩;have R1:=HR0.out.go hb1;have x0:=R1.x0;have x1:=R1.x1;have x2:=R1.x2;have xf:=R1.xf;have HR1:=Xba R1;have HY:=Xba (Gx (P:=λb=>w.heap.size+2<=b) (n:=0) hrow rfl (λx hx=>by cases hx) (by omega) (by have:=HS0.out;omega));clear hrow hb1 R1;go_wp2_with fail;have hr:=put3 HR1.out.row (.bool false) (.slice (some ⟨v.heap.size+1,0,none⟩) 0 0) (.slice none 0 0);refine bodyPost_ret (results_cell_row results119 _ _ (w.heap.size+1) 110 _ (0,0) _ rfl hr underlying110 rfl (by kernel_rfl)) rfl ?_;exact EN (y:=⟨false,some ⟨v.heap.size+1,0,none⟩,0,0,none,0,0⟩) HR1.out HY.out
end Go.Proofs.YtalhnnjpjaeakaaGreat
namespace Go.Proofs.YtalhnnjpjaeakaaGreat
open Di (dref)
variable {ds : List Int}
theorem Ip(h:ds.length=32):(B8 z32).size=(B8 ds).size:=by rw[B8_size,B8_size,h];rfl
theorem GD(h:ds.length=32):(prog.info? 49).map (·.size)=some (B8 ds).size:=by rw[Zt,B8_size,h]
theorem B8_one(bs:List Int):(B8 bs).all (·.oneCell')=true:=Am (B8_one2 bs)
theorem ZN:encP t0=([128],0):=by decide+kernel
theorem GX(w:World):Calls prog 25 #[] w λe w'=>e= .returned (.agg (B8 (dref [128])))/\Below w.heap.size w w':=by
 have HOF:=Xba (λ(v:World)=>LQ (some ⟨v.heap.size,0,none⟩) 1 1 [128] (v.alloc (.cells #[.int .u8 128] 5)) (Ni.row_ag (show Ni.Row v.heap.size (v.alloc (.cells #[.int .u8 128] 5)) [128]from Ai _ _) rfl (λx hx=>by simp at hx;omega) (show(1:Nat)<=9223372036854775807 by decide)) (by omega));have HDL:=Xba (dref_len [128]);obtain⟨ds,hds⟩:∃ds,dref [128]=ds:=⟨_,rfl⟩;rw[hds]at HOF HDL⊢;clear hds;go_enter func25,ntmps25;go_upto_region 1 with fail;refine gen_w (p:=λv=>Code.wp _ _ _ _ v) (q:=λv=>v.heap[w.heap.size]?=some (.cells (B8 z32) 49)/\Below w.heap.size w v) ⟨Ai _ _,below_new _ _⟩ ?_;rintro v⟨hrow,hb⟩;have HROW:=Xba hrow;have HB:=Xba hb;clear hrow hb;go_wp2_with fail;refine(HOF.out v).mono ?_;rintro e w1⟨rfl,hb1⟩;have HR1:=Xba (Below.row (below_go (below_new v _) hb1) HROW.out);have HB1:=Xba (below_go HB.out (below_go (below_new v _) hb1));clear hb1;go_wp2_with (first|refine A4 rfl 49 _ _ rfl _ (B8 ds) rfl rfl 49 _ HR1.out (GD HDL.out) (Ip HDL.out) (B8_one _) ?_);refine Ap (Ba results25 _ _ w.heap.size 49 (B8 ds) (0,0) _ rfl (AA _ _ _ _ _ _ HR1.out) underlying49 rfl (GD HDL.out)) rfl ?_;exact⟨rfl,Below.setRow HB1.out (Aa _) _⟩
theorem ML(w:World):Calls prog 38 #[] w λe w'=>e= .returned (.agg (B8 (dref [128])))/\Below w.heap.size w w':=by
 have HDL:=Xba (dref_len [128]);have HOF:=Xba (λ(v:World)(a:Option Addr)(c:Nat)(h:Ag v a 1 c [128])=>O8 a 1 c [128] v h (by omega));obtain⟨ds,hds⟩:∃ds,dref [128]=ds:=⟨_,rfl⟩;rw[hds]at HOF HDL⊢;clear hds;have HTX:=Xba (λv=>Fl none 0 0 [] v ⟨.inl ⟨rfl,rfl⟩,λ_=>⟨rfl,rfl⟩,rfl,λx hx=>by cases hx⟩ (by omega));go_enter func38,ntmps38;go_upto_region 1 with fail;refine gen_w (p:=λv=>Code.wp _ _ _ _ v) (q:=λv=>v.heap[w.heap.size]?=some (.cells (B8 z32) 49)/\Below w.heap.size w v) ⟨Ai _ _,below_new _ _⟩ ?_;rintro v⟨hrow,hb⟩;have HROW:=Xba hrow;have HB:=Xba hb;clear hrow hb;go_wp2_with fail;refine(HTX.out v).mono ?_;rintro e w1⟨rfl,hr1,hb1⟩;have hlies:=CX _ _ (Gx (P:=λ_=>True) (n:=0) hr1 rfl (λx hx=>by cases hx) (by omega) trivial);have hen:=IG (.mk false [] []) ⟨false,some ⟨v.heap.size+1,0,none⟩,0,0,none,0,0⟩ w1 hlies;rw[show encP (.mk false [] [])=([128],0)from ZN]at hen;have HEN:=Xba hen;have HB1:=Xba (below_go HB.out hb1);have HR1:=Xba (Below.row hb1 HROW.out);clear hr1 hb1 hlies hen HROW HB;go_wp2_with fail;refine HEN.out.mono ?_;rintro e w2⟨⟨a,m,c,rfl,hag,-⟩,hb2⟩;have hm:m=1:=hag.l.symm;subst hm;have HO2:=Xba (HOF.out w2 a c hag);have HB2:=Xba (below_go HB1.out hb2);have HR2:=Xba (Below.row hb2 HR1.out);clear hag hb2;go_wp2_with fail;refine HO2.out.mono ?_;rintro e w3⟨rfl,hb3⟩;have HR3:=Xba (Below.row hb3 HR2.out);have HB3:=Xba (below_go HB2.out hb3);clear hb3;go_wp2_with (first|refine A4 rfl 49 _ _ rfl _ (B8 ds) rfl rfl 49 _ HR3.out (GD HDL.out) (Ip HDL.out) (B8_one _) ?_);refine Ap (Ba results38 _ _ w.heap.size 49 (B8 ds) (0,0) _ rfl (AA _ _ _ _ _ _ HR3.out) underlying49 rfl (GD HDL.out)) rfl ?_;exact⟨rfl,Below.setRow HB3.out (Aa _) _⟩
end Go.Proofs.YtalhnnjpjaeakaaGreat
namespace Go.Proofs.YtalhnnjpjaeakaaGreat
open Tr
open Di (dref)
variable {K K1 : Nat → Prop} {w : World} {g n c : Nat} {a : Option Addr} {k : List Int}
theorem Iq{fn:Func}{p:Tmp}{f:Nat->Value}(h:fn.results=#[.cell p 49])(w:World)(g:Nat)(ds:List Int)(hl:ds.length=32)(hp:f p= .pointer (some ⟨g,0,none⟩))(hg:Rw g w (B8 ds) 49):(resF f fn.results).run prog w= .ok (.agg (B8 ds)) w:=by
 have:=CR (P:=prog) w g 49 49 _ _ _ hg underlying49 rfl (GD hl);unfold resF;rw[h];simp[hp,this,asAddr]
theorem QJ{ρ:Operand->Value}{w:World}{x y:Operand}{o:Oper}{ds:List Int}(ho:o.op= .binOp .eql 49 x y 49)(hx:ρ x= .agg (B8 ds))(hy:ρ y= .agg (B8 ds))(hl:ds.length=32):(execOp ρ o).run prog w= .ok (.value (.bool true)) w:=by
 have e:=XaG ds ds hl hl w;simp at e;unfold execOp;rw[ho];simp only[hx,hy];go_simp
theorem OA{w1 w2:World}{g:Nat}{x:Int}(hx:0<=x/\x<256)(hn:New w1 w2 g #[.int .u8 x] 5){K:Nat->Prop}(hK:∀b,w1.heap.size<=b->K b):∃w3,(∀(ρ:Operand->Value)(o:Oper)(y:Operand),o.op= .convert 27 27 y->ρ y= .slice (some ⟨g,0,none⟩) 1 1->(execOp ρ o).run prog w2= .ok (.value (.slice (some ⟨g,0,none⟩) 1 1)) w3)/\Below w1.heap.size w1 w3/\Sk K w3 (some ⟨g,0,none⟩) 1 1 [x]:=by
 obtain⟨rfl,rfl⟩:=hn;refine⟨w1.alloc (.cells #[.int .u8 x] 5 (1,2)),?_,(Ak _ _).alloc (Aa _) _,?_⟩
 ·intro ρ o y ho hy;have:=Lib.run_convert_bytes_const (P:=prog) w1 27 5 #[.int .u8 x] 1 1 underlying27 underlying5;unfold execOp;simp only[ho,hy,Bm,this,AH,Bp];rfl
 ·refine⟨⟨.inr ⟨w1.heap.size,0,rfl,rfl,by omega,by omega,by unfold maxLen;omega,λj hj=>?_⟩,(λe=>by cases e),rfl,λy hy=>by rw[DA.1 hy];exact hx⟩,λy hy _=>?_⟩
  ·have:j=0:=(by simpa using hj);subst this;rw[Ae _ _ _ _ _ _ (Ai w1 _)];rfl
  ·cases hy;exact hK _ (Aa _)
theorem Tri.lt{t:Tr}(h:Tri K w g t):g<w.heap.size:=by
 obtain⟨⟨v,h1,_⟩,_⟩:=h;exact lt_of_get h1
theorem Rw.touch{g':Nat}{w':World}{cells:Array Value}{T:TypeId}(h:Rw g w cells T)(ht:Touch g' w w')(hne:g≠g'):Rw g w' cells T:=(ht.block g (lt_of_get h) hne).trans h
theorem Yp{t:Tr}(h:Tri K w g t)(hk:Sk K1 w a n c k)(hn:n<=32)(hK:∀b,w.heap.size<=b->K b):
 Calls prog 22 #[.pointer (some ⟨g,0,none⟩), .slice a n c] w λe w'=>∃u,e= .returned u/\(∃a2 n2 c2 b,u= .tuple #[.slice a2 n2 c2, .bool b, .int .i64 0]/\b=decide (Tr.get t (Ni.nib k)≠[])/\Sk (λb=>w.heap.size<=b) w' a2 n2 c2 (Tr.get t (Ni.nib k)))/\Bl w w':=by
 obtain⟨⟨v,h1,h2⟩,h3⟩:=h;exact Z5 h1 h2 h3 hk hn hK
def putT(t:Tr)(k x:List Int):Tr:=if k.length<=32/\0<x.length/\x.length<=256 then put t (Ni.nib k) x else t
def putE(k x:List Int):Int:=if k.length<=32 then(if 0<x.length/\x.length<=256 then 0 else 71)else 70
def delT(t:Tr)(k:List Int):Tr:=if k.length<=32/\Tr.get t (Ni.nib k)≠[]then del t (Ni.nib k)else t
theorem LR{K0:Nat->Prop}{t:Tr}(h:Tri K w g t)(hk:Sk K1 w a n c k){ax:Option Addr}{nx cx:Nat}{x:List Int}(hx:Sk K0 w ax nx cx x)(hK:∀b,w.heap.size<=b->K b):
 Calls prog 11 #[.pointer (some ⟨g,0,none⟩), .slice a n c, .slice ax nx cx] w λe w'=>∃u,e= .returned u/\u= .int .i64 (putE k x)/\Tri K w' g (putT t k x)/\Touch g w w':=by
 have lk:=hk.len;have lx:=hx.len;unfold putE putT;rw[lk,lx];by_cases hn:n<=32
 ·by_cases h0:0<nx
  ·by_cases h2:nx<=256
   ·rw[Af hn,Af ⟨h0,h2⟩,Af ⟨hn,h0,h2⟩];obtain⟨⟨v,h1,h2'⟩,h3⟩:=h;exact XM h1 h2' h3 hk hn hx h2 h0 hK
   ·rw[Af hn,Ad (λq=>h2 q.2),Ad (λq=>h2 q.2.2)];exact(XO hk hx hn (by omega)).mono (λe w'⟨u,e1,e2,e3⟩=>⟨u,e1,e2,h.go e3,Touch.of_below e3⟩)
  ·rw[Af hn,Ad (λq=>h0 q.1),Ad (λq=>h0 q.2.1)];exact(XN hk hx hn (by omega)).mono (λe w'⟨u,e1,e2,e3⟩=>⟨u,e1,e2,h.go e3,Touch.of_below e3⟩)
 ·rw[Ad hn,Ad (λq=>hn q.1)];exact(Z6 hk hx (by omega)).mono (λe w'⟨u,e1,e2,e3⟩=>⟨u,e1,e2,h.go e3,Touch.of_below e3⟩)
theorem Wm{t:Tr}(h:Tri K w g t)(hk:Sk K1 w a n c k)(hK:∀b,w.heap.size<=b->K b):
 Calls prog 12 #[.pointer (some ⟨g,0,none⟩), .slice a n c] w λe w'=>∃u,e= .returned u/\(∃b z,u= .tuple #[.bool b, .int .i64 z])/\Tri K w' g (delT t k)/\Touch g w w':=by
 have lk:=hk.len;unfold delT;rw[lk];by_cases hn:n<=32
 ·by_cases hg:Tr.get t (Ni.nib k)=[]
  ·rw[Ad (λq=>q.2 hg)];have h':=h;obtain⟨⟨v,h1,h2⟩,h3⟩:=h';exact(Kq h1 h2 h3 hk hn hK hg).mono (λe w'⟨u,e1,e2,e3⟩=>⟨u,e1,⟨_,_,e2⟩,h.go e3,Touch.of_below e3⟩)
  ·rw[Af ⟨hn,hg⟩];obtain⟨⟨v,h1,h2⟩,h3⟩:=h;exact(GP h1 h2 h3 hk hn hK hg).mono (λe w'⟨u,e1,e2,e3,e4⟩=>⟨u,e1,⟨_,_,e2⟩,e3,e4⟩)
 ·rw[Ad (λq=>hn q.1)];exact(Pa hk (by omega)).mono (λe w'⟨u,e1,e2,e3⟩=>⟨u,e1,⟨_,_,e2⟩,h.go e3,Touch.of_below e3⟩)
theorem SI(hr:Rw g w #[.nilIface] 67):
 Calls prog 18 #[.pointer (some ⟨g,0,none⟩)] w λe w'=>∃u,e= .returned u/\(λu w'=>u= .agg (B8 (dref [128]))/\Bl w w') u w':=by
 have hB:=Bl.refl w;have hdl:=dref_len [128];obtain⟨ds,hds⟩:∃ds,dref [128]=ds:=⟨_,rfl⟩;rw[hds]at hdl⊢;refine Dp func18 16<|Hn 2 (B8 z32) 49 ?_;intro w1 g2 hn3 hr4;have hgd:=hn3.hg;replace hr:=hr.go hn3.below;refine Hl 8 hr 0 65 (.nilIface)<|Hc 6 (R:=λu w'=>u= .agg (B8 ds)/\Bl (w1) w') ((ML (w1)).mono (λe w' h=>⟨_,by rw[h.1,hds],rfl,h.2⟩)) ?_;rintro _ u5⟨rfl,hb6⟩;replace hr4:=hr4.go hb6;refine Hy 0 (og f18 2 1) g2 (B8 ds) (λ_=>CH 49 _ _ _ _ _ _ rfl (by kernel_rfl) (by kernel_rfl) hr4 (GD hdl) (Ip hdl) (B8_one _)) ?_;intro uE hpE;replace hB:=(hB.go hn3.below).go hb6;replace hB:Bl w uE:=hpE.below hB (by omega) hB.size;have hrE:Rw g2 uE (B8 ds) 49:=hpE.row hr4;exact UX 4 (.agg (B8 ds)) (λ_=>Iq results18 _ g2 ds hdl (by kernel_rfl) hrE) ⟨_,rfl,rfl,hB⟩
theorem ZO(h:Tri K w g (put no (Ni.nib [97]) [1]))(hk:Sk K w a n c [97])(hK:∀b,w.heap.size<=b->K b):
 Calls prog 12 #[.pointer (some ⟨g,0,none⟩), .slice a n c] w λe w'=>∃u,e= .returned u/\u= .tuple #[.bool true, .int .i64 0]/\Tri K w' g no/\Touch g w w':=by
 obtain⟨⟨v,h1,h2⟩,h3⟩:=h;have hn:n=1:=hk.len.symm;exact GP h1 h2 h3 hk (by omega) hK (by decide+kernel)
theorem Ua(hK:∀b,w.heap.size<=b->K b):
 Calls prog 8 #[] w λe w'=>∃u,e= .returned u/\(λu w'=>(∃g,u= .tuple #[.pointer (some ⟨g,0,none⟩), .bool true]/\w.heap.size<=g/\Tri K w' g no)/\Bl w w') u w':=by
 have hB:=Bl.refl w;have hdl:=dref_len [128];obtain⟨ds,hds⟩:∃ds,dref [128]=ds:=⟨_,rfl⟩;rw[hds]at hdl;refine Dp func8 60<|Hc 8 (R:=λu w'=>(∃g,u= .pointer (some ⟨g,0,none⟩)/\(w).heap.size<=g/\Tri K w' g no)/\Bl (w) w') (Si (K:=K)) ?_;rintro _ u1⟨⟨g1,rfl,hg1,hT1⟩,hb2⟩;have hsz1:=hB.size;refine Ko 16 #[.int .u8 97] 5 1 ?_;intro w3 ga4 hn5 _;replace hB:=hB.go hb2;have hszhn5:=hB.size;obtain⟨w6,hr7,hb8,hs9⟩:=OA (x:=97) (by omega) hn5 (K:=K) (λb hb=>hK b (Al hszhn5 hb));refine Hx 0 (og f8 4 2) (.slice (some ⟨ga4,0,none⟩) 1 1) (λ_=>hr7 _ _ _ rfl (by kernel_rfl))<|Ko 0 #[.int .u8 1] 5 1 ?_;intro w10 g11 hn12 _;replace hB:=hB.go hb8;have hzhn12:=hB.size;have hs13:Sk K w10 (some ⟨g11,0,none⟩) 1 1 [1]:=Oa (by omega) hn12 (λb hb=>hK b (Al hzhn12 hb));replace hT1:=(hT1.go hb8).go hn12.below;replace hB:=hB.go hn12.below;replace hs9:=hs9.go hn12.below;refine Hc 0 (R:=λu w'=>u= .int .i64 (putE [97] [1])/\Tri K w' g1 (putT no [97] [1])/\Touch g1 (w10) w') ((LR hT1 hs9 hs13 (λb hb=>hK b (Al hB.size hb)))) ?_;rintro _ u14⟨rfl,hTn,hto1⟩;replace hB:Bl w u14:=hto1.below hB (by omega) hB.size;replace hs9:=hs9.touch hto1 hT1;replace hs13:=hs13.touch hto1 hT1;replace hT1:Tri K u14 g1 (put no (Ni.nib [97]) [1]):=hTn;refine Ko 6 #[.int .u8 97] 5 1 ?_;intro w15 ga16 hn17 _;have hszhn17:=hB.size;obtain⟨w18,hr19,hb20,hs21⟩:=OA (x:=97) (by omega) hn17 (K:=K) (λb hb=>hK b (Al hszhn17 hb));refine Hx 0 (og f8 5 2) (.slice (some ⟨ga16,0,none⟩) 1 1) (λ_=>hr19 _ _ _ rfl (by kernel_rfl)) ?_;replace hB:=hB.go hb20;replace hT1:=hT1.go hb20;refine Hc 0 (R:=λu w'=>(∃a2 n2 c2 b,u= .tuple #[.slice a2 n2 c2, .bool b, .int .i64 0]/\b=decide (Tr.get (put no (Ni.nib [97]) [1]) (Ni.nib [97])≠[])/\Sk (λb=>(w18).heap.size<=b) w' a2 n2 c2 (Tr.get (put no (Ni.nib [97]) [1]) (Ni.nib [97])))/\Bl (w18) w') ((Yp hT1 hs21 (by omega) (λb hb=>hK b (Al hB.size hb)))) ?_;rintro _ u22⟨⟨a2,n2,c2,b2,rfl,eb2,hs2⟩,hb23⟩;obtain rfl:b2=true:=by rw[eb2];decide+kernel
 replace hs2:Sk (λb=>(w18).heap.size<=b) u22 a2 n2 c2 [1]:=hs2;refine Ko 12 #[.int .u8 97] 5 1 ?_;intro w24 ga25 hn26 _;replace hB:=hB.go hb23;have hszhn26:=hB.size;obtain⟨w27,hr28,hb29,hs30⟩:=OA (x:=97) (by omega) hn26 (K:=K) (λb hb=>hK b (Al hszhn26 hb));refine Hx 0 (og f8 6 2) (.slice (some ⟨ga25,0,none⟩) 1 1) (λ_=>hr28 _ _ _ rfl (by kernel_rfl)) ?_;replace hT1:=(hT1.go hb23).go hb29;replace hB:=hB.go hb29;refine Hc 0 (R:=λu w'=>u= .tuple #[.bool true, .int .i64 0]/\Tri K w' g1 no/\Touch g1 (w27) w') ((ZO hT1 hs30 (λb hb=>hK b (Al hB.size hb)))) ?_;rintro _ u31⟨rfl,hTn,hto2⟩;replace hB:Bl w u31:=hto2.below hB (by omega) hB.size;replace hs9:=((hs9.go hb20).go hb23).go hb29;replace hs9:=hs9.touch hto2 hT1;replace hs13:=((hs13.go hb20).go hb23).go hb29;replace hs13:=hs13.touch hto2 hT1;replace hs21:=(hs21.go hb23).go hb29;replace hs21:=hs21.touch hto2 hT1;replace hs2:=hs2.go hb29;replace hs2:=hs2.touch hto2 hT1;replace hs30:=hs30.touch hto2 hT1;replace hT1:=hTn;have hS:Sk (λ_=>True) u31 a2 n2 c2 [1]:=hs2.mono (λ_ _=>trivial);refine GK 8 (λv=>Sk (λ_=>True) v a2 n2 c2 [1]) (hS.drew) ?_;replace hS:=hS.drew;refine Dy [1,2] [0] hS ?_;refine Yc 0 (R:=λu w'=>(∃g,u= .pointer (some ⟨g,0,none⟩)/\(u31.drew).heap.size<=g/\Tri K w' g no)/\Bl (u31.drew) w') (Si (K:=K)) (λu w' h=>hS.go h.2) ?_ yn;rintro _ u32⟨⟨g2,rfl,hg2,hT2⟩,hb33⟩;replace hB:=hB.drew;have hsz2:=hB.size;replace hS:=hS.go hb33;refine Dx [3,4,5,6,7,8,9,10,11] 12 (og f8 7 12) (.string (strOfNums [1])) (λv hv _=>hv.run_str _ _ _ rfl (by kernel_rfl)) hS<|Dx [] 13 (og f8 7 13) (.bool true) (λv hv _=>Gf 9 _ _ _ (strOfNums [1]) ⟨#[1]⟩ rfl (by kernel_rfl) (by kernel_rfl) (by decide+kernel)) hS<|Dy [14,15,16,17,18,19,20,21,22,23] [24] hS ?_;replace hT1:=hT1.drew.go hb33;refine Yc 24 (R:=λu w'=>u= .agg (B8 ds)/\Bl (u32) w') ((by obtain⟨⟨vT,hrT,htT⟩,_⟩:=hT1;rw[show vT= .nilIface from htT]at hrT;rw[<-hds];exact SI hrT)) (λu w' h=>hS.go h.2) ?_ yn;rintro _ u34⟨rfl,hb35⟩;refine Dz [25] ?_;replace hS:=hS.go hb35;refine Yc 25 (R:=λu w'=>u= .agg (B8 ds)/\Bl (u34) w') (((GX (u34)).mono (λe w' h=>⟨_,by rw[h.1,hds],rfl,h.2⟩))) (λu w' h=>hS.go h.2) ?_ yn;rintro _ u36⟨rfl,hb37⟩;replace hS:=hS.go hb37;refine Dx [] 26 (og f8 7 26) (.bool true) (λv hv _=>QJ rfl (by kernel_rfl) (by kernel_rfl) hdl) hS<|Dq [27,28,29] hS ?_;replace hB:=((hB.go hb33).go hb35).go hb37;replace hT2:=(hT2.go hb35).go hb37;exact Hr 2 (.tuple #[.pointer (some ⟨g2,0,none⟩), .bool true]) ⟨_,rfl,⟨g2,rfl,Al hsz2 hg2,hT2⟩,hB⟩
end Go.Proofs.YtalhnnjpjaeakaaGreat
